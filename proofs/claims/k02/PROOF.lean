import PyProof.Rows.All
import Wide.All
import OpenK.AllK
import Wide.FinOn
import PyProof.EqAt
import PyProof.EqKinds
import PyProof.TupleCall
import KE.KExcIs
import HandS.ForMost
import HandS.Exc
import HandS.ExcOwn
import HandS.WordsExc
import HandS.ExcInit
import HandS.ExcValue
import HandS.Defaults
import HandS.IsInst
import HandS.Wide
import HandS.Walk
import HandS.Style
import HandS.MakeKw
import HandS.Codes
import HandS.Text
import HandS.Steps
import KE.GoesMore
import KE.GoesEnum
import PyProof.EnumMake
import PyProof.ListStr
import HandS.CallSlots
import HandS.StrMore
import PyProof.Rows.StrFirst
import KE.KStateDown
import HandS.Base
import HandS.Call
import HandS.Words
import HandS.Head0
import HandS.Head1
import HandS.Head2
import PySem.Challenge.RW_leanscript_k02_refused_words
set_option Elab.async false
set_option linter.all false
set_option maxRecDepth 100000
set_option maxHeartbeats 8000000
set_option maxHeartbeats 0
namespace Hd
open PySem PySem.W PyProof.Rows
/-- the looks at the law's text: first of all, while there is room -/
theorem law_of (h : (PySem.Challenge.rw_leanscript_k02_refused_words).row.wellSaid = true → (PySem.Challenge.rw_leanscript_k02_refused_words).row.Holds) : PySem.Challenge.rw_leanscript_k02_refused_words.Holds := by
  w_on; o_law
  exact h (by assumption)
end Hd

namespace XR
open PySem PySem.Spec PyProof.Rows L2

/-- an exception's object, by its class and its dict -/
def ExAt (H : Hp) (a C : Addr) (d : Option Addr) : Prop := ∃ phi : Heap → Prop, H a = some (.ext phi) ∧
  ∀ h, phi h → ∃ (oe : Obj) (vs : Array Value), h.get? a = some oe ∧ oe.cls = .ref C ∧ oe.dict = d ∧ oe.data = .fields vs
/-- its own dict -/
def DcAt (H : Hp) (dd : Addr) (fs : List (Str × V)) : Prop := H dd = some (.xd fs) ∨ H dd = some (exd dd fs)
def ExIn (H : Hp) (a C : Addr) : Prop := ExAt H a C none ∨ ∃ dd fs, ExAt H a C (some dd) ∧ DcAt H dd fs
theorem exAt_exo {H : Hp} {a C : Addr} {d : Option Addr} (h : H a = some (exo a C d)) : ExAt H a C d := ⟨_, h, fun _ ⟨_, e⟩ => ⟨_, _, e, rfl, rfl, rfl⟩⟩
theorem exAt_ExO {H : Hp} {a C : Addr} (h : H a = some (ExO (.ref C) a)) : ExAt H a C none := ⟨_, h, fun _ ⟨_, _, e, z, d, _⟩ => ⟨_, _, e, z.1, z.2, d⟩⟩
theorem ExAt.same {H H' : Hp} {a C : Addr} {d : Option Addr} (h : ExAt H a C d) (k : Same H H') : ExAt H' a C d := let ⟨p, e, q⟩ := h; ⟨p, k _ _ e, q⟩
theorem DcAt.same {H H' : Hp} {dd : Addr} {fs : List (Str × V)} (h : DcAt H dd fs) (k : Same H H') : DcAt H' dd fs := h.elim (fun e => .inl (k _ _ e)) fun e => .inr (k _ _ e)
theorem ExIn.same {H H' : Hp} {a C : Addr} (h : ExIn H a C) (k : Same H H') : ExIn H' a C := h.elim (fun e => .inl (e.same k)) fun ⟨dd, fs, e, f⟩ => .inr ⟨dd, fs, e.same k, f.same k⟩

section
variable {X : Cx} {pins : List (Addr × Obj)} {σ : L2.St} {H : Hp} {s : Shared}
theorem dc_ns {dd : Addr} {fs : List (Str × V)} (I : Inv X pins σ H s) (h : DcAt H dd fs) : ∃ mA, s.heap.Ns1 dd mA ∧ ∀ f, RelO (fs.lookup f) (mA f) := by
  rcases h with h | h
  · exact I.hok dd _ h
  · exact exd_at I.hok h
theorem ex_obj {a C : Addr} {d : Option Addr} (I : Inv X pins σ H s) (h : ExAt H a C d) : ∃ (oe : Obj) (vs : Array Value), s.heap.get? a = some oe ∧ oe.cls = .ref C ∧ oe.dict = d ∧ oe.data = .fields vs := by
  obtain ⟨p, e, q⟩ := h
  have x : ObjOk X.prog X.w H s.heap a (.ext p) := I.hok a _ e
  exact q _ x.1
theorem inst_of {a C : Addr} (I : Inv X pins σ H s) (h : ExIn H a C) : ∃ (oe : Obj) (od : Option Obj), PySem.W.InstAt s.heap a oe C od := by
  rcases h with h | ⟨dd, fs, h, k⟩
  · obtain ⟨oe, vs, e, c, d, t⟩ := ex_obj I h
    exact ⟨oe, none, ⟨e, c, by unfold PySem.W.notCls; rw [t] <;> rfl, by rw [d] <;> trivial⟩⟩
  · obtain ⟨oe, vs, e, c, d, t⟩ := ex_obj I h
    obtain ⟨mA, hns, hr⟩ := dc_ns I k
    obtain ⟨od, ho, hl⟩ := lookIn_ns hns
    exact ⟨oe, some od, ⟨e, c, by unfold PySem.W.notCls; rw [t] <;> rfl, by rw [d]; exact ho⟩⟩
/-- what the class must say, so that isinstance asks its instances rightly -/
structure ExcK (K : PySem.W.Frag) (C : Addr) : Prop where
  hc : (PySem.W.clsIn K C).isSome = true
  hg : PySem.W.findIn K (.ref C) "__getattribute__" = some (some (.builtin "BaseException.__getattribute__"))
  hk : PySem.W.findIn K (.ref C) "__getattr__" = some none
  hs : PySem.W.subIn K (.ref C) (.type "BaseException") = some true
  hd : PySem.W.hasDictIn K C = true
  ha : PySem.W.findIn K (.ref C) "__class__" = some (some (.builtin "object.__class__"))
  hn : PySem.W.specialIn K (.builtin "object.__class__") "__get__" = some (some (.builtin "getset_descriptor.__get__"))
  ht : PySem.W.takesIn K (.builtin "object.__class__") = some true
  hm : PySem.W.mroIn K C (.type "object") = some true
/-- isinstance(x, T), x an exception of the class at C -/
def rIsX (K : PySem.W.Frag) : List V → Hp → VK → Prop := fun xs H Q => ∃ (a C : Addr) (c : V) (u : Value) (b : Bool), xs = [.ref a, c] ∧ ClsV c u ∧ ExIn H a C ∧ ExcK K C ∧ PySem.W.kitOne K (.ref C) u = some b ∧ Q (.bl b) H
theorem call_isX : CallR X (.builtin "isinstance") (rIsX X.K) := by
  intro pins s σ H xs us Q I r h
  obtain ⟨a, C, c, u, b, rfl, k, ex, T, e, q⟩ := h
  obtain ⟨u1, u2, rfl, r1, r2⟩ := vals2 r
  have e2 := k.eq r2
  subst e2
  cases (show u1 = Value.ref a from r1)
  obtain ⟨oe, od, J⟩ := inst_of I ex
  exact PySem.W.kia_one (PySem.W.kitx_exc T.hc T.hg T.hk T.hs T.ha T.hn T.ht T.hm) I.kIn J e (fun z => nomatch z) fun tk => ⟨.bl b, H, I.tok tk, rfl, q⟩
/-- x.f, x an exception that has its dict -/
def tXfl (K : PySem.W.Frag) (f : Str) (te : TE) : TE := fun σ H Q => te σ H fun x H1 => ∃ (a C dd : Addr) (fs : List (Str × V)) (v : V), x = .ref a ∧ ExAt H1 a C (some dd) ∧ DcAt H1 dd fs ∧ ExcK K C ∧ PySem.W.findIn K (.ref C) f = some none ∧ fs.lookup f = some v ∧ Q v H1
theorem pe_xfl {e : Expr} {te : TE} {pos : Pos} {f : Str} (he : PE X e te) (hb : attributeBase e f X.env (eval e X.env) = eval e X.env := by rfl) : PE X (.Attribute e f pos) (tXfl X.K f te) := by
  refine ⟨fun pins s σ H Q I h => ?_⟩
  refine attr_of hb (thn (he.run pins s σ H _ I h) fun u s1 hh => ?_)
  obtain ⟨x, H1, I1, rx, a, C, dd, fs, v, ex, ea, ed, T, hno, l, q⟩ := hh
  subst ex
  obtain rfl : u = Value.ref a := rx
  obtain ⟨oe, vs, e1, c1, d1, t1⟩ := ex_obj I1 ea
  obtain ⟨mA, hns, hr⟩ := dc_ns I1 ed
  obtain ⟨od, ho, hl⟩ := lookIn_ns hns
  obtain ⟨u, hu, ru⟩ := RelO.some_of (v := v) (o := mA f) (by rw [← l]; exact hr f)
  have J : PySem.W.InstAt s1.heap a oe C (some od) := ⟨e1, c1, by unfold PySem.W.notCls; rw [t1] <;> rfl, by rw [d1]; exact ho⟩
  exact HandSPX.exc_get I1.kIn J T.hg T.hk T.hs (PySem.W.findObj_own T.hd hno rfl (by rw [hl, hu])) (handed_of ru) ⟨v, H1, I1.tok _, ru, q⟩
end

/-! ### C(e, ..) as a value, C's own __init__ keeping sp -/
def tMkX (C : Addr) (sp : Sp) (dvs : List V) (ta : TA) : TE := fun σ H Q => ta σ H fun vs H1 => vs.length ≤ 1000 ∧ ∀ a, H1 a = none → sp (.ref a :: (vs ++ dvs)) (upd H1 a (exo a C none)) (fun v H2 => v = .non ∧ Q (.ref a) H2) (fun _ _ _ => False)
section
variable {X : Cx} {CX : CXT} {k : Nat} {C fI : Addr} {fd : FuncData} {ps : List Str} {sp : Sp} {ds : List Value} {dvs : List V} {x : Str} {p pos : Pos} {e : Expr} {es : List Expr} {ta : TA}
theorem run_mkX {pins : List (Addr × Obj)} {σ : L2.St} {H : Hp} {s : Shared} {Q : VK} {us : List Value} {vs : List V} (T : OexC X.K C) (iC : PySem.W.findIn X.K (.ref C) "__init__" = some (some (.ref fI))) (tI : PySem.W.typeIn X.K (.ref fI) = some (.type "function"))
    (F1 : FnOk X.prog X.w X.K X.mg X.base CX k fI fd ps sp) (hr : Room (k + 1) X.A) (hb : Binds X.K fd ps ds) (hd : Vals dvs ds) (hx : Passes CX X (fun _ _ _ => False)) (I1 : Inv X pins σ H s) (r1 : Vals vs us) (hz : vs.length ≤ 1000)
    (q1 : ∀ a, H a = none → sp (.ref a :: (vs ++ dvs)) (upd H a (exo a C none)) (fun v H2 => v = .non ∧ Q (.ref a) H2) (fun _ _ _ => False)) :
    wpAny (model X.prog X.w) X.A (call (.ref C) us) (EP X pins σ Q) X.xe s := by
  obtain ⟨nm, q, N, bs, bm, sn, sub, ab, col, dd, k0, k1, k2, k3, k5, hC, hbm⟩ := T.cls
  obtain ⟨hp, g, dr, tk, os⟩ := s
  have hsz : hp.objs.size ≤ hp.objs.size + 1 := Nat.le_succ _
  have hn : H (hp.objs.size + 1) = none := I1.hok.fresh hsz
  have hq := q1 (hp.objs.size + 1) hn
  have kk : ∀ b o, hp.get? b = some o → ((hp.push (PySem.W.kdv_tup us)).push (PySem.HandSPX.excO C hp.objs.size)).get? b = some o := fun b o e => Heap.get?_push_of_some _ (Heap.get?_push_of_some _ e)
  have hget : ((hp.push (PySem.W.kdv_tup us)).push (PySem.HandSPX.excO C hp.objs.size)).get? (hp.objs.size + 1) = some (PySem.HandSPX.excO C hp.objs.size) := by heap_get
  have I2 : Inv X pins σ (upd H (hp.objs.size + 1) (exo (hp.objs.size + 1) C none)) ⟨(hp.push (PySem.W.kdv_tup us)).push (PySem.HandSPX.excO C hp.objs.size), g, dr, tk, os⟩ :=
    I1.laid (t' := tk) (a := hp.objs.size + 1) (o := exo (hp.objs.size + 1) C none) (h' := (hp.push (PySem.W.kdv_tup us)).push (PySem.HandSPX.excO C hp.objs.size)) kk hsz (exo_ok hget)
  have r2 : Vals (V.ref (hp.objs.size + 1) :: (vs ++ dvs)) (Value.ref (hp.objs.size + 1) :: (us ++ ds)) := .cons rfl (r1.append hd)
  have hl : (Value.ref (hp.objs.size + 1) :: us ++ ds).length = ps.length := by
    have e := r2.length
    rw [F1.len _ _ _ _ hq] at e
    exact e.symm
  have hus : us.length ≤ sizeLine := by
    rw [← Paired.length r1, sizeLine_eq]
    omega
  refine wpAny_call (PySem.HandSPX.call_own F.excBase_ValueError (fun Y => PySem.HandSPX.refsVE_contains Y bm hbm) (I1.kIn _ _ hC) (PySem.W.looks_findIn I1.kIn iC) (fun self => PySem.W.bind_fn I1.kIn self tI) hus
    (codeAny_mono (F1.run _ X.stack _ _ ⟨Value.ref (hp.objs.size + 1) :: us, []⟩ (Value.ref (hp.objs.size + 1) :: (us ++ ds)) _ _ (fun _ _ _ => False) (hr.make C us []) (I2.env0.make C us []) (hb _ (Value.ref (hp.objs.size + 1) :: us) I2.kIn hl) r2 hq) fun r s' hq' => ?_))
  cases r with
  | error er => exact hx pins σ _ _ er s' I2 hq'
  | ok fl =>
    cases fl with
    | ret u =>
      obtain ⟨v, H', I3, rv, ev, q3⟩ := I2.after hq'
      subst ev
      exact ⟨rv, ⟨V.ref (hp.objs.size + 1), H', I3, rfl, q3⟩⟩
    | next => exact False.elim hq'
    | brk => exact False.elim hq'
    | cont => exact False.elim hq'
theorem pe_mkX (T : OexC X.K C) (iC : PySem.W.findIn X.K (.ref C) "__init__" = some (some (.ref fI))) (tI : PySem.W.typeIn X.K (.ref fI) = some (.type "function"))
    (F1 : FnOk X.prog X.w X.K X.mg X.base CX k fI fd ps sp) (hr : Room (k + 1) X.A) (hb : Binds X.K fd ps ds) (hd : Vals dvs ds) (hx : Passes CX X (fun _ _ _ => False)) (hg : Gl X x) (hm : X.mg x = some (.ref C)) (ha : PA X (e :: es) ta)
    (hdb : (x == ("__debug__" : Str)) = false := by decide) (he : starEach (e :: es) X.env = (false, eval e X.env) :: starEach es X.env := by rfl) (hpl : (backTo pos (starEach es X.env)).any (·.1) = false := by rfl) :
    PE X (.Call (.Name x p) (e :: es) [] pos) (tMkX C sp dvs ta) := by
  refine ⟨fun pins s σ H Q I h => ?_⟩
  refine wpAny_Call_Name_kw (ld_glob I hg hm ?_ hdb)
  refine PySem.W.callWith_K (h₀ := X.base) I.ok.mod.kin T.kC (thn (ha.run pos pins s σ H _ I h) fun us s1 ⟨vs, H1, I1, r1, hz, q1⟩ => ⟨I1.kIn, ?_⟩) he hpl
  exact run_mkX T iC tI F1 hr hb hd hx I1 r1 hz q1
theorem pe_mkX0 (T : OexC X.K C) (iC : PySem.W.findIn X.K (.ref C) "__init__" = some (some (.ref fI))) (tI : PySem.W.typeIn X.K (.ref fI) = some (.type "function"))
    (F1 : FnOk X.prog X.w X.K X.mg X.base CX k fI fd ps sp) (hr : Room (k + 1) X.A) (hb : Binds X.K fd ps ds) (hd : Vals dvs ds) (hx : Passes CX X (fun _ _ _ => False)) (hg : Gl X x) (hm : X.mg x = some (.ref C))
    (hdb : (x == ("__debug__" : Str)) = false := by decide) : PE X (.Call (.Name x p) [] [] pos) (tMkX C sp dvs tNil) := by
  refine ⟨fun pins s σ H Q I h => ?_⟩
  refine wpAny_Call_Name_kw (ld_glob I hg hm ?_ hdb)
  obtain ⟨hz, q1⟩ := h
  exact PySem.W.callWith_K0 I.kIn T.kC (run_mkX (us := []) T iC tI F1 hr hb hd hx I .nil hz q1)
end
/-! ### a class without own __init__, made of nothing -/
section
variable {X : Cx}
theorem pe_exc0 {C : Addr} {bmB : List Value} {B newId initId : String} {x : Str} {p pos : Pos} (F : ExcBaseFacts B newId initId bmB) (q : PySem.W.excIn X.K C bmB newId = true) (gC : X.mg x = some (.ref C)) (kC : PySem.W.keepIn X.K (.ref C) = true) (hg : Gl X x)
    (hdb : (x == ("__debug__" : Str)) = false := by decide) :
    PE X (.Call (.Name x p) [] [] pos) (fun σ H Q => ∀ a, H a = none → Q (.ref a) (upd H a (ExO (.ref C) a))) := by
  refine ⟨fun pins s σ H Q I h => ?_⟩
  refine wpAny_Call_Name_kw (ld_glob I hg gC ?_ hdb)
  refine PySem.W.callWith_K0 I.kIn kC ?_
  obtain ⟨bm, N, nm, qn, bs, hdct, sn, sub, ab, col, dd, k0, k1, k2, k3, k5, mN, hC, hN, hni, T⟩ := exc_obj I.kIn q
  refine wpAny_call_exc_subT F T hC hN hni (fun h' a hm => ?_) (by show 0 ≤ sizeLine; omega)
  have hn : H a = none := I.hok.gone hm.new
  obtain ⟨t, ht, _, _⟩ := hm.there
  exact ⟨.ref a, upd H a (ExO (.ref C) a), I.laidN hm.keeps hm.new hn (exO_ok ht ⟨rfl, rfl⟩ rfl rfl rfl (show 4 < 6 by decide)), rfl, h a hn⟩
end
end XR

namespace XRK
open PySem PySem.Spec PySem.W PySem.Calls PyProof.Rows PySem.HandSPX
open Builtin Builtin.ObjectAttr
section
variable {M : Model} {A : Around} {E : Value → Shared → Prop} {h : Heap} {g : Array GenState} {d : Drawn} {t : Nat} {os : OsState}
variable {nm q : Str} {C N : Addr} {bs bm bmB : List Value} {hdct : Bool} {sn : List Str} {sub : List Value} {ab : Bool} {col : Option Bool} {dd : Option Addr} {k0 k1 k2 k3 k5 : Option Value} {B newId initId : String}
theorem check_new_ownK (F : ExcBaseFacts B newId initId bmB) (hT : ∀ X : String, bm.contains (.type X) = bmB.contains (.type X)) {rest : List Value} {kw : List (Str × Value)} {Q : Unit → Shared → Prop}
    (hC : h.get? C = some (excClassObj nm q C N bs bm hdct sn sub ab col dd k0 k1 k2 k3 k5 newId)) (hq : Q () ⟨h, g, d, t, os⟩) : wpAny M A (checkBuiltinCall newId ⟨.ref C :: rest, kw⟩) Q E ⟨h, g, d, t, os⟩ := by
  have hcont : (Value.ref C :: bm).contains (.type B) = true := by rw [List.contains_cons, hT, F.hasB, Bool.or_true]
  have hstar := F.noStar
  simp only [checkBuiltinCall, F.newKind, F.newSplit, F.newRow]
  repeat (first | refine wpAny_loadPart_at hC ?_ | (refine wpAny_isSubtype_exc hC ?_; rw [hcont]) | refine wpAny_staticBase_exc hC ?_ | refine wpAny_madeBy_exc hC ?_ | simp only [bne_self_eq_false, Bool.false_eq_true, if_false] | wp_step)
  exact hq
theorem check_type_callK {rest : List Value} {kw : List (Str × Value)} {newId : String} {Q : Unit → Shared → Prop} (hC : h.get? C = some (excClassObj nm q C N bs bm hdct sn sub ab col dd k0 k1 k2 k3 k5 newId))
    (hq : Q () ⟨h, g, d, t, os⟩) : wpAny M A (checkBuiltinCall "type.__call__" ⟨.ref C :: rest, kw⟩) Q E ⟨h, g, d, t, os⟩ := by
  have f3 := tc_sub
  have hT : (⟨h, g, d, t, os⟩ : Shared).TypeIs (.ref C) "type" := ⟨_, hC, rfl⟩
  simp only [checkBuiltinCall, tc_kind, tc_split]
  repeat (any_goals (first | assumption | with_reducible refine wpAny_loadPart_at hC ?_ | with_reducible refine wpAny_onRaise ?_ | with_reducible refine wpAny_map ?_ | wp_step))
end
section
variable {prog : Program} {w : World} {A : Around} {E : Value → Shared → Prop} {R : Result → Shared → Prop} {h : Heap} {g : Array GenState} {d : Drawn} {t : Nat} {os : OsState}
variable {nm q : Str} {C N : Addr} {bs bm bmB : List Value} {hdct : Bool} {sn : List Str} {sub : List Value} {ab : Bool} {col : Option Bool} {dd : Option Addr} {k0 k1 k2 k3 k5 : Option Value} {B newId initId : String}
theorem new_ownK (F : ExcBaseFacts B newId initId bmB) (hT : ∀ X : String, bm.contains (.type X) = bmB.contains (.type X)) {rest : List Value} {kw : List (Str × Value)}
    (hC : h.get? C = some (excClassObj nm q C N bs bm hdct sn sub ab col dd k0 k1 k2 k3 k5 newId))
    (hq : R (.ok (.ret (.ref (h.objs.size + 1)))) ⟨(h.push { cls := .type "tuple", data := .seq rest.toArray }).push
      { cls := .ref C, data := .fields #[.ref h.objs.size, .none, .none, .none, .bool false, .none] }, g, d, t, os⟩) (hrest : rest.length ≤ sizeLine) :
    codeAny (model prog w) A (.builtin newId ⟨.ref C :: rest, kw⟩) R ⟨h, g, d, t, os⟩ := by
  have hends := F.ends
  have hcB : (Value.ref C :: bm).contains (.type B) = true := by rw [List.contains_cons, hT, F.hasB, Bool.or_true]
  have hcA : (Value.ref C :: bm).contains (.type "AttributeError") = false := by rw [List.contains_cons, hT, F.noAttr]; rfl
  have hcN : (Value.ref C :: bm).contains (.type "NameError") = false := by rw [List.contains_cons, hT, F.noName]; rfl
  refine codeAny_builtinAt F.entry ?_
  unfold Builtin.«BaseException.__new__»
  refine PySem.wpAt_bind ?_
  show PySem.wpAt _ _ _ (stack >>= _) _ _ _
  refine PySem.wpAt_bind (PySem.wpAt_stack fun p below => PySem.wpAt_of_wpAny ?_)
  wp_walk
  refine PySem.wpAt_of_wpAny ?_
  rw [F.owner]
  repeat (first | with_reducible refine wpAny_madeHere_exc F.canon hC ?_ | with_reducible refine wpAny_loadPart_at hC ?_ | (with_reducible refine wpAny_isSubtype_exc hC ?_; first | rw [hcB] | rw [hcA] | rw [hcN]) | wp_step)
  show R _ _
  rw [Heap.size_push]
  exact hq
theorem type_call_ownK (F : ExcBaseFacts B newId initId bmB) (hT : ∀ X : String, bm.contains (.type X) = bmB.contains (.type X)) {rest : List Value} {kw : List (Str × Value)} {fI : Addr} {Q : Fin → Shared → Prop}
    (hC : h.get? C = some (excClassObj nm q C N bs bm hdct sn sub ab col dd k0 k1 k2 k3 k5 newId))
    (hi : W.Looks (model prog w) h (typeLookup (.ref C) "__init__") (some (.ref fI))) (hb : ∀ self, W.Looks (model prog w) h (bindSpecial (.ref fI) self) (.ref fI, [self])) (hrest : rest.length ≤ sizeLine)
    (hq : codeAny (model prog w) A (.call (.ref fI) ⟨.ref (h.objs.size + 1) :: rest, kw⟩)
      (fun r s' => match r with | .ok (.ret v) => v = .none ∧ Q (.done (.ret (.ref (h.objs.size + 1)))) s' | .ok _ => False | .error e => E e s')
      ⟨(h.push (W.kdv_tup rest)).push (excO C h.objs.size), g, d, t, os⟩) :
    wpAny (model prog w) A (Builtin.«type.__call__» ⟨.ref C :: rest, kw⟩) Q E ⟨h, g, d, t, os⟩ := by
  repeat (first | with_reducible refine wpAny_loadPart_at hC ?_ | with_reducible refine wpAny_madeBy_exc hC ?_ | wp_step)
  refine codeAny_call_builtin_code (Code.quiet_builtin _ F.quiet) (check_new_ownK F hT hC ?_)
  refine new_ownK F hT hC ?_ hrest
  show wpAny _ _ _ _ _ _
  have k : ∀ b o, h.get? b = some o → ((h.push (W.kdv_tup rest)).push (excO C h.objs.size)).get? b = some o := fun b o e => Heap.get?_push_of_some _ (Heap.get?_push_of_some _ e)
  have hC₁ := k _ _ hC
  have hget : ((h.push (W.kdv_tup rest)).push (excO C h.objs.size)).get? (h.objs.size + 1) = some (excO C h.objs.size) := by heap_get
  have hcC : (Value.ref C :: bm).contains (.ref C) = true := by simp
  have i1 := hi.keeps k
  have b1 := (hb (.ref (h.objs.size + 1))).keeps k
  unfold isInstance
  repeat (first | with_reducible refine wpAny_loadPart_at hget ?_ | (with_reducible refine wpAny_isSubtype_exc hC₁ ?_; rw [hcC]) | wp_step)
  show wpAny _ _ (typeLookup (.ref C) _) _ _ _
  refine i1.at ?_
  refine wpAny_holding (wpAny_bind (b1.at ?_))
  refine wpAny_bind (wpAny_call (codeAny_mono hq fun r s' z => ?_))
  rcases r with e | (v | _ | _ | _) <;> first | exact z | exact z.elim | skip
  obtain ⟨rfl, z⟩ := z
  first
    | exact wpAny_pure (wpAny_pure z)
    | (wp_walk; exact z)
theorem call_ownK (F : ExcBaseFacts B newId initId bmB) (hT : ∀ X : String, bm.contains (.type X) = bmB.contains (.type X)) {rest : List Value} {kw : List (Str × Value)} {fI : Addr}
    (hC : h.get? C = some (excClassObj nm q C N bs bm hdct sn sub ab col dd k0 k1 k2 k3 k5 newId))
    (hi : W.Looks (model prog w) h (typeLookup (.ref C) "__init__") (some (.ref fI))) (hb : ∀ self, W.Looks (model prog w) h (bindSpecial (.ref fI) self) (.ref fI, [self])) (hrest : rest.length ≤ sizeLine)
    (hq : codeAny (model prog w) (A.under (.builtin "type.__call__" ⟨.ref C :: rest, kw⟩)) (.call (.ref fI) ⟨.ref (h.objs.size + 1) :: rest, kw⟩) (W.InitBack (h.objs.size + 1) R)
      ⟨(h.push (W.kdv_tup rest)).push (excO C h.objs.size), g, d, t, os⟩) :
    codeAny (model prog w) A (.call (.ref C) ⟨rest, kw⟩) R ⟨h, g, d, t, os⟩ := by
  have f1 := tc_lookup
  have f2 := tc_bind (.ref C)
  have hTy : (⟨h, g, d, t, os⟩ : Shared).TypeIs (.ref C) "type" := ⟨_, hC, rfl⟩
  refine codeAny_of_tree ?_
  show wpAny _ _ (callAny (.ref C) _) _ _ _
  repeat (any_goals (first | assumption | with_reducible refine wpAny_loadPart_at hC ?_ | wp_step))
  refine ⟨rfl, ?_⟩
  refine codeAny_call_builtin_at (Code.quiet_builtin _ (by decide +kernel)) entry_typeCall (check_type_callK hC (type_call_ownK F hT hC hi hb hrest ?_))
  refine codeAny_mono hq fun r s' z => ?_
  rcases r with e | (v | _ | _ | _) <;> exact z
end
end XRK
namespace XR
open PySem PySem.Spec PyProof.Rows L2
/-- C(e, .., k = v, ..) as a value: n values and keywords ks -/
def tMkXK (C : Addr) (n m : Nat) (sp : Sp) (gV : List V → List V → List V) (t tk : TA) : TE := fun σ H Q => t σ H fun vs H1 => tk σ H1 fun zs H2 => vs.length = n ∧ zs.length = m ∧ n ≤ 1000 ∧
  ∀ a, H2 a = none → sp (gV (.ref a :: vs) zs) (upd H2 a (exo a C none)) (fun v H3 => v = .non ∧ Q (.ref a) H3) (fun _ _ _ => False)
section
variable {X : Cx} {CX : CXT} {k n : Nat} {C fI : Addr} {fd : FuncData} {ps ks : List Str} {sp : Sp} {x : Str} {p pos : Pos} {e : Expr} {es : List Expr} {kws : List Keyword} {t tk : TA} {g : List Value → List Value → List Value} {gV : List V → List V → List V}
theorem run_mkXK {pins : List (Addr × Obj)} {σ : L2.St} {H : Hp} {s : Shared} {Q : VK} {us ws : List Value} {vs zs : List V} (T : OexC X.K C) (iC : PySem.W.findIn X.K (.ref C) "__init__" = some (some (.ref fI))) (tI : PySem.W.typeIn X.K (.ref fI) = some (.type "function"))
    (F1 : FnOk X.prog X.w X.K X.mg X.base CX k fI fd ps sp) (hr : Room (k + 1) X.A) (hb : KBn X.K fd ps (n + 1) ks g gV) (hx : Passes CX X (fun _ _ _ => False)) (I1 : Inv X pins σ H s) (r : Vals vs us) (rz : Vals zs ws) (l1 : vs.length = n) (l2 : zs.length = ks.length) (hz : n ≤ 1000)
    (q1 : ∀ a, H a = none → sp (gV (.ref a :: vs) zs) (upd H a (exo a C none)) (fun v H2 => v = .non ∧ Q (.ref a) H2) (fun _ _ _ => False)) :
    wpAny (model X.prog X.w) X.A (call (.ref C) us (ks.zip ws)) (EP X pins σ Q) X.xe s := by
  obtain ⟨nm, q, N, bs, bm, sn, sub, ab, col, dd, k0, k1, k2, k3, k5, hC, hbm⟩ := T.cls
  obtain ⟨hp, g', dr, tk', os⟩ := s
  have hsz : hp.objs.size ≤ hp.objs.size + 1 := Nat.le_succ _
  have hn : H (hp.objs.size + 1) = none := I1.hok.fresh hsz
  have hq := q1 (hp.objs.size + 1) hn
  have kk : ∀ b o, hp.get? b = some o → ((hp.push (PySem.W.kdv_tup us)).push (PySem.HandSPX.excO C hp.objs.size)).get? b = some o := fun b o e => Heap.get?_push_of_some _ (Heap.get?_push_of_some _ e)
  have hget : ((hp.push (PySem.W.kdv_tup us)).push (PySem.HandSPX.excO C hp.objs.size)).get? (hp.objs.size + 1) = some (PySem.HandSPX.excO C hp.objs.size) := by heap_get
  have I2 : Inv X pins σ (upd H (hp.objs.size + 1) (exo (hp.objs.size + 1) C none)) ⟨(hp.push (PySem.W.kdv_tup us)).push (PySem.HandSPX.excO C hp.objs.size), g', dr, tk', os⟩ :=
    I1.laid (t' := tk') (a := hp.objs.size + 1) (o := exo (hp.objs.size + 1) C none) (h' := (hp.push (PySem.W.kdv_tup us)).push (PySem.HandSPX.excO C hp.objs.size)) kk hsz (exo_ok hget)
  have r1 : Vals (V.ref (hp.objs.size + 1) :: vs) (Value.ref (hp.objs.size + 1) :: us) := .cons rfl r
  have r2 := hb.rel r1 rz
  have e1 : (Value.ref (hp.objs.size + 1) :: us).length = n + 1 := r1.length.symm.trans (congrArg Nat.succ l1)
  have e2 : ws.length = ks.length := rz.length.symm.trans l2
  have hus : us.length ≤ sizeLine := by
    rw [← Paired.length r, sizeLine_eq]
    omega
  refine wpAny_call (XRK.call_ownK F.excBase_ValueError (fun Y => PySem.HandSPX.refsVE_contains Y bm hbm) (I1.kIn _ _ hC) (PySem.W.looks_findIn I1.kIn iC) (fun self => PySem.W.bind_fn I1.kIn self tI) hus
    (codeAny_mono (F1.run _ X.stack _ _ ⟨Value.ref (hp.objs.size + 1) :: us, ks.zip ws⟩ (g (Value.ref (hp.objs.size + 1) :: us) ws) _ _ (fun _ _ _ => False) (hr.make C us (ks.zip ws)) (I2.env0.make C us (ks.zip ws)) (hb.to _ (Value.ref (hp.objs.size + 1) :: us) ws I2.kIn e1 e2) r2 hq) fun r s' hq' => ?_))
  cases r with
  | error er => exact hx pins σ _ _ er s' I2 hq'
  | ok fl =>
    cases fl with
    | ret u =>
      obtain ⟨v, H', I3, rv, ev, q3⟩ := I2.after hq'
      subst ev
      exact ⟨rv, ⟨V.ref (hp.objs.size + 1), H', I3, rfl, q3⟩⟩
    | next => exact False.elim hq'
    | brk => exact False.elim hq'
    | cont => exact False.elim hq'
theorem pe_mkXK (T : OexC X.K C) (iC : PySem.W.findIn X.K (.ref C) "__init__" = some (some (.ref fI))) (tI : PySem.W.typeIn X.K (.ref fI) = some (.type "function"))
    (F1 : FnOk X.prog X.w X.K X.mg X.base CX k fI fd ps sp) (hr : Room (k + 1) X.A) (hb : KBn X.K fd ps (n + 1) ks g gV) (hx : Passes CX X (fun _ _ _ => False)) (hg : Gl X x) (hm : X.mg x = some (.ref C))
    (ha : PA X (e :: es) t) (hkw : PK X kws tk) (hall : (backToKw pos (keywordEach kws X.env)).all (·.1.isSome) = true := by rfl) (hks : (backToKw pos (keywordEach kws X.env)).filterMap (·.1) = ks := by rfl)
    (hdb : (x == ("__debug__" : Str)) = false := by decide) (he : starEach (e :: es) X.env = (false, eval e X.env) :: starEach es X.env := by rfl)
    (hpl : ((backTo pos (starEach (e :: es) X.env)).any (·.1) || (backToKw pos (keywordEach kws X.env)).any (·.1.isNone)) = false := by rfl) :
    PE X (.Call (.Name x p) (e :: es) kws pos) (tMkXK C n ks.length sp gV t tk) := by
  refine ⟨fun pins s σ H Q I h => ?_⟩
  refine wpAny_Call_Name_kw (ld_glob I hg hm ?_ hdb)
  refine PySem.W.callWith_KW (h₀ := X.base) I.ok.mod.kin T.kC hall (thn (ha.run pos pins s σ H _ I h) fun us s1 ⟨vs, H1, I1, r, q⟩ => ?_) hpl he
  refine thn (hkw.run pos pins s1 σ H1 _ I1 q) fun ws s2 ⟨zs, H2, I2, rz, l1, l2, l3, q2⟩ => ⟨I2.kIn, ?_⟩
  rw [hks]
  exact run_mkXK T iC tI F1 hr hb hx I2 r rz l1 l2 l3 q2
theorem pe_mkXK0 (T : OexC X.K C) (iC : PySem.W.findIn X.K (.ref C) "__init__" = some (some (.ref fI))) (tI : PySem.W.typeIn X.K (.ref fI) = some (.type "function"))
    (F1 : FnOk X.prog X.w X.K X.mg X.base CX k fI fd ps sp) (hr : Room (k + 1) X.A) (hb : KBn X.K fd ps 1 ks g gV) (hx : Passes CX X (fun _ _ _ => False)) (hg : Gl X x) (hm : X.mg x = some (.ref C))
    (hkw : PK X kws tk) (hall : (backToKw pos (keywordEach kws X.env)).all (·.1.isSome) = true := by rfl) (hks : (backToKw pos (keywordEach kws X.env)).filterMap (·.1) = ks := by rfl)
    (hdb : (x == ("__debug__" : Str)) = false := by decide)
    (hpl : ((backTo pos (starEach [] X.env)).any (·.1) || (backToKw pos (keywordEach kws X.env)).any (·.1.isNone)) = false := by rfl) :
    PE X (.Call (.Name x p) [] kws pos) (tMkXK C 0 ks.length sp gV tNil tk) := by
  refine ⟨fun pins s σ H Q I h => ?_⟩
  refine wpAny_Call_Name_kw (ld_glob I hg hm ?_ hdb)
  refine PySem.W.callWith_KW0 (h₀ := X.base) I.ok.mod.kin T.kC hall ?_ hpl
  refine thn (hkw.run pos pins s σ H _ I h) fun ws s2 ⟨zs, H2, I2, rz, l1, l2, l3, q2⟩ => ⟨I2.kIn, ?_⟩
  rw [hks]
  exact run_mkXK (us := []) T iC tI F1 hr hb hx I2 .nil rz l1 l2 l3 q2
end
end XR

namespace XR
open PySem PySem.Spec PyProof.Rows L2
/-- an exception's object, whatever its fields -/
def exl (a : Addr) (C : Addr) (d : Option Addr) : HO := .ext fun h => ∃ (oe : Obj) (vs : Array Value), h.get? a = some oe ∧ oe.cls = .ref C ∧ oe.dict = d ∧ oe.data = .fields vs
theorem exAt_exl {H : Hp} {a C : Addr} {d : Option Addr} (h : H a = some (exl a C d)) : ExAt H a C d := ⟨_, h, fun _ z => z⟩
theorem exl_ok {P : Program} {w : World} {H : Hp} {h : Heap} {a C : Addr} {d : Option Addr} {oe : Obj} {vs : Array Value} (e : h.get? a = some oe) (c : oe.cls = .ref C) (dd : oe.dict = d) (t : oe.data = .fields vs) : ObjOk P w H h a (exl a C d) :=
  ⟨⟨oe, vs, e, c, dd, t⟩, ⟨oe, e⟩, fun _ _ ⟨o, v, q, r⟩ k => ⟨o, v, k o q, r⟩⟩
section
variable {X : Cx} {pins : List (Addr × Obj)} {σ : L2.St} {H : Hp} {s : Shared}
/-- an object that stands in no abstract heap and was not there at the entry is tracked from now on -/
theorem Inv.track {a : Addr} {o : HO} (I : Inv X pins σ H s) (na : H a = none) (n0 : X.s_0.heap.get? a = none) (nL : a ≠ X.env.locals) (nC : ∀ x c, X.env.cells.lookup x = some c → c ≠ a) (nP : ∀ p ∈ X.pn ++ pins, p.1 ≠ a)
    (new : ObjOk X.prog X.w (upd H a o) s.heap a o) : Inv X pins σ (upd H a o) s := by
  have ne0 : ∀ b o, X.s_0.heap.get? b = some o → b ≠ a := fun b o e z => by
    rw [z, n0] at e
    cases e
  have neN : ∀ b u, H b = some u → b ≠ a := fun b u e z => by
    rw [z, na] at e
    cases e
  refine ⟨I.ok, I.os, I.bare, ⟨I.base.keep, I.base.slot, fun b o e n hq => ?_, I.base.there, fun b xs e => ?_, fun b o u e => ?_, fun b ps e => ?_⟩, I.loc, I.cell, ?_, fun x c e => ?_, fun p hp => ?_, fun b u e => ?_, I.len⟩
  · rw [upd_ne (ne0 b o e)]
    exact I.base.free b o e n hq
  · have q := I.base.tups b xs e
    rw [upd_ne (neN b _ q)]
    exact q
  · have q := I.base.frzs b o u e
    rw [upd_ne (neN b _ q)]
    exact q
  · obtain ⟨m, q⟩ := I.base.tbls b ps e
    exact ⟨m, by rw [upd_ne (neN b _ q)]; exact q⟩
  · rw [upd_ne (Ne.symm nL)]
    exact I.free
  · rw [upd_ne (nC x c e)]
    exact I.freeC x c e
  · obtain ⟨e, n, ne, nf, d⟩ := I.pin p hp
    exact ⟨e, by rw [upd_ne (nP p hp)]; exact n, ne, nf, d⟩
  · by_cases hb : b = a
    · subst hb
      rw [upd_same] at e
      cases e
      exact new
    · rw [upd_ne hb] at e
      exact (I.hok b u e).stay (fun c v _ q => q) (fun c q => by rw [upd_ne (neN c _ q)]; exact q) fun c xs q => by rw [upd_ne (neN c _ q)]; exact q
end
/-- what the clause 'except x as n: m = n' wishes of an exception of the body: slot i is n's, slot j m's; the exception's object is tracked behind it -/
def wKeep (K : PySem.W.Frag) (c : Value) (i j : Nat) (Wout : WX) (D : Ends) : WX := fun cls d σ H =>
  ∃ b, PySem.W.exmOne K cls c = some b ∧ (b = true → ∃ C, cls = .ref C ∧ ∀ a, H a = none → D.nx (((σ.set i (some (.ref a))).set j (some (.ref a))).set i none) (upd H a (exl a C d))) ∧ (b = false → Wout cls d σ H)
section
variable {X : Cx} {x n m : Str} {c : Value} {i j : Nat} {body : List Stmt} {np pos pos' mp np2 ap : Pos} {tb : WX → TS} {Wout : WX}
theorem ps_try_keep (hs : X.stack = X.env :: X.outer) (hf : X.env.frame = some X.env.locals) (hN : X.N.Nodup) (hi : X.N[i]? = some n) (hj : X.N[j]? = some m) (hij : i ≠ j) (hln : X.env.kindOf n = some .local) (hlm : X.env.kindOf m = some .local) (hx : X.ex = []) (hc : Names X x c) (tk : Takes X Wout)
    (hb : ∀ (W : WX) (pn : List (Addr × Obj)) (xe : Value → Shared → Prop), Takes (X.tr pn xe) W → PassesOwn (model X.prog X.w) X.A X.env xe → PSs (X.tr pn xe) body (tb W))
    (hpn : X.pn = [])
    (hsu : ∀ (a : Addr) (oe : Obj) (pn : List (Addr × Obj)), PSs (X.suite a ((a, oe) :: pn)) [.Assign [.Name m mp] (.Name n np2) ap] (tAsg (tVar i) (gName j))) :
    PS X (.Try body [.ExceptHandler (some (.Name x np)) (some n) [.Assign [.Name m mp] (.Name n np2) ap] pos'] [] [] pos) (fun D σ H => tb (wKeep X.K c i j Wout D) D σ H) := by
  refine ⟨fun pins s σ H D I h => ?_⟩
  have ok := I.ok
  have hfr : X.A.frames = some (X.env :: X.outer) := by rw [ok.frames, hs]
  have hloc : Loc X.env.scope n := .inl hln
  refine wpAny_Try_except ?_
  refine wpAny_mono ((hb (wKeep X.K c i j Wout D) (X.pn ++ pins) (fun e s₁ => wpAny (model X.prog X.w) X.A (noteFrame e X.env) (fun _ s₂ => wpAny (model X.prog X.w) X.A (setFlight e none) (fun _ s₃ =>
    wpAny (model X.prog X.w) X.A (handleBy e X.env [.ExceptHandler (some (.Name x np)) (some n) [.Assign [.Name m mp] (.Name n np2) ap] pos']) (SP X pins D) X.xe s₃) X.xe s₂) X.xe s₁) (fun u s' xx => ?_) PassesOwn.looking).run [] s σ H D (I.toTry _) h) (fun f s1 hsp => ?_) (fun e s1 he => he)
  · -- the catch
    obtain ⟨a, B, sI, pins', σ', H', cls, d, rfl, J', nb, up, sky, na, os, ag, b, hb1, hyes, hno⟩ := xx
    have J : Inv X pins σ' H' sI := J'.ofTry ok
    have sky' : Sky B (X.env :: X.outer) a (Zc cls d) X.env.locals s'.heap := by rw [← hs]; exact sky
    show wpAny (model X.prog X.w) X.A (noteFrame (.ref a) X.env) _ _ _
    refine Sky.land Zc.steady hfr hf sky' fun h3 fl3 up3 => ?_
    have J3 : Inv X pins σ' H' { s' with heap := h3 } := J.landed nb fl3.1 (up.trans up3) os ag
    obtain ⟨oe3, vs3, he3, hz3, hd3⟩ := fl3.there
    have notFr : ∀ {h : Heap} {o : Obj} {vs : Array Value}, h.FunFrames B (X.env :: X.outer) → h.get? a = some o → o.data = .fields vs → a ∉ frs (X.env :: X.outer) := fun {h o vs} ff e dd hm => by
      obtain ⟨_, o', e', hnf⟩ := ff.mem hm
      rw [e] at e'; cases e'
      exact hnf _ dd
    have nfr := notFr fl3.2.2.1 he3 hd3
    have nL : a ≠ X.env.locals := fun z => nfr (List.mem_filterMap.mpr ⟨X.env, List.mem_cons_self, by rw [hf, z]⟩)
    have nF : a ∉ X.fs := fun hm => by
      obtain ⟨e, he, q⟩ := List.mem_filterMap.mp hm
      exact nfr (List.mem_filterMap.mpr ⟨e, List.mem_cons_of_mem _ he, q⟩)
    have nI : sI.heap.get? a = none := by
      cases q : sI.heap.get? a with
      | none => rfl
      | some o =>
        have z := nb a o q (by rw [hs]; exact nfr)
        rw [fl3.2.1] at z
        cases z
    have n0 : X.s_0.heap.get? a = none := by
      cases q : X.s_0.heap.get? a with
      | none => rfl
      | some o =>
        obtain ⟨o', z⟩ := J.base.there a o q (by rw [hx]; exact fun z => nomatch z)
        rw [nI] at z
        cases z
    have nP : ∀ p ∈ X.pn ++ pins, p.1 ≠ a := fun p hp z => by
      have q := (J.pin p hp).1
      rw [z, nI] at q
      cases q
    have S3 := J3.suite he3 hd3 na nL nF
    refine wpAny_handleBy_cons (codeAny_handlers_test ?_) (by intro q; cases q)
    have LT : PySem.W.Looks (model X.prog X.w) h3 (typeOf (.ref a)) cls := fun A Q E s k q => wpAny_typeOf_ref (k _ _ he3) (by rw [hz3.1]; exact q)
    have LM := PySem.W.exm_one (M := model X.prog X.w) (J3.kIn) LT hb1
    have test : ∀ {Q : Value → Shared → Prop} {E : Value → Shared → Prop}, Q c { s' with heap := h3 } → wpAny (model X.prog X.w) (X.A.mark (some (.ref a))) (eval (.Name x np) X.env) Q E { s' with heap := h3 } := fun {Q E} q => by
      obtain ⟨hg, hdbg, hm | ⟨hm, hv, hnn⟩⟩ := hc
      · exact ld_glob (X := X.suite a ((a, oe3) :: (X.pn ++ pins))) S3 hg hm q hdbg
      · exact ld_blt (X := X.suite a ((a, oe3) :: (X.pn ++ pins))) S3 hg hm hv q hnn hdbg
    refine test (LM.here ?_)
    cases b with
    | true =>
      obtain ⟨C, ec, hy2⟩ := hyes rfl
      subst ec
      refine codeAny_handlers_suite_as ?_
      refine HandSPX.lands_againZ fl3 fun h4 fl4 up4 => ?_
      have J4 : Inv X pins σ' H' { s' with heap := h4 } := J.landed nb fl4.1 ((up.trans up3).trans up4) os ag
      obtain ⟨oe4, vs4, he4, hz4, hd4⟩ := fl4.there
      have S4 := J4.suite he4 hd4 na nL nF
      refine store_ok (X := X.suite a ((a, oe4) :: (X.pn ++ pins))) (v := .ref a) S4 hN hi hloc rfl (fun s5 S5 => ?_) (.inr hln)
      have hlen : i < σ'.length := by
        rw [J.len]
        exact (List.getElem?_eq_some_iff.mp hi).1
      refine wpAny_mono ((hsu a oe4 (X.pn ++ pins)).run [] s5 _ H' { nx := fun σ6 H6 => σ6 = (σ'.set i (some (.ref a))).set j (some (.ref a)) ∧ H6 = H', rt := fun _ _ => False } S5 ⟨_, List.getElem?_set_self hlen, rfl, rfl⟩) (fun f s6 hsp => ?_) (fun _ _ z => False.elim z)
      cases f with
      | next =>
        obtain ⟨σ6, H6, S6, rfl, rfl⟩ := hsp
        have U : Inv X ((a, oe4) :: pins) ((σ'.set i (some (.ref a))).set j (some (.ref a))) H6 s6 :=
          ⟨ok, S6.os, S6.bare, S6.base, S6.loc, S6.cell, S6.free, S6.freeC, fun p hp => S6.pin p (by
            rw [hpn] at hp ⊢
            rw [List.append_nil]
            exact hp), S6.hok, S6.len⟩
        refine gone_ok U hN hi hln fun s7 J7 => ⟨_, upd H6 a (exl a C d), ?_, hy2 a na⟩
        have J8 : Inv X pins (((σ'.set i (some (.ref a))).set j (some (.ref a))).set i none) H6 s7 :=
          ⟨ok, J7.os, J7.bare, J7.base, J7.loc, J7.cell, J7.free, J7.freeC, fun p hp => J7.pin p (by
            rcases List.mem_append.mp hp with z | z
            · exact List.mem_append_left _ z
            · exact List.mem_append_right _ (List.mem_cons_of_mem _ z)), J7.hok, J7.len⟩
        have pa := (J7.pin (a, oe4) (List.mem_append_right _ List.mem_cons_self)).1
        refine Inv.track J8 na n0 nL (fun x c e z => ?_) nP (exl_ok pa hz4.1 hz4.2 hd4)
        obtain ⟨v, o, ho, hd⟩ := J7.cell x c e
        rw [z, pa] at ho
        cases ho
        rw [hd4] at hd
        cases hd
      | brk =>
        obtain ⟨σ6, H6, S6, q6⟩ := hsp
        exact q6.elim
      | cont =>
        obtain ⟨σ6, H6, S6, q6⟩ := hsp
        exact q6.elim
      | ret u =>
        obtain ⟨v6, σ6, H6, S6, r6, q6⟩ := hsp
        exact q6.elim
    | false =>
      show wpAny _ X.A (handleBy (.ref a) X.env []) _ _ _
      refine wpAny_handleBy_nil ?_
      obtain ⟨k1, k2, k3, oe, vs, T, oT, ts', he, hz, hd, h1, hr⟩ := id fl3
      unfold PySem.passOn
      refine wpAny_bind (wpAny_field he hd h1 ?_)
      rw [if_neg (show ¬ ((Value.ref T == Value.none) = true) from by simp)]
      have fin : wpAny (model X.prog X.w) X.A (setFlight (.ref a) X.env.frame) (fun _ s4 => wpAny (model X.prog X.w) X.A (throw (.ref a) : Sem Flow) (SP X pins D) X.xe s4) X.xe { s' with heap := h3 } := by
        rw [hf]
        refine HandSPX.setFlight_upZ fl3 fun h4 hh4 up4 => wpAny_throw (tk _ _ ?_)
        exact ⟨a, B, sI, pins, σ', H', cls, d, rfl, J, nb, (up.trans up3).trans up4, .inr (.inr (by rw [hs]; exact hh4)), na, os, ag, hno rfl⟩
      first
        | exact wpAny_bind (wpAny_pure (wpAny_bind fin))
        | exact wpAny_bind fin
  · cases f with
    | next =>
      obtain ⟨σ', H', J', q⟩ := hsp
      exact wpAny_execs_nil ⟨σ', H', J'.ofTry ok, q⟩
    | brk =>
      obtain ⟨σ', H', J', q⟩ := hsp
      exact ⟨σ', H', J'.ofTry ok, q⟩
    | cont =>
      obtain ⟨σ', H', J', q⟩ := hsp
      exact ⟨σ', H', J'.ofTry ok, q⟩
    | ret u =>
      obtain ⟨v, σ', H', J', r, q⟩ := hsp
      exact ⟨v, σ', H', J'.ofTry ok, r, q⟩
end
end XR

/-! a reading, step by step -/
namespace XR
open PySem PySem.Spec PyProof.Rows L2
section
variable {σ : L2.St} {H : Hp} {Q : VK} {QT : Bool → Hp → Prop} {QA : List V → Hp → Prop} {v x y : V} {i j : Int} {n : Nat} {ta tb te : TE} {tr t : TA} {r : R2} {D : Ends} {s u : TS} {g : TG}
theorem rv_var (e : σ[n]? = some (some v)) (q : Q v H) : tVar n σ H Q := ⟨v, e, q⟩
theorem rv_c (q : Q v H) : tC v σ H Q := q
theorem rv_op (q : ta σ H fun x H1 => tb σ H1 fun y H2 => r x y H2 Q) : tOp r ta tb σ H Q := q
theorem rv_nil (q : QA [] H) : tNil σ H QA := q
theorem rv_cons (q : ta σ H fun x H1 => tr σ H1 fun xs H2 => QA (x :: xs) H2) : tCons ta tr σ H QA := q
theorem rv_rI0 {g : Int → Int → V} (q : Q (g i j) H) : rI0 g (.int i) (.int j) H Q := ⟨i, j, rfl, rfl, q⟩
theorem rv_rI {C : Int → Int → Prop} {g : Int → Int → V} (c : C i j) (q : Q (g i j) H) : rI C g (.int i) (.int j) H Q := ⟨i, j, rfl, rfl, c, q⟩
theorem rv_eq (c : scal x y = true) (q : Q (.bl (decide (x = y))) H) : rEq x y H Q := ⟨c, q⟩
theorem rv_ne (c : scal x y = true) (q : Q (.bl (!decide (x = y))) H) : rNe x y H Q := ⟨c, q⟩
theorem rv_test (q : te σ H fun x H' => ∃ k, x = .bl k ∧ QT k H') : tTest te σ H QT := q
theorem rv_bl {b : Bool} {P : Bool → Prop} (q : P b) : ∃ k, V.bl b = .bl k ∧ P k := ⟨b, rfl, q⟩
theorem rv_cb {r : List V → Hp → VK → Prop} (q : t σ H fun vs H1 => r vs H1 Q) : tCB r t σ H Q := q
theorem rv_call {sp : Sp} {dvs : List V} {E : XK} (q : t σ H fun vs H1 => sp (vs ++ dvs) H1 Q E) : tCall sp dvs E t σ H Q := q
theorem rv_tup (q : t σ H fun xs H1 => xs.length ≤ sizeLine ∧ ∀ p, H1 p = none → Q (.ref p) (upd H1 p (.tup xs))) : tTup t σ H Q := q
theorem rv_lst (q : t σ H fun xs H1 => xs.length ≤ sizeLine ∧ ∀ p, H1 p = none → Q (.ref p) (upd H1 p (.lst xs))) : tLst t σ H Q := q
theorem rs_seq (q : s { D with nx := u D } σ H) : tSeq s u D σ H := q
theorem rs_asg (q : te σ H fun x H1 => g x σ H1 D.nx) : tAsg te g D σ H := q
theorem rg_name {Q2 : L2.St → Hp → Prop} (q : Q2 (σ.set n (some v)) H) : gName n v σ H Q2 := q
theorem rs_ret (q : te σ H D.rt) : tRet te D σ H := q
theorem rs_next (q : D.nx σ H) : tNext D σ H := q
theorem rs_if {c : TT} (q : c σ H fun b H1 => if b = true then s D σ H1 else u D σ H1) : tIfS c s u D σ H := q
theorem rv_tB (q : te σ H fun x H' => ∃ k, x = .bl k ∧ QT k H') : tB te σ H QT := q
theorem rv_or {tA tB : TT} (q : tA σ H fun c H1 => if c = true then QT true H1 else tB σ H1 QT) : tOr tA tB σ H QT := q
theorem rv_and {tA tB : TT} (q : tA σ H fun c H1 => if c = true then tB σ H1 QT else QT false H1) : tAnd tA tB σ H QT := q
theorem rv_not {tA : TT} (q : tA σ H fun c H1 => QT (!c) H1) : tNot tA σ H QT := q
theorem rv_andV (q : ta σ H fun x H1 => ∃ c, x = .bl c ∧ if c = true then tb σ H1 Q else Q (.bl false) H1) : tAndV ta tb σ H Q := q
theorem rv_orV (q : ta σ H fun x H1 => ∃ c, x = .bl c ∧ if c = true then Q (.bl true) H1 else tb σ H1 Q) : tOrV ta tb σ H Q := q
theorem rv_notV (q : ta σ H fun x H1 => ∃ c, x = .bl c ∧ Q (.bl (!c)) H1) : tNotV ta σ H Q := q
theorem rv_ifE {tA : TT} (q : tA σ H fun c H1 => if c = true then ta σ H1 Q else tb σ H1 Q) : tIf tA ta tb σ H Q := q
theorem rs_drop (q : te σ H fun _ H1 => D.nx σ H1) : tDrop te D σ H := q
theorem rv_app {K : PySem.W.Frag} {l : Addr} {xs : List V} (e : σ[n]? = some (some (.ref l))) (h : H l = some (.lst xs)) (q : t σ H fun vs H2 => ∃ (zs : List V) (y : V), vs = [y] ∧ H2 l = some (.lst zs) ∧ zs.length < sizeLine ∧ Q .non (upd H2 l (.lst (zs ++ [y])))) : tBM K "list" rAppend (tVar n) t σ H Q := by
  refine ⟨_, e, .inl ⟨rfl, _, SqL.of h⟩, ?_⟩
  have : (fun vs H2 => ∃ (zs : List V) (y : V), vs = [y] ∧ H2 l = some (.lst zs) ∧ zs.length < sizeLine ∧ Q .non (upd H2 l (.lst (zs ++ [y])))) = fun (vs : List V) (H2 : Hp) => rAppend (.ref l) vs H2 Q := by
    funext vs H2
    refine propext ⟨fun ⟨zs, y, a, b, c, d⟩ => ⟨l, zs, y, rfl, a, b, c, d⟩, fun ⟨l', zs, y, a, b, c, d, f⟩ => ?_⟩
    cases a
    exact ⟨zs, y, b, c, d, f⟩
  rw [this] at q
  exact q
theorem ro_nx {n2 : L2.St → Hp → Prop} {rt : VK} {bk ct : L2.St → Hp → Prop} (q : n2 σ H) : (Ends.mk n2 rt bk ct).nx σ H := q
theorem ro_rt {n2 : L2.St → Hp → Prop} {rt : VK} {bk ct : L2.St → Hp → Prop} (q : rt v H) : (Ends.mk n2 rt bk ct).rt v H := q
theorem ro_ct {n2 : L2.St → Hp → Prop} {rt : VK} {bk ct : L2.St → Hp → Prop} (q : ct σ H) : (Ends.mk n2 rt bk ct).ct σ H := q
theorem ro_bk {n2 : L2.St → Hp → Prop} {rt : VK} {bk ct : L2.St → Hp → Prop} (q : bk σ H) : (Ends.mk n2 rt bk ct).bk σ H := q
end
end XR

namespace XR
open PySem PySem.Spec PyProof.Rows L2
section
variable {K : PySem.W.Frag} {σ : L2.St} {H : Hp} {Q : VK} {QT : Bool → Hp → Prop} {v : V} {i j l : Nat} {te : TE} {t : TA} {D : Ends} {tb : TS} {g : TG} {wi : TI} {R : It → Hp → Prop} {Qs : L2.St → Hp → Prop}
theorem rs_for (q : wi σ H fun J H1 => ∃ W : Nat → Nat → L2.St → Hp → Prop, (∃ m, W 0 m σ H1) ∧ ∀ i m σ H, W i m σ H →
  (J.stop i H ∧ D.nx σ H) ∨ (J.go i H ∧ ∃ N : L2.St → Hp → Prop, (∀ σ' H', N σ' H' → ∃ m', m' < m ∧ W (i + 1) m' σ' H') ∧ ∀ x H', J.yld i H x H' → g x σ H' fun σ2 H2 => tb { D with nx := N, ct := N, bk := D.nx } σ2 H2)) : tFor wi g tb D σ H := q
theorem ri_zip (q : t σ H fun vs H1 => ∃ a b xs ys, vs = [.ref a, .ref b] ∧ SqL K H1 a xs ∧ SqL K H1 b ys ∧ R (Itz K a b) H1) : iZip K t σ H R := q
theorem ri_list (q : te σ H fun x H1 => ∃ a, x = .ref a ∧ (∃ xs, SqL K H1 a xs) ∧ R (Itl K a) H1) : iList K te σ H R := q
theorem ri_rng1 (q : t σ H fun vs H1 => ∃ j : Int, vs = [.int j] ∧ -(2 ^ 62) ≤ j ∧ j < 2 ^ 62 ∧ R (Itr 0 j.toNat) H1) : iRng1 t σ H R := q
theorem rv_lc {tt : TT} {vs : List Nat} (q : wi σ H fun J H1 => ∀ D, H1 D = none → ∃ W : Nat → Nat → Hp → Prop, (∃ m, W 0 m (upd H1 D (.lst []))) ∧ ∀ i m H, W i m H →
  (J.stop i H ∧ Q (.ref D) H) ∨ (J.go i H ∧ ∃ Nx : Hp → Prop, (∀ H', Nx H' → ∃ m', m' < m ∧ W (i + 1) m' H') ∧ ∀ x H', J.yld i H x H' → g x (wipe σ vs) H' fun σ2 H2 => wipe σ2 vs = wipe σ vs ∧ tt σ2 H2 fun b H3 =>
    if b = true then te σ2 H3 fun y H4 => ∃ acc, H4 D = some (.lst acc) ∧ acc.length < sizeLine ∧ Nx (upd H4 D (.lst (acc ++ [y]))) else Nx H3)) : tLc wi g tt te vs σ H Q := q
theorem rv_xfl {f : Str} (q : te σ H fun x H1 => ∃ (a C dd : Addr) (fs : List (Str × V)) (v : V), x = .ref a ∧ ExAt H1 a C (some dd) ∧ DcAt H1 dd fs ∧ ExcK K C ∧ PySem.W.findIn K (.ref C) f = some none ∧ fs.lookup f = some v ∧ Q v H1) : tXfl K f te σ H Q := q
theorem rs_par3 (q : t σ H fun vs H1 => ∃ u v w, vs = [u, v, w] ∧ D.nx (((σ.set i (some u)).set j (some v)).set l (some w)) H1) : tPar3 i j l t D σ H := q
theorem rv_yes (q : QT true H) : tYes σ H QT := q
theorem rg_tup {n : Nat} {tg : TGs} (q : ∃ a xs, v = .ref a ∧ SqT K H a xs ∧ xs.length = n ∧ tg xs σ H Qs) : gTup K n tg v σ H Qs := q
theorem rg_cons {t1 : TG} {u : TGs} {vs : List V} (q : t1 v σ H fun σ' H' => u vs σ' H' Qs) : gCons t1 u (v :: vs) σ H Qs := ⟨v, vs, rfl, q⟩
theorem rg_nil (q : Qs σ H) : gNil [] σ H Qs := ⟨rfl, q⟩
theorem iteFe {c : Bool} {A B : Prop} (hc : c = false) (h : B) : if c = true then A else B := by
  rw [hc, if_neg Bool.false_ne_true]
  exact h
theorem iteTe {c : Bool} {A B : Prop} (hc : c = true) (h : A) : if c = true then A else B := by
  rw [hc, if_pos rfl]
  exact h
end
end XR

namespace My
open PySem PySem.Spec PyProof.Rows L2 XR
def top (i : Nat) : Stmt := PySem.Challenge.pw_leanscript_k02_refused_words.main.body.getD i (.Pass ⟨0, 0, 0, 0⟩)
abbrev sMixed : Stmt := top 275
abbrev sCell : Stmt := top 276
abbrev sTake : Stmt := top 277
abbrev sOnly : Stmt := top 278
section
variable {P : Program} {w : World} {K : PySem.W.Frag} {mg : Str → Option Value} {base : Heap}
/-- _law_mixed: some number -/
def spMixed : Sp := fun vs H Q _ => ∃ c k : Int, vs = [.int c, .int k] ∧ ∀ n, Q (.int n) H
/-- _law_cell: some number -/
def spCell (K : PySem.W.Frag) : Sp := fun vs H Q _ => ∃ (a : Addr) (ns : List Int) (k : Int), vs = [.ref a, .int k] ∧ SqL K H a (ns.map V.int) ∧ 0 ≤ k ∧ k < 1000 ∧ ∀ n, Q (.int n) H
/-- _law_take: a digit; the pile goes on -/
def spTake : Sp := fun vs H Q _ => ∃ (a : Addr) (n z : Int), vs = [.ref a, .int z] ∧ H a = some (.lst [.int n]) ∧ 0 < z ∧ z < 1073741824 ∧ ∀ d m, 0 ≤ d → d < z → Q (.int d) (upd H a (.lst [.int m]))
local macro_rules | `(tactic| walk_at "rd1") => `(tactic| first
  | with_reducible refine rs_seq ?_
  | with_reducible refine rs_asg ?_
  | with_reducible refine rs_ret ?_
  | with_reducible refine rs_if ?_
  | with_reducible refine rs_next ?_
  | with_reducible refine rg_name ?_
  | ((with_reducible refine rv_var (v := ?vv) ?hv ?_); (case hv => exact rfl))
  | with_reducible refine rv_c ?_
  | with_reducible refine rv_op ?_
  | with_reducible refine rv_cons ?_
  | with_reducible refine rv_nil ?_
  | with_reducible refine rv_rI0 ?_
  | ((with_reducible refine rv_rI ?hc ?_); (case hc => walk_at "side"))
  | ((with_reducible refine rv_eq ?hc ?_); (case hc => exact rfl))
  | ((with_reducible refine rv_ne ?hc ?_); (case hc => exact rfl))
  | with_reducible refine rv_test ?_
  | with_reducible refine rv_bl ?_
  | with_reducible refine rv_cb ?_
  | with_reducible refine rv_call ?_
  | with_reducible refine rv_tup ?_
  | with_reducible refine rv_lst ?_
  | with_reducible refine rv_tB ?_
  | with_reducible refine rv_or ?_
  | with_reducible refine rv_and ?_
  | with_reducible refine rv_not ?_
  | with_reducible refine rv_andV ?_
  | with_reducible refine rv_orV ?_
  | with_reducible refine rv_notV ?_
  | with_reducible refine rv_ifE ?_
  | with_reducible refine rs_drop ?_
  | with_reducible refine iteT ?_
  | with_reducible refine iteF ?_
  | with_reducible refine ro_nx ?_
  | with_reducible refine ro_rt ?_
  | with_reducible refine ro_ct ?_
  | with_reducible refine ro_bk ?_)
local macro_rules | `(tactic| walk_at "rd") => `(tactic| repeat walk_at "rd1")
local macro_rules | `(tactic| walk_at "side") => `(tactic| first
  | assumption
  | exact (show CPow _ _ from ⟨by decide, by decide, by decide⟩)
  | exact (show CMul _ _ from .inl ⟨by decide, by decide⟩)
  | exact (show CMul _ _ from .inr ⟨by decide, by decide⟩)
  | (show (0 : Int) < _; decide)
  | (show CMul _ _; first | exact .inl ⟨by omega, by omega⟩ | exact .inr ⟨by omega, by omega⟩)
  | omega)
theorem scMixed : FnScope ["cell", "k", "mix"] ["cell", "k"] (defScope sMixed) := ⟨rfl, rfl, rfl, by decide +kernel, rfl, by decide +kernel, by decide +kernel⟩
theorem ok_mixed {f : Addr} {fd : FuncData} (F : Fun K "_law_mixed" "_law_mixed" sMixed f fd) : FnOk P w K mg base CX0 1 f fd ["cell", "k"] spMixed := by
  refine F.ok scMixed (fun vs H Q E h => ?_) (fun cdv A outer s H vs Q E hr h => ?_)
  · obtain ⟨c, k, rfl, _⟩ := h
    rfl
  · refine ⟨_, pss_cons (ps_set (i := 2) scMixed.nd rfl (.inl rfl) (pe_op op_mod (pe_op op_add (pe_op op_add (pe_op op_mul (pe_op op_mod (pv 0) pe_int) pe_int) (pe_op op_mul (pv 1) pe_int)) pe_int) pe_int))
      (pss_cons (ps_set (i := 2) scMixed.nd rfl (.inl rfl) (pe_op op_mod (pe_op op_mul (pv 2) (pv 2)) pe_int))
        (pss_one (ps_ret (pe_op op_mod (pe_op op_mul (pv 2) (pe_op op_add (pv 2) pe_int)) pe_int)))), ?_⟩
    obtain ⟨c, k, rfl, q⟩ := h
    have m1 : ∀ x y : Int, 0 < y → y < 2 ^ 64 → CMul (x % y) y ∧ ∀ z, CMul (x % y) z := fun x y h1 h2 => by
      have a1 := Int.emod_nonneg x (by omega : y ≠ 0)
      have a2 := Int.emod_lt_of_pos x h1
      exact ⟨.inl ⟨by omega, by omega⟩, fun z => .inl ⟨by omega, by omega⟩⟩
    refine ⟨_, rfl, _, _, rfl, rfl, (by show (0 : Int) < _; decide), _, _, rfl, rfl, (m1 _ _ (by decide) (by decide)).2 _, _, rfl, _, _, rfl, rfl, .inr ⟨by decide, by decide⟩, _, _, rfl, rfl, _, _, rfl, rfl, _, _, rfl, rfl, (by show (0 : Int) < _; decide), ?_⟩
    refine ⟨_, rfl, _, rfl, _, _, rfl, rfl, (m1 _ _ (by decide) (by decide)).2 _, _, _, rfl, rfl, (by show (0 : Int) < _; decide), ?_⟩
    refine ⟨_, rfl, _, rfl, _, _, rfl, rfl, _, _, rfl, rfl, (m1 _ _ (by decide) (by decide)).2 _, _, _, rfl, rfl, (by show (0 : Int) < _; decide), ?_⟩
    exact q _
theorem scCell : FnScope ["script", "k", "cell", "found", "j"] ["script", "k"] (defScope sCell) := ⟨rfl, rfl, rfl, by decide +kernel, rfl, by decide +kernel, by decide +kernel⟩
theorem pow60 : (10 ^ (60 : Int).toNat : Int).natAbs < 2 ^ 200 := by decide +kernel
/-- from the second if on -/
def t_cell (tM : Sp) : TS := tSeq (tIfS (tTest (tOp (rI0 fun i j => .bl (decide (j ≤ i))) (tVar 2) (tOp (rI CPow fun i j => .int (i ^ j.toNat)) (tC (.int 10)) (tC (.int 18)))))
   (tRet (tOp (rI (fun _ j => 0 < j) fun i j => .int (i % j)) (tOp (rI0 fun i j => .int (i - j)) (tVar 2) (tOp (rI CPow fun i j => .int (i ^ j.toNat)) (tC (.int 10)) (tC (.int 18))))
      (tOp (rI CMulW fun i j => .int (i * j)) (tOp (rI CMulW fun i j => .int (i * j)) (tOp (rI CMulW fun i j => .int (i * j)) (tOp (rI CPow fun i j => .int (i ^ j.toNat)) (tC (.int 10)) (tC (.int 60))) (tOp (rI CPow fun i j => .int (i ^ j.toNat)) (tC (.int 10)) (tC (.int 60)))) (tOp (rI CPow fun i j => .int (i ^ j.toNat)) (tC (.int 10)) (tC (.int 60)))) (tOp (rI CPow fun i j => .int (i ^ j.toNat)) (tC (.int 10)) (tC (.int 60)))))) tNext)
   (tSeq (tAsg (tC (.int 0)) (gName 3)) (tSeq (tFor (iRng1 (tCons (tC (.int 24)) tNil)) (gName 4)
     (tAsg (tOp (rI0 fun i j => .int (i + j)) (tOp (rI CMul fun i j => .int (i * j)) (tVar 3) (tC (.int 2147483579)))
       (tCall spMixed [] E0 (tCons (tVar 2) (tCons (tOp (rI0 fun i j => .int (i + j)) (tOp (rI0 fun i j => .int (i + j)) (tOp (rI CMul fun i j => .int (i * j)) (tC (.int 7)) (tVar 1)) (tOp (rI CMul fun i j => .int (i * j)) (tC (.int 100)) (tVar 4))) (tOp (rI CMul fun i j => .int (i * j)) (tVar 4) (tVar 4))) tNil)))) (gName 3)))
   (tRet (tVar 3))))
theorem rest_cell {a : Addr} {k c : Int} {ns : List Int} {H : Hp} {Q : VK} (hS : SqL K H a (ns.map V.int)) (h0 : 0 ≤ k) (h1 : k < 1000) (q : ∀ n, Q (.int n) H) :
    t_cell spMixed { nx := fun _ H' => Q .non H', rt := Q } [some (.ref a), some (.int k), some (.int c), none, none] H := by
  have P60 : CPow 10 60 := ⟨by decide, by decide, by decide⟩
  have P18 : CPow 10 18 := ⟨by decide, by decide, by decide⟩
  have b60 : (10 ^ (60 : Int).toNat : Int).natAbs < 2 ^ 200 := by decide +kernel
  have b120 := wide_lt b60 b60
  have b180 := wide_lt b120 b60
  unfold t_cell
  walk_at "rd"
  refine ite2 (fun _ => ?_) (fun _ => ?_)
  · have w1 : CMulW _ _ := wide_mul b60 b60 (by decide) (by decide) (by decide)
    have w2 : CMulW _ _ := wide_mul b120 b60 (by decide) (by decide) (by decide)
    have w3 : CMulW _ _ := wide_mul b180 b60 (by decide) (by decide) (by decide)
    walk_at "rd"
    exact q _
  · walk_at "rd"
    refine ⟨24, rfl, by decide, by decide, for_range (lo := 0) (n := 24) (fun i σ H' => H' = H ∧ ∃ (f : Int) (j : Option V), σ = [some (.ref a), some (.int k), some (.int c), some (.int f), j]) ⟨rfl, 0, none, rfl⟩ ?_ ?_⟩
    · rintro i σ H' hi ⟨rfl, f, j, rfl⟩
      have hi' : (i : Int) < 24 := by exact_mod_cast hi
      walk_at "rd"
      refine ⟨_, _, rfl, fun n => ?_⟩
      walk_at "rd"
      exact ⟨rfl, _, _, rfl⟩
    · rintro σ H' ⟨rfl, f, j, rfl⟩
      walk_at "rd"
      exact q _
theorem ok_cell {f fM : Addr} {fd fdM : FuncData} (F : Fun K "_law_cell" "_law_cell" sCell f fd) (FM : Fun K "_law_mixed" "_law_mixed" sMixed fM fdM) (bM : Binds K fdM ["cell", "k"] []) (gM : mg "_law_mixed" = some (.ref fM)) (gL : mg "len" = none) (gR : mg "range" = none) :
    FnOk P w K mg base CX0 2 f fd ["script", "k"] (spCell K) := by
  have GM : FnOk P w K mg base CX0 1 fM fdM ["cell", "k"] spMixed := ok_mixed FM
  refine F.ok scCell (fun vs H Q E h => ?_) (fun cdv A outer s H vs Q E hr h => ?_)
  · obtain ⟨a, ns, k, rfl, _⟩ := h
    rfl
  · refine ⟨_, pss_cons (ps_set (i := 2) scCell.nd rfl (.inl rfl) pe_int)
      (pss_cons (ps_if (pt_cmpR op_lt (pv 1) (pe_callB call_len_seq (by rfl) gL PySem.boot_len (pa_cons (pv 0) pa_nil)) (nomark _)) (pss_one (ps_set (i := 2) scCell.nd rfl (.inl rfl) (pe_ix ix_list (pv 0) (pv 1) (fun _ _ => rfl)))) pss_nil)
      (pss_cons (ps_if (pt_cmpR op_ge (pv 2) (pe_op op_pow pe_int pe_int) (nomark _)) (pss_one (ps_ret (pe_op op_mod (pe_op op_sub (pv 2) (pe_op op_pow pe_int pe_int))
          (pe_op op_mulW (pe_op op_mulW (pe_op op_mulW (pe_op op_pow pe_int pe_int) (pe_op op_pow pe_int pe_int)) (pe_op op_pow pe_int pe_int)) (pe_op op_pow pe_int pe_int))))) pss_nil)
      (pss_cons (ps_set (i := 3) scCell.nd rfl (.inl rfl) pe_int)
      (pss_cons (ps_for PassesOwn.never rfl (pi_range1 rfl gR (pa_cons pe_int pa_nil)) (pg_name (i := 4) scCell.nd rfl (.inl rfl))
        (pss_one (ps_set (i := 3) scCell.nd rfl (.inl rfl) (pe_op op_add (pe_op op_mul (pv 3) pe_int)
          (pe_call GM hr rfl gM FM.kp bM .nil pass0 (pa_cons (pv 2) (pa_cons (pe_op op_add (pe_op op_add (pe_op op_mul pe_int (pv 1)) (pe_op op_mul pe_int (pv 4))) (pe_op op_mul (pv 4) (pv 4))) pa_nil)))))))
      (pss_one (ps_ret (pv 3))))))), ?_⟩
    obtain ⟨a, ns, k, rfl, hS, h0, h1, q⟩ := h
    have big : ∀ i : Int, i.natAbs < 2 ^ 200 → ∀ j : Int, j.natAbs < 2 ^ 600 → CMulW j i := fun i h1 j h2 => wide_mul h2 h1 (by decide) (by decide) (by decide)
    have at0 : k < ((ns.map V.int).length : Nat) → ∃ z : Int, atI (ns.map V.int) k = some (.int z) := fun hk => by
      rw [List.length_map] at hk
      obtain ⟨j, rfl⟩ := Int.eq_ofNat_of_zero_le h0
      have hj : j < ns.length := by omega
      exact ⟨ns[j], atI_nat (by rw [List.getElem?_map, List.getElem?_eq_getElem hj]; rfl)⟩
    walk_at "rd"
    refine ⟨a, _, rfl, .inl hS, ?_⟩
    walk_at "rd"
    refine ite2 (fun c => ?_) (fun c => ?_)
    · obtain ⟨z, hz⟩ := at0 (of_decide_eq_true c)
      walk_at "rd"
      refine ⟨a, _, k, _, rfl, rfl, hS, hz, ?_⟩
      exact rest_cell hS h0 h1 q
    · exact rest_cell hS h0 h1 q
theorem scTake : FnScope ["pile", "size", "digit"] ["pile", "size"] (defScope sTake) := ⟨rfl, rfl, rfl, by decide +kernel, rfl, by decide +kernel, by decide +kernel⟩
theorem ok_take {f : Addr} {fd : FuncData} (F : Fun K "_law_take" "_law_take" sTake f fd) : FnOk P w K mg base CX0 1 f fd ["pile", "size"] spTake := by
  refine F.ok scTake (fun vs H Q E h => ?_) (fun cdv A outer s H vs Q E hr h => ?_)
  · obtain ⟨c, k, z, rfl, _⟩ := h
    rfl
  · refine ⟨_, pss_cons (ps_set (i := 2) scTake.nd rfl (.inl rfl) (pe_op op_mod (pe_ix ix_list (pv 0) pe_int (fun _ _ => rfl)) (pv 1)))
      (pss_cons (ps_asg (pe_op op_fdiv (pe_ix ix_list (pv 0) pe_int (fun _ _ => rfl)) (pv 1)) (pg_sub (pv 0) pe_int set_list))
        (pss_one (ps_ret (pv 2)))), ?_⟩
    obtain ⟨a, n, z, rfl, hl, h0, h1, q⟩ := h
    refine ⟨_, rfl, a, [.int n], 0, _, rfl, rfl, SqL.of hl, rfl, _, rfl, n, z, rfl, rfl, h0, ?_⟩
    refine ⟨_, rfl, a, [.int n], 0, _, rfl, rfl, SqL.of hl, rfl, _, rfl, n, z, rfl, rfl, ⟨h0, h1⟩, ?_⟩
    refine ⟨_, rfl, a, [.int n], 0, 0, rfl, rfl, hl, rfl, ?_⟩
    refine ⟨_, rfl, ?_⟩
    exact q _ _ (Int.emod_nonneg n (by omega)) (Int.emod_lt_of_pos n h0)

def n10 : List Str := ["NoText", "NoTree", "NoPath", "NoNaming", "NoLetters", "NoCount", "NoTurning", "NoMap", "NoLine", "TooMany"]
/-- the ten error classes at cs, LeanError at cL -/
structure Ten (K : PySem.W.Frag) (mg : Str → Option Value) (cs : Nat → Addr) (cL : Addr) : Prop where
  g : ∀ i, i < 10 → mg (n10.getD i "") = some (.ref (cs i))
  gL : mg "LeanError" = some (.ref cL)
  gI : mg "isinstance" = none
  gZ : mg "zip" = none
  gK : mg "LookupError" = none
  gA : mg "ArithmeticError" = none
  gV : mg "ValueError" = none
  isOne : ∀ i j, i < 10 → j < 10 → PySem.W.kitOne K (.ref (cs i)) (.ref (cs j)) = some (decide (i = j))
  isK : ∀ i, i < 10 → PySem.W.kitOne K (.ref (cs i)) (.type "LookupError") = some false
  isA : ∀ i, i < 10 → PySem.W.kitOne K (.ref (cs i)) (.type "ArithmeticError") = some false
  isL : ∀ i, i < 10 → PySem.W.kitOne K (.ref (cs i)) (.ref cL) = some true
  isV : ∀ i, i < 10 → PySem.W.kitOne K (.ref (cs i)) (.type "ValueError") = some true
  ek : ∀ i, i < 10 → ExcK K (cs i)
theorem same_upd {H : Hp} {p : Addr} {o : HO} (h : H p = none) : Same H (upd H p o) := fun b x e => by
  rw [upd_ne (ne_of_none e h)]
  exact e
theorem n10_shaped : ∀ i, i < 10 → SeqAt.shaped (.list [.str (n10.getD i "")]) = true := by decide +kernel
/-- _law_only: of an error of the i-th class and its name: True -/
def spOnly (K : PySem.W.Frag) (cs : Nat → Addr) : Sp := fun vs H Q _ => ∃ (a : Addr) (i : Nat), i < 10 ∧ vs = [.ref a, .str (n10.getD i "")] ∧ ExIn H a (cs i) ∧ ∀ H', Same H H' → Q (.bl true) H'
theorem scOnly : FnScope ["caught", "name", "names", "some", "one", "here"] ["caught", "name"] (defScope sOnly) := ⟨rfl, rfl, rfl, by decide +kernel, rfl, by decide +kernel, by decide +kernel⟩
theorem ok_only {f : Addr} {fd : FuncData} {cs : Nat → Addr} {cL : Addr} (F : Fun K "_law_only" "_law_only" sOnly f fd) (T : Ten K mg cs cL) : FnOk P w K mg base CX0 1 f fd ["caught", "name"] (spOnly K cs) := by
  refine F.ok scOnly (fun vs H Q E h => ?_) (fun cdv A outer s H vs Q E hr h => ?_)
  · obtain ⟨a, i, _, rfl, _⟩ := h
    rfl
  · have g0 := T.g 0 (by decide)
    have g1 := T.g 1 (by decide)
    have g2 := T.g 2 (by decide)
    have g3 := T.g 3 (by decide)
    have g4 := T.g 4 (by decide)
    have g5 := T.g 5 (by decide)
    have g6 := T.g 6 (by decide)
    have g7 := T.g 7 (by decide)
    have g8 := T.g 8 (by decide)
    have g9 := T.g 9 (by decide)
    refine ⟨_, pss_cons (ps_set (i := 2) scOnly.nd rfl (.inl rfl) (pe_lst (pa_cons pe_str (pa_cons pe_str (pa_cons pe_str (pa_cons pe_str (pa_cons pe_str (pa_cons pe_str (pa_cons pe_str (pa_cons pe_str (pa_cons pe_str pa_nil)))))))))))
      (pss_cons (ps_expr (pe_bm PySem.F.plainAttrs_list PySem.F.slot_list_append PySem.F.type_list_append mt_append (pv 2) (pa_cons pe_str pa_nil)))
      (pss_cons (ps_set (i := 3) scOnly.nd rfl (.inl rfl) (pe_lst (pa_cons (pe_callB call_isX (by rfl) T.gI (by decide +kernel) (pa_cons (pv 0) (pa_cons (pe_glob (v := .ref (cs 0)) (by rfl) g0 rfl) pa_nil))) (pa_cons (pe_callB call_isX (by rfl) T.gI (by decide +kernel) (pa_cons (pv 0) (pa_cons (pe_glob (v := .ref (cs 1)) (by rfl) g1 rfl) pa_nil))) (pa_cons (pe_callB call_isX (by rfl) T.gI (by decide +kernel) (pa_cons (pv 0) (pa_cons (pe_glob (v := .ref (cs 2)) (by rfl) g2 rfl) pa_nil))) pa_nil)))))
      (pss_cons (ps_set (i := 3) scOnly.nd rfl (.inl rfl) (pe_op op_cat (pv 3) (pe_lst (pa_cons (pe_callB call_isX (by rfl) T.gI (by decide +kernel) (pa_cons (pv 0) (pa_cons (pe_glob (v := .ref (cs 3)) (by rfl) g3 rfl) pa_nil))) (pa_cons (pe_callB call_isX (by rfl) T.gI (by decide +kernel) (pa_cons (pv 0) (pa_cons (pe_glob (v := .ref (cs 4)) (by rfl) g4 rfl) pa_nil))) (pa_cons (pe_callB call_isX (by rfl) T.gI (by decide +kernel) (pa_cons (pv 0) (pa_cons (pe_glob (v := .ref (cs 5)) (by rfl) g5 rfl) pa_nil))) pa_nil))))))
      (pss_cons (ps_set (i := 3) scOnly.nd rfl (.inl rfl) (pe_op op_cat (pv 3) (pe_lst (pa_cons (pe_callB call_isX (by rfl) T.gI (by decide +kernel) (pa_cons (pv 0) (pa_cons (pe_glob (v := .ref (cs 6)) (by rfl) g6 rfl) pa_nil))) (pa_cons (pe_callB call_isX (by rfl) T.gI (by decide +kernel) (pa_cons (pv 0) (pa_cons (pe_glob (v := .ref (cs 7)) (by rfl) g7 rfl) pa_nil))) (pa_cons (pe_callB call_isX (by rfl) T.gI (by decide +kernel) (pa_cons (pv 0) (pa_cons (pe_glob (v := .ref (cs 8)) (by rfl) g8 rfl) pa_nil))) pa_nil))))))
      (pss_cons (ps_expr (pe_bm PySem.F.plainAttrs_list PySem.F.slot_list_append PySem.F.type_list_append mt_append (pv 3) (pa_cons (pe_callB call_isX (by rfl) T.gI (by decide +kernel) (pa_cons (pv 0) (pa_cons (pe_glob (v := .ref (cs 9)) (by rfl) g9 rfl) pa_nil))) pa_nil)))
      (pss_cons (ps_if (pt_cmpR (op_neD hr.units)
          (pe_lc (own := [("one", 4), ("here", 5)]) (g := gTup K 2 (gCons (gName 4) (gCons (gName 5) gNil))) (tt := tB (tVar 5)) (te := tVar 4) (by rfl) scOnly.nd (pi_zip (by rfl) T.gZ (pa_cons (pv 2) (pa_cons (pv 3) pa_nil))) (blkOk_by (own := [("one", 4), ("here", 5)]) (N := ["caught", "name", "names", "some", "one", "here"]) (sc := defScope sOnly) (by decide +kernel))
            (fun _ _ _ _ _ => pg_tup (by rfl) (pgs_cons (pg_name (i := 4) scOnly.nd rfl (.inl rfl)) (pgs_cons (pg_name (i := 5) scOnly.nd rfl (.inl rfl)) pgs_nil)))
            (fun _ _ _ _ _ => pts_one (pt_val (pv 5))) (fun _ _ _ _ _ => pv 4))
          (pe_lst (pa_cons (pv 1) pa_nil)) (nomark _)) (pss_one (ps_ret pe_bl)) pss_nil)
      (pss_cons (ps_if (PW.pt (pw_or (pt_val (pe_callB call_isX (by rfl) T.gI (by decide +kernel) (pa_cons (pv 0) (pa_cons (pe_bltn (by rfl) T.gK (by decide +kernel) (v := .ty "LookupError") rfl) pa_nil))))
            (pw_or1 (pt_val (pe_callB call_isX (by rfl) T.gI (by decide +kernel) (pa_cons (pv 0) (pa_cons (pe_bltn (by rfl) T.gA (by decide +kernel) (v := .ty "ArithmeticError") rfl) pa_nil))))))) (pss_one (ps_ret pe_bl)) pss_nil)
      (pss_one (ps_ret (pe_and (pe_callB call_isX (by rfl) T.gI (by decide +kernel) (pa_cons (pv 0) (pa_cons (pe_glob (by rfl) T.gL rfl (v := .ref cL)) pa_nil)))
        (pe_one (pe_callB call_isX (by rfl) T.gI (by decide +kernel) (pa_cons (pv 0) (pa_cons (pe_bltn (by rfl) T.gV (by decide +kernel) (v := .ty "ValueError") rfl) pa_nil)))))))))))))), ?_⟩
    obtain ⟨a, i, hi, rfl, ex, q⟩ := h
    have isx : ∀ (H' : Hp), Same H H' → ∀ (j : Nat), j < 10 → ∀ (Q' : VK), Q' (.bl (decide (i = j))) H' → rIsX K [.ref a, .ref (cs j)] H' Q' := fun H' sm j hj Q' z => ⟨a, cs i, _, _, _, rfl, .own _, ex.same sm, T.ek i hi, T.isOne i j hi hj, z⟩
    walk_at "rd"
    refine ⟨by decide, fun n0 hn0 => ?_⟩
    walk_at "rd"
    refine rv_app rfl upd_same ?_
    walk_at "rd"
    refine ⟨_, _, rfl, upd_same, by decide, ?_⟩
    rw [upd_upd]
    have s1 : Same H (upd H n0 (.lst (List.map V.str n10))) := same_upd hn0
    have e1 : ([.str "NoText", .str "NoTree", .str "NoPath", .str "NoNaming", .str "NoLetters", .str "NoCount", .str "NoTurning", .str "NoMap", .str "NoLine"] ++ [.str "TooMany"] : List V) = n10.map V.str := rfl
    rw [e1]
    obtain ⟨B, eB⟩ : ∃ B, B = upd H n0 (.lst (List.map V.str n10)) := ⟨_, rfl⟩
    have hB : B n0 = some (.lst (List.map V.str n10)) := by rw [eB]; exact upd_same
    rw [← eB] at s1
    rw [← eB]
    walk_at "rd"
    refine isx _ s1 0 (by decide) _ ?_
    walk_at "rd"
    refine isx _ s1 1 (by decide) _ ?_
    walk_at "rd"
    refine isx _ s1 2 (by decide) _ ?_
    walk_at "rd"
    refine ⟨(by show 3 ≤ sizeLine; decide), fun p1 hp1 => ?_⟩
    have k2 := same_upd (o := .lst [.bl (decide (i = 0)), .bl (decide (i = 1)), .bl (decide (i = 2))]) hp1
    walk_at "rd"
    refine isx _ (s1.trans k2) 3 (by decide) _ ?_
    walk_at "rd"
    refine isx _ (s1.trans k2) 4 (by decide) _ ?_
    walk_at "rd"
    refine isx _ (s1.trans k2) 5 (by decide) _ ?_
    walk_at "rd"
    refine ⟨(by show 3 ≤ sizeLine; decide), fun p2 hp2 => ?_⟩
    have k3 := k2.trans (same_upd (o := .lst [.bl (decide (i = 3)), .bl (decide (i = 4)), .bl (decide (i = 5))]) hp2)
    refine ⟨p1, p2, _, _, rfl, rfl, (upd_ne (ne_of_none upd_same hp2)).trans upd_same, upd_same, (by show 6 ≤ sizeLine; decide), fun p3 hp3 => ?_⟩
    have k4 := k3.trans (same_upd (o := .lst ([.bl (decide (i = 0)), .bl (decide (i = 1)), .bl (decide (i = 2))] ++ [.bl (decide (i = 3)), .bl (decide (i = 4)), .bl (decide (i = 5))])) hp3)
    walk_at "rd"
    refine isx _ (s1.trans k4) 6 (by decide) _ ?_
    walk_at "rd"
    refine isx _ (s1.trans k4) 7 (by decide) _ ?_
    walk_at "rd"
    refine isx _ (s1.trans k4) 8 (by decide) _ ?_
    walk_at "rd"
    refine ⟨(by show 3 ≤ sizeLine; decide), fun p4 hp4 => ?_⟩
    have k5 := k4.trans (same_upd (o := .lst [.bl (decide (i = 6)), .bl (decide (i = 7)), .bl (decide (i = 8))]) hp4)
    refine ⟨p3, p4, _, _, rfl, rfl, (upd_ne (ne_of_none upd_same hp4)).trans upd_same, upd_same, (by show 9 ≤ sizeLine; decide), fun p5 hp5 => ?_⟩
    walk_at "rd"
    refine rv_app rfl upd_same ?_
    have k6 := k5.trans (same_upd (o := .lst ([.bl (decide (i = 0)), .bl (decide (i = 1)), .bl (decide (i = 2))] ++ [.bl (decide (i = 3)), .bl (decide (i = 4)), .bl (decide (i = 5))] ++ [.bl (decide (i = 6)), .bl (decide (i = 7)), .bl (decide (i = 8))])) hp5)
    walk_at "rd"
    refine isx _ (s1.trans k6) 9 (by decide) _ ?_
    walk_at "rd"
    refine ⟨_, _, rfl, upd_same, (by show 9 < sizeLine; decide), ?_⟩
    rw [upd_upd]
    have k7 := k5.trans (same_upd (o := .lst ((List.range 10).map fun j => V.bl (decide (i = j)))) hp5)
    show tSeq _ _ _ _ (upd _ p5 (.lst ((List.range 10).map fun j => V.bl (decide (i = j)))))
    generalize e7 : upd (upd (upd (upd (upd B p1 (.lst [.bl (decide (i = 0)), .bl (decide (i = 1)), .bl (decide (i = 2))])) p2 (.lst [.bl (decide (i = 3)), .bl (decide (i = 4)), .bl (decide (i = 5))])) p3 (.lst ([.bl (decide (i = 0)), .bl (decide (i = 1)), .bl (decide (i = 2))] ++ [.bl (decide (i = 3)), .bl (decide (i = 4)), .bl (decide (i = 5))]))) p4 (.lst [.bl (decide (i = 6)), .bl (decide (i = 7)), .bl (decide (i = 8))])) p5 (.lst ((List.range 10).map fun j => V.bl (decide (i = j)))) = H7 at k7 ⊢
    have h7n : H7 n0 = some (.lst (List.map V.str n10)) := k7 _ _ hB
    have h7p : H7 p5 = some (.lst ((List.range 10).map fun j => V.bl (decide (i = j)))) := by rw [← e7]; exact upd_same
    have s7 : Same H H7 := s1.trans k7
    clear e7 k7 k6 k5 k4 k3 k2 hp5 hp4 hp3 hp2 hp1 hB eB s1 hn0 e1
    walk_at "rd"
    refine ⟨_, rfl, _, rfl, n0, p5, _, _, rfl, SqL.of h7n, SqL.of h7p, fun D hD => ?_⟩
    refine lc_it (walk_zip (xs := List.map V.str n10) (ys := (List.range 10).map fun j => V.bl (decide (i = j))) (n := 10) rfl)
      (fun t H' => Same H7 H' ∧ H' D = some (.lst (if i < t then [.str (n10.getD i "")] else []))) ⟨same_upd hD, upd_same⟩ (fun t H' _ ⟨s, _⟩ => ⟨SqL.of (s _ _ h7n), SqL.of (s _ _ h7p)⟩) ?_ ?_
    · rintro t x H' H2 ht ⟨sm, hd⟩ ⟨U, y1, y2, rfl, hU, rfl, e1, e2⟩
      have sU : Same H' (upd H' U (.tup [y1, y2])) := same_upd hU
      refine ⟨U, _, rfl, .inl (.inl upd_same), rfl, _, _, rfl, _, _, rfl, rfl, rfl, _, rfl, ?_⟩
      have ey1 : y1 = .str (n10.getD t "") := by
        have : ∀ t, t < 10 → (List.map V.str n10)[t]? = some (.str (n10.getD t "")) := by decide +kernel
        exact Option.some.inj (e1.symm.trans (this t ht))
      have ey2 : y2 = .bl (decide (i = t)) := by
        dsimp only at e2
        rw [List.getElem?_map, List.getElem?_range ht] at e2
        exact (Option.some.inj e2).symm
      subst ey1 ey2
      refine ⟨_, rfl, ?_⟩
      refine ite2 (fun c => ?_) (fun c => ?_)
      · have c' : i = t := of_decide_eq_true c
        refine ⟨_, rfl, _, sU _ _ hd, ?_, ?_⟩
        · rw [if_neg (by omega)]
          show 0 < sizeLine
          decide
        · refine ⟨fun b o z => ?_, ?_⟩
          · rw [upd_ne (fun z2 => by rw [z2] at z; rw [z] at hD; cases hD)]
            exact sU _ _ (sm _ _ z)
          · rw [upd_same, if_neg (by omega), if_pos (by omega), c']
            rfl
      · have c' : ¬ i = t := fun z => c (decide_eq_true z)
        refine ⟨sm.trans sU, ?_⟩
        rw [sU _ _ hd]
        have : (i < t + 1) = (i < t) := propext ⟨fun _ => by omega, fun _ => by omega⟩
        simp only [this]
    · rintro H' ⟨sm, hd⟩
      rw [if_pos hi] at hd
      walk_at "rd"
      refine ⟨(by show 1 ≤ sizeLine; decide), fun p6 hp6 => ?_⟩
      have s8 := same_upd (o := .lst [.str (n10.getD i "")]) hp6
      refine ⟨.list [.str (n10.getD i "")], .list [.str (n10.getD i "")], .lst (SqL.of (s8 _ _ hd)) (.cons (.str _) .nil), .lst (SqL.of upd_same) (.cons (.str _) .nil), n10_shaped i hi, n10_shaped i hi, ?_⟩
      have ee : (!PyData.eqv (.list [.str (n10.getD i "")]) (.list [.str (n10.getD i "")])) = false := by simp [PyData.eqv, PyData.eqvAll]
      rw [ee]
      have s9 := (s7.trans sm).trans s8
      have isb : ∀ (c : V) (u : Value) (b : Bool) (Q' : VK), ClsV c u → PySem.W.kitOne K (.ref (cs i)) u = some b → Q' (.bl b) _ → rIsX K [.ref a, c] _ Q' := fun c u b Q' k1 k2 z => ⟨a, cs i, c, u, b, rfl, k1, ex.same s9, T.ek i hi, k2, z⟩
      walk_at "rd"
      refine isb _ _ _ _ (.ty _) (T.isK i hi) ?_
      walk_at "rd"
      refine isb _ _ _ _ (.ty _) (T.isA i hi) ?_
      walk_at "rd"
      refine isb _ _ _ _ (.own _) (T.isL i hi) ?_
      walk_at "rd"
      refine isb _ _ _ _ (.ty _) (T.isV i hi) ?_
      walk_at "rd"
      exact q _ s9
end
end My

namespace My
open PySem PySem.Spec PyProof.Rows L2 XR
abbrev iText : Stmt := inClass (top 3) 0
abbrev iTree : Stmt := inClass (top 4) 0
abbrev iNaming : Stmt := inClass (top 6) 0
local macro_rules | `(tactic| walk_at "rd1") => `(tactic| first
  | with_reducible refine rs_seq ?_
  | with_reducible refine rs_asg ?_
  | with_reducible refine rs_ret ?_
  | with_reducible refine rs_if ?_
  | with_reducible refine rs_next ?_
  | with_reducible refine rg_name ?_
  | ((with_reducible refine rv_var (v := ?vv) ?hv ?_); (case hv => exact rfl))
  | with_reducible refine rv_c ?_
  | with_reducible refine rv_op ?_
  | with_reducible refine rv_cons ?_
  | with_reducible refine rv_nil ?_
  | with_reducible refine rv_rI0 ?_
  | ((with_reducible refine rv_rI ?hc ?_); (case hc => walk_at "side"))
  | ((with_reducible refine rv_eq ?hc ?_); (case hc => exact rfl))
  | ((with_reducible refine rv_ne ?hc ?_); (case hc => exact rfl))
  | with_reducible refine rv_test ?_
  | with_reducible refine rv_bl ?_
  | with_reducible refine rv_cb ?_
  | with_reducible refine rv_call ?_
  | with_reducible refine rv_tup ?_
  | with_reducible refine rv_lst ?_
  | with_reducible refine rv_tB ?_
  | with_reducible refine rv_or ?_
  | with_reducible refine rv_and ?_
  | with_reducible refine rv_not ?_
  | with_reducible refine rv_andV ?_
  | with_reducible refine rv_orV ?_
  | with_reducible refine rv_notV ?_
  | with_reducible refine rv_ifE ?_
  | with_reducible refine rs_drop ?_
  | with_reducible refine iteT ?_
  | with_reducible refine iteF ?_
  | with_reducible refine ro_nx ?_
  | with_reducible refine ro_rt ?_
  | with_reducible refine ro_ct ?_
  | with_reducible refine ro_bk ?_)
local macro_rules | `(tactic| walk_at "rd") => `(tactic| repeat walk_at "rd1")
local macro_rules | `(tactic| walk_at "side") => `(tactic| first
  | assumption
  | exact (show CPow _ _ from ⟨by decide, by decide, by decide⟩)
  | exact (show CMul _ _ from .inl ⟨by decide, by decide⟩)
  | exact (show CMul _ _ from .inr ⟨by decide, by decide⟩)
  | (show (0 : Int) < _; decide)
  | (show CMul _ _; first | exact .inl ⟨by omega, by omega⟩ | exact .inr ⟨by omega, by omega⟩)
  | omega)
section
variable {P : Program} {w : World} {K : PySem.W.Frag} {mg : Str → Option Value} {base : Heap}
/-- an __init__ of n fields: a new dict with them -/
def spI (C : Addr) (n : Nat) (fs : List V → List (Str × V)) : Sp := fun vs H Q _ => ∃ (a : Addr) (ws : List V), vs = .ref a :: ws ∧ ws.length = n ∧ H a = some (exo a C none) ∧
  ∀ H' dx, (∀ b o, b ≠ a → H b = some o → H' b = some o) → H' a = some (exo a C (some dx)) → H' dx = some (exd dx (fs ws)) → Q .non H'
def fsText (vs : List V) : List (Str × V) := [("at", vs.getD 0 .non)]
def fsTree (vs : List V) : List (Str × V) := [("why", vs.getD 1 .non), ("path", vs.getD 0 .non)]
def fsNaming (vs : List V) : List (Str × V) := [("other", vs.getD 1 .non), ("one", vs.getD 0 .non)]
theorem scIText : FnScope ["self", "at"] ["self", "at"] (defScope iText) := ⟨rfl, rfl, rfl, by decide +kernel, rfl, by decide +kernel, by decide +kernel⟩
theorem scITree : FnScope ["self", "path", "why"] ["self", "path", "why"] (defScope iTree) := ⟨rfl, rfl, rfl, by decide +kernel, rfl, by decide +kernel, by decide +kernel⟩
theorem scINaming : FnScope ["self", "one", "other"] ["self", "one", "other"] (defScope iNaming) := ⟨rfl, rfl, rfl, by decide +kernel, rfl, by decide +kernel, by decide +kernel⟩
theorem len2 {α : Type} {l : List α} (h : l.length = 1) : ∃ x, l = [x] := by
  match l, h with
  | [x], _ => exact ⟨x, rfl⟩
theorem len3 {α : Type} {l : List α} (h : l.length = 2) : ∃ x y, l = [x, y] := by
  match l, h with
  | [x, y], _ => exact ⟨x, y, rfl⟩
theorem ok_iText {f C : Addr} {fd : FuncData} {dvs : List V} (F : FunD K "__init__" "NoText.__init__" (defArgs iText) (defBody iText) (defScope iText) dvs [] f fd) (O : OexC K C) (n1 : PySem.W.findIn K (.ref C) "at" = some none) : FnOk P w K mg base CX0 1 f fd ["self", "at"] (spI C 1 fsText) := by
  refine F.ok scIText (fun vs H Q E h => ?_) (fun cdv A outer s H vs Q E hr h => ?_)
  · obtain ⟨a, ws, rfl, hl, _⟩ := h
    show ws.length + 1 = 2
    omega
  · refine ⟨_, pss_one (ps_ost (pv 0) (pv 1)), ?_⟩
    obtain ⟨a, ws, rfl, hl, ha, q⟩ := h
    obtain ⟨x, rfl⟩ := len2 hl
    refine ⟨_, rfl, _, rfl, a, C, rfl, O, n1, .inl ⟨ha, fun dx nd ne => ?_⟩⟩
    refine q _ dx (fun b o hb z => ?_) upd_same ?_
    · rw [upd_ne hb, upd_ne (ne_of_none z nd)]
      exact z
    · rw [upd_ne ne, upd_same]
      rfl
theorem ok_iTwo {f C : Addr} {fd : FuncData} {dvs : List V} {st : Stmt} {x y q : Str} {fs : List V → List (Str × V)} (F : FunD K "__init__" q (defArgs st) (defBody st) (defScope st) dvs [] f fd) (O : OexC K C)
    (sc : FnScope ["self", x, y] ["self", x, y] (defScope st)) (n1 : PySem.W.findIn K (.ref C) x = some none) (n2 : PySem.W.findIn K (.ref C) y = some none)
    (hb : ∀ (cdv : Value) (A : Around) (outer : List Env) (s : Shared) (H : Hp) (E : XK), PSs (cxOf CX0 P w K mg base ["self", x, y] q (defScope st) f cdv A outer s H E) (defBody st) (tSeq (tOst K x (tVar 0) (tVar 1)) (tOst K y (tVar 0) (tVar 2))))
    (hfs : ∀ u v, fs [u, v] = [(y, v), (x, u)]) : FnOk P w K mg base CX0 1 f fd ["self", x, y] (spI C 2 fs) := by
  refine F.ok sc (fun vs H Q E h => ?_) (fun cdv A outer s H vs Q E hr h => ?_)
  · obtain ⟨a, ws, rfl, hl, _⟩ := h
    show ws.length + 1 = 3
    omega
  · refine ⟨_, hb cdv A outer s H E, ?_⟩
    obtain ⟨a, ws, rfl, hl, ha, q⟩ := h
    obtain ⟨u, v, rfl⟩ := len3 hl
    refine ⟨_, rfl, _, rfl, a, C, rfl, O, n1, .inl ⟨ha, fun dx nd ne => ?_⟩⟩
    refine ⟨_, rfl, _, rfl, a, C, rfl, O, n2, .inr ⟨dx, _, upd_same, (upd_ne ne).trans upd_same, by show 1 ≤ 900; decide, ?_⟩⟩
    refine q _ dx (fun b o hb z => ?_) ?_ ?_
    · rw [upd_ne (ne_of_none z nd), upd_ne hb, upd_ne (ne_of_none z nd)]
      exact z
    · rw [upd_ne (Ne.symm ne), upd_same]
    · rw [upd_same, hfs]
theorem ok_iTree {f C : Addr} {fd : FuncData} {dvs : List V} (F : FunD K "__init__" "NoTree.__init__" (defArgs iTree) (defBody iTree) (defScope iTree) dvs [] f fd) (O : OexC K C) (n1 : PySem.W.findIn K (.ref C) "path" = some none) (n2 : PySem.W.findIn K (.ref C) "why" = some none) :
    FnOk P w K mg base CX0 1 f fd ["self", "path", "why"] (spI C 2 fsTree) :=
  ok_iTwo F O scITree n1 n2 (fun cdv A outer s H E => pss_cons (ps_ost (pv 0) (pv 1)) (pss_one (ps_ost (pv 0) (pv 2)))) fun _ _ => rfl
theorem ok_iNaming {f C : Addr} {fd : FuncData} {dvs : List V} (F : FunD K "__init__" "NoNaming.__init__" (defArgs iNaming) (defBody iNaming) (defScope iNaming) dvs [] f fd) (O : OexC K C) (n1 : PySem.W.findIn K (.ref C) "one" = some none) (n2 : PySem.W.findIn K (.ref C) "other" = some none) :
    FnOk P w K mg base CX0 1 f fd ["self", "one", "other"] (spI C 2 fsNaming) :=
  ok_iTwo F O scINaming n1 n2 (fun cdv A outer s H E => pss_cons (ps_ost (pv 0) (pv 1)) (pss_one (ps_ost (pv 0) (pv 2)))) fun _ _ => rfl
/-! how arguments come to the parameters -/
section
variable {f : Addr} {fd : FuncData} {d0 d1 : V}
theorem bText0 (F : FunD K "__init__" "NoText.__init__" (defArgs iText) (defBody iText) (defScope iText) [d0] [] f fd) : ∃ ds, Vals [d0] ds ∧ L2.Binds K fd ["self", "at"] ds :=
  F.binds1 1 0 (by simp) rfl fun T kV doc pm an cdv ct us its h1 h2 => match us, its, h1, h2 with | [_], [_], _, _ => ⟨_, rfl, rfl⟩
theorem bText1 (F : FunD K "__init__" "NoText.__init__" (defArgs iText) (defBody iText) (defScope iText) [d0] [] f fd) : L2.Binds K fd ["self", "at"] [] := by
  obtain ⟨ds, h, b⟩ := F.binds1 (ps := ["self", "at"]) 2 1 (by simp) rfl fun T kV doc pm an cdv ct us its h1 h2 => match us, its, h1, h2 with | [_, _], [_], _, _ => ⟨_, rfl, rfl⟩
  cases h
  exact b
theorem kText (F : FunD K "__init__" "NoText.__init__" (defArgs iText) (defBody iText) (defScope iText) [d0] [] f fd) : ∃ its : List Value, KBn K fd ["self", "at"] 1 ["at"] (fun us ws => us ++ ws) (fun vs zs => vs ++ zs) :=
  F.kbindsD (ps := ["self", "at"]) 1 ["at"] (fun us _ ws => us ++ ws) (by simp) (fun h1 _ h3 => h1.append h3)
    fun T kV doc pm an cdv ct us its ws h1 h2 h3 => match us, its, ws, h1, h2, h3 with | [_], [_], [_], _, _, _ => ⟨_, rfl, rfl⟩
variable {x y : Str}
theorem vals_rev : ∀ {xs : List V} {us : List Value}, Vals xs us → Vals xs.reverse us.reverse
  | _, _, .nil => .nil
  | _, _, .cons a r => by
    rw [List.reverse_cons, List.reverse_cons]
    exact (vals_rev r).append (.cons a .nil)
/-- of __init__(self, x = .., y = ..) -/
structure TwoB (K : PySem.W.Frag) (fd : FuncData) (x y : Str) (d0 d1 : V) : Prop where
  b0 : ∃ ds, Vals [d0, d1] ds ∧ L2.Binds K fd ["self", x, y] ds
  b1 : ∃ ds, Vals [d1] ds ∧ L2.Binds K fd ["self", x, y] ds
  b2 : L2.Binds K fd ["self", x, y] []
  kyx : ∃ g, KBn K fd ["self", x, y] 1 [y, x] g (fun vs zs => vs ++ zs.reverse)
  k1y : ∃ g, KBn K fd ["self", x, y] 2 [y] g (fun vs zs => vs ++ zs)
  k0y : ∃ g, KBn K fd ["self", x, y] 1 [y] g (fun vs zs => vs ++ ([d0] ++ zs))
theorem bTree (F : FunD K "__init__" "NoTree.__init__" (defArgs iTree) (defBody iTree) (defScope iTree) [d0, d1] [] f fd) : TwoB K fd "path" "why" d0 d1 where
  b0 := F.binds1 (ps := ["self", "path", "why"]) 1 0 (by simp) rfl fun T kV doc pm an cdv ct us its h1 h2 => match us, its, h1, h2 with | [_], [_, _], _, _ => ⟨_, rfl, rfl⟩
  b1 := F.binds1 (ps := ["self", "path", "why"]) 2 1 (by simp) rfl fun T kV doc pm an cdv ct us its h1 h2 => match us, its, h1, h2 with | [_, _], [_, _], _, _ => ⟨_, rfl, rfl⟩
  b2 := by
    obtain ⟨ds, h, b⟩ := F.binds1 (ps := ["self", "path", "why"]) 3 2 (by simp) rfl fun T kV doc pm an cdv ct us its h1 h2 => match us, its, h1, h2 with | [_, _, _], [_, _], _, _ => ⟨_, rfl, rfl⟩
    cases h
    exact b
  kyx := by
    obtain ⟨its, k⟩ := F.kbindsD (ps := ["self", "path", "why"]) 1 ["why", "path"] (fun us _ ws => us ++ ws.reverse) (by simp) (fun h1 _ h3 => h1.append (vals_rev h3)) (fun T kV doc pm an cdv ct us its ws h1 h2 h3 => match us, its, ws, h1, h2, h3 with | [_], [_, _], [_, _], _, _, _ => ⟨_, rfl, rfl⟩)
    exact ⟨_, k⟩
  k1y := by
    obtain ⟨its, k⟩ := F.kbindsD (ps := ["self", "path", "why"]) 2 ["why"] (fun us _ ws => us ++ ws) (by simp) (fun h1 _ h3 => h1.append h3) (fun T kV doc pm an cdv ct us its ws h1 h2 h3 => match us, its, ws, h1, h2, h3 with | [_, _], [_, _], [_], _, _, _ => ⟨_, rfl, rfl⟩)
    exact ⟨_, k⟩
  k0y := by
    obtain ⟨its, k⟩ := F.kbindsD (ps := ["self", "path", "why"]) 1 ["why"] (fun us its ws => us ++ (its.take 1 ++ ws)) (by simp) (fun h1 h2 h3 => h1.append ((h2.take 1).append h3)) (fun T kV doc pm an cdv ct us its ws h1 h2 h3 => match us, its, ws, h1, h2, h3 with | [_], [_, _], [_], _, _, _ => ⟨_, rfl, rfl⟩)
    exact ⟨_, k⟩
theorem bNaming (F : FunD K "__init__" "NoNaming.__init__" (defArgs iNaming) (defBody iNaming) (defScope iNaming) [d0, d1] [] f fd) : TwoB K fd "one" "other" d0 d1 where
  b0 := F.binds1 (ps := ["self", "one", "other"]) 1 0 (by simp) rfl fun T kV doc pm an cdv ct us its h1 h2 => match us, its, h1, h2 with | [_], [_, _], _, _ => ⟨_, rfl, rfl⟩
  b1 := F.binds1 (ps := ["self", "one", "other"]) 2 1 (by simp) rfl fun T kV doc pm an cdv ct us its h1 h2 => match us, its, h1, h2 with | [_, _], [_, _], _, _ => ⟨_, rfl, rfl⟩
  b2 := by
    obtain ⟨ds, h, b⟩ := F.binds1 (ps := ["self", "one", "other"]) 3 2 (by simp) rfl fun T kV doc pm an cdv ct us its h1 h2 => match us, its, h1, h2 with | [_, _, _], [_, _], _, _ => ⟨_, rfl, rfl⟩
    cases h
    exact b
  kyx := by
    obtain ⟨its, k⟩ := F.kbindsD (ps := ["self", "one", "other"]) 1 ["other", "one"] (fun us _ ws => us ++ ws.reverse) (by simp) (fun h1 _ h3 => h1.append (vals_rev h3)) (fun T kV doc pm an cdv ct us its ws h1 h2 h3 => match us, its, ws, h1, h2, h3 with | [_], [_, _], [_, _], _, _, _ => ⟨_, rfl, rfl⟩)
    exact ⟨_, k⟩
  k1y := by
    obtain ⟨its, k⟩ := F.kbindsD (ps := ["self", "one", "other"]) 2 ["other"] (fun us _ ws => us ++ ws) (by simp) (fun h1 _ h3 => h1.append h3) (fun T kV doc pm an cdv ct us its ws h1 h2 h3 => match us, its, ws, h1, h2, h3 with | [_, _], [_, _], [_], _, _, _ => ⟨_, rfl, rfl⟩)
    exact ⟨_, k⟩
  k0y := by
    obtain ⟨its, k⟩ := F.kbindsD (ps := ["self", "one", "other"]) 1 ["other"] (fun us its ws => us ++ (its.take 1 ++ ws)) (by simp) (fun h1 h2 h3 => h1.append ((h2.take 1).append h3)) (fun T kV doc pm an cdv ct us its ws h1 h2 h3 => match us, its, ws, h1, h2, h3 with | [_], [_, _], [_], _, _, _ => ⟨_, rfl, rfl⟩)
    exact ⟨_, k⟩
end
end
end My

namespace XR
open PySem PySem.Spec PyProof.Rows L2 SX
section
variable {K : PySem.W.Frag} {σ : L2.St} {H : Hp} {Q : VK} {QT : Bool → Hp → Prop} {v x y : V} {i j : Int} {n : Nat} {ta tb tc te : TE} {t : TA} {r r' : R2} {D : Ends} {g : TG} {R : It → Hp → Prop} {Qo : Option Int → Hp → Prop}
theorem rv_chain (q : ta σ H fun x H1 => tb σ H1 fun y H2 => r x y H2 fun z H3 => ∃ k, z = .bl k ∧ (if k = true then tc σ H3 fun w' H4 => r' y w' H4 Q else Q (.bl false) H3)) : tChain r r' ta tb tc σ H Q := q
theorem ri_str (q : te σ H fun v H1 => ∃ x, v = .str x ∧ R (Its x) H1) : iStr te σ H R := q
theorem rv_sl {rr : V → Option Int → Option Int → Hp → VK → Prop} {tl th : TO} (q : te σ H fun x H1 => tl σ H1 fun l H2 => th σ H2 fun u H3 => rr x l u H3 Q) : tSl rr te tl th σ H Q := q
theorem rv_part (q : te σ H fun x H1 => ∃ i, x = .int i ∧ Qo (some i) H1) : tPart te σ H Qo := q
theorem rv_nopart (q : Qo none H) : tNoPart σ H Qo := q
theorem rv_callS {sp : Sp} {E : L2.St → XK} (q : t σ H fun vs H1 => sp vs H1 Q (E σ)) : tCallS sp E t σ H Q := q
theorem rv_le (q : Q (.bl (decide (i ≤ j))) H) : rI0 (fun i j => V.bl (decide (i ≤ j))) (.int i) (.int j) H Q := ⟨i, j, rfl, rfl, q⟩
def rLeS : R2 := fun x y H Q => ∃ i j, x = .str i ∧ y = .str j ∧ Q (.bl (!decide (j.cps.toList < i.cps.toList))) H
theorem op_leS {X : Cx} : OpR X (compareOp .LtE) rLeS := op_le_str
theorem lt1 (a b : Nat) : (([a] : List Nat) < [b]) ↔ a < b := by
  constructor
  · intro h
    cases h with
    | rel h => exact h
    | cons h => cases h
  · intro h
    exact .rel h
theorem rv_leS {a b : Nat} (q : Q (.bl (decide (a ≤ b))) H) : rLeS (.str (S [a])) (.str (S [b])) H Q := by
  refine ⟨_, _, rfl, rfl, ?_⟩
  have e : (!decide ((S [b]).cps.toList < (S [a]).cps.toList)) = decide (a ≤ b) := by
    show (!decide ([b] < [a])) = decide (a ≤ b)
    rw [← decide_not]
    exact decide_eq_decide.mpr (by rw [lt1]; omega)
  rw [e]
  exact q
theorem rv_inS {c : Nat} {z : List Nat} (q : Q (.bl (decide (c ∈ z))) H) : rInS (.str (S [c])) (.str (S z)) H Q := ⟨c, S z, rfl, rfl, q⟩
theorem at_S {t : List Nat} {k c : Nat} (hk : t[k]? = some c) (hl : t.length ≤ sizeLine) (q : Q (.str (S [c])) H) : rIxS (.str (S t)) (.int (k : Int)) H Q :=
  ⟨S t, k, c, rfl, rfl, by rw [S_len]; exact hl, atI_nat hk, q⟩
theorem cut_S {t : List Nat} (a b : Nat) : cutS (S t) (some (a : Int)) (some (b : Int)) = S ((t.drop a).take (b - a)) := by
  unfold cutS
  rw [HT.sIx_nat, HT.sIx_nat, S_len]
  show S ((t.drop (min a t.length)).take (min b t.length - min a t.length)) = _
  congr 1
  by_cases h : a ≤ t.length
  · rw [Nat.min_eq_left h]
    by_cases h2 : b ≤ t.length
    · rw [Nat.min_eq_left h2]
    · rw [show min b t.length = t.length from by omega, List.take_of_length_le (by simp), List.take_of_length_le (by simp; omega)]
  · rw [show min a t.length = t.length from by omega, List.drop_of_length_le (Nat.le_refl _), List.drop_of_length_le (by omega)]
    simp
theorem rv_cut {t : List Nat} {a b : Nat} (hl : t.length ≤ sizeLine) (q : Q (.str (S ((t.drop a).take (b - a)))) H) : rSlS (.str (S t)) (some (a : Int)) (some (b : Int)) H Q :=
  ⟨S t, rfl, by rw [S_len]; exact hl, by rw [cut_S]; exact q⟩
theorem rv_lenS {t : List Nat} (hl : t.length ≤ sizeLine) (q : Q (.int (t.length : Nat)) H) : ∃ z, [V.str (S t)] = [.str z] ∧ z.length ≤ sizeLine ∧ Q (.int z.length) H :=
  ⟨S t, rfl, by rw [S_len]; exact hl, by rw [S_len]; exact q⟩
end
end XR

namespace My
open PySem PySem.Spec PyProof.Rows L2 XR SX
abbrev sLetter : Stmt := top 19
abbrev sFigure : Stmt := top 20
abbrev sLF : Stmt := top 21
abbrev sName : Stmt := top 22
abbrev sPlain : Stmt := top 23
abbrev sNumber : Stmt := top 24
abbrev sRunEnd : Stmt := top 26
abbrev sSort : Stmt := top 27
abbrev sSign : Stmt := top 28
abbrev sWords : Stmt := top 29
section
variable {P : Program} {w : World} {K : PySem.W.Frag} {mg : Str → Option Value} {base : Heap}
local macro_rules | `(tactic| walk_at "rd1") => `(tactic| first
  | with_reducible refine rs_seq ?_
  | with_reducible refine rs_asg ?_
  | with_reducible refine rs_ret ?_
  | with_reducible refine rs_if ?_
  | with_reducible refine rs_next ?_
  | with_reducible refine rg_name ?_
  | ((with_reducible refine rv_var (v := ?vv) ?hv ?_); (case hv => exact rfl))
  | with_reducible refine rv_c ?_
  | with_reducible refine rv_op ?_
  | with_reducible refine rv_cons ?_
  | with_reducible refine rv_nil ?_
  | with_reducible refine rv_rI0 ?_
  | ((with_reducible refine rv_rI ?hc ?_); (case hc => walk_at "side"))
  | ((with_reducible refine rv_eq ?hc ?_); (case hc => exact rfl))
  | ((with_reducible refine rv_ne ?hc ?_); (case hc => exact rfl))
  | with_reducible refine rv_test ?_
  | with_reducible refine rv_bl ?_
  | with_reducible refine rv_cb ?_
  | with_reducible refine rv_call ?_
  | with_reducible refine rv_tup ?_
  | with_reducible refine rv_lst ?_
  | with_reducible refine rv_tB ?_
  | with_reducible refine rv_or ?_
  | with_reducible refine rv_and ?_
  | with_reducible refine rv_not ?_
  | with_reducible refine rv_andV ?_
  | with_reducible refine rv_orV ?_
  | with_reducible refine rv_notV ?_
  | with_reducible refine rv_ifE ?_
  | with_reducible refine rs_drop ?_
  | with_reducible refine iteT ?_
  | with_reducible refine iteF ?_
  | with_reducible refine ro_nx ?_
  | with_reducible refine ro_rt ?_
  | with_reducible refine ro_ct ?_
  | with_reducible refine ro_bk ?_)
local macro_rules | `(tactic| walk_at "rd") => `(tactic| repeat walk_at "rd1")
local macro_rules | `(tactic| walk_at "side") => `(tactic| first
  | assumption
  | exact (show CPow _ _ from ⟨by decide, by decide, by decide⟩)
  | exact (show CMul _ _ from .inl ⟨by decide, by decide⟩)
  | exact (show CMul _ _ from .inr ⟨by decide, by decide⟩)
  | (show (0 : Int) < _; decide)
  | (show CMul _ _; first | exact .inl ⟨by omega, by omega⟩ | exact .inr ⟨by omega, by omega⟩)
  | omega)
local macro_rules | `(tactic| walk_at "rd1") => `(tactic| first
  | with_reducible refine rs_for ?_
  | with_reducible refine ri_zip ?_
  | with_reducible refine ri_list ?_
  | with_reducible refine ri_rng1 ?_
  | with_reducible refine rv_lc ?_
  | with_reducible refine rv_xfl ?_
  | with_reducible refine rs_par3 ?_
  | with_reducible refine rv_yes ?_
  | with_reducible refine rg_tup ?_
  | with_reducible refine rg_cons ?_
  | with_reducible refine rg_nil ?_)
local macro_rules | `(tactic| walk_at "rd1") => `(tactic| first
  | with_reducible refine ri_str ?_
  | with_reducible refine rv_sl ?_
  | with_reducible refine rv_part ?_
  | with_reducible refine rv_nopart ?_
  | with_reducible refine rv_callS ?_
  | with_reducible refine rv_chain ?_
  | with_reducible refine rv_leS ?_
  | with_reducible refine rv_inS ?_)
def isL (c : Nat) : Bool := decide (97 ≤ c) && decide (c ≤ 122)
def isF (c : Nat) : Bool := decide (48 ≤ c) && decide (c ≤ 57)
def isLF (c : Nat) : Bool := isL c || isF c
/-- a test of one sign -/
def spB (f : Nat → Bool) : Sp := fun vs H Q _ => ∃ c : Nat, vs = [.str (S [c])] ∧ Q (.bl (f c)) H
theorem scLetter : FnScope ["sign"] ["sign"] (defScope sLetter) := ⟨rfl, rfl, rfl, by decide +kernel, rfl, by decide +kernel, by decide +kernel⟩
theorem scFigure : FnScope ["sign"] ["sign"] (defScope sFigure) := ⟨rfl, rfl, rfl, by decide +kernel, rfl, by decide +kernel, by decide +kernel⟩
theorem scLF : FnScope ["sign"] ["sign"] (defScope sLF) := ⟨rfl, rfl, rfl, by decide +kernel, rfl, by decide +kernel, by decide +kernel⟩
theorem ok_Letter {f : Addr} {fd : FuncData} (F : Fun K "is_letter" "is_letter" sLetter f fd) : FnOk P w K mg base CX0 1 f fd ["sign"] (spB isL) := by
  refine F.ok scLetter (fun vs H Q E h => ?_) (fun cdv A outer s H vs Q E hr h => ?_)
  · obtain ⟨c, rfl, _⟩ := h
    rfl
  · refine ⟨_, pss_one (ps_ret (pe_chain op_leS op_leS pe_str (pv 0) pe_str)), ?_⟩
    obtain ⟨c, rfl, q⟩ := h
    walk_at "rd"
    refine rv_leS (a := 97) ?_
    refine ⟨_, rfl, ite2 (fun h => ?_) (fun h => ?_)⟩
    · walk_at "rd"
      refine rv_leS (b := 122) ?_
      show Q (.bl (decide (c ≤ 122))) H
      have e : isL c = decide (c ≤ 122) := by unfold isL; rw [h]; rfl
      rw [← e]
      exact q
    · show Q (.bl false) H
      have e : isL c = false := by unfold isL; rw [Bool.eq_false_iff.mpr h]; rfl
      rw [← e]
      exact q
theorem ok_Figure {f : Addr} {fd : FuncData} (F : Fun K "is_figure" "is_figure" sFigure f fd) : FnOk P w K mg base CX0 1 f fd ["sign"] (spB isF) := by
  refine F.ok scFigure (fun vs H Q E h => ?_) (fun cdv A outer s H vs Q E hr h => ?_)
  · obtain ⟨c, rfl, _⟩ := h
    rfl
  · refine ⟨_, pss_one (ps_ret (pe_chain op_leS op_leS pe_str (pv 0) pe_str)), ?_⟩
    obtain ⟨c, rfl, q⟩ := h
    walk_at "rd"
    refine rv_leS (a := 48) ?_
    refine ⟨_, rfl, ite2 (fun h => ?_) (fun h => ?_)⟩
    · walk_at "rd"
      refine rv_leS (b := 57) ?_
      show Q (.bl (decide (c ≤ 57))) H
      have e : isF c = decide (c ≤ 57) := by unfold isF; rw [h]; rfl
      rw [← e]
      exact q
    · show Q (.bl false) H
      have e : isF c = false := by unfold isF; rw [Bool.eq_false_iff.mpr h]; rfl
      rw [← e]
      exact q
theorem ok_LF {f fL fF : Addr} {fd dL dF : FuncData} (F : Fun K "is_letter_or_figure" "is_letter_or_figure" sLF f fd) (FL : Fun K "is_letter" "is_letter" sLetter fL dL) (FF : Fun K "is_figure" "is_figure" sFigure fF dF)
    (gL : mg "is_letter" = some (.ref fL)) (gF : mg "is_figure" = some (.ref fF)) (bL : L2.Binds K dL ["sign"] []) (bF : L2.Binds K dF ["sign"] []) : FnOk P w K mg base CX0 2 f fd ["sign"] (spB isLF) := by
  have GL : FnOk P w K mg base CX0 1 fL dL ["sign"] (spB isL) := ok_Letter FL
  have GF : FnOk P w K mg base CX0 1 fF dF ["sign"] (spB isF) := ok_Figure FF
  refine F.ok scLF (fun vs H Q E h => ?_) (fun cdv A outer s H vs Q E hr h => ?_)
  · obtain ⟨c, rfl, _⟩ := h
    rfl
  · refine ⟨_, pss_one (ps_ret (pe_or (pe_call GL hr (by rfl) gL FL.kp bL .nil pass0 (pa_cons (pv 0) pa_nil)) (pe_one (pe_call GF hr (by rfl) gF FF.kp bF .nil pass0 (pa_cons (pv 0) pa_nil))))), ?_⟩
    obtain ⟨c, rfl, q⟩ := h
    walk_at "rd"
    refine ⟨c, rfl, ?_⟩
    refine ⟨_, rfl, ite2 (fun h => ?_) (fun h => ?_)⟩
    · have e : isLF c = true := by unfold isLF; rw [h]; rfl
      rw [e] at q
      exact q
    · walk_at "rd"
      refine ⟨c, rfl, ?_⟩
      have e : isLF c = isF c := by unfold isLF; rw [Bool.eq_false_iff.mpr h]; rfl
      rw [← e]
      exact q
def keptL : List Str := ["let", "if", "else", "while", "return", "fail", "try", "catch", "out", "fn"]
/-- is the text of these signs a kept word -/
def kept (t : List Nat) : Bool := inV (.str (S t)) (keptL.map V.str)
def nameB (t : List Nat) : Bool := decide (1 ≤ t.length) && decide (t.length ≤ 12) && !kept t && t.all isL
def spName : Sp := fun vs H Q _ => ∃ t : List Nat, vs = [.str (S t)] ∧ t.length ≤ 4000 ∧ ∀ H', Same H H' → Q (.bl (nameB t)) H'
def plainB (t : List Nat) : Bool := !decide (t = []) && t.all isF && (decide (t = [48]) || !decide (t.head? = some 48))
def spPlain : Sp := fun vs H Q _ => ∃ t : List Nat, vs = [.str (S t)] ∧ t.length ≤ 4000 ∧ ∀ H', Same H H' → Q (.bl (plainB t)) H'
/-- the signs of a text, each asked -/
theorem lc_signs {t : List Nat} {H : Hp} {D : Addr} {i : Nat} {f : Nat → Bool} {σ : L2.St} {vs : List Nat} {Qd : Hp → Prop} (hl : t.length ≤ 4000) (hD : H D = none)
    (hσ : i < (wipe σ vs).length) (hv : wipe ((wipe σ vs).set i none) vs = wipe σ vs) (hw : ∀ x : V, wipe ((wipe σ vs).set i (some x)) vs = wipe σ vs)
    (hd : ∀ H', Same H H' → H' D = some (.lst ((t.map f).map V.bl)) → Qd H') :
    ∃ W : Nat → Nat → Hp → Prop, (∃ m, W 0 m (upd H D (.lst []))) ∧ ∀ i' m H, W i' m H →
      ((Its (S t)).stop i' H ∧ Qd H) ∨ ((Its (S t)).go i' H ∧ ∃ Nx : Hp → Prop, (∀ H', Nx H' → ∃ m', m' < m ∧ W (i' + 1) m' H') ∧ ∀ x H', (Its (S t)).yld i' H x H' → gName i x (wipe σ vs) H' fun σ2 H2 => wipe σ2 vs = wipe σ vs ∧ tYes σ2 H2 fun b H3 =>
        if b = true then tCall (spB f) [] E0 (tCons (tVar i) tNil) σ2 H3 fun y H4 => ∃ acc, H4 D = some (.lst acc) ∧ acc.length < sizeLine ∧ Nx (upd H4 D (.lst (acc ++ [y]))) else Nx H3) := by
  refine lc_it walk_str (fun n H' => Same H H' ∧ H' D = some (.lst (((t.take n).map f).map V.bl))) ⟨same_upd hD, by rw [List.take_zero]; exact upd_same⟩ (fun _ _ _ _ => True.intro) ?_ ?_
  · rintro n x H' H2 hn ⟨sm, hd'⟩ ⟨rfl, c, hc, rfl⟩
    have hn' : n < t.length := by simpa using hn
    have hc' : t[n]? = some c := by simpa using hc
    refine rg_name ⟨hw _, ?_⟩
    refine rv_yes ?_
    refine iteT ?_
    refine rv_call ?_
    refine rv_cons ?_
    refine ⟨_, by rw [List.getElem?_set_self hσ], ?_⟩
    refine ⟨c, rfl, _, hd', ?_, fun b o z => ?_, ?_⟩
    · rw [List.length_map, List.length_map, List.length_take]
      exact Nat.lt_of_lt_of_le (by omega : min n t.length < 4001) (by rw [sizeLine_eq]; decide)
    · rw [upd_ne (fun z2 => by rw [z2] at z; rw [z] at hD; cases hD)]
      exact sm _ _ z
    · rw [upd_same, List.take_succ, hc']
      simp
  · rintro H' ⟨sm, hd'⟩
    refine hd H' sm ?_
    have : t.take (S t).cps.size = t := List.take_of_length_le (by simp)
    rw [this] at hd'
    exact hd'
end
end My

namespace My
open PySem PySem.Spec PyProof.Rows L2 XR SX
section
variable {P : Program} {w : World} {K : PySem.W.Frag} {mg : Str → Option Value} {base : Heap} {aK aL aS : Addr}
local macro_rules | `(tactic| walk_at "rd1") => `(tactic| first
  | with_reducible refine rs_seq ?_
  | with_reducible refine rs_asg ?_
  | with_reducible refine rs_ret ?_
  | with_reducible refine rs_if ?_
  | with_reducible refine rs_next ?_
  | with_reducible refine rg_name ?_
  | ((with_reducible refine rv_var (v := ?vv) ?hv ?_); (case hv => exact rfl))
  | with_reducible refine rv_c ?_
  | with_reducible refine rv_op ?_
  | with_reducible refine rv_cons ?_
  | with_reducible refine rv_nil ?_
  | with_reducible refine rv_rI0 ?_
  | ((with_reducible refine rv_rI ?hc ?_); (case hc => walk_at "side"))
  | ((with_reducible refine rv_eq ?hc ?_); (case hc => exact rfl))
  | ((with_reducible refine rv_ne ?hc ?_); (case hc => exact rfl))
  | with_reducible refine rv_test ?_
  | with_reducible refine rv_bl ?_
  | with_reducible refine rv_cb ?_
  | with_reducible refine rv_call ?_
  | with_reducible refine rv_tup ?_
  | with_reducible refine rv_lst ?_
  | with_reducible refine rv_tB ?_
  | with_reducible refine rv_or ?_
  | with_reducible refine rv_and ?_
  | with_reducible refine rv_not ?_
  | with_reducible refine rv_andV ?_
  | with_reducible refine rv_orV ?_
  | with_reducible refine rv_notV ?_
  | with_reducible refine rv_ifE ?_
  | with_reducible refine rs_drop ?_
  | with_reducible refine iteT ?_
  | with_reducible refine iteF ?_
  | with_reducible refine ro_nx ?_
  | with_reducible refine ro_rt ?_
  | with_reducible refine ro_ct ?_
  | with_reducible refine ro_bk ?_)
local macro_rules | `(tactic| walk_at "rd") => `(tactic| repeat walk_at "rd1")
local macro_rules | `(tactic| walk_at "side") => `(tactic| first
  | assumption
  | exact (show CPow _ _ from ⟨by decide, by decide, by decide⟩)
  | exact (show CMul _ _ from .inl ⟨by decide, by decide⟩)
  | exact (show CMul _ _ from .inr ⟨by decide, by decide⟩)
  | (show (0 : Int) < _; decide)
  | (show CMul _ _; first | exact .inl ⟨by omega, by omega⟩ | exact .inr ⟨by omega, by omega⟩)
  | omega)
local macro_rules | `(tactic| walk_at "rd1") => `(tactic| first
  | with_reducible refine rs_for ?_
  | with_reducible refine ri_zip ?_
  | with_reducible refine ri_list ?_
  | with_reducible refine ri_rng1 ?_
  | with_reducible refine rv_lc ?_
  | with_reducible refine rv_xfl ?_
  | with_reducible refine rs_par3 ?_
  | with_reducible refine rv_yes ?_
  | with_reducible refine rg_tup ?_
  | with_reducible refine rg_cons ?_
  | with_reducible refine rg_nil ?_)
local macro_rules | `(tactic| walk_at "rd1") => `(tactic| first
  | with_reducible refine ri_str ?_
  | with_reducible refine rv_sl ?_
  | with_reducible refine rv_part ?_
  | with_reducible refine rv_nopart ?_
  | with_reducible refine rv_callS ?_
  | with_reducible refine rv_chain ?_
  | with_reducible refine rv_leS ?_
  | with_reducible refine rv_inS ?_)
def longL : List Str := ["<=", ">=", "==", "!=", "&&", "||"]
def shortL : List Str := ["+", "-", "*", "/", "~", "<", ">", "!", "?", ":", ".", ",", "=", "(", ")", "{", "}", "[", "]", ";"]
structure Glo (K : PySem.W.Frag) (mg : Str → Option Value) (aK aL aS : Addr) : Prop where
  mI : mg "isinstance" = none
  mS : mg "str" = none
  mA : mg "all" = none
  mL : mg "len" = none
  mN : mg "int" = none
  c12 : ∃ t, mg "MOST_LETTERS_words" = some (.int 12 t)
  c18 : ∃ t, mg "MOST_FIGURES" = some (.int 18 t)
  gK : mg "KEPT" = some (.ref aK)
  gLo : mg "LONG_SIGNS" = some (.ref aL)
  gSh : mg "SHORT_SIGNS" = some (.ref aS)
  sK : ∀ H, SqT K H aK (keptL.map V.str)
  sLo : ∀ H, SqT K H aL (longL.map V.str)
  sSh : ∀ H, SqT K H aS (shortL.map V.str)
theorem kit_same {K : PySem.W.Frag} {t : Value} : PySem.W.kitOne K t t = some true := by
  unfold PySem.W.kitOne
  rw [if_pos (beq_self_eq_true t)]
theorem eqS {t u : List Nat} {k : Bool} (h : decide (V.str (S t) = V.str (S u)) = k) : decide (t = u) = k := by
  rw [← h]
  exact decide_eq_decide.mpr ⟨fun e => by rw [e], fun e => S_inj (V.str.inj e)⟩
theorem len_le {n : Nat} (h : n ≤ 4000) : n ≤ sizeLine := Nat.le_trans h (by rw [sizeLine_eq]; decide)
theorem scName : FnScope ["thing", "sign"] ["thing"] (defScope sName) := ⟨rfl, rfl, rfl, by decide +kernel, rfl, by decide +kernel, by decide +kernel⟩
theorem scPlain : FnScope ["word", "sign"] ["word"] (defScope sPlain) := ⟨rfl, rfl, rfl, by decide +kernel, rfl, by decide +kernel, by decide +kernel⟩
theorem ok_Name {f fL : Addr} {fd dL : FuncData} (F : Fun K "is_name" "is_name" sName f fd) (T : Glo K mg aK aL aS) (FL : Fun K "is_letter" "is_letter" sLetter fL dL) (gL : mg "is_letter" = some (.ref fL)) (bL : L2.Binds K dL ["sign"] []) : FnOk P w K mg base CX0 2 f fd ["thing"] spName := by
  have GL : FnOk P w K mg base CX0 1 fL dL ["sign"] (spB isL) := ok_Letter FL
  obtain ⟨t12, h12⟩ := T.c12
  refine F.ok scName (fun vs H Q E h => ?_) (fun cdv A outer s H vs Q E hr h => ?_)
  · obtain ⟨c, rfl, _⟩ := h
    rfl
  · refine ⟨_, (pss_cons (ps_if (PW.pt (pw_or (pt_not (pt_val (pe_callB call_isi (by rfl) T.mI (by decide +kernel) (pa_cons (pv 0) (pa_cons (pe_bltn (by rfl) T.mS (by decide +kernel) (v := .ty "str") rfl) pa_nil))))) (pw_or (pt_not (pt_chain op_le op_le pe_int (pe_callB call_len_str (by rfl) T.mL PySem.boot_len (pa_cons (pv 0) pa_nil)) (pe_glob (by rfl) h12 (v := .int 12) ⟨_, rfl⟩))) (pw_or1 (pt_cmpR op_in_seq (pv 0) (pe_glob (by rfl) T.gK (v := .ref aK) rfl) (by rfl)))))) (pss_one (ps_ret pe_bl)) pss_nil)
        (pss_one (ps_ret (pe_callB (cr_all rfl) (by rfl) T.mA (by decide +kernel) (pa_cons (pe_lc (own := [("sign", 1)]) (g := gName 1) (tt := tYes) (te := tCall (spB isL) [] E0 (tCons (tVar 1) tNil)) (by rfl) scName.nd (pi_str (pv 0)) (blkOk_by (own := [("sign", 1)]) (N := ["thing", "sign"]) (sc := defScope sName) (by decide +kernel)) (fun _ _ _ _ _ => (pg_name (i := 1) scName.nd rfl (.inl rfl))) (fun _ _ _ _ _ => pts_nil) (fun _ _ _ _ _ => pe_call GL hr (by rfl) gL FL.kp bL .nil pass0 (pa_cons (pv 1) pa_nil))) pa_nil))))), ?_⟩
    obtain ⟨t, rfl, hl, q⟩ := h
    walk_at "rd"
    refine ⟨_, _, _, _, true, rfl, .ty _, .base (.str _), kit_same, ?_⟩
    refine ⟨_, rfl, ?_⟩
    refine iteFe rfl ?_
    walk_at "rd"
    refine ⟨S t, rfl, len_le hl, ?_⟩
    rw [S_len]
    refine ⟨_, _, rfl, rfl, ?_⟩
    refine ⟨_, rfl, ite2 (fun h1 => ?_) (fun h1 => ?_)⟩
    · have h1' : 1 ≤ t.length := by have := of_decide_eq_true h1; omega
      walk_at "rd"
      refine ite2 (fun h2 => ?_) (fun h2 => ?_)
      · walk_at "rd"
        have h2' : ¬ t.length ≤ 12 := fun z => by
          have : decide ((t.length : Int) ≤ 12) = true := decide_eq_true (by omega)
          rw [this] at h2
          cases h2
        have e : nameB t = false := by unfold nameB; rw [decide_eq_false h2']; simp
        rw [e] at q
        exact q H (Same.refl H)
      · have h2' : t.length ≤ 12 := by
          have : decide ((t.length : Int) ≤ 12) = true := by simpa using h2
          have := of_decide_eq_true this
          omega
        walk_at "rd"
        refine ⟨aK, _, rfl, .inr (T.sK H), rfl, (by decide +kernel), ?_⟩
        refine ⟨_, rfl, ite2 (fun h3 => ?_) (fun h3 => ?_)⟩
        · walk_at "rd"
          have h3' : kept t = true := h3
          have e : nameB t = false := by unfold nameB; rw [h3']; simp
          rw [e] at q
          exact q H (Same.refl H)
        · walk_at "rd"
          refine ⟨_, rfl, ?_⟩
          intro D hD
          refine lc_signs (i := 1) (vs := [1]) hl hD (by show 1 < 2; decide) (by rfl) (fun _ => by rfl) fun H' sm hs => ?_
          walk_at "rd"
          refine ⟨D, _, rfl, SqL.of hs, ?_⟩
          have h3' : kept t = false := Bool.eq_false_iff.mpr h3
          have e : (t.map isL).all id = nameB t := by
            unfold nameB
            rw [decide_eq_true h1', decide_eq_true h2', h3', List.all_map]
            rfl
          rw [e]
          exact q H' sm
    · walk_at "rd"
      have h1' : ¬ 1 ≤ t.length := fun z => h1 (decide_eq_true (by omega))
      have e : nameB t = false := by unfold nameB; rw [decide_eq_false h1']; simp
      rw [e] at q
      exact q H (Same.refl H)
theorem ok_Plain {f fF : Addr} {fd dF : FuncData} (F : Fun K "is_plain_number" "is_plain_number" sPlain f fd) (T : Glo K mg aK aL aS) (FF : Fun K "is_figure" "is_figure" sFigure fF dF) (gF : mg "is_figure" = some (.ref fF)) (bF : L2.Binds K dF ["sign"] []) : FnOk P w K mg base CX0 2 f fd ["word"] spPlain := by
  have GF : FnOk P w K mg base CX0 1 fF dF ["sign"] (spB isF) := ok_Figure FF
  refine F.ok scPlain (fun vs H Q E h => ?_) (fun cdv A outer s H vs Q E hr h => ?_)
  · obtain ⟨c, rfl, _⟩ := h
    rfl
  · refine ⟨_, (pss_cons (ps_if (PW.pt (pw_or (pt_cmpR op_eq (pv 0) pe_str (nomark _)) (pw_or1 (pt_not (pt_val (pe_callB (cr_all rfl) (by rfl) T.mA (by decide +kernel) (pa_cons (pe_lc (own := [("sign", 1)]) (g := gName 1) (tt := tYes) (te := tCall (spB isF) [] E0 (tCons (tVar 1) tNil)) (by rfl) scPlain.nd (pi_str (pv 0)) (blkOk_by (own := [("sign", 1)]) (N := ["word", "sign"]) (sc := defScope sPlain) (by decide +kernel)) (fun _ _ _ _ _ => (pg_name (i := 1) scPlain.nd rfl (.inl rfl))) (fun _ _ _ _ _ => pts_nil) (fun _ _ _ _ _ => pe_call GF hr (by rfl) gF FF.kp bF .nil pass0 (pa_cons (pv 1) pa_nil))) pa_nil))))))) (pss_one (ps_ret pe_bl)) pss_nil)
        (pss_one (ps_ret (pe_or (pe_cmpR op_eq (pv 0) pe_str (nomark _)) (pe_one (pe_cmpR op_ne (pe_ix ix_str (pv 0) pe_int (fun _ _ => rfl)) pe_str (nomark _))))))), ?_⟩
    obtain ⟨t, rfl, hl, q⟩ := h
    walk_at "rd"
    refine ite2 (fun h1 => ?_) (fun h1 => ?_)
    · have h1' : t = [] := of_decide_eq_true (eqS (u := []) h1)
      walk_at "rd"
      have e : plainB t = false := by rw [h1']; rfl
      rw [e] at q
      exact q H (Same.refl H)
    · have h1' : t ≠ [] := of_decide_eq_false (eqS (u := []) (Bool.eq_false_iff.mpr h1))
      walk_at "rd"
      refine ⟨_, rfl, ?_⟩
      intro D hD
      refine lc_signs (i := 1) (vs := [1]) hl hD (by show 1 < 2; decide) (by rfl) (fun _ => by rfl) fun H' sm hs => ?_
      walk_at "rd"
      refine ⟨D, _, rfl, SqL.of hs, ?_⟩
      refine ⟨_, rfl, ite2 (fun h2 => ?_) (fun h2 => ?_)⟩
      · have h2' : t.all isF = false := by rw [List.all_map] at h2; simpa using h2
        walk_at "rd"
        have e : plainB t = false := by unfold plainB; rw [h2']; simp
        rw [e] at q
        exact q H' sm
      · have h2' : t.all isF = true := by rw [List.all_map] at h2; simpa using h2
        walk_at "rd"
        refine ite2 (fun h3 => ?_) (fun h3 => ?_)
        · have h3' : t = [48] := of_decide_eq_true (eqS (u := [48]) h3)
          have e : plainB t = true := by unfold plainB; rw [h2', decide_eq_false h1', decide_eq_true h3']; rfl
          rw [e] at q
          exact q H' sm
        · have h3' : ¬ t = [48] := of_decide_eq_false (eqS (u := [48]) (Bool.eq_false_iff.mpr h3))
          obtain ⟨c, r, rfl⟩ : ∃ c r, t = c :: r := by
            cases t with
            | nil => exact absurd rfl h1'
            | cons c r => exact ⟨c, r, rfl⟩
          walk_at "rd"
          refine at_S (k := 0) (c := c) rfl (len_le hl) ?_
          refine rv_ne rfl ?_
          have e : (!decide (V.str (S [c]) = V.str "0")) = plainB (c :: r) := by
            rw [show decide (V.str (S [c]) = V.str "0") = decide ([c] = [48]) from (eqS (u := [48]) rfl).symm]
            unfold plainB
            rw [h2', decide_eq_false h1', decide_eq_false h3']
            simp
          rw [e]
          exact q H' sm
end
end My

namespace My
open PySem PySem.Spec PyProof.Rows L2 XR SX
section
variable {P : Program} {w : World} {K : PySem.W.Frag} {mg : Str → Option Value} {base : Heap} {aK aL aS : Addr}
local macro_rules | `(tactic| walk_at "rd1") => `(tactic| first
  | with_reducible refine rs_seq ?_
  | with_reducible refine rs_asg ?_
  | with_reducible refine rs_ret ?_
  | with_reducible refine rs_if ?_
  | with_reducible refine rs_next ?_
  | with_reducible refine rg_name ?_
  | ((with_reducible refine rv_var (v := ?vv) ?hv ?_); (case hv => exact rfl))
  | with_reducible refine rv_c ?_
  | with_reducible refine rv_op ?_
  | with_reducible refine rv_cons ?_
  | with_reducible refine rv_nil ?_
  | with_reducible refine rv_rI0 ?_
  | ((with_reducible refine rv_rI ?hc ?_); (case hc => walk_at "side"))
  | ((with_reducible refine rv_eq ?hc ?_); (case hc => exact rfl))
  | ((with_reducible refine rv_ne ?hc ?_); (case hc => exact rfl))
  | with_reducible refine rv_test ?_
  | with_reducible refine rv_bl ?_
  | with_reducible refine rv_cb ?_
  | with_reducible refine rv_call ?_
  | with_reducible refine rv_tup ?_
  | with_reducible refine rv_lst ?_
  | with_reducible refine rv_tB ?_
  | with_reducible refine rv_or ?_
  | with_reducible refine rv_and ?_
  | with_reducible refine rv_not ?_
  | with_reducible refine rv_andV ?_
  | with_reducible refine rv_orV ?_
  | with_reducible refine rv_notV ?_
  | with_reducible refine rv_ifE ?_
  | with_reducible refine rs_drop ?_
  | with_reducible refine iteT ?_
  | with_reducible refine iteF ?_
  | with_reducible refine ro_nx ?_
  | with_reducible refine ro_rt ?_
  | with_reducible refine ro_ct ?_
  | with_reducible refine ro_bk ?_)
local macro_rules | `(tactic| walk_at "rd") => `(tactic| repeat walk_at "rd1")
local macro_rules | `(tactic| walk_at "side") => `(tactic| first
  | assumption
  | exact (show CPow _ _ from ⟨by decide, by decide, by decide⟩)
  | exact (show CMul _ _ from .inl ⟨by decide, by decide⟩)
  | exact (show CMul _ _ from .inr ⟨by decide, by decide⟩)
  | (show (0 : Int) < _; decide)
  | (show CMul _ _; first | exact .inl ⟨by omega, by omega⟩ | exact .inr ⟨by omega, by omega⟩)
  | omega)
local macro_rules | `(tactic| walk_at "rd1") => `(tactic| first
  | with_reducible refine rs_for ?_
  | with_reducible refine ri_zip ?_
  | with_reducible refine ri_list ?_
  | with_reducible refine ri_rng1 ?_
  | with_reducible refine rv_lc ?_
  | with_reducible refine rv_xfl ?_
  | with_reducible refine rs_par3 ?_
  | with_reducible refine rv_yes ?_
  | with_reducible refine rg_tup ?_
  | with_reducible refine rg_cons ?_
  | with_reducible refine rg_nil ?_)
local macro_rules | `(tactic| walk_at "rd1") => `(tactic| first
  | with_reducible refine ri_str ?_
  | with_reducible refine rv_sl ?_
  | with_reducible refine rv_part ?_
  | with_reducible refine rv_nopart ?_
  | with_reducible refine rv_callS ?_
  | with_reducible refine rv_chain ?_
  | with_reducible refine rv_leS ?_
  | with_reducible refine rv_inS ?_)
def noE (c : Nat) : Bool := !(c == 101)
def numB (t : List Nat) : Bool :=
  if plainB (t.takeWhile noE) = true then
    if (t.takeWhile noE).length = t.length then decide ((t.takeWhile noE).length ≤ 18)
    else !decide (t.takeWhile noE = [48]) && !decide (t.drop ((t.takeWhile noE).length + 1) = [48]) && decide ((t.drop ((t.takeWhile noE).length + 1)).length ≤ 2) && plainB (t.drop ((t.takeWhile noE).length + 1)) &&
      decide ((t.takeWhile noE).length + NumText.digitsVal (t.drop ((t.takeWhile noE).length + 1)) ≤ 18)
  else false
theorem tw_no : ∀ {t : List Nat}, 101 ∉ t → t.takeWhile noE = t
  | [], _ => rfl
  | c :: t, h => by
    have h1 : noE c = true := by
      unfold noE
      have : ¬ c = 101 := fun e => h (by rw [e]; exact List.mem_cons_self)
      simp [this]
    rw [List.takeWhile_cons, h1, if_pos rfl, tw_no fun z => h (List.mem_cons_of_mem _ z)]
theorem tw_e : ∀ {p q : List Nat}, 101 ∉ p → (p ++ 101 :: q).takeWhile noE = p
  | [], q, _ => by
    rw [List.nil_append, List.takeWhile_cons]
    rfl
  | c :: p, q, h => by
    have h1 : noE c = true := by
      unfold noE
      have : ¬ c = 101 := fun e => h (by rw [e]; exact List.mem_cons_self)
      simp [this]
    rw [List.cons_append, List.takeWhile_cons, h1, if_pos rfl, tw_e fun z => h (List.mem_cons_of_mem _ z)]
theorem split_e : ∀ t : List Nat, 101 ∉ t ∨ ∃ p q, t = p ++ 101 :: q ∧ 101 ∉ p
  | [] => .inl (by simp)
  | c :: t => by
    by_cases hc : c = 101
    · exact .inr ⟨[], t, by rw [hc]; rfl, by simp⟩
    · rcases split_e t with h | ⟨p, q, e, h⟩
      · exact .inl (by simp [h]; exact fun z => hc z.symm)
      · exact .inr ⟨c :: p, q, by rw [e]; rfl, by simp [h]; exact fun z => hc z.symm⟩
theorem numB_no {t : List Nat} (h : 101 ∉ t) : numB t = (plainB t && decide (t.length ≤ 18)) := by
  unfold numB
  rw [tw_no h]
  by_cases p : plainB t = true
  · rw [if_pos p, if_pos rfl, p]
    rfl
  · rw [if_neg p, Bool.eq_false_iff.mpr p]
    rfl
theorem numB_e {p q : List Nat} (h : 101 ∉ p) : numB (p ++ 101 :: q) = (plainB p && (!decide (p = [48]) && !decide (q = [48]) && decide (q.length ≤ 2) && plainB q && decide (p.length + NumText.digitsVal q ≤ 18))) := by
  unfold numB
  rw [tw_e h]
  have e : (p ++ 101 :: q).drop (p.length + 1) = q := by
    rw [show p ++ 101 :: q = (p ++ [101]) ++ q by simp, List.drop_append_of_le_length (by simp), List.drop_of_length_le (by simp)]
    rfl
  by_cases z : plainB p = true
  · rw [if_pos z, if_neg (by simp), z, e]
    rfl
  · rw [if_neg z, Bool.eq_false_iff.mpr z]
    rfl
def spNumber : Sp := fun vs H Q _ => ∃ t : List Nat, vs = [.str (S t)] ∧ t.length ≤ 4000 ∧ ∀ H', Same H H' → Q (.bl (numB t)) H'
theorem plain_figs {t : List Nat} (h : plainB t = true) : t ≠ [] ∧ t.all isF = true := by
  unfold plainB at h
  simp only [Bool.and_eq_true] at h
  exact ⟨by simpa using h.1.1, h.1.2⟩
theorem iteB {c : Bool} {A B : Prop} (h1 : c = true → A) (h2 : c = false → B) : if c = true then A else B := by
  cases c
  · exact iteF (h2 rfl)
  · exact iteT (h1 rfl)
theorem scNumber : FnScope ["word", "head", "parted", "tail"] ["word"] (defScope sNumber) := ⟨rfl, rfl, rfl, by decide +kernel, rfl, by decide +kernel, by decide +kernel⟩
theorem ok_Number {f fP fF : Addr} {fd dP dF : FuncData} (F : Fun K "is_number" "is_number" sNumber f fd) (T : Glo K mg aK aL aS) (FF : Fun K "is_figure" "is_figure" sFigure fF dF) (gF : mg "is_figure" = some (.ref fF)) (bF : L2.Binds K dF ["sign"] [])
    (FP : Fun K "is_plain_number" "is_plain_number" sPlain fP dP) (gP : mg "is_plain_number" = some (.ref fP)) (bP : L2.Binds K dP ["word"] []) : FnOk P w K mg base CX0 3 f fd ["word"] spNumber := by
  have GP : FnOk P w K mg base CX0 2 fP dP ["word"] spPlain := ok_Plain FP T FF gF bF
  obtain ⟨t18, h18⟩ := T.c18
  refine F.ok scNumber (fun vs H Q E h => ?_) (fun cdv A outer s H vs Q E hr h => ?_)
  · obtain ⟨c, rfl, _⟩ := h
    rfl
  · refine ⟨_, (pss_cons (ps_asg (pe_partition (pv 0) pe_str) (pg_tup (by rfl) (pgs_cons (pg_name (i := 1) scNumber.nd rfl (.inl rfl)) (pgs_cons (pg_name (i := 2) scNumber.nd rfl (.inl rfl)) (pgs_cons (pg_name (i := 3) scNumber.nd rfl (.inl rfl)) pgs_nil)))))
        (pss_cons (ps_if (pt_not (pt_val (pe_call GP hr (by rfl) gP FP.kp bP .nil pass0 (pa_cons (pv 1) pa_nil)))) (pss_one (ps_ret pe_bl)) pss_nil)
        (pss_cons (ps_if (pt_cmpR op_eq (pv 2) pe_str (nomark _)) (pss_one (ps_ret (pe_cmpR op_le (pe_callB call_len_str (by rfl) T.mL PySem.boot_len (pa_cons (pv 1) pa_nil)) (pe_glob (by rfl) h18 (v := .int 18) ⟨_, rfl⟩) (nomark _)))) pss_nil)
        (pss_cons (ps_if (PW.pt (pw_or (pt_cmpR op_eq (pv 1) pe_str (nomark _)) (pw_or (pt_cmpR op_eq (pv 3) pe_str (nomark _)) (pw_or (pt_cmpR op_gt (pe_callB call_len_str (by rfl) T.mL PySem.boot_len (pa_cons (pv 3) pa_nil)) pe_int (nomark _)) (pw_or1 (pt_not (pt_val (pe_call GP hr (by rfl) gP FP.kp bP .nil pass0 (pa_cons (pv 3) pa_nil))))))))) (pss_one (ps_ret pe_bl)) pss_nil)
        (pss_one (ps_ret (pe_cmpR op_le (pe_op op_add (pe_callB call_len_str (by rfl) T.mL PySem.boot_len (pa_cons (pv 1) pa_nil)) (pe_callTy call_int_str (by rfl) T.mN (by decide +kernel) (pa_cons (pv 3) pa_nil))) (pe_glob (by rfl) h18 (v := .int 18) ⟨_, rfl⟩) (nomark _)))))))), ?_⟩
    obtain ⟨t, rfl, hl, q⟩ := h
    walk_at "rd"
    refine ⟨_, rfl, ⟨_, rfl⟩, ?_⟩
    walk_at "rd"
    refine ⟨S t, S [101], rfl, rfl, rfl, len_le hl, fun p0 hp0 => ?_⟩
    rcases split_e t with ne | ⟨p, u, et, ne⟩
    · rw [partition_none (by simp) (par_head_none ne)]
      refine ⟨p0, _, rfl, .inl (.inl upd_same), rfl, ?_⟩
      have s0 := same_upd (o := .tup [.str (S t), .str (S []), .str (S [])]) hp0
      walk_at "rd"
      refine ⟨_, rfl, hl, fun H1 s1 => ?_⟩
      have k1 := s0.trans s1
      rw [numB_no ne] at q
      refine ⟨_, rfl, iteB (fun h1 => ?_) (fun h1 => ?_)⟩
      · have h1' : plainB t = false := by simpa using h1
        walk_at "rd"
        rw [h1'] at q
        exact q H1 k1
      · have h1' : plainB t = true := by simpa using h1
        walk_at "rd"
        refine iteTe rfl ?_
        walk_at "rd"
        refine ⟨S t, rfl, len_le hl, ?_⟩
        rw [S_len]
        walk_at "rd"
        rw [h1'] at q
        have e : decide ((t.length : Int) ≤ 18) = decide (t.length ≤ 18) := decide_eq_decide.mpr (by omega)
        rw [e]
        exact q H1 k1
    · have e2 : t = p ++ ((101 :: []) ++ u) := et
      have hlp : p.length ≤ 4000 := by rw [et] at hl; simp at hl; omega
      have hlu : u.length ≤ 4000 := by rw [et] at hl; simp at hl; omega
      rw [partition_some (p := p) (q := u) (by simp) (by rw [e2]; exact par_head u ne)]
      refine ⟨p0, _, rfl, .inl (.inl upd_same), rfl, ?_⟩
      have s0 := same_upd (o := .tup [.str (S p), .str (S [101]), .str (S u)]) hp0
      walk_at "rd"
      refine ⟨_, rfl, hlp, fun H1 s1 => ?_⟩
      have k1 := s0.trans s1
      rw [et, numB_e ne] at q
      refine ⟨_, rfl, iteB (fun h1 => ?_) (fun h1 => ?_)⟩
      · have h1' : plainB p = false := by simpa using h1
        walk_at "rd"
        rw [h1'] at q
        exact q H1 k1
      · have h1' : plainB p = true := by simpa using h1
        rw [h1', Bool.true_and] at q
        walk_at "rd"
        refine iteFe rfl ?_
        walk_at "rd"
        refine iteB (fun h2 => ?_) (fun h2 => ?_)
        · have h2' : p = [48] := of_decide_eq_true (eqS (u := [48]) h2)
          walk_at "rd"
          rw [decide_eq_true h2'] at q
          exact q H1 k1
        · have h2' : ¬ p = [48] := of_decide_eq_false (eqS (u := [48]) h2)
          walk_at "rd"
          refine iteB (fun h3 => ?_) (fun h3 => ?_)
          · have h3' : u = [48] := of_decide_eq_true (eqS (u := [48]) h3)
            walk_at "rd"
            rw [decide_eq_true h3'] at q
            simp only [Bool.not_true, Bool.and_false, Bool.false_and] at q
            exact q H1 k1
          · have h3' : ¬ u = [48] := of_decide_eq_false (eqS (u := [48]) h3)
            walk_at "rd"
            refine ⟨S u, rfl, len_le hlu, ?_⟩
            rw [S_len]
            walk_at "rd"
            refine iteB (fun h4 => ?_) (fun h4 => ?_)
            · have h4' : ¬ u.length ≤ 2 := by have := of_decide_eq_true h4; omega
              walk_at "rd"
              rw [decide_eq_false h4'] at q
              simp only [Bool.and_false, Bool.false_and] at q
              exact q H1 k1
            · have h4' : u.length ≤ 2 := by have := of_decide_eq_false h4; omega
              walk_at "rd"
              refine ⟨_, rfl, hlu, fun H2 s2 => ?_⟩
              have k2 := k1.trans s2
              refine ⟨_, rfl, iteB (fun h5 => ?_) (fun h5 => ?_)⟩
              · have h5' : plainB u = false := by simpa using h5
                walk_at "rd"
                rw [h5'] at q
                simp only [Bool.and_false, Bool.false_and] at q
                exact q H2 k2
              · have h5' : plainB u = true := by simpa using h5
                have fg := plain_figs h5'
                walk_at "rd"
                refine ⟨S p, rfl, len_le hlp, ?_⟩
                rw [S_len]
                walk_at "rd"
                refine ⟨S u, _, rfl, int_S fg.2 fg.1 (by omega), (by rw [S_len]; omega), ?_⟩
                walk_at "rd"
                rw [decide_eq_false h2', decide_eq_false h3', decide_eq_true h4', h5'] at q
                have e : decide (((p.length : Nat) : Int) + ((NumText.digitsVal u : Nat) : Int) ≤ 18) = decide (p.length + NumText.digitsVal u ≤ 18) := decide_eq_decide.mpr (by omega)
                rw [e]
                exact q H2 k2
end
end My

namespace My
open PySem PySem.Spec PyProof.Rows L2 XR SX
section
variable {P : Program} {w : World} {K : PySem.W.Frag} {mg : Str → Option Value} {base : Heap} {aK aL aS : Addr}
local macro_rules | `(tactic| walk_at "rd1") => `(tactic| first
  | with_reducible refine rs_seq ?_
  | with_reducible refine rs_asg ?_
  | with_reducible refine rs_ret ?_
  | with_reducible refine rs_if ?_
  | with_reducible refine rs_next ?_
  | with_reducible refine rg_name ?_
  | ((with_reducible refine rv_var (v := ?vv) ?hv ?_); (case hv => exact rfl))
  | with_reducible refine rv_c ?_
  | with_reducible refine rv_op ?_
  | with_reducible refine rv_cons ?_
  | with_reducible refine rv_nil ?_
  | with_reducible refine rv_rI0 ?_
  | ((with_reducible refine rv_rI ?hc ?_); (case hc => walk_at "side"))
  | ((with_reducible refine rv_eq ?hc ?_); (case hc => exact rfl))
  | ((with_reducible refine rv_ne ?hc ?_); (case hc => exact rfl))
  | with_reducible refine rv_test ?_
  | with_reducible refine rv_bl ?_
  | with_reducible refine rv_cb ?_
  | with_reducible refine rv_call ?_
  | with_reducible refine rv_tup ?_
  | with_reducible refine rv_lst ?_
  | with_reducible refine rv_tB ?_
  | with_reducible refine rv_or ?_
  | with_reducible refine rv_and ?_
  | with_reducible refine rv_not ?_
  | with_reducible refine rv_andV ?_
  | with_reducible refine rv_orV ?_
  | with_reducible refine rv_notV ?_
  | with_reducible refine rv_ifE ?_
  | with_reducible refine rs_drop ?_
  | with_reducible refine iteT ?_
  | with_reducible refine iteF ?_
  | with_reducible refine ro_nx ?_
  | with_reducible refine ro_rt ?_
  | with_reducible refine ro_ct ?_
  | with_reducible refine ro_bk ?_)
local macro_rules | `(tactic| walk_at "rd") => `(tactic| repeat walk_at "rd1")
local macro_rules | `(tactic| walk_at "side") => `(tactic| first
  | assumption
  | exact (show CPow _ _ from ⟨by decide, by decide, by decide⟩)
  | exact (show CMul _ _ from .inl ⟨by decide, by decide⟩)
  | exact (show CMul _ _ from .inr ⟨by decide, by decide⟩)
  | (show (0 : Int) < _; decide)
  | (show CMul _ _; first | exact .inl ⟨by omega, by omega⟩ | exact .inr ⟨by omega, by omega⟩)
  | omega)
local macro_rules | `(tactic| walk_at "rd1") => `(tactic| first
  | with_reducible refine rs_for ?_
  | with_reducible refine ri_zip ?_
  | with_reducible refine ri_list ?_
  | with_reducible refine ri_rng1 ?_
  | with_reducible refine rv_lc ?_
  | with_reducible refine rv_xfl ?_
  | with_reducible refine rs_par3 ?_
  | with_reducible refine rv_yes ?_
  | with_reducible refine rg_tup ?_
  | with_reducible refine rg_cons ?_
  | with_reducible refine rg_nil ?_)
local macro_rules | `(tactic| walk_at "rd1") => `(tactic| first
  | with_reducible refine ri_str ?_
  | with_reducible refine rv_sl ?_
  | with_reducible refine rv_part ?_
  | with_reducible refine rv_nopart ?_
  | with_reducible refine rv_callS ?_
  | with_reducible refine rv_chain ?_
  | with_reducible refine rv_leS ?_
  | with_reducible refine rv_inS ?_)
theorem while_m {c : TT} {tb : TS} {D : Ends} {σ : L2.St} {H : Hp} (Pv : Nat → L2.St → Hp → Prop) (m0 : Nat) (h0 : Pv m0 σ H)
    (hs : ∀ m σ H, Pv m σ H → c σ H fun b H1 => if b = true then ∃ N : L2.St → Hp → Prop, (∀ σ' H', N σ' H' → ∃ m', m' < m ∧ Pv m' σ' H') ∧ tb { D with nx := N, ct := N, bk := D.nx } σ H1 else D.nx σ H1) : tWhile c tb D σ H :=
  ⟨Pv, ⟨m0, h0⟩, hs⟩
def runL (t : List Nat) : Nat := (t.takeWhile isLF).length
theorem run_step {t : List Nat} {k c : Nat} (hc : t[k]? = some c) : runL (t.drop k) = if isLF c = true then 1 + runL (t.drop (k + 1)) else 0 := by
  have hk : k < t.length := (List.getElem?_eq_some_iff.mp hc).1
  have e : t.drop k = c :: t.drop (k + 1) := by
    rw [List.drop_eq_getElem_cons hk]
    congr 1
    exact Option.some.inj ((List.getElem?_eq_getElem hk).symm.trans hc)
  unfold runL
  rw [e, List.takeWhile_cons]
  by_cases h : isLF c = true
  · rw [if_pos h, if_pos h, List.length_cons]
    omega
  · rw [if_neg h, if_neg h]
    rfl
theorem run_end {t : List Nat} {k : Nat} (h : t.length ≤ k) : runL (t.drop k) = 0 := by
  rw [List.drop_of_length_le h]
  rfl
def spRunEnd : Sp := fun vs H Q _ => ∃ (t : List Nat) (k : Nat), vs = [.str (S t), .int (k : Int)] ∧ t.length ≤ 4000 ∧ k ≤ t.length ∧ Q (.int ((k + runL (t.drop k) : Nat) : Int)) H
theorem scRunEnd : FnScope ["text", "at"] ["text", "at"] (defScope sRunEnd) := ⟨rfl, rfl, rfl, by decide +kernel, rfl, by decide +kernel, by decide +kernel⟩
theorem ok_RunEnd {f fF : Addr} {fd dF : FuncData} (F : Fun K "run_end" "run_end" sRunEnd f fd) (mL : mg "len" = none) (FF : Fun K "is_letter_or_figure" "is_letter_or_figure" sLF fF dF) (gF : mg "is_letter_or_figure" = some (.ref fF)) (bF : L2.Binds K dF ["sign"] [])
    (GF : FnOk P w K mg base CX0 2 fF dF ["sign"] (spB isLF)) : FnOk P w K mg base CX0 3 f fd ["text", "at"] spRunEnd := by
  refine F.ok scRunEnd (fun vs H Q E h => ?_) (fun cdv A outer s H vs Q E hr h => ?_)
  · obtain ⟨t, k, rfl, _⟩ := h
    rfl
  · refine ⟨_, (pss_cons (ps_while PassesOwn.never (PW.pt (pw_and (pt_cmpR op_lt (pv 1) (pe_callB call_len_str (by rfl) mL PySem.boot_len (pa_cons (pv 0) pa_nil)) (nomark _)) (pw_and1 (pt_val (pe_call GF hr (by rfl) gF FF.kp bF .nil pass0 (pa_cons (pe_ix ix_str (pv 0) (pv 1) (fun _ _ => rfl)) pa_nil)))))) (pss_one (ps_aug (i := 1) scRunEnd.nd rfl (.inl rfl) pe_int ip_add)))
        (pss_one (ps_ret (pv 1)))), ?_⟩
    obtain ⟨t, k, rfl, hl, hk, q⟩ := h
    walk_at "rd"
    refine while_m (fun m σ H' => H' = H ∧ ∃ j : Nat, σ = [some (.str (S t)), some (.int (j : Int))] ∧ m = t.length - j ∧ j ≤ t.length ∧ j + runL (t.drop j) = k + runL (t.drop k)) _ ⟨rfl, k, rfl, rfl, hk, rfl⟩ ?_
    rintro m σ H' ⟨rfl, j, rfl, rfl, hj, ej⟩
    walk_at "rd"
    refine ⟨S t, rfl, len_le hl, ?_⟩
    rw [S_len]
    walk_at "rd"
    refine iteB (fun h1 => ?_) (fun h1 => ?_)
    · have hjl : j < t.length := by have := of_decide_eq_true h1; omega
      obtain ⟨c, hc⟩ : ∃ c, t[j]? = some c := ⟨t[j], List.getElem?_eq_getElem hjl⟩
      walk_at "rd"
      refine at_S hc (len_le hl) ?_
      walk_at "rd"
      refine ⟨c, rfl, ?_⟩
      refine ⟨_, rfl, iteB (fun h2 => ?_) (fun h2 => ?_)⟩
      · refine ⟨fun σ' H'' => H'' = H' ∧ σ' = [some (.str (S t)), some (.int ((j + 1 : Nat) : Int))], ?_, ?_⟩
        · rintro σ' H'' ⟨rfl, rfl⟩
          refine ⟨t.length - (j + 1), by omega, rfl, j + 1, rfl, rfl, hjl, ?_⟩
          rw [run_step hc, if_pos h2] at ej
          omega
        · exact ⟨_, rfl, _, _, rfl, rfl, rfl, rfl⟩
      · walk_at "rd"
        rw [run_step hc, h2, if_neg Bool.false_ne_true] at ej
        rw [← ej] at q
        exact q
    · have hjl : ¬ j < t.length := by have := of_decide_eq_false h1; omega
      walk_at "rd"
      rw [run_end (by omega)] at ej
      rw [← ej] at q
      exact q
end
end My

namespace My
open PySem PySem.Spec PyProof.Rows L2 XR SX
section
variable {P : Program} {w : World} {K : PySem.W.Frag} {mg : Str → Option Value} {base : Heap} {aK aL aS cT fT : Addr} {fdT : FuncData}
local macro_rules | `(tactic| walk_at "rd1") => `(tactic| first
  | with_reducible refine rs_seq ?_
  | with_reducible refine rs_asg ?_
  | with_reducible refine rs_ret ?_
  | with_reducible refine rs_if ?_
  | with_reducible refine rs_next ?_
  | with_reducible refine rg_name ?_
  | ((with_reducible refine rv_var (v := ?vv) ?hv ?_); (case hv => exact rfl))
  | with_reducible refine rv_c ?_
  | with_reducible refine rv_op ?_
  | with_reducible refine rv_cons ?_
  | with_reducible refine rv_nil ?_
  | with_reducible refine rv_rI0 ?_
  | ((with_reducible refine rv_rI ?hc ?_); (case hc => walk_at "side"))
  | ((with_reducible refine rv_eq ?hc ?_); (case hc => exact rfl))
  | ((with_reducible refine rv_ne ?hc ?_); (case hc => exact rfl))
  | with_reducible refine rv_test ?_
  | with_reducible refine rv_bl ?_
  | with_reducible refine rv_cb ?_
  | with_reducible refine rv_call ?_
  | with_reducible refine rv_tup ?_
  | with_reducible refine rv_lst ?_
  | with_reducible refine rv_tB ?_
  | with_reducible refine rv_or ?_
  | with_reducible refine rv_and ?_
  | with_reducible refine rv_not ?_
  | with_reducible refine rv_andV ?_
  | with_reducible refine rv_orV ?_
  | with_reducible refine rv_notV ?_
  | with_reducible refine rv_ifE ?_
  | with_reducible refine rs_drop ?_
  | with_reducible refine iteT ?_
  | with_reducible refine iteF ?_
  | with_reducible refine ro_nx ?_
  | with_reducible refine ro_rt ?_
  | with_reducible refine ro_ct ?_
  | with_reducible refine ro_bk ?_)
local macro_rules | `(tactic| walk_at "rd") => `(tactic| repeat walk_at "rd1")
local macro_rules | `(tactic| walk_at "side") => `(tactic| first
  | assumption
  | exact (show CPow _ _ from ⟨by decide, by decide, by decide⟩)
  | exact (show CMul _ _ from .inl ⟨by decide, by decide⟩)
  | exact (show CMul _ _ from .inr ⟨by decide, by decide⟩)
  | (show (0 : Int) < _; decide)
  | (show CMul _ _; first | exact .inl ⟨by omega, by omega⟩ | exact .inr ⟨by omega, by omega⟩)
  | omega)
local macro_rules | `(tactic| walk_at "rd1") => `(tactic| first
  | with_reducible refine rs_for ?_
  | with_reducible refine ri_zip ?_
  | with_reducible refine ri_list ?_
  | with_reducible refine ri_rng1 ?_
  | with_reducible refine rv_lc ?_
  | with_reducible refine rv_xfl ?_
  | with_reducible refine rs_par3 ?_
  | with_reducible refine rv_yes ?_
  | with_reducible refine rg_tup ?_
  | with_reducible refine rg_cons ?_
  | with_reducible refine rg_nil ?_)
local macro_rules | `(tactic| walk_at "rd1") => `(tactic| first
  | with_reducible refine ri_str ?_
  | with_reducible refine rv_sl ?_
  | with_reducible refine rv_part ?_
  | with_reducible refine rv_nopart ?_
  | with_reducible refine rv_callS ?_
  | with_reducible refine rv_chain ?_
  | with_reducible refine rv_leS ?_
  | with_reducible refine rv_inS ?_)
/-- __init__ of NoText: a new dict, not there before -/
def spN (C : Addr) : Sp := fun vs H Q _ => ∃ (a : Addr) (x : V), vs = [.ref a, x] ∧ H a = some (exo a C none) ∧
  ∀ H' dx, H dx = none → dx ≠ a → (∀ b o, b ≠ a → H b = some o → H' b = some o) → H' a = some (exo a C (some dx)) → H' dx = some (exd dx [("at", x)]) → Q .non H'
theorem ok_iText2 {f C : Addr} {fd : FuncData} {dvs : List V} (F : FunD K "__init__" "NoText.__init__" (defArgs iText) (defBody iText) (defScope iText) dvs [] f fd) (O : OexC K C) (n1 : PySem.W.findIn K (.ref C) "at" = some none) : FnOk P w K mg base CX0 1 f fd ["self", "at"] (spN C) := by
  refine F.ok scIText (fun vs H Q E h => ?_) (fun cdv A outer s H vs Q E hr h => ?_)
  · obtain ⟨a, x, rfl, _⟩ := h
    rfl
  · refine ⟨_, pss_one (ps_ost (pv 0) (pv 1)), ?_⟩
    obtain ⟨a, x, rfl, ha, q⟩ := h
    refine ⟨_, rfl, _, rfl, a, C, rfl, O, n1, .inl ⟨ha, fun dx nd ne => ?_⟩⟩
    refine q _ dx nd ne (fun b o hb z => ?_) upd_same ?_
    · rw [upd_ne hb, upd_ne (ne_of_none z nd)]
      exact z
    · rw [upd_ne ne, upd_same]
/-- what the written part says of NoText -/
structure TextC (K : PySem.W.Frag) (mg : Str → Option Value) (cT fT : Addr) (fdT : FuncData) : Prop where
  o : OexC K cT
  i : PySem.W.findIn K (.ref cT) "__init__" = some (some (.ref fT))
  t : PySem.W.typeIn K (.ref fT) = some (.type "function")
  F : FunD K "__init__" "NoText.__init__" (defArgs iText) (defBody iText) (defScope iText) [.int 0] [] fT fdT
  n : PySem.W.findIn K (.ref cT) "at" = some none
  g : mg "NoText" = some (.ref cT)
theorem no_in {H : Hp} {x : V} {cT : Addr} {Q : XK} (q : ∀ H' d, Same H H' → H' d = some (.xd [("at", x)]) → Q (.ref cT) (some d) H') :
    [x].length ≤ 1000 ∧ ∀ a, H a = none → spN cT (.ref a :: ([x] ++ [])) (upd H a (exo a cT none))
      (fun v H2 => v = .non ∧ ∃ (d : Addr) (fs : List (Str × V)), H2 a = some (exo a cT (some d)) ∧ H2 d = some (exd d fs) ∧ H d = none ∧ Q (.ref cT) (some d) (upd (del H2 a) d (.xd fs))) (fun _ _ _ => False) := by
  refine ⟨by show 1 ≤ 1000; decide, fun a ha => ⟨a, x, rfl, upd_same, fun H' dx hdx ne keep ea ed => ⟨rfl, dx, _, ea, ed, ?_, ?_⟩⟩⟩
  · rw [upd_ne ne] at hdx
    exact hdx
  · refine q _ dx (fun b o z => ?_) upd_same
    have hba : b ≠ a := fun e => by rw [e, ha] at z; cases z
    have hbd : b ≠ dx := fun e => by rw [upd_ne ne, ← e, z] at hdx; cases hdx
    rw [upd_ne hbd, del_ne hba]
    exact keep b o hba (by rw [upd_ne hba]; exact z)
def sortB (t : List Nat) : Option Str := if kept t = true then some "kept" else if nameB t = true then some "name" else if numB t = true then some "number" else none
def spSort (cT : Addr) : Sp := fun vs H Q E => ∃ (t : List Nat) (k : Nat), vs = [.str (S t), .int (k : Int)] ∧ t.length ≤ 4000 ∧ (∀ x, sortB t = some x → ∀ H', Same H H' → Q (.str x) H') ∧
  (sortB t = none → ∀ H' d, Same H H' → H' d = some (.xd [("at", .int (k : Int))]) → E (.ref cT) (some d) H')
def signB (u : List Nat) : Option Nat := if inV (.str (S (u.take 2))) (longL.map V.str) = true then some 2 else if inV (.str (S (u.take 1))) (shortL.map V.str) = true then some 1 else none
def spSign (cT : Addr) : Sp := fun vs H Q E => ∃ (t : List Nat) (k c : Nat), vs = [.str (S t), .int (k : Int)] ∧ t.length ≤ 4000 ∧ t[k]? = some c ∧ (∀ n, signB (t.drop k) = some n → ∀ H', Same H H' → Q (.int ((k + n : Nat) : Int)) H') ∧
  (signB (t.drop k) = none → ∀ H' d, Same H H' → H' d = some (.xd [("at", .int (k : Int))]) → E (.ref cT) (some d) H')
theorem take1 {t : List Nat} {k c : Nat} (h : t[k]? = some c) : (t.drop k).take 1 = [c] := by
  have hk : k < t.length := (List.getElem?_eq_some_iff.mp h).1
  rw [List.drop_eq_getElem_cons hk, List.take_succ_cons, List.take_zero]
  congr 1
  exact Option.some.inj ((List.getElem?_eq_getElem hk).symm.trans h)
theorem scSort : FnScope ["word", "at"] ["word", "at"] (defScope sSort) := ⟨rfl, rfl, rfl, by decide +kernel, rfl, by decide +kernel, by decide +kernel⟩
theorem scSign : FnScope ["text", "at"] ["text", "at"] (defScope sSign) := ⟨rfl, rfl, rfl, by decide +kernel, rfl, by decide +kernel, by decide +kernel⟩
theorem ok_Sort {f fN fU : Addr} {fd dN dU : FuncData} (F : Fun K "sort_of" "sort_of" sSort f fd) (T : Glo K mg aK aL aS) (C : TextC K mg cT fT fdT)
    (FN : Fun K "is_name" "is_name" sName fN dN) (gN : mg "is_name" = some (.ref fN)) (bN : L2.Binds K dN ["thing"] []) (GN : FnOk P w K mg base CX0 2 fN dN ["thing"] spName)
    (FU : Fun K "is_number" "is_number" sNumber fU dU) (gU : mg "is_number" = some (.ref fU)) (bU : L2.Binds K dU ["word"] []) (GU : FnOk P w K mg base CX0 3 fU dU ["word"] spNumber) : FnOk P w K mg base (L2.CX P w) 4 f fd ["word", "at"] (spSort cT) := by
  have GT : FnOk P w K mg base CX0 1 fT fdT ["self", "at"] (spN cT) := ok_iText2 C.F C.o C.n
  have bT1 := bText1 C.F
  refine F.okX scSort (fun vs H Q E h => ?_) (fun cdv A outer s H vs Q E hr h => ?_)
  · obtain ⟨t, k, rfl, _⟩ := h
    rfl
  · have hr2 := hr.mono (by decide : 2 ≤ 3)
    refine ⟨_, (pss_cons (ps_if (pt_cmpR op_in_seq (pv 0) (pe_glob (by rfl) T.gK (v := .ref aK) rfl) (by rfl)) (pss_one (ps_ret pe_str)) pss_nil)
        (pss_cons (ps_if (pt_val (pe_call GN hr2 (by rfl) gN FN.kp bN .nil pass0 (pa_cons (pv 0) pa_nil))) (pss_one (ps_ret pe_str)) pss_nil)
        (pss_cons (ps_if (pt_val (pe_call GU hr (by rfl) gU FU.kp bU .nil pass0 (pa_cons (pv 0) pa_nil))) (pss_one (ps_ret pe_str)) pss_nil)
        (pss_one (ps_raise rfl (takes_of rfl rfl rfl rfl) (pmk_oex C.o C.i C.t GT hr2 bT1 .nil pass0 (by rfl) C.g (pa_cons (pv 1) pa_nil))))))), ?_⟩
    obtain ⟨t, k, rfl, hl, q, e⟩ := h
    walk_at "rd"
    refine ⟨aK, _, rfl, .inr (T.sK H), rfl, (by decide +kernel), ?_⟩
    refine ⟨_, rfl, iteB (fun h1 => ?_) (fun h1 => ?_)⟩
    · have h1' : kept t = true := h1
      walk_at "rd"
      exact q _ (by unfold sortB; rw [if_pos h1']) H (Same.refl H)
    · have h1' : ¬ kept t = true := fun z => by
        have h1'' : kept t = false := h1
        rw [h1''] at z
        cases z
      walk_at "rd"
      refine ⟨t, rfl, hl, fun H1 s1 => ?_⟩
      refine ⟨_, rfl, iteB (fun h2 => ?_) (fun h2 => ?_)⟩
      · walk_at "rd"
        exact q _ (by unfold sortB; rw [if_neg h1', if_pos h2]) H1 s1
      · have h2' : ¬ nameB t = true := fun z => by rw [h2] at z; cases z
        walk_at "rd"
        refine ⟨t, rfl, hl, fun H2 s2 => ?_⟩
        refine ⟨_, rfl, iteB (fun h3 => ?_) (fun h3 => ?_)⟩
        · walk_at "rd"
          exact q _ (by unfold sortB; rw [if_neg h1', if_neg h2', if_pos h3]) H2 (s1.trans s2)
        · have h3' : ¬ numB t = true := fun z => by rw [h3] at z; cases z
          walk_at "rd"
          refine ⟨_, rfl, ?_⟩
          exact no_in fun H' d s3 hd => e (by unfold sortB; rw [if_neg h1', if_neg h2', if_neg h3']) H' d ((s1.trans s2).trans s3) hd
theorem ok_Sign {f : Addr} {fd : FuncData} (F : Fun K "sign_end" "sign_end" sSign f fd) (T : Glo K mg aK aL aS) (C : TextC K mg cT fT fdT) : FnOk P w K mg base (L2.CX P w) 3 f fd ["text", "at"] (spSign cT) := by
  have GT : FnOk P w K mg base CX0 1 fT fdT ["self", "at"] (spN cT) := ok_iText2 C.F C.o C.n
  have bT1 := bText1 C.F
  refine F.okX scSign (fun vs H Q E h => ?_) (fun cdv A outer s H vs Q E hr h => ?_)
  · obtain ⟨t, k, c, rfl, _⟩ := h
    rfl
  · refine ⟨_, (pss_cons (ps_if (pt_cmpR op_in_seq (pe_slice sl_str (pv 0) (po_some (pv 1)) (po_some (pe_op op_add (pv 1) pe_int))) (pe_glob (by rfl) T.gLo (v := .ref aL) rfl) (by rfl)) (pss_one (ps_ret (pe_op op_add (pv 1) pe_int))) pss_nil)
        (pss_cons (ps_if (pt_cmpR op_in_seq (pe_ix ix_str (pv 0) (pv 1) (fun _ _ => rfl)) (pe_glob (by rfl) T.gSh (v := .ref aS) rfl) (by rfl)) (pss_one (ps_ret (pe_op op_add (pv 1) pe_int))) pss_nil)
        (pss_one (ps_raise rfl (takes_of rfl rfl rfl rfl) (pmk_oex C.o C.i C.t GT hr bT1 .nil pass0 (by rfl) C.g (pa_cons (pv 1) pa_nil)))))), ?_⟩
    obtain ⟨t, k, c, rfl, hl, hc, q, e⟩ := h
    walk_at "rd"
    refine ⟨_, rfl, ?_⟩
    walk_at "rd"
    refine ⟨_, rfl, ?_⟩
    refine rv_cut (a := k) (b := k + 2) (len_le hl) ?_
    rw [show k + 2 - k = 2 by omega]
    walk_at "rd"
    refine ⟨aL, _, rfl, .inr (T.sLo H), rfl, (by decide +kernel), ?_⟩
    refine ⟨_, rfl, iteB (fun h1 => ?_) (fun h1 => ?_)⟩
    · have h1' : inV (.str (S ((t.drop k).take 2))) (longL.map V.str) = true := h1
      walk_at "rd"
      exact q 2 (by unfold signB; rw [if_pos h1']) H (Same.refl H)
    · have h1' : ¬ inV (.str (S ((t.drop k).take 2))) (longL.map V.str) = true := Bool.eq_false_iff.mp h1
      walk_at "rd"
      refine at_S hc (len_le hl) ?_
      walk_at "rd"
      refine ⟨aS, _, rfl, .inr (T.sSh H), rfl, (by decide +kernel), ?_⟩
      refine ⟨_, rfl, iteB (fun h2 => ?_) (fun h2 => ?_)⟩
      · have h2' : inV (.str (S ((t.drop k).take 1))) (shortL.map V.str) = true := by rw [take1 hc]; exact h2
        walk_at "rd"
        exact q 1 (by unfold signB; rw [if_neg h1', if_pos h2']) H (Same.refl H)
      · have h2' : ¬ inV (.str (S ((t.drop k).take 1))) (shortL.map V.str) = true := by rw [take1 hc]; exact Bool.eq_false_iff.mp h2
        walk_at "rd"
        refine ⟨_, rfl, ?_⟩
        exact no_in fun H' d s3 hd => e (by unfold signB; rw [if_neg h1', if_neg h2']) H' d s3 hd
end
end My

namespace My
open PySem PySem.Spec PyProof.Rows L2 XR SX
section
variable {P : Program} {w : World} {K : PySem.W.Frag} {mg : Str → Option Value} {base : Heap} {aK aL aS cT fT : Addr} {fdT : FuncData}
local macro_rules | `(tactic| walk_at "rd1") => `(tactic| first
  | with_reducible refine rs_seq ?_
  | with_reducible refine rs_asg ?_
  | with_reducible refine rs_ret ?_
  | with_reducible refine rs_if ?_
  | with_reducible refine rs_next ?_
  | with_reducible refine rg_name ?_
  | ((with_reducible refine rv_var (v := ?vv) ?hv ?_); (case hv => exact rfl))
  | with_reducible refine rv_c ?_
  | with_reducible refine rv_op ?_
  | with_reducible refine rv_cons ?_
  | with_reducible refine rv_nil ?_
  | with_reducible refine rv_rI0 ?_
  | ((with_reducible refine rv_rI ?hc ?_); (case hc => walk_at "side"))
  | ((with_reducible refine rv_eq ?hc ?_); (case hc => exact rfl))
  | ((with_reducible refine rv_ne ?hc ?_); (case hc => exact rfl))
  | with_reducible refine rv_test ?_
  | with_reducible refine rv_bl ?_
  | with_reducible refine rv_cb ?_
  | with_reducible refine rv_call ?_
  | with_reducible refine rv_tup ?_
  | with_reducible refine rv_lst ?_
  | with_reducible refine rv_tB ?_
  | with_reducible refine rv_or ?_
  | with_reducible refine rv_and ?_
  | with_reducible refine rv_not ?_
  | with_reducible refine rv_andV ?_
  | with_reducible refine rv_orV ?_
  | with_reducible refine rv_notV ?_
  | with_reducible refine rv_ifE ?_
  | with_reducible refine rs_drop ?_
  | with_reducible refine iteT ?_
  | with_reducible refine iteF ?_
  | with_reducible refine ro_nx ?_
  | with_reducible refine ro_rt ?_
  | with_reducible refine ro_ct ?_
  | with_reducible refine ro_bk ?_)
local macro_rules | `(tactic| walk_at "rd") => `(tactic| repeat walk_at "rd1")
local macro_rules | `(tactic| walk_at "side") => `(tactic| first
  | assumption
  | exact (show CPow _ _ from ⟨by decide, by decide, by decide⟩)
  | exact (show CMul _ _ from .inl ⟨by decide, by decide⟩)
  | exact (show CMul _ _ from .inr ⟨by decide, by decide⟩)
  | (show (0 : Int) < _; decide)
  | (show CMul _ _; first | exact .inl ⟨by omega, by omega⟩ | exact .inr ⟨by omega, by omega⟩)
  | omega)
local macro_rules | `(tactic| walk_at "rd1") => `(tactic| first
  | with_reducible refine rs_for ?_
  | with_reducible refine ri_zip ?_
  | with_reducible refine ri_list ?_
  | with_reducible refine ri_rng1 ?_
  | with_reducible refine rv_lc ?_
  | with_reducible refine rv_xfl ?_
  | with_reducible refine rs_par3 ?_
  | with_reducible refine rv_yes ?_
  | with_reducible refine rg_tup ?_
  | with_reducible refine rg_cons ?_
  | with_reducible refine rg_nil ?_)
local macro_rules | `(tactic| walk_at "rd1") => `(tactic| first
  | with_reducible refine ri_str ?_
  | with_reducible refine rv_sl ?_
  | with_reducible refine rv_part ?_
  | with_reducible refine rv_nopart ?_
  | with_reducible refine rv_callS ?_
  | with_reducible refine rv_chain ?_
  | with_reducible refine rv_leS ?_
  | with_reducible refine rv_inS ?_)
def blank (c : Nat) : Bool := decide (c ∈ [32, 10])
theorem blank_in (c : Nat) : inV (.str (S [c])) [.str " ", .str "\n"] = blank c := by
  have h1 : (.str " " : V) = .str (S [32]) := rfl
  have h2 : (.str "\n" : V) = .str (S [10]) := rfl
  rw [h1, h2]
  show ((S [32] == S [c]) || ((S [10] == S [c]) || false)) = _
  rw [S_beq_eq, S_beq_eq, Bool.or_false]
  unfold blank
  rw [Bool.eq_iff_iff]
  simp
  constructor
  · rintro (h | h)
    · exact .inl h.symm
    · exact .inr h.symm
  · rintro (h | h)
    · exact .inl h.symm
    · exact .inr h.symm
/-- a word that is told: its sort, its signs, where it begins -/
abbrev Ent := Str × List Nat × Nat
def entV (e : Ent) : List V := [.str e.1, .str (S e.2.1), .int (e.2.2 : Nat)]
def Ents (H : Hp) : List V → List Ent → Prop
  | [], [] => True
  | x :: xs, e :: es => (∃ p, x = .ref p ∧ H p = some (.tup (entV e))) ∧ Ents H xs es
  | _, _ => False
theorem Ents.keep {H H' : Hp} (k : ∀ b ys, H b = some (.tup ys) → H' b = some (.tup ys)) : ∀ {xs : List V} {es : List Ent}, Ents H xs es → Ents H' xs es
  | [], [], _ => True.intro
  | _ :: _, _ :: _, ⟨⟨p, e, h⟩, r⟩ => ⟨⟨p, e, k _ _ h⟩, Ents.keep k r⟩
theorem Ents.snoc {H : Hp} {p : Addr} {e : Ent} (hp : H p = some (.tup (entV e))) : ∀ {xs : List V} {es : List Ent}, Ents H xs es → Ents H (xs ++ [.ref p]) (es ++ [e])
  | [], [], _ => ⟨⟨p, rfl, hp⟩, True.intro⟩
  | _ :: _, _ :: _, ⟨a, r⟩ => ⟨a, Ents.snoc hp r⟩
theorem Ents.len {H : Hp} : ∀ {xs : List V} {es : List Ent}, Ents H xs es → xs.length = es.length
  | [], [], _ => rfl
  | _ :: _, _ :: _, ⟨_, r⟩ => congrArg (· + 1) (Ents.len r)
/-- the words of a text from a place on, by a function that reads one; where it reads none -/
inductive Scan (f : List Nat → Option (Str × Nat)) (t : List Nat) : Nat → List Ent → Option Nat → Prop
  | stop {k : Nat} : k = t.length → Scan f t k [] none
  | blank {k c : Nat} {es : List Ent} {z : Option Nat} : t[k]? = some c → blank c = true → Scan f t (k + 1) es z → Scan f t k es z
  | bad {k c : Nat} : t[k]? = some c → blank c = false → f (t.drop k) = none → Scan f t k [] (some k)
  | word {k c m : Nat} {s : Str} {es : List Ent} {z : Option Nat} : t[k]? = some c → blank c = false → f (t.drop k) = some (s, m) → 0 < m → k + m ≤ t.length → Scan f t (k + m) es z → Scan f t k ((s, (t.drop k).take m, k) :: es) z
def stepP (u : List Nat) : Option (Str × Nat) :=
  if isLF (u.headD 0) = true then (sortB (u.take (runL u))).map fun s => (s, runL u) else (signB u).map fun n => (("sign" : Str), n)
def spWords (cT : Addr) : Sp := fun vs H Q E => ∃ (t : List Nat) (es : List Ent) (z : Option Nat), vs = [.str (S t)] ∧ t.length ≤ 4000 ∧ Scan stepP t 0 es z ∧
  (z = none → ∀ H' a xs, Same H H' → H a = none → H' a = some (.lst xs) → Ents H' xs es → Q (.ref a) H') ∧
  (∀ k, z = some k → ∀ H' d, Same H H' → H' d = some (.xd [("at", .int (k : Nat))]) → E (.ref cT) (some d) H')
theorem headD_drop {t : List Nat} {k c : Nat} (h : t[k]? = some c) : (t.drop k).headD 0 = c := by
  have e := take1 h
  cases q : t.drop k with
  | nil => rw [q] at e; cases e
  | cons a r => rw [q] at e; exact (List.cons.inj e).1
theorem scWords : FnScope ["text", "told", "at", "end", "sort"] ["text"] (defScope sWords) := ⟨rfl, rfl, rfl, by decide +kernel, rfl, by decide +kernel, by decide +kernel⟩
theorem ok_Words {f fF fR fS fG : Addr} {fd dF dR dS dG : FuncData} (F : Fun K "words" "words" sWords f fd) (T : Glo K mg aK aL aS)
    (FF : Fun K "is_letter_or_figure" "is_letter_or_figure" sLF fF dF) (gF : mg "is_letter_or_figure" = some (.ref fF)) (bF : L2.Binds K dF ["sign"] []) (GF : FnOk P w K mg base CX0 2 fF dF ["sign"] (spB isLF))
    (FR : Fun K "run_end" "run_end" sRunEnd fR dR) (gR : mg "run_end" = some (.ref fR)) (bR : L2.Binds K dR ["text", "at"] []) (GR : FnOk P w K mg base CX0 3 fR dR ["text", "at"] spRunEnd)
    (FS : Fun K "sort_of" "sort_of" sSort fS dS) (gS : mg "sort_of" = some (.ref fS)) (bS : L2.Binds K dS ["word", "at"] []) (GS : FnOk P w K mg base (L2.CX P w) 4 fS dS ["word", "at"] (spSort cT))
    (FG : Fun K "sign_end" "sign_end" sSign fG dG) (gG : mg "sign_end" = some (.ref fG)) (bG : L2.Binds K dG ["text", "at"] []) (GG : FnOk P w K mg base (L2.CX P w) 3 fG dG ["text", "at"] (spSign cT)) :
    FnOk P w K mg base (L2.CX P w) 5 f fd ["text"] (spWords cT) := by
  refine F.okX scWords (fun vs H Q E h => ?_) (fun cdv A outer s H vs Q E hr h => ?_)
  · obtain ⟨t, es, z, rfl, _⟩ := h
    rfl
  · have hr2 := hr.mono (by decide : 2 ≤ 4)
    have hr3 := hr.mono (by decide : 3 ≤ 4)
    have tk : Takes (cxOf (L2.CX P w) P w K mg base ["text", "told", "at", "end", "sort"] "words" (defScope sWords) f cdv A outer s H E) (fun cls d _ H' => E cls d H') := takes_of rfl rfl rfl rfl
    refine ⟨_, (pss_cons (ps_set (i := 1) scWords.nd rfl (.inl rfl) (pe_lst pa_nil))
        (pss_cons (ps_set (i := 2) scWords.nd rfl (.inl rfl) pe_int)
        (pss_cons (ps_while (passes_of rfl) (pt_cmpR op_lt (pv 2) (pe_callB call_len_str (by rfl) T.mL PySem.boot_len (pa_cons (pv 0) pa_nil)) (nomark _)) (pss_cons (ps_if (pt_cmpR op_in_seq (pe_ix ix_str (pv 0) (pv 2) (fun _ _ => rfl)) (pe_tup (pa_cons pe_str (pa_cons pe_str pa_nil))) (by rfl)) (pss_cons (ps_aug (i := 2) scWords.nd rfl (.inl rfl) pe_int ip_add)
        (pss_one ps_continue)) pss_nil)
        (pss_cons (ps_if (pt_val (pe_call GF hr2 (by rfl) gF FF.kp bF .nil pass0 (pa_cons (pe_ix ix_str (pv 0) (pv 2) (fun _ _ => rfl)) pa_nil))) (pss_cons (ps_set (i := 3) scWords.nd rfl (.inl rfl) (pe_call GR hr3 (by rfl) gR FR.kp bR .nil pass0 (pa_cons (pv 0) (pa_cons (pv 2) pa_nil))))
        (pss_one (ps_set (i := 4) scWords.nd rfl (.inl rfl) (pe_callS GS hr (by rfl) gS FS.kp bS (fun σ => passAt tk σ) (pa_cons (pe_slice sl_str (pv 0) (po_some (pv 2)) (po_some (pv 3))) (pa_cons (pv 2) pa_nil)))))) (pss_cons (ps_set (i := 3) scWords.nd rfl (.inl rfl) (pe_callS GG hr3 (by rfl) gG FG.kp bG (fun σ => passAt tk σ) (pa_cons (pv 0) (pa_cons (pv 2) pa_nil))))
        (pss_one (ps_set (i := 4) scWords.nd rfl (.inl rfl) pe_str))))
        (pss_cons (ps_expr (pe_bm PySem.F.plainAttrs_list PySem.F.slot_list_append PySem.F.type_list_append mt_append (pv 1) (pa_cons (pe_tup (pa_cons (pv 4) (pa_cons (pe_slice sl_str (pv 0) (po_some (pv 2)) (po_some (pv 3))) (pa_cons (pv 2) pa_nil)))) pa_nil)))
        (pss_one (ps_set (i := 2) scWords.nd rfl (.inl rfl) (pv 3)))))))
        (pss_one (ps_ret (pv 1)))))), ?_⟩
    obtain ⟨t, es, z, rfl, hl, hs, q, e⟩ := h
    walk_at "rd"
    refine ⟨by decide, fun a ha => ?_⟩
    walk_at "rd"
    refine while_m (fun m σ H' => ∃ (k : Nat) (o3 o4 : Option V) (xs : List V) (e0 e1 : List Ent), σ = [some (.str (S t)), some (.ref a), some (.int (k : Int)), o3, o4] ∧ m = t.length - k ∧ k ≤ t.length ∧ Same H H' ∧ H' a = some (.lst xs) ∧ Ents H' xs e0 ∧ e0.length ≤ k ∧ es = e0 ++ e1 ∧ Scan stepP t k e1 z) t.length
      ⟨0, none, none, [], [], es, rfl, rfl, Nat.zero_le _, same_upd ha, upd_same, True.intro, Nat.le_refl _, rfl, hs⟩ ?_
    rintro m σ H' ⟨k, o3, o4, xs, e0, e1, rfl, rfl, hk, sm, hd, en, hle, rfl, hk1⟩
    walk_at "rd"
    refine ⟨S t, rfl, len_le hl, ?_⟩
    rw [S_len]
    walk_at "rd"
    refine iteB (fun h1 => ?_) (fun h1 => ?_)
    · have hkl : k < t.length := by have := of_decide_eq_true h1; omega
      obtain ⟨c, hc⟩ : ∃ c, t[k]? = some c := ⟨t[k], List.getElem?_eq_getElem hkl⟩
      refine ⟨fun σ' H'' => ∃ m', m' < t.length - k ∧ ∃ (k' : Nat) (o3 o4 : Option V) (xs : List V) (f0 f1 : List Ent), σ' = [some (.str (S t)), some (.ref a), some (.int (k' : Int)), o3, o4] ∧ m' = t.length - k' ∧ k' ≤ t.length ∧ Same H H'' ∧ H'' a = some (.lst xs) ∧ Ents H'' xs f0 ∧ f0.length ≤ k' ∧ e0 ++ e1 = f0 ++ f1 ∧ Scan stepP t k' f1 z, fun σ' H'' h => h, ?_⟩
      walk_at "rd"
      refine at_S hc (len_le hl) ?_
      walk_at "rd"
      refine ⟨(by show 2 ≤ sizeLine; decide), fun p hp => ?_⟩
      have sp := same_upd (o := .tup [.str " ", .str "\n"]) hp
      refine ⟨p, _, rfl, .inr (.inl (.inl upd_same)), rfl, rfl, ?_⟩
      rw [blank_in]
      refine ⟨_, rfl, iteB (fun h2 => ?_) (fun h2 => ?_)⟩
      · have h2p : blank c = true := h2
        cases hk1 with
        | stop h => omega
        | bad g1 g2 g3 => rw [hc] at g1; cases g1; rw [h2p] at g2; cases g2
        | word g1 g2 g3 g4 g5 g6 => rw [hc] at g1; cases g1; rw [h2p] at g2; cases g2
        | blank g1 g2 g3 =>
          refine ⟨_, rfl, _, _, rfl, rfl, ?_⟩
          refine ⟨t.length - (k + 1), by omega, k + 1, o3, o4, xs, e0, e1, rfl, rfl, hkl, sm.trans sp, sp _ _ hd, en.keep (fun b ys z => sp _ _ z), by omega, rfl, g3⟩
      · have h2' : blank c = false := h2
        walk_at "rd"
        refine at_S hc (len_le hl) ?_
        walk_at "rd"
        refine ⟨c, rfl, ?_⟩
        refine ⟨_, rfl, iteB (fun h3 => ?_) (fun h3 => ?_)⟩
        · have rs : stepP (t.drop k) = (sortB ((t.drop k).take (runL (t.drop k)))).map fun s => (s, runL (t.drop k)) := by
            unfold stepP
            rw [headD_drop hc, if_pos h3]
          have hrun : 0 < runL (t.drop k) := by rw [run_step hc, if_pos h3]; omega
          have hrl : k + runL (t.drop k) ≤ t.length := by
            have : runL (t.drop k) ≤ (t.drop k).length := by unfold runL; exact (List.takeWhile_prefix _).length_le
            rw [List.length_drop] at this
            omega
          walk_at "rd"
          refine ⟨t, k, rfl, hl, hk, ?_⟩
          walk_at "rd"
          refine ⟨_, rfl, ?_⟩
          walk_at "rd"
          refine ⟨_, rfl, ?_⟩
          refine rv_cut (a := k) (b := k + runL (t.drop k)) (len_le hl) ?_
          rw [show k + runL (t.drop k) - k = runL (t.drop k) by omega]
          walk_at "rd"
          refine ⟨_, k, rfl, (by rw [List.length_take, List.length_drop]; omega), fun x hx H3 s3 => ?_, fun hx H3 d s3 hd3 => ?_⟩
          · rw [hx] at rs
            have sm3 := (sm.trans sp).trans s3
            have hd3 : H3 a = some (.lst xs) := s3 _ _ (sp _ _ hd)
            have en3 : Ents H3 xs e0 := en.keep (fun b ys z => s3 _ _ (sp _ _ z))
            have hw : ∃ es', e1 = (x, (t.drop k).take (runL (t.drop k)), k) :: es' ∧ Scan stepP t (k + (runL (t.drop k))) es' z ∧ 0 < runL (t.drop k) ∧ k + (runL (t.drop k)) ≤ t.length := by
              cases hk1 with
              | stop h => omega
              | blank g1 g2 g3 => rw [hc] at g1; cases g1; rw [h2'] at g2; cases g2
              | bad g1 g2 g3 => rw [rs] at g3; cases g3
              | word g1 g2 g3 g4 g5 g6 =>
                rw [rs] at g3
                cases g3
                exact ⟨_, rfl, g6, g4, g5⟩
            obtain ⟨es', rfl, hsc, hm0, hml⟩ := hw
            walk_at "rd"
            refine rv_app rfl hd3 ?_
            walk_at "rd"
            refine ⟨_, rfl, ?_⟩
            walk_at "rd"
            refine ⟨_, rfl, ?_⟩
            refine rv_cut (a := k) (b := k + (runL (t.drop k))) (len_le hl) ?_
            rw [show k + (runL (t.drop k)) - k = runL (t.drop k) by omega]
            walk_at "rd"
            refine ⟨(by show 3 ≤ sizeLine; decide), fun p3 hp3 => ?_⟩
            have s4 := same_upd (o := .tup [.str x, .str (S ((t.drop k).take (runL (t.drop k)))), .int (k : Int)]) hp3
            refine ⟨xs, _, rfl, s4 _ _ hd3, ?_, ?_⟩
            · rw [en3.len]
              exact Nat.lt_of_le_of_lt (Nat.le_trans hle hk) (Nat.lt_of_le_of_lt hl (by rw [sizeLine_eq]; decide))
            walk_at "rd"
            have k4 : ∀ b ys, H3 b = some (.tup ys) → (upd (upd H3 p3 (.tup [.str x, .str (S ((t.drop k).take (runL (t.drop k)))), .int (k : Int)])) a (.lst (xs ++ [.ref p3]))) b = some (.tup ys) := fun b ys z => by
              rw [upd_ne (fun e => by rw [e, hd3] at z; cases z)]
              exact s4 _ _ z
            refine ⟨t.length - (k + (runL (t.drop k))), by omega, k + (runL (t.drop k)), _, _, xs ++ [.ref p3], e0 ++ [(x, (t.drop k).take (runL (t.drop k)), k)], es', rfl, rfl, hml, ?_, upd_same, ?_, ?_, ?_, hsc⟩
            · refine fun b o z => ?_
              rw [upd_ne (fun e => by rw [e, ha] at z; cases z)]
              exact s4 _ _ (sm3 _ _ z)
            · refine Ents.snoc ?_ (en3.keep k4)
              rw [upd_ne (fun e => by rw [e, hd3] at hp3; cases hp3), upd_same]
              rfl
            · rw [List.length_append]
              show e0.length + 1 ≤ _
              omega
            · rw [List.append_assoc]
              rfl
          · rw [hx] at rs
            have zk : z = some k := by
              cases hk1 with
              | stop h => omega
              | blank g1 g2 g3 => rw [hc] at g1; cases g1; rw [h2'] at g2; cases g2
              | word g1 g2 g3 g4 g5 g6 => rw [rs] at g3; cases g3
              | bad g1 g2 g3 => rfl
            exact e k zk H3 d ((sm.trans sp).trans s3) hd3
        · have rs : stepP (t.drop k) = (signB (t.drop k)).map fun n => (("sign" : Str), n) := by
            unfold stepP
            rw [headD_drop hc, h3, if_neg Bool.false_ne_true]
          walk_at "rd"
          refine ⟨t, k, c, rfl, hl, hc, fun n hx H3 s3 => ?_, fun hx H3 d s3 hd3 => ?_⟩
          · rw [hx] at rs
            walk_at "rd"
            have sm3 := (sm.trans sp).trans s3
            have hd3 : H3 a = some (.lst xs) := s3 _ _ (sp _ _ hd)
            have en3 : Ents H3 xs e0 := en.keep (fun b ys z => s3 _ _ (sp _ _ z))
            have hw : ∃ es', e1 = (("sign" : Str), (t.drop k).take (n), k) :: es' ∧ Scan stepP t (k + (n)) es' z ∧ 0 < n ∧ k + (n) ≤ t.length := by
              cases hk1 with
              | stop h => omega
              | blank g1 g2 g3 => rw [hc] at g1; cases g1; rw [h2'] at g2; cases g2
              | bad g1 g2 g3 => rw [rs] at g3; cases g3
              | word g1 g2 g3 g4 g5 g6 =>
                rw [rs] at g3
                cases g3
                exact ⟨_, rfl, g6, g4, g5⟩
            obtain ⟨es', rfl, hsc, hm0, hml⟩ := hw
            walk_at "rd"
            refine rv_app rfl hd3 ?_
            walk_at "rd"
            refine ⟨_, rfl, ?_⟩
            walk_at "rd"
            refine ⟨_, rfl, ?_⟩
            refine rv_cut (a := k) (b := k + (n)) (len_le hl) ?_
            rw [show k + (n) - k = n by omega]
            walk_at "rd"
            refine ⟨(by show 3 ≤ sizeLine; decide), fun p3 hp3 => ?_⟩
            have s4 := same_upd (o := .tup [.str "sign", .str (S ((t.drop k).take (n))), .int (k : Int)]) hp3
            refine ⟨xs, _, rfl, s4 _ _ hd3, ?_, ?_⟩
            · rw [en3.len]
              exact Nat.lt_of_le_of_lt (Nat.le_trans hle hk) (Nat.lt_of_le_of_lt hl (by rw [sizeLine_eq]; decide))
            walk_at "rd"
            have k4 : ∀ b ys, H3 b = some (.tup ys) → (upd (upd H3 p3 (.tup [.str "sign", .str (S ((t.drop k).take (n))), .int (k : Int)])) a (.lst (xs ++ [.ref p3]))) b = some (.tup ys) := fun b ys z => by
              rw [upd_ne (fun e => by rw [e, hd3] at z; cases z)]
              exact s4 _ _ z
            refine ⟨t.length - (k + (n)), by omega, k + (n), _, _, xs ++ [.ref p3], e0 ++ [(("sign" : Str), (t.drop k).take (n), k)], es', rfl, rfl, hml, ?_, upd_same, ?_, ?_, ?_, hsc⟩
            · refine fun b o z => ?_
              rw [upd_ne (fun e => by rw [e, ha] at z; cases z)]
              exact s4 _ _ (sm3 _ _ z)
            · refine Ents.snoc ?_ (en3.keep k4)
              rw [upd_ne (fun e => by rw [e, hd3] at hp3; cases hp3), upd_same]
              rfl
            · rw [List.length_append]
              show e0.length + 1 ≤ _
              omega
            · rw [List.append_assoc]
              rfl
          · rw [hx] at rs
            have zk : z = some k := by
              cases hk1 with
              | stop h => omega
              | blank g1 g2 g3 => rw [hc] at g1; cases g1; rw [h2'] at g2; cases g2
              | word g1 g2 g3 g4 g5 g6 => rw [rs] at g3; cases g3
              | bad g1 g2 g3 => rfl
            exact e k zk H3 d ((sm.trans sp).trans s3) hd3
    · have hkl : k = t.length := by have := of_decide_eq_false h1; omega
      walk_at "rd"
      cases hk1 with
      | stop h => exact q rfl H' a xs sm ha hd (by rw [List.append_nil]; exact en)
      | blank g1 g2 g3 => rw [hkl, List.getElem?_eq_none (Nat.le_refl _)] at g1; cases g1
      | word g1 g2 g3 g4 g5 g6 => rw [hkl, List.getElem?_eq_none (Nat.le_refl _)] at g1; cases g1
      | bad g1 g2 g3 => rw [hkl, List.getElem?_eq_none (Nat.le_refl _)] at g1; cases g1
end
end My

namespace My
open PySem PySem.Spec PyProof.Rows L2 XR SX
/-- the words of a text, gone through: none where it doesn't end in time -/
def scanB (f : List Nat → Option (Str × Nat)) (t : List Nat) : Nat → Nat → Option (Option Nat)
  | 0, _ => none
  | n + 1, k => match t[k]? with
    | none => if k = t.length then some none else none
    | some c => if blank c = true then scanB f t n (k + 1) else match f (t.drop k) with
      | none => some (some k)
      | some (_, m) => if 0 < m ∧ k + m ≤ t.length then scanB f t n (k + m) else none
theorem scanB_ok {f : List Nat → Option (Str × Nat)} {t : List Nat} {z : Option Nat} : ∀ {n k : Nat}, scanB f t n k = some z → ∃ es, Scan f t k es z
  | 0, _, h => nomatch h
  | n + 1, k, h => by
    unfold scanB at h
    cases hc : t[k]? with
    | none =>
      rw [hc] at h
      dsimp only at h
      split at h
      · cases h
        exact ⟨_, .stop (by assumption)⟩
      · cases h
    | some c =>
      rw [hc] at h
      dsimp only at h
      by_cases hb : blank c = true
      · rw [if_pos hb] at h
        obtain ⟨es, q⟩ := scanB_ok h
        exact ⟨es, .blank hc hb q⟩
      · rw [if_neg hb] at h
        have hb' : blank c = false := by simpa using hb
        cases hf : f (t.drop k) with
        | none =>
          rw [hf] at h
          cases h
          exact ⟨_, .bad hc hb' hf⟩
        | some sm =>
          obtain ⟨s, m⟩ := sm
          rw [hf] at h
          dsimp only at h
          split at h
          · rename_i hm
            obtain ⟨es, q⟩ := scanB_ok h
            exact ⟨_, .word hc hb' hf hm.1 hm.2 q⟩
          · cases h
def bads : List (List Nat × Nat) := [([49, 101], 0), ([48, 49], 0), ([49, 101, 48], 0), ([49, 101, 49, 48, 48], 0), ([53, 101, 51, 97], 0), ([108, 101, 116, 49], 0), ([97, 66], 1), ([66], 0), ([48, 101, 49], 0), ([48, 48], 0), ([97, 98, 99, 100, 101, 102, 103, 104, 105, 106, 107, 108, 109], 0), ([97, 49], 0), ([49, 97], 0), ([49, 50, 51, 52, 53, 54, 55, 56, 57, 48, 49, 50, 51, 52, 53, 54, 55, 56, 57], 0), ([49, 101, 49, 56], 0), ([49, 50, 101, 49, 55], 0), ([49, 101, 48, 49, 50], 0), ([38], 0), ([124], 0), ([35], 0), ([97, 95, 98], 1), ([39], 0), ([97, 38, 98], 1), ([55, 101, 51, 101, 49], 0), ([50, 101, 57, 57], 0)]
def aheads : List (List Nat) := [[], [32], [10], [111, 117, 116, 32, 97, 59], [108, 101, 116, 32, 98, 32, 61, 32, 49, 59, 10], [111, 117, 116, 32, 57, 101, 49, 55, 32, 59]]
def behinds : List (List Nat) := [[], [59], [32, 59, 111, 117, 116, 32, 49], [10], [32, 35, 32], [41]]
def goods : List (List Nat) := [[97, 98, 99, 100, 101, 102, 103, 104, 105, 106, 107, 108], [49, 50, 51, 52, 53, 54, 55, 56, 57, 48, 49, 50, 51, 52, 53, 54, 55, 56], [49, 101, 49, 55], [57, 101, 49, 55], [49, 50, 101, 49, 54], [108, 101, 116], [97, 60, 61, 98], [97, 61, 32, 61, 98], [49, 32, 101]]
theorem good_all : (goods.all fun t => decide (scanB stepP t 60 0 = some none)) = true := by decide +kernel
theorem bad_all : (aheads.all fun a => bads.all fun b => behinds.all fun c => decide (scanB stepP (a ++ b.1 ++ c) 60 0 = some (some (a.length + b.2)))) = true := by decide +kernel
end My

namespace My
open PySem PySem.Spec PyProof.Rows L2 XR SX
abbrev iSource : Stmt := inClass (top 47) 0
abbrev sParsed : Stmt := top 79
abbrev sNode : Stmt := top 111
abbrev sRead : Stmt := top 112
abbrev sSpots : Stmt := top 113
section
variable {P : Program} {w : World} {K : PySem.W.Frag} {mg : Str → Option Value} {base : Heap} {C cT : Addr}
local macro_rules | `(tactic| walk_at "rd1") => `(tactic| first
  | with_reducible refine rs_seq ?_
  | with_reducible refine rs_asg ?_
  | with_reducible refine rs_ret ?_
  | with_reducible refine rs_if ?_
  | with_reducible refine rs_next ?_
  | with_reducible refine rg_name ?_
  | ((with_reducible refine rv_var (v := ?vv) ?hv ?_); (case hv => exact rfl))
  | with_reducible refine rv_c ?_
  | with_reducible refine rv_op ?_
  | with_reducible refine rv_cons ?_
  | with_reducible refine rv_nil ?_
  | with_reducible refine rv_rI0 ?_
  | ((with_reducible refine rv_rI ?hc ?_); (case hc => walk_at "side"))
  | ((with_reducible refine rv_eq ?hc ?_); (case hc => exact rfl))
  | ((with_reducible refine rv_ne ?hc ?_); (case hc => exact rfl))
  | with_reducible refine rv_test ?_
  | with_reducible refine rv_bl ?_
  | with_reducible refine rv_cb ?_
  | with_reducible refine rv_call ?_
  | with_reducible refine rv_tup ?_
  | with_reducible refine rv_lst ?_
  | with_reducible refine rv_tB ?_
  | with_reducible refine rv_or ?_
  | with_reducible refine rv_and ?_
  | with_reducible refine rv_not ?_
  | with_reducible refine rv_andV ?_
  | with_reducible refine rv_orV ?_
  | with_reducible refine rv_notV ?_
  | with_reducible refine rv_ifE ?_
  | with_reducible refine rs_drop ?_
  | with_reducible refine iteT ?_
  | with_reducible refine iteF ?_
  | with_reducible refine ro_nx ?_
  | with_reducible refine ro_rt ?_
  | with_reducible refine ro_ct ?_
  | with_reducible refine ro_bk ?_)
local macro_rules | `(tactic| walk_at "rd") => `(tactic| repeat walk_at "rd1")
local macro_rules | `(tactic| walk_at "side") => `(tactic| first
  | assumption
  | exact (show CPow _ _ from ⟨by decide, by decide, by decide⟩)
  | exact (show CMul _ _ from .inl ⟨by decide, by decide⟩)
  | exact (show CMul _ _ from .inr ⟨by decide, by decide⟩)
  | (show (0 : Int) < _; decide)
  | (show CMul _ _; first | exact .inl ⟨by omega, by omega⟩ | exact .inr ⟨by omega, by omega⟩)
  | omega)
local macro_rules | `(tactic| walk_at "rd1") => `(tactic| first
  | with_reducible refine rs_for ?_
  | with_reducible refine ri_zip ?_
  | with_reducible refine ri_list ?_
  | with_reducible refine ri_rng1 ?_
  | with_reducible refine rv_lc ?_
  | with_reducible refine rv_xfl ?_
  | with_reducible refine rs_par3 ?_
  | with_reducible refine rv_yes ?_
  | with_reducible refine rg_tup ?_
  | with_reducible refine rg_cons ?_
  | with_reducible refine rg_nil ?_)
local macro_rules | `(tactic| walk_at "rd1") => `(tactic| first
  | with_reducible refine ri_str ?_
  | with_reducible refine rv_sl ?_
  | with_reducible refine rv_part ?_
  | with_reducible refine rv_nopart ?_
  | with_reducible refine rv_callS ?_
  | with_reducible refine rv_chain ?_
  | with_reducible refine rv_leS ?_
  | with_reducible refine rv_inS ?_)
/-- a text that breaks off at k: the error with its place -/
def spBadT (cT : Addr) : Sp := fun vs H _ E => ∃ (t : List Nat) (es : List Ent) (k : Nat), vs = [.str (S t)] ∧ t.length ≤ 4000 ∧ Scan stepP t 0 es (some k) ∧ ∀ H' d, Same H H' → H' d = some (.xd [("at", .int (k : Nat))]) → E (.ref cT) (some d) H'
def spSrcB (C cT : Addr) : Sp := fun vs H _ E => ∃ (p dx : Addr) (t : List Nat) (es : List Ent) (k : Nat), vs = [.ref p, .str (S t)] ∧ H p = some (.ins C dx []) ∧ t.length ≤ 4000 ∧ Scan stepP t 0 es (some k) ∧
  ∀ H' d, (∀ b o, H b = some o → b ≠ p → H' b = some o) → H' d = some (.xd [("at", .int (k : Nat))]) → E (.ref cT) (some d) H'
structure SrcC (K : PySem.W.Frag) (mg : Str → Option Value) (C : Addr) : Prop where
  cl : Cls K C
  n1 : NoAttr K C "size"
  g : mg "Source" = some (.ref C)
  len_ : mg "len" = none
theorem scSource : FnScope ["self", "text"] ["self", "text"] (defScope iSource) := ⟨rfl, rfl, rfl, by decide +kernel, rfl, by decide +kernel, by decide +kernel⟩
theorem scParsed : FnScope ["text", "source", "nodes"] ["text"] (defScope sParsed) := ⟨rfl, rfl, rfl, by decide +kernel, rfl, by decide +kernel, by decide +kernel⟩
theorem scNode : FnScope ["text", "node"] ["text"] (defScope sNode) := ⟨rfl, rfl, rfl, by decide +kernel, rfl, by decide +kernel, by decide +kernel⟩
theorem scRead : FnScope ["text"] ["text"] (defScope sRead) := ⟨rfl, rfl, rfl, by decide +kernel, rfl, by decide +kernel, by decide +kernel⟩
theorem scSpots : FnScope ["text", "told", "waiting", "path", "node", "steps", "inner"] ["text"] (defScope sSpots) := ⟨rfl, rfl, rfl, by decide +kernel, rfl, by decide +kernel, by decide +kernel⟩
theorem ok_Source {f fW : Addr} {fd dW : FuncData} (F : Fun K "__init__" "Source.__init__" iSource f fd) (T : SrcC K mg C)
    (FW : Fun K "words" "words" sWords fW dW) (gW : mg "words" = some (.ref fW)) (bW : L2.Binds K dW ["text"] []) (GW : FnOk P w K mg base (L2.CX P w) 5 fW dW ["text"] (spWords cT)) : FnOk P w K mg base (L2.CX P w) 6 f fd ["self", "text"] (spSrcB C cT) := by
  refine F.okX scSource (fun vs H Q E h => ?_) (fun cdv A outer s H vs Q E hr h => ?_)
  · obtain ⟨p, dx, t, es, k, rfl, _⟩ := h
    rfl
  · have tk : Takes (cxOf (L2.CX P w) P w K mg base ["self", "text"] "Source.__init__" (defScope iSource) f cdv A outer s H E) (fun cls d _ H' => E cls d H') := takes_of rfl rfl rfl rfl
    refine ⟨_, pss_cons (ps_fld (pv 0) (pe_callB call_len_str (by rfl) T.len_ PySem.boot_len (pa_cons (pv 1) pa_nil)) rfl) (pss_cons (ps_fld (pv 0) (pe_callS GW hr (by rfl) gW FW.kp bW (fun σ => passAt tk σ) (pa_cons (pv 1) pa_nil)) rfl) pss_never), ?_⟩
    obtain ⟨p, dx, t, es, k, rfl, hp, hl, hs, e⟩ := h
    refine ⟨_, rfl, S t, rfl, len_le hl, ?_⟩
    refine ⟨_, rfl, p, C, dx, [], rfl, hp, T.cl, T.n1, by show 0 < 1000; decide, ?_⟩
    refine ⟨_, rfl, t, es, some k, rfl, hl, hs, (fun z => nomatch z), fun k' hk H' d s hd => ?_⟩
    cases hk
    refine e H' d (fun b o z n => s _ _ ?_) hd
    rw [upd_ne n]
    exact z
theorem ok_Parsed {f fI : Addr} {fd dI : FuncData} (F : Fun K "parsed" "parsed" sParsed f fd) (T : SrcC K mg C) (M : Mk K C fI) (bI : L2.Binds K dI ["self", "text"] [])
    (GI : FnOk P w K mg base (L2.CX P w) 6 fI dI ["self", "text"] (spSrcB C cT)) : FnOk P w K mg base (L2.CX P w) 8 f fd ["text"] (spBadT cT) := by
  refine F.okX scParsed (fun vs H Q E h => ?_) (fun cdv A outer s H vs Q E hr h => ?_)
  · obtain ⟨t, es, k, rfl, _⟩ := h
    rfl
  · have tk : Takes (cxOf (L2.CX P w) P w K mg base ["text", "source", "nodes"] "parsed" (defScope sParsed) f cdv A outer s H E) (fun cls d _ H' => E cls d H') := takes_of rfl rfl rfl rfl
    refine ⟨_, pss_cons (ps_set (i := 1) scParsed.nd rfl (.inl rfl) (pe_make M GI hr (by rfl) T.g bI .nil (E := fun cls d H' => E cls d H') (fun pins σ H s e s' I c => passAt tk σ pins H s e s' I c) (pa_cons (pv 0) pa_nil))) pss_never, ?_⟩
    obtain ⟨t, es, k, rfl, hl, hs, e⟩ := h
    walk_at "rd"
    refine ⟨_, rfl, fun p dx hp hdx hne => ?_⟩
    refine ⟨p, dx, t, es, k, rfl, upd_same, hl, hs, fun H' d hb hd => e H' d (fun b o z => hb b o ?_ ?_) hd⟩
    · rw [upd_ne (fun y => by rw [y, hp] at z; cases z), upd_ne (fun y => by rw [y, hdx] at z; cases z)]
      exact z
    · exact fun y => by rw [y, hp] at z; cases z
theorem ok_Node {f fP : Addr} {fd dP : FuncData} (F : Fun K "read_node" "read_node" sNode f fd) (FP : Fun K "parsed" "parsed" sParsed fP dP) (gP : mg "parsed" = some (.ref fP)) (bP : L2.Binds K dP ["text"] [])
    (GP : FnOk P w K mg base (L2.CX P w) 8 fP dP ["text"] (spBadT cT)) : FnOk P w K mg base (L2.CX P w) 9 f fd ["text"] (spBadT cT) := by
  refine F.okX scNode (fun vs H Q E h => ?_) (fun cdv A outer s H vs Q E hr h => ?_)
  · obtain ⟨t, es, k, rfl, _⟩ := h
    rfl
  · have tk : Takes (cxOf (L2.CX P w) P w K mg base ["text", "node"] "read_node" (defScope sNode) f cdv A outer s H E) (fun cls d _ H' => E cls d H') := takes_of rfl rfl rfl rfl
    refine ⟨_, pss_cons (ps_set (i := 1) scNode.nd rfl (.inl rfl) (pe_callS GP hr (by rfl) gP FP.kp bP (fun σ => passAt tk σ) (pa_cons (pv 0) pa_nil))) pss_never, ?_⟩
    obtain ⟨t, es, k, rfl, hl, hs, e⟩ := h
    walk_at "rd"
    exact ⟨t, es, k, rfl, hl, hs, e⟩
theorem ok_Read {f fP : Addr} {fd dP : FuncData} (F : Fun K "read" "read" sRead f fd) (FP : Fun K "read_node" "read_node" sNode fP dP) (gP : mg "read_node" = some (.ref fP)) (bP : L2.Binds K dP ["text"] [])
    (GP : FnOk P w K mg base (L2.CX P w) 9 fP dP ["text"] (spBadT cT)) : FnOk P w K mg base (L2.CX P w) 10 f fd ["text"] (spBadT cT) := by
  refine F.okX scRead (fun vs H Q E h => ?_) (fun cdv A outer s H vs Q E hr h => ?_)
  · obtain ⟨t, es, k, rfl, _⟩ := h
    rfl
  · have tk : Takes (cxOf (L2.CX P w) P w K mg base ["text"] "read" (defScope sRead) f cdv A outer s H E) (fun cls d _ H' => E cls d H') := takes_of rfl rfl rfl rfl
    refine ⟨_, pss_one (ps_ret (pe_fld (pe_callS GP hr (by rfl) gP FP.kp bP (fun σ => passAt tk σ) (pa_cons (pv 0) pa_nil)) rfl)), ?_⟩
    obtain ⟨t, es, k, rfl, hl, hs, e⟩ := h
    walk_at "rd"
    exact ⟨_, rfl, t, es, k, rfl, hl, hs, e⟩
theorem ok_Spots {f fP : Addr} {fd dP : FuncData} (F : Fun K "spots" "spots" sSpots f fd) (FP : Fun K "read_node" "read_node" sNode fP dP) (gP : mg "read_node" = some (.ref fP)) (bP : L2.Binds K dP ["text"] [])
    (GP : FnOk P w K mg base (L2.CX P w) 9 fP dP ["text"] (spBadT cT)) : FnOk P w K mg base (L2.CX P w) 10 f fd ["text"] (spBadT cT) := by
  refine F.okX scSpots (fun vs H Q E h => ?_) (fun cdv A outer s H vs Q E hr h => ?_)
  · obtain ⟨t, es, k, rfl, _⟩ := h
    rfl
  · have tk : Takes (cxOf (L2.CX P w) P w K mg base ["text", "told", "waiting", "path", "node", "steps", "inner"] "spots" (defScope sSpots) f cdv A outer s H E) (fun cls d _ H' => E cls d H') := takes_of rfl rfl rfl rfl
    refine ⟨_, pss_cons (ps_set (i := 1) scSpots.nd rfl (.inl rfl) (pe_lst pa_nil)) (pss_cons (ps_set (i := 2) scSpots.nd rfl (.inl rfl) (pe_lst (pa_cons (pe_tup (pa_cons (pe_tup pa_nil) (pa_cons (pe_callS GP hr (by rfl) gP FP.kp bP (fun σ => passAt tk σ) (pa_cons (pv 0) pa_nil)) pa_nil))) pa_nil))) pss_never), ?_⟩
    obtain ⟨t, es, k, rfl, hl, hs, e⟩ := h
    walk_at "rd"
    refine ⟨by decide, fun a ha => ?_⟩
    have s1 := same_upd (o := .lst []) ha
    walk_at "rd"
    refine ⟨by decide, fun b hb => ?_⟩
    have s2 := s1.trans (same_upd (o := .tup []) hb)
    walk_at "rd"
    exact ⟨t, es, k, rfl, hl, hs, fun H' d s hd => e H' d (s2.trans s) hd⟩
end
end My

/-! enumerate of a text -/
namespace XR
open PySem PySem.Spec PyProof.Rows L2
def Ites (x : Str) : It := ⟨fun i _ => i < x.cps.size, fun i H v H' => ∃ T c, v = .ref T ∧ H T = none ∧ x.cps[i]? = some c ∧ H' = upd H T (.tup [.int (i : Nat), .str ⟨#[c]⟩]), fun i _ => i = x.cps.size⟩
theorem turn_enumS {P : Program} {w : World} {K : PySem.W.Frag} {elts : List Expr} {kk : Nat} {tpos : Pos} (e it : Addr) (x : Str) (t : Tok) :
    Turn P w K (.Tuple elts kk tpos) (Ites x) [e, it] e (fun i h => (∃ old, IsEnum h e it ((i : Nat) : Int) old) ∧ h.IsStrIter it (strIterType x) x t i ∧ e ≠ it) where
  mem := by simp
  obj := fun i h st b hb => by
    obtain ⟨⟨old, he⟩, ⟨o, ho, hc, hd⟩, _⟩ := st
    have e' : b = e ∨ b = it := by simpa using hb
    rcases e' with z | z
    · rw [z]; exact ⟨_, he, fun v q => nomatch q⟩
    · rw [z]; exact ⟨o, ho, fun v q => by rw [hd] at q; cases q⟩
  keep := fun i h h' st k => let ⟨⟨old, he⟩, ⟨o, ho, r⟩, hne⟩ := st; ⟨⟨old, k e (by simp) _ he⟩, ⟨o, k it (by simp) o ho, r⟩, hne⟩
  item := by
    intro X hP hw hK hc i pins s σ H E I hf st hg
    subst hP hw hK
    obtain ⟨⟨old, he⟩, hit, hne⟩ := st
    have hel : e < s.heap.objs.size := Heap.lt_size he
    have hil : it < s.heap.objs.size := by obtain ⟨_, q, _⟩ := hit; exact Heap.lt_size q
    have D := Draws.text (prog := X.prog) (w := X.w) (A := X.A.in1) (I.ok.hd hc) it x t
    refine wpAny_pyNext_enum_itemC D he hit hg hne (by simpa using hne) fun u h' tk hu ho hit' hT hsz hk => ?_
    obtain ⟨c, tc, hx, rfl⟩ := hu
    refine ⟨_, rfl, wpAny_letOwnedTupleGo_enum (s := { s with heap := h', toks := tk + 1 }) ho fun h'' he' sb => ?_⟩
    have hT2 : h''.get? s.heap.objs.size = some { cls := .type "tuple", data := .seq #[.int i tk, .str ⟨#[c]⟩ tc] } := (sb.2 _ (Nat.ne_of_gt hel)).trans hT
    have new : ObjOk X.prog X.w (upd H s.heap.objs.size (.tup [.int (i : Nat), .str ⟨#[c]⟩])) h'' s.heap.objs.size (.tup [.int (i : Nat), .str ⟨#[c]⟩]) :=
      ⟨by show 2 ≤ sizeLine; decide, [.int i tk, .str ⟨#[c]⟩ tc], .cons ⟨_, rfl⟩ (.cons ⟨_, rfl⟩ .nil), ⟨_, hT2, rfl, _, rfl⟩⟩
    have I1 : Inv X pins σ (upd H s.heap.objs.size (.tup [.int (i : Nat), .str ⟨#[c]⟩])) { s with heap := h'', toks := tk + 1 } :=
      I.turnedNew (ch := [e, it]) (fun b ob hb q => (sb.2 b (fun z => hb (by simp [z]))).trans (hk b ob (fun z => hb (by simp [z])) (fun z => hb (by simp [z])) q)) hf (Nat.le_refl _) new
    refine ⟨.ref s.heap.objs.size, _, I1, rfl, ⟨_, c, rfl, I.hok.fresh (Nat.le_refl _), hx, rfl⟩, ⟨⟨.str ⟨#[c]⟩ tc, ?_⟩, ?_, hne⟩, fun b hb => ?_⟩
    · have e1 : ((i + 1 : Nat) : Int) = (i : Int) + 1 := by omega
      rw [e1]; exact he'
    · obtain ⟨o, z, r⟩ := hit'
      exact ⟨o, (sb.2 it (Ne.symm hne)).trans z, r⟩
    · have hb' : b < s.heap.objs.size := by
        have e' : b = e ∨ b = it := by simpa using hb
        rcases e' with z | z
        · rw [z]; exact hel
        · rw [z]; exact hil
      rw [upd_ne (Nat.ne_of_lt hb')]
      exact (hf b hb).1
  done := by
    intro X hP hw hK hc i pins s σ H E I hf st hg
    subst hP hw hK
    obtain ⟨⟨old, he⟩, hit, hne⟩ := st
    obtain ⟨f0, f1, f2, f3, f4, f5⟩ := hf it (by simp)
    have D := Draws.text (prog := X.prog) (w := X.w) (A := X.A.in1) (I.ok.hd hc) it x t
    have e : i = x.cps.size := hg
    subst e
    exact wpAny_pyNext_enum_endD D he hit fun h' eb => ⟨rfl, I.turned (t' := s.toks) (fun b o hb q => eb b o hb q) f0 f1 f3 f4 f5⟩
  self := fun A i s Q E st h => let ⟨⟨_, he⟩, _⟩ := st; wpAny_pyIter_enum he h
def iEnumS (ta : TA) : TI := fun σ H R => ta σ H fun vs H1 => ∃ x, vs = [.str x] ∧ R (Ites x) H1
theorem pi_enumS {X : Cx} {e : Expr} {ta : TA} {p pos tpos : Pos} {elts : List Expr} {kk : Nat} (hg : Gl X "enumerate") (hm : X.mg "enumerate" = none) (ha : PA X [e] ta) (hs : starEach [e] X.env = [(false, eval e X.env)] := by rfl) :
    PI X (.Tuple elts kk tpos) (.Call (.Name "enumerate" p) [e] [] pos) (iEnumS ta) := by
  refine ⟨fun pins s σ H R I h => ?_⟩
  refine Call_ (ld_blt I hg hm boot_enumerate (PyProof.Rows.callWith_type1 (thn (ha.run pos pins s σ H _ I h) fun us s1 ⟨vs, H1, I1, r1, q1⟩ => ?_) hs rfl))
  obtain ⟨x, ex, q⟩ := q1
  subst ex
  cases r1 with
  | cons r rr =>
    cases rr
    obtain ⟨t, rfl⟩ := r
    refine call_enumerate_str fun h' he hit hsz hk => wpAny_pyIter_enum he ?_
    have I2 : Inv X pins σ H1 { s1 with heap := h' } := I1.kept (t' := s1.toks) hk
    refine ⟨s1.heap.objs.size + 1, [s1.heap.objs.size + 1, s1.heap.objs.size], _, _, H1, rfl, I2, turn_enumS (s1.heap.objs.size + 1) s1.heap.objs.size x t, ⟨⟨.none, he⟩, hit, Nat.succ_ne_self _⟩, fun b hb => ?_, q⟩
    have e' : b = s1.heap.objs.size + 1 ∨ b = s1.heap.objs.size := by simpa using hb
    have hle : s1.heap.objs.size ≤ b := by
      rcases e' with z | z
      · rw [z]; exact Nat.le_add_right _ _
      · rw [z]; exact Nat.le_refl _
    exact I1.fpOk hle (I1.hok.fresh hle)
theorem walk_enumS {z : Str} : Walk (Ites z) z.cps.size (fun _ => True) (fun i H v H' => ∃ T c, v = .ref T ∧ H T = none ∧ z.cps[i]? = some c ∧ H' = upd H T (.tup [.int (i : Nat), .str ⟨#[c]⟩])) :=
  ⟨fun _ _ hi _ => hi, fun _ _ => rfl, fun _ _ _ _ _ _ y => y⟩
end XR
namespace XR
open PySem PySem.Spec PyProof.Rows L2
theorem paired_of {α β : Type} {G : α → β → Prop} : ∀ {xs : List α} {ys : List β}, xs.length = ys.length → (∀ (i : Nat) (x : α) (y : β), xs[i]? = some x → ys[i]? = some y → G x y) → Paired G xs ys
  | [], [], _, _ => .nil
  | x :: xs, y :: ys, h, k => .cons (k 0 x y rfl rfl) (paired_of (by simpa using h) fun i a b e f => k (i + 1) a b (by simpa using e) (by simpa using f))
  | [], _ :: _, h, _ => by simp at h
  | _ :: _, [], h, _ => by simp at h
/-- list(text) -/
def rListS : List V → Hp → VK → Prop := fun xs H Q => ∃ x : Str, xs = [.str x] ∧ x.cps.size ≤ sizeLine ∧ ∀ l, H l = none → Q (.ref l) (upd H l (.lst (x.cps.toList.map fun c => V.str ⟨#[c]⟩)))
theorem call_listS {X : Cx} (hc : X.calm = true) : CallR X (.type "list") rListS := by
  intro pins s σ H xs us Q I r h
  obtain ⟨x, rfl, hz, q⟩ := h
  obtain ⟨u, rfl, rx⟩ := vals1 r
  obtain ⟨t, rfl⟩ := rx
  refine call_list_str (hn := hz) (I.ok.hd hc) x t fun h' tk acc c' kp e it => ?_
  have r' : Vals (x.cps.toList.map fun c => V.str ⟨#[c]⟩) acc.toList := paired_of (by simp [it.1]) fun i a b ha hb => by
    have hb' : acc[i]? = some b := by simpa using hb
    obtain ⟨c, u, hx, rfl⟩ := it.2 i b hb'
    have hx' : x.cps.toList[i]? = some c := by simpa using hx
    rw [List.getElem?_map, hx'] at ha
    cases ha
    exact ⟨_, rfl⟩
  exact ⟨.ref s.heap.objs.size, _, I.laid (t' := tk) kp (Nat.le_refl _) (show ObjOk X.prog X.w _ h' _ (.lst _) from ⟨by simpa using hz, acc.toList, c', r', by simpa using e⟩), rfl, q _ (I.hok.fresh (Nat.le_refl _))⟩
end XR

/-! an instance made where what is raised is wished at the caller's slots -/
namespace XR
open PySem PySem.Spec PyProof.Rows L2
section
variable {Z : Cx} {CY : CXT} {n : Nat} {g B : Addr} {gd : FuncData} {qs : List Str} {pr : Sp} {ws : List V} {es' : List Value} {W : L2.St → XK} {nm : Str} {p1 p2 : Pos} {a1 : Expr} {as : List Expr} {ta : TA}
def tMkS (B : Addr) (pr : Sp) (ws : List V) (W : L2.St → XK) (ta : TA) : TE := fun σ H Q => ta σ H fun vs H1 =>
  ∀ y dy, H1 y = none → H1 dy = none → dy ≠ y → pr (.ref y :: (vs ++ ws)) (upd (upd H1 dy (.own y)) y (.ins B dy [])) (fun v H2 => v = .non ∧ Q (.ref y) H2) (W σ)
theorem run_mkS {pins : List (Addr × Obj)} {σ : L2.St} {H : Hp} {s : Shared} {Q : VK} {us : List Value} {vs : List V} (M : Mk Z.K B g) (F : FnOk Z.prog Z.w Z.K Z.mg Z.base CY n g gd qs pr) (hr : Room (n + 1) Z.A) (hb : Binds Z.K gd qs es') (hd : Vals ws es')
    (hx : PassesAt CY Z σ (W σ)) (I : Inv Z pins σ H s) (r : Vals vs us)
    (h : ∀ y dy, H y = none → H dy = none → dy ≠ y → pr (.ref y :: (vs ++ ws)) (upd (upd H dy (.own y)) y (.ins B dy [])) (fun v H2 => v = .non ∧ Q (.ref y) H2) (W σ)) : wpAny (model Z.prog Z.w) Z.A (call (.ref B) us) (EP Z pins σ Q) Z.xe s := by
  have hq := h (s.heap.objs.size + 1) s.heap.objs.size (I.hok.fresh (Nat.le_succ _)) (I.hok.fresh (Nat.le_refl _)) (Nat.ne_of_lt (Nat.lt_succ_self _))
  have J := Inv.made (C := B) I
  have r2 : Vals (V.ref (s.heap.objs.size + 1) :: (vs ++ ws)) (Value.ref (s.heap.objs.size + 1) :: (us ++ es')) := .cons rfl (r.append hd)
  have hl : (Value.ref (s.heap.objs.size + 1) :: us ++ es').length = qs.length := by
    have e := r2.length
    rw [F.len _ _ _ _ hq] at e
    exact e.symm
  refine wpAny_call (make_map (f := g) I.kIn M.makes M.init (beq_iff_eq.mp M.fn) (codeAny_mono (F.run _ Z.stack _ _ ⟨Value.ref (s.heap.objs.size + 1) :: us, []⟩ (Value.ref (s.heap.objs.size + 1) :: (us ++ es')) _ _ (W σ) (hr.make B us []) (J.env0.make B us []) (hb _ (Value.ref (s.heap.objs.size + 1) :: us) J.kIn hl) r2 hq) fun w s' hq' => ?_))
  rcases w with e | fl
  · exact hx pins _ _ e s' J hq'
  · cases fl with
    | ret u =>
      obtain ⟨v, H', K3, rv, ev, q3⟩ := J.after hq'
      subst ev
      exact ⟨rv, V.ref (s.heap.objs.size + 1), H', K3, rfl, q3⟩
    | next => exact hq'.elim
    | brk => exact hq'.elim
    | cont => exact hq'.elim
theorem pe_mkS (M : Mk Z.K B g) (F : FnOk Z.prog Z.w Z.K Z.mg Z.base CY n g gd qs pr) (hr : Room (n + 1) Z.A) (hg : Gl Z nm) (hm : Z.mg nm = some (.ref B)) (hb : Binds Z.K gd qs es') (hd : Vals ws es') (hx : ∀ σ, PassesAt CY Z σ (W σ)) (ha : PA Z (a1 :: as) ta)
    (hdb : (nm == ("__debug__" : Str)) = false := by decide) (he : starEach (a1 :: as) Z.env = (false, eval a1 Z.env) :: starEach as Z.env := by rfl) (hpl : (backTo p2 (starEach as Z.env)).any (·.1) = false := by rfl) : PE Z (.Call (.Name nm p1) (a1 :: as) [] p2) (tMkS B pr ws W ta) :=
  ⟨fun pins s σ H Q I h => wpAny_Call_Name_kw (ld_glob I hg hm (PySem.W.callWith_K (h₀ := Z.base) I.ok.mod.kin M.kp (thn (ha.run p2 pins s σ H _ I h) fun us s1 ⟨vs, H1, I1, r, q⟩ => ⟨I1.kIn, run_mkS M F hr hb hd (hx σ) I1 r q⟩) he hpl) hdb)⟩
end
end XR

namespace My
open PySem PySem.Spec PyProof.Rows L2 XR SX
abbrev sAreL : Stmt := top 184
abbrev sMustL : Stmt := top 185
abbrev sShort : Stmt := top 271
abbrev sLean : Stmt := top 272
abbrev sLeaned : Stmt := top 273
abbrev iState : Stmt := inClass (top 248) 0
abbrev iTrace : Stmt := inClass (top 253) 0
section
variable {P : Program} {w : World} {K : PySem.W.Frag} {mg : Str → Option Value} {base : Heap} {C cT : Addr}
local macro_rules | `(tactic| walk_at "rd1") => `(tactic| first
  | with_reducible refine rs_seq ?_
  | with_reducible refine rs_asg ?_
  | with_reducible refine rs_ret ?_
  | with_reducible refine rs_if ?_
  | with_reducible refine rs_next ?_
  | with_reducible refine rg_name ?_
  | ((with_reducible refine rv_var (v := ?vv) ?hv ?_); (case hv => exact rfl))
  | with_reducible refine rv_c ?_
  | with_reducible refine rv_op ?_
  | with_reducible refine rv_cons ?_
  | with_reducible refine rv_nil ?_
  | with_reducible refine rv_rI0 ?_
  | ((with_reducible refine rv_rI ?hc ?_); (case hc => walk_at "side"))
  | ((with_reducible refine rv_eq ?hc ?_); (case hc => exact rfl))
  | ((with_reducible refine rv_ne ?hc ?_); (case hc => exact rfl))
  | with_reducible refine rv_test ?_
  | with_reducible refine rv_bl ?_
  | with_reducible refine rv_cb ?_
  | with_reducible refine rv_call ?_
  | with_reducible refine rv_tup ?_
  | with_reducible refine rv_lst ?_
  | with_reducible refine rv_tB ?_
  | with_reducible refine rv_or ?_
  | with_reducible refine rv_and ?_
  | with_reducible refine rv_not ?_
  | with_reducible refine rv_andV ?_
  | with_reducible refine rv_orV ?_
  | with_reducible refine rv_notV ?_
  | with_reducible refine rv_ifE ?_
  | with_reducible refine rs_drop ?_
  | with_reducible refine iteT ?_
  | with_reducible refine iteF ?_
  | with_reducible refine ro_nx ?_
  | with_reducible refine ro_rt ?_
  | with_reducible refine ro_ct ?_
  | with_reducible refine ro_bk ?_)
local macro_rules | `(tactic| walk_at "rd") => `(tactic| repeat walk_at "rd1")
local macro_rules | `(tactic| walk_at "side") => `(tactic| first
  | assumption
  | exact (show CPow _ _ from ⟨by decide, by decide, by decide⟩)
  | exact (show CMul _ _ from .inl ⟨by decide, by decide⟩)
  | exact (show CMul _ _ from .inr ⟨by decide, by decide⟩)
  | (show (0 : Int) < _; decide)
  | (show CMul _ _; first | exact .inl ⟨by omega, by omega⟩ | exact .inr ⟨by omega, by omega⟩)
  | omega)
local macro_rules | `(tactic| walk_at "rd1") => `(tactic| first
  | with_reducible refine rs_for ?_
  | with_reducible refine ri_zip ?_
  | with_reducible refine ri_list ?_
  | with_reducible refine ri_rng1 ?_
  | with_reducible refine rv_lc ?_
  | with_reducible refine rv_xfl ?_
  | with_reducible refine rs_par3 ?_
  | with_reducible refine rv_yes ?_
  | with_reducible refine rg_tup ?_
  | with_reducible refine rg_cons ?_
  | with_reducible refine rg_nil ?_)
local macro_rules | `(tactic| walk_at "rd1") => `(tactic| first
  | with_reducible refine ri_str ?_
  | with_reducible refine rv_sl ?_
  | with_reducible refine rv_part ?_
  | with_reducible refine rv_nopart ?_
  | with_reducible refine rv_callS ?_
  | with_reducible refine rv_chain ?_
  | with_reducible refine rv_leS ?_
  | with_reducible refine rv_inS ?_)
def elB (t : List Nat) (i : Nat) : Bool := match t[i]? with
  | some c => isL c && decide (Txt.find (S t) (S [c]) = (i : Int))
  | none => false
def lettersB (t : List Nat) : Bool := decide (2 ≤ t.length) && decide (t.length ≤ 26) && ((List.range t.length).map (elB t)).all id
theorem scAreL : FnScope ["thing", "at", "sign"] ["thing"] (defScope sAreL) := ⟨rfl, rfl, rfl, by decide +kernel, rfl, by decide +kernel, by decide +kernel⟩
theorem scMustL : FnScope ["thing"] ["thing"] (defScope sMustL) := ⟨rfl, rfl, rfl, by decide +kernel, rfl, by decide +kernel, by decide +kernel⟩
theorem same_put {H H' : Hp} {D : Addr} {o : HO} (hD : H D = none) (sm : Same H H') : Same H (upd H' D o) := fun b x z => by
  rw [upd_ne (fun z2 => by rw [z2] at z; rw [z] at hD; cases hD)]
  exact sm _ _ z
def vS (t : List Nat) : V := .str (S t)
abbrev rFindS : V → List V → Hp → VK → Prop := fun x xs H Q => ∃ a b : Str, x = .str a ∧ xs = [.str b] ∧ Q (.int (Txt.find a b)) H
structure Sup (mg : Str → Option Value) : Prop where
  mI : mg "isinstance" = none
  mS : mg "str" = none
  mL : mg "len" = none
  mA : mg "all" = none
  mE : mg "enumerate" = none
  c2 : ∃ t, mg "FEWEST_LETTERS" = some (.int 2 t)
  c26 : ∃ t, mg "MOST_LETTERS_supply" = some (.int 26 t)
def spAreL : Sp := fun vs H Q _ => ∃ t : List Nat, vs = [.str (S t)] ∧ t.length ≤ 4000 ∧ ∀ H', Same H H' → Q (.bl (lettersB t)) H'
/-- the letters ab -/
def spMustL : Sp := fun vs H Q _ => vs = [.str (S [97, 98])] ∧ ∀ H', Same H H' → Q .non H'
theorem ok_AreL {f fL : Addr} {fd dL : FuncData} (F : Fun K "are_letters" "are_letters" sAreL f fd) (T : Sup mg) (FL : Fun K "is_letter" "is_letter" sLetter fL dL) (gL : mg "is_letter" = some (.ref fL)) (bL : L2.Binds K dL ["sign"] []) : FnOk P w K mg base CX0 2 f fd ["thing"] spAreL := by
  have GL : FnOk P w K mg base CX0 1 fL dL ["sign"] (spB isL) := ok_Letter FL
  obtain ⟨t2, h2⟩ := T.c2
  obtain ⟨t26, h26⟩ := T.c26
  refine F.ok scAreL (fun vs H Q E h => ?_) (fun cdv A outer s H vs Q E hr h => ?_)
  · obtain ⟨c, rfl, _⟩ := h
    rfl
  · refine ⟨_, (pss_cons (ps_if (PW.pt (pw_or (pt_not (pt_val (pe_callB call_isi (by rfl) T.mI (by decide +kernel) (pa_cons (pv 0) (pa_cons (pe_bltn (by rfl) T.mS (by decide +kernel) (v := .ty "str") rfl) pa_nil))))) (pw_or1 (pt_not (pt_chain op_le op_le (pe_glob (by rfl) h2 (v := .int 2) ⟨_, rfl⟩) (pe_callB call_len_str (by rfl) T.mL PySem.boot_len (pa_cons (pv 0) pa_nil)) (pe_glob (by rfl) h26 (v := .int 26) ⟨_, rfl⟩)))))) (pss_one (ps_ret pe_bl)) pss_nil)
        (pss_one (ps_ret (pe_callB (cr_all rfl) (by rfl) T.mA (by decide +kernel) (pa_cons (pe_lc (own := [("at", 1), ("sign", 2)]) (g := gTup K 2 (gCons (gName 1) (gCons (gName 2) gNil))) (tt := tYes) (te := tAndV (tCall (spB isL) [] E0 (tCons (tVar 2) tNil)) (tOp rEq (tBM K "str" rFindS (tVar 0) (tCons (tVar 2) tNil)) (tVar 1))) (by rfl) scAreL.nd (pi_enumS (by rfl) T.mE (pa_cons (pv 0) pa_nil)) (blkOk_by (own := [("at", 1), ("sign", 2)]) (N := ["thing", "at", "sign"]) (sc := defScope sAreL) (by decide +kernel)) (fun _ _ _ _ _ => (pg_tup (by rfl) (pgs_cons (pg_name (i := 1) scAreL.nd rfl (.inl rfl)) (pgs_cons (pg_name (i := 2) scAreL.nd rfl (.inl rfl)) pgs_nil)))) (fun _ _ _ _ _ => pts_nil) (fun _ _ _ _ _ => (pe_and (pe_call GL hr (by rfl) gL FL.kp bL .nil pass0 (pa_cons (pv 2) pa_nil)) (pe_one (pe_cmpR op_eq (pe_bm PySem.F.plainAttrs_str PySem.F.slot_str_find PySem.F.type_str_find mt_find (pv 0) (pa_cons (pv 2) pa_nil)) (pv 1) (nomark _)))))) pa_nil))))), ?_⟩
    obtain ⟨t, rfl, hl, q⟩ := h
    walk_at "rd"
    refine ⟨_, _, _, _, true, rfl, .ty _, .base (.str _), kit_same, ?_⟩
    refine ⟨_, rfl, ?_⟩
    refine iteFe rfl ?_
    walk_at "rd"
    refine ⟨S t, rfl, len_le hl, ?_⟩
    rw [S_len]
    refine ⟨_, _, rfl, rfl, ?_⟩
    refine ⟨_, rfl, iteB (fun h1 => ?_) (fun h1 => ?_)⟩
    · have h1' : 2 ≤ t.length := by have := of_decide_eq_true h1; omega
      walk_at "rd"
      refine iteB (fun h2 => ?_) (fun h2 => ?_)
      · walk_at "rd"
        have h2' : ¬ t.length ≤ 26 := fun z => by
          have : decide ((t.length : Int) ≤ 26) = true := decide_eq_true (by omega)
          rw [this] at h2
          cases h2
        have e : lettersB t = false := by unfold lettersB; rw [decide_eq_false h2']; simp
        rw [e] at q
        exact q H (Same.refl H)
      · have h2' : t.length ≤ 26 := by
          have : decide ((t.length : Int) ≤ 26) = true := by simpa using h2
          have := of_decide_eq_true this
          omega
        walk_at "rd"
        refine ⟨_, rfl, _, rfl, fun D hD => ?_⟩
        refine lc_it walk_enumS (fun i H' => Same H H' ∧ H' D = some (.lst (((List.range i).map (elB t)).map V.bl))) ⟨same_upd hD, upd_same⟩ (fun _ _ _ _ => True.intro) ?_ ?_
        · rintro i x H1 H2 hi ⟨sm, hd⟩ ⟨U, c, rfl, hU, hc, rfl⟩
          have hi' : i < t.length := by simpa using hi
          have hc' : t[i]? = some c := by simpa using hc
          have sU : Same H1 (upd H1 U (.tup [.int (i : Nat), .str ⟨#[c]⟩])) := same_upd hU
          refine ⟨U, _, rfl, .inl (.inl upd_same), rfl, ?_⟩
          walk_at "rd"
          have eE : elB t i = (isL c && decide (Txt.find (S t) (S [c]) = (i : Int))) := by
            unfold elB
            rw [hc']
          have fin : ∀ b, elB t i = b → ∃ acc, (upd H1 U (.tup [.int (i : Nat), .str ⟨#[c]⟩])) D = some (.lst acc) ∧ acc.length < sizeLine ∧ Same H (upd (upd H1 U (.tup [.int (i : Nat), .str ⟨#[c]⟩])) D (.lst (acc ++ [.bl b]))) ∧
              upd (upd H1 U (.tup [.int (i : Nat), .str ⟨#[c]⟩])) D (.lst (acc ++ [.bl b])) D = some (.lst (((List.range (i + 1)).map (elB t)).map V.bl)) := fun b eb => by
            refine ⟨_, sU _ _ hd, ?_, same_put hD (sm.trans sU), ?_⟩
            · rw [List.length_map, List.length_map, List.length_range]
              exact Nat.lt_of_lt_of_le (by omega : i < 4001) (by rw [sizeLine_eq]; decide)
            · rw [upd_same, List.range_succ, List.map_append, List.map_append, ← eb]
              rfl
          refine ⟨by rfl, ?_⟩
          walk_at "rd"
          refine ⟨c, rfl, ?_⟩
          refine ⟨_, rfl, iteB (fun h3 => ?_) (fun h3 => ?_)⟩
          · walk_at "rd"
            refine ⟨_, rfl, rfl, _, rfl, S t, S [c], rfl, rfl, ?_⟩
            walk_at "rd"
            refine fin _ ?_
            rw [eE, h3]
            show decide _ = _
            exact decide_eq_decide.mpr ⟨fun z => by rw [z], fun z => V.int.inj z⟩
          · refine fin _ ?_
            rw [eE, h3]
            rfl
        · rintro H1 ⟨sm, hd⟩
          walk_at "rd"
          refine ⟨D, _, rfl, SqL.of hd, ?_⟩
          have e : (((List.range (S t).cps.size).map (elB t)).all id) = lettersB t := by
            unfold lettersB
            rw [decide_eq_true h1', decide_eq_true h2']
            rfl
          rw [e]
          exact q _ sm
    · walk_at "rd"
      have h1' : ¬ 2 ≤ t.length := fun z => of_decide_eq_false h1 (by omega)
      have e : lettersB t = false := by unfold lettersB; rw [decide_eq_false h1']; simp
      rw [e] at q
      exact q H (Same.refl H)
theorem ok_MustL {f fA : Addr} {fd dA : FuncData} (F : Fun K "must_be_letters" "must_be_letters" sMustL f fd) (FA : Fun K "are_letters" "are_letters" sAreL fA dA) (gA : mg "are_letters" = some (.ref fA)) (bA : L2.Binds K dA ["thing"] []) (GA : FnOk P w K mg base CX0 2 fA dA ["thing"] spAreL) : FnOk P w K mg base CX0 3 f fd ["thing"] spMustL := by
  refine F.ok scMustL (fun vs H Q E h => ?_) (fun cdv A outer s H vs Q E hr h => ?_)
  · obtain ⟨rfl, _⟩ := h
    rfl
  · refine ⟨_, (pss_one (ps_if (pt_not (pt_val (pe_call GA hr (by rfl) gA FA.kp bA .nil pass0 (pa_cons (pv 0) pa_nil)))) (pss_one ps_never) pss_nil)), ?_⟩
    obtain ⟨rfl, q⟩ := h
    walk_at "rd"
    refine ⟨[97, 98], rfl, by decide, fun H' sm => ?_⟩
    refine ⟨_, rfl, ?_⟩
    rw [show lettersB [97, 98] = true by decide +kernel]
    refine iteFe rfl ?_
    walk_at "rd"
    exact q H' sm
def tNevE : TE := fun _ _ _ => False
theorem pe_nv {X : Cx} {e : Expr} : PE X e tNevE := ⟨fun _ _ _ _ _ _ h => h.elim⟩
def gNev : TG := fun _ _ _ _ => False
theorem pg_nv {X : Cx} {e : Expr} : PG X e gNev := ⟨fun _ _ _ _ _ _ _ _ _ h => h.elim⟩
/-- what is never called -/
def spNev : Sp := fun _ _ _ _ => False
theorem scState : FnScope ["self", "tree", "origins"] ["self", "tree", "origins"] (defScope iState) := ⟨rfl, rfl, rfl, by decide +kernel, rfl, by decide +kernel, by decide +kernel⟩
theorem scTrace : FnScope ["self", "text", "path", "begin", "end"] ["self", "text"] (defScope iTrace) := ⟨rfl, rfl, rfl, by decide +kernel, rfl, by decide +kernel, by decide +kernel⟩
theorem scShort : FnScope ["text", "letters", "keep", "trace", "told"] ["text", "letters", "keep"] (defScope sShort) := ⟨rfl, rfl, rfl, by decide +kernel, rfl, by decide +kernel, by decide +kernel⟩
theorem scLean : FnScope ["text", "letters", "keep", "trace", "_"] ["text", "letters", "keep"] (defScope sLean) := ⟨rfl, rfl, rfl, by decide +kernel, rfl, by decide +kernel, by decide +kernel⟩
theorem scLeaned : FnScope ["text", "letters", "keep", "_", "told"] ["text", "letters", "keep"] (defScope sLeaned) := ⟨rfl, rfl, rfl, by decide +kernel, rfl, by decide +kernel, by decide +kernel⟩
theorem ok_State {f : Addr} {fd : FuncData} (F : Fun K "__init__" "State.__init__" iState f fd) : FnOk P w K mg base (L2.CX P w) 1 f fd ["self", "tree", "origins"] spNev :=
  F.okX scState (fun vs H Q E h => h.elim) (fun cdv A outer s H vs Q E hr h => h.elim)
structure TrC (K : PySem.W.Frag) (mg : Str → Option Value) (C cS fS : Addr) : Prop where
  cl : Cls K C
  n1 : NoAttr K C "size"
  len_ : mg "len" = none
  gS : mg "State" = some (.ref cS)
  mS : Mk K cS fS
theorem ok_Trace {f fR fS cS : Addr} {fd dR dS : FuncData} (F : Fun K "__init__" "Trace.__init__" iTrace f fd) (T : TrC K mg C cS fS)
    (FS : Fun K "__init__" "State.__init__" iState fS dS) (bS : L2.Binds K dS ["self", "tree", "origins"] [])
    (FR : Fun K "read" "read" sRead fR dR) (gR : mg "read" = some (.ref fR)) (bR : L2.Binds K dR ["text"] []) (GR : FnOk P w K mg base (L2.CX P w) 10 fR dR ["text"] (spBadT cT)) : FnOk P w K mg base (L2.CX P w) 11 f fd ["self", "text"] (spSrcB C cT) := by
  have GS : FnOk P w K mg base (L2.CX P w) 1 fS dS ["self", "tree", "origins"] spNev := ok_State FS
  refine F.okX scTrace (fun vs H Q E h => ?_) (fun cdv A outer s H vs Q E hr h => ?_)
  · obtain ⟨p, dx, t, es, k, rfl, _⟩ := h
    rfl
  · have tk : Takes (cxOf (L2.CX P w) P w K mg base ["self", "text", "path", "begin", "end"] "Trace.__init__" (defScope iTrace) f cdv A outer s H E) (fun cls d _ H' => E cls d H') := takes_of rfl rfl rfl rfl
    refine ⟨_, pss_cons (ps_fld (pv 0) (pe_callB call_len_str (by rfl) T.len_ PySem.boot_len (pa_cons (pv 1) pa_nil)) rfl) (pss_cons (ps_fld (pv 0) (pe_lst (pa_cons (pe_make T.mS GS (hr.mono (by decide : 2 ≤ 10)) (by rfl) T.gS bS .nil (E := fun cls d H' => E cls d H') (fun pins σ H s e s' I c => passAt tk σ pins H s e s' I c) (pa_cons (pe_callS GR hr (by rfl) gR FR.kp bR (fun σ => passAt tk σ) (pa_cons (pv 1) pa_nil)) (pa_cons pe_nv pa_nil))) pa_nil)) rfl) pss_never), ?_⟩
    obtain ⟨p, dx, t, es, k, rfl, hp, hl, hs, e⟩ := h
    refine ⟨_, rfl, S t, rfl, len_le hl, ?_⟩
    refine ⟨_, rfl, p, C, dx, [], rfl, hp, T.cl, T.n1, by show 0 < 1000; decide, ?_⟩
    refine ⟨_, rfl, t, es, k, rfl, hl, hs, fun H' d s hd => ?_⟩
    refine e H' d (fun b o z n => s _ _ ?_) hd
    rw [upd_ne n]
    exact z
/-- a text that breaks off, letters ab, anything else -/
def spBadL (cT : Addr) : Sp := fun vs H _ E => ∃ (t : List Nat) (es : List Ent) (k : Nat) (z : V), vs = [.str (S t), .str (S [97, 98]), z] ∧ t.length ≤ 4000 ∧ Scan stepP t 0 es (some k) ∧ ∀ H' d, Same H H' → H' d = some (.xd [("at", .int (k : Nat))]) → E (.ref cT) (some d) H'
theorem ok_Short {f fM fT cR : Addr} {fd dM dT : FuncData} (F : Fun K "shortened" "shortened" sShort f fd)
    (FM : Fun K "must_be_letters" "must_be_letters" sMustL fM dM) (gM : mg "must_be_letters" = some (.ref fM)) (bM : L2.Binds K dM ["thing"] []) (GM : FnOk P w K mg base CX0 3 fM dM ["thing"] spMustL)
    (M : Mk K cR fT) (gT : mg "Trace" = some (.ref cR)) (bT : L2.Binds K dT ["self", "text"] []) (GT : FnOk P w K mg base (L2.CX P w) 11 fT dT ["self", "text"] (spSrcB cR cT)) : FnOk P w K mg base (L2.CX P w) 13 f fd ["text", "letters", "keep"] (spBadL cT) := by
  refine F.okX scShort (fun vs H Q E h => ?_) (fun cdv A outer s H vs Q E hr h => ?_)
  · obtain ⟨t, es, k, z, rfl, _⟩ := h
    rfl
  · have tk : Takes (cxOf (L2.CX P w) P w K mg base ["text", "letters", "keep", "trace", "told"] "shortened" (defScope sShort) f cdv A outer s H E) (fun cls d _ H' => E cls d H') := takes_of rfl rfl rfl rfl
    refine ⟨_, pss_cons (ps_expr (pe_call GM (hr.mono (by decide : 3 ≤ 12)) (by rfl) gM FM.kp bM .nil pass0 (pa_cons (pv 1) pa_nil))) (pss_cons (ps_set (i := 3) scShort.nd rfl (.inl rfl) (pe_make M GT hr (by rfl) gT bT .nil (E := fun cls d H' => E cls d H') (fun pins σ H s e s' I c => passAt tk σ pins H s e s' I c) (pa_cons (pv 0) pa_nil))) pss_never), ?_⟩
    obtain ⟨t, es, k, z, rfl, hl, hs, e⟩ := h
    walk_at "rd"
    refine ⟨rfl, fun H1 s1 => ?_⟩
    walk_at "rd"
    refine ⟨_, rfl, fun p dx hp hdx hne => ?_⟩
    refine ⟨p, dx, t, es, k, rfl, upd_same, hl, hs, fun H' d hb hd => e H' d (fun b o z => hb b o ?_ ?_) hd⟩
    · rw [upd_ne (fun y => by rw [y] at z; have := s1 _ _ z; rw [hp] at this; cases this), upd_ne (fun y => by rw [y] at z; have := s1 _ _ z; rw [hdx] at this; cases this)]
      exact s1 _ _ z
    · exact fun y => by rw [y] at z; have := s1 _ _ z; rw [hp] at this; cases this
theorem ok_Lean {f fS aE : Addr} {fd dS : FuncData} (F : FunD K "lean" "lean" (defArgs sLean) (defBody sLean) (defScope sLean) [] [("keep", .ref aE)] f fd)
    (FS : Fun K "shortened" "shortened" sShort fS dS) (gS : mg "shortened" = some (.ref fS)) (bS : L2.Binds K dS ["text", "letters", "keep"] []) (GS : FnOk P w K mg base (L2.CX P w) 13 fS dS ["text", "letters", "keep"] (spBadL cT)) : FnOk P w K mg base (L2.CX P w) 14 f fd ["text", "letters", "keep"] (spBadL cT) := by
  refine F.ok (CX := L2.CX P w) scLean (fun vs H Q E h => ?_) (fun cdv A outer s H vs Q E hr h => ?_)
  · obtain ⟨t, es, k, z, rfl, _⟩ := h
    rfl
  · have tk : Takes (cxOf (L2.CX P w) P w K mg base ["text", "letters", "keep", "trace", "_"] "lean" (defScope sLean) f cdv A outer s H E) (fun cls d _ H' => E cls d H') := takes_of rfl rfl rfl rfl
    refine ⟨_, pss_cons (ps_asg (pe_callS GS hr (by rfl) gS FS.kp bS (fun σ => passAt tk σ) (pa_cons (pv 0) (pa_cons (pv 1) (pa_cons (pv 2) pa_nil)))) (g := gNev) pg_nv) pss_never, ?_⟩
    obtain ⟨t, es, k, z, rfl, hl, hs, e⟩ := h
    walk_at "rd"
    exact ⟨t, es, k, z, rfl, hl, hs, e⟩
theorem ok_Leaned {f fS aE : Addr} {fd dS : FuncData} (F : FunD K "leaned" "leaned" (defArgs sLeaned) (defBody sLeaned) (defScope sLeaned) [] [("keep", .ref aE)] f fd)
    (FS : Fun K "shortened" "shortened" sShort fS dS) (gS : mg "shortened" = some (.ref fS)) (bS : L2.Binds K dS ["text", "letters", "keep"] []) (GS : FnOk P w K mg base (L2.CX P w) 13 fS dS ["text", "letters", "keep"] (spBadL cT)) : FnOk P w K mg base (L2.CX P w) 14 f fd ["text", "letters", "keep"] (spBadL cT) := by
  refine F.ok (CX := L2.CX P w) scLeaned (fun vs H Q E h => ?_) (fun cdv A outer s H vs Q E hr h => ?_)
  · obtain ⟨t, es, k, z, rfl, _⟩ := h
    rfl
  · have tk : Takes (cxOf (L2.CX P w) P w K mg base ["text", "letters", "keep", "_", "told"] "leaned" (defScope sLeaned) f cdv A outer s H E) (fun cls d _ H' => E cls d H') := takes_of rfl rfl rfl rfl
    refine ⟨_, pss_cons (ps_asg (pe_callS GS hr (by rfl) gS FS.kp bS (fun σ => passAt tk σ) (pa_cons (pv 0) (pa_cons (pv 1) (pa_cons (pv 2) pa_nil)))) (g := gNev) pg_nv) pss_never, ?_⟩
    obtain ⟨t, es, k, z, rfl, hl, hs, e⟩ := h
    walk_at "rd"
    exact ⟨t, es, k, z, rfl, hl, hs, e⟩
end
end My

namespace My
open PySem PySem.Spec PyProof.Rows L2 XR SX
abbrev sAsked : Stmt := top 279
abbrev sLGood : Stmt := top 280
section
variable {P : Program} {w : World} {K : PySem.W.Frag} {mg : Str → Option Value} {base : Heap} {cs : Nat → Addr} {cL : Addr}
local macro_rules | `(tactic| walk_at "rd1") => `(tactic| first
  | with_reducible refine rs_seq ?_
  | with_reducible refine rs_asg ?_
  | with_reducible refine rs_ret ?_
  | with_reducible refine rs_if ?_
  | with_reducible refine rs_next ?_
  | with_reducible refine rg_name ?_
  | ((with_reducible refine rv_var (v := ?vv) ?hv ?_); (case hv => exact rfl))
  | with_reducible refine rv_c ?_
  | with_reducible refine rv_op ?_
  | with_reducible refine rv_cons ?_
  | with_reducible refine rv_nil ?_
  | with_reducible refine rv_rI0 ?_
  | ((with_reducible refine rv_rI ?hc ?_); (case hc => walk_at "side"))
  | ((with_reducible refine rv_eq ?hc ?_); (case hc => exact rfl))
  | ((with_reducible refine rv_ne ?hc ?_); (case hc => exact rfl))
  | with_reducible refine rv_test ?_
  | with_reducible refine rv_bl ?_
  | with_reducible refine rv_cb ?_
  | with_reducible refine rv_call ?_
  | with_reducible refine rv_tup ?_
  | with_reducible refine rv_lst ?_
  | with_reducible refine rv_tB ?_
  | with_reducible refine rv_or ?_
  | with_reducible refine rv_and ?_
  | with_reducible refine rv_not ?_
  | with_reducible refine rv_andV ?_
  | with_reducible refine rv_orV ?_
  | with_reducible refine rv_notV ?_
  | with_reducible refine rv_ifE ?_
  | with_reducible refine rs_drop ?_
  | with_reducible refine iteT ?_
  | with_reducible refine iteF ?_
  | with_reducible refine ro_nx ?_
  | with_reducible refine ro_rt ?_
  | with_reducible refine ro_ct ?_
  | with_reducible refine ro_bk ?_)
local macro_rules | `(tactic| walk_at "rd") => `(tactic| repeat walk_at "rd1")
local macro_rules | `(tactic| walk_at "side") => `(tactic| first
  | assumption
  | exact (show CPow _ _ from ⟨by decide, by decide, by decide⟩)
  | exact (show CMul _ _ from .inl ⟨by decide, by decide⟩)
  | exact (show CMul _ _ from .inr ⟨by decide, by decide⟩)
  | (show (0 : Int) < _; decide)
  | (show CMul _ _; first | exact .inl ⟨by omega, by omega⟩ | exact .inr ⟨by omega, by omega⟩)
  | omega)
local macro_rules | `(tactic| walk_at "rd1") => `(tactic| first
  | with_reducible refine rs_for ?_
  | with_reducible refine ri_zip ?_
  | with_reducible refine ri_list ?_
  | with_reducible refine ri_rng1 ?_
  | with_reducible refine rv_lc ?_
  | with_reducible refine rv_xfl ?_
  | with_reducible refine rs_par3 ?_
  | with_reducible refine rv_yes ?_
  | with_reducible refine rg_tup ?_
  | with_reducible refine rg_cons ?_
  | with_reducible refine rg_nil ?_)
local macro_rules | `(tactic| walk_at "rd1") => `(tactic| first
  | with_reducible refine ri_str ?_
  | with_reducible refine rv_sl ?_
  | with_reducible refine rv_part ?_
  | with_reducible refine rv_nopart ?_
  | with_reducible refine rv_callS ?_
  | with_reducible refine rv_chain ?_
  | with_reducible refine rv_leS ?_
  | with_reducible refine rv_inS ?_)
/-- a door asked with a text that breaks off at k, or words with one that doesn't -/
def spAsk (lim : Nat) (cs : Nat → Addr) : Sp := fun vs H Q _ => ∃ (which : Nat) (t : List Nat) (es : List Ent), vs = [.int (which : Nat), .str (S t)] ∧ t.length ≤ 4000 ∧ which < lim ∧
  ((∃ k, Scan stepP t 0 es (some k) ∧ ∀ H' x d, Same H H' → ExAt H' x (cs 0) (some d) → DcAt H' d [("at", .int (k : Nat))] → Q (.ref x) H') ∨ (which = 0 ∧ Scan stepP t 0 es none ∧ ∀ H', Same H H' → Q .non H'))
def spLG (cs : Nat → Addr) : Sp := fun vs H Q _ => ∃ (a b c : List Nat) (off : Nat) (es : List Ent), vs = [.str (S a), .str (S b), .int (off : Nat), .str (S c)] ∧ (a ++ b ++ c).length ≤ 4000 ∧ Scan stepP (a ++ b ++ c) 0 es (some (a.length + off)) ∧ ∀ H', Same H H' → Q (.bl true) H'
theorem scAsked : FnScope ["which", "text", "caught", "e"] ["which", "text"] (defScope sAsked) := ⟨rfl, rfl, rfl, by decide +kernel, rfl, by decide +kernel, by decide +kernel⟩
theorem scLGood : FnScope ["ahead", "bad", "off", "behind", "text", "which", "caught"] ["ahead", "bad", "off", "behind"] (defScope sLGood) := ⟨rfl, rfl, rfl, by decide +kernel, rfl, by decide +kernel, by decide +kernel⟩
theorem ok_Asked {f fW fR fS cR fT fL fM aE aG : Addr} {fd dW dR dS dT dL dM : FuncData} {uL uM : List Value} (F : Fun K "_law_asked" "_law_asked" sAsked f fd) (T : Ten K mg cs cL) (exm : PySem.W.exmOne K (.ref (cs 0)) (.ref cL) = some true)
    (FW : Fun K "words" "words" sWords fW dW) (gW : mg "words" = some (.ref fW)) (bW : L2.Binds K dW ["text"] []) (GW : FnOk P w K mg base (L2.CX P w) 5 fW dW ["text"] (spWords (cs 0)))
    (FR : Fun K "read" "read" sRead fR dR) (gR : mg "read" = some (.ref fR)) (bR : L2.Binds K dR ["text"] []) (GR : FnOk P w K mg base (L2.CX P w) 10 fR dR ["text"] (spBadT (cs 0)))
    (FS : Fun K "spots" "spots" sSpots fS dS) (gS : mg "spots" = some (.ref fS)) (bS : L2.Binds K dS ["text"] []) (GS : FnOk P w K mg base (L2.CX P w) 10 fS dS ["text"] (spBadT (cs 0)))
    (M : Mk K cR fT) (gT : mg "Trace" = some (.ref cR)) (bT : L2.Binds K dT ["self", "text"] []) (GT : FnOk P w K mg base (L2.CX P w) 11 fT dT ["self", "text"] (spSrcB cR (cs 0)))
    (FL : FunD K "lean" "lean" (defArgs sLean) (defBody sLean) (defScope sLean) [] [("keep", .ref aE)] fL dL) (gL : mg "lean" = some (.ref fL)) (bL : L2.Binds K dL ["text", "letters", "keep"] uL) (vL : Vals [.ref aE] uL) (GL : FnOk P w K mg base (L2.CX P w) 14 fL dL ["text", "letters", "keep"] (spBadL (cs 0)))
    (FM : FunD K "leaned" "leaned" (defArgs sLeaned) (defBody sLeaned) (defScope sLeaned) [] [("keep", .ref aG)] fM dM) (gM : mg "leaned" = some (.ref fM)) (bM : L2.Binds K dM ["text", "letters", "keep"] uM) (vM : Vals [.ref aG] uM) (GM : FnOk P w K mg base (L2.CX P w) 14 fM dM ["text", "letters", "keep"] (spBadL (cs 0))) : FnOk P w K mg base CX0 15 f fd ["which", "text"] (spAsk 6 cs) := by
  refine F.ok scAsked (fun vs H Q E h => ?_) (fun cdv A outer s H vs Q E hr h => ?_)
  · obtain ⟨which, t, es, rfl, _⟩ := h
    rfl
  · refine ⟨_, pss_cons (ps_set (i := 2) scAsked.nd rfl (.inl rfl) pe_non) (pss_cons (ps_try_keep (i := 3) (j := 2) rfl rfl scAsked.nd rfl rfl (by decide) rfl rfl rfl ⟨rfl, by decide, .inl T.gL⟩ takes0 (fun W pn xe tk _ => (pss_one (ps_if (pt_cmpR op_eq (pv 0) pe_int (nomark _)) (pss_one (ps_expr (pe_callS GW (hr.mono (by decide : 5 ≤ 14)) (by rfl) gW FW.kp bW (fun σ => passAt tk σ) (pa_cons (pv 1) pa_nil)))) (pss_one (ps_if (pt_cmpR op_eq (pv 0) pe_int (nomark _)) (pss_one (ps_expr (pe_callS GR (hr.mono (by decide : 10 ≤ 14)) (by rfl) gR FR.kp bR (fun σ => passAt tk σ) (pa_cons (pv 1) pa_nil)))) (pss_one (ps_if (pt_cmpR op_eq (pv 0) pe_int (nomark _)) (pss_one (ps_expr (pe_callS GS (hr.mono (by decide : 10 ≤ 14)) (by rfl) gS FS.kp bS (fun σ => passAt tk σ) (pa_cons (pv 1) pa_nil)))) (pss_one (ps_if (pt_cmpR op_eq (pv 0) pe_int (nomark _)) (pss_one (ps_expr (pe_mkS M GT (hr.mono (by decide : 12 ≤ 14)) (by rfl) gT bT .nil (fun σ => passAt tk σ) (pa_cons (pv 1) pa_nil)))) (pss_one (ps_if (pt_cmpR op_eq (pv 0) pe_int (nomark _)) (pss_one (ps_expr (pe_callSD GL hr (by rfl) gL FL.kp bL vL (fun σ => passAt tk σ) (pa_cons (pv 1) (pa_cons pe_str pa_nil))))) (pss_one (ps_expr (pe_callSD GM hr (by rfl) gM FM.kp bM vM (fun σ => passAt tk σ) (pa_cons (pv 1) (pa_cons pe_str pa_nil)))))))))))))))) rfl (fun a oe pn => pss_one (ps_set (i := 2) scAsked.nd rfl (.inl rfl) (pv 3)))) (pss_one (ps_ret (pv 2)))), ?_⟩
    obtain ⟨which, t, es, rfl, hl, hw, q⟩ := h
    walk_at "rd"
    rcases q with ⟨k, hs, qb⟩ | ⟨rfl, hs, qn⟩
    · rcases (show which = 0 ∨ which = 1 ∨ which = 2 ∨ which = 3 ∨ which = 4 ∨ which = 5 by omega) with rfl | rfl | rfl | rfl | rfl | rfl
      · refine iteTe rfl ?_
        walk_at "rd"
        refine ⟨t, es, some k, rfl, hl, hs, (fun z => nomatch z), fun k' hk H2 d k2 hd => ?_⟩
        cases hk
        refine ⟨true, exm, fun _ => ⟨cs 0, rfl, fun x hx => ?_⟩, fun z => nomatch z⟩
        have k3 := same_upd (o := exl x (cs 0) (some d)) hx
        have eA : ExAt (upd H2 x (exl x (cs 0) (some d))) x (cs 0) (some d) := exAt_exl upd_same
        have eD : DcAt (upd H2 x (exl x (cs 0) (some d))) d [("at", .int (k : Int))] := .inl (k3 _ _ hd)
        walk_at "rd"
        exact qb _ x d (k2.trans k3) eA eD
      · refine iteFe rfl ?_
        walk_at "rd"
        refine iteTe rfl ?_
        walk_at "rd"
        refine ⟨t, es, k, rfl, hl, hs, fun H2 d k2 hd => ?_⟩
        refine ⟨true, exm, fun _ => ⟨cs 0, rfl, fun x hx => ?_⟩, fun z => nomatch z⟩
        have k3 := same_upd (o := exl x (cs 0) (some d)) hx
        have eA : ExAt (upd H2 x (exl x (cs 0) (some d))) x (cs 0) (some d) := exAt_exl upd_same
        have eD : DcAt (upd H2 x (exl x (cs 0) (some d))) d [("at", .int (k : Int))] := .inl (k3 _ _ hd)
        walk_at "rd"
        exact qb _ x d (k2.trans k3) eA eD
      · refine iteFe rfl ?_
        walk_at "rd"
        refine iteFe rfl ?_
        walk_at "rd"
        refine iteTe rfl ?_
        walk_at "rd"
        refine ⟨t, es, k, rfl, hl, hs, fun H2 d k2 hd => ?_⟩
        refine ⟨true, exm, fun _ => ⟨cs 0, rfl, fun x hx => ?_⟩, fun z => nomatch z⟩
        have k3 := same_upd (o := exl x (cs 0) (some d)) hx
        have eA : ExAt (upd H2 x (exl x (cs 0) (some d))) x (cs 0) (some d) := exAt_exl upd_same
        have eD : DcAt (upd H2 x (exl x (cs 0) (some d))) d [("at", .int (k : Int))] := .inl (k3 _ _ hd)
        walk_at "rd"
        exact qb _ x d (k2.trans k3) eA eD
      · refine iteFe rfl ?_
        walk_at "rd"
        refine iteFe rfl ?_
        walk_at "rd"
        refine iteFe rfl ?_
        walk_at "rd"
        refine iteTe rfl ?_
        walk_at "rd"
        refine ⟨_, rfl, fun p dx hp hdx hne => ?_⟩
        refine ⟨p, dx, t, es, k, rfl, upd_same, hl, hs, fun H2 d hb hd => ?_⟩
        have k2 : Same H H2 := fun b o z => hb b o (by rw [upd_ne (fun y => by rw [y, hp] at z; cases z), upd_ne (fun y => by rw [y, hdx] at z; cases z)]; exact z) (fun y => by rw [y, hp] at z; cases z)
        refine ⟨true, exm, fun _ => ⟨cs 0, rfl, fun x hx => ?_⟩, fun z => nomatch z⟩
        have k3 := same_upd (o := exl x (cs 0) (some d)) hx
        have eA : ExAt (upd H2 x (exl x (cs 0) (some d))) x (cs 0) (some d) := exAt_exl upd_same
        have eD : DcAt (upd H2 x (exl x (cs 0) (some d))) d [("at", .int (k : Int))] := .inl (k3 _ _ hd)
        walk_at "rd"
        exact qb _ x d (k2.trans k3) eA eD
      · refine iteFe rfl ?_
        walk_at "rd"
        refine iteFe rfl ?_
        walk_at "rd"
        refine iteFe rfl ?_
        walk_at "rd"
        refine iteFe rfl ?_
        walk_at "rd"
        refine iteTe rfl ?_
        walk_at "rd"
        refine ⟨_, rfl, ?_⟩
        walk_at "rd"
        refine ⟨t, es, k, _, rfl, hl, hs, fun H2 d k2 hd => ?_⟩
        refine ⟨true, exm, fun _ => ⟨cs 0, rfl, fun x hx => ?_⟩, fun z => nomatch z⟩
        have k3 := same_upd (o := exl x (cs 0) (some d)) hx
        have eA : ExAt (upd H2 x (exl x (cs 0) (some d))) x (cs 0) (some d) := exAt_exl upd_same
        have eD : DcAt (upd H2 x (exl x (cs 0) (some d))) d [("at", .int (k : Int))] := .inl (k3 _ _ hd)
        walk_at "rd"
        exact qb _ x d (k2.trans k3) eA eD
      · refine iteFe rfl ?_
        walk_at "rd"
        refine iteFe rfl ?_
        walk_at "rd"
        refine iteFe rfl ?_
        walk_at "rd"
        refine iteFe rfl ?_
        walk_at "rd"
        refine iteFe rfl ?_
        walk_at "rd"
        refine ⟨_, rfl, ?_⟩
        walk_at "rd"
        refine ⟨t, es, k, _, rfl, hl, hs, fun H2 d k2 hd => ?_⟩
        refine ⟨true, exm, fun _ => ⟨cs 0, rfl, fun x hx => ?_⟩, fun z => nomatch z⟩
        have k3 := same_upd (o := exl x (cs 0) (some d)) hx
        have eA : ExAt (upd H2 x (exl x (cs 0) (some d))) x (cs 0) (some d) := exAt_exl upd_same
        have eD : DcAt (upd H2 x (exl x (cs 0) (some d))) d [("at", .int (k : Int))] := .inl (k3 _ _ hd)
        walk_at "rd"
        exact qb _ x d (k2.trans k3) eA eD
    · refine iteTe rfl ?_
      walk_at "rd"
      refine ⟨t, es, none, rfl, hl, hs, (fun _ H2 a xs k2 na ha en => ?_), fun k' hk => nomatch hk⟩
      walk_at "rd"
      exact qn H2 k2
end
end My

namespace My
open PySem PySem.Spec PyProof.Rows L2 XR SX
section
variable {P : Program} {w : World} {K : PySem.W.Frag} {mg : Str → Option Value} {base : Heap} {cs : Nat → Addr} {cL : Addr}
local macro_rules | `(tactic| walk_at "rd1") => `(tactic| first
  | with_reducible refine rs_seq ?_
  | with_reducible refine rs_asg ?_
  | with_reducible refine rs_ret ?_
  | with_reducible refine rs_if ?_
  | with_reducible refine rs_next ?_
  | with_reducible refine rg_name ?_
  | ((with_reducible refine rv_var (v := ?vv) ?hv ?_); (case hv => exact rfl))
  | with_reducible refine rv_c ?_
  | with_reducible refine rv_op ?_
  | with_reducible refine rv_cons ?_
  | with_reducible refine rv_nil ?_
  | with_reducible refine rv_rI0 ?_
  | ((with_reducible refine rv_rI ?hc ?_); (case hc => walk_at "side"))
  | ((with_reducible refine rv_eq ?hc ?_); (case hc => exact rfl))
  | ((with_reducible refine rv_ne ?hc ?_); (case hc => exact rfl))
  | with_reducible refine rv_test ?_
  | with_reducible refine rv_bl ?_
  | with_reducible refine rv_cb ?_
  | with_reducible refine rv_call ?_
  | with_reducible refine rv_tup ?_
  | with_reducible refine rv_lst ?_
  | with_reducible refine rv_tB ?_
  | with_reducible refine rv_or ?_
  | with_reducible refine rv_and ?_
  | with_reducible refine rv_not ?_
  | with_reducible refine rv_andV ?_
  | with_reducible refine rv_orV ?_
  | with_reducible refine rv_notV ?_
  | with_reducible refine rv_ifE ?_
  | with_reducible refine rs_drop ?_
  | with_reducible refine iteT ?_
  | with_reducible refine iteF ?_
  | with_reducible refine ro_nx ?_
  | with_reducible refine ro_rt ?_
  | with_reducible refine ro_ct ?_
  | with_reducible refine ro_bk ?_)
local macro_rules | `(tactic| walk_at "rd") => `(tactic| repeat walk_at "rd1")
local macro_rules | `(tactic| walk_at "side") => `(tactic| first
  | assumption
  | exact (show CPow _ _ from ⟨by decide, by decide, by decide⟩)
  | exact (show CMul _ _ from .inl ⟨by decide, by decide⟩)
  | exact (show CMul _ _ from .inr ⟨by decide, by decide⟩)
  | (show (0 : Int) < _; decide)
  | (show CMul _ _; first | exact .inl ⟨by omega, by omega⟩ | exact .inr ⟨by omega, by omega⟩)
  | omega)
local macro_rules | `(tactic| walk_at "rd1") => `(tactic| first
  | with_reducible refine rs_for ?_
  | with_reducible refine ri_zip ?_
  | with_reducible refine ri_list ?_
  | with_reducible refine ri_rng1 ?_
  | with_reducible refine rv_lc ?_
  | with_reducible refine rv_xfl ?_
  | with_reducible refine rs_par3 ?_
  | with_reducible refine rv_yes ?_
  | with_reducible refine rg_tup ?_
  | with_reducible refine rg_cons ?_
  | with_reducible refine rg_nil ?_)
local macro_rules | `(tactic| walk_at "rd1") => `(tactic| first
  | with_reducible refine ri_str ?_
  | with_reducible refine rv_sl ?_
  | with_reducible refine rv_part ?_
  | with_reducible refine rv_nopart ?_
  | with_reducible refine rv_callS ?_
  | with_reducible refine rv_chain ?_
  | with_reducible refine rv_leS ?_
  | with_reducible refine rv_inS ?_)
def rAddS : R2 := fun x y H Q => ∃ i j, x = V.str i ∧ y = V.str j ∧ i.length + j.length ≤ sizeLine ∧ Q (V.str (i ++ j)) H
theorem op_addS {X : Cx} : OpR X (binaryOp .Add) rAddS := op_add_str
theorem rv_addS {t u : List Nat} {H : Hp} {Q : VK} (hl : t.length + u.length ≤ 4000) (q : Q (.str (S (t ++ u))) H) : rAddS (.str (S t)) (.str (S u)) H Q :=
  ⟨S t, S u, rfl, rfl, len_le hl, by rw [S_cat]; exact q⟩
theorem scLGood2 : FnScope ["ahead", "bad", "off", "behind", "text", "which", "caught"] ["ahead", "bad", "off", "behind"] (defScope sLGood) := ⟨rfl, rfl, rfl, by decide +kernel, rfl, by decide +kernel, by decide +kernel⟩
theorem ok_LGood {f fA fO fT : Addr} {fd dA dO fdT : FuncData} (F : Fun K "_law_good" "_law_good" sLGood f fd) (T : Ten K mg cs cL) (C : TextC K mg (cs 0) fT fdT) (mL : mg "len" = none) (mR : mg "range" = none)
    (FA : Fun K "_law_asked" "_law_asked" sAsked fA dA) (gA : mg "_law_asked" = some (.ref fA)) (bA : L2.Binds K dA ["which", "text"] []) (GA : FnOk P w K mg base CX0 15 fA dA ["which", "text"] (spAsk 6 cs))
    (FO : Fun K "_law_only" "_law_only" sOnly fO dO) (gO : mg "_law_only" = some (.ref fO)) (bO : L2.Binds K dO ["caught", "name"] []) : FnOk P w K mg base CX0 16 f fd ["ahead", "bad", "off", "behind"] (spLG cs) := by
  have GO : FnOk P w K mg base CX0 1 fO dO ["caught", "name"] (spOnly K cs) := ok_only FO T
  refine F.ok scLGood2 (fun vs H Q E h => ?_) (fun cdv A outer s H vs Q E hr h => ?_)
  · obtain ⟨a, b, c, off, es, rfl, _⟩ := h
    rfl
  · have hr1 := hr.mono (by decide : 1 ≤ 15)
    refine ⟨_, (pss_cons (ps_set (i := 4) scLGood2.nd rfl (.inl rfl) (pe_op op_addS (pe_op op_addS (pv 0) (pv 1)) (pv 3)))
        (pss_cons (ps_for PassesOwn.never rfl (pi_range1 (by rfl) mR (pa_cons pe_int pa_nil)) (pg_name (i := 5) scLGood2.nd rfl (.inl rfl))
          (pss_cons (ps_set (i := 6) scLGood2.nd rfl (.inl rfl) (pe_call GA hr (by rfl) gA FA.kp bA .nil pass0 (pa_cons (pv 5) (pa_cons (pv 4) pa_nil))))
          (pss_one (ps_if (PW.pt (pw_or (pt_not (pt_val (pe_call GO hr1 (by rfl) gO FO.kp bO .nil pass0 (pa_cons (pv 6) (pa_cons pe_str pa_nil))))) (pw_or1 (pt_cmpR op_ne (pe_xfl (pv 6)) (pe_op op_add (pe_callB call_len_str (by rfl) mL PySem.boot_len (pa_cons (pv 0) pa_nil)) (pv 2)) (nomark _))))) (pss_one (ps_ret pe_bl)) pss_nil))))
        (pss_one (ps_ret pe_bl)))), ?_⟩
    obtain ⟨a, b, c, off, es, rfl, hl, hs, q⟩ := h
    have hl' : a.length + b.length + c.length ≤ 4000 := by rw [List.length_append, List.length_append] at hl; exact hl
    walk_at "rd"
    refine rv_addS (t := a) (u := b) (by omega) ?_
    walk_at "rd"
    refine rv_addS (t := a ++ b) (u := c) (by rw [List.length_append]; exact hl') ?_
    walk_at "rd"
    refine ⟨6, rfl, by decide, by decide, for_it walk_range (fun i σ H' => (∃ o5 o6, σ = [some (.str (S a)), some (.str (S b)), some (.int (off : Nat)), some (.str (S c)), some (.str (S (a ++ b ++ c))), o5, o6]) ∧ Same H H') ⟨⟨none, none, rfl⟩, Same.refl H⟩ (fun _ _ _ _ _ => True.intro) ?_ ?_⟩
    · rintro i y σ H1 H2 hi ⟨⟨o5, o6, rfl⟩, s1⟩ ⟨rfl, hy⟩
      have hi' : i < 6 := hi
      have hy' : y = .int (i : Nat) := by
        rw [hy]
        show V.int (0 + ((i : Nat) : Int)) = _
        rw [Int.zero_add]
      subst hy'
      walk_at "rd"
      refine ⟨i, a ++ b ++ c, es, rfl, hl, hi', .inl ⟨_, hs, fun H3 x d k3 eA eD => ?_⟩⟩
      walk_at "rd"
      refine ⟨x, 0, by decide, rfl, .inr ⟨d, _, eA, eD⟩, fun H4 k4 => ?_⟩
      refine ⟨_, rfl, iteFe rfl ?_⟩
      walk_at "rd"
      refine ⟨x, cs 0, d, _, _, rfl, eA.same k4, eD.same k4, T.ek 0 (by decide), C.n, rfl, ?_⟩
      walk_at "rd"
      refine ⟨S a, rfl, len_le (by rw [S_len]; omega), ?_⟩
      rw [S_len]
      walk_at "rd"
      refine iteFe ?_ ?_
      · rw [show ((a.length : Nat) : Int) + (off : Nat) = ((a.length + off : Nat) : Int) by omega, decide_eq_true rfl]
        rfl
      walk_at "rd"
      exact ⟨⟨_, _, rfl⟩, (s1.trans k3).trans k4⟩
    · rintro σ H1 ⟨⟨o5, o6, rfl⟩, s1⟩
      walk_at "rd"
      exact q H1 s1
end
end My

namespace My
open PySem PySem.Spec PyProof.Rows L2 XR SX
abbrev sLaw : Stmt := top 281
section
variable {P : Program} {w : World} {K : PySem.W.Frag} {mg : Str → Option Value} {base : Heap} {cs : Nat → Addr} {cL : Addr}
local macro_rules | `(tactic| walk_at "rd1") => `(tactic| first
  | with_reducible refine rs_seq ?_
  | with_reducible refine rs_asg ?_
  | with_reducible refine rs_ret ?_
  | with_reducible refine rs_if ?_
  | with_reducible refine rs_next ?_
  | with_reducible refine rg_name ?_
  | ((with_reducible refine rv_var (v := ?vv) ?hv ?_); (case hv => exact rfl))
  | with_reducible refine rv_c ?_
  | with_reducible refine rv_op ?_
  | with_reducible refine rv_cons ?_
  | with_reducible refine rv_nil ?_
  | with_reducible refine rv_rI0 ?_
  | ((with_reducible refine rv_rI ?hc ?_); (case hc => walk_at "side"))
  | ((with_reducible refine rv_eq ?hc ?_); (case hc => exact rfl))
  | ((with_reducible refine rv_ne ?hc ?_); (case hc => exact rfl))
  | with_reducible refine rv_test ?_
  | with_reducible refine rv_bl ?_
  | with_reducible refine rv_cb ?_
  | with_reducible refine rv_call ?_
  | with_reducible refine rv_tup ?_
  | with_reducible refine rv_lst ?_
  | with_reducible refine rv_tB ?_
  | with_reducible refine rv_or ?_
  | with_reducible refine rv_and ?_
  | with_reducible refine rv_not ?_
  | with_reducible refine rv_andV ?_
  | with_reducible refine rv_orV ?_
  | with_reducible refine rv_notV ?_
  | with_reducible refine rv_ifE ?_
  | with_reducible refine rs_drop ?_
  | with_reducible refine iteT ?_
  | with_reducible refine iteF ?_
  | with_reducible refine ro_nx ?_
  | with_reducible refine ro_rt ?_
  | with_reducible refine ro_ct ?_
  | with_reducible refine ro_bk ?_)
local macro_rules | `(tactic| walk_at "rd") => `(tactic| repeat walk_at "rd1")
local macro_rules | `(tactic| walk_at "side") => `(tactic| first
  | assumption
  | exact (show CPow _ _ from ⟨by decide, by decide, by decide⟩)
  | exact (show CMul _ _ from .inl ⟨by decide, by decide⟩)
  | exact (show CMul _ _ from .inr ⟨by decide, by decide⟩)
  | (show (0 : Int) < _; decide)
  | (show CMul _ _; first | exact .inl ⟨by omega, by omega⟩ | exact .inr ⟨by omega, by omega⟩)
  | omega)
local macro_rules | `(tactic| walk_at "rd1") => `(tactic| first
  | with_reducible refine rs_for ?_
  | with_reducible refine ri_zip ?_
  | with_reducible refine ri_list ?_
  | with_reducible refine ri_rng1 ?_
  | with_reducible refine rv_lc ?_
  | with_reducible refine rv_xfl ?_
  | with_reducible refine rs_par3 ?_
  | with_reducible refine rv_yes ?_
  | with_reducible refine rg_tup ?_
  | with_reducible refine rg_cons ?_
  | with_reducible refine rg_nil ?_)
local macro_rules | `(tactic| walk_at "rd1") => `(tactic| first
  | with_reducible refine ri_str ?_
  | with_reducible refine rv_sl ?_
  | with_reducible refine rv_part ?_
  | with_reducible refine rv_nopart ?_
  | with_reducible refine rv_callS ?_
  | with_reducible refine rv_chain ?_
  | with_reducible refine rv_leS ?_
  | with_reducible refine rv_inS ?_)
structure RgT (mg : Str → Option Value) : Prop where
  range_ : mg "range" = none
def spLaw (K : PySem.W.Frag) : Sp := fun vs H Q _ => ∃ (a : Addr) (ns : List Int), vs = [.ref a] ∧ SqL K H a (ns.map V.int) ∧ ∀ H', Q (.bl true) H'
abbrev Row := Str × Int
def RowR (H : Hp) (x : V) (e : Row) : Prop := ∃ t, x = .ref t ∧ H t = some (.tup [.str e.1, .int e.2])
theorem RowR.same {H H' : Hp} (s : Same H H') {x : V} {e : Row} : RowR H x e → RowR H' x e := fun ⟨t, a, b⟩ => ⟨t, a, s _ _ b⟩
/-- written tuples of a text and a number -/
def rowsT : List Row → TA
  | [] => tNil
  | e :: l => tCons (tTup (tCons (tC (.str e.1)) (tCons (tC (.int e.2)) tNil))) (rowsT l)
theorem rows_it {σ : L2.St} : ∀ (l : List Row) {H : Hp} {Q : List V → Hp → Prop}, (∀ H' xs, Same H H' → Paired (RowR H') xs l → Q xs H') → rowsT l σ H Q
  | [], H, Q, q => q H [] (Same.refl H) .nil
  | e :: l, H, Q, q => by
    refine ⟨by show 2 ≤ sizeLine; decide, fun p hp => ?_⟩
    have s1 := same_upd (o := .tup [.str e.1, .int e.2]) hp
    exact rows_it l fun H' xs s2 pr => q H' (.ref p :: xs) (s1.trans s2) (.cons ⟨p, rfl, s2 _ _ upd_same⟩ pr)
theorem paired_cat {α β : Type} {R : α → β → Prop} : ∀ {xs : List α} {ys : List β} {us : List α} {vs : List β}, Paired R xs ys → Paired R us vs → Paired R (xs ++ us) (ys ++ vs)
  | [], [], _, _, .nil, h => h
  | _ :: _, _ :: _, _, _, .cons a t, h => .cons a (paired_cat t h)
theorem paired_len {α β : Type} {R : α → β → Prop} {xs : List α} {ys : List β} (p : Paired R xs ys) : xs.length = ys.length := Paired.length p
theorem same_putV {H H' : Hp} {a : Addr} {o : HO} (n : H a = none) (s : Same H H') : Same H (upd H' a o) := fun c x e => by
  rw [upd_ne (fun z => by rw [z, n] at e; cases e)]
  exact s _ _ e
theorem bad_scan {a c : List Nat} {b : List Nat × Nat} (ha : a ∈ aheads) (hb : b ∈ bads) (hc : c ∈ behinds) : ∃ es, Scan stepP (a ++ b.1 ++ c) 0 es (some (a.length + b.2)) :=
  scanB_ok (of_decide_eq_true (List.all_eq_true.mp (List.all_eq_true.mp (List.all_eq_true.mp bad_all a ha) b hb) c hc))
theorem bad_len : (aheads.all fun a => bads.all fun b => behinds.all fun c => decide ((a ++ b.1 ++ c).length ≤ 4000)) = true := by decide +kernel
theorem bad_len' {a c : List Nat} {b : List Nat × Nat} (ha : a ∈ aheads) (hb : b ∈ bads) (hc : c ∈ behinds) : (a ++ b.1 ++ c).length ≤ 4000 :=
  of_decide_eq_true (List.all_eq_true.mp (List.all_eq_true.mp (List.all_eq_true.mp bad_len a ha) b hb) c hc)
theorem good_scan {t : List Nat} (h : t ∈ goods) : ∃ es, Scan stepP t 0 es none := scanB_ok (of_decide_eq_true (List.all_eq_true.mp good_all t h))
theorem good_len {t : List Nat} (h : t ∈ goods) : t.length ≤ 4000 := of_decide_eq_true (List.all_eq_true.mp (show (goods.all fun t => decide (t.length ≤ 4000)) = true by decide +kernel) t h)
theorem paired_nth {α β : Type} {R : α → β → Prop} {xs : List α} {ys : List β} (p : Paired R xs ys) : ∀ {i : Nat} {x : α}, xs[i]? = some x → ∃ y, ys[i]? = some y ∧ R x y := by
  induction p with
  | nil => intro i y e; cases i <;> cases e
  | cons h t ih =>
    intro i y e
    cases i with
    | zero => cases e; exact ⟨_, rfl, h⟩
    | succ i => exact ih (i := i) e
theorem cat_rows {σ : L2.St} {p : Addr} {zs : List V} {R : List Row} {H G : Hp} (l : List Row) {Q : VK} (sG : Same H G) (e : G p = some (.lst zs)) (pr : Paired (RowR G) zs R) (hv : σ[1]? = some (some (.ref p))) (hl : R.length + l.length ≤ 100)
    (q : ∀ G' p' zs', Same H G' → G' p' = some (.lst zs') → Paired (RowR G') zs' (R ++ l) → Q (.ref p') G') : tOp rCat (tVar 1) (tLst (rowsT l)) σ G Q := by
  refine ⟨.ref p, hv, rows_it l fun H1 xs1 s1 pr1 => ⟨by rw [paired_len pr1, sizeLine_eq]; omega, fun u hu => ?_⟩⟩
  have s2 := s1.trans (same_upd (o := .lst xs1) hu)
  refine ⟨p, u, zs, xs1, rfl, rfl, s2 _ _ e, upd_same, by rw [paired_len pr, paired_len pr1, sizeLine_eq]; omega, fun p' hp' => ?_⟩
  have s3 := same_upd (o := .lst (zs ++ xs1)) hp'
  refine q _ p' _ ((sG.trans s2).trans s3) upd_same (paired_cat ?_ ?_)
  · exact Paired.mapP pr fun _ _ h => RowR.same (s2.trans s3) h
  · exact Paired.mapP pr1 fun _ _ h => RowR.same ((same_upd (o := .lst xs1) hu).trans s3) h
def rows0 : List Row := [("1e", 0), ("01", 0), ("1e0", 0), ("1e100", 0), ("5e3a", 0), ("let1", 0), ("aB", 1), ("B", 0)]
def rows1 : List Row := [("0e1", 0), ("00", 0)]
def rows2 : List Row := [("abcdefghijklm", 0), ("a1", 0), ("1a", 0), ("1234567890123456789", 0), ("1e18", 0), ("12e17", 0)]
def rows3 : List Row := [("1e012", 0), ("&", 0), ("|", 0), ("#", 0), ("a_b", 1), ("'", 0), ("a&b", 1)]
def rows4 : List Row := [("7e3e1", 0), ("2e99", 0)]
def rowsA : List Row := rows0 ++ rows1 ++ rows2 ++ rows3 ++ rows4
theorem rowsA_eq : rowsA = bads.map fun e => (S e.1, (e.2 : Int)) := by decide +kernel
theorem scLaw : FnScope ["script", "some", "k", "pile", "bad", "off", "ahead", "behind", "good", "text"] ["script"] (defScope sLaw) := ⟨rfl, rfl, rfl, by decide +kernel, rfl, by decide +kernel, by decide +kernel⟩
theorem ok_Law {f fC fK fG fA : Addr} {fd dC dK dG dA : FuncData} (F : Fun K "law" "law" sLaw f fd) (T : RgT mg)
    (FC : Fun K "_law_cell" "_law_cell" sCell fC dC) (gC : mg "_law_cell" = some (.ref fC)) (bC : L2.Binds K dC ["script", "k"] []) (GC : FnOk P w K mg base CX0 2 fC dC ["script", "k"] (spCell K))
    (FK : Fun K "_law_take" "_law_take" sTake fK dK) (gK : mg "_law_take" = some (.ref fK)) (bK : L2.Binds K dK ["pile", "size"] []) (GK : FnOk P w K mg base CX0 1 fK dK ["pile", "size"] spTake)
    (FG : Fun K "_law_good" "_law_good" sLGood fG dG) (gG : mg "_law_good" = some (.ref fG)) (bG : L2.Binds K dG ["ahead", "bad", "off", "behind"] []) (GG : FnOk P w K mg base CX0 16 fG dG ["ahead", "bad", "off", "behind"] (spLG cs))
    (FA : Fun K "_law_asked" "_law_asked" sAsked fA dA) (gA : mg "_law_asked" = some (.ref fA)) (bA : L2.Binds K dA ["which", "text"] []) (GA : FnOk P w K mg base CX0 15 fA dA ["which", "text"] (spAsk 6 cs)) : FnOk P w K mg base CX0 17 f fd ["script"] (spLaw K) := by
  refine F.ok scLaw (fun vs H Q E h => ?_) (fun cdv A outer s H vs Q E hr h => ?_)
  · obtain ⟨a, ns, rfl, _⟩ := h
    rfl
  · have hr2 := hr.mono (by decide : 2 ≤ 16)
    have hr1 := hr.mono (by decide : 1 ≤ 16)
    have hr11 := hr.mono (by decide : 15 ≤ 16)
    refine ⟨_, (pss_cons (ps_set (i := 1) scLaw.nd rfl (.inl rfl) (pe_lst (pa_cons (pe_tup (pa_cons pe_str (pa_cons pe_int pa_nil))) (pa_cons (pe_tup (pa_cons pe_str (pa_cons pe_int pa_nil))) (pa_cons (pe_tup (pa_cons pe_str (pa_cons pe_int pa_nil))) (pa_cons (pe_tup (pa_cons pe_str (pa_cons pe_int pa_nil))) (pa_cons (pe_tup (pa_cons pe_str (pa_cons pe_int pa_nil))) (pa_cons (pe_tup (pa_cons pe_str (pa_cons pe_int pa_nil))) (pa_cons (pe_tup (pa_cons pe_str (pa_cons pe_int pa_nil))) (pa_cons (pe_tup (pa_cons pe_str (pa_cons pe_int pa_nil))) pa_nil))))))))))
        (pss_cons (ps_set (i := 1) scLaw.nd rfl (.inl rfl) (pe_op op_cat (pv 1) (pe_lst (pa_cons (pe_tup (pa_cons pe_str (pa_cons pe_int pa_nil))) (pa_cons (pe_tup (pa_cons pe_str (pa_cons pe_int pa_nil))) pa_nil)))))
        (pss_cons (ps_set (i := 1) scLaw.nd rfl (.inl rfl) (pe_op op_cat (pv 1) (pe_lst (pa_cons (pe_tup (pa_cons pe_str (pa_cons pe_int pa_nil))) (pa_cons (pe_tup (pa_cons pe_str (pa_cons pe_int pa_nil))) (pa_cons (pe_tup (pa_cons pe_str (pa_cons pe_int pa_nil))) (pa_cons (pe_tup (pa_cons pe_str (pa_cons pe_int pa_nil))) (pa_cons (pe_tup (pa_cons pe_str (pa_cons pe_int pa_nil))) (pa_cons (pe_tup (pa_cons pe_str (pa_cons pe_int pa_nil))) pa_nil)))))))))
        (pss_cons (ps_set (i := 1) scLaw.nd rfl (.inl rfl) (pe_op op_cat (pv 1) (pe_lst (pa_cons (pe_tup (pa_cons pe_str (pa_cons pe_int pa_nil))) (pa_cons (pe_tup (pa_cons pe_str (pa_cons pe_int pa_nil))) (pa_cons (pe_tup (pa_cons pe_str (pa_cons pe_int pa_nil))) (pa_cons (pe_tup (pa_cons pe_str (pa_cons pe_int pa_nil))) (pa_cons (pe_tup (pa_cons pe_str (pa_cons pe_int pa_nil))) (pa_cons (pe_tup (pa_cons pe_str (pa_cons pe_int pa_nil))) (pa_cons (pe_tup (pa_cons pe_str (pa_cons pe_int pa_nil))) pa_nil))))))))))
        (pss_cons (ps_set (i := 1) scLaw.nd rfl (.inl rfl) (pe_op op_cat (pv 1) (pe_lst (pa_cons (pe_tup (pa_cons pe_str (pa_cons pe_int pa_nil))) (pa_cons (pe_tup (pa_cons pe_str (pa_cons pe_int pa_nil))) pa_nil)))))
        (pss_cons (ps_for PassesOwn.never rfl (pi_range1 (by rfl) T.range_ (pa_cons pe_int pa_nil)) (pg_name (i := 2) scLaw.nd rfl (.inl rfl)) (pss_cons (ps_set (i := 3) scLaw.nd rfl (.inl rfl) (pe_lst (pa_cons (pe_call GC hr2 (by rfl) gC FC.kp bC .nil pass0 (pa_cons (pv 0) (pa_cons (pv 2) pa_nil))) pa_nil)))
        (pss_one (ps_for PassesOwn.never rfl (pi_list (pv 1)) (pg_tup (by rfl) (pgs_cons (pg_name (i := 4) scLaw.nd rfl (.inl rfl)) (pgs_cons (pg_name (i := 5) scLaw.nd rfl (.inl rfl)) pgs_nil))) (pss_cons (ps_set (i := 6) scLaw.nd rfl (.inl rfl) (pe_ix ix_list (pe_lst (pa_cons pe_str (pa_cons pe_str (pa_cons pe_str (pa_cons pe_str (pa_cons pe_str (pa_cons pe_str pa_nil))))))) (pe_call GK hr1 (by rfl) gK FK.kp bK .nil pass0 (pa_cons (pv 3) (pa_cons pe_int pa_nil))) (fun _ _ => rfl)))
        (pss_cons (ps_set (i := 7) scLaw.nd rfl (.inl rfl) (pe_ix ix_list (pe_lst (pa_cons pe_str (pa_cons pe_str (pa_cons pe_str (pa_cons pe_str (pa_cons pe_str (pa_cons pe_str pa_nil))))))) (pe_call GK hr1 (by rfl) gK FK.kp bK .nil pass0 (pa_cons (pv 3) (pa_cons pe_int pa_nil))) (fun _ _ => rfl)))
        (pss_one (ps_if (pt_not (pt_val (pe_call GG hr (by rfl) gG FG.kp bG .nil pass0 (pa_cons (pv 6) (pa_cons (pv 4) (pa_cons (pv 5) (pa_cons (pv 7) pa_nil))))))) (pss_one (ps_ret pe_bl)) pss_nil))))))))
        (pss_cons (ps_set (i := 8) scLaw.nd rfl (.inl rfl) (pe_lst (pa_cons pe_str (pa_cons pe_str (pa_cons pe_str (pa_cons pe_str (pa_cons pe_str (pa_cons pe_str (pa_cons pe_str (pa_cons pe_str (pa_cons pe_str pa_nil)))))))))))
        (pss_one (ps_ret (pe_cmpR (op_eqD hr.units) (pe_lc (own := [("text", 9)]) (g := (gName 9)) (tt := (tTest (tOp rNotN (tCall (spAsk 6 cs) [] E0 (tCons (tC (.int 0)) (tCons (tVar 9) tNil))) (tC .non)))) (te := (tVar 9)) (by rfl) scLaw.nd (pi_list (pv 8)) (blkOk_by (own := [("text", 9)]) (N := ["script", "some", "k", "pile", "bad", "off", "ahead", "behind", "good", "text"]) (sc := defScope sLaw) (by decide +kernel)) (fun _ _ _ _ _ => (pg_name (i := 9) scLaw.nd rfl (.inl rfl))) (fun _ _ _ _ _ => (pts_one (pt_cmpR op_notN1 (pe_call GA hr11 (by rfl) gA FA.kp bA .nil pass0 (pa_cons pe_int (pa_cons (pv 9) pa_nil))) pe_non (by rfl)))) (fun _ _ _ _ _ => (pv 9))) (pe_lst pa_nil) (nomark _))))))))))), ?_⟩
    obtain ⟨a, ns, rfl, hS, q⟩ := h
    refine rs_seq ?_
    refine rs_asg ?_
    refine rv_lst ?_
    refine rows_it rows0 fun H0 xs0 s0 pr0 => ?_
    have z0 : xs0.length = 8 := paired_len pr0
    refine ⟨by rw [z0]; decide, fun p0 hp0 => ?_⟩
    refine rg_name ?_
    have sm0 := s0.trans (same_upd (o := .lst xs0) hp0)
    replace pr0 : Paired (RowR (upd H0 p0 (.lst xs0))) xs0 rows0 := Paired.mapP pr0 fun _ _ h => RowR.same (same_upd hp0) h
    have ep0 : (upd H0 p0 (.lst xs0)) p0 = some (.lst xs0) := upd_same
    refine ro_nx ?_
    refine rs_seq ?_
    refine rs_asg ?_
    refine cat_rows rows1 sm0 ep0 pr0 rfl (by decide) fun G1 p1 zs1 sm1 ep1 pr1 => ?_
    refine rg_name ?_
    refine ro_nx ?_
    refine rs_seq ?_
    refine rs_asg ?_
    refine cat_rows rows2 sm1 ep1 pr1 rfl (by decide) fun G2 p2 zs2 sm2 ep2 pr2 => ?_
    refine rg_name ?_
    refine ro_nx ?_
    refine rs_seq ?_
    refine rs_asg ?_
    refine cat_rows rows3 sm2 ep2 pr2 rfl (by decide) fun G3 p3 zs3 sm3 ep3 pr3 => ?_
    refine rg_name ?_
    refine ro_nx ?_
    refine rs_seq ?_
    refine rs_asg ?_
    refine cat_rows rows4 sm3 ep3 pr3 rfl (by decide) fun G4 p4 zs4 sm4 ep4 pr4 => ?_
    refine rg_name ?_
    refine ro_nx ?_
    replace pr4 : Paired (RowR G4) zs4 rowsA := pr4
    walk_at "rd"
    refine ⟨3, rfl, by decide, by decide, for_range (lo := 0) (n := 3) (fun i σ H' => Same H H' ∧ Same G4 H' ∧ ∃ o2 o3 o4 o5 o6 o7 o8 o9, σ = [some (.ref a), some (.ref p4), o2, o3, o4, o5, o6, o7, o8, o9]) ⟨sm4, Same.refl G4, none, none, none, none, none, none, none, none, rfl⟩ ?_ ?_⟩
    · rintro i σ H1 hi ⟨k1, g1, o2, o3, o4, o5, o6, o7, o8, o9, rfl⟩
      refine rg_name ?_
      walk_at "rd"
      refine ⟨a, ns, _, rfl, k1.seq hS, (by omega), (by omega), fun n => ?_⟩
      walk_at "rd"
      refine ⟨by show 1 ≤ sizeLine; decide, fun pp hpp => ?_⟩
      have k2 := k1.trans (same_upd (o := .lst [.int n]) hpp)
      have g2 := g1.trans (same_upd (o := .lst [.int n]) hpp)
      have npH : H pp = none := k1.free hpp
      have npG : G4 pp = none := g1.free hpp
      walk_at "rd"
      refine ⟨p4, rfl, ⟨_, SqL.of (g2 _ _ ep4)⟩, for_it (walk_list (xs := zs4)) (fun j σ H' => Same H H' ∧ Same G4 H' ∧ (∃ m, H' pp = some (.lst [.int m])) ∧ ∃ o4 o5 o6 o7 o8 o9, σ = [some (.ref a), some (.ref p4), some (.int (0 + (i : Nat))), some (.ref pp), o4, o5, o6, o7, o8, o9]) ⟨k2, g2, ⟨n, upd_same⟩, _, _, _, _, _, _, rfl⟩ (fun _ _ _ _ ⟨_, g, _⟩ => SqL.of (g _ _ ep4)) ?_ ?_⟩
      · rintro j y σ H2 H3 hj ⟨k3, g3, ⟨m, em⟩, o4, o5, o6, o7, o8, o9, rfl⟩ ⟨rfl, hy⟩
        obtain ⟨e, he, t, rfl, ht⟩ := paired_nth pr4 hy
        rw [rowsA_eq, List.getElem?_map] at he
        obtain ⟨b, hb, rfl⟩ := Option.map_eq_some_iff.mp he
        refine ⟨t, _, rfl, .inl (.inl (g3 _ _ ht)), rfl, ?_⟩
        walk_at "rd"
        refine ⟨by show 6 ≤ sizeLine; decide, fun q1 hq1 => ?_⟩
        have t1 := same_upd (o := .lst (aheads.map fun t => V.str (S t))) hq1
        have em1 := t1 _ _ em
        have nq1 : q1 ≠ pp := fun z => by rw [z, em] at hq1; cases hq1
        walk_at "rd"
        refine ⟨pp, _, 6, rfl, em1, by decide, by decide, fun d1 m1 ha1 hb1 => ?_⟩
        obtain ⟨n1, rfl⟩ : ∃ n1 : Nat, d1 = (n1 : Int) := ⟨d1.toNat, by omega⟩
        obtain ⟨w1, hw1⟩ : ∃ w1, aheads[n1]? = some w1 := ⟨_, List.getElem?_eq_getElem (by show n1 < 6; omega)⟩
        refine ⟨q1, aheads.map (fun t => V.str (S t)), _, _, rfl, rfl, SqL.of ((upd_ne nq1).trans upd_same), atI_nat (by rw [List.getElem?_map, hw1]; rfl), ?_⟩
        walk_at "rd"
        refine ⟨by show 6 ≤ sizeLine; decide, fun q2 hq2 => ?_⟩
        have emA : (upd (upd H3 q1 (.lst (aheads.map fun t => V.str (S t)))) pp (.lst [.int m1])) pp = some (.lst [.int m1]) := upd_same
        have t2 := same_upd (o := .lst (behinds.map fun t => V.str (S t))) hq2
        have em2 := t2 _ _ emA
        have nq2 : q2 ≠ pp := fun z => by rw [z] at hq2; exact absurd (hq2.symm.trans emA) (fun z => nomatch z)
        walk_at "rd"
        refine ⟨pp, _, 6, rfl, em2, by decide, by decide, fun d2 m2 ha2 hb2 => ?_⟩
        obtain ⟨n2, rfl⟩ : ∃ n2 : Nat, d2 = (n2 : Int) := ⟨d2.toNat, by omega⟩
        obtain ⟨w2, hw2⟩ : ∃ w2, behinds[n2]? = some w2 := ⟨_, List.getElem?_eq_getElem (by show n2 < 6; omega)⟩
        refine ⟨q2, behinds.map (fun t => V.str (S t)), _, _, rfl, rfl, SqL.of ((upd_ne nq2).trans upd_same), atI_nat (by rw [List.getElem?_map, hw2]; rfl), ?_⟩
        walk_at "rd"
        obtain ⟨es, hs⟩ := bad_scan (List.mem_of_getElem? hw1) (List.mem_of_getElem? hb) (List.mem_of_getElem? hw2)
        have kA := same_putV (o := .lst [.int m1]) npH (k3.trans t1)
        have gA' := same_putV (o := .lst [.int m1]) npG (g3.trans t1)
        have kB := same_putV (o := .lst [.int m2]) npH (kA.trans t2)
        have gB' := same_putV (o := .lst [.int m2]) npG (gA'.trans t2)
        refine ⟨w1, b.1, w2, b.2, es, rfl, bad_len' (List.mem_of_getElem? hw1) (List.mem_of_getElem? hb) (List.mem_of_getElem? hw2), hs, fun H5 k5 => ?_⟩
        refine ⟨_, rfl, iteFe rfl ?_⟩
        walk_at "rd"
        exact ⟨kB.trans k5, gB'.trans k5, ⟨m2, k5 _ _ upd_same⟩, _, _, _, _, _, _, rfl⟩
      · rintro σ H2 ⟨k3, g3, _, o4, o5, o6, o7, o8, o9, rfl⟩
        walk_at "rd"
        exact ⟨k3, g3, _, _, _, _, _, _, _, _, rfl⟩
    · rintro σ H1 ⟨k1, g1, o2, o3, o4, o5, o6, o7, o8, o9, rfl⟩
      walk_at "rd"
      refine ⟨by show 9 ≤ sizeLine; decide, fun gp hgp => ?_⟩
      walk_at "rd"
      refine ⟨gp, rfl, ⟨_, SqL.of upd_same⟩, fun D hD => ?_⟩
      have kg := k1.trans (same_upd (o := .lst (goods.map fun t => V.str (S t))) hgp)
      have nDg : D ≠ gp := fun z => by rw [z, upd_same] at hD; cases hD
      refine lc_it (walk_list (xs := goods.map fun t => V.str (S t))) (fun i H' => Same H H' ∧ H' gp = some (.lst (goods.map fun t => V.str (S t))) ∧ H' D = some (.lst [])) ⟨kg.trans (same_upd hD), (upd_ne (Ne.symm nDg)).trans upd_same, upd_same⟩ (fun _ _ _ ⟨_, g, _⟩ => SqL.of g) ?_ ?_
      · rintro i y H2 H3 hi ⟨k2, eg, eD⟩ ⟨rfl, hy⟩
        rw [List.getElem?_map] at hy
        obtain ⟨t, ht, rfl⟩ := Option.map_eq_some_iff.mp hy
        obtain ⟨es, hs⟩ := good_scan (List.mem_of_getElem? ht)
        refine rg_name ⟨by rfl, ?_⟩
        walk_at "rd"
        refine ⟨0, t, es, rfl, good_len (List.mem_of_getElem? ht), by decide, .inr ⟨rfl, hs, fun H4 k4 => ?_⟩⟩
        refine ⟨rfl, _, rfl, iteFe rfl ?_⟩
        exact ⟨k2.trans k4, k4 _ _ eg, k4 _ _ eD⟩
      rintro H2 ⟨k2, eg, eD⟩
      walk_at "rd"
      refine ⟨by decide, fun z hz => ?_⟩
      have k3 := same_upd (o := .lst []) hz
      refine ⟨.list [], .list [], .lst (SqL.of (k3 _ _ eD)) .nil, .lst (SqL.of upd_same) .nil, (by decide +kernel), (by decide +kernel), ?_⟩
      exact q _
end
end My

/-! a large top by parts: each part a run in the kernel from one written state to the next -/
noncomputable section
namespace XH
open PySem PySem.W PySem.Calls PyProof.Rows HandSHeadRun
section
variable (st : SharedT → Thread → Option (SharedT × Thread)) (n0 : Nat) (ann : Option Value)
def goP : Nat → SharedT → Thread → Option (SharedT × Thread)
  | 0, s, t => some (s, t)
  | k + 1, s, t => match through t with
    | true => none
    | false => match stepOk n0 ann t with
      | false => none
      | true => match st s t with
        | some (a, b) => frS a fun a => goP k a b
        | none => none
def segF : Nat → SharedT → Thread → Option (Flow × SharedT × Code × Pos)
  | 0, _, _ => none
  | k + 1, s, t => match endAt 1 t with
    | some f => some (f, s, t.code, t.pos)
    | none => match stepOk n0 ann t with
      | false => none
      | true => match st s t with
        | some (a, b) => frS a fun a => segF k a b
        | none => none
end
section
variable {tb : String → Option Builtin} {p : Program} {w : World} {n0 : Nat} {ann : Option Value}
theorem goP_ok : ∀ {k : Nat} {s s' : SharedT} {t t' : Thread}, goP (stepT (denote tb) p w) n0 ann k s t = some (s', t') → topGo tb p w n0 ann k s.abs t = some (s'.abs, t') := by
  intro k
  induction k with
  | zero =>
    intro s s' t t' h
    cases h
    rfl
  | succ k ih =>
    intro s s' t t' h
    unfold goP at h
    unfold topGo
    split at h
    · cases h
    · rename_i e1
      rw [e1]
      split at h
      · cases h
      · rename_i e2
        rw [e2]
        split at h
        · rename_i a b e3
          rw [frS_eq] at h
          rw [stepT_spec e3]
          exact ih h
        · cases h
theorem segF_ok : ∀ {k : Nat} {s s' : SharedT} {t : Thread} {f : Flow} {c : Code} {q : Pos}, segF (stepT (denote tb) p w) n0 ann k s t = some (f, s', c, q) → segRun tb p w n0 ann 1 k s.abs t = some (f, s'.abs, c, q) := by
  intro k
  induction k with
  | zero =>
    intro s s' t f c q h
    cases h
  | succ k ih =>
    intro s s' t f c q h
    unfold segF at h
    unfold segRun
    split at h
    · rename_i e1
      rw [e1]
      cases h
      rfl
    · rename_i e1
      rw [e1]
      split at h
      · cases h
      · rename_i e2
        rw [e2]
        split at h
        · rename_i a b e3
          rw [frS_eq] at h
          rw [stepT_spec e3]
          exact ih h
        · cases h
variable {env : Env} {q : Pos}
/-- some of what is left -/
theorem piece_cut {n N m : Nat} {s s' r : Shared} {rest : List Stmt} {c : Code} {pos p' : Pos} (h : segRun tb p w n0 ann 1 n s (piecesOf (rest.take m) env c pos [topFrame q]) = some (.next, s', c, p'))
    (k : topRun tb p w n0 ann N s' (restOf (rest.drop m) env c p' [topFrame q]) = some r) : topRun tb p w n0 ann (n + N) s (restOf rest env c pos [topFrame q]) = some r := by
  have z := piece_app h k
  rw [List.take_append_drop] at z
  exact z
end
def execsQ : List Stmt → Env → Sem Flow := PySem.W.Fast.tw12563942051412417395
def blockQ : List Stmt → Env → Sem Unit := PySem.W.Fast.tw1066825118222455980
theorem execsQ_eq : @PySem.execs = execsQ := PySem.W.Fast.te12563942051412417395
theorem blockQ_eq : @PySem.blockStart = blockQ := PySem.W.Fast.te1066825118222455980
abbrev stQ (p : Program) (w : World) := stepQ (denQ tabQ) p w
theorem stQ_eq (p : Program) (w : World) : stepT (denote treeTable) p w = stQ p w := by
  show stepT (denote treeTable) p w = stepQ (denQ tabQ) p w
  rw [stepQ_eq, denQ_eq, tabQ_eq]
abbrev pcQ (l : List Stmt) (env : Env) (c : Code) (p : Pos) (B : List Frame) : Thread := ⟨(execsQ l env).wrap doneF deadEnd id id, c, p, B⟩
/-- a part of the top -/
theorem seg_of {p : Program} {w : World} {n0 : Nat} {ann : Option Value} {k : Nat} {s s' : SharedT} {l : List Stmt} {env : Env} {c : Code} {pos p' : Pos} {B : List Frame}
    (h : segF (stQ p w) n0 ann k s (pcQ l env c pos B) = some (.next, s', c, p')) : segRun treeTable p w n0 ann 1 k s.abs (piecesOf l env c pos B) = some (.next, s'.abs, c, p') := by
  refine segF_ok ?_
  rw [stQ_eq]
  have e : piecesOf l env c pos B = pcQ l env c pos B := by
    show (⟨(execs l env).wrap doneF deadEnd id id, c, pos, B⟩ : Thread) = ⟨(execsQ l env).wrap doneF deadEnd id id, c, pos, B⟩
    rw [execsQ_eq]
  rw [e]
  exact h
theorem blk_of {p : Program} {w : World} {n0 : Nat} {ann : Option Value} {k : Nat} {s s' : SharedT} {l : List Stmt} {env : Env} {c : Code} {pos p' : Pos} {B : List Frame}
    (h : segF (stQ p w) n0 ann k s ⟨(blockQ l env).wrap (fun _ => doneF .next) deadEnd id id, c, pos, B⟩ = some (.next, s', c, p')) : segRun treeTable p w n0 ann 1 k s.abs (blockOf l env c pos B) = some (.next, s'.abs, c, p') := by
  refine segF_ok ?_
  rw [stQ_eq]
  have e : blockOf l env c pos B = ⟨(blockQ l env).wrap (fun _ => doneF .next) deadEnd id id, c, pos, B⟩ := by
    show (⟨(blockStart l env).wrap (fun _ => doneF .next) deadEnd id id, c, pos, B⟩ : Thread) = _
    rw [blockQ_eq]
  rw [e]
  exact h
theorem pre_of {p : Program} {w : World} {n0 : Nat} {ann : Option Value} {k : Nat} {s s' : SharedT} {t : Thread} {c c' : Code} {pos : Pos} {B : List Frame}
    (h : goP (stQ p w) n0 ann k s t = some (s', ⟨denQ tabQ c, c', pos, B⟩)) : topGo treeTable p w n0 ann k s.abs t = some (s'.abs, ⟨denote treeTable c, c', pos, B⟩) := by
  refine goP_ok ?_
  rw [stQ_eq, denQ_eq, tabQ_eq]
  exact h
theorem fin_of {p : Program} {w : World} {n0 : Nat} {ann : Option Value} {k : Nat} {s s' : SharedT} {t : Thread}
    (h : goF (stQ p w) n0 ann k s t = some s') : topRun treeTable p w n0 ann k s.abs t = some s'.abs := by
  refine goF_ok ?_
  rw [stQ_eq]
  exact h
/-- what of it is looked at, off the tree -/
def obT (as : List Addr) (s : SharedT) : List (Option Obj) := as.map (getT s)
theorem obT_eq (as : List Addr) (s : SharedT) : obT as s = as.map s.abs.heap.get? := by
  unfold obT
  refine List.map_congr_left fun a _ => getT_eq s a
end XH
end

set_option maxHeartbeats 0
noncomputable section
namespace Hd
open PySem PySem.W PySem.Calls PyProof.Rows HandSHeadRun
abbrev S := PySem.Str.ofString
abbrev R : OpenRow := OpenLaw.row PySem.Challenge.rw_leanscript_k02_refused_words
abbrev prg : Program := R.prog
abbrev qv : Program := view R.prog [281]
abbrev fnO (st : Stmt) (n q : Str) (g : Addr) (df kd doc pm : Value) (an : Option Addr) (c ct : Value) (bi : Addr) : Data := .func ⟨n, q, L2.defArgs st, .stmts (L2.defBody st), L2.defScope st, g, [], df, kd, doc, pm, an, c, ct, bi⟩
abbrev env : Env := { scope := prg.main.scope, locals := mainNs, globals := mainNs, cells := [], code := (.ref 13), frame := some 14 }
abbrev cE : Code := .body (behindTheImports prg) env
abbrev B : List Frame := [topFrame ⟨0, 0, 0, 0⟩]
abbrev ann : Option Value := (some (.ref 6))
def T0 (P : Params) : PySem.W.BT := (.node (boot_o_0 P) (.node (boot_o_1 P) (.node (boot_o_3 P) (.node (boot_o_7 P) .nil .nil) .nil) (.node (boot_o_5 P) (.node (boot_o_9 P) .nil .nil) .nil)) (.node (boot_o_2 P) (.node (boot_o_4 P) (.node (boot_o_8 P) .nil .nil) .nil) (.node (boot_o_6 P) (.node (boot_o_10 P) .nil .nil) .nil)))
abbrev S0 (w : World) (os : OsState) : SharedT := ⟨T0 w.params, 11, (boot_heap w.params).life, #[], boot_drawn, boot_toks, os⟩
theorem s0 (w : World) (os : OsState) : (S0 w os).abs = ⟨boot_heap w.params, #[], boot_drawn, boot_toks, os⟩ := by
  have e : putAll (boot_heap w.params).objs.toList .nil 0 = some (T0 w.params, 11) := by kernel_rfl
  have z := putAll_heap e
  show (⟨absHeap (T0 w.params) 11 (boot_heap w.params).life, #[], boot_drawn, boot_toks, os⟩ : Shared) = _
  rw [z]
def o_11 (P : Params) : Obj := ⟨(.type "tuple"), none, .seq (List.toArray []) 0, (List.toArray [])⟩
def o_12 (P : Params) : Obj := ⟨.none, none, .fields (List.toArray []), (List.toArray [])⟩
def o_13 (P : Params) : Obj := ⟨(.type "code"), none, .fields (List.toArray [(.str (S "<module>") 182), (.str (S "<module>") 183), (.str (S "/claim/cut.py") 184), (.int 1 0), (.int 0 0), (.int 0 0), (.int 0 0), (.int 0 0), (.ref 11), (.bool false), (.int 181 0), (.ref 12), .none, .none, .none, .none, (.int 185 0), (.int 1 0), (.str (S "/claim/cut.py") 186)]), (List.toArray [])⟩
def o_14 (P : Params) : Obj := ⟨(.type "frame"), none, .plain, (List.toArray [(some (.ref 13)), (some (.ref 3)), (some (.ref 3)), none, (some (.str (S "__main__") 164)), none, (some (.ref 0))])⟩
def Ta (P : Params) : PySem.W.BT := (.node (boot_o_0 P) (.node (boot_o_1 P) (.node (boot_o_3 P) (.node (boot_o_7 P) .nil .nil) (.node (o_11 P) .nil .nil)) (.node (boot_o_5 P) (.node (boot_o_9 P) .nil .nil) (.node (o_13 P) .nil .nil))) (.node (boot_o_2 P) (.node (boot_o_4 P) (.node (boot_o_8 P) .nil .nil) (.node (o_12 P) .nil .nil)) (.node (boot_o_6 P) (.node (boot_o_10 P) .nil .nil) (.node (o_14 P) .nil .nil))))
abbrev Sa (w : World) (os : OsState) : SharedT := ⟨Ta w.params, 15, (boot_heap w.params).life, #[], ⟨0, 0, 0, 0⟩, 187, os⟩
theorem preR (w : World) (os : OsState) : XH.goP (XH.stQ prg w) 11 ann 12 (S0 w os) (topStub prg) = some (Sa w os, ⟨denQ tabQ cE, cE, ⟨0, 0, 0, 0⟩, B⟩) := by kernel_rfl
def Tb (P : Params) : PySem.W.BT := (.node (boot_o_0 P) (.node (boot_o_1 P) (.node (boot_o_3 P) (.node (boot_o_7 P) .nil .nil) (.node (o_11 P) .nil .nil)) (.node (boot_o_5 P) (.node (boot_o_9 P) .nil .nil) (.node (o_13 P) .nil .nil))) (.node (boot_o_2 P) (.node (boot_o_4 P) (.node (boot_o_8 P) .nil .nil) (.node (o_12 P) .nil .nil)) (.node (boot_o_6 P) (.node (boot_o_10 P) .nil .nil) (.node (o_14 P) .nil .nil))))
abbrev Sb (w : World) (os : OsState) : SharedT := ⟨Tb w.params, 15, (boot_heap w.params).life, #[], ⟨0, 0, 0, 0⟩, 187, os⟩
theorem blkR (w : World) (os : OsState) : XH.segF (XH.stQ prg w) 11 ann 1 (Sa w os) ⟨(XH.blockQ (behindTheImports prg) env).wrap (fun _ => doneF .next) deadEnd id id, cE, ⟨0, 0, 0, 0⟩, B⟩ = some (.next, Sb w os, cE, ⟨0, 0, 0, 0⟩) := by kernel_rfl
abbrev rest0 : List Stmt := behindTheImports prg
def l_3_1 (P : Params) : List DictEntry := ⟨(PyData.keyHash P (S "MOST_FIGURES")), (.str (S "MOST_FIGURES") 451), (.int 18 450)⟩ :: ⟨(PyData.keyHash P (S "is_letter")), (.str (S "is_letter") 458), (.ref 189)⟩ :: ⟨(PyData.keyHash P (S "is_figure")), (.str (S "is_figure") 465), (.ref 196)⟩ :: ⟨(PyData.keyHash P (S "is_letter_or_figure")), (.str (S "is_letter_or_figure") 472), (.ref 203)⟩ :: ⟨(PyData.keyHash P (S "is_name")), (.str (S "is_name") 478), (.ref 208)⟩ :: ⟨(PyData.keyHash P (S "is_plain_number")), (.str (S "is_plain_number") 484), (.ref 213)⟩ :: ⟨(PyData.keyHash P (S "is_number")), (.str (S "is_number") 494), (.ref 220)⟩ :: ⟨(PyData.keyHash P (S "number_told")), (.str (S "number_told") 504), (.ref 227)⟩ :: ⟨(PyData.keyHash P (S "run_end")), (.str (S "run_end") 512), (.ref 234)⟩ :: ⟨(PyData.keyHash P (S "sort_of")), (.str (S "sort_of") 520), (.ref 241)⟩ :: ⟨(PyData.keyHash P (S "sign_end")), (.str (S "sign_end") 528), (.ref 248)⟩ :: ⟨(PyData.keyHash P (S "words")), (.str (S "words") 539), (.ref 255)⟩ :: ⟨(PyData.keyHash P (S "EXPRESSIONS")), (.str (S "EXPRESSIONS") 554), (.ref 256)⟩ :: ⟨(PyData.keyHash P (S "STATEMENTS")), (.str (S "STATEMENTS") 566), (.ref 257)⟩ :: ⟨(PyData.keyHash P (S "TWO_SIGNS")), (.str (S "TWO_SIGNS") 578), (.ref 258)⟩ :: ⟨(PyData.keyHash P (S "SHAPES")), (.str (S "SHAPES") 665), (.ref 259)⟩ :: ⟨(PyData.keyHash P (S "is_give")), (.str (S "is_give") 672), (.ref 290)⟩ :: []
def l_3_2 (P : Params) : List DictEntry := ⟨(PyData.keyHash P (S "__name__")), (.str (S "__name__") 165), (.str (S "leanscript.shapes") 540)⟩ :: ⟨(PyData.keyHash P (S "__doc__")), (.str (S "__doc__") 166), .none⟩ :: ⟨(PyData.keyHash P (S "__package__")), (.str (S "__package__") 167), .none⟩ :: ⟨(PyData.keyHash P (S "__loader__")), (.str (S "__loader__") 168), (.builtin "__main__.__loader__#opaque")⟩ :: ⟨(PyData.keyHash P (S "__spec__")), (.str (S "__spec__") 169), .none⟩ :: ⟨(PyData.keyHash P (S "__annotations__")), (.str (S "__annotations__") 170), (.ref 6)⟩ :: ⟨(PyData.keyHash P (S "__builtins__")), (.str (S "__builtins__") 171), (.ref 4)⟩ :: ⟨(PyData.keyHash P (S "__file__")), (.str (S "__file__") 173), (.str (S "/claim/cut.py") 172)⟩ :: ⟨(PyData.keyHash P (S "__cached__")), (.str (S "__cached__") 174), .none⟩ :: ⟨(PyData.keyHash P (S "_wall")), (.str (S "_wall") 193), (.ref 21)⟩ :: ⟨(PyData.keyHash P (S "LeanError")), (.str (S "LeanError") 213), (.ref 31)⟩ :: ⟨(PyData.keyHash P (S "NoText")), (.str (S "NoText") 239), (.ref 52)⟩ :: ⟨(PyData.keyHash P (S "NoTree")), (.str (S "NoTree") 267), (.ref 73)⟩ :: ⟨(PyData.keyHash P (S "NoPath")), (.str (S "NoPath") 283), (.ref 85)⟩ :: ⟨(PyData.keyHash P (S "NoNaming")), (.str (S "NoNaming") 310), (.ref 105)⟩ :: ⟨(PyData.keyHash P (S "NoLetters")), (.str (S "NoLetters") 326), (.ref 117)⟩ :: ⟨(PyData.keyHash P (S "NoCount")), (.str (S "NoCount") 342), (.ref 129)⟩ :: ⟨(PyData.keyHash P (S "NoTurning")), (.str (S "NoTurning") 358), (.ref 141)⟩ :: ⟨(PyData.keyHash P (S "NoMap")), (.str (S "NoMap") 374), (.ref 153)⟩ :: ⟨(PyData.keyHash P (S "NoLine")), (.str (S "NoLine") 390), (.ref 165)⟩ :: ⟨(PyData.keyHash P (S "TooMany")), (.str (S "TooMany") 406), (.ref 177)⟩ :: ⟨(PyData.keyHash P (S "KEPT")), (.str (S "KEPT") 419), (.ref 180)⟩ :: ⟨(PyData.keyHash P (S "LONG_SIGNS")), (.str (S "LONG_SIGNS") 426), (.ref 181)⟩ :: ⟨(PyData.keyHash P (S "SHORT_SIGNS")), (.str (S "SHORT_SIGNS") 447), (.ref 182)⟩ :: ⟨(PyData.keyHash P (S "MOST_LETTERS_words")), (.str (S "MOST_LETTERS_words") 449), (.int 12 448)⟩ :: (l_3_1 P)
def o_3 (P : Params) : Obj := ⟨(.type "dict"), none, .dict (List.toArray (l_3_2 P)) 42, (List.toArray [])⟩
def l_12_3 (P : Params) : List Value := (.ref 212) :: (.int 55 0) :: (.int 0 0) :: (.ref 219) :: (.int 64 0) :: (.int 0 0) :: (.ref 226) :: (.int 69 0) :: (.int 0 0) :: (.ref 233) :: (.int 73 0) :: (.int 0 0) :: (.ref 240) :: (.int 81 0) :: (.int 0 0) :: (.ref 247) :: (.int 87 0) :: (.int 0 0) :: (.ref 254) :: (.int 108 0) :: (.int 0 0) :: (.ref 289) :: []
def l_12_4 (P : Params) : List Value := (.int 0 0) :: (.ref 137) :: (.int 29 0) :: (.int 0 0) :: (.ref 149) :: (.int 31 0) :: (.int 0 0) :: (.ref 161) :: (.int 33 0) :: (.int 0 0) :: (.ref 173) :: (.int 41 0) :: (.int 0 0) :: (.ref 188) :: (.int 43 0) :: (.int 0 0) :: (.ref 195) :: (.int 45 0) :: (.int 0 0) :: (.ref 202) :: (.int 47 0) :: (.int 0 0) :: (.ref 207) :: (.int 51 0) :: (.int 0 0) :: (l_12_3 P)
def l_12_5 (P : Params) : List Value := (.int 1 0) :: (.int 0 0) :: (.ref 20) :: (.int 5 0) :: (.int 0 0) :: (.ref 27) :: (.int 7 0) :: (.int 0 0) :: (.ref 40) :: (.int 11 0) :: (.int 0 0) :: (.ref 60) :: (.int 16 0) :: (.int 0 0) :: (.ref 81) :: (.int 18 0) :: (.int 0 0) :: (.ref 93) :: (.int 23 0) :: (.int 0 0) :: (.ref 113) :: (.int 25 0) :: (.int 0 0) :: (.ref 125) :: (.int 27 0) :: (l_12_4 P)
def o_12_1 (P : Params) : Obj := ⟨.none, none, .fields (List.toArray (l_12_5 P)), (List.toArray [])⟩
def o_15 (P : Params) : Obj := ⟨(.type "tuple"), none, .seq (List.toArray []) 0, (List.toArray [])⟩
def o_16 (P : Params) : Obj := ⟨.none, none, .fields (List.toArray []), (List.toArray [])⟩
def o_17 (P : Params) : Obj := ⟨(.type "tuple"), none, .seq (List.toArray [(.str (S "k") 190)]) 0, (List.toArray [])⟩
def o_18 (P : Params) : Obj := ⟨(.type "tuple"), none, .seq (List.toArray []) 0, (List.toArray [])⟩
def o_19 (P : Params) : Obj := ⟨.none, none, fnO (My.top 0) (S "_wall") (S "_wall") 0 .none .none .none .none none .none .none 0, (List.toArray [])⟩
def o_20 (P : Params) : Obj := ⟨(.type "code"), none, .fields (List.toArray [(.str (S "_wall") 187), (.str (S "_wall") 188), (.str (S "/claim/cut.py") 189), (.int 1 0), (.int 1 0), (.int 0 0), (.int 0 0), (.int 3 0), (.ref 15), (.bool true), (.int 181 0), (.ref 16), .none, (.ref 17), (.ref 18), (.ref 19), (.int 191 0), (.int 1 0), (.str (S "/claim/cut.py") 192)]), (List.toArray [])⟩
def o_21 (P : Params) : Obj := ⟨(.type "function"), none, fnO (My.top 0) (S "_wall") (S "_wall") 3 .none .none .none (.str (S "__main__") 164) none (.ref 20) .none 0, (List.toArray [])⟩
def o_22 (P : Params) : Obj := ⟨(.type "tuple"), none, .seq (List.toArray [(.type "ValueError")]) 0, (List.toArray [])⟩
def o_23 (P : Params) : Obj := ⟨(.type "builtin_function_or_method"), none, .fields (List.toArray [(.builtin "type.__prepare__"), (.type "type")]), (List.toArray [])⟩
def o_24 (P : Params) : Obj := ⟨(.type "dict"), none, .dict (List.toArray [⟨(PyData.keyHash P (S "__module__")), (.str (S "__module__") 203), (.str (S "leanscript.errors") 194)⟩, ⟨(PyData.keyHash P (S "__qualname__")), (.str (S "__qualname__") 205), (.str (S "LeanError") 204)⟩, ⟨(PyData.keyHash P (S "__firstlineno__")), (.str (S "__firstlineno__") 207), (.int 5 206)⟩, ⟨(PyData.keyHash P (S "__static_attributes__")), (.str (S "__static_attributes__") 208), (.ref 29)⟩]) 4, (List.toArray [])⟩
def o_25 (P : Params) : Obj := ⟨(.type "tuple"), none, .seq (List.toArray []) 0, (List.toArray [])⟩
def o_26 (P : Params) : Obj := ⟨.none, none, .fields (List.toArray []), (List.toArray [])⟩
def o_27 (P : Params) : Obj := ⟨(.type "code"), none, .fields (List.toArray [(.str (S "LeanError") 198), (.str (S "LeanError") 199), (.str (S "/claim/cut.py") 200), (.int 5 0), (.int 0 0), (.int 0 0), (.int 0 0), (.int 0 0), (.ref 25), (.bool false), (.int 181 0), (.ref 26), .none, .none, .none, .none, (.int 201 0), (.int 5 0), (.str (S "/claim/cut.py") 202)]), (List.toArray [])⟩
def o_28 (P : Params) : Obj := ⟨(.type "frame"), none, .plain, (List.toArray [(some (.ref 27)), (some (.ref 3)), (some (.ref 24)), none, (some (.str (S "leanscript.errors") 194)), none, (some (.ref 0))])⟩
def o_29 (P : Params) : Obj := ⟨(.type "tuple"), none, .seq (List.toArray []) 0, (List.toArray [])⟩
def o_30 (P : Params) : Obj := ⟨(.type "dict"), none, .dict (List.toArray [⟨(PyData.keyHash P (S "__module__")), (.str (S "__module__") 203), (.str (S "leanscript.errors") 194)⟩, ⟨(PyData.keyHash P (S "__firstlineno__")), (.str (S "__firstlineno__") 207), (.int 5 206)⟩, ⟨(PyData.keyHash P (S "__static_attributes__")), (.str (S "__static_attributes__") 208), (.ref 29)⟩, ⟨(PyData.keyHash P (S "__weakref__")), (.str (S "__weakref__") 210), (.ref 32)⟩, ⟨(PyData.keyHash P (S "__doc__")), (.str (S "__doc__") 211), .none⟩]) 3, (List.toArray [])⟩
def o_31 (P : Params) : Obj := ⟨(.type "type"), none, .cls ⟨(S "LeanError"), [(.type "ValueError")], [(.ref 31), (.type "ValueError"), (.type "Exception"), (.type "BaseException"), (.type "object")], 30, (S "LeanError"), true, [], [(.ref 52), (.ref 73), (.ref 85), (.ref 105), (.ref 117), (.ref 129), (.ref 141), (.ref 153), (.ref 165), (.ref 177)], false, none, false⟩, (List.toArray [(some (.ref 22)), none, (some (.str (S "LeanError") 196)), (some (.str (S "LeanError") 204)), (some (.builtin "ValueError.__new__")), (some (.bool true))])⟩
def o_32 (P : Params) : Obj := ⟨(.type "getset_descriptor"), none, .fields (List.toArray [(.str (S "__weakref__") 209), (.ref 31), (.builtin "ExceptionGroup.__weakref__"), .none]), (List.toArray [])⟩
def o_33 (P : Params) : Obj := ⟨(.type "super"), none, .fields (List.toArray [(.ref 31), (.ref 31), (.ref 31)]), (List.toArray [])⟩
def o_34 (P : Params) : Obj := ⟨(.type "builtin_function_or_method"), none, .fields (List.toArray [(.builtin "object.__init_subclass__"), (.ref 31)]), (List.toArray [])⟩
def o_35 (P : Params) : Obj := ⟨(.type "tuple"), none, .seq (List.toArray [(.ref 31)]) 0, (List.toArray [])⟩
def o_36 (P : Params) : Obj := ⟨(.type "builtin_function_or_method"), none, .fields (List.toArray [(.builtin "type.__prepare__"), (.type "type")]), (List.toArray [])⟩
def o_37 (P : Params) : Obj := ⟨(.type "dict"), none, .dict (List.toArray [⟨(PyData.keyHash P (S "__module__")), (.str (S "__module__") 221), (.str (S "leanscript.errors") 194)⟩, ⟨(PyData.keyHash P (S "__qualname__")), (.str (S "__qualname__") 223), (.str (S "NoText") 222)⟩, ⟨(PyData.keyHash P (S "__firstlineno__")), (.str (S "__firstlineno__") 225), (.int 7 224)⟩, ⟨(PyData.keyHash P (S "__init__")), (.str (S "__init__") 234), (.ref 49)⟩, ⟨(PyData.keyHash P (S "__static_attributes__")), (.str (S "__static_attributes__") 236), (.ref 50)⟩]) 5, (List.toArray [])⟩
def o_38 (P : Params) : Obj := ⟨(.type "tuple"), none, .seq (List.toArray []) 0, (List.toArray [])⟩
def o_39 (P : Params) : Obj := ⟨.none, none, .fields (List.toArray [(.int 9 0), (.int 4 0), (.ref 48)]), (List.toArray [])⟩
def o_40 (P : Params) : Obj := ⟨(.type "code"), none, .fields (List.toArray [(.str (S "NoText") 216), (.str (S "NoText") 217), (.str (S "/claim/cut.py") 218), (.int 7 0), (.int 0 0), (.int 0 0), (.int 0 0), (.int 0 0), (.ref 38), (.bool false), (.int 181 0), (.ref 39), .none, .none, .none, .none, (.int 219 0), (.int 7 0), (.str (S "/claim/cut.py") 220)]), (List.toArray [])⟩
def o_41 (P : Params) : Obj := ⟨(.type "frame"), none, .plain, (List.toArray [(some (.ref 40)), (some (.ref 3)), (some (.ref 37)), none, (some (.str (S "leanscript.errors") 194)), none, (some (.ref 0))])⟩
def o_42 (P : Params) : Obj := ⟨(.type "tuple"), none, .seq (List.toArray [(.int 0 226)]) 0, (List.toArray [])⟩
def o_43 (P : Params) : Obj := ⟨(.type "tuple"), none, .seq (List.toArray []) 0, (List.toArray [])⟩
def o_44 (P : Params) : Obj := ⟨.none, none, .fields (List.toArray []), (List.toArray [])⟩
def o_45 (P : Params) : Obj := ⟨(.type "tuple"), none, .seq (List.toArray [(.str (S "self") 230), (.str (S "at") 231)]) 0, (List.toArray [])⟩
def o_46 (P : Params) : Obj := ⟨(.type "tuple"), none, .seq (List.toArray []) 0, (List.toArray [])⟩
def o_47 (P : Params) : Obj := ⟨.none, none, fnO (L2.inClass (My.top 3) 0) (S "__init__") (S "NoText.__init__") 0 .none .none .none .none none .none .none 0, (List.toArray [])⟩
def o_48 (P : Params) : Obj := ⟨(.type "code"), none, .fields (List.toArray [(.str (S "__init__") 227), (.str (S "NoText.__init__") 228), (.str (S "/claim/cut.py") 229), (.int 9 0), (.int 2 0), (.int 0 0), (.int 0 0), (.int 3 0), (.ref 43), (.bool true), (.int 181 0), (.ref 44), .none, (.ref 45), (.ref 46), (.ref 47), (.int 232 0), (.int 9 0), (.str (S "/claim/cut.py") 233)]), (List.toArray [])⟩
def o_49 (P : Params) : Obj := ⟨(.type "function"), none, fnO (L2.inClass (My.top 3) 0) (S "__init__") (S "NoText.__init__") 3 (.ref 42) .none .none (.str (S "leanscript.errors") 194) none (.ref 48) .none 0, (List.toArray [])⟩
def o_50 (P : Params) : Obj := ⟨(.type "tuple"), none, .seq (List.toArray [(.str (S "at") 235)]) 0, (List.toArray [])⟩
def o_51 (P : Params) : Obj := ⟨(.type "dict"), none, .dict (List.toArray [⟨(PyData.keyHash P (S "__module__")), (.str (S "__module__") 221), (.str (S "leanscript.errors") 194)⟩, ⟨(PyData.keyHash P (S "__firstlineno__")), (.str (S "__firstlineno__") 225), (.int 7 224)⟩, ⟨(PyData.keyHash P (S "__init__")), (.str (S "__init__") 234), (.ref 49)⟩, ⟨(PyData.keyHash P (S "__static_attributes__")), (.str (S "__static_attributes__") 236), (.ref 50)⟩, ⟨(PyData.keyHash P (S "__doc__")), (.str (S "__doc__") 237), .none⟩]) 2, (List.toArray [])⟩
def o_52 (P : Params) : Obj := ⟨(.type "type"), none, .cls ⟨(S "NoText"), [(.ref 31)], [(.ref 52), (.ref 31), (.type "ValueError"), (.type "Exception"), (.type "BaseException"), (.type "object")], 51, (S "NoText"), true, [], [], false, none, false⟩, (List.toArray [(some (.ref 35)), none, (some (.str (S "NoText") 214)), (some (.str (S "NoText") 222)), (some (.builtin "ValueError.__new__")), (some (.bool true))])⟩
def o_53 (P : Params) : Obj := ⟨(.type "super"), none, .fields (List.toArray [(.ref 52), (.ref 52), (.ref 52)]), (List.toArray [])⟩
def o_54 (P : Params) : Obj := ⟨(.type "builtin_function_or_method"), none, .fields (List.toArray [(.builtin "object.__init_subclass__"), (.ref 52)]), (List.toArray [])⟩
def o_55 (P : Params) : Obj := ⟨(.type "tuple"), none, .seq (List.toArray [(.ref 31)]) 0, (List.toArray [])⟩
def o_56 (P : Params) : Obj := ⟨(.type "builtin_function_or_method"), none, .fields (List.toArray [(.builtin "type.__prepare__"), (.type "type")]), (List.toArray [])⟩
def o_57 (P : Params) : Obj := ⟨(.type "dict"), none, .dict (List.toArray [⟨(PyData.keyHash P (S "__module__")), (.str (S "__module__") 247), (.str (S "leanscript.errors") 194)⟩, ⟨(PyData.keyHash P (S "__qualname__")), (.str (S "__qualname__") 249), (.str (S "NoTree") 248)⟩, ⟨(PyData.keyHash P (S "__firstlineno__")), (.str (S "__firstlineno__") 251), (.int 11 250)⟩, ⟨(PyData.keyHash P (S "__init__")), (.str (S "__init__") 261), (.ref 70)⟩, ⟨(PyData.keyHash P (S "__static_attributes__")), (.str (S "__static_attributes__") 264), (.ref 71)⟩]) 5, (List.toArray [])⟩
def o_58 (P : Params) : Obj := ⟨(.type "tuple"), none, .seq (List.toArray []) 0, (List.toArray [])⟩
def o_59 (P : Params) : Obj := ⟨.none, none, .fields (List.toArray [(.int 13 0), (.int 4 0), (.ref 69)]), (List.toArray [])⟩
def o_60 (P : Params) : Obj := ⟨(.type "code"), none, .fields (List.toArray [(.str (S "NoTree") 242), (.str (S "NoTree") 243), (.str (S "/claim/cut.py") 244), (.int 11 0), (.int 0 0), (.int 0 0), (.int 0 0), (.int 0 0), (.ref 58), (.bool false), (.int 181 0), (.ref 59), .none, .none, .none, .none, (.int 245 0), (.int 11 0), (.str (S "/claim/cut.py") 246)]), (List.toArray [])⟩
def o_61 (P : Params) : Obj := ⟨(.type "frame"), none, .plain, (List.toArray [(some (.ref 60)), (some (.ref 3)), (some (.ref 57)), none, (some (.str (S "leanscript.errors") 194)), none, (some (.ref 0))])⟩
def o_62 (P : Params) : Obj := ⟨(.type "tuple"), none, .seq (List.toArray []) 0, (List.toArray [])⟩
def o_63 (P : Params) : Obj := ⟨(.type "tuple"), none, .seq (List.toArray [(.ref 62), (.str (S "") 252)]) 0, (List.toArray [])⟩
def o_64 (P : Params) : Obj := ⟨(.type "tuple"), none, .seq (List.toArray []) 0, (List.toArray [])⟩
def o_65 (P : Params) : Obj := ⟨.none, none, .fields (List.toArray []), (List.toArray [])⟩
def o_66 (P : Params) : Obj := ⟨(.type "tuple"), none, .seq (List.toArray [(.str (S "self") 256), (.str (S "path") 257), (.str (S "why") 258)]) 0, (List.toArray [])⟩
def o_67 (P : Params) : Obj := ⟨(.type "tuple"), none, .seq (List.toArray []) 0, (List.toArray [])⟩
def o_68 (P : Params) : Obj := ⟨.none, none, fnO (L2.inClass (My.top 4) 0) (S "__init__") (S "NoTree.__init__") 0 .none .none .none .none none .none .none 0, (List.toArray [])⟩
def o_69 (P : Params) : Obj := ⟨(.type "code"), none, .fields (List.toArray [(.str (S "__init__") 253), (.str (S "NoTree.__init__") 254), (.str (S "/claim/cut.py") 255), (.int 13 0), (.int 3 0), (.int 0 0), (.int 0 0), (.int 3 0), (.ref 64), (.bool true), (.int 181 0), (.ref 65), .none, (.ref 66), (.ref 67), (.ref 68), (.int 259 0), (.int 13 0), (.str (S "/claim/cut.py") 260)]), (List.toArray [])⟩
def o_70 (P : Params) : Obj := ⟨(.type "function"), none, fnO (L2.inClass (My.top 4) 0) (S "__init__") (S "NoTree.__init__") 3 (.ref 63) .none .none (.str (S "leanscript.errors") 194) none (.ref 69) .none 0, (List.toArray [])⟩
def o_71 (P : Params) : Obj := ⟨(.type "tuple"), none, .seq (List.toArray [(.str (S "path") 262), (.str (S "why") 263)]) 0, (List.toArray [])⟩
def o_72 (P : Params) : Obj := ⟨(.type "dict"), none, .dict (List.toArray [⟨(PyData.keyHash P (S "__module__")), (.str (S "__module__") 247), (.str (S "leanscript.errors") 194)⟩, ⟨(PyData.keyHash P (S "__firstlineno__")), (.str (S "__firstlineno__") 251), (.int 11 250)⟩, ⟨(PyData.keyHash P (S "__init__")), (.str (S "__init__") 261), (.ref 70)⟩, ⟨(PyData.keyHash P (S "__static_attributes__")), (.str (S "__static_attributes__") 264), (.ref 71)⟩, ⟨(PyData.keyHash P (S "__doc__")), (.str (S "__doc__") 265), .none⟩]) 2, (List.toArray [])⟩
def o_73 (P : Params) : Obj := ⟨(.type "type"), none, .cls ⟨(S "NoTree"), [(.ref 31)], [(.ref 73), (.ref 31), (.type "ValueError"), (.type "Exception"), (.type "BaseException"), (.type "object")], 72, (S "NoTree"), true, [], [], false, none, false⟩, (List.toArray [(some (.ref 55)), none, (some (.str (S "NoTree") 240)), (some (.str (S "NoTree") 248)), (some (.builtin "ValueError.__new__")), (some (.bool true))])⟩
def o_74 (P : Params) : Obj := ⟨(.type "super"), none, .fields (List.toArray [(.ref 73), (.ref 73), (.ref 73)]), (List.toArray [])⟩
def o_75 (P : Params) : Obj := ⟨(.type "builtin_function_or_method"), none, .fields (List.toArray [(.builtin "object.__init_subclass__"), (.ref 73)]), (List.toArray [])⟩
def o_76 (P : Params) : Obj := ⟨(.type "tuple"), none, .seq (List.toArray [(.ref 31)]) 0, (List.toArray [])⟩
def o_77 (P : Params) : Obj := ⟨(.type "builtin_function_or_method"), none, .fields (List.toArray [(.builtin "type.__prepare__"), (.type "type")]), (List.toArray [])⟩
def o_78 (P : Params) : Obj := ⟨(.type "dict"), none, .dict (List.toArray [⟨(PyData.keyHash P (S "__module__")), (.str (S "__module__") 275), (.str (S "leanscript.errors") 194)⟩, ⟨(PyData.keyHash P (S "__qualname__")), (.str (S "__qualname__") 277), (.str (S "NoPath") 276)⟩, ⟨(PyData.keyHash P (S "__firstlineno__")), (.str (S "__firstlineno__") 279), (.int 16 278)⟩, ⟨(PyData.keyHash P (S "__static_attributes__")), (.str (S "__static_attributes__") 280), (.ref 83)⟩]) 4, (List.toArray [])⟩
def o_79 (P : Params) : Obj := ⟨(.type "tuple"), none, .seq (List.toArray []) 0, (List.toArray [])⟩
def o_80 (P : Params) : Obj := ⟨.none, none, .fields (List.toArray []), (List.toArray [])⟩
def o_81 (P : Params) : Obj := ⟨(.type "code"), none, .fields (List.toArray [(.str (S "NoPath") 270), (.str (S "NoPath") 271), (.str (S "/claim/cut.py") 272), (.int 16 0), (.int 0 0), (.int 0 0), (.int 0 0), (.int 0 0), (.ref 79), (.bool false), (.int 181 0), (.ref 80), .none, .none, .none, .none, (.int 273 0), (.int 16 0), (.str (S "/claim/cut.py") 274)]), (List.toArray [])⟩
def o_82 (P : Params) : Obj := ⟨(.type "frame"), none, .plain, (List.toArray [(some (.ref 81)), (some (.ref 3)), (some (.ref 78)), none, (some (.str (S "leanscript.errors") 194)), none, (some (.ref 0))])⟩
def o_83 (P : Params) : Obj := ⟨(.type "tuple"), none, .seq (List.toArray []) 0, (List.toArray [])⟩
def o_84 (P : Params) : Obj := ⟨(.type "dict"), none, .dict (List.toArray [⟨(PyData.keyHash P (S "__module__")), (.str (S "__module__") 275), (.str (S "leanscript.errors") 194)⟩, ⟨(PyData.keyHash P (S "__firstlineno__")), (.str (S "__firstlineno__") 279), (.int 16 278)⟩, ⟨(PyData.keyHash P (S "__static_attributes__")), (.str (S "__static_attributes__") 280), (.ref 83)⟩, ⟨(PyData.keyHash P (S "__doc__")), (.str (S "__doc__") 281), .none⟩]) 2, (List.toArray [])⟩
def o_85 (P : Params) : Obj := ⟨(.type "type"), none, .cls ⟨(S "NoPath"), [(.ref 31)], [(.ref 85), (.ref 31), (.type "ValueError"), (.type "Exception"), (.type "BaseException"), (.type "object")], 84, (S "NoPath"), true, [], [], false, none, false⟩, (List.toArray [(some (.ref 76)), none, (some (.str (S "NoPath") 268)), (some (.str (S "NoPath") 276)), (some (.builtin "ValueError.__new__")), (some (.bool true))])⟩
def o_86 (P : Params) : Obj := ⟨(.type "super"), none, .fields (List.toArray [(.ref 85), (.ref 85), (.ref 85)]), (List.toArray [])⟩
def o_87 (P : Params) : Obj := ⟨(.type "builtin_function_or_method"), none, .fields (List.toArray [(.builtin "object.__init_subclass__"), (.ref 85)]), (List.toArray [])⟩
def o_88 (P : Params) : Obj := ⟨(.type "tuple"), none, .seq (List.toArray [(.ref 31)]) 0, (List.toArray [])⟩
def o_89 (P : Params) : Obj := ⟨(.type "builtin_function_or_method"), none, .fields (List.toArray [(.builtin "type.__prepare__"), (.type "type")]), (List.toArray [])⟩
def o_90 (P : Params) : Obj := ⟨(.type "dict"), none, .dict (List.toArray [⟨(PyData.keyHash P (S "__module__")), (.str (S "__module__") 291), (.str (S "leanscript.errors") 194)⟩, ⟨(PyData.keyHash P (S "__qualname__")), (.str (S "__qualname__") 293), (.str (S "NoNaming") 292)⟩, ⟨(PyData.keyHash P (S "__firstlineno__")), (.str (S "__firstlineno__") 295), (.int 18 294)⟩, ⟨(PyData.keyHash P (S "__init__")), (.str (S "__init__") 304), (.ref 102)⟩, ⟨(PyData.keyHash P (S "__static_attributes__")), (.str (S "__static_attributes__") 307), (.ref 103)⟩]) 5, (List.toArray [])⟩
def o_91 (P : Params) : Obj := ⟨(.type "tuple"), none, .seq (List.toArray []) 0, (List.toArray [])⟩
def o_92 (P : Params) : Obj := ⟨.none, none, .fields (List.toArray [(.int 20 0), (.int 4 0), (.ref 101)]), (List.toArray [])⟩
def o_93 (P : Params) : Obj := ⟨(.type "code"), none, .fields (List.toArray [(.str (S "NoNaming") 286), (.str (S "NoNaming") 287), (.str (S "/claim/cut.py") 288), (.int 18 0), (.int 0 0), (.int 0 0), (.int 0 0), (.int 0 0), (.ref 91), (.bool false), (.int 181 0), (.ref 92), .none, .none, .none, .none, (.int 289 0), (.int 18 0), (.str (S "/claim/cut.py") 290)]), (List.toArray [])⟩
def o_94 (P : Params) : Obj := ⟨(.type "frame"), none, .plain, (List.toArray [(some (.ref 93)), (some (.ref 3)), (some (.ref 90)), none, (some (.str (S "leanscript.errors") 194)), none, (some (.ref 0))])⟩
def o_95 (P : Params) : Obj := ⟨(.type "tuple"), none, .seq (List.toArray [.none, .none]) 0, (List.toArray [])⟩
def o_96 (P : Params) : Obj := ⟨(.type "tuple"), none, .seq (List.toArray []) 0, (List.toArray [])⟩
def o_97 (P : Params) : Obj := ⟨.none, none, .fields (List.toArray []), (List.toArray [])⟩
def o_98 (P : Params) : Obj := ⟨(.type "tuple"), none, .seq (List.toArray [(.str (S "self") 299), (.str (S "one") 300), (.str (S "other") 301)]) 0, (List.toArray [])⟩
def o_99 (P : Params) : Obj := ⟨(.type "tuple"), none, .seq (List.toArray []) 0, (List.toArray [])⟩
def o_100 (P : Params) : Obj := ⟨.none, none, fnO (L2.inClass (My.top 6) 0) (S "__init__") (S "NoNaming.__init__") 0 .none .none .none .none none .none .none 0, (List.toArray [])⟩
def o_101 (P : Params) : Obj := ⟨(.type "code"), none, .fields (List.toArray [(.str (S "__init__") 296), (.str (S "NoNaming.__init__") 297), (.str (S "/claim/cut.py") 298), (.int 20 0), (.int 3 0), (.int 0 0), (.int 0 0), (.int 3 0), (.ref 96), (.bool true), (.int 181 0), (.ref 97), .none, (.ref 98), (.ref 99), (.ref 100), (.int 302 0), (.int 20 0), (.str (S "/claim/cut.py") 303)]), (List.toArray [])⟩
def o_102 (P : Params) : Obj := ⟨(.type "function"), none, fnO (L2.inClass (My.top 6) 0) (S "__init__") (S "NoNaming.__init__") 3 (.ref 95) .none .none (.str (S "leanscript.errors") 194) none (.ref 101) .none 0, (List.toArray [])⟩
def o_103 (P : Params) : Obj := ⟨(.type "tuple"), none, .seq (List.toArray [(.str (S "one") 305), (.str (S "other") 306)]) 0, (List.toArray [])⟩
def o_104 (P : Params) : Obj := ⟨(.type "dict"), none, .dict (List.toArray [⟨(PyData.keyHash P (S "__module__")), (.str (S "__module__") 291), (.str (S "leanscript.errors") 194)⟩, ⟨(PyData.keyHash P (S "__firstlineno__")), (.str (S "__firstlineno__") 295), (.int 18 294)⟩, ⟨(PyData.keyHash P (S "__init__")), (.str (S "__init__") 304), (.ref 102)⟩, ⟨(PyData.keyHash P (S "__static_attributes__")), (.str (S "__static_attributes__") 307), (.ref 103)⟩, ⟨(PyData.keyHash P (S "__doc__")), (.str (S "__doc__") 308), .none⟩]) 2, (List.toArray [])⟩
def o_105 (P : Params) : Obj := ⟨(.type "type"), none, .cls ⟨(S "NoNaming"), [(.ref 31)], [(.ref 105), (.ref 31), (.type "ValueError"), (.type "Exception"), (.type "BaseException"), (.type "object")], 104, (S "NoNaming"), true, [], [], false, none, false⟩, (List.toArray [(some (.ref 88)), none, (some (.str (S "NoNaming") 284)), (some (.str (S "NoNaming") 292)), (some (.builtin "ValueError.__new__")), (some (.bool true))])⟩
def o_106 (P : Params) : Obj := ⟨(.type "super"), none, .fields (List.toArray [(.ref 105), (.ref 105), (.ref 105)]), (List.toArray [])⟩
def o_107 (P : Params) : Obj := ⟨(.type "builtin_function_or_method"), none, .fields (List.toArray [(.builtin "object.__init_subclass__"), (.ref 105)]), (List.toArray [])⟩
def o_108 (P : Params) : Obj := ⟨(.type "tuple"), none, .seq (List.toArray [(.ref 31)]) 0, (List.toArray [])⟩
def o_109 (P : Params) : Obj := ⟨(.type "builtin_function_or_method"), none, .fields (List.toArray [(.builtin "type.__prepare__"), (.type "type")]), (List.toArray [])⟩
def o_110 (P : Params) : Obj := ⟨(.type "dict"), none, .dict (List.toArray [⟨(PyData.keyHash P (S "__module__")), (.str (S "__module__") 318), (.str (S "leanscript.errors") 194)⟩, ⟨(PyData.keyHash P (S "__qualname__")), (.str (S "__qualname__") 320), (.str (S "NoLetters") 319)⟩, ⟨(PyData.keyHash P (S "__firstlineno__")), (.str (S "__firstlineno__") 322), (.int 23 321)⟩, ⟨(PyData.keyHash P (S "__static_attributes__")), (.str (S "__static_attributes__") 323), (.ref 115)⟩]) 4, (List.toArray [])⟩
def o_111 (P : Params) : Obj := ⟨(.type "tuple"), none, .seq (List.toArray []) 0, (List.toArray [])⟩
def o_112 (P : Params) : Obj := ⟨.none, none, .fields (List.toArray []), (List.toArray [])⟩
def o_113 (P : Params) : Obj := ⟨(.type "code"), none, .fields (List.toArray [(.str (S "NoLetters") 313), (.str (S "NoLetters") 314), (.str (S "/claim/cut.py") 315), (.int 23 0), (.int 0 0), (.int 0 0), (.int 0 0), (.int 0 0), (.ref 111), (.bool false), (.int 181 0), (.ref 112), .none, .none, .none, .none, (.int 316 0), (.int 23 0), (.str (S "/claim/cut.py") 317)]), (List.toArray [])⟩
def o_114 (P : Params) : Obj := ⟨(.type "frame"), none, .plain, (List.toArray [(some (.ref 113)), (some (.ref 3)), (some (.ref 110)), none, (some (.str (S "leanscript.errors") 194)), none, (some (.ref 0))])⟩
def o_115 (P : Params) : Obj := ⟨(.type "tuple"), none, .seq (List.toArray []) 0, (List.toArray [])⟩
def o_116 (P : Params) : Obj := ⟨(.type "dict"), none, .dict (List.toArray [⟨(PyData.keyHash P (S "__module__")), (.str (S "__module__") 318), (.str (S "leanscript.errors") 194)⟩, ⟨(PyData.keyHash P (S "__firstlineno__")), (.str (S "__firstlineno__") 322), (.int 23 321)⟩, ⟨(PyData.keyHash P (S "__static_attributes__")), (.str (S "__static_attributes__") 323), (.ref 115)⟩, ⟨(PyData.keyHash P (S "__doc__")), (.str (S "__doc__") 324), .none⟩]) 2, (List.toArray [])⟩
def o_117 (P : Params) : Obj := ⟨(.type "type"), none, .cls ⟨(S "NoLetters"), [(.ref 31)], [(.ref 117), (.ref 31), (.type "ValueError"), (.type "Exception"), (.type "BaseException"), (.type "object")], 116, (S "NoLetters"), true, [], [], false, none, false⟩, (List.toArray [(some (.ref 108)), none, (some (.str (S "NoLetters") 311)), (some (.str (S "NoLetters") 319)), (some (.builtin "ValueError.__new__")), (some (.bool true))])⟩
def o_118 (P : Params) : Obj := ⟨(.type "super"), none, .fields (List.toArray [(.ref 117), (.ref 117), (.ref 117)]), (List.toArray [])⟩
def o_119 (P : Params) : Obj := ⟨(.type "builtin_function_or_method"), none, .fields (List.toArray [(.builtin "object.__init_subclass__"), (.ref 117)]), (List.toArray [])⟩
def o_120 (P : Params) : Obj := ⟨(.type "tuple"), none, .seq (List.toArray [(.ref 31)]) 0, (List.toArray [])⟩
def o_121 (P : Params) : Obj := ⟨(.type "builtin_function_or_method"), none, .fields (List.toArray [(.builtin "type.__prepare__"), (.type "type")]), (List.toArray [])⟩
def o_122 (P : Params) : Obj := ⟨(.type "dict"), none, .dict (List.toArray [⟨(PyData.keyHash P (S "__module__")), (.str (S "__module__") 334), (.str (S "leanscript.errors") 194)⟩, ⟨(PyData.keyHash P (S "__qualname__")), (.str (S "__qualname__") 336), (.str (S "NoCount") 335)⟩, ⟨(PyData.keyHash P (S "__firstlineno__")), (.str (S "__firstlineno__") 338), (.int 25 337)⟩, ⟨(PyData.keyHash P (S "__static_attributes__")), (.str (S "__static_attributes__") 339), (.ref 127)⟩]) 4, (List.toArray [])⟩
def o_123 (P : Params) : Obj := ⟨(.type "tuple"), none, .seq (List.toArray []) 0, (List.toArray [])⟩
def o_124 (P : Params) : Obj := ⟨.none, none, .fields (List.toArray []), (List.toArray [])⟩
def o_125 (P : Params) : Obj := ⟨(.type "code"), none, .fields (List.toArray [(.str (S "NoCount") 329), (.str (S "NoCount") 330), (.str (S "/claim/cut.py") 331), (.int 25 0), (.int 0 0), (.int 0 0), (.int 0 0), (.int 0 0), (.ref 123), (.bool false), (.int 181 0), (.ref 124), .none, .none, .none, .none, (.int 332 0), (.int 25 0), (.str (S "/claim/cut.py") 333)]), (List.toArray [])⟩
def o_126 (P : Params) : Obj := ⟨(.type "frame"), none, .plain, (List.toArray [(some (.ref 125)), (some (.ref 3)), (some (.ref 122)), none, (some (.str (S "leanscript.errors") 194)), none, (some (.ref 0))])⟩
def o_127 (P : Params) : Obj := ⟨(.type "tuple"), none, .seq (List.toArray []) 0, (List.toArray [])⟩
def o_128 (P : Params) : Obj := ⟨(.type "dict"), none, .dict (List.toArray [⟨(PyData.keyHash P (S "__module__")), (.str (S "__module__") 334), (.str (S "leanscript.errors") 194)⟩, ⟨(PyData.keyHash P (S "__firstlineno__")), (.str (S "__firstlineno__") 338), (.int 25 337)⟩, ⟨(PyData.keyHash P (S "__static_attributes__")), (.str (S "__static_attributes__") 339), (.ref 127)⟩, ⟨(PyData.keyHash P (S "__doc__")), (.str (S "__doc__") 340), .none⟩]) 2, (List.toArray [])⟩
def o_129 (P : Params) : Obj := ⟨(.type "type"), none, .cls ⟨(S "NoCount"), [(.ref 31)], [(.ref 129), (.ref 31), (.type "ValueError"), (.type "Exception"), (.type "BaseException"), (.type "object")], 128, (S "NoCount"), true, [], [], false, none, false⟩, (List.toArray [(some (.ref 120)), none, (some (.str (S "NoCount") 327)), (some (.str (S "NoCount") 335)), (some (.builtin "ValueError.__new__")), (some (.bool true))])⟩
def o_130 (P : Params) : Obj := ⟨(.type "super"), none, .fields (List.toArray [(.ref 129), (.ref 129), (.ref 129)]), (List.toArray [])⟩
def o_131 (P : Params) : Obj := ⟨(.type "builtin_function_or_method"), none, .fields (List.toArray [(.builtin "object.__init_subclass__"), (.ref 129)]), (List.toArray [])⟩
def o_132 (P : Params) : Obj := ⟨(.type "tuple"), none, .seq (List.toArray [(.ref 31)]) 0, (List.toArray [])⟩
def o_133 (P : Params) : Obj := ⟨(.type "builtin_function_or_method"), none, .fields (List.toArray [(.builtin "type.__prepare__"), (.type "type")]), (List.toArray [])⟩
def o_134 (P : Params) : Obj := ⟨(.type "dict"), none, .dict (List.toArray [⟨(PyData.keyHash P (S "__module__")), (.str (S "__module__") 350), (.str (S "leanscript.errors") 194)⟩, ⟨(PyData.keyHash P (S "__qualname__")), (.str (S "__qualname__") 352), (.str (S "NoTurning") 351)⟩, ⟨(PyData.keyHash P (S "__firstlineno__")), (.str (S "__firstlineno__") 354), (.int 27 353)⟩, ⟨(PyData.keyHash P (S "__static_attributes__")), (.str (S "__static_attributes__") 355), (.ref 139)⟩]) 4, (List.toArray [])⟩
def o_135 (P : Params) : Obj := ⟨(.type "tuple"), none, .seq (List.toArray []) 0, (List.toArray [])⟩
def o_136 (P : Params) : Obj := ⟨.none, none, .fields (List.toArray []), (List.toArray [])⟩
def o_137 (P : Params) : Obj := ⟨(.type "code"), none, .fields (List.toArray [(.str (S "NoTurning") 345), (.str (S "NoTurning") 346), (.str (S "/claim/cut.py") 347), (.int 27 0), (.int 0 0), (.int 0 0), (.int 0 0), (.int 0 0), (.ref 135), (.bool false), (.int 181 0), (.ref 136), .none, .none, .none, .none, (.int 348 0), (.int 27 0), (.str (S "/claim/cut.py") 349)]), (List.toArray [])⟩
def o_138 (P : Params) : Obj := ⟨(.type "frame"), none, .plain, (List.toArray [(some (.ref 137)), (some (.ref 3)), (some (.ref 134)), none, (some (.str (S "leanscript.errors") 194)), none, (some (.ref 0))])⟩
def o_139 (P : Params) : Obj := ⟨(.type "tuple"), none, .seq (List.toArray []) 0, (List.toArray [])⟩
def o_140 (P : Params) : Obj := ⟨(.type "dict"), none, .dict (List.toArray [⟨(PyData.keyHash P (S "__module__")), (.str (S "__module__") 350), (.str (S "leanscript.errors") 194)⟩, ⟨(PyData.keyHash P (S "__firstlineno__")), (.str (S "__firstlineno__") 354), (.int 27 353)⟩, ⟨(PyData.keyHash P (S "__static_attributes__")), (.str (S "__static_attributes__") 355), (.ref 139)⟩, ⟨(PyData.keyHash P (S "__doc__")), (.str (S "__doc__") 356), .none⟩]) 2, (List.toArray [])⟩
def o_141 (P : Params) : Obj := ⟨(.type "type"), none, .cls ⟨(S "NoTurning"), [(.ref 31)], [(.ref 141), (.ref 31), (.type "ValueError"), (.type "Exception"), (.type "BaseException"), (.type "object")], 140, (S "NoTurning"), true, [], [], false, none, false⟩, (List.toArray [(some (.ref 132)), none, (some (.str (S "NoTurning") 343)), (some (.str (S "NoTurning") 351)), (some (.builtin "ValueError.__new__")), (some (.bool true))])⟩
def o_142 (P : Params) : Obj := ⟨(.type "super"), none, .fields (List.toArray [(.ref 141), (.ref 141), (.ref 141)]), (List.toArray [])⟩
def o_143 (P : Params) : Obj := ⟨(.type "builtin_function_or_method"), none, .fields (List.toArray [(.builtin "object.__init_subclass__"), (.ref 141)]), (List.toArray [])⟩
def o_144 (P : Params) : Obj := ⟨(.type "tuple"), none, .seq (List.toArray [(.ref 31)]) 0, (List.toArray [])⟩
def o_145 (P : Params) : Obj := ⟨(.type "builtin_function_or_method"), none, .fields (List.toArray [(.builtin "type.__prepare__"), (.type "type")]), (List.toArray [])⟩
def o_146 (P : Params) : Obj := ⟨(.type "dict"), none, .dict (List.toArray [⟨(PyData.keyHash P (S "__module__")), (.str (S "__module__") 366), (.str (S "leanscript.errors") 194)⟩, ⟨(PyData.keyHash P (S "__qualname__")), (.str (S "__qualname__") 368), (.str (S "NoMap") 367)⟩, ⟨(PyData.keyHash P (S "__firstlineno__")), (.str (S "__firstlineno__") 370), (.int 29 369)⟩, ⟨(PyData.keyHash P (S "__static_attributes__")), (.str (S "__static_attributes__") 371), (.ref 151)⟩]) 4, (List.toArray [])⟩
def o_147 (P : Params) : Obj := ⟨(.type "tuple"), none, .seq (List.toArray []) 0, (List.toArray [])⟩
def o_148 (P : Params) : Obj := ⟨.none, none, .fields (List.toArray []), (List.toArray [])⟩
def o_149 (P : Params) : Obj := ⟨(.type "code"), none, .fields (List.toArray [(.str (S "NoMap") 361), (.str (S "NoMap") 362), (.str (S "/claim/cut.py") 363), (.int 29 0), (.int 0 0), (.int 0 0), (.int 0 0), (.int 0 0), (.ref 147), (.bool false), (.int 181 0), (.ref 148), .none, .none, .none, .none, (.int 364 0), (.int 29 0), (.str (S "/claim/cut.py") 365)]), (List.toArray [])⟩
def o_150 (P : Params) : Obj := ⟨(.type "frame"), none, .plain, (List.toArray [(some (.ref 149)), (some (.ref 3)), (some (.ref 146)), none, (some (.str (S "leanscript.errors") 194)), none, (some (.ref 0))])⟩
def o_151 (P : Params) : Obj := ⟨(.type "tuple"), none, .seq (List.toArray []) 0, (List.toArray [])⟩
def o_152 (P : Params) : Obj := ⟨(.type "dict"), none, .dict (List.toArray [⟨(PyData.keyHash P (S "__module__")), (.str (S "__module__") 366), (.str (S "leanscript.errors") 194)⟩, ⟨(PyData.keyHash P (S "__firstlineno__")), (.str (S "__firstlineno__") 370), (.int 29 369)⟩, ⟨(PyData.keyHash P (S "__static_attributes__")), (.str (S "__static_attributes__") 371), (.ref 151)⟩, ⟨(PyData.keyHash P (S "__doc__")), (.str (S "__doc__") 372), .none⟩]) 2, (List.toArray [])⟩
def o_153 (P : Params) : Obj := ⟨(.type "type"), none, .cls ⟨(S "NoMap"), [(.ref 31)], [(.ref 153), (.ref 31), (.type "ValueError"), (.type "Exception"), (.type "BaseException"), (.type "object")], 152, (S "NoMap"), true, [], [], false, none, false⟩, (List.toArray [(some (.ref 144)), none, (some (.str (S "NoMap") 359)), (some (.str (S "NoMap") 367)), (some (.builtin "ValueError.__new__")), (some (.bool true))])⟩
def o_154 (P : Params) : Obj := ⟨(.type "super"), none, .fields (List.toArray [(.ref 153), (.ref 153), (.ref 153)]), (List.toArray [])⟩
def o_155 (P : Params) : Obj := ⟨(.type "builtin_function_or_method"), none, .fields (List.toArray [(.builtin "object.__init_subclass__"), (.ref 153)]), (List.toArray [])⟩
def o_156 (P : Params) : Obj := ⟨(.type "tuple"), none, .seq (List.toArray [(.ref 31)]) 0, (List.toArray [])⟩
def o_157 (P : Params) : Obj := ⟨(.type "builtin_function_or_method"), none, .fields (List.toArray [(.builtin "type.__prepare__"), (.type "type")]), (List.toArray [])⟩
def o_158 (P : Params) : Obj := ⟨(.type "dict"), none, .dict (List.toArray [⟨(PyData.keyHash P (S "__module__")), (.str (S "__module__") 382), (.str (S "leanscript.errors") 194)⟩, ⟨(PyData.keyHash P (S "__qualname__")), (.str (S "__qualname__") 384), (.str (S "NoLine") 383)⟩, ⟨(PyData.keyHash P (S "__firstlineno__")), (.str (S "__firstlineno__") 386), (.int 31 385)⟩, ⟨(PyData.keyHash P (S "__static_attributes__")), (.str (S "__static_attributes__") 387), (.ref 163)⟩]) 4, (List.toArray [])⟩
def o_159 (P : Params) : Obj := ⟨(.type "tuple"), none, .seq (List.toArray []) 0, (List.toArray [])⟩
def o_160 (P : Params) : Obj := ⟨.none, none, .fields (List.toArray []), (List.toArray [])⟩
def o_161 (P : Params) : Obj := ⟨(.type "code"), none, .fields (List.toArray [(.str (S "NoLine") 377), (.str (S "NoLine") 378), (.str (S "/claim/cut.py") 379), (.int 31 0), (.int 0 0), (.int 0 0), (.int 0 0), (.int 0 0), (.ref 159), (.bool false), (.int 181 0), (.ref 160), .none, .none, .none, .none, (.int 380 0), (.int 31 0), (.str (S "/claim/cut.py") 381)]), (List.toArray [])⟩
def o_162 (P : Params) : Obj := ⟨(.type "frame"), none, .plain, (List.toArray [(some (.ref 161)), (some (.ref 3)), (some (.ref 158)), none, (some (.str (S "leanscript.errors") 194)), none, (some (.ref 0))])⟩
def o_163 (P : Params) : Obj := ⟨(.type "tuple"), none, .seq (List.toArray []) 0, (List.toArray [])⟩
def o_164 (P : Params) : Obj := ⟨(.type "dict"), none, .dict (List.toArray [⟨(PyData.keyHash P (S "__module__")), (.str (S "__module__") 382), (.str (S "leanscript.errors") 194)⟩, ⟨(PyData.keyHash P (S "__firstlineno__")), (.str (S "__firstlineno__") 386), (.int 31 385)⟩, ⟨(PyData.keyHash P (S "__static_attributes__")), (.str (S "__static_attributes__") 387), (.ref 163)⟩, ⟨(PyData.keyHash P (S "__doc__")), (.str (S "__doc__") 388), .none⟩]) 2, (List.toArray [])⟩
def o_165 (P : Params) : Obj := ⟨(.type "type"), none, .cls ⟨(S "NoLine"), [(.ref 31)], [(.ref 165), (.ref 31), (.type "ValueError"), (.type "Exception"), (.type "BaseException"), (.type "object")], 164, (S "NoLine"), true, [], [], false, none, false⟩, (List.toArray [(some (.ref 156)), none, (some (.str (S "NoLine") 375)), (some (.str (S "NoLine") 383)), (some (.builtin "ValueError.__new__")), (some (.bool true))])⟩
def o_166 (P : Params) : Obj := ⟨(.type "super"), none, .fields (List.toArray [(.ref 165), (.ref 165), (.ref 165)]), (List.toArray [])⟩
def o_167 (P : Params) : Obj := ⟨(.type "builtin_function_or_method"), none, .fields (List.toArray [(.builtin "object.__init_subclass__"), (.ref 165)]), (List.toArray [])⟩
def o_168 (P : Params) : Obj := ⟨(.type "tuple"), none, .seq (List.toArray [(.ref 31)]) 0, (List.toArray [])⟩
def o_169 (P : Params) : Obj := ⟨(.type "builtin_function_or_method"), none, .fields (List.toArray [(.builtin "type.__prepare__"), (.type "type")]), (List.toArray [])⟩
def o_170 (P : Params) : Obj := ⟨(.type "dict"), none, .dict (List.toArray [⟨(PyData.keyHash P (S "__module__")), (.str (S "__module__") 398), (.str (S "leanscript.errors") 194)⟩, ⟨(PyData.keyHash P (S "__qualname__")), (.str (S "__qualname__") 400), (.str (S "TooMany") 399)⟩, ⟨(PyData.keyHash P (S "__firstlineno__")), (.str (S "__firstlineno__") 402), (.int 33 401)⟩, ⟨(PyData.keyHash P (S "__static_attributes__")), (.str (S "__static_attributes__") 403), (.ref 175)⟩]) 4, (List.toArray [])⟩
def o_171 (P : Params) : Obj := ⟨(.type "tuple"), none, .seq (List.toArray []) 0, (List.toArray [])⟩
def o_172 (P : Params) : Obj := ⟨.none, none, .fields (List.toArray []), (List.toArray [])⟩
def o_173 (P : Params) : Obj := ⟨(.type "code"), none, .fields (List.toArray [(.str (S "TooMany") 393), (.str (S "TooMany") 394), (.str (S "/claim/cut.py") 395), (.int 33 0), (.int 0 0), (.int 0 0), (.int 0 0), (.int 0 0), (.ref 171), (.bool false), (.int 181 0), (.ref 172), .none, .none, .none, .none, (.int 396 0), (.int 33 0), (.str (S "/claim/cut.py") 397)]), (List.toArray [])⟩
def o_174 (P : Params) : Obj := ⟨(.type "frame"), none, .plain, (List.toArray [(some (.ref 173)), (some (.ref 3)), (some (.ref 170)), none, (some (.str (S "leanscript.errors") 194)), none, (some (.ref 0))])⟩
def o_175 (P : Params) : Obj := ⟨(.type "tuple"), none, .seq (List.toArray []) 0, (List.toArray [])⟩
def o_176 (P : Params) : Obj := ⟨(.type "dict"), none, .dict (List.toArray [⟨(PyData.keyHash P (S "__module__")), (.str (S "__module__") 398), (.str (S "leanscript.errors") 194)⟩, ⟨(PyData.keyHash P (S "__firstlineno__")), (.str (S "__firstlineno__") 402), (.int 33 401)⟩, ⟨(PyData.keyHash P (S "__static_attributes__")), (.str (S "__static_attributes__") 403), (.ref 175)⟩, ⟨(PyData.keyHash P (S "__doc__")), (.str (S "__doc__") 404), .none⟩]) 2, (List.toArray [])⟩
def o_177 (P : Params) : Obj := ⟨(.type "type"), none, .cls ⟨(S "TooMany"), [(.ref 31)], [(.ref 177), (.ref 31), (.type "ValueError"), (.type "Exception"), (.type "BaseException"), (.type "object")], 176, (S "TooMany"), true, [], [], false, none, false⟩, (List.toArray [(some (.ref 168)), none, (some (.str (S "TooMany") 391)), (some (.str (S "TooMany") 399)), (some (.builtin "ValueError.__new__")), (some (.bool true))])⟩
def o_178 (P : Params) : Obj := ⟨(.type "super"), none, .fields (List.toArray [(.ref 177), (.ref 177), (.ref 177)]), (List.toArray [])⟩
def o_179 (P : Params) : Obj := ⟨(.type "builtin_function_or_method"), none, .fields (List.toArray [(.builtin "object.__init_subclass__"), (.ref 177)]), (List.toArray [])⟩
def o_180 (P : Params) : Obj := ⟨(.type "tuple"), none, .seq (List.toArray [(.str (S "let") 409), (.str (S "if") 410), (.str (S "else") 411), (.str (S "while") 412), (.str (S "return") 413), (.str (S "fail") 414), (.str (S "try") 415), (.str (S "catch") 416), (.str (S "out") 417), (.str (S "fn") 418)]) 0, (List.toArray [])⟩
def o_181 (P : Params) : Obj := ⟨(.type "tuple"), none, .seq (List.toArray [(.str (S "<=") 420), (.str (S ">=") 421), (.str (S "==") 422), (.str (S "!=") 423), (.str (S "&&") 424), (.str (S "||") 425)]) 0, (List.toArray [])⟩
def o_182 (P : Params) : Obj := ⟨(.type "tuple"), none, .seq (List.toArray [(.str (S "+") 427), (.str (S "-") 428), (.str (S "*") 429), (.str (S "/") 430), (.str (S "~") 431), (.str (S "<") 432), (.str (S ">") 433), (.str (S "!") 434), (.str (S "?") 435), (.str (S ":") 436), (.str (S ".") 437), (.str (S ",") 438), (.str (S "=") 439), (.str (S "(") 440), (.str (S ")") 441), (.str (S "{") 442), (.str (S "}") 443), (.str (S "[") 444), (.str (S "]") 445), (.str (S ";") 446)]) 0, (List.toArray [])⟩
def o_183 (P : Params) : Obj := ⟨(.type "tuple"), none, .seq (List.toArray []) 0, (List.toArray [])⟩
def o_184 (P : Params) : Obj := ⟨.none, none, .fields (List.toArray []), (List.toArray [])⟩
def o_185 (P : Params) : Obj := ⟨(.type "tuple"), none, .seq (List.toArray [(.str (S "sign") 455)]) 0, (List.toArray [])⟩
def o_186 (P : Params) : Obj := ⟨(.type "tuple"), none, .seq (List.toArray []) 0, (List.toArray [])⟩
def o_187 (P : Params) : Obj := ⟨.none, none, fnO (My.top 19) (S "is_letter") (S "is_letter") 0 .none .none .none .none none .none .none 0, (List.toArray [])⟩
def o_188 (P : Params) : Obj := ⟨(.type "code"), none, .fields (List.toArray [(.str (S "is_letter") 452), (.str (S "is_letter") 453), (.str (S "/claim/cut.py") 454), (.int 41 0), (.int 1 0), (.int 0 0), (.int 0 0), (.int 3 0), (.ref 183), (.bool true), (.int 181 0), (.ref 184), .none, (.ref 185), (.ref 186), (.ref 187), (.int 456 0), (.int 41 0), (.str (S "/claim/cut.py") 457)]), (List.toArray [])⟩
def o_189 (P : Params) : Obj := ⟨(.type "function"), none, fnO (My.top 19) (S "is_letter") (S "is_letter") 3 .none .none .none (.str (S "leanscript.words") 407) none (.ref 188) .none 0, (List.toArray [])⟩
def o_190 (P : Params) : Obj := ⟨(.type "tuple"), none, .seq (List.toArray []) 0, (List.toArray [])⟩
def o_191 (P : Params) : Obj := ⟨.none, none, .fields (List.toArray []), (List.toArray [])⟩
def o_192 (P : Params) : Obj := ⟨(.type "tuple"), none, .seq (List.toArray [(.str (S "sign") 462)]) 0, (List.toArray [])⟩
def o_193 (P : Params) : Obj := ⟨(.type "tuple"), none, .seq (List.toArray []) 0, (List.toArray [])⟩
def o_194 (P : Params) : Obj := ⟨.none, none, fnO (My.top 20) (S "is_figure") (S "is_figure") 0 .none .none .none .none none .none .none 0, (List.toArray [])⟩
def o_195 (P : Params) : Obj := ⟨(.type "code"), none, .fields (List.toArray [(.str (S "is_figure") 459), (.str (S "is_figure") 460), (.str (S "/claim/cut.py") 461), (.int 43 0), (.int 1 0), (.int 0 0), (.int 0 0), (.int 3 0), (.ref 190), (.bool true), (.int 181 0), (.ref 191), .none, (.ref 192), (.ref 193), (.ref 194), (.int 463 0), (.int 43 0), (.str (S "/claim/cut.py") 464)]), (List.toArray [])⟩
def o_196 (P : Params) : Obj := ⟨(.type "function"), none, fnO (My.top 20) (S "is_figure") (S "is_figure") 3 .none .none .none (.str (S "leanscript.words") 407) none (.ref 195) .none 0, (List.toArray [])⟩
def o_197 (P : Params) : Obj := ⟨(.type "tuple"), none, .seq (List.toArray []) 0, (List.toArray [])⟩
def o_198 (P : Params) : Obj := ⟨.none, none, .fields (List.toArray []), (List.toArray [])⟩
def o_199 (P : Params) : Obj := ⟨(.type "tuple"), none, .seq (List.toArray [(.str (S "sign") 469)]) 0, (List.toArray [])⟩
def o_200 (P : Params) : Obj := ⟨(.type "tuple"), none, .seq (List.toArray []) 0, (List.toArray [])⟩
def o_201 (P : Params) : Obj := ⟨.none, none, fnO (My.top 21) (S "is_letter_or_figure") (S "is_letter_or_figure") 0 .none .none .none .none none .none .none 0, (List.toArray [])⟩
def o_202 (P : Params) : Obj := ⟨(.type "code"), none, .fields (List.toArray [(.str (S "is_letter_or_figure") 466), (.str (S "is_letter_or_figure") 467), (.str (S "/claim/cut.py") 468), (.int 45 0), (.int 1 0), (.int 0 0), (.int 0 0), (.int 3 0), (.ref 197), (.bool true), (.int 181 0), (.ref 198), .none, (.ref 199), (.ref 200), (.ref 201), (.int 470 0), (.int 45 0), (.str (S "/claim/cut.py") 471)]), (List.toArray [])⟩
def o_203 (P : Params) : Obj := ⟨(.type "function"), none, fnO (My.top 21) (S "is_letter_or_figure") (S "is_letter_or_figure") 3 .none .none .none (.str (S "leanscript.words") 407) none (.ref 202) .none 0, (List.toArray [])⟩
def o_204 (P : Params) : Obj := ⟨(.type "tuple"), none, .seq (List.toArray []) 0, (List.toArray [])⟩
def o_205 (P : Params) : Obj := ⟨.none, none, .fields (List.toArray []), (List.toArray [])⟩
def o_206 (P : Params) : Obj := ⟨.none, none, fnO (My.top 22) (S "is_name") (S "is_name") 0 .none .none .none .none none .none .none 0, (List.toArray [])⟩
def o_207 (P : Params) : Obj := ⟨(.type "code"), none, .fields (List.toArray [(.str (S "is_name") 473), (.str (S "is_name") 474), (.str (S "/claim/cut.py") 475), (.int 47 0), (.int 1 0), (.int 0 0), (.int 0 0), (.int 3 0), (.ref 204), (.bool true), (.int 181 0), (.ref 205), .none, .none, .none, (.ref 206), (.int 476 0), (.int 47 0), (.str (S "/claim/cut.py") 477)]), (List.toArray [])⟩
def o_208 (P : Params) : Obj := ⟨(.type "function"), none, fnO (My.top 22) (S "is_name") (S "is_name") 3 .none .none .none (.str (S "leanscript.words") 407) none (.ref 207) .none 0, (List.toArray [])⟩
def o_209 (P : Params) : Obj := ⟨(.type "tuple"), none, .seq (List.toArray []) 0, (List.toArray [])⟩
def o_210 (P : Params) : Obj := ⟨.none, none, .fields (List.toArray []), (List.toArray [])⟩
def o_211 (P : Params) : Obj := ⟨.none, none, fnO (My.top 23) (S "is_plain_number") (S "is_plain_number") 0 .none .none .none .none none .none .none 0, (List.toArray [])⟩
def o_212 (P : Params) : Obj := ⟨(.type "code"), none, .fields (List.toArray [(.str (S "is_plain_number") 479), (.str (S "is_plain_number") 480), (.str (S "/claim/cut.py") 481), (.int 51 0), (.int 1 0), (.int 0 0), (.int 0 0), (.int 3 0), (.ref 209), (.bool true), (.int 181 0), (.ref 210), .none, .none, .none, (.ref 211), (.int 482 0), (.int 51 0), (.str (S "/claim/cut.py") 483)]), (List.toArray [])⟩
def o_213 (P : Params) : Obj := ⟨(.type "function"), none, fnO (My.top 23) (S "is_plain_number") (S "is_plain_number") 3 .none .none .none (.str (S "leanscript.words") 407) none (.ref 212) .none 0, (List.toArray [])⟩
def o_214 (P : Params) : Obj := ⟨(.type "tuple"), none, .seq (List.toArray []) 0, (List.toArray [])⟩
def o_215 (P : Params) : Obj := ⟨.none, none, .fields (List.toArray []), (List.toArray [])⟩
def o_216 (P : Params) : Obj := ⟨(.type "tuple"), none, .seq (List.toArray [(.str (S "word") 488), (.str (S "head") 489), (.str (S "parted") 490), (.str (S "tail") 491)]) 0, (List.toArray [])⟩
def o_217 (P : Params) : Obj := ⟨(.type "tuple"), none, .seq (List.toArray []) 0, (List.toArray [])⟩
def o_218 (P : Params) : Obj := ⟨.none, none, fnO (My.top 24) (S "is_number") (S "is_number") 0 .none .none .none .none none .none .none 0, (List.toArray [])⟩
def o_219 (P : Params) : Obj := ⟨(.type "code"), none, .fields (List.toArray [(.str (S "is_number") 485), (.str (S "is_number") 486), (.str (S "/claim/cut.py") 487), (.int 55 0), (.int 1 0), (.int 0 0), (.int 0 0), (.int 3 0), (.ref 214), (.bool true), (.int 181 0), (.ref 215), .none, (.ref 216), (.ref 217), (.ref 218), (.int 492 0), (.int 55 0), (.str (S "/claim/cut.py") 493)]), (List.toArray [])⟩
def o_220 (P : Params) : Obj := ⟨(.type "function"), none, fnO (My.top 24) (S "is_number") (S "is_number") 3 .none .none .none (.str (S "leanscript.words") 407) none (.ref 219) .none 0, (List.toArray [])⟩
def o_221 (P : Params) : Obj := ⟨(.type "tuple"), none, .seq (List.toArray []) 0, (List.toArray [])⟩
def o_222 (P : Params) : Obj := ⟨.none, none, .fields (List.toArray []), (List.toArray [])⟩
def o_223 (P : Params) : Obj := ⟨(.type "tuple"), none, .seq (List.toArray [(.str (S "word") 498), (.str (S "head") 499), (.str (S "_") 500), (.str (S "tail") 501)]) 0, (List.toArray [])⟩
def o_224 (P : Params) : Obj := ⟨(.type "tuple"), none, .seq (List.toArray []) 0, (List.toArray [])⟩
def o_225 (P : Params) : Obj := ⟨.none, none, fnO (My.top 25) (S "number_told") (S "number_told") 0 .none .none .none .none none .none .none 0, (List.toArray [])⟩
def o_226 (P : Params) : Obj := ⟨(.type "code"), none, .fields (List.toArray [(.str (S "number_told") 495), (.str (S "number_told") 496), (.str (S "/claim/cut.py") 497), (.int 64 0), (.int 1 0), (.int 0 0), (.int 0 0), (.int 3 0), (.ref 221), (.bool true), (.int 181 0), (.ref 222), .none, (.ref 223), (.ref 224), (.ref 225), (.int 502 0), (.int 64 0), (.str (S "/claim/cut.py") 503)]), (List.toArray [])⟩
def o_227 (P : Params) : Obj := ⟨(.type "function"), none, fnO (My.top 25) (S "number_told") (S "number_told") 3 .none .none .none (.str (S "leanscript.words") 407) none (.ref 226) .none 0, (List.toArray [])⟩
def o_228 (P : Params) : Obj := ⟨(.type "tuple"), none, .seq (List.toArray []) 0, (List.toArray [])⟩
def o_229 (P : Params) : Obj := ⟨.none, none, .fields (List.toArray []), (List.toArray [])⟩
def o_230 (P : Params) : Obj := ⟨(.type "tuple"), none, .seq (List.toArray [(.str (S "text") 508), (.str (S "at") 509)]) 0, (List.toArray [])⟩
def o_231 (P : Params) : Obj := ⟨(.type "tuple"), none, .seq (List.toArray []) 0, (List.toArray [])⟩
def o_232 (P : Params) : Obj := ⟨.none, none, fnO (My.top 26) (S "run_end") (S "run_end") 0 .none .none .none .none none .none .none 0, (List.toArray [])⟩
def o_233 (P : Params) : Obj := ⟨(.type "code"), none, .fields (List.toArray [(.str (S "run_end") 505), (.str (S "run_end") 506), (.str (S "/claim/cut.py") 507), (.int 69 0), (.int 2 0), (.int 0 0), (.int 0 0), (.int 3 0), (.ref 228), (.bool true), (.int 181 0), (.ref 229), .none, (.ref 230), (.ref 231), (.ref 232), (.int 510 0), (.int 69 0), (.str (S "/claim/cut.py") 511)]), (List.toArray [])⟩
def o_234 (P : Params) : Obj := ⟨(.type "function"), none, fnO (My.top 26) (S "run_end") (S "run_end") 3 .none .none .none (.str (S "leanscript.words") 407) none (.ref 233) .none 0, (List.toArray [])⟩
def o_235 (P : Params) : Obj := ⟨(.type "tuple"), none, .seq (List.toArray []) 0, (List.toArray [])⟩
def o_236 (P : Params) : Obj := ⟨.none, none, .fields (List.toArray []), (List.toArray [])⟩
def o_237 (P : Params) : Obj := ⟨(.type "tuple"), none, .seq (List.toArray [(.str (S "word") 516), (.str (S "at") 517)]) 0, (List.toArray [])⟩
def o_238 (P : Params) : Obj := ⟨(.type "tuple"), none, .seq (List.toArray []) 0, (List.toArray [])⟩
def o_239 (P : Params) : Obj := ⟨.none, none, fnO (My.top 27) (S "sort_of") (S "sort_of") 0 .none .none .none .none none .none .none 0, (List.toArray [])⟩
def o_240 (P : Params) : Obj := ⟨(.type "code"), none, .fields (List.toArray [(.str (S "sort_of") 513), (.str (S "sort_of") 514), (.str (S "/claim/cut.py") 515), (.int 73 0), (.int 2 0), (.int 0 0), (.int 0 0), (.int 3 0), (.ref 235), (.bool true), (.int 181 0), (.ref 236), .none, (.ref 237), (.ref 238), (.ref 239), (.int 518 0), (.int 73 0), (.str (S "/claim/cut.py") 519)]), (List.toArray [])⟩
def o_241 (P : Params) : Obj := ⟨(.type "function"), none, fnO (My.top 27) (S "sort_of") (S "sort_of") 3 .none .none .none (.str (S "leanscript.words") 407) none (.ref 240) .none 0, (List.toArray [])⟩
def o_242 (P : Params) : Obj := ⟨(.type "tuple"), none, .seq (List.toArray []) 0, (List.toArray [])⟩
def o_243 (P : Params) : Obj := ⟨.none, none, .fields (List.toArray []), (List.toArray [])⟩
def o_244 (P : Params) : Obj := ⟨(.type "tuple"), none, .seq (List.toArray [(.str (S "text") 524), (.str (S "at") 525)]) 0, (List.toArray [])⟩
def o_245 (P : Params) : Obj := ⟨(.type "tuple"), none, .seq (List.toArray []) 0, (List.toArray [])⟩
def o_246 (P : Params) : Obj := ⟨.none, none, fnO (My.top 28) (S "sign_end") (S "sign_end") 0 .none .none .none .none none .none .none 0, (List.toArray [])⟩
def o_247 (P : Params) : Obj := ⟨(.type "code"), none, .fields (List.toArray [(.str (S "sign_end") 521), (.str (S "sign_end") 522), (.str (S "/claim/cut.py") 523), (.int 81 0), (.int 2 0), (.int 0 0), (.int 0 0), (.int 3 0), (.ref 242), (.bool true), (.int 181 0), (.ref 243), .none, (.ref 244), (.ref 245), (.ref 246), (.int 526 0), (.int 81 0), (.str (S "/claim/cut.py") 527)]), (List.toArray [])⟩
def o_248 (P : Params) : Obj := ⟨(.type "function"), none, fnO (My.top 28) (S "sign_end") (S "sign_end") 3 .none .none .none (.str (S "leanscript.words") 407) none (.ref 247) .none 0, (List.toArray [])⟩
def o_249 (P : Params) : Obj := ⟨(.type "tuple"), none, .seq (List.toArray []) 0, (List.toArray [])⟩
def o_250 (P : Params) : Obj := ⟨.none, none, .fields (List.toArray []), (List.toArray [])⟩
def o_251 (P : Params) : Obj := ⟨(.type "tuple"), none, .seq (List.toArray [(.str (S "text") 532), (.str (S "told") 533), (.str (S "at") 534), (.str (S "end") 535), (.str (S "sort") 536)]) 0, (List.toArray [])⟩
def o_252 (P : Params) : Obj := ⟨(.type "tuple"), none, .seq (List.toArray []) 0, (List.toArray [])⟩
def o_253 (P : Params) : Obj := ⟨.none, none, fnO (My.top 29) (S "words") (S "words") 0 .none .none .none .none none .none .none 0, (List.toArray [])⟩
def o_254 (P : Params) : Obj := ⟨(.type "code"), none, .fields (List.toArray [(.str (S "words") 529), (.str (S "words") 530), (.str (S "/claim/cut.py") 531), (.int 87 0), (.int 1 0), (.int 0 0), (.int 0 0), (.int 3 0), (.ref 249), (.bool true), (.int 181 0), (.ref 250), .none, (.ref 251), (.ref 252), (.ref 253), (.int 537 0), (.int 87 0), (.str (S "/claim/cut.py") 538)]), (List.toArray [])⟩
def o_255 (P : Params) : Obj := ⟨(.type "function"), none, fnO (My.top 29) (S "words") (S "words") 3 .none .none .none (.str (S "leanscript.words") 407) none (.ref 254) .none 0, (List.toArray [])⟩
def o_256 (P : Params) : Obj := ⟨(.type "tuple"), none, .seq (List.toArray [(.str (S "num") 542), (.str (S "name") 543), (.str (S "get") 544), (.str (S "call") 545), (.str (S "rec") 546), (.str (S "fn") 547), (.str (S "neg") 548), (.str (S "not") 549), (.str (S "two") 550), (.str (S "and") 551), (.str (S "or") 552), (.str (S "pick") 553)]) 0, (List.toArray [])⟩
def o_257 (P : Params) : Obj := ⟨(.type "tuple"), none, .seq (List.toArray [(.str (S "let") 555), (.str (S "set") 556), (.str (S "put") 557), (.str (S "do") 558), (.str (S "if") 559), (.str (S "while") 560), (.str (S "return") 561), (.str (S "fail") 562), (.str (S "try") 563), (.str (S "out") 564), (.str (S "block") 565)]) 0, (List.toArray [])⟩
def o_258 (P : Params) : Obj := ⟨(.type "tuple"), none, .seq (List.toArray [(.str (S "+") 567), (.str (S "-") 568), (.str (S "*") 569), (.str (S "/") 570), (.str (S "~") 571), (.str (S "<") 572), (.str (S ">") 573), (.str (S "<=") 574), (.str (S ">=") 575), (.str (S "==") 576), (.str (S "!=") 577)]) 0, (List.toArray [])⟩
def o_259 (P : Params) : Obj := ⟨(.type "dict"), none, .dict (List.toArray [⟨(PyData.keyHash P (S "num")), (.str (S "num") 579), (.ref 260)⟩, ⟨(PyData.keyHash P (S "name")), (.str (S "name") 582), (.ref 261)⟩, ⟨(PyData.keyHash P (S "get")), (.str (S "get") 585), (.ref 262)⟩, ⟨(PyData.keyHash P (S "call")), (.str (S "call") 589), (.ref 263)⟩, ⟨(PyData.keyHash P (S "rec")), (.str (S "rec") 593), (.ref 264)⟩, ⟨(PyData.keyHash P (S "fn")), (.str (S "fn") 596), (.ref 265)⟩, ⟨(PyData.keyHash P (S "neg")), (.str (S "neg") 600), (.ref 266)⟩, ⟨(PyData.keyHash P (S "not")), (.str (S "not") 603), (.ref 267)⟩, ⟨(PyData.keyHash P (S "two")), (.str (S "two") 606), (.ref 268)⟩, ⟨(PyData.keyHash P (S "and")), (.str (S "and") 611), (.ref 269)⟩, ⟨(PyData.keyHash P (S "or")), (.str (S "or") 615), (.ref 270)⟩, ⟨(PyData.keyHash P (S "pick")), (.str (S "pick") 619), (.ref 271)⟩, ⟨(PyData.keyHash P (S "let")), (.str (S "let") 624), (.ref 272)⟩, ⟨(PyData.keyHash P (S "set")), (.str (S "set") 627), (.ref 273)⟩, ⟨(PyData.keyHash P (S "put")), (.str (S "put") 631), (.ref 274)⟩, ⟨(PyData.keyHash P (S "do")), (.str (S "do") 636), (.ref 275)⟩, ⟨(PyData.keyHash P (S "if")), (.str (S "if") 639), (.ref 276)⟩, ⟨(PyData.keyHash P (S "while")), (.str (S "while") 644), (.ref 278)⟩, ⟨(PyData.keyHash P (S "return")), (.str (S "return") 647), (.ref 279)⟩, ⟨(PyData.keyHash P (S "fail")), (.str (S "fail") 649), (.ref 280)⟩, ⟨(PyData.keyHash P (S "try")), (.str (S "try") 651), (.ref 281)⟩, ⟨(PyData.keyHash P (S "out")), (.str (S "out") 655), (.ref 282)⟩, ⟨(PyData.keyHash P (S "block")), (.str (S "block") 657), (.ref 283)⟩]) 23, (List.toArray [])⟩
def o_260 (P : Params) : Obj := ⟨(.type "tuple"), none, .seq (List.toArray [(.str (S "number") 580)]) 0, (List.toArray [])⟩
def o_261 (P : Params) : Obj := ⟨(.type "tuple"), none, .seq (List.toArray [(.str (S "name") 583)]) 0, (List.toArray [])⟩
def o_262 (P : Params) : Obj := ⟨(.type "tuple"), none, .seq (List.toArray [(.str (S "expression") 586), (.str (S "name") 587)]) 0, (List.toArray [])⟩
def o_263 (P : Params) : Obj := ⟨(.type "tuple"), none, .seq (List.toArray [(.str (S "expression") 590), (.str (S "expressions") 591)]) 0, (List.toArray [])⟩
def o_264 (P : Params) : Obj := ⟨(.type "tuple"), none, .seq (List.toArray [(.str (S "fields") 594)]) 0, (List.toArray [])⟩
def o_265 (P : Params) : Obj := ⟨(.type "tuple"), none, .seq (List.toArray [(.str (S "names") 597), (.str (S "body") 598)]) 0, (List.toArray [])⟩
def o_266 (P : Params) : Obj := ⟨(.type "tuple"), none, .seq (List.toArray [(.str (S "expression") 601)]) 0, (List.toArray [])⟩
def o_267 (P : Params) : Obj := ⟨(.type "tuple"), none, .seq (List.toArray [(.str (S "expression") 604)]) 0, (List.toArray [])⟩
def o_268 (P : Params) : Obj := ⟨(.type "tuple"), none, .seq (List.toArray [(.str (S "sign") 607), (.str (S "expression") 608), (.str (S "expression") 609)]) 0, (List.toArray [])⟩
def o_269 (P : Params) : Obj := ⟨(.type "tuple"), none, .seq (List.toArray [(.str (S "expression") 612), (.str (S "expression") 613)]) 0, (List.toArray [])⟩
def o_270 (P : Params) : Obj := ⟨(.type "tuple"), none, .seq (List.toArray [(.str (S "expression") 616), (.str (S "expression") 617)]) 0, (List.toArray [])⟩
def o_271 (P : Params) : Obj := ⟨(.type "tuple"), none, .seq (List.toArray [(.str (S "expression") 620), (.str (S "expression") 621), (.str (S "expression") 622)]) 0, (List.toArray [])⟩
def o_272 (P : Params) : Obj := ⟨(.type "tuple"), none, .seq (List.toArray [(.str (S "pairs") 625)]) 0, (List.toArray [])⟩
def o_273 (P : Params) : Obj := ⟨(.type "tuple"), none, .seq (List.toArray [(.str (S "name") 628), (.str (S "expression") 629)]) 0, (List.toArray [])⟩
def o_274 (P : Params) : Obj := ⟨(.type "tuple"), none, .seq (List.toArray [(.str (S "expression") 632), (.str (S "name") 633), (.str (S "expression") 634)]) 0, (List.toArray [])⟩
def o_275 (P : Params) : Obj := ⟨(.type "tuple"), none, .seq (List.toArray [(.str (S "expression") 637)]) 0, (List.toArray [])⟩
def o_276 (P : Params) : Obj := ⟨(.type "tuple"), none, .seq (List.toArray [(.str (S "expression") 640), (.str (S "statement") 641), (.str (S "perhaps") 642)]) 0, (List.toArray [])⟩
def o_277 (P : Params) : Obj := ⟨(.type "dict"), none, .dict (List.toArray [⟨(PyData.keyHash P (S "while")), (.str (S "while") 644), (.ref 278)⟩, ⟨(PyData.keyHash P (S "return")), (.str (S "return") 647), (.ref 279)⟩, ⟨(PyData.keyHash P (S "fail")), (.str (S "fail") 649), (.ref 280)⟩, ⟨(PyData.keyHash P (S "try")), (.str (S "try") 651), (.ref 281)⟩, ⟨(PyData.keyHash P (S "out")), (.str (S "out") 655), (.ref 282)⟩, ⟨(PyData.keyHash P (S "block")), (.str (S "block") 657), (.ref 283)⟩]) 6, (List.toArray [])⟩
def o_278 (P : Params) : Obj := ⟨(.type "tuple"), none, .seq (List.toArray [(.str (S "expression") 645), (.str (S "statement") 646)]) 0, (List.toArray [])⟩
def o_279 (P : Params) : Obj := ⟨(.type "tuple"), none, .seq (List.toArray [(.str (S "expression") 648)]) 0, (List.toArray [])⟩
def o_280 (P : Params) : Obj := ⟨(.type "tuple"), none, .seq (List.toArray [(.str (S "expression") 650)]) 0, (List.toArray [])⟩
def o_281 (P : Params) : Obj := ⟨(.type "tuple"), none, .seq (List.toArray [(.str (S "statements") 652), (.str (S "name") 653), (.str (S "statements") 654)]) 0, (List.toArray [])⟩
def o_282 (P : Params) : Obj := ⟨(.type "tuple"), none, .seq (List.toArray [(.str (S "expression") 656)]) 0, (List.toArray [])⟩
def o_283 (P : Params) : Obj := ⟨(.type "tuple"), none, .seq (List.toArray [(.str (S "statements") 658)]) 0, (List.toArray [])⟩
def o_284 (P : Params) : Obj := ⟨(.type "tuple"), none, .seq (List.toArray []) 0, (List.toArray [])⟩
def o_285 (P : Params) : Obj := ⟨.none, none, .fields (List.toArray []), (List.toArray [])⟩
def o_286 (P : Params) : Obj := ⟨(.type "tuple"), none, .seq (List.toArray [(.str (S "body") 669)]) 0, (List.toArray [])⟩
def o_287 (P : Params) : Obj := ⟨(.type "tuple"), none, .seq (List.toArray []) 0, (List.toArray [])⟩
def o_288 (P : Params) : Obj := ⟨.none, none, fnO (My.top 35) (S "is_give") (S "is_give") 0 .none .none .none .none none .none .none 0, (List.toArray [])⟩
def o_289 (P : Params) : Obj := ⟨(.type "code"), none, .fields (List.toArray [(.str (S "is_give") 666), (.str (S "is_give") 667), (.str (S "/claim/cut.py") 668), (.int 108 0), (.int 1 0), (.int 0 0), (.int 0 0), (.int 3 0), (.ref 284), (.bool true), (.int 181 0), (.ref 285), .none, (.ref 286), (.ref 287), (.ref 288), (.int 670 0), (.int 108 0), (.str (S "/claim/cut.py") 671)]), (List.toArray [])⟩
def o_290 (P : Params) : Obj := ⟨(.type "function"), none, fnO (My.top 35) (S "is_give") (S "is_give") 3 .none .none .none (.str (S "leanscript.shapes") 540) none (.ref 289) .none 0, (List.toArray [])⟩
def T1 (P : Params) : PySem.W.BT := (.node (boot_o_0 P) (.node (boot_o_1 P) (.node (o_3 P) (.node (boot_o_7 P) (.node (o_15 P) (.node (o_31 P) (.node (o_63 P) (.node (o_127 P) (.node (o_255 P) .nil .nil) .nil) (.node (o_191 P) .nil .nil)) (.node (o_95 P) (.node (o_159 P) (.node (o_287 P) .nil .nil) .nil) (.node (o_223 P) .nil .nil))) (.node (o_47 P) (.node (o_79 P) (.node (o_143 P) (.node (o_271 P) .nil .nil) .nil) (.node (o_207 P) .nil .nil)) (.node (o_111 P) (.node (o_175 P) .nil .nil) (.node (o_239 P) .nil .nil)))) (.node (o_23 P) (.node (o_39 P) (.node (o_71 P) (.node (o_135 P) (.node (o_263 P) .nil .nil) .nil) (.node (o_199 P) .nil .nil)) (.node (o_103 P) (.node (o_167 P) .nil .nil) (.node (o_231 P) .nil .nil))) (.node (o_55 P) (.node (o_87 P) (.node (o_151 P) (.node (o_279 P) .nil .nil) .nil) (.node (o_215 P) .nil .nil)) (.node (o_119 P) (.node (o_183 P) .nil .nil) (.node (o_247 P) .nil .nil))))) (.node (o_11 P) (.node (o_19 P) (.node (o_35 P) (.node (o_67 P) (.node (o_131 P) (.node (o_259 P) .nil .nil) .nil) (.node (o_195 P) .nil .nil)) (.node (o_99 P) (.node (o_163 P) .nil .nil) (.node (o_227 P) .nil .nil))) (.node (o_51 P) (.node (o_83 P) (.node (o_147 P) (.node (o_275 P) .nil .nil) .nil) (.node (o_211 P) .nil .nil)) (.node (o_115 P) (.node (o_179 P) .nil .nil) (.node (o_243 P) .nil .nil)))) (.node (o_27 P) (.node (o_43 P) (.node (o_75 P) (.node (o_139 P) (.node (o_267 P) .nil .nil) .nil) (.node (o_203 P) .nil .nil)) (.node (o_107 P) (.node (o_171 P) .nil .nil) (.node (o_235 P) .nil .nil))) (.node (o_59 P) (.node (o_91 P) (.node (o_155 P) (.node (o_283 P) .nil .nil) .nil) (.node (o_219 P) .nil .nil)) (.node (o_123 P) (.node (o_187 P) .nil .nil) (.node (o_251 P) .nil .nil)))))) (.node (boot_o_5 P) (.node (boot_o_9 P) (.node (o_17 P) (.node (o_33 P) (.node (o_65 P) (.node (o_129 P) (.node (o_257 P) .nil .nil) .nil) (.node (o_193 P) .nil .nil)) (.node (o_97 P) (.node (o_161 P) (.node (o_289 P) .nil .nil) .nil) (.node (o_225 P) .nil .nil))) (.node (o_49 P) (.node (o_81 P) (.node (o_145 P) (.node (o_273 P) .nil .nil) .nil) (.node (o_209 P) .nil .nil)) (.node (o_113 P) (.node (o_177 P) .nil .nil) (.node (o_241 P) .nil .nil)))) (.node (o_25 P) (.node (o_41 P) (.node (o_73 P) (.node (o_137 P) (.node (o_265 P) .nil .nil) .nil) (.node (o_201 P) .nil .nil)) (.node (o_105 P) (.node (o_169 P) .nil .nil) (.node (o_233 P) .nil .nil))) (.node (o_57 P) (.node (o_89 P) (.node (o_153 P) (.node (o_281 P) .nil .nil) .nil) (.node (o_217 P) .nil .nil)) (.node (o_121 P) (.node (o_185 P) .nil .nil) (.node (o_249 P) .nil .nil))))) (.node (o_13 P) (.node (o_21 P) (.node (o_37 P) (.node (o_69 P) (.node (o_133 P) (.node (o_261 P) .nil .nil) .nil) (.node (o_197 P) .nil .nil)) (.node (o_101 P) (.node (o_165 P) .nil .nil) (.node (o_229 P) .nil .nil))) (.node (o_53 P) (.node (o_85 P) (.node (o_149 P) (.node (o_277 P) .nil .nil) .nil) (.node (o_213 P) .nil .nil)) (.node (o_117 P) (.node (o_181 P) .nil .nil) (.node (o_245 P) .nil .nil)))) (.node (o_29 P) (.node (o_45 P) (.node (o_77 P) (.node (o_141 P) (.node (o_269 P) .nil .nil) .nil) (.node (o_205 P) .nil .nil)) (.node (o_109 P) (.node (o_173 P) .nil .nil) (.node (o_237 P) .nil .nil))) (.node (o_61 P) (.node (o_93 P) (.node (o_157 P) (.node (o_285 P) .nil .nil) .nil) (.node (o_221 P) .nil .nil)) (.node (o_125 P) (.node (o_189 P) .nil .nil) (.node (o_253 P) .nil .nil))))))) (.node (boot_o_2 P) (.node (boot_o_4 P) (.node (boot_o_8 P) (.node (o_16 P) (.node (o_32 P) (.node (o_64 P) (.node (o_128 P) (.node (o_256 P) .nil .nil) .nil) (.node (o_192 P) .nil .nil)) (.node (o_96 P) (.node (o_160 P) (.node (o_288 P) .nil .nil) .nil) (.node (o_224 P) .nil .nil))) (.node (o_48 P) (.node (o_80 P) (.node (o_144 P) (.node (o_272 P) .nil .nil) .nil) (.node (o_208 P) .nil .nil)) (.node (o_112 P) (.node (o_176 P) .nil .nil) (.node (o_240 P) .nil .nil)))) (.node (o_24 P) (.node (o_40 P) (.node (o_72 P) (.node (o_136 P) (.node (o_264 P) .nil .nil) .nil) (.node (o_200 P) .nil .nil)) (.node (o_104 P) (.node (o_168 P) .nil .nil) (.node (o_232 P) .nil .nil))) (.node (o_56 P) (.node (o_88 P) (.node (o_152 P) (.node (o_280 P) .nil .nil) .nil) (.node (o_216 P) .nil .nil)) (.node (o_120 P) (.node (o_184 P) .nil .nil) (.node (o_248 P) .nil .nil))))) (.node (o_12_1 P) (.node (o_20 P) (.node (o_36 P) (.node (o_68 P) (.node (o_132 P) (.node (o_260 P) .nil .nil) .nil) (.node (o_196 P) .nil .nil)) (.node (o_100 P) (.node (o_164 P) .nil .nil) (.node (o_228 P) .nil .nil))) (.node (o_52 P) (.node (o_84 P) (.node (o_148 P) (.node (o_276 P) .nil .nil) .nil) (.node (o_212 P) .nil .nil)) (.node (o_116 P) (.node (o_180 P) .nil .nil) (.node (o_244 P) .nil .nil)))) (.node (o_28 P) (.node (o_44 P) (.node (o_76 P) (.node (o_140 P) (.node (o_268 P) .nil .nil) .nil) (.node (o_204 P) .nil .nil)) (.node (o_108 P) (.node (o_172 P) .nil .nil) (.node (o_236 P) .nil .nil))) (.node (o_60 P) (.node (o_92 P) (.node (o_156 P) (.node (o_284 P) .nil .nil) .nil) (.node (o_220 P) .nil .nil)) (.node (o_124 P) (.node (o_188 P) .nil .nil) (.node (o_252 P) .nil .nil)))))) (.node (boot_o_6 P) (.node (boot_o_10 P) (.node (o_18 P) (.node (o_34 P) (.node (o_66 P) (.node (o_130 P) (.node (o_258 P) .nil .nil) .nil) (.node (o_194 P) .nil .nil)) (.node (o_98 P) (.node (o_162 P) (.node (o_290 P) .nil .nil) .nil) (.node (o_226 P) .nil .nil))) (.node (o_50 P) (.node (o_82 P) (.node (o_146 P) (.node (o_274 P) .nil .nil) .nil) (.node (o_210 P) .nil .nil)) (.node (o_114 P) (.node (o_178 P) .nil .nil) (.node (o_242 P) .nil .nil)))) (.node (o_26 P) (.node (o_42 P) (.node (o_74 P) (.node (o_138 P) (.node (o_266 P) .nil .nil) .nil) (.node (o_202 P) .nil .nil)) (.node (o_106 P) (.node (o_170 P) .nil .nil) (.node (o_234 P) .nil .nil))) (.node (o_58 P) (.node (o_90 P) (.node (o_154 P) (.node (o_282 P) .nil .nil) .nil) (.node (o_218 P) .nil .nil)) (.node (o_122 P) (.node (o_186 P) .nil .nil) (.node (o_250 P) .nil .nil))))) (.node (o_14 P) (.node (o_22 P) (.node (o_38 P) (.node (o_70 P) (.node (o_134 P) (.node (o_262 P) .nil .nil) .nil) (.node (o_198 P) .nil .nil)) (.node (o_102 P) (.node (o_166 P) .nil .nil) (.node (o_230 P) .nil .nil))) (.node (o_54 P) (.node (o_86 P) (.node (o_150 P) (.node (o_278 P) .nil .nil) .nil) (.node (o_214 P) .nil .nil)) (.node (o_118 P) (.node (o_182 P) .nil .nil) (.node (o_246 P) .nil .nil)))) (.node (o_30 P) (.node (o_46 P) (.node (o_78 P) (.node (o_142 P) (.node (o_270 P) .nil .nil) .nil) (.node (o_206 P) .nil .nil)) (.node (o_110 P) (.node (o_174 P) .nil .nil) (.node (o_238 P) .nil .nil))) (.node (o_62 P) (.node (o_94 P) (.node (o_158 P) (.node (o_286 P) .nil .nil) .nil) (.node (o_222 P) .nil .nil)) (.node (o_126 P) (.node (o_190 P) .nil .nil) (.node (o_254 P) .nil .nil))))))))
abbrev S1 (w : World) (os : OsState) : SharedT := ⟨T1 w.params, 291, (boot_heap w.params).life, #[], ⟨0, 0, 0, 0⟩, 673, os⟩
def G1 (w : World) : Prop := ∀ os : OsState, XH.segF (XH.stQ prg w) 11 ann 3444 (Sb w os) (XH.pcQ (rest0.take 36) env cE ⟨0, 0, 0, 0⟩ B) = some (.next, S1 w os, cE, ⟨108, 0, 109, 47⟩)
theorem g1f (w : World) : G1 (w.withFollow "special-get-raises" false) := by
  intro os
  kernel_rfl
theorem g1t (w : World) : G1 (w.withFollow "special-get-raises" true) := by
  intro os
  kernel_rfl
theorem g1 (w : World) : G1 w := byRow2 "special-get-raises" (P := G1) g1f g1t w
abbrev rest1 : List Stmt := rest0.drop 36
def l_3_6 (P : Params) : List DictEntry := ⟨(PyData.keyHash P (S "MOST_DEPTH")), (.str (S "MOST_DEPTH") 1375), (.int 16 1374)⟩ :: ⟨(PyData.keyHash P (S "MOST_BINDINGS_trees")), (.str (S "MOST_BINDINGS_trees") 1377), (.int 100 1376)⟩ :: ⟨(PyData.keyHash P (S "names_twice")), (.str (S "names_twice") 1389), (.ref 763)⟩ :: ⟨(PyData.keyHash P (S "is_open_end")), (.str (S "is_open_end") 1396), (.ref 770)⟩ :: ⟨(PyData.keyHash P (S "fault_in_place")), (.str (S "fault_in_place") 1406), (.ref 777)⟩ :: ⟨(PyData.keyHash P (S "must_fit")), (.str (S "must_fit") 1420), (.ref 784)⟩ :: ⟨(PyData.keyHash P (S "is_great")), (.str (S "is_great") 1426), (.ref 789)⟩ :: ⟨(PyData.keyHash P (S "must_hold_together")), (.str (S "must_hold_together") 1434), (.ref 796)⟩ :: ⟨(PyData.keyHash P (S "must_tree")), (.str (S "must_tree") 1441), (.ref 803)⟩ :: ⟨(PyData.keyHash P (S "holds_together")), (.str (S "holds_together") 1448), (.ref 810)⟩ :: ⟨(PyData.keyHash P (S "read_node")), (.str (S "read_node") 1458), (.ref 817)⟩ :: ⟨(PyData.keyHash P (S "read")), (.str (S "read") 1465), (.ref 824)⟩ :: ⟨(PyData.keyHash P (S "spots")), (.str (S "spots") 1478), (.ref 831)⟩ :: ⟨(PyData.keyHash P (S "Old")), (.str (S "Old") 1509), (.ref 848)⟩ :: []
def l_3_7 (P : Params) : List DictEntry := ⟨(PyData.keyHash P (S "with_word")), (.str (S "with_word") 1129), (.ref 591)⟩ :: ⟨(PyData.keyHash P (S "plain_statement")), (.str (S "plain_statement") 1145), (.ref 598)⟩ :: ⟨(PyData.keyHash P (S "branching")), (.str (S "branching") 1157), (.ref 605)⟩ :: ⟨(PyData.keyHash P (S "looping")), (.str (S "looping") 1167), (.ref 612)⟩ :: ⟨(PyData.keyHash P (S "trying")), (.str (S "trying") 1179), (.ref 619)⟩ :: ⟨(PyData.keyHash P (S "block")), (.str (S "block") 1188), (.ref 626)⟩ :: ⟨(PyData.keyHash P (S "statement")), (.str (S "statement") 1196), (.ref 633)⟩ :: ⟨(PyData.keyHash P (S "parsed")), (.str (S "parsed") 1205), (.ref 640)⟩ :: ⟨(PyData.keyHash P (S "is_whole")), (.str (S "is_whole") 1214), (.ref 647)⟩ :: ⟨(PyData.keyHash P (S "is_number_in_tree")), (.str (S "is_number_in_tree") 1221), (.ref 654)⟩ :: ⟨(PyData.keyHash P (S "is_part")), (.str (S "is_part") 1229), (.ref 661)⟩ :: ⟨(PyData.keyHash P (S "is_of_kind")), (.str (S "is_of_kind") 1237), (.ref 668)⟩ :: ⟨(PyData.keyHash P (S "fault_of")), (.str (S "fault_of") 1245), (.ref 675)⟩ :: ⟨(PyData.keyHash P (S "kinds_of_names")), (.str (S "kinds_of_names") 1255), (.ref 682)⟩ :: ⟨(PyData.keyHash P (S "kinds_of_fields")), (.str (S "kinds_of_fields") 1261), (.ref 687)⟩ :: ⟨(PyData.keyHash P (S "kinds_within")), (.str (S "kinds_within") 1267), (.ref 692)⟩ :: ⟨(PyData.keyHash P (S "must_have_form")), (.str (S "must_have_form") 1281), (.ref 699)⟩ :: ⟨(PyData.keyHash P (S "Layout")), (.str (S "Layout") 1313), (.ref 716)⟩ :: ⟨(PyData.keyHash P (S "rooms_made")), (.str (S "rooms_made") 1319), (.ref 725)⟩ :: ⟨(PyData.keyHash P (S "add_rooms")), (.str (S "add_rooms") 1333), (.ref 732)⟩ :: ⟨(PyData.keyHash P (S "add_names")), (.str (S "add_names") 1347), (.ref 739)⟩ :: ⟨(PyData.keyHash P (S "laid_out")), (.str (S "laid_out") 1353), (.ref 744)⟩ :: ⟨(PyData.keyHash P (S "names_by_room")), (.str (S "names_by_room") 1359), (.ref 749)⟩ :: ⟨(PyData.keyHash P (S "meaning")), (.str (S "meaning") 1369), (.ref 756)⟩ :: ⟨(PyData.keyHash P (S "MOST_PARTS")), (.str (S "MOST_PARTS") 1373), (.int 300 1372)⟩ :: (l_3_6 P)
def l_3_8 (P : Params) : List DictEntry := ⟨(PyData.keyHash P (S "Node")), (.str (S "Node") 785), (.ref 327)⟩ :: ⟨(PyData.keyHash P (S "Source")), (.str (S "Source") 904), (.ref 425)⟩ :: ⟨(PyData.keyHash P (S "things_of")), (.str (S "things_of") 910), (.ref 434)⟩ :: ⟨(PyData.keyHash P (S "numbered")), (.str (S "numbered") 916), (.ref 439)⟩ :: ⟨(PyData.keyHash P (S "listed")), (.str (S "listed") 928), (.ref 446)⟩ :: ⟨(PyData.keyHash P (S "name_taken")), (.str (S "name_taken") 935), (.ref 453)⟩ :: ⟨(PyData.keyHash P (S "parameters")), (.str (S "parameters") 942), (.ref 460)⟩ :: ⟨(PyData.keyHash P (S "giving")), (.str (S "giving") 953), (.ref 467)⟩ :: ⟨(PyData.keyHash P (S "with_body")), (.str (S "with_body") 964), (.ref 474)⟩ :: ⟨(PyData.keyHash P (S "pair")), (.str (S "pair") 974), (.ref 481)⟩ :: ⟨(PyData.keyHash P (S "field")), (.str (S "field") 981), (.ref 488)⟩ :: ⟨(PyData.keyHash P (S "flattened")), (.str (S "flattened") 987), (.ref 493)⟩ :: ⟨(PyData.keyHash P (S "record")), (.str (S "record") 996), (.ref 500)⟩ :: ⟨(PyData.keyHash P (S "tightest")), (.str (S "tightest") 1004), (.ref 507)⟩ :: ⟨(PyData.keyHash P (S "followed")), (.str (S "followed") 1016), (.ref 514)⟩ :: ⟨(PyData.keyHash P (S "operand")), (.str (S "operand") 1028), (.ref 521)⟩ :: ⟨(PyData.keyHash P (S "joined")), (.str (S "joined") 1044), (.ref 528)⟩ :: ⟨(PyData.keyHash P (S "join_down_to")), (.str (S "join_down_to") 1055), (.ref 535)⟩ :: ⟨(PyData.keyHash P (S "side")), (.str (S "side") 1064), (.ref 542)⟩ :: ⟨(PyData.keyHash P (S "two_sided")), (.str (S "two_sided") 1074), (.ref 549)⟩ :: ⟨(PyData.keyHash P (S "expression")), (.str (S "expression") 1086), (.ref 556)⟩ :: ⟨(PyData.keyHash P (S "in_braces")), (.str (S "in_braces") 1094), (.ref 563)⟩ :: ⟨(PyData.keyHash P (S "in_brackets")), (.str (S "in_brackets") 1102), (.ref 570)⟩ :: ⟨(PyData.keyHash P (S "ended")), (.str (S "ended") 1110), (.ref 577)⟩ :: ⟨(PyData.keyHash P (S "letting")), (.str (S "letting") 1119), (.ref 584)⟩ :: (l_3_7 P)
def l_3_9 (P : Params) : List DictEntry := ⟨(PyData.keyHash P (S "MOST_FIGURES")), (.str (S "MOST_FIGURES") 451), (.int 18 450)⟩ :: ⟨(PyData.keyHash P (S "is_letter")), (.str (S "is_letter") 458), (.ref 189)⟩ :: ⟨(PyData.keyHash P (S "is_figure")), (.str (S "is_figure") 465), (.ref 196)⟩ :: ⟨(PyData.keyHash P (S "is_letter_or_figure")), (.str (S "is_letter_or_figure") 472), (.ref 203)⟩ :: ⟨(PyData.keyHash P (S "is_name")), (.str (S "is_name") 478), (.ref 208)⟩ :: ⟨(PyData.keyHash P (S "is_plain_number")), (.str (S "is_plain_number") 484), (.ref 213)⟩ :: ⟨(PyData.keyHash P (S "is_number")), (.str (S "is_number") 494), (.ref 220)⟩ :: ⟨(PyData.keyHash P (S "number_told")), (.str (S "number_told") 504), (.ref 227)⟩ :: ⟨(PyData.keyHash P (S "run_end")), (.str (S "run_end") 512), (.ref 234)⟩ :: ⟨(PyData.keyHash P (S "sort_of")), (.str (S "sort_of") 520), (.ref 241)⟩ :: ⟨(PyData.keyHash P (S "sign_end")), (.str (S "sign_end") 528), (.ref 248)⟩ :: ⟨(PyData.keyHash P (S "words")), (.str (S "words") 539), (.ref 255)⟩ :: ⟨(PyData.keyHash P (S "EXPRESSIONS")), (.str (S "EXPRESSIONS") 554), (.ref 256)⟩ :: ⟨(PyData.keyHash P (S "STATEMENTS")), (.str (S "STATEMENTS") 566), (.ref 257)⟩ :: ⟨(PyData.keyHash P (S "TWO_SIGNS")), (.str (S "TWO_SIGNS") 578), (.ref 258)⟩ :: ⟨(PyData.keyHash P (S "SHAPES")), (.str (S "SHAPES") 665), (.ref 259)⟩ :: ⟨(PyData.keyHash P (S "is_give")), (.str (S "is_give") 672), (.ref 290)⟩ :: ⟨(PyData.keyHash P (S "parts_within")), (.str (S "parts_within") 678), (.ref 295)⟩ :: ⟨(PyData.keyHash P (S "inner_parts")), (.str (S "inner_parts") 690), (.ref 302)⟩ :: ⟨(PyData.keyHash P (S "LEVELS")), (.str (S "LEVELS") 732), (.ref 303)⟩ :: ⟨(PyData.keyHash P (S "LOOSEST")), (.str (S "LOOSEST") 734), (.int 0 733)⟩ :: ⟨(PyData.keyHash P (S "AHEAD")), (.str (S "AHEAD") 736), (.int 7 735)⟩ :: ⟨(PyData.keyHash P (S "BEHIND")), (.str (S "BEHIND") 738), (.int 8 737)⟩ :: ⟨(PyData.keyHash P (S "TIGHTEST")), (.str (S "TIGHTEST") 740), (.int 9 739)⟩ :: ⟨(PyData.keyHash P (S "level_of")), (.str (S "level_of") 748), (.ref 310)⟩ :: (l_3_8 P)
def l_3_10 (P : Params) : List DictEntry := ⟨(PyData.keyHash P (S "__name__")), (.str (S "__name__") 165), (.str (S "leanscript.edits") 1479)⟩ :: ⟨(PyData.keyHash P (S "__doc__")), (.str (S "__doc__") 166), .none⟩ :: ⟨(PyData.keyHash P (S "__package__")), (.str (S "__package__") 167), .none⟩ :: ⟨(PyData.keyHash P (S "__loader__")), (.str (S "__loader__") 168), (.builtin "__main__.__loader__#opaque")⟩ :: ⟨(PyData.keyHash P (S "__spec__")), (.str (S "__spec__") 169), .none⟩ :: ⟨(PyData.keyHash P (S "__annotations__")), (.str (S "__annotations__") 170), (.ref 6)⟩ :: ⟨(PyData.keyHash P (S "__builtins__")), (.str (S "__builtins__") 171), (.ref 4)⟩ :: ⟨(PyData.keyHash P (S "__file__")), (.str (S "__file__") 173), (.str (S "/claim/cut.py") 172)⟩ :: ⟨(PyData.keyHash P (S "__cached__")), (.str (S "__cached__") 174), .none⟩ :: ⟨(PyData.keyHash P (S "_wall")), (.str (S "_wall") 193), (.ref 21)⟩ :: ⟨(PyData.keyHash P (S "LeanError")), (.str (S "LeanError") 213), (.ref 31)⟩ :: ⟨(PyData.keyHash P (S "NoText")), (.str (S "NoText") 239), (.ref 52)⟩ :: ⟨(PyData.keyHash P (S "NoTree")), (.str (S "NoTree") 267), (.ref 73)⟩ :: ⟨(PyData.keyHash P (S "NoPath")), (.str (S "NoPath") 283), (.ref 85)⟩ :: ⟨(PyData.keyHash P (S "NoNaming")), (.str (S "NoNaming") 310), (.ref 105)⟩ :: ⟨(PyData.keyHash P (S "NoLetters")), (.str (S "NoLetters") 326), (.ref 117)⟩ :: ⟨(PyData.keyHash P (S "NoCount")), (.str (S "NoCount") 342), (.ref 129)⟩ :: ⟨(PyData.keyHash P (S "NoTurning")), (.str (S "NoTurning") 358), (.ref 141)⟩ :: ⟨(PyData.keyHash P (S "NoMap")), (.str (S "NoMap") 374), (.ref 153)⟩ :: ⟨(PyData.keyHash P (S "NoLine")), (.str (S "NoLine") 390), (.ref 165)⟩ :: ⟨(PyData.keyHash P (S "TooMany")), (.str (S "TooMany") 406), (.ref 177)⟩ :: ⟨(PyData.keyHash P (S "KEPT")), (.str (S "KEPT") 419), (.ref 180)⟩ :: ⟨(PyData.keyHash P (S "LONG_SIGNS")), (.str (S "LONG_SIGNS") 426), (.ref 181)⟩ :: ⟨(PyData.keyHash P (S "SHORT_SIGNS")), (.str (S "SHORT_SIGNS") 447), (.ref 182)⟩ :: ⟨(PyData.keyHash P (S "MOST_LETTERS_words")), (.str (S "MOST_LETTERS_words") 449), (.int 12 448)⟩ :: (l_3_9 P)
def o_3_1 (P : Params) : Obj := ⟨(.type "dict"), none, .dict (List.toArray (l_3_10 P)) 114, (List.toArray [])⟩
def l_12_11 (P : Params) : List Value := (.int 0 0) :: (.ref 809) :: (.int 621 0) :: (.int 0 0) :: (.ref 816) :: (.int 625 0) :: (.int 0 0) :: (.ref 823) :: (.int 627 0) :: (.int 0 0) :: (.ref 830) :: (.int 637 0) :: (.int 0 0) :: (.ref 837) :: []
def l_12_12 (P : Params) : List Value := (.int 557 0) :: (.int 0 0) :: (.ref 755) :: (.int 567 0) :: (.int 0 0) :: (.ref 762) :: (.int 575 0) :: (.int 0 0) :: (.ref 769) :: (.int 584 0) :: (.int 0 0) :: (.ref 776) :: (.int 592 0) :: (.int 0 0) :: (.ref 783) :: (.int 602 0) :: (.int 0 0) :: (.ref 788) :: (.int 606 0) :: (.int 0 0) :: (.ref 795) :: (.int 611 0) :: (.int 0 0) :: (.ref 802) :: (.int 614 0) :: (l_12_11 P)
def l_12_13 (P : Params) : List Value := (.ref 686) :: (.int 473 0) :: (.int 0 0) :: (.ref 691) :: (.int 495 0) :: (.int 0 0) :: (.ref 698) :: (.int 507 0) :: (.int 0 0) :: (.ref 705) :: (.int 513 0) :: (.int 0 0) :: (.ref 724) :: (.int 524 0) :: (.int 0 0) :: (.ref 731) :: (.int 531 0) :: (.int 0 0) :: (.ref 738) :: (.int 540 0) :: (.int 0 0) :: (.ref 743) :: (.int 552 0) :: (.int 0 0) :: (.ref 748) :: (l_12_12 P)
def l_12_14 (P : Params) : List Value := (.int 0 0) :: (.ref 632) :: (.int 425 0) :: (.int 0 0) :: (.ref 639) :: (.int 432 0) :: (.int 0 0) :: (.ref 646) :: (.int 434 0) :: (.int 0 0) :: (.ref 653) :: (.int 436 0) :: (.int 0 0) :: (.ref 660) :: (.int 440 0) :: (.int 0 0) :: (.ref 667) :: (.int 452 0) :: (.int 0 0) :: (.ref 674) :: (.int 462 0) :: (.int 0 0) :: (.ref 681) :: (.int 470 0) :: (.int 0 0) :: (l_12_13 P)
def l_12_15 (P : Params) : List Value := (.int 350 0) :: (.int 0 0) :: (.ref 576) :: (.int 354 0) :: (.int 0 0) :: (.ref 583) :: (.int 361 0) :: (.int 0 0) :: (.ref 590) :: (.int 366 0) :: (.int 0 0) :: (.ref 597) :: (.int 379 0) :: (.int 0 0) :: (.ref 604) :: (.int 389 0) :: (.int 0 0) :: (.ref 611) :: (.int 395 0) :: (.int 0 0) :: (.ref 618) :: (.int 406 0) :: (.int 0 0) :: (.ref 625) :: (.int 410 0) :: (l_12_14 P)
def l_12_16 (P : Params) : List Value := (.ref 513) :: (.int 288 0) :: (.int 0 0) :: (.ref 520) :: (.int 298 0) :: (.int 0 0) :: (.ref 527) :: (.int 307 0) :: (.int 0 0) :: (.ref 534) :: (.int 312 0) :: (.int 0 0) :: (.ref 541) :: (.int 316 0) :: (.int 0 0) :: (.ref 548) :: (.int 327 0) :: (.int 0 0) :: (.ref 555) :: (.int 339 0) :: (.int 0 0) :: (.ref 562) :: (.int 345 0) :: (.int 0 0) :: (.ref 569) :: (l_12_15 P)
def l_12_17 (P : Params) : List Value := (.int 0 0) :: (.ref 459) :: (.int 239 0) :: (.int 0 0) :: (.ref 466) :: (.int 245 0) :: (.int 0 0) :: (.ref 473) :: (.int 251 0) :: (.int 0 0) :: (.ref 480) :: (.int 256 0) :: (.int 0 0) :: (.ref 487) :: (.int 258 0) :: (.int 0 0) :: (.ref 492) :: (.int 260 0) :: (.int 0 0) :: (.ref 499) :: (.int 265 0) :: (.int 0 0) :: (.ref 506) :: (.int 275 0) :: (.int 0 0) :: (l_12_16 P)
def l_12_18 (P : Params) : List Value := (.int 122 0) :: (.int 0 0) :: (.ref 301) :: (.int 134 0) :: (.int 0 0) :: (.ref 309) :: (.int 152 0) :: (.int 0 0) :: (.ref 316) :: (.int 159 0) :: (.int 0 0) :: (.ref 337) :: (.int 219 0) :: (.int 0 0) :: (.ref 433) :: (.int 221 0) :: (.int 0 0) :: (.ref 438) :: (.int 224 0) :: (.int 0 0) :: (.ref 445) :: (.int 233 0) :: (.int 0 0) :: (.ref 452) :: (.int 235 0) :: (l_12_17 P)
def l_12_19 (P : Params) : List Value := (.ref 212) :: (.int 55 0) :: (.int 0 0) :: (.ref 219) :: (.int 64 0) :: (.int 0 0) :: (.ref 226) :: (.int 69 0) :: (.int 0 0) :: (.ref 233) :: (.int 73 0) :: (.int 0 0) :: (.ref 240) :: (.int 81 0) :: (.int 0 0) :: (.ref 247) :: (.int 87 0) :: (.int 0 0) :: (.ref 254) :: (.int 108 0) :: (.int 0 0) :: (.ref 289) :: (.int 110 0) :: (.int 0 0) :: (.ref 294) :: (l_12_18 P)
def l_12_20 (P : Params) : List Value := (.int 0 0) :: (.ref 137) :: (.int 29 0) :: (.int 0 0) :: (.ref 149) :: (.int 31 0) :: (.int 0 0) :: (.ref 161) :: (.int 33 0) :: (.int 0 0) :: (.ref 173) :: (.int 41 0) :: (.int 0 0) :: (.ref 188) :: (.int 43 0) :: (.int 0 0) :: (.ref 195) :: (.int 45 0) :: (.int 0 0) :: (.ref 202) :: (.int 47 0) :: (.int 0 0) :: (.ref 207) :: (.int 51 0) :: (.int 0 0) :: (l_12_19 P)
def l_12_21 (P : Params) : List Value := (.int 1 0) :: (.int 0 0) :: (.ref 20) :: (.int 5 0) :: (.int 0 0) :: (.ref 27) :: (.int 7 0) :: (.int 0 0) :: (.ref 40) :: (.int 11 0) :: (.int 0 0) :: (.ref 60) :: (.int 16 0) :: (.int 0 0) :: (.ref 81) :: (.int 18 0) :: (.int 0 0) :: (.ref 93) :: (.int 23 0) :: (.int 0 0) :: (.ref 113) :: (.int 25 0) :: (.int 0 0) :: (.ref 125) :: (.int 27 0) :: (l_12_20 P)
def o_12_2 (P : Params) : Obj := ⟨.none, none, .fields (List.toArray (l_12_21 P)), (List.toArray [])⟩
def o_291 (P : Params) : Obj := ⟨(.type "tuple"), none, .seq (List.toArray []) 0, (List.toArray [])⟩
def o_292 (P : Params) : Obj := ⟨.none, none, .fields (List.toArray []), (List.toArray [])⟩
def o_293 (P : Params) : Obj := ⟨.none, none, fnO (My.top 36) (S "parts_within") (S "parts_within") 0 .none .none .none .none none .none .none 0, (List.toArray [])⟩
def o_294 (P : Params) : Obj := ⟨(.type "code"), none, .fields (List.toArray [(.str (S "parts_within") 673), (.str (S "parts_within") 674), (.str (S "/claim/cut.py") 675), (.int 110 0), (.int 2 0), (.int 0 0), (.int 0 0), (.int 3 0), (.ref 291), (.bool true), (.int 181 0), (.ref 292), .none, .none, .none, (.ref 293), (.int 676 0), (.int 110 0), (.str (S "/claim/cut.py") 677)]), (List.toArray [])⟩
def o_295 (P : Params) : Obj := ⟨(.type "function"), none, fnO (My.top 36) (S "parts_within") (S "parts_within") 3 .none .none .none (.str (S "leanscript.shapes") 540) none (.ref 294) .none 0, (List.toArray [])⟩
def o_296 (P : Params) : Obj := ⟨(.type "tuple"), none, .seq (List.toArray []) 0, (List.toArray [])⟩
def o_297 (P : Params) : Obj := ⟨.none, none, .fields (List.toArray []), (List.toArray [])⟩
def o_298 (P : Params) : Obj := ⟨(.type "tuple"), none, .seq (List.toArray [(.str (S "part") 682), (.str (S "told") 683), (.str (S "at") 684), (.str (S "kind") 685), (.str (S "steps") 686), (.str (S "inner") 687)]) 0, (List.toArray [])⟩
def o_299 (P : Params) : Obj := ⟨(.type "tuple"), none, .seq (List.toArray []) 0, (List.toArray [])⟩
def o_300 (P : Params) : Obj := ⟨.none, none, fnO (My.top 37) (S "inner_parts") (S "inner_parts") 0 .none .none .none .none none .none .none 0, (List.toArray [])⟩
def o_301 (P : Params) : Obj := ⟨(.type "code"), none, .fields (List.toArray [(.str (S "inner_parts") 679), (.str (S "inner_parts") 680), (.str (S "/claim/cut.py") 681), (.int 122 0), (.int 1 0), (.int 0 0), (.int 0 0), (.int 3 0), (.ref 296), (.bool true), (.int 181 0), (.ref 297), .none, (.ref 298), (.ref 299), (.ref 300), (.int 688 0), (.int 122 0), (.str (S "/claim/cut.py") 689)]), (List.toArray [])⟩
def o_302 (P : Params) : Obj := ⟨(.type "function"), none, fnO (My.top 37) (S "inner_parts") (S "inner_parts") 3 .none .none .none (.str (S "leanscript.shapes") 540) none (.ref 301) .none 0, (List.toArray [])⟩
def o_303 (P : Params) : Obj := ⟨(.type "dict"), none, .dict (List.toArray [⟨(PyData.keyHash P (S "||")), (.str (S "||") 693), (.int 1 694)⟩, ⟨(PyData.keyHash P (S "&&")), (.str (S "&&") 695), (.int 2 696)⟩, ⟨(PyData.keyHash P (S "==")), (.str (S "==") 697), (.int 3 698)⟩, ⟨(PyData.keyHash P (S "!=")), (.str (S "!=") 699), (.int 3 700)⟩, ⟨(PyData.keyHash P (S "<")), (.str (S "<") 701), (.int 4 702)⟩, ⟨(PyData.keyHash P (S ">")), (.str (S ">") 703), (.int 4 704)⟩, ⟨(PyData.keyHash P (S "<=")), (.str (S "<=") 705), (.int 4 706)⟩, ⟨(PyData.keyHash P (S ">=")), (.str (S ">=") 707), (.int 4 708)⟩, ⟨(PyData.keyHash P (S "+")), (.str (S "+") 709), (.int 5 710)⟩, ⟨(PyData.keyHash P (S "-")), (.str (S "-") 711), (.int 5 712)⟩, ⟨(PyData.keyHash P (S "*")), (.str (S "*") 713), (.int 6 714)⟩, ⟨(PyData.keyHash P (S "/")), (.str (S "/") 715), (.int 6 716)⟩, ⟨(PyData.keyHash P (S "~")), (.str (S "~") 717), (.int 6 718)⟩]) 13, (List.toArray [])⟩
def o_304 (P : Params) : Obj := ⟨(.type "tuple"), none, .seq (List.toArray []) 0, (List.toArray [])⟩
def o_305 (P : Params) : Obj := ⟨.none, none, .fields (List.toArray []), (List.toArray [])⟩
def o_306 (P : Params) : Obj := ⟨(.type "tuple"), none, .seq (List.toArray [(.str (S "part") 744), (.str (S "word") 745)]) 0, (List.toArray [])⟩
def o_307 (P : Params) : Obj := ⟨(.type "tuple"), none, .seq (List.toArray []) 0, (List.toArray [])⟩
def o_308 (P : Params) : Obj := ⟨.none, none, fnO (My.top 44) (S "level_of") (S "level_of") 0 .none .none .none .none none .none .none 0, (List.toArray [])⟩
def o_309 (P : Params) : Obj := ⟨(.type "code"), none, .fields (List.toArray [(.str (S "level_of") 741), (.str (S "level_of") 742), (.str (S "/claim/cut.py") 743), (.int 134 0), (.int 1 0), (.int 0 0), (.int 0 0), (.int 3 0), (.ref 304), (.bool true), (.int 181 0), (.ref 305), .none, (.ref 306), (.ref 307), (.ref 308), (.int 746 0), (.int 134 0), (.str (S "/claim/cut.py") 747)]), (List.toArray [])⟩
def o_310 (P : Params) : Obj := ⟨(.type "function"), none, fnO (My.top 44) (S "level_of") (S "level_of") 3 .none .none .none (.str (S "leanscript.levels") 691) none (.ref 309) .none 0, (List.toArray [])⟩
def o_311 (P : Params) : Obj := ⟨(.type "tuple"), none, .seq (List.toArray []) 0, (List.toArray [])⟩
def o_312 (P : Params) : Obj := ⟨(.type "builtin_function_or_method"), none, .fields (List.toArray [(.builtin "type.__prepare__"), (.type "type")]), (List.toArray [])⟩
def o_313 (P : Params) : Obj := ⟨(.type "dict"), none, .dict (List.toArray [⟨(PyData.keyHash P (S "__module__")), (.str (S "__module__") 758), (.str (S "leanscript.source") 749)⟩, ⟨(PyData.keyHash P (S "__qualname__")), (.str (S "__qualname__") 760), (.str (S "Node") 759)⟩, ⟨(PyData.keyHash P (S "__firstlineno__")), (.str (S "__firstlineno__") 762), (.int 152 761)⟩, ⟨(PyData.keyHash P (S "__init__")), (.str (S "__init__") 773), (.ref 324)⟩, ⟨(PyData.keyHash P (S "__static_attributes__")), (.str (S "__static_attributes__") 778), (.ref 325)⟩]) 5, (List.toArray [])⟩
def o_314 (P : Params) : Obj := ⟨(.type "tuple"), none, .seq (List.toArray []) 0, (List.toArray [])⟩
def o_315 (P : Params) : Obj := ⟨.none, none, .fields (List.toArray [(.int 154 0), (.int 4 0), (.ref 323)]), (List.toArray [])⟩
def o_316 (P : Params) : Obj := ⟨(.type "code"), none, .fields (List.toArray [(.str (S "Node") 753), (.str (S "Node") 754), (.str (S "/claim/cut.py") 755), (.int 152 0), (.int 0 0), (.int 0 0), (.int 0 0), (.int 0 0), (.ref 314), (.bool false), (.int 181 0), (.ref 315), .none, .none, .none, .none, (.int 756 0), (.int 152 0), (.str (S "/claim/cut.py") 757)]), (List.toArray [])⟩
def o_317 (P : Params) : Obj := ⟨(.type "frame"), none, .plain, (List.toArray [(some (.ref 316)), (some (.ref 3)), (some (.ref 313)), none, (some (.str (S "leanscript.source") 749)), none, (some (.ref 0))])⟩
def o_318 (P : Params) : Obj := ⟨(.type "tuple"), none, .seq (List.toArray []) 0, (List.toArray [])⟩
def o_319 (P : Params) : Obj := ⟨.none, none, .fields (List.toArray []), (List.toArray [])⟩
def o_320 (P : Params) : Obj := ⟨(.type "tuple"), none, .seq (List.toArray [(.str (S "self") 766), (.str (S "thing") 767), (.str (S "begin") 768), (.str (S "end") 769), (.str (S "inner") 770)]) 0, (List.toArray [])⟩
def o_321 (P : Params) : Obj := ⟨(.type "tuple"), none, .seq (List.toArray []) 0, (List.toArray [])⟩
def o_322 (P : Params) : Obj := ⟨.none, none, fnO (L2.inClass (My.top 46) 0) (S "__init__") (S "Node.__init__") 0 .none .none .none .none none .none .none 0, (List.toArray [])⟩
def o_323 (P : Params) : Obj := ⟨(.type "code"), none, .fields (List.toArray [(.str (S "__init__") 763), (.str (S "Node.__init__") 764), (.str (S "/claim/cut.py") 765), (.int 154 0), (.int 5 0), (.int 0 0), (.int 0 0), (.int 3 0), (.ref 318), (.bool true), (.int 181 0), (.ref 319), .none, (.ref 320), (.ref 321), (.ref 322), (.int 771 0), (.int 154 0), (.str (S "/claim/cut.py") 772)]), (List.toArray [])⟩
def o_324 (P : Params) : Obj := ⟨(.type "function"), none, fnO (L2.inClass (My.top 46) 0) (S "__init__") (S "Node.__init__") 3 .none .none .none (.str (S "leanscript.source") 749) none (.ref 323) .none 0, (List.toArray [])⟩
def o_325 (P : Params) : Obj := ⟨(.type "tuple"), none, .seq (List.toArray [(.str (S "begin") 774), (.str (S "end") 775), (.str (S "inner") 776), (.str (S "thing") 777)]) 0, (List.toArray [])⟩
def o_326 (P : Params) : Obj := ⟨(.type "dict"), none, .dict (List.toArray [⟨(PyData.keyHash P (S "__module__")), (.str (S "__module__") 758), (.str (S "leanscript.source") 749)⟩, ⟨(PyData.keyHash P (S "__firstlineno__")), (.str (S "__firstlineno__") 762), (.int 152 761)⟩, ⟨(PyData.keyHash P (S "__init__")), (.str (S "__init__") 773), (.ref 324)⟩, ⟨(PyData.keyHash P (S "__static_attributes__")), (.str (S "__static_attributes__") 778), (.ref 325)⟩, ⟨(PyData.keyHash P (S "__dict__")), (.str (S "__dict__") 780), (.ref 328)⟩, ⟨(PyData.keyHash P (S "__weakref__")), (.str (S "__weakref__") 782), (.ref 329)⟩, ⟨(PyData.keyHash P (S "__doc__")), (.str (S "__doc__") 783), .none⟩]) 4, (List.toArray [])⟩
def o_327 (P : Params) : Obj := ⟨(.type "type"), none, .cls ⟨(S "Node"), [(.type "object")], [(.ref 327), (.type "object")], 326, (S "Node"), true, [], [], false, none, false⟩, (List.toArray [none, none, (some (.str (S "Node") 751)), (some (.str (S "Node") 759)), (some (.builtin "object.__new__")), (some (.bool true))])⟩
def o_328 (P : Params) : Obj := ⟨(.type "getset_descriptor"), none, .fields (List.toArray [(.str (S "__dict__") 779), (.ref 327), (.builtin "function.__dict__"), (.builtin "function.__dict__#set")]), (List.toArray [])⟩
def o_329 (P : Params) : Obj := ⟨(.type "getset_descriptor"), none, .fields (List.toArray [(.str (S "__weakref__") 781), (.ref 327), (.builtin "ExceptionGroup.__weakref__"), .none]), (List.toArray [])⟩
def o_330 (P : Params) : Obj := ⟨(.type "super"), none, .fields (List.toArray [(.ref 327), (.ref 327), (.ref 327)]), (List.toArray [])⟩
def o_331 (P : Params) : Obj := ⟨(.type "builtin_function_or_method"), none, .fields (List.toArray [(.builtin "object.__init_subclass__"), (.ref 327)]), (List.toArray [])⟩
def o_332 (P : Params) : Obj := ⟨(.type "tuple"), none, .seq (List.toArray []) 0, (List.toArray [])⟩
def o_333 (P : Params) : Obj := ⟨(.type "builtin_function_or_method"), none, .fields (List.toArray [(.builtin "type.__prepare__"), (.type "type")]), (List.toArray [])⟩
def o_334 (P : Params) : Obj := ⟨(.type "dict"), none, .dict (List.toArray [⟨(PyData.keyHash P (S "__module__")), (.str (S "__module__") 793), (.str (S "leanscript.source") 749)⟩, ⟨(PyData.keyHash P (S "__qualname__")), (.str (S "__qualname__") 795), (.str (S "Source") 794)⟩, ⟨(PyData.keyHash P (S "__firstlineno__")), (.str (S "__firstlineno__") 797), (.int 159 796)⟩, ⟨(PyData.keyHash P (S "__init__")), (.str (S "__init__") 805), (.ref 345)⟩, ⟨(PyData.keyHash P (S "at_end")), (.str (S "at_end") 812), (.ref 352)⟩, ⟨(PyData.keyHash P (S "sort_ahead")), (.str (S "sort_ahead") 819), (.ref 359)⟩, ⟨(PyData.keyHash P (S "word")), (.str (S "word") 826), (.ref 366)⟩, ⟨(PyData.keyHash P (S "place")), (.str (S "place") 833), (.ref 373)⟩, ⟨(PyData.keyHash P (S "passed")), (.str (S "passed") 843), (.ref 380)⟩, ⟨(PyData.keyHash P (S "go_on")), (.str (S "go_on") 850), (.ref 387)⟩, ⟨(PyData.keyHash P (S "take")), (.str (S "take") 858), (.ref 394)⟩, ⟨(PyData.keyHash P (S "takes")), (.str (S "takes") 866), (.ref 401)⟩, ⟨(PyData.keyHash P (S "take_name")), (.str (S "take_name") 875), (.ref 408)⟩, ⟨(PyData.keyHash P (S "take_leaf")), (.str (S "take_leaf") 884), (.ref 415)⟩, ⟨(PyData.keyHash P (S "word_behind")), (.str (S "word_behind") 893), (.ref 422)⟩, ⟨(PyData.keyHash P (S "__static_attributes__")), (.str (S "__static_attributes__") 897), (.ref 423)⟩]) 16, (List.toArray [])⟩
def o_335 (P : Params) : Obj := ⟨(.type "tuple"), none, .seq (List.toArray []) 0, (List.toArray [])⟩
def l_336_22 (P : Params) : List Value := (.int 4 0) :: (.ref 400) :: (.int 196 0) :: (.int 4 0) :: (.ref 407) :: (.int 203 0) :: (.int 4 0) :: (.ref 414) :: (.int 214 0) :: (.int 4 0) :: (.ref 421) :: []
def l_336_23 (P : Params) : List Value := (.int 161 0) :: (.int 4 0) :: (.ref 344) :: (.int 166 0) :: (.int 4 0) :: (.ref 351) :: (.int 169 0) :: (.int 4 0) :: (.ref 358) :: (.int 172 0) :: (.int 4 0) :: (.ref 365) :: (.int 175 0) :: (.int 4 0) :: (.ref 372) :: (.int 178 0) :: (.int 4 0) :: (.ref 379) :: (.int 182 0) :: (.int 4 0) :: (.ref 386) :: (.int 185 0) :: (.int 4 0) :: (.ref 393) :: (.int 190 0) :: (l_336_22 P)
def o_336 (P : Params) : Obj := ⟨.none, none, .fields (List.toArray (l_336_23 P)), (List.toArray [])⟩
def o_337 (P : Params) : Obj := ⟨(.type "code"), none, .fields (List.toArray [(.str (S "Source") 788), (.str (S "Source") 789), (.str (S "/claim/cut.py") 790), (.int 159 0), (.int 0 0), (.int 0 0), (.int 0 0), (.int 0 0), (.ref 335), (.bool false), (.int 181 0), (.ref 336), .none, .none, .none, .none, (.int 791 0), (.int 159 0), (.str (S "/claim/cut.py") 792)]), (List.toArray [])⟩
def o_338 (P : Params) : Obj := ⟨(.type "frame"), none, .plain, (List.toArray [(some (.ref 337)), (some (.ref 3)), (some (.ref 334)), none, (some (.str (S "leanscript.source") 749)), none, (some (.ref 0))])⟩
def o_339 (P : Params) : Obj := ⟨(.type "tuple"), none, .seq (List.toArray []) 0, (List.toArray [])⟩
def o_340 (P : Params) : Obj := ⟨.none, none, .fields (List.toArray []), (List.toArray [])⟩
def o_341 (P : Params) : Obj := ⟨(.type "tuple"), none, .seq (List.toArray [(.str (S "self") 801), (.str (S "text") 802)]) 0, (List.toArray [])⟩
def o_342 (P : Params) : Obj := ⟨(.type "tuple"), none, .seq (List.toArray []) 0, (List.toArray [])⟩
def o_343 (P : Params) : Obj := ⟨.none, none, fnO (L2.inClass (My.top 47) 0) (S "__init__") (S "Source.__init__") 0 .none .none .none .none none .none .none 0, (List.toArray [])⟩
def o_344 (P : Params) : Obj := ⟨(.type "code"), none, .fields (List.toArray [(.str (S "__init__") 798), (.str (S "Source.__init__") 799), (.str (S "/claim/cut.py") 800), (.int 161 0), (.int 2 0), (.int 0 0), (.int 0 0), (.int 3 0), (.ref 339), (.bool true), (.int 181 0), (.ref 340), .none, (.ref 341), (.ref 342), (.ref 343), (.int 803 0), (.int 161 0), (.str (S "/claim/cut.py") 804)]), (List.toArray [])⟩
def o_345 (P : Params) : Obj := ⟨(.type "function"), none, fnO (L2.inClass (My.top 47) 0) (S "__init__") (S "Source.__init__") 3 .none .none .none (.str (S "leanscript.source") 749) none (.ref 344) .none 0, (List.toArray [])⟩
def o_346 (P : Params) : Obj := ⟨(.type "tuple"), none, .seq (List.toArray []) 0, (List.toArray [])⟩
def o_347 (P : Params) : Obj := ⟨.none, none, .fields (List.toArray []), (List.toArray [])⟩
def o_348 (P : Params) : Obj := ⟨(.type "tuple"), none, .seq (List.toArray [(.str (S "self") 809)]) 0, (List.toArray [])⟩
def o_349 (P : Params) : Obj := ⟨(.type "tuple"), none, .seq (List.toArray []) 0, (List.toArray [])⟩
def o_350 (P : Params) : Obj := ⟨.none, none, fnO (L2.inClass (My.top 47) 1) (S "at_end") (S "Source.at_end") 0 .none .none .none .none none .none .none 0, (List.toArray [])⟩
def o_351 (P : Params) : Obj := ⟨(.type "code"), none, .fields (List.toArray [(.str (S "at_end") 806), (.str (S "Source.at_end") 807), (.str (S "/claim/cut.py") 808), (.int 166 0), (.int 1 0), (.int 0 0), (.int 0 0), (.int 3 0), (.ref 346), (.bool true), (.int 181 0), (.ref 347), .none, (.ref 348), (.ref 349), (.ref 350), (.int 810 0), (.int 166 0), (.str (S "/claim/cut.py") 811)]), (List.toArray [])⟩
def o_352 (P : Params) : Obj := ⟨(.type "function"), none, fnO (L2.inClass (My.top 47) 1) (S "at_end") (S "Source.at_end") 3 .none .none .none (.str (S "leanscript.source") 749) none (.ref 351) .none 0, (List.toArray [])⟩
def o_353 (P : Params) : Obj := ⟨(.type "tuple"), none, .seq (List.toArray []) 0, (List.toArray [])⟩
def o_354 (P : Params) : Obj := ⟨.none, none, .fields (List.toArray []), (List.toArray [])⟩
def o_355 (P : Params) : Obj := ⟨(.type "tuple"), none, .seq (List.toArray [(.str (S "self") 816)]) 0, (List.toArray [])⟩
def o_356 (P : Params) : Obj := ⟨(.type "tuple"), none, .seq (List.toArray []) 0, (List.toArray [])⟩
def o_357 (P : Params) : Obj := ⟨.none, none, fnO (L2.inClass (My.top 47) 2) (S "sort_ahead") (S "Source.sort_ahead") 0 .none .none .none .none none .none .none 0, (List.toArray [])⟩
def o_358 (P : Params) : Obj := ⟨(.type "code"), none, .fields (List.toArray [(.str (S "sort_ahead") 813), (.str (S "Source.sort_ahead") 814), (.str (S "/claim/cut.py") 815), (.int 169 0), (.int 1 0), (.int 0 0), (.int 0 0), (.int 3 0), (.ref 353), (.bool true), (.int 181 0), (.ref 354), .none, (.ref 355), (.ref 356), (.ref 357), (.int 817 0), (.int 169 0), (.str (S "/claim/cut.py") 818)]), (List.toArray [])⟩
def o_359 (P : Params) : Obj := ⟨(.type "function"), none, fnO (L2.inClass (My.top 47) 2) (S "sort_ahead") (S "Source.sort_ahead") 3 .none .none .none (.str (S "leanscript.source") 749) none (.ref 358) .none 0, (List.toArray [])⟩
def o_360 (P : Params) : Obj := ⟨(.type "tuple"), none, .seq (List.toArray []) 0, (List.toArray [])⟩
def o_361 (P : Params) : Obj := ⟨.none, none, .fields (List.toArray []), (List.toArray [])⟩
def o_362 (P : Params) : Obj := ⟨(.type "tuple"), none, .seq (List.toArray [(.str (S "self") 823)]) 0, (List.toArray [])⟩
def o_363 (P : Params) : Obj := ⟨(.type "tuple"), none, .seq (List.toArray []) 0, (List.toArray [])⟩
def o_364 (P : Params) : Obj := ⟨.none, none, fnO (L2.inClass (My.top 47) 3) (S "word") (S "Source.word") 0 .none .none .none .none none .none .none 0, (List.toArray [])⟩
def o_365 (P : Params) : Obj := ⟨(.type "code"), none, .fields (List.toArray [(.str (S "word") 820), (.str (S "Source.word") 821), (.str (S "/claim/cut.py") 822), (.int 172 0), (.int 1 0), (.int 0 0), (.int 0 0), (.int 3 0), (.ref 360), (.bool true), (.int 181 0), (.ref 361), .none, (.ref 362), (.ref 363), (.ref 364), (.int 824 0), (.int 172 0), (.str (S "/claim/cut.py") 825)]), (List.toArray [])⟩
def o_366 (P : Params) : Obj := ⟨(.type "function"), none, fnO (L2.inClass (My.top 47) 3) (S "word") (S "Source.word") 3 .none .none .none (.str (S "leanscript.source") 749) none (.ref 365) .none 0, (List.toArray [])⟩
def o_367 (P : Params) : Obj := ⟨(.type "tuple"), none, .seq (List.toArray []) 0, (List.toArray [])⟩
def o_368 (P : Params) : Obj := ⟨.none, none, .fields (List.toArray []), (List.toArray [])⟩
def o_369 (P : Params) : Obj := ⟨(.type "tuple"), none, .seq (List.toArray [(.str (S "self") 830)]) 0, (List.toArray [])⟩
def o_370 (P : Params) : Obj := ⟨(.type "tuple"), none, .seq (List.toArray []) 0, (List.toArray [])⟩
def o_371 (P : Params) : Obj := ⟨.none, none, fnO (L2.inClass (My.top 47) 4) (S "place") (S "Source.place") 0 .none .none .none .none none .none .none 0, (List.toArray [])⟩
def o_372 (P : Params) : Obj := ⟨(.type "code"), none, .fields (List.toArray [(.str (S "place") 827), (.str (S "Source.place") 828), (.str (S "/claim/cut.py") 829), (.int 175 0), (.int 1 0), (.int 0 0), (.int 0 0), (.int 3 0), (.ref 367), (.bool true), (.int 181 0), (.ref 368), .none, (.ref 369), (.ref 370), (.ref 371), (.int 831 0), (.int 175 0), (.str (S "/claim/cut.py") 832)]), (List.toArray [])⟩
def o_373 (P : Params) : Obj := ⟨(.type "function"), none, fnO (L2.inClass (My.top 47) 4) (S "place") (S "Source.place") 3 .none .none .none (.str (S "leanscript.source") 749) none (.ref 372) .none 0, (List.toArray [])⟩
def o_374 (P : Params) : Obj := ⟨(.type "tuple"), none, .seq (List.toArray []) 0, (List.toArray [])⟩
def o_375 (P : Params) : Obj := ⟨.none, none, .fields (List.toArray []), (List.toArray [])⟩
def o_376 (P : Params) : Obj := ⟨(.type "tuple"), none, .seq (List.toArray [(.str (S "self") 837), (.str (S "_") 838), (.str (S "word") 839), (.str (S "at") 840)]) 0, (List.toArray [])⟩
def o_377 (P : Params) : Obj := ⟨(.type "tuple"), none, .seq (List.toArray []) 0, (List.toArray [])⟩
def o_378 (P : Params) : Obj := ⟨.none, none, fnO (L2.inClass (My.top 47) 5) (S "passed") (S "Source.passed") 0 .none .none .none .none none .none .none 0, (List.toArray [])⟩
def o_379 (P : Params) : Obj := ⟨(.type "code"), none, .fields (List.toArray [(.str (S "passed") 834), (.str (S "Source.passed") 835), (.str (S "/claim/cut.py") 836), (.int 178 0), (.int 1 0), (.int 0 0), (.int 0 0), (.int 3 0), (.ref 374), (.bool true), (.int 181 0), (.ref 375), .none, (.ref 376), (.ref 377), (.ref 378), (.int 841 0), (.int 178 0), (.str (S "/claim/cut.py") 842)]), (List.toArray [])⟩
def o_380 (P : Params) : Obj := ⟨(.type "function"), none, fnO (L2.inClass (My.top 47) 5) (S "passed") (S "Source.passed") 3 .none .none .none (.str (S "leanscript.source") 749) none (.ref 379) .none 0, (List.toArray [])⟩
def o_381 (P : Params) : Obj := ⟨(.type "tuple"), none, .seq (List.toArray []) 0, (List.toArray [])⟩
def o_382 (P : Params) : Obj := ⟨.none, none, .fields (List.toArray []), (List.toArray [])⟩
def o_383 (P : Params) : Obj := ⟨(.type "tuple"), none, .seq (List.toArray [(.str (S "self") 847)]) 0, (List.toArray [])⟩
def o_384 (P : Params) : Obj := ⟨(.type "tuple"), none, .seq (List.toArray []) 0, (List.toArray [])⟩
def o_385 (P : Params) : Obj := ⟨.none, none, fnO (L2.inClass (My.top 47) 6) (S "go_on") (S "Source.go_on") 0 .none .none .none .none none .none .none 0, (List.toArray [])⟩
def o_386 (P : Params) : Obj := ⟨(.type "code"), none, .fields (List.toArray [(.str (S "go_on") 844), (.str (S "Source.go_on") 845), (.str (S "/claim/cut.py") 846), (.int 182 0), (.int 1 0), (.int 0 0), (.int 0 0), (.int 3 0), (.ref 381), (.bool true), (.int 181 0), (.ref 382), .none, (.ref 383), (.ref 384), (.ref 385), (.int 848 0), (.int 182 0), (.str (S "/claim/cut.py") 849)]), (List.toArray [])⟩
def o_387 (P : Params) : Obj := ⟨(.type "function"), none, fnO (L2.inClass (My.top 47) 6) (S "go_on") (S "Source.go_on") 3 .none .none .none (.str (S "leanscript.source") 749) none (.ref 386) .none 0, (List.toArray [])⟩
def o_388 (P : Params) : Obj := ⟨(.type "tuple"), none, .seq (List.toArray []) 0, (List.toArray [])⟩
def o_389 (P : Params) : Obj := ⟨.none, none, .fields (List.toArray []), (List.toArray [])⟩
def o_390 (P : Params) : Obj := ⟨(.type "tuple"), none, .seq (List.toArray [(.str (S "self") 854), (.str (S "word") 855)]) 0, (List.toArray [])⟩
def o_391 (P : Params) : Obj := ⟨(.type "tuple"), none, .seq (List.toArray []) 0, (List.toArray [])⟩
def o_392 (P : Params) : Obj := ⟨.none, none, fnO (L2.inClass (My.top 47) 7) (S "take") (S "Source.take") 0 .none .none .none .none none .none .none 0, (List.toArray [])⟩
def o_393 (P : Params) : Obj := ⟨(.type "code"), none, .fields (List.toArray [(.str (S "take") 851), (.str (S "Source.take") 852), (.str (S "/claim/cut.py") 853), (.int 185 0), (.int 2 0), (.int 0 0), (.int 0 0), (.int 3 0), (.ref 388), (.bool true), (.int 181 0), (.ref 389), .none, (.ref 390), (.ref 391), (.ref 392), (.int 856 0), (.int 185 0), (.str (S "/claim/cut.py") 857)]), (List.toArray [])⟩
def o_394 (P : Params) : Obj := ⟨(.type "function"), none, fnO (L2.inClass (My.top 47) 7) (S "take") (S "Source.take") 3 .none .none .none (.str (S "leanscript.source") 749) none (.ref 393) .none 0, (List.toArray [])⟩
def o_395 (P : Params) : Obj := ⟨(.type "tuple"), none, .seq (List.toArray []) 0, (List.toArray [])⟩
def o_396 (P : Params) : Obj := ⟨.none, none, .fields (List.toArray []), (List.toArray [])⟩
def o_397 (P : Params) : Obj := ⟨(.type "tuple"), none, .seq (List.toArray [(.str (S "self") 862), (.str (S "word") 863)]) 0, (List.toArray [])⟩
def o_398 (P : Params) : Obj := ⟨(.type "tuple"), none, .seq (List.toArray []) 0, (List.toArray [])⟩
def o_399 (P : Params) : Obj := ⟨.none, none, fnO (L2.inClass (My.top 47) 8) (S "takes") (S "Source.takes") 0 .none .none .none .none none .none .none 0, (List.toArray [])⟩
def o_400 (P : Params) : Obj := ⟨(.type "code"), none, .fields (List.toArray [(.str (S "takes") 859), (.str (S "Source.takes") 860), (.str (S "/claim/cut.py") 861), (.int 190 0), (.int 2 0), (.int 0 0), (.int 0 0), (.int 3 0), (.ref 395), (.bool true), (.int 181 0), (.ref 396), .none, (.ref 397), (.ref 398), (.ref 399), (.int 864 0), (.int 190 0), (.str (S "/claim/cut.py") 865)]), (List.toArray [])⟩
def o_401 (P : Params) : Obj := ⟨(.type "function"), none, fnO (L2.inClass (My.top 47) 8) (S "takes") (S "Source.takes") 3 .none .none .none (.str (S "leanscript.source") 749) none (.ref 400) .none 0, (List.toArray [])⟩
def o_402 (P : Params) : Obj := ⟨(.type "tuple"), none, .seq (List.toArray []) 0, (List.toArray [])⟩
def o_403 (P : Params) : Obj := ⟨.none, none, .fields (List.toArray []), (List.toArray [])⟩
def o_404 (P : Params) : Obj := ⟨(.type "tuple"), none, .seq (List.toArray [(.str (S "self") 870), (.str (S "begin") 871), (.str (S "name") 872)]) 0, (List.toArray [])⟩
def o_405 (P : Params) : Obj := ⟨(.type "tuple"), none, .seq (List.toArray []) 0, (List.toArray [])⟩
def o_406 (P : Params) : Obj := ⟨.none, none, fnO (L2.inClass (My.top 47) 9) (S "take_name") (S "Source.take_name") 0 .none .none .none .none none .none .none 0, (List.toArray [])⟩
def o_407 (P : Params) : Obj := ⟨(.type "code"), none, .fields (List.toArray [(.str (S "take_name") 867), (.str (S "Source.take_name") 868), (.str (S "/claim/cut.py") 869), (.int 196 0), (.int 1 0), (.int 0 0), (.int 0 0), (.int 3 0), (.ref 402), (.bool true), (.int 181 0), (.ref 403), .none, (.ref 404), (.ref 405), (.ref 406), (.int 873 0), (.int 196 0), (.str (S "/claim/cut.py") 874)]), (List.toArray [])⟩
def o_408 (P : Params) : Obj := ⟨(.type "function"), none, fnO (L2.inClass (My.top 47) 9) (S "take_name") (S "Source.take_name") 3 .none .none .none (.str (S "leanscript.source") 749) none (.ref 407) .none 0, (List.toArray [])⟩
def o_409 (P : Params) : Obj := ⟨(.type "tuple"), none, .seq (List.toArray []) 0, (List.toArray [])⟩
def o_410 (P : Params) : Obj := ⟨.none, none, .fields (List.toArray []), (List.toArray [])⟩
def o_411 (P : Params) : Obj := ⟨(.type "tuple"), none, .seq (List.toArray [(.str (S "self") 879), (.str (S "thing") 880), (.str (S "begin") 881)]) 0, (List.toArray [])⟩
def o_412 (P : Params) : Obj := ⟨(.type "tuple"), none, .seq (List.toArray []) 0, (List.toArray [])⟩
def o_413 (P : Params) : Obj := ⟨.none, none, fnO (L2.inClass (My.top 47) 10) (S "take_leaf") (S "Source.take_leaf") 0 .none .none .none .none none .none .none 0, (List.toArray [])⟩
def o_414 (P : Params) : Obj := ⟨(.type "code"), none, .fields (List.toArray [(.str (S "take_leaf") 876), (.str (S "Source.take_leaf") 877), (.str (S "/claim/cut.py") 878), (.int 203 0), (.int 1 0), (.int 0 0), (.int 0 0), (.int 3 0), (.ref 409), (.bool true), (.int 181 0), (.ref 410), .none, (.ref 411), (.ref 412), (.ref 413), (.int 882 0), (.int 203 0), (.str (S "/claim/cut.py") 883)]), (List.toArray [])⟩
def o_415 (P : Params) : Obj := ⟨(.type "function"), none, fnO (L2.inClass (My.top 47) 10) (S "take_leaf") (S "Source.take_leaf") 3 .none .none .none (.str (S "leanscript.source") 749) none (.ref 414) .none 0, (List.toArray [])⟩
def o_416 (P : Params) : Obj := ⟨(.type "tuple"), none, .seq (List.toArray []) 0, (List.toArray [])⟩
def o_417 (P : Params) : Obj := ⟨.none, none, .fields (List.toArray []), (List.toArray [])⟩
def o_418 (P : Params) : Obj := ⟨(.type "tuple"), none, .seq (List.toArray [(.str (S "self") 888), (.str (S "sign") 889), (.str (S "at") 890)]) 0, (List.toArray [])⟩
def o_419 (P : Params) : Obj := ⟨(.type "tuple"), none, .seq (List.toArray []) 0, (List.toArray [])⟩
def o_420 (P : Params) : Obj := ⟨.none, none, fnO (L2.inClass (My.top 47) 11) (S "word_behind") (S "Source.word_behind") 0 .none .none .none .none none .none .none 0, (List.toArray [])⟩
def o_421 (P : Params) : Obj := ⟨(.type "code"), none, .fields (List.toArray [(.str (S "word_behind") 885), (.str (S "Source.word_behind") 886), (.str (S "/claim/cut.py") 887), (.int 214 0), (.int 2 0), (.int 0 0), (.int 0 0), (.int 3 0), (.ref 416), (.bool true), (.int 181 0), (.ref 417), .none, (.ref 418), (.ref 419), (.ref 420), (.int 891 0), (.int 214 0), (.str (S "/claim/cut.py") 892)]), (List.toArray [])⟩
def o_422 (P : Params) : Obj := ⟨(.type "function"), none, fnO (L2.inClass (My.top 47) 11) (S "word_behind") (S "Source.word_behind") 3 .none .none .none (.str (S "leanscript.source") 749) none (.ref 421) .none 0, (List.toArray [])⟩
def o_423 (P : Params) : Obj := ⟨(.type "tuple"), none, .seq (List.toArray [(.str (S "now") 894), (.str (S "rows") 895), (.str (S "size") 896)]) 0, (List.toArray [])⟩
def o_424 (P : Params) : Obj := ⟨(.type "dict"), none, .dict (List.toArray [⟨(PyData.keyHash P (S "__module__")), (.str (S "__module__") 793), (.str (S "leanscript.source") 749)⟩, ⟨(PyData.keyHash P (S "__firstlineno__")), (.str (S "__firstlineno__") 797), (.int 159 796)⟩, ⟨(PyData.keyHash P (S "__init__")), (.str (S "__init__") 805), (.ref 345)⟩, ⟨(PyData.keyHash P (S "at_end")), (.str (S "at_end") 812), (.ref 352)⟩, ⟨(PyData.keyHash P (S "sort_ahead")), (.str (S "sort_ahead") 819), (.ref 359)⟩, ⟨(PyData.keyHash P (S "word")), (.str (S "word") 826), (.ref 366)⟩, ⟨(PyData.keyHash P (S "place")), (.str (S "place") 833), (.ref 373)⟩, ⟨(PyData.keyHash P (S "passed")), (.str (S "passed") 843), (.ref 380)⟩, ⟨(PyData.keyHash P (S "go_on")), (.str (S "go_on") 850), (.ref 387)⟩, ⟨(PyData.keyHash P (S "take")), (.str (S "take") 858), (.ref 394)⟩, ⟨(PyData.keyHash P (S "takes")), (.str (S "takes") 866), (.ref 401)⟩, ⟨(PyData.keyHash P (S "take_name")), (.str (S "take_name") 875), (.ref 408)⟩, ⟨(PyData.keyHash P (S "take_leaf")), (.str (S "take_leaf") 884), (.ref 415)⟩, ⟨(PyData.keyHash P (S "word_behind")), (.str (S "word_behind") 893), (.ref 422)⟩, ⟨(PyData.keyHash P (S "__static_attributes__")), (.str (S "__static_attributes__") 897), (.ref 423)⟩, ⟨(PyData.keyHash P (S "__dict__")), (.str (S "__dict__") 899), (.ref 426)⟩, ⟨(PyData.keyHash P (S "__weakref__")), (.str (S "__weakref__") 901), (.ref 427)⟩, ⟨(PyData.keyHash P (S "__doc__")), (.str (S "__doc__") 902), .none⟩]) 4, (List.toArray [])⟩
def o_425 (P : Params) : Obj := ⟨(.type "type"), none, .cls ⟨(S "Source"), [(.type "object")], [(.ref 425), (.type "object")], 424, (S "Source"), true, [], [], false, none, false⟩, (List.toArray [none, none, (some (.str (S "Source") 786)), (some (.str (S "Source") 794)), (some (.builtin "object.__new__")), (some (.bool true))])⟩
def o_426 (P : Params) : Obj := ⟨(.type "getset_descriptor"), none, .fields (List.toArray [(.str (S "__dict__") 898), (.ref 425), (.builtin "function.__dict__"), (.builtin "function.__dict__#set")]), (List.toArray [])⟩
def o_427 (P : Params) : Obj := ⟨(.type "getset_descriptor"), none, .fields (List.toArray [(.str (S "__weakref__") 900), (.ref 425), (.builtin "ExceptionGroup.__weakref__"), .none]), (List.toArray [])⟩
def o_428 (P : Params) : Obj := ⟨(.type "super"), none, .fields (List.toArray [(.ref 425), (.ref 425), (.ref 425)]), (List.toArray [])⟩
def o_429 (P : Params) : Obj := ⟨(.type "builtin_function_or_method"), none, .fields (List.toArray [(.builtin "object.__init_subclass__"), (.ref 425)]), (List.toArray [])⟩
def o_430 (P : Params) : Obj := ⟨(.type "tuple"), none, .seq (List.toArray []) 0, (List.toArray [])⟩
def o_431 (P : Params) : Obj := ⟨.none, none, .fields (List.toArray []), (List.toArray [])⟩
def o_432 (P : Params) : Obj := ⟨.none, none, fnO (My.top 48) (S "things_of") (S "things_of") 0 .none .none .none .none none .none .none 0, (List.toArray [])⟩
def o_433 (P : Params) : Obj := ⟨(.type "code"), none, .fields (List.toArray [(.str (S "things_of") 905), (.str (S "things_of") 906), (.str (S "/claim/cut.py") 907), (.int 219 0), (.int 1 0), (.int 0 0), (.int 0 0), (.int 3 0), (.ref 430), (.bool true), (.int 181 0), (.ref 431), .none, .none, .none, (.ref 432), (.int 908 0), (.int 219 0), (.str (S "/claim/cut.py") 909)]), (List.toArray [])⟩
def o_434 (P : Params) : Obj := ⟨(.type "function"), none, fnO (My.top 48) (S "things_of") (S "things_of") 3 .none .none .none (.str (S "leanscript.source") 749) none (.ref 433) .none 0, (List.toArray [])⟩
def o_435 (P : Params) : Obj := ⟨(.type "tuple"), none, .seq (List.toArray []) 0, (List.toArray [])⟩
def o_436 (P : Params) : Obj := ⟨.none, none, .fields (List.toArray []), (List.toArray [])⟩
def o_437 (P : Params) : Obj := ⟨.none, none, fnO (My.top 49) (S "numbered") (S "numbered") 0 .none .none .none .none none .none .none 0, (List.toArray [])⟩
def o_438 (P : Params) : Obj := ⟨(.type "code"), none, .fields (List.toArray [(.str (S "numbered") 911), (.str (S "numbered") 912), (.str (S "/claim/cut.py") 913), (.int 221 0), (.int 2 0), (.int 0 0), (.int 0 0), (.int 3 0), (.ref 435), (.bool true), (.int 181 0), (.ref 436), .none, .none, .none, (.ref 437), (.int 914 0), (.int 221 0), (.str (S "/claim/cut.py") 915)]), (List.toArray [])⟩
def o_439 (P : Params) : Obj := ⟨(.type "function"), none, fnO (My.top 49) (S "numbered") (S "numbered") 3 .none .none .none (.str (S "leanscript.source") 749) none (.ref 438) .none 0, (List.toArray [])⟩
def o_440 (P : Params) : Obj := ⟨(.type "tuple"), none, .seq (List.toArray []) 0, (List.toArray [])⟩
def o_441 (P : Params) : Obj := ⟨.none, none, .fields (List.toArray []), (List.toArray [])⟩
def o_442 (P : Params) : Obj := ⟨(.type "tuple"), none, .seq (List.toArray [(.str (S "source") 922), (.str (S "end") 923), (.str (S "one") 924), (.str (S "nodes") 925)]) 0, (List.toArray [])⟩
def o_443 (P : Params) : Obj := ⟨(.type "tuple"), none, .seq (List.toArray []) 0, (List.toArray [])⟩
def o_444 (P : Params) : Obj := ⟨.none, none, fnO (My.top 51) (S "listed") (S "listed") 0 .none .none .none .none none .none .none 0, (List.toArray [])⟩
def o_445 (P : Params) : Obj := ⟨(.type "code"), none, .fields (List.toArray [(.str (S "listed") 919), (.str (S "listed") 920), (.str (S "/claim/cut.py") 921), (.int 224 0), (.int 3 0), (.int 0 0), (.int 0 0), (.int 3 0), (.ref 440), (.bool true), (.int 181 0), (.ref 441), .none, (.ref 442), (.ref 443), (.ref 444), (.int 926 0), (.int 224 0), (.str (S "/claim/cut.py") 927)]), (List.toArray [])⟩
def o_446 (P : Params) : Obj := ⟨(.type "function"), none, fnO (My.top 51) (S "listed") (S "listed") 3 .none .none .none (.str (S "leanscript.parsing") 917) none (.ref 445) .none 0, (List.toArray [])⟩
def o_447 (P : Params) : Obj := ⟨(.type "tuple"), none, .seq (List.toArray []) 0, (List.toArray [])⟩
def o_448 (P : Params) : Obj := ⟨.none, none, .fields (List.toArray []), (List.toArray [])⟩
def o_449 (P : Params) : Obj := ⟨(.type "tuple"), none, .seq (List.toArray [(.str (S "source") 932)]) 0, (List.toArray [])⟩
def o_450 (P : Params) : Obj := ⟨(.type "tuple"), none, .seq (List.toArray []) 0, (List.toArray [])⟩
def o_451 (P : Params) : Obj := ⟨.none, none, fnO (My.top 52) (S "name_taken") (S "name_taken") 0 .none .none .none .none none .none .none 0, (List.toArray [])⟩
def o_452 (P : Params) : Obj := ⟨(.type "code"), none, .fields (List.toArray [(.str (S "name_taken") 929), (.str (S "name_taken") 930), (.str (S "/claim/cut.py") 931), (.int 233 0), (.int 1 0), (.int 0 0), (.int 0 0), (.int 3 0), (.ref 447), (.bool true), (.int 181 0), (.ref 448), .none, (.ref 449), (.ref 450), (.ref 451), (.int 933 0), (.int 233 0), (.str (S "/claim/cut.py") 934)]), (List.toArray [])⟩
def o_453 (P : Params) : Obj := ⟨(.type "function"), none, fnO (My.top 52) (S "name_taken") (S "name_taken") 3 .none .none .none (.str (S "leanscript.parsing") 917) none (.ref 452) .none 0, (List.toArray [])⟩
def o_454 (P : Params) : Obj := ⟨(.type "tuple"), none, .seq (List.toArray []) 0, (List.toArray [])⟩
def o_455 (P : Params) : Obj := ⟨.none, none, .fields (List.toArray []), (List.toArray [])⟩
def o_456 (P : Params) : Obj := ⟨(.type "tuple"), none, .seq (List.toArray [(.str (S "source") 939)]) 0, (List.toArray [])⟩
def o_457 (P : Params) : Obj := ⟨(.type "tuple"), none, .seq (List.toArray []) 0, (List.toArray [])⟩
def o_458 (P : Params) : Obj := ⟨.none, none, fnO (My.top 53) (S "parameters") (S "parameters") 0 .none .none .none .none none .none .none 0, (List.toArray [])⟩
def o_459 (P : Params) : Obj := ⟨(.type "code"), none, .fields (List.toArray [(.str (S "parameters") 936), (.str (S "parameters") 937), (.str (S "/claim/cut.py") 938), (.int 235 0), (.int 1 0), (.int 0 0), (.int 0 0), (.int 3 0), (.ref 454), (.bool true), (.int 181 0), (.ref 455), .none, (.ref 456), (.ref 457), (.ref 458), (.int 940 0), (.int 235 0), (.str (S "/claim/cut.py") 941)]), (List.toArray [])⟩
def o_460 (P : Params) : Obj := ⟨(.type "function"), none, fnO (My.top 53) (S "parameters") (S "parameters") 3 .none .none .none (.str (S "leanscript.parsing") 917) none (.ref 459) .none 0, (List.toArray [])⟩
def o_461 (P : Params) : Obj := ⟨(.type "tuple"), none, .seq (List.toArray []) 0, (List.toArray [])⟩
def o_462 (P : Params) : Obj := ⟨.none, none, .fields (List.toArray []), (List.toArray [])⟩
def o_463 (P : Params) : Obj := ⟨(.type "tuple"), none, .seq (List.toArray [(.str (S "source") 946), (.str (S "begin") 947), (.str (S "xs") 948), (.str (S "node") 949), (.str (S "thing") 950)]) 0, (List.toArray [])⟩
def o_464 (P : Params) : Obj := ⟨(.type "tuple"), none, .seq (List.toArray []) 0, (List.toArray [])⟩
def o_465 (P : Params) : Obj := ⟨.none, none, fnO (My.top 54) (S "giving") (S "giving") 0 .none .none .none .none none .none .none 0, (List.toArray [])⟩
def o_466 (P : Params) : Obj := ⟨(.type "code"), none, .fields (List.toArray [(.str (S "giving") 943), (.str (S "giving") 944), (.str (S "/claim/cut.py") 945), (.int 239 0), (.int 1 0), (.int 0 0), (.int 0 0), (.int 3 0), (.ref 461), (.bool true), (.int 181 0), (.ref 462), .none, (.ref 463), (.ref 464), (.ref 465), (.int 951 0), (.int 239 0), (.str (S "/claim/cut.py") 952)]), (List.toArray [])⟩
def o_467 (P : Params) : Obj := ⟨(.type "function"), none, fnO (My.top 54) (S "giving") (S "giving") 3 .none .none .none (.str (S "leanscript.parsing") 917) none (.ref 466) .none 0, (List.toArray [])⟩
def o_468 (P : Params) : Obj := ⟨(.type "tuple"), none, .seq (List.toArray []) 0, (List.toArray [])⟩
def o_469 (P : Params) : Obj := ⟨.none, none, .fields (List.toArray []), (List.toArray [])⟩
def o_470 (P : Params) : Obj := ⟨(.type "tuple"), none, .seq (List.toArray [(.str (S "source") 957), (.str (S "begin") 958), (.str (S "xs") 959), (.str (S "body") 960), (.str (S "thing") 961)]) 0, (List.toArray [])⟩
def o_471 (P : Params) : Obj := ⟨(.type "tuple"), none, .seq (List.toArray []) 0, (List.toArray [])⟩
def o_472 (P : Params) : Obj := ⟨.none, none, fnO (My.top 55) (S "with_body") (S "with_body") 0 .none .none .none .none none .none .none 0, (List.toArray [])⟩
def o_473 (P : Params) : Obj := ⟨(.type "code"), none, .fields (List.toArray [(.str (S "with_body") 954), (.str (S "with_body") 955), (.str (S "/claim/cut.py") 956), (.int 245 0), (.int 1 0), (.int 0 0), (.int 0 0), (.int 3 0), (.ref 468), (.bool true), (.int 181 0), (.ref 469), .none, (.ref 470), (.ref 471), (.ref 472), (.int 962 0), (.int 245 0), (.str (S "/claim/cut.py") 963)]), (List.toArray [])⟩
def o_474 (P : Params) : Obj := ⟨(.type "function"), none, fnO (My.top 55) (S "with_body") (S "with_body") 3 .none .none .none (.str (S "leanscript.parsing") 917) none (.ref 473) .none 0, (List.toArray [])⟩
def o_475 (P : Params) : Obj := ⟨(.type "tuple"), none, .seq (List.toArray []) 0, (List.toArray [])⟩
def o_476 (P : Params) : Obj := ⟨.none, none, .fields (List.toArray []), (List.toArray [])⟩
def o_477 (P : Params) : Obj := ⟨(.type "tuple"), none, .seq (List.toArray [(.str (S "source") 968), (.str (S "sign") 969), (.str (S "name") 970), (.str (S "node") 971)]) 0, (List.toArray [])⟩
def o_478 (P : Params) : Obj := ⟨(.type "tuple"), none, .seq (List.toArray []) 0, (List.toArray [])⟩
def o_479 (P : Params) : Obj := ⟨.none, none, fnO (My.top 56) (S "pair") (S "pair") 0 .none .none .none .none none .none .none 0, (List.toArray [])⟩
def o_480 (P : Params) : Obj := ⟨(.type "code"), none, .fields (List.toArray [(.str (S "pair") 965), (.str (S "pair") 966), (.str (S "/claim/cut.py") 967), (.int 251 0), (.int 2 0), (.int 0 0), (.int 0 0), (.int 3 0), (.ref 475), (.bool true), (.int 181 0), (.ref 476), .none, (.ref 477), (.ref 478), (.ref 479), (.int 972 0), (.int 251 0), (.str (S "/claim/cut.py") 973)]), (List.toArray [])⟩
def o_481 (P : Params) : Obj := ⟨(.type "function"), none, fnO (My.top 56) (S "pair") (S "pair") 3 .none .none .none (.str (S "leanscript.parsing") 917) none (.ref 480) .none 0, (List.toArray [])⟩
def o_482 (P : Params) : Obj := ⟨(.type "tuple"), none, .seq (List.toArray []) 0, (List.toArray [])⟩
def o_483 (P : Params) : Obj := ⟨.none, none, .fields (List.toArray []), (List.toArray [])⟩
def o_484 (P : Params) : Obj := ⟨(.type "tuple"), none, .seq (List.toArray [(.str (S "source") 978)]) 0, (List.toArray [])⟩
def o_485 (P : Params) : Obj := ⟨(.type "tuple"), none, .seq (List.toArray []) 0, (List.toArray [])⟩
def o_486 (P : Params) : Obj := ⟨.none, none, fnO (My.top 57) (S "field") (S "field") 0 .none .none .none .none none .none .none 0, (List.toArray [])⟩
def o_487 (P : Params) : Obj := ⟨(.type "code"), none, .fields (List.toArray [(.str (S "field") 975), (.str (S "field") 976), (.str (S "/claim/cut.py") 977), (.int 256 0), (.int 1 0), (.int 0 0), (.int 0 0), (.int 3 0), (.ref 482), (.bool true), (.int 181 0), (.ref 483), .none, (.ref 484), (.ref 485), (.ref 486), (.int 979 0), (.int 256 0), (.str (S "/claim/cut.py") 980)]), (List.toArray [])⟩
def o_488 (P : Params) : Obj := ⟨(.type "function"), none, fnO (My.top 57) (S "field") (S "field") 3 .none .none .none (.str (S "leanscript.parsing") 917) none (.ref 487) .none 0, (List.toArray [])⟩
def o_489 (P : Params) : Obj := ⟨(.type "tuple"), none, .seq (List.toArray []) 0, (List.toArray [])⟩
def o_490 (P : Params) : Obj := ⟨.none, none, .fields (List.toArray []), (List.toArray [])⟩
def o_491 (P : Params) : Obj := ⟨.none, none, fnO (My.top 58) (S "flattened") (S "flattened") 0 .none .none .none .none none .none .none 0, (List.toArray [])⟩
def o_492 (P : Params) : Obj := ⟨(.type "code"), none, .fields (List.toArray [(.str (S "flattened") 982), (.str (S "flattened") 983), (.str (S "/claim/cut.py") 984), (.int 258 0), (.int 2 0), (.int 0 0), (.int 0 0), (.int 3 0), (.ref 489), (.bool true), (.int 181 0), (.ref 490), .none, .none, .none, (.ref 491), (.int 985 0), (.int 258 0), (.str (S "/claim/cut.py") 986)]), (List.toArray [])⟩
def o_493 (P : Params) : Obj := ⟨(.type "function"), none, fnO (My.top 58) (S "flattened") (S "flattened") 3 .none .none .none (.str (S "leanscript.parsing") 917) none (.ref 492) .none 0, (List.toArray [])⟩
def o_494 (P : Params) : Obj := ⟨(.type "tuple"), none, .seq (List.toArray []) 0, (List.toArray [])⟩
def o_495 (P : Params) : Obj := ⟨.none, none, .fields (List.toArray []), (List.toArray [])⟩
def o_496 (P : Params) : Obj := ⟨(.type "tuple"), none, .seq (List.toArray [(.str (S "source") 991), (.str (S "begin") 992), (.str (S "pairs") 993)]) 0, (List.toArray [])⟩
def o_497 (P : Params) : Obj := ⟨(.type "tuple"), none, .seq (List.toArray []) 0, (List.toArray [])⟩
def o_498 (P : Params) : Obj := ⟨.none, none, fnO (My.top 59) (S "record") (S "record") 0 .none .none .none .none none .none .none 0, (List.toArray [])⟩
def o_499 (P : Params) : Obj := ⟨(.type "code"), none, .fields (List.toArray [(.str (S "record") 988), (.str (S "record") 989), (.str (S "/claim/cut.py") 990), (.int 260 0), (.int 1 0), (.int 0 0), (.int 0 0), (.int 3 0), (.ref 494), (.bool true), (.int 181 0), (.ref 495), .none, (.ref 496), (.ref 497), (.ref 498), (.int 994 0), (.int 260 0), (.str (S "/claim/cut.py") 995)]), (List.toArray [])⟩
def o_500 (P : Params) : Obj := ⟨(.type "function"), none, fnO (My.top 59) (S "record") (S "record") 3 .none .none .none (.str (S "leanscript.parsing") 917) none (.ref 499) .none 0, (List.toArray [])⟩
def o_501 (P : Params) : Obj := ⟨(.type "tuple"), none, .seq (List.toArray []) 0, (List.toArray [])⟩
def o_502 (P : Params) : Obj := ⟨.none, none, .fields (List.toArray []), (List.toArray [])⟩
def o_503 (P : Params) : Obj := ⟨(.type "tuple"), none, .seq (List.toArray [(.str (S "source") 1000), (.str (S "node") 1001)]) 0, (List.toArray [])⟩
def o_504 (P : Params) : Obj := ⟨(.type "tuple"), none, .seq (List.toArray []) 0, (List.toArray [])⟩
def o_505 (P : Params) : Obj := ⟨.none, none, fnO (My.top 60) (S "tightest") (S "tightest") 0 .none .none .none .none none .none .none 0, (List.toArray [])⟩
def o_506 (P : Params) : Obj := ⟨(.type "code"), none, .fields (List.toArray [(.str (S "tightest") 997), (.str (S "tightest") 998), (.str (S "/claim/cut.py") 999), (.int 265 0), (.int 1 0), (.int 0 0), (.int 0 0), (.int 3 0), (.ref 501), (.bool true), (.int 181 0), (.ref 502), .none, (.ref 503), (.ref 504), (.ref 505), (.int 1002 0), (.int 265 0), (.str (S "/claim/cut.py") 1003)]), (List.toArray [])⟩
def o_507 (P : Params) : Obj := ⟨(.type "function"), none, fnO (My.top 60) (S "tightest") (S "tightest") 3 .none .none .none (.str (S "leanscript.parsing") 917) none (.ref 506) .none 0, (List.toArray [])⟩
def o_508 (P : Params) : Obj := ⟨(.type "tuple"), none, .seq (List.toArray []) 0, (List.toArray [])⟩
def o_509 (P : Params) : Obj := ⟨.none, none, .fields (List.toArray []), (List.toArray [])⟩
def o_510 (P : Params) : Obj := ⟨(.type "tuple"), none, .seq (List.toArray [(.str (S "source") 1008), (.str (S "begin") 1009), (.str (S "node") 1010), (.str (S "k") 1011), (.str (S "es") 1012), (.str (S "thing") 1013)]) 0, (List.toArray [])⟩
def o_511 (P : Params) : Obj := ⟨(.type "tuple"), none, .seq (List.toArray []) 0, (List.toArray [])⟩
def o_512 (P : Params) : Obj := ⟨.none, none, fnO (My.top 61) (S "followed") (S "followed") 0 .none .none .none .none none .none .none 0, (List.toArray [])⟩
def o_513 (P : Params) : Obj := ⟨(.type "code"), none, .fields (List.toArray [(.str (S "followed") 1005), (.str (S "followed") 1006), (.str (S "/claim/cut.py") 1007), (.int 275 0), (.int 1 0), (.int 0 0), (.int 0 0), (.int 3 0), (.ref 508), (.bool true), (.int 181 0), (.ref 509), .none, (.ref 510), (.ref 511), (.ref 512), (.int 1014 0), (.int 275 0), (.str (S "/claim/cut.py") 1015)]), (List.toArray [])⟩
def o_514 (P : Params) : Obj := ⟨(.type "function"), none, fnO (My.top 61) (S "followed") (S "followed") 3 .none .none .none (.str (S "leanscript.parsing") 917) none (.ref 513) .none 0, (List.toArray [])⟩
def o_515 (P : Params) : Obj := ⟨(.type "tuple"), none, .seq (List.toArray []) 0, (List.toArray [])⟩
def o_516 (P : Params) : Obj := ⟨.none, none, .fields (List.toArray []), (List.toArray [])⟩
def o_517 (P : Params) : Obj := ⟨(.type "tuple"), none, .seq (List.toArray [(.str (S "source") 1020), (.str (S "ahead") 1021), (.str (S "node") 1022), (.str (S "sign") 1023), (.str (S "begin") 1024), (.str (S "word") 1025)]) 0, (List.toArray [])⟩
def o_518 (P : Params) : Obj := ⟨(.type "tuple"), none, .seq (List.toArray []) 0, (List.toArray [])⟩
def o_519 (P : Params) : Obj := ⟨.none, none, fnO (My.top 62) (S "operand") (S "operand") 0 .none .none .none .none none .none .none 0, (List.toArray [])⟩
def o_520 (P : Params) : Obj := ⟨(.type "code"), none, .fields (List.toArray [(.str (S "operand") 1017), (.str (S "operand") 1018), (.str (S "/claim/cut.py") 1019), (.int 288 0), (.int 1 0), (.int 0 0), (.int 0 0), (.int 3 0), (.ref 515), (.bool true), (.int 181 0), (.ref 516), .none, (.ref 517), (.ref 518), (.ref 519), (.int 1026 0), (.int 288 0), (.str (S "/claim/cut.py") 1027)]), (List.toArray [])⟩
def o_521 (P : Params) : Obj := ⟨(.type "function"), none, fnO (My.top 62) (S "operand") (S "operand") 3 .none .none .none (.str (S "leanscript.parsing") 917) none (.ref 520) .none 0, (List.toArray [])⟩
def o_522 (P : Params) : Obj := ⟨(.type "tuple"), none, .seq (List.toArray []) 0, (List.toArray [])⟩
def o_523 (P : Params) : Obj := ⟨.none, none, .fields (List.toArray []), (List.toArray [])⟩
def o_524 (P : Params) : Obj := ⟨(.type "tuple"), none, .seq (List.toArray [(.str (S "sign") 1032), (.str (S "left") 1033), (.str (S "right") 1034), (.str (S "one") 1035), (.str (S "begin") 1036), (.str (S "_") 1037), (.str (S "other") 1038), (.str (S "end") 1039), (.str (S "word") 1040), (.str (S "node") 1041)]) 0, (List.toArray [])⟩
def o_525 (P : Params) : Obj := ⟨(.type "tuple"), none, .seq (List.toArray []) 0, (List.toArray [])⟩
def o_526 (P : Params) : Obj := ⟨.none, none, fnO (My.top 63) (S "joined") (S "joined") 0 .none .none .none .none none .none .none 0, (List.toArray [])⟩
def o_527 (P : Params) : Obj := ⟨(.type "code"), none, .fields (List.toArray [(.str (S "joined") 1029), (.str (S "joined") 1030), (.str (S "/claim/cut.py") 1031), (.int 298 0), (.int 3 0), (.int 0 0), (.int 0 0), (.int 3 0), (.ref 522), (.bool true), (.int 181 0), (.ref 523), .none, (.ref 524), (.ref 525), (.ref 526), (.int 1042 0), (.int 298 0), (.str (S "/claim/cut.py") 1043)]), (List.toArray [])⟩
def o_528 (P : Params) : Obj := ⟨(.type "function"), none, fnO (My.top 63) (S "joined") (S "joined") 3 .none .none .none (.str (S "leanscript.parsing") 917) none (.ref 527) .none 0, (List.toArray [])⟩
def o_529 (P : Params) : Obj := ⟨(.type "tuple"), none, .seq (List.toArray []) 0, (List.toArray [])⟩
def o_530 (P : Params) : Obj := ⟨.none, none, .fields (List.toArray []), (List.toArray [])⟩
def o_531 (P : Params) : Obj := ⟨(.type "tuple"), none, .seq (List.toArray [(.str (S "level") 1048), (.str (S "sides") 1049), (.str (S "signs") 1050), (.str (S "right") 1051), (.str (S "left") 1052)]) 0, (List.toArray [])⟩
def o_532 (P : Params) : Obj := ⟨(.type "tuple"), none, .seq (List.toArray []) 0, (List.toArray [])⟩
def o_533 (P : Params) : Obj := ⟨.none, none, fnO (My.top 64) (S "join_down_to") (S "join_down_to") 0 .none .none .none .none none .none .none 0, (List.toArray [])⟩
def o_534 (P : Params) : Obj := ⟨(.type "code"), none, .fields (List.toArray [(.str (S "join_down_to") 1045), (.str (S "join_down_to") 1046), (.str (S "/claim/cut.py") 1047), (.int 307 0), (.int 3 0), (.int 0 0), (.int 0 0), (.int 3 0), (.ref 529), (.bool true), (.int 181 0), (.ref 530), .none, (.ref 531), (.ref 532), (.ref 533), (.int 1053 0), (.int 307 0), (.str (S "/claim/cut.py") 1054)]), (List.toArray [])⟩
def o_535 (P : Params) : Obj := ⟨(.type "function"), none, fnO (My.top 64) (S "join_down_to") (S "join_down_to") 3 .none .none .none (.str (S "leanscript.parsing") 917) none (.ref 534) .none 0, (List.toArray [])⟩
def o_536 (P : Params) : Obj := ⟨(.type "tuple"), none, .seq (List.toArray []) 0, (List.toArray [])⟩
def o_537 (P : Params) : Obj := ⟨.none, none, .fields (List.toArray []), (List.toArray [])⟩
def o_538 (P : Params) : Obj := ⟨(.type "tuple"), none, .seq (List.toArray [(.str (S "source") 1059), (.str (S "begin") 1060), (.str (S "node") 1061)]) 0, (List.toArray [])⟩
def o_539 (P : Params) : Obj := ⟨(.type "tuple"), none, .seq (List.toArray []) 0, (List.toArray [])⟩
def o_540 (P : Params) : Obj := ⟨.none, none, fnO (My.top 65) (S "side") (S "side") 0 .none .none .none .none none .none .none 0, (List.toArray [])⟩
def o_541 (P : Params) : Obj := ⟨(.type "code"), none, .fields (List.toArray [(.str (S "side") 1056), (.str (S "side") 1057), (.str (S "/claim/cut.py") 1058), (.int 312 0), (.int 1 0), (.int 0 0), (.int 0 0), (.int 3 0), (.ref 536), (.bool true), (.int 181 0), (.ref 537), .none, (.ref 538), (.ref 539), (.ref 540), (.int 1062 0), (.int 312 0), (.str (S "/claim/cut.py") 1063)]), (List.toArray [])⟩
def o_542 (P : Params) : Obj := ⟨(.type "function"), none, fnO (My.top 65) (S "side") (S "side") 3 .none .none .none (.str (S "leanscript.parsing") 917) none (.ref 541) .none 0, (List.toArray [])⟩
def o_543 (P : Params) : Obj := ⟨(.type "tuple"), none, .seq (List.toArray []) 0, (List.toArray [])⟩
def o_544 (P : Params) : Obj := ⟨.none, none, .fields (List.toArray []), (List.toArray [])⟩
def o_545 (P : Params) : Obj := ⟨(.type "tuple"), none, .seq (List.toArray [(.str (S "source") 1068), (.str (S "sides") 1069), (.str (S "signs") 1070), (.str (S "sign") 1071)]) 0, (List.toArray [])⟩
def o_546 (P : Params) : Obj := ⟨(.type "tuple"), none, .seq (List.toArray []) 0, (List.toArray [])⟩
def o_547 (P : Params) : Obj := ⟨.none, none, fnO (My.top 66) (S "two_sided") (S "two_sided") 0 .none .none .none .none none .none .none 0, (List.toArray [])⟩
def o_548 (P : Params) : Obj := ⟨(.type "code"), none, .fields (List.toArray [(.str (S "two_sided") 1065), (.str (S "two_sided") 1066), (.str (S "/claim/cut.py") 1067), (.int 316 0), (.int 1 0), (.int 0 0), (.int 0 0), (.int 3 0), (.ref 543), (.bool true), (.int 181 0), (.ref 544), .none, (.ref 545), (.ref 546), (.ref 547), (.int 1072 0), (.int 316 0), (.str (S "/claim/cut.py") 1073)]), (List.toArray [])⟩
def o_549 (P : Params) : Obj := ⟨(.type "function"), none, fnO (My.top 66) (S "two_sided") (S "two_sided") 3 .none .none .none (.str (S "leanscript.parsing") 917) none (.ref 548) .none 0, (List.toArray [])⟩
def o_550 (P : Params) : Obj := ⟨(.type "tuple"), none, .seq (List.toArray []) 0, (List.toArray [])⟩
def o_551 (P : Params) : Obj := ⟨.none, none, .fields (List.toArray []), (List.toArray [])⟩
def o_552 (P : Params) : Obj := ⟨(.type "tuple"), none, .seq (List.toArray [(.str (S "source") 1078), (.str (S "begin") 1079), (.str (S "test") 1080), (.str (S "one") 1081), (.str (S "other") 1082), (.str (S "thing") 1083)]) 0, (List.toArray [])⟩
def o_553 (P : Params) : Obj := ⟨(.type "tuple"), none, .seq (List.toArray []) 0, (List.toArray [])⟩
def o_554 (P : Params) : Obj := ⟨.none, none, fnO (My.top 67) (S "expression") (S "expression") 0 .none .none .none .none none .none .none 0, (List.toArray [])⟩
def o_555 (P : Params) : Obj := ⟨(.type "code"), none, .fields (List.toArray [(.str (S "expression") 1075), (.str (S "expression") 1076), (.str (S "/claim/cut.py") 1077), (.int 327 0), (.int 1 0), (.int 0 0), (.int 0 0), (.int 3 0), (.ref 550), (.bool true), (.int 181 0), (.ref 551), .none, (.ref 552), (.ref 553), (.ref 554), (.int 1084 0), (.int 327 0), (.str (S "/claim/cut.py") 1085)]), (List.toArray [])⟩
def o_556 (P : Params) : Obj := ⟨(.type "function"), none, fnO (My.top 67) (S "expression") (S "expression") 3 .none .none .none (.str (S "leanscript.parsing") 917) none (.ref 555) .none 0, (List.toArray [])⟩
def o_557 (P : Params) : Obj := ⟨(.type "tuple"), none, .seq (List.toArray []) 0, (List.toArray [])⟩
def o_558 (P : Params) : Obj := ⟨.none, none, .fields (List.toArray []), (List.toArray [])⟩
def o_559 (P : Params) : Obj := ⟨(.type "tuple"), none, .seq (List.toArray [(.str (S "source") 1090), (.str (S "nodes") 1091)]) 0, (List.toArray [])⟩
def o_560 (P : Params) : Obj := ⟨(.type "tuple"), none, .seq (List.toArray []) 0, (List.toArray [])⟩
def o_561 (P : Params) : Obj := ⟨.none, none, fnO (My.top 68) (S "in_braces") (S "in_braces") 0 .none .none .none .none none .none .none 0, (List.toArray [])⟩
def o_562 (P : Params) : Obj := ⟨(.type "code"), none, .fields (List.toArray [(.str (S "in_braces") 1087), (.str (S "in_braces") 1088), (.str (S "/claim/cut.py") 1089), (.int 339 0), (.int 1 0), (.int 0 0), (.int 0 0), (.int 3 0), (.ref 557), (.bool true), (.int 181 0), (.ref 558), .none, (.ref 559), (.ref 560), (.ref 561), (.int 1092 0), (.int 339 0), (.str (S "/claim/cut.py") 1093)]), (List.toArray [])⟩
def o_563 (P : Params) : Obj := ⟨(.type "function"), none, fnO (My.top 68) (S "in_braces") (S "in_braces") 3 .none .none .none (.str (S "leanscript.parsing") 917) none (.ref 562) .none 0, (List.toArray [])⟩
def o_564 (P : Params) : Obj := ⟨(.type "tuple"), none, .seq (List.toArray []) 0, (List.toArray [])⟩
def o_565 (P : Params) : Obj := ⟨.none, none, .fields (List.toArray []), (List.toArray [])⟩
def o_566 (P : Params) : Obj := ⟨(.type "tuple"), none, .seq (List.toArray [(.str (S "source") 1098), (.str (S "node") 1099)]) 0, (List.toArray [])⟩
def o_567 (P : Params) : Obj := ⟨(.type "tuple"), none, .seq (List.toArray []) 0, (List.toArray [])⟩
def o_568 (P : Params) : Obj := ⟨.none, none, fnO (My.top 69) (S "in_brackets") (S "in_brackets") 0 .none .none .none .none none .none .none 0, (List.toArray [])⟩
def o_569 (P : Params) : Obj := ⟨(.type "code"), none, .fields (List.toArray [(.str (S "in_brackets") 1095), (.str (S "in_brackets") 1096), (.str (S "/claim/cut.py") 1097), (.int 345 0), (.int 1 0), (.int 0 0), (.int 0 0), (.int 3 0), (.ref 564), (.bool true), (.int 181 0), (.ref 565), .none, (.ref 566), (.ref 567), (.ref 568), (.int 1100 0), (.int 345 0), (.str (S "/claim/cut.py") 1101)]), (List.toArray [])⟩
def o_570 (P : Params) : Obj := ⟨(.type "function"), none, fnO (My.top 69) (S "in_brackets") (S "in_brackets") 3 .none .none .none (.str (S "leanscript.parsing") 917) none (.ref 569) .none 0, (List.toArray [])⟩
def o_571 (P : Params) : Obj := ⟨(.type "tuple"), none, .seq (List.toArray []) 0, (List.toArray [])⟩
def o_572 (P : Params) : Obj := ⟨.none, none, .fields (List.toArray []), (List.toArray [])⟩
def o_573 (P : Params) : Obj := ⟨(.type "tuple"), none, .seq (List.toArray [(.str (S "source") 1106), (.str (S "node") 1107)]) 0, (List.toArray [])⟩
def o_574 (P : Params) : Obj := ⟨(.type "tuple"), none, .seq (List.toArray []) 0, (List.toArray [])⟩
def o_575 (P : Params) : Obj := ⟨.none, none, fnO (My.top 70) (S "ended") (S "ended") 0 .none .none .none .none none .none .none 0, (List.toArray [])⟩
def o_576 (P : Params) : Obj := ⟨(.type "code"), none, .fields (List.toArray [(.str (S "ended") 1103), (.str (S "ended") 1104), (.str (S "/claim/cut.py") 1105), (.int 350 0), (.int 2 0), (.int 0 0), (.int 0 0), (.int 3 0), (.ref 571), (.bool true), (.int 181 0), (.ref 572), .none, (.ref 573), (.ref 574), (.ref 575), (.int 1108 0), (.int 350 0), (.str (S "/claim/cut.py") 1109)]), (List.toArray [])⟩
def o_577 (P : Params) : Obj := ⟨(.type "function"), none, fnO (My.top 70) (S "ended") (S "ended") 3 .none .none .none (.str (S "leanscript.parsing") 917) none (.ref 576) .none 0, (List.toArray [])⟩
def o_578 (P : Params) : Obj := ⟨(.type "tuple"), none, .seq (List.toArray []) 0, (List.toArray [])⟩
def o_579 (P : Params) : Obj := ⟨.none, none, .fields (List.toArray []), (List.toArray [])⟩
def o_580 (P : Params) : Obj := ⟨(.type "tuple"), none, .seq (List.toArray [(.str (S "source") 1114), (.str (S "begin") 1115), (.str (S "pairs") 1116)]) 0, (List.toArray [])⟩
def o_581 (P : Params) : Obj := ⟨(.type "tuple"), none, .seq (List.toArray []) 0, (List.toArray [])⟩
def o_582 (P : Params) : Obj := ⟨.none, none, fnO (My.top 71) (S "letting") (S "letting") 0 .none .none .none .none none .none .none 0, (List.toArray [])⟩
def o_583 (P : Params) : Obj := ⟨(.type "code"), none, .fields (List.toArray [(.str (S "letting") 1111), (.str (S "letting") 1112), (.str (S "/claim/cut.py") 1113), (.int 354 0), (.int 1 0), (.int 0 0), (.int 0 0), (.int 3 0), (.ref 578), (.bool true), (.int 181 0), (.ref 579), .none, (.ref 580), (.ref 581), (.ref 582), (.int 1117 0), (.int 354 0), (.str (S "/claim/cut.py") 1118)]), (List.toArray [])⟩
def o_584 (P : Params) : Obj := ⟨(.type "function"), none, fnO (My.top 71) (S "letting") (S "letting") 3 .none .none .none (.str (S "leanscript.parsing") 917) none (.ref 583) .none 0, (List.toArray [])⟩
def o_585 (P : Params) : Obj := ⟨(.type "tuple"), none, .seq (List.toArray []) 0, (List.toArray [])⟩
def o_586 (P : Params) : Obj := ⟨.none, none, .fields (List.toArray []), (List.toArray [])⟩
def o_587 (P : Params) : Obj := ⟨(.type "tuple"), none, .seq (List.toArray [(.str (S "source") 1123), (.str (S "word") 1124), (.str (S "begin") 1125), (.str (S "node") 1126)]) 0, (List.toArray [])⟩
def o_588 (P : Params) : Obj := ⟨(.type "tuple"), none, .seq (List.toArray []) 0, (List.toArray [])⟩
def o_589 (P : Params) : Obj := ⟨.none, none, fnO (My.top 72) (S "with_word") (S "with_word") 0 .none .none .none .none none .none .none 0, (List.toArray [])⟩
def o_590 (P : Params) : Obj := ⟨(.type "code"), none, .fields (List.toArray [(.str (S "with_word") 1120), (.str (S "with_word") 1121), (.str (S "/claim/cut.py") 1122), (.int 361 0), (.int 2 0), (.int 0 0), (.int 0 0), (.int 3 0), (.ref 585), (.bool true), (.int 181 0), (.ref 586), .none, (.ref 587), (.ref 588), (.ref 589), (.int 1127 0), (.int 361 0), (.str (S "/claim/cut.py") 1128)]), (List.toArray [])⟩
def o_591 (P : Params) : Obj := ⟨(.type "function"), none, fnO (My.top 72) (S "with_word") (S "with_word") 3 .none .none .none (.str (S "leanscript.parsing") 917) none (.ref 590) .none 0, (List.toArray [])⟩
def o_592 (P : Params) : Obj := ⟨(.type "tuple"), none, .seq (List.toArray []) 0, (List.toArray [])⟩
def o_593 (P : Params) : Obj := ⟨.none, none, .fields (List.toArray []), (List.toArray [])⟩
def o_594 (P : Params) : Obj := ⟨(.type "tuple"), none, .seq (List.toArray [(.str (S "source") 1133), (.str (S "begin") 1134), (.str (S "node") 1135), (.str (S "settable") 1136), (.str (S "worth") 1137), (.str (S "x") 1138), (.str (S "_") 1139), (.str (S "of") 1140), (.str (S "k") 1141), (.str (S "thing") 1142)]) 0, (List.toArray [])⟩
def o_595 (P : Params) : Obj := ⟨(.type "tuple"), none, .seq (List.toArray []) 0, (List.toArray [])⟩
def o_596 (P : Params) : Obj := ⟨.none, none, fnO (My.top 73) (S "plain_statement") (S "plain_statement") 0 .none .none .none .none none .none .none 0, (List.toArray [])⟩
def o_597 (P : Params) : Obj := ⟨(.type "code"), none, .fields (List.toArray [(.str (S "plain_statement") 1130), (.str (S "plain_statement") 1131), (.str (S "/claim/cut.py") 1132), (.int 366 0), (.int 1 0), (.int 0 0), (.int 0 0), (.int 3 0), (.ref 592), (.bool true), (.int 181 0), (.ref 593), .none, (.ref 594), (.ref 595), (.ref 596), (.int 1143 0), (.int 366 0), (.str (S "/claim/cut.py") 1144)]), (List.toArray [])⟩
def o_598 (P : Params) : Obj := ⟨(.type "function"), none, fnO (My.top 73) (S "plain_statement") (S "plain_statement") 3 .none .none .none (.str (S "leanscript.parsing") 917) none (.ref 597) .none 0, (List.toArray [])⟩
def o_599 (P : Params) : Obj := ⟨(.type "tuple"), none, .seq (List.toArray []) 0, (List.toArray [])⟩
def o_600 (P : Params) : Obj := ⟨.none, none, .fields (List.toArray []), (List.toArray [])⟩
def o_601 (P : Params) : Obj := ⟨(.type "tuple"), none, .seq (List.toArray [(.str (S "source") 1149), (.str (S "begin") 1150), (.str (S "test") 1151), (.str (S "yes") 1152), (.str (S "no") 1153), (.str (S "thing") 1154)]) 0, (List.toArray [])⟩
def o_602 (P : Params) : Obj := ⟨(.type "tuple"), none, .seq (List.toArray []) 0, (List.toArray [])⟩
def o_603 (P : Params) : Obj := ⟨.none, none, fnO (My.top 74) (S "branching") (S "branching") 0 .none .none .none .none none .none .none 0, (List.toArray [])⟩
def o_604 (P : Params) : Obj := ⟨(.type "code"), none, .fields (List.toArray [(.str (S "branching") 1146), (.str (S "branching") 1147), (.str (S "/claim/cut.py") 1148), (.int 379 0), (.int 1 0), (.int 0 0), (.int 0 0), (.int 3 0), (.ref 599), (.bool true), (.int 181 0), (.ref 600), .none, (.ref 601), (.ref 602), (.ref 603), (.int 1155 0), (.int 379 0), (.str (S "/claim/cut.py") 1156)]), (List.toArray [])⟩
def o_605 (P : Params) : Obj := ⟨(.type "function"), none, fnO (My.top 74) (S "branching") (S "branching") 3 .none .none .none (.str (S "leanscript.parsing") 917) none (.ref 604) .none 0, (List.toArray [])⟩
def o_606 (P : Params) : Obj := ⟨(.type "tuple"), none, .seq (List.toArray []) 0, (List.toArray [])⟩
def o_607 (P : Params) : Obj := ⟨.none, none, .fields (List.toArray []), (List.toArray [])⟩
def o_608 (P : Params) : Obj := ⟨(.type "tuple"), none, .seq (List.toArray [(.str (S "source") 1161), (.str (S "begin") 1162), (.str (S "test") 1163), (.str (S "again") 1164)]) 0, (List.toArray [])⟩
def o_609 (P : Params) : Obj := ⟨(.type "tuple"), none, .seq (List.toArray []) 0, (List.toArray [])⟩
def o_610 (P : Params) : Obj := ⟨.none, none, fnO (My.top 75) (S "looping") (S "looping") 0 .none .none .none .none none .none .none 0, (List.toArray [])⟩
def o_611 (P : Params) : Obj := ⟨(.type "code"), none, .fields (List.toArray [(.str (S "looping") 1158), (.str (S "looping") 1159), (.str (S "/claim/cut.py") 1160), (.int 389 0), (.int 1 0), (.int 0 0), (.int 0 0), (.int 3 0), (.ref 606), (.bool true), (.int 181 0), (.ref 607), .none, (.ref 608), (.ref 609), (.ref 610), (.int 1165 0), (.int 389 0), (.str (S "/claim/cut.py") 1166)]), (List.toArray [])⟩
def o_612 (P : Params) : Obj := ⟨(.type "function"), none, fnO (My.top 75) (S "looping") (S "looping") 3 .none .none .none (.str (S "leanscript.parsing") 917) none (.ref 611) .none 0, (List.toArray [])⟩
def o_613 (P : Params) : Obj := ⟨(.type "tuple"), none, .seq (List.toArray []) 0, (List.toArray [])⟩
def o_614 (P : Params) : Obj := ⟨.none, none, .fields (List.toArray []), (List.toArray [])⟩
def o_615 (P : Params) : Obj := ⟨(.type "tuple"), none, .seq (List.toArray [(.str (S "source") 1171), (.str (S "begin") 1172), (.str (S "tried") 1173), (.str (S "x") 1174), (.str (S "caught") 1175), (.str (S "thing") 1176)]) 0, (List.toArray [])⟩
def o_616 (P : Params) : Obj := ⟨(.type "tuple"), none, .seq (List.toArray []) 0, (List.toArray [])⟩
def o_617 (P : Params) : Obj := ⟨.none, none, fnO (My.top 76) (S "trying") (S "trying") 0 .none .none .none .none none .none .none 0, (List.toArray [])⟩
def o_618 (P : Params) : Obj := ⟨(.type "code"), none, .fields (List.toArray [(.str (S "trying") 1168), (.str (S "trying") 1169), (.str (S "/claim/cut.py") 1170), (.int 395 0), (.int 1 0), (.int 0 0), (.int 0 0), (.int 3 0), (.ref 613), (.bool true), (.int 181 0), (.ref 614), .none, (.ref 615), (.ref 616), (.ref 617), (.int 1177 0), (.int 395 0), (.str (S "/claim/cut.py") 1178)]), (List.toArray [])⟩
def o_619 (P : Params) : Obj := ⟨(.type "function"), none, fnO (My.top 76) (S "trying") (S "trying") 3 .none .none .none (.str (S "leanscript.parsing") 917) none (.ref 618) .none 0, (List.toArray [])⟩
def o_620 (P : Params) : Obj := ⟨(.type "tuple"), none, .seq (List.toArray []) 0, (List.toArray [])⟩
def o_621 (P : Params) : Obj := ⟨.none, none, .fields (List.toArray []), (List.toArray [])⟩
def o_622 (P : Params) : Obj := ⟨(.type "tuple"), none, .seq (List.toArray [(.str (S "source") 1183), (.str (S "begin") 1184), (.str (S "nodes") 1185)]) 0, (List.toArray [])⟩
def o_623 (P : Params) : Obj := ⟨(.type "tuple"), none, .seq (List.toArray []) 0, (List.toArray [])⟩
def o_624 (P : Params) : Obj := ⟨.none, none, fnO (My.top 77) (S "block") (S "block") 0 .none .none .none .none none .none .none 0, (List.toArray [])⟩
def o_625 (P : Params) : Obj := ⟨(.type "code"), none, .fields (List.toArray [(.str (S "block") 1180), (.str (S "block") 1181), (.str (S "/claim/cut.py") 1182), (.int 406 0), (.int 1 0), (.int 0 0), (.int 0 0), (.int 3 0), (.ref 620), (.bool true), (.int 181 0), (.ref 621), .none, (.ref 622), (.ref 623), (.ref 624), (.int 1186 0), (.int 406 0), (.str (S "/claim/cut.py") 1187)]), (List.toArray [])⟩
def o_626 (P : Params) : Obj := ⟨(.type "function"), none, fnO (My.top 77) (S "block") (S "block") 3 .none .none .none (.str (S "leanscript.parsing") 917) none (.ref 625) .none 0, (List.toArray [])⟩
def o_627 (P : Params) : Obj := ⟨(.type "tuple"), none, .seq (List.toArray []) 0, (List.toArray [])⟩
def o_628 (P : Params) : Obj := ⟨.none, none, .fields (List.toArray []), (List.toArray [])⟩
def o_629 (P : Params) : Obj := ⟨(.type "tuple"), none, .seq (List.toArray [(.str (S "source") 1192), (.str (S "word") 1193)]) 0, (List.toArray [])⟩
def o_630 (P : Params) : Obj := ⟨(.type "tuple"), none, .seq (List.toArray []) 0, (List.toArray [])⟩
def o_631 (P : Params) : Obj := ⟨.none, none, fnO (My.top 78) (S "statement") (S "statement") 0 .none .none .none .none none .none .none 0, (List.toArray [])⟩
def o_632 (P : Params) : Obj := ⟨(.type "code"), none, .fields (List.toArray [(.str (S "statement") 1189), (.str (S "statement") 1190), (.str (S "/claim/cut.py") 1191), (.int 410 0), (.int 1 0), (.int 0 0), (.int 0 0), (.int 3 0), (.ref 627), (.bool true), (.int 181 0), (.ref 628), .none, (.ref 629), (.ref 630), (.ref 631), (.int 1194 0), (.int 410 0), (.str (S "/claim/cut.py") 1195)]), (List.toArray [])⟩
def o_633 (P : Params) : Obj := ⟨(.type "function"), none, fnO (My.top 78) (S "statement") (S "statement") 3 .none .none .none (.str (S "leanscript.parsing") 917) none (.ref 632) .none 0, (List.toArray [])⟩
def o_634 (P : Params) : Obj := ⟨(.type "tuple"), none, .seq (List.toArray []) 0, (List.toArray [])⟩
def o_635 (P : Params) : Obj := ⟨.none, none, .fields (List.toArray []), (List.toArray [])⟩
def o_636 (P : Params) : Obj := ⟨(.type "tuple"), none, .seq (List.toArray [(.str (S "text") 1200), (.str (S "source") 1201), (.str (S "nodes") 1202)]) 0, (List.toArray [])⟩
def o_637 (P : Params) : Obj := ⟨(.type "tuple"), none, .seq (List.toArray []) 0, (List.toArray [])⟩
def o_638 (P : Params) : Obj := ⟨.none, none, fnO (My.top 79) (S "parsed") (S "parsed") 0 .none .none .none .none none .none .none 0, (List.toArray [])⟩
def o_639 (P : Params) : Obj := ⟨(.type "code"), none, .fields (List.toArray [(.str (S "parsed") 1197), (.str (S "parsed") 1198), (.str (S "/claim/cut.py") 1199), (.int 425 0), (.int 1 0), (.int 0 0), (.int 0 0), (.int 3 0), (.ref 634), (.bool true), (.int 181 0), (.ref 635), .none, (.ref 636), (.ref 637), (.ref 638), (.int 1203 0), (.int 425 0), (.str (S "/claim/cut.py") 1204)]), (List.toArray [])⟩
def o_640 (P : Params) : Obj := ⟨(.type "function"), none, fnO (My.top 79) (S "parsed") (S "parsed") 3 .none .none .none (.str (S "leanscript.parsing") 917) none (.ref 639) .none 0, (List.toArray [])⟩
def o_641 (P : Params) : Obj := ⟨(.type "tuple"), none, .seq (List.toArray []) 0, (List.toArray [])⟩
def o_642 (P : Params) : Obj := ⟨.none, none, .fields (List.toArray []), (List.toArray [])⟩
def o_643 (P : Params) : Obj := ⟨(.type "tuple"), none, .seq (List.toArray [(.str (S "thing") 1211)]) 0, (List.toArray [])⟩
def o_644 (P : Params) : Obj := ⟨(.type "tuple"), none, .seq (List.toArray []) 0, (List.toArray [])⟩
def o_645 (P : Params) : Obj := ⟨.none, none, fnO (My.top 81) (S "is_whole") (S "is_whole") 0 .none .none .none .none none .none .none 0, (List.toArray [])⟩
def o_646 (P : Params) : Obj := ⟨(.type "code"), none, .fields (List.toArray [(.str (S "is_whole") 1208), (.str (S "is_whole") 1209), (.str (S "/claim/cut.py") 1210), (.int 432 0), (.int 1 0), (.int 0 0), (.int 0 0), (.int 3 0), (.ref 641), (.bool true), (.int 181 0), (.ref 642), .none, (.ref 643), (.ref 644), (.ref 645), (.int 1212 0), (.int 432 0), (.str (S "/claim/cut.py") 1213)]), (List.toArray [])⟩
def o_647 (P : Params) : Obj := ⟨(.type "function"), none, fnO (My.top 81) (S "is_whole") (S "is_whole") 3 .none .none .none (.str (S "leanscript.forms") 1206) none (.ref 646) .none 0, (List.toArray [])⟩
def o_648 (P : Params) : Obj := ⟨(.type "tuple"), none, .seq (List.toArray []) 0, (List.toArray [])⟩
def o_649 (P : Params) : Obj := ⟨.none, none, .fields (List.toArray []), (List.toArray [])⟩
def o_650 (P : Params) : Obj := ⟨(.type "tuple"), none, .seq (List.toArray [(.str (S "thing") 1218)]) 0, (List.toArray [])⟩
def o_651 (P : Params) : Obj := ⟨(.type "tuple"), none, .seq (List.toArray []) 0, (List.toArray [])⟩
def o_652 (P : Params) : Obj := ⟨.none, none, fnO (My.top 82) (S "is_number_in_tree") (S "is_number_in_tree") 0 .none .none .none .none none .none .none 0, (List.toArray [])⟩
def o_653 (P : Params) : Obj := ⟨(.type "code"), none, .fields (List.toArray [(.str (S "is_number_in_tree") 1215), (.str (S "is_number_in_tree") 1216), (.str (S "/claim/cut.py") 1217), (.int 434 0), (.int 1 0), (.int 0 0), (.int 0 0), (.int 3 0), (.ref 648), (.bool true), (.int 181 0), (.ref 649), .none, (.ref 650), (.ref 651), (.ref 652), (.int 1219 0), (.int 434 0), (.str (S "/claim/cut.py") 1220)]), (List.toArray [])⟩
def o_654 (P : Params) : Obj := ⟨(.type "function"), none, fnO (My.top 82) (S "is_number_in_tree") (S "is_number_in_tree") 3 .none .none .none (.str (S "leanscript.forms") 1206) none (.ref 653) .none 0, (List.toArray [])⟩
def o_655 (P : Params) : Obj := ⟨(.type "tuple"), none, .seq (List.toArray []) 0, (List.toArray [])⟩
def o_656 (P : Params) : Obj := ⟨.none, none, .fields (List.toArray []), (List.toArray [])⟩
def o_657 (P : Params) : Obj := ⟨(.type "tuple"), none, .seq (List.toArray [(.str (S "thing") 1225), (.str (S "starts") 1226)]) 0, (List.toArray [])⟩
def o_658 (P : Params) : Obj := ⟨(.type "tuple"), none, .seq (List.toArray []) 0, (List.toArray [])⟩
def o_659 (P : Params) : Obj := ⟨.none, none, fnO (My.top 83) (S "is_part") (S "is_part") 0 .none .none .none .none none .none .none 0, (List.toArray [])⟩
def o_660 (P : Params) : Obj := ⟨(.type "code"), none, .fields (List.toArray [(.str (S "is_part") 1222), (.str (S "is_part") 1223), (.str (S "/claim/cut.py") 1224), (.int 436 0), (.int 2 0), (.int 0 0), (.int 0 0), (.int 3 0), (.ref 655), (.bool true), (.int 181 0), (.ref 656), .none, (.ref 657), (.ref 658), (.ref 659), (.int 1227 0), (.int 436 0), (.str (S "/claim/cut.py") 1228)]), (List.toArray [])⟩
def o_661 (P : Params) : Obj := ⟨(.type "function"), none, fnO (My.top 83) (S "is_part") (S "is_part") 3 .none .none .none (.str (S "leanscript.forms") 1206) none (.ref 660) .none 0, (List.toArray [])⟩
def o_662 (P : Params) : Obj := ⟨(.type "tuple"), none, .seq (List.toArray []) 0, (List.toArray [])⟩
def o_663 (P : Params) : Obj := ⟨.none, none, .fields (List.toArray []), (List.toArray [])⟩
def o_664 (P : Params) : Obj := ⟨(.type "tuple"), none, .seq (List.toArray [(.str (S "kind") 1233), (.str (S "thing") 1234)]) 0, (List.toArray [])⟩
def o_665 (P : Params) : Obj := ⟨(.type "tuple"), none, .seq (List.toArray []) 0, (List.toArray [])⟩
def o_666 (P : Params) : Obj := ⟨.none, none, fnO (My.top 84) (S "is_of_kind") (S "is_of_kind") 0 .none .none .none .none none .none .none 0, (List.toArray [])⟩
def o_667 (P : Params) : Obj := ⟨(.type "code"), none, .fields (List.toArray [(.str (S "is_of_kind") 1230), (.str (S "is_of_kind") 1231), (.str (S "/claim/cut.py") 1232), (.int 440 0), (.int 2 0), (.int 0 0), (.int 0 0), (.int 3 0), (.ref 662), (.bool true), (.int 181 0), (.ref 663), .none, (.ref 664), (.ref 665), (.ref 666), (.int 1235 0), (.int 440 0), (.str (S "/claim/cut.py") 1236)]), (List.toArray [])⟩
def o_668 (P : Params) : Obj := ⟨(.type "function"), none, fnO (My.top 84) (S "is_of_kind") (S "is_of_kind") 3 .none .none .none (.str (S "leanscript.forms") 1206) none (.ref 667) .none 0, (List.toArray [])⟩
def o_669 (P : Params) : Obj := ⟨(.type "tuple"), none, .seq (List.toArray []) 0, (List.toArray [])⟩
def o_670 (P : Params) : Obj := ⟨.none, none, .fields (List.toArray []), (List.toArray [])⟩
def o_671 (P : Params) : Obj := ⟨(.type "tuple"), none, .seq (List.toArray [(.str (S "kind") 1241), (.str (S "thing") 1242)]) 0, (List.toArray [])⟩
def o_672 (P : Params) : Obj := ⟨(.type "tuple"), none, .seq (List.toArray []) 0, (List.toArray [])⟩
def o_673 (P : Params) : Obj := ⟨.none, none, fnO (My.top 85) (S "fault_of") (S "fault_of") 0 .none .none .none .none none .none .none 0, (List.toArray [])⟩
def o_674 (P : Params) : Obj := ⟨(.type "code"), none, .fields (List.toArray [(.str (S "fault_of") 1238), (.str (S "fault_of") 1239), (.str (S "/claim/cut.py") 1240), (.int 452 0), (.int 2 0), (.int 0 0), (.int 0 0), (.int 3 0), (.ref 669), (.bool true), (.int 181 0), (.ref 670), .none, (.ref 671), (.ref 672), (.ref 673), (.int 1243 0), (.int 452 0), (.str (S "/claim/cut.py") 1244)]), (List.toArray [])⟩
def o_675 (P : Params) : Obj := ⟨(.type "function"), none, fnO (My.top 85) (S "fault_of") (S "fault_of") 3 .none .none .none (.str (S "leanscript.forms") 1206) none (.ref 674) .none 0, (List.toArray [])⟩
def o_676 (P : Params) : Obj := ⟨(.type "tuple"), none, .seq (List.toArray []) 0, (List.toArray [])⟩
def o_677 (P : Params) : Obj := ⟨.none, none, .fields (List.toArray []), (List.toArray [])⟩
def o_678 (P : Params) : Obj := ⟨(.type "tuple"), none, .seq (List.toArray [(.str (S "xs") 1249), (.str (S "known") 1250), (.str (S "kinds") 1251), (.str (S "x") 1252)]) 0, (List.toArray [])⟩
def o_679 (P : Params) : Obj := ⟨(.type "tuple"), none, .seq (List.toArray []) 0, (List.toArray [])⟩
def o_680 (P : Params) : Obj := ⟨.none, none, fnO (My.top 86) (S "kinds_of_names") (S "kinds_of_names") 0 .none .none .none .none none .none .none 0, (List.toArray [])⟩
def o_681 (P : Params) : Obj := ⟨(.type "code"), none, .fields (List.toArray [(.str (S "kinds_of_names") 1246), (.str (S "kinds_of_names") 1247), (.str (S "/claim/cut.py") 1248), (.int 462 0), (.int 1 0), (.int 0 0), (.int 0 0), (.int 3 0), (.ref 676), (.bool true), (.int 181 0), (.ref 677), .none, (.ref 678), (.ref 679), (.ref 680), (.int 1253 0), (.int 462 0), (.str (S "/claim/cut.py") 1254)]), (List.toArray [])⟩
def o_682 (P : Params) : Obj := ⟨(.type "function"), none, fnO (My.top 86) (S "kinds_of_names") (S "kinds_of_names") 3 .none .none .none (.str (S "leanscript.forms") 1206) none (.ref 681) .none 0, (List.toArray [])⟩
def o_683 (P : Params) : Obj := ⟨(.type "tuple"), none, .seq (List.toArray []) 0, (List.toArray [])⟩
def o_684 (P : Params) : Obj := ⟨.none, none, .fields (List.toArray []), (List.toArray [])⟩
def o_685 (P : Params) : Obj := ⟨.none, none, fnO (My.top 87) (S "kinds_of_fields") (S "kinds_of_fields") 0 .none .none .none .none none .none .none 0, (List.toArray [])⟩
def o_686 (P : Params) : Obj := ⟨(.type "code"), none, .fields (List.toArray [(.str (S "kinds_of_fields") 1256), (.str (S "kinds_of_fields") 1257), (.str (S "/claim/cut.py") 1258), (.int 470 0), (.int 1 0), (.int 0 0), (.int 0 0), (.int 3 0), (.ref 683), (.bool true), (.int 181 0), (.ref 684), .none, .none, .none, (.ref 685), (.int 1259 0), (.int 470 0), (.str (S "/claim/cut.py") 1260)]), (List.toArray [])⟩
def o_687 (P : Params) : Obj := ⟨(.type "function"), none, fnO (My.top 87) (S "kinds_of_fields") (S "kinds_of_fields") 3 .none .none .none (.str (S "leanscript.forms") 1206) none (.ref 686) .none 0, (List.toArray [])⟩
def o_688 (P : Params) : Obj := ⟨(.type "tuple"), none, .seq (List.toArray []) 0, (List.toArray [])⟩
def o_689 (P : Params) : Obj := ⟨.none, none, .fields (List.toArray []), (List.toArray [])⟩
def o_690 (P : Params) : Obj := ⟨.none, none, fnO (My.top 88) (S "kinds_within") (S "kinds_within") 0 .none .none .none .none none .none .none 0, (List.toArray [])⟩
def o_691 (P : Params) : Obj := ⟨(.type "code"), none, .fields (List.toArray [(.str (S "kinds_within") 1262), (.str (S "kinds_within") 1263), (.str (S "/claim/cut.py") 1264), (.int 473 0), (.int 2 0), (.int 0 0), (.int 0 0), (.int 3 0), (.ref 688), (.bool true), (.int 181 0), (.ref 689), .none, .none, .none, (.ref 690), (.int 1265 0), (.int 473 0), (.str (S "/claim/cut.py") 1266)]), (List.toArray [])⟩
def o_692 (P : Params) : Obj := ⟨(.type "function"), none, fnO (My.top 88) (S "kinds_within") (S "kinds_within") 3 .none .none .none (.str (S "leanscript.forms") 1206) none (.ref 691) .none 0, (List.toArray [])⟩
def o_693 (P : Params) : Obj := ⟨(.type "tuple"), none, .seq (List.toArray []) 0, (List.toArray [])⟩
def o_694 (P : Params) : Obj := ⟨.none, none, .fields (List.toArray []), (List.toArray [])⟩
def o_695 (P : Params) : Obj := ⟨(.type "tuple"), none, .seq (List.toArray [(.str (S "thing") 1271), (.str (S "waiting") 1272), (.str (S "path") 1273), (.str (S "kind") 1274), (.str (S "here") 1275), (.str (S "why") 1276), (.str (S "kinds") 1277), (.str (S "at") 1278)]) 0, (List.toArray [])⟩
def o_696 (P : Params) : Obj := ⟨(.type "tuple"), none, .seq (List.toArray []) 0, (List.toArray [])⟩
def o_697 (P : Params) : Obj := ⟨.none, none, fnO (My.top 89) (S "must_have_form") (S "must_have_form") 0 .none .none .none .none none .none .none 0, (List.toArray [])⟩
def o_698 (P : Params) : Obj := ⟨(.type "code"), none, .fields (List.toArray [(.str (S "must_have_form") 1268), (.str (S "must_have_form") 1269), (.str (S "/claim/cut.py") 1270), (.int 495 0), (.int 1 0), (.int 0 0), (.int 0 0), (.int 3 0), (.ref 693), (.bool true), (.int 181 0), (.ref 694), .none, (.ref 695), (.ref 696), (.ref 697), (.int 1279 0), (.int 495 0), (.str (S "/claim/cut.py") 1280)]), (List.toArray [])⟩
def o_699 (P : Params) : Obj := ⟨(.type "function"), none, fnO (My.top 89) (S "must_have_form") (S "must_have_form") 3 .none .none .none (.str (S "leanscript.forms") 1206) none (.ref 698) .none 0, (List.toArray [])⟩
def o_700 (P : Params) : Obj := ⟨(.type "tuple"), none, .seq (List.toArray []) 0, (List.toArray [])⟩
def o_701 (P : Params) : Obj := ⟨(.type "builtin_function_or_method"), none, .fields (List.toArray [(.builtin "type.__prepare__"), (.type "type")]), (List.toArray [])⟩
def o_702 (P : Params) : Obj := ⟨(.type "dict"), none, .dict (List.toArray [⟨(PyData.keyHash P (S "__module__")), (.str (S "__module__") 1291), (.str (S "leanscript.layout") 1282)⟩, ⟨(PyData.keyHash P (S "__qualname__")), (.str (S "__qualname__") 1293), (.str (S "Layout") 1292)⟩, ⟨(PyData.keyHash P (S "__firstlineno__")), (.str (S "__firstlineno__") 1295), (.int 507 1294)⟩, ⟨(PyData.keyHash P (S "__init__")), (.str (S "__init__") 1302), (.ref 713)⟩, ⟨(PyData.keyHash P (S "__static_attributes__")), (.str (S "__static_attributes__") 1306), (.ref 714)⟩]) 5, (List.toArray [])⟩
def o_703 (P : Params) : Obj := ⟨(.type "tuple"), none, .seq (List.toArray []) 0, (List.toArray [])⟩
def o_704 (P : Params) : Obj := ⟨.none, none, .fields (List.toArray [(.int 509 0), (.int 4 0), (.ref 712)]), (List.toArray [])⟩
def o_705 (P : Params) : Obj := ⟨(.type "code"), none, .fields (List.toArray [(.str (S "Layout") 1286), (.str (S "Layout") 1287), (.str (S "/claim/cut.py") 1288), (.int 507 0), (.int 0 0), (.int 0 0), (.int 0 0), (.int 0 0), (.ref 703), (.bool false), (.int 181 0), (.ref 704), .none, .none, .none, .none, (.int 1289 0), (.int 507 0), (.str (S "/claim/cut.py") 1290)]), (List.toArray [])⟩
def o_706 (P : Params) : Obj := ⟨(.type "frame"), none, .plain, (List.toArray [(some (.ref 705)), (some (.ref 3)), (some (.ref 702)), none, (some (.str (S "leanscript.layout") 1282)), none, (some (.ref 0))])⟩
def o_707 (P : Params) : Obj := ⟨(.type "tuple"), none, .seq (List.toArray []) 0, (List.toArray [])⟩
def o_708 (P : Params) : Obj := ⟨.none, none, .fields (List.toArray []), (List.toArray [])⟩
def o_709 (P : Params) : Obj := ⟨(.type "tuple"), none, .seq (List.toArray [(.str (S "self") 1299)]) 0, (List.toArray [])⟩
def o_710 (P : Params) : Obj := ⟨(.type "tuple"), none, .seq (List.toArray []) 0, (List.toArray [])⟩
def o_711 (P : Params) : Obj := ⟨.none, none, fnO (L2.inClass (My.top 91) 0) (S "__init__") (S "Layout.__init__") 0 .none .none .none .none none .none .none 0, (List.toArray [])⟩
def o_712 (P : Params) : Obj := ⟨(.type "code"), none, .fields (List.toArray [(.str (S "__init__") 1296), (.str (S "Layout.__init__") 1297), (.str (S "/claim/cut.py") 1298), (.int 509 0), (.int 1 0), (.int 0 0), (.int 0 0), (.int 3 0), (.ref 707), (.bool true), (.int 181 0), (.ref 708), .none, (.ref 709), (.ref 710), (.ref 711), (.int 1300 0), (.int 509 0), (.str (S "/claim/cut.py") 1301)]), (List.toArray [])⟩
def o_713 (P : Params) : Obj := ⟨(.type "function"), none, fnO (L2.inClass (My.top 91) 0) (S "__init__") (S "Layout.__init__") 3 .none .none .none (.str (S "leanscript.layout") 1282) none (.ref 712) .none 0, (List.toArray [])⟩
def o_714 (P : Params) : Obj := ⟨(.type "tuple"), none, .seq (List.toArray [(.str (S "names") 1303), (.str (S "parts") 1304), (.str (S "rooms") 1305)]) 0, (List.toArray [])⟩
def o_715 (P : Params) : Obj := ⟨(.type "dict"), none, .dict (List.toArray [⟨(PyData.keyHash P (S "__module__")), (.str (S "__module__") 1291), (.str (S "leanscript.layout") 1282)⟩, ⟨(PyData.keyHash P (S "__firstlineno__")), (.str (S "__firstlineno__") 1295), (.int 507 1294)⟩, ⟨(PyData.keyHash P (S "__init__")), (.str (S "__init__") 1302), (.ref 713)⟩, ⟨(PyData.keyHash P (S "__static_attributes__")), (.str (S "__static_attributes__") 1306), (.ref 714)⟩, ⟨(PyData.keyHash P (S "__dict__")), (.str (S "__dict__") 1308), (.ref 717)⟩, ⟨(PyData.keyHash P (S "__weakref__")), (.str (S "__weakref__") 1310), (.ref 718)⟩, ⟨(PyData.keyHash P (S "__doc__")), (.str (S "__doc__") 1311), .none⟩]) 4, (List.toArray [])⟩
def o_716 (P : Params) : Obj := ⟨(.type "type"), none, .cls ⟨(S "Layout"), [(.type "object")], [(.ref 716), (.type "object")], 715, (S "Layout"), true, [], [], false, none, false⟩, (List.toArray [none, none, (some (.str (S "Layout") 1284)), (some (.str (S "Layout") 1292)), (some (.builtin "object.__new__")), (some (.bool true))])⟩
def o_717 (P : Params) : Obj := ⟨(.type "getset_descriptor"), none, .fields (List.toArray [(.str (S "__dict__") 1307), (.ref 716), (.builtin "function.__dict__"), (.builtin "function.__dict__#set")]), (List.toArray [])⟩
def o_718 (P : Params) : Obj := ⟨(.type "getset_descriptor"), none, .fields (List.toArray [(.str (S "__weakref__") 1309), (.ref 716), (.builtin "ExceptionGroup.__weakref__"), .none]), (List.toArray [])⟩
def o_719 (P : Params) : Obj := ⟨(.type "super"), none, .fields (List.toArray [(.ref 716), (.ref 716), (.ref 716)]), (List.toArray [])⟩
def o_720 (P : Params) : Obj := ⟨(.type "builtin_function_or_method"), none, .fields (List.toArray [(.builtin "object.__init_subclass__"), (.ref 716)]), (List.toArray [])⟩
def o_721 (P : Params) : Obj := ⟨(.type "tuple"), none, .seq (List.toArray []) 0, (List.toArray [])⟩
def o_722 (P : Params) : Obj := ⟨.none, none, .fields (List.toArray []), (List.toArray [])⟩
def o_723 (P : Params) : Obj := ⟨.none, none, fnO (My.top 92) (S "rooms_made") (S "rooms_made") 0 .none .none .none .none none .none .none 0, (List.toArray [])⟩
def o_724 (P : Params) : Obj := ⟨(.type "code"), none, .fields (List.toArray [(.str (S "rooms_made") 1314), (.str (S "rooms_made") 1315), (.str (S "/claim/cut.py") 1316), (.int 513 0), (.int 1 0), (.int 0 0), (.int 0 0), (.int 3 0), (.ref 721), (.bool true), (.int 181 0), (.ref 722), .none, .none, .none, (.ref 723), (.int 1317 0), (.int 513 0), (.str (S "/claim/cut.py") 1318)]), (List.toArray [])⟩
def o_725 (P : Params) : Obj := ⟨(.type "function"), none, fnO (My.top 92) (S "rooms_made") (S "rooms_made") 3 .none .none .none (.str (S "leanscript.layout") 1282) none (.ref 724) .none 0, (List.toArray [])⟩
def o_726 (P : Params) : Obj := ⟨(.type "tuple"), none, .seq (List.toArray []) 0, (List.toArray [])⟩
def o_727 (P : Params) : Obj := ⟨.none, none, .fields (List.toArray []), (List.toArray [])⟩
def o_728 (P : Params) : Obj := ⟨(.type "tuple"), none, .seq (List.toArray [(.str (S "layout") 1323), (.str (S "path") 1324), (.str (S "part") 1325), (.str (S "room") 1326), (.str (S "inner") 1327), (.str (S "step") 1328), (.str (S "steps") 1329), (.str (S "in_fn") 1330)]) 0, (List.toArray [])⟩
def o_729 (P : Params) : Obj := ⟨(.type "tuple"), none, .seq (List.toArray []) 0, (List.toArray [])⟩
def o_730 (P : Params) : Obj := ⟨.none, none, fnO (My.top 93) (S "add_rooms") (S "add_rooms") 0 .none .none .none .none none .none .none 0, (List.toArray [])⟩
def o_731 (P : Params) : Obj := ⟨(.type "code"), none, .fields (List.toArray [(.str (S "add_rooms") 1320), (.str (S "add_rooms") 1321), (.str (S "/claim/cut.py") 1322), (.int 524 0), (.int 4 0), (.int 0 0), (.int 0 0), (.int 3 0), (.ref 726), (.bool true), (.int 181 0), (.ref 727), .none, (.ref 728), (.ref 729), (.ref 730), (.int 1331 0), (.int 524 0), (.str (S "/claim/cut.py") 1332)]), (List.toArray [])⟩
def o_732 (P : Params) : Obj := ⟨(.type "function"), none, fnO (My.top 93) (S "add_rooms") (S "add_rooms") 3 .none .none .none (.str (S "leanscript.layout") 1282) none (.ref 731) .none 0, (List.toArray [])⟩
def o_733 (P : Params) : Obj := ⟨(.type "tuple"), none, .seq (List.toArray []) 0, (List.toArray [])⟩
def o_734 (P : Params) : Obj := ⟨.none, none, .fields (List.toArray []), (List.toArray [])⟩
def o_735 (P : Params) : Obj := ⟨(.type "tuple"), none, .seq (List.toArray [(.str (S "layout") 1337), (.str (S "path") 1338), (.str (S "part") 1339), (.str (S "room") 1340), (.str (S "inner") 1341), (.str (S "at") 1342), (.str (S "pair") 1343), (.str (S "x") 1344)]) 0, (List.toArray [])⟩
def o_736 (P : Params) : Obj := ⟨(.type "tuple"), none, .seq (List.toArray []) 0, (List.toArray [])⟩
def o_737 (P : Params) : Obj := ⟨.none, none, fnO (My.top 94) (S "add_names") (S "add_names") 0 .none .none .none .none none .none .none 0, (List.toArray [])⟩
def o_738 (P : Params) : Obj := ⟨(.type "code"), none, .fields (List.toArray [(.str (S "add_names") 1334), (.str (S "add_names") 1335), (.str (S "/claim/cut.py") 1336), (.int 531 0), (.int 5 0), (.int 0 0), (.int 0 0), (.int 3 0), (.ref 733), (.bool true), (.int 181 0), (.ref 734), .none, (.ref 735), (.ref 736), (.ref 737), (.int 1345 0), (.int 531 0), (.str (S "/claim/cut.py") 1346)]), (List.toArray [])⟩
def o_739 (P : Params) : Obj := ⟨(.type "function"), none, fnO (My.top 94) (S "add_names") (S "add_names") 3 .none .none .none (.str (S "leanscript.layout") 1282) none (.ref 738) .none 0, (List.toArray [])⟩
def o_740 (P : Params) : Obj := ⟨(.type "tuple"), none, .seq (List.toArray []) 0, (List.toArray [])⟩
def o_741 (P : Params) : Obj := ⟨.none, none, .fields (List.toArray []), (List.toArray [])⟩
def o_742 (P : Params) : Obj := ⟨.none, none, fnO (My.top 95) (S "laid_out") (S "laid_out") 0 .none .none .none .none none .none .none 0, (List.toArray [])⟩
def o_743 (P : Params) : Obj := ⟨(.type "code"), none, .fields (List.toArray [(.str (S "laid_out") 1348), (.str (S "laid_out") 1349), (.str (S "/claim/cut.py") 1350), (.int 540 0), (.int 1 0), (.int 0 0), (.int 0 0), (.int 3 0), (.ref 740), (.bool true), (.int 181 0), (.ref 741), .none, .none, .none, (.ref 742), (.int 1351 0), (.int 540 0), (.str (S "/claim/cut.py") 1352)]), (List.toArray [])⟩
def o_744 (P : Params) : Obj := ⟨(.type "function"), none, fnO (My.top 95) (S "laid_out") (S "laid_out") 3 .none .none .none (.str (S "leanscript.layout") 1282) none (.ref 743) .none 0, (List.toArray [])⟩
def o_745 (P : Params) : Obj := ⟨(.type "tuple"), none, .seq (List.toArray []) 0, (List.toArray [])⟩
def o_746 (P : Params) : Obj := ⟨.none, none, .fields (List.toArray []), (List.toArray [])⟩
def o_747 (P : Params) : Obj := ⟨.none, none, fnO (My.top 96) (S "names_by_room") (S "names_by_room") 0 .none .none .none .none none .none .none 0, (List.toArray [])⟩
def o_748 (P : Params) : Obj := ⟨(.type "code"), none, .fields (List.toArray [(.str (S "names_by_room") 1354), (.str (S "names_by_room") 1355), (.str (S "/claim/cut.py") 1356), (.int 552 0), (.int 1 0), (.int 0 0), (.int 0 0), (.int 3 0), (.ref 745), (.bool true), (.int 181 0), (.ref 746), .none, .none, .none, (.ref 747), (.int 1357 0), (.int 552 0), (.str (S "/claim/cut.py") 1358)]), (List.toArray [])⟩
def o_749 (P : Params) : Obj := ⟨(.type "function"), none, fnO (My.top 96) (S "names_by_room") (S "names_by_room") 3 .none .none .none (.str (S "leanscript.layout") 1282) none (.ref 748) .none 0, (List.toArray [])⟩
def o_750 (P : Params) : Obj := ⟨(.type "tuple"), none, .seq (List.toArray []) 0, (List.toArray [])⟩
def o_751 (P : Params) : Obj := ⟨.none, none, .fields (List.toArray []), (List.toArray [])⟩
def o_752 (P : Params) : Obj := ⟨(.type "tuple"), none, .seq (List.toArray [(.str (S "layout") 1363), (.str (S "named") 1364), (.str (S "room") 1365), (.str (S "name") 1366)]) 0, (List.toArray [])⟩
def o_753 (P : Params) : Obj := ⟨(.type "tuple"), none, .seq (List.toArray []) 0, (List.toArray [])⟩
def o_754 (P : Params) : Obj := ⟨.none, none, fnO (My.top 97) (S "meaning") (S "meaning") 0 .none .none .none .none none .none .none 0, (List.toArray [])⟩
def o_755 (P : Params) : Obj := ⟨(.type "code"), none, .fields (List.toArray [(.str (S "meaning") 1360), (.str (S "meaning") 1361), (.str (S "/claim/cut.py") 1362), (.int 557 0), (.int 4 0), (.int 0 0), (.int 0 0), (.int 3 0), (.ref 750), (.bool true), (.int 181 0), (.ref 751), .none, (.ref 752), (.ref 753), (.ref 754), (.int 1367 0), (.int 557 0), (.str (S "/claim/cut.py") 1368)]), (List.toArray [])⟩
def o_756 (P : Params) : Obj := ⟨(.type "function"), none, fnO (My.top 97) (S "meaning") (S "meaning") 3 .none .none .none (.str (S "leanscript.layout") 1282) none (.ref 755) .none 0, (List.toArray [])⟩
def o_757 (P : Params) : Obj := ⟨(.type "tuple"), none, .seq (List.toArray []) 0, (List.toArray [])⟩
def o_758 (P : Params) : Obj := ⟨.none, none, .fields (List.toArray []), (List.toArray [])⟩
def o_759 (P : Params) : Obj := ⟨(.type "tuple"), none, .seq (List.toArray [(.str (S "layout") 1381), (.str (S "told") 1382), (.str (S "known") 1383), (.str (S "path") 1384), (.str (S "name") 1385), (.str (S "room") 1386)]) 0, (List.toArray [])⟩
def o_760 (P : Params) : Obj := ⟨(.type "tuple"), none, .seq (List.toArray []) 0, (List.toArray [])⟩
def o_761 (P : Params) : Obj := ⟨.none, none, fnO (My.top 102) (S "names_twice") (S "names_twice") 0 .none .none .none .none none .none .none 0, (List.toArray [])⟩
def o_762 (P : Params) : Obj := ⟨(.type "code"), none, .fields (List.toArray [(.str (S "names_twice") 1378), (.str (S "names_twice") 1379), (.str (S "/claim/cut.py") 1380), (.int 567 0), (.int 1 0), (.int 0 0), (.int 0 0), (.int 3 0), (.ref 757), (.bool true), (.int 181 0), (.ref 758), .none, (.ref 759), (.ref 760), (.ref 761), (.int 1387 0), (.int 567 0), (.str (S "/claim/cut.py") 1388)]), (List.toArray [])⟩
def o_763 (P : Params) : Obj := ⟨(.type "function"), none, fnO (My.top 102) (S "names_twice") (S "names_twice") 3 .none .none .none (.str (S "leanscript.trees") 1370) none (.ref 762) .none 0, (List.toArray [])⟩
def o_764 (P : Params) : Obj := ⟨(.type "tuple"), none, .seq (List.toArray []) 0, (List.toArray [])⟩
def o_765 (P : Params) : Obj := ⟨.none, none, .fields (List.toArray []), (List.toArray [])⟩
def o_766 (P : Params) : Obj := ⟨(.type "tuple"), none, .seq (List.toArray [(.str (S "statement") 1393)]) 0, (List.toArray [])⟩
def o_767 (P : Params) : Obj := ⟨(.type "tuple"), none, .seq (List.toArray []) 0, (List.toArray [])⟩
def o_768 (P : Params) : Obj := ⟨.none, none, fnO (My.top 103) (S "is_open_end") (S "is_open_end") 0 .none .none .none .none none .none .none 0, (List.toArray [])⟩
def o_769 (P : Params) : Obj := ⟨(.type "code"), none, .fields (List.toArray [(.str (S "is_open_end") 1390), (.str (S "is_open_end") 1391), (.str (S "/claim/cut.py") 1392), (.int 575 0), (.int 1 0), (.int 0 0), (.int 0 0), (.int 3 0), (.ref 764), (.bool true), (.int 181 0), (.ref 765), .none, (.ref 766), (.ref 767), (.ref 768), (.int 1394 0), (.int 575 0), (.str (S "/claim/cut.py") 1395)]), (List.toArray [])⟩
def o_770 (P : Params) : Obj := ⟨(.type "function"), none, fnO (My.top 103) (S "is_open_end") (S "is_open_end") 3 .none .none .none (.str (S "leanscript.trees") 1370) none (.ref 769) .none 0, (List.toArray [])⟩
def o_771 (P : Params) : Obj := ⟨(.type "tuple"), none, .seq (List.toArray []) 0, (List.toArray [])⟩
def o_772 (P : Params) : Obj := ⟨.none, none, .fields (List.toArray []), (List.toArray [])⟩
def o_773 (P : Params) : Obj := ⟨(.type "tuple"), none, .seq (List.toArray [(.str (S "layout") 1400), (.str (S "named") 1401), (.str (S "part") 1402), (.str (S "room") 1403)]) 0, (List.toArray [])⟩
def o_774 (P : Params) : Obj := ⟨(.type "tuple"), none, .seq (List.toArray []) 0, (List.toArray [])⟩
def o_775 (P : Params) : Obj := ⟨.none, none, fnO (My.top 104) (S "fault_in_place") (S "fault_in_place") 0 .none .none .none .none none .none .none 0, (List.toArray [])⟩
def o_776 (P : Params) : Obj := ⟨(.type "code"), none, .fields (List.toArray [(.str (S "fault_in_place") 1397), (.str (S "fault_in_place") 1398), (.str (S "/claim/cut.py") 1399), (.int 584 0), (.int 4 0), (.int 0 0), (.int 0 0), (.int 3 0), (.ref 771), (.bool true), (.int 181 0), (.ref 772), .none, (.ref 773), (.ref 774), (.ref 775), (.int 1404 0), (.int 584 0), (.str (S "/claim/cut.py") 1405)]), (List.toArray [])⟩
def o_777 (P : Params) : Obj := ⟨(.type "function"), none, fnO (My.top 104) (S "fault_in_place") (S "fault_in_place") 3 .none .none .none (.str (S "leanscript.trees") 1370) none (.ref 776) .none 0, (List.toArray [])⟩
def o_778 (P : Params) : Obj := ⟨(.type "tuple"), none, .seq (List.toArray []) 0, (List.toArray [])⟩
def o_779 (P : Params) : Obj := ⟨.none, none, .fields (List.toArray []), (List.toArray [])⟩
def o_780 (P : Params) : Obj := ⟨(.type "tuple"), none, .seq (List.toArray [(.str (S "layout") 1410), (.str (S "named") 1411), (.str (S "faults") 1412), (.str (S "path") 1413), (.str (S "part") 1414), (.str (S "_") 1415), (.str (S "room") 1416), (.str (S "why") 1417)]) 0, (List.toArray [])⟩
def o_781 (P : Params) : Obj := ⟨(.type "tuple"), none, .seq (List.toArray []) 0, (List.toArray [])⟩
def o_782 (P : Params) : Obj := ⟨.none, none, fnO (My.top 105) (S "must_fit") (S "must_fit") 0 .none .none .none .none none .none .none 0, (List.toArray [])⟩
def o_783 (P : Params) : Obj := ⟨(.type "code"), none, .fields (List.toArray [(.str (S "must_fit") 1407), (.str (S "must_fit") 1408), (.str (S "/claim/cut.py") 1409), (.int 592 0), (.int 1 0), (.int 0 0), (.int 0 0), (.int 3 0), (.ref 778), (.bool true), (.int 181 0), (.ref 779), .none, (.ref 780), (.ref 781), (.ref 782), (.int 1418 0), (.int 592 0), (.str (S "/claim/cut.py") 1419)]), (List.toArray [])⟩
def o_784 (P : Params) : Obj := ⟨(.type "function"), none, fnO (My.top 105) (S "must_fit") (S "must_fit") 3 .none .none .none (.str (S "leanscript.trees") 1370) none (.ref 783) .none 0, (List.toArray [])⟩
def o_785 (P : Params) : Obj := ⟨(.type "tuple"), none, .seq (List.toArray []) 0, (List.toArray [])⟩
def o_786 (P : Params) : Obj := ⟨.none, none, .fields (List.toArray []), (List.toArray [])⟩
def o_787 (P : Params) : Obj := ⟨.none, none, fnO (My.top 106) (S "is_great") (S "is_great") 0 .none .none .none .none none .none .none 0, (List.toArray [])⟩
def o_788 (P : Params) : Obj := ⟨(.type "code"), none, .fields (List.toArray [(.str (S "is_great") 1421), (.str (S "is_great") 1422), (.str (S "/claim/cut.py") 1423), (.int 602 0), (.int 1 0), (.int 0 0), (.int 0 0), (.int 3 0), (.ref 785), (.bool true), (.int 181 0), (.ref 786), .none, .none, .none, (.ref 787), (.int 1424 0), (.int 602 0), (.str (S "/claim/cut.py") 1425)]), (List.toArray [])⟩
def o_789 (P : Params) : Obj := ⟨(.type "function"), none, fnO (My.top 106) (S "is_great") (S "is_great") 3 .none .none .none (.str (S "leanscript.trees") 1370) none (.ref 788) .none 0, (List.toArray [])⟩
def o_790 (P : Params) : Obj := ⟨(.type "tuple"), none, .seq (List.toArray []) 0, (List.toArray [])⟩
def o_791 (P : Params) : Obj := ⟨.none, none, .fields (List.toArray []), (List.toArray [])⟩
def o_792 (P : Params) : Obj := ⟨(.type "tuple"), none, .seq (List.toArray [(.str (S "thing") 1430), (.str (S "layout") 1431)]) 0, (List.toArray [])⟩
def o_793 (P : Params) : Obj := ⟨(.type "tuple"), none, .seq (List.toArray []) 0, (List.toArray [])⟩
def o_794 (P : Params) : Obj := ⟨.none, none, fnO (My.top 107) (S "must_hold_together") (S "must_hold_together") 0 .none .none .none .none none .none .none 0, (List.toArray [])⟩
def o_795 (P : Params) : Obj := ⟨(.type "code"), none, .fields (List.toArray [(.str (S "must_hold_together") 1427), (.str (S "must_hold_together") 1428), (.str (S "/claim/cut.py") 1429), (.int 606 0), (.int 1 0), (.int 0 0), (.int 0 0), (.int 3 0), (.ref 790), (.bool true), (.int 181 0), (.ref 791), .none, (.ref 792), (.ref 793), (.ref 794), (.int 1432 0), (.int 606 0), (.str (S "/claim/cut.py") 1433)]), (List.toArray [])⟩
def o_796 (P : Params) : Obj := ⟨(.type "function"), none, fnO (My.top 107) (S "must_hold_together") (S "must_hold_together") 3 .none .none .none (.str (S "leanscript.trees") 1370) none (.ref 795) .none 0, (List.toArray [])⟩
def o_797 (P : Params) : Obj := ⟨(.type "tuple"), none, .seq (List.toArray []) 0, (List.toArray [])⟩
def o_798 (P : Params) : Obj := ⟨.none, none, .fields (List.toArray []), (List.toArray [])⟩
def o_799 (P : Params) : Obj := ⟨(.type "tuple"), none, .seq (List.toArray [(.str (S "thing") 1438)]) 0, (List.toArray [])⟩
def o_800 (P : Params) : Obj := ⟨(.type "tuple"), none, .seq (List.toArray []) 0, (List.toArray [])⟩
def o_801 (P : Params) : Obj := ⟨.none, none, fnO (My.top 108) (S "must_tree") (S "must_tree") 0 .none .none .none .none none .none .none 0, (List.toArray [])⟩
def o_802 (P : Params) : Obj := ⟨(.type "code"), none, .fields (List.toArray [(.str (S "must_tree") 1435), (.str (S "must_tree") 1436), (.str (S "/claim/cut.py") 1437), (.int 611 0), (.int 1 0), (.int 0 0), (.int 0 0), (.int 3 0), (.ref 797), (.bool true), (.int 181 0), (.ref 798), .none, (.ref 799), (.ref 800), (.ref 801), (.int 1439 0), (.int 611 0), (.str (S "/claim/cut.py") 1440)]), (List.toArray [])⟩
def o_803 (P : Params) : Obj := ⟨(.type "function"), none, fnO (My.top 108) (S "must_tree") (S "must_tree") 3 .none .none .none (.str (S "leanscript.trees") 1370) none (.ref 802) .none 0, (List.toArray [])⟩
def o_804 (P : Params) : Obj := ⟨(.type "tuple"), none, .seq (List.toArray []) 0, (List.toArray [])⟩
def o_805 (P : Params) : Obj := ⟨.none, none, .fields (List.toArray []), (List.toArray [])⟩
def o_806 (P : Params) : Obj := ⟨(.type "tuple"), none, .seq (List.toArray [(.str (S "thing") 1445)]) 0, (List.toArray [])⟩
def o_807 (P : Params) : Obj := ⟨(.type "tuple"), none, .seq (List.toArray []) 0, (List.toArray [])⟩
def o_808 (P : Params) : Obj := ⟨.none, none, fnO (My.top 109) (S "holds_together") (S "holds_together") 0 .none .none .none .none none .none .none 0, (List.toArray [])⟩
def o_809 (P : Params) : Obj := ⟨(.type "code"), none, .fields (List.toArray [(.str (S "holds_together") 1442), (.str (S "holds_together") 1443), (.str (S "/claim/cut.py") 1444), (.int 614 0), (.int 1 0), (.int 0 0), (.int 0 0), (.int 3 0), (.ref 804), (.bool true), (.int 181 0), (.ref 805), .none, (.ref 806), (.ref 807), (.ref 808), (.int 1446 0), (.int 614 0), (.str (S "/claim/cut.py") 1447)]), (List.toArray [])⟩
def o_810 (P : Params) : Obj := ⟨(.type "function"), none, fnO (My.top 109) (S "holds_together") (S "holds_together") 3 .none .none .none (.str (S "leanscript.trees") 1370) none (.ref 809) .none 0, (List.toArray [])⟩
def o_811 (P : Params) : Obj := ⟨(.type "tuple"), none, .seq (List.toArray []) 0, (List.toArray [])⟩
def o_812 (P : Params) : Obj := ⟨.none, none, .fields (List.toArray []), (List.toArray [])⟩
def o_813 (P : Params) : Obj := ⟨(.type "tuple"), none, .seq (List.toArray [(.str (S "text") 1454), (.str (S "node") 1455)]) 0, (List.toArray [])⟩
def o_814 (P : Params) : Obj := ⟨(.type "tuple"), none, .seq (List.toArray []) 0, (List.toArray [])⟩
def o_815 (P : Params) : Obj := ⟨.none, none, fnO (My.top 111) (S "read_node") (S "read_node") 0 .none .none .none .none none .none .none 0, (List.toArray [])⟩
def o_816 (P : Params) : Obj := ⟨(.type "code"), none, .fields (List.toArray [(.str (S "read_node") 1451), (.str (S "read_node") 1452), (.str (S "/claim/cut.py") 1453), (.int 621 0), (.int 1 0), (.int 0 0), (.int 0 0), (.int 3 0), (.ref 811), (.bool true), (.int 181 0), (.ref 812), .none, (.ref 813), (.ref 814), (.ref 815), (.int 1456 0), (.int 621 0), (.str (S "/claim/cut.py") 1457)]), (List.toArray [])⟩
def o_817 (P : Params) : Obj := ⟨(.type "function"), none, fnO (My.top 111) (S "read_node") (S "read_node") 3 .none .none .none (.str (S "leanscript.reading") 1449) none (.ref 816) .none 0, (List.toArray [])⟩
def o_818 (P : Params) : Obj := ⟨(.type "tuple"), none, .seq (List.toArray []) 0, (List.toArray [])⟩
def o_819 (P : Params) : Obj := ⟨.none, none, .fields (List.toArray []), (List.toArray [])⟩
def o_820 (P : Params) : Obj := ⟨(.type "tuple"), none, .seq (List.toArray [(.str (S "text") 1462)]) 0, (List.toArray [])⟩
def o_821 (P : Params) : Obj := ⟨(.type "tuple"), none, .seq (List.toArray []) 0, (List.toArray [])⟩
def o_822 (P : Params) : Obj := ⟨.none, none, fnO (My.top 112) (S "read") (S "read") 0 .none .none .none .none none .none .none 0, (List.toArray [])⟩
def o_823 (P : Params) : Obj := ⟨(.type "code"), none, .fields (List.toArray [(.str (S "read") 1459), (.str (S "read") 1460), (.str (S "/claim/cut.py") 1461), (.int 625 0), (.int 1 0), (.int 0 0), (.int 0 0), (.int 3 0), (.ref 818), (.bool true), (.int 181 0), (.ref 819), .none, (.ref 820), (.ref 821), (.ref 822), (.int 1463 0), (.int 625 0), (.str (S "/claim/cut.py") 1464)]), (List.toArray [])⟩
def o_824 (P : Params) : Obj := ⟨(.type "function"), none, fnO (My.top 112) (S "read") (S "read") 3 .none .none .none (.str (S "leanscript.reading") 1449) none (.ref 823) .none 0, (List.toArray [])⟩
def o_825 (P : Params) : Obj := ⟨(.type "tuple"), none, .seq (List.toArray []) 0, (List.toArray [])⟩
def o_826 (P : Params) : Obj := ⟨.none, none, .fields (List.toArray []), (List.toArray [])⟩
def o_827 (P : Params) : Obj := ⟨(.type "tuple"), none, .seq (List.toArray [(.str (S "text") 1469), (.str (S "told") 1470), (.str (S "waiting") 1471), (.str (S "path") 1472), (.str (S "node") 1473), (.str (S "steps") 1474), (.str (S "inner") 1475)]) 0, (List.toArray [])⟩
def o_828 (P : Params) : Obj := ⟨(.type "tuple"), none, .seq (List.toArray []) 0, (List.toArray [])⟩
def o_829 (P : Params) : Obj := ⟨.none, none, fnO (My.top 113) (S "spots") (S "spots") 0 .none .none .none .none none .none .none 0, (List.toArray [])⟩
def o_830 (P : Params) : Obj := ⟨(.type "code"), none, .fields (List.toArray [(.str (S "spots") 1466), (.str (S "spots") 1467), (.str (S "/claim/cut.py") 1468), (.int 627 0), (.int 1 0), (.int 0 0), (.int 0 0), (.int 3 0), (.ref 825), (.bool true), (.int 181 0), (.ref 826), .none, (.ref 827), (.ref 828), (.ref 829), (.int 1476 0), (.int 627 0), (.str (S "/claim/cut.py") 1477)]), (List.toArray [])⟩
def o_831 (P : Params) : Obj := ⟨(.type "function"), none, fnO (My.top 113) (S "spots") (S "spots") 3 .none .none .none (.str (S "leanscript.reading") 1449) none (.ref 830) .none 0, (List.toArray [])⟩
def o_832 (P : Params) : Obj := ⟨(.type "tuple"), none, .seq (List.toArray []) 0, (List.toArray [])⟩
def o_833 (P : Params) : Obj := ⟨(.type "builtin_function_or_method"), none, .fields (List.toArray [(.builtin "type.__prepare__"), (.type "type")]), (List.toArray [])⟩
def o_834 (P : Params) : Obj := ⟨(.type "dict"), none, .dict (List.toArray [⟨(PyData.keyHash P (S "__module__")), (.str (S "__module__") 1488), (.str (S "leanscript.edits") 1479)⟩, ⟨(PyData.keyHash P (S "__qualname__")), (.str (S "__qualname__") 1490), (.str (S "Old") 1489)⟩, ⟨(PyData.keyHash P (S "__firstlineno__")), (.str (S "__firstlineno__") 1492), (.int 637 1491)⟩, ⟨(PyData.keyHash P (S "__init__")), (.str (S "__init__") 1500), (.ref 845)⟩, ⟨(PyData.keyHash P (S "__static_attributes__")), (.str (S "__static_attributes__") 1502), (.ref 846)⟩]) 5, (List.toArray [])⟩
def o_835 (P : Params) : Obj := ⟨(.type "tuple"), none, .seq (List.toArray []) 0, (List.toArray [])⟩
def o_836 (P : Params) : Obj := ⟨.none, none, .fields (List.toArray [(.int 639 0), (.int 4 0), (.ref 844)]), (List.toArray [])⟩
def o_837 (P : Params) : Obj := ⟨(.type "code"), none, .fields (List.toArray [(.str (S "Old") 1483), (.str (S "Old") 1484), (.str (S "/claim/cut.py") 1485), (.int 637 0), (.int 0 0), (.int 0 0), (.int 0 0), (.int 0 0), (.ref 835), (.bool false), (.int 181 0), (.ref 836), .none, .none, .none, .none, (.int 1486 0), (.int 637 0), (.str (S "/claim/cut.py") 1487)]), (List.toArray [])⟩
def o_838 (P : Params) : Obj := ⟨(.type "frame"), none, .plain, (List.toArray [(some (.ref 837)), (some (.ref 3)), (some (.ref 834)), none, (some (.str (S "leanscript.edits") 1479)), none, (some (.ref 0))])⟩
def o_839 (P : Params) : Obj := ⟨(.type "tuple"), none, .seq (List.toArray []) 0, (List.toArray [])⟩
def o_840 (P : Params) : Obj := ⟨.none, none, .fields (List.toArray []), (List.toArray [])⟩
def o_841 (P : Params) : Obj := ⟨(.type "tuple"), none, .seq (List.toArray [(.str (S "self") 1496), (.str (S "path") 1497)]) 0, (List.toArray [])⟩
def o_842 (P : Params) : Obj := ⟨(.type "tuple"), none, .seq (List.toArray []) 0, (List.toArray [])⟩
def o_843 (P : Params) : Obj := ⟨.none, none, fnO (L2.inClass (My.top 115) 0) (S "__init__") (S "Old.__init__") 0 .none .none .none .none none .none .none 0, (List.toArray [])⟩
def o_844 (P : Params) : Obj := ⟨(.type "code"), none, .fields (List.toArray [(.str (S "__init__") 1493), (.str (S "Old.__init__") 1494), (.str (S "/claim/cut.py") 1495), (.int 639 0), (.int 2 0), (.int 0 0), (.int 0 0), (.int 3 0), (.ref 839), (.bool true), (.int 181 0), (.ref 840), .none, (.ref 841), (.ref 842), (.ref 843), (.int 1498 0), (.int 639 0), (.str (S "/claim/cut.py") 1499)]), (List.toArray [])⟩
def o_845 (P : Params) : Obj := ⟨(.type "function"), none, fnO (L2.inClass (My.top 115) 0) (S "__init__") (S "Old.__init__") 3 .none .none .none (.str (S "leanscript.edits") 1479) none (.ref 844) .none 0, (List.toArray [])⟩
def o_846 (P : Params) : Obj := ⟨(.type "tuple"), none, .seq (List.toArray [(.str (S "path") 1501)]) 0, (List.toArray [])⟩
def o_847 (P : Params) : Obj := ⟨(.type "dict"), none, .dict (List.toArray [⟨(PyData.keyHash P (S "__module__")), (.str (S "__module__") 1488), (.str (S "leanscript.edits") 1479)⟩, ⟨(PyData.keyHash P (S "__firstlineno__")), (.str (S "__firstlineno__") 1492), (.int 637 1491)⟩, ⟨(PyData.keyHash P (S "__init__")), (.str (S "__init__") 1500), (.ref 845)⟩, ⟨(PyData.keyHash P (S "__static_attributes__")), (.str (S "__static_attributes__") 1502), (.ref 846)⟩, ⟨(PyData.keyHash P (S "__dict__")), (.str (S "__dict__") 1504), (.ref 849)⟩, ⟨(PyData.keyHash P (S "__weakref__")), (.str (S "__weakref__") 1506), (.ref 850)⟩, ⟨(PyData.keyHash P (S "__doc__")), (.str (S "__doc__") 1507), .none⟩]) 4, (List.toArray [])⟩
def o_848 (P : Params) : Obj := ⟨(.type "type"), none, .cls ⟨(S "Old"), [(.type "object")], [(.ref 848), (.type "object")], 847, (S "Old"), true, [], [], false, none, false⟩, (List.toArray [none, none, (some (.str (S "Old") 1481)), (some (.str (S "Old") 1489)), (some (.builtin "object.__new__")), (some (.bool true))])⟩
def o_849 (P : Params) : Obj := ⟨(.type "getset_descriptor"), none, .fields (List.toArray [(.str (S "__dict__") 1503), (.ref 848), (.builtin "function.__dict__"), (.builtin "function.__dict__#set")]), (List.toArray [])⟩
def o_850 (P : Params) : Obj := ⟨(.type "getset_descriptor"), none, .fields (List.toArray [(.str (S "__weakref__") 1505), (.ref 848), (.builtin "ExceptionGroup.__weakref__"), .none]), (List.toArray [])⟩
def o_851 (P : Params) : Obj := ⟨(.type "super"), none, .fields (List.toArray [(.ref 848), (.ref 848), (.ref 848)]), (List.toArray [])⟩
def o_852 (P : Params) : Obj := ⟨(.type "builtin_function_or_method"), none, .fields (List.toArray [(.builtin "object.__init_subclass__"), (.ref 848)]), (List.toArray [])⟩
def T2 (P : Params) : PySem.W.BT := (.node (boot_o_0 P) (.node (boot_o_1 P) (.node (o_3_1 P) (.node (boot_o_7 P) (.node (o_15 P) (.node (o_31 P) (.node (o_63 P) (.node (o_127 P) (.node (o_255 P) (.node (o_511 P) .nil .nil) (.node (o_767 P) .nil .nil)) (.node (o_383 P) (.node (o_639 P) .nil .nil) .nil)) (.node (o_191 P) (.node (o_319 P) (.node (o_575 P) .nil .nil) (.node (o_831 P) .nil .nil)) (.node (o_447 P) (.node (o_703 P) .nil .nil) .nil))) (.node (o_95 P) (.node (o_159 P) (.node (o_287 P) (.node (o_543 P) .nil .nil) (.node (o_799 P) .nil .nil)) (.node (o_415 P) (.node (o_671 P) .nil .nil) .nil)) (.node (o_223 P) (.node (o_351 P) (.node (o_607 P) .nil .nil) .nil) (.node (o_479 P) (.node (o_735 P) .nil .nil) .nil)))) (.node (o_47 P) (.node (o_79 P) (.node (o_143 P) (.node (o_271 P) (.node (o_527 P) .nil .nil) (.node (o_783 P) .nil .nil)) (.node (o_399 P) (.node (o_655 P) .nil .nil) .nil)) (.node (o_207 P) (.node (o_335 P) (.node (o_591 P) .nil .nil) (.node (o_847 P) .nil .nil)) (.node (o_463 P) (.node (o_719 P) .nil .nil) .nil))) (.node (o_111 P) (.node (o_175 P) (.node (o_303 P) (.node (o_559 P) .nil .nil) (.node (o_815 P) .nil .nil)) (.node (o_431 P) (.node (o_687 P) .nil .nil) .nil)) (.node (o_239 P) (.node (o_367 P) (.node (o_623 P) .nil .nil) .nil) (.node (o_495 P) (.node (o_751 P) .nil .nil) .nil))))) (.node (o_23 P) (.node (o_39 P) (.node (o_71 P) (.node (o_135 P) (.node (o_263 P) (.node (o_519 P) .nil .nil) (.node (o_775 P) .nil .nil)) (.node (o_391 P) (.node (o_647 P) .nil .nil) .nil)) (.node (o_199 P) (.node (o_327 P) (.node (o_583 P) .nil .nil) (.node (o_839 P) .nil .nil)) (.node (o_455 P) (.node (o_711 P) .nil .nil) .nil))) (.node (o_103 P) (.node (o_167 P) (.node (o_295 P) (.node (o_551 P) .nil .nil) (.node (o_807 P) .nil .nil)) (.node (o_423 P) (.node (o_679 P) .nil .nil) .nil)) (.node (o_231 P) (.node (o_359 P) (.node (o_615 P) .nil .nil) .nil) (.node (o_487 P) (.node (o_743 P) .nil .nil) .nil)))) (.node (o_55 P) (.node (o_87 P) (.node (o_151 P) (.node (o_279 P) (.node (o_535 P) .nil .nil) (.node (o_791 P) .nil .nil)) (.node (o_407 P) (.node (o_663 P) .nil .nil) .nil)) (.node (o_215 P) (.node (o_343 P) (.node (o_599 P) .nil .nil) .nil) (.node (o_471 P) (.node (o_727 P) .nil .nil) .nil))) (.node (o_119 P) (.node (o_183 P) (.node (o_311 P) (.node (o_567 P) .nil .nil) (.node (o_823 P) .nil .nil)) (.node (o_439 P) (.node (o_695 P) .nil .nil) .nil)) (.node (o_247 P) (.node (o_375 P) (.node (o_631 P) .nil .nil) .nil) (.node (o_503 P) (.node (o_759 P) .nil .nil) .nil)))))) (.node (o_11 P) (.node (o_19 P) (.node (o_35 P) (.node (o_67 P) (.node (o_131 P) (.node (o_259 P) (.node (o_515 P) .nil .nil) (.node (o_771 P) .nil .nil)) (.node (o_387 P) (.node (o_643 P) .nil .nil) .nil)) (.node (o_195 P) (.node (o_323 P) (.node (o_579 P) .nil .nil) (.node (o_835 P) .nil .nil)) (.node (o_451 P) (.node (o_707 P) .nil .nil) .nil))) (.node (o_99 P) (.node (o_163 P) (.node (o_291 P) (.node (o_547 P) .nil .nil) (.node (o_803 P) .nil .nil)) (.node (o_419 P) (.node (o_675 P) .nil .nil) .nil)) (.node (o_227 P) (.node (o_355 P) (.node (o_611 P) .nil .nil) .nil) (.node (o_483 P) (.node (o_739 P) .nil .nil) .nil)))) (.node (o_51 P) (.node (o_83 P) (.node (o_147 P) (.node (o_275 P) (.node (o_531 P) .nil .nil) (.node (o_787 P) .nil .nil)) (.node (o_403 P) (.node (o_659 P) .nil .nil) .nil)) (.node (o_211 P) (.node (o_339 P) (.node (o_595 P) .nil .nil) (.node (o_851 P) .nil .nil)) (.node (o_467 P) (.node (o_723 P) .nil .nil) .nil))) (.node (o_115 P) (.node (o_179 P) (.node (o_307 P) (.node (o_563 P) .nil .nil) (.node (o_819 P) .nil .nil)) (.node (o_435 P) (.node (o_691 P) .nil .nil) .nil)) (.node (o_243 P) (.node (o_371 P) (.node (o_627 P) .nil .nil) .nil) (.node (o_499 P) (.node (o_755 P) .nil .nil) .nil))))) (.node (o_27 P) (.node (o_43 P) (.node (o_75 P) (.node (o_139 P) (.node (o_267 P) (.node (o_523 P) .nil .nil) (.node (o_779 P) .nil .nil)) (.node (o_395 P) (.node (o_651 P) .nil .nil) .nil)) (.node (o_203 P) (.node (o_331 P) (.node (o_587 P) .nil .nil) (.node (o_843 P) .nil .nil)) (.node (o_459 P) (.node (o_715 P) .nil .nil) .nil))) (.node (o_107 P) (.node (o_171 P) (.node (o_299 P) (.node (o_555 P) .nil .nil) (.node (o_811 P) .nil .nil)) (.node (o_427 P) (.node (o_683 P) .nil .nil) .nil)) (.node (o_235 P) (.node (o_363 P) (.node (o_619 P) .nil .nil) .nil) (.node (o_491 P) (.node (o_747 P) .nil .nil) .nil)))) (.node (o_59 P) (.node (o_91 P) (.node (o_155 P) (.node (o_283 P) (.node (o_539 P) .nil .nil) (.node (o_795 P) .nil .nil)) (.node (o_411 P) (.node (o_667 P) .nil .nil) .nil)) (.node (o_219 P) (.node (o_347 P) (.node (o_603 P) .nil .nil) .nil) (.node (o_475 P) (.node (o_731 P) .nil .nil) .nil))) (.node (o_123 P) (.node (o_187 P) (.node (o_315 P) (.node (o_571 P) .nil .nil) (.node (o_827 P) .nil .nil)) (.node (o_443 P) (.node (o_699 P) .nil .nil) .nil)) (.node (o_251 P) (.node (o_379 P) (.node (o_635 P) .nil .nil) .nil) (.node (o_507 P) (.node (o_763 P) .nil .nil) .nil))))))) (.node (boot_o_5 P) (.node (boot_o_9 P) (.node (o_17 P) (.node (o_33 P) (.node (o_65 P) (.node (o_129 P) (.node (o_257 P) (.node (o_513 P) .nil .nil) (.node (o_769 P) .nil .nil)) (.node (o_385 P) (.node (o_641 P) .nil .nil) .nil)) (.node (o_193 P) (.node (o_321 P) (.node (o_577 P) .nil .nil) (.node (o_833 P) .nil .nil)) (.node (o_449 P) (.node (o_705 P) .nil .nil) .nil))) (.node (o_97 P) (.node (o_161 P) (.node (o_289 P) (.node (o_545 P) .nil .nil) (.node (o_801 P) .nil .nil)) (.node (o_417 P) (.node (o_673 P) .nil .nil) .nil)) (.node (o_225 P) (.node (o_353 P) (.node (o_609 P) .nil .nil) .nil) (.node (o_481 P) (.node (o_737 P) .nil .nil) .nil)))) (.node (o_49 P) (.node (o_81 P) (.node (o_145 P) (.node (o_273 P) (.node (o_529 P) .nil .nil) (.node (o_785 P) .nil .nil)) (.node (o_401 P) (.node (o_657 P) .nil .nil) .nil)) (.node (o_209 P) (.node (o_337 P) (.node (o_593 P) .nil .nil) (.node (o_849 P) .nil .nil)) (.node (o_465 P) (.node (o_721 P) .nil .nil) .nil))) (.node (o_113 P) (.node (o_177 P) (.node (o_305 P) (.node (o_561 P) .nil .nil) (.node (o_817 P) .nil .nil)) (.node (o_433 P) (.node (o_689 P) .nil .nil) .nil)) (.node (o_241 P) (.node (o_369 P) (.node (o_625 P) .nil .nil) .nil) (.node (o_497 P) (.node (o_753 P) .nil .nil) .nil))))) (.node (o_25 P) (.node (o_41 P) (.node (o_73 P) (.node (o_137 P) (.node (o_265 P) (.node (o_521 P) .nil .nil) (.node (o_777 P) .nil .nil)) (.node (o_393 P) (.node (o_649 P) .nil .nil) .nil)) (.node (o_201 P) (.node (o_329 P) (.node (o_585 P) .nil .nil) (.node (o_841 P) .nil .nil)) (.node (o_457 P) (.node (o_713 P) .nil .nil) .nil))) (.node (o_105 P) (.node (o_169 P) (.node (o_297 P) (.node (o_553 P) .nil .nil) (.node (o_809 P) .nil .nil)) (.node (o_425 P) (.node (o_681 P) .nil .nil) .nil)) (.node (o_233 P) (.node (o_361 P) (.node (o_617 P) .nil .nil) .nil) (.node (o_489 P) (.node (o_745 P) .nil .nil) .nil)))) (.node (o_57 P) (.node (o_89 P) (.node (o_153 P) (.node (o_281 P) (.node (o_537 P) .nil .nil) (.node (o_793 P) .nil .nil)) (.node (o_409 P) (.node (o_665 P) .nil .nil) .nil)) (.node (o_217 P) (.node (o_345 P) (.node (o_601 P) .nil .nil) .nil) (.node (o_473 P) (.node (o_729 P) .nil .nil) .nil))) (.node (o_121 P) (.node (o_185 P) (.node (o_313 P) (.node (o_569 P) .nil .nil) (.node (o_825 P) .nil .nil)) (.node (o_441 P) (.node (o_697 P) .nil .nil) .nil)) (.node (o_249 P) (.node (o_377 P) (.node (o_633 P) .nil .nil) .nil) (.node (o_505 P) (.node (o_761 P) .nil .nil) .nil)))))) (.node (o_13 P) (.node (o_21 P) (.node (o_37 P) (.node (o_69 P) (.node (o_133 P) (.node (o_261 P) (.node (o_517 P) .nil .nil) (.node (o_773 P) .nil .nil)) (.node (o_389 P) (.node (o_645 P) .nil .nil) .nil)) (.node (o_197 P) (.node (o_325 P) (.node (o_581 P) .nil .nil) (.node (o_837 P) .nil .nil)) (.node (o_453 P) (.node (o_709 P) .nil .nil) .nil))) (.node (o_101 P) (.node (o_165 P) (.node (o_293 P) (.node (o_549 P) .nil .nil) (.node (o_805 P) .nil .nil)) (.node (o_421 P) (.node (o_677 P) .nil .nil) .nil)) (.node (o_229 P) (.node (o_357 P) (.node (o_613 P) .nil .nil) .nil) (.node (o_485 P) (.node (o_741 P) .nil .nil) .nil)))) (.node (o_53 P) (.node (o_85 P) (.node (o_149 P) (.node (o_277 P) (.node (o_533 P) .nil .nil) (.node (o_789 P) .nil .nil)) (.node (o_405 P) (.node (o_661 P) .nil .nil) .nil)) (.node (o_213 P) (.node (o_341 P) (.node (o_597 P) .nil .nil) .nil) (.node (o_469 P) (.node (o_725 P) .nil .nil) .nil))) (.node (o_117 P) (.node (o_181 P) (.node (o_309 P) (.node (o_565 P) .nil .nil) (.node (o_821 P) .nil .nil)) (.node (o_437 P) (.node (o_693 P) .nil .nil) .nil)) (.node (o_245 P) (.node (o_373 P) (.node (o_629 P) .nil .nil) .nil) (.node (o_501 P) (.node (o_757 P) .nil .nil) .nil))))) (.node (o_29 P) (.node (o_45 P) (.node (o_77 P) (.node (o_141 P) (.node (o_269 P) (.node (o_525 P) .nil .nil) (.node (o_781 P) .nil .nil)) (.node (o_397 P) (.node (o_653 P) .nil .nil) .nil)) (.node (o_205 P) (.node (o_333 P) (.node (o_589 P) .nil .nil) (.node (o_845 P) .nil .nil)) (.node (o_461 P) (.node (o_717 P) .nil .nil) .nil))) (.node (o_109 P) (.node (o_173 P) (.node (o_301 P) (.node (o_557 P) .nil .nil) (.node (o_813 P) .nil .nil)) (.node (o_429 P) (.node (o_685 P) .nil .nil) .nil)) (.node (o_237 P) (.node (o_365 P) (.node (o_621 P) .nil .nil) .nil) (.node (o_493 P) (.node (o_749 P) .nil .nil) .nil)))) (.node (o_61 P) (.node (o_93 P) (.node (o_157 P) (.node (o_285 P) (.node (o_541 P) .nil .nil) (.node (o_797 P) .nil .nil)) (.node (o_413 P) (.node (o_669 P) .nil .nil) .nil)) (.node (o_221 P) (.node (o_349 P) (.node (o_605 P) .nil .nil) .nil) (.node (o_477 P) (.node (o_733 P) .nil .nil) .nil))) (.node (o_125 P) (.node (o_189 P) (.node (o_317 P) (.node (o_573 P) .nil .nil) (.node (o_829 P) .nil .nil)) (.node (o_445 P) (.node (o_701 P) .nil .nil) .nil)) (.node (o_253 P) (.node (o_381 P) (.node (o_637 P) .nil .nil) .nil) (.node (o_509 P) (.node (o_765 P) .nil .nil) .nil)))))))) (.node (boot_o_2 P) (.node (boot_o_4 P) (.node (boot_o_8 P) (.node (o_16 P) (.node (o_32 P) (.node (o_64 P) (.node (o_128 P) (.node (o_256 P) (.node (o_512 P) .nil .nil) (.node (o_768 P) .nil .nil)) (.node (o_384 P) (.node (o_640 P) .nil .nil) .nil)) (.node (o_192 P) (.node (o_320 P) (.node (o_576 P) .nil .nil) (.node (o_832 P) .nil .nil)) (.node (o_448 P) (.node (o_704 P) .nil .nil) .nil))) (.node (o_96 P) (.node (o_160 P) (.node (o_288 P) (.node (o_544 P) .nil .nil) (.node (o_800 P) .nil .nil)) (.node (o_416 P) (.node (o_672 P) .nil .nil) .nil)) (.node (o_224 P) (.node (o_352 P) (.node (o_608 P) .nil .nil) .nil) (.node (o_480 P) (.node (o_736 P) .nil .nil) .nil)))) (.node (o_48 P) (.node (o_80 P) (.node (o_144 P) (.node (o_272 P) (.node (o_528 P) .nil .nil) (.node (o_784 P) .nil .nil)) (.node (o_400 P) (.node (o_656 P) .nil .nil) .nil)) (.node (o_208 P) (.node (o_336 P) (.node (o_592 P) .nil .nil) (.node (o_848 P) .nil .nil)) (.node (o_464 P) (.node (o_720 P) .nil .nil) .nil))) (.node (o_112 P) (.node (o_176 P) (.node (o_304 P) (.node (o_560 P) .nil .nil) (.node (o_816 P) .nil .nil)) (.node (o_432 P) (.node (o_688 P) .nil .nil) .nil)) (.node (o_240 P) (.node (o_368 P) (.node (o_624 P) .nil .nil) .nil) (.node (o_496 P) (.node (o_752 P) .nil .nil) .nil))))) (.node (o_24 P) (.node (o_40 P) (.node (o_72 P) (.node (o_136 P) (.node (o_264 P) (.node (o_520 P) .nil .nil) (.node (o_776 P) .nil .nil)) (.node (o_392 P) (.node (o_648 P) .nil .nil) .nil)) (.node (o_200 P) (.node (o_328 P) (.node (o_584 P) .nil .nil) (.node (o_840 P) .nil .nil)) (.node (o_456 P) (.node (o_712 P) .nil .nil) .nil))) (.node (o_104 P) (.node (o_168 P) (.node (o_296 P) (.node (o_552 P) .nil .nil) (.node (o_808 P) .nil .nil)) (.node (o_424 P) (.node (o_680 P) .nil .nil) .nil)) (.node (o_232 P) (.node (o_360 P) (.node (o_616 P) .nil .nil) .nil) (.node (o_488 P) (.node (o_744 P) .nil .nil) .nil)))) (.node (o_56 P) (.node (o_88 P) (.node (o_152 P) (.node (o_280 P) (.node (o_536 P) .nil .nil) (.node (o_792 P) .nil .nil)) (.node (o_408 P) (.node (o_664 P) .nil .nil) .nil)) (.node (o_216 P) (.node (o_344 P) (.node (o_600 P) .nil .nil) .nil) (.node (o_472 P) (.node (o_728 P) .nil .nil) .nil))) (.node (o_120 P) (.node (o_184 P) (.node (o_312 P) (.node (o_568 P) .nil .nil) (.node (o_824 P) .nil .nil)) (.node (o_440 P) (.node (o_696 P) .nil .nil) .nil)) (.node (o_248 P) (.node (o_376 P) (.node (o_632 P) .nil .nil) .nil) (.node (o_504 P) (.node (o_760 P) .nil .nil) .nil)))))) (.node (o_12_2 P) (.node (o_20 P) (.node (o_36 P) (.node (o_68 P) (.node (o_132 P) (.node (o_260 P) (.node (o_516 P) .nil .nil) (.node (o_772 P) .nil .nil)) (.node (o_388 P) (.node (o_644 P) .nil .nil) .nil)) (.node (o_196 P) (.node (o_324 P) (.node (o_580 P) .nil .nil) (.node (o_836 P) .nil .nil)) (.node (o_452 P) (.node (o_708 P) .nil .nil) .nil))) (.node (o_100 P) (.node (o_164 P) (.node (o_292 P) (.node (o_548 P) .nil .nil) (.node (o_804 P) .nil .nil)) (.node (o_420 P) (.node (o_676 P) .nil .nil) .nil)) (.node (o_228 P) (.node (o_356 P) (.node (o_612 P) .nil .nil) .nil) (.node (o_484 P) (.node (o_740 P) .nil .nil) .nil)))) (.node (o_52 P) (.node (o_84 P) (.node (o_148 P) (.node (o_276 P) (.node (o_532 P) .nil .nil) (.node (o_788 P) .nil .nil)) (.node (o_404 P) (.node (o_660 P) .nil .nil) .nil)) (.node (o_212 P) (.node (o_340 P) (.node (o_596 P) .nil .nil) (.node (o_852 P) .nil .nil)) (.node (o_468 P) (.node (o_724 P) .nil .nil) .nil))) (.node (o_116 P) (.node (o_180 P) (.node (o_308 P) (.node (o_564 P) .nil .nil) (.node (o_820 P) .nil .nil)) (.node (o_436 P) (.node (o_692 P) .nil .nil) .nil)) (.node (o_244 P) (.node (o_372 P) (.node (o_628 P) .nil .nil) .nil) (.node (o_500 P) (.node (o_756 P) .nil .nil) .nil))))) (.node (o_28 P) (.node (o_44 P) (.node (o_76 P) (.node (o_140 P) (.node (o_268 P) (.node (o_524 P) .nil .nil) (.node (o_780 P) .nil .nil)) (.node (o_396 P) (.node (o_652 P) .nil .nil) .nil)) (.node (o_204 P) (.node (o_332 P) (.node (o_588 P) .nil .nil) (.node (o_844 P) .nil .nil)) (.node (o_460 P) (.node (o_716 P) .nil .nil) .nil))) (.node (o_108 P) (.node (o_172 P) (.node (o_300 P) (.node (o_556 P) .nil .nil) (.node (o_812 P) .nil .nil)) (.node (o_428 P) (.node (o_684 P) .nil .nil) .nil)) (.node (o_236 P) (.node (o_364 P) (.node (o_620 P) .nil .nil) .nil) (.node (o_492 P) (.node (o_748 P) .nil .nil) .nil)))) (.node (o_60 P) (.node (o_92 P) (.node (o_156 P) (.node (o_284 P) (.node (o_540 P) .nil .nil) (.node (o_796 P) .nil .nil)) (.node (o_412 P) (.node (o_668 P) .nil .nil) .nil)) (.node (o_220 P) (.node (o_348 P) (.node (o_604 P) .nil .nil) .nil) (.node (o_476 P) (.node (o_732 P) .nil .nil) .nil))) (.node (o_124 P) (.node (o_188 P) (.node (o_316 P) (.node (o_572 P) .nil .nil) (.node (o_828 P) .nil .nil)) (.node (o_444 P) (.node (o_700 P) .nil .nil) .nil)) (.node (o_252 P) (.node (o_380 P) (.node (o_636 P) .nil .nil) .nil) (.node (o_508 P) (.node (o_764 P) .nil .nil) .nil))))))) (.node (boot_o_6 P) (.node (boot_o_10 P) (.node (o_18 P) (.node (o_34 P) (.node (o_66 P) (.node (o_130 P) (.node (o_258 P) (.node (o_514 P) .nil .nil) (.node (o_770 P) .nil .nil)) (.node (o_386 P) (.node (o_642 P) .nil .nil) .nil)) (.node (o_194 P) (.node (o_322 P) (.node (o_578 P) .nil .nil) (.node (o_834 P) .nil .nil)) (.node (o_450 P) (.node (o_706 P) .nil .nil) .nil))) (.node (o_98 P) (.node (o_162 P) (.node (o_290 P) (.node (o_546 P) .nil .nil) (.node (o_802 P) .nil .nil)) (.node (o_418 P) (.node (o_674 P) .nil .nil) .nil)) (.node (o_226 P) (.node (o_354 P) (.node (o_610 P) .nil .nil) .nil) (.node (o_482 P) (.node (o_738 P) .nil .nil) .nil)))) (.node (o_50 P) (.node (o_82 P) (.node (o_146 P) (.node (o_274 P) (.node (o_530 P) .nil .nil) (.node (o_786 P) .nil .nil)) (.node (o_402 P) (.node (o_658 P) .nil .nil) .nil)) (.node (o_210 P) (.node (o_338 P) (.node (o_594 P) .nil .nil) (.node (o_850 P) .nil .nil)) (.node (o_466 P) (.node (o_722 P) .nil .nil) .nil))) (.node (o_114 P) (.node (o_178 P) (.node (o_306 P) (.node (o_562 P) .nil .nil) (.node (o_818 P) .nil .nil)) (.node (o_434 P) (.node (o_690 P) .nil .nil) .nil)) (.node (o_242 P) (.node (o_370 P) (.node (o_626 P) .nil .nil) .nil) (.node (o_498 P) (.node (o_754 P) .nil .nil) .nil))))) (.node (o_26 P) (.node (o_42 P) (.node (o_74 P) (.node (o_138 P) (.node (o_266 P) (.node (o_522 P) .nil .nil) (.node (o_778 P) .nil .nil)) (.node (o_394 P) (.node (o_650 P) .nil .nil) .nil)) (.node (o_202 P) (.node (o_330 P) (.node (o_586 P) .nil .nil) (.node (o_842 P) .nil .nil)) (.node (o_458 P) (.node (o_714 P) .nil .nil) .nil))) (.node (o_106 P) (.node (o_170 P) (.node (o_298 P) (.node (o_554 P) .nil .nil) (.node (o_810 P) .nil .nil)) (.node (o_426 P) (.node (o_682 P) .nil .nil) .nil)) (.node (o_234 P) (.node (o_362 P) (.node (o_618 P) .nil .nil) .nil) (.node (o_490 P) (.node (o_746 P) .nil .nil) .nil)))) (.node (o_58 P) (.node (o_90 P) (.node (o_154 P) (.node (o_282 P) (.node (o_538 P) .nil .nil) (.node (o_794 P) .nil .nil)) (.node (o_410 P) (.node (o_666 P) .nil .nil) .nil)) (.node (o_218 P) (.node (o_346 P) (.node (o_602 P) .nil .nil) .nil) (.node (o_474 P) (.node (o_730 P) .nil .nil) .nil))) (.node (o_122 P) (.node (o_186 P) (.node (o_314 P) (.node (o_570 P) .nil .nil) (.node (o_826 P) .nil .nil)) (.node (o_442 P) (.node (o_698 P) .nil .nil) .nil)) (.node (o_250 P) (.node (o_378 P) (.node (o_634 P) .nil .nil) .nil) (.node (o_506 P) (.node (o_762 P) .nil .nil) .nil)))))) (.node (o_14 P) (.node (o_22 P) (.node (o_38 P) (.node (o_70 P) (.node (o_134 P) (.node (o_262 P) (.node (o_518 P) .nil .nil) (.node (o_774 P) .nil .nil)) (.node (o_390 P) (.node (o_646 P) .nil .nil) .nil)) (.node (o_198 P) (.node (o_326 P) (.node (o_582 P) .nil .nil) (.node (o_838 P) .nil .nil)) (.node (o_454 P) (.node (o_710 P) .nil .nil) .nil))) (.node (o_102 P) (.node (o_166 P) (.node (o_294 P) (.node (o_550 P) .nil .nil) (.node (o_806 P) .nil .nil)) (.node (o_422 P) (.node (o_678 P) .nil .nil) .nil)) (.node (o_230 P) (.node (o_358 P) (.node (o_614 P) .nil .nil) .nil) (.node (o_486 P) (.node (o_742 P) .nil .nil) .nil)))) (.node (o_54 P) (.node (o_86 P) (.node (o_150 P) (.node (o_278 P) (.node (o_534 P) .nil .nil) (.node (o_790 P) .nil .nil)) (.node (o_406 P) (.node (o_662 P) .nil .nil) .nil)) (.node (o_214 P) (.node (o_342 P) (.node (o_598 P) .nil .nil) .nil) (.node (o_470 P) (.node (o_726 P) .nil .nil) .nil))) (.node (o_118 P) (.node (o_182 P) (.node (o_310 P) (.node (o_566 P) .nil .nil) (.node (o_822 P) .nil .nil)) (.node (o_438 P) (.node (o_694 P) .nil .nil) .nil)) (.node (o_246 P) (.node (o_374 P) (.node (o_630 P) .nil .nil) .nil) (.node (o_502 P) (.node (o_758 P) .nil .nil) .nil))))) (.node (o_30 P) (.node (o_46 P) (.node (o_78 P) (.node (o_142 P) (.node (o_270 P) (.node (o_526 P) .nil .nil) (.node (o_782 P) .nil .nil)) (.node (o_398 P) (.node (o_654 P) .nil .nil) .nil)) (.node (o_206 P) (.node (o_334 P) (.node (o_590 P) .nil .nil) (.node (o_846 P) .nil .nil)) (.node (o_462 P) (.node (o_718 P) .nil .nil) .nil))) (.node (o_110 P) (.node (o_174 P) (.node (o_302 P) (.node (o_558 P) .nil .nil) (.node (o_814 P) .nil .nil)) (.node (o_430 P) (.node (o_686 P) .nil .nil) .nil)) (.node (o_238 P) (.node (o_366 P) (.node (o_622 P) .nil .nil) .nil) (.node (o_494 P) (.node (o_750 P) .nil .nil) .nil)))) (.node (o_62 P) (.node (o_94 P) (.node (o_158 P) (.node (o_286 P) (.node (o_542 P) .nil .nil) (.node (o_798 P) .nil .nil)) (.node (o_414 P) (.node (o_670 P) .nil .nil) .nil)) (.node (o_222 P) (.node (o_350 P) (.node (o_606 P) .nil .nil) .nil) (.node (o_478 P) (.node (o_734 P) .nil .nil) .nil))) (.node (o_126 P) (.node (o_190 P) (.node (o_318 P) (.node (o_574 P) .nil .nil) (.node (o_830 P) .nil .nil)) (.node (o_446 P) (.node (o_702 P) .nil .nil) .nil)) (.node (o_254 P) (.node (o_382 P) (.node (o_638 P) .nil .nil) .nil) (.node (o_510 P) (.node (o_766 P) .nil .nil) .nil)))))))))
abbrev S2 (w : World) (os : OsState) : SharedT := ⟨T2 w.params, 853, (boot_heap w.params).life, #[], ⟨0, 0, 0, 0⟩, 1510, os⟩
def G2 (w : World) : Prop := ∀ os : OsState, XH.segF (XH.stQ prg w) 11 ann 3444 (S1 w os) (XH.pcQ (rest1.take 80) env cE ⟨108, 0, 109, 47⟩ B) = some (.next, S2 w os, cE, ⟨637, 0, 640, 24⟩)
theorem g2f (w : World) : G2 (w.withFollow "special-get-raises" false) := by
  intro os
  kernel_rfl
theorem g2t (w : World) : G2 (w.withFollow "special-get-raises" true) := by
  intro os
  kernel_rfl
theorem g2 (w : World) : G2 w := byRow2 "special-get-raises" (P := G2) g2f g2t w
abbrev rest2 : List Stmt := rest1.drop 80
def o_2 (P : Params) : Obj := ⟨.none, none, .dict (List.toArray [⟨(PyData.keyHash P (S "type.__subclasses__.Exception.0")), (.str (S "type.__subclasses__.Exception.0") 2238), (.int 1363 0)⟩, ⟨(PyData.keyHash P (S "type.__subclasses__.Exception.n")), (.str (S "type.__subclasses__.Exception.n") 2239), (.int 1 0)⟩]) 2, (List.toArray [])⟩
def l_3_24 (P : Params) : List DictEntry := ⟨(PyData.keyHash P (S "reckoned")), (.str (S "reckoned") 2280), (.ref 1401)⟩ :: ⟨(PyData.keyHash P (S "two_told")), (.str (S "two_told") 2292), (.ref 1408)⟩ :: ⟨(PyData.keyHash P (S "CONTRARY")), (.str (S "CONTRARY") 2313), (.ref 1409)⟩ :: []
def l_3_25 (P : Params) : List DictEntry := ⟨(PyData.keyHash P (S "must_be_letters")), (.str (S "must_be_letters") 2085), (.ref 1260)⟩ :: ⟨(PyData.keyHash P (S "first_names")), (.str (S "first_names") 2091), (.ref 1265)⟩ :: ⟨(PyData.keyHash P (S "pairs_of_rooms")), (.str (S "pairs_of_rooms") 2099), (.ref 1270)⟩ :: ⟨(PyData.keyHash P (S "pairs_of_uses")), (.str (S "pairs_of_uses") 2105), (.ref 1275)⟩ :: ⟨(PyData.keyHash P (S "hinder")), (.str (S "hinder") 2114), (.ref 1282)⟩ :: ⟨(PyData.keyHash P (S "barred")), (.str (S "barred") 2120), (.ref 1287)⟩ :: ⟨(PyData.keyHash P (S "must_be_naming")), (.str (S "must_be_naming") 2126), (.ref 1292)⟩ :: ⟨(PyData.keyHash P (S "named")), (.str (S "named") 2140), (.ref 1299)⟩ :: ⟨(PyData.keyHash P (S "counts")), (.str (S "counts") 2146), (.ref 1304)⟩ :: ⟨(PyData.keyHash P (S "hindering")), (.str (S "hindering") 2152), (.ref 1309)⟩ :: ⟨(PyData.keyHash P (S "fair")), (.str (S "fair") 2158), (.ref 1314)⟩ :: ⟨(PyData.keyHash P (S "places_of_properties")), (.str (S "places_of_properties") 2166), (.ref 1319)⟩ :: ⟨(PyData.keyHash P (S "properties")), (.str (S "properties") 2172), (.ref 1324)⟩ :: ⟨(PyData.keyHash P (S "are_unlike_names")), (.str (S "are_unlike_names") 2178), (.ref 1329)⟩ :: ⟨(PyData.keyHash P (S "must_be_property_naming")), (.str (S "must_be_property_naming") 2189), (.ref 1336)⟩ :: ⟨(PyData.keyHash P (S "props_named")), (.str (S "props_named") 2195), (.ref 1341)⟩ :: ⟨(PyData.keyHash P (S "props_least")), (.str (S "props_least") 2201), (.ref 1346)⟩ :: ⟨(PyData.keyHash P (S "NO_KIND")), (.str (S "NO_KIND") 2206), (.int (-2) 2205)⟩ :: ⟨(PyData.keyHash P (S "NO_QUOTIENT")), (.str (S "NO_QUOTIENT") 2209), (.int (-6) 2208)⟩ :: ⟨(PyData.keyHash P (S "TOO_GREAT")), (.str (S "TOO_GREAT") 2212), (.int (-7) 2211)⟩ :: ⟨(PyData.keyHash P (S "Failing")), (.str (S "Failing") 2241), (.ref 1363)⟩ :: ⟨(PyData.keyHash P (S "is_number_worth")), (.str (S "is_number_worth") 2248), (.ref 1373)⟩ :: ⟨(PyData.keyHash P (S "number_of")), (.str (S "number_of") 2255), (.ref 1380)⟩ :: ⟨(PyData.keyHash P (S "contrary")), (.str (S "contrary") 2262), (.ref 1387)⟩ :: ⟨(PyData.keyHash P (S "compared")), (.str (S "compared") 2271), (.ref 1394)⟩ :: (l_3_24 P)
def l_3_26 (P : Params) : List DictEntry := ⟨(PyData.keyHash P (S "bare_words")), (.str (S "bare_words") 1895), (.ref 1117)⟩ :: ⟨(PyData.keyHash P (S "expression_words")), (.str (S "expression_words") 1904), (.ref 1124)⟩ :: ⟨(PyData.keyHash P (S "braced_words")), (.str (S "braced_words") 1911), (.ref 1131)⟩ :: ⟨(PyData.keyHash P (S "plain_words")), (.str (S "plain_words") 1917), (.ref 1136)⟩ :: ⟨(PyData.keyHash P (S "statement_words")), (.str (S "statement_words") 1926), (.ref 1143)⟩ :: ⟨(PyData.keyHash P (S "list_words")), (.str (S "list_words") 1935), (.ref 1150)⟩ :: ⟨(PyData.keyHash P (S "tight_text")), (.str (S "tight_text") 1946), (.ref 1157)⟩ :: ⟨(PyData.keyHash P (S "ends_list")), (.str (S "ends_list") 1956), (.ref 1164)⟩ :: ⟨(PyData.keyHash P (S "is_ended")), (.str (S "is_ended") 1962), (.ref 1169)⟩ :: ⟨(PyData.keyHash P (S "lies_in")), (.str (S "lies_in") 1970), (.ref 1176)⟩ :: ⟨(PyData.keyHash P (S "is_needed")), (.str (S "is_needed") 1976), (.ref 1181)⟩ :: ⟨(PyData.keyHash P (S "behind_end")), (.str (S "behind_end") 1982), (.ref 1186)⟩ :: ⟨(PyData.keyHash P (S "why_gone")), (.str (S "why_gone") 1991), (.ref 1193)⟩ :: ⟨(PyData.keyHash P (S "unused_pairs")), (.str (S "unused_pairs") 1997), (.ref 1198)⟩ :: ⟨(PyData.keyHash P (S "goings")), (.str (S "goings") 2003), (.ref 1203)⟩ :: ⟨(PyData.keyHash P (S "going_statement")), (.str (S "going_statement") 2011), (.ref 1210)⟩ :: ⟨(PyData.keyHash P (S "without_pairs")), (.str (S "without_pairs") 2024), (.ref 1217)⟩ :: ⟨(PyData.keyHash P (S "going")), (.str (S "going") 2032), (.ref 1224)⟩ :: ⟨(PyData.keyHash P (S "is_no_longer")), (.str (S "is_no_longer") 2038), (.ref 1229)⟩ :: ⟨(PyData.keyHash P (S "going_kept")), (.str (S "going_kept") 2047), (.ref 1236)⟩ :: ⟨(PyData.keyHash P (S "bare_changes")), (.str (S "bare_changes") 2058), (.ref 1243)⟩ :: ⟨(PyData.keyHash P (S "with_names")), (.str (S "with_names") 2066), (.ref 1248)⟩ :: ⟨(PyData.keyHash P (S "FEWEST_LETTERS")), (.str (S "FEWEST_LETTERS") 2070), (.int 2 2069)⟩ :: ⟨(PyData.keyHash P (S "MOST_LETTERS_supply")), (.str (S "MOST_LETTERS_supply") 2072), (.int 26 2071)⟩ :: ⟨(PyData.keyHash P (S "are_letters")), (.str (S "are_letters") 2078), (.ref 1253)⟩ :: (l_3_25 P)
def l_3_27 (P : Params) : List DictEntry := ⟨(PyData.keyHash P (S "origins_behind")), (.str (S "origins_behind") 1657), (.ref 954)⟩ :: ⟨(PyData.keyHash P (S "layout_of")), (.str (S "layout_of") 1666), (.ref 961)⟩ :: ⟨(PyData.keyHash P (S "used_names")), (.str (S "used_names") 1678), (.ref 968)⟩ :: ⟨(PyData.keyHash P (S "bindings_in")), (.str (S "bindings_in") 1684), (.ref 973)⟩ :: ⟨(PyData.keyHash P (S "bindings")), (.str (S "bindings") 1691), (.ref 980)⟩ :: ⟨(PyData.keyHash P (S "STILL_OF_STILL")), (.str (S "STILL_OF_STILL") 1699), (.ref 981)⟩ :: ⟨(PyData.keyHash P (S "is_behind_let")), (.str (S "is_behind_let") 1710), (.ref 988)⟩ :: ⟨(PyData.keyHash P (S "sure_uses")), (.str (S "sure_uses") 1716), (.ref 993)⟩ :: ⟨(PyData.keyHash P (S "is_still_part")), (.str (S "is_still_part") 1722), (.ref 998)⟩ :: ⟨(PyData.keyHash P (S "Survey")), (.str (S "Survey") 1756), (.ref 1013)⟩ :: ⟨(PyData.keyHash P (S "lists_of")), (.str (S "lists_of") 1762), (.ref 1022)⟩ :: ⟨(PyData.keyHash P (S "let_of")), (.str (S "let_of") 1769), (.ref 1029)⟩ :: ⟨(PyData.keyHash P (S "pairs_of")), (.str (S "pairs_of") 1782), (.ref 1036)⟩ :: ⟨(PyData.keyHash P (S "test_steps")), (.str (S "test_steps") 1791), (.ref 1043)⟩ :: ⟨(PyData.keyHash P (S "tests_of")), (.str (S "tests_of") 1803), (.ref 1050)⟩ :: ⟨(PyData.keyHash P (S "waiting_pairs")), (.str (S "waiting_pairs") 1816), (.ref 1057)⟩ :: ⟨(PyData.keyHash P (S "holder_of")), (.str (S "holder_of") 1825), (.ref 1064)⟩ :: ⟨(PyData.keyHash P (S "holders_of")), (.str (S "holders_of") 1831), (.ref 1069)⟩ :: ⟨(PyData.keyHash P (S "reached_pairs")), (.str (S "reached_pairs") 1837), (.ref 1074)⟩ :: ⟨(PyData.keyHash P (S "unreached_pairs")), (.str (S "unreached_pairs") 1843), (.ref 1079)⟩ :: ⟨(PyData.keyHash P (S "number_word")), (.str (S "number_word") 1856), (.ref 1086)⟩ :: ⟨(PyData.keyHash P (S "with_commas")), (.str (S "with_commas") 1865), (.ref 1093)⟩ :: ⟨(PyData.keyHash P (S "fn_words")), (.str (S "fn_words") 1871), (.ref 1098)⟩ :: ⟨(PyData.keyHash P (S "two_words")), (.str (S "two_words") 1881), (.ref 1105)⟩ :: ⟨(PyData.keyHash P (S "pick_words")), (.str (S "pick_words") 1889), (.ref 1112)⟩ :: (l_3_26 P)
def l_3_28 (P : Params) : List DictEntry := ⟨(PyData.keyHash P (S "MOST_DEPTH")), (.str (S "MOST_DEPTH") 1375), (.int 16 1374)⟩ :: ⟨(PyData.keyHash P (S "MOST_BINDINGS_trees")), (.str (S "MOST_BINDINGS_trees") 1377), (.int 100 1376)⟩ :: ⟨(PyData.keyHash P (S "names_twice")), (.str (S "names_twice") 1389), (.ref 763)⟩ :: ⟨(PyData.keyHash P (S "is_open_end")), (.str (S "is_open_end") 1396), (.ref 770)⟩ :: ⟨(PyData.keyHash P (S "fault_in_place")), (.str (S "fault_in_place") 1406), (.ref 777)⟩ :: ⟨(PyData.keyHash P (S "must_fit")), (.str (S "must_fit") 1420), (.ref 784)⟩ :: ⟨(PyData.keyHash P (S "is_great")), (.str (S "is_great") 1426), (.ref 789)⟩ :: ⟨(PyData.keyHash P (S "must_hold_together")), (.str (S "must_hold_together") 1434), (.ref 796)⟩ :: ⟨(PyData.keyHash P (S "must_tree")), (.str (S "must_tree") 1441), (.ref 803)⟩ :: ⟨(PyData.keyHash P (S "holds_together")), (.str (S "holds_together") 1448), (.ref 810)⟩ :: ⟨(PyData.keyHash P (S "read_node")), (.str (S "read_node") 1458), (.ref 817)⟩ :: ⟨(PyData.keyHash P (S "read")), (.str (S "read") 1465), (.ref 824)⟩ :: ⟨(PyData.keyHash P (S "spots")), (.str (S "spots") 1478), (.ref 831)⟩ :: ⟨(PyData.keyHash P (S "Old")), (.str (S "Old") 1509), (.ref 848)⟩ :: ⟨(PyData.keyHash P (S "Change")), (.str (S "Change") 1540), (.ref 869)⟩ :: ⟨(PyData.keyHash P (S "Trail")), (.str (S "Trail") 1574), (.ref 890)⟩ :: ⟨(PyData.keyHash P (S "instead")), (.str (S "instead") 1582), (.ref 901)⟩ :: ⟨(PyData.keyHash P (S "thing_at")), (.str (S "thing_at") 1591), (.ref 908)⟩ :: ⟨(PyData.keyHash P (S "built")), (.str (S "built") 1597), (.ref 913)⟩ :: ⟨(PyData.keyHash P (S "remade")), (.str (S "remade") 1603), (.ref 918)⟩ :: ⟨(PyData.keyHash P (S "changed")), (.str (S "changed") 1609), (.ref 923)⟩ :: ⟨(PyData.keyHash P (S "least_stretch")), (.str (S "least_stretch") 1615), (.ref 928)⟩ :: ⟨(PyData.keyHash P (S "follow")), (.str (S "follow") 1629), (.ref 935)⟩ :: ⟨(PyData.keyHash P (S "follow_change")), (.str (S "follow_change") 1635), (.ref 940)⟩ :: ⟨(PyData.keyHash P (S "follow_made")), (.str (S "follow_made") 1647), (.ref 947)⟩ :: (l_3_27 P)
def l_3_29 (P : Params) : List DictEntry := ⟨(PyData.keyHash P (S "with_word")), (.str (S "with_word") 1129), (.ref 591)⟩ :: ⟨(PyData.keyHash P (S "plain_statement")), (.str (S "plain_statement") 1145), (.ref 598)⟩ :: ⟨(PyData.keyHash P (S "branching")), (.str (S "branching") 1157), (.ref 605)⟩ :: ⟨(PyData.keyHash P (S "looping")), (.str (S "looping") 1167), (.ref 612)⟩ :: ⟨(PyData.keyHash P (S "trying")), (.str (S "trying") 1179), (.ref 619)⟩ :: ⟨(PyData.keyHash P (S "block")), (.str (S "block") 1188), (.ref 626)⟩ :: ⟨(PyData.keyHash P (S "statement")), (.str (S "statement") 1196), (.ref 633)⟩ :: ⟨(PyData.keyHash P (S "parsed")), (.str (S "parsed") 1205), (.ref 640)⟩ :: ⟨(PyData.keyHash P (S "is_whole")), (.str (S "is_whole") 1214), (.ref 647)⟩ :: ⟨(PyData.keyHash P (S "is_number_in_tree")), (.str (S "is_number_in_tree") 1221), (.ref 654)⟩ :: ⟨(PyData.keyHash P (S "is_part")), (.str (S "is_part") 1229), (.ref 661)⟩ :: ⟨(PyData.keyHash P (S "is_of_kind")), (.str (S "is_of_kind") 1237), (.ref 668)⟩ :: ⟨(PyData.keyHash P (S "fault_of")), (.str (S "fault_of") 1245), (.ref 675)⟩ :: ⟨(PyData.keyHash P (S "kinds_of_names")), (.str (S "kinds_of_names") 1255), (.ref 682)⟩ :: ⟨(PyData.keyHash P (S "kinds_of_fields")), (.str (S "kinds_of_fields") 1261), (.ref 687)⟩ :: ⟨(PyData.keyHash P (S "kinds_within")), (.str (S "kinds_within") 1267), (.ref 692)⟩ :: ⟨(PyData.keyHash P (S "must_have_form")), (.str (S "must_have_form") 1281), (.ref 699)⟩ :: ⟨(PyData.keyHash P (S "Layout")), (.str (S "Layout") 1313), (.ref 716)⟩ :: ⟨(PyData.keyHash P (S "rooms_made")), (.str (S "rooms_made") 1319), (.ref 725)⟩ :: ⟨(PyData.keyHash P (S "add_rooms")), (.str (S "add_rooms") 1333), (.ref 732)⟩ :: ⟨(PyData.keyHash P (S "add_names")), (.str (S "add_names") 1347), (.ref 739)⟩ :: ⟨(PyData.keyHash P (S "laid_out")), (.str (S "laid_out") 1353), (.ref 744)⟩ :: ⟨(PyData.keyHash P (S "names_by_room")), (.str (S "names_by_room") 1359), (.ref 749)⟩ :: ⟨(PyData.keyHash P (S "meaning")), (.str (S "meaning") 1369), (.ref 756)⟩ :: ⟨(PyData.keyHash P (S "MOST_PARTS")), (.str (S "MOST_PARTS") 1373), (.int 300 1372)⟩ :: (l_3_28 P)
def l_3_30 (P : Params) : List DictEntry := ⟨(PyData.keyHash P (S "Node")), (.str (S "Node") 785), (.ref 327)⟩ :: ⟨(PyData.keyHash P (S "Source")), (.str (S "Source") 904), (.ref 425)⟩ :: ⟨(PyData.keyHash P (S "things_of")), (.str (S "things_of") 910), (.ref 434)⟩ :: ⟨(PyData.keyHash P (S "numbered")), (.str (S "numbered") 916), (.ref 439)⟩ :: ⟨(PyData.keyHash P (S "listed")), (.str (S "listed") 928), (.ref 446)⟩ :: ⟨(PyData.keyHash P (S "name_taken")), (.str (S "name_taken") 935), (.ref 453)⟩ :: ⟨(PyData.keyHash P (S "parameters")), (.str (S "parameters") 942), (.ref 460)⟩ :: ⟨(PyData.keyHash P (S "giving")), (.str (S "giving") 953), (.ref 467)⟩ :: ⟨(PyData.keyHash P (S "with_body")), (.str (S "with_body") 964), (.ref 474)⟩ :: ⟨(PyData.keyHash P (S "pair")), (.str (S "pair") 974), (.ref 481)⟩ :: ⟨(PyData.keyHash P (S "field")), (.str (S "field") 981), (.ref 488)⟩ :: ⟨(PyData.keyHash P (S "flattened")), (.str (S "flattened") 987), (.ref 493)⟩ :: ⟨(PyData.keyHash P (S "record")), (.str (S "record") 996), (.ref 500)⟩ :: ⟨(PyData.keyHash P (S "tightest")), (.str (S "tightest") 1004), (.ref 507)⟩ :: ⟨(PyData.keyHash P (S "followed")), (.str (S "followed") 1016), (.ref 514)⟩ :: ⟨(PyData.keyHash P (S "operand")), (.str (S "operand") 1028), (.ref 521)⟩ :: ⟨(PyData.keyHash P (S "joined")), (.str (S "joined") 1044), (.ref 528)⟩ :: ⟨(PyData.keyHash P (S "join_down_to")), (.str (S "join_down_to") 1055), (.ref 535)⟩ :: ⟨(PyData.keyHash P (S "side")), (.str (S "side") 1064), (.ref 542)⟩ :: ⟨(PyData.keyHash P (S "two_sided")), (.str (S "two_sided") 1074), (.ref 549)⟩ :: ⟨(PyData.keyHash P (S "expression")), (.str (S "expression") 1086), (.ref 556)⟩ :: ⟨(PyData.keyHash P (S "in_braces")), (.str (S "in_braces") 1094), (.ref 563)⟩ :: ⟨(PyData.keyHash P (S "in_brackets")), (.str (S "in_brackets") 1102), (.ref 570)⟩ :: ⟨(PyData.keyHash P (S "ended")), (.str (S "ended") 1110), (.ref 577)⟩ :: ⟨(PyData.keyHash P (S "letting")), (.str (S "letting") 1119), (.ref 584)⟩ :: (l_3_29 P)
def l_3_31 (P : Params) : List DictEntry := ⟨(PyData.keyHash P (S "MOST_FIGURES")), (.str (S "MOST_FIGURES") 451), (.int 18 450)⟩ :: ⟨(PyData.keyHash P (S "is_letter")), (.str (S "is_letter") 458), (.ref 189)⟩ :: ⟨(PyData.keyHash P (S "is_figure")), (.str (S "is_figure") 465), (.ref 196)⟩ :: ⟨(PyData.keyHash P (S "is_letter_or_figure")), (.str (S "is_letter_or_figure") 472), (.ref 203)⟩ :: ⟨(PyData.keyHash P (S "is_name")), (.str (S "is_name") 478), (.ref 208)⟩ :: ⟨(PyData.keyHash P (S "is_plain_number")), (.str (S "is_plain_number") 484), (.ref 213)⟩ :: ⟨(PyData.keyHash P (S "is_number")), (.str (S "is_number") 494), (.ref 220)⟩ :: ⟨(PyData.keyHash P (S "number_told")), (.str (S "number_told") 504), (.ref 227)⟩ :: ⟨(PyData.keyHash P (S "run_end")), (.str (S "run_end") 512), (.ref 234)⟩ :: ⟨(PyData.keyHash P (S "sort_of")), (.str (S "sort_of") 520), (.ref 241)⟩ :: ⟨(PyData.keyHash P (S "sign_end")), (.str (S "sign_end") 528), (.ref 248)⟩ :: ⟨(PyData.keyHash P (S "words")), (.str (S "words") 539), (.ref 255)⟩ :: ⟨(PyData.keyHash P (S "EXPRESSIONS")), (.str (S "EXPRESSIONS") 554), (.ref 256)⟩ :: ⟨(PyData.keyHash P (S "STATEMENTS")), (.str (S "STATEMENTS") 566), (.ref 257)⟩ :: ⟨(PyData.keyHash P (S "TWO_SIGNS")), (.str (S "TWO_SIGNS") 578), (.ref 258)⟩ :: ⟨(PyData.keyHash P (S "SHAPES")), (.str (S "SHAPES") 665), (.ref 259)⟩ :: ⟨(PyData.keyHash P (S "is_give")), (.str (S "is_give") 672), (.ref 290)⟩ :: ⟨(PyData.keyHash P (S "parts_within")), (.str (S "parts_within") 678), (.ref 295)⟩ :: ⟨(PyData.keyHash P (S "inner_parts")), (.str (S "inner_parts") 690), (.ref 302)⟩ :: ⟨(PyData.keyHash P (S "LEVELS")), (.str (S "LEVELS") 732), (.ref 303)⟩ :: ⟨(PyData.keyHash P (S "LOOSEST")), (.str (S "LOOSEST") 734), (.int 0 733)⟩ :: ⟨(PyData.keyHash P (S "AHEAD")), (.str (S "AHEAD") 736), (.int 7 735)⟩ :: ⟨(PyData.keyHash P (S "BEHIND")), (.str (S "BEHIND") 738), (.int 8 737)⟩ :: ⟨(PyData.keyHash P (S "TIGHTEST")), (.str (S "TIGHTEST") 740), (.int 9 739)⟩ :: ⟨(PyData.keyHash P (S "level_of")), (.str (S "level_of") 748), (.ref 310)⟩ :: (l_3_30 P)
def l_3_32 (P : Params) : List DictEntry := ⟨(PyData.keyHash P (S "__name__")), (.str (S "__name__") 165), (.str (S "leanscript.turns") 2293)⟩ :: ⟨(PyData.keyHash P (S "__doc__")), (.str (S "__doc__") 166), .none⟩ :: ⟨(PyData.keyHash P (S "__package__")), (.str (S "__package__") 167), .none⟩ :: ⟨(PyData.keyHash P (S "__loader__")), (.str (S "__loader__") 168), (.builtin "__main__.__loader__#opaque")⟩ :: ⟨(PyData.keyHash P (S "__spec__")), (.str (S "__spec__") 169), .none⟩ :: ⟨(PyData.keyHash P (S "__annotations__")), (.str (S "__annotations__") 170), (.ref 6)⟩ :: ⟨(PyData.keyHash P (S "__builtins__")), (.str (S "__builtins__") 171), (.ref 4)⟩ :: ⟨(PyData.keyHash P (S "__file__")), (.str (S "__file__") 173), (.str (S "/claim/cut.py") 172)⟩ :: ⟨(PyData.keyHash P (S "__cached__")), (.str (S "__cached__") 174), .none⟩ :: ⟨(PyData.keyHash P (S "_wall")), (.str (S "_wall") 193), (.ref 21)⟩ :: ⟨(PyData.keyHash P (S "LeanError")), (.str (S "LeanError") 213), (.ref 31)⟩ :: ⟨(PyData.keyHash P (S "NoText")), (.str (S "NoText") 239), (.ref 52)⟩ :: ⟨(PyData.keyHash P (S "NoTree")), (.str (S "NoTree") 267), (.ref 73)⟩ :: ⟨(PyData.keyHash P (S "NoPath")), (.str (S "NoPath") 283), (.ref 85)⟩ :: ⟨(PyData.keyHash P (S "NoNaming")), (.str (S "NoNaming") 310), (.ref 105)⟩ :: ⟨(PyData.keyHash P (S "NoLetters")), (.str (S "NoLetters") 326), (.ref 117)⟩ :: ⟨(PyData.keyHash P (S "NoCount")), (.str (S "NoCount") 342), (.ref 129)⟩ :: ⟨(PyData.keyHash P (S "NoTurning")), (.str (S "NoTurning") 358), (.ref 141)⟩ :: ⟨(PyData.keyHash P (S "NoMap")), (.str (S "NoMap") 374), (.ref 153)⟩ :: ⟨(PyData.keyHash P (S "NoLine")), (.str (S "NoLine") 390), (.ref 165)⟩ :: ⟨(PyData.keyHash P (S "TooMany")), (.str (S "TooMany") 406), (.ref 177)⟩ :: ⟨(PyData.keyHash P (S "KEPT")), (.str (S "KEPT") 419), (.ref 180)⟩ :: ⟨(PyData.keyHash P (S "LONG_SIGNS")), (.str (S "LONG_SIGNS") 426), (.ref 181)⟩ :: ⟨(PyData.keyHash P (S "SHORT_SIGNS")), (.str (S "SHORT_SIGNS") 447), (.ref 182)⟩ :: ⟨(PyData.keyHash P (S "MOST_LETTERS_words")), (.str (S "MOST_LETTERS_words") 449), (.int 12 448)⟩ :: (l_3_31 P)
def o_3_2 (P : Params) : Obj := ⟨(.type "dict"), none, .dict (List.toArray (l_3_32 P)) 203, (List.toArray [])⟩
def l_12_33 (P : Params) : List Value := (.ref 1386) :: (.int 1147 0) :: (.int 0 0) :: (.ref 1393) :: (.int 1155 0) :: (.int 0 0) :: (.ref 1400) :: (.int 1165 0) :: (.int 0 0) :: (.ref 1407) :: []
def l_12_34 (P : Params) : List Value := (.int 0 0) :: (.ref 1323) :: (.int 1107 0) :: (.int 0 0) :: (.ref 1328) :: (.int 1111 0) :: (.int 0 0) :: (.ref 1335) :: (.int 1117 0) :: (.int 0 0) :: (.ref 1340) :: (.int 1122 0) :: (.int 0 0) :: (.ref 1345) :: (.int 1135 0) :: (.int 0 0) :: (.ref 1352) :: (.int 1139 0) :: (.int 0 0) :: (.ref 1372) :: (.int 1141 0) :: (.int 0 0) :: (.ref 1379) :: (.int 1145 0) :: (.int 0 0) :: (l_12_33 P)
def l_12_35 (P : Params) : List Value := (.int 1043 0) :: (.int 0 0) :: (.ref 1281) :: (.int 1047 0) :: (.int 0 0) :: (.ref 1286) :: (.int 1058 0) :: (.int 0 0) :: (.ref 1291) :: (.int 1068 0) :: (.int 0 0) :: (.ref 1298) :: (.int 1075 0) :: (.int 0 0) :: (.ref 1303) :: (.int 1077 0) :: (.int 0 0) :: (.ref 1308) :: (.int 1083 0) :: (.int 0 0) :: (.ref 1313) :: (.int 1094 0) :: (.int 0 0) :: (.ref 1318) :: (.int 1102 0) :: (l_12_34 P)
def l_12_36 (P : Params) : List Value := (.ref 1228) :: (.int 991 0) :: (.int 0 0) :: (.ref 1235) :: (.int 994 0) :: (.int 0 0) :: (.ref 1242) :: (.int 1004 0) :: (.int 0 0) :: (.ref 1247) :: (.int 1013 0) :: (.int 0 0) :: (.ref 1252) :: (.int 1017 0) :: (.int 0 0) :: (.ref 1259) :: (.int 1020 0) :: (.int 0 0) :: (.ref 1264) :: (.int 1028 0) :: (.int 0 0) :: (.ref 1269) :: (.int 1034 0) :: (.int 0 0) :: (.ref 1274) :: (l_12_35 P)
def l_12_37 (P : Params) : List Value := (.int 0 0) :: (.ref 1180) :: (.int 945 0) :: (.int 0 0) :: (.ref 1185) :: (.int 953 0) :: (.int 0 0) :: (.ref 1192) :: (.int 961 0) :: (.int 0 0) :: (.ref 1197) :: (.int 964 0) :: (.int 0 0) :: (.ref 1202) :: (.int 969 0) :: (.int 0 0) :: (.ref 1209) :: (.int 971 0) :: (.int 0 0) :: (.ref 1216) :: (.int 983 0) :: (.int 0 0) :: (.ref 1223) :: (.int 987 0) :: (.int 0 0) :: (l_12_36 P)
def l_12_38 (P : Params) : List Value := (.int 888 0) :: (.int 0 0) :: (.ref 1130) :: (.int 890 0) :: (.int 0 0) :: (.ref 1135) :: (.int 901 0) :: (.int 0 0) :: (.ref 1142) :: (.int 913 0) :: (.int 0 0) :: (.ref 1149) :: (.int 918 0) :: (.int 0 0) :: (.ref 1156) :: (.int 927 0) :: (.int 0 0) :: (.ref 1163) :: (.int 936 0) :: (.int 0 0) :: (.ref 1168) :: (.int 938 0) :: (.int 0 0) :: (.ref 1175) :: (.int 940 0) :: (l_12_37 P)
def l_12_39 (P : Params) : List Value := (.ref 1073) :: (.int 827 0) :: (.int 0 0) :: (.ref 1078) :: (.int 832 0) :: (.int 0 0) :: (.ref 1085) :: (.int 841 0) :: (.int 0 0) :: (.ref 1092) :: (.int 848 0) :: (.int 0 0) :: (.ref 1097) :: (.int 853 0) :: (.int 0 0) :: (.ref 1104) :: (.int 856 0) :: (.int 0 0) :: (.ref 1111) :: (.int 859 0) :: (.int 0 0) :: (.ref 1116) :: (.int 885 0) :: (.int 0 0) :: (.ref 1123) :: (l_12_38 P)
def l_12_40 (P : Params) : List Value := (.int 0 0) :: (.ref 1021) :: (.int 776 0) :: (.int 0 0) :: (.ref 1028) :: (.int 778 0) :: (.int 0 0) :: (.ref 1035) :: (.int 785 0) :: (.int 0 0) :: (.ref 1042) :: (.int 794 0) :: (.int 0 0) :: (.ref 1049) :: (.int 802 0) :: (.int 0 0) :: (.ref 1056) :: (.int 809 0) :: (.int 0 0) :: (.ref 1063) :: (.int 814 0) :: (.int 0 0) :: (.ref 1068) :: (.int 816 0) :: (.int 0 0) :: (l_12_39 P)
def l_12_41 (P : Params) : List Value := (.int 712 0) :: (.int 0 0) :: (.ref 960) :: (.int 715 0) :: (.int 0 0) :: (.ref 967) :: (.int 723 0) :: (.int 0 0) :: (.ref 972) :: (.int 731 0) :: (.int 0 0) :: (.ref 979) :: (.int 735 0) :: (.int 0 0) :: (.ref 987) :: (.int 743 0) :: (.int 0 0) :: (.ref 992) :: (.int 746 0) :: (.int 0 0) :: (.ref 997) :: (.int 755 0) :: (.int 0 0) :: (.ref 1004) :: (.int 765 0) :: (l_12_40 P)
def l_12_42 (P : Params) : List Value := (.ref 907) :: (.int 659 0) :: (.int 0 0) :: (.ref 912) :: (.int 665 0) :: (.int 0 0) :: (.ref 917) :: (.int 676 0) :: (.int 0 0) :: (.ref 922) :: (.int 679 0) :: (.int 0 0) :: (.ref 927) :: (.int 681 0) :: (.int 0 0) :: (.ref 934) :: (.int 695 0) :: (.int 0 0) :: (.ref 939) :: (.int 699 0) :: (.int 0 0) :: (.ref 946) :: (.int 707 0) :: (.int 0 0) :: (.ref 953) :: (l_12_41 P)
def l_12_43 (P : Params) : List Value := (.int 0 0) :: (.ref 809) :: (.int 621 0) :: (.int 0 0) :: (.ref 816) :: (.int 625 0) :: (.int 0 0) :: (.ref 823) :: (.int 627 0) :: (.int 0 0) :: (.ref 830) :: (.int 637 0) :: (.int 0 0) :: (.ref 837) :: (.int 641 0) :: (.int 0 0) :: (.ref 858) :: (.int 646 0) :: (.int 0 0) :: (.ref 879) :: (.int 653 0) :: (.int 0 0) :: (.ref 900) :: (.int 655 0) :: (.int 0 0) :: (l_12_42 P)
def l_12_44 (P : Params) : List Value := (.int 557 0) :: (.int 0 0) :: (.ref 755) :: (.int 567 0) :: (.int 0 0) :: (.ref 762) :: (.int 575 0) :: (.int 0 0) :: (.ref 769) :: (.int 584 0) :: (.int 0 0) :: (.ref 776) :: (.int 592 0) :: (.int 0 0) :: (.ref 783) :: (.int 602 0) :: (.int 0 0) :: (.ref 788) :: (.int 606 0) :: (.int 0 0) :: (.ref 795) :: (.int 611 0) :: (.int 0 0) :: (.ref 802) :: (.int 614 0) :: (l_12_43 P)
def l_12_45 (P : Params) : List Value := (.ref 686) :: (.int 473 0) :: (.int 0 0) :: (.ref 691) :: (.int 495 0) :: (.int 0 0) :: (.ref 698) :: (.int 507 0) :: (.int 0 0) :: (.ref 705) :: (.int 513 0) :: (.int 0 0) :: (.ref 724) :: (.int 524 0) :: (.int 0 0) :: (.ref 731) :: (.int 531 0) :: (.int 0 0) :: (.ref 738) :: (.int 540 0) :: (.int 0 0) :: (.ref 743) :: (.int 552 0) :: (.int 0 0) :: (.ref 748) :: (l_12_44 P)
def l_12_46 (P : Params) : List Value := (.int 0 0) :: (.ref 632) :: (.int 425 0) :: (.int 0 0) :: (.ref 639) :: (.int 432 0) :: (.int 0 0) :: (.ref 646) :: (.int 434 0) :: (.int 0 0) :: (.ref 653) :: (.int 436 0) :: (.int 0 0) :: (.ref 660) :: (.int 440 0) :: (.int 0 0) :: (.ref 667) :: (.int 452 0) :: (.int 0 0) :: (.ref 674) :: (.int 462 0) :: (.int 0 0) :: (.ref 681) :: (.int 470 0) :: (.int 0 0) :: (l_12_45 P)
def l_12_47 (P : Params) : List Value := (.int 350 0) :: (.int 0 0) :: (.ref 576) :: (.int 354 0) :: (.int 0 0) :: (.ref 583) :: (.int 361 0) :: (.int 0 0) :: (.ref 590) :: (.int 366 0) :: (.int 0 0) :: (.ref 597) :: (.int 379 0) :: (.int 0 0) :: (.ref 604) :: (.int 389 0) :: (.int 0 0) :: (.ref 611) :: (.int 395 0) :: (.int 0 0) :: (.ref 618) :: (.int 406 0) :: (.int 0 0) :: (.ref 625) :: (.int 410 0) :: (l_12_46 P)
def l_12_48 (P : Params) : List Value := (.ref 513) :: (.int 288 0) :: (.int 0 0) :: (.ref 520) :: (.int 298 0) :: (.int 0 0) :: (.ref 527) :: (.int 307 0) :: (.int 0 0) :: (.ref 534) :: (.int 312 0) :: (.int 0 0) :: (.ref 541) :: (.int 316 0) :: (.int 0 0) :: (.ref 548) :: (.int 327 0) :: (.int 0 0) :: (.ref 555) :: (.int 339 0) :: (.int 0 0) :: (.ref 562) :: (.int 345 0) :: (.int 0 0) :: (.ref 569) :: (l_12_47 P)
def l_12_49 (P : Params) : List Value := (.int 0 0) :: (.ref 459) :: (.int 239 0) :: (.int 0 0) :: (.ref 466) :: (.int 245 0) :: (.int 0 0) :: (.ref 473) :: (.int 251 0) :: (.int 0 0) :: (.ref 480) :: (.int 256 0) :: (.int 0 0) :: (.ref 487) :: (.int 258 0) :: (.int 0 0) :: (.ref 492) :: (.int 260 0) :: (.int 0 0) :: (.ref 499) :: (.int 265 0) :: (.int 0 0) :: (.ref 506) :: (.int 275 0) :: (.int 0 0) :: (l_12_48 P)
def l_12_50 (P : Params) : List Value := (.int 122 0) :: (.int 0 0) :: (.ref 301) :: (.int 134 0) :: (.int 0 0) :: (.ref 309) :: (.int 152 0) :: (.int 0 0) :: (.ref 316) :: (.int 159 0) :: (.int 0 0) :: (.ref 337) :: (.int 219 0) :: (.int 0 0) :: (.ref 433) :: (.int 221 0) :: (.int 0 0) :: (.ref 438) :: (.int 224 0) :: (.int 0 0) :: (.ref 445) :: (.int 233 0) :: (.int 0 0) :: (.ref 452) :: (.int 235 0) :: (l_12_49 P)
def l_12_51 (P : Params) : List Value := (.ref 212) :: (.int 55 0) :: (.int 0 0) :: (.ref 219) :: (.int 64 0) :: (.int 0 0) :: (.ref 226) :: (.int 69 0) :: (.int 0 0) :: (.ref 233) :: (.int 73 0) :: (.int 0 0) :: (.ref 240) :: (.int 81 0) :: (.int 0 0) :: (.ref 247) :: (.int 87 0) :: (.int 0 0) :: (.ref 254) :: (.int 108 0) :: (.int 0 0) :: (.ref 289) :: (.int 110 0) :: (.int 0 0) :: (.ref 294) :: (l_12_50 P)
def l_12_52 (P : Params) : List Value := (.int 0 0) :: (.ref 137) :: (.int 29 0) :: (.int 0 0) :: (.ref 149) :: (.int 31 0) :: (.int 0 0) :: (.ref 161) :: (.int 33 0) :: (.int 0 0) :: (.ref 173) :: (.int 41 0) :: (.int 0 0) :: (.ref 188) :: (.int 43 0) :: (.int 0 0) :: (.ref 195) :: (.int 45 0) :: (.int 0 0) :: (.ref 202) :: (.int 47 0) :: (.int 0 0) :: (.ref 207) :: (.int 51 0) :: (.int 0 0) :: (l_12_51 P)
def l_12_53 (P : Params) : List Value := (.int 1 0) :: (.int 0 0) :: (.ref 20) :: (.int 5 0) :: (.int 0 0) :: (.ref 27) :: (.int 7 0) :: (.int 0 0) :: (.ref 40) :: (.int 11 0) :: (.int 0 0) :: (.ref 60) :: (.int 16 0) :: (.int 0 0) :: (.ref 81) :: (.int 18 0) :: (.int 0 0) :: (.ref 93) :: (.int 23 0) :: (.int 0 0) :: (.ref 113) :: (.int 25 0) :: (.int 0 0) :: (.ref 125) :: (.int 27 0) :: (l_12_52 P)
def o_12_3 (P : Params) : Obj := ⟨.none, none, .fields (List.toArray (l_12_53 P)), (List.toArray [])⟩
def o_853 (P : Params) : Obj := ⟨(.type "tuple"), none, .seq (List.toArray []) 0, (List.toArray [])⟩
def o_854 (P : Params) : Obj := ⟨(.type "builtin_function_or_method"), none, .fields (List.toArray [(.builtin "type.__prepare__"), (.type "type")]), (List.toArray [])⟩
def o_855 (P : Params) : Obj := ⟨(.type "dict"), none, .dict (List.toArray [⟨(PyData.keyHash P (S "__module__")), (.str (S "__module__") 1517), (.str (S "leanscript.edits") 1479)⟩, ⟨(PyData.keyHash P (S "__qualname__")), (.str (S "__qualname__") 1519), (.str (S "Change") 1518)⟩, ⟨(PyData.keyHash P (S "__firstlineno__")), (.str (S "__firstlineno__") 1521), (.int 641 1520)⟩, ⟨(PyData.keyHash P (S "__init__")), (.str (S "__init__") 1530), (.ref 866)⟩, ⟨(PyData.keyHash P (S "__static_attributes__")), (.str (S "__static_attributes__") 1533), (.ref 867)⟩]) 5, (List.toArray [])⟩
def o_856 (P : Params) : Obj := ⟨(.type "tuple"), none, .seq (List.toArray []) 0, (List.toArray [])⟩
def o_857 (P : Params) : Obj := ⟨.none, none, .fields (List.toArray [(.int 643 0), (.int 4 0), (.ref 865)]), (List.toArray [])⟩
def o_858 (P : Params) : Obj := ⟨(.type "code"), none, .fields (List.toArray [(.str (S "Change") 1512), (.str (S "Change") 1513), (.str (S "/claim/cut.py") 1514), (.int 641 0), (.int 0 0), (.int 0 0), (.int 0 0), (.int 0 0), (.ref 856), (.bool false), (.int 181 0), (.ref 857), .none, .none, .none, .none, (.int 1515 0), (.int 641 0), (.str (S "/claim/cut.py") 1516)]), (List.toArray [])⟩
def o_859 (P : Params) : Obj := ⟨(.type "frame"), none, .plain, (List.toArray [(some (.ref 858)), (some (.ref 3)), (some (.ref 855)), none, (some (.str (S "leanscript.edits") 1479)), none, (some (.ref 0))])⟩
def o_860 (P : Params) : Obj := ⟨(.type "tuple"), none, .seq (List.toArray []) 0, (List.toArray [])⟩
def o_861 (P : Params) : Obj := ⟨.none, none, .fields (List.toArray []), (List.toArray [])⟩
def o_862 (P : Params) : Obj := ⟨(.type "tuple"), none, .seq (List.toArray [(.str (S "self") 1525), (.str (S "things") 1526), (.str (S "whence") 1527)]) 0, (List.toArray [])⟩
def o_863 (P : Params) : Obj := ⟨(.type "tuple"), none, .seq (List.toArray []) 0, (List.toArray [])⟩
def o_864 (P : Params) : Obj := ⟨.none, none, fnO (L2.inClass (My.top 116) 0) (S "__init__") (S "Change.__init__") 0 .none .none .none .none none .none .none 0, (List.toArray [])⟩
def o_865 (P : Params) : Obj := ⟨(.type "code"), none, .fields (List.toArray [(.str (S "__init__") 1522), (.str (S "Change.__init__") 1523), (.str (S "/claim/cut.py") 1524), (.int 643 0), (.int 3 0), (.int 0 0), (.int 0 0), (.int 3 0), (.ref 860), (.bool true), (.int 181 0), (.ref 861), .none, (.ref 862), (.ref 863), (.ref 864), (.int 1528 0), (.int 643 0), (.str (S "/claim/cut.py") 1529)]), (List.toArray [])⟩
def o_866 (P : Params) : Obj := ⟨(.type "function"), none, fnO (L2.inClass (My.top 116) 0) (S "__init__") (S "Change.__init__") 3 .none .none .none (.str (S "leanscript.edits") 1479) none (.ref 865) .none 0, (List.toArray [])⟩
def o_867 (P : Params) : Obj := ⟨(.type "tuple"), none, .seq (List.toArray [(.str (S "things") 1531), (.str (S "whence") 1532)]) 0, (List.toArray [])⟩
def o_868 (P : Params) : Obj := ⟨(.type "dict"), none, .dict (List.toArray [⟨(PyData.keyHash P (S "__module__")), (.str (S "__module__") 1517), (.str (S "leanscript.edits") 1479)⟩, ⟨(PyData.keyHash P (S "__firstlineno__")), (.str (S "__firstlineno__") 1521), (.int 641 1520)⟩, ⟨(PyData.keyHash P (S "__init__")), (.str (S "__init__") 1530), (.ref 866)⟩, ⟨(PyData.keyHash P (S "__static_attributes__")), (.str (S "__static_attributes__") 1533), (.ref 867)⟩, ⟨(PyData.keyHash P (S "__dict__")), (.str (S "__dict__") 1535), (.ref 870)⟩, ⟨(PyData.keyHash P (S "__weakref__")), (.str (S "__weakref__") 1537), (.ref 871)⟩, ⟨(PyData.keyHash P (S "__doc__")), (.str (S "__doc__") 1538), .none⟩]) 4, (List.toArray [])⟩
def o_869 (P : Params) : Obj := ⟨(.type "type"), none, .cls ⟨(S "Change"), [(.type "object")], [(.ref 869), (.type "object")], 868, (S "Change"), true, [], [], false, none, false⟩, (List.toArray [none, none, (some (.str (S "Change") 1510)), (some (.str (S "Change") 1518)), (some (.builtin "object.__new__")), (some (.bool true))])⟩
def o_870 (P : Params) : Obj := ⟨(.type "getset_descriptor"), none, .fields (List.toArray [(.str (S "__dict__") 1534), (.ref 869), (.builtin "function.__dict__"), (.builtin "function.__dict__#set")]), (List.toArray [])⟩
def o_871 (P : Params) : Obj := ⟨(.type "getset_descriptor"), none, .fields (List.toArray [(.str (S "__weakref__") 1536), (.ref 869), (.builtin "ExceptionGroup.__weakref__"), .none]), (List.toArray [])⟩
def o_872 (P : Params) : Obj := ⟨(.type "super"), none, .fields (List.toArray [(.ref 869), (.ref 869), (.ref 869)]), (List.toArray [])⟩
def o_873 (P : Params) : Obj := ⟨(.type "builtin_function_or_method"), none, .fields (List.toArray [(.builtin "object.__init_subclass__"), (.ref 869)]), (List.toArray [])⟩
def o_874 (P : Params) : Obj := ⟨(.type "tuple"), none, .seq (List.toArray []) 0, (List.toArray [])⟩
def o_875 (P : Params) : Obj := ⟨(.type "builtin_function_or_method"), none, .fields (List.toArray [(.builtin "type.__prepare__"), (.type "type")]), (List.toArray [])⟩
def o_876 (P : Params) : Obj := ⟨(.type "dict"), none, .dict (List.toArray [⟨(PyData.keyHash P (S "__module__")), (.str (S "__module__") 1548), (.str (S "leanscript.edits") 1479)⟩, ⟨(PyData.keyHash P (S "__qualname__")), (.str (S "__qualname__") 1550), (.str (S "Trail") 1549)⟩, ⟨(PyData.keyHash P (S "__firstlineno__")), (.str (S "__firstlineno__") 1552), (.int 646 1551)⟩, ⟨(PyData.keyHash P (S "__init__")), (.str (S "__init__") 1562), (.ref 887)⟩, ⟨(PyData.keyHash P (S "__static_attributes__")), (.str (S "__static_attributes__") 1567), (.ref 888)⟩]) 5, (List.toArray [])⟩
def o_877 (P : Params) : Obj := ⟨(.type "tuple"), none, .seq (List.toArray []) 0, (List.toArray [])⟩
def o_878 (P : Params) : Obj := ⟨.none, none, .fields (List.toArray [(.int 648 0), (.int 4 0), (.ref 886)]), (List.toArray [])⟩
def o_879 (P : Params) : Obj := ⟨(.type "code"), none, .fields (List.toArray [(.str (S "Trail") 1543), (.str (S "Trail") 1544), (.str (S "/claim/cut.py") 1545), (.int 646 0), (.int 0 0), (.int 0 0), (.int 0 0), (.int 0 0), (.ref 877), (.bool false), (.int 181 0), (.ref 878), .none, .none, .none, .none, (.int 1546 0), (.int 646 0), (.str (S "/claim/cut.py") 1547)]), (List.toArray [])⟩
def o_880 (P : Params) : Obj := ⟨(.type "frame"), none, .plain, (List.toArray [(some (.ref 879)), (some (.ref 3)), (some (.ref 876)), none, (some (.str (S "leanscript.edits") 1479)), none, (some (.ref 0))])⟩
def o_881 (P : Params) : Obj := ⟨(.type "tuple"), none, .seq (List.toArray []) 0, (List.toArray [])⟩
def o_882 (P : Params) : Obj := ⟨.none, none, .fields (List.toArray []), (List.toArray [])⟩
def o_883 (P : Params) : Obj := ⟨(.type "tuple"), none, .seq (List.toArray [(.str (S "self") 1556), (.str (S "tree") 1557), (.str (S "changes") 1558), (.str (S "origins") 1559)]) 0, (List.toArray [])⟩
def o_884 (P : Params) : Obj := ⟨(.type "tuple"), none, .seq (List.toArray []) 0, (List.toArray [])⟩
def o_885 (P : Params) : Obj := ⟨.none, none, fnO (L2.inClass (My.top 117) 0) (S "__init__") (S "Trail.__init__") 0 .none .none .none .none none .none .none 0, (List.toArray [])⟩
def o_886 (P : Params) : Obj := ⟨(.type "code"), none, .fields (List.toArray [(.str (S "__init__") 1553), (.str (S "Trail.__init__") 1554), (.str (S "/claim/cut.py") 1555), (.int 648 0), (.int 4 0), (.int 0 0), (.int 0 0), (.int 3 0), (.ref 881), (.bool true), (.int 181 0), (.ref 882), .none, (.ref 883), (.ref 884), (.ref 885), (.int 1560 0), (.int 648 0), (.str (S "/claim/cut.py") 1561)]), (List.toArray [])⟩
def o_887 (P : Params) : Obj := ⟨(.type "function"), none, fnO (L2.inClass (My.top 117) 0) (S "__init__") (S "Trail.__init__") 3 .none .none .none (.str (S "leanscript.edits") 1479) none (.ref 886) .none 0, (List.toArray [])⟩
def o_888 (P : Params) : Obj := ⟨(.type "tuple"), none, .seq (List.toArray [(.str (S "changes") 1563), (.str (S "origins") 1564), (.str (S "told") 1565), (.str (S "whole") 1566)]) 0, (List.toArray [])⟩
def o_889 (P : Params) : Obj := ⟨(.type "dict"), none, .dict (List.toArray [⟨(PyData.keyHash P (S "__module__")), (.str (S "__module__") 1548), (.str (S "leanscript.edits") 1479)⟩, ⟨(PyData.keyHash P (S "__firstlineno__")), (.str (S "__firstlineno__") 1552), (.int 646 1551)⟩, ⟨(PyData.keyHash P (S "__init__")), (.str (S "__init__") 1562), (.ref 887)⟩, ⟨(PyData.keyHash P (S "__static_attributes__")), (.str (S "__static_attributes__") 1567), (.ref 888)⟩, ⟨(PyData.keyHash P (S "__dict__")), (.str (S "__dict__") 1569), (.ref 891)⟩, ⟨(PyData.keyHash P (S "__weakref__")), (.str (S "__weakref__") 1571), (.ref 892)⟩, ⟨(PyData.keyHash P (S "__doc__")), (.str (S "__doc__") 1572), .none⟩]) 4, (List.toArray [])⟩
def o_890 (P : Params) : Obj := ⟨(.type "type"), none, .cls ⟨(S "Trail"), [(.type "object")], [(.ref 890), (.type "object")], 889, (S "Trail"), true, [], [], false, none, false⟩, (List.toArray [none, none, (some (.str (S "Trail") 1541)), (some (.str (S "Trail") 1549)), (some (.builtin "object.__new__")), (some (.bool true))])⟩
def o_891 (P : Params) : Obj := ⟨(.type "getset_descriptor"), none, .fields (List.toArray [(.str (S "__dict__") 1568), (.ref 890), (.builtin "function.__dict__"), (.builtin "function.__dict__#set")]), (List.toArray [])⟩
def o_892 (P : Params) : Obj := ⟨(.type "getset_descriptor"), none, .fields (List.toArray [(.str (S "__weakref__") 1570), (.ref 890), (.builtin "ExceptionGroup.__weakref__"), .none]), (List.toArray [])⟩
def o_893 (P : Params) : Obj := ⟨(.type "super"), none, .fields (List.toArray [(.ref 890), (.ref 890), (.ref 890)]), (List.toArray [])⟩
def o_894 (P : Params) : Obj := ⟨(.type "builtin_function_or_method"), none, .fields (List.toArray [(.builtin "object.__init_subclass__"), (.ref 890)]), (List.toArray [])⟩
def o_895 (P : Params) : Obj := ⟨(.type "tuple"), none, .seq (List.toArray []) 0, (List.toArray [])⟩
def o_896 (P : Params) : Obj := ⟨.none, none, .fields (List.toArray []), (List.toArray [])⟩
def o_897 (P : Params) : Obj := ⟨(.type "tuple"), none, .seq (List.toArray [(.str (S "path") 1578), (.str (S "thing") 1579)]) 0, (List.toArray [])⟩
def o_898 (P : Params) : Obj := ⟨(.type "tuple"), none, .seq (List.toArray []) 0, (List.toArray [])⟩
def o_899 (P : Params) : Obj := ⟨.none, none, fnO (My.top 118) (S "instead") (S "instead") 0 .none .none .none .none none .none .none 0, (List.toArray [])⟩
def o_900 (P : Params) : Obj := ⟨(.type "code"), none, .fields (List.toArray [(.str (S "instead") 1575), (.str (S "instead") 1576), (.str (S "/claim/cut.py") 1577), (.int 653 0), (.int 2 0), (.int 0 0), (.int 0 0), (.int 3 0), (.ref 895), (.bool true), (.int 181 0), (.ref 896), .none, (.ref 897), (.ref 898), (.ref 899), (.int 1580 0), (.int 653 0), (.str (S "/claim/cut.py") 1581)]), (List.toArray [])⟩
def o_901 (P : Params) : Obj := ⟨(.type "function"), none, fnO (My.top 118) (S "instead") (S "instead") 3 .none .none .none (.str (S "leanscript.edits") 1479) none (.ref 900) .none 0, (List.toArray [])⟩
def o_902 (P : Params) : Obj := ⟨(.type "tuple"), none, .seq (List.toArray []) 0, (List.toArray [])⟩
def o_903 (P : Params) : Obj := ⟨.none, none, .fields (List.toArray []), (List.toArray [])⟩
def o_904 (P : Params) : Obj := ⟨(.type "tuple"), none, .seq (List.toArray [(.str (S "tree") 1586), (.str (S "path") 1587), (.str (S "step") 1588)]) 0, (List.toArray [])⟩
def o_905 (P : Params) : Obj := ⟨(.type "tuple"), none, .seq (List.toArray []) 0, (List.toArray [])⟩
def o_906 (P : Params) : Obj := ⟨.none, none, fnO (My.top 119) (S "thing_at") (S "thing_at") 0 .none .none .none .none none .none .none 0, (List.toArray [])⟩
def o_907 (P : Params) : Obj := ⟨(.type "code"), none, .fields (List.toArray [(.str (S "thing_at") 1583), (.str (S "thing_at") 1584), (.str (S "/claim/cut.py") 1585), (.int 655 0), (.int 2 0), (.int 0 0), (.int 0 0), (.int 3 0), (.ref 902), (.bool true), (.int 181 0), (.ref 903), .none, (.ref 904), (.ref 905), (.ref 906), (.int 1589 0), (.int 655 0), (.str (S "/claim/cut.py") 1590)]), (List.toArray [])⟩
def o_908 (P : Params) : Obj := ⟨(.type "function"), none, fnO (My.top 119) (S "thing_at") (S "thing_at") 3 .none .none .none (.str (S "leanscript.edits") 1479) none (.ref 907) .none 0, (List.toArray [])⟩
def o_909 (P : Params) : Obj := ⟨(.type "tuple"), none, .seq (List.toArray []) 0, (List.toArray [])⟩
def o_910 (P : Params) : Obj := ⟨.none, none, .fields (List.toArray []), (List.toArray [])⟩
def o_911 (P : Params) : Obj := ⟨.none, none, fnO (My.top 120) (S "built") (S "built") 0 .none .none .none .none none .none .none 0, (List.toArray [])⟩
def o_912 (P : Params) : Obj := ⟨(.type "code"), none, .fields (List.toArray [(.str (S "built") 1592), (.str (S "built") 1593), (.str (S "/claim/cut.py") 1594), (.int 659 0), (.int 2 0), (.int 0 0), (.int 0 0), (.int 3 0), (.ref 909), (.bool true), (.int 181 0), (.ref 910), .none, .none, .none, (.ref 911), (.int 1595 0), (.int 659 0), (.str (S "/claim/cut.py") 1596)]), (List.toArray [])⟩
def o_913 (P : Params) : Obj := ⟨(.type "function"), none, fnO (My.top 120) (S "built") (S "built") 3 .none .none .none (.str (S "leanscript.edits") 1479) none (.ref 912) .none 0, (List.toArray [])⟩
def o_914 (P : Params) : Obj := ⟨(.type "tuple"), none, .seq (List.toArray []) 0, (List.toArray [])⟩
def o_915 (P : Params) : Obj := ⟨.none, none, .fields (List.toArray []), (List.toArray [])⟩
def o_916 (P : Params) : Obj := ⟨.none, none, fnO (My.top 121) (S "remade") (S "remade") 0 .none .none .none .none none .none .none 0, (List.toArray [])⟩
def o_917 (P : Params) : Obj := ⟨(.type "code"), none, .fields (List.toArray [(.str (S "remade") 1598), (.str (S "remade") 1599), (.str (S "/claim/cut.py") 1600), (.int 665 0), (.int 5 0), (.int 0 0), (.int 0 0), (.int 3 0), (.ref 914), (.bool true), (.int 181 0), (.ref 915), .none, .none, .none, (.ref 916), (.int 1601 0), (.int 665 0), (.str (S "/claim/cut.py") 1602)]), (List.toArray [])⟩
def o_918 (P : Params) : Obj := ⟨(.type "function"), none, fnO (My.top 121) (S "remade") (S "remade") 3 .none .none .none (.str (S "leanscript.edits") 1479) none (.ref 917) .none 0, (List.toArray [])⟩
def o_919 (P : Params) : Obj := ⟨(.type "tuple"), none, .seq (List.toArray []) 0, (List.toArray [])⟩
def o_920 (P : Params) : Obj := ⟨.none, none, .fields (List.toArray []), (List.toArray [])⟩
def o_921 (P : Params) : Obj := ⟨.none, none, fnO (My.top 122) (S "changed") (S "changed") 0 .none .none .none .none none .none .none 0, (List.toArray [])⟩
def o_922 (P : Params) : Obj := ⟨(.type "code"), none, .fields (List.toArray [(.str (S "changed") 1604), (.str (S "changed") 1605), (.str (S "/claim/cut.py") 1606), (.int 676 0), (.int 2 0), (.int 0 0), (.int 0 0), (.int 3 0), (.ref 919), (.bool true), (.int 181 0), (.ref 920), .none, .none, .none, (.ref 921), (.int 1607 0), (.int 676 0), (.str (S "/claim/cut.py") 1608)]), (List.toArray [])⟩
def o_923 (P : Params) : Obj := ⟨(.type "function"), none, fnO (My.top 122) (S "changed") (S "changed") 3 .none .none .none (.str (S "leanscript.edits") 1479) none (.ref 922) .none 0, (List.toArray [])⟩
def o_924 (P : Params) : Obj := ⟨(.type "tuple"), none, .seq (List.toArray []) 0, (List.toArray [])⟩
def o_925 (P : Params) : Obj := ⟨.none, none, .fields (List.toArray []), (List.toArray [])⟩
def o_926 (P : Params) : Obj := ⟨.none, none, fnO (My.top 123) (S "least_stretch") (S "least_stretch") 0 .none .none .none .none none .none .none 0, (List.toArray [])⟩
def o_927 (P : Params) : Obj := ⟨(.type "code"), none, .fields (List.toArray [(.str (S "least_stretch") 1610), (.str (S "least_stretch") 1611), (.str (S "/claim/cut.py") 1612), (.int 679 0), (.int 1 0), (.int 0 0), (.int 0 0), (.int 3 0), (.ref 924), (.bool true), (.int 181 0), (.ref 925), .none, .none, .none, (.ref 926), (.int 1613 0), (.int 679 0), (.str (S "/claim/cut.py") 1614)]), (List.toArray [])⟩
def o_928 (P : Params) : Obj := ⟨(.type "function"), none, fnO (My.top 123) (S "least_stretch") (S "least_stretch") 3 .none .none .none (.str (S "leanscript.edits") 1479) none (.ref 927) .none 0, (List.toArray [])⟩
def o_929 (P : Params) : Obj := ⟨(.type "tuple"), none, .seq (List.toArray []) 0, (List.toArray [])⟩
def o_930 (P : Params) : Obj := ⟨.none, none, .fields (List.toArray []), (List.toArray [])⟩
def o_931 (P : Params) : Obj := ⟨(.type "tuple"), none, .seq (List.toArray [(.str (S "trail") 1619), (.str (S "thing") 1620), (.str (S "path") 1621), (.str (S "place") 1622), (.str (S "many") 1623), (.str (S "at") 1624), (.str (S "inner") 1625), (.str (S "here") 1626)]) 0, (List.toArray [])⟩
def o_932 (P : Params) : Obj := ⟨(.type "tuple"), none, .seq (List.toArray []) 0, (List.toArray [])⟩
def o_933 (P : Params) : Obj := ⟨.none, none, fnO (My.top 124) (S "follow") (S "follow") 0 .none .none .none .none none .none .none 0, (List.toArray [])⟩
def o_934 (P : Params) : Obj := ⟨(.type "code"), none, .fields (List.toArray [(.str (S "follow") 1616), (.str (S "follow") 1617), (.str (S "/claim/cut.py") 1618), (.int 681 0), (.int 4 0), (.int 0 0), (.int 0 0), (.int 3 0), (.ref 929), (.bool true), (.int 181 0), (.ref 930), .none, (.ref 931), (.ref 932), (.ref 933), (.int 1627 0), (.int 681 0), (.str (S "/claim/cut.py") 1628)]), (List.toArray [])⟩
def o_935 (P : Params) : Obj := ⟨(.type "function"), none, fnO (My.top 124) (S "follow") (S "follow") 3 .none .none .none (.str (S "leanscript.edits") 1479) none (.ref 934) .none 0, (List.toArray [])⟩
def o_936 (P : Params) : Obj := ⟨(.type "tuple"), none, .seq (List.toArray []) 0, (List.toArray [])⟩
def o_937 (P : Params) : Obj := ⟨.none, none, .fields (List.toArray []), (List.toArray [])⟩
def o_938 (P : Params) : Obj := ⟨.none, none, fnO (My.top 125) (S "follow_change") (S "follow_change") 0 .none .none .none .none none .none .none 0, (List.toArray [])⟩
def o_939 (P : Params) : Obj := ⟨(.type "code"), none, .fields (List.toArray [(.str (S "follow_change") 1630), (.str (S "follow_change") 1631), (.str (S "/claim/cut.py") 1632), (.int 695 0), (.int 4 0), (.int 0 0), (.int 0 0), (.int 3 0), (.ref 936), (.bool true), (.int 181 0), (.ref 937), .none, .none, .none, (.ref 938), (.int 1633 0), (.int 695 0), (.str (S "/claim/cut.py") 1634)]), (List.toArray [])⟩
def o_940 (P : Params) : Obj := ⟨(.type "function"), none, fnO (My.top 125) (S "follow_change") (S "follow_change") 3 .none .none .none (.str (S "leanscript.edits") 1479) none (.ref 939) .none 0, (List.toArray [])⟩
def o_941 (P : Params) : Obj := ⟨(.type "tuple"), none, .seq (List.toArray []) 0, (List.toArray [])⟩
def o_942 (P : Params) : Obj := ⟨.none, none, .fields (List.toArray []), (List.toArray [])⟩
def o_943 (P : Params) : Obj := ⟨(.type "tuple"), none, .seq (List.toArray [(.str (S "trail") 1639), (.str (S "thing") 1640), (.str (S "stretch") 1641), (.str (S "place") 1642), (.str (S "at") 1643), (.str (S "inner") 1644)]) 0, (List.toArray [])⟩
def o_944 (P : Params) : Obj := ⟨(.type "tuple"), none, .seq (List.toArray []) 0, (List.toArray [])⟩
def o_945 (P : Params) : Obj := ⟨.none, none, fnO (My.top 126) (S "follow_made") (S "follow_made") 0 .none .none .none .none none .none .none 0, (List.toArray [])⟩
def o_946 (P : Params) : Obj := ⟨(.type "code"), none, .fields (List.toArray [(.str (S "follow_made") 1636), (.str (S "follow_made") 1637), (.str (S "/claim/cut.py") 1638), (.int 699 0), (.int 4 0), (.int 0 0), (.int 0 0), (.int 3 0), (.ref 941), (.bool true), (.int 181 0), (.ref 942), .none, (.ref 943), (.ref 944), (.ref 945), (.int 1645 0), (.int 699 0), (.str (S "/claim/cut.py") 1646)]), (List.toArray [])⟩
def o_947 (P : Params) : Obj := ⟨(.type "function"), none, fnO (My.top 126) (S "follow_made") (S "follow_made") 3 .none .none .none (.str (S "leanscript.edits") 1479) none (.ref 946) .none 0, (List.toArray [])⟩
def o_948 (P : Params) : Obj := ⟨(.type "tuple"), none, .seq (List.toArray []) 0, (List.toArray [])⟩
def o_949 (P : Params) : Obj := ⟨.none, none, .fields (List.toArray []), (List.toArray [])⟩
def o_950 (P : Params) : Obj := ⟨(.type "tuple"), none, .seq (List.toArray [(.str (S "tree") 1651), (.str (S "changes") 1652), (.str (S "origins") 1653), (.str (S "trail") 1654)]) 0, (List.toArray [])⟩
def o_951 (P : Params) : Obj := ⟨(.type "tuple"), none, .seq (List.toArray []) 0, (List.toArray [])⟩
def o_952 (P : Params) : Obj := ⟨.none, none, fnO (My.top 127) (S "origins_behind") (S "origins_behind") 0 .none .none .none .none none .none .none 0, (List.toArray [])⟩
def o_953 (P : Params) : Obj := ⟨(.type "code"), none, .fields (List.toArray [(.str (S "origins_behind") 1648), (.str (S "origins_behind") 1649), (.str (S "/claim/cut.py") 1650), (.int 707 0), (.int 3 0), (.int 0 0), (.int 0 0), (.int 3 0), (.ref 948), (.bool true), (.int 181 0), (.ref 949), .none, (.ref 950), (.ref 951), (.ref 952), (.int 1655 0), (.int 707 0), (.str (S "/claim/cut.py") 1656)]), (List.toArray [])⟩
def o_954 (P : Params) : Obj := ⟨(.type "function"), none, fnO (My.top 127) (S "origins_behind") (S "origins_behind") 3 .none .none .none (.str (S "leanscript.edits") 1479) none (.ref 953) .none 0, (List.toArray [])⟩
def o_955 (P : Params) : Obj := ⟨(.type "tuple"), none, .seq (List.toArray []) 0, (List.toArray [])⟩
def o_956 (P : Params) : Obj := ⟨.none, none, .fields (List.toArray []), (List.toArray [])⟩
def o_957 (P : Params) : Obj := ⟨(.type "tuple"), none, .seq (List.toArray [(.str (S "tree") 1663)]) 0, (List.toArray [])⟩
def o_958 (P : Params) : Obj := ⟨(.type "tuple"), none, .seq (List.toArray []) 0, (List.toArray [])⟩
def o_959 (P : Params) : Obj := ⟨.none, none, fnO (My.top 129) (S "layout_of") (S "layout_of") 0 .none .none .none .none none .none .none 0, (List.toArray [])⟩
def o_960 (P : Params) : Obj := ⟨(.type "code"), none, .fields (List.toArray [(.str (S "layout_of") 1660), (.str (S "layout_of") 1661), (.str (S "/claim/cut.py") 1662), (.int 712 0), (.int 1 0), (.int 0 0), (.int 0 0), (.int 3 0), (.ref 955), (.bool true), (.int 181 0), (.ref 956), .none, (.ref 957), (.ref 958), (.ref 959), (.int 1664 0), (.int 712 0), (.str (S "/claim/cut.py") 1665)]), (List.toArray [])⟩
def o_961 (P : Params) : Obj := ⟨(.type "function"), none, fnO (My.top 129) (S "layout_of") (S "layout_of") 3 .none .none .none (.str (S "leanscript.rooms") 1658) none (.ref 960) .none 0, (List.toArray [])⟩
def o_962 (P : Params) : Obj := ⟨(.type "tuple"), none, .seq (List.toArray []) 0, (List.toArray [])⟩
def o_963 (P : Params) : Obj := ⟨.none, none, .fields (List.toArray []), (List.toArray [])⟩
def o_964 (P : Params) : Obj := ⟨(.type "tuple"), none, .seq (List.toArray [(.str (S "layout") 1670), (.str (S "told") 1671), (.str (S "path") 1672), (.str (S "part") 1673), (.str (S "_") 1674), (.str (S "room") 1675)]) 0, (List.toArray [])⟩
def o_965 (P : Params) : Obj := ⟨(.type "tuple"), none, .seq (List.toArray []) 0, (List.toArray [])⟩
def o_966 (P : Params) : Obj := ⟨.none, none, fnO (My.top 130) (S "used_names") (S "used_names") 0 .none .none .none .none none .none .none 0, (List.toArray [])⟩
def o_967 (P : Params) : Obj := ⟨(.type "code"), none, .fields (List.toArray [(.str (S "used_names") 1667), (.str (S "used_names") 1668), (.str (S "/claim/cut.py") 1669), (.int 715 0), (.int 1 0), (.int 0 0), (.int 0 0), (.int 3 0), (.ref 962), (.bool true), (.int 181 0), (.ref 963), .none, (.ref 964), (.ref 965), (.ref 966), (.int 1676 0), (.int 715 0), (.str (S "/claim/cut.py") 1677)]), (List.toArray [])⟩
def o_968 (P : Params) : Obj := ⟨(.type "function"), none, fnO (My.top 130) (S "used_names") (S "used_names") 3 .none .none .none (.str (S "leanscript.rooms") 1658) none (.ref 967) .none 0, (List.toArray [])⟩
def o_969 (P : Params) : Obj := ⟨(.type "tuple"), none, .seq (List.toArray []) 0, (List.toArray [])⟩
def o_970 (P : Params) : Obj := ⟨.none, none, .fields (List.toArray []), (List.toArray [])⟩
def o_971 (P : Params) : Obj := ⟨.none, none, fnO (My.top 131) (S "bindings_in") (S "bindings_in") 0 .none .none .none .none none .none .none 0, (List.toArray [])⟩
def o_972 (P : Params) : Obj := ⟨(.type "code"), none, .fields (List.toArray [(.str (S "bindings_in") 1679), (.str (S "bindings_in") 1680), (.str (S "/claim/cut.py") 1681), (.int 723 0), (.int 1 0), (.int 0 0), (.int 0 0), (.int 3 0), (.ref 969), (.bool true), (.int 181 0), (.ref 970), .none, .none, .none, (.ref 971), (.int 1682 0), (.int 723 0), (.str (S "/claim/cut.py") 1683)]), (List.toArray [])⟩
def o_973 (P : Params) : Obj := ⟨(.type "function"), none, fnO (My.top 131) (S "bindings_in") (S "bindings_in") 3 .none .none .none (.str (S "leanscript.rooms") 1658) none (.ref 972) .none 0, (List.toArray [])⟩
def o_974 (P : Params) : Obj := ⟨(.type "tuple"), none, .seq (List.toArray []) 0, (List.toArray [])⟩
def o_975 (P : Params) : Obj := ⟨.none, none, .fields (List.toArray []), (List.toArray [])⟩
def o_976 (P : Params) : Obj := ⟨(.type "tuple"), none, .seq (List.toArray [(.str (S "tree") 1688)]) 0, (List.toArray [])⟩
def o_977 (P : Params) : Obj := ⟨(.type "tuple"), none, .seq (List.toArray []) 0, (List.toArray [])⟩
def o_978 (P : Params) : Obj := ⟨.none, none, fnO (My.top 132) (S "bindings") (S "bindings") 0 .none .none .none .none none .none .none 0, (List.toArray [])⟩
def o_979 (P : Params) : Obj := ⟨(.type "code"), none, .fields (List.toArray [(.str (S "bindings") 1685), (.str (S "bindings") 1686), (.str (S "/claim/cut.py") 1687), (.int 731 0), (.int 1 0), (.int 0 0), (.int 0 0), (.int 3 0), (.ref 974), (.bool true), (.int 181 0), (.ref 975), .none, (.ref 976), (.ref 977), (.ref 978), (.int 1689 0), (.int 731 0), (.str (S "/claim/cut.py") 1690)]), (List.toArray [])⟩
def o_980 (P : Params) : Obj := ⟨(.type "function"), none, fnO (My.top 132) (S "bindings") (S "bindings") 3 .none .none .none (.str (S "leanscript.rooms") 1658) none (.ref 979) .none 0, (List.toArray [])⟩
def o_981 (P : Params) : Obj := ⟨(.type "tuple"), none, .seq (List.toArray [(.str (S "rec") 1694), (.str (S "not") 1695), (.str (S "and") 1696), (.str (S "or") 1697), (.str (S "pick") 1698)]) 0, (List.toArray [])⟩
def o_982 (P : Params) : Obj := ⟨(.type "tuple"), none, .seq (List.toArray []) 0, (List.toArray [])⟩
def o_983 (P : Params) : Obj := ⟨.none, none, .fields (List.toArray []), (List.toArray [])⟩
def o_984 (P : Params) : Obj := ⟨(.type "tuple"), none, .seq (List.toArray [(.str (S "lets") 1703), (.str (S "place") 1704), (.str (S "use") 1705), (.str (S "let") 1706), (.str (S "many") 1707)]) 0, (List.toArray [])⟩
def o_985 (P : Params) : Obj := ⟨(.type "tuple"), none, .seq (List.toArray []) 0, (List.toArray [])⟩
def o_986 (P : Params) : Obj := ⟨.none, none, fnO (My.top 135) (S "is_behind_let") (S "is_behind_let") 0 .none .none .none .none none .none .none 0, (List.toArray [])⟩
def o_987 (P : Params) : Obj := ⟨(.type "code"), none, .fields (List.toArray [(.str (S "is_behind_let") 1700), (.str (S "is_behind_let") 1701), (.str (S "/claim/cut.py") 1702), (.int 735 0), (.int 3 0), (.int 0 0), (.int 0 0), (.int 3 0), (.ref 982), (.bool true), (.int 181 0), (.ref 983), .none, (.ref 984), (.ref 985), (.ref 986), (.int 1708 0), (.int 735 0), (.str (S "/claim/cut.py") 1709)]), (List.toArray [])⟩
def o_988 (P : Params) : Obj := ⟨(.type "function"), none, fnO (My.top 135) (S "is_behind_let") (S "is_behind_let") 3 .none .none .none (.str (S "leanscript.still") 1692) none (.ref 987) .none 0, (List.toArray [])⟩
def o_989 (P : Params) : Obj := ⟨(.type "tuple"), none, .seq (List.toArray []) 0, (List.toArray [])⟩
def o_990 (P : Params) : Obj := ⟨.none, none, .fields (List.toArray []), (List.toArray [])⟩
def o_991 (P : Params) : Obj := ⟨.none, none, fnO (My.top 136) (S "sure_uses") (S "sure_uses") 0 .none .none .none .none none .none .none 0, (List.toArray [])⟩
def o_992 (P : Params) : Obj := ⟨(.type "code"), none, .fields (List.toArray [(.str (S "sure_uses") 1711), (.str (S "sure_uses") 1712), (.str (S "/claim/cut.py") 1713), (.int 743 0), (.int 1 0), (.int 0 0), (.int 0 0), (.int 3 0), (.ref 989), (.bool true), (.int 181 0), (.ref 990), .none, .none, .none, (.ref 991), (.int 1714 0), (.int 743 0), (.str (S "/claim/cut.py") 1715)]), (List.toArray [])⟩
def o_993 (P : Params) : Obj := ⟨(.type "function"), none, fnO (My.top 136) (S "sure_uses") (S "sure_uses") 3 .none .none .none (.str (S "leanscript.still") 1692) none (.ref 992) .none 0, (List.toArray [])⟩
def o_994 (P : Params) : Obj := ⟨(.type "tuple"), none, .seq (List.toArray []) 0, (List.toArray [])⟩
def o_995 (P : Params) : Obj := ⟨.none, none, .fields (List.toArray []), (List.toArray [])⟩
def o_996 (P : Params) : Obj := ⟨.none, none, fnO (My.top 137) (S "is_still_part") (S "is_still_part") 0 .none .none .none .none none .none .none 0, (List.toArray [])⟩
def o_997 (P : Params) : Obj := ⟨(.type "code"), none, .fields (List.toArray [(.str (S "is_still_part") 1717), (.str (S "is_still_part") 1718), (.str (S "/claim/cut.py") 1719), (.int 746 0), (.int 3 0), (.int 0 0), (.int 0 0), (.int 3 0), (.ref 994), (.bool true), (.int 181 0), (.ref 995), .none, .none, .none, (.ref 996), (.int 1720 0), (.int 746 0), (.str (S "/claim/cut.py") 1721)]), (List.toArray [])⟩
def o_998 (P : Params) : Obj := ⟨(.type "function"), none, fnO (My.top 137) (S "is_still_part") (S "is_still_part") 3 .none .none .none (.str (S "leanscript.still") 1692) none (.ref 997) .none 0, (List.toArray [])⟩
def o_999 (P : Params) : Obj := ⟨(.type "tuple"), none, .seq (List.toArray []) 0, (List.toArray [])⟩
def o_1000 (P : Params) : Obj := ⟨(.type "builtin_function_or_method"), none, .fields (List.toArray [(.builtin "type.__prepare__"), (.type "type")]), (List.toArray [])⟩
def o_1001 (P : Params) : Obj := ⟨(.type "dict"), none, .dict (List.toArray [⟨(PyData.keyHash P (S "__module__")), (.str (S "__module__") 1732), (.str (S "leanscript.survey") 1723)⟩, ⟨(PyData.keyHash P (S "__qualname__")), (.str (S "__qualname__") 1734), (.str (S "Survey") 1733)⟩, ⟨(PyData.keyHash P (S "__firstlineno__")), (.str (S "__firstlineno__") 1736), (.int 755 1735)⟩, ⟨(PyData.keyHash P (S "__init__")), (.str (S "__init__") 1742), (.ref 1010)⟩, ⟨(PyData.keyHash P (S "__static_attributes__")), (.str (S "__static_attributes__") 1749), (.ref 1011)⟩]) 5, (List.toArray [])⟩
def o_1002 (P : Params) : Obj := ⟨(.type "tuple"), none, .seq (List.toArray []) 0, (List.toArray [])⟩
def o_1003 (P : Params) : Obj := ⟨.none, none, .fields (List.toArray [(.int 757 0), (.int 4 0), (.ref 1009)]), (List.toArray [])⟩
def o_1004 (P : Params) : Obj := ⟨(.type "code"), none, .fields (List.toArray [(.str (S "Survey") 1727), (.str (S "Survey") 1728), (.str (S "/claim/cut.py") 1729), (.int 755 0), (.int 0 0), (.int 0 0), (.int 0 0), (.int 0 0), (.ref 1002), (.bool false), (.int 181 0), (.ref 1003), .none, .none, .none, .none, (.int 1730 0), (.int 755 0), (.str (S "/claim/cut.py") 1731)]), (List.toArray [])⟩
def o_1005 (P : Params) : Obj := ⟨(.type "frame"), none, .plain, (List.toArray [(some (.ref 1004)), (some (.ref 3)), (some (.ref 1001)), none, (some (.str (S "leanscript.survey") 1723)), none, (some (.ref 0))])⟩
def o_1006 (P : Params) : Obj := ⟨(.type "tuple"), none, .seq (List.toArray []) 0, (List.toArray [])⟩
def o_1007 (P : Params) : Obj := ⟨.none, none, .fields (List.toArray []), (List.toArray [])⟩
def o_1008 (P : Params) : Obj := ⟨.none, none, fnO (L2.inClass (My.top 139) 0) (S "__init__") (S "Survey.__init__") 0 .none .none .none .none none .none .none 0, (List.toArray [])⟩
def o_1009 (P : Params) : Obj := ⟨(.type "code"), none, .fields (List.toArray [(.str (S "__init__") 1737), (.str (S "Survey.__init__") 1738), (.str (S "/claim/cut.py") 1739), (.int 757 0), (.int 2 0), (.int 0 0), (.int 0 0), (.int 3 0), (.ref 1006), (.bool true), (.int 181 0), (.ref 1007), .none, .none, .none, (.ref 1008), (.int 1740 0), (.int 757 0), (.str (S "/claim/cut.py") 1741)]), (List.toArray [])⟩
def o_1010 (P : Params) : Obj := ⟨(.type "function"), none, fnO (L2.inClass (My.top 139) 0) (S "__init__") (S "Survey.__init__") 3 .none .none .none (.str (S "leanscript.survey") 1723) none (.ref 1009) .none 0, (List.toArray [])⟩
def o_1011 (P : Params) : Obj := ⟨(.type "tuple"), none, .seq (List.toArray [(.str (S "lists") 1743), (.str (S "pairs") 1744), (.str (S "parts") 1745), (.str (S "sure") 1746), (.str (S "tests") 1747), (.str (S "whole") 1748)]) 0, (List.toArray [])⟩
def o_1012 (P : Params) : Obj := ⟨(.type "dict"), none, .dict (List.toArray [⟨(PyData.keyHash P (S "__module__")), (.str (S "__module__") 1732), (.str (S "leanscript.survey") 1723)⟩, ⟨(PyData.keyHash P (S "__firstlineno__")), (.str (S "__firstlineno__") 1736), (.int 755 1735)⟩, ⟨(PyData.keyHash P (S "__init__")), (.str (S "__init__") 1742), (.ref 1010)⟩, ⟨(PyData.keyHash P (S "__static_attributes__")), (.str (S "__static_attributes__") 1749), (.ref 1011)⟩, ⟨(PyData.keyHash P (S "__dict__")), (.str (S "__dict__") 1751), (.ref 1014)⟩, ⟨(PyData.keyHash P (S "__weakref__")), (.str (S "__weakref__") 1753), (.ref 1015)⟩, ⟨(PyData.keyHash P (S "__doc__")), (.str (S "__doc__") 1754), .none⟩]) 4, (List.toArray [])⟩
def o_1013 (P : Params) : Obj := ⟨(.type "type"), none, .cls ⟨(S "Survey"), [(.type "object")], [(.ref 1013), (.type "object")], 1012, (S "Survey"), true, [], [], false, none, false⟩, (List.toArray [none, none, (some (.str (S "Survey") 1725)), (some (.str (S "Survey") 1733)), (some (.builtin "object.__new__")), (some (.bool true))])⟩
def o_1014 (P : Params) : Obj := ⟨(.type "getset_descriptor"), none, .fields (List.toArray [(.str (S "__dict__") 1750), (.ref 1013), (.builtin "function.__dict__"), (.builtin "function.__dict__#set")]), (List.toArray [])⟩
def o_1015 (P : Params) : Obj := ⟨(.type "getset_descriptor"), none, .fields (List.toArray [(.str (S "__weakref__") 1752), (.ref 1013), (.builtin "ExceptionGroup.__weakref__"), .none]), (List.toArray [])⟩
def o_1016 (P : Params) : Obj := ⟨(.type "super"), none, .fields (List.toArray [(.ref 1013), (.ref 1013), (.ref 1013)]), (List.toArray [])⟩
def o_1017 (P : Params) : Obj := ⟨(.type "builtin_function_or_method"), none, .fields (List.toArray [(.builtin "object.__init_subclass__"), (.ref 1013)]), (List.toArray [])⟩
def o_1018 (P : Params) : Obj := ⟨(.type "tuple"), none, .seq (List.toArray []) 0, (List.toArray [])⟩
def o_1019 (P : Params) : Obj := ⟨.none, none, .fields (List.toArray []), (List.toArray [])⟩
def o_1020 (P : Params) : Obj := ⟨.none, none, fnO (My.top 140) (S "lists_of") (S "lists_of") 0 .none .none .none .none none .none .none 0, (List.toArray [])⟩
def o_1021 (P : Params) : Obj := ⟨(.type "code"), none, .fields (List.toArray [(.str (S "lists_of") 1757), (.str (S "lists_of") 1758), (.str (S "/claim/cut.py") 1759), (.int 765 0), (.int 2 0), (.int 0 0), (.int 0 0), (.int 3 0), (.ref 1018), (.bool true), (.int 181 0), (.ref 1019), .none, .none, .none, (.ref 1020), (.int 1760 0), (.int 765 0), (.str (S "/claim/cut.py") 1761)]), (List.toArray [])⟩
def o_1022 (P : Params) : Obj := ⟨(.type "function"), none, fnO (My.top 140) (S "lists_of") (S "lists_of") 3 .none .none .none (.str (S "leanscript.survey") 1723) none (.ref 1021) .none 0, (List.toArray [])⟩
def o_1023 (P : Params) : Obj := ⟨(.type "tuple"), none, .seq (List.toArray []) 0, (List.toArray [])⟩
def o_1024 (P : Params) : Obj := ⟨.none, none, .fields (List.toArray []), (List.toArray [])⟩
def o_1025 (P : Params) : Obj := ⟨(.type "tuple"), none, .seq (List.toArray [(.str (S "pair") 1766)]) 0, (List.toArray [])⟩
def o_1026 (P : Params) : Obj := ⟨(.type "tuple"), none, .seq (List.toArray []) 0, (List.toArray [])⟩
def o_1027 (P : Params) : Obj := ⟨.none, none, fnO (My.top 141) (S "let_of") (S "let_of") 0 .none .none .none .none none .none .none 0, (List.toArray [])⟩
def o_1028 (P : Params) : Obj := ⟨(.type "code"), none, .fields (List.toArray [(.str (S "let_of") 1763), (.str (S "let_of") 1764), (.str (S "/claim/cut.py") 1765), (.int 776 0), (.int 1 0), (.int 0 0), (.int 0 0), (.int 3 0), (.ref 1023), (.bool true), (.int 181 0), (.ref 1024), .none, (.ref 1025), (.ref 1026), (.ref 1027), (.int 1767 0), (.int 776 0), (.str (S "/claim/cut.py") 1768)]), (List.toArray [])⟩
def o_1029 (P : Params) : Obj := ⟨(.type "function"), none, fnO (My.top 141) (S "let_of") (S "let_of") 3 .none .none .none (.str (S "leanscript.survey") 1723) none (.ref 1028) .none 0, (List.toArray [])⟩
def o_1030 (P : Params) : Obj := ⟨(.type "tuple"), none, .seq (List.toArray []) 0, (List.toArray [])⟩
def o_1031 (P : Params) : Obj := ⟨.none, none, .fields (List.toArray []), (List.toArray [])⟩
def o_1032 (P : Params) : Obj := ⟨(.type "tuple"), none, .seq (List.toArray [(.str (S "parts") 1773), (.str (S "rows") 1774), (.str (S "told") 1775), (.str (S "_") 1776), (.str (S "place") 1777), (.str (S "uses") 1778), (.str (S "let") 1779)]) 0, (List.toArray [])⟩
def o_1033 (P : Params) : Obj := ⟨(.type "tuple"), none, .seq (List.toArray []) 0, (List.toArray [])⟩
def o_1034 (P : Params) : Obj := ⟨.none, none, fnO (My.top 142) (S "pairs_of") (S "pairs_of") 0 .none .none .none .none none .none .none 0, (List.toArray [])⟩
def o_1035 (P : Params) : Obj := ⟨(.type "code"), none, .fields (List.toArray [(.str (S "pairs_of") 1770), (.str (S "pairs_of") 1771), (.str (S "/claim/cut.py") 1772), (.int 778 0), (.int 2 0), (.int 0 0), (.int 0 0), (.int 3 0), (.ref 1030), (.bool true), (.int 181 0), (.ref 1031), .none, (.ref 1032), (.ref 1033), (.ref 1034), (.int 1780 0), (.int 778 0), (.str (S "/claim/cut.py") 1781)]), (List.toArray [])⟩
def o_1036 (P : Params) : Obj := ⟨(.type "function"), none, fnO (My.top 142) (S "pairs_of") (S "pairs_of") 3 .none .none .none (.str (S "leanscript.survey") 1723) none (.ref 1035) .none 0, (List.toArray [])⟩
def o_1037 (P : Params) : Obj := ⟨(.type "tuple"), none, .seq (List.toArray []) 0, (List.toArray [])⟩
def o_1038 (P : Params) : Obj := ⟨.none, none, .fields (List.toArray []), (List.toArray [])⟩
def o_1039 (P : Params) : Obj := ⟨(.type "tuple"), none, .seq (List.toArray [(.str (S "part") 1786), (.str (S "is_test") 1787), (.str (S "word") 1788)]) 0, (List.toArray [])⟩
def o_1040 (P : Params) : Obj := ⟨(.type "tuple"), none, .seq (List.toArray []) 0, (List.toArray [])⟩
def o_1041 (P : Params) : Obj := ⟨.none, none, fnO (My.top 143) (S "test_steps") (S "test_steps") 0 .none .none .none .none none .none .none 0, (List.toArray [])⟩
def o_1042 (P : Params) : Obj := ⟨(.type "code"), none, .fields (List.toArray [(.str (S "test_steps") 1783), (.str (S "test_steps") 1784), (.str (S "/claim/cut.py") 1785), (.int 785 0), (.int 2 0), (.int 0 0), (.int 0 0), (.int 3 0), (.ref 1037), (.bool true), (.int 181 0), (.ref 1038), .none, (.ref 1039), (.ref 1040), (.ref 1041), (.int 1789 0), (.int 785 0), (.str (S "/claim/cut.py") 1790)]), (List.toArray [])⟩
def o_1043 (P : Params) : Obj := ⟨(.type "function"), none, fnO (My.top 143) (S "test_steps") (S "test_steps") 3 .none .none .none (.str (S "leanscript.survey") 1723) none (.ref 1042) .none 0, (List.toArray [])⟩
def o_1044 (P : Params) : Obj := ⟨(.type "tuple"), none, .seq (List.toArray []) 0, (List.toArray [])⟩
def o_1045 (P : Params) : Obj := ⟨.none, none, .fields (List.toArray []), (List.toArray [])⟩
def o_1046 (P : Params) : Obj := ⟨(.type "tuple"), none, .seq (List.toArray [(.str (S "parts") 1795), (.str (S "told") 1796), (.str (S "path") 1797), (.str (S "part") 1798), (.str (S "step") 1799), (.str (S "place") 1800)]) 0, (List.toArray [])⟩
def o_1047 (P : Params) : Obj := ⟨(.type "tuple"), none, .seq (List.toArray []) 0, (List.toArray [])⟩
def o_1048 (P : Params) : Obj := ⟨.none, none, fnO (My.top 144) (S "tests_of") (S "tests_of") 0 .none .none .none .none none .none .none 0, (List.toArray [])⟩
def o_1049 (P : Params) : Obj := ⟨(.type "code"), none, .fields (List.toArray [(.str (S "tests_of") 1792), (.str (S "tests_of") 1793), (.str (S "/claim/cut.py") 1794), (.int 794 0), (.int 1 0), (.int 0 0), (.int 0 0), (.int 3 0), (.ref 1044), (.bool true), (.int 181 0), (.ref 1045), .none, (.ref 1046), (.ref 1047), (.ref 1048), (.int 1801 0), (.int 794 0), (.str (S "/claim/cut.py") 1802)]), (List.toArray [])⟩
def o_1050 (P : Params) : Obj := ⟨(.type "function"), none, fnO (My.top 144) (S "tests_of") (S "tests_of") 3 .none .none .none (.str (S "leanscript.survey") 1723) none (.ref 1049) .none 0, (List.toArray [])⟩
def o_1051 (P : Params) : Obj := ⟨(.type "tuple"), none, .seq (List.toArray []) 0, (List.toArray [])⟩
def o_1052 (P : Params) : Obj := ⟨.none, none, .fields (List.toArray []), (List.toArray [])⟩
def o_1053 (P : Params) : Obj := ⟨(.type "tuple"), none, .seq (List.toArray [(.str (S "survey") 1809), (.str (S "told") 1810), (.str (S "pair") 1811), (.str (S "uses") 1812), (.str (S "place") 1813)]) 0, (List.toArray [])⟩
def o_1054 (P : Params) : Obj := ⟨(.type "tuple"), none, .seq (List.toArray []) 0, (List.toArray [])⟩
def o_1055 (P : Params) : Obj := ⟨.none, none, fnO (My.top 146) (S "waiting_pairs") (S "waiting_pairs") 0 .none .none .none .none none .none .none 0, (List.toArray [])⟩
def o_1056 (P : Params) : Obj := ⟨(.type "code"), none, .fields (List.toArray [(.str (S "waiting_pairs") 1806), (.str (S "waiting_pairs") 1807), (.str (S "/claim/cut.py") 1808), (.int 802 0), (.int 1 0), (.int 0 0), (.int 0 0), (.int 3 0), (.ref 1051), (.bool true), (.int 181 0), (.ref 1052), .none, (.ref 1053), (.ref 1054), (.ref 1055), (.int 1814 0), (.int 802 0), (.str (S "/claim/cut.py") 1815)]), (List.toArray [])⟩
def o_1057 (P : Params) : Obj := ⟨(.type "function"), none, fnO (My.top 146) (S "waiting_pairs") (S "waiting_pairs") 3 .none .none .none (.str (S "leanscript.reach") 1804) none (.ref 1056) .none 0, (List.toArray [])⟩
def o_1058 (P : Params) : Obj := ⟨(.type "tuple"), none, .seq (List.toArray []) 0, (List.toArray [])⟩
def o_1059 (P : Params) : Obj := ⟨.none, none, .fields (List.toArray []), (List.toArray [])⟩
def o_1060 (P : Params) : Obj := ⟨(.type "tuple"), none, .seq (List.toArray [(.str (S "pairs") 1820), (.str (S "use") 1821), (.str (S "many") 1822)]) 0, (List.toArray [])⟩
def o_1061 (P : Params) : Obj := ⟨(.type "tuple"), none, .seq (List.toArray []) 0, (List.toArray [])⟩
def o_1062 (P : Params) : Obj := ⟨.none, none, fnO (My.top 147) (S "holder_of") (S "holder_of") 0 .none .none .none .none none .none .none 0, (List.toArray [])⟩
def o_1063 (P : Params) : Obj := ⟨(.type "code"), none, .fields (List.toArray [(.str (S "holder_of") 1817), (.str (S "holder_of") 1818), (.str (S "/claim/cut.py") 1819), (.int 809 0), (.int 2 0), (.int 0 0), (.int 0 0), (.int 3 0), (.ref 1058), (.bool true), (.int 181 0), (.ref 1059), .none, (.ref 1060), (.ref 1061), (.ref 1062), (.int 1823 0), (.int 809 0), (.str (S "/claim/cut.py") 1824)]), (List.toArray [])⟩
def o_1064 (P : Params) : Obj := ⟨(.type "function"), none, fnO (My.top 147) (S "holder_of") (S "holder_of") 3 .none .none .none (.str (S "leanscript.reach") 1804) none (.ref 1063) .none 0, (List.toArray [])⟩
def o_1065 (P : Params) : Obj := ⟨(.type "tuple"), none, .seq (List.toArray []) 0, (List.toArray [])⟩
def o_1066 (P : Params) : Obj := ⟨.none, none, .fields (List.toArray []), (List.toArray [])⟩
def o_1067 (P : Params) : Obj := ⟨.none, none, fnO (My.top 148) (S "holders_of") (S "holders_of") 0 .none .none .none .none none .none .none 0, (List.toArray [])⟩
def o_1068 (P : Params) : Obj := ⟨(.type "code"), none, .fields (List.toArray [(.str (S "holders_of") 1826), (.str (S "holders_of") 1827), (.str (S "/claim/cut.py") 1828), (.int 814 0), (.int 1 0), (.int 0 0), (.int 0 0), (.int 3 0), (.ref 1065), (.bool true), (.int 181 0), (.ref 1066), .none, .none, .none, (.ref 1067), (.int 1829 0), (.int 814 0), (.str (S "/claim/cut.py") 1830)]), (List.toArray [])⟩
def o_1069 (P : Params) : Obj := ⟨(.type "function"), none, fnO (My.top 148) (S "holders_of") (S "holders_of") 3 .none .none .none (.str (S "leanscript.reach") 1804) none (.ref 1068) .none 0, (List.toArray [])⟩
def o_1070 (P : Params) : Obj := ⟨(.type "tuple"), none, .seq (List.toArray []) 0, (List.toArray [])⟩
def o_1071 (P : Params) : Obj := ⟨.none, none, .fields (List.toArray []), (List.toArray [])⟩
def o_1072 (P : Params) : Obj := ⟨.none, none, fnO (My.top 149) (S "reached_pairs") (S "reached_pairs") 0 .none .none .none .none none .none .none 0, (List.toArray [])⟩
def o_1073 (P : Params) : Obj := ⟨(.type "code"), none, .fields (List.toArray [(.str (S "reached_pairs") 1832), (.str (S "reached_pairs") 1833), (.str (S "/claim/cut.py") 1834), (.int 816 0), (.int 1 0), (.int 0 0), (.int 0 0), (.int 3 0), (.ref 1070), (.bool true), (.int 181 0), (.ref 1071), .none, .none, .none, (.ref 1072), (.int 1835 0), (.int 816 0), (.str (S "/claim/cut.py") 1836)]), (List.toArray [])⟩
def o_1074 (P : Params) : Obj := ⟨(.type "function"), none, fnO (My.top 149) (S "reached_pairs") (S "reached_pairs") 3 .none .none .none (.str (S "leanscript.reach") 1804) none (.ref 1073) .none 0, (List.toArray [])⟩
def o_1075 (P : Params) : Obj := ⟨(.type "tuple"), none, .seq (List.toArray []) 0, (List.toArray [])⟩
def o_1076 (P : Params) : Obj := ⟨.none, none, .fields (List.toArray []), (List.toArray [])⟩
def o_1077 (P : Params) : Obj := ⟨.none, none, fnO (My.top 150) (S "unreached_pairs") (S "unreached_pairs") 0 .none .none .none .none none .none .none 0, (List.toArray [])⟩
def o_1078 (P : Params) : Obj := ⟨(.type "code"), none, .fields (List.toArray [(.str (S "unreached_pairs") 1838), (.str (S "unreached_pairs") 1839), (.str (S "/claim/cut.py") 1840), (.int 827 0), (.int 1 0), (.int 0 0), (.int 0 0), (.int 3 0), (.ref 1075), (.bool true), (.int 181 0), (.ref 1076), .none, .none, .none, (.ref 1077), (.int 1841 0), (.int 827 0), (.str (S "/claim/cut.py") 1842)]), (List.toArray [])⟩
def o_1079 (P : Params) : Obj := ⟨(.type "function"), none, fnO (My.top 150) (S "unreached_pairs") (S "unreached_pairs") 3 .none .none .none (.str (S "leanscript.reach") 1804) none (.ref 1078) .none 0, (List.toArray [])⟩
def o_1080 (P : Params) : Obj := ⟨(.type "tuple"), none, .seq (List.toArray []) 0, (List.toArray [])⟩
def o_1081 (P : Params) : Obj := ⟨.none, none, .fields (List.toArray []), (List.toArray [])⟩
def o_1082 (P : Params) : Obj := ⟨(.type "tuple"), none, .seq (List.toArray [(.str (S "number") 1849), (.str (S "figures") 1850), (.str (S "best") 1851), (.str (S "many") 1852), (.str (S "word") 1853)]) 0, (List.toArray [])⟩
def o_1083 (P : Params) : Obj := ⟨(.type "tuple"), none, .seq (List.toArray []) 0, (List.toArray [])⟩
def o_1084 (P : Params) : Obj := ⟨.none, none, fnO (My.top 152) (S "number_word") (S "number_word") 0 .none .none .none .none none .none .none 0, (List.toArray [])⟩
def o_1085 (P : Params) : Obj := ⟨(.type "code"), none, .fields (List.toArray [(.str (S "number_word") 1846), (.str (S "number_word") 1847), (.str (S "/claim/cut.py") 1848), (.int 832 0), (.int 1 0), (.int 0 0), (.int 0 0), (.int 3 0), (.ref 1080), (.bool true), (.int 181 0), (.ref 1081), .none, (.ref 1082), (.ref 1083), (.ref 1084), (.int 1854 0), (.int 832 0), (.str (S "/claim/cut.py") 1855)]), (List.toArray [])⟩
def o_1086 (P : Params) : Obj := ⟨(.type "function"), none, fnO (My.top 152) (S "number_word") (S "number_word") 3 .none .none .none (.str (S "leanscript.writing") 1844) none (.ref 1085) .none 0, (List.toArray [])⟩
def o_1087 (P : Params) : Obj := ⟨(.type "tuple"), none, .seq (List.toArray []) 0, (List.toArray [])⟩
def o_1088 (P : Params) : Obj := ⟨.none, none, .fields (List.toArray []), (List.toArray [])⟩
def o_1089 (P : Params) : Obj := ⟨(.type "tuple"), none, .seq (List.toArray [(.str (S "rows") 1860), (.str (S "told") 1861), (.str (S "row") 1862)]) 0, (List.toArray [])⟩
def o_1090 (P : Params) : Obj := ⟨(.type "tuple"), none, .seq (List.toArray []) 0, (List.toArray [])⟩
def o_1091 (P : Params) : Obj := ⟨.none, none, fnO (My.top 153) (S "with_commas") (S "with_commas") 0 .none .none .none .none none .none .none 0, (List.toArray [])⟩
def o_1092 (P : Params) : Obj := ⟨(.type "code"), none, .fields (List.toArray [(.str (S "with_commas") 1857), (.str (S "with_commas") 1858), (.str (S "/claim/cut.py") 1859), (.int 841 0), (.int 1 0), (.int 0 0), (.int 0 0), (.int 3 0), (.ref 1087), (.bool true), (.int 181 0), (.ref 1088), .none, (.ref 1089), (.ref 1090), (.ref 1091), (.int 1863 0), (.int 841 0), (.str (S "/claim/cut.py") 1864)]), (List.toArray [])⟩
def o_1093 (P : Params) : Obj := ⟨(.type "function"), none, fnO (My.top 153) (S "with_commas") (S "with_commas") 3 .none .none .none (.str (S "leanscript.writing") 1844) none (.ref 1092) .none 0, (List.toArray [])⟩
def o_1094 (P : Params) : Obj := ⟨(.type "tuple"), none, .seq (List.toArray []) 0, (List.toArray [])⟩
def o_1095 (P : Params) : Obj := ⟨.none, none, .fields (List.toArray []), (List.toArray [])⟩
def o_1096 (P : Params) : Obj := ⟨.none, none, fnO (My.top 154) (S "fn_words") (S "fn_words") 0 .none .none .none .none none .none .none 0, (List.toArray [])⟩
def o_1097 (P : Params) : Obj := ⟨(.type "code"), none, .fields (List.toArray [(.str (S "fn_words") 1866), (.str (S "fn_words") 1867), (.str (S "/claim/cut.py") 1868), (.int 848 0), (.int 1 0), (.int 0 0), (.int 0 0), (.int 3 0), (.ref 1094), (.bool true), (.int 181 0), (.ref 1095), .none, .none, .none, (.ref 1096), (.int 1869 0), (.int 848 0), (.str (S "/claim/cut.py") 1870)]), (List.toArray [])⟩
def o_1098 (P : Params) : Obj := ⟨(.type "function"), none, fnO (My.top 154) (S "fn_words") (S "fn_words") 3 .none .none .none (.str (S "leanscript.writing") 1844) none (.ref 1097) .none 0, (List.toArray [])⟩
def o_1099 (P : Params) : Obj := ⟨(.type "tuple"), none, .seq (List.toArray []) 0, (List.toArray [])⟩
def o_1100 (P : Params) : Obj := ⟨.none, none, .fields (List.toArray []), (List.toArray [])⟩
def o_1101 (P : Params) : Obj := ⟨(.type "tuple"), none, .seq (List.toArray [(.str (S "sign") 1875), (.str (S "left") 1876), (.str (S "right") 1877), (.str (S "level") 1878)]) 0, (List.toArray [])⟩
def o_1102 (P : Params) : Obj := ⟨(.type "tuple"), none, .seq (List.toArray []) 0, (List.toArray [])⟩
def o_1103 (P : Params) : Obj := ⟨.none, none, fnO (My.top 155) (S "two_words") (S "two_words") 0 .none .none .none .none none .none .none 0, (List.toArray [])⟩
def o_1104 (P : Params) : Obj := ⟨(.type "code"), none, .fields (List.toArray [(.str (S "two_words") 1872), (.str (S "two_words") 1873), (.str (S "/claim/cut.py") 1874), (.int 853 0), (.int 3 0), (.int 0 0), (.int 0 0), (.int 3 0), (.ref 1099), (.bool true), (.int 181 0), (.ref 1100), .none, (.ref 1101), (.ref 1102), (.ref 1103), (.int 1879 0), (.int 853 0), (.str (S "/claim/cut.py") 1880)]), (List.toArray [])⟩
def o_1105 (P : Params) : Obj := ⟨(.type "function"), none, fnO (My.top 155) (S "two_words") (S "two_words") 3 .none .none .none (.str (S "leanscript.writing") 1844) none (.ref 1104) .none 0, (List.toArray [])⟩
def o_1106 (P : Params) : Obj := ⟨(.type "tuple"), none, .seq (List.toArray []) 0, (List.toArray [])⟩
def o_1107 (P : Params) : Obj := ⟨.none, none, .fields (List.toArray []), (List.toArray [])⟩
def o_1108 (P : Params) : Obj := ⟨(.type "tuple"), none, .seq (List.toArray [(.str (S "part") 1885), (.str (S "test") 1886)]) 0, (List.toArray [])⟩
def o_1109 (P : Params) : Obj := ⟨(.type "tuple"), none, .seq (List.toArray []) 0, (List.toArray [])⟩
def o_1110 (P : Params) : Obj := ⟨.none, none, fnO (My.top 156) (S "pick_words") (S "pick_words") 0 .none .none .none .none none .none .none 0, (List.toArray [])⟩
def o_1111 (P : Params) : Obj := ⟨(.type "code"), none, .fields (List.toArray [(.str (S "pick_words") 1882), (.str (S "pick_words") 1883), (.str (S "/claim/cut.py") 1884), (.int 856 0), (.int 1 0), (.int 0 0), (.int 0 0), (.int 3 0), (.ref 1106), (.bool true), (.int 181 0), (.ref 1107), .none, (.ref 1108), (.ref 1109), (.ref 1110), (.int 1887 0), (.int 856 0), (.str (S "/claim/cut.py") 1888)]), (List.toArray [])⟩
def o_1112 (P : Params) : Obj := ⟨(.type "function"), none, fnO (My.top 156) (S "pick_words") (S "pick_words") 3 .none .none .none (.str (S "leanscript.writing") 1844) none (.ref 1111) .none 0, (List.toArray [])⟩
def o_1113 (P : Params) : Obj := ⟨(.type "tuple"), none, .seq (List.toArray []) 0, (List.toArray [])⟩
def o_1114 (P : Params) : Obj := ⟨.none, none, .fields (List.toArray []), (List.toArray [])⟩
def o_1115 (P : Params) : Obj := ⟨.none, none, fnO (My.top 157) (S "bare_words") (S "bare_words") 0 .none .none .none .none none .none .none 0, (List.toArray [])⟩
def o_1116 (P : Params) : Obj := ⟨(.type "code"), none, .fields (List.toArray [(.str (S "bare_words") 1890), (.str (S "bare_words") 1891), (.str (S "/claim/cut.py") 1892), (.int 859 0), (.int 1 0), (.int 0 0), (.int 0 0), (.int 3 0), (.ref 1113), (.bool true), (.int 181 0), (.ref 1114), .none, .none, .none, (.ref 1115), (.int 1893 0), (.int 859 0), (.str (S "/claim/cut.py") 1894)]), (List.toArray [])⟩
def o_1117 (P : Params) : Obj := ⟨(.type "function"), none, fnO (My.top 157) (S "bare_words") (S "bare_words") 3 .none .none .none (.str (S "leanscript.writing") 1844) none (.ref 1116) .none 0, (List.toArray [])⟩
def o_1118 (P : Params) : Obj := ⟨(.type "tuple"), none, .seq (List.toArray []) 0, (List.toArray [])⟩
def o_1119 (P : Params) : Obj := ⟨.none, none, .fields (List.toArray []), (List.toArray [])⟩
def o_1120 (P : Params) : Obj := ⟨(.type "tuple"), none, .seq (List.toArray [(.str (S "part") 1899), (.str (S "level") 1900), (.str (S "told") 1901)]) 0, (List.toArray [])⟩
def o_1121 (P : Params) : Obj := ⟨(.type "tuple"), none, .seq (List.toArray []) 0, (List.toArray [])⟩
def o_1122 (P : Params) : Obj := ⟨.none, none, fnO (My.top 158) (S "expression_words") (S "expression_words") 0 .none .none .none .none none .none .none 0, (List.toArray [])⟩
def o_1123 (P : Params) : Obj := ⟨(.type "code"), none, .fields (List.toArray [(.str (S "expression_words") 1896), (.str (S "expression_words") 1897), (.str (S "/claim/cut.py") 1898), (.int 885 0), (.int 2 0), (.int 0 0), (.int 0 0), (.int 3 0), (.ref 1118), (.bool true), (.int 181 0), (.ref 1119), .none, (.ref 1120), (.ref 1121), (.ref 1122), (.int 1902 0), (.int 885 0), (.str (S "/claim/cut.py") 1903)]), (List.toArray [])⟩
def o_1124 (P : Params) : Obj := ⟨(.type "function"), none, fnO (My.top 158) (S "expression_words") (S "expression_words") 3 .none .none .none (.str (S "leanscript.writing") 1844) none (.ref 1123) .none 0, (List.toArray [])⟩
def o_1125 (P : Params) : Obj := ⟨(.type "tuple"), none, .seq (List.toArray []) 0, (List.toArray [])⟩
def o_1126 (P : Params) : Obj := ⟨.none, none, .fields (List.toArray []), (List.toArray [])⟩
def o_1127 (P : Params) : Obj := ⟨(.type "tuple"), none, .seq (List.toArray [(.str (S "statements") 1908)]) 0, (List.toArray [])⟩
def o_1128 (P : Params) : Obj := ⟨(.type "tuple"), none, .seq (List.toArray []) 0, (List.toArray [])⟩
def o_1129 (P : Params) : Obj := ⟨.none, none, fnO (My.top 159) (S "braced_words") (S "braced_words") 0 .none .none .none .none none .none .none 0, (List.toArray [])⟩
def o_1130 (P : Params) : Obj := ⟨(.type "code"), none, .fields (List.toArray [(.str (S "braced_words") 1905), (.str (S "braced_words") 1906), (.str (S "/claim/cut.py") 1907), (.int 888 0), (.int 1 0), (.int 0 0), (.int 0 0), (.int 3 0), (.ref 1125), (.bool true), (.int 181 0), (.ref 1126), .none, (.ref 1127), (.ref 1128), (.ref 1129), (.int 1909 0), (.int 888 0), (.str (S "/claim/cut.py") 1910)]), (List.toArray [])⟩
def o_1131 (P : Params) : Obj := ⟨(.type "function"), none, fnO (My.top 159) (S "braced_words") (S "braced_words") 3 .none .none .none (.str (S "leanscript.writing") 1844) none (.ref 1130) .none 0, (List.toArray [])⟩
def o_1132 (P : Params) : Obj := ⟨(.type "tuple"), none, .seq (List.toArray []) 0, (List.toArray [])⟩
def o_1133 (P : Params) : Obj := ⟨.none, none, .fields (List.toArray []), (List.toArray [])⟩
def o_1134 (P : Params) : Obj := ⟨.none, none, fnO (My.top 160) (S "plain_words") (S "plain_words") 0 .none .none .none .none none .none .none 0, (List.toArray [])⟩
def o_1135 (P : Params) : Obj := ⟨(.type "code"), none, .fields (List.toArray [(.str (S "plain_words") 1912), (.str (S "plain_words") 1913), (.str (S "/claim/cut.py") 1914), (.int 890 0), (.int 1 0), (.int 0 0), (.int 0 0), (.int 3 0), (.ref 1132), (.bool true), (.int 181 0), (.ref 1133), .none, .none, .none, (.ref 1134), (.int 1915 0), (.int 890 0), (.str (S "/claim/cut.py") 1916)]), (List.toArray [])⟩
def o_1136 (P : Params) : Obj := ⟨(.type "function"), none, fnO (My.top 160) (S "plain_words") (S "plain_words") 3 .none .none .none (.str (S "leanscript.writing") 1844) none (.ref 1135) .none 0, (List.toArray [])⟩
def o_1137 (P : Params) : Obj := ⟨(.type "tuple"), none, .seq (List.toArray []) 0, (List.toArray [])⟩
def o_1138 (P : Params) : Obj := ⟨.none, none, .fields (List.toArray []), (List.toArray [])⟩
def o_1139 (P : Params) : Obj := ⟨(.type "tuple"), none, .seq (List.toArray [(.str (S "part") 1921), (.str (S "word") 1922), (.str (S "told") 1923)]) 0, (List.toArray [])⟩
def o_1140 (P : Params) : Obj := ⟨(.type "tuple"), none, .seq (List.toArray []) 0, (List.toArray [])⟩
def o_1141 (P : Params) : Obj := ⟨.none, none, fnO (My.top 161) (S "statement_words") (S "statement_words") 0 .none .none .none .none none .none .none 0, (List.toArray [])⟩
def o_1142 (P : Params) : Obj := ⟨(.type "code"), none, .fields (List.toArray [(.str (S "statement_words") 1918), (.str (S "statement_words") 1919), (.str (S "/claim/cut.py") 1920), (.int 901 0), (.int 1 0), (.int 0 0), (.int 0 0), (.int 3 0), (.ref 1137), (.bool true), (.int 181 0), (.ref 1138), .none, (.ref 1139), (.ref 1140), (.ref 1141), (.int 1924 0), (.int 901 0), (.str (S "/claim/cut.py") 1925)]), (List.toArray [])⟩
def o_1143 (P : Params) : Obj := ⟨(.type "function"), none, fnO (My.top 161) (S "statement_words") (S "statement_words") 3 .none .none .none (.str (S "leanscript.writing") 1844) none (.ref 1142) .none 0, (List.toArray [])⟩
def o_1144 (P : Params) : Obj := ⟨(.type "tuple"), none, .seq (List.toArray []) 0, (List.toArray [])⟩
def o_1145 (P : Params) : Obj := ⟨.none, none, .fields (List.toArray []), (List.toArray [])⟩
def o_1146 (P : Params) : Obj := ⟨(.type "tuple"), none, .seq (List.toArray [(.str (S "statements") 1930), (.str (S "told") 1931), (.str (S "part") 1932)]) 0, (List.toArray [])⟩
def o_1147 (P : Params) : Obj := ⟨(.type "tuple"), none, .seq (List.toArray []) 0, (List.toArray [])⟩
def o_1148 (P : Params) : Obj := ⟨.none, none, fnO (My.top 162) (S "list_words") (S "list_words") 0 .none .none .none .none none .none .none 0, (List.toArray [])⟩
def o_1149 (P : Params) : Obj := ⟨(.type "code"), none, .fields (List.toArray [(.str (S "list_words") 1927), (.str (S "list_words") 1928), (.str (S "/claim/cut.py") 1929), (.int 913 0), (.int 1 0), (.int 0 0), (.int 0 0), (.int 3 0), (.ref 1144), (.bool true), (.int 181 0), (.ref 1145), .none, (.ref 1146), (.ref 1147), (.ref 1148), (.int 1933 0), (.int 913 0), (.str (S "/claim/cut.py") 1934)]), (List.toArray [])⟩
def o_1150 (P : Params) : Obj := ⟨(.type "function"), none, fnO (My.top 162) (S "list_words") (S "list_words") 3 .none .none .none (.str (S "leanscript.writing") 1844) none (.ref 1149) .none 0, (List.toArray [])⟩
def o_1151 (P : Params) : Obj := ⟨(.type "tuple"), none, .seq (List.toArray []) 0, (List.toArray [])⟩
def o_1152 (P : Params) : Obj := ⟨.none, none, .fields (List.toArray []), (List.toArray [])⟩
def o_1153 (P : Params) : Obj := ⟨(.type "tuple"), none, .seq (List.toArray [(.str (S "tree") 1939), (.str (S "told") 1940), (.str (S "is_sign_ahead") 1941), (.str (S "word") 1942), (.str (S "is_sign") 1943)]) 0, (List.toArray [])⟩
def o_1154 (P : Params) : Obj := ⟨(.type "tuple"), none, .seq (List.toArray []) 0, (List.toArray [])⟩
def o_1155 (P : Params) : Obj := ⟨.none, none, fnO (My.top 163) (S "tight_text") (S "tight_text") 0 .none .none .none .none none .none .none 0, (List.toArray [])⟩
def o_1156 (P : Params) : Obj := ⟨(.type "code"), none, .fields (List.toArray [(.str (S "tight_text") 1936), (.str (S "tight_text") 1937), (.str (S "/claim/cut.py") 1938), (.int 918 0), (.int 1 0), (.int 0 0), (.int 0 0), (.int 3 0), (.ref 1151), (.bool true), (.int 181 0), (.ref 1152), .none, (.ref 1153), (.ref 1154), (.ref 1155), (.int 1944 0), (.int 918 0), (.str (S "/claim/cut.py") 1945)]), (List.toArray [])⟩
def o_1157 (P : Params) : Obj := ⟨(.type "function"), none, fnO (My.top 163) (S "tight_text") (S "tight_text") 3 .none .none .none (.str (S "leanscript.writing") 1844) none (.ref 1156) .none 0, (List.toArray [])⟩
def o_1158 (P : Params) : Obj := ⟨(.type "tuple"), none, .seq (List.toArray []) 0, (List.toArray [])⟩
def o_1159 (P : Params) : Obj := ⟨.none, none, .fields (List.toArray []), (List.toArray [])⟩
def o_1160 (P : Params) : Obj := ⟨(.type "tuple"), none, .seq (List.toArray [(.str (S "part") 1952), (.str (S "word") 1953)]) 0, (List.toArray [])⟩
def o_1161 (P : Params) : Obj := ⟨(.type "tuple"), none, .seq (List.toArray []) 0, (List.toArray [])⟩
def o_1162 (P : Params) : Obj := ⟨.none, none, fnO (My.top 165) (S "ends_list") (S "ends_list") 0 .none .none .none .none none .none .none 0, (List.toArray [])⟩
def o_1163 (P : Params) : Obj := ⟨(.type "code"), none, .fields (List.toArray [(.str (S "ends_list") 1949), (.str (S "ends_list") 1950), (.str (S "/claim/cut.py") 1951), (.int 927 0), (.int 1 0), (.int 0 0), (.int 0 0), (.int 3 0), (.ref 1158), (.bool true), (.int 181 0), (.ref 1159), .none, (.ref 1160), (.ref 1161), (.ref 1162), (.int 1954 0), (.int 927 0), (.str (S "/claim/cut.py") 1955)]), (List.toArray [])⟩
def o_1164 (P : Params) : Obj := ⟨(.type "function"), none, fnO (My.top 165) (S "ends_list") (S "ends_list") 3 .none .none .none (.str (S "leanscript.goings") 1947) none (.ref 1163) .none 0, (List.toArray [])⟩
def o_1165 (P : Params) : Obj := ⟨(.type "tuple"), none, .seq (List.toArray []) 0, (List.toArray [])⟩
def o_1166 (P : Params) : Obj := ⟨.none, none, .fields (List.toArray []), (List.toArray [])⟩
def o_1167 (P : Params) : Obj := ⟨.none, none, fnO (My.top 166) (S "is_ended") (S "is_ended") 0 .none .none .none .none none .none .none 0, (List.toArray [])⟩
def o_1168 (P : Params) : Obj := ⟨(.type "code"), none, .fields (List.toArray [(.str (S "is_ended") 1957), (.str (S "is_ended") 1958), (.str (S "/claim/cut.py") 1959), (.int 936 0), (.int 1 0), (.int 0 0), (.int 0 0), (.int 3 0), (.ref 1165), (.bool true), (.int 181 0), (.ref 1166), .none, .none, .none, (.ref 1167), (.int 1960 0), (.int 936 0), (.str (S "/claim/cut.py") 1961)]), (List.toArray [])⟩
def o_1169 (P : Params) : Obj := ⟨(.type "function"), none, fnO (My.top 166) (S "is_ended") (S "is_ended") 3 .none .none .none (.str (S "leanscript.goings") 1947) none (.ref 1168) .none 0, (List.toArray [])⟩
def o_1170 (P : Params) : Obj := ⟨(.type "tuple"), none, .seq (List.toArray []) 0, (List.toArray [])⟩
def o_1171 (P : Params) : Obj := ⟨.none, none, .fields (List.toArray []), (List.toArray [])⟩
def o_1172 (P : Params) : Obj := ⟨(.type "tuple"), none, .seq (List.toArray [(.str (S "path") 1966), (.str (S "place") 1967)]) 0, (List.toArray [])⟩
def o_1173 (P : Params) : Obj := ⟨(.type "tuple"), none, .seq (List.toArray []) 0, (List.toArray [])⟩
def o_1174 (P : Params) : Obj := ⟨.none, none, fnO (My.top 167) (S "lies_in") (S "lies_in") 0 .none .none .none .none none .none .none 0, (List.toArray [])⟩
def o_1175 (P : Params) : Obj := ⟨(.type "code"), none, .fields (List.toArray [(.str (S "lies_in") 1963), (.str (S "lies_in") 1964), (.str (S "/claim/cut.py") 1965), (.int 938 0), (.int 2 0), (.int 0 0), (.int 0 0), (.int 3 0), (.ref 1170), (.bool true), (.int 181 0), (.ref 1171), .none, (.ref 1172), (.ref 1173), (.ref 1174), (.int 1968 0), (.int 938 0), (.str (S "/claim/cut.py") 1969)]), (List.toArray [])⟩
def o_1176 (P : Params) : Obj := ⟨(.type "function"), none, fnO (My.top 167) (S "lies_in") (S "lies_in") 3 .none .none .none (.str (S "leanscript.goings") 1947) none (.ref 1175) .none 0, (List.toArray [])⟩
def o_1177 (P : Params) : Obj := ⟨(.type "tuple"), none, .seq (List.toArray []) 0, (List.toArray [])⟩
def o_1178 (P : Params) : Obj := ⟨.none, none, .fields (List.toArray []), (List.toArray [])⟩
def o_1179 (P : Params) : Obj := ⟨.none, none, fnO (My.top 168) (S "is_needed") (S "is_needed") 0 .none .none .none .none none .none .none 0, (List.toArray [])⟩
def o_1180 (P : Params) : Obj := ⟨(.type "code"), none, .fields (List.toArray [(.str (S "is_needed") 1971), (.str (S "is_needed") 1972), (.str (S "/claim/cut.py") 1973), (.int 940 0), (.int 3 0), (.int 0 0), (.int 0 0), (.int 3 0), (.ref 1177), (.bool true), (.int 181 0), (.ref 1178), .none, .none, .none, (.ref 1179), (.int 1974 0), (.int 940 0), (.str (S "/claim/cut.py") 1975)]), (List.toArray [])⟩
def o_1181 (P : Params) : Obj := ⟨(.type "function"), none, fnO (My.top 168) (S "is_needed") (S "is_needed") 3 .none .none .none (.str (S "leanscript.goings") 1947) none (.ref 1180) .none 0, (List.toArray [])⟩
def o_1182 (P : Params) : Obj := ⟨(.type "tuple"), none, .seq (List.toArray []) 0, (List.toArray [])⟩
def o_1183 (P : Params) : Obj := ⟨.none, none, .fields (List.toArray []), (List.toArray [])⟩
def o_1184 (P : Params) : Obj := ⟨.none, none, fnO (My.top 169) (S "behind_end") (S "behind_end") 0 .none .none .none .none none .none .none 0, (List.toArray [])⟩
def o_1185 (P : Params) : Obj := ⟨(.type "code"), none, .fields (List.toArray [(.str (S "behind_end") 1977), (.str (S "behind_end") 1978), (.str (S "/claim/cut.py") 1979), (.int 945 0), (.int 1 0), (.int 0 0), (.int 0 0), (.int 3 0), (.ref 1182), (.bool true), (.int 181 0), (.ref 1183), .none, .none, .none, (.ref 1184), (.int 1980 0), (.int 945 0), (.str (S "/claim/cut.py") 1981)]), (List.toArray [])⟩
def o_1186 (P : Params) : Obj := ⟨(.type "function"), none, fnO (My.top 169) (S "behind_end") (S "behind_end") 3 .none .none .none (.str (S "leanscript.goings") 1947) none (.ref 1185) .none 0, (List.toArray [])⟩
def o_1187 (P : Params) : Obj := ⟨(.type "tuple"), none, .seq (List.toArray []) 0, (List.toArray [])⟩
def o_1188 (P : Params) : Obj := ⟨.none, none, .fields (List.toArray []), (List.toArray [])⟩
def o_1189 (P : Params) : Obj := ⟨(.type "tuple"), none, .seq (List.toArray [(.str (S "survey") 1986), (.str (S "path") 1987), (.str (S "part") 1988)]) 0, (List.toArray [])⟩
def o_1190 (P : Params) : Obj := ⟨(.type "tuple"), none, .seq (List.toArray []) 0, (List.toArray [])⟩
def o_1191 (P : Params) : Obj := ⟨.none, none, fnO (My.top 170) (S "why_gone") (S "why_gone") 0 .none .none .none .none none .none .none 0, (List.toArray [])⟩
def o_1192 (P : Params) : Obj := ⟨(.type "code"), none, .fields (List.toArray [(.str (S "why_gone") 1983), (.str (S "why_gone") 1984), (.str (S "/claim/cut.py") 1985), (.int 953 0), (.int 3 0), (.int 0 0), (.int 0 0), (.int 3 0), (.ref 1187), (.bool true), (.int 181 0), (.ref 1188), .none, (.ref 1189), (.ref 1190), (.ref 1191), (.int 1989 0), (.int 953 0), (.str (S "/claim/cut.py") 1990)]), (List.toArray [])⟩
def o_1193 (P : Params) : Obj := ⟨(.type "function"), none, fnO (My.top 170) (S "why_gone") (S "why_gone") 3 .none .none .none (.str (S "leanscript.goings") 1947) none (.ref 1192) .none 0, (List.toArray [])⟩
def o_1194 (P : Params) : Obj := ⟨(.type "tuple"), none, .seq (List.toArray []) 0, (List.toArray [])⟩
def o_1195 (P : Params) : Obj := ⟨.none, none, .fields (List.toArray []), (List.toArray [])⟩
def o_1196 (P : Params) : Obj := ⟨.none, none, fnO (My.top 171) (S "unused_pairs") (S "unused_pairs") 0 .none .none .none .none none .none .none 0, (List.toArray [])⟩
def o_1197 (P : Params) : Obj := ⟨(.type "code"), none, .fields (List.toArray [(.str (S "unused_pairs") 1992), (.str (S "unused_pairs") 1993), (.str (S "/claim/cut.py") 1994), (.int 961 0), (.int 1 0), (.int 0 0), (.int 0 0), (.int 3 0), (.ref 1194), (.bool true), (.int 181 0), (.ref 1195), .none, .none, .none, (.ref 1196), (.int 1995 0), (.int 961 0), (.str (S "/claim/cut.py") 1996)]), (List.toArray [])⟩
def o_1198 (P : Params) : Obj := ⟨(.type "function"), none, fnO (My.top 171) (S "unused_pairs") (S "unused_pairs") 3 .none .none .none (.str (S "leanscript.goings") 1947) none (.ref 1197) .none 0, (List.toArray [])⟩
def o_1199 (P : Params) : Obj := ⟨(.type "tuple"), none, .seq (List.toArray []) 0, (List.toArray [])⟩
def o_1200 (P : Params) : Obj := ⟨.none, none, .fields (List.toArray []), (List.toArray [])⟩
def o_1201 (P : Params) : Obj := ⟨.none, none, fnO (My.top 172) (S "goings") (S "goings") 0 .none .none .none .none none .none .none 0, (List.toArray [])⟩
def o_1202 (P : Params) : Obj := ⟨(.type "code"), none, .fields (List.toArray [(.str (S "goings") 1998), (.str (S "goings") 1999), (.str (S "/claim/cut.py") 2000), (.int 964 0), (.int 1 0), (.int 0 0), (.int 0 0), (.int 3 0), (.ref 1199), (.bool true), (.int 181 0), (.ref 1200), .none, .none, .none, (.ref 1201), (.int 2001 0), (.int 964 0), (.str (S "/claim/cut.py") 2002)]), (List.toArray [])⟩
def o_1203 (P : Params) : Obj := ⟨(.type "function"), none, fnO (My.top 172) (S "goings") (S "goings") 3 .none .none .none (.str (S "leanscript.goings") 1947) none (.ref 1202) .none 0, (List.toArray [])⟩
def o_1204 (P : Params) : Obj := ⟨(.type "tuple"), none, .seq (List.toArray []) 0, (List.toArray [])⟩
def o_1205 (P : Params) : Obj := ⟨.none, none, .fields (List.toArray []), (List.toArray [])⟩
def o_1206 (P : Params) : Obj := ⟨(.type "tuple"), none, .seq (List.toArray [(.str (S "survey") 2007), (.str (S "path") 2008)]) 0, (List.toArray [])⟩
def o_1207 (P : Params) : Obj := ⟨(.type "tuple"), none, .seq (List.toArray []) 0, (List.toArray [])⟩
def o_1208 (P : Params) : Obj := ⟨.none, none, fnO (My.top 173) (S "going_statement") (S "going_statement") 0 .none .none .none .none none .none .none 0, (List.toArray [])⟩
def o_1209 (P : Params) : Obj := ⟨(.type "code"), none, .fields (List.toArray [(.str (S "going_statement") 2004), (.str (S "going_statement") 2005), (.str (S "/claim/cut.py") 2006), (.int 969 0), (.int 2 0), (.int 0 0), (.int 0 0), (.int 3 0), (.ref 1204), (.bool true), (.int 181 0), (.ref 1205), .none, (.ref 1206), (.ref 1207), (.ref 1208), (.int 2009 0), (.int 969 0), (.str (S "/claim/cut.py") 2010)]), (List.toArray [])⟩
def o_1210 (P : Params) : Obj := ⟨(.type "function"), none, fnO (My.top 173) (S "going_statement") (S "going_statement") 3 .none .none .none (.str (S "leanscript.goings") 1947) none (.ref 1209) .none 0, (List.toArray [])⟩
def o_1211 (P : Params) : Obj := ⟨(.type "tuple"), none, .seq (List.toArray []) 0, (List.toArray [])⟩
def o_1212 (P : Params) : Obj := ⟨.none, none, .fields (List.toArray []), (List.toArray [])⟩
def o_1213 (P : Params) : Obj := ⟨(.type "tuple"), none, .seq (List.toArray [(.str (S "survey") 2015), (.str (S "pairs") 2016), (.str (S "by_let") 2017), (.str (S "pair") 2018), (.str (S "told") 2019), (.str (S "let") 2020), (.str (S "rows") 2021)]) 0, (List.toArray [])⟩
def o_1214 (P : Params) : Obj := ⟨(.type "tuple"), none, .seq (List.toArray []) 0, (List.toArray [])⟩
def o_1215 (P : Params) : Obj := ⟨.none, none, fnO (My.top 174) (S "without_pairs") (S "without_pairs") 0 .none .none .none .none none .none .none 0, (List.toArray [])⟩
def o_1216 (P : Params) : Obj := ⟨(.type "code"), none, .fields (List.toArray [(.str (S "without_pairs") 2012), (.str (S "without_pairs") 2013), (.str (S "/claim/cut.py") 2014), (.int 971 0), (.int 2 0), (.int 0 0), (.int 0 0), (.int 3 0), (.ref 1211), (.bool true), (.int 181 0), (.ref 1212), .none, (.ref 1213), (.ref 1214), (.ref 1215), (.int 2022 0), (.int 971 0), (.str (S "/claim/cut.py") 2023)]), (List.toArray [])⟩
def o_1217 (P : Params) : Obj := ⟨(.type "function"), none, fnO (My.top 174) (S "without_pairs") (S "without_pairs") 3 .none .none .none (.str (S "leanscript.goings") 1947) none (.ref 1216) .none 0, (List.toArray [])⟩
def o_1218 (P : Params) : Obj := ⟨(.type "tuple"), none, .seq (List.toArray []) 0, (List.toArray [])⟩
def o_1219 (P : Params) : Obj := ⟨.none, none, .fields (List.toArray []), (List.toArray [])⟩
def o_1220 (P : Params) : Obj := ⟨(.type "tuple"), none, .seq (List.toArray [(.str (S "survey") 2028), (.str (S "path") 2029)]) 0, (List.toArray [])⟩
def o_1221 (P : Params) : Obj := ⟨(.type "tuple"), none, .seq (List.toArray []) 0, (List.toArray [])⟩
def o_1222 (P : Params) : Obj := ⟨.none, none, fnO (My.top 175) (S "going") (S "going") 0 .none .none .none .none none .none .none 0, (List.toArray [])⟩
def o_1223 (P : Params) : Obj := ⟨(.type "code"), none, .fields (List.toArray [(.str (S "going") 2025), (.str (S "going") 2026), (.str (S "/claim/cut.py") 2027), (.int 983 0), (.int 2 0), (.int 0 0), (.int 0 0), (.int 3 0), (.ref 1218), (.bool true), (.int 181 0), (.ref 1219), .none, (.ref 1220), (.ref 1221), (.ref 1222), (.int 2030 0), (.int 983 0), (.str (S "/claim/cut.py") 2031)]), (List.toArray [])⟩
def o_1224 (P : Params) : Obj := ⟨(.type "function"), none, fnO (My.top 175) (S "going") (S "going") 3 .none .none .none (.str (S "leanscript.goings") 1947) none (.ref 1223) .none 0, (List.toArray [])⟩
def o_1225 (P : Params) : Obj := ⟨(.type "tuple"), none, .seq (List.toArray []) 0, (List.toArray [])⟩
def o_1226 (P : Params) : Obj := ⟨.none, none, .fields (List.toArray []), (List.toArray [])⟩
def o_1227 (P : Params) : Obj := ⟨.none, none, fnO (My.top 176) (S "is_no_longer") (S "is_no_longer") 0 .none .none .none .none none .none .none 0, (List.toArray [])⟩
def o_1228 (P : Params) : Obj := ⟨(.type "code"), none, .fields (List.toArray [(.str (S "is_no_longer") 2033), (.str (S "is_no_longer") 2034), (.str (S "/claim/cut.py") 2035), (.int 987 0), (.int 3 0), (.int 0 0), (.int 0 0), (.int 3 0), (.ref 1225), (.bool true), (.int 181 0), (.ref 1226), .none, .none, .none, (.ref 1227), (.int 2036 0), (.int 987 0), (.str (S "/claim/cut.py") 2037)]), (List.toArray [])⟩
def o_1229 (P : Params) : Obj := ⟨(.type "function"), none, fnO (My.top 176) (S "is_no_longer") (S "is_no_longer") 3 .none .none .none (.str (S "leanscript.goings") 1947) none (.ref 1228) .none 0, (List.toArray [])⟩
def o_1230 (P : Params) : Obj := ⟨(.type "tuple"), none, .seq (List.toArray []) 0, (List.toArray [])⟩
def o_1231 (P : Params) : Obj := ⟨.none, none, .fields (List.toArray []), (List.toArray [])⟩
def o_1232 (P : Params) : Obj := ⟨(.type "tuple"), none, .seq (List.toArray [(.str (S "survey") 2042), (.str (S "path") 2043), (.str (S "changes") 2044)]) 0, (List.toArray [])⟩
def o_1233 (P : Params) : Obj := ⟨(.type "tuple"), none, .seq (List.toArray []) 0, (List.toArray [])⟩
def o_1234 (P : Params) : Obj := ⟨.none, none, fnO (My.top 177) (S "going_kept") (S "going_kept") 0 .none .none .none .none none .none .none 0, (List.toArray [])⟩
def o_1235 (P : Params) : Obj := ⟨(.type "code"), none, .fields (List.toArray [(.str (S "going_kept") 2039), (.str (S "going_kept") 2040), (.str (S "/claim/cut.py") 2041), (.int 991 0), (.int 2 0), (.int 0 0), (.int 0 0), (.int 3 0), (.ref 1230), (.bool true), (.int 181 0), (.ref 1231), .none, (.ref 1232), (.ref 1233), (.ref 1234), (.int 2045 0), (.int 991 0), (.str (S "/claim/cut.py") 2046)]), (List.toArray [])⟩
def o_1236 (P : Params) : Obj := ⟨(.type "function"), none, fnO (My.top 177) (S "going_kept") (S "going_kept") 3 .none .none .none (.str (S "leanscript.goings") 1947) none (.ref 1235) .none 0, (List.toArray [])⟩
def o_1237 (P : Params) : Obj := ⟨(.type "tuple"), none, .seq (List.toArray []) 0, (List.toArray [])⟩
def o_1238 (P : Params) : Obj := ⟨.none, none, .fields (List.toArray []), (List.toArray [])⟩
def o_1239 (P : Params) : Obj := ⟨(.type "tuple"), none, .seq (List.toArray [(.str (S "survey") 2051), (.str (S "pairs") 2052), (.str (S "path") 2053), (.str (S "_") 2054), (.str (S "changes") 2055)]) 0, (List.toArray [])⟩
def o_1240 (P : Params) : Obj := ⟨(.type "tuple"), none, .seq (List.toArray []) 0, (List.toArray [])⟩
def o_1241 (P : Params) : Obj := ⟨.none, none, fnO (My.top 178) (S "bare_changes") (S "bare_changes") 0 .none .none .none .none none .none .none 0, (List.toArray [])⟩
def o_1242 (P : Params) : Obj := ⟨(.type "code"), none, .fields (List.toArray [(.str (S "bare_changes") 2048), (.str (S "bare_changes") 2049), (.str (S "/claim/cut.py") 2050), (.int 994 0), (.int 1 0), (.int 0 0), (.int 0 0), (.int 3 0), (.ref 1237), (.bool true), (.int 181 0), (.ref 1238), .none, (.ref 1239), (.ref 1240), (.ref 1241), (.int 2056 0), (.int 994 0), (.str (S "/claim/cut.py") 2057)]), (List.toArray [])⟩
def o_1243 (P : Params) : Obj := ⟨(.type "function"), none, fnO (My.top 178) (S "bare_changes") (S "bare_changes") 3 .none .none .none (.str (S "leanscript.goings") 1947) none (.ref 1242) .none 0, (List.toArray [])⟩
def o_1244 (P : Params) : Obj := ⟨(.type "tuple"), none, .seq (List.toArray []) 0, (List.toArray [])⟩
def o_1245 (P : Params) : Obj := ⟨.none, none, .fields (List.toArray []), (List.toArray [])⟩
def o_1246 (P : Params) : Obj := ⟨.none, none, fnO (My.top 180) (S "with_names") (S "with_names") 0 .none .none .none .none none .none .none 0, (List.toArray [])⟩
def o_1247 (P : Params) : Obj := ⟨(.type "code"), none, .fields (List.toArray [(.str (S "with_names") 2061), (.str (S "with_names") 2062), (.str (S "/claim/cut.py") 2063), (.int 1004 0), (.int 3 0), (.int 0 0), (.int 0 0), (.int 3 0), (.ref 1244), (.bool true), (.int 181 0), (.ref 1245), .none, .none, .none, (.ref 1246), (.int 2064 0), (.int 1004 0), (.str (S "/claim/cut.py") 2065)]), (List.toArray [])⟩
def o_1248 (P : Params) : Obj := ⟨(.type "function"), none, fnO (My.top 180) (S "with_names") (S "with_names") 3 .none .none .none (.str (S "leanscript.exchange") 2059) none (.ref 1247) .none 0, (List.toArray [])⟩
def o_1249 (P : Params) : Obj := ⟨(.type "tuple"), none, .seq (List.toArray []) 0, (List.toArray [])⟩
def o_1250 (P : Params) : Obj := ⟨.none, none, .fields (List.toArray []), (List.toArray [])⟩
def o_1251 (P : Params) : Obj := ⟨.none, none, fnO (My.top 184) (S "are_letters") (S "are_letters") 0 .none .none .none .none none .none .none 0, (List.toArray [])⟩
def o_1252 (P : Params) : Obj := ⟨(.type "code"), none, .fields (List.toArray [(.str (S "are_letters") 2073), (.str (S "are_letters") 2074), (.str (S "/claim/cut.py") 2075), (.int 1013 0), (.int 1 0), (.int 0 0), (.int 0 0), (.int 3 0), (.ref 1249), (.bool true), (.int 181 0), (.ref 1250), .none, .none, .none, (.ref 1251), (.int 2076 0), (.int 1013 0), (.str (S "/claim/cut.py") 2077)]), (List.toArray [])⟩
def o_1253 (P : Params) : Obj := ⟨(.type "function"), none, fnO (My.top 184) (S "are_letters") (S "are_letters") 3 .none .none .none (.str (S "leanscript.supply") 2067) none (.ref 1252) .none 0, (List.toArray [])⟩
def o_1254 (P : Params) : Obj := ⟨(.type "tuple"), none, .seq (List.toArray []) 0, (List.toArray [])⟩
def o_1255 (P : Params) : Obj := ⟨.none, none, .fields (List.toArray []), (List.toArray [])⟩
def o_1256 (P : Params) : Obj := ⟨(.type "tuple"), none, .seq (List.toArray [(.str (S "thing") 2082)]) 0, (List.toArray [])⟩
def o_1257 (P : Params) : Obj := ⟨(.type "tuple"), none, .seq (List.toArray []) 0, (List.toArray [])⟩
def o_1258 (P : Params) : Obj := ⟨.none, none, fnO (My.top 185) (S "must_be_letters") (S "must_be_letters") 0 .none .none .none .none none .none .none 0, (List.toArray [])⟩
def o_1259 (P : Params) : Obj := ⟨(.type "code"), none, .fields (List.toArray [(.str (S "must_be_letters") 2079), (.str (S "must_be_letters") 2080), (.str (S "/claim/cut.py") 2081), (.int 1017 0), (.int 1 0), (.int 0 0), (.int 0 0), (.int 3 0), (.ref 1254), (.bool true), (.int 181 0), (.ref 1255), .none, (.ref 1256), (.ref 1257), (.ref 1258), (.int 2083 0), (.int 1017 0), (.str (S "/claim/cut.py") 2084)]), (List.toArray [])⟩
def o_1260 (P : Params) : Obj := ⟨(.type "function"), none, fnO (My.top 185) (S "must_be_letters") (S "must_be_letters") 3 .none .none .none (.str (S "leanscript.supply") 2067) none (.ref 1259) .none 0, (List.toArray [])⟩
def o_1261 (P : Params) : Obj := ⟨(.type "tuple"), none, .seq (List.toArray []) 0, (List.toArray [])⟩
def o_1262 (P : Params) : Obj := ⟨.none, none, .fields (List.toArray []), (List.toArray [])⟩
def o_1263 (P : Params) : Obj := ⟨.none, none, fnO (My.top 186) (S "first_names") (S "first_names") 0 .none .none .none .none none .none .none 0, (List.toArray [])⟩
def o_1264 (P : Params) : Obj := ⟨(.type "code"), none, .fields (List.toArray [(.str (S "first_names") 2086), (.str (S "first_names") 2087), (.str (S "/claim/cut.py") 2088), (.int 1020 0), (.int 2 0), (.int 0 0), (.int 0 0), (.int 3 0), (.ref 1261), (.bool true), (.int 181 0), (.ref 1262), .none, .none, .none, (.ref 1263), (.int 2089 0), (.int 1020 0), (.str (S "/claim/cut.py") 2090)]), (List.toArray [])⟩
def o_1265 (P : Params) : Obj := ⟨(.type "function"), none, fnO (My.top 186) (S "first_names") (S "first_names") 3 .none .none .none (.str (S "leanscript.supply") 2067) none (.ref 1264) .none 0, (List.toArray [])⟩
def o_1266 (P : Params) : Obj := ⟨(.type "tuple"), none, .seq (List.toArray []) 0, (List.toArray [])⟩
def o_1267 (P : Params) : Obj := ⟨.none, none, .fields (List.toArray []), (List.toArray [])⟩
def o_1268 (P : Params) : Obj := ⟨.none, none, fnO (My.top 188) (S "pairs_of_rooms") (S "pairs_of_rooms") 0 .none .none .none .none none .none .none 0, (List.toArray [])⟩
def o_1269 (P : Params) : Obj := ⟨(.type "code"), none, .fields (List.toArray [(.str (S "pairs_of_rooms") 2094), (.str (S "pairs_of_rooms") 2095), (.str (S "/claim/cut.py") 2096), (.int 1028 0), (.int 1 0), (.int 0 0), (.int 0 0), (.int 3 0), (.ref 1266), (.bool true), (.int 181 0), (.ref 1267), .none, .none, .none, (.ref 1268), (.int 2097 0), (.int 1028 0), (.str (S "/claim/cut.py") 2098)]), (List.toArray [])⟩
def o_1270 (P : Params) : Obj := ⟨(.type "function"), none, fnO (My.top 188) (S "pairs_of_rooms") (S "pairs_of_rooms") 3 .none .none .none (.str (S "leanscript.naming") 2092) none (.ref 1269) .none 0, (List.toArray [])⟩
def o_1271 (P : Params) : Obj := ⟨(.type "tuple"), none, .seq (List.toArray []) 0, (List.toArray [])⟩
def o_1272 (P : Params) : Obj := ⟨.none, none, .fields (List.toArray []), (List.toArray [])⟩
def o_1273 (P : Params) : Obj := ⟨.none, none, fnO (My.top 189) (S "pairs_of_uses") (S "pairs_of_uses") 0 .none .none .none .none none .none .none 0, (List.toArray [])⟩
def o_1274 (P : Params) : Obj := ⟨(.type "code"), none, .fields (List.toArray [(.str (S "pairs_of_uses") 2100), (.str (S "pairs_of_uses") 2101), (.str (S "/claim/cut.py") 2102), (.int 1034 0), (.int 2 0), (.int 0 0), (.int 0 0), (.int 3 0), (.ref 1271), (.bool true), (.int 181 0), (.ref 1272), .none, .none, .none, (.ref 1273), (.int 2103 0), (.int 1034 0), (.str (S "/claim/cut.py") 2104)]), (List.toArray [])⟩
def o_1275 (P : Params) : Obj := ⟨(.type "function"), none, fnO (My.top 189) (S "pairs_of_uses") (S "pairs_of_uses") 3 .none .none .none (.str (S "leanscript.naming") 2092) none (.ref 1274) .none 0, (List.toArray [])⟩
def o_1276 (P : Params) : Obj := ⟨(.type "tuple"), none, .seq (List.toArray []) 0, (List.toArray [])⟩
def o_1277 (P : Params) : Obj := ⟨.none, none, .fields (List.toArray []), (List.toArray [])⟩
def o_1278 (P : Params) : Obj := ⟨(.type "tuple"), none, .seq (List.toArray [(.str (S "tree") 2109), (.str (S "layout") 2110), (.str (S "by_room") 2111)]) 0, (List.toArray [])⟩
def o_1279 (P : Params) : Obj := ⟨(.type "tuple"), none, .seq (List.toArray []) 0, (List.toArray [])⟩
def o_1280 (P : Params) : Obj := ⟨.none, none, fnO (My.top 190) (S "hinder") (S "hinder") 0 .none .none .none .none none .none .none 0, (List.toArray [])⟩
def o_1281 (P : Params) : Obj := ⟨(.type "code"), none, .fields (List.toArray [(.str (S "hinder") 2106), (.str (S "hinder") 2107), (.str (S "/claim/cut.py") 2108), (.int 1043 0), (.int 1 0), (.int 0 0), (.int 0 0), (.int 3 0), (.ref 1276), (.bool true), (.int 181 0), (.ref 1277), .none, (.ref 1278), (.ref 1279), (.ref 1280), (.int 2112 0), (.int 1043 0), (.str (S "/claim/cut.py") 2113)]), (List.toArray [])⟩
def o_1282 (P : Params) : Obj := ⟨(.type "function"), none, fnO (My.top 190) (S "hinder") (S "hinder") 3 .none .none .none (.str (S "leanscript.naming") 2092) none (.ref 1281) .none 0, (List.toArray [])⟩
def o_1283 (P : Params) : Obj := ⟨(.type "tuple"), none, .seq (List.toArray []) 0, (List.toArray [])⟩
def o_1284 (P : Params) : Obj := ⟨.none, none, .fields (List.toArray []), (List.toArray [])⟩
def o_1285 (P : Params) : Obj := ⟨.none, none, fnO (My.top 191) (S "barred") (S "barred") 0 .none .none .none .none none .none .none 0, (List.toArray [])⟩
def o_1286 (P : Params) : Obj := ⟨(.type "code"), none, .fields (List.toArray [(.str (S "barred") 2115), (.str (S "barred") 2116), (.str (S "/claim/cut.py") 2117), (.int 1047 0), (.int 1 0), (.int 0 0), (.int 0 0), (.int 3 0), (.ref 1283), (.bool true), (.int 181 0), (.ref 1284), .none, .none, .none, (.ref 1285), (.int 2118 0), (.int 1047 0), (.str (S "/claim/cut.py") 2119)]), (List.toArray [])⟩
def o_1287 (P : Params) : Obj := ⟨(.type "function"), none, fnO (My.top 191) (S "barred") (S "barred") 3 .none .none .none (.str (S "leanscript.naming") 2092) none (.ref 1286) .none 0, (List.toArray [])⟩
def o_1288 (P : Params) : Obj := ⟨(.type "tuple"), none, .seq (List.toArray []) 0, (List.toArray [])⟩
def o_1289 (P : Params) : Obj := ⟨.none, none, .fields (List.toArray []), (List.toArray [])⟩
def o_1290 (P : Params) : Obj := ⟨.none, none, fnO (My.top 192) (S "must_be_naming") (S "must_be_naming") 0 .none .none .none .none none .none .none 0, (List.toArray [])⟩
def o_1291 (P : Params) : Obj := ⟨(.type "code"), none, .fields (List.toArray [(.str (S "must_be_naming") 2121), (.str (S "must_be_naming") 2122), (.str (S "/claim/cut.py") 2123), (.int 1058 0), (.int 2 0), (.int 0 0), (.int 0 0), (.int 3 0), (.ref 1288), (.bool true), (.int 181 0), (.ref 1289), .none, .none, .none, (.ref 1290), (.int 2124 0), (.int 1058 0), (.str (S "/claim/cut.py") 2125)]), (List.toArray [])⟩
def o_1292 (P : Params) : Obj := ⟨(.type "function"), none, fnO (My.top 192) (S "must_be_naming") (S "must_be_naming") 3 .none .none .none (.str (S "leanscript.naming") 2092) none (.ref 1291) .none 0, (List.toArray [])⟩
def o_1293 (P : Params) : Obj := ⟨(.type "tuple"), none, .seq (List.toArray []) 0, (List.toArray [])⟩
def o_1294 (P : Params) : Obj := ⟨.none, none, .fields (List.toArray []), (List.toArray [])⟩
def o_1295 (P : Params) : Obj := ⟨(.type "tuple"), none, .seq (List.toArray [(.str (S "tree") 2130), (.str (S "naming") 2131), (.str (S "names") 2132), (.str (S "_") 2133), (.str (S "path") 2134), (.str (S "uses") 2135), (.str (S "name") 2136), (.str (S "place") 2137)]) 0, (List.toArray [])⟩
def o_1296 (P : Params) : Obj := ⟨(.type "tuple"), none, .seq (List.toArray []) 0, (List.toArray [])⟩
def o_1297 (P : Params) : Obj := ⟨.none, none, fnO (My.top 193) (S "named") (S "named") 0 .none .none .none .none none .none .none 0, (List.toArray [])⟩
def o_1298 (P : Params) : Obj := ⟨(.type "code"), none, .fields (List.toArray [(.str (S "named") 2127), (.str (S "named") 2128), (.str (S "/claim/cut.py") 2129), (.int 1068 0), (.int 2 0), (.int 0 0), (.int 0 0), (.int 3 0), (.ref 1293), (.bool true), (.int 181 0), (.ref 1294), .none, (.ref 1295), (.ref 1296), (.ref 1297), (.int 2138 0), (.int 1068 0), (.str (S "/claim/cut.py") 2139)]), (List.toArray [])⟩
def o_1299 (P : Params) : Obj := ⟨(.type "function"), none, fnO (My.top 193) (S "named") (S "named") 3 .none .none .none (.str (S "leanscript.naming") 2092) none (.ref 1298) .none 0, (List.toArray [])⟩
def o_1300 (P : Params) : Obj := ⟨(.type "tuple"), none, .seq (List.toArray []) 0, (List.toArray [])⟩
def o_1301 (P : Params) : Obj := ⟨.none, none, .fields (List.toArray []), (List.toArray [])⟩
def o_1302 (P : Params) : Obj := ⟨.none, none, fnO (My.top 194) (S "counts") (S "counts") 0 .none .none .none .none none .none .none 0, (List.toArray [])⟩
def o_1303 (P : Params) : Obj := ⟨(.type "code"), none, .fields (List.toArray [(.str (S "counts") 2141), (.str (S "counts") 2142), (.str (S "/claim/cut.py") 2143), (.int 1075 0), (.int 1 0), (.int 0 0), (.int 0 0), (.int 3 0), (.ref 1300), (.bool true), (.int 181 0), (.ref 1301), .none, .none, .none, (.ref 1302), (.int 2144 0), (.int 1075 0), (.str (S "/claim/cut.py") 2145)]), (List.toArray [])⟩
def o_1304 (P : Params) : Obj := ⟨(.type "function"), none, fnO (My.top 194) (S "counts") (S "counts") 3 .none .none .none (.str (S "leanscript.naming") 2092) none (.ref 1303) .none 0, (List.toArray [])⟩
def o_1305 (P : Params) : Obj := ⟨(.type "tuple"), none, .seq (List.toArray []) 0, (List.toArray [])⟩
def o_1306 (P : Params) : Obj := ⟨.none, none, .fields (List.toArray []), (List.toArray [])⟩
def o_1307 (P : Params) : Obj := ⟨.none, none, fnO (My.top 195) (S "hindering") (S "hindering") 0 .none .none .none .none none .none .none 0, (List.toArray [])⟩
def o_1308 (P : Params) : Obj := ⟨(.type "code"), none, .fields (List.toArray [(.str (S "hindering") 2147), (.str (S "hindering") 2148), (.str (S "/claim/cut.py") 2149), (.int 1077 0), (.int 1 0), (.int 0 0), (.int 0 0), (.int 3 0), (.ref 1305), (.bool true), (.int 181 0), (.ref 1306), .none, .none, .none, (.ref 1307), (.int 2150 0), (.int 1077 0), (.str (S "/claim/cut.py") 2151)]), (List.toArray [])⟩
def o_1309 (P : Params) : Obj := ⟨(.type "function"), none, fnO (My.top 195) (S "hindering") (S "hindering") 3 .none .none .none (.str (S "leanscript.naming") 2092) none (.ref 1308) .none 0, (List.toArray [])⟩
def o_1310 (P : Params) : Obj := ⟨(.type "tuple"), none, .seq (List.toArray []) 0, (List.toArray [])⟩
def o_1311 (P : Params) : Obj := ⟨.none, none, .fields (List.toArray []), (List.toArray [])⟩
def o_1312 (P : Params) : Obj := ⟨.none, none, fnO (My.top 196) (S "fair") (S "fair") 0 .none .none .none .none none .none .none 0, (List.toArray [])⟩
def o_1313 (P : Params) : Obj := ⟨(.type "code"), none, .fields (List.toArray [(.str (S "fair") 2153), (.str (S "fair") 2154), (.str (S "/claim/cut.py") 2155), (.int 1083 0), (.int 2 0), (.int 0 0), (.int 0 0), (.int 3 0), (.ref 1310), (.bool true), (.int 181 0), (.ref 1311), .none, .none, .none, (.ref 1312), (.int 2156 0), (.int 1083 0), (.str (S "/claim/cut.py") 2157)]), (List.toArray [])⟩
def o_1314 (P : Params) : Obj := ⟨(.type "function"), none, fnO (My.top 196) (S "fair") (S "fair") 3 .none .none .none (.str (S "leanscript.naming") 2092) none (.ref 1313) .none 0, (List.toArray [])⟩
def o_1315 (P : Params) : Obj := ⟨(.type "tuple"), none, .seq (List.toArray []) 0, (List.toArray [])⟩
def o_1316 (P : Params) : Obj := ⟨.none, none, .fields (List.toArray []), (List.toArray [])⟩
def o_1317 (P : Params) : Obj := ⟨.none, none, fnO (My.top 198) (S "places_of_properties") (S "places_of_properties") 0 .none .none .none .none none .none .none 0, (List.toArray [])⟩
def o_1318 (P : Params) : Obj := ⟨(.type "code"), none, .fields (List.toArray [(.str (S "places_of_properties") 2161), (.str (S "places_of_properties") 2162), (.str (S "/claim/cut.py") 2163), (.int 1094 0), (.int 1 0), (.int 0 0), (.int 0 0), (.int 3 0), (.ref 1315), (.bool true), (.int 181 0), (.ref 1316), .none, .none, .none, (.ref 1317), (.int 2164 0), (.int 1094 0), (.str (S "/claim/cut.py") 2165)]), (List.toArray [])⟩
def o_1319 (P : Params) : Obj := ⟨(.type "function"), none, fnO (My.top 198) (S "places_of_properties") (S "places_of_properties") 3 .none .none .none (.str (S "leanscript.properties") 2159) none (.ref 1318) .none 0, (List.toArray [])⟩
def o_1320 (P : Params) : Obj := ⟨(.type "tuple"), none, .seq (List.toArray []) 0, (List.toArray [])⟩
def o_1321 (P : Params) : Obj := ⟨.none, none, .fields (List.toArray []), (List.toArray [])⟩
def o_1322 (P : Params) : Obj := ⟨.none, none, fnO (My.top 199) (S "properties") (S "properties") 0 .none .none .none .none none .none .none 0, (List.toArray [])⟩
def o_1323 (P : Params) : Obj := ⟨(.type "code"), none, .fields (List.toArray [(.str (S "properties") 2167), (.str (S "properties") 2168), (.str (S "/claim/cut.py") 2169), (.int 1102 0), (.int 1 0), (.int 0 0), (.int 0 0), (.int 3 0), (.ref 1320), (.bool true), (.int 181 0), (.ref 1321), .none, .none, .none, (.ref 1322), (.int 2170 0), (.int 1102 0), (.str (S "/claim/cut.py") 2171)]), (List.toArray [])⟩
def o_1324 (P : Params) : Obj := ⟨(.type "function"), none, fnO (My.top 199) (S "properties") (S "properties") 3 .none .none .none (.str (S "leanscript.properties") 2159) none (.ref 1323) .none 0, (List.toArray [])⟩
def o_1325 (P : Params) : Obj := ⟨(.type "tuple"), none, .seq (List.toArray []) 0, (List.toArray [])⟩
def o_1326 (P : Params) : Obj := ⟨.none, none, .fields (List.toArray []), (List.toArray [])⟩
def o_1327 (P : Params) : Obj := ⟨.none, none, fnO (My.top 200) (S "are_unlike_names") (S "are_unlike_names") 0 .none .none .none .none none .none .none 0, (List.toArray [])⟩
def o_1328 (P : Params) : Obj := ⟨(.type "code"), none, .fields (List.toArray [(.str (S "are_unlike_names") 2173), (.str (S "are_unlike_names") 2174), (.str (S "/claim/cut.py") 2175), (.int 1107 0), (.int 2 0), (.int 0 0), (.int 0 0), (.int 3 0), (.ref 1325), (.bool true), (.int 181 0), (.ref 1326), .none, .none, .none, (.ref 1327), (.int 2176 0), (.int 1107 0), (.str (S "/claim/cut.py") 2177)]), (List.toArray [])⟩
def o_1329 (P : Params) : Obj := ⟨(.type "function"), none, fnO (My.top 200) (S "are_unlike_names") (S "are_unlike_names") 3 .none .none .none (.str (S "leanscript.properties") 2159) none (.ref 1328) .none 0, (List.toArray [])⟩
def o_1330 (P : Params) : Obj := ⟨(.type "tuple"), none, .seq (List.toArray []) 0, (List.toArray [])⟩
def o_1331 (P : Params) : Obj := ⟨.none, none, .fields (List.toArray []), (List.toArray [])⟩
def o_1332 (P : Params) : Obj := ⟨(.type "tuple"), none, .seq (List.toArray [(.str (S "ks") 2182), (.str (S "keep") 2183), (.str (S "names") 2184), (.str (S "place") 2185), (.str (S "k") 2186)]) 0, (List.toArray [])⟩
def o_1333 (P : Params) : Obj := ⟨(.type "tuple"), none, .seq (List.toArray []) 0, (List.toArray [])⟩
def o_1334 (P : Params) : Obj := ⟨.none, none, fnO (My.top 201) (S "must_be_property_naming") (S "must_be_property_naming") 0 .none .none .none .none none .none .none 0, (List.toArray [])⟩
def o_1335 (P : Params) : Obj := ⟨(.type "code"), none, .fields (List.toArray [(.str (S "must_be_property_naming") 2179), (.str (S "must_be_property_naming") 2180), (.str (S "/claim/cut.py") 2181), (.int 1111 0), (.int 3 0), (.int 0 0), (.int 0 0), (.int 3 0), (.ref 1330), (.bool true), (.int 181 0), (.ref 1331), .none, (.ref 1332), (.ref 1333), (.ref 1334), (.int 2187 0), (.int 1111 0), (.str (S "/claim/cut.py") 2188)]), (List.toArray [])⟩
def o_1336 (P : Params) : Obj := ⟨(.type "function"), none, fnO (My.top 201) (S "must_be_property_naming") (S "must_be_property_naming") 3 .none .none .none (.str (S "leanscript.properties") 2159) none (.ref 1335) .none 0, (List.toArray [])⟩
def o_1337 (P : Params) : Obj := ⟨(.type "tuple"), none, .seq (List.toArray []) 0, (List.toArray [])⟩
def o_1338 (P : Params) : Obj := ⟨.none, none, .fields (List.toArray []), (List.toArray [])⟩
def o_1339 (P : Params) : Obj := ⟨.none, none, fnO (My.top 202) (S "props_named") (S "props_named") 0 .none .none .none .none none .none .none 0, (List.toArray [])⟩
def o_1340 (P : Params) : Obj := ⟨(.type "code"), none, .fields (List.toArray [(.str (S "props_named") 2190), (.str (S "props_named") 2191), (.str (S "/claim/cut.py") 2192), (.int 1117 0), (.int 3 0), (.int 0 0), (.int 0 0), (.int 3 0), (.ref 1337), (.bool true), (.int 181 0), (.ref 1338), .none, .none, .none, (.ref 1339), (.int 2193 0), (.int 1117 0), (.str (S "/claim/cut.py") 2194)]), (List.toArray [])⟩
def o_1341 (P : Params) : Obj := ⟨(.type "function"), none, fnO (My.top 202) (S "props_named") (S "props_named") 3 .none .none .none (.str (S "leanscript.properties") 2159) none (.ref 1340) .none 0, (List.toArray [])⟩
def o_1342 (P : Params) : Obj := ⟨(.type "tuple"), none, .seq (List.toArray []) 0, (List.toArray [])⟩
def o_1343 (P : Params) : Obj := ⟨.none, none, .fields (List.toArray []), (List.toArray [])⟩
def o_1344 (P : Params) : Obj := ⟨.none, none, fnO (My.top 203) (S "props_least") (S "props_least") 0 .none .none .none .none none .none .none 0, (List.toArray [])⟩
def o_1345 (P : Params) : Obj := ⟨(.type "code"), none, .fields (List.toArray [(.str (S "props_least") 2196), (.str (S "props_least") 2197), (.str (S "/claim/cut.py") 2198), (.int 1122 0), (.int 3 0), (.int 0 0), (.int 0 0), (.int 3 0), (.ref 1342), (.bool true), (.int 181 0), (.ref 1343), .none, .none, .none, (.ref 1344), (.int 2199 0), (.int 1122 0), (.str (S "/claim/cut.py") 2200)]), (List.toArray [])⟩
def o_1346 (P : Params) : Obj := ⟨(.type "function"), none, fnO (My.top 203) (S "props_least") (S "props_least") 3 .none .none .none (.str (S "leanscript.properties") 2159) none (.ref 1345) .none 0, (List.toArray [])⟩
def o_1347 (P : Params) : Obj := ⟨(.type "tuple"), none, .seq (List.toArray [(.type "Exception")]) 0, (List.toArray [])⟩
def o_1348 (P : Params) : Obj := ⟨(.type "builtin_function_or_method"), none, .fields (List.toArray [(.builtin "type.__prepare__"), (.type "type")]), (List.toArray [])⟩
def o_1349 (P : Params) : Obj := ⟨(.type "dict"), none, .dict (List.toArray [⟨(PyData.keyHash P (S "__module__")), (.str (S "__module__") 2220), (.str (S "leanscript.worths") 2202)⟩, ⟨(PyData.keyHash P (S "__qualname__")), (.str (S "__qualname__") 2222), (.str (S "Failing") 2221)⟩, ⟨(PyData.keyHash P (S "__firstlineno__")), (.str (S "__firstlineno__") 2224), (.int 1135 2223)⟩, ⟨(PyData.keyHash P (S "__init__")), (.str (S "__init__") 2232), (.ref 1360)⟩, ⟨(PyData.keyHash P (S "__static_attributes__")), (.str (S "__static_attributes__") 2234), (.ref 1361)⟩]) 5, (List.toArray [])⟩
def o_1350 (P : Params) : Obj := ⟨(.type "tuple"), none, .seq (List.toArray []) 0, (List.toArray [])⟩
def o_1351 (P : Params) : Obj := ⟨.none, none, .fields (List.toArray [(.int 1137 0), (.int 4 0), (.ref 1359)]), (List.toArray [])⟩
def o_1352 (P : Params) : Obj := ⟨(.type "code"), none, .fields (List.toArray [(.str (S "Failing") 2215), (.str (S "Failing") 2216), (.str (S "/claim/cut.py") 2217), (.int 1135 0), (.int 0 0), (.int 0 0), (.int 0 0), (.int 0 0), (.ref 1350), (.bool false), (.int 181 0), (.ref 1351), .none, .none, .none, .none, (.int 2218 0), (.int 1135 0), (.str (S "/claim/cut.py") 2219)]), (List.toArray [])⟩
def o_1353 (P : Params) : Obj := ⟨(.type "frame"), none, .plain, (List.toArray [(some (.ref 1352)), (some (.ref 3)), (some (.ref 1349)), none, (some (.str (S "leanscript.worths") 2202)), none, (some (.ref 0))])⟩
def o_1354 (P : Params) : Obj := ⟨(.type "tuple"), none, .seq (List.toArray []) 0, (List.toArray [])⟩
def o_1355 (P : Params) : Obj := ⟨.none, none, .fields (List.toArray []), (List.toArray [])⟩
def o_1356 (P : Params) : Obj := ⟨(.type "tuple"), none, .seq (List.toArray [(.str (S "self") 2228), (.str (S "number") 2229)]) 0, (List.toArray [])⟩
def o_1357 (P : Params) : Obj := ⟨(.type "tuple"), none, .seq (List.toArray []) 0, (List.toArray [])⟩
def o_1358 (P : Params) : Obj := ⟨.none, none, fnO (L2.inClass (My.top 208) 0) (S "__init__") (S "Failing.__init__") 0 .none .none .none .none none .none .none 0, (List.toArray [])⟩
def o_1359 (P : Params) : Obj := ⟨(.type "code"), none, .fields (List.toArray [(.str (S "__init__") 2225), (.str (S "Failing.__init__") 2226), (.str (S "/claim/cut.py") 2227), (.int 1137 0), (.int 2 0), (.int 0 0), (.int 0 0), (.int 3 0), (.ref 1354), (.bool true), (.int 181 0), (.ref 1355), .none, (.ref 1356), (.ref 1357), (.ref 1358), (.int 2230 0), (.int 1137 0), (.str (S "/claim/cut.py") 2231)]), (List.toArray [])⟩
def o_1360 (P : Params) : Obj := ⟨(.type "function"), none, fnO (L2.inClass (My.top 208) 0) (S "__init__") (S "Failing.__init__") 3 .none .none .none (.str (S "leanscript.worths") 2202) none (.ref 1359) .none 0, (List.toArray [])⟩
def o_1361 (P : Params) : Obj := ⟨(.type "tuple"), none, .seq (List.toArray [(.str (S "number") 2233)]) 0, (List.toArray [])⟩
def o_1362 (P : Params) : Obj := ⟨(.type "dict"), none, .dict (List.toArray [⟨(PyData.keyHash P (S "__module__")), (.str (S "__module__") 2220), (.str (S "leanscript.worths") 2202)⟩, ⟨(PyData.keyHash P (S "__firstlineno__")), (.str (S "__firstlineno__") 2224), (.int 1135 2223)⟩, ⟨(PyData.keyHash P (S "__init__")), (.str (S "__init__") 2232), (.ref 1360)⟩, ⟨(PyData.keyHash P (S "__static_attributes__")), (.str (S "__static_attributes__") 2234), (.ref 1361)⟩, ⟨(PyData.keyHash P (S "__weakref__")), (.str (S "__weakref__") 2236), (.ref 1364)⟩, ⟨(PyData.keyHash P (S "__doc__")), (.str (S "__doc__") 2237), .none⟩]) 3, (List.toArray [])⟩
def o_1363 (P : Params) : Obj := ⟨(.type "type"), none, .cls ⟨(S "Failing"), [(.type "Exception")], [(.ref 1363), (.type "Exception"), (.type "BaseException"), (.type "object")], 1362, (S "Failing"), true, [], [], false, none, false⟩, (List.toArray [(some (.ref 1347)), none, (some (.str (S "Failing") 2213)), (some (.str (S "Failing") 2221)), (some (.builtin "Exception.__new__")), (some (.bool true))])⟩
def o_1364 (P : Params) : Obj := ⟨(.type "getset_descriptor"), none, .fields (List.toArray [(.str (S "__weakref__") 2235), (.ref 1363), (.builtin "ExceptionGroup.__weakref__"), .none]), (List.toArray [])⟩
def o_1365 (P : Params) : Obj := ⟨(.type "super"), none, .fields (List.toArray [(.ref 1363), (.ref 1363), (.ref 1363)]), (List.toArray [])⟩
def o_1366 (P : Params) : Obj := ⟨(.type "builtin_function_or_method"), none, .fields (List.toArray [(.builtin "object.__init_subclass__"), (.ref 1363)]), (List.toArray [])⟩
def o_1367 (P : Params) : Obj := ⟨(.type "tuple"), none, .seq (List.toArray []) 0, (List.toArray [])⟩
def o_1368 (P : Params) : Obj := ⟨.none, none, .fields (List.toArray []), (List.toArray [])⟩
def o_1369 (P : Params) : Obj := ⟨(.type "tuple"), none, .seq (List.toArray [(.str (S "worth") 2245)]) 0, (List.toArray [])⟩
def o_1370 (P : Params) : Obj := ⟨(.type "tuple"), none, .seq (List.toArray []) 0, (List.toArray [])⟩
def o_1371 (P : Params) : Obj := ⟨.none, none, fnO (My.top 209) (S "is_number_worth") (S "is_number_worth") 0 .none .none .none .none none .none .none 0, (List.toArray [])⟩
def o_1372 (P : Params) : Obj := ⟨(.type "code"), none, .fields (List.toArray [(.str (S "is_number_worth") 2242), (.str (S "is_number_worth") 2243), (.str (S "/claim/cut.py") 2244), (.int 1139 0), (.int 1 0), (.int 0 0), (.int 0 0), (.int 3 0), (.ref 1367), (.bool true), (.int 181 0), (.ref 1368), .none, (.ref 1369), (.ref 1370), (.ref 1371), (.int 2246 0), (.int 1139 0), (.str (S "/claim/cut.py") 2247)]), (List.toArray [])⟩
def o_1373 (P : Params) : Obj := ⟨(.type "function"), none, fnO (My.top 209) (S "is_number_worth") (S "is_number_worth") 3 .none .none .none (.str (S "leanscript.worths") 2202) none (.ref 1372) .none 0, (List.toArray [])⟩
def o_1374 (P : Params) : Obj := ⟨(.type "tuple"), none, .seq (List.toArray []) 0, (List.toArray [])⟩
def o_1375 (P : Params) : Obj := ⟨.none, none, .fields (List.toArray []), (List.toArray [])⟩
def o_1376 (P : Params) : Obj := ⟨(.type "tuple"), none, .seq (List.toArray [(.str (S "worth") 2252)]) 0, (List.toArray [])⟩
def o_1377 (P : Params) : Obj := ⟨(.type "tuple"), none, .seq (List.toArray []) 0, (List.toArray [])⟩
def o_1378 (P : Params) : Obj := ⟨.none, none, fnO (My.top 210) (S "number_of") (S "number_of") 0 .none .none .none .none none .none .none 0, (List.toArray [])⟩
def o_1379 (P : Params) : Obj := ⟨(.type "code"), none, .fields (List.toArray [(.str (S "number_of") 2249), (.str (S "number_of") 2250), (.str (S "/claim/cut.py") 2251), (.int 1141 0), (.int 1 0), (.int 0 0), (.int 0 0), (.int 3 0), (.ref 1374), (.bool true), (.int 181 0), (.ref 1375), .none, (.ref 1376), (.ref 1377), (.ref 1378), (.int 2253 0), (.int 1141 0), (.str (S "/claim/cut.py") 2254)]), (List.toArray [])⟩
def o_1380 (P : Params) : Obj := ⟨(.type "function"), none, fnO (My.top 210) (S "number_of") (S "number_of") 3 .none .none .none (.str (S "leanscript.worths") 2202) none (.ref 1379) .none 0, (List.toArray [])⟩
def o_1381 (P : Params) : Obj := ⟨(.type "tuple"), none, .seq (List.toArray []) 0, (List.toArray [])⟩
def o_1382 (P : Params) : Obj := ⟨.none, none, .fields (List.toArray []), (List.toArray [])⟩
def o_1383 (P : Params) : Obj := ⟨(.type "tuple"), none, .seq (List.toArray [(.str (S "worth") 2259)]) 0, (List.toArray [])⟩
def o_1384 (P : Params) : Obj := ⟨(.type "tuple"), none, .seq (List.toArray []) 0, (List.toArray [])⟩
def o_1385 (P : Params) : Obj := ⟨.none, none, fnO (My.top 211) (S "contrary") (S "contrary") 0 .none .none .none .none none .none .none 0, (List.toArray [])⟩
def o_1386 (P : Params) : Obj := ⟨(.type "code"), none, .fields (List.toArray [(.str (S "contrary") 2256), (.str (S "contrary") 2257), (.str (S "/claim/cut.py") 2258), (.int 1145 0), (.int 1 0), (.int 0 0), (.int 0 0), (.int 3 0), (.ref 1381), (.bool true), (.int 181 0), (.ref 1382), .none, (.ref 1383), (.ref 1384), (.ref 1385), (.int 2260 0), (.int 1145 0), (.str (S "/claim/cut.py") 2261)]), (List.toArray [])⟩
def o_1387 (P : Params) : Obj := ⟨(.type "function"), none, fnO (My.top 211) (S "contrary") (S "contrary") 3 .none .none .none (.str (S "leanscript.worths") 2202) none (.ref 1386) .none 0, (List.toArray [])⟩
def o_1388 (P : Params) : Obj := ⟨(.type "tuple"), none, .seq (List.toArray []) 0, (List.toArray [])⟩
def o_1389 (P : Params) : Obj := ⟨.none, none, .fields (List.toArray []), (List.toArray [])⟩
def o_1390 (P : Params) : Obj := ⟨(.type "tuple"), none, .seq (List.toArray [(.str (S "sign") 2266), (.str (S "left") 2267), (.str (S "right") 2268)]) 0, (List.toArray [])⟩
def o_1391 (P : Params) : Obj := ⟨(.type "tuple"), none, .seq (List.toArray []) 0, (List.toArray [])⟩
def o_1392 (P : Params) : Obj := ⟨.none, none, fnO (My.top 212) (S "compared") (S "compared") 0 .none .none .none .none none .none .none 0, (List.toArray [])⟩
def o_1393 (P : Params) : Obj := ⟨(.type "code"), none, .fields (List.toArray [(.str (S "compared") 2263), (.str (S "compared") 2264), (.str (S "/claim/cut.py") 2265), (.int 1147 0), (.int 3 0), (.int 0 0), (.int 0 0), (.int 3 0), (.ref 1388), (.bool true), (.int 181 0), (.ref 1389), .none, (.ref 1390), (.ref 1391), (.ref 1392), (.int 2269 0), (.int 1147 0), (.str (S "/claim/cut.py") 2270)]), (List.toArray [])⟩
def o_1394 (P : Params) : Obj := ⟨(.type "function"), none, fnO (My.top 212) (S "compared") (S "compared") 3 .none .none .none (.str (S "leanscript.worths") 2202) none (.ref 1393) .none 0, (List.toArray [])⟩
def o_1395 (P : Params) : Obj := ⟨(.type "tuple"), none, .seq (List.toArray []) 0, (List.toArray [])⟩
def o_1396 (P : Params) : Obj := ⟨.none, none, .fields (List.toArray []), (List.toArray [])⟩
def o_1397 (P : Params) : Obj := ⟨(.type "tuple"), none, .seq (List.toArray [(.str (S "sign") 2275), (.str (S "left") 2276), (.str (S "right") 2277)]) 0, (List.toArray [])⟩
def o_1398 (P : Params) : Obj := ⟨(.type "tuple"), none, .seq (List.toArray []) 0, (List.toArray [])⟩
def o_1399 (P : Params) : Obj := ⟨.none, none, fnO (My.top 213) (S "reckoned") (S "reckoned") 0 .none .none .none .none none .none .none 0, (List.toArray [])⟩
def o_1400 (P : Params) : Obj := ⟨(.type "code"), none, .fields (List.toArray [(.str (S "reckoned") 2272), (.str (S "reckoned") 2273), (.str (S "/claim/cut.py") 2274), (.int 1155 0), (.int 3 0), (.int 0 0), (.int 0 0), (.int 3 0), (.ref 1395), (.bool true), (.int 181 0), (.ref 1396), .none, (.ref 1397), (.ref 1398), (.ref 1399), (.int 2278 0), (.int 1155 0), (.str (S "/claim/cut.py") 2279)]), (List.toArray [])⟩
def o_1401 (P : Params) : Obj := ⟨(.type "function"), none, fnO (My.top 213) (S "reckoned") (S "reckoned") 3 .none .none .none (.str (S "leanscript.worths") 2202) none (.ref 1400) .none 0, (List.toArray [])⟩
def o_1402 (P : Params) : Obj := ⟨(.type "tuple"), none, .seq (List.toArray []) 0, (List.toArray [])⟩
def o_1403 (P : Params) : Obj := ⟨.none, none, .fields (List.toArray []), (List.toArray [])⟩
def o_1404 (P : Params) : Obj := ⟨(.type "tuple"), none, .seq (List.toArray [(.str (S "sign") 2284), (.str (S "left") 2285), (.str (S "right") 2286), (.str (S "one") 2287), (.str (S "other") 2288), (.str (S "told") 2289)]) 0, (List.toArray [])⟩
def o_1405 (P : Params) : Obj := ⟨(.type "tuple"), none, .seq (List.toArray []) 0, (List.toArray [])⟩
def o_1406 (P : Params) : Obj := ⟨.none, none, fnO (My.top 214) (S "two_told") (S "two_told") 0 .none .none .none .none none .none .none 0, (List.toArray [])⟩
def o_1407 (P : Params) : Obj := ⟨(.type "code"), none, .fields (List.toArray [(.str (S "two_told") 2281), (.str (S "two_told") 2282), (.str (S "/claim/cut.py") 2283), (.int 1165 0), (.int 3 0), (.int 0 0), (.int 0 0), (.int 3 0), (.ref 1402), (.bool true), (.int 181 0), (.ref 1403), .none, (.ref 1404), (.ref 1405), (.ref 1406), (.int 2290 0), (.int 1165 0), (.str (S "/claim/cut.py") 2291)]), (List.toArray [])⟩
def o_1408 (P : Params) : Obj := ⟨(.type "function"), none, fnO (My.top 214) (S "two_told") (S "two_told") 3 .none .none .none (.str (S "leanscript.worths") 2202) none (.ref 1407) .none 0, (List.toArray [])⟩
def o_1409 (P : Params) : Obj := ⟨(.type "dict"), none, .dict (List.toArray [⟨(PyData.keyHash P (S "<")), (.str (S "<") 2295), (.str (S ">=") 2296)⟩, ⟨(PyData.keyHash P (S ">=")), (.str (S ">=") 2297), (.str (S "<") 2298)⟩, ⟨(PyData.keyHash P (S ">")), (.str (S ">") 2299), (.str (S "<=") 2300)⟩, ⟨(PyData.keyHash P (S "<=")), (.str (S "<=") 2301), (.str (S ">") 2302)⟩, ⟨(PyData.keyHash P (S "==")), (.str (S "==") 2303), (.str (S "!=") 2304)⟩, ⟨(PyData.keyHash P (S "!=")), (.str (S "!=") 2305), (.str (S "==") 2306)⟩]) 6, (List.toArray [])⟩
def T3 (P : Params) : PySem.W.BT := (.node (boot_o_0 P) (.node (boot_o_1 P) (.node (o_3_2 P) (.node (boot_o_7 P) (.node (o_15 P) (.node (o_31 P) (.node (o_63 P) (.node (o_127 P) (.node (o_255 P) (.node (o_511 P) (.node (o_1023 P) .nil .nil) .nil) (.node (o_767 P) (.node (o_1279 P) .nil .nil) .nil)) (.node (o_383 P) (.node (o_639 P) (.node (o_1151 P) .nil .nil) .nil) (.node (o_895 P) (.node (o_1407 P) .nil .nil) .nil))) (.node (o_191 P) (.node (o_319 P) (.node (o_575 P) (.node (o_1087 P) .nil .nil) .nil) (.node (o_831 P) (.node (o_1343 P) .nil .nil) .nil)) (.node (o_447 P) (.node (o_703 P) (.node (o_1215 P) .nil .nil) .nil) (.node (o_959 P) .nil .nil)))) (.node (o_95 P) (.node (o_159 P) (.node (o_287 P) (.node (o_543 P) (.node (o_1055 P) .nil .nil) .nil) (.node (o_799 P) (.node (o_1311 P) .nil .nil) .nil)) (.node (o_415 P) (.node (o_671 P) (.node (o_1183 P) .nil .nil) .nil) (.node (o_927 P) .nil .nil))) (.node (o_223 P) (.node (o_351 P) (.node (o_607 P) (.node (o_1119 P) .nil .nil) .nil) (.node (o_863 P) (.node (o_1375 P) .nil .nil) .nil)) (.node (o_479 P) (.node (o_735 P) (.node (o_1247 P) .nil .nil) .nil) (.node (o_991 P) .nil .nil))))) (.node (o_47 P) (.node (o_79 P) (.node (o_143 P) (.node (o_271 P) (.node (o_527 P) (.node (o_1039 P) .nil .nil) .nil) (.node (o_783 P) (.node (o_1295 P) .nil .nil) .nil)) (.node (o_399 P) (.node (o_655 P) (.node (o_1167 P) .nil .nil) .nil) (.node (o_911 P) .nil .nil))) (.node (o_207 P) (.node (o_335 P) (.node (o_591 P) (.node (o_1103 P) .nil .nil) .nil) (.node (o_847 P) (.node (o_1359 P) .nil .nil) .nil)) (.node (o_463 P) (.node (o_719 P) (.node (o_1231 P) .nil .nil) .nil) (.node (o_975 P) .nil .nil)))) (.node (o_111 P) (.node (o_175 P) (.node (o_303 P) (.node (o_559 P) (.node (o_1071 P) .nil .nil) .nil) (.node (o_815 P) (.node (o_1327 P) .nil .nil) .nil)) (.node (o_431 P) (.node (o_687 P) (.node (o_1199 P) .nil .nil) .nil) (.node (o_943 P) .nil .nil))) (.node (o_239 P) (.node (o_367 P) (.node (o_623 P) (.node (o_1135 P) .nil .nil) .nil) (.node (o_879 P) (.node (o_1391 P) .nil .nil) .nil)) (.node (o_495 P) (.node (o_751 P) (.node (o_1263 P) .nil .nil) .nil) (.node (o_1007 P) .nil .nil)))))) (.node (o_23 P) (.node (o_39 P) (.node (o_71 P) (.node (o_135 P) (.node (o_263 P) (.node (o_519 P) (.node (o_1031 P) .nil .nil) .nil) (.node (o_775 P) (.node (o_1287 P) .nil .nil) .nil)) (.node (o_391 P) (.node (o_647 P) (.node (o_1159 P) .nil .nil) .nil) (.node (o_903 P) .nil .nil))) (.node (o_199 P) (.node (o_327 P) (.node (o_583 P) (.node (o_1095 P) .nil .nil) .nil) (.node (o_839 P) (.node (o_1351 P) .nil .nil) .nil)) (.node (o_455 P) (.node (o_711 P) (.node (o_1223 P) .nil .nil) .nil) (.node (o_967 P) .nil .nil)))) (.node (o_103 P) (.node (o_167 P) (.node (o_295 P) (.node (o_551 P) (.node (o_1063 P) .nil .nil) .nil) (.node (o_807 P) (.node (o_1319 P) .nil .nil) .nil)) (.node (o_423 P) (.node (o_679 P) (.node (o_1191 P) .nil .nil) .nil) (.node (o_935 P) .nil .nil))) (.node (o_231 P) (.node (o_359 P) (.node (o_615 P) (.node (o_1127 P) .nil .nil) .nil) (.node (o_871 P) (.node (o_1383 P) .nil .nil) .nil)) (.node (o_487 P) (.node (o_743 P) (.node (o_1255 P) .nil .nil) .nil) (.node (o_999 P) .nil .nil))))) (.node (o_55 P) (.node (o_87 P) (.node (o_151 P) (.node (o_279 P) (.node (o_535 P) (.node (o_1047 P) .nil .nil) .nil) (.node (o_791 P) (.node (o_1303 P) .nil .nil) .nil)) (.node (o_407 P) (.node (o_663 P) (.node (o_1175 P) .nil .nil) .nil) (.node (o_919 P) .nil .nil))) (.node (o_215 P) (.node (o_343 P) (.node (o_599 P) (.node (o_1111 P) .nil .nil) .nil) (.node (o_855 P) (.node (o_1367 P) .nil .nil) .nil)) (.node (o_471 P) (.node (o_727 P) (.node (o_1239 P) .nil .nil) .nil) (.node (o_983 P) .nil .nil)))) (.node (o_119 P) (.node (o_183 P) (.node (o_311 P) (.node (o_567 P) (.node (o_1079 P) .nil .nil) .nil) (.node (o_823 P) (.node (o_1335 P) .nil .nil) .nil)) (.node (o_439 P) (.node (o_695 P) (.node (o_1207 P) .nil .nil) .nil) (.node (o_951 P) .nil .nil))) (.node (o_247 P) (.node (o_375 P) (.node (o_631 P) (.node (o_1143 P) .nil .nil) .nil) (.node (o_887 P) (.node (o_1399 P) .nil .nil) .nil)) (.node (o_503 P) (.node (o_759 P) (.node (o_1271 P) .nil .nil) .nil) (.node (o_1015 P) .nil .nil))))))) (.node (o_11 P) (.node (o_19 P) (.node (o_35 P) (.node (o_67 P) (.node (o_131 P) (.node (o_259 P) (.node (o_515 P) (.node (o_1027 P) .nil .nil) .nil) (.node (o_771 P) (.node (o_1283 P) .nil .nil) .nil)) (.node (o_387 P) (.node (o_643 P) (.node (o_1155 P) .nil .nil) .nil) (.node (o_899 P) .nil .nil))) (.node (o_195 P) (.node (o_323 P) (.node (o_579 P) (.node (o_1091 P) .nil .nil) .nil) (.node (o_835 P) (.node (o_1347 P) .nil .nil) .nil)) (.node (o_451 P) (.node (o_707 P) (.node (o_1219 P) .nil .nil) .nil) (.node (o_963 P) .nil .nil)))) (.node (o_99 P) (.node (o_163 P) (.node (o_291 P) (.node (o_547 P) (.node (o_1059 P) .nil .nil) .nil) (.node (o_803 P) (.node (o_1315 P) .nil .nil) .nil)) (.node (o_419 P) (.node (o_675 P) (.node (o_1187 P) .nil .nil) .nil) (.node (o_931 P) .nil .nil))) (.node (o_227 P) (.node (o_355 P) (.node (o_611 P) (.node (o_1123 P) .nil .nil) .nil) (.node (o_867 P) (.node (o_1379 P) .nil .nil) .nil)) (.node (o_483 P) (.node (o_739 P) (.node (o_1251 P) .nil .nil) .nil) (.node (o_995 P) .nil .nil))))) (.node (o_51 P) (.node (o_83 P) (.node (o_147 P) (.node (o_275 P) (.node (o_531 P) (.node (o_1043 P) .nil .nil) .nil) (.node (o_787 P) (.node (o_1299 P) .nil .nil) .nil)) (.node (o_403 P) (.node (o_659 P) (.node (o_1171 P) .nil .nil) .nil) (.node (o_915 P) .nil .nil))) (.node (o_211 P) (.node (o_339 P) (.node (o_595 P) (.node (o_1107 P) .nil .nil) .nil) (.node (o_851 P) (.node (o_1363 P) .nil .nil) .nil)) (.node (o_467 P) (.node (o_723 P) (.node (o_1235 P) .nil .nil) .nil) (.node (o_979 P) .nil .nil)))) (.node (o_115 P) (.node (o_179 P) (.node (o_307 P) (.node (o_563 P) (.node (o_1075 P) .nil .nil) .nil) (.node (o_819 P) (.node (o_1331 P) .nil .nil) .nil)) (.node (o_435 P) (.node (o_691 P) (.node (o_1203 P) .nil .nil) .nil) (.node (o_947 P) .nil .nil))) (.node (o_243 P) (.node (o_371 P) (.node (o_627 P) (.node (o_1139 P) .nil .nil) .nil) (.node (o_883 P) (.node (o_1395 P) .nil .nil) .nil)) (.node (o_499 P) (.node (o_755 P) (.node (o_1267 P) .nil .nil) .nil) (.node (o_1011 P) .nil .nil)))))) (.node (o_27 P) (.node (o_43 P) (.node (o_75 P) (.node (o_139 P) (.node (o_267 P) (.node (o_523 P) (.node (o_1035 P) .nil .nil) .nil) (.node (o_779 P) (.node (o_1291 P) .nil .nil) .nil)) (.node (o_395 P) (.node (o_651 P) (.node (o_1163 P) .nil .nil) .nil) (.node (o_907 P) .nil .nil))) (.node (o_203 P) (.node (o_331 P) (.node (o_587 P) (.node (o_1099 P) .nil .nil) .nil) (.node (o_843 P) (.node (o_1355 P) .nil .nil) .nil)) (.node (o_459 P) (.node (o_715 P) (.node (o_1227 P) .nil .nil) .nil) (.node (o_971 P) .nil .nil)))) (.node (o_107 P) (.node (o_171 P) (.node (o_299 P) (.node (o_555 P) (.node (o_1067 P) .nil .nil) .nil) (.node (o_811 P) (.node (o_1323 P) .nil .nil) .nil)) (.node (o_427 P) (.node (o_683 P) (.node (o_1195 P) .nil .nil) .nil) (.node (o_939 P) .nil .nil))) (.node (o_235 P) (.node (o_363 P) (.node (o_619 P) (.node (o_1131 P) .nil .nil) .nil) (.node (o_875 P) (.node (o_1387 P) .nil .nil) .nil)) (.node (o_491 P) (.node (o_747 P) (.node (o_1259 P) .nil .nil) .nil) (.node (o_1003 P) .nil .nil))))) (.node (o_59 P) (.node (o_91 P) (.node (o_155 P) (.node (o_283 P) (.node (o_539 P) (.node (o_1051 P) .nil .nil) .nil) (.node (o_795 P) (.node (o_1307 P) .nil .nil) .nil)) (.node (o_411 P) (.node (o_667 P) (.node (o_1179 P) .nil .nil) .nil) (.node (o_923 P) .nil .nil))) (.node (o_219 P) (.node (o_347 P) (.node (o_603 P) (.node (o_1115 P) .nil .nil) .nil) (.node (o_859 P) (.node (o_1371 P) .nil .nil) .nil)) (.node (o_475 P) (.node (o_731 P) (.node (o_1243 P) .nil .nil) .nil) (.node (o_987 P) .nil .nil)))) (.node (o_123 P) (.node (o_187 P) (.node (o_315 P) (.node (o_571 P) (.node (o_1083 P) .nil .nil) .nil) (.node (o_827 P) (.node (o_1339 P) .nil .nil) .nil)) (.node (o_443 P) (.node (o_699 P) (.node (o_1211 P) .nil .nil) .nil) (.node (o_955 P) .nil .nil))) (.node (o_251 P) (.node (o_379 P) (.node (o_635 P) (.node (o_1147 P) .nil .nil) .nil) (.node (o_891 P) (.node (o_1403 P) .nil .nil) .nil)) (.node (o_507 P) (.node (o_763 P) (.node (o_1275 P) .nil .nil) .nil) (.node (o_1019 P) .nil .nil)))))))) (.node (boot_o_5 P) (.node (boot_o_9 P) (.node (o_17 P) (.node (o_33 P) (.node (o_65 P) (.node (o_129 P) (.node (o_257 P) (.node (o_513 P) (.node (o_1025 P) .nil .nil) .nil) (.node (o_769 P) (.node (o_1281 P) .nil .nil) .nil)) (.node (o_385 P) (.node (o_641 P) (.node (o_1153 P) .nil .nil) .nil) (.node (o_897 P) (.node (o_1409 P) .nil .nil) .nil))) (.node (o_193 P) (.node (o_321 P) (.node (o_577 P) (.node (o_1089 P) .nil .nil) .nil) (.node (o_833 P) (.node (o_1345 P) .nil .nil) .nil)) (.node (o_449 P) (.node (o_705 P) (.node (o_1217 P) .nil .nil) .nil) (.node (o_961 P) .nil .nil)))) (.node (o_97 P) (.node (o_161 P) (.node (o_289 P) (.node (o_545 P) (.node (o_1057 P) .nil .nil) .nil) (.node (o_801 P) (.node (o_1313 P) .nil .nil) .nil)) (.node (o_417 P) (.node (o_673 P) (.node (o_1185 P) .nil .nil) .nil) (.node (o_929 P) .nil .nil))) (.node (o_225 P) (.node (o_353 P) (.node (o_609 P) (.node (o_1121 P) .nil .nil) .nil) (.node (o_865 P) (.node (o_1377 P) .nil .nil) .nil)) (.node (o_481 P) (.node (o_737 P) (.node (o_1249 P) .nil .nil) .nil) (.node (o_993 P) .nil .nil))))) (.node (o_49 P) (.node (o_81 P) (.node (o_145 P) (.node (o_273 P) (.node (o_529 P) (.node (o_1041 P) .nil .nil) .nil) (.node (o_785 P) (.node (o_1297 P) .nil .nil) .nil)) (.node (o_401 P) (.node (o_657 P) (.node (o_1169 P) .nil .nil) .nil) (.node (o_913 P) .nil .nil))) (.node (o_209 P) (.node (o_337 P) (.node (o_593 P) (.node (o_1105 P) .nil .nil) .nil) (.node (o_849 P) (.node (o_1361 P) .nil .nil) .nil)) (.node (o_465 P) (.node (o_721 P) (.node (o_1233 P) .nil .nil) .nil) (.node (o_977 P) .nil .nil)))) (.node (o_113 P) (.node (o_177 P) (.node (o_305 P) (.node (o_561 P) (.node (o_1073 P) .nil .nil) .nil) (.node (o_817 P) (.node (o_1329 P) .nil .nil) .nil)) (.node (o_433 P) (.node (o_689 P) (.node (o_1201 P) .nil .nil) .nil) (.node (o_945 P) .nil .nil))) (.node (o_241 P) (.node (o_369 P) (.node (o_625 P) (.node (o_1137 P) .nil .nil) .nil) (.node (o_881 P) (.node (o_1393 P) .nil .nil) .nil)) (.node (o_497 P) (.node (o_753 P) (.node (o_1265 P) .nil .nil) .nil) (.node (o_1009 P) .nil .nil)))))) (.node (o_25 P) (.node (o_41 P) (.node (o_73 P) (.node (o_137 P) (.node (o_265 P) (.node (o_521 P) (.node (o_1033 P) .nil .nil) .nil) (.node (o_777 P) (.node (o_1289 P) .nil .nil) .nil)) (.node (o_393 P) (.node (o_649 P) (.node (o_1161 P) .nil .nil) .nil) (.node (o_905 P) .nil .nil))) (.node (o_201 P) (.node (o_329 P) (.node (o_585 P) (.node (o_1097 P) .nil .nil) .nil) (.node (o_841 P) (.node (o_1353 P) .nil .nil) .nil)) (.node (o_457 P) (.node (o_713 P) (.node (o_1225 P) .nil .nil) .nil) (.node (o_969 P) .nil .nil)))) (.node (o_105 P) (.node (o_169 P) (.node (o_297 P) (.node (o_553 P) (.node (o_1065 P) .nil .nil) .nil) (.node (o_809 P) (.node (o_1321 P) .nil .nil) .nil)) (.node (o_425 P) (.node (o_681 P) (.node (o_1193 P) .nil .nil) .nil) (.node (o_937 P) .nil .nil))) (.node (o_233 P) (.node (o_361 P) (.node (o_617 P) (.node (o_1129 P) .nil .nil) .nil) (.node (o_873 P) (.node (o_1385 P) .nil .nil) .nil)) (.node (o_489 P) (.node (o_745 P) (.node (o_1257 P) .nil .nil) .nil) (.node (o_1001 P) .nil .nil))))) (.node (o_57 P) (.node (o_89 P) (.node (o_153 P) (.node (o_281 P) (.node (o_537 P) (.node (o_1049 P) .nil .nil) .nil) (.node (o_793 P) (.node (o_1305 P) .nil .nil) .nil)) (.node (o_409 P) (.node (o_665 P) (.node (o_1177 P) .nil .nil) .nil) (.node (o_921 P) .nil .nil))) (.node (o_217 P) (.node (o_345 P) (.node (o_601 P) (.node (o_1113 P) .nil .nil) .nil) (.node (o_857 P) (.node (o_1369 P) .nil .nil) .nil)) (.node (o_473 P) (.node (o_729 P) (.node (o_1241 P) .nil .nil) .nil) (.node (o_985 P) .nil .nil)))) (.node (o_121 P) (.node (o_185 P) (.node (o_313 P) (.node (o_569 P) (.node (o_1081 P) .nil .nil) .nil) (.node (o_825 P) (.node (o_1337 P) .nil .nil) .nil)) (.node (o_441 P) (.node (o_697 P) (.node (o_1209 P) .nil .nil) .nil) (.node (o_953 P) .nil .nil))) (.node (o_249 P) (.node (o_377 P) (.node (o_633 P) (.node (o_1145 P) .nil .nil) .nil) (.node (o_889 P) (.node (o_1401 P) .nil .nil) .nil)) (.node (o_505 P) (.node (o_761 P) (.node (o_1273 P) .nil .nil) .nil) (.node (o_1017 P) .nil .nil))))))) (.node (o_13 P) (.node (o_21 P) (.node (o_37 P) (.node (o_69 P) (.node (o_133 P) (.node (o_261 P) (.node (o_517 P) (.node (o_1029 P) .nil .nil) .nil) (.node (o_773 P) (.node (o_1285 P) .nil .nil) .nil)) (.node (o_389 P) (.node (o_645 P) (.node (o_1157 P) .nil .nil) .nil) (.node (o_901 P) .nil .nil))) (.node (o_197 P) (.node (o_325 P) (.node (o_581 P) (.node (o_1093 P) .nil .nil) .nil) (.node (o_837 P) (.node (o_1349 P) .nil .nil) .nil)) (.node (o_453 P) (.node (o_709 P) (.node (o_1221 P) .nil .nil) .nil) (.node (o_965 P) .nil .nil)))) (.node (o_101 P) (.node (o_165 P) (.node (o_293 P) (.node (o_549 P) (.node (o_1061 P) .nil .nil) .nil) (.node (o_805 P) (.node (o_1317 P) .nil .nil) .nil)) (.node (o_421 P) (.node (o_677 P) (.node (o_1189 P) .nil .nil) .nil) (.node (o_933 P) .nil .nil))) (.node (o_229 P) (.node (o_357 P) (.node (o_613 P) (.node (o_1125 P) .nil .nil) .nil) (.node (o_869 P) (.node (o_1381 P) .nil .nil) .nil)) (.node (o_485 P) (.node (o_741 P) (.node (o_1253 P) .nil .nil) .nil) (.node (o_997 P) .nil .nil))))) (.node (o_53 P) (.node (o_85 P) (.node (o_149 P) (.node (o_277 P) (.node (o_533 P) (.node (o_1045 P) .nil .nil) .nil) (.node (o_789 P) (.node (o_1301 P) .nil .nil) .nil)) (.node (o_405 P) (.node (o_661 P) (.node (o_1173 P) .nil .nil) .nil) (.node (o_917 P) .nil .nil))) (.node (o_213 P) (.node (o_341 P) (.node (o_597 P) (.node (o_1109 P) .nil .nil) .nil) (.node (o_853 P) (.node (o_1365 P) .nil .nil) .nil)) (.node (o_469 P) (.node (o_725 P) (.node (o_1237 P) .nil .nil) .nil) (.node (o_981 P) .nil .nil)))) (.node (o_117 P) (.node (o_181 P) (.node (o_309 P) (.node (o_565 P) (.node (o_1077 P) .nil .nil) .nil) (.node (o_821 P) (.node (o_1333 P) .nil .nil) .nil)) (.node (o_437 P) (.node (o_693 P) (.node (o_1205 P) .nil .nil) .nil) (.node (o_949 P) .nil .nil))) (.node (o_245 P) (.node (o_373 P) (.node (o_629 P) (.node (o_1141 P) .nil .nil) .nil) (.node (o_885 P) (.node (o_1397 P) .nil .nil) .nil)) (.node (o_501 P) (.node (o_757 P) (.node (o_1269 P) .nil .nil) .nil) (.node (o_1013 P) .nil .nil)))))) (.node (o_29 P) (.node (o_45 P) (.node (o_77 P) (.node (o_141 P) (.node (o_269 P) (.node (o_525 P) (.node (o_1037 P) .nil .nil) .nil) (.node (o_781 P) (.node (o_1293 P) .nil .nil) .nil)) (.node (o_397 P) (.node (o_653 P) (.node (o_1165 P) .nil .nil) .nil) (.node (o_909 P) .nil .nil))) (.node (o_205 P) (.node (o_333 P) (.node (o_589 P) (.node (o_1101 P) .nil .nil) .nil) (.node (o_845 P) (.node (o_1357 P) .nil .nil) .nil)) (.node (o_461 P) (.node (o_717 P) (.node (o_1229 P) .nil .nil) .nil) (.node (o_973 P) .nil .nil)))) (.node (o_109 P) (.node (o_173 P) (.node (o_301 P) (.node (o_557 P) (.node (o_1069 P) .nil .nil) .nil) (.node (o_813 P) (.node (o_1325 P) .nil .nil) .nil)) (.node (o_429 P) (.node (o_685 P) (.node (o_1197 P) .nil .nil) .nil) (.node (o_941 P) .nil .nil))) (.node (o_237 P) (.node (o_365 P) (.node (o_621 P) (.node (o_1133 P) .nil .nil) .nil) (.node (o_877 P) (.node (o_1389 P) .nil .nil) .nil)) (.node (o_493 P) (.node (o_749 P) (.node (o_1261 P) .nil .nil) .nil) (.node (o_1005 P) .nil .nil))))) (.node (o_61 P) (.node (o_93 P) (.node (o_157 P) (.node (o_285 P) (.node (o_541 P) (.node (o_1053 P) .nil .nil) .nil) (.node (o_797 P) (.node (o_1309 P) .nil .nil) .nil)) (.node (o_413 P) (.node (o_669 P) (.node (o_1181 P) .nil .nil) .nil) (.node (o_925 P) .nil .nil))) (.node (o_221 P) (.node (o_349 P) (.node (o_605 P) (.node (o_1117 P) .nil .nil) .nil) (.node (o_861 P) (.node (o_1373 P) .nil .nil) .nil)) (.node (o_477 P) (.node (o_733 P) (.node (o_1245 P) .nil .nil) .nil) (.node (o_989 P) .nil .nil)))) (.node (o_125 P) (.node (o_189 P) (.node (o_317 P) (.node (o_573 P) (.node (o_1085 P) .nil .nil) .nil) (.node (o_829 P) (.node (o_1341 P) .nil .nil) .nil)) (.node (o_445 P) (.node (o_701 P) (.node (o_1213 P) .nil .nil) .nil) (.node (o_957 P) .nil .nil))) (.node (o_253 P) (.node (o_381 P) (.node (o_637 P) (.node (o_1149 P) .nil .nil) .nil) (.node (o_893 P) (.node (o_1405 P) .nil .nil) .nil)) (.node (o_509 P) (.node (o_765 P) (.node (o_1277 P) .nil .nil) .nil) (.node (o_1021 P) .nil .nil))))))))) (.node (o_2 P) (.node (boot_o_4 P) (.node (boot_o_8 P) (.node (o_16 P) (.node (o_32 P) (.node (o_64 P) (.node (o_128 P) (.node (o_256 P) (.node (o_512 P) (.node (o_1024 P) .nil .nil) .nil) (.node (o_768 P) (.node (o_1280 P) .nil .nil) .nil)) (.node (o_384 P) (.node (o_640 P) (.node (o_1152 P) .nil .nil) .nil) (.node (o_896 P) (.node (o_1408 P) .nil .nil) .nil))) (.node (o_192 P) (.node (o_320 P) (.node (o_576 P) (.node (o_1088 P) .nil .nil) .nil) (.node (o_832 P) (.node (o_1344 P) .nil .nil) .nil)) (.node (o_448 P) (.node (o_704 P) (.node (o_1216 P) .nil .nil) .nil) (.node (o_960 P) .nil .nil)))) (.node (o_96 P) (.node (o_160 P) (.node (o_288 P) (.node (o_544 P) (.node (o_1056 P) .nil .nil) .nil) (.node (o_800 P) (.node (o_1312 P) .nil .nil) .nil)) (.node (o_416 P) (.node (o_672 P) (.node (o_1184 P) .nil .nil) .nil) (.node (o_928 P) .nil .nil))) (.node (o_224 P) (.node (o_352 P) (.node (o_608 P) (.node (o_1120 P) .nil .nil) .nil) (.node (o_864 P) (.node (o_1376 P) .nil .nil) .nil)) (.node (o_480 P) (.node (o_736 P) (.node (o_1248 P) .nil .nil) .nil) (.node (o_992 P) .nil .nil))))) (.node (o_48 P) (.node (o_80 P) (.node (o_144 P) (.node (o_272 P) (.node (o_528 P) (.node (o_1040 P) .nil .nil) .nil) (.node (o_784 P) (.node (o_1296 P) .nil .nil) .nil)) (.node (o_400 P) (.node (o_656 P) (.node (o_1168 P) .nil .nil) .nil) (.node (o_912 P) .nil .nil))) (.node (o_208 P) (.node (o_336 P) (.node (o_592 P) (.node (o_1104 P) .nil .nil) .nil) (.node (o_848 P) (.node (o_1360 P) .nil .nil) .nil)) (.node (o_464 P) (.node (o_720 P) (.node (o_1232 P) .nil .nil) .nil) (.node (o_976 P) .nil .nil)))) (.node (o_112 P) (.node (o_176 P) (.node (o_304 P) (.node (o_560 P) (.node (o_1072 P) .nil .nil) .nil) (.node (o_816 P) (.node (o_1328 P) .nil .nil) .nil)) (.node (o_432 P) (.node (o_688 P) (.node (o_1200 P) .nil .nil) .nil) (.node (o_944 P) .nil .nil))) (.node (o_240 P) (.node (o_368 P) (.node (o_624 P) (.node (o_1136 P) .nil .nil) .nil) (.node (o_880 P) (.node (o_1392 P) .nil .nil) .nil)) (.node (o_496 P) (.node (o_752 P) (.node (o_1264 P) .nil .nil) .nil) (.node (o_1008 P) .nil .nil)))))) (.node (o_24 P) (.node (o_40 P) (.node (o_72 P) (.node (o_136 P) (.node (o_264 P) (.node (o_520 P) (.node (o_1032 P) .nil .nil) .nil) (.node (o_776 P) (.node (o_1288 P) .nil .nil) .nil)) (.node (o_392 P) (.node (o_648 P) (.node (o_1160 P) .nil .nil) .nil) (.node (o_904 P) .nil .nil))) (.node (o_200 P) (.node (o_328 P) (.node (o_584 P) (.node (o_1096 P) .nil .nil) .nil) (.node (o_840 P) (.node (o_1352 P) .nil .nil) .nil)) (.node (o_456 P) (.node (o_712 P) (.node (o_1224 P) .nil .nil) .nil) (.node (o_968 P) .nil .nil)))) (.node (o_104 P) (.node (o_168 P) (.node (o_296 P) (.node (o_552 P) (.node (o_1064 P) .nil .nil) .nil) (.node (o_808 P) (.node (o_1320 P) .nil .nil) .nil)) (.node (o_424 P) (.node (o_680 P) (.node (o_1192 P) .nil .nil) .nil) (.node (o_936 P) .nil .nil))) (.node (o_232 P) (.node (o_360 P) (.node (o_616 P) (.node (o_1128 P) .nil .nil) .nil) (.node (o_872 P) (.node (o_1384 P) .nil .nil) .nil)) (.node (o_488 P) (.node (o_744 P) (.node (o_1256 P) .nil .nil) .nil) (.node (o_1000 P) .nil .nil))))) (.node (o_56 P) (.node (o_88 P) (.node (o_152 P) (.node (o_280 P) (.node (o_536 P) (.node (o_1048 P) .nil .nil) .nil) (.node (o_792 P) (.node (o_1304 P) .nil .nil) .nil)) (.node (o_408 P) (.node (o_664 P) (.node (o_1176 P) .nil .nil) .nil) (.node (o_920 P) .nil .nil))) (.node (o_216 P) (.node (o_344 P) (.node (o_600 P) (.node (o_1112 P) .nil .nil) .nil) (.node (o_856 P) (.node (o_1368 P) .nil .nil) .nil)) (.node (o_472 P) (.node (o_728 P) (.node (o_1240 P) .nil .nil) .nil) (.node (o_984 P) .nil .nil)))) (.node (o_120 P) (.node (o_184 P) (.node (o_312 P) (.node (o_568 P) (.node (o_1080 P) .nil .nil) .nil) (.node (o_824 P) (.node (o_1336 P) .nil .nil) .nil)) (.node (o_440 P) (.node (o_696 P) (.node (o_1208 P) .nil .nil) .nil) (.node (o_952 P) .nil .nil))) (.node (o_248 P) (.node (o_376 P) (.node (o_632 P) (.node (o_1144 P) .nil .nil) .nil) (.node (o_888 P) (.node (o_1400 P) .nil .nil) .nil)) (.node (o_504 P) (.node (o_760 P) (.node (o_1272 P) .nil .nil) .nil) (.node (o_1016 P) .nil .nil))))))) (.node (o_12_3 P) (.node (o_20 P) (.node (o_36 P) (.node (o_68 P) (.node (o_132 P) (.node (o_260 P) (.node (o_516 P) (.node (o_1028 P) .nil .nil) .nil) (.node (o_772 P) (.node (o_1284 P) .nil .nil) .nil)) (.node (o_388 P) (.node (o_644 P) (.node (o_1156 P) .nil .nil) .nil) (.node (o_900 P) .nil .nil))) (.node (o_196 P) (.node (o_324 P) (.node (o_580 P) (.node (o_1092 P) .nil .nil) .nil) (.node (o_836 P) (.node (o_1348 P) .nil .nil) .nil)) (.node (o_452 P) (.node (o_708 P) (.node (o_1220 P) .nil .nil) .nil) (.node (o_964 P) .nil .nil)))) (.node (o_100 P) (.node (o_164 P) (.node (o_292 P) (.node (o_548 P) (.node (o_1060 P) .nil .nil) .nil) (.node (o_804 P) (.node (o_1316 P) .nil .nil) .nil)) (.node (o_420 P) (.node (o_676 P) (.node (o_1188 P) .nil .nil) .nil) (.node (o_932 P) .nil .nil))) (.node (o_228 P) (.node (o_356 P) (.node (o_612 P) (.node (o_1124 P) .nil .nil) .nil) (.node (o_868 P) (.node (o_1380 P) .nil .nil) .nil)) (.node (o_484 P) (.node (o_740 P) (.node (o_1252 P) .nil .nil) .nil) (.node (o_996 P) .nil .nil))))) (.node (o_52 P) (.node (o_84 P) (.node (o_148 P) (.node (o_276 P) (.node (o_532 P) (.node (o_1044 P) .nil .nil) .nil) (.node (o_788 P) (.node (o_1300 P) .nil .nil) .nil)) (.node (o_404 P) (.node (o_660 P) (.node (o_1172 P) .nil .nil) .nil) (.node (o_916 P) .nil .nil))) (.node (o_212 P) (.node (o_340 P) (.node (o_596 P) (.node (o_1108 P) .nil .nil) .nil) (.node (o_852 P) (.node (o_1364 P) .nil .nil) .nil)) (.node (o_468 P) (.node (o_724 P) (.node (o_1236 P) .nil .nil) .nil) (.node (o_980 P) .nil .nil)))) (.node (o_116 P) (.node (o_180 P) (.node (o_308 P) (.node (o_564 P) (.node (o_1076 P) .nil .nil) .nil) (.node (o_820 P) (.node (o_1332 P) .nil .nil) .nil)) (.node (o_436 P) (.node (o_692 P) (.node (o_1204 P) .nil .nil) .nil) (.node (o_948 P) .nil .nil))) (.node (o_244 P) (.node (o_372 P) (.node (o_628 P) (.node (o_1140 P) .nil .nil) .nil) (.node (o_884 P) (.node (o_1396 P) .nil .nil) .nil)) (.node (o_500 P) (.node (o_756 P) (.node (o_1268 P) .nil .nil) .nil) (.node (o_1012 P) .nil .nil)))))) (.node (o_28 P) (.node (o_44 P) (.node (o_76 P) (.node (o_140 P) (.node (o_268 P) (.node (o_524 P) (.node (o_1036 P) .nil .nil) .nil) (.node (o_780 P) (.node (o_1292 P) .nil .nil) .nil)) (.node (o_396 P) (.node (o_652 P) (.node (o_1164 P) .nil .nil) .nil) (.node (o_908 P) .nil .nil))) (.node (o_204 P) (.node (o_332 P) (.node (o_588 P) (.node (o_1100 P) .nil .nil) .nil) (.node (o_844 P) (.node (o_1356 P) .nil .nil) .nil)) (.node (o_460 P) (.node (o_716 P) (.node (o_1228 P) .nil .nil) .nil) (.node (o_972 P) .nil .nil)))) (.node (o_108 P) (.node (o_172 P) (.node (o_300 P) (.node (o_556 P) (.node (o_1068 P) .nil .nil) .nil) (.node (o_812 P) (.node (o_1324 P) .nil .nil) .nil)) (.node (o_428 P) (.node (o_684 P) (.node (o_1196 P) .nil .nil) .nil) (.node (o_940 P) .nil .nil))) (.node (o_236 P) (.node (o_364 P) (.node (o_620 P) (.node (o_1132 P) .nil .nil) .nil) (.node (o_876 P) (.node (o_1388 P) .nil .nil) .nil)) (.node (o_492 P) (.node (o_748 P) (.node (o_1260 P) .nil .nil) .nil) (.node (o_1004 P) .nil .nil))))) (.node (o_60 P) (.node (o_92 P) (.node (o_156 P) (.node (o_284 P) (.node (o_540 P) (.node (o_1052 P) .nil .nil) .nil) (.node (o_796 P) (.node (o_1308 P) .nil .nil) .nil)) (.node (o_412 P) (.node (o_668 P) (.node (o_1180 P) .nil .nil) .nil) (.node (o_924 P) .nil .nil))) (.node (o_220 P) (.node (o_348 P) (.node (o_604 P) (.node (o_1116 P) .nil .nil) .nil) (.node (o_860 P) (.node (o_1372 P) .nil .nil) .nil)) (.node (o_476 P) (.node (o_732 P) (.node (o_1244 P) .nil .nil) .nil) (.node (o_988 P) .nil .nil)))) (.node (o_124 P) (.node (o_188 P) (.node (o_316 P) (.node (o_572 P) (.node (o_1084 P) .nil .nil) .nil) (.node (o_828 P) (.node (o_1340 P) .nil .nil) .nil)) (.node (o_444 P) (.node (o_700 P) (.node (o_1212 P) .nil .nil) .nil) (.node (o_956 P) .nil .nil))) (.node (o_252 P) (.node (o_380 P) (.node (o_636 P) (.node (o_1148 P) .nil .nil) .nil) (.node (o_892 P) (.node (o_1404 P) .nil .nil) .nil)) (.node (o_508 P) (.node (o_764 P) (.node (o_1276 P) .nil .nil) .nil) (.node (o_1020 P) .nil .nil)))))))) (.node (boot_o_6 P) (.node (boot_o_10 P) (.node (o_18 P) (.node (o_34 P) (.node (o_66 P) (.node (o_130 P) (.node (o_258 P) (.node (o_514 P) (.node (o_1026 P) .nil .nil) .nil) (.node (o_770 P) (.node (o_1282 P) .nil .nil) .nil)) (.node (o_386 P) (.node (o_642 P) (.node (o_1154 P) .nil .nil) .nil) (.node (o_898 P) .nil .nil))) (.node (o_194 P) (.node (o_322 P) (.node (o_578 P) (.node (o_1090 P) .nil .nil) .nil) (.node (o_834 P) (.node (o_1346 P) .nil .nil) .nil)) (.node (o_450 P) (.node (o_706 P) (.node (o_1218 P) .nil .nil) .nil) (.node (o_962 P) .nil .nil)))) (.node (o_98 P) (.node (o_162 P) (.node (o_290 P) (.node (o_546 P) (.node (o_1058 P) .nil .nil) .nil) (.node (o_802 P) (.node (o_1314 P) .nil .nil) .nil)) (.node (o_418 P) (.node (o_674 P) (.node (o_1186 P) .nil .nil) .nil) (.node (o_930 P) .nil .nil))) (.node (o_226 P) (.node (o_354 P) (.node (o_610 P) (.node (o_1122 P) .nil .nil) .nil) (.node (o_866 P) (.node (o_1378 P) .nil .nil) .nil)) (.node (o_482 P) (.node (o_738 P) (.node (o_1250 P) .nil .nil) .nil) (.node (o_994 P) .nil .nil))))) (.node (o_50 P) (.node (o_82 P) (.node (o_146 P) (.node (o_274 P) (.node (o_530 P) (.node (o_1042 P) .nil .nil) .nil) (.node (o_786 P) (.node (o_1298 P) .nil .nil) .nil)) (.node (o_402 P) (.node (o_658 P) (.node (o_1170 P) .nil .nil) .nil) (.node (o_914 P) .nil .nil))) (.node (o_210 P) (.node (o_338 P) (.node (o_594 P) (.node (o_1106 P) .nil .nil) .nil) (.node (o_850 P) (.node (o_1362 P) .nil .nil) .nil)) (.node (o_466 P) (.node (o_722 P) (.node (o_1234 P) .nil .nil) .nil) (.node (o_978 P) .nil .nil)))) (.node (o_114 P) (.node (o_178 P) (.node (o_306 P) (.node (o_562 P) (.node (o_1074 P) .nil .nil) .nil) (.node (o_818 P) (.node (o_1330 P) .nil .nil) .nil)) (.node (o_434 P) (.node (o_690 P) (.node (o_1202 P) .nil .nil) .nil) (.node (o_946 P) .nil .nil))) (.node (o_242 P) (.node (o_370 P) (.node (o_626 P) (.node (o_1138 P) .nil .nil) .nil) (.node (o_882 P) (.node (o_1394 P) .nil .nil) .nil)) (.node (o_498 P) (.node (o_754 P) (.node (o_1266 P) .nil .nil) .nil) (.node (o_1010 P) .nil .nil)))))) (.node (o_26 P) (.node (o_42 P) (.node (o_74 P) (.node (o_138 P) (.node (o_266 P) (.node (o_522 P) (.node (o_1034 P) .nil .nil) .nil) (.node (o_778 P) (.node (o_1290 P) .nil .nil) .nil)) (.node (o_394 P) (.node (o_650 P) (.node (o_1162 P) .nil .nil) .nil) (.node (o_906 P) .nil .nil))) (.node (o_202 P) (.node (o_330 P) (.node (o_586 P) (.node (o_1098 P) .nil .nil) .nil) (.node (o_842 P) (.node (o_1354 P) .nil .nil) .nil)) (.node (o_458 P) (.node (o_714 P) (.node (o_1226 P) .nil .nil) .nil) (.node (o_970 P) .nil .nil)))) (.node (o_106 P) (.node (o_170 P) (.node (o_298 P) (.node (o_554 P) (.node (o_1066 P) .nil .nil) .nil) (.node (o_810 P) (.node (o_1322 P) .nil .nil) .nil)) (.node (o_426 P) (.node (o_682 P) (.node (o_1194 P) .nil .nil) .nil) (.node (o_938 P) .nil .nil))) (.node (o_234 P) (.node (o_362 P) (.node (o_618 P) (.node (o_1130 P) .nil .nil) .nil) (.node (o_874 P) (.node (o_1386 P) .nil .nil) .nil)) (.node (o_490 P) (.node (o_746 P) (.node (o_1258 P) .nil .nil) .nil) (.node (o_1002 P) .nil .nil))))) (.node (o_58 P) (.node (o_90 P) (.node (o_154 P) (.node (o_282 P) (.node (o_538 P) (.node (o_1050 P) .nil .nil) .nil) (.node (o_794 P) (.node (o_1306 P) .nil .nil) .nil)) (.node (o_410 P) (.node (o_666 P) (.node (o_1178 P) .nil .nil) .nil) (.node (o_922 P) .nil .nil))) (.node (o_218 P) (.node (o_346 P) (.node (o_602 P) (.node (o_1114 P) .nil .nil) .nil) (.node (o_858 P) (.node (o_1370 P) .nil .nil) .nil)) (.node (o_474 P) (.node (o_730 P) (.node (o_1242 P) .nil .nil) .nil) (.node (o_986 P) .nil .nil)))) (.node (o_122 P) (.node (o_186 P) (.node (o_314 P) (.node (o_570 P) (.node (o_1082 P) .nil .nil) .nil) (.node (o_826 P) (.node (o_1338 P) .nil .nil) .nil)) (.node (o_442 P) (.node (o_698 P) (.node (o_1210 P) .nil .nil) .nil) (.node (o_954 P) .nil .nil))) (.node (o_250 P) (.node (o_378 P) (.node (o_634 P) (.node (o_1146 P) .nil .nil) .nil) (.node (o_890 P) (.node (o_1402 P) .nil .nil) .nil)) (.node (o_506 P) (.node (o_762 P) (.node (o_1274 P) .nil .nil) .nil) (.node (o_1018 P) .nil .nil))))))) (.node (o_14 P) (.node (o_22 P) (.node (o_38 P) (.node (o_70 P) (.node (o_134 P) (.node (o_262 P) (.node (o_518 P) (.node (o_1030 P) .nil .nil) .nil) (.node (o_774 P) (.node (o_1286 P) .nil .nil) .nil)) (.node (o_390 P) (.node (o_646 P) (.node (o_1158 P) .nil .nil) .nil) (.node (o_902 P) .nil .nil))) (.node (o_198 P) (.node (o_326 P) (.node (o_582 P) (.node (o_1094 P) .nil .nil) .nil) (.node (o_838 P) (.node (o_1350 P) .nil .nil) .nil)) (.node (o_454 P) (.node (o_710 P) (.node (o_1222 P) .nil .nil) .nil) (.node (o_966 P) .nil .nil)))) (.node (o_102 P) (.node (o_166 P) (.node (o_294 P) (.node (o_550 P) (.node (o_1062 P) .nil .nil) .nil) (.node (o_806 P) (.node (o_1318 P) .nil .nil) .nil)) (.node (o_422 P) (.node (o_678 P) (.node (o_1190 P) .nil .nil) .nil) (.node (o_934 P) .nil .nil))) (.node (o_230 P) (.node (o_358 P) (.node (o_614 P) (.node (o_1126 P) .nil .nil) .nil) (.node (o_870 P) (.node (o_1382 P) .nil .nil) .nil)) (.node (o_486 P) (.node (o_742 P) (.node (o_1254 P) .nil .nil) .nil) (.node (o_998 P) .nil .nil))))) (.node (o_54 P) (.node (o_86 P) (.node (o_150 P) (.node (o_278 P) (.node (o_534 P) (.node (o_1046 P) .nil .nil) .nil) (.node (o_790 P) (.node (o_1302 P) .nil .nil) .nil)) (.node (o_406 P) (.node (o_662 P) (.node (o_1174 P) .nil .nil) .nil) (.node (o_918 P) .nil .nil))) (.node (o_214 P) (.node (o_342 P) (.node (o_598 P) (.node (o_1110 P) .nil .nil) .nil) (.node (o_854 P) (.node (o_1366 P) .nil .nil) .nil)) (.node (o_470 P) (.node (o_726 P) (.node (o_1238 P) .nil .nil) .nil) (.node (o_982 P) .nil .nil)))) (.node (o_118 P) (.node (o_182 P) (.node (o_310 P) (.node (o_566 P) (.node (o_1078 P) .nil .nil) .nil) (.node (o_822 P) (.node (o_1334 P) .nil .nil) .nil)) (.node (o_438 P) (.node (o_694 P) (.node (o_1206 P) .nil .nil) .nil) (.node (o_950 P) .nil .nil))) (.node (o_246 P) (.node (o_374 P) (.node (o_630 P) (.node (o_1142 P) .nil .nil) .nil) (.node (o_886 P) (.node (o_1398 P) .nil .nil) .nil)) (.node (o_502 P) (.node (o_758 P) (.node (o_1270 P) .nil .nil) .nil) (.node (o_1014 P) .nil .nil)))))) (.node (o_30 P) (.node (o_46 P) (.node (o_78 P) (.node (o_142 P) (.node (o_270 P) (.node (o_526 P) (.node (o_1038 P) .nil .nil) .nil) (.node (o_782 P) (.node (o_1294 P) .nil .nil) .nil)) (.node (o_398 P) (.node (o_654 P) (.node (o_1166 P) .nil .nil) .nil) (.node (o_910 P) .nil .nil))) (.node (o_206 P) (.node (o_334 P) (.node (o_590 P) (.node (o_1102 P) .nil .nil) .nil) (.node (o_846 P) (.node (o_1358 P) .nil .nil) .nil)) (.node (o_462 P) (.node (o_718 P) (.node (o_1230 P) .nil .nil) .nil) (.node (o_974 P) .nil .nil)))) (.node (o_110 P) (.node (o_174 P) (.node (o_302 P) (.node (o_558 P) (.node (o_1070 P) .nil .nil) .nil) (.node (o_814 P) (.node (o_1326 P) .nil .nil) .nil)) (.node (o_430 P) (.node (o_686 P) (.node (o_1198 P) .nil .nil) .nil) (.node (o_942 P) .nil .nil))) (.node (o_238 P) (.node (o_366 P) (.node (o_622 P) (.node (o_1134 P) .nil .nil) .nil) (.node (o_878 P) (.node (o_1390 P) .nil .nil) .nil)) (.node (o_494 P) (.node (o_750 P) (.node (o_1262 P) .nil .nil) .nil) (.node (o_1006 P) .nil .nil))))) (.node (o_62 P) (.node (o_94 P) (.node (o_158 P) (.node (o_286 P) (.node (o_542 P) (.node (o_1054 P) .nil .nil) .nil) (.node (o_798 P) (.node (o_1310 P) .nil .nil) .nil)) (.node (o_414 P) (.node (o_670 P) (.node (o_1182 P) .nil .nil) .nil) (.node (o_926 P) .nil .nil))) (.node (o_222 P) (.node (o_350 P) (.node (o_606 P) (.node (o_1118 P) .nil .nil) .nil) (.node (o_862 P) (.node (o_1374 P) .nil .nil) .nil)) (.node (o_478 P) (.node (o_734 P) (.node (o_1246 P) .nil .nil) .nil) (.node (o_990 P) .nil .nil)))) (.node (o_126 P) (.node (o_190 P) (.node (o_318 P) (.node (o_574 P) (.node (o_1086 P) .nil .nil) .nil) (.node (o_830 P) (.node (o_1342 P) .nil .nil) .nil)) (.node (o_446 P) (.node (o_702 P) (.node (o_1214 P) .nil .nil) .nil) (.node (o_958 P) .nil .nil))) (.node (o_254 P) (.node (o_382 P) (.node (o_638 P) (.node (o_1150 P) .nil .nil) .nil) (.node (o_894 P) (.node (o_1406 P) .nil .nil) .nil)) (.node (o_510 P) (.node (o_766 P) (.node (o_1278 P) .nil .nil) .nil) (.node (o_1022 P) .nil .nil))))))))))
abbrev S3 (w : World) (os : OsState) : SharedT := ⟨T3 w.params, 1410, (boot_heap w.params).life, #[], ⟨0, 0, 0, 0⟩, 2314, os⟩
def G3 (w : World) : Prop := ∀ os : OsState, XH.segF (XH.stQ prg w) 11 ann 3446 (S2 w os) (XH.pcQ (rest2.take 101) env cE ⟨637, 0, 640, 24⟩ B) = some (.next, S3 w os, cE, ⟨1178, 0, 1178, 8⟩)
theorem g3f (w : World) : G3 (w.withFollow "special-get-raises" false) := by
  intro os
  kernel_rfl
theorem g3t (w : World) : G3 (w.withFollow "special-get-raises" true) := by
  intro os
  kernel_rfl
theorem g3 (w : World) : G3 w := byRow2 "special-get-raises" (P := G3) g3f g3t w
abbrev rest3 : List Stmt := rest2.drop 101
def l_3_54 (P : Params) : List DictEntry := ⟨(PyData.keyHash P (S "make_lean")), (.str (S "make_lean") 2881), (.ref 1796)⟩ :: ⟨(PyData.keyHash P (S "shortened")), (.str (S "shortened") 2892), (.ref 1803)⟩ :: ⟨(PyData.keyHash P (S "lean")), (.str (S "lean") 2904), (.ref 1812)⟩ :: ⟨(PyData.keyHash P (S "leaned")), (.str (S "leaned") 2916), (.ref 1821)⟩ :: ⟨(PyData.keyHash P (S "_law_mixed")), (.str (S "_law_mixed") 2927), (.ref 1828)⟩ :: ⟨(PyData.keyHash P (S "_law_cell")), (.str (S "_law_cell") 2938), (.ref 1835)⟩ :: ⟨(PyData.keyHash P (S "_law_take")), (.str (S "_law_take") 2947), (.ref 1842)⟩ :: ⟨(PyData.keyHash P (S "_law_only")), (.str (S "_law_only") 2953), (.ref 1847)⟩ :: ⟨(PyData.keyHash P (S "_law_asked")), (.str (S "_law_asked") 2963), (.ref 1854)⟩ :: ⟨(PyData.keyHash P (S "_law_good")), (.str (S "_law_good") 2976), (.ref 1861)⟩ :: ⟨(PyData.keyHash P (S "law")), (.str (S "law") 2982), (.ref 1866)⟩ :: []
def l_3_55 (P : Params) : List DictEntry := ⟨(PyData.keyHash P (S "turns_at")), (.str (S "turns_at") 2528), (.ref 1547)⟩ :: ⟨(PyData.keyHash P (S "all_turns")), (.str (S "all_turns") 2536), (.ref 1552)⟩ :: ⟨(PyData.keyHash P (S "GONE")), (.str (S "GONE") 2540), (.str (S "gone") 2539)⟩ :: ⟨(PyData.keyHash P (S "rows_of_steps")), (.str (S "rows_of_steps") 2546), (.ref 1557)⟩ :: ⟨(PyData.keyHash P (S "may_be_made")), (.str (S "may_be_made") 2556), (.ref 1564)⟩ :: ⟨(PyData.keyHash P (S "first_leaner")), (.str (S "first_leaner") 2568), (.ref 1571)⟩ :: ⟨(PyData.keyHash P (S "State")), (.str (S "State") 2601), (.ref 1588)⟩ :: ⟨(PyData.keyHash P (S "state_behind")), (.str (S "state_behind") 2609), (.ref 1599)⟩ :: ⟨(PyData.keyHash P (S "bare_state")), (.str (S "bare_state") 2617), (.ref 1606)⟩ :: ⟨(PyData.keyHash P (S "innermost")), (.str (S "innermost") 2623), (.ref 1611)⟩ :: ⟨(PyData.keyHash P (S "map_of")), (.str (S "map_of") 2639), (.ref 1618)⟩ :: ⟨(PyData.keyHash P (S "Trace")), (.str (S "Trace") 2761), (.ref 1710)⟩ :: ⟨(PyData.keyHash P (S "FREE")), (.str (S "FREE") 2766), (.int (-1) 2765)⟩ :: ⟨(PyData.keyHash P (S "Problem")), (.str (S "Problem") 2799), (.ref 1729)⟩ :: ⟨(PyData.keyHash P (S "members")), (.str (S "members") 2805), (.ref 1738)⟩ :: ⟨(PyData.keyHash P (S "are_friends")), (.str (S "are_friends") 2811), (.ref 1743)⟩ :: ⟨(PyData.keyHash P (S "free_places")), (.str (S "free_places") 2817), (.ref 1748)⟩ :: ⟨(PyData.keyHash P (S "places_in")), (.str (S "places_in") 2823), (.ref 1753)⟩ :: ⟨(PyData.keyHash P (S "least_costs")), (.str (S "least_costs") 2829), (.ref 1758)⟩ :: ⟨(PyData.keyHash P (S "MOST_BINDINGS_leastnames")), (.str (S "MOST_BINDINGS_leastnames") 2833), (.int 7 2832)⟩ :: ⟨(PyData.keyHash P (S "problem_of")), (.str (S "problem_of") 2841), (.ref 1765)⟩ :: ⟨(PyData.keyHash P (S "all_masks")), (.str (S "all_masks") 2847), (.ref 1770)⟩ :: ⟨(PyData.keyHash P (S "least_of")), (.str (S "least_of") 2853), (.ref 1775)⟩ :: ⟨(PyData.keyHash P (S "least_names")), (.str (S "least_names") 2863), (.ref 1782)⟩ :: ⟨(PyData.keyHash P (S "short_naming")), (.str (S "short_naming") 2873), (.ref 1789)⟩ :: (l_3_54 P)
def l_3_56 (P : Params) : List DictEntry := ⟨(PyData.keyHash P (S "reckoned")), (.str (S "reckoned") 2280), (.ref 1401)⟩ :: ⟨(PyData.keyHash P (S "two_told")), (.str (S "two_told") 2292), (.ref 1408)⟩ :: ⟨(PyData.keyHash P (S "CONTRARY")), (.str (S "CONTRARY") 2313), (.ref 1409)⟩ :: ⟨(PyData.keyHash P (S "ONE_EACH")), (.str (S "ONE_EACH") 2318), (.ref 1410)⟩ :: ⟨(PyData.keyHash P (S "EMPTY_BLOCK")), (.str (S "EMPTY_BLOCK") 2320), (.ref 1412)⟩ :: ⟨(PyData.keyHash P (S "number_in")), (.str (S "number_in") 2327), (.ref 1419)⟩ :: ⟨(PyData.keyHash P (S "reckoned_two")), (.str (S "reckoned_two") 2337), (.ref 1426)⟩ :: ⟨(PyData.keyHash P (S "turns_of_two")), (.str (S "turns_of_two") 2347), (.ref 1433)⟩ :: ⟨(PyData.keyHash P (S "turns_of_not")), (.str (S "turns_of_not") 2358), (.ref 1440)⟩ :: ⟨(PyData.keyHash P (S "turns_of_and_or")), (.str (S "turns_of_and_or") 2368), (.ref 1447)⟩ :: ⟨(PyData.keyHash P (S "turns_of_pick")), (.str (S "turns_of_pick") 2378), (.ref 1454)⟩ :: ⟨(PyData.keyHash P (S "turns_of_fn")), (.str (S "turns_of_fn") 2388), (.ref 1461)⟩ :: ⟨(PyData.keyHash P (S "chosen_of_if")), (.str (S "chosen_of_if") 2397), (.ref 1468)⟩ :: ⟨(PyData.keyHash P (S "joined_if")), (.str (S "joined_if") 2409), (.ref 1475)⟩ :: ⟨(PyData.keyHash P (S "turns_with_else")), (.str (S "turns_with_else") 2419), (.ref 1482)⟩ :: ⟨(PyData.keyHash P (S "statement_behind")), (.str (S "statement_behind") 2428), (.ref 1489)⟩ :: ⟨(PyData.keyHash P (S "path_behind")), (.str (S "path_behind") 2435), (.ref 1496)⟩ :: ⟨(PyData.keyHash P (S "both_instead")), (.str (S "both_instead") 2444), (.ref 1503)⟩ :: ⟨(PyData.keyHash P (S "turns_without_else")), (.str (S "turns_without_else") 2458), (.ref 1510)⟩ :: ⟨(PyData.keyHash P (S "turns_of_if")), (.str (S "turns_of_if") 2468), (.ref 1517)⟩ :: ⟨(PyData.keyHash P (S "turns_of_let")), (.str (S "turns_of_let") 2474), (.ref 1522)⟩ :: ⟨(PyData.keyHash P (S "turns_of_block")), (.str (S "turns_of_block") 2480), (.ref 1527)⟩ :: ⟨(PyData.keyHash P (S "turns_of_return")), (.str (S "turns_of_return") 2491), (.ref 1534)⟩ :: ⟨(PyData.keyHash P (S "turns_of_pair")), (.str (S "turns_of_pair") 2497), (.ref 1539)⟩ :: ⟨(PyData.keyHash P (S "TURNS")), (.str (S "TURNS") 2518), (.ref 1540)⟩ :: (l_3_55 P)
def l_3_57 (P : Params) : List DictEntry := ⟨(PyData.keyHash P (S "must_be_letters")), (.str (S "must_be_letters") 2085), (.ref 1260)⟩ :: ⟨(PyData.keyHash P (S "first_names")), (.str (S "first_names") 2091), (.ref 1265)⟩ :: ⟨(PyData.keyHash P (S "pairs_of_rooms")), (.str (S "pairs_of_rooms") 2099), (.ref 1270)⟩ :: ⟨(PyData.keyHash P (S "pairs_of_uses")), (.str (S "pairs_of_uses") 2105), (.ref 1275)⟩ :: ⟨(PyData.keyHash P (S "hinder")), (.str (S "hinder") 2114), (.ref 1282)⟩ :: ⟨(PyData.keyHash P (S "barred")), (.str (S "barred") 2120), (.ref 1287)⟩ :: ⟨(PyData.keyHash P (S "must_be_naming")), (.str (S "must_be_naming") 2126), (.ref 1292)⟩ :: ⟨(PyData.keyHash P (S "named")), (.str (S "named") 2140), (.ref 1299)⟩ :: ⟨(PyData.keyHash P (S "counts")), (.str (S "counts") 2146), (.ref 1304)⟩ :: ⟨(PyData.keyHash P (S "hindering")), (.str (S "hindering") 2152), (.ref 1309)⟩ :: ⟨(PyData.keyHash P (S "fair")), (.str (S "fair") 2158), (.ref 1314)⟩ :: ⟨(PyData.keyHash P (S "places_of_properties")), (.str (S "places_of_properties") 2166), (.ref 1319)⟩ :: ⟨(PyData.keyHash P (S "properties")), (.str (S "properties") 2172), (.ref 1324)⟩ :: ⟨(PyData.keyHash P (S "are_unlike_names")), (.str (S "are_unlike_names") 2178), (.ref 1329)⟩ :: ⟨(PyData.keyHash P (S "must_be_property_naming")), (.str (S "must_be_property_naming") 2189), (.ref 1336)⟩ :: ⟨(PyData.keyHash P (S "props_named")), (.str (S "props_named") 2195), (.ref 1341)⟩ :: ⟨(PyData.keyHash P (S "props_least")), (.str (S "props_least") 2201), (.ref 1346)⟩ :: ⟨(PyData.keyHash P (S "NO_KIND")), (.str (S "NO_KIND") 2206), (.int (-2) 2205)⟩ :: ⟨(PyData.keyHash P (S "NO_QUOTIENT")), (.str (S "NO_QUOTIENT") 2209), (.int (-6) 2208)⟩ :: ⟨(PyData.keyHash P (S "TOO_GREAT")), (.str (S "TOO_GREAT") 2212), (.int (-7) 2211)⟩ :: ⟨(PyData.keyHash P (S "Failing")), (.str (S "Failing") 2241), (.ref 1363)⟩ :: ⟨(PyData.keyHash P (S "is_number_worth")), (.str (S "is_number_worth") 2248), (.ref 1373)⟩ :: ⟨(PyData.keyHash P (S "number_of")), (.str (S "number_of") 2255), (.ref 1380)⟩ :: ⟨(PyData.keyHash P (S "contrary")), (.str (S "contrary") 2262), (.ref 1387)⟩ :: ⟨(PyData.keyHash P (S "compared")), (.str (S "compared") 2271), (.ref 1394)⟩ :: (l_3_56 P)
def l_3_58 (P : Params) : List DictEntry := ⟨(PyData.keyHash P (S "bare_words")), (.str (S "bare_words") 1895), (.ref 1117)⟩ :: ⟨(PyData.keyHash P (S "expression_words")), (.str (S "expression_words") 1904), (.ref 1124)⟩ :: ⟨(PyData.keyHash P (S "braced_words")), (.str (S "braced_words") 1911), (.ref 1131)⟩ :: ⟨(PyData.keyHash P (S "plain_words")), (.str (S "plain_words") 1917), (.ref 1136)⟩ :: ⟨(PyData.keyHash P (S "statement_words")), (.str (S "statement_words") 1926), (.ref 1143)⟩ :: ⟨(PyData.keyHash P (S "list_words")), (.str (S "list_words") 1935), (.ref 1150)⟩ :: ⟨(PyData.keyHash P (S "tight_text")), (.str (S "tight_text") 1946), (.ref 1157)⟩ :: ⟨(PyData.keyHash P (S "ends_list")), (.str (S "ends_list") 1956), (.ref 1164)⟩ :: ⟨(PyData.keyHash P (S "is_ended")), (.str (S "is_ended") 1962), (.ref 1169)⟩ :: ⟨(PyData.keyHash P (S "lies_in")), (.str (S "lies_in") 1970), (.ref 1176)⟩ :: ⟨(PyData.keyHash P (S "is_needed")), (.str (S "is_needed") 1976), (.ref 1181)⟩ :: ⟨(PyData.keyHash P (S "behind_end")), (.str (S "behind_end") 1982), (.ref 1186)⟩ :: ⟨(PyData.keyHash P (S "why_gone")), (.str (S "why_gone") 1991), (.ref 1193)⟩ :: ⟨(PyData.keyHash P (S "unused_pairs")), (.str (S "unused_pairs") 1997), (.ref 1198)⟩ :: ⟨(PyData.keyHash P (S "goings")), (.str (S "goings") 2003), (.ref 1203)⟩ :: ⟨(PyData.keyHash P (S "going_statement")), (.str (S "going_statement") 2011), (.ref 1210)⟩ :: ⟨(PyData.keyHash P (S "without_pairs")), (.str (S "without_pairs") 2024), (.ref 1217)⟩ :: ⟨(PyData.keyHash P (S "going")), (.str (S "going") 2032), (.ref 1224)⟩ :: ⟨(PyData.keyHash P (S "is_no_longer")), (.str (S "is_no_longer") 2038), (.ref 1229)⟩ :: ⟨(PyData.keyHash P (S "going_kept")), (.str (S "going_kept") 2047), (.ref 1236)⟩ :: ⟨(PyData.keyHash P (S "bare_changes")), (.str (S "bare_changes") 2058), (.ref 1243)⟩ :: ⟨(PyData.keyHash P (S "with_names")), (.str (S "with_names") 2066), (.ref 1248)⟩ :: ⟨(PyData.keyHash P (S "FEWEST_LETTERS")), (.str (S "FEWEST_LETTERS") 2070), (.int 2 2069)⟩ :: ⟨(PyData.keyHash P (S "MOST_LETTERS_supply")), (.str (S "MOST_LETTERS_supply") 2072), (.int 26 2071)⟩ :: ⟨(PyData.keyHash P (S "are_letters")), (.str (S "are_letters") 2078), (.ref 1253)⟩ :: (l_3_57 P)
def l_3_59 (P : Params) : List DictEntry := ⟨(PyData.keyHash P (S "origins_behind")), (.str (S "origins_behind") 1657), (.ref 954)⟩ :: ⟨(PyData.keyHash P (S "layout_of")), (.str (S "layout_of") 1666), (.ref 961)⟩ :: ⟨(PyData.keyHash P (S "used_names")), (.str (S "used_names") 1678), (.ref 968)⟩ :: ⟨(PyData.keyHash P (S "bindings_in")), (.str (S "bindings_in") 1684), (.ref 973)⟩ :: ⟨(PyData.keyHash P (S "bindings")), (.str (S "bindings") 1691), (.ref 980)⟩ :: ⟨(PyData.keyHash P (S "STILL_OF_STILL")), (.str (S "STILL_OF_STILL") 1699), (.ref 981)⟩ :: ⟨(PyData.keyHash P (S "is_behind_let")), (.str (S "is_behind_let") 1710), (.ref 988)⟩ :: ⟨(PyData.keyHash P (S "sure_uses")), (.str (S "sure_uses") 1716), (.ref 993)⟩ :: ⟨(PyData.keyHash P (S "is_still_part")), (.str (S "is_still_part") 1722), (.ref 998)⟩ :: ⟨(PyData.keyHash P (S "Survey")), (.str (S "Survey") 1756), (.ref 1013)⟩ :: ⟨(PyData.keyHash P (S "lists_of")), (.str (S "lists_of") 1762), (.ref 1022)⟩ :: ⟨(PyData.keyHash P (S "let_of")), (.str (S "let_of") 1769), (.ref 1029)⟩ :: ⟨(PyData.keyHash P (S "pairs_of")), (.str (S "pairs_of") 1782), (.ref 1036)⟩ :: ⟨(PyData.keyHash P (S "test_steps")), (.str (S "test_steps") 1791), (.ref 1043)⟩ :: ⟨(PyData.keyHash P (S "tests_of")), (.str (S "tests_of") 1803), (.ref 1050)⟩ :: ⟨(PyData.keyHash P (S "waiting_pairs")), (.str (S "waiting_pairs") 1816), (.ref 1057)⟩ :: ⟨(PyData.keyHash P (S "holder_of")), (.str (S "holder_of") 1825), (.ref 1064)⟩ :: ⟨(PyData.keyHash P (S "holders_of")), (.str (S "holders_of") 1831), (.ref 1069)⟩ :: ⟨(PyData.keyHash P (S "reached_pairs")), (.str (S "reached_pairs") 1837), (.ref 1074)⟩ :: ⟨(PyData.keyHash P (S "unreached_pairs")), (.str (S "unreached_pairs") 1843), (.ref 1079)⟩ :: ⟨(PyData.keyHash P (S "number_word")), (.str (S "number_word") 1856), (.ref 1086)⟩ :: ⟨(PyData.keyHash P (S "with_commas")), (.str (S "with_commas") 1865), (.ref 1093)⟩ :: ⟨(PyData.keyHash P (S "fn_words")), (.str (S "fn_words") 1871), (.ref 1098)⟩ :: ⟨(PyData.keyHash P (S "two_words")), (.str (S "two_words") 1881), (.ref 1105)⟩ :: ⟨(PyData.keyHash P (S "pick_words")), (.str (S "pick_words") 1889), (.ref 1112)⟩ :: (l_3_58 P)
def l_3_60 (P : Params) : List DictEntry := ⟨(PyData.keyHash P (S "MOST_DEPTH")), (.str (S "MOST_DEPTH") 1375), (.int 16 1374)⟩ :: ⟨(PyData.keyHash P (S "MOST_BINDINGS_trees")), (.str (S "MOST_BINDINGS_trees") 1377), (.int 100 1376)⟩ :: ⟨(PyData.keyHash P (S "names_twice")), (.str (S "names_twice") 1389), (.ref 763)⟩ :: ⟨(PyData.keyHash P (S "is_open_end")), (.str (S "is_open_end") 1396), (.ref 770)⟩ :: ⟨(PyData.keyHash P (S "fault_in_place")), (.str (S "fault_in_place") 1406), (.ref 777)⟩ :: ⟨(PyData.keyHash P (S "must_fit")), (.str (S "must_fit") 1420), (.ref 784)⟩ :: ⟨(PyData.keyHash P (S "is_great")), (.str (S "is_great") 1426), (.ref 789)⟩ :: ⟨(PyData.keyHash P (S "must_hold_together")), (.str (S "must_hold_together") 1434), (.ref 796)⟩ :: ⟨(PyData.keyHash P (S "must_tree")), (.str (S "must_tree") 1441), (.ref 803)⟩ :: ⟨(PyData.keyHash P (S "holds_together")), (.str (S "holds_together") 1448), (.ref 810)⟩ :: ⟨(PyData.keyHash P (S "read_node")), (.str (S "read_node") 1458), (.ref 817)⟩ :: ⟨(PyData.keyHash P (S "read")), (.str (S "read") 1465), (.ref 824)⟩ :: ⟨(PyData.keyHash P (S "spots")), (.str (S "spots") 1478), (.ref 831)⟩ :: ⟨(PyData.keyHash P (S "Old")), (.str (S "Old") 1509), (.ref 848)⟩ :: ⟨(PyData.keyHash P (S "Change")), (.str (S "Change") 1540), (.ref 869)⟩ :: ⟨(PyData.keyHash P (S "Trail")), (.str (S "Trail") 1574), (.ref 890)⟩ :: ⟨(PyData.keyHash P (S "instead")), (.str (S "instead") 1582), (.ref 901)⟩ :: ⟨(PyData.keyHash P (S "thing_at")), (.str (S "thing_at") 1591), (.ref 908)⟩ :: ⟨(PyData.keyHash P (S "built")), (.str (S "built") 1597), (.ref 913)⟩ :: ⟨(PyData.keyHash P (S "remade")), (.str (S "remade") 1603), (.ref 918)⟩ :: ⟨(PyData.keyHash P (S "changed")), (.str (S "changed") 1609), (.ref 923)⟩ :: ⟨(PyData.keyHash P (S "least_stretch")), (.str (S "least_stretch") 1615), (.ref 928)⟩ :: ⟨(PyData.keyHash P (S "follow")), (.str (S "follow") 1629), (.ref 935)⟩ :: ⟨(PyData.keyHash P (S "follow_change")), (.str (S "follow_change") 1635), (.ref 940)⟩ :: ⟨(PyData.keyHash P (S "follow_made")), (.str (S "follow_made") 1647), (.ref 947)⟩ :: (l_3_59 P)
def l_3_61 (P : Params) : List DictEntry := ⟨(PyData.keyHash P (S "with_word")), (.str (S "with_word") 1129), (.ref 591)⟩ :: ⟨(PyData.keyHash P (S "plain_statement")), (.str (S "plain_statement") 1145), (.ref 598)⟩ :: ⟨(PyData.keyHash P (S "branching")), (.str (S "branching") 1157), (.ref 605)⟩ :: ⟨(PyData.keyHash P (S "looping")), (.str (S "looping") 1167), (.ref 612)⟩ :: ⟨(PyData.keyHash P (S "trying")), (.str (S "trying") 1179), (.ref 619)⟩ :: ⟨(PyData.keyHash P (S "block")), (.str (S "block") 1188), (.ref 626)⟩ :: ⟨(PyData.keyHash P (S "statement")), (.str (S "statement") 1196), (.ref 633)⟩ :: ⟨(PyData.keyHash P (S "parsed")), (.str (S "parsed") 1205), (.ref 640)⟩ :: ⟨(PyData.keyHash P (S "is_whole")), (.str (S "is_whole") 1214), (.ref 647)⟩ :: ⟨(PyData.keyHash P (S "is_number_in_tree")), (.str (S "is_number_in_tree") 1221), (.ref 654)⟩ :: ⟨(PyData.keyHash P (S "is_part")), (.str (S "is_part") 1229), (.ref 661)⟩ :: ⟨(PyData.keyHash P (S "is_of_kind")), (.str (S "is_of_kind") 1237), (.ref 668)⟩ :: ⟨(PyData.keyHash P (S "fault_of")), (.str (S "fault_of") 1245), (.ref 675)⟩ :: ⟨(PyData.keyHash P (S "kinds_of_names")), (.str (S "kinds_of_names") 1255), (.ref 682)⟩ :: ⟨(PyData.keyHash P (S "kinds_of_fields")), (.str (S "kinds_of_fields") 1261), (.ref 687)⟩ :: ⟨(PyData.keyHash P (S "kinds_within")), (.str (S "kinds_within") 1267), (.ref 692)⟩ :: ⟨(PyData.keyHash P (S "must_have_form")), (.str (S "must_have_form") 1281), (.ref 699)⟩ :: ⟨(PyData.keyHash P (S "Layout")), (.str (S "Layout") 1313), (.ref 716)⟩ :: ⟨(PyData.keyHash P (S "rooms_made")), (.str (S "rooms_made") 1319), (.ref 725)⟩ :: ⟨(PyData.keyHash P (S "add_rooms")), (.str (S "add_rooms") 1333), (.ref 732)⟩ :: ⟨(PyData.keyHash P (S "add_names")), (.str (S "add_names") 1347), (.ref 739)⟩ :: ⟨(PyData.keyHash P (S "laid_out")), (.str (S "laid_out") 1353), (.ref 744)⟩ :: ⟨(PyData.keyHash P (S "names_by_room")), (.str (S "names_by_room") 1359), (.ref 749)⟩ :: ⟨(PyData.keyHash P (S "meaning")), (.str (S "meaning") 1369), (.ref 756)⟩ :: ⟨(PyData.keyHash P (S "MOST_PARTS")), (.str (S "MOST_PARTS") 1373), (.int 300 1372)⟩ :: (l_3_60 P)
def l_3_62 (P : Params) : List DictEntry := ⟨(PyData.keyHash P (S "Node")), (.str (S "Node") 785), (.ref 327)⟩ :: ⟨(PyData.keyHash P (S "Source")), (.str (S "Source") 904), (.ref 425)⟩ :: ⟨(PyData.keyHash P (S "things_of")), (.str (S "things_of") 910), (.ref 434)⟩ :: ⟨(PyData.keyHash P (S "numbered")), (.str (S "numbered") 916), (.ref 439)⟩ :: ⟨(PyData.keyHash P (S "listed")), (.str (S "listed") 928), (.ref 446)⟩ :: ⟨(PyData.keyHash P (S "name_taken")), (.str (S "name_taken") 935), (.ref 453)⟩ :: ⟨(PyData.keyHash P (S "parameters")), (.str (S "parameters") 942), (.ref 460)⟩ :: ⟨(PyData.keyHash P (S "giving")), (.str (S "giving") 953), (.ref 467)⟩ :: ⟨(PyData.keyHash P (S "with_body")), (.str (S "with_body") 964), (.ref 474)⟩ :: ⟨(PyData.keyHash P (S "pair")), (.str (S "pair") 974), (.ref 481)⟩ :: ⟨(PyData.keyHash P (S "field")), (.str (S "field") 981), (.ref 488)⟩ :: ⟨(PyData.keyHash P (S "flattened")), (.str (S "flattened") 987), (.ref 493)⟩ :: ⟨(PyData.keyHash P (S "record")), (.str (S "record") 996), (.ref 500)⟩ :: ⟨(PyData.keyHash P (S "tightest")), (.str (S "tightest") 1004), (.ref 507)⟩ :: ⟨(PyData.keyHash P (S "followed")), (.str (S "followed") 1016), (.ref 514)⟩ :: ⟨(PyData.keyHash P (S "operand")), (.str (S "operand") 1028), (.ref 521)⟩ :: ⟨(PyData.keyHash P (S "joined")), (.str (S "joined") 1044), (.ref 528)⟩ :: ⟨(PyData.keyHash P (S "join_down_to")), (.str (S "join_down_to") 1055), (.ref 535)⟩ :: ⟨(PyData.keyHash P (S "side")), (.str (S "side") 1064), (.ref 542)⟩ :: ⟨(PyData.keyHash P (S "two_sided")), (.str (S "two_sided") 1074), (.ref 549)⟩ :: ⟨(PyData.keyHash P (S "expression")), (.str (S "expression") 1086), (.ref 556)⟩ :: ⟨(PyData.keyHash P (S "in_braces")), (.str (S "in_braces") 1094), (.ref 563)⟩ :: ⟨(PyData.keyHash P (S "in_brackets")), (.str (S "in_brackets") 1102), (.ref 570)⟩ :: ⟨(PyData.keyHash P (S "ended")), (.str (S "ended") 1110), (.ref 577)⟩ :: ⟨(PyData.keyHash P (S "letting")), (.str (S "letting") 1119), (.ref 584)⟩ :: (l_3_61 P)
def l_3_63 (P : Params) : List DictEntry := ⟨(PyData.keyHash P (S "MOST_FIGURES")), (.str (S "MOST_FIGURES") 451), (.int 18 450)⟩ :: ⟨(PyData.keyHash P (S "is_letter")), (.str (S "is_letter") 458), (.ref 189)⟩ :: ⟨(PyData.keyHash P (S "is_figure")), (.str (S "is_figure") 465), (.ref 196)⟩ :: ⟨(PyData.keyHash P (S "is_letter_or_figure")), (.str (S "is_letter_or_figure") 472), (.ref 203)⟩ :: ⟨(PyData.keyHash P (S "is_name")), (.str (S "is_name") 478), (.ref 208)⟩ :: ⟨(PyData.keyHash P (S "is_plain_number")), (.str (S "is_plain_number") 484), (.ref 213)⟩ :: ⟨(PyData.keyHash P (S "is_number")), (.str (S "is_number") 494), (.ref 220)⟩ :: ⟨(PyData.keyHash P (S "number_told")), (.str (S "number_told") 504), (.ref 227)⟩ :: ⟨(PyData.keyHash P (S "run_end")), (.str (S "run_end") 512), (.ref 234)⟩ :: ⟨(PyData.keyHash P (S "sort_of")), (.str (S "sort_of") 520), (.ref 241)⟩ :: ⟨(PyData.keyHash P (S "sign_end")), (.str (S "sign_end") 528), (.ref 248)⟩ :: ⟨(PyData.keyHash P (S "words")), (.str (S "words") 539), (.ref 255)⟩ :: ⟨(PyData.keyHash P (S "EXPRESSIONS")), (.str (S "EXPRESSIONS") 554), (.ref 256)⟩ :: ⟨(PyData.keyHash P (S "STATEMENTS")), (.str (S "STATEMENTS") 566), (.ref 257)⟩ :: ⟨(PyData.keyHash P (S "TWO_SIGNS")), (.str (S "TWO_SIGNS") 578), (.ref 258)⟩ :: ⟨(PyData.keyHash P (S "SHAPES")), (.str (S "SHAPES") 665), (.ref 259)⟩ :: ⟨(PyData.keyHash P (S "is_give")), (.str (S "is_give") 672), (.ref 290)⟩ :: ⟨(PyData.keyHash P (S "parts_within")), (.str (S "parts_within") 678), (.ref 295)⟩ :: ⟨(PyData.keyHash P (S "inner_parts")), (.str (S "inner_parts") 690), (.ref 302)⟩ :: ⟨(PyData.keyHash P (S "LEVELS")), (.str (S "LEVELS") 732), (.ref 303)⟩ :: ⟨(PyData.keyHash P (S "LOOSEST")), (.str (S "LOOSEST") 734), (.int 0 733)⟩ :: ⟨(PyData.keyHash P (S "AHEAD")), (.str (S "AHEAD") 736), (.int 7 735)⟩ :: ⟨(PyData.keyHash P (S "BEHIND")), (.str (S "BEHIND") 738), (.int 8 737)⟩ :: ⟨(PyData.keyHash P (S "TIGHTEST")), (.str (S "TIGHTEST") 740), (.int 9 739)⟩ :: ⟨(PyData.keyHash P (S "level_of")), (.str (S "level_of") 748), (.ref 310)⟩ :: (l_3_62 P)
def l_3_64 (P : Params) : List DictEntry := ⟨(PyData.keyHash P (S "__name__")), (.str (S "__name__") 165), (.str (S "law_leanscript_k02_refused_words") 2917)⟩ :: ⟨(PyData.keyHash P (S "__doc__")), (.str (S "__doc__") 166), .none⟩ :: ⟨(PyData.keyHash P (S "__package__")), (.str (S "__package__") 167), .none⟩ :: ⟨(PyData.keyHash P (S "__loader__")), (.str (S "__loader__") 168), (.builtin "__main__.__loader__#opaque")⟩ :: ⟨(PyData.keyHash P (S "__spec__")), (.str (S "__spec__") 169), .none⟩ :: ⟨(PyData.keyHash P (S "__annotations__")), (.str (S "__annotations__") 170), (.ref 6)⟩ :: ⟨(PyData.keyHash P (S "__builtins__")), (.str (S "__builtins__") 171), (.ref 4)⟩ :: ⟨(PyData.keyHash P (S "__file__")), (.str (S "__file__") 173), (.str (S "/claim/cut.py") 172)⟩ :: ⟨(PyData.keyHash P (S "__cached__")), (.str (S "__cached__") 174), .none⟩ :: ⟨(PyData.keyHash P (S "_wall")), (.str (S "_wall") 193), (.ref 21)⟩ :: ⟨(PyData.keyHash P (S "LeanError")), (.str (S "LeanError") 213), (.ref 31)⟩ :: ⟨(PyData.keyHash P (S "NoText")), (.str (S "NoText") 239), (.ref 52)⟩ :: ⟨(PyData.keyHash P (S "NoTree")), (.str (S "NoTree") 267), (.ref 73)⟩ :: ⟨(PyData.keyHash P (S "NoPath")), (.str (S "NoPath") 283), (.ref 85)⟩ :: ⟨(PyData.keyHash P (S "NoNaming")), (.str (S "NoNaming") 310), (.ref 105)⟩ :: ⟨(PyData.keyHash P (S "NoLetters")), (.str (S "NoLetters") 326), (.ref 117)⟩ :: ⟨(PyData.keyHash P (S "NoCount")), (.str (S "NoCount") 342), (.ref 129)⟩ :: ⟨(PyData.keyHash P (S "NoTurning")), (.str (S "NoTurning") 358), (.ref 141)⟩ :: ⟨(PyData.keyHash P (S "NoMap")), (.str (S "NoMap") 374), (.ref 153)⟩ :: ⟨(PyData.keyHash P (S "NoLine")), (.str (S "NoLine") 390), (.ref 165)⟩ :: ⟨(PyData.keyHash P (S "TooMany")), (.str (S "TooMany") 406), (.ref 177)⟩ :: ⟨(PyData.keyHash P (S "KEPT")), (.str (S "KEPT") 419), (.ref 180)⟩ :: ⟨(PyData.keyHash P (S "LONG_SIGNS")), (.str (S "LONG_SIGNS") 426), (.ref 181)⟩ :: ⟨(PyData.keyHash P (S "SHORT_SIGNS")), (.str (S "SHORT_SIGNS") 447), (.ref 182)⟩ :: ⟨(PyData.keyHash P (S "MOST_LETTERS_words")), (.str (S "MOST_LETTERS_words") 449), (.int 12 448)⟩ :: (l_3_63 P)
def o_3_3 (P : Params) : Obj := ⟨(.type "dict"), none, .dict (List.toArray (l_3_64 P)) 261, (List.toArray [])⟩
def l_12_65 (P : Params) : List Value := (.ref 1834) :: (.int 1520 0) :: (.int 0 0) :: (.ref 1841) :: (.int 1524 0) :: (.int 0 0) :: (.ref 1846) :: (.int 1536 0) :: (.int 0 0) :: (.ref 1853) :: (.int 1554 0) :: (.int 0 0) :: (.ref 1860) :: (.int 1561 0) :: (.int 0 0) :: (.ref 1865) :: []
def l_12_66 (P : Params) : List Value := (.int 0 0) :: (.ref 1774) :: (.int 1474 0) :: (.int 0 0) :: (.ref 1781) :: (.int 1478 0) :: (.int 0 0) :: (.ref 1788) :: (.int 1482 0) :: (.int 0 0) :: (.ref 1795) :: (.int 1488 0) :: (.int 0 0) :: (.ref 1802) :: (.int 1499 0) :: (.int 0 0) :: (.ref 1811) :: (.int 1502 0) :: (.int 0 0) :: (.ref 1820) :: (.int 1506 0) :: (.int 0 0) :: (.ref 1827) :: (.int 1510 0) :: (.int 0 0) :: (l_12_65 P)
def l_12_67 (P : Params) : List Value := (.int 1424 0) :: (.int 0 0) :: (.ref 1720) :: (.int 1434 0) :: (.int 0 0) :: (.ref 1737) :: (.int 1436 0) :: (.int 0 0) :: (.ref 1742) :: (.int 1438 0) :: (.int 0 0) :: (.ref 1747) :: (.int 1441 0) :: (.int 0 0) :: (.ref 1752) :: (.int 1443 0) :: (.int 0 0) :: (.ref 1757) :: (.int 1457 0) :: (.int 0 0) :: (.ref 1764) :: (.int 1462 0) :: (.int 0 0) :: (.ref 1769) :: (.int 1464 0) :: (l_12_66 P)
def l_12_68 (P : Params) : List Value := (.ref 1556) :: (.int 1333 0) :: (.int 0 0) :: (.ref 1563) :: (.int 1337 0) :: (.int 0 0) :: (.ref 1570) :: (.int 1345 0) :: (.int 0 0) :: (.ref 1577) :: (.int 1350 0) :: (.int 0 0) :: (.ref 1598) :: (.int 1352 0) :: (.int 0 0) :: (.ref 1605) :: (.int 1358 0) :: (.int 0 0) :: (.ref 1610) :: (.int 1363 0) :: (.int 0 0) :: (.ref 1617) :: (.int 1371 0) :: (.int 0 0) :: (.ref 1624) :: (l_12_67 P)
def l_12_69 (P : Params) : List Value := (.int 0 0) :: (.ref 1509) :: (.int 1274 0) :: (.int 0 0) :: (.ref 1516) :: (.int 1279 0) :: (.int 0 0) :: (.ref 1521) :: (.int 1287 0) :: (.int 0 0) :: (.ref 1526) :: (.int 1294 0) :: (.int 0 0) :: (.ref 1533) :: (.int 1300 0) :: (.int 0 0) :: (.ref 1538) :: (.int 1311 0) :: (.int 0 0) :: (.ref 1546) :: (.int 1320 0) :: (.int 0 0) :: (.ref 1551) :: (.int 1328 0) :: (.int 0 0) :: (l_12_68 P)
def l_12_70 (P : Params) : List Value := (.int 1216 0) :: (.int 0 0) :: (.ref 1453) :: (.int 1223 0) :: (.int 0 0) :: (.ref 1460) :: (.int 1228 0) :: (.int 0 0) :: (.ref 1467) :: (.int 1235 0) :: (.int 0 0) :: (.ref 1474) :: (.int 1243 0) :: (.int 0 0) :: (.ref 1481) :: (.int 1253 0) :: (.int 0 0) :: (.ref 1488) :: (.int 1256 0) :: (.int 0 0) :: (.ref 1495) :: (.int 1258 0) :: (.int 0 0) :: (.ref 1502) :: (.int 1261 0) :: (l_12_69 P)
def l_12_71 (P : Params) : List Value := (.ref 1386) :: (.int 1147 0) :: (.int 0 0) :: (.ref 1393) :: (.int 1155 0) :: (.int 0 0) :: (.ref 1400) :: (.int 1165 0) :: (.int 0 0) :: (.ref 1407) :: (.int 1181 0) :: (.int 0 0) :: (.ref 1418) :: (.int 1187 0) :: (.int 0 0) :: (.ref 1425) :: (.int 1196 0) :: (.int 0 0) :: (.ref 1432) :: (.int 1201 0) :: (.int 0 0) :: (.ref 1439) :: (.int 1211 0) :: (.int 0 0) :: (.ref 1446) :: (l_12_70 P)
def l_12_72 (P : Params) : List Value := (.int 0 0) :: (.ref 1323) :: (.int 1107 0) :: (.int 0 0) :: (.ref 1328) :: (.int 1111 0) :: (.int 0 0) :: (.ref 1335) :: (.int 1117 0) :: (.int 0 0) :: (.ref 1340) :: (.int 1122 0) :: (.int 0 0) :: (.ref 1345) :: (.int 1135 0) :: (.int 0 0) :: (.ref 1352) :: (.int 1139 0) :: (.int 0 0) :: (.ref 1372) :: (.int 1141 0) :: (.int 0 0) :: (.ref 1379) :: (.int 1145 0) :: (.int 0 0) :: (l_12_71 P)
def l_12_73 (P : Params) : List Value := (.int 1043 0) :: (.int 0 0) :: (.ref 1281) :: (.int 1047 0) :: (.int 0 0) :: (.ref 1286) :: (.int 1058 0) :: (.int 0 0) :: (.ref 1291) :: (.int 1068 0) :: (.int 0 0) :: (.ref 1298) :: (.int 1075 0) :: (.int 0 0) :: (.ref 1303) :: (.int 1077 0) :: (.int 0 0) :: (.ref 1308) :: (.int 1083 0) :: (.int 0 0) :: (.ref 1313) :: (.int 1094 0) :: (.int 0 0) :: (.ref 1318) :: (.int 1102 0) :: (l_12_72 P)
def l_12_74 (P : Params) : List Value := (.ref 1228) :: (.int 991 0) :: (.int 0 0) :: (.ref 1235) :: (.int 994 0) :: (.int 0 0) :: (.ref 1242) :: (.int 1004 0) :: (.int 0 0) :: (.ref 1247) :: (.int 1013 0) :: (.int 0 0) :: (.ref 1252) :: (.int 1017 0) :: (.int 0 0) :: (.ref 1259) :: (.int 1020 0) :: (.int 0 0) :: (.ref 1264) :: (.int 1028 0) :: (.int 0 0) :: (.ref 1269) :: (.int 1034 0) :: (.int 0 0) :: (.ref 1274) :: (l_12_73 P)
def l_12_75 (P : Params) : List Value := (.int 0 0) :: (.ref 1180) :: (.int 945 0) :: (.int 0 0) :: (.ref 1185) :: (.int 953 0) :: (.int 0 0) :: (.ref 1192) :: (.int 961 0) :: (.int 0 0) :: (.ref 1197) :: (.int 964 0) :: (.int 0 0) :: (.ref 1202) :: (.int 969 0) :: (.int 0 0) :: (.ref 1209) :: (.int 971 0) :: (.int 0 0) :: (.ref 1216) :: (.int 983 0) :: (.int 0 0) :: (.ref 1223) :: (.int 987 0) :: (.int 0 0) :: (l_12_74 P)
def l_12_76 (P : Params) : List Value := (.int 888 0) :: (.int 0 0) :: (.ref 1130) :: (.int 890 0) :: (.int 0 0) :: (.ref 1135) :: (.int 901 0) :: (.int 0 0) :: (.ref 1142) :: (.int 913 0) :: (.int 0 0) :: (.ref 1149) :: (.int 918 0) :: (.int 0 0) :: (.ref 1156) :: (.int 927 0) :: (.int 0 0) :: (.ref 1163) :: (.int 936 0) :: (.int 0 0) :: (.ref 1168) :: (.int 938 0) :: (.int 0 0) :: (.ref 1175) :: (.int 940 0) :: (l_12_75 P)
def l_12_77 (P : Params) : List Value := (.ref 1073) :: (.int 827 0) :: (.int 0 0) :: (.ref 1078) :: (.int 832 0) :: (.int 0 0) :: (.ref 1085) :: (.int 841 0) :: (.int 0 0) :: (.ref 1092) :: (.int 848 0) :: (.int 0 0) :: (.ref 1097) :: (.int 853 0) :: (.int 0 0) :: (.ref 1104) :: (.int 856 0) :: (.int 0 0) :: (.ref 1111) :: (.int 859 0) :: (.int 0 0) :: (.ref 1116) :: (.int 885 0) :: (.int 0 0) :: (.ref 1123) :: (l_12_76 P)
def l_12_78 (P : Params) : List Value := (.int 0 0) :: (.ref 1021) :: (.int 776 0) :: (.int 0 0) :: (.ref 1028) :: (.int 778 0) :: (.int 0 0) :: (.ref 1035) :: (.int 785 0) :: (.int 0 0) :: (.ref 1042) :: (.int 794 0) :: (.int 0 0) :: (.ref 1049) :: (.int 802 0) :: (.int 0 0) :: (.ref 1056) :: (.int 809 0) :: (.int 0 0) :: (.ref 1063) :: (.int 814 0) :: (.int 0 0) :: (.ref 1068) :: (.int 816 0) :: (.int 0 0) :: (l_12_77 P)
def l_12_79 (P : Params) : List Value := (.int 712 0) :: (.int 0 0) :: (.ref 960) :: (.int 715 0) :: (.int 0 0) :: (.ref 967) :: (.int 723 0) :: (.int 0 0) :: (.ref 972) :: (.int 731 0) :: (.int 0 0) :: (.ref 979) :: (.int 735 0) :: (.int 0 0) :: (.ref 987) :: (.int 743 0) :: (.int 0 0) :: (.ref 992) :: (.int 746 0) :: (.int 0 0) :: (.ref 997) :: (.int 755 0) :: (.int 0 0) :: (.ref 1004) :: (.int 765 0) :: (l_12_78 P)
def l_12_80 (P : Params) : List Value := (.ref 907) :: (.int 659 0) :: (.int 0 0) :: (.ref 912) :: (.int 665 0) :: (.int 0 0) :: (.ref 917) :: (.int 676 0) :: (.int 0 0) :: (.ref 922) :: (.int 679 0) :: (.int 0 0) :: (.ref 927) :: (.int 681 0) :: (.int 0 0) :: (.ref 934) :: (.int 695 0) :: (.int 0 0) :: (.ref 939) :: (.int 699 0) :: (.int 0 0) :: (.ref 946) :: (.int 707 0) :: (.int 0 0) :: (.ref 953) :: (l_12_79 P)
def l_12_81 (P : Params) : List Value := (.int 0 0) :: (.ref 809) :: (.int 621 0) :: (.int 0 0) :: (.ref 816) :: (.int 625 0) :: (.int 0 0) :: (.ref 823) :: (.int 627 0) :: (.int 0 0) :: (.ref 830) :: (.int 637 0) :: (.int 0 0) :: (.ref 837) :: (.int 641 0) :: (.int 0 0) :: (.ref 858) :: (.int 646 0) :: (.int 0 0) :: (.ref 879) :: (.int 653 0) :: (.int 0 0) :: (.ref 900) :: (.int 655 0) :: (.int 0 0) :: (l_12_80 P)
def l_12_82 (P : Params) : List Value := (.int 557 0) :: (.int 0 0) :: (.ref 755) :: (.int 567 0) :: (.int 0 0) :: (.ref 762) :: (.int 575 0) :: (.int 0 0) :: (.ref 769) :: (.int 584 0) :: (.int 0 0) :: (.ref 776) :: (.int 592 0) :: (.int 0 0) :: (.ref 783) :: (.int 602 0) :: (.int 0 0) :: (.ref 788) :: (.int 606 0) :: (.int 0 0) :: (.ref 795) :: (.int 611 0) :: (.int 0 0) :: (.ref 802) :: (.int 614 0) :: (l_12_81 P)
def l_12_83 (P : Params) : List Value := (.ref 686) :: (.int 473 0) :: (.int 0 0) :: (.ref 691) :: (.int 495 0) :: (.int 0 0) :: (.ref 698) :: (.int 507 0) :: (.int 0 0) :: (.ref 705) :: (.int 513 0) :: (.int 0 0) :: (.ref 724) :: (.int 524 0) :: (.int 0 0) :: (.ref 731) :: (.int 531 0) :: (.int 0 0) :: (.ref 738) :: (.int 540 0) :: (.int 0 0) :: (.ref 743) :: (.int 552 0) :: (.int 0 0) :: (.ref 748) :: (l_12_82 P)
def l_12_84 (P : Params) : List Value := (.int 0 0) :: (.ref 632) :: (.int 425 0) :: (.int 0 0) :: (.ref 639) :: (.int 432 0) :: (.int 0 0) :: (.ref 646) :: (.int 434 0) :: (.int 0 0) :: (.ref 653) :: (.int 436 0) :: (.int 0 0) :: (.ref 660) :: (.int 440 0) :: (.int 0 0) :: (.ref 667) :: (.int 452 0) :: (.int 0 0) :: (.ref 674) :: (.int 462 0) :: (.int 0 0) :: (.ref 681) :: (.int 470 0) :: (.int 0 0) :: (l_12_83 P)
def l_12_85 (P : Params) : List Value := (.int 350 0) :: (.int 0 0) :: (.ref 576) :: (.int 354 0) :: (.int 0 0) :: (.ref 583) :: (.int 361 0) :: (.int 0 0) :: (.ref 590) :: (.int 366 0) :: (.int 0 0) :: (.ref 597) :: (.int 379 0) :: (.int 0 0) :: (.ref 604) :: (.int 389 0) :: (.int 0 0) :: (.ref 611) :: (.int 395 0) :: (.int 0 0) :: (.ref 618) :: (.int 406 0) :: (.int 0 0) :: (.ref 625) :: (.int 410 0) :: (l_12_84 P)
def l_12_86 (P : Params) : List Value := (.ref 513) :: (.int 288 0) :: (.int 0 0) :: (.ref 520) :: (.int 298 0) :: (.int 0 0) :: (.ref 527) :: (.int 307 0) :: (.int 0 0) :: (.ref 534) :: (.int 312 0) :: (.int 0 0) :: (.ref 541) :: (.int 316 0) :: (.int 0 0) :: (.ref 548) :: (.int 327 0) :: (.int 0 0) :: (.ref 555) :: (.int 339 0) :: (.int 0 0) :: (.ref 562) :: (.int 345 0) :: (.int 0 0) :: (.ref 569) :: (l_12_85 P)
def l_12_87 (P : Params) : List Value := (.int 0 0) :: (.ref 459) :: (.int 239 0) :: (.int 0 0) :: (.ref 466) :: (.int 245 0) :: (.int 0 0) :: (.ref 473) :: (.int 251 0) :: (.int 0 0) :: (.ref 480) :: (.int 256 0) :: (.int 0 0) :: (.ref 487) :: (.int 258 0) :: (.int 0 0) :: (.ref 492) :: (.int 260 0) :: (.int 0 0) :: (.ref 499) :: (.int 265 0) :: (.int 0 0) :: (.ref 506) :: (.int 275 0) :: (.int 0 0) :: (l_12_86 P)
def l_12_88 (P : Params) : List Value := (.int 122 0) :: (.int 0 0) :: (.ref 301) :: (.int 134 0) :: (.int 0 0) :: (.ref 309) :: (.int 152 0) :: (.int 0 0) :: (.ref 316) :: (.int 159 0) :: (.int 0 0) :: (.ref 337) :: (.int 219 0) :: (.int 0 0) :: (.ref 433) :: (.int 221 0) :: (.int 0 0) :: (.ref 438) :: (.int 224 0) :: (.int 0 0) :: (.ref 445) :: (.int 233 0) :: (.int 0 0) :: (.ref 452) :: (.int 235 0) :: (l_12_87 P)
def l_12_89 (P : Params) : List Value := (.ref 212) :: (.int 55 0) :: (.int 0 0) :: (.ref 219) :: (.int 64 0) :: (.int 0 0) :: (.ref 226) :: (.int 69 0) :: (.int 0 0) :: (.ref 233) :: (.int 73 0) :: (.int 0 0) :: (.ref 240) :: (.int 81 0) :: (.int 0 0) :: (.ref 247) :: (.int 87 0) :: (.int 0 0) :: (.ref 254) :: (.int 108 0) :: (.int 0 0) :: (.ref 289) :: (.int 110 0) :: (.int 0 0) :: (.ref 294) :: (l_12_88 P)
def l_12_90 (P : Params) : List Value := (.int 0 0) :: (.ref 137) :: (.int 29 0) :: (.int 0 0) :: (.ref 149) :: (.int 31 0) :: (.int 0 0) :: (.ref 161) :: (.int 33 0) :: (.int 0 0) :: (.ref 173) :: (.int 41 0) :: (.int 0 0) :: (.ref 188) :: (.int 43 0) :: (.int 0 0) :: (.ref 195) :: (.int 45 0) :: (.int 0 0) :: (.ref 202) :: (.int 47 0) :: (.int 0 0) :: (.ref 207) :: (.int 51 0) :: (.int 0 0) :: (l_12_89 P)
def l_12_91 (P : Params) : List Value := (.int 1 0) :: (.int 0 0) :: (.ref 20) :: (.int 5 0) :: (.int 0 0) :: (.ref 27) :: (.int 7 0) :: (.int 0 0) :: (.ref 40) :: (.int 11 0) :: (.int 0 0) :: (.ref 60) :: (.int 16 0) :: (.int 0 0) :: (.ref 81) :: (.int 18 0) :: (.int 0 0) :: (.ref 93) :: (.int 23 0) :: (.int 0 0) :: (.ref 113) :: (.int 25 0) :: (.int 0 0) :: (.ref 125) :: (.int 27 0) :: (l_12_90 P)
def o_12_4 (P : Params) : Obj := ⟨.none, none, .fields (List.toArray (l_12_91 P)), (List.toArray [])⟩
def o_1410 (P : Params) : Obj := ⟨(.type "tuple"), none, .seq (List.toArray [(.str (S "do") 2314), (.str (S "return") 2315), (.str (S "fail") 2316), (.str (S "out") 2317)]) 0, (List.toArray [])⟩
def o_1411 (P : Params) : Obj := ⟨(.type "tuple"), none, .seq (List.toArray []) 0, (List.toArray [])⟩
def o_1412 (P : Params) : Obj := ⟨(.type "tuple"), none, .seq (List.toArray [(.str (S "block") 2319), (.ref 1411)]) 0, (List.toArray [])⟩
def o_1413 (P : Params) : Obj := ⟨(.type "tuple"), none, .seq (List.toArray []) 0, (List.toArray [])⟩
def o_1414 (P : Params) : Obj := ⟨.none, none, .fields (List.toArray []), (List.toArray [])⟩
def o_1415 (P : Params) : Obj := ⟨(.type "tuple"), none, .seq (List.toArray [(.str (S "part") 2324)]) 0, (List.toArray [])⟩
def o_1416 (P : Params) : Obj := ⟨(.type "tuple"), none, .seq (List.toArray []) 0, (List.toArray [])⟩
def o_1417 (P : Params) : Obj := ⟨.none, none, fnO (My.top 219) (S "number_in") (S "number_in") 0 .none .none .none .none none .none .none 0, (List.toArray [])⟩
def o_1418 (P : Params) : Obj := ⟨(.type "code"), none, .fields (List.toArray [(.str (S "number_in") 2321), (.str (S "number_in") 2322), (.str (S "/claim/cut.py") 2323), (.int 1181 0), (.int 1 0), (.int 0 0), (.int 0 0), (.int 3 0), (.ref 1413), (.bool true), (.int 181 0), (.ref 1414), .none, (.ref 1415), (.ref 1416), (.ref 1417), (.int 2325 0), (.int 1181 0), (.str (S "/claim/cut.py") 2326)]), (List.toArray [])⟩
def o_1419 (P : Params) : Obj := ⟨(.type "function"), none, fnO (My.top 219) (S "number_in") (S "number_in") 3 .none .none .none (.str (S "leanscript.turns") 2293) none (.ref 1418) .none 0, (List.toArray [])⟩
def o_1420 (P : Params) : Obj := ⟨(.type "tuple"), none, .seq (List.toArray []) 0, (List.toArray [])⟩
def o_1421 (P : Params) : Obj := ⟨.none, none, .fields (List.toArray []), (List.toArray [])⟩
def o_1422 (P : Params) : Obj := ⟨(.type "tuple"), none, .seq (List.toArray [(.str (S "part") 2331), (.str (S "left") 2332), (.str (S "right") 2333), (.str (S "told") 2334)]) 0, (List.toArray [])⟩
def o_1423 (P : Params) : Obj := ⟨(.type "tuple"), none, .seq (List.toArray []) 0, (List.toArray [])⟩
def o_1424 (P : Params) : Obj := ⟨.none, none, fnO (My.top 220) (S "reckoned_two") (S "reckoned_two") 0 .none .none .none .none none .none .none 0, (List.toArray [])⟩
def o_1425 (P : Params) : Obj := ⟨(.type "code"), none, .fields (List.toArray [(.str (S "reckoned_two") 2328), (.str (S "reckoned_two") 2329), (.str (S "/claim/cut.py") 2330), (.int 1187 0), (.int 1 0), (.int 0 0), (.int 0 0), (.int 3 0), (.ref 1420), (.bool true), (.int 181 0), (.ref 1421), .none, (.ref 1422), (.ref 1423), (.ref 1424), (.int 2335 0), (.int 1187 0), (.str (S "/claim/cut.py") 2336)]), (List.toArray [])⟩
def o_1426 (P : Params) : Obj := ⟨(.type "function"), none, fnO (My.top 220) (S "reckoned_two") (S "reckoned_two") 3 .none .none .none (.str (S "leanscript.turns") 2293) none (.ref 1425) .none 0, (List.toArray [])⟩
def o_1427 (P : Params) : Obj := ⟨(.type "tuple"), none, .seq (List.toArray []) 0, (List.toArray [])⟩
def o_1428 (P : Params) : Obj := ⟨.none, none, .fields (List.toArray []), (List.toArray [])⟩
def o_1429 (P : Params) : Obj := ⟨(.type "tuple"), none, .seq (List.toArray [(.str (S "survey") 2341), (.str (S "path") 2342), (.str (S "part") 2343), (.str (S "told") 2344)]) 0, (List.toArray [])⟩
def o_1430 (P : Params) : Obj := ⟨(.type "tuple"), none, .seq (List.toArray []) 0, (List.toArray [])⟩
def o_1431 (P : Params) : Obj := ⟨.none, none, fnO (My.top 221) (S "turns_of_two") (S "turns_of_two") 0 .none .none .none .none none .none .none 0, (List.toArray [])⟩
def o_1432 (P : Params) : Obj := ⟨(.type "code"), none, .fields (List.toArray [(.str (S "turns_of_two") 2338), (.str (S "turns_of_two") 2339), (.str (S "/claim/cut.py") 2340), (.int 1196 0), (.int 3 0), (.int 0 0), (.int 0 0), (.int 3 0), (.ref 1427), (.bool true), (.int 181 0), (.ref 1428), .none, (.ref 1429), (.ref 1430), (.ref 1431), (.int 2345 0), (.int 1196 0), (.str (S "/claim/cut.py") 2346)]), (List.toArray [])⟩
def o_1433 (P : Params) : Obj := ⟨(.type "function"), none, fnO (My.top 221) (S "turns_of_two") (S "turns_of_two") 3 .none .none .none (.str (S "leanscript.turns") 2293) none (.ref 1432) .none 0, (List.toArray [])⟩
def o_1434 (P : Params) : Obj := ⟨(.type "tuple"), none, .seq (List.toArray []) 0, (List.toArray [])⟩
def o_1435 (P : Params) : Obj := ⟨.none, none, .fields (List.toArray []), (List.toArray [])⟩
def o_1436 (P : Params) : Obj := ⟨(.type "tuple"), none, .seq (List.toArray [(.str (S "survey") 2351), (.str (S "path") 2352), (.str (S "part") 2353), (.str (S "inner") 2354), (.str (S "told") 2355)]) 0, (List.toArray [])⟩
def o_1437 (P : Params) : Obj := ⟨(.type "tuple"), none, .seq (List.toArray []) 0, (List.toArray [])⟩
def o_1438 (P : Params) : Obj := ⟨.none, none, fnO (My.top 222) (S "turns_of_not") (S "turns_of_not") 0 .none .none .none .none none .none .none 0, (List.toArray [])⟩
def o_1439 (P : Params) : Obj := ⟨(.type "code"), none, .fields (List.toArray [(.str (S "turns_of_not") 2348), (.str (S "turns_of_not") 2349), (.str (S "/claim/cut.py") 2350), (.int 1201 0), (.int 3 0), (.int 0 0), (.int 0 0), (.int 3 0), (.ref 1434), (.bool true), (.int 181 0), (.ref 1435), .none, (.ref 1436), (.ref 1437), (.ref 1438), (.int 2356 0), (.int 1201 0), (.str (S "/claim/cut.py") 2357)]), (List.toArray [])⟩
def o_1440 (P : Params) : Obj := ⟨(.type "function"), none, fnO (My.top 222) (S "turns_of_not") (S "turns_of_not") 3 .none .none .none (.str (S "leanscript.turns") 2293) none (.ref 1439) .none 0, (List.toArray [])⟩
def o_1441 (P : Params) : Obj := ⟨(.type "tuple"), none, .seq (List.toArray []) 0, (List.toArray [])⟩
def o_1442 (P : Params) : Obj := ⟨.none, none, .fields (List.toArray []), (List.toArray [])⟩
def o_1443 (P : Params) : Obj := ⟨(.type "tuple"), none, .seq (List.toArray [(.str (S "survey") 2362), (.str (S "path") 2363), (.str (S "part") 2364), (.str (S "stays") 2365)]) 0, (List.toArray [])⟩
def o_1444 (P : Params) : Obj := ⟨(.type "tuple"), none, .seq (List.toArray []) 0, (List.toArray [])⟩
def o_1445 (P : Params) : Obj := ⟨.none, none, fnO (My.top 223) (S "turns_of_and_or") (S "turns_of_and_or") 0 .none .none .none .none none .none .none 0, (List.toArray [])⟩
def o_1446 (P : Params) : Obj := ⟨(.type "code"), none, .fields (List.toArray [(.str (S "turns_of_and_or") 2359), (.str (S "turns_of_and_or") 2360), (.str (S "/claim/cut.py") 2361), (.int 1211 0), (.int 3 0), (.int 0 0), (.int 0 0), (.int 3 0), (.ref 1441), (.bool true), (.int 181 0), (.ref 1442), .none, (.ref 1443), (.ref 1444), (.ref 1445), (.int 2366 0), (.int 1211 0), (.str (S "/claim/cut.py") 2367)]), (List.toArray [])⟩
def o_1447 (P : Params) : Obj := ⟨(.type "function"), none, fnO (My.top 223) (S "turns_of_and_or") (S "turns_of_and_or") 3 .none .none .none (.str (S "leanscript.turns") 2293) none (.ref 1446) .none 0, (List.toArray [])⟩
def o_1448 (P : Params) : Obj := ⟨(.type "tuple"), none, .seq (List.toArray []) 0, (List.toArray [])⟩
def o_1449 (P : Params) : Obj := ⟨.none, none, .fields (List.toArray []), (List.toArray [])⟩
def o_1450 (P : Params) : Obj := ⟨(.type "tuple"), none, .seq (List.toArray [(.str (S "survey") 2372), (.str (S "path") 2373), (.str (S "part") 2374), (.str (S "told") 2375)]) 0, (List.toArray [])⟩
def o_1451 (P : Params) : Obj := ⟨(.type "tuple"), none, .seq (List.toArray []) 0, (List.toArray [])⟩
def o_1452 (P : Params) : Obj := ⟨.none, none, fnO (My.top 224) (S "turns_of_pick") (S "turns_of_pick") 0 .none .none .none .none none .none .none 0, (List.toArray [])⟩
def o_1453 (P : Params) : Obj := ⟨(.type "code"), none, .fields (List.toArray [(.str (S "turns_of_pick") 2369), (.str (S "turns_of_pick") 2370), (.str (S "/claim/cut.py") 2371), (.int 1216 0), (.int 3 0), (.int 0 0), (.int 0 0), (.int 3 0), (.ref 1448), (.bool true), (.int 181 0), (.ref 1449), .none, (.ref 1450), (.ref 1451), (.ref 1452), (.int 2376 0), (.int 1216 0), (.str (S "/claim/cut.py") 2377)]), (List.toArray [])⟩
def o_1454 (P : Params) : Obj := ⟨(.type "function"), none, fnO (My.top 224) (S "turns_of_pick") (S "turns_of_pick") 3 .none .none .none (.str (S "leanscript.turns") 2293) none (.ref 1453) .none 0, (List.toArray [])⟩
def o_1455 (P : Params) : Obj := ⟨(.type "tuple"), none, .seq (List.toArray []) 0, (List.toArray [])⟩
def o_1456 (P : Params) : Obj := ⟨.none, none, .fields (List.toArray []), (List.toArray [])⟩
def o_1457 (P : Params) : Obj := ⟨(.type "tuple"), none, .seq (List.toArray [(.str (S "survey") 2382), (.str (S "path") 2383), (.str (S "part") 2384), (.str (S "body") 2385)]) 0, (List.toArray [])⟩
def o_1458 (P : Params) : Obj := ⟨(.type "tuple"), none, .seq (List.toArray []) 0, (List.toArray [])⟩
def o_1459 (P : Params) : Obj := ⟨.none, none, fnO (My.top 225) (S "turns_of_fn") (S "turns_of_fn") 0 .none .none .none .none none .none .none 0, (List.toArray [])⟩
def o_1460 (P : Params) : Obj := ⟨(.type "code"), none, .fields (List.toArray [(.str (S "turns_of_fn") 2379), (.str (S "turns_of_fn") 2380), (.str (S "/claim/cut.py") 2381), (.int 1223 0), (.int 3 0), (.int 0 0), (.int 0 0), (.int 3 0), (.ref 1455), (.bool true), (.int 181 0), (.ref 1456), .none, (.ref 1457), (.ref 1458), (.ref 1459), (.int 2386 0), (.int 1223 0), (.str (S "/claim/cut.py") 2387)]), (List.toArray [])⟩
def o_1461 (P : Params) : Obj := ⟨(.type "function"), none, fnO (My.top 225) (S "turns_of_fn") (S "turns_of_fn") 3 .none .none .none (.str (S "leanscript.turns") 2293) none (.ref 1460) .none 0, (List.toArray [])⟩
def o_1462 (P : Params) : Obj := ⟨(.type "tuple"), none, .seq (List.toArray []) 0, (List.toArray [])⟩
def o_1463 (P : Params) : Obj := ⟨.none, none, .fields (List.toArray []), (List.toArray [])⟩
def o_1464 (P : Params) : Obj := ⟨(.type "tuple"), none, .seq (List.toArray [(.str (S "path") 2392), (.str (S "part") 2393), (.str (S "at") 2394)]) 0, (List.toArray [])⟩
def o_1465 (P : Params) : Obj := ⟨(.type "tuple"), none, .seq (List.toArray []) 0, (List.toArray [])⟩
def o_1466 (P : Params) : Obj := ⟨.none, none, fnO (My.top 226) (S "chosen_of_if") (S "chosen_of_if") 0 .none .none .none .none none .none .none 0, (List.toArray [])⟩
def o_1467 (P : Params) : Obj := ⟨(.type "code"), none, .fields (List.toArray [(.str (S "chosen_of_if") 2389), (.str (S "chosen_of_if") 2390), (.str (S "/claim/cut.py") 2391), (.int 1228 0), (.int 2 0), (.int 0 0), (.int 0 0), (.int 3 0), (.ref 1462), (.bool true), (.int 181 0), (.ref 1463), .none, (.ref 1464), (.ref 1465), (.ref 1466), (.int 2395 0), (.int 1228 0), (.str (S "/claim/cut.py") 2396)]), (List.toArray [])⟩
def o_1468 (P : Params) : Obj := ⟨(.type "function"), none, fnO (My.top 226) (S "chosen_of_if") (S "chosen_of_if") 3 .none .none .none (.str (S "leanscript.turns") 2293) none (.ref 1467) .none 0, (List.toArray [])⟩
def o_1469 (P : Params) : Obj := ⟨(.type "tuple"), none, .seq (List.toArray []) 0, (List.toArray [])⟩
def o_1470 (P : Params) : Obj := ⟨.none, none, .fields (List.toArray []), (List.toArray [])⟩
def o_1471 (P : Params) : Obj := ⟨(.type "tuple"), none, .seq (List.toArray [(.str (S "path") 2401), (.str (S "part") 2402), (.str (S "_") 2403), (.str (S "one") 2404), (.str (S "other") 2405), (.str (S "test") 2406)]) 0, (List.toArray [])⟩
def o_1472 (P : Params) : Obj := ⟨(.type "tuple"), none, .seq (List.toArray []) 0, (List.toArray [])⟩
def o_1473 (P : Params) : Obj := ⟨.none, none, fnO (My.top 227) (S "joined_if") (S "joined_if") 0 .none .none .none .none none .none .none 0, (List.toArray [])⟩
def o_1474 (P : Params) : Obj := ⟨(.type "code"), none, .fields (List.toArray [(.str (S "joined_if") 2398), (.str (S "joined_if") 2399), (.str (S "/claim/cut.py") 2400), (.int 1235 0), (.int 2 0), (.int 0 0), (.int 0 0), (.int 3 0), (.ref 1469), (.bool true), (.int 181 0), (.ref 1470), .none, (.ref 1471), (.ref 1472), (.ref 1473), (.int 2407 0), (.int 1235 0), (.str (S "/claim/cut.py") 2408)]), (List.toArray [])⟩
def o_1475 (P : Params) : Obj := ⟨(.type "function"), none, fnO (My.top 227) (S "joined_if") (S "joined_if") 3 .none .none .none (.str (S "leanscript.turns") 2293) none (.ref 1474) .none 0, (List.toArray [])⟩
def o_1476 (P : Params) : Obj := ⟨(.type "tuple"), none, .seq (List.toArray []) 0, (List.toArray [])⟩
def o_1477 (P : Params) : Obj := ⟨.none, none, .fields (List.toArray []), (List.toArray [])⟩
def o_1478 (P : Params) : Obj := ⟨(.type "tuple"), none, .seq (List.toArray [(.str (S "path") 2413), (.str (S "part") 2414), (.str (S "told") 2415), (.str (S "one") 2416)]) 0, (List.toArray [])⟩
def o_1479 (P : Params) : Obj := ⟨(.type "tuple"), none, .seq (List.toArray []) 0, (List.toArray [])⟩
def o_1480 (P : Params) : Obj := ⟨.none, none, fnO (My.top 228) (S "turns_with_else") (S "turns_with_else") 0 .none .none .none .none none .none .none 0, (List.toArray [])⟩
def o_1481 (P : Params) : Obj := ⟨(.type "code"), none, .fields (List.toArray [(.str (S "turns_with_else") 2410), (.str (S "turns_with_else") 2411), (.str (S "/claim/cut.py") 2412), (.int 1243 0), (.int 2 0), (.int 0 0), (.int 0 0), (.int 3 0), (.ref 1476), (.bool true), (.int 181 0), (.ref 1477), .none, (.ref 1478), (.ref 1479), (.ref 1480), (.int 2417 0), (.int 1243 0), (.str (S "/claim/cut.py") 2418)]), (List.toArray [])⟩
def o_1482 (P : Params) : Obj := ⟨(.type "function"), none, fnO (My.top 228) (S "turns_with_else") (S "turns_with_else") 3 .none .none .none (.str (S "leanscript.turns") 2293) none (.ref 1481) .none 0, (List.toArray [])⟩
def o_1483 (P : Params) : Obj := ⟨(.type "tuple"), none, .seq (List.toArray []) 0, (List.toArray [])⟩
def o_1484 (P : Params) : Obj := ⟨.none, none, .fields (List.toArray []), (List.toArray [])⟩
def o_1485 (P : Params) : Obj := ⟨(.type "tuple"), none, .seq (List.toArray [(.str (S "survey") 2423), (.str (S "path") 2424), (.str (S "statements") 2425)]) 0, (List.toArray [])⟩
def o_1486 (P : Params) : Obj := ⟨(.type "tuple"), none, .seq (List.toArray []) 0, (List.toArray [])⟩
def o_1487 (P : Params) : Obj := ⟨.none, none, fnO (My.top 229) (S "statement_behind") (S "statement_behind") 0 .none .none .none .none none .none .none 0, (List.toArray [])⟩
def o_1488 (P : Params) : Obj := ⟨(.type "code"), none, .fields (List.toArray [(.str (S "statement_behind") 2420), (.str (S "statement_behind") 2421), (.str (S "/claim/cut.py") 2422), (.int 1253 0), (.int 2 0), (.int 0 0), (.int 0 0), (.int 3 0), (.ref 1483), (.bool true), (.int 181 0), (.ref 1484), .none, (.ref 1485), (.ref 1486), (.ref 1487), (.int 2426 0), (.int 1253 0), (.str (S "/claim/cut.py") 2427)]), (List.toArray [])⟩
def o_1489 (P : Params) : Obj := ⟨(.type "function"), none, fnO (My.top 229) (S "statement_behind") (S "statement_behind") 3 .none .none .none (.str (S "leanscript.turns") 2293) none (.ref 1488) .none 0, (List.toArray [])⟩
def o_1490 (P : Params) : Obj := ⟨(.type "tuple"), none, .seq (List.toArray []) 0, (List.toArray [])⟩
def o_1491 (P : Params) : Obj := ⟨.none, none, .fields (List.toArray []), (List.toArray [])⟩
def o_1492 (P : Params) : Obj := ⟨(.type "tuple"), none, .seq (List.toArray [(.str (S "path") 2432)]) 0, (List.toArray [])⟩
def o_1493 (P : Params) : Obj := ⟨(.type "tuple"), none, .seq (List.toArray []) 0, (List.toArray [])⟩
def o_1494 (P : Params) : Obj := ⟨.none, none, fnO (My.top 230) (S "path_behind") (S "path_behind") 0 .none .none .none .none none .none .none 0, (List.toArray [])⟩
def o_1495 (P : Params) : Obj := ⟨(.type "code"), none, .fields (List.toArray [(.str (S "path_behind") 2429), (.str (S "path_behind") 2430), (.str (S "/claim/cut.py") 2431), (.int 1256 0), (.int 1 0), (.int 0 0), (.int 0 0), (.int 3 0), (.ref 1490), (.bool true), (.int 181 0), (.ref 1491), .none, (.ref 1492), (.ref 1493), (.ref 1494), (.int 2433 0), (.int 1256 0), (.str (S "/claim/cut.py") 2434)]), (List.toArray [])⟩
def o_1496 (P : Params) : Obj := ⟨(.type "function"), none, fnO (My.top 230) (S "path_behind") (S "path_behind") 3 .none .none .none (.str (S "leanscript.turns") 2293) none (.ref 1495) .none 0, (List.toArray [])⟩
def o_1497 (P : Params) : Obj := ⟨(.type "tuple"), none, .seq (List.toArray []) 0, (List.toArray [])⟩
def o_1498 (P : Params) : Obj := ⟨.none, none, .fields (List.toArray []), (List.toArray [])⟩
def o_1499 (P : Params) : Obj := ⟨(.type "tuple"), none, .seq (List.toArray [(.str (S "path") 2439), (.str (S "thing") 2440), (.str (S "behind") 2441)]) 0, (List.toArray [])⟩
def o_1500 (P : Params) : Obj := ⟨(.type "tuple"), none, .seq (List.toArray []) 0, (List.toArray [])⟩
def o_1501 (P : Params) : Obj := ⟨.none, none, fnO (My.top 231) (S "both_instead") (S "both_instead") 0 .none .none .none .none none .none .none 0, (List.toArray [])⟩
def o_1502 (P : Params) : Obj := ⟨(.type "code"), none, .fields (List.toArray [(.str (S "both_instead") 2436), (.str (S "both_instead") 2437), (.str (S "/claim/cut.py") 2438), (.int 1258 0), (.int 2 0), (.int 0 0), (.int 0 0), (.int 3 0), (.ref 1497), (.bool true), (.int 181 0), (.ref 1498), .none, (.ref 1499), (.ref 1500), (.ref 1501), (.int 2442 0), (.int 1258 0), (.str (S "/claim/cut.py") 2443)]), (List.toArray [])⟩
def o_1503 (P : Params) : Obj := ⟨(.type "function"), none, fnO (My.top 231) (S "both_instead") (S "both_instead") 3 .none .none .none (.str (S "leanscript.turns") 2293) none (.ref 1502) .none 0, (List.toArray [])⟩
def o_1504 (P : Params) : Obj := ⟨(.type "tuple"), none, .seq (List.toArray []) 0, (List.toArray [])⟩
def o_1505 (P : Params) : Obj := ⟨.none, none, .fields (List.toArray []), (List.toArray [])⟩
def o_1506 (P : Params) : Obj := ⟨(.type "tuple"), none, .seq (List.toArray [(.str (S "survey") 2448), (.str (S "path") 2449), (.str (S "part") 2450), (.str (S "told") 2451), (.str (S "done") 2452), (.str (S "only") 2453), (.str (S "behind") 2454), (.str (S "other") 2455)]) 0, (List.toArray [])⟩
def o_1507 (P : Params) : Obj := ⟨(.type "tuple"), none, .seq (List.toArray []) 0, (List.toArray [])⟩
def o_1508 (P : Params) : Obj := ⟨.none, none, fnO (My.top 232) (S "turns_without_else") (S "turns_without_else") 0 .none .none .none .none none .none .none 0, (List.toArray [])⟩
def o_1509 (P : Params) : Obj := ⟨(.type "code"), none, .fields (List.toArray [(.str (S "turns_without_else") 2445), (.str (S "turns_without_else") 2446), (.str (S "/claim/cut.py") 2447), (.int 1261 0), (.int 3 0), (.int 0 0), (.int 0 0), (.int 3 0), (.ref 1504), (.bool true), (.int 181 0), (.ref 1505), .none, (.ref 1506), (.ref 1507), (.ref 1508), (.int 2456 0), (.int 1261 0), (.str (S "/claim/cut.py") 2457)]), (List.toArray [])⟩
def o_1510 (P : Params) : Obj := ⟨(.type "function"), none, fnO (My.top 232) (S "turns_without_else") (S "turns_without_else") 3 .none .none .none (.str (S "leanscript.turns") 2293) none (.ref 1509) .none 0, (List.toArray [])⟩
def o_1511 (P : Params) : Obj := ⟨(.type "tuple"), none, .seq (List.toArray []) 0, (List.toArray [])⟩
def o_1512 (P : Params) : Obj := ⟨.none, none, .fields (List.toArray []), (List.toArray [])⟩
def o_1513 (P : Params) : Obj := ⟨(.type "tuple"), none, .seq (List.toArray [(.str (S "survey") 2462), (.str (S "path") 2463), (.str (S "part") 2464), (.str (S "told") 2465)]) 0, (List.toArray [])⟩
def o_1514 (P : Params) : Obj := ⟨(.type "tuple"), none, .seq (List.toArray []) 0, (List.toArray [])⟩
def o_1515 (P : Params) : Obj := ⟨.none, none, fnO (My.top 233) (S "turns_of_if") (S "turns_of_if") 0 .none .none .none .none none .none .none 0, (List.toArray [])⟩
def o_1516 (P : Params) : Obj := ⟨(.type "code"), none, .fields (List.toArray [(.str (S "turns_of_if") 2459), (.str (S "turns_of_if") 2460), (.str (S "/claim/cut.py") 2461), (.int 1274 0), (.int 3 0), (.int 0 0), (.int 0 0), (.int 3 0), (.ref 1511), (.bool true), (.int 181 0), (.ref 1512), .none, (.ref 1513), (.ref 1514), (.ref 1515), (.int 2466 0), (.int 1274 0), (.str (S "/claim/cut.py") 2467)]), (List.toArray [])⟩
def o_1517 (P : Params) : Obj := ⟨(.type "function"), none, fnO (My.top 233) (S "turns_of_if") (S "turns_of_if") 3 .none .none .none (.str (S "leanscript.turns") 2293) none (.ref 1516) .none 0, (List.toArray [])⟩
def o_1518 (P : Params) : Obj := ⟨(.type "tuple"), none, .seq (List.toArray []) 0, (List.toArray [])⟩
def o_1519 (P : Params) : Obj := ⟨.none, none, .fields (List.toArray []), (List.toArray [])⟩
def o_1520 (P : Params) : Obj := ⟨.none, none, fnO (My.top 234) (S "turns_of_let") (S "turns_of_let") 0 .none .none .none .none none .none .none 0, (List.toArray [])⟩
def o_1521 (P : Params) : Obj := ⟨(.type "code"), none, .fields (List.toArray [(.str (S "turns_of_let") 2469), (.str (S "turns_of_let") 2470), (.str (S "/claim/cut.py") 2471), (.int 1279 0), (.int 3 0), (.int 0 0), (.int 0 0), (.int 3 0), (.ref 1518), (.bool true), (.int 181 0), (.ref 1519), .none, .none, .none, (.ref 1520), (.int 2472 0), (.int 1279 0), (.str (S "/claim/cut.py") 2473)]), (List.toArray [])⟩
def o_1522 (P : Params) : Obj := ⟨(.type "function"), none, fnO (My.top 234) (S "turns_of_let") (S "turns_of_let") 3 .none .none .none (.str (S "leanscript.turns") 2293) none (.ref 1521) .none 0, (List.toArray [])⟩
def o_1523 (P : Params) : Obj := ⟨(.type "tuple"), none, .seq (List.toArray []) 0, (List.toArray [])⟩
def o_1524 (P : Params) : Obj := ⟨.none, none, .fields (List.toArray []), (List.toArray [])⟩
def o_1525 (P : Params) : Obj := ⟨.none, none, fnO (My.top 235) (S "turns_of_block") (S "turns_of_block") 0 .none .none .none .none none .none .none 0, (List.toArray [])⟩
def o_1526 (P : Params) : Obj := ⟨(.type "code"), none, .fields (List.toArray [(.str (S "turns_of_block") 2475), (.str (S "turns_of_block") 2476), (.str (S "/claim/cut.py") 2477), (.int 1287 0), (.int 3 0), (.int 0 0), (.int 0 0), (.int 3 0), (.ref 1523), (.bool true), (.int 181 0), (.ref 1524), .none, .none, .none, (.ref 1525), (.int 2478 0), (.int 1287 0), (.str (S "/claim/cut.py") 2479)]), (List.toArray [])⟩
def o_1527 (P : Params) : Obj := ⟨(.type "function"), none, fnO (My.top 235) (S "turns_of_block") (S "turns_of_block") 3 .none .none .none (.str (S "leanscript.turns") 2293) none (.ref 1526) .none 0, (List.toArray [])⟩
def o_1528 (P : Params) : Obj := ⟨(.type "tuple"), none, .seq (List.toArray []) 0, (List.toArray [])⟩
def o_1529 (P : Params) : Obj := ⟨.none, none, .fields (List.toArray []), (List.toArray [])⟩
def o_1530 (P : Params) : Obj := ⟨(.type "tuple"), none, .seq (List.toArray [(.str (S "survey") 2484), (.str (S "path") 2485), (.str (S "part") 2486), (.str (S "around") 2487), (.str (S "is_last") 2488)]) 0, (List.toArray [])⟩
def o_1531 (P : Params) : Obj := ⟨(.type "tuple"), none, .seq (List.toArray []) 0, (List.toArray [])⟩
def o_1532 (P : Params) : Obj := ⟨.none, none, fnO (My.top 236) (S "turns_of_return") (S "turns_of_return") 0 .none .none .none .none none .none .none 0, (List.toArray [])⟩
def o_1533 (P : Params) : Obj := ⟨(.type "code"), none, .fields (List.toArray [(.str (S "turns_of_return") 2481), (.str (S "turns_of_return") 2482), (.str (S "/claim/cut.py") 2483), (.int 1294 0), (.int 3 0), (.int 0 0), (.int 0 0), (.int 3 0), (.ref 1528), (.bool true), (.int 181 0), (.ref 1529), .none, (.ref 1530), (.ref 1531), (.ref 1532), (.int 2489 0), (.int 1294 0), (.str (S "/claim/cut.py") 2490)]), (List.toArray [])⟩
def o_1534 (P : Params) : Obj := ⟨(.type "function"), none, fnO (My.top 236) (S "turns_of_return") (S "turns_of_return") 3 .none .none .none (.str (S "leanscript.turns") 2293) none (.ref 1533) .none 0, (List.toArray [])⟩
def o_1535 (P : Params) : Obj := ⟨(.type "tuple"), none, .seq (List.toArray []) 0, (List.toArray [])⟩
def o_1536 (P : Params) : Obj := ⟨.none, none, .fields (List.toArray []), (List.toArray [])⟩
def o_1537 (P : Params) : Obj := ⟨.none, none, fnO (My.top 237) (S "turns_of_pair") (S "turns_of_pair") 0 .none .none .none .none none .none .none 0, (List.toArray [])⟩
def o_1538 (P : Params) : Obj := ⟨(.type "code"), none, .fields (List.toArray [(.str (S "turns_of_pair") 2492), (.str (S "turns_of_pair") 2493), (.str (S "/claim/cut.py") 2494), (.int 1300 0), (.int 2 0), (.int 0 0), (.int 0 0), (.int 3 0), (.ref 1535), (.bool true), (.int 181 0), (.ref 1536), .none, .none, .none, (.ref 1537), (.int 2495 0), (.int 1300 0), (.str (S "/claim/cut.py") 2496)]), (List.toArray [])⟩
def o_1539 (P : Params) : Obj := ⟨(.type "function"), none, fnO (My.top 237) (S "turns_of_pair") (S "turns_of_pair") 3 .none .none .none (.str (S "leanscript.turns") 2293) none (.ref 1538) .none 0, (List.toArray [])⟩
def o_1540 (P : Params) : Obj := ⟨(.type "dict"), none, .dict (List.toArray [⟨(PyData.keyHash P (S "two")), (.str (S "two") 2498), (.ref 1433)⟩, ⟨(PyData.keyHash P (S "not")), (.str (S "not") 2499), (.ref 1440)⟩, ⟨(PyData.keyHash P (S "and")), (.str (S "and") 2500), (.ref 1447)⟩, ⟨(PyData.keyHash P (S "or")), (.str (S "or") 2501), (.ref 1447)⟩, ⟨(PyData.keyHash P (S "pick")), (.str (S "pick") 2502), (.ref 1454)⟩, ⟨(PyData.keyHash P (S "fn")), (.str (S "fn") 2503), (.ref 1461)⟩, ⟨(PyData.keyHash P (S "if")), (.str (S "if") 2504), (.ref 1517)⟩, ⟨(PyData.keyHash P (S "let")), (.str (S "let") 2505), (.ref 1522)⟩, ⟨(PyData.keyHash P (S "block")), (.str (S "block") 2506), (.ref 1527)⟩, ⟨(PyData.keyHash P (S "return")), (.str (S "return") 2507), (.ref 1534)⟩]) 10, (List.toArray [])⟩
def o_1541 (P : Params) : Obj := ⟨(.type "tuple"), none, .seq (List.toArray []) 0, (List.toArray [])⟩
def o_1542 (P : Params) : Obj := ⟨.none, none, .fields (List.toArray []), (List.toArray [])⟩
def o_1543 (P : Params) : Obj := ⟨(.type "tuple"), none, .seq (List.toArray [(.str (S "survey") 2522), (.str (S "path") 2523), (.str (S "part") 2524), (.str (S "action") 2525)]) 0, (List.toArray [])⟩
def o_1544 (P : Params) : Obj := ⟨(.type "tuple"), none, .seq (List.toArray []) 0, (List.toArray [])⟩
def o_1545 (P : Params) : Obj := ⟨.none, none, fnO (My.top 239) (S "turns_at") (S "turns_at") 0 .none .none .none .none none .none .none 0, (List.toArray [])⟩
def o_1546 (P : Params) : Obj := ⟨(.type "code"), none, .fields (List.toArray [(.str (S "turns_at") 2519), (.str (S "turns_at") 2520), (.str (S "/claim/cut.py") 2521), (.int 1311 0), (.int 2 0), (.int 0 0), (.int 0 0), (.int 3 0), (.ref 1541), (.bool true), (.int 181 0), (.ref 1542), .none, (.ref 1543), (.ref 1544), (.ref 1545), (.int 2526 0), (.int 1311 0), (.str (S "/claim/cut.py") 2527)]), (List.toArray [])⟩
def o_1547 (P : Params) : Obj := ⟨(.type "function"), none, fnO (My.top 239) (S "turns_at") (S "turns_at") 3 .none .none .none (.str (S "leanscript.turns") 2293) none (.ref 1546) .none 0, (List.toArray [])⟩
def o_1548 (P : Params) : Obj := ⟨(.type "tuple"), none, .seq (List.toArray []) 0, (List.toArray [])⟩
def o_1549 (P : Params) : Obj := ⟨.none, none, .fields (List.toArray []), (List.toArray [])⟩
def o_1550 (P : Params) : Obj := ⟨.none, none, fnO (My.top 241) (S "all_turns") (S "all_turns") 0 .none .none .none .none none .none .none 0, (List.toArray [])⟩
def o_1551 (P : Params) : Obj := ⟨(.type "code"), none, .fields (List.toArray [(.str (S "all_turns") 2531), (.str (S "all_turns") 2532), (.str (S "/claim/cut.py") 2533), (.int 1320 0), (.int 1 0), (.int 0 0), (.int 0 0), (.int 3 0), (.ref 1548), (.bool true), (.int 181 0), (.ref 1549), .none, .none, .none, (.ref 1550), (.int 2534 0), (.int 1320 0), (.str (S "/claim/cut.py") 2535)]), (List.toArray [])⟩
def o_1552 (P : Params) : Obj := ⟨(.type "function"), none, fnO (My.top 241) (S "all_turns") (S "all_turns") 3 .none .none .none (.str (S "leanscript.turnings") 2529) none (.ref 1551) .none 0, (List.toArray [])⟩
def o_1553 (P : Params) : Obj := ⟨(.type "tuple"), none, .seq (List.toArray []) 0, (List.toArray [])⟩
def o_1554 (P : Params) : Obj := ⟨.none, none, .fields (List.toArray []), (List.toArray [])⟩
def o_1555 (P : Params) : Obj := ⟨.none, none, fnO (My.top 244) (S "rows_of_steps") (S "rows_of_steps") 0 .none .none .none .none none .none .none 0, (List.toArray [])⟩
def o_1556 (P : Params) : Obj := ⟨(.type "code"), none, .fields (List.toArray [(.str (S "rows_of_steps") 2541), (.str (S "rows_of_steps") 2542), (.str (S "/claim/cut.py") 2543), (.int 1328 0), (.int 1 0), (.int 0 0), (.int 0 0), (.int 3 0), (.ref 1553), (.bool true), (.int 181 0), (.ref 1554), .none, .none, .none, (.ref 1555), (.int 2544 0), (.int 1328 0), (.str (S "/claim/cut.py") 2545)]), (List.toArray [])⟩
def o_1557 (P : Params) : Obj := ⟨(.type "function"), none, fnO (My.top 244) (S "rows_of_steps") (S "rows_of_steps") 3 .none .none .none (.str (S "leanscript.search") 2537) none (.ref 1556) .none 0, (List.toArray [])⟩
def o_1558 (P : Params) : Obj := ⟨(.type "tuple"), none, .seq (List.toArray []) 0, (List.toArray [])⟩
def o_1559 (P : Params) : Obj := ⟨.none, none, .fields (List.toArray []), (List.toArray [])⟩
def o_1560 (P : Params) : Obj := ⟨(.type "tuple"), none, .seq (List.toArray [(.str (S "survey") 2550), (.str (S "word") 2551), (.str (S "changes") 2552), (.str (S "outcome") 2553)]) 0, (List.toArray [])⟩
def o_1561 (P : Params) : Obj := ⟨(.type "tuple"), none, .seq (List.toArray []) 0, (List.toArray [])⟩
def o_1562 (P : Params) : Obj := ⟨.none, none, fnO (My.top 245) (S "may_be_made") (S "may_be_made") 0 .none .none .none .none none .none .none 0, (List.toArray [])⟩
def o_1563 (P : Params) : Obj := ⟨(.type "code"), none, .fields (List.toArray [(.str (S "may_be_made") 2547), (.str (S "may_be_made") 2548), (.str (S "/claim/cut.py") 2549), (.int 1333 0), (.int 4 0), (.int 0 0), (.int 0 0), (.int 3 0), (.ref 1558), (.bool true), (.int 181 0), (.ref 1559), .none, (.ref 1560), (.ref 1561), (.ref 1562), (.int 2554 0), (.int 1333 0), (.str (S "/claim/cut.py") 2555)]), (List.toArray [])⟩
def o_1564 (P : Params) : Obj := ⟨(.type "function"), none, fnO (My.top 245) (S "may_be_made") (S "may_be_made") 3 .none .none .none (.str (S "leanscript.search") 2537) none (.ref 1563) .none 0, (List.toArray [])⟩
def o_1565 (P : Params) : Obj := ⟨(.type "tuple"), none, .seq (List.toArray []) 0, (List.toArray [])⟩
def o_1566 (P : Params) : Obj := ⟨.none, none, .fields (List.toArray []), (List.toArray [])⟩
def o_1567 (P : Params) : Obj := ⟨(.type "tuple"), none, .seq (List.toArray [(.str (S "survey") 2560), (.str (S "size") 2561), (.str (S "path") 2562), (.str (S "word") 2563), (.str (S "changes") 2564), (.str (S "tree") 2565)]) 0, (List.toArray [])⟩
def o_1568 (P : Params) : Obj := ⟨(.type "tuple"), none, .seq (List.toArray []) 0, (List.toArray [])⟩
def o_1569 (P : Params) : Obj := ⟨.none, none, fnO (My.top 246) (S "first_leaner") (S "first_leaner") 0 .none .none .none .none none .none .none 0, (List.toArray [])⟩
def o_1570 (P : Params) : Obj := ⟨(.type "code"), none, .fields (List.toArray [(.str (S "first_leaner") 2557), (.str (S "first_leaner") 2558), (.str (S "/claim/cut.py") 2559), (.int 1337 0), (.int 1 0), (.int 0 0), (.int 0 0), (.int 3 0), (.ref 1565), (.bool true), (.int 181 0), (.ref 1566), .none, (.ref 1567), (.ref 1568), (.ref 1569), (.int 2566 0), (.int 1337 0), (.str (S "/claim/cut.py") 2567)]), (List.toArray [])⟩
def o_1571 (P : Params) : Obj := ⟨(.type "function"), none, fnO (My.top 246) (S "first_leaner") (S "first_leaner") 3 .none .none .none (.str (S "leanscript.search") 2537) none (.ref 1570) .none 0, (List.toArray [])⟩
def o_1572 (P : Params) : Obj := ⟨(.type "tuple"), none, .seq (List.toArray []) 0, (List.toArray [])⟩
def o_1573 (P : Params) : Obj := ⟨(.type "builtin_function_or_method"), none, .fields (List.toArray [(.builtin "type.__prepare__"), (.type "type")]), (List.toArray [])⟩
def o_1574 (P : Params) : Obj := ⟨(.type "dict"), none, .dict (List.toArray [⟨(PyData.keyHash P (S "__module__")), (.str (S "__module__") 2578), (.str (S "leanscript.tracing") 2569)⟩, ⟨(PyData.keyHash P (S "__qualname__")), (.str (S "__qualname__") 2580), (.str (S "State") 2579)⟩, ⟨(PyData.keyHash P (S "__firstlineno__")), (.str (S "__firstlineno__") 2582), (.int 1345 2581)⟩, ⟨(PyData.keyHash P (S "__init__")), (.str (S "__init__") 2591), (.ref 1585)⟩, ⟨(PyData.keyHash P (S "__static_attributes__")), (.str (S "__static_attributes__") 2594), (.ref 1586)⟩]) 5, (List.toArray [])⟩
def o_1575 (P : Params) : Obj := ⟨(.type "tuple"), none, .seq (List.toArray []) 0, (List.toArray [])⟩
def o_1576 (P : Params) : Obj := ⟨.none, none, .fields (List.toArray [(.int 1347 0), (.int 4 0), (.ref 1584)]), (List.toArray [])⟩
def o_1577 (P : Params) : Obj := ⟨(.type "code"), none, .fields (List.toArray [(.str (S "State") 2573), (.str (S "State") 2574), (.str (S "/claim/cut.py") 2575), (.int 1345 0), (.int 0 0), (.int 0 0), (.int 0 0), (.int 0 0), (.ref 1575), (.bool false), (.int 181 0), (.ref 1576), .none, .none, .none, .none, (.int 2576 0), (.int 1345 0), (.str (S "/claim/cut.py") 2577)]), (List.toArray [])⟩
def o_1578 (P : Params) : Obj := ⟨(.type "frame"), none, .plain, (List.toArray [(some (.ref 1577)), (some (.ref 3)), (some (.ref 1574)), none, (some (.str (S "leanscript.tracing") 2569)), none, (some (.ref 0))])⟩
def o_1579 (P : Params) : Obj := ⟨(.type "tuple"), none, .seq (List.toArray []) 0, (List.toArray [])⟩
def o_1580 (P : Params) : Obj := ⟨.none, none, .fields (List.toArray []), (List.toArray [])⟩
def o_1581 (P : Params) : Obj := ⟨(.type "tuple"), none, .seq (List.toArray [(.str (S "self") 2586), (.str (S "tree") 2587), (.str (S "origins") 2588)]) 0, (List.toArray [])⟩
def o_1582 (P : Params) : Obj := ⟨(.type "tuple"), none, .seq (List.toArray []) 0, (List.toArray [])⟩
def o_1583 (P : Params) : Obj := ⟨.none, none, fnO (L2.inClass (My.top 248) 0) (S "__init__") (S "State.__init__") 0 .none .none .none .none none .none .none 0, (List.toArray [])⟩
def o_1584 (P : Params) : Obj := ⟨(.type "code"), none, .fields (List.toArray [(.str (S "__init__") 2583), (.str (S "State.__init__") 2584), (.str (S "/claim/cut.py") 2585), (.int 1347 0), (.int 3 0), (.int 0 0), (.int 0 0), (.int 3 0), (.ref 1579), (.bool true), (.int 181 0), (.ref 1580), .none, (.ref 1581), (.ref 1582), (.ref 1583), (.int 2589 0), (.int 1347 0), (.str (S "/claim/cut.py") 2590)]), (List.toArray [])⟩
def o_1585 (P : Params) : Obj := ⟨(.type "function"), none, fnO (L2.inClass (My.top 248) 0) (S "__init__") (S "State.__init__") 3 .none .none .none (.str (S "leanscript.tracing") 2569) none (.ref 1584) .none 0, (List.toArray [])⟩
def o_1586 (P : Params) : Obj := ⟨(.type "tuple"), none, .seq (List.toArray [(.str (S "origins") 2592), (.str (S "whole") 2593)]) 0, (List.toArray [])⟩
def o_1587 (P : Params) : Obj := ⟨(.type "dict"), none, .dict (List.toArray [⟨(PyData.keyHash P (S "__module__")), (.str (S "__module__") 2578), (.str (S "leanscript.tracing") 2569)⟩, ⟨(PyData.keyHash P (S "__firstlineno__")), (.str (S "__firstlineno__") 2582), (.int 1345 2581)⟩, ⟨(PyData.keyHash P (S "__init__")), (.str (S "__init__") 2591), (.ref 1585)⟩, ⟨(PyData.keyHash P (S "__static_attributes__")), (.str (S "__static_attributes__") 2594), (.ref 1586)⟩, ⟨(PyData.keyHash P (S "__dict__")), (.str (S "__dict__") 2596), (.ref 1589)⟩, ⟨(PyData.keyHash P (S "__weakref__")), (.str (S "__weakref__") 2598), (.ref 1590)⟩, ⟨(PyData.keyHash P (S "__doc__")), (.str (S "__doc__") 2599), .none⟩]) 4, (List.toArray [])⟩
def o_1588 (P : Params) : Obj := ⟨(.type "type"), none, .cls ⟨(S "State"), [(.type "object")], [(.ref 1588), (.type "object")], 1587, (S "State"), true, [], [], false, none, false⟩, (List.toArray [none, none, (some (.str (S "State") 2571)), (some (.str (S "State") 2579)), (some (.builtin "object.__new__")), (some (.bool true))])⟩
def o_1589 (P : Params) : Obj := ⟨(.type "getset_descriptor"), none, .fields (List.toArray [(.str (S "__dict__") 2595), (.ref 1588), (.builtin "function.__dict__"), (.builtin "function.__dict__#set")]), (List.toArray [])⟩
def o_1590 (P : Params) : Obj := ⟨(.type "getset_descriptor"), none, .fields (List.toArray [(.str (S "__weakref__") 2597), (.ref 1588), (.builtin "ExceptionGroup.__weakref__"), .none]), (List.toArray [])⟩
def o_1591 (P : Params) : Obj := ⟨(.type "super"), none, .fields (List.toArray [(.ref 1588), (.ref 1588), (.ref 1588)]), (List.toArray [])⟩
def o_1592 (P : Params) : Obj := ⟨(.type "builtin_function_or_method"), none, .fields (List.toArray [(.builtin "object.__init_subclass__"), (.ref 1588)]), (List.toArray [])⟩
def o_1593 (P : Params) : Obj := ⟨(.type "tuple"), none, .seq (List.toArray []) 0, (List.toArray [])⟩
def o_1594 (P : Params) : Obj := ⟨.none, none, .fields (List.toArray []), (List.toArray [])⟩
def o_1595 (P : Params) : Obj := ⟨(.type "tuple"), none, .seq (List.toArray [(.str (S "state") 2605), (.str (S "changes") 2606)]) 0, (List.toArray [])⟩
def o_1596 (P : Params) : Obj := ⟨(.type "tuple"), none, .seq (List.toArray []) 0, (List.toArray [])⟩
def o_1597 (P : Params) : Obj := ⟨.none, none, fnO (My.top 249) (S "state_behind") (S "state_behind") 0 .none .none .none .none none .none .none 0, (List.toArray [])⟩
def o_1598 (P : Params) : Obj := ⟨(.type "code"), none, .fields (List.toArray [(.str (S "state_behind") 2602), (.str (S "state_behind") 2603), (.str (S "/claim/cut.py") 2604), (.int 1350 0), (.int 2 0), (.int 0 0), (.int 0 0), (.int 3 0), (.ref 1593), (.bool true), (.int 181 0), (.ref 1594), .none, (.ref 1595), (.ref 1596), (.ref 1597), (.int 2607 0), (.int 1350 0), (.str (S "/claim/cut.py") 2608)]), (List.toArray [])⟩
def o_1599 (P : Params) : Obj := ⟨(.type "function"), none, fnO (My.top 249) (S "state_behind") (S "state_behind") 3 .none .none .none (.str (S "leanscript.tracing") 2569) none (.ref 1598) .none 0, (List.toArray [])⟩
def o_1600 (P : Params) : Obj := ⟨(.type "tuple"), none, .seq (List.toArray []) 0, (List.toArray [])⟩
def o_1601 (P : Params) : Obj := ⟨.none, none, .fields (List.toArray []), (List.toArray [])⟩
def o_1602 (P : Params) : Obj := ⟨(.type "tuple"), none, .seq (List.toArray [(.str (S "state") 2613), (.str (S "changes") 2614)]) 0, (List.toArray [])⟩
def o_1603 (P : Params) : Obj := ⟨(.type "tuple"), none, .seq (List.toArray []) 0, (List.toArray [])⟩
def o_1604 (P : Params) : Obj := ⟨.none, none, fnO (My.top 250) (S "bare_state") (S "bare_state") 0 .none .none .none .none none .none .none 0, (List.toArray [])⟩
def o_1605 (P : Params) : Obj := ⟨(.type "code"), none, .fields (List.toArray [(.str (S "bare_state") 2610), (.str (S "bare_state") 2611), (.str (S "/claim/cut.py") 2612), (.int 1352 0), (.int 1 0), (.int 0 0), (.int 0 0), (.int 3 0), (.ref 1600), (.bool true), (.int 181 0), (.ref 1601), .none, (.ref 1602), (.ref 1603), (.ref 1604), (.int 2615 0), (.int 1352 0), (.str (S "/claim/cut.py") 2616)]), (List.toArray [])⟩
def o_1606 (P : Params) : Obj := ⟨(.type "function"), none, fnO (My.top 250) (S "bare_state") (S "bare_state") 3 .none .none .none (.str (S "leanscript.tracing") 2569) none (.ref 1605) .none 0, (List.toArray [])⟩
def o_1607 (P : Params) : Obj := ⟨(.type "tuple"), none, .seq (List.toArray []) 0, (List.toArray [])⟩
def o_1608 (P : Params) : Obj := ⟨.none, none, .fields (List.toArray []), (List.toArray [])⟩
def o_1609 (P : Params) : Obj := ⟨.none, none, fnO (My.top 251) (S "innermost") (S "innermost") 0 .none .none .none .none none .none .none 0, (List.toArray [])⟩
def o_1610 (P : Params) : Obj := ⟨(.type "code"), none, .fields (List.toArray [(.str (S "innermost") 2618), (.str (S "innermost") 2619), (.str (S "/claim/cut.py") 2620), (.int 1358 0), (.int 1 0), (.int 0 0), (.int 0 0), (.int 3 0), (.ref 1607), (.bool true), (.int 181 0), (.ref 1608), .none, .none, .none, (.ref 1609), (.int 2621 0), (.int 1358 0), (.str (S "/claim/cut.py") 2622)]), (List.toArray [])⟩
def o_1611 (P : Params) : Obj := ⟨(.type "function"), none, fnO (My.top 251) (S "innermost") (S "innermost") 3 .none .none .none (.str (S "leanscript.tracing") 2569) none (.ref 1610) .none 0, (List.toArray [])⟩
def o_1612 (P : Params) : Obj := ⟨(.type "tuple"), none, .seq (List.toArray []) 0, (List.toArray [])⟩
def o_1613 (P : Params) : Obj := ⟨.none, none, .fields (List.toArray []), (List.toArray [])⟩
def o_1614 (P : Params) : Obj := ⟨(.type "tuple"), none, .seq (List.toArray [(.str (S "state") 2627), (.str (S "size") 2628), (.str (S "text") 2629), (.str (S "paths") 2630), (.str (S "told") 2631), (.str (S "_") 2632), (.str (S "word") 2633), (.str (S "at") 2634), (.str (S "first") 2635), (.str (S "last") 2636)]) 0, (List.toArray [])⟩
def o_1615 (P : Params) : Obj := ⟨(.type "tuple"), none, .seq (List.toArray []) 0, (List.toArray [])⟩
def o_1616 (P : Params) : Obj := ⟨.none, none, fnO (My.top 252) (S "map_of") (S "map_of") 0 .none .none .none .none none .none .none 0, (List.toArray [])⟩
def o_1617 (P : Params) : Obj := ⟨(.type "code"), none, .fields (List.toArray [(.str (S "map_of") 2624), (.str (S "map_of") 2625), (.str (S "/claim/cut.py") 2626), (.int 1363 0), (.int 2 0), (.int 0 0), (.int 0 0), (.int 3 0), (.ref 1612), (.bool true), (.int 181 0), (.ref 1613), .none, (.ref 1614), (.ref 1615), (.ref 1616), (.int 2637 0), (.int 1363 0), (.str (S "/claim/cut.py") 2638)]), (List.toArray [])⟩
def o_1618 (P : Params) : Obj := ⟨(.type "function"), none, fnO (My.top 252) (S "map_of") (S "map_of") 3 .none .none .none (.str (S "leanscript.tracing") 2569) none (.ref 1617) .none 0, (List.toArray [])⟩
def o_1619 (P : Params) : Obj := ⟨(.type "tuple"), none, .seq (List.toArray []) 0, (List.toArray [])⟩
def o_1620 (P : Params) : Obj := ⟨(.type "builtin_function_or_method"), none, .fields (List.toArray [(.builtin "type.__prepare__"), (.type "type")]), (List.toArray [])⟩
def o_1621 (P : Params) : Obj := ⟨(.type "dict"), none, .dict (List.toArray [⟨(PyData.keyHash P (S "__module__")), (.str (S "__module__") 2647), (.str (S "leanscript.tracing") 2569)⟩, ⟨(PyData.keyHash P (S "__qualname__")), (.str (S "__qualname__") 2649), (.str (S "Trace") 2648)⟩, ⟨(PyData.keyHash P (S "__firstlineno__")), (.str (S "__firstlineno__") 2651), (.int 1371 2650)⟩, ⟨(PyData.keyHash P (S "__init__")), (.str (S "__init__") 2657), (.ref 1630)⟩, ⟨(PyData.keyHash P (S "take_step")), (.str (S "take_step") 2666), (.ref 1637)⟩, ⟨(PyData.keyHash P (S "turn")), (.str (S "turn") 2675), (.ref 1644)⟩, ⟨(PyData.keyHash P (S "rename")), (.str (S "rename") 2685), (.ref 1651)⟩, ⟨(PyData.keyHash P (S "props")), (.str (S "props") 2696), (.ref 1658)⟩, ⟨(PyData.keyHash P (S "bare")), (.str (S "bare") 2703), (.ref 1665)⟩, ⟨(PyData.keyHash P (S "lean")), (.str (S "lean") 2715), (.ref 1672)⟩, ⟨(PyData.keyHash P (S "back")), (.str (S "back") 2722), (.ref 1679)⟩, ⟨(PyData.keyHash P (S "steps")), (.str (S "steps") 2729), (.ref 1686)⟩, ⟨(PyData.keyHash P (S "tree")), (.str (S "tree") 2736), (.ref 1693)⟩, ⟨(PyData.keyHash P (S "text")), (.str (S "text") 2743), (.ref 1700)⟩, ⟨(PyData.keyHash P (S "map")), (.str (S "map") 2750), (.ref 1707)⟩, ⟨(PyData.keyHash P (S "__static_attributes__")), (.str (S "__static_attributes__") 2754), (.ref 1708)⟩]) 16, (List.toArray [])⟩
def o_1622 (P : Params) : Obj := ⟨(.type "tuple"), none, .seq (List.toArray []) 0, (List.toArray [])⟩
def l_1623_92 (P : Params) : List Value := (.int 4 0) :: (.ref 1685) :: (.int 1414 0) :: (.int 4 0) :: (.ref 1692) :: (.int 1417 0) :: (.int 4 0) :: (.ref 1699) :: (.int 1420 0) :: (.int 4 0) :: (.ref 1706) :: []
def l_1623_93 (P : Params) : List Value := (.int 1373 0) :: (.int 4 0) :: (.ref 1629) :: (.int 1378 0) :: (.int 4 0) :: (.ref 1636) :: (.int 1382 0) :: (.int 4 0) :: (.ref 1643) :: (.int 1385 0) :: (.int 4 0) :: (.ref 1650) :: (.int 1390 0) :: (.int 4 0) :: (.ref 1657) :: (.int 1395 0) :: (.int 4 0) :: (.ref 1664) :: (.int 1398 0) :: (.int 4 0) :: (.ref 1671) :: (.int 1405 0) :: (.int 4 0) :: (.ref 1678) :: (.int 1411 0) :: (l_1623_92 P)
def o_1623 (P : Params) : Obj := ⟨.none, none, .fields (List.toArray (l_1623_93 P)), (List.toArray [])⟩
def o_1624 (P : Params) : Obj := ⟨(.type "code"), none, .fields (List.toArray [(.str (S "Trace") 2642), (.str (S "Trace") 2643), (.str (S "/claim/cut.py") 2644), (.int 1371 0), (.int 0 0), (.int 0 0), (.int 0 0), (.int 0 0), (.ref 1622), (.bool false), (.int 181 0), (.ref 1623), .none, .none, .none, .none, (.int 2645 0), (.int 1371 0), (.str (S "/claim/cut.py") 2646)]), (List.toArray [])⟩
def o_1625 (P : Params) : Obj := ⟨(.type "frame"), none, .plain, (List.toArray [(some (.ref 1624)), (some (.ref 3)), (some (.ref 1621)), none, (some (.str (S "leanscript.tracing") 2569)), none, (some (.ref 0))])⟩
def o_1626 (P : Params) : Obj := ⟨(.type "tuple"), none, .seq (List.toArray []) 0, (List.toArray [])⟩
def o_1627 (P : Params) : Obj := ⟨.none, none, .fields (List.toArray []), (List.toArray [])⟩
def o_1628 (P : Params) : Obj := ⟨.none, none, fnO (L2.inClass (My.top 253) 0) (S "__init__") (S "Trace.__init__") 0 .none .none .none .none none .none .none 0, (List.toArray [])⟩
def o_1629 (P : Params) : Obj := ⟨(.type "code"), none, .fields (List.toArray [(.str (S "__init__") 2652), (.str (S "Trace.__init__") 2653), (.str (S "/claim/cut.py") 2654), (.int 1373 0), (.int 2 0), (.int 0 0), (.int 0 0), (.int 3 0), (.ref 1626), (.bool true), (.int 181 0), (.ref 1627), .none, .none, .none, (.ref 1628), (.int 2655 0), (.int 1373 0), (.str (S "/claim/cut.py") 2656)]), (List.toArray [])⟩
def o_1630 (P : Params) : Obj := ⟨(.type "function"), none, fnO (L2.inClass (My.top 253) 0) (S "__init__") (S "Trace.__init__") 3 .none .none .none (.str (S "leanscript.tracing") 2569) none (.ref 1629) .none 0, (List.toArray [])⟩
def o_1631 (P : Params) : Obj := ⟨(.type "tuple"), none, .seq (List.toArray []) 0, (List.toArray [])⟩
def o_1632 (P : Params) : Obj := ⟨.none, none, .fields (List.toArray []), (List.toArray [])⟩
def o_1633 (P : Params) : Obj := ⟨(.type "tuple"), none, .seq (List.toArray [(.str (S "self") 2661), (.str (S "step") 2662), (.str (S "state") 2663)]) 0, (List.toArray [])⟩
def o_1634 (P : Params) : Obj := ⟨(.type "tuple"), none, .seq (List.toArray []) 0, (List.toArray [])⟩
def o_1635 (P : Params) : Obj := ⟨.none, none, fnO (L2.inClass (My.top 253) 1) (S "take_step") (S "Trace.take_step") 0 .none .none .none .none none .none .none 0, (List.toArray [])⟩
def o_1636 (P : Params) : Obj := ⟨(.type "code"), none, .fields (List.toArray [(.str (S "take_step") 2658), (.str (S "Trace.take_step") 2659), (.str (S "/claim/cut.py") 2660), (.int 1378 0), (.int 3 0), (.int 0 0), (.int 0 0), (.int 3 0), (.ref 1631), (.bool true), (.int 181 0), (.ref 1632), .none, (.ref 1633), (.ref 1634), (.ref 1635), (.int 2664 0), (.int 1378 0), (.str (S "/claim/cut.py") 2665)]), (List.toArray [])⟩
def o_1637 (P : Params) : Obj := ⟨(.type "function"), none, fnO (L2.inClass (My.top 253) 1) (S "take_step") (S "Trace.take_step") 3 .none .none .none (.str (S "leanscript.tracing") 2569) none (.ref 1636) .none 0, (List.toArray [])⟩
def o_1638 (P : Params) : Obj := ⟨(.type "tuple"), none, .seq (List.toArray []) 0, (List.toArray [])⟩
def o_1639 (P : Params) : Obj := ⟨.none, none, .fields (List.toArray []), (List.toArray [])⟩
def o_1640 (P : Params) : Obj := ⟨(.type "tuple"), none, .seq (List.toArray [(.str (S "self") 2670), (.str (S "path") 2671), (.str (S "word") 2672)]) 0, (List.toArray [])⟩
def o_1641 (P : Params) : Obj := ⟨(.type "tuple"), none, .seq (List.toArray []) 0, (List.toArray [])⟩
def o_1642 (P : Params) : Obj := ⟨.none, none, fnO (L2.inClass (My.top 253) 2) (S "turn") (S "Trace.turn") 0 .none .none .none .none none .none .none 0, (List.toArray [])⟩
def o_1643 (P : Params) : Obj := ⟨(.type "code"), none, .fields (List.toArray [(.str (S "turn") 2667), (.str (S "Trace.turn") 2668), (.str (S "/claim/cut.py") 2669), (.int 1382 0), (.int 3 0), (.int 0 0), (.int 0 0), (.int 3 0), (.ref 1638), (.bool true), (.int 181 0), (.ref 1639), .none, (.ref 1640), (.ref 1641), (.ref 1642), (.int 2673 0), (.int 1382 0), (.str (S "/claim/cut.py") 2674)]), (List.toArray [])⟩
def o_1644 (P : Params) : Obj := ⟨(.type "function"), none, fnO (L2.inClass (My.top 253) 2) (S "turn") (S "Trace.turn") 3 .none .none .none (.str (S "leanscript.tracing") 2569) none (.ref 1643) .none 0, (List.toArray [])⟩
def o_1645 (P : Params) : Obj := ⟨(.type "tuple"), none, .seq (List.toArray []) 0, (List.toArray [])⟩
def o_1646 (P : Params) : Obj := ⟨.none, none, .fields (List.toArray []), (List.toArray [])⟩
def o_1647 (P : Params) : Obj := ⟨(.type "tuple"), none, .seq (List.toArray [(.str (S "self") 2679), (.str (S "naming") 2680), (.str (S "state") 2681), (.str (S "tree") 2682)]) 0, (List.toArray [])⟩
def o_1648 (P : Params) : Obj := ⟨(.type "tuple"), none, .seq (List.toArray []) 0, (List.toArray [])⟩
def o_1649 (P : Params) : Obj := ⟨.none, none, fnO (L2.inClass (My.top 253) 3) (S "rename") (S "Trace.rename") 0 .none .none .none .none none .none .none 0, (List.toArray [])⟩
def o_1650 (P : Params) : Obj := ⟨(.type "code"), none, .fields (List.toArray [(.str (S "rename") 2676), (.str (S "Trace.rename") 2677), (.str (S "/claim/cut.py") 2678), (.int 1385 0), (.int 2 0), (.int 0 0), (.int 0 0), (.int 3 0), (.ref 1645), (.bool true), (.int 181 0), (.ref 1646), .none, (.ref 1647), (.ref 1648), (.ref 1649), (.int 2683 0), (.int 1385 0), (.str (S "/claim/cut.py") 2684)]), (List.toArray [])⟩
def o_1651 (P : Params) : Obj := ⟨(.type "function"), none, fnO (L2.inClass (My.top 253) 3) (S "rename") (S "Trace.rename") 3 .none .none .none (.str (S "leanscript.tracing") 2569) none (.ref 1650) .none 0, (List.toArray [])⟩
def o_1652 (P : Params) : Obj := ⟨(.type "tuple"), none, .seq (List.toArray []) 0, (List.toArray [])⟩
def o_1653 (P : Params) : Obj := ⟨.none, none, .fields (List.toArray []), (List.toArray [])⟩
def o_1654 (P : Params) : Obj := ⟨(.type "tuple"), none, .seq (List.toArray [(.str (S "self") 2689), (.str (S "keep") 2690), (.str (S "names") 2691), (.str (S "state") 2692), (.str (S "tree") 2693)]) 0, (List.toArray [])⟩
def o_1655 (P : Params) : Obj := ⟨(.type "tuple"), none, .seq (List.toArray []) 0, (List.toArray [])⟩
def o_1656 (P : Params) : Obj := ⟨.none, none, fnO (L2.inClass (My.top 253) 4) (S "props") (S "Trace.props") 0 .none .none .none .none none .none .none 0, (List.toArray [])⟩
def o_1657 (P : Params) : Obj := ⟨(.type "code"), none, .fields (List.toArray [(.str (S "props") 2686), (.str (S "Trace.props") 2687), (.str (S "/claim/cut.py") 2688), (.int 1390 0), (.int 3 0), (.int 0 0), (.int 0 0), (.int 3 0), (.ref 1652), (.bool true), (.int 181 0), (.ref 1653), .none, (.ref 1654), (.ref 1655), (.ref 1656), (.int 2694 0), (.int 1390 0), (.str (S "/claim/cut.py") 2695)]), (List.toArray [])⟩
def o_1658 (P : Params) : Obj := ⟨(.type "function"), none, fnO (L2.inClass (My.top 253) 4) (S "props") (S "Trace.props") 3 .none .none .none (.str (S "leanscript.tracing") 2569) none (.ref 1657) .none 0, (List.toArray [])⟩
def o_1659 (P : Params) : Obj := ⟨(.type "tuple"), none, .seq (List.toArray []) 0, (List.toArray [])⟩
def o_1660 (P : Params) : Obj := ⟨.none, none, .fields (List.toArray []), (List.toArray [])⟩
def o_1661 (P : Params) : Obj := ⟨(.type "tuple"), none, .seq (List.toArray [(.str (S "self") 2700)]) 0, (List.toArray [])⟩
def o_1662 (P : Params) : Obj := ⟨(.type "tuple"), none, .seq (List.toArray []) 0, (List.toArray [])⟩
def o_1663 (P : Params) : Obj := ⟨.none, none, fnO (L2.inClass (My.top 253) 5) (S "bare") (S "Trace.bare") 0 .none .none .none .none none .none .none 0, (List.toArray [])⟩
def o_1664 (P : Params) : Obj := ⟨(.type "code"), none, .fields (List.toArray [(.str (S "bare") 2697), (.str (S "Trace.bare") 2698), (.str (S "/claim/cut.py") 2699), (.int 1395 0), (.int 1 0), (.int 0 0), (.int 0 0), (.int 3 0), (.ref 1659), (.bool true), (.int 181 0), (.ref 1660), .none, (.ref 1661), (.ref 1662), (.ref 1663), (.int 2701 0), (.int 1395 0), (.str (S "/claim/cut.py") 2702)]), (List.toArray [])⟩
def o_1665 (P : Params) : Obj := ⟨(.type "function"), none, fnO (L2.inClass (My.top 253) 5) (S "bare") (S "Trace.bare") 3 .none .none .none (.str (S "leanscript.tracing") 2569) none (.ref 1664) .none 0, (List.toArray [])⟩
def o_1666 (P : Params) : Obj := ⟨(.type "tuple"), none, .seq (List.toArray []) 0, (List.toArray [])⟩
def o_1667 (P : Params) : Obj := ⟨.none, none, .fields (List.toArray []), (List.toArray [])⟩
def o_1668 (P : Params) : Obj := ⟨(.type "tuple"), none, .seq (List.toArray [(.str (S "self") 2707), (.str (S "found") 2708), (.str (S "path") 2709), (.str (S "word") 2710), (.str (S "changes") 2711), (.str (S "_") 2712)]) 0, (List.toArray [])⟩
def o_1669 (P : Params) : Obj := ⟨(.type "tuple"), none, .seq (List.toArray []) 0, (List.toArray [])⟩
def o_1670 (P : Params) : Obj := ⟨.none, none, fnO (L2.inClass (My.top 253) 6) (S "lean") (S "Trace.lean") 0 .none .none .none .none none .none .none 0, (List.toArray [])⟩
def o_1671 (P : Params) : Obj := ⟨(.type "code"), none, .fields (List.toArray [(.str (S "lean") 2704), (.str (S "Trace.lean") 2705), (.str (S "/claim/cut.py") 2706), (.int 1398 0), (.int 1 0), (.int 0 0), (.int 0 0), (.int 3 0), (.ref 1666), (.bool true), (.int 181 0), (.ref 1667), .none, (.ref 1668), (.ref 1669), (.ref 1670), (.int 2713 0), (.int 1398 0), (.str (S "/claim/cut.py") 2714)]), (List.toArray [])⟩
def o_1672 (P : Params) : Obj := ⟨(.type "function"), none, fnO (L2.inClass (My.top 253) 6) (S "lean") (S "Trace.lean") 3 .none .none .none (.str (S "leanscript.tracing") 2569) none (.ref 1671) .none 0, (List.toArray [])⟩
def o_1673 (P : Params) : Obj := ⟨(.type "tuple"), none, .seq (List.toArray []) 0, (List.toArray [])⟩
def o_1674 (P : Params) : Obj := ⟨.none, none, .fields (List.toArray []), (List.toArray [])⟩
def o_1675 (P : Params) : Obj := ⟨(.type "tuple"), none, .seq (List.toArray [(.str (S "self") 2719)]) 0, (List.toArray [])⟩
def o_1676 (P : Params) : Obj := ⟨(.type "tuple"), none, .seq (List.toArray []) 0, (List.toArray [])⟩
def o_1677 (P : Params) : Obj := ⟨.none, none, fnO (L2.inClass (My.top 253) 7) (S "back") (S "Trace.back") 0 .none .none .none .none none .none .none 0, (List.toArray [])⟩
def o_1678 (P : Params) : Obj := ⟨(.type "code"), none, .fields (List.toArray [(.str (S "back") 2716), (.str (S "Trace.back") 2717), (.str (S "/claim/cut.py") 2718), (.int 1405 0), (.int 1 0), (.int 0 0), (.int 0 0), (.int 3 0), (.ref 1673), (.bool true), (.int 181 0), (.ref 1674), .none, (.ref 1675), (.ref 1676), (.ref 1677), (.int 2720 0), (.int 1405 0), (.str (S "/claim/cut.py") 2721)]), (List.toArray [])⟩
def o_1679 (P : Params) : Obj := ⟨(.type "function"), none, fnO (L2.inClass (My.top 253) 7) (S "back") (S "Trace.back") 3 .none .none .none (.str (S "leanscript.tracing") 2569) none (.ref 1678) .none 0, (List.toArray [])⟩
def o_1680 (P : Params) : Obj := ⟨(.type "tuple"), none, .seq (List.toArray []) 0, (List.toArray [])⟩
def o_1681 (P : Params) : Obj := ⟨.none, none, .fields (List.toArray []), (List.toArray [])⟩
def o_1682 (P : Params) : Obj := ⟨(.type "tuple"), none, .seq (List.toArray [(.str (S "self") 2726)]) 0, (List.toArray [])⟩
def o_1683 (P : Params) : Obj := ⟨(.type "tuple"), none, .seq (List.toArray []) 0, (List.toArray [])⟩
def o_1684 (P : Params) : Obj := ⟨.none, none, fnO (L2.inClass (My.top 253) 8) (S "steps") (S "Trace.steps") 0 .none .none .none .none none .none .none 0, (List.toArray [])⟩
def o_1685 (P : Params) : Obj := ⟨(.type "code"), none, .fields (List.toArray [(.str (S "steps") 2723), (.str (S "Trace.steps") 2724), (.str (S "/claim/cut.py") 2725), (.int 1411 0), (.int 1 0), (.int 0 0), (.int 0 0), (.int 3 0), (.ref 1680), (.bool true), (.int 181 0), (.ref 1681), .none, (.ref 1682), (.ref 1683), (.ref 1684), (.int 2727 0), (.int 1411 0), (.str (S "/claim/cut.py") 2728)]), (List.toArray [])⟩
def o_1686 (P : Params) : Obj := ⟨(.type "function"), none, fnO (L2.inClass (My.top 253) 8) (S "steps") (S "Trace.steps") 3 .none .none .none (.str (S "leanscript.tracing") 2569) none (.ref 1685) .none 0, (List.toArray [])⟩
def o_1687 (P : Params) : Obj := ⟨(.type "tuple"), none, .seq (List.toArray []) 0, (List.toArray [])⟩
def o_1688 (P : Params) : Obj := ⟨.none, none, .fields (List.toArray []), (List.toArray [])⟩
def o_1689 (P : Params) : Obj := ⟨(.type "tuple"), none, .seq (List.toArray [(.str (S "self") 2733)]) 0, (List.toArray [])⟩
def o_1690 (P : Params) : Obj := ⟨(.type "tuple"), none, .seq (List.toArray []) 0, (List.toArray [])⟩
def o_1691 (P : Params) : Obj := ⟨.none, none, fnO (L2.inClass (My.top 253) 9) (S "tree") (S "Trace.tree") 0 .none .none .none .none none .none .none 0, (List.toArray [])⟩
def o_1692 (P : Params) : Obj := ⟨(.type "code"), none, .fields (List.toArray [(.str (S "tree") 2730), (.str (S "Trace.tree") 2731), (.str (S "/claim/cut.py") 2732), (.int 1414 0), (.int 1 0), (.int 0 0), (.int 0 0), (.int 3 0), (.ref 1687), (.bool true), (.int 181 0), (.ref 1688), .none, (.ref 1689), (.ref 1690), (.ref 1691), (.int 2734 0), (.int 1414 0), (.str (S "/claim/cut.py") 2735)]), (List.toArray [])⟩
def o_1693 (P : Params) : Obj := ⟨(.type "function"), none, fnO (L2.inClass (My.top 253) 9) (S "tree") (S "Trace.tree") 3 .none .none .none (.str (S "leanscript.tracing") 2569) none (.ref 1692) .none 0, (List.toArray [])⟩
def o_1694 (P : Params) : Obj := ⟨(.type "tuple"), none, .seq (List.toArray []) 0, (List.toArray [])⟩
def o_1695 (P : Params) : Obj := ⟨.none, none, .fields (List.toArray []), (List.toArray [])⟩
def o_1696 (P : Params) : Obj := ⟨(.type "tuple"), none, .seq (List.toArray [(.str (S "self") 2740)]) 0, (List.toArray [])⟩
def o_1697 (P : Params) : Obj := ⟨(.type "tuple"), none, .seq (List.toArray []) 0, (List.toArray [])⟩
def o_1698 (P : Params) : Obj := ⟨.none, none, fnO (L2.inClass (My.top 253) 10) (S "text") (S "Trace.text") 0 .none .none .none .none none .none .none 0, (List.toArray [])⟩
def o_1699 (P : Params) : Obj := ⟨(.type "code"), none, .fields (List.toArray [(.str (S "text") 2737), (.str (S "Trace.text") 2738), (.str (S "/claim/cut.py") 2739), (.int 1417 0), (.int 1 0), (.int 0 0), (.int 0 0), (.int 3 0), (.ref 1694), (.bool true), (.int 181 0), (.ref 1695), .none, (.ref 1696), (.ref 1697), (.ref 1698), (.int 2741 0), (.int 1417 0), (.str (S "/claim/cut.py") 2742)]), (List.toArray [])⟩
def o_1700 (P : Params) : Obj := ⟨(.type "function"), none, fnO (L2.inClass (My.top 253) 10) (S "text") (S "Trace.text") 3 .none .none .none (.str (S "leanscript.tracing") 2569) none (.ref 1699) .none 0, (List.toArray [])⟩
def o_1701 (P : Params) : Obj := ⟨(.type "tuple"), none, .seq (List.toArray []) 0, (List.toArray [])⟩
def o_1702 (P : Params) : Obj := ⟨.none, none, .fields (List.toArray []), (List.toArray [])⟩
def o_1703 (P : Params) : Obj := ⟨(.type "tuple"), none, .seq (List.toArray [(.str (S "self") 2747)]) 0, (List.toArray [])⟩
def o_1704 (P : Params) : Obj := ⟨(.type "tuple"), none, .seq (List.toArray []) 0, (List.toArray [])⟩
def o_1705 (P : Params) : Obj := ⟨.none, none, fnO (L2.inClass (My.top 253) 11) (S "map") (S "Trace.map") 0 .none .none .none .none none .none .none 0, (List.toArray [])⟩
def o_1706 (P : Params) : Obj := ⟨(.type "code"), none, .fields (List.toArray [(.str (S "map") 2744), (.str (S "Trace.map") 2745), (.str (S "/claim/cut.py") 2746), (.int 1420 0), (.int 1 0), (.int 0 0), (.int 0 0), (.int 3 0), (.ref 1701), (.bool true), (.int 181 0), (.ref 1702), .none, (.ref 1703), (.ref 1704), (.ref 1705), (.int 2748 0), (.int 1420 0), (.str (S "/claim/cut.py") 2749)]), (List.toArray [])⟩
def o_1707 (P : Params) : Obj := ⟨(.type "function"), none, fnO (L2.inClass (My.top 253) 11) (S "map") (S "Trace.map") 3 .none .none .none (.str (S "leanscript.tracing") 2569) none (.ref 1706) .none 0, (List.toArray [])⟩
def o_1708 (P : Params) : Obj := ⟨(.type "tuple"), none, .seq (List.toArray [(.str (S "made") 2751), (.str (S "size") 2752), (.str (S "states") 2753)]) 0, (List.toArray [])⟩
def o_1709 (P : Params) : Obj := ⟨(.type "dict"), none, .dict (List.toArray [⟨(PyData.keyHash P (S "__module__")), (.str (S "__module__") 2647), (.str (S "leanscript.tracing") 2569)⟩, ⟨(PyData.keyHash P (S "__firstlineno__")), (.str (S "__firstlineno__") 2651), (.int 1371 2650)⟩, ⟨(PyData.keyHash P (S "__init__")), (.str (S "__init__") 2657), (.ref 1630)⟩, ⟨(PyData.keyHash P (S "take_step")), (.str (S "take_step") 2666), (.ref 1637)⟩, ⟨(PyData.keyHash P (S "turn")), (.str (S "turn") 2675), (.ref 1644)⟩, ⟨(PyData.keyHash P (S "rename")), (.str (S "rename") 2685), (.ref 1651)⟩, ⟨(PyData.keyHash P (S "props")), (.str (S "props") 2696), (.ref 1658)⟩, ⟨(PyData.keyHash P (S "bare")), (.str (S "bare") 2703), (.ref 1665)⟩, ⟨(PyData.keyHash P (S "lean")), (.str (S "lean") 2715), (.ref 1672)⟩, ⟨(PyData.keyHash P (S "back")), (.str (S "back") 2722), (.ref 1679)⟩, ⟨(PyData.keyHash P (S "steps")), (.str (S "steps") 2729), (.ref 1686)⟩, ⟨(PyData.keyHash P (S "tree")), (.str (S "tree") 2736), (.ref 1693)⟩, ⟨(PyData.keyHash P (S "text")), (.str (S "text") 2743), (.ref 1700)⟩, ⟨(PyData.keyHash P (S "map")), (.str (S "map") 2750), (.ref 1707)⟩, ⟨(PyData.keyHash P (S "__static_attributes__")), (.str (S "__static_attributes__") 2754), (.ref 1708)⟩, ⟨(PyData.keyHash P (S "__dict__")), (.str (S "__dict__") 2756), (.ref 1711)⟩, ⟨(PyData.keyHash P (S "__weakref__")), (.str (S "__weakref__") 2758), (.ref 1712)⟩, ⟨(PyData.keyHash P (S "__doc__")), (.str (S "__doc__") 2759), .none⟩]) 4, (List.toArray [])⟩
def o_1710 (P : Params) : Obj := ⟨(.type "type"), none, .cls ⟨(S "Trace"), [(.type "object")], [(.ref 1710), (.type "object")], 1709, (S "Trace"), true, [], [], false, none, false⟩, (List.toArray [none, none, (some (.str (S "Trace") 2640)), (some (.str (S "Trace") 2648)), (some (.builtin "object.__new__")), (some (.bool true))])⟩
def o_1711 (P : Params) : Obj := ⟨(.type "getset_descriptor"), none, .fields (List.toArray [(.str (S "__dict__") 2755), (.ref 1710), (.builtin "function.__dict__"), (.builtin "function.__dict__#set")]), (List.toArray [])⟩
def o_1712 (P : Params) : Obj := ⟨(.type "getset_descriptor"), none, .fields (List.toArray [(.str (S "__weakref__") 2757), (.ref 1710), (.builtin "ExceptionGroup.__weakref__"), .none]), (List.toArray [])⟩
def o_1713 (P : Params) : Obj := ⟨(.type "super"), none, .fields (List.toArray [(.ref 1710), (.ref 1710), (.ref 1710)]), (List.toArray [])⟩
def o_1714 (P : Params) : Obj := ⟨(.type "builtin_function_or_method"), none, .fields (List.toArray [(.builtin "object.__init_subclass__"), (.ref 1710)]), (List.toArray [])⟩
def o_1715 (P : Params) : Obj := ⟨(.type "tuple"), none, .seq (List.toArray []) 0, (List.toArray [])⟩
def o_1716 (P : Params) : Obj := ⟨(.type "builtin_function_or_method"), none, .fields (List.toArray [(.builtin "type.__prepare__"), (.type "type")]), (List.toArray [])⟩
def o_1717 (P : Params) : Obj := ⟨(.type "dict"), none, .dict (List.toArray [⟨(PyData.keyHash P (S "__module__")), (.str (S "__module__") 2774), (.str (S "leanscript.floors") 2762)⟩, ⟨(PyData.keyHash P (S "__qualname__")), (.str (S "__qualname__") 2776), (.str (S "Problem") 2775)⟩, ⟨(PyData.keyHash P (S "__firstlineno__")), (.str (S "__firstlineno__") 2778), (.int 1424 2777)⟩, ⟨(PyData.keyHash P (S "__init__")), (.str (S "__init__") 2784), (.ref 1726)⟩, ⟨(PyData.keyHash P (S "__static_attributes__")), (.str (S "__static_attributes__") 2792), (.ref 1727)⟩]) 5, (List.toArray [])⟩
def o_1718 (P : Params) : Obj := ⟨(.type "tuple"), none, .seq (List.toArray []) 0, (List.toArray [])⟩
def o_1719 (P : Params) : Obj := ⟨.none, none, .fields (List.toArray [(.int 1426 0), (.int 4 0), (.ref 1725)]), (List.toArray [])⟩
def o_1720 (P : Params) : Obj := ⟨(.type "code"), none, .fields (List.toArray [(.str (S "Problem") 2769), (.str (S "Problem") 2770), (.str (S "/claim/cut.py") 2771), (.int 1424 0), (.int 0 0), (.int 0 0), (.int 0 0), (.int 0 0), (.ref 1718), (.bool false), (.int 181 0), (.ref 1719), .none, .none, .none, .none, (.int 2772 0), (.int 1424 0), (.str (S "/claim/cut.py") 2773)]), (List.toArray [])⟩
def o_1721 (P : Params) : Obj := ⟨(.type "frame"), none, .plain, (List.toArray [(some (.ref 1720)), (some (.ref 3)), (some (.ref 1717)), none, (some (.str (S "leanscript.floors") 2762)), none, (some (.ref 0))])⟩
def o_1722 (P : Params) : Obj := ⟨(.type "tuple"), none, .seq (List.toArray []) 0, (List.toArray [])⟩
def o_1723 (P : Params) : Obj := ⟨.none, none, .fields (List.toArray []), (List.toArray [])⟩
def o_1724 (P : Params) : Obj := ⟨.none, none, fnO (L2.inClass (My.top 256) 0) (S "__init__") (S "Problem.__init__") 0 .none .none .none .none none .none .none 0, (List.toArray [])⟩
def o_1725 (P : Params) : Obj := ⟨(.type "code"), none, .fields (List.toArray [(.str (S "__init__") 2779), (.str (S "Problem.__init__") 2780), (.str (S "/claim/cut.py") 2781), (.int 1426 0), (.int 3 0), (.int 0 0), (.int 0 0), (.int 3 0), (.ref 1722), (.bool true), (.int 181 0), (.ref 1723), .none, .none, .none, (.ref 1724), (.int 2782 0), (.int 1426 0), (.str (S "/claim/cut.py") 2783)]), (List.toArray [])⟩
def o_1726 (P : Params) : Obj := ⟨(.type "function"), none, fnO (L2.inClass (My.top 256) 0) (S "__init__") (S "Problem.__init__") 3 .none .none .none (.str (S "leanscript.floors") 2762) none (.ref 1725) .none 0, (List.toArray [])⟩
def o_1727 (P : Params) : Obj := ⟨(.type "tuple"), none, .seq (List.toArray [(.str (S "bars") 2785), (.str (S "counts") 2786), (.str (S "foes") 2787), (.str (S "names") 2788), (.str (S "needs") 2789), (.str (S "unnamed") 2790), (.str (S "whole") 2791)]) 0, (List.toArray [])⟩
def o_1728 (P : Params) : Obj := ⟨(.type "dict"), none, .dict (List.toArray [⟨(PyData.keyHash P (S "__module__")), (.str (S "__module__") 2774), (.str (S "leanscript.floors") 2762)⟩, ⟨(PyData.keyHash P (S "__firstlineno__")), (.str (S "__firstlineno__") 2778), (.int 1424 2777)⟩, ⟨(PyData.keyHash P (S "__init__")), (.str (S "__init__") 2784), (.ref 1726)⟩, ⟨(PyData.keyHash P (S "__static_attributes__")), (.str (S "__static_attributes__") 2792), (.ref 1727)⟩, ⟨(PyData.keyHash P (S "__dict__")), (.str (S "__dict__") 2794), (.ref 1730)⟩, ⟨(PyData.keyHash P (S "__weakref__")), (.str (S "__weakref__") 2796), (.ref 1731)⟩, ⟨(PyData.keyHash P (S "__doc__")), (.str (S "__doc__") 2797), .none⟩]) 4, (List.toArray [])⟩
def o_1729 (P : Params) : Obj := ⟨(.type "type"), none, .cls ⟨(S "Problem"), [(.type "object")], [(.ref 1729), (.type "object")], 1728, (S "Problem"), true, [], [], false, none, false⟩, (List.toArray [none, none, (some (.str (S "Problem") 2767)), (some (.str (S "Problem") 2775)), (some (.builtin "object.__new__")), (some (.bool true))])⟩
def o_1730 (P : Params) : Obj := ⟨(.type "getset_descriptor"), none, .fields (List.toArray [(.str (S "__dict__") 2793), (.ref 1729), (.builtin "function.__dict__"), (.builtin "function.__dict__#set")]), (List.toArray [])⟩
def o_1731 (P : Params) : Obj := ⟨(.type "getset_descriptor"), none, .fields (List.toArray [(.str (S "__weakref__") 2795), (.ref 1729), (.builtin "ExceptionGroup.__weakref__"), .none]), (List.toArray [])⟩
def o_1732 (P : Params) : Obj := ⟨(.type "super"), none, .fields (List.toArray [(.ref 1729), (.ref 1729), (.ref 1729)]), (List.toArray [])⟩
def o_1733 (P : Params) : Obj := ⟨(.type "builtin_function_or_method"), none, .fields (List.toArray [(.builtin "object.__init_subclass__"), (.ref 1729)]), (List.toArray [])⟩
def o_1734 (P : Params) : Obj := ⟨(.type "tuple"), none, .seq (List.toArray []) 0, (List.toArray [])⟩
def o_1735 (P : Params) : Obj := ⟨.none, none, .fields (List.toArray []), (List.toArray [])⟩
def o_1736 (P : Params) : Obj := ⟨.none, none, fnO (My.top 257) (S "members") (S "members") 0 .none .none .none .none none .none .none 0, (List.toArray [])⟩
def o_1737 (P : Params) : Obj := ⟨(.type "code"), none, .fields (List.toArray [(.str (S "members") 2800), (.str (S "members") 2801), (.str (S "/claim/cut.py") 2802), (.int 1434 0), (.int 1 0), (.int 0 0), (.int 0 0), (.int 3 0), (.ref 1734), (.bool true), (.int 181 0), (.ref 1735), .none, .none, .none, (.ref 1736), (.int 2803 0), (.int 1434 0), (.str (S "/claim/cut.py") 2804)]), (List.toArray [])⟩
def o_1738 (P : Params) : Obj := ⟨(.type "function"), none, fnO (My.top 257) (S "members") (S "members") 3 .none .none .none (.str (S "leanscript.floors") 2762) none (.ref 1737) .none 0, (List.toArray [])⟩
def o_1739 (P : Params) : Obj := ⟨(.type "tuple"), none, .seq (List.toArray []) 0, (List.toArray [])⟩
def o_1740 (P : Params) : Obj := ⟨.none, none, .fields (List.toArray []), (List.toArray [])⟩
def o_1741 (P : Params) : Obj := ⟨.none, none, fnO (My.top 258) (S "are_friends") (S "are_friends") 0 .none .none .none .none none .none .none 0, (List.toArray [])⟩
def o_1742 (P : Params) : Obj := ⟨(.type "code"), none, .fields (List.toArray [(.str (S "are_friends") 2806), (.str (S "are_friends") 2807), (.str (S "/claim/cut.py") 2808), (.int 1436 0), (.int 2 0), (.int 0 0), (.int 0 0), (.int 3 0), (.ref 1739), (.bool true), (.int 181 0), (.ref 1740), .none, .none, .none, (.ref 1741), (.int 2809 0), (.int 1436 0), (.str (S "/claim/cut.py") 2810)]), (List.toArray [])⟩
def o_1743 (P : Params) : Obj := ⟨(.type "function"), none, fnO (My.top 258) (S "are_friends") (S "are_friends") 3 .none .none .none (.str (S "leanscript.floors") 2762) none (.ref 1742) .none 0, (List.toArray [])⟩
def o_1744 (P : Params) : Obj := ⟨(.type "tuple"), none, .seq (List.toArray []) 0, (List.toArray [])⟩
def o_1745 (P : Params) : Obj := ⟨.none, none, .fields (List.toArray []), (List.toArray [])⟩
def o_1746 (P : Params) : Obj := ⟨.none, none, fnO (My.top 259) (S "free_places") (S "free_places") 0 .none .none .none .none none .none .none 0, (List.toArray [])⟩
def o_1747 (P : Params) : Obj := ⟨(.type "code"), none, .fields (List.toArray [(.str (S "free_places") 2812), (.str (S "free_places") 2813), (.str (S "/claim/cut.py") 2814), (.int 1438 0), (.int 2 0), (.int 0 0), (.int 0 0), (.int 3 0), (.ref 1744), (.bool true), (.int 181 0), (.ref 1745), .none, .none, .none, (.ref 1746), (.int 2815 0), (.int 1438 0), (.str (S "/claim/cut.py") 2816)]), (List.toArray [])⟩
def o_1748 (P : Params) : Obj := ⟨(.type "function"), none, fnO (My.top 259) (S "free_places") (S "free_places") 3 .none .none .none (.str (S "leanscript.floors") 2762) none (.ref 1747) .none 0, (List.toArray [])⟩
def o_1749 (P : Params) : Obj := ⟨(.type "tuple"), none, .seq (List.toArray []) 0, (List.toArray [])⟩
def o_1750 (P : Params) : Obj := ⟨.none, none, .fields (List.toArray []), (List.toArray [])⟩
def o_1751 (P : Params) : Obj := ⟨.none, none, fnO (My.top 260) (S "places_in") (S "places_in") 0 .none .none .none .none none .none .none 0, (List.toArray [])⟩
def o_1752 (P : Params) : Obj := ⟨(.type "code"), none, .fields (List.toArray [(.str (S "places_in") 2818), (.str (S "places_in") 2819), (.str (S "/claim/cut.py") 2820), (.int 1441 0), (.int 2 0), (.int 0 0), (.int 0 0), (.int 3 0), (.ref 1749), (.bool true), (.int 181 0), (.ref 1750), .none, .none, .none, (.ref 1751), (.int 2821 0), (.int 1441 0), (.str (S "/claim/cut.py") 2822)]), (List.toArray [])⟩
def o_1753 (P : Params) : Obj := ⟨(.type "function"), none, fnO (My.top 260) (S "places_in") (S "places_in") 3 .none .none .none (.str (S "leanscript.floors") 2762) none (.ref 1752) .none 0, (List.toArray [])⟩
def o_1754 (P : Params) : Obj := ⟨(.type "tuple"), none, .seq (List.toArray []) 0, (List.toArray [])⟩
def o_1755 (P : Params) : Obj := ⟨.none, none, .fields (List.toArray []), (List.toArray [])⟩
def o_1756 (P : Params) : Obj := ⟨.none, none, fnO (My.top 261) (S "least_costs") (S "least_costs") 0 .none .none .none .none none .none .none 0, (List.toArray [])⟩
def o_1757 (P : Params) : Obj := ⟨(.type "code"), none, .fields (List.toArray [(.str (S "least_costs") 2824), (.str (S "least_costs") 2825), (.str (S "/claim/cut.py") 2826), (.int 1443 0), (.int 4 0), (.int 0 0), (.int 0 0), (.int 3 0), (.ref 1754), (.bool true), (.int 181 0), (.ref 1755), .none, .none, .none, (.ref 1756), (.int 2827 0), (.int 1443 0), (.str (S "/claim/cut.py") 2828)]), (List.toArray [])⟩
def o_1758 (P : Params) : Obj := ⟨(.type "function"), none, fnO (My.top 261) (S "least_costs") (S "least_costs") 3 .none .none .none (.str (S "leanscript.floors") 2762) none (.ref 1757) .none 0, (List.toArray [])⟩
def o_1759 (P : Params) : Obj := ⟨(.type "tuple"), none, .seq (List.toArray []) 0, (List.toArray [])⟩
def o_1760 (P : Params) : Obj := ⟨.none, none, .fields (List.toArray []), (List.toArray [])⟩
def o_1761 (P : Params) : Obj := ⟨(.type "tuple"), none, .seq (List.toArray [(.str (S "tree") 2837), (.str (S "letters") 2838)]) 0, (List.toArray [])⟩
def o_1762 (P : Params) : Obj := ⟨(.type "tuple"), none, .seq (List.toArray []) 0, (List.toArray [])⟩
def o_1763 (P : Params) : Obj := ⟨.none, none, fnO (My.top 264) (S "problem_of") (S "problem_of") 0 .none .none .none .none none .none .none 0, (List.toArray [])⟩
def o_1764 (P : Params) : Obj := ⟨(.type "code"), none, .fields (List.toArray [(.str (S "problem_of") 2834), (.str (S "problem_of") 2835), (.str (S "/claim/cut.py") 2836), (.int 1457 0), (.int 2 0), (.int 0 0), (.int 0 0), (.int 3 0), (.ref 1759), (.bool true), (.int 181 0), (.ref 1760), .none, (.ref 1761), (.ref 1762), (.ref 1763), (.int 2839 0), (.int 1457 0), (.str (S "/claim/cut.py") 2840)]), (List.toArray [])⟩
def o_1765 (P : Params) : Obj := ⟨(.type "function"), none, fnO (My.top 264) (S "problem_of") (S "problem_of") 3 .none .none .none (.str (S "leanscript.leastnames") 2830) none (.ref 1764) .none 0, (List.toArray [])⟩
def o_1766 (P : Params) : Obj := ⟨(.type "tuple"), none, .seq (List.toArray []) 0, (List.toArray [])⟩
def o_1767 (P : Params) : Obj := ⟨.none, none, .fields (List.toArray []), (List.toArray [])⟩
def o_1768 (P : Params) : Obj := ⟨.none, none, fnO (My.top 265) (S "all_masks") (S "all_masks") 0 .none .none .none .none none .none .none 0, (List.toArray [])⟩
def o_1769 (P : Params) : Obj := ⟨(.type "code"), none, .fields (List.toArray [(.str (S "all_masks") 2842), (.str (S "all_masks") 2843), (.str (S "/claim/cut.py") 2844), (.int 1462 0), (.int 1 0), (.int 0 0), (.int 0 0), (.int 3 0), (.ref 1766), (.bool true), (.int 181 0), (.ref 1767), .none, .none, .none, (.ref 1768), (.int 2845 0), (.int 1462 0), (.str (S "/claim/cut.py") 2846)]), (List.toArray [])⟩
def o_1770 (P : Params) : Obj := ⟨(.type "function"), none, fnO (My.top 265) (S "all_masks") (S "all_masks") 3 .none .none .none (.str (S "leanscript.leastnames") 2830) none (.ref 1769) .none 0, (List.toArray [])⟩
def o_1771 (P : Params) : Obj := ⟨(.type "tuple"), none, .seq (List.toArray []) 0, (List.toArray [])⟩
def o_1772 (P : Params) : Obj := ⟨.none, none, .fields (List.toArray []), (List.toArray [])⟩
def o_1773 (P : Params) : Obj := ⟨.none, none, fnO (My.top 266) (S "least_of") (S "least_of") 0 .none .none .none .none none .none .none 0, (List.toArray [])⟩
def o_1774 (P : Params) : Obj := ⟨(.type "code"), none, .fields (List.toArray [(.str (S "least_of") 2848), (.str (S "least_of") 2849), (.str (S "/claim/cut.py") 2850), (.int 1464 0), (.int 1 0), (.int 0 0), (.int 0 0), (.int 3 0), (.ref 1771), (.bool true), (.int 181 0), (.ref 1772), .none, .none, .none, (.ref 1773), (.int 2851 0), (.int 1464 0), (.str (S "/claim/cut.py") 2852)]), (List.toArray [])⟩
def o_1775 (P : Params) : Obj := ⟨(.type "function"), none, fnO (My.top 266) (S "least_of") (S "least_of") 3 .none .none .none (.str (S "leanscript.leastnames") 2830) none (.ref 1774) .none 0, (List.toArray [])⟩
def o_1776 (P : Params) : Obj := ⟨(.type "tuple"), none, .seq (List.toArray []) 0, (List.toArray [])⟩
def o_1777 (P : Params) : Obj := ⟨.none, none, .fields (List.toArray []), (List.toArray [])⟩
def o_1778 (P : Params) : Obj := ⟨(.type "tuple"), none, .seq (List.toArray [(.str (S "tree") 2857), (.str (S "letters") 2858), (.str (S "_") 2859), (.str (S "naming") 2860)]) 0, (List.toArray [])⟩
def o_1779 (P : Params) : Obj := ⟨(.type "tuple"), none, .seq (List.toArray []) 0, (List.toArray [])⟩
def o_1780 (P : Params) : Obj := ⟨.none, none, fnO (My.top 267) (S "least_names") (S "least_names") 0 .none .none .none .none none .none .none 0, (List.toArray [])⟩
def o_1781 (P : Params) : Obj := ⟨(.type "code"), none, .fields (List.toArray [(.str (S "least_names") 2854), (.str (S "least_names") 2855), (.str (S "/claim/cut.py") 2856), (.int 1474 0), (.int 2 0), (.int 0 0), (.int 0 0), (.int 3 0), (.ref 1776), (.bool true), (.int 181 0), (.ref 1777), .none, (.ref 1778), (.ref 1779), (.ref 1780), (.int 2861 0), (.int 1474 0), (.str (S "/claim/cut.py") 2862)]), (List.toArray [])⟩
def o_1782 (P : Params) : Obj := ⟨(.type "function"), none, fnO (My.top 267) (S "least_names") (S "least_names") 3 .none .none .none (.str (S "leanscript.leastnames") 2830) none (.ref 1781) .none 0, (List.toArray [])⟩
def o_1783 (P : Params) : Obj := ⟨(.type "tuple"), none, .seq (List.toArray []) 0, (List.toArray [])⟩
def o_1784 (P : Params) : Obj := ⟨.none, none, .fields (List.toArray []), (List.toArray [])⟩
def o_1785 (P : Params) : Obj := ⟨(.type "tuple"), none, .seq (List.toArray [(.str (S "tree") 2869), (.str (S "letters") 2870)]) 0, (List.toArray [])⟩
def o_1786 (P : Params) : Obj := ⟨(.type "tuple"), none, .seq (List.toArray []) 0, (List.toArray [])⟩
def o_1787 (P : Params) : Obj := ⟨.none, none, fnO (My.top 269) (S "short_naming") (S "short_naming") 0 .none .none .none .none none .none .none 0, (List.toArray [])⟩
def o_1788 (P : Params) : Obj := ⟨(.type "code"), none, .fields (List.toArray [(.str (S "short_naming") 2866), (.str (S "short_naming") 2867), (.str (S "/claim/cut.py") 2868), (.int 1478 0), (.int 2 0), (.int 0 0), (.int 0 0), (.int 3 0), (.ref 1783), (.bool true), (.int 181 0), (.ref 1784), .none, (.ref 1785), (.ref 1786), (.ref 1787), (.int 2871 0), (.int 1478 0), (.str (S "/claim/cut.py") 2872)]), (List.toArray [])⟩
def o_1789 (P : Params) : Obj := ⟨(.type "function"), none, fnO (My.top 269) (S "short_naming") (S "short_naming") 3 .none .none .none (.str (S "leanscript.whole") 2864) none (.ref 1788) .none 0, (List.toArray [])⟩
def o_1790 (P : Params) : Obj := ⟨(.type "tuple"), none, .seq (List.toArray []) 0, (List.toArray [])⟩
def o_1791 (P : Params) : Obj := ⟨.none, none, .fields (List.toArray []), (List.toArray [])⟩
def o_1792 (P : Params) : Obj := ⟨(.type "tuple"), none, .seq (List.toArray [(.str (S "trace") 2877), (.str (S "size") 2878)]) 0, (List.toArray [])⟩
def o_1793 (P : Params) : Obj := ⟨(.type "tuple"), none, .seq (List.toArray []) 0, (List.toArray [])⟩
def o_1794 (P : Params) : Obj := ⟨.none, none, fnO (My.top 270) (S "make_lean") (S "make_lean") 0 .none .none .none .none none .none .none 0, (List.toArray [])⟩
def o_1795 (P : Params) : Obj := ⟨(.type "code"), none, .fields (List.toArray [(.str (S "make_lean") 2874), (.str (S "make_lean") 2875), (.str (S "/claim/cut.py") 2876), (.int 1482 0), (.int 1 0), (.int 0 0), (.int 0 0), (.int 3 0), (.ref 1790), (.bool true), (.int 181 0), (.ref 1791), .none, (.ref 1792), (.ref 1793), (.ref 1794), (.int 2879 0), (.int 1482 0), (.str (S "/claim/cut.py") 2880)]), (List.toArray [])⟩
def o_1796 (P : Params) : Obj := ⟨(.type "function"), none, fnO (My.top 270) (S "make_lean") (S "make_lean") 3 .none .none .none (.str (S "leanscript.whole") 2864) none (.ref 1795) .none 0, (List.toArray [])⟩
def o_1797 (P : Params) : Obj := ⟨(.type "tuple"), none, .seq (List.toArray []) 0, (List.toArray [])⟩
def o_1798 (P : Params) : Obj := ⟨.none, none, .fields (List.toArray []), (List.toArray [])⟩
def o_1799 (P : Params) : Obj := ⟨(.type "tuple"), none, .seq (List.toArray [(.str (S "text") 2885), (.str (S "letters") 2886), (.str (S "keep") 2887), (.str (S "trace") 2888), (.str (S "told") 2889)]) 0, (List.toArray [])⟩
def o_1800 (P : Params) : Obj := ⟨(.type "tuple"), none, .seq (List.toArray []) 0, (List.toArray [])⟩
def o_1801 (P : Params) : Obj := ⟨.none, none, fnO (My.top 271) (S "shortened") (S "shortened") 0 .none .none .none .none none .none .none 0, (List.toArray [])⟩
def o_1802 (P : Params) : Obj := ⟨(.type "code"), none, .fields (List.toArray [(.str (S "shortened") 2882), (.str (S "shortened") 2883), (.str (S "/claim/cut.py") 2884), (.int 1488 0), (.int 3 0), (.int 0 0), (.int 0 0), (.int 3 0), (.ref 1797), (.bool true), (.int 181 0), (.ref 1798), .none, (.ref 1799), (.ref 1800), (.ref 1801), (.int 2890 0), (.int 1488 0), (.str (S "/claim/cut.py") 2891)]), (List.toArray [])⟩
def o_1803 (P : Params) : Obj := ⟨(.type "function"), none, fnO (My.top 271) (S "shortened") (S "shortened") 3 .none .none .none (.str (S "leanscript.whole") 2864) none (.ref 1802) .none 0, (List.toArray [])⟩
def o_1804 (P : Params) : Obj := ⟨(.type "tuple"), none, .seq (List.toArray []) 0, (List.toArray [])⟩
def o_1805 (P : Params) : Obj := ⟨(.type "dict"), none, .dict (List.toArray [⟨(PyData.keyHash P (S "keep")), (.str (S "keep") 2893), (.ref 1804)⟩]) 1, (List.toArray [])⟩
def o_1806 (P : Params) : Obj := ⟨(.type "tuple"), none, .seq (List.toArray []) 0, (List.toArray [])⟩
def o_1807 (P : Params) : Obj := ⟨.none, none, .fields (List.toArray []), (List.toArray [])⟩
def o_1808 (P : Params) : Obj := ⟨(.type "tuple"), none, .seq (List.toArray [(.str (S "text") 2897), (.str (S "letters") 2898), (.str (S "keep") 2899), (.str (S "trace") 2900), (.str (S "_") 2901)]) 0, (List.toArray [])⟩
def o_1809 (P : Params) : Obj := ⟨(.type "tuple"), none, .seq (List.toArray []) 0, (List.toArray [])⟩
def o_1810 (P : Params) : Obj := ⟨.none, none, fnO (My.top 272) (S "lean") (S "lean") 0 .none .none .none .none none .none .none 0, (List.toArray [])⟩
def o_1811 (P : Params) : Obj := ⟨(.type "code"), none, .fields (List.toArray [(.str (S "lean") 2894), (.str (S "lean") 2895), (.str (S "/claim/cut.py") 2896), (.int 1499 0), (.int 2 0), (.int 0 0), (.int 1 0), (.int 3 0), (.ref 1806), (.bool true), (.int 181 0), (.ref 1807), .none, (.ref 1808), (.ref 1809), (.ref 1810), (.int 2902 0), (.int 1499 0), (.str (S "/claim/cut.py") 2903)]), (List.toArray [])⟩
def o_1812 (P : Params) : Obj := ⟨(.type "function"), none, fnO (My.top 272) (S "lean") (S "lean") 3 .none (.ref 1805) .none (.str (S "leanscript.whole") 2864) none (.ref 1811) .none 0, (List.toArray [])⟩
def o_1813 (P : Params) : Obj := ⟨(.type "tuple"), none, .seq (List.toArray []) 0, (List.toArray [])⟩
def o_1814 (P : Params) : Obj := ⟨(.type "dict"), none, .dict (List.toArray [⟨(PyData.keyHash P (S "keep")), (.str (S "keep") 2905), (.ref 1813)⟩]) 1, (List.toArray [])⟩
def o_1815 (P : Params) : Obj := ⟨(.type "tuple"), none, .seq (List.toArray []) 0, (List.toArray [])⟩
def o_1816 (P : Params) : Obj := ⟨.none, none, .fields (List.toArray []), (List.toArray [])⟩
def o_1817 (P : Params) : Obj := ⟨(.type "tuple"), none, .seq (List.toArray [(.str (S "text") 2909), (.str (S "letters") 2910), (.str (S "keep") 2911), (.str (S "_") 2912), (.str (S "told") 2913)]) 0, (List.toArray [])⟩
def o_1818 (P : Params) : Obj := ⟨(.type "tuple"), none, .seq (List.toArray []) 0, (List.toArray [])⟩
def o_1819 (P : Params) : Obj := ⟨.none, none, fnO (My.top 273) (S "leaned") (S "leaned") 0 .none .none .none .none none .none .none 0, (List.toArray [])⟩
def o_1820 (P : Params) : Obj := ⟨(.type "code"), none, .fields (List.toArray [(.str (S "leaned") 2906), (.str (S "leaned") 2907), (.str (S "/claim/cut.py") 2908), (.int 1502 0), (.int 2 0), (.int 0 0), (.int 1 0), (.int 3 0), (.ref 1815), (.bool true), (.int 181 0), (.ref 1816), .none, (.ref 1817), (.ref 1818), (.ref 1819), (.int 2914 0), (.int 1502 0), (.str (S "/claim/cut.py") 2915)]), (List.toArray [])⟩
def o_1821 (P : Params) : Obj := ⟨(.type "function"), none, fnO (My.top 273) (S "leaned") (S "leaned") 3 .none (.ref 1814) .none (.str (S "leanscript.whole") 2864) none (.ref 1820) .none 0, (List.toArray [])⟩
def o_1822 (P : Params) : Obj := ⟨(.type "tuple"), none, .seq (List.toArray []) 0, (List.toArray [])⟩
def o_1823 (P : Params) : Obj := ⟨.none, none, .fields (List.toArray []), (List.toArray [])⟩
def o_1824 (P : Params) : Obj := ⟨(.type "tuple"), none, .seq (List.toArray [(.str (S "cell") 2922), (.str (S "k") 2923), (.str (S "mix") 2924)]) 0, (List.toArray [])⟩
def o_1825 (P : Params) : Obj := ⟨(.type "tuple"), none, .seq (List.toArray []) 0, (List.toArray [])⟩
def o_1826 (P : Params) : Obj := ⟨.none, none, fnO (My.top 275) (S "_law_mixed") (S "_law_mixed") 0 .none .none .none .none none .none .none 0, (List.toArray [])⟩
def o_1827 (P : Params) : Obj := ⟨(.type "code"), none, .fields (List.toArray [(.str (S "_law_mixed") 2919), (.str (S "_law_mixed") 2920), (.str (S "/claim/cut.py") 2921), (.int 1506 0), (.int 2 0), (.int 0 0), (.int 0 0), (.int 3 0), (.ref 1822), (.bool true), (.int 181 0), (.ref 1823), .none, (.ref 1824), (.ref 1825), (.ref 1826), (.int 2925 0), (.int 1506 0), (.str (S "/claim/cut.py") 2926)]), (List.toArray [])⟩
def o_1828 (P : Params) : Obj := ⟨(.type "function"), none, fnO (My.top 275) (S "_law_mixed") (S "_law_mixed") 3 .none .none .none (.str (S "law_leanscript_k02_refused_words") 2917) none (.ref 1827) .none 0, (List.toArray [])⟩
def o_1829 (P : Params) : Obj := ⟨(.type "tuple"), none, .seq (List.toArray []) 0, (List.toArray [])⟩
def o_1830 (P : Params) : Obj := ⟨.none, none, .fields (List.toArray []), (List.toArray [])⟩
def o_1831 (P : Params) : Obj := ⟨(.type "tuple"), none, .seq (List.toArray [(.str (S "script") 2931), (.str (S "k") 2932), (.str (S "cell") 2933), (.str (S "found") 2934), (.str (S "j") 2935)]) 0, (List.toArray [])⟩
def o_1832 (P : Params) : Obj := ⟨(.type "tuple"), none, .seq (List.toArray []) 0, (List.toArray [])⟩
def o_1833 (P : Params) : Obj := ⟨.none, none, fnO (My.top 276) (S "_law_cell") (S "_law_cell") 0 .none .none .none .none none .none .none 0, (List.toArray [])⟩
def o_1834 (P : Params) : Obj := ⟨(.type "code"), none, .fields (List.toArray [(.str (S "_law_cell") 2928), (.str (S "_law_cell") 2929), (.str (S "/claim/cut.py") 2930), (.int 1510 0), (.int 2 0), (.int 0 0), (.int 0 0), (.int 3 0), (.ref 1829), (.bool true), (.int 181 0), (.ref 1830), .none, (.ref 1831), (.ref 1832), (.ref 1833), (.int 2936 0), (.int 1510 0), (.str (S "/claim/cut.py") 2937)]), (List.toArray [])⟩
def o_1835 (P : Params) : Obj := ⟨(.type "function"), none, fnO (My.top 276) (S "_law_cell") (S "_law_cell") 3 .none .none .none (.str (S "law_leanscript_k02_refused_words") 2917) none (.ref 1834) .none 0, (List.toArray [])⟩
def o_1836 (P : Params) : Obj := ⟨(.type "tuple"), none, .seq (List.toArray []) 0, (List.toArray [])⟩
def o_1837 (P : Params) : Obj := ⟨.none, none, .fields (List.toArray []), (List.toArray [])⟩
def o_1838 (P : Params) : Obj := ⟨(.type "tuple"), none, .seq (List.toArray [(.str (S "pile") 2942), (.str (S "size") 2943), (.str (S "digit") 2944)]) 0, (List.toArray [])⟩
def o_1839 (P : Params) : Obj := ⟨(.type "tuple"), none, .seq (List.toArray []) 0, (List.toArray [])⟩
def o_1840 (P : Params) : Obj := ⟨.none, none, fnO (My.top 277) (S "_law_take") (S "_law_take") 0 .none .none .none .none none .none .none 0, (List.toArray [])⟩
def o_1841 (P : Params) : Obj := ⟨(.type "code"), none, .fields (List.toArray [(.str (S "_law_take") 2939), (.str (S "_law_take") 2940), (.str (S "/claim/cut.py") 2941), (.int 1520 0), (.int 2 0), (.int 0 0), (.int 0 0), (.int 3 0), (.ref 1836), (.bool true), (.int 181 0), (.ref 1837), .none, (.ref 1838), (.ref 1839), (.ref 1840), (.int 2945 0), (.int 1520 0), (.str (S "/claim/cut.py") 2946)]), (List.toArray [])⟩
def o_1842 (P : Params) : Obj := ⟨(.type "function"), none, fnO (My.top 277) (S "_law_take") (S "_law_take") 3 .none .none .none (.str (S "law_leanscript_k02_refused_words") 2917) none (.ref 1841) .none 0, (List.toArray [])⟩
def o_1843 (P : Params) : Obj := ⟨(.type "tuple"), none, .seq (List.toArray []) 0, (List.toArray [])⟩
def o_1844 (P : Params) : Obj := ⟨.none, none, .fields (List.toArray []), (List.toArray [])⟩
def o_1845 (P : Params) : Obj := ⟨.none, none, fnO (My.top 278) (S "_law_only") (S "_law_only") 0 .none .none .none .none none .none .none 0, (List.toArray [])⟩
def o_1846 (P : Params) : Obj := ⟨(.type "code"), none, .fields (List.toArray [(.str (S "_law_only") 2948), (.str (S "_law_only") 2949), (.str (S "/claim/cut.py") 2950), (.int 1524 0), (.int 2 0), (.int 0 0), (.int 0 0), (.int 3 0), (.ref 1843), (.bool true), (.int 181 0), (.ref 1844), .none, .none, .none, (.ref 1845), (.int 2951 0), (.int 1524 0), (.str (S "/claim/cut.py") 2952)]), (List.toArray [])⟩
def o_1847 (P : Params) : Obj := ⟨(.type "function"), none, fnO (My.top 278) (S "_law_only") (S "_law_only") 3 .none .none .none (.str (S "law_leanscript_k02_refused_words") 2917) none (.ref 1846) .none 0, (List.toArray [])⟩
def o_1848 (P : Params) : Obj := ⟨(.type "tuple"), none, .seq (List.toArray []) 0, (List.toArray [])⟩
def o_1849 (P : Params) : Obj := ⟨.none, none, .fields (List.toArray []), (List.toArray [])⟩
def o_1850 (P : Params) : Obj := ⟨(.type "tuple"), none, .seq (List.toArray [(.str (S "which") 2957), (.str (S "text") 2958), (.str (S "caught") 2959), (.str (S "e") 2960)]) 0, (List.toArray [])⟩
def o_1851 (P : Params) : Obj := ⟨(.type "tuple"), none, .seq (List.toArray []) 0, (List.toArray [])⟩
def o_1852 (P : Params) : Obj := ⟨.none, none, fnO (My.top 279) (S "_law_asked") (S "_law_asked") 0 .none .none .none .none none .none .none 0, (List.toArray [])⟩
def o_1853 (P : Params) : Obj := ⟨(.type "code"), none, .fields (List.toArray [(.str (S "_law_asked") 2954), (.str (S "_law_asked") 2955), (.str (S "/claim/cut.py") 2956), (.int 1536 0), (.int 2 0), (.int 0 0), (.int 0 0), (.int 3 0), (.ref 1848), (.bool true), (.int 181 0), (.ref 1849), .none, (.ref 1850), (.ref 1851), (.ref 1852), (.int 2961 0), (.int 1536 0), (.str (S "/claim/cut.py") 2962)]), (List.toArray [])⟩
def o_1854 (P : Params) : Obj := ⟨(.type "function"), none, fnO (My.top 279) (S "_law_asked") (S "_law_asked") 3 .none .none .none (.str (S "law_leanscript_k02_refused_words") 2917) none (.ref 1853) .none 0, (List.toArray [])⟩
def o_1855 (P : Params) : Obj := ⟨(.type "tuple"), none, .seq (List.toArray []) 0, (List.toArray [])⟩
def o_1856 (P : Params) : Obj := ⟨.none, none, .fields (List.toArray []), (List.toArray [])⟩
def o_1857 (P : Params) : Obj := ⟨(.type "tuple"), none, .seq (List.toArray [(.str (S "ahead") 2967), (.str (S "bad") 2968), (.str (S "off") 2969), (.str (S "behind") 2970), (.str (S "text") 2971), (.str (S "which") 2972), (.str (S "caught") 2973)]) 0, (List.toArray [])⟩
def o_1858 (P : Params) : Obj := ⟨(.type "tuple"), none, .seq (List.toArray []) 0, (List.toArray [])⟩
def o_1859 (P : Params) : Obj := ⟨.none, none, fnO (My.top 280) (S "_law_good") (S "_law_good") 0 .none .none .none .none none .none .none 0, (List.toArray [])⟩
def o_1860 (P : Params) : Obj := ⟨(.type "code"), none, .fields (List.toArray [(.str (S "_law_good") 2964), (.str (S "_law_good") 2965), (.str (S "/claim/cut.py") 2966), (.int 1554 0), (.int 4 0), (.int 0 0), (.int 0 0), (.int 3 0), (.ref 1855), (.bool true), (.int 181 0), (.ref 1856), .none, (.ref 1857), (.ref 1858), (.ref 1859), (.int 2974 0), (.int 1554 0), (.str (S "/claim/cut.py") 2975)]), (List.toArray [])⟩
def o_1861 (P : Params) : Obj := ⟨(.type "function"), none, fnO (My.top 280) (S "_law_good") (S "_law_good") 3 .none .none .none (.str (S "law_leanscript_k02_refused_words") 2917) none (.ref 1860) .none 0, (List.toArray [])⟩
def o_1862 (P : Params) : Obj := ⟨(.type "tuple"), none, .seq (List.toArray []) 0, (List.toArray [])⟩
def o_1863 (P : Params) : Obj := ⟨.none, none, .fields (List.toArray []), (List.toArray [])⟩
def o_1864 (P : Params) : Obj := ⟨.none, none, fnO (My.top 281) (S "law") (S "law") 0 .none .none .none .none none .none .none 0, (List.toArray [])⟩
def o_1865 (P : Params) : Obj := ⟨(.type "code"), none, .fields (List.toArray [(.str (S "law") 2977), (.str (S "law") 2978), (.str (S "/claim/cut.py") 2979), (.int 1561 0), (.int 1 0), (.int 0 0), (.int 0 0), (.int 3 0), (.ref 1862), (.bool true), (.int 181 0), (.ref 1863), .none, .none, .none, (.ref 1864), (.int 2980 0), (.int 1561 0), (.str (S "/claim/cut.py") 2981)]), (List.toArray [])⟩
def o_1866 (P : Params) : Obj := ⟨(.type "function"), none, fnO (My.top 281) (S "law") (S "law") 3 .none .none .none (.str (S "law_leanscript_k02_refused_words") 2917) none (.ref 1865) .none 0, (List.toArray [])⟩
def T4 (P : Params) : PySem.W.BT := (.node (boot_o_0 P) (.node (boot_o_1 P) (.node (o_3_3 P) (.node (boot_o_7 P) (.node (o_15 P) (.node (o_31 P) (.node (o_63 P) (.node (o_127 P) (.node (o_255 P) (.node (o_511 P) (.node (o_1023 P) .nil .nil) (.node (o_1535 P) .nil .nil)) (.node (o_767 P) (.node (o_1279 P) .nil .nil) (.node (o_1791 P) .nil .nil))) (.node (o_383 P) (.node (o_639 P) (.node (o_1151 P) .nil .nil) (.node (o_1663 P) .nil .nil)) (.node (o_895 P) (.node (o_1407 P) .nil .nil) .nil))) (.node (o_191 P) (.node (o_319 P) (.node (o_575 P) (.node (o_1087 P) .nil .nil) (.node (o_1599 P) .nil .nil)) (.node (o_831 P) (.node (o_1343 P) .nil .nil) (.node (o_1855 P) .nil .nil))) (.node (o_447 P) (.node (o_703 P) (.node (o_1215 P) .nil .nil) (.node (o_1727 P) .nil .nil)) (.node (o_959 P) (.node (o_1471 P) .nil .nil) .nil)))) (.node (o_95 P) (.node (o_159 P) (.node (o_287 P) (.node (o_543 P) (.node (o_1055 P) .nil .nil) (.node (o_1567 P) .nil .nil)) (.node (o_799 P) (.node (o_1311 P) .nil .nil) (.node (o_1823 P) .nil .nil))) (.node (o_415 P) (.node (o_671 P) (.node (o_1183 P) .nil .nil) (.node (o_1695 P) .nil .nil)) (.node (o_927 P) (.node (o_1439 P) .nil .nil) .nil))) (.node (o_223 P) (.node (o_351 P) (.node (o_607 P) (.node (o_1119 P) .nil .nil) (.node (o_1631 P) .nil .nil)) (.node (o_863 P) (.node (o_1375 P) .nil .nil) .nil)) (.node (o_479 P) (.node (o_735 P) (.node (o_1247 P) .nil .nil) (.node (o_1759 P) .nil .nil)) (.node (o_991 P) (.node (o_1503 P) .nil .nil) .nil))))) (.node (o_47 P) (.node (o_79 P) (.node (o_143 P) (.node (o_271 P) (.node (o_527 P) (.node (o_1039 P) .nil .nil) (.node (o_1551 P) .nil .nil)) (.node (o_783 P) (.node (o_1295 P) .nil .nil) (.node (o_1807 P) .nil .nil))) (.node (o_399 P) (.node (o_655 P) (.node (o_1167 P) .nil .nil) (.node (o_1679 P) .nil .nil)) (.node (o_911 P) (.node (o_1423 P) .nil .nil) .nil))) (.node (o_207 P) (.node (o_335 P) (.node (o_591 P) (.node (o_1103 P) .nil .nil) (.node (o_1615 P) .nil .nil)) (.node (o_847 P) (.node (o_1359 P) .nil .nil) .nil)) (.node (o_463 P) (.node (o_719 P) (.node (o_1231 P) .nil .nil) (.node (o_1743 P) .nil .nil)) (.node (o_975 P) (.node (o_1487 P) .nil .nil) .nil)))) (.node (o_111 P) (.node (o_175 P) (.node (o_303 P) (.node (o_559 P) (.node (o_1071 P) .nil .nil) (.node (o_1583 P) .nil .nil)) (.node (o_815 P) (.node (o_1327 P) .nil .nil) (.node (o_1839 P) .nil .nil))) (.node (o_431 P) (.node (o_687 P) (.node (o_1199 P) .nil .nil) (.node (o_1711 P) .nil .nil)) (.node (o_943 P) (.node (o_1455 P) .nil .nil) .nil))) (.node (o_239 P) (.node (o_367 P) (.node (o_623 P) (.node (o_1135 P) .nil .nil) (.node (o_1647 P) .nil .nil)) (.node (o_879 P) (.node (o_1391 P) .nil .nil) .nil)) (.node (o_495 P) (.node (o_751 P) (.node (o_1263 P) .nil .nil) (.node (o_1775 P) .nil .nil)) (.node (o_1007 P) (.node (o_1519 P) .nil .nil) .nil)))))) (.node (o_23 P) (.node (o_39 P) (.node (o_71 P) (.node (o_135 P) (.node (o_263 P) (.node (o_519 P) (.node (o_1031 P) .nil .nil) (.node (o_1543 P) .nil .nil)) (.node (o_775 P) (.node (o_1287 P) .nil .nil) (.node (o_1799 P) .nil .nil))) (.node (o_391 P) (.node (o_647 P) (.node (o_1159 P) .nil .nil) (.node (o_1671 P) .nil .nil)) (.node (o_903 P) (.node (o_1415 P) .nil .nil) .nil))) (.node (o_199 P) (.node (o_327 P) (.node (o_583 P) (.node (o_1095 P) .nil .nil) (.node (o_1607 P) .nil .nil)) (.node (o_839 P) (.node (o_1351 P) .nil .nil) (.node (o_1863 P) .nil .nil))) (.node (o_455 P) (.node (o_711 P) (.node (o_1223 P) .nil .nil) (.node (o_1735 P) .nil .nil)) (.node (o_967 P) (.node (o_1479 P) .nil .nil) .nil)))) (.node (o_103 P) (.node (o_167 P) (.node (o_295 P) (.node (o_551 P) (.node (o_1063 P) .nil .nil) (.node (o_1575 P) .nil .nil)) (.node (o_807 P) (.node (o_1319 P) .nil .nil) (.node (o_1831 P) .nil .nil))) (.node (o_423 P) (.node (o_679 P) (.node (o_1191 P) .nil .nil) (.node (o_1703 P) .nil .nil)) (.node (o_935 P) (.node (o_1447 P) .nil .nil) .nil))) (.node (o_231 P) (.node (o_359 P) (.node (o_615 P) (.node (o_1127 P) .nil .nil) (.node (o_1639 P) .nil .nil)) (.node (o_871 P) (.node (o_1383 P) .nil .nil) .nil)) (.node (o_487 P) (.node (o_743 P) (.node (o_1255 P) .nil .nil) (.node (o_1767 P) .nil .nil)) (.node (o_999 P) (.node (o_1511 P) .nil .nil) .nil))))) (.node (o_55 P) (.node (o_87 P) (.node (o_151 P) (.node (o_279 P) (.node (o_535 P) (.node (o_1047 P) .nil .nil) (.node (o_1559 P) .nil .nil)) (.node (o_791 P) (.node (o_1303 P) .nil .nil) (.node (o_1815 P) .nil .nil))) (.node (o_407 P) (.node (o_663 P) (.node (o_1175 P) .nil .nil) (.node (o_1687 P) .nil .nil)) (.node (o_919 P) (.node (o_1431 P) .nil .nil) .nil))) (.node (o_215 P) (.node (o_343 P) (.node (o_599 P) (.node (o_1111 P) .nil .nil) (.node (o_1623 P) .nil .nil)) (.node (o_855 P) (.node (o_1367 P) .nil .nil) .nil)) (.node (o_471 P) (.node (o_727 P) (.node (o_1239 P) .nil .nil) (.node (o_1751 P) .nil .nil)) (.node (o_983 P) (.node (o_1495 P) .nil .nil) .nil)))) (.node (o_119 P) (.node (o_183 P) (.node (o_311 P) (.node (o_567 P) (.node (o_1079 P) .nil .nil) (.node (o_1591 P) .nil .nil)) (.node (o_823 P) (.node (o_1335 P) .nil .nil) (.node (o_1847 P) .nil .nil))) (.node (o_439 P) (.node (o_695 P) (.node (o_1207 P) .nil .nil) (.node (o_1719 P) .nil .nil)) (.node (o_951 P) (.node (o_1463 P) .nil .nil) .nil))) (.node (o_247 P) (.node (o_375 P) (.node (o_631 P) (.node (o_1143 P) .nil .nil) (.node (o_1655 P) .nil .nil)) (.node (o_887 P) (.node (o_1399 P) .nil .nil) .nil)) (.node (o_503 P) (.node (o_759 P) (.node (o_1271 P) .nil .nil) (.node (o_1783 P) .nil .nil)) (.node (o_1015 P) (.node (o_1527 P) .nil .nil) .nil))))))) (.node (o_11 P) (.node (o_19 P) (.node (o_35 P) (.node (o_67 P) (.node (o_131 P) (.node (o_259 P) (.node (o_515 P) (.node (o_1027 P) .nil .nil) (.node (o_1539 P) .nil .nil)) (.node (o_771 P) (.node (o_1283 P) .nil .nil) (.node (o_1795 P) .nil .nil))) (.node (o_387 P) (.node (o_643 P) (.node (o_1155 P) .nil .nil) (.node (o_1667 P) .nil .nil)) (.node (o_899 P) (.node (o_1411 P) .nil .nil) .nil))) (.node (o_195 P) (.node (o_323 P) (.node (o_579 P) (.node (o_1091 P) .nil .nil) (.node (o_1603 P) .nil .nil)) (.node (o_835 P) (.node (o_1347 P) .nil .nil) (.node (o_1859 P) .nil .nil))) (.node (o_451 P) (.node (o_707 P) (.node (o_1219 P) .nil .nil) (.node (o_1731 P) .nil .nil)) (.node (o_963 P) (.node (o_1475 P) .nil .nil) .nil)))) (.node (o_99 P) (.node (o_163 P) (.node (o_291 P) (.node (o_547 P) (.node (o_1059 P) .nil .nil) (.node (o_1571 P) .nil .nil)) (.node (o_803 P) (.node (o_1315 P) .nil .nil) (.node (o_1827 P) .nil .nil))) (.node (o_419 P) (.node (o_675 P) (.node (o_1187 P) .nil .nil) (.node (o_1699 P) .nil .nil)) (.node (o_931 P) (.node (o_1443 P) .nil .nil) .nil))) (.node (o_227 P) (.node (o_355 P) (.node (o_611 P) (.node (o_1123 P) .nil .nil) (.node (o_1635 P) .nil .nil)) (.node (o_867 P) (.node (o_1379 P) .nil .nil) .nil)) (.node (o_483 P) (.node (o_739 P) (.node (o_1251 P) .nil .nil) (.node (o_1763 P) .nil .nil)) (.node (o_995 P) (.node (o_1507 P) .nil .nil) .nil))))) (.node (o_51 P) (.node (o_83 P) (.node (o_147 P) (.node (o_275 P) (.node (o_531 P) (.node (o_1043 P) .nil .nil) (.node (o_1555 P) .nil .nil)) (.node (o_787 P) (.node (o_1299 P) .nil .nil) (.node (o_1811 P) .nil .nil))) (.node (o_403 P) (.node (o_659 P) (.node (o_1171 P) .nil .nil) (.node (o_1683 P) .nil .nil)) (.node (o_915 P) (.node (o_1427 P) .nil .nil) .nil))) (.node (o_211 P) (.node (o_339 P) (.node (o_595 P) (.node (o_1107 P) .nil .nil) (.node (o_1619 P) .nil .nil)) (.node (o_851 P) (.node (o_1363 P) .nil .nil) .nil)) (.node (o_467 P) (.node (o_723 P) (.node (o_1235 P) .nil .nil) (.node (o_1747 P) .nil .nil)) (.node (o_979 P) (.node (o_1491 P) .nil .nil) .nil)))) (.node (o_115 P) (.node (o_179 P) (.node (o_307 P) (.node (o_563 P) (.node (o_1075 P) .nil .nil) (.node (o_1587 P) .nil .nil)) (.node (o_819 P) (.node (o_1331 P) .nil .nil) (.node (o_1843 P) .nil .nil))) (.node (o_435 P) (.node (o_691 P) (.node (o_1203 P) .nil .nil) (.node (o_1715 P) .nil .nil)) (.node (o_947 P) (.node (o_1459 P) .nil .nil) .nil))) (.node (o_243 P) (.node (o_371 P) (.node (o_627 P) (.node (o_1139 P) .nil .nil) (.node (o_1651 P) .nil .nil)) (.node (o_883 P) (.node (o_1395 P) .nil .nil) .nil)) (.node (o_499 P) (.node (o_755 P) (.node (o_1267 P) .nil .nil) (.node (o_1779 P) .nil .nil)) (.node (o_1011 P) (.node (o_1523 P) .nil .nil) .nil)))))) (.node (o_27 P) (.node (o_43 P) (.node (o_75 P) (.node (o_139 P) (.node (o_267 P) (.node (o_523 P) (.node (o_1035 P) .nil .nil) (.node (o_1547 P) .nil .nil)) (.node (o_779 P) (.node (o_1291 P) .nil .nil) (.node (o_1803 P) .nil .nil))) (.node (o_395 P) (.node (o_651 P) (.node (o_1163 P) .nil .nil) (.node (o_1675 P) .nil .nil)) (.node (o_907 P) (.node (o_1419 P) .nil .nil) .nil))) (.node (o_203 P) (.node (o_331 P) (.node (o_587 P) (.node (o_1099 P) .nil .nil) (.node (o_1611 P) .nil .nil)) (.node (o_843 P) (.node (o_1355 P) .nil .nil) .nil)) (.node (o_459 P) (.node (o_715 P) (.node (o_1227 P) .nil .nil) (.node (o_1739 P) .nil .nil)) (.node (o_971 P) (.node (o_1483 P) .nil .nil) .nil)))) (.node (o_107 P) (.node (o_171 P) (.node (o_299 P) (.node (o_555 P) (.node (o_1067 P) .nil .nil) (.node (o_1579 P) .nil .nil)) (.node (o_811 P) (.node (o_1323 P) .nil .nil) (.node (o_1835 P) .nil .nil))) (.node (o_427 P) (.node (o_683 P) (.node (o_1195 P) .nil .nil) (.node (o_1707 P) .nil .nil)) (.node (o_939 P) (.node (o_1451 P) .nil .nil) .nil))) (.node (o_235 P) (.node (o_363 P) (.node (o_619 P) (.node (o_1131 P) .nil .nil) (.node (o_1643 P) .nil .nil)) (.node (o_875 P) (.node (o_1387 P) .nil .nil) .nil)) (.node (o_491 P) (.node (o_747 P) (.node (o_1259 P) .nil .nil) (.node (o_1771 P) .nil .nil)) (.node (o_1003 P) (.node (o_1515 P) .nil .nil) .nil))))) (.node (o_59 P) (.node (o_91 P) (.node (o_155 P) (.node (o_283 P) (.node (o_539 P) (.node (o_1051 P) .nil .nil) (.node (o_1563 P) .nil .nil)) (.node (o_795 P) (.node (o_1307 P) .nil .nil) (.node (o_1819 P) .nil .nil))) (.node (o_411 P) (.node (o_667 P) (.node (o_1179 P) .nil .nil) (.node (o_1691 P) .nil .nil)) (.node (o_923 P) (.node (o_1435 P) .nil .nil) .nil))) (.node (o_219 P) (.node (o_347 P) (.node (o_603 P) (.node (o_1115 P) .nil .nil) (.node (o_1627 P) .nil .nil)) (.node (o_859 P) (.node (o_1371 P) .nil .nil) .nil)) (.node (o_475 P) (.node (o_731 P) (.node (o_1243 P) .nil .nil) (.node (o_1755 P) .nil .nil)) (.node (o_987 P) (.node (o_1499 P) .nil .nil) .nil)))) (.node (o_123 P) (.node (o_187 P) (.node (o_315 P) (.node (o_571 P) (.node (o_1083 P) .nil .nil) (.node (o_1595 P) .nil .nil)) (.node (o_827 P) (.node (o_1339 P) .nil .nil) (.node (o_1851 P) .nil .nil))) (.node (o_443 P) (.node (o_699 P) (.node (o_1211 P) .nil .nil) (.node (o_1723 P) .nil .nil)) (.node (o_955 P) (.node (o_1467 P) .nil .nil) .nil))) (.node (o_251 P) (.node (o_379 P) (.node (o_635 P) (.node (o_1147 P) .nil .nil) (.node (o_1659 P) .nil .nil)) (.node (o_891 P) (.node (o_1403 P) .nil .nil) .nil)) (.node (o_507 P) (.node (o_763 P) (.node (o_1275 P) .nil .nil) (.node (o_1787 P) .nil .nil)) (.node (o_1019 P) (.node (o_1531 P) .nil .nil) .nil)))))))) (.node (boot_o_5 P) (.node (boot_o_9 P) (.node (o_17 P) (.node (o_33 P) (.node (o_65 P) (.node (o_129 P) (.node (o_257 P) (.node (o_513 P) (.node (o_1025 P) .nil .nil) (.node (o_1537 P) .nil .nil)) (.node (o_769 P) (.node (o_1281 P) .nil .nil) (.node (o_1793 P) .nil .nil))) (.node (o_385 P) (.node (o_641 P) (.node (o_1153 P) .nil .nil) (.node (o_1665 P) .nil .nil)) (.node (o_897 P) (.node (o_1409 P) .nil .nil) .nil))) (.node (o_193 P) (.node (o_321 P) (.node (o_577 P) (.node (o_1089 P) .nil .nil) (.node (o_1601 P) .nil .nil)) (.node (o_833 P) (.node (o_1345 P) .nil .nil) (.node (o_1857 P) .nil .nil))) (.node (o_449 P) (.node (o_705 P) (.node (o_1217 P) .nil .nil) (.node (o_1729 P) .nil .nil)) (.node (o_961 P) (.node (o_1473 P) .nil .nil) .nil)))) (.node (o_97 P) (.node (o_161 P) (.node (o_289 P) (.node (o_545 P) (.node (o_1057 P) .nil .nil) (.node (o_1569 P) .nil .nil)) (.node (o_801 P) (.node (o_1313 P) .nil .nil) (.node (o_1825 P) .nil .nil))) (.node (o_417 P) (.node (o_673 P) (.node (o_1185 P) .nil .nil) (.node (o_1697 P) .nil .nil)) (.node (o_929 P) (.node (o_1441 P) .nil .nil) .nil))) (.node (o_225 P) (.node (o_353 P) (.node (o_609 P) (.node (o_1121 P) .nil .nil) (.node (o_1633 P) .nil .nil)) (.node (o_865 P) (.node (o_1377 P) .nil .nil) .nil)) (.node (o_481 P) (.node (o_737 P) (.node (o_1249 P) .nil .nil) (.node (o_1761 P) .nil .nil)) (.node (o_993 P) (.node (o_1505 P) .nil .nil) .nil))))) (.node (o_49 P) (.node (o_81 P) (.node (o_145 P) (.node (o_273 P) (.node (o_529 P) (.node (o_1041 P) .nil .nil) (.node (o_1553 P) .nil .nil)) (.node (o_785 P) (.node (o_1297 P) .nil .nil) (.node (o_1809 P) .nil .nil))) (.node (o_401 P) (.node (o_657 P) (.node (o_1169 P) .nil .nil) (.node (o_1681 P) .nil .nil)) (.node (o_913 P) (.node (o_1425 P) .nil .nil) .nil))) (.node (o_209 P) (.node (o_337 P) (.node (o_593 P) (.node (o_1105 P) .nil .nil) (.node (o_1617 P) .nil .nil)) (.node (o_849 P) (.node (o_1361 P) .nil .nil) .nil)) (.node (o_465 P) (.node (o_721 P) (.node (o_1233 P) .nil .nil) (.node (o_1745 P) .nil .nil)) (.node (o_977 P) (.node (o_1489 P) .nil .nil) .nil)))) (.node (o_113 P) (.node (o_177 P) (.node (o_305 P) (.node (o_561 P) (.node (o_1073 P) .nil .nil) (.node (o_1585 P) .nil .nil)) (.node (o_817 P) (.node (o_1329 P) .nil .nil) (.node (o_1841 P) .nil .nil))) (.node (o_433 P) (.node (o_689 P) (.node (o_1201 P) .nil .nil) (.node (o_1713 P) .nil .nil)) (.node (o_945 P) (.node (o_1457 P) .nil .nil) .nil))) (.node (o_241 P) (.node (o_369 P) (.node (o_625 P) (.node (o_1137 P) .nil .nil) (.node (o_1649 P) .nil .nil)) (.node (o_881 P) (.node (o_1393 P) .nil .nil) .nil)) (.node (o_497 P) (.node (o_753 P) (.node (o_1265 P) .nil .nil) (.node (o_1777 P) .nil .nil)) (.node (o_1009 P) (.node (o_1521 P) .nil .nil) .nil)))))) (.node (o_25 P) (.node (o_41 P) (.node (o_73 P) (.node (o_137 P) (.node (o_265 P) (.node (o_521 P) (.node (o_1033 P) .nil .nil) (.node (o_1545 P) .nil .nil)) (.node (o_777 P) (.node (o_1289 P) .nil .nil) (.node (o_1801 P) .nil .nil))) (.node (o_393 P) (.node (o_649 P) (.node (o_1161 P) .nil .nil) (.node (o_1673 P) .nil .nil)) (.node (o_905 P) (.node (o_1417 P) .nil .nil) .nil))) (.node (o_201 P) (.node (o_329 P) (.node (o_585 P) (.node (o_1097 P) .nil .nil) (.node (o_1609 P) .nil .nil)) (.node (o_841 P) (.node (o_1353 P) .nil .nil) (.node (o_1865 P) .nil .nil))) (.node (o_457 P) (.node (o_713 P) (.node (o_1225 P) .nil .nil) (.node (o_1737 P) .nil .nil)) (.node (o_969 P) (.node (o_1481 P) .nil .nil) .nil)))) (.node (o_105 P) (.node (o_169 P) (.node (o_297 P) (.node (o_553 P) (.node (o_1065 P) .nil .nil) (.node (o_1577 P) .nil .nil)) (.node (o_809 P) (.node (o_1321 P) .nil .nil) (.node (o_1833 P) .nil .nil))) (.node (o_425 P) (.node (o_681 P) (.node (o_1193 P) .nil .nil) (.node (o_1705 P) .nil .nil)) (.node (o_937 P) (.node (o_1449 P) .nil .nil) .nil))) (.node (o_233 P) (.node (o_361 P) (.node (o_617 P) (.node (o_1129 P) .nil .nil) (.node (o_1641 P) .nil .nil)) (.node (o_873 P) (.node (o_1385 P) .nil .nil) .nil)) (.node (o_489 P) (.node (o_745 P) (.node (o_1257 P) .nil .nil) (.node (o_1769 P) .nil .nil)) (.node (o_1001 P) (.node (o_1513 P) .nil .nil) .nil))))) (.node (o_57 P) (.node (o_89 P) (.node (o_153 P) (.node (o_281 P) (.node (o_537 P) (.node (o_1049 P) .nil .nil) (.node (o_1561 P) .nil .nil)) (.node (o_793 P) (.node (o_1305 P) .nil .nil) (.node (o_1817 P) .nil .nil))) (.node (o_409 P) (.node (o_665 P) (.node (o_1177 P) .nil .nil) (.node (o_1689 P) .nil .nil)) (.node (o_921 P) (.node (o_1433 P) .nil .nil) .nil))) (.node (o_217 P) (.node (o_345 P) (.node (o_601 P) (.node (o_1113 P) .nil .nil) (.node (o_1625 P) .nil .nil)) (.node (o_857 P) (.node (o_1369 P) .nil .nil) .nil)) (.node (o_473 P) (.node (o_729 P) (.node (o_1241 P) .nil .nil) (.node (o_1753 P) .nil .nil)) (.node (o_985 P) (.node (o_1497 P) .nil .nil) .nil)))) (.node (o_121 P) (.node (o_185 P) (.node (o_313 P) (.node (o_569 P) (.node (o_1081 P) .nil .nil) (.node (o_1593 P) .nil .nil)) (.node (o_825 P) (.node (o_1337 P) .nil .nil) (.node (o_1849 P) .nil .nil))) (.node (o_441 P) (.node (o_697 P) (.node (o_1209 P) .nil .nil) (.node (o_1721 P) .nil .nil)) (.node (o_953 P) (.node (o_1465 P) .nil .nil) .nil))) (.node (o_249 P) (.node (o_377 P) (.node (o_633 P) (.node (o_1145 P) .nil .nil) (.node (o_1657 P) .nil .nil)) (.node (o_889 P) (.node (o_1401 P) .nil .nil) .nil)) (.node (o_505 P) (.node (o_761 P) (.node (o_1273 P) .nil .nil) (.node (o_1785 P) .nil .nil)) (.node (o_1017 P) (.node (o_1529 P) .nil .nil) .nil))))))) (.node (o_13 P) (.node (o_21 P) (.node (o_37 P) (.node (o_69 P) (.node (o_133 P) (.node (o_261 P) (.node (o_517 P) (.node (o_1029 P) .nil .nil) (.node (o_1541 P) .nil .nil)) (.node (o_773 P) (.node (o_1285 P) .nil .nil) (.node (o_1797 P) .nil .nil))) (.node (o_389 P) (.node (o_645 P) (.node (o_1157 P) .nil .nil) (.node (o_1669 P) .nil .nil)) (.node (o_901 P) (.node (o_1413 P) .nil .nil) .nil))) (.node (o_197 P) (.node (o_325 P) (.node (o_581 P) (.node (o_1093 P) .nil .nil) (.node (o_1605 P) .nil .nil)) (.node (o_837 P) (.node (o_1349 P) .nil .nil) (.node (o_1861 P) .nil .nil))) (.node (o_453 P) (.node (o_709 P) (.node (o_1221 P) .nil .nil) (.node (o_1733 P) .nil .nil)) (.node (o_965 P) (.node (o_1477 P) .nil .nil) .nil)))) (.node (o_101 P) (.node (o_165 P) (.node (o_293 P) (.node (o_549 P) (.node (o_1061 P) .nil .nil) (.node (o_1573 P) .nil .nil)) (.node (o_805 P) (.node (o_1317 P) .nil .nil) (.node (o_1829 P) .nil .nil))) (.node (o_421 P) (.node (o_677 P) (.node (o_1189 P) .nil .nil) (.node (o_1701 P) .nil .nil)) (.node (o_933 P) (.node (o_1445 P) .nil .nil) .nil))) (.node (o_229 P) (.node (o_357 P) (.node (o_613 P) (.node (o_1125 P) .nil .nil) (.node (o_1637 P) .nil .nil)) (.node (o_869 P) (.node (o_1381 P) .nil .nil) .nil)) (.node (o_485 P) (.node (o_741 P) (.node (o_1253 P) .nil .nil) (.node (o_1765 P) .nil .nil)) (.node (o_997 P) (.node (o_1509 P) .nil .nil) .nil))))) (.node (o_53 P) (.node (o_85 P) (.node (o_149 P) (.node (o_277 P) (.node (o_533 P) (.node (o_1045 P) .nil .nil) (.node (o_1557 P) .nil .nil)) (.node (o_789 P) (.node (o_1301 P) .nil .nil) (.node (o_1813 P) .nil .nil))) (.node (o_405 P) (.node (o_661 P) (.node (o_1173 P) .nil .nil) (.node (o_1685 P) .nil .nil)) (.node (o_917 P) (.node (o_1429 P) .nil .nil) .nil))) (.node (o_213 P) (.node (o_341 P) (.node (o_597 P) (.node (o_1109 P) .nil .nil) (.node (o_1621 P) .nil .nil)) (.node (o_853 P) (.node (o_1365 P) .nil .nil) .nil)) (.node (o_469 P) (.node (o_725 P) (.node (o_1237 P) .nil .nil) (.node (o_1749 P) .nil .nil)) (.node (o_981 P) (.node (o_1493 P) .nil .nil) .nil)))) (.node (o_117 P) (.node (o_181 P) (.node (o_309 P) (.node (o_565 P) (.node (o_1077 P) .nil .nil) (.node (o_1589 P) .nil .nil)) (.node (o_821 P) (.node (o_1333 P) .nil .nil) (.node (o_1845 P) .nil .nil))) (.node (o_437 P) (.node (o_693 P) (.node (o_1205 P) .nil .nil) (.node (o_1717 P) .nil .nil)) (.node (o_949 P) (.node (o_1461 P) .nil .nil) .nil))) (.node (o_245 P) (.node (o_373 P) (.node (o_629 P) (.node (o_1141 P) .nil .nil) (.node (o_1653 P) .nil .nil)) (.node (o_885 P) (.node (o_1397 P) .nil .nil) .nil)) (.node (o_501 P) (.node (o_757 P) (.node (o_1269 P) .nil .nil) (.node (o_1781 P) .nil .nil)) (.node (o_1013 P) (.node (o_1525 P) .nil .nil) .nil)))))) (.node (o_29 P) (.node (o_45 P) (.node (o_77 P) (.node (o_141 P) (.node (o_269 P) (.node (o_525 P) (.node (o_1037 P) .nil .nil) (.node (o_1549 P) .nil .nil)) (.node (o_781 P) (.node (o_1293 P) .nil .nil) (.node (o_1805 P) .nil .nil))) (.node (o_397 P) (.node (o_653 P) (.node (o_1165 P) .nil .nil) (.node (o_1677 P) .nil .nil)) (.node (o_909 P) (.node (o_1421 P) .nil .nil) .nil))) (.node (o_205 P) (.node (o_333 P) (.node (o_589 P) (.node (o_1101 P) .nil .nil) (.node (o_1613 P) .nil .nil)) (.node (o_845 P) (.node (o_1357 P) .nil .nil) .nil)) (.node (o_461 P) (.node (o_717 P) (.node (o_1229 P) .nil .nil) (.node (o_1741 P) .nil .nil)) (.node (o_973 P) (.node (o_1485 P) .nil .nil) .nil)))) (.node (o_109 P) (.node (o_173 P) (.node (o_301 P) (.node (o_557 P) (.node (o_1069 P) .nil .nil) (.node (o_1581 P) .nil .nil)) (.node (o_813 P) (.node (o_1325 P) .nil .nil) (.node (o_1837 P) .nil .nil))) (.node (o_429 P) (.node (o_685 P) (.node (o_1197 P) .nil .nil) (.node (o_1709 P) .nil .nil)) (.node (o_941 P) (.node (o_1453 P) .nil .nil) .nil))) (.node (o_237 P) (.node (o_365 P) (.node (o_621 P) (.node (o_1133 P) .nil .nil) (.node (o_1645 P) .nil .nil)) (.node (o_877 P) (.node (o_1389 P) .nil .nil) .nil)) (.node (o_493 P) (.node (o_749 P) (.node (o_1261 P) .nil .nil) (.node (o_1773 P) .nil .nil)) (.node (o_1005 P) (.node (o_1517 P) .nil .nil) .nil))))) (.node (o_61 P) (.node (o_93 P) (.node (o_157 P) (.node (o_285 P) (.node (o_541 P) (.node (o_1053 P) .nil .nil) (.node (o_1565 P) .nil .nil)) (.node (o_797 P) (.node (o_1309 P) .nil .nil) (.node (o_1821 P) .nil .nil))) (.node (o_413 P) (.node (o_669 P) (.node (o_1181 P) .nil .nil) (.node (o_1693 P) .nil .nil)) (.node (o_925 P) (.node (o_1437 P) .nil .nil) .nil))) (.node (o_221 P) (.node (o_349 P) (.node (o_605 P) (.node (o_1117 P) .nil .nil) (.node (o_1629 P) .nil .nil)) (.node (o_861 P) (.node (o_1373 P) .nil .nil) .nil)) (.node (o_477 P) (.node (o_733 P) (.node (o_1245 P) .nil .nil) (.node (o_1757 P) .nil .nil)) (.node (o_989 P) (.node (o_1501 P) .nil .nil) .nil)))) (.node (o_125 P) (.node (o_189 P) (.node (o_317 P) (.node (o_573 P) (.node (o_1085 P) .nil .nil) (.node (o_1597 P) .nil .nil)) (.node (o_829 P) (.node (o_1341 P) .nil .nil) (.node (o_1853 P) .nil .nil))) (.node (o_445 P) (.node (o_701 P) (.node (o_1213 P) .nil .nil) (.node (o_1725 P) .nil .nil)) (.node (o_957 P) (.node (o_1469 P) .nil .nil) .nil))) (.node (o_253 P) (.node (o_381 P) (.node (o_637 P) (.node (o_1149 P) .nil .nil) (.node (o_1661 P) .nil .nil)) (.node (o_893 P) (.node (o_1405 P) .nil .nil) .nil)) (.node (o_509 P) (.node (o_765 P) (.node (o_1277 P) .nil .nil) (.node (o_1789 P) .nil .nil)) (.node (o_1021 P) (.node (o_1533 P) .nil .nil) .nil))))))))) (.node (o_2 P) (.node (boot_o_4 P) (.node (boot_o_8 P) (.node (o_16 P) (.node (o_32 P) (.node (o_64 P) (.node (o_128 P) (.node (o_256 P) (.node (o_512 P) (.node (o_1024 P) .nil .nil) (.node (o_1536 P) .nil .nil)) (.node (o_768 P) (.node (o_1280 P) .nil .nil) (.node (o_1792 P) .nil .nil))) (.node (o_384 P) (.node (o_640 P) (.node (o_1152 P) .nil .nil) (.node (o_1664 P) .nil .nil)) (.node (o_896 P) (.node (o_1408 P) .nil .nil) .nil))) (.node (o_192 P) (.node (o_320 P) (.node (o_576 P) (.node (o_1088 P) .nil .nil) (.node (o_1600 P) .nil .nil)) (.node (o_832 P) (.node (o_1344 P) .nil .nil) (.node (o_1856 P) .nil .nil))) (.node (o_448 P) (.node (o_704 P) (.node (o_1216 P) .nil .nil) (.node (o_1728 P) .nil .nil)) (.node (o_960 P) (.node (o_1472 P) .nil .nil) .nil)))) (.node (o_96 P) (.node (o_160 P) (.node (o_288 P) (.node (o_544 P) (.node (o_1056 P) .nil .nil) (.node (o_1568 P) .nil .nil)) (.node (o_800 P) (.node (o_1312 P) .nil .nil) (.node (o_1824 P) .nil .nil))) (.node (o_416 P) (.node (o_672 P) (.node (o_1184 P) .nil .nil) (.node (o_1696 P) .nil .nil)) (.node (o_928 P) (.node (o_1440 P) .nil .nil) .nil))) (.node (o_224 P) (.node (o_352 P) (.node (o_608 P) (.node (o_1120 P) .nil .nil) (.node (o_1632 P) .nil .nil)) (.node (o_864 P) (.node (o_1376 P) .nil .nil) .nil)) (.node (o_480 P) (.node (o_736 P) (.node (o_1248 P) .nil .nil) (.node (o_1760 P) .nil .nil)) (.node (o_992 P) (.node (o_1504 P) .nil .nil) .nil))))) (.node (o_48 P) (.node (o_80 P) (.node (o_144 P) (.node (o_272 P) (.node (o_528 P) (.node (o_1040 P) .nil .nil) (.node (o_1552 P) .nil .nil)) (.node (o_784 P) (.node (o_1296 P) .nil .nil) (.node (o_1808 P) .nil .nil))) (.node (o_400 P) (.node (o_656 P) (.node (o_1168 P) .nil .nil) (.node (o_1680 P) .nil .nil)) (.node (o_912 P) (.node (o_1424 P) .nil .nil) .nil))) (.node (o_208 P) (.node (o_336 P) (.node (o_592 P) (.node (o_1104 P) .nil .nil) (.node (o_1616 P) .nil .nil)) (.node (o_848 P) (.node (o_1360 P) .nil .nil) .nil)) (.node (o_464 P) (.node (o_720 P) (.node (o_1232 P) .nil .nil) (.node (o_1744 P) .nil .nil)) (.node (o_976 P) (.node (o_1488 P) .nil .nil) .nil)))) (.node (o_112 P) (.node (o_176 P) (.node (o_304 P) (.node (o_560 P) (.node (o_1072 P) .nil .nil) (.node (o_1584 P) .nil .nil)) (.node (o_816 P) (.node (o_1328 P) .nil .nil) (.node (o_1840 P) .nil .nil))) (.node (o_432 P) (.node (o_688 P) (.node (o_1200 P) .nil .nil) (.node (o_1712 P) .nil .nil)) (.node (o_944 P) (.node (o_1456 P) .nil .nil) .nil))) (.node (o_240 P) (.node (o_368 P) (.node (o_624 P) (.node (o_1136 P) .nil .nil) (.node (o_1648 P) .nil .nil)) (.node (o_880 P) (.node (o_1392 P) .nil .nil) .nil)) (.node (o_496 P) (.node (o_752 P) (.node (o_1264 P) .nil .nil) (.node (o_1776 P) .nil .nil)) (.node (o_1008 P) (.node (o_1520 P) .nil .nil) .nil)))))) (.node (o_24 P) (.node (o_40 P) (.node (o_72 P) (.node (o_136 P) (.node (o_264 P) (.node (o_520 P) (.node (o_1032 P) .nil .nil) (.node (o_1544 P) .nil .nil)) (.node (o_776 P) (.node (o_1288 P) .nil .nil) (.node (o_1800 P) .nil .nil))) (.node (o_392 P) (.node (o_648 P) (.node (o_1160 P) .nil .nil) (.node (o_1672 P) .nil .nil)) (.node (o_904 P) (.node (o_1416 P) .nil .nil) .nil))) (.node (o_200 P) (.node (o_328 P) (.node (o_584 P) (.node (o_1096 P) .nil .nil) (.node (o_1608 P) .nil .nil)) (.node (o_840 P) (.node (o_1352 P) .nil .nil) (.node (o_1864 P) .nil .nil))) (.node (o_456 P) (.node (o_712 P) (.node (o_1224 P) .nil .nil) (.node (o_1736 P) .nil .nil)) (.node (o_968 P) (.node (o_1480 P) .nil .nil) .nil)))) (.node (o_104 P) (.node (o_168 P) (.node (o_296 P) (.node (o_552 P) (.node (o_1064 P) .nil .nil) (.node (o_1576 P) .nil .nil)) (.node (o_808 P) (.node (o_1320 P) .nil .nil) (.node (o_1832 P) .nil .nil))) (.node (o_424 P) (.node (o_680 P) (.node (o_1192 P) .nil .nil) (.node (o_1704 P) .nil .nil)) (.node (o_936 P) (.node (o_1448 P) .nil .nil) .nil))) (.node (o_232 P) (.node (o_360 P) (.node (o_616 P) (.node (o_1128 P) .nil .nil) (.node (o_1640 P) .nil .nil)) (.node (o_872 P) (.node (o_1384 P) .nil .nil) .nil)) (.node (o_488 P) (.node (o_744 P) (.node (o_1256 P) .nil .nil) (.node (o_1768 P) .nil .nil)) (.node (o_1000 P) (.node (o_1512 P) .nil .nil) .nil))))) (.node (o_56 P) (.node (o_88 P) (.node (o_152 P) (.node (o_280 P) (.node (o_536 P) (.node (o_1048 P) .nil .nil) (.node (o_1560 P) .nil .nil)) (.node (o_792 P) (.node (o_1304 P) .nil .nil) (.node (o_1816 P) .nil .nil))) (.node (o_408 P) (.node (o_664 P) (.node (o_1176 P) .nil .nil) (.node (o_1688 P) .nil .nil)) (.node (o_920 P) (.node (o_1432 P) .nil .nil) .nil))) (.node (o_216 P) (.node (o_344 P) (.node (o_600 P) (.node (o_1112 P) .nil .nil) (.node (o_1624 P) .nil .nil)) (.node (o_856 P) (.node (o_1368 P) .nil .nil) .nil)) (.node (o_472 P) (.node (o_728 P) (.node (o_1240 P) .nil .nil) (.node (o_1752 P) .nil .nil)) (.node (o_984 P) (.node (o_1496 P) .nil .nil) .nil)))) (.node (o_120 P) (.node (o_184 P) (.node (o_312 P) (.node (o_568 P) (.node (o_1080 P) .nil .nil) (.node (o_1592 P) .nil .nil)) (.node (o_824 P) (.node (o_1336 P) .nil .nil) (.node (o_1848 P) .nil .nil))) (.node (o_440 P) (.node (o_696 P) (.node (o_1208 P) .nil .nil) (.node (o_1720 P) .nil .nil)) (.node (o_952 P) (.node (o_1464 P) .nil .nil) .nil))) (.node (o_248 P) (.node (o_376 P) (.node (o_632 P) (.node (o_1144 P) .nil .nil) (.node (o_1656 P) .nil .nil)) (.node (o_888 P) (.node (o_1400 P) .nil .nil) .nil)) (.node (o_504 P) (.node (o_760 P) (.node (o_1272 P) .nil .nil) (.node (o_1784 P) .nil .nil)) (.node (o_1016 P) (.node (o_1528 P) .nil .nil) .nil))))))) (.node (o_12_4 P) (.node (o_20 P) (.node (o_36 P) (.node (o_68 P) (.node (o_132 P) (.node (o_260 P) (.node (o_516 P) (.node (o_1028 P) .nil .nil) (.node (o_1540 P) .nil .nil)) (.node (o_772 P) (.node (o_1284 P) .nil .nil) (.node (o_1796 P) .nil .nil))) (.node (o_388 P) (.node (o_644 P) (.node (o_1156 P) .nil .nil) (.node (o_1668 P) .nil .nil)) (.node (o_900 P) (.node (o_1412 P) .nil .nil) .nil))) (.node (o_196 P) (.node (o_324 P) (.node (o_580 P) (.node (o_1092 P) .nil .nil) (.node (o_1604 P) .nil .nil)) (.node (o_836 P) (.node (o_1348 P) .nil .nil) (.node (o_1860 P) .nil .nil))) (.node (o_452 P) (.node (o_708 P) (.node (o_1220 P) .nil .nil) (.node (o_1732 P) .nil .nil)) (.node (o_964 P) (.node (o_1476 P) .nil .nil) .nil)))) (.node (o_100 P) (.node (o_164 P) (.node (o_292 P) (.node (o_548 P) (.node (o_1060 P) .nil .nil) (.node (o_1572 P) .nil .nil)) (.node (o_804 P) (.node (o_1316 P) .nil .nil) (.node (o_1828 P) .nil .nil))) (.node (o_420 P) (.node (o_676 P) (.node (o_1188 P) .nil .nil) (.node (o_1700 P) .nil .nil)) (.node (o_932 P) (.node (o_1444 P) .nil .nil) .nil))) (.node (o_228 P) (.node (o_356 P) (.node (o_612 P) (.node (o_1124 P) .nil .nil) (.node (o_1636 P) .nil .nil)) (.node (o_868 P) (.node (o_1380 P) .nil .nil) .nil)) (.node (o_484 P) (.node (o_740 P) (.node (o_1252 P) .nil .nil) (.node (o_1764 P) .nil .nil)) (.node (o_996 P) (.node (o_1508 P) .nil .nil) .nil))))) (.node (o_52 P) (.node (o_84 P) (.node (o_148 P) (.node (o_276 P) (.node (o_532 P) (.node (o_1044 P) .nil .nil) (.node (o_1556 P) .nil .nil)) (.node (o_788 P) (.node (o_1300 P) .nil .nil) (.node (o_1812 P) .nil .nil))) (.node (o_404 P) (.node (o_660 P) (.node (o_1172 P) .nil .nil) (.node (o_1684 P) .nil .nil)) (.node (o_916 P) (.node (o_1428 P) .nil .nil) .nil))) (.node (o_212 P) (.node (o_340 P) (.node (o_596 P) (.node (o_1108 P) .nil .nil) (.node (o_1620 P) .nil .nil)) (.node (o_852 P) (.node (o_1364 P) .nil .nil) .nil)) (.node (o_468 P) (.node (o_724 P) (.node (o_1236 P) .nil .nil) (.node (o_1748 P) .nil .nil)) (.node (o_980 P) (.node (o_1492 P) .nil .nil) .nil)))) (.node (o_116 P) (.node (o_180 P) (.node (o_308 P) (.node (o_564 P) (.node (o_1076 P) .nil .nil) (.node (o_1588 P) .nil .nil)) (.node (o_820 P) (.node (o_1332 P) .nil .nil) (.node (o_1844 P) .nil .nil))) (.node (o_436 P) (.node (o_692 P) (.node (o_1204 P) .nil .nil) (.node (o_1716 P) .nil .nil)) (.node (o_948 P) (.node (o_1460 P) .nil .nil) .nil))) (.node (o_244 P) (.node (o_372 P) (.node (o_628 P) (.node (o_1140 P) .nil .nil) (.node (o_1652 P) .nil .nil)) (.node (o_884 P) (.node (o_1396 P) .nil .nil) .nil)) (.node (o_500 P) (.node (o_756 P) (.node (o_1268 P) .nil .nil) (.node (o_1780 P) .nil .nil)) (.node (o_1012 P) (.node (o_1524 P) .nil .nil) .nil)))))) (.node (o_28 P) (.node (o_44 P) (.node (o_76 P) (.node (o_140 P) (.node (o_268 P) (.node (o_524 P) (.node (o_1036 P) .nil .nil) (.node (o_1548 P) .nil .nil)) (.node (o_780 P) (.node (o_1292 P) .nil .nil) (.node (o_1804 P) .nil .nil))) (.node (o_396 P) (.node (o_652 P) (.node (o_1164 P) .nil .nil) (.node (o_1676 P) .nil .nil)) (.node (o_908 P) (.node (o_1420 P) .nil .nil) .nil))) (.node (o_204 P) (.node (o_332 P) (.node (o_588 P) (.node (o_1100 P) .nil .nil) (.node (o_1612 P) .nil .nil)) (.node (o_844 P) (.node (o_1356 P) .nil .nil) .nil)) (.node (o_460 P) (.node (o_716 P) (.node (o_1228 P) .nil .nil) (.node (o_1740 P) .nil .nil)) (.node (o_972 P) (.node (o_1484 P) .nil .nil) .nil)))) (.node (o_108 P) (.node (o_172 P) (.node (o_300 P) (.node (o_556 P) (.node (o_1068 P) .nil .nil) (.node (o_1580 P) .nil .nil)) (.node (o_812 P) (.node (o_1324 P) .nil .nil) (.node (o_1836 P) .nil .nil))) (.node (o_428 P) (.node (o_684 P) (.node (o_1196 P) .nil .nil) (.node (o_1708 P) .nil .nil)) (.node (o_940 P) (.node (o_1452 P) .nil .nil) .nil))) (.node (o_236 P) (.node (o_364 P) (.node (o_620 P) (.node (o_1132 P) .nil .nil) (.node (o_1644 P) .nil .nil)) (.node (o_876 P) (.node (o_1388 P) .nil .nil) .nil)) (.node (o_492 P) (.node (o_748 P) (.node (o_1260 P) .nil .nil) (.node (o_1772 P) .nil .nil)) (.node (o_1004 P) (.node (o_1516 P) .nil .nil) .nil))))) (.node (o_60 P) (.node (o_92 P) (.node (o_156 P) (.node (o_284 P) (.node (o_540 P) (.node (o_1052 P) .nil .nil) (.node (o_1564 P) .nil .nil)) (.node (o_796 P) (.node (o_1308 P) .nil .nil) (.node (o_1820 P) .nil .nil))) (.node (o_412 P) (.node (o_668 P) (.node (o_1180 P) .nil .nil) (.node (o_1692 P) .nil .nil)) (.node (o_924 P) (.node (o_1436 P) .nil .nil) .nil))) (.node (o_220 P) (.node (o_348 P) (.node (o_604 P) (.node (o_1116 P) .nil .nil) (.node (o_1628 P) .nil .nil)) (.node (o_860 P) (.node (o_1372 P) .nil .nil) .nil)) (.node (o_476 P) (.node (o_732 P) (.node (o_1244 P) .nil .nil) (.node (o_1756 P) .nil .nil)) (.node (o_988 P) (.node (o_1500 P) .nil .nil) .nil)))) (.node (o_124 P) (.node (o_188 P) (.node (o_316 P) (.node (o_572 P) (.node (o_1084 P) .nil .nil) (.node (o_1596 P) .nil .nil)) (.node (o_828 P) (.node (o_1340 P) .nil .nil) (.node (o_1852 P) .nil .nil))) (.node (o_444 P) (.node (o_700 P) (.node (o_1212 P) .nil .nil) (.node (o_1724 P) .nil .nil)) (.node (o_956 P) (.node (o_1468 P) .nil .nil) .nil))) (.node (o_252 P) (.node (o_380 P) (.node (o_636 P) (.node (o_1148 P) .nil .nil) (.node (o_1660 P) .nil .nil)) (.node (o_892 P) (.node (o_1404 P) .nil .nil) .nil)) (.node (o_508 P) (.node (o_764 P) (.node (o_1276 P) .nil .nil) (.node (o_1788 P) .nil .nil)) (.node (o_1020 P) (.node (o_1532 P) .nil .nil) .nil)))))))) (.node (boot_o_6 P) (.node (boot_o_10 P) (.node (o_18 P) (.node (o_34 P) (.node (o_66 P) (.node (o_130 P) (.node (o_258 P) (.node (o_514 P) (.node (o_1026 P) .nil .nil) (.node (o_1538 P) .nil .nil)) (.node (o_770 P) (.node (o_1282 P) .nil .nil) (.node (o_1794 P) .nil .nil))) (.node (o_386 P) (.node (o_642 P) (.node (o_1154 P) .nil .nil) (.node (o_1666 P) .nil .nil)) (.node (o_898 P) (.node (o_1410 P) .nil .nil) .nil))) (.node (o_194 P) (.node (o_322 P) (.node (o_578 P) (.node (o_1090 P) .nil .nil) (.node (o_1602 P) .nil .nil)) (.node (o_834 P) (.node (o_1346 P) .nil .nil) (.node (o_1858 P) .nil .nil))) (.node (o_450 P) (.node (o_706 P) (.node (o_1218 P) .nil .nil) (.node (o_1730 P) .nil .nil)) (.node (o_962 P) (.node (o_1474 P) .nil .nil) .nil)))) (.node (o_98 P) (.node (o_162 P) (.node (o_290 P) (.node (o_546 P) (.node (o_1058 P) .nil .nil) (.node (o_1570 P) .nil .nil)) (.node (o_802 P) (.node (o_1314 P) .nil .nil) (.node (o_1826 P) .nil .nil))) (.node (o_418 P) (.node (o_674 P) (.node (o_1186 P) .nil .nil) (.node (o_1698 P) .nil .nil)) (.node (o_930 P) (.node (o_1442 P) .nil .nil) .nil))) (.node (o_226 P) (.node (o_354 P) (.node (o_610 P) (.node (o_1122 P) .nil .nil) (.node (o_1634 P) .nil .nil)) (.node (o_866 P) (.node (o_1378 P) .nil .nil) .nil)) (.node (o_482 P) (.node (o_738 P) (.node (o_1250 P) .nil .nil) (.node (o_1762 P) .nil .nil)) (.node (o_994 P) (.node (o_1506 P) .nil .nil) .nil))))) (.node (o_50 P) (.node (o_82 P) (.node (o_146 P) (.node (o_274 P) (.node (o_530 P) (.node (o_1042 P) .nil .nil) (.node (o_1554 P) .nil .nil)) (.node (o_786 P) (.node (o_1298 P) .nil .nil) (.node (o_1810 P) .nil .nil))) (.node (o_402 P) (.node (o_658 P) (.node (o_1170 P) .nil .nil) (.node (o_1682 P) .nil .nil)) (.node (o_914 P) (.node (o_1426 P) .nil .nil) .nil))) (.node (o_210 P) (.node (o_338 P) (.node (o_594 P) (.node (o_1106 P) .nil .nil) (.node (o_1618 P) .nil .nil)) (.node (o_850 P) (.node (o_1362 P) .nil .nil) .nil)) (.node (o_466 P) (.node (o_722 P) (.node (o_1234 P) .nil .nil) (.node (o_1746 P) .nil .nil)) (.node (o_978 P) (.node (o_1490 P) .nil .nil) .nil)))) (.node (o_114 P) (.node (o_178 P) (.node (o_306 P) (.node (o_562 P) (.node (o_1074 P) .nil .nil) (.node (o_1586 P) .nil .nil)) (.node (o_818 P) (.node (o_1330 P) .nil .nil) (.node (o_1842 P) .nil .nil))) (.node (o_434 P) (.node (o_690 P) (.node (o_1202 P) .nil .nil) (.node (o_1714 P) .nil .nil)) (.node (o_946 P) (.node (o_1458 P) .nil .nil) .nil))) (.node (o_242 P) (.node (o_370 P) (.node (o_626 P) (.node (o_1138 P) .nil .nil) (.node (o_1650 P) .nil .nil)) (.node (o_882 P) (.node (o_1394 P) .nil .nil) .nil)) (.node (o_498 P) (.node (o_754 P) (.node (o_1266 P) .nil .nil) (.node (o_1778 P) .nil .nil)) (.node (o_1010 P) (.node (o_1522 P) .nil .nil) .nil)))))) (.node (o_26 P) (.node (o_42 P) (.node (o_74 P) (.node (o_138 P) (.node (o_266 P) (.node (o_522 P) (.node (o_1034 P) .nil .nil) (.node (o_1546 P) .nil .nil)) (.node (o_778 P) (.node (o_1290 P) .nil .nil) (.node (o_1802 P) .nil .nil))) (.node (o_394 P) (.node (o_650 P) (.node (o_1162 P) .nil .nil) (.node (o_1674 P) .nil .nil)) (.node (o_906 P) (.node (o_1418 P) .nil .nil) .nil))) (.node (o_202 P) (.node (o_330 P) (.node (o_586 P) (.node (o_1098 P) .nil .nil) (.node (o_1610 P) .nil .nil)) (.node (o_842 P) (.node (o_1354 P) .nil .nil) (.node (o_1866 P) .nil .nil))) (.node (o_458 P) (.node (o_714 P) (.node (o_1226 P) .nil .nil) (.node (o_1738 P) .nil .nil)) (.node (o_970 P) (.node (o_1482 P) .nil .nil) .nil)))) (.node (o_106 P) (.node (o_170 P) (.node (o_298 P) (.node (o_554 P) (.node (o_1066 P) .nil .nil) (.node (o_1578 P) .nil .nil)) (.node (o_810 P) (.node (o_1322 P) .nil .nil) (.node (o_1834 P) .nil .nil))) (.node (o_426 P) (.node (o_682 P) (.node (o_1194 P) .nil .nil) (.node (o_1706 P) .nil .nil)) (.node (o_938 P) (.node (o_1450 P) .nil .nil) .nil))) (.node (o_234 P) (.node (o_362 P) (.node (o_618 P) (.node (o_1130 P) .nil .nil) (.node (o_1642 P) .nil .nil)) (.node (o_874 P) (.node (o_1386 P) .nil .nil) .nil)) (.node (o_490 P) (.node (o_746 P) (.node (o_1258 P) .nil .nil) (.node (o_1770 P) .nil .nil)) (.node (o_1002 P) (.node (o_1514 P) .nil .nil) .nil))))) (.node (o_58 P) (.node (o_90 P) (.node (o_154 P) (.node (o_282 P) (.node (o_538 P) (.node (o_1050 P) .nil .nil) (.node (o_1562 P) .nil .nil)) (.node (o_794 P) (.node (o_1306 P) .nil .nil) (.node (o_1818 P) .nil .nil))) (.node (o_410 P) (.node (o_666 P) (.node (o_1178 P) .nil .nil) (.node (o_1690 P) .nil .nil)) (.node (o_922 P) (.node (o_1434 P) .nil .nil) .nil))) (.node (o_218 P) (.node (o_346 P) (.node (o_602 P) (.node (o_1114 P) .nil .nil) (.node (o_1626 P) .nil .nil)) (.node (o_858 P) (.node (o_1370 P) .nil .nil) .nil)) (.node (o_474 P) (.node (o_730 P) (.node (o_1242 P) .nil .nil) (.node (o_1754 P) .nil .nil)) (.node (o_986 P) (.node (o_1498 P) .nil .nil) .nil)))) (.node (o_122 P) (.node (o_186 P) (.node (o_314 P) (.node (o_570 P) (.node (o_1082 P) .nil .nil) (.node (o_1594 P) .nil .nil)) (.node (o_826 P) (.node (o_1338 P) .nil .nil) (.node (o_1850 P) .nil .nil))) (.node (o_442 P) (.node (o_698 P) (.node (o_1210 P) .nil .nil) (.node (o_1722 P) .nil .nil)) (.node (o_954 P) (.node (o_1466 P) .nil .nil) .nil))) (.node (o_250 P) (.node (o_378 P) (.node (o_634 P) (.node (o_1146 P) .nil .nil) (.node (o_1658 P) .nil .nil)) (.node (o_890 P) (.node (o_1402 P) .nil .nil) .nil)) (.node (o_506 P) (.node (o_762 P) (.node (o_1274 P) .nil .nil) (.node (o_1786 P) .nil .nil)) (.node (o_1018 P) (.node (o_1530 P) .nil .nil) .nil))))))) (.node (o_14 P) (.node (o_22 P) (.node (o_38 P) (.node (o_70 P) (.node (o_134 P) (.node (o_262 P) (.node (o_518 P) (.node (o_1030 P) .nil .nil) (.node (o_1542 P) .nil .nil)) (.node (o_774 P) (.node (o_1286 P) .nil .nil) (.node (o_1798 P) .nil .nil))) (.node (o_390 P) (.node (o_646 P) (.node (o_1158 P) .nil .nil) (.node (o_1670 P) .nil .nil)) (.node (o_902 P) (.node (o_1414 P) .nil .nil) .nil))) (.node (o_198 P) (.node (o_326 P) (.node (o_582 P) (.node (o_1094 P) .nil .nil) (.node (o_1606 P) .nil .nil)) (.node (o_838 P) (.node (o_1350 P) .nil .nil) (.node (o_1862 P) .nil .nil))) (.node (o_454 P) (.node (o_710 P) (.node (o_1222 P) .nil .nil) (.node (o_1734 P) .nil .nil)) (.node (o_966 P) (.node (o_1478 P) .nil .nil) .nil)))) (.node (o_102 P) (.node (o_166 P) (.node (o_294 P) (.node (o_550 P) (.node (o_1062 P) .nil .nil) (.node (o_1574 P) .nil .nil)) (.node (o_806 P) (.node (o_1318 P) .nil .nil) (.node (o_1830 P) .nil .nil))) (.node (o_422 P) (.node (o_678 P) (.node (o_1190 P) .nil .nil) (.node (o_1702 P) .nil .nil)) (.node (o_934 P) (.node (o_1446 P) .nil .nil) .nil))) (.node (o_230 P) (.node (o_358 P) (.node (o_614 P) (.node (o_1126 P) .nil .nil) (.node (o_1638 P) .nil .nil)) (.node (o_870 P) (.node (o_1382 P) .nil .nil) .nil)) (.node (o_486 P) (.node (o_742 P) (.node (o_1254 P) .nil .nil) (.node (o_1766 P) .nil .nil)) (.node (o_998 P) (.node (o_1510 P) .nil .nil) .nil))))) (.node (o_54 P) (.node (o_86 P) (.node (o_150 P) (.node (o_278 P) (.node (o_534 P) (.node (o_1046 P) .nil .nil) (.node (o_1558 P) .nil .nil)) (.node (o_790 P) (.node (o_1302 P) .nil .nil) (.node (o_1814 P) .nil .nil))) (.node (o_406 P) (.node (o_662 P) (.node (o_1174 P) .nil .nil) (.node (o_1686 P) .nil .nil)) (.node (o_918 P) (.node (o_1430 P) .nil .nil) .nil))) (.node (o_214 P) (.node (o_342 P) (.node (o_598 P) (.node (o_1110 P) .nil .nil) (.node (o_1622 P) .nil .nil)) (.node (o_854 P) (.node (o_1366 P) .nil .nil) .nil)) (.node (o_470 P) (.node (o_726 P) (.node (o_1238 P) .nil .nil) (.node (o_1750 P) .nil .nil)) (.node (o_982 P) (.node (o_1494 P) .nil .nil) .nil)))) (.node (o_118 P) (.node (o_182 P) (.node (o_310 P) (.node (o_566 P) (.node (o_1078 P) .nil .nil) (.node (o_1590 P) .nil .nil)) (.node (o_822 P) (.node (o_1334 P) .nil .nil) (.node (o_1846 P) .nil .nil))) (.node (o_438 P) (.node (o_694 P) (.node (o_1206 P) .nil .nil) (.node (o_1718 P) .nil .nil)) (.node (o_950 P) (.node (o_1462 P) .nil .nil) .nil))) (.node (o_246 P) (.node (o_374 P) (.node (o_630 P) (.node (o_1142 P) .nil .nil) (.node (o_1654 P) .nil .nil)) (.node (o_886 P) (.node (o_1398 P) .nil .nil) .nil)) (.node (o_502 P) (.node (o_758 P) (.node (o_1270 P) .nil .nil) (.node (o_1782 P) .nil .nil)) (.node (o_1014 P) (.node (o_1526 P) .nil .nil) .nil)))))) (.node (o_30 P) (.node (o_46 P) (.node (o_78 P) (.node (o_142 P) (.node (o_270 P) (.node (o_526 P) (.node (o_1038 P) .nil .nil) (.node (o_1550 P) .nil .nil)) (.node (o_782 P) (.node (o_1294 P) .nil .nil) (.node (o_1806 P) .nil .nil))) (.node (o_398 P) (.node (o_654 P) (.node (o_1166 P) .nil .nil) (.node (o_1678 P) .nil .nil)) (.node (o_910 P) (.node (o_1422 P) .nil .nil) .nil))) (.node (o_206 P) (.node (o_334 P) (.node (o_590 P) (.node (o_1102 P) .nil .nil) (.node (o_1614 P) .nil .nil)) (.node (o_846 P) (.node (o_1358 P) .nil .nil) .nil)) (.node (o_462 P) (.node (o_718 P) (.node (o_1230 P) .nil .nil) (.node (o_1742 P) .nil .nil)) (.node (o_974 P) (.node (o_1486 P) .nil .nil) .nil)))) (.node (o_110 P) (.node (o_174 P) (.node (o_302 P) (.node (o_558 P) (.node (o_1070 P) .nil .nil) (.node (o_1582 P) .nil .nil)) (.node (o_814 P) (.node (o_1326 P) .nil .nil) (.node (o_1838 P) .nil .nil))) (.node (o_430 P) (.node (o_686 P) (.node (o_1198 P) .nil .nil) (.node (o_1710 P) .nil .nil)) (.node (o_942 P) (.node (o_1454 P) .nil .nil) .nil))) (.node (o_238 P) (.node (o_366 P) (.node (o_622 P) (.node (o_1134 P) .nil .nil) (.node (o_1646 P) .nil .nil)) (.node (o_878 P) (.node (o_1390 P) .nil .nil) .nil)) (.node (o_494 P) (.node (o_750 P) (.node (o_1262 P) .nil .nil) (.node (o_1774 P) .nil .nil)) (.node (o_1006 P) (.node (o_1518 P) .nil .nil) .nil))))) (.node (o_62 P) (.node (o_94 P) (.node (o_158 P) (.node (o_286 P) (.node (o_542 P) (.node (o_1054 P) .nil .nil) (.node (o_1566 P) .nil .nil)) (.node (o_798 P) (.node (o_1310 P) .nil .nil) (.node (o_1822 P) .nil .nil))) (.node (o_414 P) (.node (o_670 P) (.node (o_1182 P) .nil .nil) (.node (o_1694 P) .nil .nil)) (.node (o_926 P) (.node (o_1438 P) .nil .nil) .nil))) (.node (o_222 P) (.node (o_350 P) (.node (o_606 P) (.node (o_1118 P) .nil .nil) (.node (o_1630 P) .nil .nil)) (.node (o_862 P) (.node (o_1374 P) .nil .nil) .nil)) (.node (o_478 P) (.node (o_734 P) (.node (o_1246 P) .nil .nil) (.node (o_1758 P) .nil .nil)) (.node (o_990 P) (.node (o_1502 P) .nil .nil) .nil)))) (.node (o_126 P) (.node (o_190 P) (.node (o_318 P) (.node (o_574 P) (.node (o_1086 P) .nil .nil) (.node (o_1598 P) .nil .nil)) (.node (o_830 P) (.node (o_1342 P) .nil .nil) (.node (o_1854 P) .nil .nil))) (.node (o_446 P) (.node (o_702 P) (.node (o_1214 P) .nil .nil) (.node (o_1726 P) .nil .nil)) (.node (o_958 P) (.node (o_1470 P) .nil .nil) .nil))) (.node (o_254 P) (.node (o_382 P) (.node (o_638 P) (.node (o_1150 P) .nil .nil) (.node (o_1662 P) .nil .nil)) (.node (o_894 P) (.node (o_1406 P) .nil .nil) .nil)) (.node (o_510 P) (.node (o_766 P) (.node (o_1278 P) .nil .nil) (.node (o_1790 P) .nil .nil)) (.node (o_1022 P) (.node (o_1534 P) .nil .nil) .nil))))))))))
abbrev S4 (w : World) (os : OsState) : SharedT := ⟨T4 w.params, 1867, (boot_heap w.params).life, #[], ⟨0, 0, 0, 0⟩, 2983, os⟩
def G4 (w : World) : Prop := ∀ os : OsState, XH.segF (XH.stQ prg w) 11 ann 2812 (S3 w os) (XH.pcQ (rest3.take 65) env cE ⟨1178, 0, 1178, 8⟩ B) = some (.next, S4 w os, cE, ⟨1561, 0, 1575, 75⟩)
theorem g4f (w : World) : G4 (w.withFollow "special-get-raises" false) := by
  intro os
  kernel_rfl
theorem g4t (w : World) : G4 (w.withFollow "special-get-raises" true) := by
  intro os
  kernel_rfl
theorem g4 (w : World) : G4 w := byRow2 "special-get-raises" (P := G4) g4f g4t w
abbrev rest4 : List Stmt := rest3.drop 65
theorem restE : rest4 = [] := by kernel_rfl
theorem finR (w : World) (os : OsState) : goF (XH.stQ prg w) 11 ann 3 (S4 w os) ⟨doneF .next, cE, ⟨1561, 0, 1575, 75⟩, B⟩ = some (S4 w os) := by kernel_rfl
abbrev H1 (P : Params) : Heap := absHeap (T4 P) 1867 (boot_heap P).life
theorem runs (w : World) (os : OsState) : topRun treeTable prg w 11 ann (12 + (1 + (3444 + (3444 + (3446 + (2812 + 3)))))) ⟨boot_heap w.params, #[], boot_drawn, boot_toks, os⟩ (topStub prg) = some ⟨H1 w.params, #[], ⟨0, 0, 0, 0⟩, 2983, os⟩ := by
  have z : topRun treeTable prg w 11 ann 3 (S4 w os).abs (restOf rest4 env cE ⟨1561, 0, 1575, 75⟩ B) = some (S4 w os).abs := by
    rw [restE]
    exact piece_nil (XH.fin_of (finR w os))
  replace z := XH.piece_cut (XH.seg_of (g4 w os)) z
  replace z := XH.piece_cut (XH.seg_of (g3 w os)) z
  replace z := XH.piece_cut (XH.seg_of (g2 w os)) z
  replace z := XH.piece_cut (XH.seg_of (g1 w os)) z
  replace z := piece_block (XH.blk_of (blkR w os)) z
  replace z := go_top (XH.pre_of (preR w os)) z
  rw [s0] at z
  exact z
def names0 : List PySem.Str := ["_wall", "LeanError", "NoText", "NoTree", "NoPath", "NoNaming", "NoLetters", "NoCount", "NoTurning", "NoMap", "NoLine", "TooMany", "KEPT", "LONG_SIGNS", "SHORT_SIGNS", "MOST_LETTERS_words", "MOST_FIGURES", "is_letter", "is_figure", "is_letter_or_figure", "is_name", "is_plain_number", "is_number", "number_told", "run_end", "sort_of", "sign_end", "words", "EXPRESSIONS", "STATEMENTS"]
def names1 : List PySem.Str := ["TWO_SIGNS", "SHAPES", "is_give", "parts_within", "inner_parts", "LEVELS", "LOOSEST", "AHEAD", "BEHIND", "TIGHTEST", "level_of", "Node", "Source", "things_of", "numbered", "listed", "name_taken", "parameters", "giving", "with_body", "pair", "field", "flattened", "record", "tightest", "followed", "operand", "joined", "join_down_to", "side"]
def names2 : List PySem.Str := ["two_sided", "expression", "in_braces", "in_brackets", "ended", "letting", "with_word", "plain_statement", "branching", "looping", "trying", "block", "statement", "parsed", "is_whole", "is_number_in_tree", "is_part", "is_of_kind", "fault_of", "kinds_of_names", "kinds_of_fields", "kinds_within", "must_have_form", "Layout", "rooms_made", "add_rooms", "add_names", "laid_out", "names_by_room", "meaning"]
def names3 : List PySem.Str := ["MOST_PARTS", "MOST_DEPTH", "MOST_BINDINGS_trees", "names_twice", "is_open_end", "fault_in_place", "must_fit", "is_great", "must_hold_together", "must_tree", "holds_together", "read_node", "read", "spots", "Old", "Change", "Trail", "instead", "thing_at", "built", "remade", "changed", "least_stretch", "follow", "follow_change", "follow_made", "origins_behind", "layout_of", "used_names", "bindings_in"]
def names4 : List PySem.Str := ["bindings", "STILL_OF_STILL", "is_behind_let", "sure_uses", "is_still_part", "Survey", "lists_of", "let_of", "pairs_of", "test_steps", "tests_of", "waiting_pairs", "holder_of", "holders_of", "reached_pairs", "unreached_pairs", "number_word", "with_commas", "fn_words", "two_words", "pick_words", "bare_words", "expression_words", "braced_words", "plain_words", "statement_words", "list_words", "tight_text", "ends_list", "is_ended"]
def names5 : List PySem.Str := ["lies_in", "is_needed", "behind_end", "why_gone", "unused_pairs", "goings", "going_statement", "without_pairs", "going", "is_no_longer", "going_kept", "bare_changes", "with_names", "FEWEST_LETTERS", "MOST_LETTERS_supply", "are_letters", "must_be_letters", "first_names", "pairs_of_rooms", "pairs_of_uses", "hinder", "barred", "must_be_naming", "named", "counts", "hindering", "fair", "places_of_properties", "properties", "are_unlike_names"]
def names6 : List PySem.Str := ["must_be_property_naming", "props_named", "props_least", "NO_KIND", "NO_QUOTIENT", "TOO_GREAT", "Failing", "is_number_worth", "number_of", "contrary", "compared", "reckoned", "two_told", "CONTRARY", "ONE_EACH", "EMPTY_BLOCK", "number_in", "reckoned_two", "turns_of_two", "turns_of_not", "turns_of_and_or", "turns_of_pick", "turns_of_fn", "chosen_of_if", "joined_if", "turns_with_else", "statement_behind", "path_behind", "both_instead", "turns_without_else"]
def names7 : List PySem.Str := ["turns_of_if", "turns_of_let", "turns_of_block", "turns_of_return", "turns_of_pair", "TURNS", "turns_at", "all_turns", "GONE", "rows_of_steps", "may_be_made", "first_leaner", "State", "state_behind", "bare_state", "innermost", "map_of", "Trace", "FREE", "Problem", "members", "are_friends", "free_places", "places_in", "least_costs", "MOST_BINDINGS_leastnames", "problem_of", "all_masks", "least_of", "least_names"]
def names8 : List PySem.Str := ["short_naming", "make_lean", "shortened", "lean", "leaned", "_law_mixed", "_law_cell", "_law_take", "_law_only", "_law_asked", "_law_good"]
def names : List PySem.Str := names0 ++ names1 ++ names2 ++ names3 ++ names4 ++ names5 ++ names6 ++ names7 ++ names8
def l_K_94 (P : Params) : List (Addr × Obj) := (1866, (o_1866 P)) :: []
def l_K_95 (P : Params) : List (Addr × Obj) := (1841, (o_1841 P)) :: (1842, (o_1842 P)) :: (1843, (o_1843 P)) :: (1844, (o_1844 P)) :: (1845, (o_1845 P)) :: (1846, (o_1846 P)) :: (1847, (o_1847 P)) :: (1848, (o_1848 P)) :: (1849, (o_1849 P)) :: (1850, (o_1850 P)) :: (1851, (o_1851 P)) :: (1852, (o_1852 P)) :: (1853, (o_1853 P)) :: (1854, (o_1854 P)) :: (1855, (o_1855 P)) :: (1856, (o_1856 P)) :: (1857, (o_1857 P)) :: (1858, (o_1858 P)) :: (1859, (o_1859 P)) :: (1860, (o_1860 P)) :: (1861, (o_1861 P)) :: (1862, (o_1862 P)) :: (1863, (o_1863 P)) :: (1864, (o_1864 P)) :: (1865, (o_1865 P)) :: (l_K_94 P)
def l_K_96 (P : Params) : List (Addr × Obj) := (1816, (o_1816 P)) :: (1817, (o_1817 P)) :: (1818, (o_1818 P)) :: (1819, (o_1819 P)) :: (1820, (o_1820 P)) :: (1821, (o_1821 P)) :: (1822, (o_1822 P)) :: (1823, (o_1823 P)) :: (1824, (o_1824 P)) :: (1825, (o_1825 P)) :: (1826, (o_1826 P)) :: (1827, (o_1827 P)) :: (1828, (o_1828 P)) :: (1829, (o_1829 P)) :: (1830, (o_1830 P)) :: (1831, (o_1831 P)) :: (1832, (o_1832 P)) :: (1833, (o_1833 P)) :: (1834, (o_1834 P)) :: (1835, (o_1835 P)) :: (1836, (o_1836 P)) :: (1837, (o_1837 P)) :: (1838, (o_1838 P)) :: (1839, (o_1839 P)) :: (1840, (o_1840 P)) :: (l_K_95 P)
def l_K_97 (P : Params) : List (Addr × Obj) := (1707, (o_1707 P)) :: (1708, (o_1708 P)) :: (1709, (o_1709 P)) :: (1710, (o_1710 P)) :: (1711, (o_1711 P)) :: (1712, (o_1712 P)) :: (1797, (o_1797 P)) :: (1798, (o_1798 P)) :: (1799, (o_1799 P)) :: (1800, (o_1800 P)) :: (1801, (o_1801 P)) :: (1802, (o_1802 P)) :: (1803, (o_1803 P)) :: (1804, (o_1804 P)) :: (1805, (o_1805 P)) :: (1806, (o_1806 P)) :: (1807, (o_1807 P)) :: (1808, (o_1808 P)) :: (1809, (o_1809 P)) :: (1810, (o_1810 P)) :: (1811, (o_1811 P)) :: (1812, (o_1812 P)) :: (1813, (o_1813 P)) :: (1814, (o_1814 P)) :: (1815, (o_1815 P)) :: (l_K_96 P)
def l_K_98 (P : Params) : List (Addr × Obj) := (1682, (o_1682 P)) :: (1683, (o_1683 P)) :: (1684, (o_1684 P)) :: (1685, (o_1685 P)) :: (1686, (o_1686 P)) :: (1687, (o_1687 P)) :: (1688, (o_1688 P)) :: (1689, (o_1689 P)) :: (1690, (o_1690 P)) :: (1691, (o_1691 P)) :: (1692, (o_1692 P)) :: (1693, (o_1693 P)) :: (1694, (o_1694 P)) :: (1695, (o_1695 P)) :: (1696, (o_1696 P)) :: (1697, (o_1697 P)) :: (1698, (o_1698 P)) :: (1699, (o_1699 P)) :: (1700, (o_1700 P)) :: (1701, (o_1701 P)) :: (1702, (o_1702 P)) :: (1703, (o_1703 P)) :: (1704, (o_1704 P)) :: (1705, (o_1705 P)) :: (1706, (o_1706 P)) :: (l_K_97 P)
def l_K_99 (P : Params) : List (Addr × Obj) := (1657, (o_1657 P)) :: (1658, (o_1658 P)) :: (1659, (o_1659 P)) :: (1660, (o_1660 P)) :: (1661, (o_1661 P)) :: (1662, (o_1662 P)) :: (1663, (o_1663 P)) :: (1664, (o_1664 P)) :: (1665, (o_1665 P)) :: (1666, (o_1666 P)) :: (1667, (o_1667 P)) :: (1668, (o_1668 P)) :: (1669, (o_1669 P)) :: (1670, (o_1670 P)) :: (1671, (o_1671 P)) :: (1672, (o_1672 P)) :: (1673, (o_1673 P)) :: (1674, (o_1674 P)) :: (1675, (o_1675 P)) :: (1676, (o_1676 P)) :: (1677, (o_1677 P)) :: (1678, (o_1678 P)) :: (1679, (o_1679 P)) :: (1680, (o_1680 P)) :: (1681, (o_1681 P)) :: (l_K_98 P)
def l_K_100 (P : Params) : List (Addr × Obj) := (1632, (o_1632 P)) :: (1633, (o_1633 P)) :: (1634, (o_1634 P)) :: (1635, (o_1635 P)) :: (1636, (o_1636 P)) :: (1637, (o_1637 P)) :: (1638, (o_1638 P)) :: (1639, (o_1639 P)) :: (1640, (o_1640 P)) :: (1641, (o_1641 P)) :: (1642, (o_1642 P)) :: (1643, (o_1643 P)) :: (1644, (o_1644 P)) :: (1645, (o_1645 P)) :: (1646, (o_1646 P)) :: (1647, (o_1647 P)) :: (1648, (o_1648 P)) :: (1649, (o_1649 P)) :: (1650, (o_1650 P)) :: (1651, (o_1651 P)) :: (1652, (o_1652 P)) :: (1653, (o_1653 P)) :: (1654, (o_1654 P)) :: (1655, (o_1655 P)) :: (1656, (o_1656 P)) :: (l_K_99 P)
def l_K_101 (P : Params) : List (Addr × Obj) := (1254, (o_1254 P)) :: (1255, (o_1255 P)) :: (1256, (o_1256 P)) :: (1257, (o_1257 P)) :: (1258, (o_1258 P)) :: (1259, (o_1259 P)) :: (1260, (o_1260 P)) :: (1579, (o_1579 P)) :: (1580, (o_1580 P)) :: (1581, (o_1581 P)) :: (1582, (o_1582 P)) :: (1583, (o_1583 P)) :: (1584, (o_1584 P)) :: (1585, (o_1585 P)) :: (1586, (o_1586 P)) :: (1587, (o_1587 P)) :: (1588, (o_1588 P)) :: (1589, (o_1589 P)) :: (1590, (o_1590 P)) :: (1626, (o_1626 P)) :: (1627, (o_1627 P)) :: (1628, (o_1628 P)) :: (1629, (o_1629 P)) :: (1630, (o_1630 P)) :: (1631, (o_1631 P)) :: (l_K_100 P)
def l_K_102 (P : Params) : List (Addr × Obj) := (812, (o_812 P)) :: (813, (o_813 P)) :: (814, (o_814 P)) :: (815, (o_815 P)) :: (816, (o_816 P)) :: (817, (o_817 P)) :: (818, (o_818 P)) :: (819, (o_819 P)) :: (820, (o_820 P)) :: (821, (o_821 P)) :: (822, (o_822 P)) :: (823, (o_823 P)) :: (824, (o_824 P)) :: (825, (o_825 P)) :: (826, (o_826 P)) :: (827, (o_827 P)) :: (828, (o_828 P)) :: (829, (o_829 P)) :: (830, (o_830 P)) :: (831, (o_831 P)) :: (1249, (o_1249 P)) :: (1250, (o_1250 P)) :: (1251, (o_1251 P)) :: (1252, (o_1252 P)) :: (1253, (o_1253 P)) :: (l_K_101 P)
def l_K_103 (P : Params) : List (Addr × Obj) := (411, (o_411 P)) :: (412, (o_412 P)) :: (413, (o_413 P)) :: (414, (o_414 P)) :: (415, (o_415 P)) :: (416, (o_416 P)) :: (417, (o_417 P)) :: (418, (o_418 P)) :: (419, (o_419 P)) :: (420, (o_420 P)) :: (421, (o_421 P)) :: (422, (o_422 P)) :: (423, (o_423 P)) :: (424, (o_424 P)) :: (425, (o_425 P)) :: (426, (o_426 P)) :: (427, (o_427 P)) :: (634, (o_634 P)) :: (635, (o_635 P)) :: (636, (o_636 P)) :: (637, (o_637 P)) :: (638, (o_638 P)) :: (639, (o_639 P)) :: (640, (o_640 P)) :: (811, (o_811 P)) :: (l_K_102 P)
def l_K_104 (P : Params) : List (Addr × Obj) := (386, (o_386 P)) :: (387, (o_387 P)) :: (388, (o_388 P)) :: (389, (o_389 P)) :: (390, (o_390 P)) :: (391, (o_391 P)) :: (392, (o_392 P)) :: (393, (o_393 P)) :: (394, (o_394 P)) :: (395, (o_395 P)) :: (396, (o_396 P)) :: (397, (o_397 P)) :: (398, (o_398 P)) :: (399, (o_399 P)) :: (400, (o_400 P)) :: (401, (o_401 P)) :: (402, (o_402 P)) :: (403, (o_403 P)) :: (404, (o_404 P)) :: (405, (o_405 P)) :: (406, (o_406 P)) :: (407, (o_407 P)) :: (408, (o_408 P)) :: (409, (o_409 P)) :: (410, (o_410 P)) :: (l_K_103 P)
def l_K_105 (P : Params) : List (Addr × Obj) := (361, (o_361 P)) :: (362, (o_362 P)) :: (363, (o_363 P)) :: (364, (o_364 P)) :: (365, (o_365 P)) :: (366, (o_366 P)) :: (367, (o_367 P)) :: (368, (o_368 P)) :: (369, (o_369 P)) :: (370, (o_370 P)) :: (371, (o_371 P)) :: (372, (o_372 P)) :: (373, (o_373 P)) :: (374, (o_374 P)) :: (375, (o_375 P)) :: (376, (o_376 P)) :: (377, (o_377 P)) :: (378, (o_378 P)) :: (379, (o_379 P)) :: (380, (o_380 P)) :: (381, (o_381 P)) :: (382, (o_382 P)) :: (383, (o_383 P)) :: (384, (o_384 P)) :: (385, (o_385 P)) :: (l_K_104 P)
def l_K_106 (P : Params) : List (Addr × Obj) := (327, (o_327 P)) :: (328, (o_328 P)) :: (329, (o_329 P)) :: (339, (o_339 P)) :: (340, (o_340 P)) :: (341, (o_341 P)) :: (342, (o_342 P)) :: (343, (o_343 P)) :: (344, (o_344 P)) :: (345, (o_345 P)) :: (346, (o_346 P)) :: (347, (o_347 P)) :: (348, (o_348 P)) :: (349, (o_349 P)) :: (350, (o_350 P)) :: (351, (o_351 P)) :: (352, (o_352 P)) :: (353, (o_353 P)) :: (354, (o_354 P)) :: (355, (o_355 P)) :: (356, (o_356 P)) :: (357, (o_357 P)) :: (358, (o_358 P)) :: (359, (o_359 P)) :: (360, (o_360 P)) :: (l_K_105 P)
def l_K_107 (P : Params) : List (Addr × Obj) := (240, (o_240 P)) :: (241, (o_241 P)) :: (242, (o_242 P)) :: (243, (o_243 P)) :: (244, (o_244 P)) :: (245, (o_245 P)) :: (246, (o_246 P)) :: (247, (o_247 P)) :: (248, (o_248 P)) :: (249, (o_249 P)) :: (250, (o_250 P)) :: (251, (o_251 P)) :: (252, (o_252 P)) :: (253, (o_253 P)) :: (254, (o_254 P)) :: (255, (o_255 P)) :: (318, (o_318 P)) :: (319, (o_319 P)) :: (320, (o_320 P)) :: (321, (o_321 P)) :: (322, (o_322 P)) :: (323, (o_323 P)) :: (324, (o_324 P)) :: (325, (o_325 P)) :: (326, (o_326 P)) :: (l_K_106 P)
def l_K_108 (P : Params) : List (Addr × Obj) := (208, (o_208 P)) :: (209, (o_209 P)) :: (210, (o_210 P)) :: (211, (o_211 P)) :: (212, (o_212 P)) :: (213, (o_213 P)) :: (214, (o_214 P)) :: (215, (o_215 P)) :: (216, (o_216 P)) :: (217, (o_217 P)) :: (218, (o_218 P)) :: (219, (o_219 P)) :: (220, (o_220 P)) :: (228, (o_228 P)) :: (229, (o_229 P)) :: (230, (o_230 P)) :: (231, (o_231 P)) :: (232, (o_232 P)) :: (233, (o_233 P)) :: (234, (o_234 P)) :: (235, (o_235 P)) :: (236, (o_236 P)) :: (237, (o_237 P)) :: (238, (o_238 P)) :: (239, (o_239 P)) :: (l_K_107 P)
def l_K_109 (P : Params) : List (Addr × Obj) := (183, (o_183 P)) :: (184, (o_184 P)) :: (185, (o_185 P)) :: (186, (o_186 P)) :: (187, (o_187 P)) :: (188, (o_188 P)) :: (189, (o_189 P)) :: (190, (o_190 P)) :: (191, (o_191 P)) :: (192, (o_192 P)) :: (193, (o_193 P)) :: (194, (o_194 P)) :: (195, (o_195 P)) :: (196, (o_196 P)) :: (197, (o_197 P)) :: (198, (o_198 P)) :: (199, (o_199 P)) :: (200, (o_200 P)) :: (201, (o_201 P)) :: (202, (o_202 P)) :: (203, (o_203 P)) :: (204, (o_204 P)) :: (205, (o_205 P)) :: (206, (o_206 P)) :: (207, (o_207 P)) :: (l_K_108 P)
def l_K_110 (P : Params) : List (Addr × Obj) := (116, (o_116 P)) :: (117, (o_117 P)) :: (120, (o_120 P)) :: (127, (o_127 P)) :: (128, (o_128 P)) :: (129, (o_129 P)) :: (132, (o_132 P)) :: (139, (o_139 P)) :: (140, (o_140 P)) :: (141, (o_141 P)) :: (144, (o_144 P)) :: (151, (o_151 P)) :: (152, (o_152 P)) :: (153, (o_153 P)) :: (156, (o_156 P)) :: (163, (o_163 P)) :: (164, (o_164 P)) :: (165, (o_165 P)) :: (168, (o_168 P)) :: (175, (o_175 P)) :: (176, (o_176 P)) :: (177, (o_177 P)) :: (180, (o_180 P)) :: (181, (o_181 P)) :: (182, (o_182 P)) :: (l_K_109 P)
def l_K_111 (P : Params) : List (Addr × Obj) := (67, (o_67 P)) :: (68, (o_68 P)) :: (69, (o_69 P)) :: (70, (o_70 P)) :: (71, (o_71 P)) :: (72, (o_72 P)) :: (73, (o_73 P)) :: (76, (o_76 P)) :: (83, (o_83 P)) :: (84, (o_84 P)) :: (85, (o_85 P)) :: (88, (o_88 P)) :: (95, (o_95 P)) :: (96, (o_96 P)) :: (97, (o_97 P)) :: (98, (o_98 P)) :: (99, (o_99 P)) :: (100, (o_100 P)) :: (101, (o_101 P)) :: (102, (o_102 P)) :: (103, (o_103 P)) :: (104, (o_104 P)) :: (105, (o_105 P)) :: (108, (o_108 P)) :: (115, (o_115 P)) :: (l_K_110 P)
def l_K_112 (P : Params) : List (Addr × Obj) := (2, (o_2 P)) :: (3, (o_3_3 P)) :: (22, (o_22 P)) :: (29, (o_29 P)) :: (30, (o_30 P)) :: (31, (o_31 P)) :: (32, (o_32 P)) :: (35, (o_35 P)) :: (42, (o_42 P)) :: (43, (o_43 P)) :: (44, (o_44 P)) :: (45, (o_45 P)) :: (46, (o_46 P)) :: (47, (o_47 P)) :: (48, (o_48 P)) :: (49, (o_49 P)) :: (50, (o_50 P)) :: (51, (o_51 P)) :: (52, (o_52 P)) :: (55, (o_55 P)) :: (62, (o_62 P)) :: (63, (o_63 P)) :: (64, (o_64 P)) :: (65, (o_65 P)) :: (66, (o_66 P)) :: (l_K_111 P)
abbrev K (P : Params) : Frag := (l_K_112 P)
def a_K_113 : List Addr := 1866 :: []
def a_K_114 : List Addr := 1841 :: 1842 :: 1843 :: 1844 :: 1845 :: 1846 :: 1847 :: 1848 :: 1849 :: 1850 :: 1851 :: 1852 :: 1853 :: 1854 :: 1855 :: 1856 :: 1857 :: 1858 :: 1859 :: 1860 :: 1861 :: 1862 :: 1863 :: 1864 :: 1865 :: a_K_113
def a_K_115 : List Addr := 1816 :: 1817 :: 1818 :: 1819 :: 1820 :: 1821 :: 1822 :: 1823 :: 1824 :: 1825 :: 1826 :: 1827 :: 1828 :: 1829 :: 1830 :: 1831 :: 1832 :: 1833 :: 1834 :: 1835 :: 1836 :: 1837 :: 1838 :: 1839 :: 1840 :: a_K_114
def a_K_116 : List Addr := 1707 :: 1708 :: 1709 :: 1710 :: 1711 :: 1712 :: 1797 :: 1798 :: 1799 :: 1800 :: 1801 :: 1802 :: 1803 :: 1804 :: 1805 :: 1806 :: 1807 :: 1808 :: 1809 :: 1810 :: 1811 :: 1812 :: 1813 :: 1814 :: 1815 :: a_K_115
def a_K_117 : List Addr := 1682 :: 1683 :: 1684 :: 1685 :: 1686 :: 1687 :: 1688 :: 1689 :: 1690 :: 1691 :: 1692 :: 1693 :: 1694 :: 1695 :: 1696 :: 1697 :: 1698 :: 1699 :: 1700 :: 1701 :: 1702 :: 1703 :: 1704 :: 1705 :: 1706 :: a_K_116
def a_K_118 : List Addr := 1657 :: 1658 :: 1659 :: 1660 :: 1661 :: 1662 :: 1663 :: 1664 :: 1665 :: 1666 :: 1667 :: 1668 :: 1669 :: 1670 :: 1671 :: 1672 :: 1673 :: 1674 :: 1675 :: 1676 :: 1677 :: 1678 :: 1679 :: 1680 :: 1681 :: a_K_117
def a_K_119 : List Addr := 1632 :: 1633 :: 1634 :: 1635 :: 1636 :: 1637 :: 1638 :: 1639 :: 1640 :: 1641 :: 1642 :: 1643 :: 1644 :: 1645 :: 1646 :: 1647 :: 1648 :: 1649 :: 1650 :: 1651 :: 1652 :: 1653 :: 1654 :: 1655 :: 1656 :: a_K_118
def a_K_120 : List Addr := 1254 :: 1255 :: 1256 :: 1257 :: 1258 :: 1259 :: 1260 :: 1579 :: 1580 :: 1581 :: 1582 :: 1583 :: 1584 :: 1585 :: 1586 :: 1587 :: 1588 :: 1589 :: 1590 :: 1626 :: 1627 :: 1628 :: 1629 :: 1630 :: 1631 :: a_K_119
def a_K_121 : List Addr := 812 :: 813 :: 814 :: 815 :: 816 :: 817 :: 818 :: 819 :: 820 :: 821 :: 822 :: 823 :: 824 :: 825 :: 826 :: 827 :: 828 :: 829 :: 830 :: 831 :: 1249 :: 1250 :: 1251 :: 1252 :: 1253 :: a_K_120
def a_K_122 : List Addr := 411 :: 412 :: 413 :: 414 :: 415 :: 416 :: 417 :: 418 :: 419 :: 420 :: 421 :: 422 :: 423 :: 424 :: 425 :: 426 :: 427 :: 634 :: 635 :: 636 :: 637 :: 638 :: 639 :: 640 :: 811 :: a_K_121
def a_K_123 : List Addr := 386 :: 387 :: 388 :: 389 :: 390 :: 391 :: 392 :: 393 :: 394 :: 395 :: 396 :: 397 :: 398 :: 399 :: 400 :: 401 :: 402 :: 403 :: 404 :: 405 :: 406 :: 407 :: 408 :: 409 :: 410 :: a_K_122
def a_K_124 : List Addr := 361 :: 362 :: 363 :: 364 :: 365 :: 366 :: 367 :: 368 :: 369 :: 370 :: 371 :: 372 :: 373 :: 374 :: 375 :: 376 :: 377 :: 378 :: 379 :: 380 :: 381 :: 382 :: 383 :: 384 :: 385 :: a_K_123
def a_K_125 : List Addr := 327 :: 328 :: 329 :: 339 :: 340 :: 341 :: 342 :: 343 :: 344 :: 345 :: 346 :: 347 :: 348 :: 349 :: 350 :: 351 :: 352 :: 353 :: 354 :: 355 :: 356 :: 357 :: 358 :: 359 :: 360 :: a_K_124
def a_K_126 : List Addr := 240 :: 241 :: 242 :: 243 :: 244 :: 245 :: 246 :: 247 :: 248 :: 249 :: 250 :: 251 :: 252 :: 253 :: 254 :: 255 :: 318 :: 319 :: 320 :: 321 :: 322 :: 323 :: 324 :: 325 :: 326 :: a_K_125
def a_K_127 : List Addr := 208 :: 209 :: 210 :: 211 :: 212 :: 213 :: 214 :: 215 :: 216 :: 217 :: 218 :: 219 :: 220 :: 228 :: 229 :: 230 :: 231 :: 232 :: 233 :: 234 :: 235 :: 236 :: 237 :: 238 :: 239 :: a_K_126
def a_K_128 : List Addr := 183 :: 184 :: 185 :: 186 :: 187 :: 188 :: 189 :: 190 :: 191 :: 192 :: 193 :: 194 :: 195 :: 196 :: 197 :: 198 :: 199 :: 200 :: 201 :: 202 :: 203 :: 204 :: 205 :: 206 :: 207 :: a_K_127
def a_K_129 : List Addr := 116 :: 117 :: 120 :: 127 :: 128 :: 129 :: 132 :: 139 :: 140 :: 141 :: 144 :: 151 :: 152 :: 153 :: 156 :: 163 :: 164 :: 165 :: 168 :: 175 :: 176 :: 177 :: 180 :: 181 :: 182 :: a_K_128
def a_K_130 : List Addr := 67 :: 68 :: 69 :: 70 :: 71 :: 72 :: 73 :: 76 :: 83 :: 84 :: 85 :: 88 :: 95 :: 96 :: 97 :: 98 :: 99 :: 100 :: 101 :: 102 :: 103 :: 104 :: 105 :: 108 :: 115 :: a_K_129
def a_K_131 : List Addr := 2 :: 3 :: 22 :: 29 :: 30 :: 31 :: 32 :: 35 :: 42 :: 43 :: 44 :: 45 :: 46 :: 47 :: 48 :: 49 :: 50 :: 51 :: 52 :: 55 :: 62 :: 63 :: 64 :: 65 :: 66 :: a_K_130
abbrev kas : List Addr := a_K_131
theorem kasE (P : Params) : kas = (K P).map (·.1) := by kernel_rfl
abbrev hk : Hook := kHook K kas kasE
theorem look1 (w : World) : (staticsOk (importedModules prg.main.body) (boot_heap w.params) (H1 w.params) && namesBound prg (H1 w.params) && gensDone ⟨H1 w.params, #[], ⟨0, 0, 0, 0⟩, 2983, default⟩ && laidKept (boot_heap w.params) (H1 w.params)) = true := by kernel_rfl
theorem look2 (w : World) (os : OsState) : seenQ qv names (importedModules prg.main.body) (fun s => xlAt qv [] s && recOk R.toRowW.records s) (S4 w os).abs = openGood qv names := by kernel_rfl
theorem look3 (w : World) (os : OsState) : XH.obT kas (S4 w os) = hk.val w := by kernel_rfl
theorem left : LeftO prg qv names (fun s => xlAt qv [] s && recOk R.toRowW.records s) hk.obs hk.val 13162 true :=
  LeftO.of_pieces (H₀ := boot_heap) (H₁ := H1) (gs₀ := #[]) (gs₁ := #[]) (d₀ := boot_drawn) (d₁ := ⟨0, 0, 0, 0⟩) (k₀ := boot_toks) (k₁ := 2983) (m₀ := 11) (ann := ann) (M := (12 + (1 + (3444 + (3444 + (3446 + (2812 + 3)))))))
    (boot_open (by kernel_rfl) (by rfl) (fun s => by kernel_rfl)) (fun w => by kernel_rfl) runs (by rfl) fun w => funext fun os =>
      Prod.ext (look1 w) (Prod.ext ((seenQ_eq _ _ _ _ _).trans (look2 w os)) ((XH.obT_eq kas (S4 w os)).symm.trans (look3 w os)))

end Hd
end

noncomputable section
namespace XH
open PySem PySem.W PySem.Calls PyProof.Rows HandSHeadRun
/-! ### the symbol tables, by parts -/
theorem all_cut {α : Type} {l : List α} {f : α → Bool} (n : Nat) (a : (l.take n).all f = true) (b : (l.drop n).all f = true) : l.all f = true := by
  rw [← List.take_append_drop n l, List.all_append, a, b]
  rfl
/-- what it asks of each name -/
def ntX (sc : Scope) : {f : Str × NameKind → Bool // TablesWhole.noTwice sc = sc.names.all f} := ⟨_, rfl⟩
theorem nt_of {sc : Scope} (h : sc.names.all (ntX sc).1 = true) : TablesWhole.noTwice sc = true := (ntX sc).2.trans h
theorem gath_app (t : Scope) (c : TablesWhole.Ctx) (s : Scope) : ∀ l r : List Stmt, TablesWhole.wSs TablesWhole.gather t c s (l ++ r) = TablesWhole.wSs TablesWhole.gather t c s l ++ TablesWhole.wSs TablesWhole.gather t c s r := by
  intro l
  induction l with
  | nil => intro r; rfl
  | cons a l ih =>
    intro r
    show TablesWhole.wS TablesWhole.gather t c s a ++ TablesWhole.wSs TablesWhole.gather t c s (l ++ r) = (TablesWhole.wS TablesWhole.gather t c s a ++ TablesWhole.wSs TablesWhole.gather t c s l) ++ _
    rw [ih, List.append_assoc]
theorem hold_app (t : Scope) (c : TablesWhole.Ctx) (s : Scope) : ∀ l r : List Stmt, TablesWhole.wSs TablesWhole.holds t c s (l ++ r) = (TablesWhole.wSs TablesWhole.holds t c s l && TablesWhole.wSs TablesWhole.holds t c s r) := by
  intro l
  induction l with
  | nil => intro r; rfl
  | cons a l ih =>
    intro r
    show (TablesWhole.wS TablesWhole.holds t c s a && TablesWhole.wSs TablesWhole.holds t c s (l ++ r)) = ((TablesWhole.wS TablesWhole.holds t c s a && TablesWhole.wSs TablesWhole.holds t c s l) && _)
    rw [ih, Bool.and_assoc]
theorem gath_cut {t : Scope} {c : TablesWhole.Ctx} {s : Scope} {l : List Stmt} (n : Nat) (a : TablesWhole.wSs TablesWhole.gather t c s (l.take n) = []) (b : TablesWhole.wSs TablesWhole.gather t c s (l.drop n) = []) : TablesWhole.wSs TablesWhole.gather t c s l = [] := by
  rw [← List.take_append_drop n l, gath_app, a, b]
  rfl
theorem hold_cut {t : Scope} {c : TablesWhole.Ctx} {s : Scope} {l : List Stmt} (n : Nat) (a : TablesWhole.wSs TablesWhole.holds t c s (l.take n) = true) (b : TablesWhole.wSs TablesWhole.holds t c s (l.drop n) = true) : TablesWhole.wSs TablesWhole.holds t c s l = true := by
  rw [← List.take_append_drop n l, hold_app, a, b]
  rfl
theorem tables_of {p : Program} (h1 : p.modules = []) (h2 : p.parses = []) (h3 : p.harvested = []) (hn : p.main.scope.names.all (ntX p.main.scope).1 = true)
    (hg : TablesWhole.wSs TablesWhole.gather p.main.scope ⟨p.main.scope, [], [], [], none⟩ p.main.scope p.main.body = []) (hh : TablesWhole.wSs TablesWhole.holds p.main.scope ⟨p.main.scope, [], [], [], none⟩ p.main.scope p.main.body = true) : p.tablesWhole = true := by
  have e : TablesWhole.wModule TablesWhole.holds p.main = true := by
    unfold TablesWhole.wModule
    rw [hg]
    dsimp only
    rw [hh]
    show (true && (TablesWhole.noTwice p.main.scope && (true && true))) = true
    rw [nt_of hn]
    rfl
  show TablesWhole.wProgram TablesWhole.holds p = true
  unfold TablesWhole.wProgram
  rw [h1, h2, h3, e]
  rfl
end XH
end

set_option maxHeartbeats 0
noncomputable section
namespace Hd
open PySem PySem.W PySem.Calls PyProof.Rows HandSHeadRun
abbrev bd0 : List Stmt := prg.main.body
abbrev bd1 : List Stmt := bd0.drop 60
abbrev bd2 : List Stmt := bd1.drop 60
abbrev bd3 : List Stmt := bd2.drop 60
abbrev bd4 : List Stmt := bd3.drop 60
abbrev bd5 : List Stmt := bd4.drop 60
theorem ga0 : TablesWhole.wSs TablesWhole.gather prg.main.scope ⟨prg.main.scope, [], [], [], none⟩ prg.main.scope (bd0.take 60) = [] := by kernel_rfl
theorem ho0 : TablesWhole.wSs TablesWhole.holds prg.main.scope ⟨prg.main.scope, [], [], [], none⟩ prg.main.scope (bd0.take 60) = true := by kernel_rfl
theorem ga1 : TablesWhole.wSs TablesWhole.gather prg.main.scope ⟨prg.main.scope, [], [], [], none⟩ prg.main.scope (bd1.take 60) = [] := by kernel_rfl
theorem ho1 : TablesWhole.wSs TablesWhole.holds prg.main.scope ⟨prg.main.scope, [], [], [], none⟩ prg.main.scope (bd1.take 60) = true := by kernel_rfl
theorem ga2 : TablesWhole.wSs TablesWhole.gather prg.main.scope ⟨prg.main.scope, [], [], [], none⟩ prg.main.scope (bd2.take 60) = [] := by kernel_rfl
theorem ho2 : TablesWhole.wSs TablesWhole.holds prg.main.scope ⟨prg.main.scope, [], [], [], none⟩ prg.main.scope (bd2.take 60) = true := by kernel_rfl
theorem ga3 : TablesWhole.wSs TablesWhole.gather prg.main.scope ⟨prg.main.scope, [], [], [], none⟩ prg.main.scope (bd3.take 60) = [] := by kernel_rfl
theorem ho3 : TablesWhole.wSs TablesWhole.holds prg.main.scope ⟨prg.main.scope, [], [], [], none⟩ prg.main.scope (bd3.take 60) = true := by kernel_rfl
theorem ga4 : TablesWhole.wSs TablesWhole.gather prg.main.scope ⟨prg.main.scope, [], [], [], none⟩ prg.main.scope (bd4.take 60) = [] := by kernel_rfl
theorem ho4 : TablesWhole.wSs TablesWhole.holds prg.main.scope ⟨prg.main.scope, [], [], [], none⟩ prg.main.scope (bd4.take 60) = true := by kernel_rfl
theorem ga5 : TablesWhole.wSs TablesWhole.gather prg.main.scope ⟨prg.main.scope, [], [], [], none⟩ prg.main.scope bd5 = [] := by kernel_rfl
theorem ho5 : TablesWhole.wSs TablesWhole.holds prg.main.scope ⟨prg.main.scope, [], [], [], none⟩ prg.main.scope bd5 = true := by kernel_rfl
abbrev nm0 := prg.main.scope.names
abbrev nm1 := nm0.drop 60
abbrev nm2 := nm1.drop 60
abbrev nm3 := nm2.drop 60
abbrev nm4 := nm3.drop 60
abbrev nm5 := nm4.drop 60
theorem no0 : (nm0.take 60).all (XH.ntX prg.main.scope).1 = true := by kernel_rfl
theorem no1 : (nm1.take 60).all (XH.ntX prg.main.scope).1 = true := by kernel_rfl
theorem no2 : (nm2.take 60).all (XH.ntX prg.main.scope).1 = true := by kernel_rfl
theorem no3 : (nm3.take 60).all (XH.ntX prg.main.scope).1 = true := by kernel_rfl
theorem no4 : (nm4.take 60).all (XH.ntX prg.main.scope).1 = true := by kernel_rfl
theorem no5 : nm5.all (XH.ntX prg.main.scope).1 = true := by kernel_rfl
theorem tabs : prg.tablesWhole = true := XH.tables_of rfl rfl rfl (XH.all_cut 60 no0 (XH.all_cut 60 no1 (XH.all_cut 60 no2 (XH.all_cut 60 no3 (XH.all_cut 60 no4 no5))))) (XH.gath_cut 60 ga0 (XH.gath_cut 60 ga1 (XH.gath_cut 60 ga2 (XH.gath_cut 60 ga3 (XH.gath_cut 60 ga4 ga5))))) (XH.hold_cut 60 ho0 (XH.hold_cut 60 ho1 (XH.hold_cut 60 ho2 (XH.hold_cut 60 ho3 (XH.hold_cut 60 ho4 ho5)))))
theorem bares : R.prog.bare := ⟨rfl, rfl, rfl, rfl, rfl, tabs⟩
abbrev dL : DefRec := HandSHeadRun.topDef prg 281
theorem side1 : defOf qv R.name = some (dL, []) := by kernel_rfl
theorem side2 : R.prog.theDef R.name = some (dL.params, dL.body, dL.scope) := by kernel_rfl
theorem side3 : kwWritten? dL.params.kwonlyargs dL.params.kw_defaults = some [] := by kernel_rfl
theorem side4 : (chainsOk qv && opensWell R.prog && (frees R.toRowW && R.within.isEmpty)) = true := by kernel_rfl
end Hd
end

set_option maxHeartbeats 0
noncomputable section
namespace Hd
open PySem PySem.W L2
theorem kl_42 (P : Params) : (K P).lookup 42 = some (o_42 P) := by kernel_rfl
theorem kl_49 (P : Params) : (K P).lookup 49 = some (o_49 P) := by kernel_rfl
theorem kl_52 (P : Params) : (K P).lookup 52 = some (o_52 P) := by kernel_rfl
theorem kl_180 (P : Params) : (K P).lookup 180 = some (o_180 P) := by kernel_rfl
theorem kl_181 (P : Params) : (K P).lookup 181 = some (o_181 P) := by kernel_rfl
theorem kl_182 (P : Params) : (K P).lookup 182 = some (o_182 P) := by kernel_rfl
theorem kl_189 (P : Params) : (K P).lookup 189 = some (o_189 P) := by kernel_rfl
theorem kl_196 (P : Params) : (K P).lookup 196 = some (o_196 P) := by kernel_rfl
theorem kl_203 (P : Params) : (K P).lookup 203 = some (o_203 P) := by kernel_rfl
theorem kl_208 (P : Params) : (K P).lookup 208 = some (o_208 P) := by kernel_rfl
theorem kl_213 (P : Params) : (K P).lookup 213 = some (o_213 P) := by kernel_rfl
theorem kl_220 (P : Params) : (K P).lookup 220 = some (o_220 P) := by kernel_rfl
theorem kl_234 (P : Params) : (K P).lookup 234 = some (o_234 P) := by kernel_rfl
theorem kl_241 (P : Params) : (K P).lookup 241 = some (o_241 P) := by kernel_rfl
theorem kl_248 (P : Params) : (K P).lookup 248 = some (o_248 P) := by kernel_rfl
theorem kl_255 (P : Params) : (K P).lookup 255 = some (o_255 P) := by kernel_rfl
theorem kl_345 (P : Params) : (K P).lookup 345 = some (o_345 P) := by kernel_rfl
theorem kl_640 (P : Params) : (K P).lookup 640 = some (o_640 P) := by kernel_rfl
theorem kl_817 (P : Params) : (K P).lookup 817 = some (o_817 P) := by kernel_rfl
theorem kl_824 (P : Params) : (K P).lookup 824 = some (o_824 P) := by kernel_rfl
theorem kl_831 (P : Params) : (K P).lookup 831 = some (o_831 P) := by kernel_rfl
theorem kl_1253 (P : Params) : (K P).lookup 1253 = some (o_1253 P) := by kernel_rfl
theorem kl_1260 (P : Params) : (K P).lookup 1260 = some (o_1260 P) := by kernel_rfl
theorem kl_1585 (P : Params) : (K P).lookup 1585 = some (o_1585 P) := by kernel_rfl
theorem kl_1630 (P : Params) : (K P).lookup 1630 = some (o_1630 P) := by kernel_rfl
theorem kl_1803 (P : Params) : (K P).lookup 1803 = some (o_1803 P) := by kernel_rfl
theorem kl_1812 (P : Params) : (K P).lookup 1812 = some (o_1812 P) := by kernel_rfl
theorem kl_1821 (P : Params) : (K P).lookup 1821 = some (o_1821 P) := by kernel_rfl
theorem kl_1828 (P : Params) : (K P).lookup 1828 = some (o_1828 P) := by kernel_rfl
theorem kl_1835 (P : Params) : (K P).lookup 1835 = some (o_1835 P) := by kernel_rfl
theorem kl_1842 (P : Params) : (K P).lookup 1842 = some (o_1842 P) := by kernel_rfl
theorem kl_1847 (P : Params) : (K P).lookup 1847 = some (o_1847 P) := by kernel_rfl
theorem kl_1854 (P : Params) : (K P).lookup 1854 = some (o_1854 P) := by kernel_rfl
theorem kl_1861 (P : Params) : (K P).lookup 1861 = some (o_1861 P) := by kernel_rfl
theorem kl_1866 (P : Params) : (K P).lookup 1866 = some (o_1866 P) := by kernel_rfl
theorem f_g0 (P : Params) : PySem.W.nsIn (K P) mainGlobals "NoText" = some (some (.ref 52)) := by kernel_rfl
theorem f_g1 (P : Params) : PySem.W.nsIn (K P) mainGlobals "NoTree" = some (some (.ref 73)) := by kernel_rfl
theorem f_g2 (P : Params) : PySem.W.nsIn (K P) mainGlobals "NoPath" = some (some (.ref 85)) := by kernel_rfl
theorem f_g3 (P : Params) : PySem.W.nsIn (K P) mainGlobals "NoNaming" = some (some (.ref 105)) := by kernel_rfl
theorem f_g4 (P : Params) : PySem.W.nsIn (K P) mainGlobals "NoLetters" = some (some (.ref 117)) := by kernel_rfl
theorem f_g5 (P : Params) : PySem.W.nsIn (K P) mainGlobals "NoCount" = some (some (.ref 129)) := by kernel_rfl
theorem f_g6 (P : Params) : PySem.W.nsIn (K P) mainGlobals "NoTurning" = some (some (.ref 141)) := by kernel_rfl
theorem f_g7 (P : Params) : PySem.W.nsIn (K P) mainGlobals "NoMap" = some (some (.ref 153)) := by kernel_rfl
theorem f_g8 (P : Params) : PySem.W.nsIn (K P) mainGlobals "NoLine" = some (some (.ref 165)) := by kernel_rfl
theorem f_g9 (P : Params) : PySem.W.nsIn (K P) mainGlobals "TooMany" = some (some (.ref 177)) := by kernel_rfl
theorem f_gL (P : Params) : PySem.W.nsIn (K P) mainGlobals "LeanError" = some (some (.ref 31)) := by kernel_rfl
theorem f_zI (P : Params) : PySem.W.nsIn (K P) mainGlobals "isinstance" = some none := by kernel_rfl
theorem f_zZ (P : Params) : PySem.W.nsIn (K P) mainGlobals "zip" = some none := by kernel_rfl
theorem f_zK (P : Params) : PySem.W.nsIn (K P) mainGlobals "LookupError" = some none := by kernel_rfl
theorem f_zA (P : Params) : PySem.W.nsIn (K P) mainGlobals "ArithmeticError" = some none := by kernel_rfl
theorem f_zV (P : Params) : PySem.W.nsIn (K P) mainGlobals "ValueError" = some none := by kernel_rfl
theorem f_zl (P : Params) : PySem.W.nsIn (K P) mainGlobals "len" = some none := by kernel_rfl
theorem f_zr (P : Params) : PySem.W.nsIn (K P) mainGlobals "range" = some none := by kernel_rfl
theorem f_zs (P : Params) : PySem.W.nsIn (K P) mainGlobals "str" = some none := by kernel_rfl
theorem f_za (P : Params) : PySem.W.nsIn (K P) mainGlobals "all" = some none := by kernel_rfl
theorem f_zi (P : Params) : PySem.W.nsIn (K P) mainGlobals "int" = some none := by kernel_rfl
theorem f_zt (P : Params) : PySem.W.nsIn (K P) mainGlobals "list" = some none := by kernel_rfl
theorem f_ze (P : Params) : PySem.W.nsIn (K P) mainGlobals "enumerate" = some none := by kernel_rfl
theorem f_sn (P : Params) : PySem.W.specialIn (K P) (.builtin "object.__class__") "__get__" = some (some (.builtin "getset_descriptor.__get__")) := by kernel_rfl
theorem f_st (P : Params) : PySem.W.takesIn (K P) (.builtin "object.__class__") = some true := by kernel_rfl
theorem f_hc0 (P : Params) : PySem.W.isClsIn (K P) 52 = true := by kernel_rfl
theorem f_hg0 (P : Params) : PySem.W.findIn (K P) (.ref 52) "__getattribute__" = some (some (.builtin "BaseException.__getattribute__")) := by kernel_rfl
theorem f_hk0 (P : Params) : PySem.W.findIn (K P) (.ref 52) "__getattr__" = some none := by kernel_rfl
theorem f_hs0 (P : Params) : PySem.W.subIn (K P) (.ref 52) (.type "BaseException") = some true := by kernel_rfl
theorem f_hd0 (P : Params) : PySem.W.hasDictIn (K P) 52 = true := by kernel_rfl
theorem f_ha0 (P : Params) : PySem.W.findIn (K P) (.ref 52) "__class__" = some (some (.builtin "object.__class__")) := by kernel_rfl
theorem f_hm0 (P : Params) : PySem.W.mroIn (K P) 52 (.type "object") = some true := by kernel_rfl
theorem f_ht0 (P : Params) : PySem.W.typeIn (K P) (.ref 52) = some (.type "type") := by kernel_rfl
theorem f_sK0 (P : Params) : PySem.W.subIn (K P) (.ref 52) (.type "LookupError") = some false := by kernel_rfl
theorem f_sA0 (P : Params) : PySem.W.subIn (K P) (.ref 52) (.type "ArithmeticError") = some false := by kernel_rfl
theorem f_sV0 (P : Params) : PySem.W.subIn (K P) (.ref 52) (.type "ValueError") = some true := by kernel_rfl
theorem f_sL0 (P : Params) : PySem.W.subIn (K P) (.ref 52) (.ref 31) = some true := by kernel_rfl
theorem f_s0_1 (P : Params) : PySem.W.subIn (K P) (.ref 52) (.ref 73) = some false := by kernel_rfl
theorem f_s0_2 (P : Params) : PySem.W.subIn (K P) (.ref 52) (.ref 85) = some false := by kernel_rfl
theorem f_s0_3 (P : Params) : PySem.W.subIn (K P) (.ref 52) (.ref 105) = some false := by kernel_rfl
theorem f_s0_4 (P : Params) : PySem.W.subIn (K P) (.ref 52) (.ref 117) = some false := by kernel_rfl
theorem f_s0_5 (P : Params) : PySem.W.subIn (K P) (.ref 52) (.ref 129) = some false := by kernel_rfl
theorem f_s0_6 (P : Params) : PySem.W.subIn (K P) (.ref 52) (.ref 141) = some false := by kernel_rfl
theorem f_s0_7 (P : Params) : PySem.W.subIn (K P) (.ref 52) (.ref 153) = some false := by kernel_rfl
theorem f_s0_8 (P : Params) : PySem.W.subIn (K P) (.ref 52) (.ref 165) = some false := by kernel_rfl
theorem f_s0_9 (P : Params) : PySem.W.subIn (K P) (.ref 52) (.ref 177) = some false := by kernel_rfl
theorem f_hc1 (P : Params) : PySem.W.isClsIn (K P) 73 = true := by kernel_rfl
theorem f_hg1 (P : Params) : PySem.W.findIn (K P) (.ref 73) "__getattribute__" = some (some (.builtin "BaseException.__getattribute__")) := by kernel_rfl
theorem f_hk1 (P : Params) : PySem.W.findIn (K P) (.ref 73) "__getattr__" = some none := by kernel_rfl
theorem f_hs1 (P : Params) : PySem.W.subIn (K P) (.ref 73) (.type "BaseException") = some true := by kernel_rfl
theorem f_hd1 (P : Params) : PySem.W.hasDictIn (K P) 73 = true := by kernel_rfl
theorem f_ha1 (P : Params) : PySem.W.findIn (K P) (.ref 73) "__class__" = some (some (.builtin "object.__class__")) := by kernel_rfl
theorem f_hm1 (P : Params) : PySem.W.mroIn (K P) 73 (.type "object") = some true := by kernel_rfl
theorem f_ht1 (P : Params) : PySem.W.typeIn (K P) (.ref 73) = some (.type "type") := by kernel_rfl
theorem f_sK1 (P : Params) : PySem.W.subIn (K P) (.ref 73) (.type "LookupError") = some false := by kernel_rfl
theorem f_sA1 (P : Params) : PySem.W.subIn (K P) (.ref 73) (.type "ArithmeticError") = some false := by kernel_rfl
theorem f_sV1 (P : Params) : PySem.W.subIn (K P) (.ref 73) (.type "ValueError") = some true := by kernel_rfl
theorem f_sL1 (P : Params) : PySem.W.subIn (K P) (.ref 73) (.ref 31) = some true := by kernel_rfl
theorem f_s1_0 (P : Params) : PySem.W.subIn (K P) (.ref 73) (.ref 52) = some false := by kernel_rfl
theorem f_s1_2 (P : Params) : PySem.W.subIn (K P) (.ref 73) (.ref 85) = some false := by kernel_rfl
theorem f_s1_3 (P : Params) : PySem.W.subIn (K P) (.ref 73) (.ref 105) = some false := by kernel_rfl
theorem f_s1_4 (P : Params) : PySem.W.subIn (K P) (.ref 73) (.ref 117) = some false := by kernel_rfl
theorem f_s1_5 (P : Params) : PySem.W.subIn (K P) (.ref 73) (.ref 129) = some false := by kernel_rfl
theorem f_s1_6 (P : Params) : PySem.W.subIn (K P) (.ref 73) (.ref 141) = some false := by kernel_rfl
theorem f_s1_7 (P : Params) : PySem.W.subIn (K P) (.ref 73) (.ref 153) = some false := by kernel_rfl
theorem f_s1_8 (P : Params) : PySem.W.subIn (K P) (.ref 73) (.ref 165) = some false := by kernel_rfl
theorem f_s1_9 (P : Params) : PySem.W.subIn (K P) (.ref 73) (.ref 177) = some false := by kernel_rfl
theorem f_hc2 (P : Params) : PySem.W.isClsIn (K P) 85 = true := by kernel_rfl
theorem f_hg2 (P : Params) : PySem.W.findIn (K P) (.ref 85) "__getattribute__" = some (some (.builtin "BaseException.__getattribute__")) := by kernel_rfl
theorem f_hk2 (P : Params) : PySem.W.findIn (K P) (.ref 85) "__getattr__" = some none := by kernel_rfl
theorem f_hs2 (P : Params) : PySem.W.subIn (K P) (.ref 85) (.type "BaseException") = some true := by kernel_rfl
theorem f_hd2 (P : Params) : PySem.W.hasDictIn (K P) 85 = true := by kernel_rfl
theorem f_ha2 (P : Params) : PySem.W.findIn (K P) (.ref 85) "__class__" = some (some (.builtin "object.__class__")) := by kernel_rfl
theorem f_hm2 (P : Params) : PySem.W.mroIn (K P) 85 (.type "object") = some true := by kernel_rfl
theorem f_ht2 (P : Params) : PySem.W.typeIn (K P) (.ref 85) = some (.type "type") := by kernel_rfl
theorem f_sK2 (P : Params) : PySem.W.subIn (K P) (.ref 85) (.type "LookupError") = some false := by kernel_rfl
theorem f_sA2 (P : Params) : PySem.W.subIn (K P) (.ref 85) (.type "ArithmeticError") = some false := by kernel_rfl
theorem f_sV2 (P : Params) : PySem.W.subIn (K P) (.ref 85) (.type "ValueError") = some true := by kernel_rfl
theorem f_sL2 (P : Params) : PySem.W.subIn (K P) (.ref 85) (.ref 31) = some true := by kernel_rfl
theorem f_s2_0 (P : Params) : PySem.W.subIn (K P) (.ref 85) (.ref 52) = some false := by kernel_rfl
theorem f_s2_1 (P : Params) : PySem.W.subIn (K P) (.ref 85) (.ref 73) = some false := by kernel_rfl
theorem f_s2_3 (P : Params) : PySem.W.subIn (K P) (.ref 85) (.ref 105) = some false := by kernel_rfl
theorem f_s2_4 (P : Params) : PySem.W.subIn (K P) (.ref 85) (.ref 117) = some false := by kernel_rfl
theorem f_s2_5 (P : Params) : PySem.W.subIn (K P) (.ref 85) (.ref 129) = some false := by kernel_rfl
theorem f_s2_6 (P : Params) : PySem.W.subIn (K P) (.ref 85) (.ref 141) = some false := by kernel_rfl
theorem f_s2_7 (P : Params) : PySem.W.subIn (K P) (.ref 85) (.ref 153) = some false := by kernel_rfl
theorem f_s2_8 (P : Params) : PySem.W.subIn (K P) (.ref 85) (.ref 165) = some false := by kernel_rfl
theorem f_s2_9 (P : Params) : PySem.W.subIn (K P) (.ref 85) (.ref 177) = some false := by kernel_rfl
theorem f_hc3 (P : Params) : PySem.W.isClsIn (K P) 105 = true := by kernel_rfl
theorem f_hg3 (P : Params) : PySem.W.findIn (K P) (.ref 105) "__getattribute__" = some (some (.builtin "BaseException.__getattribute__")) := by kernel_rfl
theorem f_hk3 (P : Params) : PySem.W.findIn (K P) (.ref 105) "__getattr__" = some none := by kernel_rfl
theorem f_hs3 (P : Params) : PySem.W.subIn (K P) (.ref 105) (.type "BaseException") = some true := by kernel_rfl
theorem f_hd3 (P : Params) : PySem.W.hasDictIn (K P) 105 = true := by kernel_rfl
theorem f_ha3 (P : Params) : PySem.W.findIn (K P) (.ref 105) "__class__" = some (some (.builtin "object.__class__")) := by kernel_rfl
theorem f_hm3 (P : Params) : PySem.W.mroIn (K P) 105 (.type "object") = some true := by kernel_rfl
theorem f_ht3 (P : Params) : PySem.W.typeIn (K P) (.ref 105) = some (.type "type") := by kernel_rfl
theorem f_sK3 (P : Params) : PySem.W.subIn (K P) (.ref 105) (.type "LookupError") = some false := by kernel_rfl
theorem f_sA3 (P : Params) : PySem.W.subIn (K P) (.ref 105) (.type "ArithmeticError") = some false := by kernel_rfl
theorem f_sV3 (P : Params) : PySem.W.subIn (K P) (.ref 105) (.type "ValueError") = some true := by kernel_rfl
theorem f_sL3 (P : Params) : PySem.W.subIn (K P) (.ref 105) (.ref 31) = some true := by kernel_rfl
theorem f_s3_0 (P : Params) : PySem.W.subIn (K P) (.ref 105) (.ref 52) = some false := by kernel_rfl
theorem f_s3_1 (P : Params) : PySem.W.subIn (K P) (.ref 105) (.ref 73) = some false := by kernel_rfl
theorem f_s3_2 (P : Params) : PySem.W.subIn (K P) (.ref 105) (.ref 85) = some false := by kernel_rfl
theorem f_s3_4 (P : Params) : PySem.W.subIn (K P) (.ref 105) (.ref 117) = some false := by kernel_rfl
theorem f_s3_5 (P : Params) : PySem.W.subIn (K P) (.ref 105) (.ref 129) = some false := by kernel_rfl
theorem f_s3_6 (P : Params) : PySem.W.subIn (K P) (.ref 105) (.ref 141) = some false := by kernel_rfl
theorem f_s3_7 (P : Params) : PySem.W.subIn (K P) (.ref 105) (.ref 153) = some false := by kernel_rfl
theorem f_s3_8 (P : Params) : PySem.W.subIn (K P) (.ref 105) (.ref 165) = some false := by kernel_rfl
theorem f_s3_9 (P : Params) : PySem.W.subIn (K P) (.ref 105) (.ref 177) = some false := by kernel_rfl
theorem f_hc4 (P : Params) : PySem.W.isClsIn (K P) 117 = true := by kernel_rfl
theorem f_hg4 (P : Params) : PySem.W.findIn (K P) (.ref 117) "__getattribute__" = some (some (.builtin "BaseException.__getattribute__")) := by kernel_rfl
theorem f_hk4 (P : Params) : PySem.W.findIn (K P) (.ref 117) "__getattr__" = some none := by kernel_rfl
theorem f_hs4 (P : Params) : PySem.W.subIn (K P) (.ref 117) (.type "BaseException") = some true := by kernel_rfl
theorem f_hd4 (P : Params) : PySem.W.hasDictIn (K P) 117 = true := by kernel_rfl
theorem f_ha4 (P : Params) : PySem.W.findIn (K P) (.ref 117) "__class__" = some (some (.builtin "object.__class__")) := by kernel_rfl
theorem f_hm4 (P : Params) : PySem.W.mroIn (K P) 117 (.type "object") = some true := by kernel_rfl
theorem f_ht4 (P : Params) : PySem.W.typeIn (K P) (.ref 117) = some (.type "type") := by kernel_rfl
theorem f_sK4 (P : Params) : PySem.W.subIn (K P) (.ref 117) (.type "LookupError") = some false := by kernel_rfl
theorem f_sA4 (P : Params) : PySem.W.subIn (K P) (.ref 117) (.type "ArithmeticError") = some false := by kernel_rfl
theorem f_sV4 (P : Params) : PySem.W.subIn (K P) (.ref 117) (.type "ValueError") = some true := by kernel_rfl
theorem f_sL4 (P : Params) : PySem.W.subIn (K P) (.ref 117) (.ref 31) = some true := by kernel_rfl
theorem f_s4_0 (P : Params) : PySem.W.subIn (K P) (.ref 117) (.ref 52) = some false := by kernel_rfl
theorem f_s4_1 (P : Params) : PySem.W.subIn (K P) (.ref 117) (.ref 73) = some false := by kernel_rfl
theorem f_s4_2 (P : Params) : PySem.W.subIn (K P) (.ref 117) (.ref 85) = some false := by kernel_rfl
theorem f_s4_3 (P : Params) : PySem.W.subIn (K P) (.ref 117) (.ref 105) = some false := by kernel_rfl
theorem f_s4_5 (P : Params) : PySem.W.subIn (K P) (.ref 117) (.ref 129) = some false := by kernel_rfl
theorem f_s4_6 (P : Params) : PySem.W.subIn (K P) (.ref 117) (.ref 141) = some false := by kernel_rfl
theorem f_s4_7 (P : Params) : PySem.W.subIn (K P) (.ref 117) (.ref 153) = some false := by kernel_rfl
theorem f_s4_8 (P : Params) : PySem.W.subIn (K P) (.ref 117) (.ref 165) = some false := by kernel_rfl
theorem f_s4_9 (P : Params) : PySem.W.subIn (K P) (.ref 117) (.ref 177) = some false := by kernel_rfl
theorem f_hc5 (P : Params) : PySem.W.isClsIn (K P) 129 = true := by kernel_rfl
theorem f_hg5 (P : Params) : PySem.W.findIn (K P) (.ref 129) "__getattribute__" = some (some (.builtin "BaseException.__getattribute__")) := by kernel_rfl
theorem f_hk5 (P : Params) : PySem.W.findIn (K P) (.ref 129) "__getattr__" = some none := by kernel_rfl
theorem f_hs5 (P : Params) : PySem.W.subIn (K P) (.ref 129) (.type "BaseException") = some true := by kernel_rfl
theorem f_hd5 (P : Params) : PySem.W.hasDictIn (K P) 129 = true := by kernel_rfl
theorem f_ha5 (P : Params) : PySem.W.findIn (K P) (.ref 129) "__class__" = some (some (.builtin "object.__class__")) := by kernel_rfl
theorem f_hm5 (P : Params) : PySem.W.mroIn (K P) 129 (.type "object") = some true := by kernel_rfl
theorem f_ht5 (P : Params) : PySem.W.typeIn (K P) (.ref 129) = some (.type "type") := by kernel_rfl
theorem f_sK5 (P : Params) : PySem.W.subIn (K P) (.ref 129) (.type "LookupError") = some false := by kernel_rfl
theorem f_sA5 (P : Params) : PySem.W.subIn (K P) (.ref 129) (.type "ArithmeticError") = some false := by kernel_rfl
theorem f_sV5 (P : Params) : PySem.W.subIn (K P) (.ref 129) (.type "ValueError") = some true := by kernel_rfl
theorem f_sL5 (P : Params) : PySem.W.subIn (K P) (.ref 129) (.ref 31) = some true := by kernel_rfl
theorem f_s5_0 (P : Params) : PySem.W.subIn (K P) (.ref 129) (.ref 52) = some false := by kernel_rfl
theorem f_s5_1 (P : Params) : PySem.W.subIn (K P) (.ref 129) (.ref 73) = some false := by kernel_rfl
theorem f_s5_2 (P : Params) : PySem.W.subIn (K P) (.ref 129) (.ref 85) = some false := by kernel_rfl
theorem f_s5_3 (P : Params) : PySem.W.subIn (K P) (.ref 129) (.ref 105) = some false := by kernel_rfl
theorem f_s5_4 (P : Params) : PySem.W.subIn (K P) (.ref 129) (.ref 117) = some false := by kernel_rfl
theorem f_s5_6 (P : Params) : PySem.W.subIn (K P) (.ref 129) (.ref 141) = some false := by kernel_rfl
theorem f_s5_7 (P : Params) : PySem.W.subIn (K P) (.ref 129) (.ref 153) = some false := by kernel_rfl
theorem f_s5_8 (P : Params) : PySem.W.subIn (K P) (.ref 129) (.ref 165) = some false := by kernel_rfl
theorem f_s5_9 (P : Params) : PySem.W.subIn (K P) (.ref 129) (.ref 177) = some false := by kernel_rfl
theorem f_hc6 (P : Params) : PySem.W.isClsIn (K P) 141 = true := by kernel_rfl
theorem f_hg6 (P : Params) : PySem.W.findIn (K P) (.ref 141) "__getattribute__" = some (some (.builtin "BaseException.__getattribute__")) := by kernel_rfl
theorem f_hk6 (P : Params) : PySem.W.findIn (K P) (.ref 141) "__getattr__" = some none := by kernel_rfl
theorem f_hs6 (P : Params) : PySem.W.subIn (K P) (.ref 141) (.type "BaseException") = some true := by kernel_rfl
theorem f_hd6 (P : Params) : PySem.W.hasDictIn (K P) 141 = true := by kernel_rfl
theorem f_ha6 (P : Params) : PySem.W.findIn (K P) (.ref 141) "__class__" = some (some (.builtin "object.__class__")) := by kernel_rfl
theorem f_hm6 (P : Params) : PySem.W.mroIn (K P) 141 (.type "object") = some true := by kernel_rfl
theorem f_ht6 (P : Params) : PySem.W.typeIn (K P) (.ref 141) = some (.type "type") := by kernel_rfl
theorem f_sK6 (P : Params) : PySem.W.subIn (K P) (.ref 141) (.type "LookupError") = some false := by kernel_rfl
theorem f_sA6 (P : Params) : PySem.W.subIn (K P) (.ref 141) (.type "ArithmeticError") = some false := by kernel_rfl
theorem f_sV6 (P : Params) : PySem.W.subIn (K P) (.ref 141) (.type "ValueError") = some true := by kernel_rfl
theorem f_sL6 (P : Params) : PySem.W.subIn (K P) (.ref 141) (.ref 31) = some true := by kernel_rfl
theorem f_s6_0 (P : Params) : PySem.W.subIn (K P) (.ref 141) (.ref 52) = some false := by kernel_rfl
theorem f_s6_1 (P : Params) : PySem.W.subIn (K P) (.ref 141) (.ref 73) = some false := by kernel_rfl
theorem f_s6_2 (P : Params) : PySem.W.subIn (K P) (.ref 141) (.ref 85) = some false := by kernel_rfl
theorem f_s6_3 (P : Params) : PySem.W.subIn (K P) (.ref 141) (.ref 105) = some false := by kernel_rfl
theorem f_s6_4 (P : Params) : PySem.W.subIn (K P) (.ref 141) (.ref 117) = some false := by kernel_rfl
theorem f_s6_5 (P : Params) : PySem.W.subIn (K P) (.ref 141) (.ref 129) = some false := by kernel_rfl
theorem f_s6_7 (P : Params) : PySem.W.subIn (K P) (.ref 141) (.ref 153) = some false := by kernel_rfl
theorem f_s6_8 (P : Params) : PySem.W.subIn (K P) (.ref 141) (.ref 165) = some false := by kernel_rfl
theorem f_s6_9 (P : Params) : PySem.W.subIn (K P) (.ref 141) (.ref 177) = some false := by kernel_rfl
theorem f_hc7 (P : Params) : PySem.W.isClsIn (K P) 153 = true := by kernel_rfl
theorem f_hg7 (P : Params) : PySem.W.findIn (K P) (.ref 153) "__getattribute__" = some (some (.builtin "BaseException.__getattribute__")) := by kernel_rfl
theorem f_hk7 (P : Params) : PySem.W.findIn (K P) (.ref 153) "__getattr__" = some none := by kernel_rfl
theorem f_hs7 (P : Params) : PySem.W.subIn (K P) (.ref 153) (.type "BaseException") = some true := by kernel_rfl
theorem f_hd7 (P : Params) : PySem.W.hasDictIn (K P) 153 = true := by kernel_rfl
theorem f_ha7 (P : Params) : PySem.W.findIn (K P) (.ref 153) "__class__" = some (some (.builtin "object.__class__")) := by kernel_rfl
theorem f_hm7 (P : Params) : PySem.W.mroIn (K P) 153 (.type "object") = some true := by kernel_rfl
theorem f_ht7 (P : Params) : PySem.W.typeIn (K P) (.ref 153) = some (.type "type") := by kernel_rfl
theorem f_sK7 (P : Params) : PySem.W.subIn (K P) (.ref 153) (.type "LookupError") = some false := by kernel_rfl
theorem f_sA7 (P : Params) : PySem.W.subIn (K P) (.ref 153) (.type "ArithmeticError") = some false := by kernel_rfl
theorem f_sV7 (P : Params) : PySem.W.subIn (K P) (.ref 153) (.type "ValueError") = some true := by kernel_rfl
theorem f_sL7 (P : Params) : PySem.W.subIn (K P) (.ref 153) (.ref 31) = some true := by kernel_rfl
theorem f_s7_0 (P : Params) : PySem.W.subIn (K P) (.ref 153) (.ref 52) = some false := by kernel_rfl
theorem f_s7_1 (P : Params) : PySem.W.subIn (K P) (.ref 153) (.ref 73) = some false := by kernel_rfl
theorem f_s7_2 (P : Params) : PySem.W.subIn (K P) (.ref 153) (.ref 85) = some false := by kernel_rfl
theorem f_s7_3 (P : Params) : PySem.W.subIn (K P) (.ref 153) (.ref 105) = some false := by kernel_rfl
theorem f_s7_4 (P : Params) : PySem.W.subIn (K P) (.ref 153) (.ref 117) = some false := by kernel_rfl
theorem f_s7_5 (P : Params) : PySem.W.subIn (K P) (.ref 153) (.ref 129) = some false := by kernel_rfl
theorem f_s7_6 (P : Params) : PySem.W.subIn (K P) (.ref 153) (.ref 141) = some false := by kernel_rfl
theorem f_s7_8 (P : Params) : PySem.W.subIn (K P) (.ref 153) (.ref 165) = some false := by kernel_rfl
theorem f_s7_9 (P : Params) : PySem.W.subIn (K P) (.ref 153) (.ref 177) = some false := by kernel_rfl
theorem f_hc8 (P : Params) : PySem.W.isClsIn (K P) 165 = true := by kernel_rfl
theorem f_hg8 (P : Params) : PySem.W.findIn (K P) (.ref 165) "__getattribute__" = some (some (.builtin "BaseException.__getattribute__")) := by kernel_rfl
theorem f_hk8 (P : Params) : PySem.W.findIn (K P) (.ref 165) "__getattr__" = some none := by kernel_rfl
theorem f_hs8 (P : Params) : PySem.W.subIn (K P) (.ref 165) (.type "BaseException") = some true := by kernel_rfl
theorem f_hd8 (P : Params) : PySem.W.hasDictIn (K P) 165 = true := by kernel_rfl
theorem f_ha8 (P : Params) : PySem.W.findIn (K P) (.ref 165) "__class__" = some (some (.builtin "object.__class__")) := by kernel_rfl
theorem f_hm8 (P : Params) : PySem.W.mroIn (K P) 165 (.type "object") = some true := by kernel_rfl
theorem f_ht8 (P : Params) : PySem.W.typeIn (K P) (.ref 165) = some (.type "type") := by kernel_rfl
theorem f_sK8 (P : Params) : PySem.W.subIn (K P) (.ref 165) (.type "LookupError") = some false := by kernel_rfl
theorem f_sA8 (P : Params) : PySem.W.subIn (K P) (.ref 165) (.type "ArithmeticError") = some false := by kernel_rfl
theorem f_sV8 (P : Params) : PySem.W.subIn (K P) (.ref 165) (.type "ValueError") = some true := by kernel_rfl
theorem f_sL8 (P : Params) : PySem.W.subIn (K P) (.ref 165) (.ref 31) = some true := by kernel_rfl
theorem f_s8_0 (P : Params) : PySem.W.subIn (K P) (.ref 165) (.ref 52) = some false := by kernel_rfl
theorem f_s8_1 (P : Params) : PySem.W.subIn (K P) (.ref 165) (.ref 73) = some false := by kernel_rfl
theorem f_s8_2 (P : Params) : PySem.W.subIn (K P) (.ref 165) (.ref 85) = some false := by kernel_rfl
theorem f_s8_3 (P : Params) : PySem.W.subIn (K P) (.ref 165) (.ref 105) = some false := by kernel_rfl
theorem f_s8_4 (P : Params) : PySem.W.subIn (K P) (.ref 165) (.ref 117) = some false := by kernel_rfl
theorem f_s8_5 (P : Params) : PySem.W.subIn (K P) (.ref 165) (.ref 129) = some false := by kernel_rfl
theorem f_s8_6 (P : Params) : PySem.W.subIn (K P) (.ref 165) (.ref 141) = some false := by kernel_rfl
theorem f_s8_7 (P : Params) : PySem.W.subIn (K P) (.ref 165) (.ref 153) = some false := by kernel_rfl
theorem f_s8_9 (P : Params) : PySem.W.subIn (K P) (.ref 165) (.ref 177) = some false := by kernel_rfl
theorem f_hc9 (P : Params) : PySem.W.isClsIn (K P) 177 = true := by kernel_rfl
theorem f_hg9 (P : Params) : PySem.W.findIn (K P) (.ref 177) "__getattribute__" = some (some (.builtin "BaseException.__getattribute__")) := by kernel_rfl
theorem f_hk9 (P : Params) : PySem.W.findIn (K P) (.ref 177) "__getattr__" = some none := by kernel_rfl
theorem f_hs9 (P : Params) : PySem.W.subIn (K P) (.ref 177) (.type "BaseException") = some true := by kernel_rfl
theorem f_hd9 (P : Params) : PySem.W.hasDictIn (K P) 177 = true := by kernel_rfl
theorem f_ha9 (P : Params) : PySem.W.findIn (K P) (.ref 177) "__class__" = some (some (.builtin "object.__class__")) := by kernel_rfl
theorem f_hm9 (P : Params) : PySem.W.mroIn (K P) 177 (.type "object") = some true := by kernel_rfl
theorem f_ht9 (P : Params) : PySem.W.typeIn (K P) (.ref 177) = some (.type "type") := by kernel_rfl
theorem f_sK9 (P : Params) : PySem.W.subIn (K P) (.ref 177) (.type "LookupError") = some false := by kernel_rfl
theorem f_sA9 (P : Params) : PySem.W.subIn (K P) (.ref 177) (.type "ArithmeticError") = some false := by kernel_rfl
theorem f_sV9 (P : Params) : PySem.W.subIn (K P) (.ref 177) (.type "ValueError") = some true := by kernel_rfl
theorem f_sL9 (P : Params) : PySem.W.subIn (K P) (.ref 177) (.ref 31) = some true := by kernel_rfl
theorem f_s9_0 (P : Params) : PySem.W.subIn (K P) (.ref 177) (.ref 52) = some false := by kernel_rfl
theorem f_s9_1 (P : Params) : PySem.W.subIn (K P) (.ref 177) (.ref 73) = some false := by kernel_rfl
theorem f_s9_2 (P : Params) : PySem.W.subIn (K P) (.ref 177) (.ref 85) = some false := by kernel_rfl
theorem f_s9_3 (P : Params) : PySem.W.subIn (K P) (.ref 177) (.ref 105) = some false := by kernel_rfl
theorem f_s9_4 (P : Params) : PySem.W.subIn (K P) (.ref 177) (.ref 117) = some false := by kernel_rfl
theorem f_s9_5 (P : Params) : PySem.W.subIn (K P) (.ref 177) (.ref 129) = some false := by kernel_rfl
theorem f_s9_6 (P : Params) : PySem.W.subIn (K P) (.ref 177) (.ref 141) = some false := by kernel_rfl
theorem f_s9_7 (P : Params) : PySem.W.subIn (K P) (.ref 177) (.ref 153) = some false := by kernel_rfl
theorem f_s9_8 (P : Params) : PySem.W.subIn (K P) (.ref 177) (.ref 165) = some false := by kernel_rfl
theorem f_cL1 (P : Params) : PySem.W.isClsIn (K P) 31 = true := by kernel_rfl
theorem f_cL2 (P : Params) : PySem.W.typeIn (K P) (.ref 31) = some (.type "type") := by kernel_rfl
theorem f_saT (P : Params) : PySem.W.findIn (K P) (.ref 52) "__setattr__" = some (some (.builtin "object.__setattr__")) := by kernel_rfl
theorem f_kcT (P : Params) : PySem.W.keepIn (K P) (.ref 52) = true := by kernel_rfl
theorem f_icT (P : Params) : PySem.W.findIn (K P) (.ref 52) "__init__" = some (some (.ref 49)) := by kernel_rfl
theorem f_tiT (P : Params) : PySem.W.typeIn (K P) (.ref 49) = some (.type "function") := by kernel_rfl
theorem f_cfT (P : Params) : PySem.W.codeIn (K P) (.ref 48) "NoText.__init__" = true := by kernel_rfl
theorem f_kfT (P : Params) : PySem.W.keepIn (K P) (.ref 49) = true := by kernel_rfl
theorem f_nTat (P : Params) : PySem.W.findIn (K P) (.ref 52) "at" = some none := by kernel_rfl
theorem f_bL (P : Params) : PySem.W.subIn (K P) (.ref 31) (.type "BaseException") = some true := by kernel_rfl
theorem f_q12 (P : Params) : PySem.W.nsIn (K P) mainGlobals "MOST_LETTERS_words" = some (some (.int 12 448)) := by kernel_rfl
theorem f_q18 (P : Params) : PySem.W.nsIn (K P) mainGlobals "MOST_FIGURES" = some (some (.int 18 450)) := by kernel_rfl
theorem f_q2 (P : Params) : PySem.W.nsIn (K P) mainGlobals "FEWEST_LETTERS" = some (some (.int 2 2069)) := by kernel_rfl
theorem f_q26 (P : Params) : PySem.W.nsIn (K P) mainGlobals "MOST_LETTERS_supply" = some (some (.int 26 2071)) := by kernel_rfl
theorem f_qKp (P : Params) : PySem.W.nsIn (K P) mainGlobals "KEPT" = some (some (.ref 180)) := by kernel_rfl
theorem f_qLo (P : Params) : PySem.W.nsIn (K P) mainGlobals "LONG_SIGNS" = some (some (.ref 181)) := by kernel_rfl
theorem f_qSh (P : Params) : PySem.W.nsIn (K P) mainGlobals "SHORT_SIGNS" = some (some (.ref 182)) := by kernel_rfl
theorem f_gS (P : Params) : PySem.W.nsIn (K P) mainGlobals "Source" = some (some (.ref 425)) := by kernel_rfl
theorem f_S1 (P : Params) : PySem.W.makesIn (K P) 425 = true := by kernel_rfl
theorem f_S2 (P : Params) : PySem.W.findIn (K P) (.ref 425) "__init__" = some (some (.ref 345)) := by kernel_rfl
theorem f_S3 (P : Params) : PySem.W.isFn (K P) (.ref 345) = true := by kernel_rfl
theorem f_S4 (P : Params) : PySem.W.keepIn (K P) (.ref 425) = true := by kernel_rfl
theorem f_S5 (P : Params) : PySem.W.plainGet (K P) 425 Str.empty = true := by kernel_rfl
theorem f_S6 (P : Params) : PySem.W.hasDictIn (K P) 425 = true := by kernel_rfl
theorem f_S7 (P : Params) : PySem.W.plainOver (K P) 425 = true := by kernel_rfl
theorem f_S8 (P : Params) : PySem.W.findIn (K P) (.ref 425) "__setattr__" = some (some (.builtin "object.__setattr__")) := by kernel_rfl
theorem f_S9 (P : Params) : PySem.W.findIn (K P) (.ref 425) "size" = some none := by kernel_rfl
theorem f_cSf (P : Params) : PySem.W.codeIn (K P) (.ref 344) "Source.__init__" = true := by kernel_rfl
theorem f_kSf (P : Params) : PySem.W.keepIn (K P) (.ref 345) = true := by kernel_rfl
theorem f_gSt (P : Params) : PySem.W.nsIn (K P) mainGlobals "State" = some (some (.ref 1588)) := by kernel_rfl
theorem f_St1 (P : Params) : PySem.W.makesIn (K P) 1588 = true := by kernel_rfl
theorem f_St2 (P : Params) : PySem.W.findIn (K P) (.ref 1588) "__init__" = some (some (.ref 1585)) := by kernel_rfl
theorem f_St3 (P : Params) : PySem.W.isFn (K P) (.ref 1585) = true := by kernel_rfl
theorem f_St4 (P : Params) : PySem.W.keepIn (K P) (.ref 1588) = true := by kernel_rfl
theorem f_St5 (P : Params) : PySem.W.plainGet (K P) 1588 Str.empty = true := by kernel_rfl
theorem f_St6 (P : Params) : PySem.W.hasDictIn (K P) 1588 = true := by kernel_rfl
theorem f_St7 (P : Params) : PySem.W.plainOver (K P) 1588 = true := by kernel_rfl
theorem f_St8 (P : Params) : PySem.W.findIn (K P) (.ref 1588) "__setattr__" = some (some (.builtin "object.__setattr__")) := by kernel_rfl
theorem f_St9 (P : Params) : PySem.W.findIn (K P) (.ref 1588) "size" = some none := by kernel_rfl
theorem f_cStf (P : Params) : PySem.W.codeIn (K P) (.ref 1584) "State.__init__" = true := by kernel_rfl
theorem f_kStf (P : Params) : PySem.W.keepIn (K P) (.ref 1585) = true := by kernel_rfl
theorem f_gTr (P : Params) : PySem.W.nsIn (K P) mainGlobals "Trace" = some (some (.ref 1710)) := by kernel_rfl
theorem f_Tr1 (P : Params) : PySem.W.makesIn (K P) 1710 = true := by kernel_rfl
theorem f_Tr2 (P : Params) : PySem.W.findIn (K P) (.ref 1710) "__init__" = some (some (.ref 1630)) := by kernel_rfl
theorem f_Tr3 (P : Params) : PySem.W.isFn (K P) (.ref 1630) = true := by kernel_rfl
theorem f_Tr4 (P : Params) : PySem.W.keepIn (K P) (.ref 1710) = true := by kernel_rfl
theorem f_Tr5 (P : Params) : PySem.W.plainGet (K P) 1710 Str.empty = true := by kernel_rfl
theorem f_Tr6 (P : Params) : PySem.W.hasDictIn (K P) 1710 = true := by kernel_rfl
theorem f_Tr7 (P : Params) : PySem.W.plainOver (K P) 1710 = true := by kernel_rfl
theorem f_Tr8 (P : Params) : PySem.W.findIn (K P) (.ref 1710) "__setattr__" = some (some (.builtin "object.__setattr__")) := by kernel_rfl
theorem f_Tr9 (P : Params) : PySem.W.findIn (K P) (.ref 1710) "size" = some none := by kernel_rfl
theorem f_cTrf (P : Params) : PySem.W.codeIn (K P) (.ref 1629) "Trace.__init__" = true := by kernel_rfl
theorem f_kTrf (P : Params) : PySem.W.keepIn (K P) (.ref 1630) = true := by kernel_rfl
theorem f_aLe (P : Params) : PySem.W.nsIn (K P) mainGlobals "lean" = some (some (.ref 1812)) := by kernel_rfl
theorem f_acLe (P : Params) : PySem.W.codeIn (K P) (.ref 1811) "lean" = true := by kernel_rfl
theorem f_akLe (P : Params) : PySem.W.keepIn (K P) (.ref 1812) = true := by kernel_rfl
theorem f_adLe (P : Params) : PySem.W.nsIn (K P) 1805 "keep" = some (some (.ref 1804)) := by kernel_rfl
theorem f_aLd (P : Params) : PySem.W.nsIn (K P) mainGlobals "leaned" = some (some (.ref 1821)) := by kernel_rfl
theorem f_acLd (P : Params) : PySem.W.codeIn (K P) (.ref 1820) "leaned" = true := by kernel_rfl
theorem f_akLd (P : Params) : PySem.W.keepIn (K P) (.ref 1821) = true := by kernel_rfl
theorem f_adLd (P : Params) : PySem.W.nsIn (K P) 1814 "keep" = some (some (.ref 1813)) := by kernel_rfl
theorem f_aM (P : Params) : PySem.W.nsIn (K P) mainGlobals "_law_mixed" = some (some (.ref 1828)) := by kernel_rfl
theorem f_acM (P : Params) : PySem.W.codeIn (K P) (.ref 1827) "_law_mixed" = true := by kernel_rfl
theorem f_akM (P : Params) : PySem.W.keepIn (K P) (.ref 1828) = true := by kernel_rfl
theorem f_aC (P : Params) : PySem.W.nsIn (K P) mainGlobals "_law_cell" = some (some (.ref 1835)) := by kernel_rfl
theorem f_acC (P : Params) : PySem.W.codeIn (K P) (.ref 1834) "_law_cell" = true := by kernel_rfl
theorem f_akC (P : Params) : PySem.W.keepIn (K P) (.ref 1835) = true := by kernel_rfl
theorem f_aK (P : Params) : PySem.W.nsIn (K P) mainGlobals "_law_take" = some (some (.ref 1842)) := by kernel_rfl
theorem f_acK (P : Params) : PySem.W.codeIn (K P) (.ref 1841) "_law_take" = true := by kernel_rfl
theorem f_akK (P : Params) : PySem.W.keepIn (K P) (.ref 1842) = true := by kernel_rfl
theorem f_aO (P : Params) : PySem.W.nsIn (K P) mainGlobals "_law_only" = some (some (.ref 1847)) := by kernel_rfl
theorem f_acO (P : Params) : PySem.W.codeIn (K P) (.ref 1846) "_law_only" = true := by kernel_rfl
theorem f_akO (P : Params) : PySem.W.keepIn (K P) (.ref 1847) = true := by kernel_rfl
theorem f_aPl (P : Params) : PySem.W.nsIn (K P) mainGlobals "is_letter" = some (some (.ref 189)) := by kernel_rfl
theorem f_acPl (P : Params) : PySem.W.codeIn (K P) (.ref 188) "is_letter" = true := by kernel_rfl
theorem f_akPl (P : Params) : PySem.W.keepIn (K P) (.ref 189) = true := by kernel_rfl
theorem f_aPf (P : Params) : PySem.W.nsIn (K P) mainGlobals "is_figure" = some (some (.ref 196)) := by kernel_rfl
theorem f_acPf (P : Params) : PySem.W.codeIn (K P) (.ref 195) "is_figure" = true := by kernel_rfl
theorem f_akPf (P : Params) : PySem.W.keepIn (K P) (.ref 196) = true := by kernel_rfl
theorem f_aPx (P : Params) : PySem.W.nsIn (K P) mainGlobals "is_letter_or_figure" = some (some (.ref 203)) := by kernel_rfl
theorem f_acPx (P : Params) : PySem.W.codeIn (K P) (.ref 202) "is_letter_or_figure" = true := by kernel_rfl
theorem f_akPx (P : Params) : PySem.W.keepIn (K P) (.ref 203) = true := by kernel_rfl
theorem f_aPn (P : Params) : PySem.W.nsIn (K P) mainGlobals "is_name" = some (some (.ref 208)) := by kernel_rfl
theorem f_acPn (P : Params) : PySem.W.codeIn (K P) (.ref 207) "is_name" = true := by kernel_rfl
theorem f_akPn (P : Params) : PySem.W.keepIn (K P) (.ref 208) = true := by kernel_rfl
theorem f_aPp (P : Params) : PySem.W.nsIn (K P) mainGlobals "is_plain_number" = some (some (.ref 213)) := by kernel_rfl
theorem f_acPp (P : Params) : PySem.W.codeIn (K P) (.ref 212) "is_plain_number" = true := by kernel_rfl
theorem f_akPp (P : Params) : PySem.W.keepIn (K P) (.ref 213) = true := by kernel_rfl
theorem f_aPu (P : Params) : PySem.W.nsIn (K P) mainGlobals "is_number" = some (some (.ref 220)) := by kernel_rfl
theorem f_acPu (P : Params) : PySem.W.codeIn (K P) (.ref 219) "is_number" = true := by kernel_rfl
theorem f_akPu (P : Params) : PySem.W.keepIn (K P) (.ref 220) = true := by kernel_rfl
theorem f_aPr (P : Params) : PySem.W.nsIn (K P) mainGlobals "run_end" = some (some (.ref 234)) := by kernel_rfl
theorem f_acPr (P : Params) : PySem.W.codeIn (K P) (.ref 233) "run_end" = true := by kernel_rfl
theorem f_akPr (P : Params) : PySem.W.keepIn (K P) (.ref 234) = true := by kernel_rfl
theorem f_aPs (P : Params) : PySem.W.nsIn (K P) mainGlobals "sort_of" = some (some (.ref 241)) := by kernel_rfl
theorem f_acPs (P : Params) : PySem.W.codeIn (K P) (.ref 240) "sort_of" = true := by kernel_rfl
theorem f_akPs (P : Params) : PySem.W.keepIn (K P) (.ref 241) = true := by kernel_rfl
theorem f_aPg (P : Params) : PySem.W.nsIn (K P) mainGlobals "sign_end" = some (some (.ref 248)) := by kernel_rfl
theorem f_acPg (P : Params) : PySem.W.codeIn (K P) (.ref 247) "sign_end" = true := by kernel_rfl
theorem f_akPg (P : Params) : PySem.W.keepIn (K P) (.ref 248) = true := by kernel_rfl
theorem f_aPw (P : Params) : PySem.W.nsIn (K P) mainGlobals "words" = some (some (.ref 255)) := by kernel_rfl
theorem f_acPw (P : Params) : PySem.W.codeIn (K P) (.ref 254) "words" = true := by kernel_rfl
theorem f_akPw (P : Params) : PySem.W.keepIn (K P) (.ref 255) = true := by kernel_rfl
theorem f_aRp (P : Params) : PySem.W.nsIn (K P) mainGlobals "parsed" = some (some (.ref 640)) := by kernel_rfl
theorem f_acRp (P : Params) : PySem.W.codeIn (K P) (.ref 639) "parsed" = true := by kernel_rfl
theorem f_akRp (P : Params) : PySem.W.keepIn (K P) (.ref 640) = true := by kernel_rfl
theorem f_aRn (P : Params) : PySem.W.nsIn (K P) mainGlobals "read_node" = some (some (.ref 817)) := by kernel_rfl
theorem f_acRn (P : Params) : PySem.W.codeIn (K P) (.ref 816) "read_node" = true := by kernel_rfl
theorem f_akRn (P : Params) : PySem.W.keepIn (K P) (.ref 817) = true := by kernel_rfl
theorem f_aRr (P : Params) : PySem.W.nsIn (K P) mainGlobals "read" = some (some (.ref 824)) := by kernel_rfl
theorem f_acRr (P : Params) : PySem.W.codeIn (K P) (.ref 823) "read" = true := by kernel_rfl
theorem f_akRr (P : Params) : PySem.W.keepIn (K P) (.ref 824) = true := by kernel_rfl
theorem f_aRs (P : Params) : PySem.W.nsIn (K P) mainGlobals "spots" = some (some (.ref 831)) := by kernel_rfl
theorem f_acRs (P : Params) : PySem.W.codeIn (K P) (.ref 830) "spots" = true := by kernel_rfl
theorem f_akRs (P : Params) : PySem.W.keepIn (K P) (.ref 831) = true := by kernel_rfl
theorem f_aAl (P : Params) : PySem.W.nsIn (K P) mainGlobals "are_letters" = some (some (.ref 1253)) := by kernel_rfl
theorem f_acAl (P : Params) : PySem.W.codeIn (K P) (.ref 1252) "are_letters" = true := by kernel_rfl
theorem f_akAl (P : Params) : PySem.W.keepIn (K P) (.ref 1253) = true := by kernel_rfl
theorem f_aMl (P : Params) : PySem.W.nsIn (K P) mainGlobals "must_be_letters" = some (some (.ref 1260)) := by kernel_rfl
theorem f_acMl (P : Params) : PySem.W.codeIn (K P) (.ref 1259) "must_be_letters" = true := by kernel_rfl
theorem f_akMl (P : Params) : PySem.W.keepIn (K P) (.ref 1260) = true := by kernel_rfl
theorem f_aSh_ (P : Params) : PySem.W.nsIn (K P) mainGlobals "shortened" = some (some (.ref 1803)) := by kernel_rfl
theorem f_acSh_ (P : Params) : PySem.W.codeIn (K P) (.ref 1802) "shortened" = true := by kernel_rfl
theorem f_akSh_ (P : Params) : PySem.W.keepIn (K P) (.ref 1803) = true := by kernel_rfl
theorem f_aLa (P : Params) : PySem.W.nsIn (K P) mainGlobals "_law_asked" = some (some (.ref 1854)) := by kernel_rfl
theorem f_acLa (P : Params) : PySem.W.codeIn (K P) (.ref 1853) "_law_asked" = true := by kernel_rfl
theorem f_akLa (P : Params) : PySem.W.keepIn (K P) (.ref 1854) = true := by kernel_rfl
theorem f_aLg (P : Params) : PySem.W.nsIn (K P) mainGlobals "_law_good" = some (some (.ref 1861)) := by kernel_rfl
theorem f_acLg (P : Params) : PySem.W.codeIn (K P) (.ref 1860) "_law_good" = true := by kernel_rfl
theorem f_akLg (P : Params) : PySem.W.keepIn (K P) (.ref 1861) = true := by kernel_rfl
theorem f_aW (P : Params) : PySem.W.nsIn (K P) mainGlobals "law" = some (some (.ref 1866)) := by kernel_rfl
theorem f_acW (P : Params) : PySem.W.codeIn (K P) (.ref 1865) "law" = true := by kernel_rfl
theorem f_akW (P : Params) : PySem.W.keepIn (K P) (.ref 1866) = true := by kernel_rfl
theorem f_sf0 (P : Params) : PySem.W.selfFirst (K P) 52 = true := by kernel_rfl
theorem f_sf1 (P : Params) : PySem.W.selfFirst (K P) 73 = true := by kernel_rfl
theorem f_sf2 (P : Params) : PySem.W.selfFirst (K P) 85 = true := by kernel_rfl
theorem f_sf3 (P : Params) : PySem.W.selfFirst (K P) 105 = true := by kernel_rfl
theorem f_sf4 (P : Params) : PySem.W.selfFirst (K P) 117 = true := by kernel_rfl
theorem f_sf5 (P : Params) : PySem.W.selfFirst (K P) 129 = true := by kernel_rfl
theorem f_sf6 (P : Params) : PySem.W.selfFirst (K P) 141 = true := by kernel_rfl
theorem f_sf7 (P : Params) : PySem.W.selfFirst (K P) 153 = true := by kernel_rfl
theorem f_sf8 (P : Params) : PySem.W.selfFirst (K P) 165 = true := by kernel_rfl
theorem f_sf9 (P : Params) : PySem.W.selfFirst (K P) 177 = true := by kernel_rfl
end Hd
end

namespace My
open PySem PySem.Spec PyProof.Rows L2 XR
theorem kit_ref {K : PySem.W.Frag} {t : Value} {C : Addr} {b : Bool} (h1 : PySem.W.isClsIn K C = true) (h2 : PySem.W.typeIn K (.ref C) = some (.type "type")) (h3 : PySem.W.subIn K t (.ref C) = some b) (hb : (t == .ref C) = true → b = true) : PySem.W.kitOne K t (.ref C) = some b := by
  unfold PySem.W.kitOne
  by_cases e : (t == .ref C) = true
  · rw [if_pos e, hb e]
  · rw [if_neg e]
    show (if ((PySem.W.clsIn K C).isSome && PySem.W.typeIn K (.ref C) == some (.type "type")) = true then PySem.W.subIn K t (.ref C) else none) = some b
    have h1' : (PySem.W.clsIn K C).isSome = true := h1
    rw [if_pos (by rw [h1', h2] <;> rfl)]
    exact h3
theorem exm_ref {K : PySem.W.Frag} {t : Value} {C : Addr} {b : Bool} (h0 : PySem.W.subIn K (.ref C) (.type "BaseException") = some true) (h1 : PySem.W.isClsIn K C = true) (h2 : PySem.W.typeIn K (.ref C) = some (.type "type")) (h3 : PySem.W.subIn K t (.ref C) = some b) : PySem.W.exmOne K t (.ref C) = some b := by
  show (if (PySem.W.subIn K (.ref C) (.type "BaseException") == some true) = true then (if ((PySem.W.clsIn K C).isSome && PySem.W.typeIn K (.ref C) == some (.type "type")) = true then PySem.W.subIn K t (.ref C) else none) else none) = some b
  have h1' : (PySem.W.clsIn K C).isSome = true := h1
  rw [if_pos (by rw [h0] <;> rfl), if_pos (by rw [h1', h2] <;> rfl)]
  exact h3
theorem kit_self {K : PySem.W.Frag} {t : Value} : PySem.W.kitOne K t t = some true := by
  unfold PySem.W.kitOne
  rw [if_pos (beq_self_eq_true t)]
theorem kit_bi {K : PySem.W.Frag} {C : Addr} {T : String} {b : Bool} (hm : PySem.W.kitMeta T = true) (h3 : PySem.W.subIn K (.ref C) (.type T) = some b) : PySem.W.kitOne K (.ref C) (.type T) = some b := by
  unfold PySem.W.kitOne
  rw [if_neg (by intro z; have := beq_iff_eq.mp z; cases this)]
  show (if PySem.W.kitMeta T = true then PySem.W.subIn K (.ref C) (.type T) else none) = some b
  rw [if_pos hm]
  exact h3
theorem ne_ref {a b : Addr} (h : a ≠ b) {x : Bool} : ((Value.ref a == Value.ref b) = true → x = true) := fun z => absurd (Value.ref.inj (beq_iff_eq.mp z)) h
/-- of unlike classes neither is below the other: so they stand apart -/
theorem sub_ne {K : PySem.W.Frag} {a b : Addr} (h : PySem.W.subIn K (.ref a) (.ref b) = some false) (g : PySem.W.subIn K (.ref a) (.type "BaseException") = some true) (s : PySem.W.selfFirst K a = true) : a ≠ b := by
  intro e
  subst e
  unfold PySem.W.selfFirst at s
  replace h : PySem.W.mroIn K a (.ref a) = some false := h
  unfold PySem.W.mroIn at h
  cases hc : PySem.W.clsIn K a with
  | none => rw [hc] at s; cases s
  | some cd =>
    rw [hc] at s h
    simp only [Option.any_some, Option.bind_some, beq_iff_eq] at s h
    cases hm : cd.mro with
    | nil => rw [hm] at s; cases s
    | cons x r =>
      rw [hm] at s h
      have s' : some x = some (Value.ref a) := s
      cases s'
      simp at h

theorem all_mk {P : Program} {w : World} {K : PySem.W.Frag} {h : Heap} {mg : Str → Option Value} {fa c0 c1 c2 c3 c4 c5 c6 c7 c8 c9 cL : Addr} {tk0 : Tok}
    {nmT qT : Str} {NT : Addr} {bsT : List Value} {snT : List Str} {subT : List Value} {abT : Bool} {colT : Option Bool} {ddT : Option Addr} {m0T m1T m2T m3T m5T : Option Value} {ocT kVT docT pmT cdvT ctT oTT : Value} {odT anT oDT : Option Addr} {oslT slT : Array (Option Value)} {nT : Nat} {fT dT : Addr}
    {t12 t18 t2 t26 : Tok}
    {kKp0 kKp1 kKp2 kKp3 kKp4 kKp5 kKp6 kKp7 kKp8 kKp9 : Tok} {aKp : Addr} {oKp : Option Addr} {nKp : Nat} {slKp : Array (Option Value)}
    {kLo0 kLo1 kLo2 kLo3 kLo4 kLo5 : Tok} {aLo : Addr} {oLo : Option Addr} {nLo : Nat} {slLo : Array (Option Value)}
    {kSh0 kSh1 kSh2 kSh3 kSh4 kSh5 kSh6 kSh7 kSh8 kSh9 kSh10 kSh11 kSh12 kSh13 kSh14 kSh15 kSh16 kSh17 kSh18 kSh19 : Tok} {aSh : Addr} {oSh : Option Addr} {nSh : Nat} {slSh : Array (Option Value)}
    {cS fS : Addr} {aocS akVS adocS apmS acdS actS : Value} {aodS aanS : Option Addr} {aslS : Array (Option Value)}
    {cSt fSt : Addr} {aocSt akVSt adocSt apmSt acdSt actSt : Value} {aodSt aanSt : Option Addr} {aslSt : Array (Option Value)}
    {cTr fTr : Addr} {aocTr akVTr adocTr apmTr acdTr actTr : Value} {aodTr aanTr : Option Addr} {aslTr : Array (Option Value)}
    {aocLe adocLe apmLe acdLe actLe : Value} {aodLe aanLe : Option Addr} {aslLe : Array (Option Value)} {afLe akdLe akELe : Addr}
    {aocLd adocLd apmLd acdLd actLd : Value} {aodLd aanLd : Option Addr} {aslLd : Array (Option Value)} {afLd akdLd akELd : Addr}
    {aocM akVM adocM apmM acdM actM : Value} {aodM aanM : Option Addr} {aslM : Array (Option Value)} {afM : Addr}
    {aocC akVC adocC apmC acdC actC : Value} {aodC aanC : Option Addr} {aslC : Array (Option Value)} {afC : Addr}
    {aocK akVK adocK apmK acdK actK : Value} {aodK aanK : Option Addr} {aslK : Array (Option Value)} {afK : Addr}
    {aocO akVO adocO apmO acdO actO : Value} {aodO aanO : Option Addr} {aslO : Array (Option Value)} {afO : Addr}
    {aocPl akVPl adocPl apmPl acdPl actPl : Value} {aodPl aanPl : Option Addr} {aslPl : Array (Option Value)} {afPl : Addr}
    {aocPf akVPf adocPf apmPf acdPf actPf : Value} {aodPf aanPf : Option Addr} {aslPf : Array (Option Value)} {afPf : Addr}
    {aocPx akVPx adocPx apmPx acdPx actPx : Value} {aodPx aanPx : Option Addr} {aslPx : Array (Option Value)} {afPx : Addr}
    {aocPn akVPn adocPn apmPn acdPn actPn : Value} {aodPn aanPn : Option Addr} {aslPn : Array (Option Value)} {afPn : Addr}
    {aocPp akVPp adocPp apmPp acdPp actPp : Value} {aodPp aanPp : Option Addr} {aslPp : Array (Option Value)} {afPp : Addr}
    {aocPu akVPu adocPu apmPu acdPu actPu : Value} {aodPu aanPu : Option Addr} {aslPu : Array (Option Value)} {afPu : Addr}
    {aocPr akVPr adocPr apmPr acdPr actPr : Value} {aodPr aanPr : Option Addr} {aslPr : Array (Option Value)} {afPr : Addr}
    {aocPs akVPs adocPs apmPs acdPs actPs : Value} {aodPs aanPs : Option Addr} {aslPs : Array (Option Value)} {afPs : Addr}
    {aocPg akVPg adocPg apmPg acdPg actPg : Value} {aodPg aanPg : Option Addr} {aslPg : Array (Option Value)} {afPg : Addr}
    {aocPw akVPw adocPw apmPw acdPw actPw : Value} {aodPw aanPw : Option Addr} {aslPw : Array (Option Value)} {afPw : Addr}
    {aocRp akVRp adocRp apmRp acdRp actRp : Value} {aodRp aanRp : Option Addr} {aslRp : Array (Option Value)} {afRp : Addr}
    {aocRn akVRn adocRn apmRn acdRn actRn : Value} {aodRn aanRn : Option Addr} {aslRn : Array (Option Value)} {afRn : Addr}
    {aocRr akVRr adocRr apmRr acdRr actRr : Value} {aodRr aanRr : Option Addr} {aslRr : Array (Option Value)} {afRr : Addr}
    {aocRs akVRs adocRs apmRs acdRs actRs : Value} {aodRs aanRs : Option Addr} {aslRs : Array (Option Value)} {afRs : Addr}
    {aocAl akVAl adocAl apmAl acdAl actAl : Value} {aodAl aanAl : Option Addr} {aslAl : Array (Option Value)} {afAl : Addr}
    {aocMl akVMl adocMl apmMl acdMl actMl : Value} {aodMl aanMl : Option Addr} {aslMl : Array (Option Value)} {afMl : Addr}
    {aocSh_ akVSh_ adocSh_ apmSh_ acdSh_ actSh_ : Value} {aodSh_ aanSh_ : Option Addr} {aslSh_ : Array (Option Value)} {afSh_ : Addr}
    {aocLa akVLa adocLa apmLa acdLa actLa : Value} {aodLa aanLa : Option Addr} {aslLa : Array (Option Value)} {afLa : Addr}
    {aocLg akVLg adocLg apmLg acdLg actLg : Value} {aodLg aanLg : Option Addr} {aslLg : Array (Option Value)} {afLg : Addr}
    {aocW akVW adocW apmW acdW actW : Value} {aodW aanW : Option Addr} {aslW : Array (Option Value)} {afW : Addr}
    (X : K.In h) (G : h.Ns mainGlobals mg) (hfa : mg "law" = some (.ref fa))
    (g0 : PySem.W.nsIn K mainGlobals "NoText" = some (some (.ref c0)))
    (g1 : PySem.W.nsIn K mainGlobals "NoTree" = some (some (.ref c1)))
    (g2 : PySem.W.nsIn K mainGlobals "NoPath" = some (some (.ref c2)))
    (g3 : PySem.W.nsIn K mainGlobals "NoNaming" = some (some (.ref c3)))
    (g4 : PySem.W.nsIn K mainGlobals "NoLetters" = some (some (.ref c4)))
    (g5 : PySem.W.nsIn K mainGlobals "NoCount" = some (some (.ref c5)))
    (g6 : PySem.W.nsIn K mainGlobals "NoTurning" = some (some (.ref c6)))
    (g7 : PySem.W.nsIn K mainGlobals "NoMap" = some (some (.ref c7)))
    (g8 : PySem.W.nsIn K mainGlobals "NoLine" = some (some (.ref c8)))
    (g9 : PySem.W.nsIn K mainGlobals "TooMany" = some (some (.ref c9)))
    (gL : PySem.W.nsIn K mainGlobals "LeanError" = some (some (.ref cL)))
    (zI : PySem.W.nsIn K mainGlobals "isinstance" = some none)
    (zZ : PySem.W.nsIn K mainGlobals "zip" = some none)
    (zK : PySem.W.nsIn K mainGlobals "LookupError" = some none)
    (zA : PySem.W.nsIn K mainGlobals "ArithmeticError" = some none)
    (zV : PySem.W.nsIn K mainGlobals "ValueError" = some none)
    (zl : PySem.W.nsIn K mainGlobals "len" = some none)
    (zr : PySem.W.nsIn K mainGlobals "range" = some none)
    (zs : PySem.W.nsIn K mainGlobals "str" = some none)
    (za : PySem.W.nsIn K mainGlobals "all" = some none)
    (zi : PySem.W.nsIn K mainGlobals "int" = some none)
    (zt : PySem.W.nsIn K mainGlobals "list" = some none)
    (ze : PySem.W.nsIn K mainGlobals "enumerate" = some none)
    (sn : PySem.W.specialIn K (.builtin "object.__class__") "__get__" = some (some (.builtin "getset_descriptor.__get__")))
    (st : PySem.W.takesIn K (.builtin "object.__class__") = some true)
    (hc0 : PySem.W.isClsIn K c0 = true)
    (hg0 : PySem.W.findIn K (.ref c0) "__getattribute__" = some (some (.builtin "BaseException.__getattribute__")))
    (hk0 : PySem.W.findIn K (.ref c0) "__getattr__" = some none)
    (hs0 : PySem.W.subIn K (.ref c0) (.type "BaseException") = some true)
    (hd0 : PySem.W.hasDictIn K c0 = true)
    (ha0 : PySem.W.findIn K (.ref c0) "__class__" = some (some (.builtin "object.__class__")))
    (hm0 : PySem.W.mroIn K c0 (.type "object") = some true)
    (ht0 : PySem.W.typeIn K (.ref c0) = some (.type "type"))
    (sK0 : PySem.W.subIn K (.ref c0) (.type "LookupError") = some false)
    (sA0 : PySem.W.subIn K (.ref c0) (.type "ArithmeticError") = some false)
    (sV0 : PySem.W.subIn K (.ref c0) (.type "ValueError") = some true)
    (sL0 : PySem.W.subIn K (.ref c0) (.ref cL) = some true)
    (s0_1 : PySem.W.subIn K (.ref c0) (.ref c1) = some false)
    (s0_2 : PySem.W.subIn K (.ref c0) (.ref c2) = some false)
    (s0_3 : PySem.W.subIn K (.ref c0) (.ref c3) = some false)
    (s0_4 : PySem.W.subIn K (.ref c0) (.ref c4) = some false)
    (s0_5 : PySem.W.subIn K (.ref c0) (.ref c5) = some false)
    (s0_6 : PySem.W.subIn K (.ref c0) (.ref c6) = some false)
    (s0_7 : PySem.W.subIn K (.ref c0) (.ref c7) = some false)
    (s0_8 : PySem.W.subIn K (.ref c0) (.ref c8) = some false)
    (s0_9 : PySem.W.subIn K (.ref c0) (.ref c9) = some false)
    (hc1 : PySem.W.isClsIn K c1 = true)
    (hg1 : PySem.W.findIn K (.ref c1) "__getattribute__" = some (some (.builtin "BaseException.__getattribute__")))
    (hk1 : PySem.W.findIn K (.ref c1) "__getattr__" = some none)
    (hs1 : PySem.W.subIn K (.ref c1) (.type "BaseException") = some true)
    (hd1 : PySem.W.hasDictIn K c1 = true)
    (ha1 : PySem.W.findIn K (.ref c1) "__class__" = some (some (.builtin "object.__class__")))
    (hm1 : PySem.W.mroIn K c1 (.type "object") = some true)
    (ht1 : PySem.W.typeIn K (.ref c1) = some (.type "type"))
    (sK1 : PySem.W.subIn K (.ref c1) (.type "LookupError") = some false)
    (sA1 : PySem.W.subIn K (.ref c1) (.type "ArithmeticError") = some false)
    (sV1 : PySem.W.subIn K (.ref c1) (.type "ValueError") = some true)
    (sL1 : PySem.W.subIn K (.ref c1) (.ref cL) = some true)
    (s1_0 : PySem.W.subIn K (.ref c1) (.ref c0) = some false)
    (s1_2 : PySem.W.subIn K (.ref c1) (.ref c2) = some false)
    (s1_3 : PySem.W.subIn K (.ref c1) (.ref c3) = some false)
    (s1_4 : PySem.W.subIn K (.ref c1) (.ref c4) = some false)
    (s1_5 : PySem.W.subIn K (.ref c1) (.ref c5) = some false)
    (s1_6 : PySem.W.subIn K (.ref c1) (.ref c6) = some false)
    (s1_7 : PySem.W.subIn K (.ref c1) (.ref c7) = some false)
    (s1_8 : PySem.W.subIn K (.ref c1) (.ref c8) = some false)
    (s1_9 : PySem.W.subIn K (.ref c1) (.ref c9) = some false)
    (hc2 : PySem.W.isClsIn K c2 = true)
    (hg2 : PySem.W.findIn K (.ref c2) "__getattribute__" = some (some (.builtin "BaseException.__getattribute__")))
    (hk2 : PySem.W.findIn K (.ref c2) "__getattr__" = some none)
    (hs2 : PySem.W.subIn K (.ref c2) (.type "BaseException") = some true)
    (hd2 : PySem.W.hasDictIn K c2 = true)
    (ha2 : PySem.W.findIn K (.ref c2) "__class__" = some (some (.builtin "object.__class__")))
    (hm2 : PySem.W.mroIn K c2 (.type "object") = some true)
    (ht2 : PySem.W.typeIn K (.ref c2) = some (.type "type"))
    (sK2 : PySem.W.subIn K (.ref c2) (.type "LookupError") = some false)
    (sA2 : PySem.W.subIn K (.ref c2) (.type "ArithmeticError") = some false)
    (sV2 : PySem.W.subIn K (.ref c2) (.type "ValueError") = some true)
    (sL2 : PySem.W.subIn K (.ref c2) (.ref cL) = some true)
    (s2_0 : PySem.W.subIn K (.ref c2) (.ref c0) = some false)
    (s2_1 : PySem.W.subIn K (.ref c2) (.ref c1) = some false)
    (s2_3 : PySem.W.subIn K (.ref c2) (.ref c3) = some false)
    (s2_4 : PySem.W.subIn K (.ref c2) (.ref c4) = some false)
    (s2_5 : PySem.W.subIn K (.ref c2) (.ref c5) = some false)
    (s2_6 : PySem.W.subIn K (.ref c2) (.ref c6) = some false)
    (s2_7 : PySem.W.subIn K (.ref c2) (.ref c7) = some false)
    (s2_8 : PySem.W.subIn K (.ref c2) (.ref c8) = some false)
    (s2_9 : PySem.W.subIn K (.ref c2) (.ref c9) = some false)
    (hc3 : PySem.W.isClsIn K c3 = true)
    (hg3 : PySem.W.findIn K (.ref c3) "__getattribute__" = some (some (.builtin "BaseException.__getattribute__")))
    (hk3 : PySem.W.findIn K (.ref c3) "__getattr__" = some none)
    (hs3 : PySem.W.subIn K (.ref c3) (.type "BaseException") = some true)
    (hd3 : PySem.W.hasDictIn K c3 = true)
    (ha3 : PySem.W.findIn K (.ref c3) "__class__" = some (some (.builtin "object.__class__")))
    (hm3 : PySem.W.mroIn K c3 (.type "object") = some true)
    (ht3 : PySem.W.typeIn K (.ref c3) = some (.type "type"))
    (sK3 : PySem.W.subIn K (.ref c3) (.type "LookupError") = some false)
    (sA3 : PySem.W.subIn K (.ref c3) (.type "ArithmeticError") = some false)
    (sV3 : PySem.W.subIn K (.ref c3) (.type "ValueError") = some true)
    (sL3 : PySem.W.subIn K (.ref c3) (.ref cL) = some true)
    (s3_0 : PySem.W.subIn K (.ref c3) (.ref c0) = some false)
    (s3_1 : PySem.W.subIn K (.ref c3) (.ref c1) = some false)
    (s3_2 : PySem.W.subIn K (.ref c3) (.ref c2) = some false)
    (s3_4 : PySem.W.subIn K (.ref c3) (.ref c4) = some false)
    (s3_5 : PySem.W.subIn K (.ref c3) (.ref c5) = some false)
    (s3_6 : PySem.W.subIn K (.ref c3) (.ref c6) = some false)
    (s3_7 : PySem.W.subIn K (.ref c3) (.ref c7) = some false)
    (s3_8 : PySem.W.subIn K (.ref c3) (.ref c8) = some false)
    (s3_9 : PySem.W.subIn K (.ref c3) (.ref c9) = some false)
    (hc4 : PySem.W.isClsIn K c4 = true)
    (hg4 : PySem.W.findIn K (.ref c4) "__getattribute__" = some (some (.builtin "BaseException.__getattribute__")))
    (hk4 : PySem.W.findIn K (.ref c4) "__getattr__" = some none)
    (hs4 : PySem.W.subIn K (.ref c4) (.type "BaseException") = some true)
    (hd4 : PySem.W.hasDictIn K c4 = true)
    (ha4 : PySem.W.findIn K (.ref c4) "__class__" = some (some (.builtin "object.__class__")))
    (hm4 : PySem.W.mroIn K c4 (.type "object") = some true)
    (ht4 : PySem.W.typeIn K (.ref c4) = some (.type "type"))
    (sK4 : PySem.W.subIn K (.ref c4) (.type "LookupError") = some false)
    (sA4 : PySem.W.subIn K (.ref c4) (.type "ArithmeticError") = some false)
    (sV4 : PySem.W.subIn K (.ref c4) (.type "ValueError") = some true)
    (sL4 : PySem.W.subIn K (.ref c4) (.ref cL) = some true)
    (s4_0 : PySem.W.subIn K (.ref c4) (.ref c0) = some false)
    (s4_1 : PySem.W.subIn K (.ref c4) (.ref c1) = some false)
    (s4_2 : PySem.W.subIn K (.ref c4) (.ref c2) = some false)
    (s4_3 : PySem.W.subIn K (.ref c4) (.ref c3) = some false)
    (s4_5 : PySem.W.subIn K (.ref c4) (.ref c5) = some false)
    (s4_6 : PySem.W.subIn K (.ref c4) (.ref c6) = some false)
    (s4_7 : PySem.W.subIn K (.ref c4) (.ref c7) = some false)
    (s4_8 : PySem.W.subIn K (.ref c4) (.ref c8) = some false)
    (s4_9 : PySem.W.subIn K (.ref c4) (.ref c9) = some false)
    (hc5 : PySem.W.isClsIn K c5 = true)
    (hg5 : PySem.W.findIn K (.ref c5) "__getattribute__" = some (some (.builtin "BaseException.__getattribute__")))
    (hk5 : PySem.W.findIn K (.ref c5) "__getattr__" = some none)
    (hs5 : PySem.W.subIn K (.ref c5) (.type "BaseException") = some true)
    (hd5 : PySem.W.hasDictIn K c5 = true)
    (ha5 : PySem.W.findIn K (.ref c5) "__class__" = some (some (.builtin "object.__class__")))
    (hm5 : PySem.W.mroIn K c5 (.type "object") = some true)
    (ht5 : PySem.W.typeIn K (.ref c5) = some (.type "type"))
    (sK5 : PySem.W.subIn K (.ref c5) (.type "LookupError") = some false)
    (sA5 : PySem.W.subIn K (.ref c5) (.type "ArithmeticError") = some false)
    (sV5 : PySem.W.subIn K (.ref c5) (.type "ValueError") = some true)
    (sL5 : PySem.W.subIn K (.ref c5) (.ref cL) = some true)
    (s5_0 : PySem.W.subIn K (.ref c5) (.ref c0) = some false)
    (s5_1 : PySem.W.subIn K (.ref c5) (.ref c1) = some false)
    (s5_2 : PySem.W.subIn K (.ref c5) (.ref c2) = some false)
    (s5_3 : PySem.W.subIn K (.ref c5) (.ref c3) = some false)
    (s5_4 : PySem.W.subIn K (.ref c5) (.ref c4) = some false)
    (s5_6 : PySem.W.subIn K (.ref c5) (.ref c6) = some false)
    (s5_7 : PySem.W.subIn K (.ref c5) (.ref c7) = some false)
    (s5_8 : PySem.W.subIn K (.ref c5) (.ref c8) = some false)
    (s5_9 : PySem.W.subIn K (.ref c5) (.ref c9) = some false)
    (hc6 : PySem.W.isClsIn K c6 = true)
    (hg6 : PySem.W.findIn K (.ref c6) "__getattribute__" = some (some (.builtin "BaseException.__getattribute__")))
    (hk6 : PySem.W.findIn K (.ref c6) "__getattr__" = some none)
    (hs6 : PySem.W.subIn K (.ref c6) (.type "BaseException") = some true)
    (hd6 : PySem.W.hasDictIn K c6 = true)
    (ha6 : PySem.W.findIn K (.ref c6) "__class__" = some (some (.builtin "object.__class__")))
    (hm6 : PySem.W.mroIn K c6 (.type "object") = some true)
    (ht6 : PySem.W.typeIn K (.ref c6) = some (.type "type"))
    (sK6 : PySem.W.subIn K (.ref c6) (.type "LookupError") = some false)
    (sA6 : PySem.W.subIn K (.ref c6) (.type "ArithmeticError") = some false)
    (sV6 : PySem.W.subIn K (.ref c6) (.type "ValueError") = some true)
    (sL6 : PySem.W.subIn K (.ref c6) (.ref cL) = some true)
    (s6_0 : PySem.W.subIn K (.ref c6) (.ref c0) = some false)
    (s6_1 : PySem.W.subIn K (.ref c6) (.ref c1) = some false)
    (s6_2 : PySem.W.subIn K (.ref c6) (.ref c2) = some false)
    (s6_3 : PySem.W.subIn K (.ref c6) (.ref c3) = some false)
    (s6_4 : PySem.W.subIn K (.ref c6) (.ref c4) = some false)
    (s6_5 : PySem.W.subIn K (.ref c6) (.ref c5) = some false)
    (s6_7 : PySem.W.subIn K (.ref c6) (.ref c7) = some false)
    (s6_8 : PySem.W.subIn K (.ref c6) (.ref c8) = some false)
    (s6_9 : PySem.W.subIn K (.ref c6) (.ref c9) = some false)
    (hc7 : PySem.W.isClsIn K c7 = true)
    (hg7 : PySem.W.findIn K (.ref c7) "__getattribute__" = some (some (.builtin "BaseException.__getattribute__")))
    (hk7 : PySem.W.findIn K (.ref c7) "__getattr__" = some none)
    (hs7 : PySem.W.subIn K (.ref c7) (.type "BaseException") = some true)
    (hd7 : PySem.W.hasDictIn K c7 = true)
    (ha7 : PySem.W.findIn K (.ref c7) "__class__" = some (some (.builtin "object.__class__")))
    (hm7 : PySem.W.mroIn K c7 (.type "object") = some true)
    (ht7 : PySem.W.typeIn K (.ref c7) = some (.type "type"))
    (sK7 : PySem.W.subIn K (.ref c7) (.type "LookupError") = some false)
    (sA7 : PySem.W.subIn K (.ref c7) (.type "ArithmeticError") = some false)
    (sV7 : PySem.W.subIn K (.ref c7) (.type "ValueError") = some true)
    (sL7 : PySem.W.subIn K (.ref c7) (.ref cL) = some true)
    (s7_0 : PySem.W.subIn K (.ref c7) (.ref c0) = some false)
    (s7_1 : PySem.W.subIn K (.ref c7) (.ref c1) = some false)
    (s7_2 : PySem.W.subIn K (.ref c7) (.ref c2) = some false)
    (s7_3 : PySem.W.subIn K (.ref c7) (.ref c3) = some false)
    (s7_4 : PySem.W.subIn K (.ref c7) (.ref c4) = some false)
    (s7_5 : PySem.W.subIn K (.ref c7) (.ref c5) = some false)
    (s7_6 : PySem.W.subIn K (.ref c7) (.ref c6) = some false)
    (s7_8 : PySem.W.subIn K (.ref c7) (.ref c8) = some false)
    (s7_9 : PySem.W.subIn K (.ref c7) (.ref c9) = some false)
    (hc8 : PySem.W.isClsIn K c8 = true)
    (hg8 : PySem.W.findIn K (.ref c8) "__getattribute__" = some (some (.builtin "BaseException.__getattribute__")))
    (hk8 : PySem.W.findIn K (.ref c8) "__getattr__" = some none)
    (hs8 : PySem.W.subIn K (.ref c8) (.type "BaseException") = some true)
    (hd8 : PySem.W.hasDictIn K c8 = true)
    (ha8 : PySem.W.findIn K (.ref c8) "__class__" = some (some (.builtin "object.__class__")))
    (hm8 : PySem.W.mroIn K c8 (.type "object") = some true)
    (ht8 : PySem.W.typeIn K (.ref c8) = some (.type "type"))
    (sK8 : PySem.W.subIn K (.ref c8) (.type "LookupError") = some false)
    (sA8 : PySem.W.subIn K (.ref c8) (.type "ArithmeticError") = some false)
    (sV8 : PySem.W.subIn K (.ref c8) (.type "ValueError") = some true)
    (sL8 : PySem.W.subIn K (.ref c8) (.ref cL) = some true)
    (s8_0 : PySem.W.subIn K (.ref c8) (.ref c0) = some false)
    (s8_1 : PySem.W.subIn K (.ref c8) (.ref c1) = some false)
    (s8_2 : PySem.W.subIn K (.ref c8) (.ref c2) = some false)
    (s8_3 : PySem.W.subIn K (.ref c8) (.ref c3) = some false)
    (s8_4 : PySem.W.subIn K (.ref c8) (.ref c4) = some false)
    (s8_5 : PySem.W.subIn K (.ref c8) (.ref c5) = some false)
    (s8_6 : PySem.W.subIn K (.ref c8) (.ref c6) = some false)
    (s8_7 : PySem.W.subIn K (.ref c8) (.ref c7) = some false)
    (s8_9 : PySem.W.subIn K (.ref c8) (.ref c9) = some false)
    (hc9 : PySem.W.isClsIn K c9 = true)
    (hg9 : PySem.W.findIn K (.ref c9) "__getattribute__" = some (some (.builtin "BaseException.__getattribute__")))
    (hk9 : PySem.W.findIn K (.ref c9) "__getattr__" = some none)
    (hs9 : PySem.W.subIn K (.ref c9) (.type "BaseException") = some true)
    (hd9 : PySem.W.hasDictIn K c9 = true)
    (ha9 : PySem.W.findIn K (.ref c9) "__class__" = some (some (.builtin "object.__class__")))
    (hm9 : PySem.W.mroIn K c9 (.type "object") = some true)
    (ht9 : PySem.W.typeIn K (.ref c9) = some (.type "type"))
    (sK9 : PySem.W.subIn K (.ref c9) (.type "LookupError") = some false)
    (sA9 : PySem.W.subIn K (.ref c9) (.type "ArithmeticError") = some false)
    (sV9 : PySem.W.subIn K (.ref c9) (.type "ValueError") = some true)
    (sL9 : PySem.W.subIn K (.ref c9) (.ref cL) = some true)
    (s9_0 : PySem.W.subIn K (.ref c9) (.ref c0) = some false)
    (s9_1 : PySem.W.subIn K (.ref c9) (.ref c1) = some false)
    (s9_2 : PySem.W.subIn K (.ref c9) (.ref c2) = some false)
    (s9_3 : PySem.W.subIn K (.ref c9) (.ref c3) = some false)
    (s9_4 : PySem.W.subIn K (.ref c9) (.ref c4) = some false)
    (s9_5 : PySem.W.subIn K (.ref c9) (.ref c5) = some false)
    (s9_6 : PySem.W.subIn K (.ref c9) (.ref c6) = some false)
    (s9_7 : PySem.W.subIn K (.ref c9) (.ref c7) = some false)
    (s9_8 : PySem.W.subIn K (.ref c9) (.ref c8) = some false)
    (cL1 : PySem.W.isClsIn K cL = true)
    (cL2 : PySem.W.typeIn K (.ref cL) = some (.type "type"))
    (xT : K.lookup c0 = some (excClassObj nmT qT c0 NT bsT (.ref cL :: [.type "ValueError", .type "Exception", .type "BaseException", .type "object"]) true snT subT abT colT ddT m0T m1T m2T m3T m5T "ValueError.__new__"))
    (saT : PySem.W.findIn K (.ref c0) "__setattr__" = some (some (.builtin "object.__setattr__")))
    (kcT : PySem.W.keepIn K (.ref c0) = true)
    (icT : PySem.W.findIn K (.ref c0) "__init__" = some (some (.ref fT)))
    (tiT : PySem.W.typeIn K (.ref fT) = some (.type "function"))
    (lfT : K.lookup fT = some ⟨ocT, odT, .func (PySem.W.fnOf "__init__" "NoText.__init__" (defArgs iText) (defBody iText) (defScope iText) (.ref dT) kVT docT pmT anT cdvT ctT), oslT⟩)
    (cfT : PySem.W.codeIn K cdvT "NoText.__init__" = true)
    (kfT : PySem.W.keepIn K (.ref fT) = true)
    (ldT : K.lookup dT = some ⟨oTT, oDT, .seq ([.int 0 tk0] : List Value).toArray nT, slT⟩)
    (nTat : PySem.W.findIn K (.ref c0) "at" = some none)
    (bL : PySem.W.subIn K (.ref cL) (.type "BaseException") = some true)
    (q12 : PySem.W.nsIn K mainGlobals "MOST_LETTERS_words" = some (some (.int 12 t12)))
    (q18 : PySem.W.nsIn K mainGlobals "MOST_FIGURES" = some (some (.int 18 t18)))
    (q2 : PySem.W.nsIn K mainGlobals "FEWEST_LETTERS" = some (some (.int 2 t2)))
    (q26 : PySem.W.nsIn K mainGlobals "MOST_LETTERS_supply" = some (some (.int 26 t26)))
    (qKp : PySem.W.nsIn K mainGlobals "KEPT" = some (some (.ref aKp)))
    (lKp : K.lookup aKp = some ⟨.type "tuple", oKp, .seq ([.str "let" kKp0, .str "if" kKp1, .str "else" kKp2, .str "while" kKp3, .str "return" kKp4, .str "fail" kKp5, .str "try" kKp6, .str "catch" kKp7, .str "out" kKp8, .str "fn" kKp9] : List Value).toArray nKp, slKp⟩)
    (qLo : PySem.W.nsIn K mainGlobals "LONG_SIGNS" = some (some (.ref aLo)))
    (lLo : K.lookup aLo = some ⟨.type "tuple", oLo, .seq ([.str "<=" kLo0, .str ">=" kLo1, .str "==" kLo2, .str "!=" kLo3, .str "&&" kLo4, .str "||" kLo5] : List Value).toArray nLo, slLo⟩)
    (qSh : PySem.W.nsIn K mainGlobals "SHORT_SIGNS" = some (some (.ref aSh)))
    (lSh : K.lookup aSh = some ⟨.type "tuple", oSh, .seq ([.str "+" kSh0, .str "-" kSh1, .str "*" kSh2, .str "/" kSh3, .str "~" kSh4, .str "<" kSh5, .str ">" kSh6, .str "!" kSh7, .str "?" kSh8, .str ":" kSh9, .str "." kSh10, .str "," kSh11, .str "=" kSh12, .str "(" kSh13, .str ")" kSh14, .str "{" kSh15, .str "}" kSh16, .str "[" kSh17, .str "]" kSh18, .str ";" kSh19] : List Value).toArray nSh, slSh⟩)
    (gS : PySem.W.nsIn K mainGlobals "Source" = some (some (.ref cS)))
    (S1 : PySem.W.makesIn K cS = true)
    (S2 : PySem.W.findIn K (.ref cS) "__init__" = some (some (.ref fS)))
    (S3 : PySem.W.isFn K (.ref fS) = true)
    (S4 : PySem.W.keepIn K (.ref cS) = true)
    (S5 : PySem.W.plainGet K cS Str.empty = true)
    (S6 : PySem.W.hasDictIn K cS = true)
    (S7 : PySem.W.plainOver K cS = true)
    (S8 : PySem.W.findIn K (.ref cS) "__setattr__" = some (some (.builtin "object.__setattr__")))
    (S9 : PySem.W.findIn K (.ref cS) "size" = some none)
    (lS : K.lookup fS = some ⟨aocS, aodS, .func (PySem.W.fnOf "__init__" "Source.__init__" (defArgs iSource) (defBody iSource) (defScope iSource) .none akVS adocS apmS aanS acdS actS), aslS⟩)
    (cSf : PySem.W.codeIn K acdS "Source.__init__" = true)
    (kSf : PySem.W.keepIn K (.ref fS) = true)
    (gSt : PySem.W.nsIn K mainGlobals "State" = some (some (.ref cSt)))
    (St1 : PySem.W.makesIn K cSt = true)
    (St2 : PySem.W.findIn K (.ref cSt) "__init__" = some (some (.ref fSt)))
    (St3 : PySem.W.isFn K (.ref fSt) = true)
    (St4 : PySem.W.keepIn K (.ref cSt) = true)
    (St5 : PySem.W.plainGet K cSt Str.empty = true)
    (St6 : PySem.W.hasDictIn K cSt = true)
    (St7 : PySem.W.plainOver K cSt = true)
    (St8 : PySem.W.findIn K (.ref cSt) "__setattr__" = some (some (.builtin "object.__setattr__")))
    (St9 : PySem.W.findIn K (.ref cSt) "size" = some none)
    (lSt : K.lookup fSt = some ⟨aocSt, aodSt, .func (PySem.W.fnOf "__init__" "State.__init__" (defArgs iState) (defBody iState) (defScope iState) .none akVSt adocSt apmSt aanSt acdSt actSt), aslSt⟩)
    (cStf : PySem.W.codeIn K acdSt "State.__init__" = true)
    (kStf : PySem.W.keepIn K (.ref fSt) = true)
    (gTr : PySem.W.nsIn K mainGlobals "Trace" = some (some (.ref cTr)))
    (Tr1 : PySem.W.makesIn K cTr = true)
    (Tr2 : PySem.W.findIn K (.ref cTr) "__init__" = some (some (.ref fTr)))
    (Tr3 : PySem.W.isFn K (.ref fTr) = true)
    (Tr4 : PySem.W.keepIn K (.ref cTr) = true)
    (Tr5 : PySem.W.plainGet K cTr Str.empty = true)
    (Tr6 : PySem.W.hasDictIn K cTr = true)
    (Tr7 : PySem.W.plainOver K cTr = true)
    (Tr8 : PySem.W.findIn K (.ref cTr) "__setattr__" = some (some (.builtin "object.__setattr__")))
    (Tr9 : PySem.W.findIn K (.ref cTr) "size" = some none)
    (lTr : K.lookup fTr = some ⟨aocTr, aodTr, .func (PySem.W.fnOf "__init__" "Trace.__init__" (defArgs iTrace) (defBody iTrace) (defScope iTrace) .none akVTr adocTr apmTr aanTr acdTr actTr), aslTr⟩)
    (cTrf : PySem.W.codeIn K acdTr "Trace.__init__" = true)
    (kTrf : PySem.W.keepIn K (.ref fTr) = true)
    (aLe : PySem.W.nsIn K mainGlobals "lean" = some (some (.ref afLe)))
    (alLe : K.lookup afLe = some ⟨aocLe, aodLe, .func (PySem.W.fnOf "lean" "lean" (defArgs sLean) (defBody sLean) (defScope sLean) .none (.ref akdLe) adocLe apmLe aanLe acdLe actLe), aslLe⟩)
    (acLe : PySem.W.codeIn K acdLe "lean" = true)
    (akLe : PySem.W.keepIn K (.ref afLe) = true)
    (adLe : PySem.W.nsIn K akdLe "keep" = some (some (.ref akELe)))
    (aLd : PySem.W.nsIn K mainGlobals "leaned" = some (some (.ref afLd)))
    (alLd : K.lookup afLd = some ⟨aocLd, aodLd, .func (PySem.W.fnOf "leaned" "leaned" (defArgs sLeaned) (defBody sLeaned) (defScope sLeaned) .none (.ref akdLd) adocLd apmLd aanLd acdLd actLd), aslLd⟩)
    (acLd : PySem.W.codeIn K acdLd "leaned" = true)
    (akLd : PySem.W.keepIn K (.ref afLd) = true)
    (adLd : PySem.W.nsIn K akdLd "keep" = some (some (.ref akELd)))
    (aM : PySem.W.nsIn K mainGlobals "_law_mixed" = some (some (.ref afM)))
    (alM : K.lookup afM = some ⟨aocM, aodM, .func (PySem.W.fnOf "_law_mixed" "_law_mixed" (defArgs sMixed) (defBody sMixed) (defScope sMixed) .none akVM adocM apmM aanM acdM actM), aslM⟩)
    (acM : PySem.W.codeIn K acdM "_law_mixed" = true)
    (akM : PySem.W.keepIn K (.ref afM) = true)
    (aC : PySem.W.nsIn K mainGlobals "_law_cell" = some (some (.ref afC)))
    (alC : K.lookup afC = some ⟨aocC, aodC, .func (PySem.W.fnOf "_law_cell" "_law_cell" (defArgs sCell) (defBody sCell) (defScope sCell) .none akVC adocC apmC aanC acdC actC), aslC⟩)
    (acC : PySem.W.codeIn K acdC "_law_cell" = true)
    (akC : PySem.W.keepIn K (.ref afC) = true)
    (aK : PySem.W.nsIn K mainGlobals "_law_take" = some (some (.ref afK)))
    (alK : K.lookup afK = some ⟨aocK, aodK, .func (PySem.W.fnOf "_law_take" "_law_take" (defArgs sTake) (defBody sTake) (defScope sTake) .none akVK adocK apmK aanK acdK actK), aslK⟩)
    (acK : PySem.W.codeIn K acdK "_law_take" = true)
    (akK : PySem.W.keepIn K (.ref afK) = true)
    (aO : PySem.W.nsIn K mainGlobals "_law_only" = some (some (.ref afO)))
    (alO : K.lookup afO = some ⟨aocO, aodO, .func (PySem.W.fnOf "_law_only" "_law_only" (defArgs sOnly) (defBody sOnly) (defScope sOnly) .none akVO adocO apmO aanO acdO actO), aslO⟩)
    (acO : PySem.W.codeIn K acdO "_law_only" = true)
    (akO : PySem.W.keepIn K (.ref afO) = true)
    (aPl : PySem.W.nsIn K mainGlobals "is_letter" = some (some (.ref afPl)))
    (alPl : K.lookup afPl = some ⟨aocPl, aodPl, .func (PySem.W.fnOf "is_letter" "is_letter" (defArgs sLetter) (defBody sLetter) (defScope sLetter) .none akVPl adocPl apmPl aanPl acdPl actPl), aslPl⟩)
    (acPl : PySem.W.codeIn K acdPl "is_letter" = true)
    (akPl : PySem.W.keepIn K (.ref afPl) = true)
    (aPf : PySem.W.nsIn K mainGlobals "is_figure" = some (some (.ref afPf)))
    (alPf : K.lookup afPf = some ⟨aocPf, aodPf, .func (PySem.W.fnOf "is_figure" "is_figure" (defArgs sFigure) (defBody sFigure) (defScope sFigure) .none akVPf adocPf apmPf aanPf acdPf actPf), aslPf⟩)
    (acPf : PySem.W.codeIn K acdPf "is_figure" = true)
    (akPf : PySem.W.keepIn K (.ref afPf) = true)
    (aPx : PySem.W.nsIn K mainGlobals "is_letter_or_figure" = some (some (.ref afPx)))
    (alPx : K.lookup afPx = some ⟨aocPx, aodPx, .func (PySem.W.fnOf "is_letter_or_figure" "is_letter_or_figure" (defArgs sLF) (defBody sLF) (defScope sLF) .none akVPx adocPx apmPx aanPx acdPx actPx), aslPx⟩)
    (acPx : PySem.W.codeIn K acdPx "is_letter_or_figure" = true)
    (akPx : PySem.W.keepIn K (.ref afPx) = true)
    (aPn : PySem.W.nsIn K mainGlobals "is_name" = some (some (.ref afPn)))
    (alPn : K.lookup afPn = some ⟨aocPn, aodPn, .func (PySem.W.fnOf "is_name" "is_name" (defArgs sName) (defBody sName) (defScope sName) .none akVPn adocPn apmPn aanPn acdPn actPn), aslPn⟩)
    (acPn : PySem.W.codeIn K acdPn "is_name" = true)
    (akPn : PySem.W.keepIn K (.ref afPn) = true)
    (aPp : PySem.W.nsIn K mainGlobals "is_plain_number" = some (some (.ref afPp)))
    (alPp : K.lookup afPp = some ⟨aocPp, aodPp, .func (PySem.W.fnOf "is_plain_number" "is_plain_number" (defArgs sPlain) (defBody sPlain) (defScope sPlain) .none akVPp adocPp apmPp aanPp acdPp actPp), aslPp⟩)
    (acPp : PySem.W.codeIn K acdPp "is_plain_number" = true)
    (akPp : PySem.W.keepIn K (.ref afPp) = true)
    (aPu : PySem.W.nsIn K mainGlobals "is_number" = some (some (.ref afPu)))
    (alPu : K.lookup afPu = some ⟨aocPu, aodPu, .func (PySem.W.fnOf "is_number" "is_number" (defArgs sNumber) (defBody sNumber) (defScope sNumber) .none akVPu adocPu apmPu aanPu acdPu actPu), aslPu⟩)
    (acPu : PySem.W.codeIn K acdPu "is_number" = true)
    (akPu : PySem.W.keepIn K (.ref afPu) = true)
    (aPr : PySem.W.nsIn K mainGlobals "run_end" = some (some (.ref afPr)))
    (alPr : K.lookup afPr = some ⟨aocPr, aodPr, .func (PySem.W.fnOf "run_end" "run_end" (defArgs sRunEnd) (defBody sRunEnd) (defScope sRunEnd) .none akVPr adocPr apmPr aanPr acdPr actPr), aslPr⟩)
    (acPr : PySem.W.codeIn K acdPr "run_end" = true)
    (akPr : PySem.W.keepIn K (.ref afPr) = true)
    (aPs : PySem.W.nsIn K mainGlobals "sort_of" = some (some (.ref afPs)))
    (alPs : K.lookup afPs = some ⟨aocPs, aodPs, .func (PySem.W.fnOf "sort_of" "sort_of" (defArgs sSort) (defBody sSort) (defScope sSort) .none akVPs adocPs apmPs aanPs acdPs actPs), aslPs⟩)
    (acPs : PySem.W.codeIn K acdPs "sort_of" = true)
    (akPs : PySem.W.keepIn K (.ref afPs) = true)
    (aPg : PySem.W.nsIn K mainGlobals "sign_end" = some (some (.ref afPg)))
    (alPg : K.lookup afPg = some ⟨aocPg, aodPg, .func (PySem.W.fnOf "sign_end" "sign_end" (defArgs sSign) (defBody sSign) (defScope sSign) .none akVPg adocPg apmPg aanPg acdPg actPg), aslPg⟩)
    (acPg : PySem.W.codeIn K acdPg "sign_end" = true)
    (akPg : PySem.W.keepIn K (.ref afPg) = true)
    (aPw : PySem.W.nsIn K mainGlobals "words" = some (some (.ref afPw)))
    (alPw : K.lookup afPw = some ⟨aocPw, aodPw, .func (PySem.W.fnOf "words" "words" (defArgs sWords) (defBody sWords) (defScope sWords) .none akVPw adocPw apmPw aanPw acdPw actPw), aslPw⟩)
    (acPw : PySem.W.codeIn K acdPw "words" = true)
    (akPw : PySem.W.keepIn K (.ref afPw) = true)
    (aRp : PySem.W.nsIn K mainGlobals "parsed" = some (some (.ref afRp)))
    (alRp : K.lookup afRp = some ⟨aocRp, aodRp, .func (PySem.W.fnOf "parsed" "parsed" (defArgs sParsed) (defBody sParsed) (defScope sParsed) .none akVRp adocRp apmRp aanRp acdRp actRp), aslRp⟩)
    (acRp : PySem.W.codeIn K acdRp "parsed" = true)
    (akRp : PySem.W.keepIn K (.ref afRp) = true)
    (aRn : PySem.W.nsIn K mainGlobals "read_node" = some (some (.ref afRn)))
    (alRn : K.lookup afRn = some ⟨aocRn, aodRn, .func (PySem.W.fnOf "read_node" "read_node" (defArgs sNode) (defBody sNode) (defScope sNode) .none akVRn adocRn apmRn aanRn acdRn actRn), aslRn⟩)
    (acRn : PySem.W.codeIn K acdRn "read_node" = true)
    (akRn : PySem.W.keepIn K (.ref afRn) = true)
    (aRr : PySem.W.nsIn K mainGlobals "read" = some (some (.ref afRr)))
    (alRr : K.lookup afRr = some ⟨aocRr, aodRr, .func (PySem.W.fnOf "read" "read" (defArgs sRead) (defBody sRead) (defScope sRead) .none akVRr adocRr apmRr aanRr acdRr actRr), aslRr⟩)
    (acRr : PySem.W.codeIn K acdRr "read" = true)
    (akRr : PySem.W.keepIn K (.ref afRr) = true)
    (aRs : PySem.W.nsIn K mainGlobals "spots" = some (some (.ref afRs)))
    (alRs : K.lookup afRs = some ⟨aocRs, aodRs, .func (PySem.W.fnOf "spots" "spots" (defArgs sSpots) (defBody sSpots) (defScope sSpots) .none akVRs adocRs apmRs aanRs acdRs actRs), aslRs⟩)
    (acRs : PySem.W.codeIn K acdRs "spots" = true)
    (akRs : PySem.W.keepIn K (.ref afRs) = true)
    (aAl : PySem.W.nsIn K mainGlobals "are_letters" = some (some (.ref afAl)))
    (alAl : K.lookup afAl = some ⟨aocAl, aodAl, .func (PySem.W.fnOf "are_letters" "are_letters" (defArgs sAreL) (defBody sAreL) (defScope sAreL) .none akVAl adocAl apmAl aanAl acdAl actAl), aslAl⟩)
    (acAl : PySem.W.codeIn K acdAl "are_letters" = true)
    (akAl : PySem.W.keepIn K (.ref afAl) = true)
    (aMl : PySem.W.nsIn K mainGlobals "must_be_letters" = some (some (.ref afMl)))
    (alMl : K.lookup afMl = some ⟨aocMl, aodMl, .func (PySem.W.fnOf "must_be_letters" "must_be_letters" (defArgs sMustL) (defBody sMustL) (defScope sMustL) .none akVMl adocMl apmMl aanMl acdMl actMl), aslMl⟩)
    (acMl : PySem.W.codeIn K acdMl "must_be_letters" = true)
    (akMl : PySem.W.keepIn K (.ref afMl) = true)
    (aSh_ : PySem.W.nsIn K mainGlobals "shortened" = some (some (.ref afSh_)))
    (alSh_ : K.lookup afSh_ = some ⟨aocSh_, aodSh_, .func (PySem.W.fnOf "shortened" "shortened" (defArgs sShort) (defBody sShort) (defScope sShort) .none akVSh_ adocSh_ apmSh_ aanSh_ acdSh_ actSh_), aslSh_⟩)
    (acSh_ : PySem.W.codeIn K acdSh_ "shortened" = true)
    (akSh_ : PySem.W.keepIn K (.ref afSh_) = true)
    (aLa : PySem.W.nsIn K mainGlobals "_law_asked" = some (some (.ref afLa)))
    (alLa : K.lookup afLa = some ⟨aocLa, aodLa, .func (PySem.W.fnOf "_law_asked" "_law_asked" (defArgs sAsked) (defBody sAsked) (defScope sAsked) .none akVLa adocLa apmLa aanLa acdLa actLa), aslLa⟩)
    (acLa : PySem.W.codeIn K acdLa "_law_asked" = true)
    (akLa : PySem.W.keepIn K (.ref afLa) = true)
    (aLg : PySem.W.nsIn K mainGlobals "_law_good" = some (some (.ref afLg)))
    (alLg : K.lookup afLg = some ⟨aocLg, aodLg, .func (PySem.W.fnOf "_law_good" "_law_good" (defArgs sLGood) (defBody sLGood) (defScope sLGood) .none akVLg adocLg apmLg aanLg acdLg actLg), aslLg⟩)
    (acLg : PySem.W.codeIn K acdLg "_law_good" = true)
    (akLg : PySem.W.keepIn K (.ref afLg) = true)
    (aW : PySem.W.nsIn K mainGlobals "law" = some (some (.ref afW)))
    (alW : K.lookup afW = some ⟨aocW, aodW, .func (PySem.W.fnOf "law" "law" (defArgs sLaw) (defBody sLaw) (defScope sLaw) .none akVW adocW apmW aanW acdW actW), aslW⟩)
    (acW : PySem.W.codeIn K acdW "law" = true)
    (akW : PySem.W.keepIn K (.ref afW) = true)
    (sf0 : PySem.W.selfFirst K c0 = true)
    (sf1 : PySem.W.selfFirst K c1 = true)
    (sf2 : PySem.W.selfFirst K c2 = true)
    (sf3 : PySem.W.selfFirst K c3 = true)
    (sf4 : PySem.W.selfFirst K c4 = true)
    (sf5 : PySem.W.selfFirst K c5 = true)
    (sf6 : PySem.W.selfFirst K c6 = true)
    (sf7 : PySem.W.selfFirst K c7 = true)
    (sf8 : PySem.W.selfFirst K c8 = true)
    (sf9 : PySem.W.selfFirst K c9 = true)
    : ∃ fd : FuncData, (∀ (s : Shared) (u : Value), BindsTo s fd ⟨[u], []⟩ [("script", u)]) ∧ ∀ base : Heap, K.In base → base.Ns mainGlobals mg → FnOk P w K mg base CX0 17 fa fd ["script"] (spLaw K) := by
  have e := hfa.symm.trans (PySem.W.mg_of X G aW)
  cases e
  have T : Ten K mg (fun i => [c0, c1, c2, c3, c4, c5, c6, c7, c8, c9].getD i 0) cL := {
    g := fun i hi => match i, hi with
      | 0, _ => PySem.W.mg_of X G g0
      | 1, _ => PySem.W.mg_of X G g1
      | 2, _ => PySem.W.mg_of X G g2
      | 3, _ => PySem.W.mg_of X G g3
      | 4, _ => PySem.W.mg_of X G g4
      | 5, _ => PySem.W.mg_of X G g5
      | 6, _ => PySem.W.mg_of X G g6
      | 7, _ => PySem.W.mg_of X G g7
      | 8, _ => PySem.W.mg_of X G g8
      | 9, _ => PySem.W.mg_of X G g9
    gL := PySem.W.mg_of X G gL
    gI := PySem.W.mg_none_of X G zI
    gZ := PySem.W.mg_none_of X G zZ
    gK := PySem.W.mg_none_of X G zK
    gA := PySem.W.mg_none_of X G zA
    gV := PySem.W.mg_none_of X G zV
    isOne := fun i j hi hj => match i, hi, j, hj with
      | 0, _, 0, _ => kit_self
      | 0, _, 1, _ => kit_ref hc1 ht1 s0_1 (ne_ref (sub_ne s0_1 hs0 sf0))
      | 0, _, 2, _ => kit_ref hc2 ht2 s0_2 (ne_ref (sub_ne s0_2 hs0 sf0))
      | 0, _, 3, _ => kit_ref hc3 ht3 s0_3 (ne_ref (sub_ne s0_3 hs0 sf0))
      | 0, _, 4, _ => kit_ref hc4 ht4 s0_4 (ne_ref (sub_ne s0_4 hs0 sf0))
      | 0, _, 5, _ => kit_ref hc5 ht5 s0_5 (ne_ref (sub_ne s0_5 hs0 sf0))
      | 0, _, 6, _ => kit_ref hc6 ht6 s0_6 (ne_ref (sub_ne s0_6 hs0 sf0))
      | 0, _, 7, _ => kit_ref hc7 ht7 s0_7 (ne_ref (sub_ne s0_7 hs0 sf0))
      | 0, _, 8, _ => kit_ref hc8 ht8 s0_8 (ne_ref (sub_ne s0_8 hs0 sf0))
      | 0, _, 9, _ => kit_ref hc9 ht9 s0_9 (ne_ref (sub_ne s0_9 hs0 sf0))
      | 1, _, 0, _ => kit_ref hc0 ht0 s1_0 (ne_ref (sub_ne s1_0 hs1 sf1))
      | 1, _, 1, _ => kit_self
      | 1, _, 2, _ => kit_ref hc2 ht2 s1_2 (ne_ref (sub_ne s1_2 hs1 sf1))
      | 1, _, 3, _ => kit_ref hc3 ht3 s1_3 (ne_ref (sub_ne s1_3 hs1 sf1))
      | 1, _, 4, _ => kit_ref hc4 ht4 s1_4 (ne_ref (sub_ne s1_4 hs1 sf1))
      | 1, _, 5, _ => kit_ref hc5 ht5 s1_5 (ne_ref (sub_ne s1_5 hs1 sf1))
      | 1, _, 6, _ => kit_ref hc6 ht6 s1_6 (ne_ref (sub_ne s1_6 hs1 sf1))
      | 1, _, 7, _ => kit_ref hc7 ht7 s1_7 (ne_ref (sub_ne s1_7 hs1 sf1))
      | 1, _, 8, _ => kit_ref hc8 ht8 s1_8 (ne_ref (sub_ne s1_8 hs1 sf1))
      | 1, _, 9, _ => kit_ref hc9 ht9 s1_9 (ne_ref (sub_ne s1_9 hs1 sf1))
      | 2, _, 0, _ => kit_ref hc0 ht0 s2_0 (ne_ref (sub_ne s2_0 hs2 sf2))
      | 2, _, 1, _ => kit_ref hc1 ht1 s2_1 (ne_ref (sub_ne s2_1 hs2 sf2))
      | 2, _, 2, _ => kit_self
      | 2, _, 3, _ => kit_ref hc3 ht3 s2_3 (ne_ref (sub_ne s2_3 hs2 sf2))
      | 2, _, 4, _ => kit_ref hc4 ht4 s2_4 (ne_ref (sub_ne s2_4 hs2 sf2))
      | 2, _, 5, _ => kit_ref hc5 ht5 s2_5 (ne_ref (sub_ne s2_5 hs2 sf2))
      | 2, _, 6, _ => kit_ref hc6 ht6 s2_6 (ne_ref (sub_ne s2_6 hs2 sf2))
      | 2, _, 7, _ => kit_ref hc7 ht7 s2_7 (ne_ref (sub_ne s2_7 hs2 sf2))
      | 2, _, 8, _ => kit_ref hc8 ht8 s2_8 (ne_ref (sub_ne s2_8 hs2 sf2))
      | 2, _, 9, _ => kit_ref hc9 ht9 s2_9 (ne_ref (sub_ne s2_9 hs2 sf2))
      | 3, _, 0, _ => kit_ref hc0 ht0 s3_0 (ne_ref (sub_ne s3_0 hs3 sf3))
      | 3, _, 1, _ => kit_ref hc1 ht1 s3_1 (ne_ref (sub_ne s3_1 hs3 sf3))
      | 3, _, 2, _ => kit_ref hc2 ht2 s3_2 (ne_ref (sub_ne s3_2 hs3 sf3))
      | 3, _, 3, _ => kit_self
      | 3, _, 4, _ => kit_ref hc4 ht4 s3_4 (ne_ref (sub_ne s3_4 hs3 sf3))
      | 3, _, 5, _ => kit_ref hc5 ht5 s3_5 (ne_ref (sub_ne s3_5 hs3 sf3))
      | 3, _, 6, _ => kit_ref hc6 ht6 s3_6 (ne_ref (sub_ne s3_6 hs3 sf3))
      | 3, _, 7, _ => kit_ref hc7 ht7 s3_7 (ne_ref (sub_ne s3_7 hs3 sf3))
      | 3, _, 8, _ => kit_ref hc8 ht8 s3_8 (ne_ref (sub_ne s3_8 hs3 sf3))
      | 3, _, 9, _ => kit_ref hc9 ht9 s3_9 (ne_ref (sub_ne s3_9 hs3 sf3))
      | 4, _, 0, _ => kit_ref hc0 ht0 s4_0 (ne_ref (sub_ne s4_0 hs4 sf4))
      | 4, _, 1, _ => kit_ref hc1 ht1 s4_1 (ne_ref (sub_ne s4_1 hs4 sf4))
      | 4, _, 2, _ => kit_ref hc2 ht2 s4_2 (ne_ref (sub_ne s4_2 hs4 sf4))
      | 4, _, 3, _ => kit_ref hc3 ht3 s4_3 (ne_ref (sub_ne s4_3 hs4 sf4))
      | 4, _, 4, _ => kit_self
      | 4, _, 5, _ => kit_ref hc5 ht5 s4_5 (ne_ref (sub_ne s4_5 hs4 sf4))
      | 4, _, 6, _ => kit_ref hc6 ht6 s4_6 (ne_ref (sub_ne s4_6 hs4 sf4))
      | 4, _, 7, _ => kit_ref hc7 ht7 s4_7 (ne_ref (sub_ne s4_7 hs4 sf4))
      | 4, _, 8, _ => kit_ref hc8 ht8 s4_8 (ne_ref (sub_ne s4_8 hs4 sf4))
      | 4, _, 9, _ => kit_ref hc9 ht9 s4_9 (ne_ref (sub_ne s4_9 hs4 sf4))
      | 5, _, 0, _ => kit_ref hc0 ht0 s5_0 (ne_ref (sub_ne s5_0 hs5 sf5))
      | 5, _, 1, _ => kit_ref hc1 ht1 s5_1 (ne_ref (sub_ne s5_1 hs5 sf5))
      | 5, _, 2, _ => kit_ref hc2 ht2 s5_2 (ne_ref (sub_ne s5_2 hs5 sf5))
      | 5, _, 3, _ => kit_ref hc3 ht3 s5_3 (ne_ref (sub_ne s5_3 hs5 sf5))
      | 5, _, 4, _ => kit_ref hc4 ht4 s5_4 (ne_ref (sub_ne s5_4 hs5 sf5))
      | 5, _, 5, _ => kit_self
      | 5, _, 6, _ => kit_ref hc6 ht6 s5_6 (ne_ref (sub_ne s5_6 hs5 sf5))
      | 5, _, 7, _ => kit_ref hc7 ht7 s5_7 (ne_ref (sub_ne s5_7 hs5 sf5))
      | 5, _, 8, _ => kit_ref hc8 ht8 s5_8 (ne_ref (sub_ne s5_8 hs5 sf5))
      | 5, _, 9, _ => kit_ref hc9 ht9 s5_9 (ne_ref (sub_ne s5_9 hs5 sf5))
      | 6, _, 0, _ => kit_ref hc0 ht0 s6_0 (ne_ref (sub_ne s6_0 hs6 sf6))
      | 6, _, 1, _ => kit_ref hc1 ht1 s6_1 (ne_ref (sub_ne s6_1 hs6 sf6))
      | 6, _, 2, _ => kit_ref hc2 ht2 s6_2 (ne_ref (sub_ne s6_2 hs6 sf6))
      | 6, _, 3, _ => kit_ref hc3 ht3 s6_3 (ne_ref (sub_ne s6_3 hs6 sf6))
      | 6, _, 4, _ => kit_ref hc4 ht4 s6_4 (ne_ref (sub_ne s6_4 hs6 sf6))
      | 6, _, 5, _ => kit_ref hc5 ht5 s6_5 (ne_ref (sub_ne s6_5 hs6 sf6))
      | 6, _, 6, _ => kit_self
      | 6, _, 7, _ => kit_ref hc7 ht7 s6_7 (ne_ref (sub_ne s6_7 hs6 sf6))
      | 6, _, 8, _ => kit_ref hc8 ht8 s6_8 (ne_ref (sub_ne s6_8 hs6 sf6))
      | 6, _, 9, _ => kit_ref hc9 ht9 s6_9 (ne_ref (sub_ne s6_9 hs6 sf6))
      | 7, _, 0, _ => kit_ref hc0 ht0 s7_0 (ne_ref (sub_ne s7_0 hs7 sf7))
      | 7, _, 1, _ => kit_ref hc1 ht1 s7_1 (ne_ref (sub_ne s7_1 hs7 sf7))
      | 7, _, 2, _ => kit_ref hc2 ht2 s7_2 (ne_ref (sub_ne s7_2 hs7 sf7))
      | 7, _, 3, _ => kit_ref hc3 ht3 s7_3 (ne_ref (sub_ne s7_3 hs7 sf7))
      | 7, _, 4, _ => kit_ref hc4 ht4 s7_4 (ne_ref (sub_ne s7_4 hs7 sf7))
      | 7, _, 5, _ => kit_ref hc5 ht5 s7_5 (ne_ref (sub_ne s7_5 hs7 sf7))
      | 7, _, 6, _ => kit_ref hc6 ht6 s7_6 (ne_ref (sub_ne s7_6 hs7 sf7))
      | 7, _, 7, _ => kit_self
      | 7, _, 8, _ => kit_ref hc8 ht8 s7_8 (ne_ref (sub_ne s7_8 hs7 sf7))
      | 7, _, 9, _ => kit_ref hc9 ht9 s7_9 (ne_ref (sub_ne s7_9 hs7 sf7))
      | 8, _, 0, _ => kit_ref hc0 ht0 s8_0 (ne_ref (sub_ne s8_0 hs8 sf8))
      | 8, _, 1, _ => kit_ref hc1 ht1 s8_1 (ne_ref (sub_ne s8_1 hs8 sf8))
      | 8, _, 2, _ => kit_ref hc2 ht2 s8_2 (ne_ref (sub_ne s8_2 hs8 sf8))
      | 8, _, 3, _ => kit_ref hc3 ht3 s8_3 (ne_ref (sub_ne s8_3 hs8 sf8))
      | 8, _, 4, _ => kit_ref hc4 ht4 s8_4 (ne_ref (sub_ne s8_4 hs8 sf8))
      | 8, _, 5, _ => kit_ref hc5 ht5 s8_5 (ne_ref (sub_ne s8_5 hs8 sf8))
      | 8, _, 6, _ => kit_ref hc6 ht6 s8_6 (ne_ref (sub_ne s8_6 hs8 sf8))
      | 8, _, 7, _ => kit_ref hc7 ht7 s8_7 (ne_ref (sub_ne s8_7 hs8 sf8))
      | 8, _, 8, _ => kit_self
      | 8, _, 9, _ => kit_ref hc9 ht9 s8_9 (ne_ref (sub_ne s8_9 hs8 sf8))
      | 9, _, 0, _ => kit_ref hc0 ht0 s9_0 (ne_ref (sub_ne s9_0 hs9 sf9))
      | 9, _, 1, _ => kit_ref hc1 ht1 s9_1 (ne_ref (sub_ne s9_1 hs9 sf9))
      | 9, _, 2, _ => kit_ref hc2 ht2 s9_2 (ne_ref (sub_ne s9_2 hs9 sf9))
      | 9, _, 3, _ => kit_ref hc3 ht3 s9_3 (ne_ref (sub_ne s9_3 hs9 sf9))
      | 9, _, 4, _ => kit_ref hc4 ht4 s9_4 (ne_ref (sub_ne s9_4 hs9 sf9))
      | 9, _, 5, _ => kit_ref hc5 ht5 s9_5 (ne_ref (sub_ne s9_5 hs9 sf9))
      | 9, _, 6, _ => kit_ref hc6 ht6 s9_6 (ne_ref (sub_ne s9_6 hs9 sf9))
      | 9, _, 7, _ => kit_ref hc7 ht7 s9_7 (ne_ref (sub_ne s9_7 hs9 sf9))
      | 9, _, 8, _ => kit_ref hc8 ht8 s9_8 (ne_ref (sub_ne s9_8 hs9 sf9))
      | 9, _, 9, _ => kit_self
    isK := fun i hi => match i, hi with
      | 0, _ => kit_bi (by decide +kernel) sK0
      | 1, _ => kit_bi (by decide +kernel) sK1
      | 2, _ => kit_bi (by decide +kernel) sK2
      | 3, _ => kit_bi (by decide +kernel) sK3
      | 4, _ => kit_bi (by decide +kernel) sK4
      | 5, _ => kit_bi (by decide +kernel) sK5
      | 6, _ => kit_bi (by decide +kernel) sK6
      | 7, _ => kit_bi (by decide +kernel) sK7
      | 8, _ => kit_bi (by decide +kernel) sK8
      | 9, _ => kit_bi (by decide +kernel) sK9
    isA := fun i hi => match i, hi with
      | 0, _ => kit_bi (by decide +kernel) sA0
      | 1, _ => kit_bi (by decide +kernel) sA1
      | 2, _ => kit_bi (by decide +kernel) sA2
      | 3, _ => kit_bi (by decide +kernel) sA3
      | 4, _ => kit_bi (by decide +kernel) sA4
      | 5, _ => kit_bi (by decide +kernel) sA5
      | 6, _ => kit_bi (by decide +kernel) sA6
      | 7, _ => kit_bi (by decide +kernel) sA7
      | 8, _ => kit_bi (by decide +kernel) sA8
      | 9, _ => kit_bi (by decide +kernel) sA9
    isL := fun i hi => match i, hi with
      | 0, _ => kit_ref cL1 cL2 sL0 (fun _ => rfl)
      | 1, _ => kit_ref cL1 cL2 sL1 (fun _ => rfl)
      | 2, _ => kit_ref cL1 cL2 sL2 (fun _ => rfl)
      | 3, _ => kit_ref cL1 cL2 sL3 (fun _ => rfl)
      | 4, _ => kit_ref cL1 cL2 sL4 (fun _ => rfl)
      | 5, _ => kit_ref cL1 cL2 sL5 (fun _ => rfl)
      | 6, _ => kit_ref cL1 cL2 sL6 (fun _ => rfl)
      | 7, _ => kit_ref cL1 cL2 sL7 (fun _ => rfl)
      | 8, _ => kit_ref cL1 cL2 sL8 (fun _ => rfl)
      | 9, _ => kit_ref cL1 cL2 sL9 (fun _ => rfl)
    isV := fun i hi => match i, hi with
      | 0, _ => kit_bi (by decide +kernel) sV0
      | 1, _ => kit_bi (by decide +kernel) sV1
      | 2, _ => kit_bi (by decide +kernel) sV2
      | 3, _ => kit_bi (by decide +kernel) sV3
      | 4, _ => kit_bi (by decide +kernel) sV4
      | 5, _ => kit_bi (by decide +kernel) sV5
      | 6, _ => kit_bi (by decide +kernel) sV6
      | 7, _ => kit_bi (by decide +kernel) sV7
      | 8, _ => kit_bi (by decide +kernel) sV8
      | 9, _ => kit_bi (by decide +kernel) sV9
    ek := fun i hi => match i, hi with
      | 0, _ => ⟨hc0, hg0, hk0, hs0, hd0, ha0, sn, st, hm0⟩
      | 1, _ => ⟨hc1, hg1, hk1, hs1, hd1, ha1, sn, st, hm1⟩
      | 2, _ => ⟨hc2, hg2, hk2, hs2, hd2, ha2, sn, st, hm2⟩
      | 3, _ => ⟨hc3, hg3, hk3, hs3, hd3, ha3, sn, st, hm3⟩
      | 4, _ => ⟨hc4, hg4, hk4, hs4, hd4, ha4, sn, st, hm4⟩
      | 5, _ => ⟨hc5, hg5, hk5, hs5, hd5, ha5, sn, st, hm5⟩
      | 6, _ => ⟨hc6, hg6, hk6, hs6, hd6, ha6, sn, st, hm6⟩
      | 7, _ => ⟨hc7, hg7, hk7, hs7, hd7, ha7, sn, st, hm7⟩
      | 8, _ => ⟨hc8, hg8, hk8, hs8, hd8, ha8, sn, st, hm8⟩
      | 9, _ => ⟨hc9, hg9, hk9, hs9, hd9, ha9, sn, st, hm9⟩ }
  have oT : OexC K c0 := ⟨⟨_, _, _, _, _, _, _, _, _, _, _, _, _, _, _, xT, rfl⟩, saT, hs0, ht0, kcT⟩
  have FT : FunD K "__init__" "NoText.__init__" (defArgs iText) (defBody iText) (defScope iText) [.int 0] [] fT _ := ⟨⟨_, _, _, _, _, _, _, _, _, _, rfl, lfT, cfT, .inr ⟨by simp, _, _, _, _, rfl, ldT, rfl, .cons ⟨_, rfl⟩ .nil⟩, .inl rfl⟩, kfT⟩
  have C : TextC K mg ((fun i => [c0, c1, c2, c3, c4, c5, c6, c7, c8, c9].getD i 0) 0) fT _ := { o := oT, i := icT, t := tiT, F := FT, n := nTat, g := PySem.W.mg_of X G g0 }
  have GL : Glo K mg aKp aLo aSh := {
    mI := PySem.W.mg_none_of X G zI, mS := PySem.W.mg_none_of X G zs, mA := PySem.W.mg_none_of X G za, mL := PySem.W.mg_none_of X G zl, mN := PySem.W.mg_none_of X G zi, c12 := ⟨_, PySem.W.mg_of X G q12⟩, c18 := ⟨_, PySem.W.mg_of X G q18⟩, gK := PySem.W.mg_of X G qKp, gLo := PySem.W.mg_of X G qLo, gSh := PySem.W.mg_of X G qSh
    sK := fun H => .inr ⟨_, _, _, lKp, rfl, rfl, by show 10 ≤ sizeLine; decide, (.cons ⟨_, rfl⟩ (.cons ⟨_, rfl⟩ (.cons ⟨_, rfl⟩ (.cons ⟨_, rfl⟩ (.cons ⟨_, rfl⟩ (.cons ⟨_, rfl⟩ (.cons ⟨_, rfl⟩ (.cons ⟨_, rfl⟩ (.cons ⟨_, rfl⟩ (.cons ⟨_, rfl⟩ .nil))))))))))⟩
    sLo := fun H => .inr ⟨_, _, _, lLo, rfl, rfl, by show 6 ≤ sizeLine; decide, (.cons ⟨_, rfl⟩ (.cons ⟨_, rfl⟩ (.cons ⟨_, rfl⟩ (.cons ⟨_, rfl⟩ (.cons ⟨_, rfl⟩ (.cons ⟨_, rfl⟩ .nil))))))⟩
    sSh := fun H => .inr ⟨_, _, _, lSh, rfl, rfl, by show 20 ≤ sizeLine; decide, (.cons ⟨_, rfl⟩ (.cons ⟨_, rfl⟩ (.cons ⟨_, rfl⟩ (.cons ⟨_, rfl⟩ (.cons ⟨_, rfl⟩ (.cons ⟨_, rfl⟩ (.cons ⟨_, rfl⟩ (.cons ⟨_, rfl⟩ (.cons ⟨_, rfl⟩ (.cons ⟨_, rfl⟩ (.cons ⟨_, rfl⟩ (.cons ⟨_, rfl⟩ (.cons ⟨_, rfl⟩ (.cons ⟨_, rfl⟩ (.cons ⟨_, rfl⟩ (.cons ⟨_, rfl⟩ (.cons ⟨_, rfl⟩ (.cons ⟨_, rfl⟩ (.cons ⟨_, rfl⟩ (.cons ⟨_, rfl⟩ .nil))))))))))))))))))))⟩ }
  have DM := fun_mk (st := sMixed) alM acM akM
  have DC := fun_mk (st := sCell) alC acC akC
  have DK := fun_mk (st := sTake) alK acK akK
  have DO := fun_mk (st := sOnly) alO acO akO
  have DPl := fun_mk (st := sLetter) alPl acPl akPl
  have DPf := fun_mk (st := sFigure) alPf acPf akPf
  have DPx := fun_mk (st := sLF) alPx acPx akPx
  have DPn := fun_mk (st := sName) alPn acPn akPn
  have DPp := fun_mk (st := sPlain) alPp acPp akPp
  have DPu := fun_mk (st := sNumber) alPu acPu akPu
  have DPr := fun_mk (st := sRunEnd) alPr acPr akPr
  have DPs := fun_mk (st := sSort) alPs acPs akPs
  have DPg := fun_mk (st := sSign) alPg acPg akPg
  have DPw := fun_mk (st := sWords) alPw acPw akPw
  have DRp := fun_mk (st := sParsed) alRp acRp akRp
  have DRn := fun_mk (st := sNode) alRn acRn akRn
  have DRr := fun_mk (st := sRead) alRr acRr akRr
  have DRs := fun_mk (st := sSpots) alRs acRs akRs
  have DAl := fun_mk (st := sAreL) alAl acAl akAl
  have DMl := fun_mk (st := sMustL) alMl acMl akMl
  have DSh_ := fun_mk (st := sShort) alSh_ acSh_ akSh_
  have DLa := fun_mk (st := sAsked) alLa acLa akLa
  have DLg := fun_mk (st := sLGood) alLg acLg akLg
  have DW := fun_mk (st := sLaw) alW acW akW
  have DS := fun_mk (st := iSource) lS cSf kSf
  have BS := DS.binds (ps := ["self", "text"]) fun _ _ _ _ _ _ us hl => match us, hl with | [_, _], _ => rfl
  have MS : Mk K cS fS := ⟨S1, S2, S3, S4⟩
  have SC : SrcC K mg cS := { cl := ⟨S5, S6, S7, S8⟩, n1 := S9, g := PySem.W.mg_of X G gS, len_ := PySem.W.mg_none_of X G zl }
  have DSt := fun_mk (st := iState) lSt cStf kStf
  have BSt := DSt.binds (ps := ["self", "tree", "origins"]) fun _ _ _ _ _ _ us hl => match us, hl with | [_, _, _], _ => rfl
  have MSt : Mk K cSt fSt := ⟨St1, St2, St3, St4⟩
  have DTr := fun_mk (st := iTrace) lTr cTrf kTrf
  have BTr := DTr.binds (ps := ["self", "text"]) fun _ _ _ _ _ _ us hl => match us, hl with | [_, _], _ => rfl
  have MTr : Mk K cTr fTr := ⟨Tr1, Tr2, Tr3, Tr4⟩
  have TC : TrC K mg cTr cSt fSt := { cl := ⟨Tr5, Tr6, Tr7, Tr8⟩, n1 := Tr9, len_ := PySem.W.mg_none_of X G zl, gS := PySem.W.mg_of X G gSt, mS := MSt }
  have SU : Sup mg := { mI := PySem.W.mg_none_of X G zI, mS := PySem.W.mg_none_of X G zs, mL := PySem.W.mg_none_of X G zl, mA := PySem.W.mg_none_of X G za, mE := PySem.W.mg_none_of X G ze, c2 := ⟨_, PySem.W.mg_of X G q2⟩, c26 := ⟨_, PySem.W.mg_of X G q26⟩ }
  have DLe : FunD K "lean" "lean" (defArgs sLean) (defBody sLean) (defScope sLean) [] [("keep", .ref akELe)] afLe _ := ⟨⟨_, _, _, _, _, _, _, _, _, _, rfl, alLe, acLe, .inl ⟨rfl, rfl⟩, .inr ⟨_, rfl, fun q hq => by rw [List.mem_singleton.mp hq]; exact ⟨_, adLe, rfl⟩⟩⟩, akLe⟩
  obtain ⟨uLe, vLe, BLe⟩ := DLe.binds0 (ps := ["text", "letters", "keep"]) 2 (by simp) rfl fun D doc pm an cdv ct us ks h1 h2 => match us, h1, ks, h2 with | [_, _], _, [_], _ => ⟨_, _, _, _, _, _, rfl, rfl, rfl⟩
  have GLe := PySem.W.mg_of X G aLe
  have DLd : FunD K "leaned" "leaned" (defArgs sLeaned) (defBody sLeaned) (defScope sLeaned) [] [("keep", .ref akELd)] afLd _ := ⟨⟨_, _, _, _, _, _, _, _, _, _, rfl, alLd, acLd, .inl ⟨rfl, rfl⟩, .inr ⟨_, rfl, fun q hq => by rw [List.mem_singleton.mp hq]; exact ⟨_, adLd, rfl⟩⟩⟩, akLd⟩
  obtain ⟨uLd, vLd, BLd⟩ := DLd.binds0 (ps := ["text", "letters", "keep"]) 2 (by simp) rfl fun D doc pm an cdv ct us ks h1 h2 => match us, h1, ks, h2 with | [_, _], _, [_], _ => ⟨_, _, _, _, _, _, rfl, rfl, rfl⟩
  have GLd := PySem.W.mg_of X G aLd
  have BM := DM.binds (ps := ["cell", "k"]) fun _ _ _ _ _ _ us hl => match us, hl with | [_, _], _ => rfl
  have BC := DC.binds (ps := ["script", "k"]) fun _ _ _ _ _ _ us hl => match us, hl with | [_, _], _ => rfl
  have BK := DK.binds (ps := ["pile", "size"]) fun _ _ _ _ _ _ us hl => match us, hl with | [_, _], _ => rfl
  have BO := DO.binds (ps := ["caught", "name"]) fun _ _ _ _ _ _ us hl => match us, hl with | [_, _], _ => rfl
  have BPl := DPl.binds (ps := ["sign"]) fun _ _ _ _ _ _ us hl => match us, hl with | [_], _ => rfl
  have BPf := DPf.binds (ps := ["sign"]) fun _ _ _ _ _ _ us hl => match us, hl with | [_], _ => rfl
  have BPx := DPx.binds (ps := ["sign"]) fun _ _ _ _ _ _ us hl => match us, hl with | [_], _ => rfl
  have BPn := DPn.binds (ps := ["thing"]) fun _ _ _ _ _ _ us hl => match us, hl with | [_], _ => rfl
  have BPp := DPp.binds (ps := ["word"]) fun _ _ _ _ _ _ us hl => match us, hl with | [_], _ => rfl
  have BPu := DPu.binds (ps := ["word"]) fun _ _ _ _ _ _ us hl => match us, hl with | [_], _ => rfl
  have BPr := DPr.binds (ps := ["text", "at"]) fun _ _ _ _ _ _ us hl => match us, hl with | [_, _], _ => rfl
  have BPs := DPs.binds (ps := ["word", "at"]) fun _ _ _ _ _ _ us hl => match us, hl with | [_, _], _ => rfl
  have BPg := DPg.binds (ps := ["text", "at"]) fun _ _ _ _ _ _ us hl => match us, hl with | [_, _], _ => rfl
  have BPw := DPw.binds (ps := ["text"]) fun _ _ _ _ _ _ us hl => match us, hl with | [_], _ => rfl
  have BRp := DRp.binds (ps := ["text"]) fun _ _ _ _ _ _ us hl => match us, hl with | [_], _ => rfl
  have BRn := DRn.binds (ps := ["text"]) fun _ _ _ _ _ _ us hl => match us, hl with | [_], _ => rfl
  have BRr := DRr.binds (ps := ["text"]) fun _ _ _ _ _ _ us hl => match us, hl with | [_], _ => rfl
  have BRs := DRs.binds (ps := ["text"]) fun _ _ _ _ _ _ us hl => match us, hl with | [_], _ => rfl
  have BAl := DAl.binds (ps := ["thing"]) fun _ _ _ _ _ _ us hl => match us, hl with | [_], _ => rfl
  have BMl := DMl.binds (ps := ["thing"]) fun _ _ _ _ _ _ us hl => match us, hl with | [_], _ => rfl
  have BSh_ := DSh_.binds (ps := ["text", "letters", "keep"]) fun _ _ _ _ _ _ us hl => match us, hl with | [_, _, _], _ => rfl
  have BLa := DLa.binds (ps := ["which", "text"]) fun _ _ _ _ _ _ us hl => match us, hl with | [_, _], _ => rfl
  have BLg := DLg.binds (ps := ["ahead", "bad", "off", "behind"]) fun _ _ _ _ _ _ us hl => match us, hl with | [_, _, _, _], _ => rfl
  have GM := PySem.W.mg_of X G aM
  have GC := PySem.W.mg_of X G aC
  have GK := PySem.W.mg_of X G aK
  have GO := PySem.W.mg_of X G aO
  have GPl := PySem.W.mg_of X G aPl
  have GPf := PySem.W.mg_of X G aPf
  have GPx := PySem.W.mg_of X G aPx
  have GPn := PySem.W.mg_of X G aPn
  have GPp := PySem.W.mg_of X G aPp
  have GPu := PySem.W.mg_of X G aPu
  have GPr := PySem.W.mg_of X G aPr
  have GPs := PySem.W.mg_of X G aPs
  have GPg := PySem.W.mg_of X G aPg
  have GPw := PySem.W.mg_of X G aPw
  have GRp := PySem.W.mg_of X G aRp
  have GRn := PySem.W.mg_of X G aRn
  have GRr := PySem.W.mg_of X G aRr
  have GRs := PySem.W.mg_of X G aRs
  have GAl := PySem.W.mg_of X G aAl
  have GMl := PySem.W.mg_of X G aMl
  have GSh_ := PySem.W.mg_of X G aSh_
  have GLa := PySem.W.mg_of X G aLa
  have GLg := PySem.W.mg_of X G aLg
  refine ⟨PySem.W.fnOf "law" "law" (defArgs sLaw) (defBody sLaw) (defScope sLaw) .none akVW adocW apmW aanW acdW actW, fun s u => .of_eq rfl, fun base _ _ => ?_⟩
  have mL := PySem.W.mg_none_of X G zl
  have exm := exm_ref bL cL1 cL2 sL0
  have mR := PySem.W.mg_none_of X G zr
  have OPx : FnOk P w K mg base CX0 2 _ _ ["sign"] (spB isLF) := ok_LF DPx DPl DPf GPl GPf BPl BPf
  have OPn : FnOk P w K mg base CX0 2 _ _ ["thing"] spName := ok_Name DPn GL DPl GPl BPl
  have OPu : FnOk P w K mg base CX0 3 _ _ ["word"] spNumber := ok_Number DPu GL DPf GPf BPf DPp GPp BPp
  have OPr : FnOk P w K mg base CX0 3 _ _ ["text", "at"] spRunEnd := ok_RunEnd DPr mL DPx GPx BPx OPx
  have OPs : FnOk P w K mg base (L2.CX P w) 4 _ _ ["word", "at"] (spSort _) := ok_Sort DPs GL C DPn GPn BPn OPn DPu GPu BPu OPu
  have OPg : FnOk P w K mg base (L2.CX P w) 3 _ _ ["text", "at"] (spSign _) := ok_Sign DPg GL C
  have OPw : FnOk P w K mg base (L2.CX P w) 5 _ _ ["text"] (spWords _) := ok_Words DPw GL DPx GPx BPx OPx DPr GPr BPr OPr DPs GPs BPs OPs DPg GPg BPg OPg
  have OS : FnOk P w K mg base (L2.CX P w) 6 _ _ ["self", "text"] (spSrcB cS _) := ok_Source DS SC DPw GPw BPw OPw
  have ORp : FnOk P w K mg base (L2.CX P w) 8 _ _ ["text"] (spBadT _) := ok_Parsed DRp SC MS BS OS
  have ORn : FnOk P w K mg base (L2.CX P w) 9 _ _ ["text"] (spBadT _) := ok_Node DRn DRp GRp BRp ORp
  have ORr : FnOk P w K mg base (L2.CX P w) 10 _ _ ["text"] (spBadT _) := ok_Read DRr DRn GRn BRn ORn
  have ORs : FnOk P w K mg base (L2.CX P w) 10 _ _ ["text"] (spBadT _) := ok_Spots DRs DRn GRn BRn ORn
  have OC : FnOk P w K mg base CX0 2 _ _ ["script", "k"] (spCell K) := ok_cell DC DM BM GM mL mR
  have OK : FnOk P w K mg base CX0 1 _ _ ["pile", "size"] spTake := ok_take DK
  have OAl : FnOk P w K mg base CX0 2 _ _ ["thing"] spAreL := ok_AreL DAl SU DPl GPl BPl
  have OMl : FnOk P w K mg base CX0 3 _ _ ["thing"] spMustL := ok_MustL DMl DAl GAl BAl OAl
  have OTr : FnOk P w K mg base (L2.CX P w) 11 _ _ ["self", "text"] (spSrcB cTr _) := ok_Trace DTr TC DSt BSt DRr GRr BRr ORr
  have OSh : FnOk P w K mg base (L2.CX P w) 13 _ _ ["text", "letters", "keep"] (spBadL _) := ok_Short DSh_ DMl GMl BMl OMl MTr (PySem.W.mg_of X G gTr) BTr OTr
  have OLe : FnOk P w K mg base (L2.CX P w) 14 _ _ ["text", "letters", "keep"] (spBadL _) := ok_Lean DLe DSh_ GSh_ BSh_ OSh
  have OLd : FnOk P w K mg base (L2.CX P w) 14 _ _ ["text", "letters", "keep"] (spBadL _) := ok_Leaned DLd DSh_ GSh_ BSh_ OSh
  have OA : FnOk P w K mg base CX0 15 _ _ ["which", "text"] (spAsk 6 fun i => [c0, c1, c2, c3, c4, c5, c6, c7, c8, c9].getD i 0) := ok_Asked DLa T exm DPw GPw BPw OPw DRr GRr BRr ORr DRs GRs BRs ORs MTr (PySem.W.mg_of X G gTr) BTr OTr DLe GLe BLe vLe OLe DLd GLd BLd vLd OLd
  have OG : FnOk P w K mg base CX0 16 _ _ ["ahead", "bad", "off", "behind"] (spLG fun i => [c0, c1, c2, c3, c4, c5, c6, c7, c8, c9].getD i 0) := ok_LGood DLg T C mL mR DLa GLa BLa OA DO GO BO
  exact ok_Law (cs := fun i => [c0, c1, c2, c3, c4, c5, c6, c7, c8, c9].getD i 0) DW ⟨mR⟩ DC GC BC OC DK GK BK OK DLg GLg BLg OG DLa GLa BLa OA
end My
open PySem PySem.W PySem.Calls PyProof.Rows
set_option maxRecDepth 100000 in
set_option maxHeartbeats 0 in
theorem PySem.Challenge.cw_leanscript_k02_refused_words_holds : PySem.Challenge.rw_leanscript_k02_refused_words.Holds := by
  w_on
  refine Hd.law_of fun said => ?_
  refine PySem.W.holds_open (r := Hd.R) (q := Hd.qv) (loose := Hd.names) (Xt := fun s => xlAt Hd.qv [] s && recOk Hd.R.toRowW.records s) (XP := XL Hd.qv []) (Yf := Hd.hk.obs) (Ya := Hd.hk.val) (YP := Hd.hk.says) (N := 13162) (d := HandSHeadRun.topDef Hd.prg 281) (kwd := []) Hd.left Hd.hk.of Hd.hk.keeps (fun s z => xl_of s (Bool.and_eq_true_iff.mp z).1) XL.keeps
    Hd.side1 Hd.side2 Hd.side3 (fun s z => recFacts_of (Bool.and_eq_true_iff.mp z).2) (by rfl) said Hd.side4 Hd.bares ?hw ?hc
  case hw => w_witness2
  case hc =>
    refine L2.walk_ofK (l := PySem.Challenge.rw_leanscript_k02_refused_words) (n := 63) (k := 17) (x := "script") (K := Hd.K) (CX := L2.CX0) (sp := My.spLaw) rfl (by decide) (by kernel_rfl) ⟨rfl, by decide, by decide⟩ (fun w h Y => PySem.W.kIn_of Y) ?F (fun K H a ns _ _ hS => ⟨a, ns, rfl, hS, fun _ => rfl⟩) (fun _ _ _ _ z => z)
    intro w mg fa h KX G hmg0
    have hmg : mg ("law" : PySem.Str) = some (.ref fa) := by
      have e : (HandSHeadRun.topDef Hd.prg 281).name = ("law" : PySem.Str) := by kernel_rfl
      rw [← e]
      exact hmg0
    refine' My.all_mk (c0 := 52) (c1 := 73) (c2 := 85) (c3 := 105) (c4 := 117) (c5 := 129) (c6 := 141) (c7 := 153) (c8 := 165) (c9 := 177) (cL := 31) (fT := 49) (dT := 42) (cS := 425) (fS := 345) (cSt := 1588) (fSt := 1585) (cTr := 1710) (fTr := 1630) (aKp := 180) (aLo := 181) (aSh := 182) (afM := 1828) (afC := 1835) (afK := 1842) (afO := 1847) (afPl := 189) (afPf := 196) (afPx := 203) (afPn := 208) (afPp := 213) (afPu := 220) (afPr := 234) (afPs := 241) (afPg := 248) (afPw := 255) (afRp := 640) (afRn := 817) (afRr := 824) (afRs := 831) (afAl := 1253) (afMl := 1260) (afSh_ := 1803) (afLa := 1854) (afLg := 1861) (afW := 1866) (afLe := 1812) (akdLe := 1805) (akELe := 1804) (afLd := 1821) (akdLd := 1814) (akELd := 1813) (t12 := 448) (t18 := 450) (t2 := 2069) (t26 := 2071) KX G hmg ?my_g0 ?my_g1 ?my_g2 ?my_g3 ?my_g4 ?my_g5 ?my_g6 ?my_g7 ?my_g8 ?my_g9 ?my_gL ?my_zI ?my_zZ ?my_zK ?my_zA ?my_zV ?my_zl ?my_zr ?my_zs ?my_za ?my_zi ?my_zt ?my_ze ?my_sn ?my_st ?my_hc0 ?my_hg0 ?my_hk0 ?my_hs0 ?my_hd0 ?my_ha0 ?my_hm0 ?my_ht0 ?my_sK0 ?my_sA0 ?my_sV0 ?my_sL0 ?my_s0_1 ?my_s0_2 ?my_s0_3 ?my_s0_4 ?my_s0_5 ?my_s0_6 ?my_s0_7 ?my_s0_8 ?my_s0_9 ?my_hc1 ?my_hg1 ?my_hk1 ?my_hs1 ?my_hd1 ?my_ha1 ?my_hm1 ?my_ht1 ?my_sK1 ?my_sA1 ?my_sV1 ?my_sL1 ?my_s1_0 ?my_s1_2 ?my_s1_3 ?my_s1_4 ?my_s1_5 ?my_s1_6 ?my_s1_7 ?my_s1_8 ?my_s1_9 ?my_hc2 ?my_hg2 ?my_hk2 ?my_hs2 ?my_hd2 ?my_ha2 ?my_hm2 ?my_ht2 ?my_sK2 ?my_sA2 ?my_sV2 ?my_sL2 ?my_s2_0 ?my_s2_1 ?my_s2_3 ?my_s2_4 ?my_s2_5 ?my_s2_6 ?my_s2_7 ?my_s2_8 ?my_s2_9 ?my_hc3 ?my_hg3 ?my_hk3 ?my_hs3 ?my_hd3 ?my_ha3 ?my_hm3 ?my_ht3 ?my_sK3 ?my_sA3 ?my_sV3 ?my_sL3 ?my_s3_0 ?my_s3_1 ?my_s3_2 ?my_s3_4 ?my_s3_5 ?my_s3_6 ?my_s3_7 ?my_s3_8 ?my_s3_9 ?my_hc4 ?my_hg4 ?my_hk4 ?my_hs4 ?my_hd4 ?my_ha4 ?my_hm4 ?my_ht4 ?my_sK4 ?my_sA4 ?my_sV4 ?my_sL4 ?my_s4_0 ?my_s4_1 ?my_s4_2 ?my_s4_3 ?my_s4_5 ?my_s4_6 ?my_s4_7 ?my_s4_8 ?my_s4_9 ?my_hc5 ?my_hg5 ?my_hk5 ?my_hs5 ?my_hd5 ?my_ha5 ?my_hm5 ?my_ht5 ?my_sK5 ?my_sA5 ?my_sV5 ?my_sL5 ?my_s5_0 ?my_s5_1 ?my_s5_2 ?my_s5_3 ?my_s5_4 ?my_s5_6 ?my_s5_7 ?my_s5_8 ?my_s5_9 ?my_hc6 ?my_hg6 ?my_hk6 ?my_hs6 ?my_hd6 ?my_ha6 ?my_hm6 ?my_ht6 ?my_sK6 ?my_sA6 ?my_sV6 ?my_sL6 ?my_s6_0 ?my_s6_1 ?my_s6_2 ?my_s6_3 ?my_s6_4 ?my_s6_5 ?my_s6_7 ?my_s6_8 ?my_s6_9 ?my_hc7 ?my_hg7 ?my_hk7 ?my_hs7 ?my_hd7 ?my_ha7 ?my_hm7 ?my_ht7 ?my_sK7 ?my_sA7 ?my_sV7 ?my_sL7 ?my_s7_0 ?my_s7_1 ?my_s7_2 ?my_s7_3 ?my_s7_4 ?my_s7_5 ?my_s7_6 ?my_s7_8 ?my_s7_9 ?my_hc8 ?my_hg8 ?my_hk8 ?my_hs8 ?my_hd8 ?my_ha8 ?my_hm8 ?my_ht8 ?my_sK8 ?my_sA8 ?my_sV8 ?my_sL8 ?my_s8_0 ?my_s8_1 ?my_s8_2 ?my_s8_3 ?my_s8_4 ?my_s8_5 ?my_s8_6 ?my_s8_7 ?my_s8_9 ?my_hc9 ?my_hg9 ?my_hk9 ?my_hs9 ?my_hd9 ?my_ha9 ?my_hm9 ?my_ht9 ?my_sK9 ?my_sA9 ?my_sV9 ?my_sL9 ?my_s9_0 ?my_s9_1 ?my_s9_2 ?my_s9_3 ?my_s9_4 ?my_s9_5 ?my_s9_6 ?my_s9_7 ?my_s9_8 ?my_cL1 ?my_cL2 ?my_xT ?my_saT ?my_kcT ?my_icT ?my_tiT ?my_lfT ?my_cfT ?my_kfT ?my_ldT ?my_nTat ?my_bL ?my_q12 ?my_q18 ?my_q2 ?my_q26 ?my_qKp ?my_lKp ?my_qLo ?my_lLo ?my_qSh ?my_lSh ?my_gS ?my_S1 ?my_S2 ?my_S3 ?my_S4 ?my_S5 ?my_S6 ?my_S7 ?my_S8 ?my_S9 ?my_lS ?my_cSf ?my_kSf ?my_gSt ?my_St1 ?my_St2 ?my_St3 ?my_St4 ?my_St5 ?my_St6 ?my_St7 ?my_St8 ?my_St9 ?my_lSt ?my_cStf ?my_kStf ?my_gTr ?my_Tr1 ?my_Tr2 ?my_Tr3 ?my_Tr4 ?my_Tr5 ?my_Tr6 ?my_Tr7 ?my_Tr8 ?my_Tr9 ?my_lTr ?my_cTrf ?my_kTrf ?my_aLe ?my_alLe ?my_acLe ?my_akLe ?my_adLe ?my_aLd ?my_alLd ?my_acLd ?my_akLd ?my_adLd ?my_aM ?my_alM ?my_acM ?my_akM ?my_aC ?my_alC ?my_acC ?my_akC ?my_aK ?my_alK ?my_acK ?my_akK ?my_aO ?my_alO ?my_acO ?my_akO ?my_aPl ?my_alPl ?my_acPl ?my_akPl ?my_aPf ?my_alPf ?my_acPf ?my_akPf ?my_aPx ?my_alPx ?my_acPx ?my_akPx ?my_aPn ?my_alPn ?my_acPn ?my_akPn ?my_aPp ?my_alPp ?my_acPp ?my_akPp ?my_aPu ?my_alPu ?my_acPu ?my_akPu ?my_aPr ?my_alPr ?my_acPr ?my_akPr ?my_aPs ?my_alPs ?my_acPs ?my_akPs ?my_aPg ?my_alPg ?my_acPg ?my_akPg ?my_aPw ?my_alPw ?my_acPw ?my_akPw ?my_aRp ?my_alRp ?my_acRp ?my_akRp ?my_aRn ?my_alRn ?my_acRn ?my_akRn ?my_aRr ?my_alRr ?my_acRr ?my_akRr ?my_aRs ?my_alRs ?my_acRs ?my_akRs ?my_aAl ?my_alAl ?my_acAl ?my_akAl ?my_aMl ?my_alMl ?my_acMl ?my_akMl ?my_aSh_ ?my_alSh_ ?my_acSh_ ?my_akSh_ ?my_aLa ?my_alLa ?my_acLa ?my_akLa ?my_aLg ?my_alLg ?my_acLg ?my_akLg ?my_aW ?my_alW ?my_acW ?my_akW ?my_sf0 ?my_sf1 ?my_sf2 ?my_sf3 ?my_sf4 ?my_sf5 ?my_sf6 ?my_sf7 ?my_sf8 ?my_sf9
    (case my_xT => exact Hd.kl_52 w.params)
    (case my_lfT => exact Hd.kl_49 w.params)
    (case my_ldT => exact Hd.kl_42 w.params)
    (case my_lKp => exact Hd.kl_180 w.params)
    (case my_lLo => exact Hd.kl_181 w.params)
    (case my_lSh => exact Hd.kl_182 w.params)
    (case my_lS => exact Hd.kl_345 w.params)
    (case my_lSt => exact Hd.kl_1585 w.params)
    (case my_lTr => exact Hd.kl_1630 w.params)
    (case my_alLe => exact Hd.kl_1812 w.params)
    (case my_alLd => exact Hd.kl_1821 w.params)
    (case my_alM => exact Hd.kl_1828 w.params)
    (case my_alC => exact Hd.kl_1835 w.params)
    (case my_alK => exact Hd.kl_1842 w.params)
    (case my_alO => exact Hd.kl_1847 w.params)
    (case my_alPl => exact Hd.kl_189 w.params)
    (case my_alPf => exact Hd.kl_196 w.params)
    (case my_alPx => exact Hd.kl_203 w.params)
    (case my_alPn => exact Hd.kl_208 w.params)
    (case my_alPp => exact Hd.kl_213 w.params)
    (case my_alPu => exact Hd.kl_220 w.params)
    (case my_alPr => exact Hd.kl_234 w.params)
    (case my_alPs => exact Hd.kl_241 w.params)
    (case my_alPg => exact Hd.kl_248 w.params)
    (case my_alPw => exact Hd.kl_255 w.params)
    (case my_alRp => exact Hd.kl_640 w.params)
    (case my_alRn => exact Hd.kl_817 w.params)
    (case my_alRr => exact Hd.kl_824 w.params)
    (case my_alRs => exact Hd.kl_831 w.params)
    (case my_alAl => exact Hd.kl_1253 w.params)
    (case my_alMl => exact Hd.kl_1260 w.params)
    (case my_alSh_ => exact Hd.kl_1803 w.params)
    (case my_alLa => exact Hd.kl_1854 w.params)
    (case my_alLg => exact Hd.kl_1861 w.params)
    (case my_alW => exact Hd.kl_1866 w.params)
    (case my_g0 => exact Hd.f_g0 w.params)
    (case my_g1 => exact Hd.f_g1 w.params)
    (case my_g2 => exact Hd.f_g2 w.params)
    (case my_g3 => exact Hd.f_g3 w.params)
    (case my_g4 => exact Hd.f_g4 w.params)
    (case my_g5 => exact Hd.f_g5 w.params)
    (case my_g6 => exact Hd.f_g6 w.params)
    (case my_g7 => exact Hd.f_g7 w.params)
    (case my_g8 => exact Hd.f_g8 w.params)
    (case my_g9 => exact Hd.f_g9 w.params)
    (case my_gL => exact Hd.f_gL w.params)
    (case my_zI => exact Hd.f_zI w.params)
    (case my_zZ => exact Hd.f_zZ w.params)
    (case my_zK => exact Hd.f_zK w.params)
    (case my_zA => exact Hd.f_zA w.params)
    (case my_zV => exact Hd.f_zV w.params)
    (case my_zl => exact Hd.f_zl w.params)
    (case my_zr => exact Hd.f_zr w.params)
    (case my_zs => exact Hd.f_zs w.params)
    (case my_za => exact Hd.f_za w.params)
    (case my_zi => exact Hd.f_zi w.params)
    (case my_zt => exact Hd.f_zt w.params)
    (case my_ze => exact Hd.f_ze w.params)
    (case my_sn => exact Hd.f_sn w.params)
    (case my_st => exact Hd.f_st w.params)
    (case my_hc0 => exact Hd.f_hc0 w.params)
    (case my_hg0 => exact Hd.f_hg0 w.params)
    (case my_hk0 => exact Hd.f_hk0 w.params)
    (case my_hs0 => exact Hd.f_hs0 w.params)
    (case my_hd0 => exact Hd.f_hd0 w.params)
    (case my_ha0 => exact Hd.f_ha0 w.params)
    (case my_hm0 => exact Hd.f_hm0 w.params)
    (case my_ht0 => exact Hd.f_ht0 w.params)
    (case my_sK0 => exact Hd.f_sK0 w.params)
    (case my_sA0 => exact Hd.f_sA0 w.params)
    (case my_sV0 => exact Hd.f_sV0 w.params)
    (case my_sL0 => exact Hd.f_sL0 w.params)
    (case my_s0_1 => exact Hd.f_s0_1 w.params)
    (case my_s0_2 => exact Hd.f_s0_2 w.params)
    (case my_s0_3 => exact Hd.f_s0_3 w.params)
    (case my_s0_4 => exact Hd.f_s0_4 w.params)
    (case my_s0_5 => exact Hd.f_s0_5 w.params)
    (case my_s0_6 => exact Hd.f_s0_6 w.params)
    (case my_s0_7 => exact Hd.f_s0_7 w.params)
    (case my_s0_8 => exact Hd.f_s0_8 w.params)
    (case my_s0_9 => exact Hd.f_s0_9 w.params)
    (case my_hc1 => exact Hd.f_hc1 w.params)
    (case my_hg1 => exact Hd.f_hg1 w.params)
    (case my_hk1 => exact Hd.f_hk1 w.params)
    (case my_hs1 => exact Hd.f_hs1 w.params)
    (case my_hd1 => exact Hd.f_hd1 w.params)
    (case my_ha1 => exact Hd.f_ha1 w.params)
    (case my_hm1 => exact Hd.f_hm1 w.params)
    (case my_ht1 => exact Hd.f_ht1 w.params)
    (case my_sK1 => exact Hd.f_sK1 w.params)
    (case my_sA1 => exact Hd.f_sA1 w.params)
    (case my_sV1 => exact Hd.f_sV1 w.params)
    (case my_sL1 => exact Hd.f_sL1 w.params)
    (case my_s1_0 => exact Hd.f_s1_0 w.params)
    (case my_s1_2 => exact Hd.f_s1_2 w.params)
    (case my_s1_3 => exact Hd.f_s1_3 w.params)
    (case my_s1_4 => exact Hd.f_s1_4 w.params)
    (case my_s1_5 => exact Hd.f_s1_5 w.params)
    (case my_s1_6 => exact Hd.f_s1_6 w.params)
    (case my_s1_7 => exact Hd.f_s1_7 w.params)
    (case my_s1_8 => exact Hd.f_s1_8 w.params)
    (case my_s1_9 => exact Hd.f_s1_9 w.params)
    (case my_hc2 => exact Hd.f_hc2 w.params)
    (case my_hg2 => exact Hd.f_hg2 w.params)
    (case my_hk2 => exact Hd.f_hk2 w.params)
    (case my_hs2 => exact Hd.f_hs2 w.params)
    (case my_hd2 => exact Hd.f_hd2 w.params)
    (case my_ha2 => exact Hd.f_ha2 w.params)
    (case my_hm2 => exact Hd.f_hm2 w.params)
    (case my_ht2 => exact Hd.f_ht2 w.params)
    (case my_sK2 => exact Hd.f_sK2 w.params)
    (case my_sA2 => exact Hd.f_sA2 w.params)
    (case my_sV2 => exact Hd.f_sV2 w.params)
    (case my_sL2 => exact Hd.f_sL2 w.params)
    (case my_s2_0 => exact Hd.f_s2_0 w.params)
    (case my_s2_1 => exact Hd.f_s2_1 w.params)
    (case my_s2_3 => exact Hd.f_s2_3 w.params)
    (case my_s2_4 => exact Hd.f_s2_4 w.params)
    (case my_s2_5 => exact Hd.f_s2_5 w.params)
    (case my_s2_6 => exact Hd.f_s2_6 w.params)
    (case my_s2_7 => exact Hd.f_s2_7 w.params)
    (case my_s2_8 => exact Hd.f_s2_8 w.params)
    (case my_s2_9 => exact Hd.f_s2_9 w.params)
    (case my_hc3 => exact Hd.f_hc3 w.params)
    (case my_hg3 => exact Hd.f_hg3 w.params)
    (case my_hk3 => exact Hd.f_hk3 w.params)
    (case my_hs3 => exact Hd.f_hs3 w.params)
    (case my_hd3 => exact Hd.f_hd3 w.params)
    (case my_ha3 => exact Hd.f_ha3 w.params)
    (case my_hm3 => exact Hd.f_hm3 w.params)
    (case my_ht3 => exact Hd.f_ht3 w.params)
    (case my_sK3 => exact Hd.f_sK3 w.params)
    (case my_sA3 => exact Hd.f_sA3 w.params)
    (case my_sV3 => exact Hd.f_sV3 w.params)
    (case my_sL3 => exact Hd.f_sL3 w.params)
    (case my_s3_0 => exact Hd.f_s3_0 w.params)
    (case my_s3_1 => exact Hd.f_s3_1 w.params)
    (case my_s3_2 => exact Hd.f_s3_2 w.params)
    (case my_s3_4 => exact Hd.f_s3_4 w.params)
    (case my_s3_5 => exact Hd.f_s3_5 w.params)
    (case my_s3_6 => exact Hd.f_s3_6 w.params)
    (case my_s3_7 => exact Hd.f_s3_7 w.params)
    (case my_s3_8 => exact Hd.f_s3_8 w.params)
    (case my_s3_9 => exact Hd.f_s3_9 w.params)
    (case my_hc4 => exact Hd.f_hc4 w.params)
    (case my_hg4 => exact Hd.f_hg4 w.params)
    (case my_hk4 => exact Hd.f_hk4 w.params)
    (case my_hs4 => exact Hd.f_hs4 w.params)
    (case my_hd4 => exact Hd.f_hd4 w.params)
    (case my_ha4 => exact Hd.f_ha4 w.params)
    (case my_hm4 => exact Hd.f_hm4 w.params)
    (case my_ht4 => exact Hd.f_ht4 w.params)
    (case my_sK4 => exact Hd.f_sK4 w.params)
    (case my_sA4 => exact Hd.f_sA4 w.params)
    (case my_sV4 => exact Hd.f_sV4 w.params)
    (case my_sL4 => exact Hd.f_sL4 w.params)
    (case my_s4_0 => exact Hd.f_s4_0 w.params)
    (case my_s4_1 => exact Hd.f_s4_1 w.params)
    (case my_s4_2 => exact Hd.f_s4_2 w.params)
    (case my_s4_3 => exact Hd.f_s4_3 w.params)
    (case my_s4_5 => exact Hd.f_s4_5 w.params)
    (case my_s4_6 => exact Hd.f_s4_6 w.params)
    (case my_s4_7 => exact Hd.f_s4_7 w.params)
    (case my_s4_8 => exact Hd.f_s4_8 w.params)
    (case my_s4_9 => exact Hd.f_s4_9 w.params)
    (case my_hc5 => exact Hd.f_hc5 w.params)
    (case my_hg5 => exact Hd.f_hg5 w.params)
    (case my_hk5 => exact Hd.f_hk5 w.params)
    (case my_hs5 => exact Hd.f_hs5 w.params)
    (case my_hd5 => exact Hd.f_hd5 w.params)
    (case my_ha5 => exact Hd.f_ha5 w.params)
    (case my_hm5 => exact Hd.f_hm5 w.params)
    (case my_ht5 => exact Hd.f_ht5 w.params)
    (case my_sK5 => exact Hd.f_sK5 w.params)
    (case my_sA5 => exact Hd.f_sA5 w.params)
    (case my_sV5 => exact Hd.f_sV5 w.params)
    (case my_sL5 => exact Hd.f_sL5 w.params)
    (case my_s5_0 => exact Hd.f_s5_0 w.params)
    (case my_s5_1 => exact Hd.f_s5_1 w.params)
    (case my_s5_2 => exact Hd.f_s5_2 w.params)
    (case my_s5_3 => exact Hd.f_s5_3 w.params)
    (case my_s5_4 => exact Hd.f_s5_4 w.params)
    (case my_s5_6 => exact Hd.f_s5_6 w.params)
    (case my_s5_7 => exact Hd.f_s5_7 w.params)
    (case my_s5_8 => exact Hd.f_s5_8 w.params)
    (case my_s5_9 => exact Hd.f_s5_9 w.params)
    (case my_hc6 => exact Hd.f_hc6 w.params)
    (case my_hg6 => exact Hd.f_hg6 w.params)
    (case my_hk6 => exact Hd.f_hk6 w.params)
    (case my_hs6 => exact Hd.f_hs6 w.params)
    (case my_hd6 => exact Hd.f_hd6 w.params)
    (case my_ha6 => exact Hd.f_ha6 w.params)
    (case my_hm6 => exact Hd.f_hm6 w.params)
    (case my_ht6 => exact Hd.f_ht6 w.params)
    (case my_sK6 => exact Hd.f_sK6 w.params)
    (case my_sA6 => exact Hd.f_sA6 w.params)
    (case my_sV6 => exact Hd.f_sV6 w.params)
    (case my_sL6 => exact Hd.f_sL6 w.params)
    (case my_s6_0 => exact Hd.f_s6_0 w.params)
    (case my_s6_1 => exact Hd.f_s6_1 w.params)
    (case my_s6_2 => exact Hd.f_s6_2 w.params)
    (case my_s6_3 => exact Hd.f_s6_3 w.params)
    (case my_s6_4 => exact Hd.f_s6_4 w.params)
    (case my_s6_5 => exact Hd.f_s6_5 w.params)
    (case my_s6_7 => exact Hd.f_s6_7 w.params)
    (case my_s6_8 => exact Hd.f_s6_8 w.params)
    (case my_s6_9 => exact Hd.f_s6_9 w.params)
    (case my_hc7 => exact Hd.f_hc7 w.params)
    (case my_hg7 => exact Hd.f_hg7 w.params)
    (case my_hk7 => exact Hd.f_hk7 w.params)
    (case my_hs7 => exact Hd.f_hs7 w.params)
    (case my_hd7 => exact Hd.f_hd7 w.params)
    (case my_ha7 => exact Hd.f_ha7 w.params)
    (case my_hm7 => exact Hd.f_hm7 w.params)
    (case my_ht7 => exact Hd.f_ht7 w.params)
    (case my_sK7 => exact Hd.f_sK7 w.params)
    (case my_sA7 => exact Hd.f_sA7 w.params)
    (case my_sV7 => exact Hd.f_sV7 w.params)
    (case my_sL7 => exact Hd.f_sL7 w.params)
    (case my_s7_0 => exact Hd.f_s7_0 w.params)
    (case my_s7_1 => exact Hd.f_s7_1 w.params)
    (case my_s7_2 => exact Hd.f_s7_2 w.params)
    (case my_s7_3 => exact Hd.f_s7_3 w.params)
    (case my_s7_4 => exact Hd.f_s7_4 w.params)
    (case my_s7_5 => exact Hd.f_s7_5 w.params)
    (case my_s7_6 => exact Hd.f_s7_6 w.params)
    (case my_s7_8 => exact Hd.f_s7_8 w.params)
    (case my_s7_9 => exact Hd.f_s7_9 w.params)
    (case my_hc8 => exact Hd.f_hc8 w.params)
    (case my_hg8 => exact Hd.f_hg8 w.params)
    (case my_hk8 => exact Hd.f_hk8 w.params)
    (case my_hs8 => exact Hd.f_hs8 w.params)
    (case my_hd8 => exact Hd.f_hd8 w.params)
    (case my_ha8 => exact Hd.f_ha8 w.params)
    (case my_hm8 => exact Hd.f_hm8 w.params)
    (case my_ht8 => exact Hd.f_ht8 w.params)
    (case my_sK8 => exact Hd.f_sK8 w.params)
    (case my_sA8 => exact Hd.f_sA8 w.params)
    (case my_sV8 => exact Hd.f_sV8 w.params)
    (case my_sL8 => exact Hd.f_sL8 w.params)
    (case my_s8_0 => exact Hd.f_s8_0 w.params)
    (case my_s8_1 => exact Hd.f_s8_1 w.params)
    (case my_s8_2 => exact Hd.f_s8_2 w.params)
    (case my_s8_3 => exact Hd.f_s8_3 w.params)
    (case my_s8_4 => exact Hd.f_s8_4 w.params)
    (case my_s8_5 => exact Hd.f_s8_5 w.params)
    (case my_s8_6 => exact Hd.f_s8_6 w.params)
    (case my_s8_7 => exact Hd.f_s8_7 w.params)
    (case my_s8_9 => exact Hd.f_s8_9 w.params)
    (case my_hc9 => exact Hd.f_hc9 w.params)
    (case my_hg9 => exact Hd.f_hg9 w.params)
    (case my_hk9 => exact Hd.f_hk9 w.params)
    (case my_hs9 => exact Hd.f_hs9 w.params)
    (case my_hd9 => exact Hd.f_hd9 w.params)
    (case my_ha9 => exact Hd.f_ha9 w.params)
    (case my_hm9 => exact Hd.f_hm9 w.params)
    (case my_ht9 => exact Hd.f_ht9 w.params)
    (case my_sK9 => exact Hd.f_sK9 w.params)
    (case my_sA9 => exact Hd.f_sA9 w.params)
    (case my_sV9 => exact Hd.f_sV9 w.params)
    (case my_sL9 => exact Hd.f_sL9 w.params)
    (case my_s9_0 => exact Hd.f_s9_0 w.params)
    (case my_s9_1 => exact Hd.f_s9_1 w.params)
    (case my_s9_2 => exact Hd.f_s9_2 w.params)
    (case my_s9_3 => exact Hd.f_s9_3 w.params)
    (case my_s9_4 => exact Hd.f_s9_4 w.params)
    (case my_s9_5 => exact Hd.f_s9_5 w.params)
    (case my_s9_6 => exact Hd.f_s9_6 w.params)
    (case my_s9_7 => exact Hd.f_s9_7 w.params)
    (case my_s9_8 => exact Hd.f_s9_8 w.params)
    (case my_cL1 => exact Hd.f_cL1 w.params)
    (case my_cL2 => exact Hd.f_cL2 w.params)
    (case my_saT => exact Hd.f_saT w.params)
    (case my_kcT => exact Hd.f_kcT w.params)
    (case my_icT => exact Hd.f_icT w.params)
    (case my_tiT => exact Hd.f_tiT w.params)
    (case my_cfT => exact Hd.f_cfT w.params)
    (case my_kfT => exact Hd.f_kfT w.params)
    (case my_nTat => exact Hd.f_nTat w.params)
    (case my_bL => exact Hd.f_bL w.params)
    (case my_q12 => exact Hd.f_q12 w.params)
    (case my_q18 => exact Hd.f_q18 w.params)
    (case my_q2 => exact Hd.f_q2 w.params)
    (case my_q26 => exact Hd.f_q26 w.params)
    (case my_qKp => exact Hd.f_qKp w.params)
    (case my_qLo => exact Hd.f_qLo w.params)
    (case my_qSh => exact Hd.f_qSh w.params)
    (case my_gS => exact Hd.f_gS w.params)
    (case my_S1 => exact Hd.f_S1 w.params)
    (case my_S2 => exact Hd.f_S2 w.params)
    (case my_S3 => exact Hd.f_S3 w.params)
    (case my_S4 => exact Hd.f_S4 w.params)
    (case my_S5 => exact Hd.f_S5 w.params)
    (case my_S6 => exact Hd.f_S6 w.params)
    (case my_S7 => exact Hd.f_S7 w.params)
    (case my_S8 => exact Hd.f_S8 w.params)
    (case my_S9 => exact Hd.f_S9 w.params)
    (case my_cSf => exact Hd.f_cSf w.params)
    (case my_kSf => exact Hd.f_kSf w.params)
    (case my_gSt => exact Hd.f_gSt w.params)
    (case my_St1 => exact Hd.f_St1 w.params)
    (case my_St2 => exact Hd.f_St2 w.params)
    (case my_St3 => exact Hd.f_St3 w.params)
    (case my_St4 => exact Hd.f_St4 w.params)
    (case my_St5 => exact Hd.f_St5 w.params)
    (case my_St6 => exact Hd.f_St6 w.params)
    (case my_St7 => exact Hd.f_St7 w.params)
    (case my_St8 => exact Hd.f_St8 w.params)
    (case my_St9 => exact Hd.f_St9 w.params)
    (case my_cStf => exact Hd.f_cStf w.params)
    (case my_kStf => exact Hd.f_kStf w.params)
    (case my_gTr => exact Hd.f_gTr w.params)
    (case my_Tr1 => exact Hd.f_Tr1 w.params)
    (case my_Tr2 => exact Hd.f_Tr2 w.params)
    (case my_Tr3 => exact Hd.f_Tr3 w.params)
    (case my_Tr4 => exact Hd.f_Tr4 w.params)
    (case my_Tr5 => exact Hd.f_Tr5 w.params)
    (case my_Tr6 => exact Hd.f_Tr6 w.params)
    (case my_Tr7 => exact Hd.f_Tr7 w.params)
    (case my_Tr8 => exact Hd.f_Tr8 w.params)
    (case my_Tr9 => exact Hd.f_Tr9 w.params)
    (case my_cTrf => exact Hd.f_cTrf w.params)
    (case my_kTrf => exact Hd.f_kTrf w.params)
    (case my_aLe => exact Hd.f_aLe w.params)
    (case my_acLe => exact Hd.f_acLe w.params)
    (case my_akLe => exact Hd.f_akLe w.params)
    (case my_adLe => exact Hd.f_adLe w.params)
    (case my_aLd => exact Hd.f_aLd w.params)
    (case my_acLd => exact Hd.f_acLd w.params)
    (case my_akLd => exact Hd.f_akLd w.params)
    (case my_adLd => exact Hd.f_adLd w.params)
    (case my_aM => exact Hd.f_aM w.params)
    (case my_acM => exact Hd.f_acM w.params)
    (case my_akM => exact Hd.f_akM w.params)
    (case my_aC => exact Hd.f_aC w.params)
    (case my_acC => exact Hd.f_acC w.params)
    (case my_akC => exact Hd.f_akC w.params)
    (case my_aK => exact Hd.f_aK w.params)
    (case my_acK => exact Hd.f_acK w.params)
    (case my_akK => exact Hd.f_akK w.params)
    (case my_aO => exact Hd.f_aO w.params)
    (case my_acO => exact Hd.f_acO w.params)
    (case my_akO => exact Hd.f_akO w.params)
    (case my_aPl => exact Hd.f_aPl w.params)
    (case my_acPl => exact Hd.f_acPl w.params)
    (case my_akPl => exact Hd.f_akPl w.params)
    (case my_aPf => exact Hd.f_aPf w.params)
    (case my_acPf => exact Hd.f_acPf w.params)
    (case my_akPf => exact Hd.f_akPf w.params)
    (case my_aPx => exact Hd.f_aPx w.params)
    (case my_acPx => exact Hd.f_acPx w.params)
    (case my_akPx => exact Hd.f_akPx w.params)
    (case my_aPn => exact Hd.f_aPn w.params)
    (case my_acPn => exact Hd.f_acPn w.params)
    (case my_akPn => exact Hd.f_akPn w.params)
    (case my_aPp => exact Hd.f_aPp w.params)
    (case my_acPp => exact Hd.f_acPp w.params)
    (case my_akPp => exact Hd.f_akPp w.params)
    (case my_aPu => exact Hd.f_aPu w.params)
    (case my_acPu => exact Hd.f_acPu w.params)
    (case my_akPu => exact Hd.f_akPu w.params)
    (case my_aPr => exact Hd.f_aPr w.params)
    (case my_acPr => exact Hd.f_acPr w.params)
    (case my_akPr => exact Hd.f_akPr w.params)
    (case my_aPs => exact Hd.f_aPs w.params)
    (case my_acPs => exact Hd.f_acPs w.params)
    (case my_akPs => exact Hd.f_akPs w.params)
    (case my_aPg => exact Hd.f_aPg w.params)
    (case my_acPg => exact Hd.f_acPg w.params)
    (case my_akPg => exact Hd.f_akPg w.params)
    (case my_aPw => exact Hd.f_aPw w.params)
    (case my_acPw => exact Hd.f_acPw w.params)
    (case my_akPw => exact Hd.f_akPw w.params)
    (case my_aRp => exact Hd.f_aRp w.params)
    (case my_acRp => exact Hd.f_acRp w.params)
    (case my_akRp => exact Hd.f_akRp w.params)
    (case my_aRn => exact Hd.f_aRn w.params)
    (case my_acRn => exact Hd.f_acRn w.params)
    (case my_akRn => exact Hd.f_akRn w.params)
    (case my_aRr => exact Hd.f_aRr w.params)
    (case my_acRr => exact Hd.f_acRr w.params)
    (case my_akRr => exact Hd.f_akRr w.params)
    (case my_aRs => exact Hd.f_aRs w.params)
    (case my_acRs => exact Hd.f_acRs w.params)
    (case my_akRs => exact Hd.f_akRs w.params)
    (case my_aAl => exact Hd.f_aAl w.params)
    (case my_acAl => exact Hd.f_acAl w.params)
    (case my_akAl => exact Hd.f_akAl w.params)
    (case my_aMl => exact Hd.f_aMl w.params)
    (case my_acMl => exact Hd.f_acMl w.params)
    (case my_akMl => exact Hd.f_akMl w.params)
    (case my_aSh_ => exact Hd.f_aSh_ w.params)
    (case my_acSh_ => exact Hd.f_acSh_ w.params)
    (case my_akSh_ => exact Hd.f_akSh_ w.params)
    (case my_aLa => exact Hd.f_aLa w.params)
    (case my_acLa => exact Hd.f_acLa w.params)
    (case my_akLa => exact Hd.f_akLa w.params)
    (case my_aLg => exact Hd.f_aLg w.params)
    (case my_acLg => exact Hd.f_acLg w.params)
    (case my_akLg => exact Hd.f_akLg w.params)
    (case my_aW => exact Hd.f_aW w.params)
    (case my_acW => exact Hd.f_acW w.params)
    (case my_akW => exact Hd.f_akW w.params)
    (case my_sf0 => exact Hd.f_sf0 w.params)
    (case my_sf1 => exact Hd.f_sf1 w.params)
    (case my_sf2 => exact Hd.f_sf2 w.params)
    (case my_sf3 => exact Hd.f_sf3 w.params)
    (case my_sf4 => exact Hd.f_sf4 w.params)
    (case my_sf5 => exact Hd.f_sf5 w.params)
    (case my_sf6 => exact Hd.f_sf6 w.params)
    (case my_sf7 => exact Hd.f_sf7 w.params)
    (case my_sf8 => exact Hd.f_sf8 w.params)
    (case my_sf9 => exact Hd.f_sf9 w.params)
