import PyProof.Rows.All
import Wide.All
import OpenK.AllK
import Wide.FinOn
import PyProof.EqAt
import PyProof.EqKinds
import PyProof.TupleCall
import KE.KExcIs
import HandS.ForMost
import HandS.Exc
import HandS.ExcOwn
import HandS.WordsExc
import HandS.ExcInit
import HandS.ExcValue
import HandS.Defaults
import HandS.IsInst
import HandS.Wide
import HandS.Walk
import HandS.Style
import HandS.Codes
import HandS.Text
import HandS.Steps
import KE.GoesMore
import KE.GoesEnum
import PyProof.EnumMake
import PyProof.ListStr
import HandS.Zip
import KE.GoesZip
import KE.SortData
import HandS.SortRule
import KE.DataMinMax
import PyProof.Claim2Refuses
import PyProof.StrBlock2
import HandS.MakeKw
import HandS.WideBits
import HandS.Replace
import HandS.NoneIn
import PySem.Challenge.RW_leanscript_k71_texts_of_maps
set_option Elab.async false
set_option linter.all false
set_option maxRecDepth 100000
set_option maxHeartbeats 8000000
namespace XR
open PySem PySem.Spec PyProof.Rows L2

/-- an exception's object, by its class and its dict -/
def ExAt (H : Hp) (a C : Addr) (d : Option Addr) : Prop := ∃ phi : Heap → Prop, H a = some (.ext phi) ∧
  ∀ h, phi h → ∃ (oe : Obj) (vs : Array Value), h.get? a = some oe ∧ oe.cls = .ref C ∧ oe.dict = d ∧ oe.data = .fields vs
/-- its own dict -/
def DcAt (H : Hp) (dd : Addr) (fs : List (Str × V)) : Prop := H dd = some (.xd fs) ∨ H dd = some (exd dd fs)
def ExIn (H : Hp) (a C : Addr) : Prop := ExAt H a C none ∨ ∃ dd fs, ExAt H a C (some dd) ∧ DcAt H dd fs
theorem exAt_exo {H : Hp} {a C : Addr} {d : Option Addr} (h : H a = some (exo a C d)) : ExAt H a C d := ⟨_, h, fun _ ⟨_, e⟩ => ⟨_, _, e, rfl, rfl, rfl⟩⟩
theorem exAt_ExO {H : Hp} {a C : Addr} (h : H a = some (ExO (.ref C) a)) : ExAt H a C none := ⟨_, h, fun _ ⟨_, _, e, z, d, _⟩ => ⟨_, _, e, z.1, z.2, d⟩⟩
theorem ExAt.same {H H' : Hp} {a C : Addr} {d : Option Addr} (h : ExAt H a C d) (k : Same H H') : ExAt H' a C d := let ⟨p, e, q⟩ := h; ⟨p, k _ _ e, q⟩
theorem DcAt.same {H H' : Hp} {dd : Addr} {fs : List (Str × V)} (h : DcAt H dd fs) (k : Same H H') : DcAt H' dd fs := h.elim (fun e => .inl (k _ _ e)) fun e => .inr (k _ _ e)
theorem ExIn.same {H H' : Hp} {a C : Addr} (h : ExIn H a C) (k : Same H H') : ExIn H' a C := h.elim (fun e => .inl (e.same k)) fun ⟨dd, fs, e, f⟩ => .inr ⟨dd, fs, e.same k, f.same k⟩

section
variable {X : Cx} {pins : List (Addr × Obj)} {σ : L2.St} {H : Hp} {s : Shared}
theorem dc_ns {dd : Addr} {fs : List (Str × V)} (I : Inv X pins σ H s) (h : DcAt H dd fs) : ∃ mA, s.heap.Ns1 dd mA ∧ ∀ f, RelO (fs.lookup f) (mA f) := by
  rcases h with h | h
  · exact I.hok dd _ h
  · exact exd_at I.hok h
theorem ex_obj {a C : Addr} {d : Option Addr} (I : Inv X pins σ H s) (h : ExAt H a C d) : ∃ (oe : Obj) (vs : Array Value), s.heap.get? a = some oe ∧ oe.cls = .ref C ∧ oe.dict = d ∧ oe.data = .fields vs := by
  obtain ⟨p, e, q⟩ := h
  have x : ObjOk X.prog X.w H s.heap a (.ext p) := I.hok a _ e
  exact q _ x.1
theorem inst_of {a C : Addr} (I : Inv X pins σ H s) (h : ExIn H a C) : ∃ (oe : Obj) (od : Option Obj), PySem.W.InstAt s.heap a oe C od := by
  rcases h with h | ⟨dd, fs, h, k⟩
  · obtain ⟨oe, vs, e, c, d, t⟩ := ex_obj I h
    exact ⟨oe, none, ⟨e, c, by unfold PySem.W.notCls; rw [t] <;> rfl, by rw [d] <;> trivial⟩⟩
  · obtain ⟨oe, vs, e, c, d, t⟩ := ex_obj I h
    obtain ⟨mA, hns, hr⟩ := dc_ns I k
    obtain ⟨od, ho, hl⟩ := lookIn_ns hns
    exact ⟨oe, some od, ⟨e, c, by unfold PySem.W.notCls; rw [t] <;> rfl, by rw [d]; exact ho⟩⟩
/-- what the class must say, so that isinstance asks its instances rightly -/
structure ExcK (K : PySem.W.Frag) (C : Addr) : Prop where
  hc : (PySem.W.clsIn K C).isSome = true
  hg : PySem.W.findIn K (.ref C) "__getattribute__" = some (some (.builtin "BaseException.__getattribute__"))
  hk : PySem.W.findIn K (.ref C) "__getattr__" = some none
  hs : PySem.W.subIn K (.ref C) (.type "BaseException") = some true
  hd : PySem.W.hasDictIn K C = true
  ha : PySem.W.findIn K (.ref C) "__class__" = some (some (.builtin "object.__class__"))
  hn : PySem.W.specialIn K (.builtin "object.__class__") "__get__" = some (some (.builtin "getset_descriptor.__get__"))
  ht : PySem.W.takesIn K (.builtin "object.__class__") = some true
  hm : PySem.W.mroIn K C (.type "object") = some true
/-- isinstance(x, T), x an exception of the class at C -/
def rIsX (K : PySem.W.Frag) : List V → Hp → VK → Prop := fun xs H Q => ∃ (a C : Addr) (c : V) (u : Value) (b : Bool), xs = [.ref a, c] ∧ ClsV c u ∧ ExIn H a C ∧ ExcK K C ∧ PySem.W.kitOne K (.ref C) u = some b ∧ Q (.bl b) H
theorem call_isX : CallR X (.builtin "isinstance") (rIsX X.K) := by
  intro pins s σ H xs us Q I r h
  obtain ⟨a, C, c, u, b, rfl, k, ex, T, e, q⟩ := h
  obtain ⟨u1, u2, rfl, r1, r2⟩ := vals2 r
  have e2 := k.eq r2
  subst e2
  cases (show u1 = Value.ref a from r1)
  obtain ⟨oe, od, J⟩ := inst_of I ex
  exact PySem.W.kia_one (PySem.W.kitx_exc T.hc T.hg T.hk T.hs T.ha T.hn T.ht T.hm) I.kIn J e (fun z => nomatch z) fun tk => ⟨.bl b, H, I.tok tk, rfl, q⟩
/-- x.f, x an exception that has its dict -/
def tXfl (K : PySem.W.Frag) (f : Str) (te : TE) : TE := fun σ H Q => te σ H fun x H1 => ∃ (a C dd : Addr) (fs : List (Str × V)) (v : V), x = .ref a ∧ ExAt H1 a C (some dd) ∧ DcAt H1 dd fs ∧ ExcK K C ∧ PySem.W.findIn K (.ref C) f = some none ∧ fs.lookup f = some v ∧ Q v H1
theorem pe_xfl {e : Expr} {te : TE} {pos : Pos} {f : Str} (he : PE X e te) (hb : attributeBase e f X.env (eval e X.env) = eval e X.env := by rfl) : PE X (.Attribute e f pos) (tXfl X.K f te) := by
  refine ⟨fun pins s σ H Q I h => ?_⟩
  refine attr_of hb (thn (he.run pins s σ H _ I h) fun u s1 hh => ?_)
  obtain ⟨x, H1, I1, rx, a, C, dd, fs, v, ex, ea, ed, T, hno, l, q⟩ := hh
  subst ex
  obtain rfl : u = Value.ref a := rx
  obtain ⟨oe, vs, e1, c1, d1, t1⟩ := ex_obj I1 ea
  obtain ⟨mA, hns, hr⟩ := dc_ns I1 ed
  obtain ⟨od, ho, hl⟩ := lookIn_ns hns
  obtain ⟨u, hu, ru⟩ := RelO.some_of (v := v) (o := mA f) (by rw [← l]; exact hr f)
  have J : PySem.W.InstAt s1.heap a oe C (some od) := ⟨e1, c1, by unfold PySem.W.notCls; rw [t1] <;> rfl, by rw [d1]; exact ho⟩
  exact HandSPX.exc_get I1.kIn J T.hg T.hk T.hs (PySem.W.findObj_own T.hd hno rfl (by rw [hl, hu])) (handed_of ru) ⟨v, H1, I1.tok _, ru, q⟩
end

/-! ### C(e, ..) as a value, C's own __init__ keeping sp -/
def tMkX (C : Addr) (sp : Sp) (dvs : List V) (ta : TA) : TE := fun σ H Q => ta σ H fun vs H1 => vs.length ≤ 1000 ∧ ∀ a, H1 a = none → sp (.ref a :: (vs ++ dvs)) (upd H1 a (exo a C none)) (fun v H2 => v = .non ∧ Q (.ref a) H2) (fun _ _ _ => False)
section
variable {X : Cx} {CX : CXT} {k : Nat} {C fI : Addr} {fd : FuncData} {ps : List Str} {sp : Sp} {ds : List Value} {dvs : List V} {x : Str} {p pos : Pos} {e : Expr} {es : List Expr} {ta : TA}
theorem run_mkX {pins : List (Addr × Obj)} {σ : L2.St} {H : Hp} {s : Shared} {Q : VK} {us : List Value} {vs : List V} (T : OexC X.K C) (iC : PySem.W.findIn X.K (.ref C) "__init__" = some (some (.ref fI))) (tI : PySem.W.typeIn X.K (.ref fI) = some (.type "function"))
    (F1 : FnOk X.prog X.w X.K X.mg X.base CX k fI fd ps sp) (hr : Room (k + 1) X.A) (hb : Binds X.K fd ps ds) (hd : Vals dvs ds) (hx : Passes CX X (fun _ _ _ => False)) (I1 : Inv X pins σ H s) (r1 : Vals vs us) (hz : vs.length ≤ 1000)
    (q1 : ∀ a, H a = none → sp (.ref a :: (vs ++ dvs)) (upd H a (exo a C none)) (fun v H2 => v = .non ∧ Q (.ref a) H2) (fun _ _ _ => False)) :
    wpAny (model X.prog X.w) X.A (call (.ref C) us) (EP X pins σ Q) X.xe s := by
  obtain ⟨nm, q, N, bs, bm, sn, sub, ab, col, dd, k0, k1, k2, k3, k5, hC, hbm⟩ := T.cls
  obtain ⟨hp, g, dr, tk, os⟩ := s
  have hsz : hp.objs.size ≤ hp.objs.size + 1 := Nat.le_succ _
  have hn : H (hp.objs.size + 1) = none := I1.hok.fresh hsz
  have hq := q1 (hp.objs.size + 1) hn
  have kk : ∀ b o, hp.get? b = some o → ((hp.push (PySem.W.kdv_tup us)).push (PySem.HandSPX.excO C hp.objs.size)).get? b = some o := fun b o e => Heap.get?_push_of_some _ (Heap.get?_push_of_some _ e)
  have hget : ((hp.push (PySem.W.kdv_tup us)).push (PySem.HandSPX.excO C hp.objs.size)).get? (hp.objs.size + 1) = some (PySem.HandSPX.excO C hp.objs.size) := by heap_get
  have I2 : Inv X pins σ (upd H (hp.objs.size + 1) (exo (hp.objs.size + 1) C none)) ⟨(hp.push (PySem.W.kdv_tup us)).push (PySem.HandSPX.excO C hp.objs.size), g, dr, tk, os⟩ :=
    I1.laid (t' := tk) (a := hp.objs.size + 1) (o := exo (hp.objs.size + 1) C none) (h' := (hp.push (PySem.W.kdv_tup us)).push (PySem.HandSPX.excO C hp.objs.size)) kk hsz (exo_ok hget)
  have r2 : Vals (V.ref (hp.objs.size + 1) :: (vs ++ dvs)) (Value.ref (hp.objs.size + 1) :: (us ++ ds)) := .cons rfl (r1.append hd)
  have hl : (Value.ref (hp.objs.size + 1) :: us ++ ds).length = ps.length := by
    have e := r2.length
    rw [F1.len _ _ _ _ hq] at e
    exact e.symm
  have hus : us.length ≤ sizeLine := by
    rw [← Paired.length r1, sizeLine_eq]
    omega
  refine wpAny_call (PySem.HandSPX.call_own F.excBase_ValueError (fun Y => PySem.HandSPX.refsVE_contains Y bm hbm) (I1.kIn _ _ hC) (PySem.W.looks_findIn I1.kIn iC) (fun self => PySem.W.bind_fn I1.kIn self tI) hus
    (codeAny_mono (F1.run _ X.stack _ _ ⟨Value.ref (hp.objs.size + 1) :: us, []⟩ (Value.ref (hp.objs.size + 1) :: (us ++ ds)) _ _ (fun _ _ _ => False) (hr.make C us []) (I2.env0.make C us []) (hb _ (Value.ref (hp.objs.size + 1) :: us) I2.kIn hl) r2 hq) fun r s' hq' => ?_))
  cases r with
  | error er => exact hx pins σ _ _ er s' I2 hq'
  | ok fl =>
    cases fl with
    | ret u =>
      obtain ⟨v, H', I3, rv, ev, q3⟩ := I2.after hq'
      subst ev
      exact ⟨rv, ⟨V.ref (hp.objs.size + 1), H', I3, rfl, q3⟩⟩
    | next => exact False.elim hq'
    | brk => exact False.elim hq'
    | cont => exact False.elim hq'
theorem pe_mkX (T : OexC X.K C) (iC : PySem.W.findIn X.K (.ref C) "__init__" = some (some (.ref fI))) (tI : PySem.W.typeIn X.K (.ref fI) = some (.type "function"))
    (F1 : FnOk X.prog X.w X.K X.mg X.base CX k fI fd ps sp) (hr : Room (k + 1) X.A) (hb : Binds X.K fd ps ds) (hd : Vals dvs ds) (hx : Passes CX X (fun _ _ _ => False)) (hg : Gl X x) (hm : X.mg x = some (.ref C)) (ha : PA X (e :: es) ta)
    (hdb : (x == ("__debug__" : Str)) = false := by decide) (he : starEach (e :: es) X.env = (false, eval e X.env) :: starEach es X.env := by rfl) (hpl : (backTo pos (starEach es X.env)).any (·.1) = false := by rfl) :
    PE X (.Call (.Name x p) (e :: es) [] pos) (tMkX C sp dvs ta) := by
  refine ⟨fun pins s σ H Q I h => ?_⟩
  refine wpAny_Call_Name_kw (ld_glob I hg hm ?_ hdb)
  refine PySem.W.callWith_K (h₀ := X.base) I.ok.mod.kin T.kC (thn (ha.run pos pins s σ H _ I h) fun us s1 ⟨vs, H1, I1, r1, hz, q1⟩ => ⟨I1.kIn, ?_⟩) he hpl
  exact run_mkX T iC tI F1 hr hb hd hx I1 r1 hz q1
theorem pe_mkX0 (T : OexC X.K C) (iC : PySem.W.findIn X.K (.ref C) "__init__" = some (some (.ref fI))) (tI : PySem.W.typeIn X.K (.ref fI) = some (.type "function"))
    (F1 : FnOk X.prog X.w X.K X.mg X.base CX k fI fd ps sp) (hr : Room (k + 1) X.A) (hb : Binds X.K fd ps ds) (hd : Vals dvs ds) (hx : Passes CX X (fun _ _ _ => False)) (hg : Gl X x) (hm : X.mg x = some (.ref C))
    (hdb : (x == ("__debug__" : Str)) = false := by decide) : PE X (.Call (.Name x p) [] [] pos) (tMkX C sp dvs tNil) := by
  refine ⟨fun pins s σ H Q I h => ?_⟩
  refine wpAny_Call_Name_kw (ld_glob I hg hm ?_ hdb)
  obtain ⟨hz, q1⟩ := h
  exact PySem.W.callWith_K0 I.kIn T.kC (run_mkX (us := []) T iC tI F1 hr hb hd hx I .nil hz q1)
end
/-! ### a class without own __init__, made of nothing -/
section
variable {X : Cx}
theorem pe_exc0 {C : Addr} {bmB : List Value} {B newId initId : String} {x : Str} {p pos : Pos} (F : ExcBaseFacts B newId initId bmB) (q : PySem.W.excIn X.K C bmB newId = true) (gC : X.mg x = some (.ref C)) (kC : PySem.W.keepIn X.K (.ref C) = true) (hg : Gl X x)
    (hdb : (x == ("__debug__" : Str)) = false := by decide) :
    PE X (.Call (.Name x p) [] [] pos) (fun σ H Q => ∀ a, H a = none → Q (.ref a) (upd H a (ExO (.ref C) a))) := by
  refine ⟨fun pins s σ H Q I h => ?_⟩
  refine wpAny_Call_Name_kw (ld_glob I hg gC ?_ hdb)
  refine PySem.W.callWith_K0 I.kIn kC ?_
  obtain ⟨bm, N, nm, qn, bs, hdct, sn, sub, ab, col, dd, k0, k1, k2, k3, k5, mN, hC, hN, hni, T⟩ := exc_obj I.kIn q
  refine wpAny_call_exc_subT F T hC hN hni (fun h' a hm => ?_) (by show 0 ≤ sizeLine; omega)
  have hn : H a = none := I.hok.gone hm.new
  obtain ⟨t, ht, _, _⟩ := hm.there
  exact ⟨.ref a, upd H a (ExO (.ref C) a), I.laidN hm.keeps hm.new hn (exO_ok ht ⟨rfl, rfl⟩ rfl rfl rfl (show 4 < 6 by decide)), rfl, h a hn⟩
end
end XR

namespace XRK
open PySem PySem.Spec PySem.W PySem.Calls PyProof.Rows PySem.HandSPX
open Builtin Builtin.ObjectAttr
section
variable {M : Model} {A : Around} {E : Value → Shared → Prop} {h : Heap} {g : Array GenState} {d : Drawn} {t : Nat} {os : OsState}
variable {nm q : Str} {C N : Addr} {bs bm bmB : List Value} {hdct : Bool} {sn : List Str} {sub : List Value} {ab : Bool} {col : Option Bool} {dd : Option Addr} {k0 k1 k2 k3 k5 : Option Value} {B newId initId : String}
theorem check_new_ownK (F : ExcBaseFacts B newId initId bmB) (hT : ∀ X : String, bm.contains (.type X) = bmB.contains (.type X)) {rest : List Value} {kw : List (Str × Value)} {Q : Unit → Shared → Prop}
    (hC : h.get? C = some (excClassObj nm q C N bs bm hdct sn sub ab col dd k0 k1 k2 k3 k5 newId)) (hq : Q () ⟨h, g, d, t, os⟩) : wpAny M A (checkBuiltinCall newId ⟨.ref C :: rest, kw⟩) Q E ⟨h, g, d, t, os⟩ := by
  have hcont : (Value.ref C :: bm).contains (.type B) = true := by rw [List.contains_cons, hT, F.hasB, Bool.or_true]
  have hstar := F.noStar
  simp only [checkBuiltinCall, F.newKind, F.newSplit, F.newRow]
  repeat (first | refine wpAny_loadPart_at hC ?_ | (refine wpAny_isSubtype_exc hC ?_; rw [hcont]) | refine wpAny_staticBase_exc hC ?_ | refine wpAny_madeBy_exc hC ?_ | simp only [bne_self_eq_false, Bool.false_eq_true, if_false] | wp_step)
  exact hq
theorem check_type_callK {rest : List Value} {kw : List (Str × Value)} {newId : String} {Q : Unit → Shared → Prop} (hC : h.get? C = some (excClassObj nm q C N bs bm hdct sn sub ab col dd k0 k1 k2 k3 k5 newId))
    (hq : Q () ⟨h, g, d, t, os⟩) : wpAny M A (checkBuiltinCall "type.__call__" ⟨.ref C :: rest, kw⟩) Q E ⟨h, g, d, t, os⟩ := by
  have f3 := tc_sub
  have hT : (⟨h, g, d, t, os⟩ : Shared).TypeIs (.ref C) "type" := ⟨_, hC, rfl⟩
  simp only [checkBuiltinCall, tc_kind, tc_split]
  repeat (any_goals (first | assumption | with_reducible refine wpAny_loadPart_at hC ?_ | with_reducible refine wpAny_onRaise ?_ | with_reducible refine wpAny_map ?_ | wp_step))
end
section
variable {prog : Program} {w : World} {A : Around} {E : Value → Shared → Prop} {R : Result → Shared → Prop} {h : Heap} {g : Array GenState} {d : Drawn} {t : Nat} {os : OsState}
variable {nm q : Str} {C N : Addr} {bs bm bmB : List Value} {hdct : Bool} {sn : List Str} {sub : List Value} {ab : Bool} {col : Option Bool} {dd : Option Addr} {k0 k1 k2 k3 k5 : Option Value} {B newId initId : String}
theorem new_ownK (F : ExcBaseFacts B newId initId bmB) (hT : ∀ X : String, bm.contains (.type X) = bmB.contains (.type X)) {rest : List Value} {kw : List (Str × Value)}
    (hC : h.get? C = some (excClassObj nm q C N bs bm hdct sn sub ab col dd k0 k1 k2 k3 k5 newId))
    (hq : R (.ok (.ret (.ref (h.objs.size + 1)))) ⟨(h.push { cls := .type "tuple", data := .seq rest.toArray }).push
      { cls := .ref C, data := .fields #[.ref h.objs.size, .none, .none, .none, .bool false, .none] }, g, d, t, os⟩) (hrest : rest.length ≤ sizeLine) :
    codeAny (model prog w) A (.builtin newId ⟨.ref C :: rest, kw⟩) R ⟨h, g, d, t, os⟩ := by
  have hends := F.ends
  have hcB : (Value.ref C :: bm).contains (.type B) = true := by rw [List.contains_cons, hT, F.hasB, Bool.or_true]
  have hcA : (Value.ref C :: bm).contains (.type "AttributeError") = false := by rw [List.contains_cons, hT, F.noAttr]; rfl
  have hcN : (Value.ref C :: bm).contains (.type "NameError") = false := by rw [List.contains_cons, hT, F.noName]; rfl
  refine codeAny_builtinAt F.entry ?_
  unfold Builtin.«BaseException.__new__»
  refine PySem.wpAt_bind ?_
  show PySem.wpAt _ _ _ (stack >>= _) _ _ _
  refine PySem.wpAt_bind (PySem.wpAt_stack fun p below => PySem.wpAt_of_wpAny ?_)
  wp_walk
  refine PySem.wpAt_of_wpAny ?_
  rw [F.owner]
  repeat (first | with_reducible refine wpAny_madeHere_exc F.canon hC ?_ | with_reducible refine wpAny_loadPart_at hC ?_ | (with_reducible refine wpAny_isSubtype_exc hC ?_; first | rw [hcB] | rw [hcA] | rw [hcN]) | wp_step)
  show R _ _
  rw [Heap.size_push]
  exact hq
theorem type_call_ownK (F : ExcBaseFacts B newId initId bmB) (hT : ∀ X : String, bm.contains (.type X) = bmB.contains (.type X)) {rest : List Value} {kw : List (Str × Value)} {fI : Addr} {Q : Fin → Shared → Prop}
    (hC : h.get? C = some (excClassObj nm q C N bs bm hdct sn sub ab col dd k0 k1 k2 k3 k5 newId))
    (hi : W.Looks (model prog w) h (typeLookup (.ref C) "__init__") (some (.ref fI))) (hb : ∀ self, W.Looks (model prog w) h (bindSpecial (.ref fI) self) (.ref fI, [self])) (hrest : rest.length ≤ sizeLine)
    (hq : codeAny (model prog w) A (.call (.ref fI) ⟨.ref (h.objs.size + 1) :: rest, kw⟩)
      (fun r s' => match r with | .ok (.ret v) => v = .none ∧ Q (.done (.ret (.ref (h.objs.size + 1)))) s' | .ok _ => False | .error e => E e s')
      ⟨(h.push (W.kdv_tup rest)).push (excO C h.objs.size), g, d, t, os⟩) :
    wpAny (model prog w) A (Builtin.«type.__call__» ⟨.ref C :: rest, kw⟩) Q E ⟨h, g, d, t, os⟩ := by
  repeat (first | with_reducible refine wpAny_loadPart_at hC ?_ | with_reducible refine wpAny_madeBy_exc hC ?_ | wp_step)
  refine codeAny_call_builtin_code (Code.quiet_builtin _ F.quiet) (check_new_ownK F hT hC ?_)
  refine new_ownK F hT hC ?_ hrest
  show wpAny _ _ _ _ _ _
  have k : ∀ b o, h.get? b = some o → ((h.push (W.kdv_tup rest)).push (excO C h.objs.size)).get? b = some o := fun b o e => Heap.get?_push_of_some _ (Heap.get?_push_of_some _ e)
  have hC₁ := k _ _ hC
  have hget : ((h.push (W.kdv_tup rest)).push (excO C h.objs.size)).get? (h.objs.size + 1) = some (excO C h.objs.size) := by heap_get
  have hcC : (Value.ref C :: bm).contains (.ref C) = true := by simp
  have i1 := hi.keeps k
  have b1 := (hb (.ref (h.objs.size + 1))).keeps k
  unfold isInstance
  repeat (first | with_reducible refine wpAny_loadPart_at hget ?_ | (with_reducible refine wpAny_isSubtype_exc hC₁ ?_; rw [hcC]) | wp_step)
  show wpAny _ _ (typeLookup (.ref C) _) _ _ _
  refine i1.at ?_
  refine wpAny_holding (wpAny_bind (b1.at ?_))
  refine wpAny_bind (wpAny_call (codeAny_mono hq fun r s' z => ?_))
  rcases r with e | (v | _ | _ | _) <;> first | exact z | exact z.elim | skip
  obtain ⟨rfl, z⟩ := z
  first
    | exact wpAny_pure (wpAny_pure z)
    | (wp_walk; exact z)
theorem call_ownK (F : ExcBaseFacts B newId initId bmB) (hT : ∀ X : String, bm.contains (.type X) = bmB.contains (.type X)) {rest : List Value} {kw : List (Str × Value)} {fI : Addr}
    (hC : h.get? C = some (excClassObj nm q C N bs bm hdct sn sub ab col dd k0 k1 k2 k3 k5 newId))
    (hi : W.Looks (model prog w) h (typeLookup (.ref C) "__init__") (some (.ref fI))) (hb : ∀ self, W.Looks (model prog w) h (bindSpecial (.ref fI) self) (.ref fI, [self])) (hrest : rest.length ≤ sizeLine)
    (hq : codeAny (model prog w) (A.under (.builtin "type.__call__" ⟨.ref C :: rest, kw⟩)) (.call (.ref fI) ⟨.ref (h.objs.size + 1) :: rest, kw⟩) (W.InitBack (h.objs.size + 1) R)
      ⟨(h.push (W.kdv_tup rest)).push (excO C h.objs.size), g, d, t, os⟩) :
    codeAny (model prog w) A (.call (.ref C) ⟨rest, kw⟩) R ⟨h, g, d, t, os⟩ := by
  have f1 := tc_lookup
  have f2 := tc_bind (.ref C)
  have hTy : (⟨h, g, d, t, os⟩ : Shared).TypeIs (.ref C) "type" := ⟨_, hC, rfl⟩
  refine codeAny_of_tree ?_
  show wpAny _ _ (callAny (.ref C) _) _ _ _
  repeat (any_goals (first | assumption | with_reducible refine wpAny_loadPart_at hC ?_ | wp_step))
  refine ⟨rfl, ?_⟩
  refine codeAny_call_builtin_at (Code.quiet_builtin _ (by decide +kernel)) entry_typeCall (check_type_callK hC (type_call_ownK F hT hC hi hb hrest ?_))
  refine codeAny_mono hq fun r s' z => ?_
  rcases r with e | (v | _ | _ | _) <;> exact z
end
end XRK
namespace XR
open PySem PySem.Spec PyProof.Rows L2
/-- C(e, .., k = v, ..) as a value: n values and keywords ks -/
def tMkXK (C : Addr) (n m : Nat) (sp : Sp) (gV : List V → List V → List V) (t tk : TA) : TE := fun σ H Q => t σ H fun vs H1 => tk σ H1 fun zs H2 => vs.length = n ∧ zs.length = m ∧ n ≤ 1000 ∧
  ∀ a, H2 a = none → sp (gV (.ref a :: vs) zs) (upd H2 a (exo a C none)) (fun v H3 => v = .non ∧ Q (.ref a) H3) (fun _ _ _ => False)
section
variable {X : Cx} {CX : CXT} {k n : Nat} {C fI : Addr} {fd : FuncData} {ps ks : List Str} {sp : Sp} {x : Str} {p pos : Pos} {e : Expr} {es : List Expr} {kws : List Keyword} {t tk : TA} {g : List Value → List Value → List Value} {gV : List V → List V → List V}
theorem run_mkXK {pins : List (Addr × Obj)} {σ : L2.St} {H : Hp} {s : Shared} {Q : VK} {us ws : List Value} {vs zs : List V} (T : OexC X.K C) (iC : PySem.W.findIn X.K (.ref C) "__init__" = some (some (.ref fI))) (tI : PySem.W.typeIn X.K (.ref fI) = some (.type "function"))
    (F1 : FnOk X.prog X.w X.K X.mg X.base CX k fI fd ps sp) (hr : Room (k + 1) X.A) (hb : KBn X.K fd ps (n + 1) ks g gV) (hx : Passes CX X (fun _ _ _ => False)) (I1 : Inv X pins σ H s) (r : Vals vs us) (rz : Vals zs ws) (l1 : vs.length = n) (l2 : zs.length = ks.length) (hz : n ≤ 1000)
    (q1 : ∀ a, H a = none → sp (gV (.ref a :: vs) zs) (upd H a (exo a C none)) (fun v H2 => v = .non ∧ Q (.ref a) H2) (fun _ _ _ => False)) :
    wpAny (model X.prog X.w) X.A (call (.ref C) us (ks.zip ws)) (EP X pins σ Q) X.xe s := by
  obtain ⟨nm, q, N, bs, bm, sn, sub, ab, col, dd, k0, k1, k2, k3, k5, hC, hbm⟩ := T.cls
  obtain ⟨hp, g', dr, tk', os⟩ := s
  have hsz : hp.objs.size ≤ hp.objs.size + 1 := Nat.le_succ _
  have hn : H (hp.objs.size + 1) = none := I1.hok.fresh hsz
  have hq := q1 (hp.objs.size + 1) hn
  have kk : ∀ b o, hp.get? b = some o → ((hp.push (PySem.W.kdv_tup us)).push (PySem.HandSPX.excO C hp.objs.size)).get? b = some o := fun b o e => Heap.get?_push_of_some _ (Heap.get?_push_of_some _ e)
  have hget : ((hp.push (PySem.W.kdv_tup us)).push (PySem.HandSPX.excO C hp.objs.size)).get? (hp.objs.size + 1) = some (PySem.HandSPX.excO C hp.objs.size) := by heap_get
  have I2 : Inv X pins σ (upd H (hp.objs.size + 1) (exo (hp.objs.size + 1) C none)) ⟨(hp.push (PySem.W.kdv_tup us)).push (PySem.HandSPX.excO C hp.objs.size), g', dr, tk', os⟩ :=
    I1.laid (t' := tk') (a := hp.objs.size + 1) (o := exo (hp.objs.size + 1) C none) (h' := (hp.push (PySem.W.kdv_tup us)).push (PySem.HandSPX.excO C hp.objs.size)) kk hsz (exo_ok hget)
  have r1 : Vals (V.ref (hp.objs.size + 1) :: vs) (Value.ref (hp.objs.size + 1) :: us) := .cons rfl r
  have r2 := hb.rel r1 rz
  have e1 : (Value.ref (hp.objs.size + 1) :: us).length = n + 1 := r1.length.symm.trans (congrArg Nat.succ l1)
  have e2 : ws.length = ks.length := rz.length.symm.trans l2
  have hus : us.length ≤ sizeLine := by
    rw [← Paired.length r, sizeLine_eq]
    omega
  refine wpAny_call (XRK.call_ownK F.excBase_ValueError (fun Y => PySem.HandSPX.refsVE_contains Y bm hbm) (I1.kIn _ _ hC) (PySem.W.looks_findIn I1.kIn iC) (fun self => PySem.W.bind_fn I1.kIn self tI) hus
    (codeAny_mono (F1.run _ X.stack _ _ ⟨Value.ref (hp.objs.size + 1) :: us, ks.zip ws⟩ (g (Value.ref (hp.objs.size + 1) :: us) ws) _ _ (fun _ _ _ => False) (hr.make C us (ks.zip ws)) (I2.env0.make C us (ks.zip ws)) (hb.to _ (Value.ref (hp.objs.size + 1) :: us) ws I2.kIn e1 e2) r2 hq) fun r s' hq' => ?_))
  cases r with
  | error er => exact hx pins σ _ _ er s' I2 hq'
  | ok fl =>
    cases fl with
    | ret u =>
      obtain ⟨v, H', I3, rv, ev, q3⟩ := I2.after hq'
      subst ev
      exact ⟨rv, ⟨V.ref (hp.objs.size + 1), H', I3, rfl, q3⟩⟩
    | next => exact False.elim hq'
    | brk => exact False.elim hq'
    | cont => exact False.elim hq'
theorem pe_mkXK (T : OexC X.K C) (iC : PySem.W.findIn X.K (.ref C) "__init__" = some (some (.ref fI))) (tI : PySem.W.typeIn X.K (.ref fI) = some (.type "function"))
    (F1 : FnOk X.prog X.w X.K X.mg X.base CX k fI fd ps sp) (hr : Room (k + 1) X.A) (hb : KBn X.K fd ps (n + 1) ks g gV) (hx : Passes CX X (fun _ _ _ => False)) (hg : Gl X x) (hm : X.mg x = some (.ref C))
    (ha : PA X (e :: es) t) (hkw : PK X kws tk) (hall : (backToKw pos (keywordEach kws X.env)).all (·.1.isSome) = true := by rfl) (hks : (backToKw pos (keywordEach kws X.env)).filterMap (·.1) = ks := by rfl)
    (hdb : (x == ("__debug__" : Str)) = false := by decide) (he : starEach (e :: es) X.env = (false, eval e X.env) :: starEach es X.env := by rfl)
    (hpl : ((backTo pos (starEach (e :: es) X.env)).any (·.1) || (backToKw pos (keywordEach kws X.env)).any (·.1.isNone)) = false := by rfl) :
    PE X (.Call (.Name x p) (e :: es) kws pos) (tMkXK C n ks.length sp gV t tk) := by
  refine ⟨fun pins s σ H Q I h => ?_⟩
  refine wpAny_Call_Name_kw (ld_glob I hg hm ?_ hdb)
  refine PySem.W.callWith_KW (h₀ := X.base) I.ok.mod.kin T.kC hall (thn (ha.run pos pins s σ H _ I h) fun us s1 ⟨vs, H1, I1, r, q⟩ => ?_) hpl he
  refine thn (hkw.run pos pins s1 σ H1 _ I1 q) fun ws s2 ⟨zs, H2, I2, rz, l1, l2, l3, q2⟩ => ⟨I2.kIn, ?_⟩
  rw [hks]
  exact run_mkXK T iC tI F1 hr hb hx I2 r rz l1 l2 l3 q2
theorem pe_mkXK0 (T : OexC X.K C) (iC : PySem.W.findIn X.K (.ref C) "__init__" = some (some (.ref fI))) (tI : PySem.W.typeIn X.K (.ref fI) = some (.type "function"))
    (F1 : FnOk X.prog X.w X.K X.mg X.base CX k fI fd ps sp) (hr : Room (k + 1) X.A) (hb : KBn X.K fd ps 1 ks g gV) (hx : Passes CX X (fun _ _ _ => False)) (hg : Gl X x) (hm : X.mg x = some (.ref C))
    (hkw : PK X kws tk) (hall : (backToKw pos (keywordEach kws X.env)).all (·.1.isSome) = true := by rfl) (hks : (backToKw pos (keywordEach kws X.env)).filterMap (·.1) = ks := by rfl)
    (hdb : (x == ("__debug__" : Str)) = false := by decide)
    (hpl : ((backTo pos (starEach [] X.env)).any (·.1) || (backToKw pos (keywordEach kws X.env)).any (·.1.isNone)) = false := by rfl) :
    PE X (.Call (.Name x p) [] kws pos) (tMkXK C 0 ks.length sp gV tNil tk) := by
  refine ⟨fun pins s σ H Q I h => ?_⟩
  refine wpAny_Call_Name_kw (ld_glob I hg hm ?_ hdb)
  refine PySem.W.callWith_KW0 (h₀ := X.base) I.ok.mod.kin T.kC hall ?_ hpl
  refine thn (hkw.run pos pins s σ H _ I h) fun ws s2 ⟨zs, H2, I2, rz, l1, l2, l3, q2⟩ => ⟨I2.kIn, ?_⟩
  rw [hks]
  exact run_mkXK (us := []) T iC tI F1 hr hb hx I2 .nil rz l1 l2 l3 q2
end
end XR

namespace XR
open PySem PySem.Spec PyProof.Rows L2
/-- an exception's object, whatever its fields -/
def exl (a : Addr) (C : Addr) (d : Option Addr) : HO := .ext fun h => ∃ (oe : Obj) (vs : Array Value), h.get? a = some oe ∧ oe.cls = .ref C ∧ oe.dict = d ∧ oe.data = .fields vs
theorem exAt_exl {H : Hp} {a C : Addr} {d : Option Addr} (h : H a = some (exl a C d)) : ExAt H a C d := ⟨_, h, fun _ z => z⟩
theorem exl_ok {P : Program} {w : World} {H : Hp} {h : Heap} {a C : Addr} {d : Option Addr} {oe : Obj} {vs : Array Value} (e : h.get? a = some oe) (c : oe.cls = .ref C) (dd : oe.dict = d) (t : oe.data = .fields vs) : ObjOk P w H h a (exl a C d) :=
  ⟨⟨oe, vs, e, c, dd, t⟩, ⟨oe, e⟩, fun _ _ ⟨o, v, q, r⟩ k => ⟨o, v, k o q, r⟩⟩
section
variable {X : Cx} {pins : List (Addr × Obj)} {σ : L2.St} {H : Hp} {s : Shared}
/-- an object that stands in no abstract heap and was not there at the entry is tracked from now on -/
theorem Inv.track {a : Addr} {o : HO} (I : Inv X pins σ H s) (na : H a = none) (n0 : X.s_0.heap.get? a = none) (nL : a ≠ X.env.locals) (nC : ∀ x c, X.env.cells.lookup x = some c → c ≠ a) (nP : ∀ p ∈ X.pn ++ pins, p.1 ≠ a)
    (new : ObjOk X.prog X.w (upd H a o) s.heap a o) : Inv X pins σ (upd H a o) s := by
  have ne0 : ∀ b o, X.s_0.heap.get? b = some o → b ≠ a := fun b o e z => by
    rw [z, n0] at e
    cases e
  have neN : ∀ b u, H b = some u → b ≠ a := fun b u e z => by
    rw [z, na] at e
    cases e
  refine ⟨I.ok, I.os, I.bare, ⟨I.base.keep, I.base.slot, fun b o e n hq => ?_, I.base.there, fun b xs e => ?_, fun b o u e => ?_, fun b ps e => ?_⟩, I.loc, I.cell, ?_, fun x c e => ?_, fun p hp => ?_, fun b u e => ?_, I.len⟩
  · rw [upd_ne (ne0 b o e)]
    exact I.base.free b o e n hq
  · have q := I.base.tups b xs e
    rw [upd_ne (neN b _ q)]
    exact q
  · have q := I.base.frzs b o u e
    rw [upd_ne (neN b _ q)]
    exact q
  · obtain ⟨m, q⟩ := I.base.tbls b ps e
    exact ⟨m, by rw [upd_ne (neN b _ q)]; exact q⟩
  · rw [upd_ne (Ne.symm nL)]
    exact I.free
  · rw [upd_ne (nC x c e)]
    exact I.freeC x c e
  · obtain ⟨e, n, ne, nf, d⟩ := I.pin p hp
    exact ⟨e, by rw [upd_ne (nP p hp)]; exact n, ne, nf, d⟩
  · by_cases hb : b = a
    · subst hb
      rw [upd_same] at e
      cases e
      exact new
    · rw [upd_ne hb] at e
      exact (I.hok b u e).stay (fun c v _ q => q) (fun c q => by rw [upd_ne (neN c _ q)]; exact q) fun c xs q => by rw [upd_ne (neN c _ q)]; exact q
end
/-- what the clause 'except x as n: m = n' wishes of an exception of the body: slot i is n's, slot j m's; the exception's object is tracked behind it -/
def wKeep (K : PySem.W.Frag) (c : Value) (i j : Nat) (Wout : WX) (D : Ends) : WX := fun cls d σ H =>
  ∃ b, PySem.W.exmOne K cls c = some b ∧ (b = true → ∃ C, cls = .ref C ∧ ∀ a, H a = none → D.nx (((σ.set i (some (.ref a))).set j (some (.ref a))).set i none) (upd H a (exl a C d))) ∧ (b = false → Wout cls d σ H)
section
variable {X : Cx} {x n m : Str} {c : Value} {i j : Nat} {body : List Stmt} {np pos pos' mp np2 ap : Pos} {tb : WX → TS} {Wout : WX}
theorem ps_try_keep (hs : X.stack = X.env :: X.outer) (hf : X.env.frame = some X.env.locals) (hN : X.N.Nodup) (hi : X.N[i]? = some n) (hj : X.N[j]? = some m) (hij : i ≠ j) (hln : X.env.kindOf n = some .local) (hlm : X.env.kindOf m = some .local) (hx : X.ex = []) (hc : Names X x c) (tk : Takes X Wout)
    (hb : ∀ (W : WX) (pn : List (Addr × Obj)) (xe : Value → Shared → Prop), Takes (X.tr pn xe) W → PassesOwn (model X.prog X.w) X.A X.env xe → PSs (X.tr pn xe) body (tb W))
    (hpn : X.pn = [])
    (hsu : ∀ (a : Addr) (oe : Obj) (pn : List (Addr × Obj)), PSs (X.suite a ((a, oe) :: pn)) [.Assign [.Name m mp] (.Name n np2) ap] (tAsg (tVar i) (gName j))) :
    PS X (.Try body [.ExceptHandler (some (.Name x np)) (some n) [.Assign [.Name m mp] (.Name n np2) ap] pos'] [] [] pos) (fun D σ H => tb (wKeep X.K c i j Wout D) D σ H) := by
  refine ⟨fun pins s σ H D I h => ?_⟩
  have ok := I.ok
  have hfr : X.A.frames = some (X.env :: X.outer) := by rw [ok.frames, hs]
  have hloc : Loc X.env.scope n := .inl hln
  refine wpAny_Try_except ?_
  refine wpAny_mono ((hb (wKeep X.K c i j Wout D) (X.pn ++ pins) (fun e s₁ => wpAny (model X.prog X.w) X.A (noteFrame e X.env) (fun _ s₂ => wpAny (model X.prog X.w) X.A (setFlight e none) (fun _ s₃ =>
    wpAny (model X.prog X.w) X.A (handleBy e X.env [.ExceptHandler (some (.Name x np)) (some n) [.Assign [.Name m mp] (.Name n np2) ap] pos']) (SP X pins D) X.xe s₃) X.xe s₂) X.xe s₁) (fun u s' xx => ?_) PassesOwn.looking).run [] s σ H D (I.toTry _) h) (fun f s1 hsp => ?_) (fun e s1 he => he)
  · -- the catch
    obtain ⟨a, B, sI, pins', σ', H', cls, d, rfl, J', nb, up, sky, na, os, ag, b, hb1, hyes, hno⟩ := xx
    have J : Inv X pins σ' H' sI := J'.ofTry ok
    have sky' : Sky B (X.env :: X.outer) a (Zc cls d) X.env.locals s'.heap := by rw [← hs]; exact sky
    show wpAny (model X.prog X.w) X.A (noteFrame (.ref a) X.env) _ _ _
    refine Sky.land Zc.steady hfr hf sky' fun h3 fl3 up3 => ?_
    have J3 : Inv X pins σ' H' { s' with heap := h3 } := J.landed nb fl3.1 (up.trans up3) os ag
    obtain ⟨oe3, vs3, he3, hz3, hd3⟩ := fl3.there
    have notFr : ∀ {h : Heap} {o : Obj} {vs : Array Value}, h.FunFrames B (X.env :: X.outer) → h.get? a = some o → o.data = .fields vs → a ∉ frs (X.env :: X.outer) := fun {h o vs} ff e dd hm => by
      obtain ⟨_, o', e', hnf⟩ := ff.mem hm
      rw [e] at e'; cases e'
      exact hnf _ dd
    have nfr := notFr fl3.2.2.1 he3 hd3
    have nL : a ≠ X.env.locals := fun z => nfr (List.mem_filterMap.mpr ⟨X.env, List.mem_cons_self, by rw [hf, z]⟩)
    have nF : a ∉ X.fs := fun hm => by
      obtain ⟨e, he, q⟩ := List.mem_filterMap.mp hm
      exact nfr (List.mem_filterMap.mpr ⟨e, List.mem_cons_of_mem _ he, q⟩)
    have nI : sI.heap.get? a = none := by
      cases q : sI.heap.get? a with
      | none => rfl
      | some o =>
        have z := nb a o q (by rw [hs]; exact nfr)
        rw [fl3.2.1] at z
        cases z
    have n0 : X.s_0.heap.get? a = none := by
      cases q : X.s_0.heap.get? a with
      | none => rfl
      | some o =>
        obtain ⟨o', z⟩ := J.base.there a o q (by rw [hx]; exact fun z => nomatch z)
        rw [nI] at z
        cases z
    have nP : ∀ p ∈ X.pn ++ pins, p.1 ≠ a := fun p hp z => by
      have q := (J.pin p hp).1
      rw [z, nI] at q
      cases q
    have S3 := J3.suite he3 hd3 na nL nF
    refine wpAny_handleBy_cons (codeAny_handlers_test ?_) (by intro q; cases q)
    have LT : PySem.W.Looks (model X.prog X.w) h3 (typeOf (.ref a)) cls := fun A Q E s k q => wpAny_typeOf_ref (k _ _ he3) (by rw [hz3.1]; exact q)
    have LM := PySem.W.exm_one (M := model X.prog X.w) (J3.kIn) LT hb1
    have test : ∀ {Q : Value → Shared → Prop} {E : Value → Shared → Prop}, Q c { s' with heap := h3 } → wpAny (model X.prog X.w) (X.A.mark (some (.ref a))) (eval (.Name x np) X.env) Q E { s' with heap := h3 } := fun {Q E} q => by
      obtain ⟨hg, hdbg, hm | ⟨hm, hv, hnn⟩⟩ := hc
      · exact ld_glob (X := X.suite a ((a, oe3) :: (X.pn ++ pins))) S3 hg hm q hdbg
      · exact ld_blt (X := X.suite a ((a, oe3) :: (X.pn ++ pins))) S3 hg hm hv q hnn hdbg
    refine test (LM.here ?_)
    cases b with
    | true =>
      obtain ⟨C, ec, hy2⟩ := hyes rfl
      subst ec
      refine codeAny_handlers_suite_as ?_
      refine HandSPX.lands_againZ fl3 fun h4 fl4 up4 => ?_
      have J4 : Inv X pins σ' H' { s' with heap := h4 } := J.landed nb fl4.1 ((up.trans up3).trans up4) os ag
      obtain ⟨oe4, vs4, he4, hz4, hd4⟩ := fl4.there
      have S4 := J4.suite he4 hd4 na nL nF
      refine store_ok (X := X.suite a ((a, oe4) :: (X.pn ++ pins))) (v := .ref a) S4 hN hi hloc rfl (fun s5 S5 => ?_) (.inr hln)
      have hlen : i < σ'.length := by
        rw [J.len]
        exact (List.getElem?_eq_some_iff.mp hi).1
      refine wpAny_mono ((hsu a oe4 (X.pn ++ pins)).run [] s5 _ H' { nx := fun σ6 H6 => σ6 = (σ'.set i (some (.ref a))).set j (some (.ref a)) ∧ H6 = H', rt := fun _ _ => False } S5 ⟨_, List.getElem?_set_self hlen, rfl, rfl⟩) (fun f s6 hsp => ?_) (fun _ _ z => False.elim z)
      cases f with
      | next =>
        obtain ⟨σ6, H6, S6, rfl, rfl⟩ := hsp
        have U : Inv X ((a, oe4) :: pins) ((σ'.set i (some (.ref a))).set j (some (.ref a))) H6 s6 :=
          ⟨ok, S6.os, S6.bare, S6.base, S6.loc, S6.cell, S6.free, S6.freeC, fun p hp => S6.pin p (by
            rw [hpn] at hp ⊢
            rw [List.append_nil]
            exact hp), S6.hok, S6.len⟩
        refine gone_ok U hN hi hln fun s7 J7 => ⟨_, upd H6 a (exl a C d), ?_, hy2 a na⟩
        have J8 : Inv X pins (((σ'.set i (some (.ref a))).set j (some (.ref a))).set i none) H6 s7 :=
          ⟨ok, J7.os, J7.bare, J7.base, J7.loc, J7.cell, J7.free, J7.freeC, fun p hp => J7.pin p (by
            rcases List.mem_append.mp hp with z | z
            · exact List.mem_append_left _ z
            · exact List.mem_append_right _ (List.mem_cons_of_mem _ z)), J7.hok, J7.len⟩
        have pa := (J7.pin (a, oe4) (List.mem_append_right _ List.mem_cons_self)).1
        refine Inv.track J8 na n0 nL (fun x c e z => ?_) nP (exl_ok pa hz4.1 hz4.2 hd4)
        obtain ⟨v, o, ho, hd⟩ := J7.cell x c e
        rw [z, pa] at ho
        cases ho
        rw [hd4] at hd
        cases hd
      | brk =>
        obtain ⟨σ6, H6, S6, q6⟩ := hsp
        exact q6.elim
      | cont =>
        obtain ⟨σ6, H6, S6, q6⟩ := hsp
        exact q6.elim
      | ret u =>
        obtain ⟨v6, σ6, H6, S6, r6, q6⟩ := hsp
        exact q6.elim
    | false =>
      show wpAny _ X.A (handleBy (.ref a) X.env []) _ _ _
      refine wpAny_handleBy_nil ?_
      obtain ⟨k1, k2, k3, oe, vs, T, oT, ts', he, hz, hd, h1, hr⟩ := id fl3
      unfold PySem.passOn
      refine wpAny_bind (wpAny_field he hd h1 ?_)
      rw [if_neg (show ¬ ((Value.ref T == Value.none) = true) from by simp)]
      have fin : wpAny (model X.prog X.w) X.A (setFlight (.ref a) X.env.frame) (fun _ s4 => wpAny (model X.prog X.w) X.A (throw (.ref a) : Sem Flow) (SP X pins D) X.xe s4) X.xe { s' with heap := h3 } := by
        rw [hf]
        refine HandSPX.setFlight_upZ fl3 fun h4 hh4 up4 => wpAny_throw (tk _ _ ?_)
        exact ⟨a, B, sI, pins, σ', H', cls, d, rfl, J, nb, (up.trans up3).trans up4, .inr (.inr (by rw [hs]; exact hh4)), na, os, ag, hno rfl⟩
      first
        | exact wpAny_bind (wpAny_pure (wpAny_bind fin))
        | exact wpAny_bind fin
  · cases f with
    | next =>
      obtain ⟨σ', H', J', q⟩ := hsp
      exact wpAny_execs_nil ⟨σ', H', J'.ofTry ok, q⟩
    | brk =>
      obtain ⟨σ', H', J', q⟩ := hsp
      exact ⟨σ', H', J'.ofTry ok, q⟩
    | cont =>
      obtain ⟨σ', H', J', q⟩ := hsp
      exact ⟨σ', H', J'.ofTry ok, q⟩
    | ret u =>
      obtain ⟨v, σ', H', J', r, q⟩ := hsp
      exact ⟨v, σ', H', J'.ofTry ok, r, q⟩
end
end XR

/-! a reading, step by step -/
namespace XR
open PySem PySem.Spec PyProof.Rows L2
section
variable {σ : L2.St} {H : Hp} {Q : VK} {QT : Bool → Hp → Prop} {QA : List V → Hp → Prop} {v x y : V} {i j : Int} {n : Nat} {ta tb te : TE} {tr t : TA} {r : R2} {D : Ends} {s u : TS} {g : TG}
theorem rv_var (e : σ[n]? = some (some v)) (q : Q v H) : tVar n σ H Q := ⟨v, e, q⟩
theorem rv_c (q : Q v H) : tC v σ H Q := q
theorem rv_op (q : ta σ H fun x H1 => tb σ H1 fun y H2 => r x y H2 Q) : tOp r ta tb σ H Q := q
theorem rv_nil (q : QA [] H) : tNil σ H QA := q
theorem rv_cons (q : ta σ H fun x H1 => tr σ H1 fun xs H2 => QA (x :: xs) H2) : tCons ta tr σ H QA := q
theorem rv_rI0 {g : Int → Int → V} (q : Q (g i j) H) : rI0 g (.int i) (.int j) H Q := ⟨i, j, rfl, rfl, q⟩
theorem rv_rI {C : Int → Int → Prop} {g : Int → Int → V} (c : C i j) (q : Q (g i j) H) : rI C g (.int i) (.int j) H Q := ⟨i, j, rfl, rfl, c, q⟩
theorem rv_eq (c : scal x y = true) (q : Q (.bl (decide (x = y))) H) : rEq x y H Q := ⟨c, q⟩
theorem rv_ne (c : scal x y = true) (q : Q (.bl (!decide (x = y))) H) : rNe x y H Q := ⟨c, q⟩
theorem rv_test (q : te σ H fun x H' => ∃ k, x = .bl k ∧ QT k H') : tTest te σ H QT := q
theorem rv_bl {b : Bool} {P : Bool → Prop} (q : P b) : ∃ k, V.bl b = .bl k ∧ P k := ⟨b, rfl, q⟩
theorem rv_cb {r : List V → Hp → VK → Prop} (q : t σ H fun vs H1 => r vs H1 Q) : tCB r t σ H Q := q
theorem rv_call {sp : Sp} {dvs : List V} {E : XK} (q : t σ H fun vs H1 => sp (vs ++ dvs) H1 Q E) : tCall sp dvs E t σ H Q := q
theorem rv_tup (q : t σ H fun xs H1 => xs.length ≤ sizeLine ∧ ∀ p, H1 p = none → Q (.ref p) (upd H1 p (.tup xs))) : tTup t σ H Q := q
theorem rv_lst (q : t σ H fun xs H1 => xs.length ≤ sizeLine ∧ ∀ p, H1 p = none → Q (.ref p) (upd H1 p (.lst xs))) : tLst t σ H Q := q
theorem rs_seq (q : s { D with nx := u D } σ H) : tSeq s u D σ H := q
theorem rs_asg (q : te σ H fun x H1 => g x σ H1 D.nx) : tAsg te g D σ H := q
theorem rg_name {Q2 : L2.St → Hp → Prop} (q : Q2 (σ.set n (some v)) H) : gName n v σ H Q2 := q
theorem rs_ret (q : te σ H D.rt) : tRet te D σ H := q
theorem rs_next (q : D.nx σ H) : tNext D σ H := q
theorem rs_if {c : TT} (q : c σ H fun b H1 => if b = true then s D σ H1 else u D σ H1) : tIfS c s u D σ H := q
theorem rv_tB (q : te σ H fun x H' => ∃ k, x = .bl k ∧ QT k H') : tB te σ H QT := q
theorem rv_or {tA tB : TT} (q : tA σ H fun c H1 => if c = true then QT true H1 else tB σ H1 QT) : tOr tA tB σ H QT := q
theorem rv_and {tA tB : TT} (q : tA σ H fun c H1 => if c = true then tB σ H1 QT else QT false H1) : tAnd tA tB σ H QT := q
theorem rv_not {tA : TT} (q : tA σ H fun c H1 => QT (!c) H1) : tNot tA σ H QT := q
theorem rv_andV (q : ta σ H fun x H1 => ∃ c, x = .bl c ∧ if c = true then tb σ H1 Q else Q (.bl false) H1) : tAndV ta tb σ H Q := q
theorem rv_orV (q : ta σ H fun x H1 => ∃ c, x = .bl c ∧ if c = true then Q (.bl true) H1 else tb σ H1 Q) : tOrV ta tb σ H Q := q
theorem rv_notV (q : ta σ H fun x H1 => ∃ c, x = .bl c ∧ Q (.bl (!c)) H1) : tNotV ta σ H Q := q
theorem rv_ifE {tA : TT} (q : tA σ H fun c H1 => if c = true then ta σ H1 Q else tb σ H1 Q) : tIf tA ta tb σ H Q := q
theorem rs_drop (q : te σ H fun _ H1 => D.nx σ H1) : tDrop te D σ H := q
theorem rv_app {K : PySem.W.Frag} {l : Addr} {xs : List V} (e : σ[n]? = some (some (.ref l))) (h : H l = some (.lst xs)) (q : t σ H fun vs H2 => ∃ (zs : List V) (y : V), vs = [y] ∧ H2 l = some (.lst zs) ∧ zs.length < sizeLine ∧ Q .non (upd H2 l (.lst (zs ++ [y])))) : tBM K "list" rAppend (tVar n) t σ H Q := by
  refine ⟨_, e, .inl ⟨rfl, _, SqL.of h⟩, ?_⟩
  have : (fun vs H2 => ∃ (zs : List V) (y : V), vs = [y] ∧ H2 l = some (.lst zs) ∧ zs.length < sizeLine ∧ Q .non (upd H2 l (.lst (zs ++ [y])))) = fun (vs : List V) (H2 : Hp) => rAppend (.ref l) vs H2 Q := by
    funext vs H2
    refine propext ⟨fun ⟨zs, y, a, b, c, d⟩ => ⟨l, zs, y, rfl, a, b, c, d⟩, fun ⟨l', zs, y, a, b, c, d, f⟩ => ?_⟩
    cases a
    exact ⟨zs, y, b, c, d, f⟩
  rw [this] at q
  exact q
theorem ro_nx {n2 : L2.St → Hp → Prop} {rt : VK} {bk ct : L2.St → Hp → Prop} (q : n2 σ H) : (Ends.mk n2 rt bk ct).nx σ H := q
theorem ro_rt {n2 : L2.St → Hp → Prop} {rt : VK} {bk ct : L2.St → Hp → Prop} (q : rt v H) : (Ends.mk n2 rt bk ct).rt v H := q
theorem ro_ct {n2 : L2.St → Hp → Prop} {rt : VK} {bk ct : L2.St → Hp → Prop} (q : ct σ H) : (Ends.mk n2 rt bk ct).ct σ H := q
theorem ro_bk {n2 : L2.St → Hp → Prop} {rt : VK} {bk ct : L2.St → Hp → Prop} (q : bk σ H) : (Ends.mk n2 rt bk ct).bk σ H := q
end
end XR

namespace XR
open PySem PySem.Spec PyProof.Rows L2
section
variable {K : PySem.W.Frag} {σ : L2.St} {H : Hp} {Q : VK} {QT : Bool → Hp → Prop} {v : V} {i j l : Nat} {te : TE} {t : TA} {D : Ends} {tb : TS} {g : TG} {wi : TI} {R : It → Hp → Prop} {Qs : L2.St → Hp → Prop}
theorem rs_for (q : wi σ H fun J H1 => ∃ W : Nat → Nat → L2.St → Hp → Prop, (∃ m, W 0 m σ H1) ∧ ∀ i m σ H, W i m σ H →
  (J.stop i H ∧ D.nx σ H) ∨ (J.go i H ∧ ∃ N : L2.St → Hp → Prop, (∀ σ' H', N σ' H' → ∃ m', m' < m ∧ W (i + 1) m' σ' H') ∧ ∀ x H', J.yld i H x H' → g x σ H' fun σ2 H2 => tb { D with nx := N, ct := N, bk := D.nx } σ2 H2)) : tFor wi g tb D σ H := q
theorem ri_zip (q : t σ H fun vs H1 => ∃ a b xs ys, vs = [.ref a, .ref b] ∧ SqL K H1 a xs ∧ SqL K H1 b ys ∧ R (Itz K a b) H1) : iZip K t σ H R := q
theorem ri_list (q : te σ H fun x H1 => ∃ a, x = .ref a ∧ (∃ xs, SqL K H1 a xs) ∧ R (Itl K a) H1) : iList K te σ H R := q
theorem ri_rng1 (q : t σ H fun vs H1 => ∃ j : Int, vs = [.int j] ∧ -(2 ^ 62) ≤ j ∧ j < 2 ^ 62 ∧ R (Itr 0 j.toNat) H1) : iRng1 t σ H R := q
theorem rv_lc {tt : TT} {vs : List Nat} (q : wi σ H fun J H1 => ∀ D, H1 D = none → ∃ W : Nat → Nat → Hp → Prop, (∃ m, W 0 m (upd H1 D (.lst []))) ∧ ∀ i m H, W i m H →
  (J.stop i H ∧ Q (.ref D) H) ∨ (J.go i H ∧ ∃ Nx : Hp → Prop, (∀ H', Nx H' → ∃ m', m' < m ∧ W (i + 1) m' H') ∧ ∀ x H', J.yld i H x H' → g x (wipe σ vs) H' fun σ2 H2 => wipe σ2 vs = wipe σ vs ∧ tt σ2 H2 fun b H3 =>
    if b = true then te σ2 H3 fun y H4 => ∃ acc, H4 D = some (.lst acc) ∧ acc.length < sizeLine ∧ Nx (upd H4 D (.lst (acc ++ [y]))) else Nx H3)) : tLc wi g tt te vs σ H Q := q
theorem rv_xfl {f : Str} (q : te σ H fun x H1 => ∃ (a C dd : Addr) (fs : List (Str × V)) (v : V), x = .ref a ∧ ExAt H1 a C (some dd) ∧ DcAt H1 dd fs ∧ ExcK K C ∧ PySem.W.findIn K (.ref C) f = some none ∧ fs.lookup f = some v ∧ Q v H1) : tXfl K f te σ H Q := q
theorem rs_par3 (q : t σ H fun vs H1 => ∃ u v w, vs = [u, v, w] ∧ D.nx (((σ.set i (some u)).set j (some v)).set l (some w)) H1) : tPar3 i j l t D σ H := q
theorem rv_yes (q : QT true H) : tYes σ H QT := q
theorem rg_tup {n : Nat} {tg : TGs} (q : ∃ a xs, v = .ref a ∧ SqT K H a xs ∧ xs.length = n ∧ tg xs σ H Qs) : gTup K n tg v σ H Qs := q
theorem rg_cons {t1 : TG} {u : TGs} {vs : List V} (q : t1 v σ H fun σ' H' => u vs σ' H' Qs) : gCons t1 u (v :: vs) σ H Qs := ⟨v, vs, rfl, q⟩
theorem rg_nil (q : Qs σ H) : gNil [] σ H Qs := ⟨rfl, q⟩
theorem iteFe {c : Bool} {A B : Prop} (hc : c = false) (h : B) : if c = true then A else B := by
  rw [hc, if_neg Bool.false_ne_true]
  exact h
theorem iteTe {c : Bool} {A B : Prop} (hc : c = true) (h : A) : if c = true then A else B := by
  rw [hc, if_pos rfl]
  exact h
end
end XR

namespace XR
open PySem PySem.Spec PyProof.Rows L2 SX
section
variable {K : PySem.W.Frag} {σ : L2.St} {H : Hp} {Q : VK} {QT : Bool → Hp → Prop} {v x y : V} {i j : Int} {n : Nat} {ta tb tc te : TE} {t : TA} {r r' : R2} {D : Ends} {g : TG} {R : It → Hp → Prop} {Qo : Option Int → Hp → Prop}
theorem rv_chain (q : ta σ H fun x H1 => tb σ H1 fun y H2 => r x y H2 fun z H3 => ∃ k, z = .bl k ∧ (if k = true then tc σ H3 fun w' H4 => r' y w' H4 Q else Q (.bl false) H3)) : tChain r r' ta tb tc σ H Q := q
theorem ri_str (q : te σ H fun v H1 => ∃ x, v = .str x ∧ R (Its x) H1) : iStr te σ H R := q
theorem rv_sl {rr : V → Option Int → Option Int → Hp → VK → Prop} {tl th : TO} (q : te σ H fun x H1 => tl σ H1 fun l H2 => th σ H2 fun u H3 => rr x l u H3 Q) : tSl rr te tl th σ H Q := q
theorem rv_part (q : te σ H fun x H1 => ∃ i, x = .int i ∧ Qo (some i) H1) : tPart te σ H Qo := q
theorem rv_nopart (q : Qo none H) : tNoPart σ H Qo := q
theorem rv_callS {sp : Sp} {E : L2.St → XK} (q : t σ H fun vs H1 => sp vs H1 Q (E σ)) : tCallS sp E t σ H Q := q
theorem rv_le (q : Q (.bl (decide (i ≤ j))) H) : rI0 (fun i j => V.bl (decide (i ≤ j))) (.int i) (.int j) H Q := ⟨i, j, rfl, rfl, q⟩
def rLeS : R2 := fun x y H Q => ∃ i j, x = .str i ∧ y = .str j ∧ Q (.bl (!decide (j.cps.toList < i.cps.toList))) H
theorem op_leS {X : Cx} : OpR X (compareOp .LtE) rLeS := op_le_str
theorem lt1 (a b : Nat) : (([a] : List Nat) < [b]) ↔ a < b := by
  constructor
  · intro h
    cases h with
    | rel h => exact h
    | cons h => cases h
  · intro h
    exact .rel h
theorem rv_leS {a b : Nat} (q : Q (.bl (decide (a ≤ b))) H) : rLeS (.str (S [a])) (.str (S [b])) H Q := by
  refine ⟨_, _, rfl, rfl, ?_⟩
  have e : (!decide ((S [b]).cps.toList < (S [a]).cps.toList)) = decide (a ≤ b) := by
    show (!decide ([b] < [a])) = decide (a ≤ b)
    rw [← decide_not]
    exact decide_eq_decide.mpr (by rw [lt1]; omega)
  rw [e]
  exact q
theorem rv_inS {c : Nat} {z : List Nat} (q : Q (.bl (decide (c ∈ z))) H) : rInS (.str (S [c])) (.str (S z)) H Q := ⟨c, S z, rfl, rfl, q⟩
theorem at_S {t : List Nat} {k c : Nat} (hk : t[k]? = some c) (hl : t.length ≤ sizeLine) (q : Q (.str (S [c])) H) : rIxS (.str (S t)) (.int (k : Int)) H Q :=
  ⟨S t, k, c, rfl, rfl, by rw [S_len]; exact hl, atI_nat hk, q⟩
theorem cut_S {t : List Nat} (a b : Nat) : cutS (S t) (some (a : Int)) (some (b : Int)) = S ((t.drop a).take (b - a)) := by
  unfold cutS
  rw [HT.sIx_nat, HT.sIx_nat, S_len]
  show S ((t.drop (min a t.length)).take (min b t.length - min a t.length)) = _
  congr 1
  by_cases h : a ≤ t.length
  · rw [Nat.min_eq_left h]
    by_cases h2 : b ≤ t.length
    · rw [Nat.min_eq_left h2]
    · rw [show min b t.length = t.length from by omega, List.take_of_length_le (by simp), List.take_of_length_le (by simp; omega)]
  · rw [show min a t.length = t.length from by omega, List.drop_of_length_le (Nat.le_refl _), List.drop_of_length_le (by omega)]
    simp
theorem rv_cut {t : List Nat} {a b : Nat} (hl : t.length ≤ sizeLine) (q : Q (.str (S ((t.drop a).take (b - a)))) H) : rSlS (.str (S t)) (some (a : Int)) (some (b : Int)) H Q :=
  ⟨S t, rfl, by rw [S_len]; exact hl, by rw [cut_S]; exact q⟩
theorem rv_lenS {t : List Nat} (hl : t.length ≤ sizeLine) (q : Q (.int (t.length : Nat)) H) : ∃ z, [V.str (S t)] = [.str z] ∧ z.length ≤ sizeLine ∧ Q (.int z.length) H :=
  ⟨S t, rfl, by rw [S_len]; exact hl, by rw [S_len]; exact q⟩
end
end XR

/-! enumerate of a text -/
namespace XR
open PySem PySem.Spec PyProof.Rows L2
def Ites (x : Str) : It := ⟨fun i _ => i < x.cps.size, fun i H v H' => ∃ T c, v = .ref T ∧ H T = none ∧ x.cps[i]? = some c ∧ H' = upd H T (.tup [.int (i : Nat), .str ⟨#[c]⟩]), fun i _ => i = x.cps.size⟩
theorem turn_enumS {P : Program} {w : World} {K : PySem.W.Frag} {elts : List Expr} {kk : Nat} {tpos : Pos} (e it : Addr) (x : Str) (t : Tok) :
    Turn P w K (.Tuple elts kk tpos) (Ites x) [e, it] e (fun i h => (∃ old, IsEnum h e it ((i : Nat) : Int) old) ∧ h.IsStrIter it (strIterType x) x t i ∧ e ≠ it) where
  mem := by simp
  obj := fun i h st b hb => by
    obtain ⟨⟨old, he⟩, ⟨o, ho, hc, hd⟩, _⟩ := st
    have e' : b = e ∨ b = it := by simpa using hb
    rcases e' with z | z
    · rw [z]; exact ⟨_, he, fun v q => nomatch q⟩
    · rw [z]; exact ⟨o, ho, fun v q => by rw [hd] at q; cases q⟩
  keep := fun i h h' st k => let ⟨⟨old, he⟩, ⟨o, ho, r⟩, hne⟩ := st; ⟨⟨old, k e (by simp) _ he⟩, ⟨o, k it (by simp) o ho, r⟩, hne⟩
  item := by
    intro X hP hw hK hc i pins s σ H E I hf st hg
    subst hP hw hK
    obtain ⟨⟨old, he⟩, hit, hne⟩ := st
    have hel : e < s.heap.objs.size := Heap.lt_size he
    have hil : it < s.heap.objs.size := by obtain ⟨_, q, _⟩ := hit; exact Heap.lt_size q
    have D := Draws.text (prog := X.prog) (w := X.w) (A := X.A.in1) (I.ok.hd hc) it x t
    refine wpAny_pyNext_enum_itemC D he hit hg hne (by simpa using hne) fun u h' tk hu ho hit' hT hsz hk => ?_
    obtain ⟨c, tc, hx, rfl⟩ := hu
    refine ⟨_, rfl, wpAny_letOwnedTupleGo_enum (s := { s with heap := h', toks := tk + 1 }) ho fun h'' he' sb => ?_⟩
    have hT2 : h''.get? s.heap.objs.size = some { cls := .type "tuple", data := .seq #[.int i tk, .str ⟨#[c]⟩ tc] } := (sb.2 _ (Nat.ne_of_gt hel)).trans hT
    have new : ObjOk X.prog X.w (upd H s.heap.objs.size (.tup [.int (i : Nat), .str ⟨#[c]⟩])) h'' s.heap.objs.size (.tup [.int (i : Nat), .str ⟨#[c]⟩]) :=
      ⟨by show 2 ≤ sizeLine; decide, [.int i tk, .str ⟨#[c]⟩ tc], .cons ⟨_, rfl⟩ (.cons ⟨_, rfl⟩ .nil), ⟨_, hT2, rfl, _, rfl⟩⟩
    have I1 : Inv X pins σ (upd H s.heap.objs.size (.tup [.int (i : Nat), .str ⟨#[c]⟩])) { s with heap := h'', toks := tk + 1 } :=
      I.turnedNew (ch := [e, it]) (fun b ob hb q => (sb.2 b (fun z => hb (by simp [z]))).trans (hk b ob (fun z => hb (by simp [z])) (fun z => hb (by simp [z])) q)) hf (Nat.le_refl _) new
    refine ⟨.ref s.heap.objs.size, _, I1, rfl, ⟨_, c, rfl, I.hok.fresh (Nat.le_refl _), hx, rfl⟩, ⟨⟨.str ⟨#[c]⟩ tc, ?_⟩, ?_, hne⟩, fun b hb => ?_⟩
    · have e1 : ((i + 1 : Nat) : Int) = (i : Int) + 1 := by omega
      rw [e1]; exact he'
    · obtain ⟨o, z, r⟩ := hit'
      exact ⟨o, (sb.2 it (Ne.symm hne)).trans z, r⟩
    · have hb' : b < s.heap.objs.size := by
        have e' : b = e ∨ b = it := by simpa using hb
        rcases e' with z | z
        · rw [z]; exact hel
        · rw [z]; exact hil
      rw [upd_ne (Nat.ne_of_lt hb')]
      exact (hf b hb).1
  done := by
    intro X hP hw hK hc i pins s σ H E I hf st hg
    subst hP hw hK
    obtain ⟨⟨old, he⟩, hit, hne⟩ := st
    obtain ⟨f0, f1, f2, f3, f4, f5⟩ := hf it (by simp)
    have D := Draws.text (prog := X.prog) (w := X.w) (A := X.A.in1) (I.ok.hd hc) it x t
    have e : i = x.cps.size := hg
    subst e
    exact wpAny_pyNext_enum_endD D he hit fun h' eb => ⟨rfl, I.turned (t' := s.toks) (fun b o hb q => eb b o hb q) f0 f1 f3 f4 f5⟩
  self := fun A i s Q E st h => let ⟨⟨_, he⟩, _⟩ := st; wpAny_pyIter_enum he h
def iEnumS (ta : TA) : TI := fun σ H R => ta σ H fun vs H1 => ∃ x, vs = [.str x] ∧ R (Ites x) H1
theorem pi_enumS {X : Cx} {e : Expr} {ta : TA} {p pos tpos : Pos} {elts : List Expr} {kk : Nat} (hg : Gl X "enumerate") (hm : X.mg "enumerate" = none) (ha : PA X [e] ta) (hs : starEach [e] X.env = [(false, eval e X.env)] := by rfl) :
    PI X (.Tuple elts kk tpos) (.Call (.Name "enumerate" p) [e] [] pos) (iEnumS ta) := by
  refine ⟨fun pins s σ H R I h => ?_⟩
  refine Call_ (ld_blt I hg hm boot_enumerate (PyProof.Rows.callWith_type1 (thn (ha.run pos pins s σ H _ I h) fun us s1 ⟨vs, H1, I1, r1, q1⟩ => ?_) hs rfl))
  obtain ⟨x, ex, q⟩ := q1
  subst ex
  cases r1 with
  | cons r rr =>
    cases rr
    obtain ⟨t, rfl⟩ := r
    refine call_enumerate_str fun h' he hit hsz hk => wpAny_pyIter_enum he ?_
    have I2 : Inv X pins σ H1 { s1 with heap := h' } := I1.kept (t' := s1.toks) hk
    refine ⟨s1.heap.objs.size + 1, [s1.heap.objs.size + 1, s1.heap.objs.size], _, _, H1, rfl, I2, turn_enumS (s1.heap.objs.size + 1) s1.heap.objs.size x t, ⟨⟨.none, he⟩, hit, Nat.succ_ne_self _⟩, fun b hb => ?_, q⟩
    have e' : b = s1.heap.objs.size + 1 ∨ b = s1.heap.objs.size := by simpa using hb
    have hle : s1.heap.objs.size ≤ b := by
      rcases e' with z | z
      · rw [z]; exact Nat.le_add_right _ _
      · rw [z]; exact Nat.le_refl _
    exact I1.fpOk hle (I1.hok.fresh hle)
theorem walk_enumS {z : Str} : Walk (Ites z) z.cps.size (fun _ => True) (fun i H v H' => ∃ T c, v = .ref T ∧ H T = none ∧ z.cps[i]? = some c ∧ H' = upd H T (.tup [.int (i : Nat), .str ⟨#[c]⟩])) :=
  ⟨fun _ _ hi _ => hi, fun _ _ => rfl, fun _ _ _ _ _ _ y => y⟩
end XR
namespace XR
open PySem PySem.Spec PyProof.Rows L2
theorem paired_of {α β : Type} {G : α → β → Prop} : ∀ {xs : List α} {ys : List β}, xs.length = ys.length → (∀ (i : Nat) (x : α) (y : β), xs[i]? = some x → ys[i]? = some y → G x y) → Paired G xs ys
  | [], [], _, _ => .nil
  | x :: xs, y :: ys, h, k => .cons (k 0 x y rfl rfl) (paired_of (by simpa using h) fun i a b e f => k (i + 1) a b (by simpa using e) (by simpa using f))
  | [], _ :: _, h, _ => by simp at h
  | _ :: _, [], h, _ => by simp at h
/-- list(text) -/
def rListS : List V → Hp → VK → Prop := fun xs H Q => ∃ x : Str, xs = [.str x] ∧ x.cps.size ≤ sizeLine ∧ ∀ l, H l = none → Q (.ref l) (upd H l (.lst (x.cps.toList.map fun c => V.str ⟨#[c]⟩)))
theorem call_listS {X : Cx} (hc : X.calm = true) : CallR X (.type "list") rListS := by
  intro pins s σ H xs us Q I r h
  obtain ⟨x, rfl, hz, q⟩ := h
  obtain ⟨u, rfl, rx⟩ := vals1 r
  obtain ⟨t, rfl⟩ := rx
  refine call_list_str (hn := hz) (I.ok.hd hc) x t fun h' tk acc c' kp e it => ?_
  have r' : Vals (x.cps.toList.map fun c => V.str ⟨#[c]⟩) acc.toList := paired_of (by simp [it.1]) fun i a b ha hb => by
    have hb' : acc[i]? = some b := by simpa using hb
    obtain ⟨c, u, hx, rfl⟩ := it.2 i b hb'
    have hx' : x.cps.toList[i]? = some c := by simpa using hx
    rw [List.getElem?_map, hx'] at ha
    cases ha
    exact ⟨_, rfl⟩
  exact ⟨.ref s.heap.objs.size, _, I.laid (t' := tk) kp (Nat.le_refl _) (show ObjOk X.prog X.w _ h' _ (.lst _) from ⟨by simpa using hz, acc.toList, c', r', by simpa using e⟩), rfl, q _ (I.hok.fresh (Nat.le_refl _))⟩
end XR

/-! enumerate of a tuple, also with a start -/
namespace PySem
open Sem (wp)
theorem meets_enumerate_newB1 {v : Value} {o : Obj} {H : Heap → Prop} (B : Begins v o H) :
    Meets (Builtin.«enumerate.__new__» ⟨[.type "enumerate", v], []⟩) (fun _ R s => H s.heap ∧
      R (.ok (.ret (.ref (s.heap.push o).objs.size))) { s with heap := (s.heap.push o).push { cls := .type "enumerate", data := .fields #[.none, .bool false, .ref s.heap.objs.size, rawInt 0, .none, .none] } }) :=
  .of_wp fun prog w A R s h => by
    obtain ⟨hp, g, d, tk, os⟩ := s; obtain ⟨h1, h⟩ := h
    have hsub := sub_enumerate
    have q1 : ∀ {A' : Around} {E : Value → Shared → Prop} {Q : Value → Shared → Prop}, Q (.ref hp.objs.size) ⟨hp.push o, g, d, tk, os⟩ → wpAny (model prog w) A' (pyIter v) Q E ⟨hp, g, d, tk, os⟩ :=
      fun q => B.iter prog w _ _ ⟨hp, g, d, tk, os⟩ _ h1 q
    wp_walk using q1
    refine wpAny_stack_any fun st => wpAny_pure ?_
    split
    · rename_i c _ _ _ _ _
      cases (c == Value.type "enumerate")
      · wp_walk using q1
        exact ⟨_, rfl, h⟩
      · wp_walk using q1
        exact ⟨_, rfl, h⟩
    · wp_walk using q1
      exact ⟨_, rfl, h⟩
section
variable {prog : Program} {w : World} {A : Around} {E : Value → Shared → Prop} {s : Shared}
theorem enum_begins1 {v : Value} {o : Obj} {H : Heap → Prop} {Q : Value → Shared → Prop} (B : Begins v o H) (h1 : H s.heap)
    (h : ∀ h', IsEnum h' (s.heap.objs.size + 1) s.heap.objs.size 0 .none → h'.get? s.heap.objs.size = some o → h'.objs.size = s.heap.objs.size + 2 →
      (∀ b o, s.heap.get? b = some o → h'.get? b = some o) → Q (.ref (s.heap.objs.size + 1)) { s with heap := h' }) :
    wpAny (model prog w) A (call (.type "enumerate") [v]) Q E s := by
  refine callType_new F.called_enumerate (by decide) (F.typeCall_enumerate_1 _) (F.newCall_enumerate_1 _) (fun obj => F.args_object_init_2 obj _) F.entry_enumerate_new
    (meets_enumerate_newB1 B) ⟨h1, ?_⟩
  have hz : (s.heap.push o).objs.size = s.heap.objs.size + 1 := Heap.size_push ..
  show _ ∧ _
  rw [hz]
  have he : IsEnum ((s.heap.push o).push { cls := .type "enumerate", data := .fields #[.none, .bool false, .ref s.heap.objs.size, rawInt 0, .none, .none] }) (s.heap.objs.size + 1) s.heap.objs.size 0 .none := by
    have := Heap.get?_push_size (s.heap.push o) (o := { cls := .type "enumerate", data := .fields #[.none, .bool false, .ref s.heap.objs.size, rawInt 0, .none, .none] }) rfl
    rw [hz] at this; exact this
  refine ⟨⟨_, he, rfl⟩, h _ he (Heap.get?_push_of_some _ (Heap.get?_push_size _ B.free)) (by rw [Heap.size_push, hz]) fun b o x => Heap.get?_push_of_some _ (Heap.get?_push_of_some _ x)⟩
end
end PySem
namespace XR
open PySem PySem.Spec PyProof.Rows L2
def Itet (K : PySem.W.Frag) (a : Addr) (k : Int) : It :=
  ⟨fun i H => ∃ (xs : List V) (x : V), SqT K H a xs ∧ xs[i]? = some x, fun i H v H' => ∃ T x, v = .ref T ∧ H T = none ∧ H' = upd H T (.tup [.int (k + (i : Nat)), x]) ∧ ∀ xs, SqT K H a xs → xs[i]? = some x, fun i H => ∃ xs : List V, SqT K H a xs ∧ xs.length = i⟩
theorem turn_enumT {P : Program} {w : World} {K : PySem.W.Frag} {elts : List Expr} {kk : Nat} {tpos : Pos} (a e it : Addr) (k0 : Int) :
    Turn P w K (.Tuple elts kk tpos) (Itet K a k0) [e, it] e (fun i h => (∃ old, IsEnum h e it (k0 + ((i : Nat) : Int)) old) ∧ h.IsTupleIter it a i ∧ e ≠ it) where
  mem := by simp
  obj := fun i h st b hb => by
    obtain ⟨⟨old, he⟩, ⟨o, ho, hc, hd⟩, _⟩ := st
    have e' : b = e ∨ b = it := by simpa using hb
    rcases e' with z | z
    · rw [z]; exact ⟨_, he, fun v q => nomatch q⟩
    · rw [z]; exact ⟨o, ho, fun v q => by rw [hd] at q; cases q⟩
  keep := fun i h h' st k => let ⟨⟨old, he⟩, hi, hne⟩ := st; ⟨⟨old, k e (by simp) _ he⟩, hi.at fun o q => k it (by simp) o q, hne⟩
  item := by
    intro X hP hw hK hc i pins s σ H E I hf st hg
    subst hP hw hK
    obtain ⟨⟨old, he⟩, hit, hne⟩ := st
    obtain ⟨xs, x, hq, hx⟩ := hg
    obtain ⟨its, rv, p, hz⟩ := I.tuple hq
    obtain ⟨u, hu, ru⟩ := rv.get hx
    have hel : e < s.heap.objs.size := Heap.lt_size he
    have hil : it < s.heap.objs.size := by obtain ⟨_, q, _⟩ := hit; exact Heap.lt_size q
    have hti : s.heap.IsTuple a its.toArray := p
    have hai : a ≠ it := fun z => by
      obtain ⟨o, ho, hc, _⟩ := hti
      obtain ⟨o2, ho2, hc2, _⟩ := hit
      rw [z] at ho
      have ho' : s.heap.get? it = some o := ho
      rw [ho'] at ho2
      cases ho2
      rw [hc] at hc2
      exact absurd (Value.type.inj hc2) (by decide)
    have hea : e ≠ a := fun z => by
      obtain ⟨o, ho, hc, _⟩ := hti
      have he' : s.heap.get? e = _ := he
      rw [z, ho] at he'
      have := Option.some.inj he'
      rw [this] at hc
      exact absurd (Value.type.inj hc) (by decide)
    have D := Draws.tuple (prog := X.prog) (w := X.w) (A := X.A.in1) (I.ok.hd hc) it a hai its.toArray
    have hx' : i < its.toArray.size := by
      have := (List.getElem?_eq_some_iff.mp hu).1
      simpa using this
    refine wpAny_pyNext_enum_itemC D he ⟨hit, hti⟩ hx' hne (by simp; exact ⟨hne, hea⟩) fun v h' tk hv ho hit' hT hsz hk => ?_
    have ev : v = u := by
      rw [show its.toArray[i]? = its[i]? by simp, hu] at hv
      exact (Option.some.inj hv).symm
    subst ev
    refine ⟨_, rfl, wpAny_letOwnedTupleGo_enum (s := { s with heap := h', toks := tk + 1 }) ho fun h'' he' sb => ?_⟩
    have hT2 : h''.get? s.heap.objs.size = some { cls := .type "tuple", data := .seq #[.int (k0 + (i : Nat)) tk, v] } := (sb.2 _ (Nat.ne_of_gt hel)).trans hT
    have new : ObjOk X.prog X.w (upd H s.heap.objs.size (.tup [.int (k0 + (i : Nat)), x])) h'' s.heap.objs.size (.tup [.int (k0 + (i : Nat)), x]) :=
      ⟨by show 2 ≤ sizeLine; decide, [.int (k0 + (i : Nat)) tk, v], .cons ⟨_, rfl⟩ (.cons ru .nil), ⟨_, hT2, rfl, _, rfl⟩⟩
    have I1 : Inv X pins σ (upd H s.heap.objs.size (.tup [.int (k0 + (i : Nat)), x])) { s with heap := h'', toks := tk + 1 } :=
      I.turnedNew (ch := [e, it]) (fun b ob hb q => (sb.2 b (fun z => hb (by simp [z]))).trans (hk b ob (fun z => hb (by simp [z])) (fun z => hb (by simp [z])) q)) hf (Nat.le_refl _) new
    refine ⟨.ref s.heap.objs.size, _, I1, rfl, ⟨_, x, rfl, I.hok.fresh (Nat.le_refl _), rfl, fun ys hy => by rw [I.tuple_inj hy hq]; exact hx⟩, ⟨⟨v, ?_⟩, ?_, hne⟩, fun b hb => ?_⟩
    · have e1 : k0 + ((i + 1 : Nat) : Int) = k0 + (i : Int) + 1 := by omega
      rw [e1]; exact he'
    · exact hit'.1.at fun o q => (sb.2 it (Ne.symm hne)).trans q
    · have hb' : b < s.heap.objs.size := by
        have e' : b = e ∨ b = it := by simpa using hb
        rcases e' with z | z
        · rw [z]; exact hel
        · rw [z]; exact hil
      rw [upd_ne (Nat.ne_of_lt hb')]
      exact (hf b hb).1
  done := by
    intro X hP hw hK hc i pins s σ H E I hf st hg
    subst hP hw hK
    obtain ⟨⟨old, he⟩, hit, hne⟩ := st
    obtain ⟨xs, hq, hx⟩ := hg
    obtain ⟨its, rv, p, hz⟩ := I.tuple hq
    obtain ⟨f0, f1, f2, f3, f4, f5⟩ := hf it (by simp)
    have hl := rv.length
    have hti : s.heap.IsTuple a its.toArray := p
    have hai : a ≠ it := fun z => by
      obtain ⟨o, ho, hc, _⟩ := hti
      obtain ⟨o2, ho2, hc2, _⟩ := hit
      rw [z] at ho
      have ho' : s.heap.get? it = some o := ho
      rw [ho'] at ho2
      cases ho2
      rw [hc] at hc2
      exact absurd (Value.type.inj hc2) (by decide)
    have D := Draws.tuple (prog := X.prog) (w := X.w) (A := X.A.in1) (I.ok.hd hc) it a hai its.toArray
    have en : its.toArray.size = i := by simp; omega
    rw [en] at D
    exact wpAny_pyNext_enum_endD D he ⟨hit, hti⟩ fun h' eb => ⟨rfl, I.turned (t' := s.toks) (fun b o hb q => eb b o hb q) f0 f1 f3 f4 f5⟩
  self := fun A i s Q E st h => let ⟨⟨_, he⟩, _⟩ := st; wpAny_pyIter_enum he h
def iEnumT (K : PySem.W.Frag) (ta : TA) : TI := fun σ H R => ta σ H fun vs H1 => ∃ a xs, vs = [.ref a] ∧ SqT K H1 a xs ∧ R (Itet K a 0) H1
def iEnumTk (K : PySem.W.Frag) (ta : TA) : TI := fun σ H R => ta σ H fun vs H1 => ∃ a xs k, vs = [.ref a, .int k] ∧ SqT K H1 a xs ∧ -(2 ^ 63) ≤ k ∧ k < 2 ^ 63 ∧ R (Itet K a k) H1
section
variable {X : Cx} {e e2 : Expr} {ta : TA} {p pos tpos : Pos} {elts : List Expr} {kk : Nat}
theorem pi_enumT (hg : Gl X "enumerate") (hm : X.mg "enumerate" = none) (ha : PA X [e] ta) (hs : starEach [e] X.env = [(false, eval e X.env)] := by rfl) :
    PI X (.Tuple elts kk tpos) (.Call (.Name "enumerate" p) [e] [] pos) (iEnumT X.K ta) := by
  refine ⟨fun pins s σ H R I h => ?_⟩
  refine Call_ (ld_blt I hg hm boot_enumerate (PyProof.Rows.callWith_type1 (thn (ha.run pos pins s σ H _ I h) fun us s1 ⟨vs, H1, I1, r1, q1⟩ => ?_) hs rfl))
  obtain ⟨a, xs, ex, hq, q⟩ := q1
  subst ex
  cases r1 with
  | cons r rr =>
    cases rr
    cases r
    obtain ⟨its, rv, p', hz⟩ := I1.tuple hq
    have hti : s1.heap.IsTuple a its.toArray := p'
    refine enum_begins1 (begins_tuple a its.toArray) hti fun h' he hit hsz hk => wpAny_pyIter_enum he ?_
    have I2 : Inv X pins σ H1 { s1 with heap := h' } := I1.kept (t' := s1.toks) hk
    refine ⟨s1.heap.objs.size + 1, [s1.heap.objs.size + 1, s1.heap.objs.size], _, _, H1, rfl, I2, turn_enumT a (s1.heap.objs.size + 1) s1.heap.objs.size 0, ⟨⟨.none, he⟩, ⟨_, hit, rfl, rfl⟩, Nat.succ_ne_self _⟩, fun b hb => ?_, q⟩
    have e' : b = s1.heap.objs.size + 1 ∨ b = s1.heap.objs.size := by simpa using hb
    have hle : s1.heap.objs.size ≤ b := by
      rcases e' with z | z
      · rw [z]; exact Nat.le_add_right _ _
      · rw [z]; exact Nat.le_refl _
    exact I1.fpOk hle (I1.hok.fresh hle)
theorem pi_enumTk (hg : Gl X "enumerate") (hm : X.mg "enumerate" = none) (ha : PA X [e, e2] ta) (hs : starEach [e, e2] X.env = (false, eval e X.env) :: starEach [e2] X.env := by rfl) (hpl : (backTo pos (starEach [e2] X.env)).any (·.1) = false := by rfl) :
    PI X (.Tuple elts kk tpos) (.Call (.Name "enumerate" p) [e, e2] [] pos) (iEnumTk X.K ta) := by
  refine ⟨fun pins s σ H R I h => ?_⟩
  refine Call_ (ld_blt I hg hm boot_enumerate (PyProof.Rows.callWith_type1 (thn (ha.run pos pins s σ H _ I h) fun us s1 ⟨vs, H1, I1, r1, q1⟩ => ?_) hs hpl))
  obtain ⟨a, xs, k, ex, hq, hk0, hk1, q⟩ := q1
  subst ex
  obtain ⟨u1, u2, rfl, r1, r2⟩ := vals2 r1
  cases r1
  obtain ⟨t2, rfl⟩ := r2
  obtain ⟨its, rv, p', hz⟩ := I1.tuple hq
  have hti : s1.heap.IsTuple a its.toArray := p'
  refine enum_begins (begins_tuple a its.toArray) hti hk0 hk1 fun h' he hit hsz hk => wpAny_pyIter_enum he ?_
  have I2 : Inv X pins σ H1 { s1 with heap := h' } := I1.kept (t' := s1.toks) hk
  refine ⟨s1.heap.objs.size + 1, [s1.heap.objs.size + 1, s1.heap.objs.size], _, _, H1, rfl, I2, turn_enumT a (s1.heap.objs.size + 1) s1.heap.objs.size k, ⟨⟨.none, ?_⟩, ⟨_, hit, rfl, rfl⟩, Nat.succ_ne_self _⟩, fun b hb => ?_, q⟩
  · have e0 : k + ((0 : Nat) : Int) = k := by omega
    rw [e0]; exact he
  have e' : b = s1.heap.objs.size + 1 ∨ b = s1.heap.objs.size := by simpa using hb
  have hle : s1.heap.objs.size ≤ b := by
    rcases e' with z | z
    · rw [z]; exact Nat.le_add_right _ _
    · rw [z]; exact Nat.le_refl _
  exact I1.fpOk hle (I1.hok.fresh hle)
end
section
variable {K : PySem.W.Frag} {a : Addr} {xs : List V} {k : Int}
theorem walk_enumT : Walk (Itet K a k) xs.length (fun H => SqT K H a xs) (YPair (fun i => some (.int (k + (i : Nat)))) (fun i => xs[i]?)) := by
  refine ⟨fun i _ hi q => ⟨xs, xs[i], q, by simp [hi]⟩, fun _ q => ⟨xs, q, rfl⟩, fun i H v H' _ q y => ?_⟩
  obtain ⟨T, x, h1, h2, h3, h4⟩ := y
  exact ⟨T, .int (k + (i : Nat)), x, h1, h2, h3, rfl, h4 xs q⟩
variable {σ : L2.St} {H : Hp} {R : It → Hp → Prop} {t : TA}
theorem ri_enumT (q : t σ H fun vs H1 => ∃ a xs, vs = [.ref a] ∧ SqT K H1 a xs ∧ R (Itet K a 0) H1) : iEnumT K t σ H R := q
theorem ri_enumTk (q : t σ H fun vs H1 => ∃ a xs k, vs = [.ref a, .int k] ∧ SqT K H1 a xs ∧ -(2 ^ 63) ≤ k ∧ k < 2 ^ 63 ∧ R (Itet K a k) H1) : iEnumTk K t σ H R := q
end
end XR

/-! zip of a list and a tuple -/
namespace XR
open PySem PySem.Spec PyProof.Rows L2
section
variable {K : PySem.W.Frag} {a b : Addr}
def ItzM (K : PySem.W.Frag) (a b : Addr) : It where
  go := fun i H => ∃ (xs ys : List V) (x y : V), SqL K H a xs ∧ SqT K H b ys ∧ xs[i]? = some x ∧ ys[i]? = some y
  yld := fun i H v H' => ∃ T x y, v = .ref T ∧ H T = none ∧ H' = upd H T (.tup [x, y]) ∧ (∀ xs, SqL K H a xs → xs[i]? = some x) ∧ ∀ ys, SqT K H b ys → ys[i]? = some y
  stop := fun i H => ∃ xs ys : List V, SqL K H a xs ∧ SqT K H b ys ∧ i ≤ xs.length ∧ i ≤ ys.length ∧ (i = xs.length ∨ i = ys.length)
theorem turn_zipM {P : Program} {w : World} {elts : List Expr} {kk : Nat} {tpos : Pos} {z TI TO i1 i2 : Addr} (S : ZipSep2 z TI TO i1 i2 [i1, a] [i2, b]) (na : a ≠ i1) (nb : b ≠ i2) :
    Turn P w K (.Tuple elts kk tpos) (ItzM K a b) [z, TI, TO, i1, i2] z (fun i h => IsZip h z TI TO .none ∧ IsTupOf2 h TI (.ref i1) (.ref i2) ∧ (∃ x y, IsTupOf2 h TO x y) ∧ h.IsListIter i1 a i ∧ h.IsTupleIter i2 b i) where
  mem := List.mem_cons_self
  obj := fun i h st c hc => by
    obtain ⟨hz, hTI, ⟨x, y, hTO⟩, ⟨o1, e1, _, d1⟩, ⟨o2, e2, _, d2⟩⟩ := st
    simp only [List.mem_cons, List.not_mem_nil, or_false] at hc
    rcases hc with rfl | rfl | rfl | rfl | rfl
    · exact ⟨_, hz, fun v => nofun⟩
    · exact ⟨_, hTI, fun v => nofun⟩
    · exact ⟨_, hTO, fun v => nofun⟩
    · exact ⟨o1, e1, fun v q => by rw [q] at d1; cases d1⟩
    · exact ⟨o2, e2, fun v q => by rw [q] at d2; cases d2⟩
  keep := fun i h h' ⟨hz, hTI, ⟨x, y, hTO⟩, h1, h2⟩ k =>
    ⟨k z (by simp) _ hz, k TI (by simp) _ hTI, ⟨x, y, k TO (by simp) _ hTO⟩, h1.at (k i1 (by simp)), h2.at (k i2 (by simp))⟩
  item := by
    rintro X rfl rfl rfl hc i pins s σ H E I hf ⟨hz, hTI, ⟨x0, y0, hTO⟩, h1, h2⟩ ⟨xs, ys, x, y, qx, qy, ex, ey⟩
    obtain ⟨l1, v1, p1, _⟩ := I.list qx
    obtain ⟨l2, v2, p2, _⟩ := I.tuple qy
    obtain ⟨u1, w1, r1⟩ := v1.get ex
    obtain ⟨u2, w2, r2⟩ := v2.get ey
    have b1 : i < l1.toArray.size := by simpa using (List.getElem?_eq_some_iff.mp w1).1
    have b2 : i < l2.toArray.size := by simpa using (List.getElem?_eq_some_iff.mp w2).1
    have zl : z < s.heap.objs.size := Heap.lt_size hz
    refine wpAny_pyNext_zipD2_item S (Draws.list (A := X.A.in1) (I.ok.hd hc) i1 a na l1.toArray) (Draws.tuple (A := X.A.in1) (I.ok.hd hc) i2 b nb l2.toArray) hz hTI hTO ⟨h1, p1.isList⟩ ⟨h2, p2⟩ b1 b2 fun y1 y2 g tk f1 f2 z' TO' t1 t2 hT hs hk => ?_
    have e1 : y1 = u1 := by
      have f1 : l1.toArray[i]? = some y1 := f1
      rw [List.getElem?_toArray, w1] at f1
      exact (Option.some.inj f1).symm
    have e2 : y2 = u2 := by
      have f2 : l2.toArray[i]? = some y2 := f2
      rw [List.getElem?_toArray, w2] at f2
      exact (Option.some.inj f2).symm
    subst e1 e2
    refine ⟨_, rfl, wpAny_letOwnedTupleGo_zip (s := { s with heap := g, toks := tk }) z' fun g2 z2 sb => ?_⟩
    have hT2 : g2.get? s.heap.objs.size = some { cls := .type "tuple", data := .seq #[y1, y2] } := (sb.2 _ (Nat.ne_of_gt zl)).trans hT
    have nw : ObjOk X.prog X.w (upd H s.heap.objs.size (.tup [x, y])) g2 s.heap.objs.size (.tup [x, y]) := ⟨by show 2 ≤ sizeLine; decide, [y1, y2], .cons r1 (.cons r2 .nil), _, hT2, rfl, _, rfl⟩
    have far : ∀ (c : Addr) (o : Obj), c ∉ [z, TI, TO, i1, i2] → s.heap.get? c = some o → g2.get? c = some o := fun c o hb q => by
      simp only [List.mem_cons, List.not_mem_nil, or_false, not_or] at hb
      exact (sb.2 c hb.1).trans (hk c o hb.1 hb.2.2.1 hb.2.2.2.1 hb.2.2.2.2 q)
    have J : Inv X pins σ (upd H s.heap.objs.size (.tup [x, y])) { s with heap := g2, toks := tk } := I.turnedNew far hf (Nat.le_refl _) nw
    refine ⟨.ref s.heap.objs.size, _, J, rfl, ⟨_, x, y, rfl, I.hok.fresh (Nat.le_refl _), rfl, fun l hl => by rw [I.list_inj hl qx]; exact ex, fun l hl => by rw [I.tuple_inj hl qy]; exact ey⟩, ⟨z2, ?_, ⟨y1, y2, ?_⟩, ?_, ?_⟩, fun c hcm => ?_⟩
    · exact (sb.2 _ S.TIz).trans (hk _ _ S.TIz S.TITO S.TIi1 S.TIi2 hTI)
    · exact (sb.2 _ S.TOz).trans TO'
    · exact t1.1.at fun o q => (sb.2 _ S.zi1.symm).trans q
    · exact t2.1.at fun o q => (sb.2 _ S.zi2.symm).trans q
    · have below : c < s.heap.objs.size := by
        simp only [List.mem_cons, List.not_mem_nil, or_false] at hcm
        rcases hcm with rfl | rfl | rfl | rfl | rfl
        · exact zl
        · exact Heap.lt_size hTI
        · exact Heap.lt_size hTO
        · exact let ⟨_, e1, _⟩ := h1; Heap.lt_size e1
        · exact let ⟨_, e2, _⟩ := h2; Heap.lt_size e2
      rw [upd_ne (Nat.ne_of_lt below)]
      exact (hf c hcm).1
  done := by
    rintro X rfl rfl rfl hc i pins s σ H E I hf ⟨hz, hTI, ⟨x0, y0, hTO⟩, h1, h2⟩ ⟨xs, ys, qx, qy, m1, m2, hend⟩
    obtain ⟨l1, v1, p1, _⟩ := I.list qx
    obtain ⟨l2, v2, p2, _⟩ := I.tuple qy
    have n1 := v1.length
    have n2 := v2.length
    refine wpAny_pyNext_zipD2_end S (Draws.list (A := X.A.in1) (I.ok.hd hc) i1 a na l1.toArray) (Draws.tuple (A := X.A.in1) (I.ok.hd hc) i2 b nb l2.toArray) hz hTI hTO ⟨h1, p1.isList⟩ ⟨h2, p2⟩ (by simp; omega) (by simp; omega) (by simp; omega) fun g tk hk => ⟨rfl, I.turnedL (ch := [z, TI, TO, i1, i2]) (fun c o hb q => ?_) hf⟩
    simp only [List.mem_cons, List.not_mem_nil, or_false, not_or] at hb
    exact hk c o hb.1 hb.2.2.1 hb.2.2.2.1 hb.2.2.2.2 q
  self := fun A i s Q E st h => wpAny_pyIter_zip st.1 h
def iZipM (K : PySem.W.Frag) (ta : TA) : TI := fun σ H R => ta σ H fun vs H1 => ∃ a b xs ys, vs = [.ref a, .ref b] ∧ SqL K H1 a xs ∧ SqT K H1 b ys ∧ R (ItzM K a b) H1
theorem pi_zipM {X : Cx} {e e2 : Expr} {ta : TA} {p pos tpos : Pos} {elts : List Expr} {kk : Nat} (hg : Gl X "zip") (hm : X.mg "zip" = none) (ha : PA X [e, e2] ta)
    (st : starEach [e, e2] X.env = (false, eval e X.env) :: starEach [e2] X.env := by rfl) (np : (backTo pos (starEach [e2] X.env)).any (·.1) = false := by rfl) : PI X (.Tuple elts kk tpos) (.Call (.Name "zip" p) [e, e2] [] pos) (iZipM X.K ta) := by
  refine ⟨fun pins s σ H R I h => Call_ (ld_blt I hg hm PyProof.Rows.boot_zip (PyProof.Rows.callWith_type1 (thn (ha.run pos pins s σ H _ I h) fun us s1 ⟨vs, H1, I1, r1, q1⟩ => ?_) st np))⟩
  obtain ⟨a, b, xs, ys, rfl, qx, qy, q⟩ := q1
  rcases r1 with _ | ⟨r, _ | ⟨r', _ | _⟩⟩
  cases r
  cases r'
  obtain ⟨l1, v1, p1, _⟩ := I1.list qx
  obtain ⟨l2, v2, p2, _⟩ := I1.tuple qy
  have la := p1.lt
  have lb : b < s1.heap.objs.size := let ⟨o2, ho2, _⟩ := id p2; Heap.lt_size ho2
  refine zip_begins2 (begins_list a l1.toArray) (begins_tuple b l2.toArray) p1.isList p2 fun g hz hTI hTO f1 f2 hs hk => wpAny_pyIter_zip hz ?_
  have J : Inv X pins σ H1 { s1 with heap := g } := I1.kept (t' := s1.toks) hk
  have dd : ∀ {n a b : Nat}, a < n → b < n → ZipSep2 (n + 4) (n + 2) (n + 3) n (n + 1) [n, a] [n + 1, b] := fun {n a b} h1 h2 => by
    have no : ∀ {x y z : Nat}, x ≠ y → x ≠ z → x ∉ [y, z] := fun p q m => by
      rcases List.mem_cons.mp m with e | m
      · exact p e
      · exact q (List.mem_singleton.mp m)
    exact ⟨(show (n + 2 : Nat) ≠ n + 4 by omega), (show (n + 3 : Nat) ≠ n + 4 by omega), (show (n + 2 : Nat) ≠ n + 3 by omega), (show (n + 2 : Nat) ≠ n by omega), List.mem_cons_self, no (by omega) (by omega), no (by omega) (by omega), (show (n + 2 : Nat) ≠ n + 1 by omega), List.mem_cons_self, no (by omega) (by omega), no (by omega) (by omega), no (by omega) (by omega), no (by omega) (by omega)⟩
  refine ⟨s1.heap.objs.size + 4, [s1.heap.objs.size + 4, s1.heap.objs.size + 2, s1.heap.objs.size + 3, s1.heap.objs.size, s1.heap.objs.size + 1], _, _, H1, rfl, J, turn_zipM (dd la lb) (Nat.ne_of_lt la) (Nat.ne_of_lt (Nat.lt_succ_of_lt lb)), ⟨hz, hTI, ⟨_, _, hTO⟩, ⟨_, f1, rfl, rfl⟩, ⟨_, f2, rfl, rfl⟩⟩, fun c hcm => ?_, q⟩
  have le : s1.heap.objs.size ≤ c := by
    simp only [List.mem_cons, List.not_mem_nil, or_false] at hcm
    rcases hcm with e | e | e | e | e
    · exact e ▸ Nat.le_add_right _ _
    · exact e ▸ Nat.le_add_right _ _
    · exact e ▸ Nat.le_add_right _ _
    · exact Nat.le_of_eq e.symm
    · exact e ▸ Nat.le_add_right _ _
  exact I1.fpOk le (I1.hok.fresh le)
theorem walk_zipM {xs ys : List V} {n : Nat} (hn : n = min xs.length ys.length) : Walk (ItzM K a b) n (fun H => SqL K H a xs ∧ SqT K H b ys) (fun i H v H' => ∃ T x y, v = .ref T ∧ H T = none ∧ H' = upd H T (.tup [x, y]) ∧ xs[i]? = some x ∧ ys[i]? = some y) where
  goes := fun i H hi ⟨h1, h2⟩ => ⟨xs, ys, _, _, h1, h2, List.getElem?_eq_getElem (by omega), List.getElem?_eq_getElem (by omega)⟩
  stops := fun H ⟨h1, h2⟩ => ⟨xs, ys, h1, h2, by omega, by omega, by omega⟩
  yields := fun i H x H' hi ⟨h1, h2⟩ ⟨T, x1, y1, e, n, e2, k1, k2⟩ => ⟨T, x1, y1, e, n, e2, k1 _ h1, k2 _ h2⟩
end
end XR
namespace XR
open PySem PySem.Spec PyProof.Rows L2 RZ
theorem walk_zipT {K : PySem.W.Frag} {a b : Addr} {xs ys : List V} {n : Nat} (hn : n = min xs.length ys.length) : Walk (ItzT K a b) n (fun H => SqT K H a xs ∧ SqT K H b ys) (fun i H v H' => ∃ T x y, v = .ref T ∧ H T = none ∧ H' = upd H T (.tup [x, y]) ∧ xs[i]? = some x ∧ ys[i]? = some y) where
  goes := fun i H hi ⟨h1, h2⟩ => ⟨xs, ys, _, _, h1, h2, List.getElem?_eq_getElem (by omega), List.getElem?_eq_getElem (by omega)⟩
  stops := fun H ⟨h1, h2⟩ => ⟨xs, ys, h1, h2, by omega⟩
  yields := fun i H x H' hi ⟨h1, h2⟩ ⟨T, x1, y1, e, n, e2, k1, k2⟩ => ⟨T, x1, y1, e, n, e2, k1 _ h1, k2 _ h2⟩
end XR

/-! sorted of any alike data -/
namespace XR
open PySem PySem.Spec PyProof.Rows L2
open PySem.W (EachIs AllAlike Sortable dataLe)
/-- sorted(xs): the items told by R of the things bs, each read as enc says -/
def rSortedR (K : PySem.W.Frag) : List V → Hp → VK → Prop := fun vs H Q => ∃ (a : Addr) (xs : List V) (β : Type) (bs : List β) (enc : β → PyData) (R : V → β → Prop), vs = [.ref a] ∧ SqL K H a xs ∧ Paired R xs bs ∧ (∀ x b, R x b → Dp K H x (enc b)) ∧
  AllAlike (bs.map enc) ∧ Sortable (bs.map enc) ∧ (∀ b ∈ bs, (enc b).depth ≤ 64) ∧ ∀ ys p, Paired R ys (bs.mergeSort (dataLe false enc)) → H p = none → Q (.ref p) (upd H p (.lst ys))
theorem each_of {α β γ : Type} {R : α → β → Prop} {S : α → γ → Prop} : ∀ {xs : List α} {bs : List β} {us : List γ}, Paired R xs bs → Paired S xs us → EachIs (fun u b => ∃ x, S x u ∧ R x b) us bs
  | [], [], [], .nil, .nil => .nil
  | _ :: _, _ :: _, _ :: _, .cons h t, .cons h2 t2 => .cons ⟨_, h2, h⟩ (each_of t t2)
theorem of_each {α β γ : Type} {R : α → β → Prop} {S : α → γ → Prop} : ∀ {bs : List β} {us : List γ}, EachIs (fun u b => ∃ x, S x u ∧ R x b) us bs → ∃ xs, Paired R xs bs ∧ Paired S xs us
  | _, _, .nil => ⟨[], .nil, .nil⟩
  | _, _, .cons ⟨x, h2, h⟩ t => let ⟨xs, a, b⟩ := of_each t; ⟨x :: xs, .cons h a, .cons h2 b⟩
theorem each_imp {α β : Type} {R S : α → β → Prop} (h : ∀ a b, R a b → S a b) : ∀ {us : List α} {bs : List β}, EachIs R us bs → EachIs S us bs
  | _, _, .nil => .nil
  | _, _, .cons x t => .cons (h _ _ x) (each_imp h t)
theorem cr_sortedR {X : Cx} (hu : X.A.units + 100 < cLine) : CallR X (.builtin "sorted") (rSortedR X.K) := by
  intro pins s σ H vs us Q I r h
  obtain ⟨a, xs, β, bs, enc, R, rfl, hs, pr, hdp, hal, hso, hdep, q⟩ := h
  obtain ⟨its, rv, hl, hz⟩ := I.list hs
  obtain ⟨u, rfl, ru⟩ := vals1 r
  obtain rfl : u = Value.ref a := ru
  have ee := each_of pr rv
  have er : EachIs (fun v b => ∃ as, Reads s.heap v (enc b) as) its bs := each_imp (fun v b ⟨x, rx, hb⟩ => Dp.reads I (enc b) x v (hdp x b hb) rx) ee
  have hlen : bs.length ≤ sizeLine := by rw [← Paired.length pr]; exact hz
  refine PySem.W.sorted_data hl.isList ee er hal hso hlen (fun b hb => by have := hdep b hb; omega) fun out ho eo => ?_
  obtain ⟨ys, p1, p2⟩ := of_each eo
  obtain ⟨c, hc⟩ := sortedAll_at s.heap its out.toArray
  have hn : H (s.heap.objs.size + 1) = none := I.hok.fresh (Nat.le_succ _)
  refine ⟨.ref (s.heap.objs.size + 1), _, I.laid (t' := s.toks) (fun _ _ => sortedAll_old) (Nat.le_succ _) (show ObjOk X.prog X.w _ _ _ (.lst ys) from ⟨?_, out, c, p2, hc⟩), rfl, q ys _ p1 hn⟩
  rw [Paired.length p2, ho]
  exact hlen
end XR

/-! min of a list of any alike data -/
namespace XR
open PySem PySem.Spec PyProof.Rows L2
/-- min(xs), xs a list of things told by R of the bs, each read as enc says: the first of the least -/
def rMinR (K : PySem.W.Frag) : List V → Hp → VK → Prop := fun vs H Q => ∃ (a : Addr) (xs : List V) (β : Type) (b0 : β) (bs : List β) (enc : β → PyData) (R : V → β → Prop), vs = [.ref a] ∧ SqL K H a xs ∧ Paired R xs (b0 :: bs) ∧ (∀ x b, R x b → Dp K H x (enc b)) ∧
  PySem.W.AlikeAll ((b0 :: bs).map enc) ∧ PyData.depthAll ((b0 :: bs).map enc) ≤ 64 ∧ ∀ x b, R x b → b ∈ b0 :: bs → enc b = PySem.W.minD (enc b0) (bs.map enc) → Q x H
theorem paired_data {K : PySem.W.Frag} {H : Hp} {β : Type} {R : V → β → Prop} {enc : β → PyData} (hd : ∀ x b, R x b → Dp K H x (enc b)) : ∀ {xs : List V} {bs : List β}, Paired R xs bs → DpAll K H xs (bs.map enc)
  | [], [], .nil => .nil
  | _ :: _, _ :: _, .cons h t => .cons (hd _ _ h) (paired_data hd t)
theorem paired_nth {α β : Type} {R : α → β → Prop} : ∀ {xs : List α} {ys : List β} {i : Nat} {x : α}, Paired R xs ys → xs[i]? = some x → ∃ y, ys[i]? = some y ∧ R x y
  | _ :: _, _ :: _, 0, _, .cons h _, e => ⟨_, rfl, by cases e; exact h⟩
  | _ :: _, _ :: _, i + 1, _, .cons _ r, e => paired_nth (i := i) r e
theorem paired_mth {α β : Type} {R : α → β → Prop} {xs : List α} {ys : List β} (p : Paired R xs ys) : ∀ {i : Nat} {y : β}, ys[i]? = some y → ∃ x, xs[i]? = some x ∧ R x y := by
  induction p with
  | nil => intro i y e; cases i <;> cases e
  | cons h t ih =>
    intro i y e
    cases i with
    | zero => cases e; exact ⟨_, rfl, h⟩
    | succ i => exact ih (i := i) e
theorem cr_minR {X : Cx} (hc : X.calm = true) (hu : X.A.units + 100 < cLine) : CallR X (.builtin "min") (rMinR X.K) := by
  intro pins s σ H vs us Q I r h
  obtain ⟨a, xs, β, b0, bs, enc, R, rfl, hs, pr, hd, hal, hdep, q⟩ := h
  obtain ⟨its, rv, hl, hz⟩ := I.list hs
  rw [Vals.ref1 r]
  obtain ⟨as, hr⟩ := Dp.readsAll I _ _ _ (paired_data hd pr) rv
  refine PySem.W.min_list_data (I.ok.hd hc) hl.isList (by simpa using hr) hal (by show X.A.units + 1 + PyData.depthAll ((b0 :: bs).map enc) < cLine; omega) fun i v h' tk cs hv rd keep => ?_
  have hv' : its[i]? = some v := by simpa using hv
  obtain ⟨x, hx, rx⟩ := paired_mth rv hv'
  obtain ⟨b, hb, rb⟩ := paired_nth pr hx
  obtain ⟨ds, r1⟩ := Dp.reads I (enc b) x v (hd _ _ rb) rx
  have e1 : enc b = PySem.W.minD (enc b0) (bs.map enc) := (PySem.Reads.unique (Reads.keeps keep r1) _ _ rd).1
  exact ⟨x, H, I.kept keep, rx, q x b rb (List.mem_of_getElem? hb) e1⟩
end XR

/-! min of a tuple of whole numbers -/
namespace XR
open PySem PySem.Spec PyProof.Rows L2
def rMinT (K : PySem.W.Frag) : List V → Hp → VK → Prop := fun vs H Q => ∃ (a : Addr) (n : Int) (ns : List Int), vs = [.ref a] ∧ SqT K H a ((n :: ns).map V.int) ∧ Q (.int (ns.foldl min n)) H
theorem ints_dp {K : PySem.W.Frag} {H : Hp} : ∀ ns : List Int, DpAll K H (ns.map V.int) (ns.map PyData.int)
  | [] => .nil
  | _ :: r => .cons (.int _) (ints_dp r)
theorem ints_alike (ns : List Int) : PySem.W.AlikeAll (ns.map PyData.int) := by
  refine ⟨fun x hx y hy => ?_, fun x hx => ?_⟩
  · obtain ⟨i, _, rfl⟩ := List.mem_map.mp hx
    obtain ⟨j, _, rfl⟩ := List.mem_map.mp hy
    rfl
  · obtain ⟨i, _, rfl⟩ := List.mem_map.mp hx
    exact nofun
theorem ints_depth : ∀ ns : List Int, PyData.depthAll (ns.map PyData.int) = 0
  | [] => rfl
  | _ :: r => by
    show max 0 (PyData.depthAll _) = 0
    rw [ints_depth r]
    rfl
theorem cr_minT {X : Cx} (hc : X.calm = true) (hu : X.A.units + 100 < cLine) : CallR X (.builtin "min") (rMinT X.K) := by
  intro pins s σ H vs us Q I r h
  obtain ⟨a, n, ns, rfl, hs, q⟩ := h
  obtain ⟨its, rv, hl, hz⟩ := I.tuple hs
  rw [Vals.ref1 r]
  obtain ⟨as, hr⟩ := Dp.readsAll I _ _ _ (ints_dp (n :: ns)) rv
  refine PySem.W.min_tuple_data (I.ok.hd hc) hl (by simpa using hr) (ints_alike (n :: ns)) (by have := ints_depth (n :: ns); rw [List.map_cons] at this; rw [this]; omega) fun i v h' tk cs hv rd keep => ?_
  have hv' : its[i]? = some v := by simpa using hv
  obtain ⟨x, hx, rx⟩ := paired_mth rv hv'
  rw [List.getElem?_map] at hx
  cases hj : (n :: ns)[i]? with
  | none => rw [hj] at hx; cases hx
  | some j =>
    rw [hj] at hx
    cases hx
    obtain ⟨t, rfl⟩ := rx
    obtain ⟨ds, r1⟩ := Dp.reads I (.int j) (.int j) (.int j t) (.int j) ⟨t, rfl⟩
    have e1 : PyData.int j = PySem.W.minD (.int n) (ns.map .int) := (PySem.Reads.unique (Reads.keeps keep r1) _ _ rd).1
    rw [PySem.W.minD_ints] at e1
    cases e1
    exact ⟨.int _, H, I.kept keep, ⟨t, rfl⟩, q⟩
end XR

/-! a text times a number -/
namespace XR
open PySem PySem.Spec PyProof.Rows L2
def rMulS : R2 := fun x y H Q => ∃ (z : Str) (n : Int), x = .str z ∧ y = .int n ∧ PySem.MulOk z n ∧ Q (.str (PySem.Txt.mul z n)) H
theorem op_mulS {X : Cx} : OpR X (binaryOp .Mult) rMulS := by
  intro pins s σ H x y v u Q I rx ry h
  obtain ⟨z, n, rfl, rfl, hz, q⟩ := h
  obtain ⟨t, rfl⟩ := rx
  obtain ⟨t', rfl⟩ := ry
  exact PySem.SB.mul hz (fun t' tk => ⟨.str _, H, I.tok _, ⟨_, rfl⟩, q⟩)
end XR

namespace My
open PySem PySem.Spec PyProof.Rows L2 XR
def top (i : Nat) : Stmt := PySem.Challenge.pw_leanscript_k71_texts_of_maps.main.body.getD i (.Pass ⟨0, 0, 0, 0⟩)
abbrev sMixed : Stmt := top 23
abbrev sCell : Stmt := top 24
abbrev sTake : Stmt := top 25
abbrev sOnly : Stmt := top 26
section
variable {P : Program} {w : World} {K : PySem.W.Frag} {mg : Str → Option Value} {base : Heap}
/-- _law_mixed: some number -/
def spMixed : Sp := fun vs H Q _ => ∃ c k : Int, vs = [.int c, .int k] ∧ ∀ n, Q (.int n) H
/-- _law_cell: some number -/
def spCell (K : PySem.W.Frag) : Sp := fun vs H Q _ => ∃ (a : Addr) (ns : List Int) (k : Int), vs = [.ref a, .int k] ∧ SqL K H a (ns.map V.int) ∧ 0 ≤ k ∧ k < 1000 ∧ ∀ n, Q (.int n) H
/-- _law_take: a digit; the pile goes on -/
def spTake : Sp := fun vs H Q _ => ∃ (a : Addr) (n z : Int), vs = [.ref a, .int z] ∧ H a = some (.lst [.int n]) ∧ 0 < z ∧ z < 1073741824 ∧ ∀ d m, 0 ≤ d → d < z → Q (.int d) (upd H a (.lst [.int m]))
local macro_rules | `(tactic| walk_at "rd1") => `(tactic| first
  | with_reducible refine rs_seq ?_
  | with_reducible refine rs_asg ?_
  | with_reducible refine rs_ret ?_
  | with_reducible refine rs_if ?_
  | with_reducible refine rs_next ?_
  | with_reducible refine rg_name ?_
  | ((with_reducible refine rv_var (v := ?vv) ?hv ?_); (case hv => exact rfl))
  | with_reducible refine rv_c ?_
  | with_reducible refine rv_op ?_
  | with_reducible refine rv_cons ?_
  | with_reducible refine rv_nil ?_
  | with_reducible refine rv_rI0 ?_
  | ((with_reducible refine rv_rI ?hc ?_); (case hc => walk_at "side"))
  | ((with_reducible refine rv_eq ?hc ?_); (case hc => exact rfl))
  | ((with_reducible refine rv_ne ?hc ?_); (case hc => exact rfl))
  | with_reducible refine rv_test ?_
  | with_reducible refine rv_bl ?_
  | with_reducible refine rv_cb ?_
  | with_reducible refine rv_call ?_
  | with_reducible refine rv_tup ?_
  | with_reducible refine rv_lst ?_
  | with_reducible refine rv_tB ?_
  | with_reducible refine rv_or ?_
  | with_reducible refine rv_and ?_
  | with_reducible refine rv_not ?_
  | with_reducible refine rv_andV ?_
  | with_reducible refine rv_orV ?_
  | with_reducible refine rv_notV ?_
  | with_reducible refine rv_ifE ?_
  | with_reducible refine rs_drop ?_
  | with_reducible refine iteT ?_
  | with_reducible refine iteF ?_
  | with_reducible refine ro_nx ?_
  | with_reducible refine ro_rt ?_
  | with_reducible refine ro_ct ?_
  | with_reducible refine ro_bk ?_)
local macro_rules | `(tactic| walk_at "rd") => `(tactic| repeat walk_at "rd1")
local macro_rules | `(tactic| walk_at "side") => `(tactic| first
  | assumption
  | exact (show CPow _ _ from ⟨by decide, by decide, by decide⟩)
  | exact (show CMul _ _ from .inl ⟨by decide, by decide⟩)
  | exact (show CMul _ _ from .inr ⟨by decide, by decide⟩)
  | (show (0 : Int) < _; decide)
  | (show CMul _ _; first | exact .inl ⟨by omega, by omega⟩ | exact .inr ⟨by omega, by omega⟩)
  | omega)
theorem scMixed : FnScope ["cell", "k", "number"] ["cell", "k"] (defScope sMixed) := ⟨rfl, rfl, rfl, by decide +kernel, rfl, by decide +kernel, by decide +kernel⟩
theorem ok_mixed {f : Addr} {fd : FuncData} (F : Fun K "_law_mixed" "_law_mixed" sMixed f fd) : FnOk P w K mg base CX0 1 f fd ["cell", "k"] spMixed := by
  refine F.ok scMixed (fun vs H Q E h => ?_) (fun cdv A outer s H vs Q E hr h => ?_)
  · obtain ⟨c, k, rfl, _⟩ := h
    rfl
  · refine ⟨_, pss_cons (ps_set (i := 2) scMixed.nd rfl (.inl rfl) (pe_op op_mod (pe_op op_add (pe_op op_add (pe_op op_mul (pe_op op_mod (pv 0) pe_int) pe_int) (pe_op op_mul (pv 1) pe_int)) pe_int) pe_int))
      (pss_cons (ps_set (i := 2) scMixed.nd rfl (.inl rfl) (pe_op op_mod (pe_op op_mul (pv 2) (pv 2)) pe_int))
        (pss_one (ps_ret (pe_op op_mod (pe_op op_mul (pv 2) (pe_op op_add (pv 2) pe_int)) pe_int)))), ?_⟩
    obtain ⟨c, k, rfl, q⟩ := h
    have m1 : ∀ x y : Int, 0 < y → y < 2 ^ 64 → CMul (x % y) y ∧ ∀ z, CMul (x % y) z := fun x y h1 h2 => by
      have a1 := Int.emod_nonneg x (by omega : y ≠ 0)
      have a2 := Int.emod_lt_of_pos x h1
      exact ⟨.inl ⟨by omega, by omega⟩, fun z => .inl ⟨by omega, by omega⟩⟩
    refine ⟨_, rfl, _, _, rfl, rfl, (by show (0 : Int) < _; decide), _, _, rfl, rfl, (m1 _ _ (by decide) (by decide)).2 _, _, rfl, _, _, rfl, rfl, .inr ⟨by decide, by decide⟩, _, _, rfl, rfl, _, _, rfl, rfl, _, _, rfl, rfl, (by show (0 : Int) < _; decide), ?_⟩
    refine ⟨_, rfl, _, rfl, _, _, rfl, rfl, (m1 _ _ (by decide) (by decide)).2 _, _, _, rfl, rfl, (by show (0 : Int) < _; decide), ?_⟩
    refine ⟨_, rfl, _, rfl, _, _, rfl, rfl, _, _, rfl, rfl, (m1 _ _ (by decide) (by decide)).2 _, _, _, rfl, rfl, (by show (0 : Int) < _; decide), ?_⟩
    exact q _
theorem scCell : FnScope ["script", "k", "cell", "found", "j"] ["script", "k"] (defScope sCell) := ⟨rfl, rfl, rfl, by decide +kernel, rfl, by decide +kernel, by decide +kernel⟩
theorem pow60 : (10 ^ (60 : Int).toNat : Int).natAbs < 2 ^ 200 := by decide +kernel
/-- from the second if on -/
def t_cell (tM : Sp) : TS := tSeq (tIfS (tTest (tOp (rI0 fun i j => .bl (decide (j ≤ i))) (tVar 2) (tOp (rI CPow fun i j => .int (i ^ j.toNat)) (tC (.int 10)) (tC (.int 18)))))
   (tRet (tOp (rI (fun _ j => 0 < j) fun i j => .int (i % j)) (tOp (rI0 fun i j => .int (i - j)) (tVar 2) (tOp (rI CPow fun i j => .int (i ^ j.toNat)) (tC (.int 10)) (tC (.int 18))))
      (tOp (rI CMulW fun i j => .int (i * j)) (tOp (rI CMulW fun i j => .int (i * j)) (tOp (rI CMulW fun i j => .int (i * j)) (tOp (rI CPow fun i j => .int (i ^ j.toNat)) (tC (.int 10)) (tC (.int 60))) (tOp (rI CPow fun i j => .int (i ^ j.toNat)) (tC (.int 10)) (tC (.int 60)))) (tOp (rI CPow fun i j => .int (i ^ j.toNat)) (tC (.int 10)) (tC (.int 60)))) (tOp (rI CPow fun i j => .int (i ^ j.toNat)) (tC (.int 10)) (tC (.int 60)))))) tNext)
   (tSeq (tAsg (tC (.int 0)) (gName 3)) (tSeq (tFor (iRng1 (tCons (tC (.int 24)) tNil)) (gName 4)
     (tAsg (tOp (rI0 fun i j => .int (i + j)) (tOp (rI CMul fun i j => .int (i * j)) (tVar 3) (tC (.int 2147483579)))
       (tCall spMixed [] E0 (tCons (tVar 2) (tCons (tOp (rI0 fun i j => .int (i + j)) (tOp (rI0 fun i j => .int (i + j)) (tOp (rI CMul fun i j => .int (i * j)) (tC (.int 7)) (tVar 1)) (tOp (rI CMul fun i j => .int (i * j)) (tC (.int 100)) (tVar 4))) (tOp (rI CMul fun i j => .int (i * j)) (tVar 4) (tVar 4))) tNil)))) (gName 3)))
   (tRet (tVar 3))))
theorem rest_cell {a : Addr} {k c : Int} {ns : List Int} {H : Hp} {Q : VK} (hS : SqL K H a (ns.map V.int)) (h0 : 0 ≤ k) (h1 : k < 1000) (q : ∀ n, Q (.int n) H) :
    t_cell spMixed { nx := fun _ H' => Q .non H', rt := Q } [some (.ref a), some (.int k), some (.int c), none, none] H := by
  have P60 : CPow 10 60 := ⟨by decide, by decide, by decide⟩
  have P18 : CPow 10 18 := ⟨by decide, by decide, by decide⟩
  have b60 : (10 ^ (60 : Int).toNat : Int).natAbs < 2 ^ 200 := by decide +kernel
  have b120 := wide_lt b60 b60
  have b180 := wide_lt b120 b60
  unfold t_cell
  walk_at "rd"
  refine ite2 (fun _ => ?_) (fun _ => ?_)
  · have w1 : CMulW _ _ := wide_mul b60 b60 (by decide) (by decide) (by decide)
    have w2 : CMulW _ _ := wide_mul b120 b60 (by decide) (by decide) (by decide)
    have w3 : CMulW _ _ := wide_mul b180 b60 (by decide) (by decide) (by decide)
    walk_at "rd"
    exact q _
  · walk_at "rd"
    refine ⟨24, rfl, by decide, by decide, for_range (lo := 0) (n := 24) (fun i σ H' => H' = H ∧ ∃ (f : Int) (j : Option V), σ = [some (.ref a), some (.int k), some (.int c), some (.int f), j]) ⟨rfl, 0, none, rfl⟩ ?_ ?_⟩
    · rintro i σ H' hi ⟨rfl, f, j, rfl⟩
      have hi' : (i : Int) < 24 := by exact_mod_cast hi
      walk_at "rd"
      refine ⟨_, _, rfl, fun n => ?_⟩
      walk_at "rd"
      exact ⟨rfl, _, _, rfl⟩
    · rintro σ H' ⟨rfl, f, j, rfl⟩
      walk_at "rd"
      exact q _
theorem ok_cell {f fM : Addr} {fd fdM : FuncData} (F : Fun K "_law_cell" "_law_cell" sCell f fd) (FM : Fun K "_law_mixed" "_law_mixed" sMixed fM fdM) (bM : Binds K fdM ["cell", "k"] []) (gM : mg "_law_mixed" = some (.ref fM)) (gL : mg "len" = none) (gR : mg "range" = none) :
    FnOk P w K mg base CX0 2 f fd ["script", "k"] (spCell K) := by
  have GM : FnOk P w K mg base CX0 1 fM fdM ["cell", "k"] spMixed := ok_mixed FM
  refine F.ok scCell (fun vs H Q E h => ?_) (fun cdv A outer s H vs Q E hr h => ?_)
  · obtain ⟨a, ns, k, rfl, _⟩ := h
    rfl
  · refine ⟨_, pss_cons (ps_set (i := 2) scCell.nd rfl (.inl rfl) pe_int)
      (pss_cons (ps_if (pt_cmpR op_lt (pv 1) (pe_callB call_len_seq (by rfl) gL PySem.boot_len (pa_cons (pv 0) pa_nil)) (nomark _)) (pss_one (ps_set (i := 2) scCell.nd rfl (.inl rfl) (pe_ix ix_list (pv 0) (pv 1) (fun _ _ => rfl)))) pss_nil)
      (pss_cons (ps_if (pt_cmpR op_ge (pv 2) (pe_op op_pow pe_int pe_int) (nomark _)) (pss_one (ps_ret (pe_op op_mod (pe_op op_sub (pv 2) (pe_op op_pow pe_int pe_int))
          (pe_op op_mulW (pe_op op_mulW (pe_op op_mulW (pe_op op_pow pe_int pe_int) (pe_op op_pow pe_int pe_int)) (pe_op op_pow pe_int pe_int)) (pe_op op_pow pe_int pe_int))))) pss_nil)
      (pss_cons (ps_set (i := 3) scCell.nd rfl (.inl rfl) pe_int)
      (pss_cons (ps_for PassesOwn.never rfl (pi_range1 rfl gR (pa_cons pe_int pa_nil)) (pg_name (i := 4) scCell.nd rfl (.inl rfl))
        (pss_one (ps_set (i := 3) scCell.nd rfl (.inl rfl) (pe_op op_add (pe_op op_mul (pv 3) pe_int)
          (pe_call GM hr rfl gM FM.kp bM .nil pass0 (pa_cons (pv 2) (pa_cons (pe_op op_add (pe_op op_add (pe_op op_mul pe_int (pv 1)) (pe_op op_mul pe_int (pv 4))) (pe_op op_mul (pv 4) (pv 4))) pa_nil)))))))
      (pss_one (ps_ret (pv 3))))))), ?_⟩
    obtain ⟨a, ns, k, rfl, hS, h0, h1, q⟩ := h
    have big : ∀ i : Int, i.natAbs < 2 ^ 200 → ∀ j : Int, j.natAbs < 2 ^ 600 → CMulW j i := fun i h1 j h2 => wide_mul h2 h1 (by decide) (by decide) (by decide)
    have at0 : k < ((ns.map V.int).length : Nat) → ∃ z : Int, atI (ns.map V.int) k = some (.int z) := fun hk => by
      rw [List.length_map] at hk
      obtain ⟨j, rfl⟩ := Int.eq_ofNat_of_zero_le h0
      have hj : j < ns.length := by omega
      exact ⟨ns[j], atI_nat (by rw [List.getElem?_map, List.getElem?_eq_getElem hj]; rfl)⟩
    walk_at "rd"
    refine ⟨a, _, rfl, .inl hS, ?_⟩
    walk_at "rd"
    refine ite2 (fun c => ?_) (fun c => ?_)
    · obtain ⟨z, hz⟩ := at0 (of_decide_eq_true c)
      walk_at "rd"
      refine ⟨a, _, k, _, rfl, rfl, hS, hz, ?_⟩
      exact rest_cell hS h0 h1 q
    · exact rest_cell hS h0 h1 q
theorem scTake : FnScope ["pile", "size", "digit"] ["pile", "size"] (defScope sTake) := ⟨rfl, rfl, rfl, by decide +kernel, rfl, by decide +kernel, by decide +kernel⟩
theorem ok_take {f : Addr} {fd : FuncData} (F : Fun K "_law_take" "_law_take" sTake f fd) : FnOk P w K mg base CX0 1 f fd ["pile", "size"] spTake := by
  refine F.ok scTake (fun vs H Q E h => ?_) (fun cdv A outer s H vs Q E hr h => ?_)
  · obtain ⟨c, k, z, rfl, _⟩ := h
    rfl
  · refine ⟨_, pss_cons (ps_set (i := 2) scTake.nd rfl (.inl rfl) (pe_op op_mod (pe_ix ix_list (pv 0) pe_int (fun _ _ => rfl)) (pv 1)))
      (pss_cons (ps_asg (pe_op op_fdiv (pe_ix ix_list (pv 0) pe_int (fun _ _ => rfl)) (pv 1)) (pg_sub (pv 0) pe_int set_list))
        (pss_one (ps_ret (pv 2)))), ?_⟩
    obtain ⟨a, n, z, rfl, hl, h0, h1, q⟩ := h
    refine ⟨_, rfl, a, [.int n], 0, _, rfl, rfl, SqL.of hl, rfl, _, rfl, n, z, rfl, rfl, h0, ?_⟩
    refine ⟨_, rfl, a, [.int n], 0, _, rfl, rfl, SqL.of hl, rfl, _, rfl, n, z, rfl, rfl, ⟨h0, h1⟩, ?_⟩
    refine ⟨_, rfl, a, [.int n], 0, 0, rfl, rfl, hl, rfl, ?_⟩
    refine ⟨_, rfl, ?_⟩
    exact q _ _ (Int.emod_nonneg n (by omega)) (Int.emod_lt_of_pos n h0)

def n10 : List Str := ["NoCount", "NoLetters", "NoLine", "NoMap", "NoNaming", "NoPath", "NoText", "NoTree", "NoTurning", "TooMany"]
/-- the ten error classes at cs, LeanError at cL -/
structure Ten (K : PySem.W.Frag) (mg : Str → Option Value) (cs : Nat → Addr) (cL : Addr) : Prop where
  g : ∀ i, i < 10 → mg (n10.getD i "") = some (.ref (cs i))
  gL : mg "LeanError" = some (.ref cL)
  gI : mg "isinstance" = none
  gZ : mg "zip" = none
  gV : mg "ValueError" = none
  isOne : ∀ i j, i < 10 → j < 10 → PySem.W.kitOne K (.ref (cs i)) (.ref (cs j)) = some (decide (i = j))
  isL : ∀ i, i < 10 → PySem.W.kitOne K (.ref (cs i)) (.ref cL) = some true
  isV : ∀ i, i < 10 → PySem.W.kitOne K (.ref (cs i)) (.type "ValueError") = some true
  ek : ∀ i, i < 10 → ExcK K (cs i)
theorem same_upd {H : Hp} {p : Addr} {o : HO} (h : H p = none) : Same H (upd H p o) := fun b x e => by
  rw [upd_ne (ne_of_none e h)]
  exact e
theorem n10_shaped : ∀ i, i < 10 → SeqAt.shaped (.list [.str (n10.getD i "")]) = true := by decide +kernel
/-- _law_only: of an error of the i-th class and its name: True -/
def spOnly (K : PySem.W.Frag) (cs : Nat → Addr) : Sp := fun vs H Q _ => ∃ (a : Addr) (i : Nat), i < 10 ∧ vs = [.ref a, .str (n10.getD i "")] ∧ ExIn H a (cs i) ∧ ∀ H', Same H H' → Q (.bl true) H'
theorem scOnly : FnScope ["error", "word", "called", "seen", "one", "truth"] ["error", "word"] (defScope sOnly) := ⟨rfl, rfl, rfl, by decide +kernel, rfl, by decide +kernel, by decide +kernel⟩
theorem ok_only {f : Addr} {fd : FuncData} {cs : Nat → Addr} {cL : Addr} (F : Fun K "_law_only" "_law_only" sOnly f fd) (T : Ten K mg cs cL) : FnOk P w K mg base CX0 1 f fd ["error", "word"] (spOnly K cs) := by
  refine F.ok scOnly (fun vs H Q E h => ?_) (fun cdv A outer s H vs Q E hr h => ?_)
  · obtain ⟨a, i, _, rfl, _⟩ := h
    rfl
  · have g0 := T.g 0 (by decide)
    have g1 := T.g 1 (by decide)
    have g2 := T.g 2 (by decide)
    have g3 := T.g 3 (by decide)
    have g4 := T.g 4 (by decide)
    have g5 := T.g 5 (by decide)
    have g6 := T.g 6 (by decide)
    have g7 := T.g 7 (by decide)
    have g8 := T.g 8 (by decide)
    have g9 := T.g 9 (by decide)
    refine ⟨_, (pss_cons (ps_set (i := 2) scOnly.nd rfl (.inl rfl) (pe_lst (pa_cons pe_str (pa_cons pe_str (pa_cons pe_str (pa_cons pe_str (pa_cons pe_str (pa_cons pe_str (pa_cons pe_str (pa_cons pe_str pa_nil))))))))))
      (pss_cons (ps_set (i := 2) scOnly.nd rfl (.inl rfl) (pe_op op_cat (pv 2) (pe_lst (pa_cons pe_str (pa_cons pe_str pa_nil)))))
      (pss_cons (ps_set (i := 3) scOnly.nd rfl (.inl rfl) (pe_lst (pa_cons (pe_callB call_isX (by rfl) T.gI (by decide +kernel) (pa_cons (pv 0) (pa_cons (pe_glob (v := .ref (cs 0)) (by rfl) g0 rfl) pa_nil))) (pa_cons (pe_callB call_isX (by rfl) T.gI (by decide +kernel) (pa_cons (pv 0) (pa_cons (pe_glob (v := .ref (cs 1)) (by rfl) g1 rfl) pa_nil))) (pa_cons (pe_callB call_isX (by rfl) T.gI (by decide +kernel) (pa_cons (pv 0) (pa_cons (pe_glob (v := .ref (cs 2)) (by rfl) g2 rfl) pa_nil))) pa_nil)))))
      (pss_cons (ps_set (i := 3) scOnly.nd rfl (.inl rfl) (pe_op op_cat (pv 3) (pe_lst (pa_cons (pe_callB call_isX (by rfl) T.gI (by decide +kernel) (pa_cons (pv 0) (pa_cons (pe_glob (v := .ref (cs 3)) (by rfl) g3 rfl) pa_nil))) (pa_cons (pe_callB call_isX (by rfl) T.gI (by decide +kernel) (pa_cons (pv 0) (pa_cons (pe_glob (v := .ref (cs 4)) (by rfl) g4 rfl) pa_nil))) (pa_cons (pe_callB call_isX (by rfl) T.gI (by decide +kernel) (pa_cons (pv 0) (pa_cons (pe_glob (v := .ref (cs 5)) (by rfl) g5 rfl) pa_nil))) pa_nil))))))
      (pss_cons (ps_set (i := 3) scOnly.nd rfl (.inl rfl) (pe_op op_cat (pv 3) (pe_lst (pa_cons (pe_callB call_isX (by rfl) T.gI (by decide +kernel) (pa_cons (pv 0) (pa_cons (pe_glob (v := .ref (cs 6)) (by rfl) g6 rfl) pa_nil))) (pa_cons (pe_callB call_isX (by rfl) T.gI (by decide +kernel) (pa_cons (pv 0) (pa_cons (pe_glob (v := .ref (cs 7)) (by rfl) g7 rfl) pa_nil))) (pa_cons (pe_callB call_isX (by rfl) T.gI (by decide +kernel) (pa_cons (pv 0) (pa_cons (pe_glob (v := .ref (cs 8)) (by rfl) g8 rfl) pa_nil))) pa_nil))))))
      (pss_cons (ps_expr (pe_bm PySem.F.plainAttrs_list PySem.F.slot_list_append PySem.F.type_list_append mt_append (pv 3) (pa_cons (pe_callB call_isX (by rfl) T.gI (by decide +kernel) (pa_cons (pv 0) (pa_cons (pe_glob (v := .ref (cs 9)) (by rfl) g9 rfl) pa_nil))) pa_nil)))
      (pss_cons (ps_if (pt_cmpR (op_neD hr.units) (pe_lc (own := [("one", 4), ("truth", 5)]) (g := gTup K 2 (gCons (gName 4) (gCons (gName 5) gNil))) (tt := tB (tVar 5)) (te := tVar 4) (by rfl) scOnly.nd (pi_zip (by rfl) T.gZ (pa_cons (pv 2) (pa_cons (pv 3) pa_nil))) (blkOk_by (own := [("one", 4), ("truth", 5)]) (N := ["error", "word", "called", "seen", "one", "truth"]) (sc := defScope sOnly) (by decide +kernel)) (fun _ _ _ _ _ => pg_tup (by rfl) (pgs_cons (pg_name (i := 4) scOnly.nd rfl (.inl rfl)) (pgs_cons (pg_name (i := 5) scOnly.nd rfl (.inl rfl)) pgs_nil))) (fun _ _ _ _ _ => pts_one (pt_val (pv 5))) (fun _ _ _ _ _ => pv 4)) (pe_lst (pa_cons (pv 1) pa_nil)) (nomark _)) (pss_one (ps_ret pe_bl)) pss_nil)
      (pss_one (ps_ret (pe_and (pe_callB call_isX (by rfl) T.gI (by decide +kernel) (pa_cons (pv 0) (pa_cons (pe_glob (by rfl) T.gL rfl (v := .ref cL)) pa_nil))) (pe_one (pe_callB call_isX (by rfl) T.gI (by decide +kernel) (pa_cons (pv 0) (pa_cons (pe_bltn (by rfl) T.gV (by decide +kernel) (v := .ty "ValueError") rfl) pa_nil)))))))))))))), ?_⟩
    obtain ⟨a, i, hi, rfl, ex, q⟩ := h
    have isx : ∀ (H' : Hp), Same H H' → ∀ (j : Nat), j < 10 → ∀ (Q' : VK), Q' (.bl (decide (i = j))) H' → rIsX K [.ref a, .ref (cs j)] H' Q' := fun H' sm j hj Q' z => ⟨a, cs i, _, _, _, rfl, .own _, ex.same sm, T.ek i hi, T.isOne i j hi hj, z⟩
    walk_at "rd"
    refine ⟨by decide, fun m0 hm0 => ?_⟩
    have j1 := same_upd (o := .lst [.str "NoCount", .str "NoLetters", .str "NoLine", .str "NoMap", .str "NoNaming", .str "NoPath", .str "NoText", .str "NoTree"]) hm0
    walk_at "rd"
    refine ⟨by decide, fun m1 hm1 => ?_⟩
    have j2 := j1.trans (same_upd (o := .lst [.str "NoTurning", .str "TooMany"]) hm1)
    refine ⟨m0, m1, _, _, rfl, rfl, (upd_ne (ne_of_none upd_same hm1)).trans upd_same, upd_same, (by show 10 ≤ sizeLine; decide), fun n0 hn0 => ?_⟩
    have s1 := j2.trans (same_upd (o := .lst (List.map V.str n10)) hn0)
    have e1 : ([.str "NoCount", .str "NoLetters", .str "NoLine", .str "NoMap", .str "NoNaming", .str "NoPath", .str "NoText", .str "NoTree"] ++ [.str "NoTurning", .str "TooMany"] : List V) = n10.map V.str := rfl
    rw [e1]
    obtain ⟨B, eB⟩ : ∃ B, B = upd (upd (upd H m0 (.lst [.str "NoCount", .str "NoLetters", .str "NoLine", .str "NoMap", .str "NoNaming", .str "NoPath", .str "NoText", .str "NoTree"])) m1 (.lst [.str "NoTurning", .str "TooMany"])) n0 (.lst (List.map V.str n10)) := ⟨_, rfl⟩
    have hB : B n0 = some (.lst (List.map V.str n10)) := by rw [eB]; exact upd_same
    rw [← eB] at s1
    rw [← eB]
    walk_at "rd"
    refine isx _ (s1) 0 (by decide) _ ?_
    walk_at "rd"
    refine isx _ (s1) 1 (by decide) _ ?_
    walk_at "rd"
    refine isx _ (s1) 2 (by decide) _ ?_
    walk_at "rd"
    refine ⟨(by show 3 ≤ sizeLine; decide), fun p1 hp1 => ?_⟩
    have k2 := same_upd (o := .lst [.bl (decide (i = 0)), .bl (decide (i = 1)), .bl (decide (i = 2))]) hp1
    walk_at "rd"
    refine isx _ (s1.trans k2) 3 (by decide) _ ?_
    walk_at "rd"
    refine isx _ (s1.trans k2) 4 (by decide) _ ?_
    walk_at "rd"
    refine isx _ (s1.trans k2) 5 (by decide) _ ?_
    walk_at "rd"
    refine ⟨(by show 3 ≤ sizeLine; decide), fun p2 hp2 => ?_⟩
    have k3 := k2.trans (same_upd (o := .lst [.bl (decide (i = 3)), .bl (decide (i = 4)), .bl (decide (i = 5))]) hp2)
    refine ⟨p1, p2, _, _, rfl, rfl, (upd_ne (ne_of_none upd_same hp2)).trans upd_same, upd_same, (by show 6 ≤ sizeLine; decide), fun p3 hp3 => ?_⟩
    have k4 := k3.trans (same_upd (o := .lst ([.bl (decide (i = 0)), .bl (decide (i = 1)), .bl (decide (i = 2))] ++ [.bl (decide (i = 3)), .bl (decide (i = 4)), .bl (decide (i = 5))])) hp3)
    walk_at "rd"
    refine isx _ (s1.trans k4) 6 (by decide) _ ?_
    walk_at "rd"
    refine isx _ (s1.trans k4) 7 (by decide) _ ?_
    walk_at "rd"
    refine isx _ (s1.trans k4) 8 (by decide) _ ?_
    walk_at "rd"
    refine ⟨(by show 3 ≤ sizeLine; decide), fun p4 hp4 => ?_⟩
    have k5 := k4.trans (same_upd (o := .lst [.bl (decide (i = 6)), .bl (decide (i = 7)), .bl (decide (i = 8))]) hp4)
    refine ⟨p3, p4, _, _, rfl, rfl, (upd_ne (ne_of_none upd_same hp4)).trans upd_same, upd_same, (by show 9 ≤ sizeLine; decide), fun p5 hp5 => ?_⟩
    walk_at "rd"
    refine rv_app rfl upd_same ?_
    have k6 := k5.trans (same_upd (o := .lst ([.bl (decide (i = 0)), .bl (decide (i = 1)), .bl (decide (i = 2))] ++ [.bl (decide (i = 3)), .bl (decide (i = 4)), .bl (decide (i = 5))] ++ [.bl (decide (i = 6)), .bl (decide (i = 7)), .bl (decide (i = 8))])) hp5)
    walk_at "rd"
    refine isx _ (s1.trans k6) 9 (by decide) _ ?_
    walk_at "rd"
    refine ⟨_, _, rfl, upd_same, (by show 9 < sizeLine; decide), ?_⟩
    rw [upd_upd]
    have k7 := k5.trans (same_upd (o := .lst ((List.range 10).map fun j => V.bl (decide (i = j)))) hp5)
    show tSeq _ _ _ _ (upd _ p5 (.lst ((List.range 10).map fun j => V.bl (decide (i = j)))))
    generalize e7 : upd (upd (upd (upd (upd B p1 (.lst [.bl (decide (i = 0)), .bl (decide (i = 1)), .bl (decide (i = 2))])) p2 (.lst [.bl (decide (i = 3)), .bl (decide (i = 4)), .bl (decide (i = 5))])) p3 (.lst ([.bl (decide (i = 0)), .bl (decide (i = 1)), .bl (decide (i = 2))] ++ [.bl (decide (i = 3)), .bl (decide (i = 4)), .bl (decide (i = 5))]))) p4 (.lst [.bl (decide (i = 6)), .bl (decide (i = 7)), .bl (decide (i = 8))])) p5 (.lst ((List.range 10).map fun j => V.bl (decide (i = j)))) = H7 at k7 ⊢
    have h7n : H7 n0 = some (.lst (List.map V.str n10)) := k7 _ _ hB
    have h7p : H7 p5 = some (.lst ((List.range 10).map fun j => V.bl (decide (i = j)))) := by rw [← e7]; exact upd_same
    have s7 : Same H H7 := s1.trans k7
    clear e7 k7 k6 k5 k4 k3 k2 hp5 hp4 hp3 hp2 hp1 hB eB s1 hn0 e1 j1 j2 hm0 hm1
    walk_at "rd"
    refine ⟨_, rfl, _, rfl, n0, p5, _, _, rfl, SqL.of h7n, SqL.of h7p, fun D hD => ?_⟩
    refine lc_it (walk_zip (xs := List.map V.str n10) (ys := (List.range 10).map fun j => V.bl (decide (i = j))) (n := 10) rfl)
      (fun t H' => Same H7 H' ∧ H' D = some (.lst (if i < t then [.str (n10.getD i "")] else []))) ⟨same_upd hD, upd_same⟩ (fun t H' _ ⟨s, _⟩ => ⟨SqL.of (s _ _ h7n), SqL.of (s _ _ h7p)⟩) ?_ ?_
    · rintro t x H' H2 ht ⟨sm, hd⟩ ⟨U, y1, y2, rfl, hU, rfl, e1, e2⟩
      have sU : Same H' (upd H' U (.tup [y1, y2])) := same_upd hU
      refine ⟨U, _, rfl, .inl (.inl upd_same), rfl, _, _, rfl, _, _, rfl, rfl, rfl, _, rfl, ?_⟩
      have ey1 : y1 = .str (n10.getD t "") := by
        have : ∀ t, t < 10 → (List.map V.str n10)[t]? = some (.str (n10.getD t "")) := by decide +kernel
        exact Option.some.inj (e1.symm.trans (this t ht))
      have ey2 : y2 = .bl (decide (i = t)) := by
        dsimp only at e2
        rw [List.getElem?_map, List.getElem?_range ht] at e2
        exact (Option.some.inj e2).symm
      subst ey1 ey2
      refine ⟨_, rfl, ?_⟩
      refine ite2 (fun c => ?_) (fun c => ?_)
      · have c' : i = t := of_decide_eq_true c
        refine ⟨_, rfl, _, sU _ _ hd, ?_, ?_⟩
        · rw [if_neg (by omega)]
          show 0 < sizeLine
          decide
        · refine ⟨fun b o z => ?_, ?_⟩
          · rw [upd_ne (fun z2 => by rw [z2] at z; rw [z] at hD; cases hD)]
            exact sU _ _ (sm _ _ z)
          · rw [upd_same, if_neg (by omega), if_pos (by omega), c']
            rfl
      · have c' : ¬ i = t := fun z => c (decide_eq_true z)
        refine ⟨sm.trans sU, ?_⟩
        rw [sU _ _ hd]
        have : (i < t + 1) = (i < t) := propext ⟨fun _ => by omega, fun _ => by omega⟩
        simp only [this]
    · rintro H' ⟨sm, hd⟩
      rw [if_pos hi] at hd
      walk_at "rd"
      refine ⟨(by show 1 ≤ sizeLine; decide), fun p6 hp6 => ?_⟩
      have s8 := same_upd (o := .lst [.str (n10.getD i "")]) hp6
      refine ⟨.list [.str (n10.getD i "")], .list [.str (n10.getD i "")], .lst (SqL.of (s8 _ _ hd)) (.cons (.str _) .nil), .lst (SqL.of upd_same) (.cons (.str _) .nil), n10_shaped i hi, n10_shaped i hi, ?_⟩
      have ee : (!PyData.eqv (.list [.str (n10.getD i "")]) (.list [.str (n10.getD i "")])) = false := by simp [PyData.eqv, PyData.eqvAll]
      rw [ee]
      have s9 := (s7.trans sm).trans s8
      have isb : ∀ (c : V) (u : Value) (b : Bool) (Q' : VK), ClsV c u → PySem.W.kitOne K (.ref (cs i)) u = some b → Q' (.bl b) _ → rIsX K [.ref a, c] _ Q' := fun c u b Q' k1 k2 z => ⟨a, cs i, c, u, b, rfl, k1, ex.same s9, T.ek i hi, k2, z⟩
      walk_at "rd"
      refine isb _ _ _ _ (.own _) (T.isL i hi) ?_
      walk_at "rd"
      refine isb _ _ _ _ (.ty _) (T.isV i hi) ?_
      walk_at "rd"
      exact q _ s9
end
end My

namespace My
open PySem PySem.Spec PyProof.Rows L2 XR
abbrev iText : Stmt := inClass (top 2) 0
abbrev iTree : Stmt := inClass (top 3) 0
abbrev iNaming : Stmt := inClass (top 5) 0
local macro_rules | `(tactic| walk_at "rd1") => `(tactic| first
  | with_reducible refine rs_seq ?_
  | with_reducible refine rs_asg ?_
  | with_reducible refine rs_ret ?_
  | with_reducible refine rs_if ?_
  | with_reducible refine rs_next ?_
  | with_reducible refine rg_name ?_
  | ((with_reducible refine rv_var (v := ?vv) ?hv ?_); (case hv => exact rfl))
  | with_reducible refine rv_c ?_
  | with_reducible refine rv_op ?_
  | with_reducible refine rv_cons ?_
  | with_reducible refine rv_nil ?_
  | with_reducible refine rv_rI0 ?_
  | ((with_reducible refine rv_rI ?hc ?_); (case hc => walk_at "side"))
  | ((with_reducible refine rv_eq ?hc ?_); (case hc => exact rfl))
  | ((with_reducible refine rv_ne ?hc ?_); (case hc => exact rfl))
  | with_reducible refine rv_test ?_
  | with_reducible refine rv_bl ?_
  | with_reducible refine rv_cb ?_
  | with_reducible refine rv_call ?_
  | with_reducible refine rv_tup ?_
  | with_reducible refine rv_lst ?_
  | with_reducible refine rv_tB ?_
  | with_reducible refine rv_or ?_
  | with_reducible refine rv_and ?_
  | with_reducible refine rv_not ?_
  | with_reducible refine rv_andV ?_
  | with_reducible refine rv_orV ?_
  | with_reducible refine rv_notV ?_
  | with_reducible refine rv_ifE ?_
  | with_reducible refine rs_drop ?_
  | with_reducible refine iteT ?_
  | with_reducible refine iteF ?_
  | with_reducible refine ro_nx ?_
  | with_reducible refine ro_rt ?_
  | with_reducible refine ro_ct ?_
  | with_reducible refine ro_bk ?_)
local macro_rules | `(tactic| walk_at "rd") => `(tactic| repeat walk_at "rd1")
local macro_rules | `(tactic| walk_at "side") => `(tactic| first
  | assumption
  | exact (show CPow _ _ from ⟨by decide, by decide, by decide⟩)
  | exact (show CMul _ _ from .inl ⟨by decide, by decide⟩)
  | exact (show CMul _ _ from .inr ⟨by decide, by decide⟩)
  | (show (0 : Int) < _; decide)
  | (show CMul _ _; first | exact .inl ⟨by omega, by omega⟩ | exact .inr ⟨by omega, by omega⟩)
  | omega)
section
variable {P : Program} {w : World} {K : PySem.W.Frag} {mg : Str → Option Value} {base : Heap}
/-- an __init__ of n fields: a new dict with them -/
def spI (C : Addr) (n : Nat) (fs : List V → List (Str × V)) : Sp := fun vs H Q _ => ∃ (a : Addr) (ws : List V), vs = .ref a :: ws ∧ ws.length = n ∧ H a = some (exo a C none) ∧
  ∀ H' dx, (∀ b o, b ≠ a → H b = some o → H' b = some o) → H' a = some (exo a C (some dx)) → H' dx = some (exd dx (fs ws)) → Q .non H'
def fsText (vs : List V) : List (Str × V) := [("at", vs.getD 0 .non)]
def fsTree (vs : List V) : List (Str × V) := [("why", vs.getD 1 .non), ("path", vs.getD 0 .non)]
def fsNaming (vs : List V) : List (Str × V) := [("other", vs.getD 1 .non), ("one", vs.getD 0 .non)]
theorem scIText : FnScope ["self", "at"] ["self", "at"] (defScope iText) := ⟨rfl, rfl, rfl, by decide +kernel, rfl, by decide +kernel, by decide +kernel⟩
theorem scITree : FnScope ["self", "path", "why"] ["self", "path", "why"] (defScope iTree) := ⟨rfl, rfl, rfl, by decide +kernel, rfl, by decide +kernel, by decide +kernel⟩
theorem scINaming : FnScope ["self", "one", "other"] ["self", "one", "other"] (defScope iNaming) := ⟨rfl, rfl, rfl, by decide +kernel, rfl, by decide +kernel, by decide +kernel⟩
theorem len2 {α : Type} {l : List α} (h : l.length = 1) : ∃ x, l = [x] := by
  match l, h with
  | [x], _ => exact ⟨x, rfl⟩
theorem len3 {α : Type} {l : List α} (h : l.length = 2) : ∃ x y, l = [x, y] := by
  match l, h with
  | [x, y], _ => exact ⟨x, y, rfl⟩
theorem ok_iText {f C : Addr} {fd : FuncData} {dvs : List V} (F : FunD K "__init__" "NoText.__init__" (defArgs iText) (defBody iText) (defScope iText) dvs [] f fd) (O : OexC K C) (n1 : PySem.W.findIn K (.ref C) "at" = some none) : FnOk P w K mg base CX0 1 f fd ["self", "at"] (spI C 1 fsText) := by
  refine F.ok scIText (fun vs H Q E h => ?_) (fun cdv A outer s H vs Q E hr h => ?_)
  · obtain ⟨a, ws, rfl, hl, _⟩ := h
    show ws.length + 1 = 2
    omega
  · refine ⟨_, pss_one (ps_ost (pv 0) (pv 1)), ?_⟩
    obtain ⟨a, ws, rfl, hl, ha, q⟩ := h
    obtain ⟨x, rfl⟩ := len2 hl
    refine ⟨_, rfl, _, rfl, a, C, rfl, O, n1, .inl ⟨ha, fun dx nd ne => ?_⟩⟩
    refine q _ dx (fun b o hb z => ?_) upd_same ?_
    · rw [upd_ne hb, upd_ne (ne_of_none z nd)]
      exact z
    · rw [upd_ne ne, upd_same]
      rfl
theorem ok_iTwo {f C : Addr} {fd : FuncData} {dvs : List V} {st : Stmt} {x y q : Str} {fs : List V → List (Str × V)} (F : FunD K "__init__" q (defArgs st) (defBody st) (defScope st) dvs [] f fd) (O : OexC K C)
    (sc : FnScope ["self", x, y] ["self", x, y] (defScope st)) (n1 : PySem.W.findIn K (.ref C) x = some none) (n2 : PySem.W.findIn K (.ref C) y = some none)
    (hb : ∀ (cdv : Value) (A : Around) (outer : List Env) (s : Shared) (H : Hp) (E : XK), PSs (cxOf CX0 P w K mg base ["self", x, y] q (defScope st) f cdv A outer s H E) (defBody st) (tSeq (tOst K x (tVar 0) (tVar 1)) (tOst K y (tVar 0) (tVar 2))))
    (hfs : ∀ u v, fs [u, v] = [(y, v), (x, u)]) : FnOk P w K mg base CX0 1 f fd ["self", x, y] (spI C 2 fs) := by
  refine F.ok sc (fun vs H Q E h => ?_) (fun cdv A outer s H vs Q E hr h => ?_)
  · obtain ⟨a, ws, rfl, hl, _⟩ := h
    show ws.length + 1 = 3
    omega
  · refine ⟨_, hb cdv A outer s H E, ?_⟩
    obtain ⟨a, ws, rfl, hl, ha, q⟩ := h
    obtain ⟨u, v, rfl⟩ := len3 hl
    refine ⟨_, rfl, _, rfl, a, C, rfl, O, n1, .inl ⟨ha, fun dx nd ne => ?_⟩⟩
    refine ⟨_, rfl, _, rfl, a, C, rfl, O, n2, .inr ⟨dx, _, upd_same, (upd_ne ne).trans upd_same, by show 1 ≤ 900; decide, ?_⟩⟩
    refine q _ dx (fun b o hb z => ?_) ?_ ?_
    · rw [upd_ne (ne_of_none z nd), upd_ne hb, upd_ne (ne_of_none z nd)]
      exact z
    · rw [upd_ne (Ne.symm ne), upd_same]
    · rw [upd_same, hfs]
theorem ok_iTree {f C : Addr} {fd : FuncData} {dvs : List V} (F : FunD K "__init__" "NoTree.__init__" (defArgs iTree) (defBody iTree) (defScope iTree) dvs [] f fd) (O : OexC K C) (n1 : PySem.W.findIn K (.ref C) "path" = some none) (n2 : PySem.W.findIn K (.ref C) "why" = some none) :
    FnOk P w K mg base CX0 1 f fd ["self", "path", "why"] (spI C 2 fsTree) :=
  ok_iTwo F O scITree n1 n2 (fun cdv A outer s H E => pss_cons (ps_ost (pv 0) (pv 1)) (pss_one (ps_ost (pv 0) (pv 2)))) fun _ _ => rfl
theorem ok_iNaming {f C : Addr} {fd : FuncData} {dvs : List V} (F : FunD K "__init__" "NoNaming.__init__" (defArgs iNaming) (defBody iNaming) (defScope iNaming) dvs [] f fd) (O : OexC K C) (n1 : PySem.W.findIn K (.ref C) "one" = some none) (n2 : PySem.W.findIn K (.ref C) "other" = some none) :
    FnOk P w K mg base CX0 1 f fd ["self", "one", "other"] (spI C 2 fsNaming) :=
  ok_iTwo F O scINaming n1 n2 (fun cdv A outer s H E => pss_cons (ps_ost (pv 0) (pv 1)) (pss_one (ps_ost (pv 0) (pv 2)))) fun _ _ => rfl
/-! how arguments come to the parameters -/
section
variable {f : Addr} {fd : FuncData} {d0 d1 : V}
theorem bText0 (F : FunD K "__init__" "NoText.__init__" (defArgs iText) (defBody iText) (defScope iText) [d0] [] f fd) : ∃ ds, Vals [d0] ds ∧ L2.Binds K fd ["self", "at"] ds :=
  F.binds1 1 0 (by simp) rfl fun T kV doc pm an cdv ct us its h1 h2 => match us, its, h1, h2 with | [_], [_], _, _ => ⟨_, rfl, rfl⟩
theorem bText1 (F : FunD K "__init__" "NoText.__init__" (defArgs iText) (defBody iText) (defScope iText) [d0] [] f fd) : L2.Binds K fd ["self", "at"] [] := by
  obtain ⟨ds, h, b⟩ := F.binds1 (ps := ["self", "at"]) 2 1 (by simp) rfl fun T kV doc pm an cdv ct us its h1 h2 => match us, its, h1, h2 with | [_, _], [_], _, _ => ⟨_, rfl, rfl⟩
  cases h
  exact b
theorem kText (F : FunD K "__init__" "NoText.__init__" (defArgs iText) (defBody iText) (defScope iText) [d0] [] f fd) : ∃ its : List Value, KBn K fd ["self", "at"] 1 ["at"] (fun us ws => us ++ ws) (fun vs zs => vs ++ zs) :=
  F.kbindsD (ps := ["self", "at"]) 1 ["at"] (fun us _ ws => us ++ ws) (by simp) (fun h1 _ h3 => h1.append h3)
    fun T kV doc pm an cdv ct us its ws h1 h2 h3 => match us, its, ws, h1, h2, h3 with | [_], [_], [_], _, _, _ => ⟨_, rfl, rfl⟩
variable {x y : Str}
theorem vals_rev : ∀ {xs : List V} {us : List Value}, Vals xs us → Vals xs.reverse us.reverse
  | _, _, .nil => .nil
  | _, _, .cons a r => by
    rw [List.reverse_cons, List.reverse_cons]
    exact (vals_rev r).append (.cons a .nil)
/-- of __init__(self, x = .., y = ..) -/
structure TwoB (K : PySem.W.Frag) (fd : FuncData) (x y : Str) (d0 d1 : V) : Prop where
  b0 : ∃ ds, Vals [d0, d1] ds ∧ L2.Binds K fd ["self", x, y] ds
  b1 : ∃ ds, Vals [d1] ds ∧ L2.Binds K fd ["self", x, y] ds
  b2 : L2.Binds K fd ["self", x, y] []
  kyx : ∃ g, KBn K fd ["self", x, y] 1 [y, x] g (fun vs zs => vs ++ zs.reverse)
  k1y : ∃ g, KBn K fd ["self", x, y] 2 [y] g (fun vs zs => vs ++ zs)
  k0y : ∃ g, KBn K fd ["self", x, y] 1 [y] g (fun vs zs => vs ++ ([d0] ++ zs))
theorem bTree (F : FunD K "__init__" "NoTree.__init__" (defArgs iTree) (defBody iTree) (defScope iTree) [d0, d1] [] f fd) : TwoB K fd "path" "why" d0 d1 where
  b0 := F.binds1 (ps := ["self", "path", "why"]) 1 0 (by simp) rfl fun T kV doc pm an cdv ct us its h1 h2 => match us, its, h1, h2 with | [_], [_, _], _, _ => ⟨_, rfl, rfl⟩
  b1 := F.binds1 (ps := ["self", "path", "why"]) 2 1 (by simp) rfl fun T kV doc pm an cdv ct us its h1 h2 => match us, its, h1, h2 with | [_, _], [_, _], _, _ => ⟨_, rfl, rfl⟩
  b2 := by
    obtain ⟨ds, h, b⟩ := F.binds1 (ps := ["self", "path", "why"]) 3 2 (by simp) rfl fun T kV doc pm an cdv ct us its h1 h2 => match us, its, h1, h2 with | [_, _, _], [_, _], _, _ => ⟨_, rfl, rfl⟩
    cases h
    exact b
  kyx := by
    obtain ⟨its, k⟩ := F.kbindsD (ps := ["self", "path", "why"]) 1 ["why", "path"] (fun us _ ws => us ++ ws.reverse) (by simp) (fun h1 _ h3 => h1.append (vals_rev h3)) (fun T kV doc pm an cdv ct us its ws h1 h2 h3 => match us, its, ws, h1, h2, h3 with | [_], [_, _], [_, _], _, _, _ => ⟨_, rfl, rfl⟩)
    exact ⟨_, k⟩
  k1y := by
    obtain ⟨its, k⟩ := F.kbindsD (ps := ["self", "path", "why"]) 2 ["why"] (fun us _ ws => us ++ ws) (by simp) (fun h1 _ h3 => h1.append h3) (fun T kV doc pm an cdv ct us its ws h1 h2 h3 => match us, its, ws, h1, h2, h3 with | [_, _], [_, _], [_], _, _, _ => ⟨_, rfl, rfl⟩)
    exact ⟨_, k⟩
  k0y := by
    obtain ⟨its, k⟩ := F.kbindsD (ps := ["self", "path", "why"]) 1 ["why"] (fun us its ws => us ++ (its.take 1 ++ ws)) (by simp) (fun h1 h2 h3 => h1.append ((h2.take 1).append h3)) (fun T kV doc pm an cdv ct us its ws h1 h2 h3 => match us, its, ws, h1, h2, h3 with | [_], [_, _], [_], _, _, _ => ⟨_, rfl, rfl⟩)
    exact ⟨_, k⟩
theorem bNaming (F : FunD K "__init__" "NoNaming.__init__" (defArgs iNaming) (defBody iNaming) (defScope iNaming) [d0, d1] [] f fd) : TwoB K fd "one" "other" d0 d1 where
  b0 := F.binds1 (ps := ["self", "one", "other"]) 1 0 (by simp) rfl fun T kV doc pm an cdv ct us its h1 h2 => match us, its, h1, h2 with | [_], [_, _], _, _ => ⟨_, rfl, rfl⟩
  b1 := F.binds1 (ps := ["self", "one", "other"]) 2 1 (by simp) rfl fun T kV doc pm an cdv ct us its h1 h2 => match us, its, h1, h2 with | [_, _], [_, _], _, _ => ⟨_, rfl, rfl⟩
  b2 := by
    obtain ⟨ds, h, b⟩ := F.binds1 (ps := ["self", "one", "other"]) 3 2 (by simp) rfl fun T kV doc pm an cdv ct us its h1 h2 => match us, its, h1, h2 with | [_, _, _], [_, _], _, _ => ⟨_, rfl, rfl⟩
    cases h
    exact b
  kyx := by
    obtain ⟨its, k⟩ := F.kbindsD (ps := ["self", "one", "other"]) 1 ["other", "one"] (fun us _ ws => us ++ ws.reverse) (by simp) (fun h1 _ h3 => h1.append (vals_rev h3)) (fun T kV doc pm an cdv ct us its ws h1 h2 h3 => match us, its, ws, h1, h2, h3 with | [_], [_, _], [_, _], _, _, _ => ⟨_, rfl, rfl⟩)
    exact ⟨_, k⟩
  k1y := by
    obtain ⟨its, k⟩ := F.kbindsD (ps := ["self", "one", "other"]) 2 ["other"] (fun us _ ws => us ++ ws) (by simp) (fun h1 _ h3 => h1.append h3) (fun T kV doc pm an cdv ct us its ws h1 h2 h3 => match us, its, ws, h1, h2, h3 with | [_, _], [_, _], [_], _, _, _ => ⟨_, rfl, rfl⟩)
    exact ⟨_, k⟩
  k0y := by
    obtain ⟨its, k⟩ := F.kbindsD (ps := ["self", "one", "other"]) 1 ["other"] (fun us its ws => us ++ (its.take 1 ++ ws)) (by simp) (fun h1 h2 h3 => h1.append ((h2.take 1).append h3)) (fun T kV doc pm an cdv ct us its ws h1 h2 h3 => match us, its, ws, h1, h2, h3 with | [_], [_, _], [_], _, _, _ => ⟨_, rfl, rfl⟩)
    exact ⟨_, k⟩
end
end
end My

/-! numbers in base 32, rows, maps: the mathematics -/
namespace My
open PySem PySem.Spec PyProof.Rows L2 SX
/-- the sign of a figure -/
def sg (d : Nat) : Nat := if d < 10 then 48 + d else 87 + d
def figs : List Nat := (List.range 32).map sg
/-- which figure a sign is -/
def fx (c : Nat) : Nat := if c < 58 then c - 48 else c - 87
def isFig (c : Nat) : Bool := decide (c ∈ figs)
theorem fx_sg {d : Nat} (h : d < 32) : fx (sg d) = d := by
  have : ∀ d, d < 32 → fx (sg d) = d := by decide +kernel
  exact this d h
theorem sg_fig {d : Nat} (h : d < 32) : isFig (sg d) = true := by
  have : ∀ d, d < 32 → isFig (sg d) = true := by decide +kernel
  exact this d h
theorem fig_sg {c : Nat} (h : isFig c = true) : ∃ d, d < 32 ∧ c = sg d := by
  obtain ⟨d, hd, e⟩ := List.mem_map.mp (of_decide_eq_true h)
  exact ⟨d, List.mem_range.mp hd, e.symm⟩
theorem fig_lt {c : Nat} (h : isFig c = true) : fx c < 32 ∧ sg (fx c) = c ∧ c ≠ 45 ∧ c ≠ 32 ∧ c ≠ 59 ∧ c < 128 ∧ figs[fx c]? = some c := by
  obtain ⟨d, hd, rfl⟩ := fig_sg h
  have : ∀ d, d < 32 → fx (sg d) < 32 ∧ sg (fx (sg d)) = sg d ∧ sg d ≠ 45 ∧ sg d ≠ 32 ∧ sg d ≠ 59 ∧ sg d < 128 ∧ figs[fx (sg d)]? = some (sg d) := by decide +kernel
  exact this d hd
def digs (n : Nat) : List Nat := if n < 32 then [sg n] else digs (n / 32) ++ [sg (n % 32)]
termination_by n
decreasing_by omega
theorem digs_lt {n : Nat} (h : n < 32) : digs n = [sg n] := by
  rw [digs, if_pos h]
theorem digs_ge {n : Nat} (h : ¬ n < 32) : digs n = digs (n / 32) ++ [sg (n % 32)] := by
  rw [digs, if_neg h]
theorem digs_ne (n : Nat) : digs n ≠ [] := by
  rw [digs]
  split <;> simp
theorem digs_fig (n : Nat) : ∀ c ∈ digs n, isFig c = true := by
  induction n using Nat.strongRecOn with
  | _ n ih =>
    intro c hc
    by_cases h : n < 32
    · rw [digs_lt h, List.mem_singleton] at hc
      rw [hc]
      exact sg_fig h
    · rw [digs_ge h, List.mem_append, List.mem_singleton] at hc
      rcases hc with hc | rfl
      · exact ih _ (by omega) c hc
      · exact sg_fig (by omega)
theorem digs_len (k : Nat) : ∀ n, n < 32 ^ (k + 1) → (digs n).length ≤ k + 1 := by
  induction k with
  | zero =>
    intro n h
    rw [digs_lt (by simpa using h)]
    exact Nat.le_refl _
  | succ k ih =>
    intro n h
    by_cases h2 : n < 32
    · rw [digs_lt h2]
      simp
    · rw [digs_ge h2, List.length_append]
      have := ih (n / 32) (Nat.div_lt_of_lt_mul (by rw [Nat.pow_succ] at h; omega))
      simp
      omega
/-- the number of figures -/
def val (fs : List Nat) : Nat := fs.foldl (fun n c => n * 32 + fx c) 0
theorem val_snoc (fs : List Nat) (c : Nat) : val (fs ++ [c]) = val fs * 32 + fx c := by
  unfold val
  rw [List.foldl_append]
  rfl
theorem val_digs (n : Nat) : val (digs n) = n := by
  induction n using Nat.strongRecOn with
  | _ n ih =>
    by_cases h : n < 32
    · rw [digs_lt h]
      show 0 * 32 + fx (sg n) = n
      rw [fx_sg h]
      omega
    · rw [digs_ge h, val_snoc, ih _ (by omega), fx_sg (by omega)]
      omega
theorem val_lt (fs : List Nat) (h : ∀ c ∈ fs, isFig c = true) : val fs < 32 ^ fs.length := by
  obtain ⟨r, rfl⟩ : ∃ r : List Nat, r.reverse = fs := ⟨fs.reverse, List.reverse_reverse fs⟩
  induction r with
  | nil => exact Nat.zero_lt_one
  | cons c r ih =>
    rw [List.reverse_cons, val_snoc, List.length_append]
    have a := ih (fun d hd => h d (by rw [List.reverse_cons, List.mem_append]; exact .inl hd))
    have b := (fig_lt (h c (by rw [List.reverse_cons, List.mem_append]; exact .inr (List.mem_singleton.mpr rfl)))).1
    show _ < 32 ^ (r.reverse.length + 1)
    rw [Nat.pow_succ]
    omega
/-- a number written -/
def numT (i : Int) : List Nat := if i < 0 then 45 :: digs i.natAbs else digs i.natAbs
def bodyOf (w : List Nat) : List Nat := if w.head? = some 45 then w.tail else w
def toldOf (w : List Nat) : Int := if w.head? = some 45 then -(val (bodyOf w) : Nat) else (val (bodyOf w) : Nat)
def numR (w : List Nat) : Option Int :=
  if bodyOf w ≠ [] ∧ (bodyOf w).length ≤ 30 ∧ (bodyOf w).all isFig = true then (if numT (toldOf w) = w then some (toldOf w) else none) else none
theorem numT_ne (i : Int) : numT i ≠ [] := by
  unfold numT
  split
  · simp
  · exact digs_ne _
theorem numT_sign (i : Int) : ∀ c ∈ numT i, c ≠ 32 ∧ c ≠ 59 ∧ c < 128 := by
  intro c hc
  unfold numT at hc
  split at hc
  · rcases List.mem_cons.mp hc with rfl | hc
    · decide
    · obtain ⟨_, _, _, a, b, d, _⟩ := fig_lt (digs_fig _ c hc)
      exact ⟨a, b, d⟩
  · obtain ⟨_, _, _, a, b, d, _⟩ := fig_lt (digs_fig _ c hc)
    exact ⟨a, b, d⟩
theorem numT_len {k : Nat} {i : Int} (h : i.natAbs < 32 ^ (k + 1)) : (numT i).length ≤ k + 2 := by
  have := digs_len k i.natAbs h
  unfold numT
  split
  · simp
    omega
  · omega
theorem head_digs (n : Nat) : (digs n).head? ≠ some 45 := by
  intro e
  have h := digs_fig n 45 (by
    cases hd : digs n with
    | nil => exact absurd hd (digs_ne n)
    | cons c r =>
      rw [hd] at e
      cases e
      exact List.mem_cons_self ..)
  exact (fig_lt h).2.2.1 rfl
theorem numR_numT {i : Int} (h : i.natAbs < 32 ^ 30) : numR (numT i) = some i := by
  have hl := digs_len 29 i.natAbs h
  have ha : (digs i.natAbs).all isFig = true := List.all_eq_true.mpr (digs_fig _)
  have hb : bodyOf (numT i) = digs i.natAbs ∧ toldOf (numT i) = i := by
    by_cases n : i < 0
    · have e : numT i = 45 :: digs i.natAbs := by unfold numT; rw [if_pos n]
      have c : (numT i).head? = some 45 := by rw [e]; rfl
      have b : bodyOf (numT i) = digs i.natAbs := by
        unfold bodyOf
        rw [if_pos c, e]
        rfl
      refine ⟨b, ?_⟩
      unfold toldOf
      rw [if_pos c, b, val_digs]
      omega
    · have e : numT i = digs i.natAbs := by unfold numT; rw [if_neg n]
      have c : ¬ (numT i).head? = some 45 := by rw [e]; exact head_digs _
      have b : bodyOf (numT i) = digs i.natAbs := by
        unfold bodyOf
        rw [if_neg c, e]
      refine ⟨b, ?_⟩
      unfold toldOf
      rw [if_neg c, b, val_digs]
      omega
  unfold numR
  rw [hb.1, hb.2, if_pos ⟨digs_ne _, hl, ha⟩, if_pos rfl]
theorem numR_some {w : List Nat} {i : Int} (h : numR w = some i) : numT i = w ∧ i.natAbs < 32 ^ 30 := by
  unfold numR at h
  by_cases c : bodyOf w ≠ [] ∧ (bodyOf w).length ≤ 30 ∧ (bodyOf w).all isFig = true
  · rw [if_pos c] at h
    have hv := val_lt (bodyOf w) (List.all_eq_true.mp c.2.2)
    have hp : (32 : Nat) ^ (bodyOf w).length ≤ 32 ^ 30 := Nat.pow_le_pow_right (by decide) c.2.1
    by_cases e : numT (toldOf w) = w
    · rw [if_pos e] at h
      cases h
      refine ⟨e, ?_⟩
      have : (toldOf w).natAbs = val (bodyOf w) := by
        unfold toldOf
        split <;> omega
      omega
    · rw [if_neg e] at h
      cases h
  · rw [if_neg c] at h
    cases h
/-! ### entries -/
abbrev Ent4 := Int × Int × Int × Int
def ent0 : Ent4 := (0, 0, 0, 0)
def lessE (e a : Ent4) : List Int := [e.1 - a.1, e.2.1 - a.2.1, e.2.2.1 - a.2.2.1, e.2.2.2 - a.2.2.2]
def addE (x : Ent4) (a : Ent4) : Ent4 := (x.1 + a.1, x.2.1 + a.2.1, x.2.2.1 + a.2.2.1, x.2.2.2 + a.2.2.2)
def okE (e a : Ent4) : Bool := !(decide (e.1 < a.2.1) || decide (e.2.1 ≤ e.1) || decide (e.2.2.1 < 0) || decide (e.2.2.2 < e.2.2.1))
def four : List (Option Int) → Option Ent4
  | [some a, some b, some c, some d] => some (a, b, c, d)
  | _ => none
def numsOf (t : List Nat) : List (Option Int) := (TL.spl [32] 0 [] t).map numR
def rowR (t : List Nat) (a : Ent4) : Option Ent4 := match four (numsOf t) with
  | some x => if okE (addE x a) a = true then some (addE x a) else none
  | none => none
def readR : List (List Nat) → Ent4 → Option (List Ent4)
  | [], _ => some []
  | t :: r, a => match rowR t a with
    | some e => (readR r e).map (e :: ·)
    | none => none
def readM (t : List Nat) : Option (List Ent4) := if t = [] then some [] else readR (TL.spl [59] 0 [] t) ent0
def rowT (e a : Ent4) : List Nat := TL.joinL [32] ((lessE e a).map numT)
def rowsT : List Ent4 → Ent4 → List (List Nat)
  | [], _ => []
  | e :: r, a => rowT e a :: rowsT r e
def mapT (es : List Ent4) : List Nat := TL.joinL [59] (rowsT es ent0)
/-- joined again -/
theorem joinL_cons {s : List Nat} {p : List Nat} {r : List (List Nat)} (h : r ≠ []) : TL.joinL s (p :: r) = p ++ (s ++ TL.joinL s r) := by
  cases r with
  | nil => exact absurd rfl h
  | cons q r => rfl
theorem spl_ne {s : List Nat} : ∀ (n : Nat) (l : List Nat) (k : Nat) (acc : List Nat), l.length ≤ n → TL.spl s k acc l ≠ [] := by
  intro n
  induction n with
  | zero =>
    intro l k acc h
    have : l = [] := List.eq_nil_of_length_eq_zero (by omega)
    subst this
    rw [TL.spl_nil]
    simp
  | succ n ih =>
    intro l k acc h
    cases l with
    | nil => rw [TL.spl_nil]; simp
    | cons c r =>
      cases k with
      | zero =>
        unfold TL.spl
        split
        · simp
        · exact ih r 0 _ (by simp at h; omega)
      | succ k =>
        unfold TL.spl
        exact ih r k _ (by simp at h; omega)
theorem pre1 (s c : Nat) (r : List Nat) : TL.pre [s] (c :: r) = decide (c = s) := by
  show ([c] == [s]) = _
  by_cases e : c = s
  · subst e
    simp
  · simp [e]
theorem spl_back (s : Nat) : ∀ (l acc : List Nat), s ∉ acc → TL.joinL [s] (TL.spl [s] 0 acc l) = acc ++ l ∧ ∀ p ∈ TL.spl [s] 0 acc l, s ∉ p
  | [], acc, h => by
    rw [TL.spl_nil, List.append_nil]
    exact ⟨rfl, fun p hp => by rw [List.mem_singleton.mp hp]; exact h⟩
  | c :: r, acc, h => by
    by_cases e : c = s
    · subst e
      have hp : TL.pre [c] (c :: r) = true := by rw [pre1]; simp
      rw [TL.spl_hit hp]
      have ih := spl_back c r [] (by simp)
      show TL.joinL [c] (acc :: TL.spl [c] 0 [] r) = _ ∧ _
      rw [joinL_cons (spl_ne _ _ _ _ (Nat.le_refl _)), ih.1]
      refine ⟨rfl, fun p hp => ?_⟩
      rcases List.mem_cons.mp hp with rfl | hp
      · exact h
      · exact ih.2 p hp
    · have hp : TL.pre [s] (c :: r) = false := by rw [pre1]; simp [e]
      rw [TL.spl_miss hp]
      have ih := spl_back s r (acc ++ [c]) (by
        rw [List.mem_append, List.mem_singleton]
        exact fun z => z.elim h (fun z => e z.symm))
      rw [ih.1, List.append_assoc]
      exact ⟨rfl, ih.2⟩
theorem four_some {l : List (Option Int)} {x : Ent4} (h : four l = some x) : l = [some x.1, some x.2.1, some x.2.2.1, some x.2.2.2] := by
  unfold four at h
  split at h
  · cases h
    rfl
  · cases h
theorem rowR_some {t : List Nat} {a e : Ent4} (h : rowR t a = some e) : rowT e a = t ∧ okE e a = true ∧ (∀ x ∈ lessE e a, x.natAbs < 32 ^ 30) := by
  unfold rowR at h
  cases hf : four (numsOf t) with
  | none => rw [hf] at h; cases h
  | some x =>
    rw [hf] at h
    dsimp only at h
    by_cases c : okE (addE x a) a = true
    · rw [if_pos c] at h
      cases h
      have e4 := four_some hf
      unfold numsOf at e4
      obtain ⟨x1, x2, x3, x4⟩ := x
      obtain ⟨a1, a2, a3, a4⟩ := a
      have hl : lessE (addE (x1, x2, x3, x4) (a1, a2, a3, a4)) (a1, a2, a3, a4) = [x1, x2, x3, x4] := by
        show [x1 + a1 - a1, x2 + a2 - a2, x3 + a3 - a3, x4 + a4 - a4] = _
        simp only [Int.add_sub_cancel]
      have e5 : ∃ w1 w2 w3 w4, TL.spl [32] 0 [] t = [w1, w2, w3, w4] ∧ numR w1 = some x1 ∧ numR w2 = some x2 ∧ numR w3 = some x3 ∧ numR w4 = some x4 := by
        match hs : TL.spl [32] 0 [] t with
        | [w1, w2, w3, w4] =>
          rw [hs] at e4
          simp only [List.map_cons, List.map_nil, List.cons.injEq, and_true] at e4
          exact ⟨w1, w2, w3, w4, rfl, e4.1, e4.2.1, e4.2.2.1, e4.2.2.2⟩
        | [] => rw [hs] at e4; simp at e4
        | [_] => rw [hs] at e4; simp at e4
        | [_, _] => rw [hs] at e4; simp at e4
        | [_, _, _] => rw [hs] at e4; simp at e4
        | _ :: _ :: _ :: _ :: _ :: _ => rw [hs] at e4; simp at e4
      obtain ⟨w1, w2, w3, w4, hs, r1, r2, r3, r4⟩ := e5
      have k1 := numR_some r1
      have k2 := numR_some r2
      have k3 := numR_some r3
      have k4 := numR_some r4
      refine ⟨?_, c, ?_⟩
      · unfold rowT
        rw [hl]
        show TL.joinL [32] [numT x1, numT x2, numT x3, numT x4] = t
        rw [k1.1, k2.1, k3.1, k4.1, ← hs]
        exact (spl_back 32 t [] (by simp)).1
      · rw [hl]
        intro x hx
        simp only [List.mem_cons, List.not_mem_nil, or_false] at hx
        rcases hx with rfl | rfl | rfl | rfl
        · exact k1.2
        · exact k2.2
        · exact k3.2
        · exact k4.2
    · rw [if_neg c] at h
      cases h
/-- good entries, one behind the other -/
def Good (a : Ent4) : List Ent4 → Prop
  | [] => True
  | e :: r => okE e a = true ∧ (∀ x ∈ lessE e a, x.natAbs < 32 ^ 30) ∧ Good e r
theorem readR_some : ∀ {ts : List (List Nat)} {a : Ent4} {es : List Ent4}, readR ts a = some es → rowsT es a = ts ∧ Good a es
  | [], a, es, h => by
    cases h
    exact ⟨rfl, True.intro⟩
  | t :: r, a, es, h => by
    unfold readR at h
    cases hr : rowR t a with
    | none => rw [hr] at h; cases h
    | some e =>
      rw [hr] at h
      dsimp only at h
      cases hq : readR r e with
      | none => rw [hq] at h; cases h
      | some es' =>
        rw [hq] at h
        cases h
        have ih := readR_some hq
        have k := rowR_some hr
        exact ⟨by show rowT e a :: rowsT es' e = _; rw [k.1, ih.1], k.2.1, k.2.2, ih.2⟩
theorem readM_some {t : List Nat} {es : List Ent4} (h : readM t = some es) : mapT es = t ∧ Good ent0 es := by
  unfold readM at h
  by_cases c : t = []
  · rw [if_pos c] at h
    cases h
    subst c
    exact ⟨rfl, True.intro⟩
  · rw [if_neg c] at h
    have k := readR_some h
    refine ⟨?_, k.2⟩
    unfold mapT
    rw [k.1]
    exact (spl_back 59 t [] (by simp)).1
theorem rowR_rowT {a e : Ent4} (h1 : okE e a = true) (h2 : ∀ x ∈ lessE e a, x.natAbs < 32 ^ 30) : rowR (rowT e a) a = some e := by
  have hs : TL.spl [32] 0 [] (rowT e a) = (lessE e a).map numT := TL.spl_join (by simp [lessE]) fun p hp => by
    obtain ⟨x, _, rfl⟩ := List.mem_map.mp hp
    exact fun z => (numT_sign x 32 z).1 rfl
  have hn : numsOf (rowT e a) = (lessE e a).map some := by
    unfold numsOf
    rw [hs, List.map_map]
    exact List.map_congr_left fun x hx => numR_numT (h2 x hx)
  obtain ⟨e1, e2, e3, e4⟩ := e
  obtain ⟨a1, a2, a3, a4⟩ := a
  have hb : addE (e1 - a1, e2 - a2, e3 - a3, e4 - a4) (a1, a2, a3, a4) = (e1, e2, e3, e4) := by
    show (e1 - a1 + a1, e2 - a2 + a2, e3 - a3 + a3, e4 - a4 + a4) = _
    simp only [Int.sub_add_cancel]
  unfold rowR
  rw [hn]
  show (if okE (addE (e1 - a1, e2 - a2, e3 - a3, e4 - a4) (a1, a2, a3, a4)) (a1, a2, a3, a4) = true then some (addE (e1 - a1, e2 - a2, e3 - a3, e4 - a4) (a1, a2, a3, a4)) else none) = _
  rw [hb, if_pos h1]
theorem readR_rowsT : ∀ {es : List Ent4} {a : Ent4}, Good a es → readR (rowsT es a) a = some es
  | [], _, _ => rfl
  | e :: r, a, h => by
    show readR (rowT e a :: rowsT r e) a = _
    unfold readR
    rw [rowR_rowT h.1 h.2.1]
    dsimp only
    rw [readR_rowsT h.2.2]
    rfl
theorem rowT_no59 (e a : Ent4) : 59 ∉ rowT e a := by
  intro z
  have : ∀ l : List Int, 59 ∉ TL.joinL [32] (l.map numT) := by
    intro l
    induction l with
    | nil => intro z; cases z
    | cons x l ih =>
      cases l with
      | nil => exact fun z => (numT_sign x 59 z).2.1 rfl
      | cons y l =>
        intro z
        rw [List.map_cons, joinL_cons (by simp), List.mem_append, List.mem_append, List.mem_singleton] at z
        rcases z with z | z | z
        · exact (numT_sign x 59 z).2.1 rfl
        · exact absurd z (by decide)
        · exact ih z
  exact this _ z
theorem rowT_ne (e a : Ent4) : rowT e a ≠ [] := by
  show numT _ ++ _ ≠ []
  intro z
  exact numT_ne _ (List.append_eq_nil_iff.mp z).1
theorem rows_no59 : ∀ (es : List Ent4) (a : Ent4), ∀ p ∈ rowsT es a, 59 ∉ p
  | [], _, p, h => by cases h
  | e :: r, a, p, h => by
    rcases List.mem_cons.mp h with rfl | h
    · exact rowT_no59 _ _
    · exact rows_no59 r e p h
theorem readM_mapT {es : List Ent4} (h : Good ent0 es) : readM (mapT es) = some es := by
  cases es with
  | nil => rfl
  | cons e r =>
    have hne : mapT (e :: r) ≠ [] := by
      unfold mapT
      show TL.joinL [59] (rowT e ent0 :: rowsT r e) ≠ []
      cases hr : rowsT r e with
      | nil => exact rowT_ne _ _
      | cons p q =>
        rw [joinL_cons (by simp)]
        intro z
        exact rowT_ne _ _ (List.append_eq_nil_iff.mp z).1
    unfold readM
    rw [if_neg hne]
    unfold mapT
    rw [TL.spl_join (by simp [rowsT]) (rows_no59 _ _)]
    exact readR_rowsT h
end My

namespace My
open PySem PySem.Spec PyProof.Rows L2 XR SX
abbrev sNT : Stmt := top 16
abbrev sLD : Stmt := top 28
section
variable {P : Program} {w : World} {K : PySem.W.Frag} {mg : Str → Option Value} {base : Heap}
local macro_rules | `(tactic| walk_at "rd1") => `(tactic| first
  | with_reducible refine rs_seq ?_
  | with_reducible refine rs_asg ?_
  | with_reducible refine rs_ret ?_
  | with_reducible refine rs_if ?_
  | with_reducible refine rs_next ?_
  | with_reducible refine rg_name ?_
  | ((with_reducible refine rv_var (v := ?vv) ?hv ?_); (case hv => exact rfl))
  | with_reducible refine rv_c ?_
  | with_reducible refine rv_op ?_
  | with_reducible refine rv_cons ?_
  | with_reducible refine rv_nil ?_
  | with_reducible refine rv_rI0 ?_
  | ((with_reducible refine rv_rI ?hc ?_); (case hc => walk_at "side"))
  | ((with_reducible refine rv_eq ?hc ?_); (case hc => exact rfl))
  | ((with_reducible refine rv_ne ?hc ?_); (case hc => exact rfl))
  | with_reducible refine rv_test ?_
  | with_reducible refine rv_bl ?_
  | with_reducible refine rv_cb ?_
  | with_reducible refine rv_call ?_
  | with_reducible refine rv_tup ?_
  | with_reducible refine rv_lst ?_
  | with_reducible refine rv_tB ?_
  | with_reducible refine rv_or ?_
  | with_reducible refine rv_and ?_
  | with_reducible refine rv_not ?_
  | with_reducible refine rv_andV ?_
  | with_reducible refine rv_orV ?_
  | with_reducible refine rv_notV ?_
  | with_reducible refine rv_ifE ?_
  | with_reducible refine rs_drop ?_
  | with_reducible refine iteT ?_
  | with_reducible refine iteF ?_
  | with_reducible refine ro_nx ?_
  | with_reducible refine ro_rt ?_
  | with_reducible refine ro_ct ?_
  | with_reducible refine ro_bk ?_)
local macro_rules | `(tactic| walk_at "rd") => `(tactic| repeat walk_at "rd1")
local macro_rules | `(tactic| walk_at "side") => `(tactic| first
  | assumption
  | exact (show CPow _ _ from ⟨by decide, by decide, by decide⟩)
  | exact (show CMul _ _ from .inl ⟨by decide, by decide⟩)
  | exact (show CMul _ _ from .inr ⟨by decide, by decide⟩)
  | (show (0 : Int) < _; decide)
  | (show CMul _ _; first | exact .inl ⟨by omega, by omega⟩ | exact .inr ⟨by omega, by omega⟩)
  | omega)
local macro_rules | `(tactic| walk_at "rd1") => `(tactic| first
  | with_reducible refine rs_for ?_
  | with_reducible refine ri_zip ?_
  | with_reducible refine ri_list ?_
  | with_reducible refine ri_rng1 ?_
  | with_reducible refine rv_lc ?_
  | with_reducible refine rv_xfl ?_
  | with_reducible refine rs_par3 ?_
  | with_reducible refine rv_yes ?_
  | with_reducible refine rg_tup ?_
  | with_reducible refine rg_cons ?_
  | with_reducible refine rg_nil ?_)
local macro_rules | `(tactic| walk_at "rd1") => `(tactic| first
  | with_reducible refine ri_str ?_
  | with_reducible refine rv_sl ?_
  | with_reducible refine rv_part ?_
  | with_reducible refine rv_nopart ?_
  | with_reducible refine rv_callS ?_
  | with_reducible refine rv_chain ?_
  | with_reducible refine rv_leS ?_
  | with_reducible refine rv_inS ?_)
theorem len_le {n : Nat} (h : n ≤ 4000) : n ≤ sizeLine := by
  rw [sizeLine_eq]
  omega
theorem iteB {c : Bool} {A B : Prop} (h1 : c = true → A) (h2 : c = false → B) : if c = true then A else B := by
  cases c
  · exact h2 rfl
  · exact h1 rfl
theorem while_m {c : TT} {tb : TS} {D : Ends} {σ : L2.St} {H : Hp} (Pv : Nat → L2.St → Hp → Prop) (m0 : Nat) (h0 : Pv m0 σ H)
    (hs : ∀ m σ H, Pv m σ H → c σ H fun b H1 => if b = true then ∃ N : L2.St → Hp → Prop, (∀ σ' H', N σ' H' → ∃ m', m' < m ∧ Pv m' σ' H') ∧ tb { D with nx := N, ct := N, bk := D.nx } σ H1 else D.nx σ H1) : tWhile c tb D σ H :=
  ⟨Pv, ⟨m0, h0⟩, hs⟩
def rAddS : R2 := fun x y H Q => ∃ i j : Str, x = .str i ∧ y = .str j ∧ i.length + j.length ≤ sizeLine ∧ Q (.str (i ++ j)) H
theorem op_addS {X : Cx} : OpR X (binaryOp .Add) rAddS := op_add_str
theorem rv_addS {a b : List Nat} {H : Hp} {Q : VK} (hl : a.length + b.length ≤ 16000) (q : Q (.str (S (a ++ b))) H) : rAddS (.str (S a)) (.str (S b)) H Q :=
  ⟨S a, S b, rfl, rfl, by rw [S_len, S_len, sizeLine_eq]; omega, by rw [S_cat]; exact q⟩
abbrev figZ : Str := "0123456789abcdefghijklmnopqrstuv"
theorem figZ_eq : figZ = S figs := by decide +kernel
theorem at_fig {k c : Nat} {H : Hp} {Q : VK} (h : figs[k]? = some c) (q : Q (.str (S [c])) H) : rIxS (.str figZ) (.int (k : Int)) H Q := by
  rw [figZ_eq]
  exact at_S h (by decide) q
theorem figs_at {d : Nat} (h : d < 32) : figs[d]? = some (sg d) := by
  have : ∀ d, d < 32 → figs[d]? = some (sg d) := by decide +kernel
  exact this d h
/-- the loop over the figures -/
def DI (N rest : Nat) (acc : List Nat) : Prop := (acc = [] ∧ rest = N) ∨ (acc ≠ [] ∧ ((rest = 0 ∧ acc = digs N) ∨ (rest ≠ 0 ∧ digs rest ++ acc = digs N)))
theorem DI.step {N rest : Nat} {acc : List Nat} (h : DI N rest acc) (h2 : rest ≠ 0 ∨ acc = []) : DI N (rest / 32) (sg (rest % 32) :: acc) := by
  refine .inr ⟨List.cons_ne_nil _ _, ?_⟩
  have key : digs rest ++ acc = digs N := by
    rcases h with ⟨rfl, rfl⟩ | ⟨h3, ⟨rfl, _⟩ | ⟨_, e⟩⟩
    · rw [List.append_nil]
    · rcases h2 with h2 | h2
      · exact absurd rfl h2
      · exact absurd h2 h3
    · exact e
  by_cases c : rest < 32
  · have e0 : rest / 32 = 0 := Nat.div_eq_of_lt c
    refine .inl ⟨e0, ?_⟩
    rw [← key, digs_lt c, Nat.mod_eq_of_lt c]
    rfl
  · refine .inr ⟨by omega, ?_⟩
    rw [← key, digs_ge c, List.append_assoc]
    rfl
theorem DI.done {N : Nat} {acc : List Nat} (h : DI N 0 acc) (h2 : acc ≠ []) : acc = digs N := by
  rcases h with ⟨e, _⟩ | ⟨_, ⟨_, e⟩ | ⟨h, _⟩⟩
  · exact absurd e h2
  · exact e
  · exact absurd rfl h
theorem DI.len {N rest : Nat} {acc : List Nat} (h : DI N rest acc) : acc.length ≤ (digs N).length := by
  rcases h with ⟨rfl, _⟩ | ⟨_, ⟨_, rfl⟩ | ⟨_, e⟩⟩
  · exact Nat.zero_le _
  · exact Nat.le_refl _
  · rw [← e, List.length_append]
    omega
def dm (rest : Nat) (acc : List Nat) : Nat := if acc = [] then rest + 1 else rest
theorem dm_lt {rest : Nat} {acc : List Nat} (h2 : rest ≠ 0 ∨ acc = []) : dm (rest / 32) (sg (rest % 32) :: acc) < dm rest acc := by
  unfold dm
  rw [if_neg (List.cons_ne_nil _ _)]
  split
  · omega
  · next n => exact Nat.div_lt_self (Nat.pos_of_ne_zero (h2.resolve_right n)) (by decide)
theorem abs_nat (i : Int) : (if i < 0 then -i else i) = ((i.natAbs : Nat) : Int) := by
  split <;> omega
theorem pow160 : (32 : Nat) ^ 160 = 32 ^ (159 + 1) := rfl
/-- a number written in base 32 -/
def spNT : Sp := fun vs H Q _ => ∃ i : Int, vs = [.int i] ∧ i.natAbs < 32 ^ 160 ∧ Q (.str (S (numT i))) H
structure Mp (mg : Str → Option Value) : Prop where
  abs_ : mg "abs" = none
  len_ : mg "len" = none
  zip_ : mg "zip" = none
  all_ : mg "all" = none
  int_ : mg "int" = none
  min_ : mg "min" = none
  max_ : mg "max" = none
  str_ : mg "str" = none
  list_ : mg "list" = none
  tuple_ : mg "tuple" = none
  range_ : mg "range" = none
  isinstance : mg "isinstance" = none
  figs : ∃ t, mg "FIGURES" = some (.str figZ t)
  base : ∃ t, mg "BASE" = some (.int 32 t)
  most : ∃ t, mg "MOST_FIGURES" = some (.int 30 t)
theorem str_ne {acc : List Nat} {H : Hp} {Q : VK} (q : Q (.bl (decide (acc = []))) H) : rEq (.str (S acc)) (.str "") H Q := by
  refine ⟨rfl, ?_⟩
  have e : decide (V.str (S acc) = V.str "") = decide (acc = []) := by
    refine decide_eq_decide.mpr ⟨fun h => ?_, fun h => by rw [h]; rfl⟩
    exact S_inj (b := []) (V.str.inj h)
  rw [e]
  exact q
theorem scNT : FnScope ["number", "figures", "rest"] ["number"] (defScope sNT) := ⟨rfl, rfl, rfl, by decide +kernel, rfl, by decide +kernel, by decide +kernel⟩
theorem ok_NT {f : Addr} {fd : FuncData} (F : Fun K "number_text" "number_text" sNT f fd) (T : Mp mg) : FnOk P w K mg base CX0 1 f fd ["number"] spNT := by
  obtain ⟨tF, hF⟩ := T.figs
  obtain ⟨tB, hB⟩ := T.base
  refine F.ok scNT (fun vs H Q E h => ?_) (fun cdv A outer s H vs Q E hr h => ?_)
  · obtain ⟨i, rfl, _⟩ := h
    rfl
  · refine ⟨_, (pss_cons (ps_set (i := 1) scNT.nd rfl (.inl rfl) pe_str)
        (pss_cons (ps_set (i := 2) scNT.nd rfl (.inl rfl) (pe_callB call_abs (by rfl) T.abs_ (by decide +kernel) (pa_cons (pv 0) pa_nil)))
        (pss_cons (ps_while PassesOwn.never (PW.pt (pw_or (pt_cmpR op_gt (pv 2) pe_int (nomark _)) (pw_or1 (pt_cmpR op_eq (pv 1) pe_str (nomark _))))) (pss_cons (ps_set (i := 1) scNT.nd rfl (.inl rfl) (pe_op op_addS (pe_ix ix_str (pe_glob (by rfl) hF (v := .str figZ) ⟨_, rfl⟩) (pe_op op_andM (pv 2) pe_int) (fun _ _ => rfl)) (pv 1)))
        (pss_one (ps_set (i := 2) scNT.nd rfl (.inl rfl) (pe_op op_fdiv (pv 2) (pe_glob (by rfl) hB (v := .int 32) ⟨_, rfl⟩))))))
        (pss_one (ps_ret (pe_ifExp (pt_cmpR op_lt (pv 0) pe_int (nomark _)) (pe_op op_addS pe_str (pv 1)) (pv 1))))))), ?_⟩
    obtain ⟨i, rfl, hi, qq⟩ := h
    have ll := digs_len 159 i.natAbs hi
    walk_at "rd"
    refine ⟨i, rfl, ?_⟩
    rw [abs_nat]
    walk_at "rd"
    refine while_m (fun m σ H' => H' = H ∧ ∃ (rest : Nat) (acc : List Nat), σ = [some (.int i), some (.str (S acc)), some (.int (rest : Nat))] ∧ DI i.natAbs rest acc ∧ m = dm rest acc) (dm i.natAbs []) ⟨rfl, _, [], rfl, .inl ⟨rfl, rfl⟩, rfl⟩ ?_
    rintro m σ H' ⟨rfl, rest, acc, rfl, di, rfl⟩
    have la := di.len
    have turn : rest ≠ 0 ∨ acc = [] → _ := fun h2 => And.intro (di.step h2) (dm_lt h2)
    walk_at "rd"
    refine iteB (fun h1 => ?_) (fun h1 => ?_)
    · have h2 : rest ≠ 0 := by have := of_decide_eq_true h1; omega
      obtain ⟨d1, d2⟩ := turn (.inl h2)
      refine iteTe rfl ?_
      refine ⟨fun σ2 H2 => H2 = H' ∧ σ2 = [some (.int i), some (.str (S (sg (rest % 32) :: acc))), some (.int ((rest / 32 : Nat) : Int))], fun σ2 H2 ⟨e1, e2⟩ => ⟨_, d2, e1, _, _, e2, d1, rfl⟩, ?_⟩
      walk_at "rd"
      refine ⟨_, 5, rfl, rfl, ?_⟩
      rw [show ((rest : Nat) : Int) % 2 ^ 5 = ((rest % 32 : Nat) : Int) by omega]
      refine at_fig (figs_at (by omega)) ?_
      walk_at "rd"
      refine rv_addS (a := [sg (rest % 32)]) (b := acc) (by show 1 + _ ≤ _; omega) ?_
      walk_at "rd"
      refine ⟨_, _, rfl, rfl, ⟨by decide, by decide⟩, ?_⟩
      walk_at "rd"
      exact ⟨rfl, rfl⟩
    · walk_at "rd"
      refine iteB (fun h3 => ?_) (fun h3 => ?_)
      · have h2 : acc = [] := S_inj (b := []) (V.str.inj (of_decide_eq_true h3))
        obtain ⟨d1, d2⟩ := turn (.inr h2)
        skip
        refine ⟨fun σ2 H2 => H2 = H' ∧ σ2 = [some (.int i), some (.str (S (sg (rest % 32) :: acc))), some (.int ((rest / 32 : Nat) : Int))], fun σ2 H2 ⟨e1, e2⟩ => ⟨_, d2, e1, _, _, e2, d1, rfl⟩, ?_⟩
        walk_at "rd"
        refine ⟨_, 5, rfl, rfl, ?_⟩
        rw [show ((rest : Nat) : Int) % 2 ^ 5 = ((rest % 32 : Nat) : Int) by omega]
        refine at_fig (figs_at (by omega)) ?_
        walk_at "rd"
        refine rv_addS (a := [sg (rest % 32)]) (b := acc) (by show 1 + _ ≤ _; omega) ?_
        walk_at "rd"
        refine ⟨_, _, rfl, rfl, ⟨by decide, by decide⟩, ?_⟩
        walk_at "rd"
        exact ⟨rfl, rfl⟩
      · have r0 : rest = 0 := by have := of_decide_eq_false h1; omega
        subst r0
        have ea := di.done fun z => of_decide_eq_false h3 (by rw [z]; rfl)
        subst ea
        walk_at "rd"
        refine iteB (fun h4 => ?_) (fun h4 => ?_)
        · walk_at "rd"
          refine rv_addS (a := [45]) (b := digs i.natAbs) (by show 1 + _ ≤ _; omega) ?_
          have e : numT i = 45 :: digs i.natAbs := by unfold numT; rw [if_pos (of_decide_eq_true h4)]
          rw [e] at qq
          exact qq
        · walk_at "rd"
          have e : numT i = digs i.natAbs := by unfold numT; rw [if_neg (of_decide_eq_false h4)]
          rw [e] at qq
          exact qq
theorem scLD : FnScope ["number_own", "found"] ["number_own"] (defScope sLD) := ⟨rfl, rfl, rfl, by decide +kernel, rfl, by decide +kernel, by decide +kernel⟩
def spLD0 : Sp := fun vs H Q _ => ∃ i : Int, vs = [.int i] ∧ i.natAbs < 32 ^ 160 ∧ ¬ i < 0 ∧ Q (.str (S (numT i))) H
theorem ok_LD0 {f : Addr} {fd : FuncData} (F : Fun K "_law_digits" "_law_digits" sLD f fd) (T : Mp mg) : FnOk P w K mg base CX0 1 f fd ["number_own"] spLD0 := by
  refine F.ok scLD (fun vs H Q E h => ?_) (fun cdv A outer s H vs Q E hr h => ?_)
  · obtain ⟨i, rfl, _⟩ := h
    rfl
  · refine ⟨_, (pss_cons (ps_if (pt_cmpR op_lt (pv 0) pe_int (nomark _)) (pss_one ps_never) pss_nil)
        (pss_cons (ps_set (i := 1) scLD.nd rfl (.inl rfl) pe_str)
        (pss_cons (ps_while PassesOwn.never (PW.pt (pw_or (pt_cmpR op_gt (pv 0) pe_int (nomark _)) (pw_or1 (pt_cmpR op_eq (pv 1) pe_str (nomark _))))) (pss_cons (ps_set (i := 1) scLD.nd rfl (.inl rfl) (pe_op op_addS (pe_ix ix_str pe_str (pe_op op_mod (pv 0) pe_int) (fun _ _ => rfl)) (pv 1)))
        (pss_one (ps_set (i := 0) scLD.nd rfl (.inl rfl) (pe_op op_fdiv (pv 0) pe_int)))))
        (pss_one (ps_ret (pv 1)))))), ?_⟩
    obtain ⟨i, rfl, hi, hn, qq⟩ := h
    obtain ⟨M, rfl⟩ := Int.eq_ofNat_of_zero_le (by omega : 0 ≤ i)
    rw [Int.natAbs_natCast] at hi
    have ll := digs_len 159 M hi
    walk_at "rd"
    refine iteFe (decide_eq_false hn) ?_
    walk_at "rd"
    refine while_m (fun m σ H' => H' = H ∧ ∃ (rest : Nat) (acc : List Nat), σ = [some (.int (rest : Nat)), some (.str (S acc))] ∧ DI M rest acc ∧ m = dm rest acc) (dm M []) ⟨rfl, _, [], rfl, .inl ⟨rfl, rfl⟩, rfl⟩ ?_
    rintro m σ H' ⟨rfl, rest, acc, rfl, di, rfl⟩
    have la := di.len
    have turn : rest ≠ 0 ∨ acc = [] → _ := fun h2 => And.intro (di.step h2) (dm_lt h2)
    walk_at "rd"
    refine iteB (fun h1 => ?_) (fun h1 => ?_)
    · have h2 : rest ≠ 0 := by have := of_decide_eq_true h1; omega
      obtain ⟨d1, d2⟩ := turn (.inl h2)
      refine iteTe rfl ?_
      refine ⟨fun σ2 H2 => H2 = H' ∧ σ2 = [some (.int ((rest / 32 : Nat) : Int)), some (.str (S (sg (rest % 32) :: acc)))], fun σ2 H2 ⟨e1, e2⟩ => ⟨_, d2, e1, _, _, e2, d1, rfl⟩, ?_⟩
      walk_at "rd"
      rw [show ((rest : Nat) : Int) % 32 = ((rest % 32 : Nat) : Int) by omega]
      refine at_fig (figs_at (by omega)) ?_
      walk_at "rd"
      refine rv_addS (a := [sg (rest % 32)]) (b := acc) (by show 1 + _ ≤ _; omega) ?_
      walk_at "rd"
      refine ⟨_, _, rfl, rfl, ⟨by decide, by decide⟩, ?_⟩
      walk_at "rd"
      exact ⟨rfl, rfl⟩
    · walk_at "rd"
      refine iteB (fun h3 => ?_) (fun h3 => ?_)
      · have h2 : acc = [] := S_inj (b := []) (V.str.inj (of_decide_eq_true h3))
        obtain ⟨d1, d2⟩ := turn (.inr h2)
        skip
        refine ⟨fun σ2 H2 => H2 = H' ∧ σ2 = [some (.int ((rest / 32 : Nat) : Int)), some (.str (S (sg (rest % 32) :: acc)))], fun σ2 H2 ⟨e1, e2⟩ => ⟨_, d2, e1, _, _, e2, d1, rfl⟩, ?_⟩
        walk_at "rd"
        rw [show ((rest : Nat) : Int) % 32 = ((rest % 32 : Nat) : Int) by omega]
        refine at_fig (figs_at (by omega)) ?_
        walk_at "rd"
        refine rv_addS (a := [sg (rest % 32)]) (b := acc) (by show 1 + _ ≤ _; omega) ?_
        walk_at "rd"
        refine ⟨_, _, rfl, rfl, ⟨by decide, by decide⟩, ?_⟩
        walk_at "rd"
        exact ⟨rfl, rfl⟩
      · have r0 : rest = 0 := by have := of_decide_eq_false h1; omega
        subst r0
        have ea := di.done fun z => of_decide_eq_false h3 (by rw [z]; rfl)
        subst ea
        walk_at "rd"
        have e : numT (M : Int) = digs M := by unfold numT; rw [if_neg hn, Int.natAbs_natCast]
        rw [e] at qq
        exact qq
theorem ok_LD {f : Addr} {fd : FuncData} (F : Fun K "_law_digits" "_law_digits" sLD f fd) (T : Mp mg) (gg : mg "_law_digits" = some (.ref f)) (bb : L2.Binds K fd ["number_own"] []) : FnOk P w K mg base CX0 2 f fd ["number_own"] spNT := by
  have GG : FnOk P w K mg base CX0 1 f fd ["number_own"] spLD0 := ok_LD0 F T
  refine F.ok scLD (fun vs H Q E h => ?_) (fun cdv A outer s H vs Q E hr h => ?_)
  · obtain ⟨i, rfl, _⟩ := h
    rfl
  · refine ⟨_, (pss_cons (ps_if (pt_cmpR op_lt (pv 0) pe_int (nomark _)) (pss_one (ps_ret (pe_op op_addS pe_str (pe_call GG hr (by rfl) gg F.kp bb .nil pass0 (pa_cons (pe_op op_sub pe_int (pv 0)) pa_nil))))) pss_nil)
        (pss_cons (ps_set (i := 1) scLD.nd rfl (.inl rfl) pe_str)
        (pss_cons (ps_while PassesOwn.never (PW.pt (pw_or (pt_cmpR op_gt (pv 0) pe_int (nomark _)) (pw_or1 (pt_cmpR op_eq (pv 1) pe_str (nomark _))))) (pss_cons (ps_set (i := 1) scLD.nd rfl (.inl rfl) (pe_op op_addS (pe_ix ix_str pe_str (pe_op op_mod (pv 0) pe_int) (fun _ _ => rfl)) (pv 1)))
        (pss_one (ps_set (i := 0) scLD.nd rfl (.inl rfl) (pe_op op_fdiv (pv 0) pe_int)))))
        (pss_one (ps_ret (pv 1)))))), ?_⟩
    obtain ⟨i, rfl, hi, qq⟩ := h
    walk_at "rd"
    refine iteB (fun h0 => ?_) (fun h0 => ?_)
    · have hn : i < 0 := of_decide_eq_true h0
      walk_at "rd"
      refine ⟨0 - i, rfl, by omega, by omega, ?_⟩
      have e : numT (0 - i) = digs i.natAbs := by unfold numT; rw [if_neg (by omega), show (0 - i).natAbs = i.natAbs by omega]
      have e2 : numT i = 45 :: digs i.natAbs := by unfold numT; rw [if_pos hn]
      rw [e]
      rw [e2] at qq
      have ll := digs_len 159 i.natAbs hi
      refine rv_addS (a := [45]) (b := digs i.natAbs) (by show 1 + _ ≤ _; omega) ?_
      exact qq
    · have hn : ¬ i < 0 := of_decide_eq_false h0
      obtain ⟨M, rfl⟩ := Int.eq_ofNat_of_zero_le (by omega : 0 ≤ i)
      rw [Int.natAbs_natCast] at hi
      have ll := digs_len 159 M hi
      walk_at "rd"
      refine while_m (fun m σ H' => H' = H ∧ ∃ (rest : Nat) (acc : List Nat), σ = [some (.int (rest : Nat)), some (.str (S acc))] ∧ DI M rest acc ∧ m = dm rest acc) (dm M []) ⟨rfl, _, [], rfl, .inl ⟨rfl, rfl⟩, rfl⟩ ?_
      rintro m σ H' ⟨rfl, rest, acc, rfl, di, rfl⟩
      have la := di.len
      have turn : rest ≠ 0 ∨ acc = [] → _ := fun h2 => And.intro (di.step h2) (dm_lt h2)
      walk_at "rd"
      refine iteB (fun h1 => ?_) (fun h1 => ?_)
      · have h2 : rest ≠ 0 := by have := of_decide_eq_true h1; omega
        obtain ⟨d1, d2⟩ := turn (.inl h2)
        refine iteTe rfl ?_
        refine ⟨fun σ2 H2 => H2 = H' ∧ σ2 = [some (.int ((rest / 32 : Nat) : Int)), some (.str (S (sg (rest % 32) :: acc)))], fun σ2 H2 ⟨e1, e2⟩ => ⟨_, d2, e1, _, _, e2, d1, rfl⟩, ?_⟩
        walk_at "rd"
        rw [show ((rest : Nat) : Int) % 32 = ((rest % 32 : Nat) : Int) by omega]
        refine at_fig (figs_at (by omega)) ?_
        walk_at "rd"
        refine rv_addS (a := [sg (rest % 32)]) (b := acc) (by show 1 + _ ≤ _; omega) ?_
        walk_at "rd"
        refine ⟨_, _, rfl, rfl, ⟨by decide, by decide⟩, ?_⟩
        walk_at "rd"
        exact ⟨rfl, rfl⟩
      · walk_at "rd"
        refine iteB (fun h3 => ?_) (fun h3 => ?_)
        · have h2 : acc = [] := S_inj (b := []) (V.str.inj (of_decide_eq_true h3))
          obtain ⟨d1, d2⟩ := turn (.inr h2)
          skip
          refine ⟨fun σ2 H2 => H2 = H' ∧ σ2 = [some (.int ((rest / 32 : Nat) : Int)), some (.str (S (sg (rest % 32) :: acc)))], fun σ2 H2 ⟨e1, e2⟩ => ⟨_, d2, e1, _, _, e2, d1, rfl⟩, ?_⟩
          walk_at "rd"
          rw [show ((rest : Nat) : Int) % 32 = ((rest % 32 : Nat) : Int) by omega]
          refine at_fig (figs_at (by omega)) ?_
          walk_at "rd"
          refine rv_addS (a := [sg (rest % 32)]) (b := acc) (by show 1 + _ ≤ _; omega) ?_
          walk_at "rd"
          refine ⟨_, _, rfl, rfl, ⟨by decide, by decide⟩, ?_⟩
          walk_at "rd"
          exact ⟨rfl, rfl⟩
        · have r0 : rest = 0 := by have := of_decide_eq_false h1; omega
          subst r0
          have ea := di.done fun z => of_decide_eq_false h3 (by rw [z]; rfl)
          subst ea
          walk_at "rd"
          have e : numT (M : Int) = digs M := by unfold numT; rw [if_neg hn, Int.natAbs_natCast]
          rw [e] at qq
          exact qq
end
end My

namespace My
open PySem PySem.Spec PyProof.Rows L2 XR SX RZ
abbrev sLess : Stmt := top 17
abbrev sMT : Stmt := top 18
abbrev sLW : Stmt := top 29
section
variable {P : Program} {w : World} {K : PySem.W.Frag} {mg : Str → Option Value} {base : Heap}
local macro_rules | `(tactic| walk_at "rd1") => `(tactic| first
  | with_reducible refine rs_seq ?_
  | with_reducible refine rs_asg ?_
  | with_reducible refine rs_ret ?_
  | with_reducible refine rs_if ?_
  | with_reducible refine rs_next ?_
  | with_reducible refine rg_name ?_
  | ((with_reducible refine rv_var (v := ?vv) ?hv ?_); (case hv => exact rfl))
  | with_reducible refine rv_c ?_
  | with_reducible refine rv_op ?_
  | with_reducible refine rv_cons ?_
  | with_reducible refine rv_nil ?_
  | with_reducible refine rv_rI0 ?_
  | ((with_reducible refine rv_rI ?hc ?_); (case hc => walk_at "side"))
  | ((with_reducible refine rv_eq ?hc ?_); (case hc => exact rfl))
  | ((with_reducible refine rv_ne ?hc ?_); (case hc => exact rfl))
  | with_reducible refine rv_test ?_
  | with_reducible refine rv_bl ?_
  | with_reducible refine rv_cb ?_
  | with_reducible refine rv_call ?_
  | with_reducible refine rv_tup ?_
  | with_reducible refine rv_lst ?_
  | with_reducible refine rv_tB ?_
  | with_reducible refine rv_or ?_
  | with_reducible refine rv_and ?_
  | with_reducible refine rv_not ?_
  | with_reducible refine rv_andV ?_
  | with_reducible refine rv_orV ?_
  | with_reducible refine rv_notV ?_
  | with_reducible refine rv_ifE ?_
  | with_reducible refine rs_drop ?_
  | with_reducible refine iteT ?_
  | with_reducible refine iteF ?_
  | with_reducible refine ro_nx ?_
  | with_reducible refine ro_rt ?_
  | with_reducible refine ro_ct ?_
  | with_reducible refine ro_bk ?_)
local macro_rules | `(tactic| walk_at "rd") => `(tactic| repeat walk_at "rd1")
local macro_rules | `(tactic| walk_at "side") => `(tactic| first
  | assumption
  | exact (show CPow _ _ from ⟨by decide, by decide, by decide⟩)
  | exact (show CMul _ _ from .inl ⟨by decide, by decide⟩)
  | exact (show CMul _ _ from .inr ⟨by decide, by decide⟩)
  | (show (0 : Int) < _; decide)
  | (show CMul _ _; first | exact .inl ⟨by omega, by omega⟩ | exact .inr ⟨by omega, by omega⟩)
  | omega)
local macro_rules | `(tactic| walk_at "rd1") => `(tactic| first
  | with_reducible refine rs_for ?_
  | with_reducible refine ri_zip ?_
  | with_reducible refine ri_list ?_
  | with_reducible refine ri_rng1 ?_
  | with_reducible refine rv_lc ?_
  | with_reducible refine rv_xfl ?_
  | with_reducible refine rs_par3 ?_
  | with_reducible refine rv_yes ?_
  | with_reducible refine rg_tup ?_
  | with_reducible refine rg_cons ?_
  | with_reducible refine rg_nil ?_)
local macro_rules | `(tactic| walk_at "rd1") => `(tactic| first
  | with_reducible refine ri_str ?_
  | with_reducible refine rv_sl ?_
  | with_reducible refine rv_part ?_
  | with_reducible refine rv_nopart ?_
  | with_reducible refine rv_callS ?_
  | with_reducible refine rv_chain ?_
  | with_reducible refine rv_leS ?_
  | with_reducible refine rv_inS ?_)
/-- an entry's numbers -/
def entV (e : Ent4) : List V := [.int e.1, .int e.2.1, .int e.2.2.1, .int e.2.2.2]
/-- an entry as it stands -/
def EntR (K : PySem.W.Frag) (H : Hp) (v : V) (e : Ent4) : Prop := ∃ p, v = .ref p ∧ SqT K H p (entV e)
theorem SqT.keep {K : PySem.W.Frag} {H H' : Hp} {p : Addr} {xs : List V} (s : Same H H') (h : SqT K H p xs) : SqT K H' p xs := by
  rcases h with (h | ⟨o, h⟩) | ⟨h, r⟩
  · exact .inl (.inl (s _ _ h))
  · exact .inl (.inr ⟨o, s _ _ h⟩)
  · exact .inr ⟨h, r⟩
theorem EntR.same {K : PySem.W.Frag} {H H' : Hp} {v : V} {e : Ent4} (s : Same H H') : EntR K H v e → EntR K H' v e := fun ⟨p, a, b⟩ => ⟨p, a, SqT.keep s b⟩
theorem same_put {H H' : Hp} {D : Addr} {o : HO} (hD : H D = none) (sm : Same H H') : Same H (upd H' D o) := fun b x z => by
  rw [upd_ne (fun z2 => by rw [z2] at z; rw [z] at hD; cases hD)]
  exact sm _ _ z
def spLess (K : PySem.W.Frag) : Sp := fun vs H Q _ => ∃ (x y : V) (e a : Ent4), vs = [x, y] ∧ EntR K H x e ∧ EntR K H y a ∧ ∀ H' D, Same H H' → H D = none → H' D = some (.lst ((lessE e a).map V.int)) → Q (.ref D) H'
theorem ent_at {e a : Ent4} {i : Nat} {x y : V} (h1 : (entV e)[i]? = some x) (h2 : (entV a)[i]? = some y) : ∃ n m : Int, x = .int n ∧ y = .int m ∧ (lessE e a)[i]? = some (n - m) := by
  match i with
  | 0 => cases h1; cases h2; exact ⟨_, _, rfl, rfl, rfl⟩
  | 1 => cases h1; cases h2; exact ⟨_, _, rfl, rfl, rfl⟩
  | 2 => cases h1; cases h2; exact ⟨_, _, rfl, rfl, rfl⟩
  | 3 => cases h1; cases h2; exact ⟨_, _, rfl, rfl, rfl⟩
  | n + 4 => cases h1
theorem take_map {l : List Int} {i : Nat} {n : Int} (h : l[i]? = some n) : ((l.take i).map V.int) ++ [V.int n] = (l.take (i + 1)).map V.int := by
  rw [List.take_succ, h]
  simp
theorem scLess : FnScope ["entry", "other", "one", "ahead"] ["entry", "other"] (defScope sLess) := ⟨rfl, rfl, rfl, by decide +kernel, rfl, by decide +kernel, by decide +kernel⟩
theorem ok_Less {f : Addr} {fd : FuncData} (F : Fun K "less" "less" sLess f fd) (T : Mp mg) : FnOk P w K mg base CX0 1 f fd ["entry", "other"] (spLess K) := by
  refine F.ok scLess (fun vs H Q E h => ?_) (fun cdv A outer s H vs Q E hr h => ?_)
  · obtain ⟨x, y, _, _, rfl, _⟩ := h
    rfl
  · refine ⟨_, (pss_one (ps_ret (pe_lc (own := [("one", 2), ("ahead", 3)]) (g := (gTup K 2 (gCons (gName 2) (gCons (gName 3) gNil)))) (tt := tYes) (te := (tOp (rI0 fun i j => .int (i - j)) (tVar 2) (tVar 3))) (by rfl) scLess.nd (pi_zipA (by rfl) T.zip_ (pa_cons (pv 0) (pa_cons (pv 1) pa_nil))) (blkOk_by (own := [("one", 2), ("ahead", 3)]) (N := ["entry", "other", "one", "ahead"]) (sc := defScope sLess) (by decide +kernel)) (fun _ _ _ _ _ => (pg_tup (by rfl) (pgs_cons (pg_name (i := 2) scLess.nd rfl (.inl rfl)) (pgs_cons (pg_name (i := 3) scLess.nd rfl (.inl rfl)) pgs_nil)))) (fun _ _ _ _ _ => pts_nil) (fun _ _ _ _ _ => (pe_op op_sub (pv 2) (pv 3)))))), ?_⟩
    obtain ⟨x, y, e, a, rfl, ⟨p, rfl, hp⟩, ⟨r, rfl, hr2⟩, q⟩ := h
    walk_at "rd"
    refine ⟨_, rfl, _, rfl, p, r, _, _, rfl, .inr ⟨hp, hr2, fun D hD => ?_⟩⟩
    refine lc_it (walk_zipT (xs := entV e) (ys := entV a) (n := 4) rfl) (fun i H' => Same H H' ∧ H' D = some (.lst (((lessE e a).take i).map V.int))) ⟨same_upd hD, upd_same⟩ (fun i H' _ ⟨s, _⟩ => ⟨SqT.keep s hp, SqT.keep s hr2⟩) ?_ ?_
    · rintro i x H1 H2 hi ⟨sm, hd⟩ ⟨U, y1, y2, rfl, hU, rfl, e1, e2⟩
      obtain ⟨n, m, rfl, rfl, e3⟩ := ent_at e1 e2
      have sU : Same H1 (upd H1 U (.tup [.int n, .int m])) := same_upd hU
      refine ⟨U, _, rfl, .inl (.inl upd_same), rfl, ?_⟩
      walk_at "rd"
      refine ⟨rfl, ?_⟩
      walk_at "rd"
      refine ⟨_, sU _ _ hd, ?_, same_put hD (sm.trans sU), ?_⟩
      · rw [List.length_map, List.length_take, sizeLine_eq]
        omega
      · rw [upd_same, take_map e3]
    · rintro H1 ⟨sm, hd⟩
      exact q _ _ sm hD hd
/-- entries whose numbers, each less that of the one ahead, are none too great -/
def Fits (a : Ent4) : List Ent4 → Prop
  | [] => True
  | e :: r => (∀ x ∈ lessE e a, x.natAbs < 32 ^ 30) ∧ Fits e r
theorem Good.fits : ∀ {es : List Ent4} {a : Ent4}, Good a es → Fits a es
  | [], _, _ => True.intro
  | _ :: _, _, h => ⟨h.2.1, h.2.2.fits⟩
/-- the entry ahead of the i-th -/
def aheadE (es : List Ent4) (i : Nat) : Ent4 := match i with
  | 0 => ent0
  | i + 1 => es.getD i ent0
theorem fits_at : ∀ {es : List Ent4} {i : Nat} {e : Ent4}, Fits ent0 es → es[i]? = some e → ∀ x ∈ lessE e (aheadE es i), x.natAbs < 32 ^ 30 := by
  have key : ∀ (es : List Ent4) (a : Ent4) (i : Nat) (e : Ent4), Fits a es → es[i]? = some e → ∀ x ∈ lessE e (match i with | 0 => a | i + 1 => es.getD i ent0), x.natAbs < 32 ^ 30 := by
    intro es
    induction es with
    | nil => intro a i e _ h; cases i <;> cases h
    | cons b r ih =>
      intro a i e hf h
      match i with
      | 0 => cases h; exact hf.1
      | i + 1 =>
        have k := ih b i e hf.2 h
        match i with
        | 0 => exact k
        | i + 1 => exact k
  intro es i e hf h
  have k := key es ent0 i e hf h
  match i with
  | 0 => exact k
  | i + 1 => exact k
def rowAt (es : List Ent4) (i : Nat) : List Nat := rowT (es.getD i ent0) (aheadE es i)
theorem rowsT_eq (es : List Ent4) : rowsT es ent0 = (List.range es.length).map (rowAt es) := by
  have key : ∀ (l : List Ent4) (a : Ent4), rowsT l a = (List.range l.length).map fun i => rowT (l.getD i ent0) (match i with | 0 => a | i + 1 => l.getD i ent0) := by
    intro l
    induction l with
    | nil => intro a; rfl
    | cons b r ih =>
      intro a
      show rowT b a :: rowsT r b = _
      rw [ih b, List.length_cons, List.range_succ_eq_map, List.map_cons, List.map_map]
      refine congrArg (fun z => rowT b a :: z) (List.map_congr_left fun i _ => ?_)
      match i with
      | 0 => rfl
      | i + 1 => rfl
  rw [key es ent0]
  refine List.map_congr_left fun i _ => ?_
  match i with
  | 0 => rfl
  | i + 1 => rfl
theorem joinL_len (s : List Nat) : ∀ (l : List (List Nat)) (m : Nat), (∀ t ∈ l, t.length ≤ m) → (TL.joinL s l).length ≤ l.length * (m + s.length)
  | [], _, _ => Nat.zero_le _
  | [p], m, h => by
    have := h p List.mem_cons_self
    show p.length ≤ _
    simp
    omega
  | p :: q :: r, m, h => by
    have h1 := h p List.mem_cons_self
    have h2 := joinL_len s (q :: r) m fun t ht => h t (List.mem_cons_of_mem _ ht)
    show (p ++ (s ++ TL.joinL s (q :: r))).length ≤ _
    rw [List.length_append, List.length_append]
    simp only [List.length_cons] at *
    rw [Nat.add_mul (r.length + 1) 1]
    omega
theorem row_len {e a : Ent4} (h : ∀ x ∈ lessE e a, x.natAbs < 32 ^ 30) : (rowT e a).length ≤ 128 := by
  have := joinL_len [32] ((lessE e a).map numT) 31 fun t ht => by
    obtain ⟨x, hx, rfl⟩ := List.mem_map.mp ht
    exact numT_len (k := 29) (h x hx)
  rw [List.length_map] at this
  exact this
theorem sum_le (m : Nat) : ∀ l : List (List Nat), (∀ t ∈ l, t.length ≤ m) → (l.map (·.length)).sum ≤ l.length * m
  | [], _ => Nat.zero_le _
  | p :: r, h => by
    have h1 := h p List.mem_cons_self
    have h2 := sum_le m r fun t ht => h t (List.mem_cons_of_mem _ ht)
    rw [List.map_cons, List.sum_cons, List.length_cons, Nat.add_mul]
    omega
theorem join_ok {s : List Nat} {l : List (List Nat)} {m : Nat} (hm : ∀ t ∈ l, t.length ≤ m) (hb : l.length * m + l.length * s.length ≤ 16777216) : ((l.map S).map (·.length)).sum + (l.map S).length * (S s).length ≤ 16777216 := by
  have := sum_le m l hm
  rw [lens, List.length_map, S_len]
  omega
/-- the entries at p, each a tuple -/
def EntsR (K : PySem.W.Frag) (H : Hp) (p : Addr) (es : List Ent4) : Prop := ∃ vs, SqL K H p vs ∧ vs.length = es.length ∧ ∀ (i : Nat) (v : V) (e : Ent4), vs[i]? = some v → es[i]? = some e → EntR K H v e
theorem EntsR.same {K : PySem.W.Frag} {H H' : Hp} {p : Addr} {es : List Ent4} (s : Same H H') : EntsR K H p es → EntsR K H' p es := fun ⟨vs, a, b, c⟩ => ⟨vs, s.seq a, b, fun i v e h1 h2 => (c i v e h1 h2).same s⟩
def spMT (K : PySem.W.Frag) : Sp := fun vs H Q _ => ∃ (p : Addr) (es : List Ent4), vs = [.ref p] ∧ EntsR K H p es ∧ Fits ent0 es ∧ es.length ≤ 4000 ∧ ∀ H', Same H H' → Q (.str (S (mapT es))) H'
def rJoinS (K : PySem.W.Frag) : V → List V → Hp → VK → Prop := fun x xs H Q => ∃ a p, ∃ ys : List Str, x = .str a ∧ xs = [.ref p] ∧ (SqL K H p (ys.map V.str) ∨ SqT K H p (ys.map V.str)) ∧ (ys.map (·.length)).sum + ys.length * a.length ≤ 16777216 ∧ Q (.str (Txt.join a ys)) H
theorem mt_joinS {X : Cx} : MtR X "str.join" (rJoinS X.K) := mt_join
/-- texts joined by a written one -/
theorem rv_join {z : Str} {sep : List Nat} (hz : z = S sep) {p : Addr} {l : List (List Nat)} (m : Nat) {H : Hp} {Q : VK} (h : SqL K H p (l.map fun t => V.str (S t))) (hm : ∀ t ∈ l, t.length ≤ m) (hb : l.length * m + l.length * sep.length ≤ 16777216) (q : Q (.str (S (TL.joinL sep l))) H) :
    rJoinS K (.str z) [.ref p] H Q := by
  subst hz
  refine ⟨S sep, p, l.map S, rfl, rfl, .inl (by rw [List.map_map]; exact h), join_ok hm hb, ?_⟩
  rw [join_S]
  exact q
theorem scMT : FnScope ["entries", "ahead", "told", "entry", "number"] ["entries"] (defScope sMT) := ⟨rfl, rfl, rfl, by decide +kernel, rfl, by decide +kernel, by decide +kernel⟩
theorem ok_MT {f fG : Addr} {fd dG : FuncData} {fN : Addr} {dN : FuncData} (F : Fun K "map_text" "map_text" sMT f fd) (FG : Fun K "less" "less" sLess fG dG) (gG : mg "less" = some (.ref fG)) (bG : L2.Binds K dG ["entry", "other"] []) (GG : FnOk P w K mg base CX0 1 fG dG ["entry", "other"] (spLess K)) (FN : Fun K "number_text" "number_text" sNT fN dN) (gN : mg "number_text" = some (.ref fN)) (bN : L2.Binds K dN ["number"] []) (GN : FnOk P w K mg base CX0 1 fN dN ["number"] spNT) : FnOk P w K mg base CX0 2 f fd ["entries"] (spMT K) := by
  refine F.ok scMT (fun vs H Q E h => ?_) (fun cdv A outer s H vs Q E hr h => ?_)
  · obtain ⟨p, _, rfl, _⟩ := h
    rfl
  · have hr1 := hr
    refine ⟨_, (pss_cons (ps_set (i := 1) scMT.nd rfl (.inl rfl) (pe_tup (pa_cons pe_int (pa_cons pe_int (pa_cons pe_int (pa_cons pe_int pa_nil))))))
        (pss_cons (ps_set (i := 2) scMT.nd rfl (.inl rfl) (pe_lst pa_nil))
        (pss_cons (ps_for PassesOwn.never rfl (pi_list (pv 0)) (pg_name (i := 3) scMT.nd rfl (.inl rfl)) (pss_cons (ps_expr (pe_bm PySem.F.plainAttrs_list PySem.F.slot_list_append PySem.F.type_list_append mt_append (pv 2) (pa_cons (pe_bm PySem.F.plainAttrs_str PySem.F.slot_str_join PySem.F.type_str_join mt_joinS pe_str (pa_cons (pe_lc (own := [("number", 4)]) (g := (gName 4)) (tt := tYes) (te := (tCall spNT [] E0 (tCons (tVar 4) tNil))) (by rfl) scMT.nd (pi_list (pe_call GG hr1 (by rfl) gG FG.kp bG .nil pass0 (pa_cons (pv 3) (pa_cons (pv 1) pa_nil)))) (blkOk_by (own := [("number", 4)]) (N := ["entries", "ahead", "told", "entry", "number"]) (sc := defScope sMT) (by decide +kernel)) (fun _ _ _ _ _ => (pg_name (i := 4) scMT.nd rfl (.inl rfl))) (fun _ _ _ _ _ => pts_nil) (fun _ _ _ _ _ => (pe_call GN hr1 (by rfl) gN FN.kp bN .nil pass0 (pa_cons (pv 4) pa_nil)))) pa_nil)) pa_nil)))
        (pss_one (ps_set (i := 1) scMT.nd rfl (.inl rfl) (pv 3)))))
        (pss_one (ps_ret (pe_bm PySem.F.plainAttrs_str PySem.F.slot_str_join PySem.F.type_str_join mt_joinS pe_str (pa_cons (pv 2) pa_nil))))))), ?_⟩
    obtain ⟨p, es, rfl, ⟨vs, hs, hlen, hall⟩, hf, hn, q⟩ := h
    have hE : EntsR K H p es := ⟨vs, hs, hlen, hall⟩
    walk_at "rd"
    refine ⟨by decide, fun A hA => ?_⟩
    have k1 := same_upd (o := .tup [.int 0, .int 0, .int 0, .int 0]) hA
    walk_at "rd"
    refine ⟨by decide, fun D hD => ?_⟩
    have k0 := k1.trans (same_upd (o := .lst []) hD)
    have hnD : H D = none := k1.free hD
    walk_at "rd"
    refine ⟨p, rfl, ⟨vs, k0.seq hs⟩, ?_⟩
    refine for_list (xs := vs) (fun i σ H' => Same H H' ∧ ∃ (x : V) (o3 o4 : Option V), σ = [some (.ref p), some x, some (.ref D), o3, o4] ∧ EntR K H' x (aheadE es i) ∧ H' D = some (.lst (((List.range i).map (rowAt es)).map fun t => V.str (S t)))) ⟨k0, _, none, none, rfl, ⟨_, rfl, .inl (.inl ((upd_ne (ne_of_none upd_same hD)).trans upd_same))⟩, upd_same⟩ (fun i σ H' _ ⟨s, _⟩ => s.seq hs) ?_ ?_
    · rintro i x σ H1 hx ⟨s1, y, o3, o4, rfl, hy, hd⟩
      have hi : i < es.length := by rw [← hlen]; exact (List.getElem?_eq_some_iff.mp hx).1
      have he : es[i]? = some es[i] := List.getElem?_eq_getElem hi
      have hg : es.getD i ent0 = es[i] := by rw [List.getD_eq_getElem?_getD, he]; rfl
      have hx1 : EntR K H1 x es[i] := (hall i x _ hx he).same s1
      have hb := fits_at hf he
      refine rg_name ?_
      walk_at "rd"
      refine rv_app rfl hd ?_
      walk_at "rd"
      refine ⟨rfl, ?_⟩
      walk_at "rd"
      refine ⟨x, y, es[i], aheadE es i, rfl, hx1, hy, fun H2 D2 s2 nD2 hD2 => ?_⟩
      refine ⟨D2, rfl, ⟨_, SqL.of hD2⟩, fun D3 hD3 => ?_⟩
      refine lc_it (walk_list (xs := (lessE es[i] (aheadE es i)).map V.int)) (fun j H' => Same H2 H' ∧ H' D3 = some (.lst ((((lessE es[i] (aheadE es i)).take j).map numT).map fun t => V.str (S t)))) ⟨same_upd hD3, upd_same⟩ (fun j H' _ ⟨s, _⟩ => SqL.of (s _ _ hD2)) ?_ ?_
      · rintro j z H4 H5 hj ⟨s4, hd4⟩ ⟨rfl, hz⟩
        rw [List.getElem?_map] at hz
        cases hn2 : (lessE es[i] (aheadE es i))[j]? with
        | none => rw [hn2] at hz; cases hz
        | some n =>
          rw [hn2] at hz
          cases hz
          have bn := hb n (List.mem_of_getElem? hn2)
          refine rg_name ⟨by rfl, ?_⟩
          refine rv_yes ?_
          refine iteT ?_
          walk_at "rd"
          refine ⟨n, rfl, Nat.lt_of_lt_of_le bn (Nat.pow_le_pow_right (by decide) (by decide)), ?_⟩
          refine ⟨_, hd4, ?_, same_put hD3 s4, ?_⟩
          · rw [List.length_map, List.length_map, List.length_take, sizeLine_eq, show (lessE es[i] (aheadE es i)).length = 4 from rfl]
            omega
          · rw [upd_same, List.take_succ, hn2]
            simp
      rintro H3 ⟨s3', hd3⟩
      rw [List.length_map, List.take_length] at hd3
      have s3 := s2.trans s3'
      walk_at "rd"
      refine rv_join (sep := [32]) rfl 31 (SqL.of hd3) (fun t ht => ?_) ?_ ?_
      · obtain ⟨x, hx, rfl⟩ := List.mem_map.mp ht
        exact numT_len (k := 29) (hb x hx)
      · rw [List.length_map]
        show 4 * 31 + 4 * 1 ≤ _
        decide
      have er : TL.joinL [32] ((lessE es[i] (aheadE es i)).map numT) = rowAt es i := by unfold rowAt; rw [hg]; rfl
      rw [er]
      walk_at "rd"
      refine ⟨_, _, rfl, s3 _ _ hd, ?_, ?_⟩
      · rw [List.length_map, List.length_map, List.length_range, sizeLine_eq]
        omega
      · walk_at "rd"
        refine ⟨same_put hnD (s1.trans s3), _, _, _, rfl, ?_, ?_⟩
        · show EntR K _ _ (es.getD i ent0)
          rw [hg]
          exact (hall i _ _ hx he).same (same_put hnD (s1.trans s3))
        · rw [upd_same, List.range_succ, List.map_append, List.map_append]
          rfl
    · rintro σ H1 ⟨s1, y, o3, o4, rfl, hy, hd⟩
      walk_at "rd"
      have e := rowsT_eq es
      rw [← hlen] at e
      refine ⟨rfl, ?_⟩
      walk_at "rd"
      refine rv_join (sep := [59]) rfl 128 (SqL.of hd) (fun t ht => ?_) ?_ ?_
      · obtain ⟨i, hi, rfl⟩ := List.mem_map.mp ht
        have hi := List.mem_range.mp hi
        rw [hlen] at hi
        have he : es[i]? = some es[i] := List.getElem?_eq_getElem hi
        have hg : es.getD i ent0 = es[i] := by rw [List.getD_eq_getElem?_getD, he]; rfl
        unfold rowAt
        rw [hg]
        exact row_len (fits_at hf he)
      · rw [List.length_map, List.length_range, hlen]
        show _ + _ * 1 ≤ _
        omega
      · rw [← e]
        exact q _ s1
theorem scLW : FnScope ["entries_own", "found", "ahead", "entry", "one", "two"] ["entries_own"] (defScope sLW) := ⟨rfl, rfl, rfl, by decide +kernel, rfl, by decide +kernel, by decide +kernel⟩
theorem ok_LW {f : Addr} {fd : FuncData} {fN : Addr} {dN : FuncData} (F : Fun K "_law_written" "_law_written" sLW f fd) (T : Mp mg) (FN : Fun K "_law_digits" "_law_digits" sLD fN dN) (gN : mg "_law_digits" = some (.ref fN)) (bN : L2.Binds K dN ["number_own"] []) (GN : FnOk P w K mg base CX0 2 fN dN ["number_own"] spNT) : FnOk P w K mg base CX0 3 f fd ["entries_own"] (spMT K) := by
  refine F.ok scLW (fun vs H Q E h => ?_) (fun cdv A outer s H vs Q E hr h => ?_)
  · obtain ⟨p, _, rfl, _⟩ := h
    rfl
  · refine ⟨_, (pss_cons (ps_set (i := 1) scLW.nd rfl (.inl rfl) (pe_lst pa_nil))
        (pss_cons (ps_set (i := 2) scLW.nd rfl (.inl rfl) (pe_tup (pa_cons pe_int (pa_cons pe_int (pa_cons pe_int (pa_cons pe_int pa_nil))))))
        (pss_cons (ps_for PassesOwn.never rfl (pi_list (pv 0)) (pg_name (i := 3) scLW.nd rfl (.inl rfl)) (pss_cons (ps_expr (pe_bm PySem.F.plainAttrs_list PySem.F.slot_list_append PySem.F.type_list_append mt_append (pv 1) (pa_cons (pe_bm PySem.F.plainAttrs_str PySem.F.slot_str_join PySem.F.type_str_join mt_joinS pe_str (pa_cons (pe_lc (own := [("one", 4), ("two", 5)]) (g := (gTup K 2 (gCons (gName 4) (gCons (gName 5) gNil)))) (tt := tYes) (te := (tCall spNT [] E0 (tCons (tOp (rI0 fun i j => .int (i - j)) (tVar 4) (tVar 5)) tNil))) (by rfl) scLW.nd (pi_zipA (by rfl) T.zip_ (pa_cons (pv 3) (pa_cons (pv 2) pa_nil))) (blkOk_by (own := [("one", 4), ("two", 5)]) (N := ["entries_own", "found", "ahead", "entry", "one", "two"]) (sc := defScope sLW) (by decide +kernel)) (fun _ _ _ _ _ => (pg_tup (by rfl) (pgs_cons (pg_name (i := 4) scLW.nd rfl (.inl rfl)) (pgs_cons (pg_name (i := 5) scLW.nd rfl (.inl rfl)) pgs_nil)))) (fun _ _ _ _ _ => pts_nil) (fun _ _ _ _ _ => (pe_call GN hr (by rfl) gN FN.kp bN .nil pass0 (pa_cons (pe_op op_sub (pv 4) (pv 5)) pa_nil)))) pa_nil)) pa_nil)))
        (pss_one (ps_set (i := 2) scLW.nd rfl (.inl rfl) (pv 3)))))
        (pss_one (ps_ret (pe_bm PySem.F.plainAttrs_str PySem.F.slot_str_join PySem.F.type_str_join mt_joinS pe_str (pa_cons (pv 1) pa_nil))))))), ?_⟩
    obtain ⟨p, es, rfl, ⟨vs, hs, hlen, hall⟩, hf, hn, q⟩ := h
    have hE : EntsR K H p es := ⟨vs, hs, hlen, hall⟩
    walk_at "rd"
    refine ⟨by decide, fun D hD => ?_⟩
    have k1 := same_upd (o := .lst []) hD
    walk_at "rd"
    refine ⟨by decide, fun A hA => ?_⟩
    have k0 := k1.trans (same_upd (o := .tup [.int 0, .int 0, .int 0, .int 0]) hA)
    have hnD : H D = none := hD
    walk_at "rd"
    refine ⟨p, rfl, ⟨vs, k0.seq hs⟩, ?_⟩
    refine for_list (xs := vs) (fun i σ H' => Same H H' ∧ ∃ (x : V) (o3 o4 o5 : Option V), σ = [some (.ref p), some (.ref D), some x, o3, o4, o5] ∧ EntR K H' x (aheadE es i) ∧ H' D = some (.lst (((List.range i).map (rowAt es)).map fun t => V.str (S t)))) ⟨k0, _, none, none, none, rfl, ⟨_, rfl, .inl (.inl upd_same)⟩, (upd_ne (ne_of_none upd_same hA)).trans upd_same⟩ (fun i σ H' _ ⟨s, _⟩ => s.seq hs) ?_ ?_
    · rintro i x σ H1 hx ⟨s1, y, o3, o4, o5, rfl, hy, hd⟩
      have hi : i < es.length := by rw [← hlen]; exact (List.getElem?_eq_some_iff.mp hx).1
      have he : es[i]? = some es[i] := List.getElem?_eq_getElem hi
      have hg : es.getD i ent0 = es[i] := by rw [List.getD_eq_getElem?_getD, he]; rfl
      have hx1 : EntR K H1 x es[i] := (hall i x _ hx he).same s1
      have hb := fits_at hf he
      refine rg_name ?_
      walk_at "rd"
      refine rv_app rfl hd ?_
      walk_at "rd"
      refine ⟨rfl, ?_⟩
      walk_at "rd"
      obtain ⟨u, eu, hu⟩ := hx1
      obtain ⟨u2, eu2, hu2⟩ := hy
      subst eu eu2
      refine ⟨_, rfl, _, rfl, u, u2, _, _, rfl, .inr ⟨hu, hu2, fun D3 hD3 => ?_⟩⟩
      refine lc_it (walk_zipT (xs := entV es[i]) (ys := entV (aheadE es i)) (n := 4) rfl) (fun j H' => Same H1 H' ∧ H' D3 = some (.lst ((((lessE es[i] (aheadE es i)).take j).map numT).map fun t => V.str (S t)))) ⟨same_upd hD3, upd_same⟩ (fun j H' _ ⟨s, _⟩ => ⟨SqT.keep s hu, SqT.keep s hu2⟩) ?_ ?_
      · rintro j z H4 H5 hj ⟨s4, hd4⟩ ⟨U, y1, y2, rfl, hU, rfl, e1, e2⟩
        obtain ⟨n, m, rfl, rfl, hn2⟩ := ent_at e1 e2
        have sU : Same H4 (upd H4 U (.tup [.int n, .int m])) := same_upd hU
        have bn := hb _ (List.mem_of_getElem? hn2)
        refine ⟨U, _, rfl, .inl (.inl upd_same), rfl, ?_⟩
        walk_at "rd"
        refine ⟨rfl, ?_⟩
        walk_at "rd"
        refine ⟨n - m, rfl, Nat.lt_of_lt_of_le bn (Nat.pow_le_pow_right (by decide) (by decide)), ?_⟩
        refine ⟨_, sU _ _ hd4, ?_, same_put hD3 (s4.trans sU), ?_⟩
        · rw [List.length_map, List.length_map, List.length_take, sizeLine_eq, show (lessE es[i] (aheadE es i)).length = 4 from rfl]
          omega
        · rw [upd_same, List.take_succ, hn2]
          simp
      rintro H3 ⟨s3, hd3⟩
      rw [show (lessE es[i] (aheadE es i)).take 4 = lessE es[i] (aheadE es i) from rfl] at hd3
      walk_at "rd"
      refine rv_join (sep := [32]) rfl 31 (SqL.of hd3) (fun t ht => ?_) ?_ ?_
      · obtain ⟨x, hx, rfl⟩ := List.mem_map.mp ht
        exact numT_len (k := 29) (hb x hx)
      · rw [List.length_map]
        show 4 * 31 + 4 * 1 ≤ _
        decide
      have er : TL.joinL [32] ((lessE es[i] (aheadE es i)).map numT) = rowAt es i := by unfold rowAt; rw [hg]; rfl
      rw [er]
      walk_at "rd"
      refine ⟨_, _, rfl, s3 _ _ hd, ?_, ?_⟩
      · rw [List.length_map, List.length_map, List.length_range, sizeLine_eq]
        omega
      · walk_at "rd"
        refine ⟨same_put hnD (s1.trans s3), _, _, _, _, rfl, ?_, ?_⟩
        · show EntR K _ _ (es.getD i ent0)
          rw [hg]
          exact (hall i _ _ hx he).same (same_put hnD (s1.trans s3))
        · rw [upd_same, List.range_succ, List.map_append, List.map_append]
          rfl
    · rintro σ H1 ⟨s1, y, o3, o4, o5, rfl, hy, hd⟩
      walk_at "rd"
      have e := rowsT_eq es
      rw [← hlen] at e
      refine ⟨rfl, ?_⟩
      walk_at "rd"
      refine rv_join (sep := [59]) rfl 128 (SqL.of hd) (fun t ht => ?_) ?_ ?_
      · obtain ⟨i, hi, rfl⟩ := List.mem_map.mp ht
        have hi := List.mem_range.mp hi
        rw [hlen] at hi
        have he : es[i]? = some es[i] := List.getElem?_eq_getElem hi
        have hg : es.getD i ent0 = es[i] := by rw [List.getD_eq_getElem?_getD, he]; rfl
        unfold rowAt
        rw [hg]
        exact row_len (fits_at hf he)
      · rw [List.length_map, List.length_range, hlen]
        show _ + _ * 1 ≤ _
        omega
      · rw [← e]
        exact q _ s1
end
end My

namespace My
open PySem PySem.Spec PyProof.Rows L2 XR SX RZ
abbrev sNR : Stmt := top 19
abbrev sLN : Stmt := top 30
section
variable {P : Program} {w : World} {K : PySem.W.Frag} {mg : Str → Option Value} {base : Heap}
local macro_rules | `(tactic| walk_at "rd1") => `(tactic| first
  | with_reducible refine rs_seq ?_
  | with_reducible refine rs_asg ?_
  | with_reducible refine rs_ret ?_
  | with_reducible refine rs_if ?_
  | with_reducible refine rs_next ?_
  | with_reducible refine rg_name ?_
  | ((with_reducible refine rv_var (v := ?vv) ?hv ?_); (case hv => exact rfl))
  | with_reducible refine rv_c ?_
  | with_reducible refine rv_op ?_
  | with_reducible refine rv_cons ?_
  | with_reducible refine rv_nil ?_
  | with_reducible refine rv_rI0 ?_
  | ((with_reducible refine rv_rI ?hc ?_); (case hc => walk_at "side"))
  | ((with_reducible refine rv_eq ?hc ?_); (case hc => exact rfl))
  | ((with_reducible refine rv_ne ?hc ?_); (case hc => exact rfl))
  | with_reducible refine rv_test ?_
  | with_reducible refine rv_bl ?_
  | with_reducible refine rv_cb ?_
  | with_reducible refine rv_call ?_
  | with_reducible refine rv_tup ?_
  | with_reducible refine rv_lst ?_
  | with_reducible refine rv_tB ?_
  | with_reducible refine rv_or ?_
  | with_reducible refine rv_and ?_
  | with_reducible refine rv_not ?_
  | with_reducible refine rv_andV ?_
  | with_reducible refine rv_orV ?_
  | with_reducible refine rv_notV ?_
  | with_reducible refine rv_ifE ?_
  | with_reducible refine rs_drop ?_
  | with_reducible refine iteT ?_
  | with_reducible refine iteF ?_
  | with_reducible refine ro_nx ?_
  | with_reducible refine ro_rt ?_
  | with_reducible refine ro_ct ?_
  | with_reducible refine ro_bk ?_)
local macro_rules | `(tactic| walk_at "rd") => `(tactic| repeat walk_at "rd1")
local macro_rules | `(tactic| walk_at "side") => `(tactic| first
  | assumption
  | exact (show CPow _ _ from ⟨by decide, by decide, by decide⟩)
  | exact (show CMul _ _ from .inl ⟨by decide, by decide⟩)
  | exact (show CMul _ _ from .inr ⟨by decide, by decide⟩)
  | (show (0 : Int) < _; decide)
  | (show CMul _ _; first | exact .inl ⟨by omega, by omega⟩ | exact .inr ⟨by omega, by omega⟩)
  | omega)
local macro_rules | `(tactic| walk_at "rd1") => `(tactic| first
  | with_reducible refine rs_for ?_
  | with_reducible refine ri_zip ?_
  | with_reducible refine ri_list ?_
  | with_reducible refine ri_rng1 ?_
  | with_reducible refine rv_lc ?_
  | with_reducible refine rv_xfl ?_
  | with_reducible refine rs_par3 ?_
  | with_reducible refine rv_yes ?_
  | with_reducible refine rg_tup ?_
  | with_reducible refine rg_cons ?_
  | with_reducible refine rg_nil ?_)
local macro_rules | `(tactic| walk_at "rd1") => `(tactic| first
  | with_reducible refine ri_str ?_
  | with_reducible refine rv_sl ?_
  | with_reducible refine rv_part ?_
  | with_reducible refine rv_nopart ?_
  | with_reducible refine rv_callS ?_
  | with_reducible refine rv_chain ?_
  | with_reducible refine rv_leS ?_
  | with_reducible refine rv_inS ?_)
theorem starts_S (t : List Nat) (c : Nat) : Txt.startswith (S t) (S [c]) = decide (t.head? = some c) := by
  unfold Txt.startswith
  rw [StrLaws.subAt_eq]
  show (decide (0 + 1 ≤ (S t).length) && ((t.drop 0).take 1 == [c])) = _
  rw [S_len]
  cases t with
  | nil => rfl
  | cons d r =>
    show (decide (0 + 1 ≤ r.length + 1) && ([d] == [c])) = decide (some d = some c)
    rw [decide_eq_true (by omega), Bool.true_and]
    by_cases e : d = c
    · subst e
      simp
    · simp [e]
theorem rv_from {t : List Nat} {a : Nat} {H : Hp} {Q : VK} (hl : t.length ≤ sizeLine) (q : Q (.str (S (t.drop a))) H) : rSlS (.str (S t)) (some (a : Int)) none H Q :=
  ⟨S t, rfl, by rw [S_len]; exact hl, by rw [C8.cutS_slice, slice_from (by omega)]; exact q⟩
theorem rv_to {t : List Nat} {a : Nat} {H : Hp} {Q : VK} (hl : t.length ≤ sizeLine) (q : Q (.str (S (t.take a))) H) : rSlS (.str (S t)) none (some (a : Int)) H Q :=
  ⟨S t, rfl, by rw [S_len]; exact hl, by rw [C8.cutS_slice, slice_to (by omega)]; exact q⟩
theorem find_fig {d : Nat} (h : d < 32) : Builtin.Str.occurrences figZ (S [sg d]) 0 figZ.length 1 = [d] := by
  have : ∀ d, d < 32 → Builtin.Str.occurrences figZ (S [sg d]) 0 figZ.length 1 = [d] := by decide +kernel
  exact this d h
def rIndS : V → List V → Hp → VK → Prop := fun x xs H Q => ∃ a b i rest, x = .str a ∧ xs = [.str b] ∧ Builtin.Str.occurrences a b 0 a.length 1 = i :: rest ∧ Q (.int (i : Nat)) H
theorem mt_indS {X : Cx} : MtR X "str.index" rIndS := mt_sindex
theorem rv_ind {c : Nat} {H : Hp} {Q : VK} (h : isFig c = true) (q : Q (.int (fx c : Nat)) H) : rIndS (.str figZ) [.str (S [c])] H Q := by
  have k := fig_lt h
  refine ⟨figZ, S [c], fx c, [], rfl, rfl, ?_, q⟩
  have e := find_fig k.1
  rw [k.2.1] at e
  exact e
theorem rv_inF {c : Nat} {H : Hp} {Q : VK} (q : Q (.bl (isFig c)) H) : rInS (.str (S [c])) (.str figZ) H Q := by
  rw [figZ_eq]
  exact rv_inS q
def rStS : V → List V → Hp → VK → Prop := fun x xs H Q => ∃ a b, x = .str a ∧ xs = [.str b] ∧ Q (.bl (Txt.startswith a b)) H
theorem mt_stS {X : Cx} : MtR X "str.startswith" rStS := mt_startswith
theorem rv_stS {t : List Nat} {H : Hp} {Q : VK} (q : Q (.bl (decide (t.head? = some 45))) H) : rStS (.str (S t)) [.str "-"] H Q := ⟨S t, S [45], rfl, rfl, by rw [starts_S]; exact q⟩
theorem val_take {fs : List Nat} {i c : Nat} (h : fs[i]? = some c) : val (fs.take (i + 1)) = val (fs.take i) * 32 + fx c := by
  rw [List.take_succ, h]
  exact val_snoc _ _
def optV : Option Int → V
  | none => .non
  | some i => .int i
def spNR : Sp := fun vs H Q _ => ∃ t : List Nat, vs = [.str (S t)] ∧ t.length ≤ 4000 ∧ ∀ H', Same H H' → Q (optV (numR t)) H'
theorem S_eq {a b : List Nat} : decide (V.str (S a) = V.str (S b)) = decide (a = b) := decide_eq_decide.mpr ⟨fun h => S_inj (V.str.inj h), fun h => by rw [h]⟩
/-- what numR is, step by step -/
theorem numR_bad {w : List Nat} (h : ¬ (1 ≤ (bodyOf w).length ∧ (bodyOf w).length ≤ 30 ∧ (bodyOf w).all isFig = true)) : numR w = none := by
  unfold numR
  rw [if_neg]
  rintro ⟨h1, h2, h3⟩
  exact h ⟨List.length_pos_iff.mpr h1, h2, h3⟩
theorem numR_good {w : List Nat} (h1 : 1 ≤ (bodyOf w).length) (h2 : (bodyOf w).length ≤ 30) (h3 : (bodyOf w).all isFig = true) : numR w = if numT (toldOf w) = w then some (toldOf w) else none := by
  unfold numR
  rw [if_pos ⟨List.length_pos_iff.mp h1, h2, h3⟩]
theorem told_small {w : List Nat} (h2 : (bodyOf w).length ≤ 30) (h3 : (bodyOf w).all isFig = true) : (toldOf w).natAbs < 32 ^ 160 := by
  have hv := val_lt (bodyOf w) (List.all_eq_true.mp h3)
  have hp : (32 : Nat) ^ (bodyOf w).length ≤ 32 ^ 30 := Nat.pow_le_pow_right (by decide) h2
  have hp2 : (32 : Nat) ^ 30 ≤ 32 ^ 160 := Nat.pow_le_pow_right (by decide) (by decide)
  have : (toldOf w).natAbs = val (bodyOf w) := by
    unfold toldOf
    split <;> omega
  omega
theorem body_len (w : List Nat) : (bodyOf w).length ≤ w.length := by
  unfold bodyOf
  split
  · rw [List.length_tail]
    omega
  · exact Nat.le_refl _
theorem scNR : FnScope ["word", "figures", "number", "sign", "told"] ["word"] (defScope sNR) := ⟨rfl, rfl, rfl, by decide +kernel, rfl, by decide +kernel, by decide +kernel⟩
theorem ok_NR {f fN : Addr} {fd dN : FuncData} (F : Fun K "number_read" "number_read" sNR f fd) (T : Mp mg) (FN : Fun K "number_text" "number_text" sNT fN dN) (gN : mg "number_text" = some (.ref fN)) (bN : L2.Binds K dN ["number"] []) (GN : FnOk P w K mg base CX0 1 fN dN ["number"] spNT) : FnOk P w K mg base CX0 2 f fd ["word"] spNR := by
  obtain ⟨tF, hF⟩ := T.figs
  obtain ⟨tB, hB⟩ := T.base
  obtain ⟨tM, hM⟩ := T.most
  refine F.ok scNR (fun vs H Q E h => ?_) (fun cdv A outer s H vs Q E hr h => ?_)
  · obtain ⟨t, rfl, _⟩ := h
    rfl
  · refine ⟨_, (pss_cons (ps_set (i := 1) scNR.nd rfl (.inl rfl) (pe_ifExp (pt_val (pe_bm PySem.F.plainAttrs_str PySem.F.slot_str_startswith PySem.F.type_str_startswith mt_stS (pv 0) (pa_cons pe_str pa_nil))) (pe_slice sl_str (pv 0) (po_some pe_int) po_none) (pv 0)))
        (pss_cons (ps_if (PW.pt (pw_or (pt_not (pt_chain op_le op_le pe_int (pe_callB call_len_str (by rfl) T.len_ (by decide +kernel) (pa_cons (pv 1) pa_nil)) (pe_glob (by rfl) hM (v := .int 30) ⟨_, rfl⟩))) (pw_or1 (pt_not (pt_val (pe_callB (cr_all rfl) (by rfl) T.all_ (by decide +kernel) (pa_cons (pe_lc (own := [("sign", 3)]) (g := (gName 3)) (tt := tYes) (te := (tOp rInS (tVar 3) (tC (.str figZ)))) (by rfl) scNR.nd (pi_str (pv 1)) (blkOk_by (own := [("sign", 3)]) (N := ["word", "figures", "number", "sign", "told"]) (sc := defScope sNR) (by decide +kernel)) (fun _ _ _ _ _ => (pg_name (i := 3) scNR.nd rfl (.inl rfl))) (fun _ _ _ _ _ => pts_nil) (fun _ _ _ _ _ => (pe_cmpR op_in_sign (pv 3) (pe_glob (by rfl) hF (v := .str figZ) ⟨_, rfl⟩) (by rfl)))) pa_nil))))))) (pss_one (ps_ret pe_non)) pss_nil)
        (pss_cons (ps_set (i := 2) scNR.nd rfl (.inl rfl) pe_int)
        (pss_cons (ps_for PassesOwn.never rfl (pi_str (pv 1)) (pg_name (i := 3) scNR.nd rfl (.inl rfl)) (pss_one (ps_set (i := 2) scNR.nd rfl (.inl rfl) (pe_op op_add (pe_op op_mul (pv 2) (pe_glob (by rfl) hB (v := .int 32) ⟨_, rfl⟩)) (pe_bm PySem.F.plainAttrs_str PySem.F.slot_str_index PySem.F.type_str_index mt_indS (pe_glob (by rfl) hF (v := .str figZ) ⟨_, rfl⟩) (pa_cons (pv 3) pa_nil))))))
        (pss_cons (ps_set (i := 4) scNR.nd rfl (.inl rfl) (pe_ifExp (pt_val (pe_bm PySem.F.plainAttrs_str PySem.F.slot_str_startswith PySem.F.type_str_startswith mt_stS (pv 0) (pa_cons pe_str pa_nil))) (pe_un un_neg (pv 2)) (pv 2)))
        (pss_one (ps_ret (pe_ifExp (pt_cmpR op_eq (pe_call GN hr (by rfl) gN FN.kp bN .nil pass0 (pa_cons (pv 4) pa_nil)) (pv 0) (nomark _)) (pv 4) pe_non)))))))), ?_⟩
    obtain ⟨t, rfl, hl, qq⟩ := h
    by_cases hn : t.head? = some 45
    · have hb := body_len t
      have hfe : bodyOf t = t.tail := by unfold bodyOf; rw [if_pos hn]
      have hte : toldOf t = -(val (bodyOf t) : Nat) := by unfold toldOf; rw [if_pos hn]
      obtain ⟨fs, hfs⟩ : ∃ fs, fs = bodyOf t := ⟨_, rfl⟩
      walk_at "rd"
      refine ⟨_, rfl, rfl, ?_⟩
      walk_at "rd"
      refine rv_stS ?_
      refine ⟨_, rfl, iteTe (decide_eq_true hn) ?_⟩
      walk_at "rd"
      refine ⟨1, rfl, ?_⟩
      walk_at "rd"
      refine rv_from (a := 1) (len_le hl) ?_
      rw [List.drop_one, ← hfe, ← hfs]
      have lf : fs.length ≤ 4000 := (by rw [hfs]; omega)
      walk_at "rd"
      refine ⟨S fs, rfl, len_le lf, ?_⟩
      rw [S_len]
      refine ⟨_, _, rfl, rfl, ?_⟩
      have no : ¬ (1 ≤ fs.length ∧ fs.length ≤ 30 ∧ fs.all isFig = true) → ∀ H', Same H H' → Q .non H' := fun z H' s => by
        have := qq H' s
        rw [numR_bad (by rw [← hfs]; exact z)] at this
        exact this
      refine ⟨_, rfl, iteB (fun h1 => ?_) (fun h1 => ?_)⟩
      · have h1' : 1 ≤ fs.length := by have := of_decide_eq_true h1; omega
        walk_at "rd"
        refine iteB (fun h2 => ?_) (fun h2 => ?_)
        · have h2' : ¬ fs.length ≤ 30 := fun z => by
            rw [decide_eq_true (by omega : (fs.length : Int) ≤ 30)] at h2
            cases h2
          walk_at "rd"
          exact no (fun z => h2' z.2.1) H (Same.refl H)
        · have h2' : fs.length ≤ 30 := by
            have : decide ((fs.length : Int) ≤ 30) = true := by simpa using h2
            have := of_decide_eq_true this
            omega
          walk_at "rd"
          refine ⟨S fs, rfl, fun D hD => ?_⟩
          refine lc_it walk_str (fun i H' => Same H H' ∧ H' D = some (.lst (((fs.take i).map isFig).map V.bl))) ⟨same_upd hD, upd_same⟩ (fun _ _ _ _ => True.intro) ?_ ?_
          · rintro i x H1 H2 hi ⟨sm, hd⟩ ⟨rfl, c, hc, rfl⟩
            have hi' : i < fs.length := by simpa using hi
            have hc' : fs[i]? = some c := by simpa using hc
            refine rg_name ⟨rfl, ?_⟩
            walk_at "rd"
            have ec : decide (c ∈ figZ.cps.toList) = isFig c := by rw [figZ_eq]; rfl
            refine ⟨_, hd, ?_, same_put hD sm, ?_⟩
            · rw [List.length_map, List.length_map, List.length_take, sizeLine_eq]
              omega
            · refine upd_same.trans ?_
              show some (HO.lst (_ ++ [V.bl (decide (c ∈ figZ.cps.toList))])) = _
              rw [ec, List.take_succ, hc']
              simp
          · rintro H1 ⟨s1, hd⟩
            have et : fs.take (S fs).cps.size = fs := List.take_of_length_le (by simp)
            rw [et] at hd
            walk_at "rd"
            refine ⟨D, _, rfl, SqL.of hd, ?_⟩
            rw [show (fs.map isFig).all id = fs.all isFig by rw [List.all_map]; rfl]
            refine ⟨_, rfl, ?_⟩
            by_cases h3 : fs.all isFig = true
            · rw [h3]
              refine iteFe rfl ?_
              have hfig := List.all_eq_true.mp h3
              have good := numR_good (w := t) (by rw [← hfs]; exact h1') (by rw [← hfs]; exact h2') (by rw [← hfs]; exact h3)
              have sml := told_small (w := t) (by rw [← hfs]; exact h2') (by rw [← hfs]; exact h3)
              walk_at "rd"
              refine ⟨S fs, rfl, ?_⟩
              refine for_it walk_str (fun i σ H' => H' = H1 ∧ ∃ o3, σ = [some (.str (S t)), some (.str (S fs)), some (.int (val (fs.take i) : Nat)), o3, none]) ⟨rfl, none, rfl⟩ (fun _ _ _ _ _ => True.intro) ?_ ?_
              · rintro i x σ H2 H3 hi ⟨rfl, o3, rfl⟩ ⟨rfl, c, hc, rfl⟩
                have hc' : fs[i]? = some c := by simpa using hc
                refine rg_name ?_
                walk_at "rd"
                refine ⟨rfl, ?_⟩
                walk_at "rd"
                refine rv_ind (hfig c (List.mem_of_getElem? hc')) ?_
                walk_at "rd"
                refine ⟨rfl, some (.str (S [c])), ?_⟩
                rw [val_take hc']
                rfl
              · rintro σ H2 ⟨rfl, o3, rfl⟩
                rw [et]
                walk_at "rd"
                refine ⟨_, rfl, rfl, ?_⟩
                walk_at "rd"
                refine rv_stS ?_
                refine ⟨_, rfl, iteTe (decide_eq_true hn) ?_⟩
                walk_at "rd"
                refine ⟨_, rfl, _, rfl, ?_⟩
                walk_at "rd"
                have ht : toldOf t = -(val fs : Nat) := by rw [hte, ← hfs]
                have fin := qq H2 s1
                rw [good, ht] at fin
                rw [ht] at sml
                refine ⟨_, rfl, sml, ?_⟩
                walk_at "rd"
                refine iteB (fun h4 => ?_) (fun h4 => ?_)
                · rw [if_pos (S_inj (V.str.inj (of_decide_eq_true h4)))] at fin
                  walk_at "rd"
                  exact fin
                · rw [if_neg (fun e => of_decide_eq_false h4 (by rw [e]))] at fin
                  walk_at "rd"
                  exact fin
            · rw [Bool.eq_false_iff.mpr h3]
              refine iteTe rfl ?_
              walk_at "rd"
              exact no (fun z => h3 z.2.2) H1 s1
      · walk_at "rd"
        exact no (fun z => of_decide_eq_false h1 (by omega)) H (Same.refl H)
    · have hb := body_len t
      have hfe : bodyOf t = t := by unfold bodyOf; rw [if_neg hn]
      have hte : toldOf t = (val (bodyOf t) : Nat) := by unfold toldOf; rw [if_neg hn]
      walk_at "rd"
      refine ⟨_, rfl, rfl, ?_⟩
      walk_at "rd"
      refine rv_stS ?_
      refine ⟨_, rfl, iteFe (decide_eq_false hn) ?_⟩
      walk_at "rd"
      have lf : t.length ≤ 4000 := hl
      walk_at "rd"
      refine ⟨S t, rfl, len_le lf, ?_⟩
      rw [S_len]
      refine ⟨_, _, rfl, rfl, ?_⟩
      have no : ¬ (1 ≤ t.length ∧ t.length ≤ 30 ∧ t.all isFig = true) → ∀ H', Same H H' → Q .non H' := fun z H' s => by
        have := qq H' s
        rw [numR_bad (by rw [hfe]; exact z)] at this
        exact this
      refine ⟨_, rfl, iteB (fun h1 => ?_) (fun h1 => ?_)⟩
      · have h1' : 1 ≤ t.length := by have := of_decide_eq_true h1; omega
        walk_at "rd"
        refine iteB (fun h2 => ?_) (fun h2 => ?_)
        · have h2' : ¬ t.length ≤ 30 := fun z => by
            rw [decide_eq_true (by omega : (t.length : Int) ≤ 30)] at h2
            cases h2
          walk_at "rd"
          exact no (fun z => h2' z.2.1) H (Same.refl H)
        · have h2' : t.length ≤ 30 := by
            have : decide ((t.length : Int) ≤ 30) = true := by simpa using h2
            have := of_decide_eq_true this
            omega
          walk_at "rd"
          refine ⟨S t, rfl, fun D hD => ?_⟩
          refine lc_it walk_str (fun i H' => Same H H' ∧ H' D = some (.lst (((t.take i).map isFig).map V.bl))) ⟨same_upd hD, upd_same⟩ (fun _ _ _ _ => True.intro) ?_ ?_
          · rintro i x H1 H2 hi ⟨sm, hd⟩ ⟨rfl, c, hc, rfl⟩
            have hi' : i < t.length := by simpa using hi
            have hc' : t[i]? = some c := by simpa using hc
            refine rg_name ⟨rfl, ?_⟩
            walk_at "rd"
            have ec : decide (c ∈ figZ.cps.toList) = isFig c := by rw [figZ_eq]; rfl
            refine ⟨_, hd, ?_, same_put hD sm, ?_⟩
            · rw [List.length_map, List.length_map, List.length_take, sizeLine_eq]
              omega
            · refine upd_same.trans ?_
              show some (HO.lst (_ ++ [V.bl (decide (c ∈ figZ.cps.toList))])) = _
              rw [ec, List.take_succ, hc']
              simp
          · rintro H1 ⟨s1, hd⟩
            have et : t.take (S t).cps.size = t := List.take_of_length_le (by simp)
            rw [et] at hd
            walk_at "rd"
            refine ⟨D, _, rfl, SqL.of hd, ?_⟩
            rw [show (t.map isFig).all id = t.all isFig by rw [List.all_map]; rfl]
            refine ⟨_, rfl, ?_⟩
            by_cases h3 : t.all isFig = true
            · rw [h3]
              refine iteFe rfl ?_
              have hfig := List.all_eq_true.mp h3
              have good := numR_good (w := t) (by rw [hfe]; exact h1') (by rw [hfe]; exact h2') (by rw [hfe]; exact h3)
              have sml := told_small (w := t) (by rw [hfe]; exact h2') (by rw [hfe]; exact h3)
              walk_at "rd"
              refine ⟨S t, rfl, ?_⟩
              refine for_it walk_str (fun i σ H' => H' = H1 ∧ ∃ o3, σ = [some (.str (S t)), some (.str (S t)), some (.int (val (t.take i) : Nat)), o3, none]) ⟨rfl, none, rfl⟩ (fun _ _ _ _ _ => True.intro) ?_ ?_
              · rintro i x σ H2 H3 hi ⟨rfl, o3, rfl⟩ ⟨rfl, c, hc, rfl⟩
                have hc' : t[i]? = some c := by simpa using hc
                refine rg_name ?_
                walk_at "rd"
                refine ⟨rfl, ?_⟩
                walk_at "rd"
                refine rv_ind (hfig c (List.mem_of_getElem? hc')) ?_
                walk_at "rd"
                refine ⟨rfl, some (.str (S [c])), ?_⟩
                rw [val_take hc']
                rfl
              · rintro σ H2 ⟨rfl, o3, rfl⟩
                rw [et]
                walk_at "rd"
                refine ⟨_, rfl, rfl, ?_⟩
                walk_at "rd"
                refine rv_stS ?_
                refine ⟨_, rfl, iteFe (decide_eq_false hn) ?_⟩
                walk_at "rd"

                have ht : toldOf t = (val t : Nat) := by rw [hte, hfe]
                have fin := qq H2 s1
                rw [good, ht] at fin
                rw [ht] at sml
                refine ⟨_, rfl, sml, ?_⟩
                walk_at "rd"
                refine iteB (fun h4 => ?_) (fun h4 => ?_)
                · rw [if_pos (S_inj (V.str.inj (of_decide_eq_true h4)))] at fin
                  walk_at "rd"
                  exact fin
                · rw [if_neg (fun e => of_decide_eq_false h4 (by rw [e]))] at fin
                  walk_at "rd"
                  exact fin
            · rw [Bool.eq_false_iff.mpr h3]
              refine iteTe rfl ?_
              walk_at "rd"
              exact no (fun z => h3 z.2.2) H1 s1
      · walk_at "rd"
        exact no (fun z => of_decide_eq_false h1 (by omega)) H (Same.refl H)
end
end My

namespace My
open PySem PySem.Spec PyProof.Rows L2 XR SX RZ
section
variable {P : Program} {w : World} {K : PySem.W.Frag} {mg : Str → Option Value} {base : Heap}
local macro_rules | `(tactic| walk_at "rd1") => `(tactic| first
  | with_reducible refine rs_seq ?_
  | with_reducible refine rs_asg ?_
  | with_reducible refine rs_ret ?_
  | with_reducible refine rs_if ?_
  | with_reducible refine rs_next ?_
  | with_reducible refine rg_name ?_
  | ((with_reducible refine rv_var (v := ?vv) ?hv ?_); (case hv => exact rfl))
  | with_reducible refine rv_c ?_
  | with_reducible refine rv_op ?_
  | with_reducible refine rv_cons ?_
  | with_reducible refine rv_nil ?_
  | with_reducible refine rv_rI0 ?_
  | ((with_reducible refine rv_rI ?hc ?_); (case hc => walk_at "side"))
  | ((with_reducible refine rv_eq ?hc ?_); (case hc => exact rfl))
  | ((with_reducible refine rv_ne ?hc ?_); (case hc => exact rfl))
  | with_reducible refine rv_test ?_
  | with_reducible refine rv_bl ?_
  | with_reducible refine rv_cb ?_
  | with_reducible refine rv_call ?_
  | with_reducible refine rv_tup ?_
  | with_reducible refine rv_lst ?_
  | with_reducible refine rv_tB ?_
  | with_reducible refine rv_or ?_
  | with_reducible refine rv_and ?_
  | with_reducible refine rv_not ?_
  | with_reducible refine rv_andV ?_
  | with_reducible refine rv_orV ?_
  | with_reducible refine rv_notV ?_
  | with_reducible refine rv_ifE ?_
  | with_reducible refine rs_drop ?_
  | with_reducible refine iteT ?_
  | with_reducible refine iteF ?_
  | with_reducible refine ro_nx ?_
  | with_reducible refine ro_rt ?_
  | with_reducible refine ro_ct ?_
  | with_reducible refine ro_bk ?_)
local macro_rules | `(tactic| walk_at "rd") => `(tactic| repeat walk_at "rd1")
local macro_rules | `(tactic| walk_at "side") => `(tactic| first
  | assumption
  | exact (show CPow _ _ from ⟨by decide, by decide, by decide⟩)
  | exact (show CMul _ _ from .inl ⟨by decide, by decide⟩)
  | exact (show CMul _ _ from .inr ⟨by decide, by decide⟩)
  | (show (0 : Int) < _; decide)
  | (show CMul _ _; first | exact .inl ⟨by omega, by omega⟩ | exact .inr ⟨by omega, by omega⟩)
  | omega)
local macro_rules | `(tactic| walk_at "rd1") => `(tactic| first
  | with_reducible refine rs_for ?_
  | with_reducible refine ri_zip ?_
  | with_reducible refine ri_list ?_
  | with_reducible refine ri_rng1 ?_
  | with_reducible refine rv_lc ?_
  | with_reducible refine rv_xfl ?_
  | with_reducible refine rs_par3 ?_
  | with_reducible refine rv_yes ?_
  | with_reducible refine rg_tup ?_
  | with_reducible refine rg_cons ?_
  | with_reducible refine rg_nil ?_)
local macro_rules | `(tactic| walk_at "rd1") => `(tactic| first
  | with_reducible refine ri_str ?_
  | with_reducible refine rv_sl ?_
  | with_reducible refine rv_part ?_
  | with_reducible refine rv_nopart ?_
  | with_reducible refine rv_callS ?_
  | with_reducible refine rv_chain ?_
  | with_reducible refine rv_leS ?_
  | with_reducible refine rv_inS ?_)
theorem shaped_of {d : PyData} (h : d.canLay0 = true) (k : d.depth ≤ 64) : SeqAt.shaped d = true := by
  unfold SeqAt.shaped
  rw [h, decide_eq_true k]
  rfl
theorem ne_self {d : PyData} (h : SeqAt.shaped d = true) : (!PyData.eqv d d) = false := by
  rw [SeqAt.eqv_refl d (SeqAt.canLay_of_shaped h)]
  rfl
theorem strOk_S {w : List Nat} (h : ∀ c ∈ w, c < 128) : PyData.strOk (S w) = true := by
  unfold PyData.strOk
  rw [← Array.all_toList, List.all_eq_true]
  intro c hc
  exact decide_eq_true (Nat.lt_trans (h c hc) (by decide))
def txtsD (l : List (List Nat)) : PyData := .list (l.map fun t => .str (S t))
theorem txts_dp {H : Hp} : ∀ (l : List (List Nat)), DpAll K H (l.map fun t => V.str (S t)) (l.map fun t => PyData.str (S t))
  | [] => .nil
  | _ :: l => .cons (.str _) (txts_dp l)
theorem txts_lay : ∀ {l : List (List Nat)}, (∀ w ∈ l, ∀ c ∈ w, c < 128) → PyData.canLayAll0 (l.map fun t => PyData.str (S t)) = true ∧ PyData.depthAll (l.map fun t => PyData.str (S t)) = 0
  | [], _ => ⟨rfl, rfl⟩
  | w :: l, h => by
    obtain ⟨h1, h2⟩ := txts_lay fun x hx => h x (List.mem_cons_of_mem _ hx)
    refine ⟨?_, ?_⟩
    · show (PyData.strOk (S w) && PyData.canLayAll0 _) = true
      rw [h1, strOk_S (h w List.mem_cons_self)]
      rfl
    · show max 0 (PyData.depthAll _) = 0
      rw [h2]
      rfl
theorem txts_shaped {l : List (List Nat)} (h : ∀ w ∈ l, ∀ c ∈ w, c < 128) : SeqAt.shaped (txtsD l) = true := by
  obtain ⟨h1, h2⟩ := txts_lay h
  refine shaped_of h1 ?_
  show PyData.depthAll _ + 1 ≤ 64
  rw [h2]
  decide
theorem txts_empty (l : List (List Nat)) : PyData.eqv (txtsD l) (.list []) = decide (l = []) := by
  cases l with
  | nil => rfl
  | cons a r => rfl
end
section
variable {P : Program} {w : World} {K : PySem.W.Frag} {mg : Str → Option Value} {base : Heap}
local macro_rules | `(tactic| walk_at "rd1") => `(tactic| first
  | with_reducible refine rs_seq ?_
  | with_reducible refine rs_asg ?_
  | with_reducible refine rs_ret ?_
  | with_reducible refine rs_if ?_
  | with_reducible refine rs_next ?_
  | with_reducible refine rg_name ?_
  | ((with_reducible refine rv_var (v := ?vv) ?hv ?_); (case hv => exact rfl))
  | with_reducible refine rv_c ?_
  | with_reducible refine rv_op ?_
  | with_reducible refine rv_cons ?_
  | with_reducible refine rv_nil ?_
  | with_reducible refine rv_rI0 ?_
  | ((with_reducible refine rv_rI ?hc ?_); (case hc => walk_at "side"))
  | ((with_reducible refine rv_eq ?hc ?_); (case hc => exact rfl))
  | ((with_reducible refine rv_ne ?hc ?_); (case hc => exact rfl))
  | with_reducible refine rv_test ?_
  | with_reducible refine rv_bl ?_
  | with_reducible refine rv_cb ?_
  | with_reducible refine rv_call ?_
  | with_reducible refine rv_tup ?_
  | with_reducible refine rv_lst ?_
  | with_reducible refine rv_tB ?_
  | with_reducible refine rv_or ?_
  | with_reducible refine rv_and ?_
  | with_reducible refine rv_not ?_
  | with_reducible refine rv_andV ?_
  | with_reducible refine rv_orV ?_
  | with_reducible refine rv_notV ?_
  | with_reducible refine rv_ifE ?_
  | with_reducible refine rs_drop ?_
  | with_reducible refine iteT ?_
  | with_reducible refine iteF ?_
  | with_reducible refine ro_nx ?_
  | with_reducible refine ro_rt ?_
  | with_reducible refine ro_ct ?_
  | with_reducible refine ro_bk ?_)
local macro_rules | `(tactic| walk_at "rd") => `(tactic| repeat walk_at "rd1")
local macro_rules | `(tactic| walk_at "side") => `(tactic| first
  | assumption
  | exact (show CPow _ _ from ⟨by decide, by decide, by decide⟩)
  | exact (show CMul _ _ from .inl ⟨by decide, by decide⟩)
  | exact (show CMul _ _ from .inr ⟨by decide, by decide⟩)
  | (show (0 : Int) < _; decide)
  | (show CMul _ _; first | exact .inl ⟨by omega, by omega⟩ | exact .inr ⟨by omega, by omega⟩)
  | omega)
local macro_rules | `(tactic| walk_at "rd1") => `(tactic| first
  | with_reducible refine rs_for ?_
  | with_reducible refine ri_zip ?_
  | with_reducible refine ri_list ?_
  | with_reducible refine ri_rng1 ?_
  | with_reducible refine rv_lc ?_
  | with_reducible refine rv_xfl ?_
  | with_reducible refine rs_par3 ?_
  | with_reducible refine rv_yes ?_
  | with_reducible refine rg_tup ?_
  | with_reducible refine rg_cons ?_
  | with_reducible refine rg_nil ?_)
local macro_rules | `(tactic| walk_at "rd1") => `(tactic| first
  | with_reducible refine ri_str ?_
  | with_reducible refine rv_sl ?_
  | with_reducible refine rv_part ?_
  | with_reducible refine rv_nopart ?_
  | with_reducible refine rv_callS ?_
  | with_reducible refine rv_chain ?_
  | with_reducible refine rv_leS ?_
  | with_reducible refine rv_inS ?_)
theorem scLN : FnScope ["word", "figures", "odd", "sign", "found"] ["word"] (defScope sLN) := ⟨rfl, rfl, rfl, by decide +kernel, rfl, by decide +kernel, by decide +kernel⟩
def spLN : Sp := fun vs H Q _ => ∃ t : List Nat, vs = [.str (S t)] ∧ t.length ≤ 4000 ∧ (∀ c ∈ t, c < 128) ∧ ∀ H', Same H H' → Q (optV (numR t)) H'
theorem take_one (t : List Nat) : decide (V.str (S (t.take 1)) = V.str "-") = decide (t.head? = some 45) := by
  refine decide_eq_decide.mpr ⟨fun h => ?_, fun h => ?_⟩
  · have e : t.take 1 = [45] := S_inj (b := [45]) (V.str.inj h)
    cases t with
    | nil => cases e
    | cons c r => cases e; rfl
  · cases t with
    | nil => cases h
    | cons c r => cases h; rfl
theorem ok_LN {f fN : Addr} {fd dN : FuncData} (F : Fun K "_law_number" "_law_number" sLN f fd) (T : Mp mg) (FN : Fun K "_law_digits" "_law_digits" sLD fN dN) (gN : mg "_law_digits" = some (.ref fN)) (bN : L2.Binds K dN ["number_own"] []) (GN : FnOk P w K mg base CX0 2 fN dN ["number_own"] spNT) : FnOk P w K mg base CX0 3 f fd ["word"] spLN := by
  refine F.ok scLN (fun vs H Q E h => ?_) (fun cdv A outer s H vs Q E hr h => ?_)
  · obtain ⟨t, rfl, _⟩ := h
    rfl
  · refine ⟨_, (pss_cons (ps_set (i := 1) scLN.nd rfl (.inl rfl) (pe_slice sl_str (pv 0) (po_some (pe_callTy call_int1 (by rfl) T.int_ (by decide +kernel) (pa_cons (pe_cmpR op_eq (pe_slice sl_str (pv 0) po_none (po_some pe_int)) pe_str (nomark _)) pa_nil))) po_none))
        (pss_cons (ps_setLc (i := 2) (own := [("sign", 3)]) (g := (gName 3)) (tt := (tTest (tOp rNotInS (tVar 3) (tC (.str figZ))))) (te := (tVar 3)) (by rfl) scLN.nd rfl rfl (sw_true rfl rfl rfl (by decide +kernel)) (pi_str (pv 1)) (blkOk_by (own := [("sign", 3)]) (N := ["word", "figures", "odd", "sign", "found"]) (sc := defScope sLN) (by decide +kernel)) (fun _ _ _ _ _ => (pg_name (i := 3) scLN.nd rfl (.inl rfl))) (fun _ _ _ _ _ => (pts_one (pt_cmpR op_notInS (pv 3) pe_str (by rfl)))) (fun _ _ _ _ _ => (pv 3)))
        (pss_cons (ps_if (PW.pt (pw_or (pt_cmpR op_eq (pv 1) pe_str (nomark _)) (pw_or (pt_cmpR op_gt (pe_callB call_len_str (by rfl) T.len_ (by decide +kernel) (pa_cons (pv 1) pa_nil)) pe_int (nomark _)) (pw_or1 (pt_cmpR (op_neD hr.units) (pv 2) (pe_lst pa_nil) (nomark _)))))) (pss_one (ps_ret pe_non)) pss_nil)
        (pss_cons (ps_set (i := 4) scLN.nd rfl (.inl rfl) pe_int)
        (pss_cons (ps_for PassesOwn.never rfl (pi_str (pv 1)) (pg_name (i := 3) scLN.nd rfl (.inl rfl)) (pss_one (ps_set (i := 4) scLN.nd rfl (.inl rfl) (pe_op op_add (pe_op op_mul pe_int (pv 4)) (pe_bm PySem.F.plainAttrs_str PySem.F.slot_str_index PySem.F.type_str_index mt_indS pe_str (pa_cons (pv 3) pa_nil))))))
        (pss_cons (ps_if (pt_cmpR op_eq (pe_slice sl_str (pv 0) po_none (po_some pe_int)) pe_str (nomark _)) (pss_one (ps_set (i := 4) scLN.nd rfl (.inl rfl) (pe_op op_sub pe_int (pv 4)))) pss_nil)
        (pss_one (ps_ret (pe_ix ix_list (pe_lst (pa_cons pe_non (pa_cons (pv 4) pa_nil))) (pe_callTy call_int1 (by rfl) T.int_ (by decide +kernel) (pa_cons (pe_cmpR op_eq (pe_call GN hr (by rfl) gN FN.kp bN .nil pass0 (pa_cons (pv 4) pa_nil)) (pv 0) (nomark _)) pa_nil)) (fun _ _ => rfl)))))))))), ?_⟩
    obtain ⟨t, rfl, hl, hc, qq⟩ := h
    have lb := body_len t
    obtain ⟨fs, hfs⟩ : ∃ fs, fs = bodyOf t := ⟨_, rfl⟩
    rw [← hfs] at lb
    have fsc : ∀ c ∈ fs, c < 128 := fun c h => hc c (by
      rw [hfs] at h
      unfold bodyOf at h
      split at h
      · exact List.mem_of_mem_tail h
      · exact h)
    have hdrop : t.drop (if decide (t.head? = some 45) = true then 1 else 0) = fs := by
      rw [hfs]
      unfold bodyOf
      by_cases hn : t.head? = some 45
      · rw [if_pos (decide_eq_true hn), if_pos hn]
        exact List.drop_one
      · rw [if_neg (by rw [decide_eq_false hn]; exact Bool.false_ne_true), if_neg hn]
        rfl
    have no : ¬ (1 ≤ fs.length ∧ fs.length ≤ 30 ∧ fs.all isFig = true) → ∀ H', Same H H' → Q .non H' := fun z H' s => by
      have := qq H' s
      rw [numR_bad (by rw [← hfs]; exact z)] at this
      exact this
    walk_at "rd"
    refine ⟨1, rfl, rv_to (a := 1) (len_le hl) ?_⟩
    walk_at "rd"
    refine .inr ⟨_, rfl, ?_⟩
    rw [take_one]
    refine ⟨_, rfl, ?_⟩
    walk_at "rd"
    rw [show (if decide (t.head? = some 45) = true then (1 : Int) else 0) = ((if decide (t.head? = some 45) = true then 1 else 0 : Nat) : Int) by split <;> rfl]
    refine rv_from (len_le hl) ?_
    rw [hdrop]
    walk_at "rd"
    refine ⟨S fs, rfl, fun D hD => ?_⟩
    refine lc_it walk_str (fun i H' => Same H H' ∧ H' D = some (.lst ((((fs.take i).filter fun c => !isFig c).map fun c => [c]).map fun t => V.str (S t)))) ⟨same_upd hD, upd_same⟩ (fun _ _ _ _ => True.intro) ?_ ?_
    · rintro i x H1 H2 hi ⟨sm, hd⟩ ⟨rfl, c, hc1, rfl⟩
      have hi' : i < fs.length := by simpa using hi
      have hc' : fs[i]? = some c := by simpa using hc1
      refine rg_name ⟨rfl, ?_⟩
      walk_at "rd"
      have ec : decide (c ∈ figZ.cps.toList) = isFig c := by rw [figZ_eq]; rfl
      refine ⟨c, figZ, rfl, rfl, ?_⟩
      rw [ec]
      refine ⟨_, rfl, iteB (fun h1 => ?_) (fun h1 => ?_)⟩
      · walk_at "rd"
        refine ⟨_, hd, ?_, same_put hD sm, ?_⟩
        · rw [List.length_map, List.length_map, sizeLine_eq]
          have := List.length_filter_le (fun c => !isFig c) (fs.take i)
          rw [List.length_take] at this
          omega
        · rw [upd_same, List.take_succ, hc', Option.toList_some, List.filter_append, List.filter_cons_of_pos (by exact h1)]
          simp
      · refine ⟨sm, ?_⟩
        rw [hd, List.take_succ, hc', Option.toList_some, List.filter_append, List.filter_cons_of_neg (by rw [h1]; exact Bool.false_ne_true)]
        simp
    · rintro H1 ⟨s1, hd⟩
      have et : fs.take (S fs).cps.size = fs := List.take_of_length_le (by simp)
      rw [et] at hd
      walk_at "rd"
      refine iteB (fun h1 => ?_) (fun h1 => ?_)
      · have e0 : fs = [] := S_inj (b := []) (V.str.inj (of_decide_eq_true h1))
        walk_at "rd"
        exact no (by rw [e0]; rintro ⟨z, _⟩; exact absurd z (by decide)) H1 s1
      · have h1' : 1 ≤ fs.length := List.length_pos_iff.mpr fun z => of_decide_eq_false h1 (by rw [z]; rfl)
        walk_at "rd"
        have lf : fs.length ≤ 4000 := by omega
        refine ⟨S fs, rfl, len_le lf, ?_⟩
        rw [S_len]
        walk_at "rd"
        refine iteB (fun h2 => ?_) (fun h2 => ?_)
        · walk_at "rd"
          have := of_decide_eq_true h2
          exact no (fun z => by omega) H1 s1
        · have h2' : fs.length ≤ 30 := by have := of_decide_eq_false h2; omega
          walk_at "rd"
          refine ⟨by decide, fun p hp => ?_⟩
          have s2 := s1.trans (same_upd (o := .lst []) hp)
          have oc : ∀ w ∈ (fs.filter fun c => !isFig c).map (fun c => [c]), ∀ c ∈ w, c < 128 := fun w hw c hcw => by
            obtain ⟨c2, hc2, rfl⟩ := List.mem_map.mp hw
            rw [List.mem_singleton.mp hcw]
            exact fsc _ (List.mem_filter.mp hc2).1
          refine ⟨txtsD ((fs.filter fun c => !isFig c).map fun c => [c]), .list [], .lst (SqL.of (same_upd (o := .lst []) hp _ _ hd)) (txts_dp _), .lst (SqL.of upd_same) .nil, txts_shaped oc, by decide, ?_⟩
          rw [txts_empty]
          refine ⟨_, rfl, iteB (fun h3 => ?_) (fun h3 => ?_)⟩
          · walk_at "rd"
            refine no (fun z => ?_) _ s2
            have hz : (fs.filter fun c => !isFig c) = [] := List.filter_eq_nil_iff.mpr fun c hc => by rw [List.all_eq_true.mp z.2.2 c hc]; decide
            rw [hz] at h3
            cases h3
          · have h3' : fs.all isFig = true := by
              have e : (fs.filter fun c => !isFig c).map (fun c => [c]) = [] := by
                have : (!decide ((fs.filter fun c => !isFig c).map (fun c => [c]) = [])) = false := h3
                simpa using this
              have e2 := List.filter_eq_nil_iff.mp (List.map_eq_nil_iff.mp e)
              refine List.all_eq_true.mpr fun c hc => ?_
              have := e2 c hc
              simpa using this
            have hfig := List.all_eq_true.mp h3'
            have good := numR_good (w := t) (by rw [← hfs]; exact h1') (by rw [← hfs]; exact h2') (by rw [← hfs]; exact h3')
            have sml := told_small (w := t) (by rw [← hfs]; exact h2') (by rw [← hfs]; exact h3')
            have ht : toldOf t = if t.head? = some 45 then (-(val fs : Nat) : Int) else ((val fs : Nat) : Int) := by rw [hfs]; rfl
            generalize eG : upd H1 p (HO.lst []) = H2 at *
            clear hd eG
            walk_at "rd"
            refine ⟨S fs, rfl, ?_⟩
            refine for_it walk_str (fun i σ H' => H' = H2 ∧ ∃ o3, σ = [some (.str (S t)), some (.str (S fs)), some (.ref D), o3, some (.int (val (fs.take i) : Nat))]) ⟨rfl, none, rfl⟩ (fun _ _ _ _ _ => True.intro) ?_ ?_
            · rintro i x σ H3 H4 hi ⟨rfl, o3, rfl⟩ ⟨rfl, c, hc1, rfl⟩
              have hc' : fs[i]? = some c := by simpa using hc1
              refine rg_name ?_
              walk_at "rd"
              refine ⟨rfl, ?_⟩
              walk_at "rd"
              refine rv_ind (hfig c (List.mem_of_getElem? hc')) ?_
              walk_at "rd"
              refine ⟨rfl, some (.str (S [c])), ?_⟩
              rw [val_take hc', Nat.mul_comm]
              rfl
            · rintro σ H3 ⟨rfl, o3, rfl⟩
              rw [et]
              walk_at "rd"
              refine ⟨1, rfl, rv_to (a := 1) (len_le hl) ?_⟩
              walk_at "rd"
              rw [take_one]
              by_cases hn : t.head? = some 45
              · have e1 : toldOf t = (0 - (val fs : Nat) : Int) := by rw [ht, if_pos hn]; omega
                rw [e1] at good sml
                refine iteTe (decide_eq_true hn) ?_
                walk_at "rd"
                refine ⟨by show 2 ≤ sizeLine; decide, fun L hL => ?_⟩
                have s3 := s2.trans (same_upd (o := .lst [.non, .int (0 - (val fs : Nat) : Int)]) hL)
                walk_at "rd"
                refine ⟨(0 - (val fs : Nat) : Int), rfl, sml, ?_⟩
                walk_at "rd"
                refine .inr ⟨_, rfl, ?_⟩
                have fin := qq _ s3
                rw [good] at fin
                by_cases h4 : numT (0 - (val fs : Nat) : Int) = t
                · rw [if_pos h4] at fin
                  rw [if_pos (decide_eq_true (by rw [h4]))]
                  exact ⟨L, [.non, .int (0 - (val fs : Nat) : Int)], 1, _, rfl, rfl, SqL.of upd_same, rfl, fin⟩
                · rw [if_neg h4] at fin
                  rw [if_neg (fun z => h4 (S_inj (V.str.inj (of_decide_eq_true z))))]
                  exact ⟨L, [.non, .int (0 - (val fs : Nat) : Int)], 0, _, rfl, rfl, SqL.of upd_same, rfl, fin⟩
              · have e1 : toldOf t = ((val fs : Nat) : Int) := by rw [ht, if_neg hn]
                rw [e1] at good sml
                refine iteFe (decide_eq_false hn) ?_
                walk_at "rd"
                refine ⟨by show 2 ≤ sizeLine; decide, fun L hL => ?_⟩
                have s3 := s2.trans (same_upd (o := .lst [.non, .int ((val fs : Nat) : Int)]) hL)
                walk_at "rd"
                refine ⟨((val fs : Nat) : Int), rfl, sml, ?_⟩
                walk_at "rd"
                refine .inr ⟨_, rfl, ?_⟩
                have fin := qq _ s3
                rw [good] at fin
                by_cases h4 : numT ((val fs : Nat) : Int) = t
                · rw [if_pos h4] at fin
                  rw [if_pos (decide_eq_true (by rw [h4]))]
                  exact ⟨L, [.non, .int ((val fs : Nat) : Int)], 1, _, rfl, rfl, SqL.of upd_same, rfl, fin⟩
                · rw [if_neg h4] at fin
                  rw [if_neg (fun z => h4 (S_inj (V.str.inj (of_decide_eq_true z))))]
                  exact ⟨L, [.non, .int ((val fs : Nat) : Int)], 0, _, rfl, rfl, SqL.of upd_same, rfl, fin⟩
end
end My

namespace My
open PySem PySem.Spec PyProof.Rows L2 XR SX RZ
abbrev sER : Stmt := top 20
abbrev sRM : Stmt := top 21
section
variable {P : Program} {w : World} {K : PySem.W.Frag} {mg : Str → Option Value} {base : Heap} {cT fT : Addr} {fdT : FuncData}
local macro_rules | `(tactic| walk_at "rd1") => `(tactic| first
  | with_reducible refine rs_seq ?_
  | with_reducible refine rs_asg ?_
  | with_reducible refine rs_ret ?_
  | with_reducible refine rs_if ?_
  | with_reducible refine rs_next ?_
  | with_reducible refine rg_name ?_
  | ((with_reducible refine rv_var (v := ?vv) ?hv ?_); (case hv => exact rfl))
  | with_reducible refine rv_c ?_
  | with_reducible refine rv_op ?_
  | with_reducible refine rv_cons ?_
  | with_reducible refine rv_nil ?_
  | with_reducible refine rv_rI0 ?_
  | ((with_reducible refine rv_rI ?hc ?_); (case hc => walk_at "side"))
  | ((with_reducible refine rv_eq ?hc ?_); (case hc => exact rfl))
  | ((with_reducible refine rv_ne ?hc ?_); (case hc => exact rfl))
  | with_reducible refine rv_test ?_
  | with_reducible refine rv_bl ?_
  | with_reducible refine rv_cb ?_
  | with_reducible refine rv_call ?_
  | with_reducible refine rv_tup ?_
  | with_reducible refine rv_lst ?_
  | with_reducible refine rv_tB ?_
  | with_reducible refine rv_or ?_
  | with_reducible refine rv_and ?_
  | with_reducible refine rv_not ?_
  | with_reducible refine rv_andV ?_
  | with_reducible refine rv_orV ?_
  | with_reducible refine rv_notV ?_
  | with_reducible refine rv_ifE ?_
  | with_reducible refine rs_drop ?_
  | with_reducible refine iteT ?_
  | with_reducible refine iteF ?_
  | with_reducible refine ro_nx ?_
  | with_reducible refine ro_rt ?_
  | with_reducible refine ro_ct ?_
  | with_reducible refine ro_bk ?_)
local macro_rules | `(tactic| walk_at "rd") => `(tactic| repeat walk_at "rd1")
local macro_rules | `(tactic| walk_at "side") => `(tactic| first
  | assumption
  | exact (show CPow _ _ from ⟨by decide, by decide, by decide⟩)
  | exact (show CMul _ _ from .inl ⟨by decide, by decide⟩)
  | exact (show CMul _ _ from .inr ⟨by decide, by decide⟩)
  | (show (0 : Int) < _; decide)
  | (show CMul _ _; first | exact .inl ⟨by omega, by omega⟩ | exact .inr ⟨by omega, by omega⟩)
  | omega)
local macro_rules | `(tactic| walk_at "rd1") => `(tactic| first
  | with_reducible refine rs_for ?_
  | with_reducible refine ri_zip ?_
  | with_reducible refine ri_list ?_
  | with_reducible refine ri_rng1 ?_
  | with_reducible refine rv_lc ?_
  | with_reducible refine rv_xfl ?_
  | with_reducible refine rs_par3 ?_
  | with_reducible refine rv_yes ?_
  | with_reducible refine rg_tup ?_
  | with_reducible refine rg_cons ?_
  | with_reducible refine rg_nil ?_)
local macro_rules | `(tactic| walk_at "rd1") => `(tactic| first
  | with_reducible refine ri_str ?_
  | with_reducible refine rv_sl ?_
  | with_reducible refine rv_part ?_
  | with_reducible refine rv_nopart ?_
  | with_reducible refine rv_callS ?_
  | with_reducible refine rv_chain ?_
  | with_reducible refine rv_leS ?_
  | with_reducible refine rv_inS ?_)
/-- __init__ of NoText: a new dict, not there before -/
def spN (C : Addr) : Sp := fun vs H Q _ => ∃ (a : Addr) (x : V), vs = [.ref a, x] ∧ H a = some (exo a C none) ∧
  ∀ H' dx, H dx = none → dx ≠ a → (∀ b o, b ≠ a → H b = some o → H' b = some o) → H' a = some (exo a C (some dx)) → H' dx = some (exd dx [("at", x)]) → Q .non H'
theorem ok_iText2 {f C : Addr} {fd : FuncData} {dvs : List V} (F : FunD K "__init__" "NoText.__init__" (defArgs iText) (defBody iText) (defScope iText) dvs [] f fd) (O : OexC K C) (n1 : PySem.W.findIn K (.ref C) "at" = some none) : FnOk P w K mg base CX0 1 f fd ["self", "at"] (spN C) := by
  refine F.ok scIText (fun vs H Q E h => ?_) (fun cdv A outer s H vs Q E hr h => ?_)
  · obtain ⟨a, x, rfl, _⟩ := h
    rfl
  · refine ⟨_, pss_one (ps_ost (pv 0) (pv 1)), ?_⟩
    obtain ⟨a, x, rfl, ha, q⟩ := h
    refine ⟨_, rfl, _, rfl, a, C, rfl, O, n1, .inl ⟨ha, fun dx nd ne => ?_⟩⟩
    refine q _ dx nd ne (fun b o hb z => ?_) upd_same ?_
    · rw [upd_ne hb, upd_ne (ne_of_none z nd)]
      exact z
    · rw [upd_ne ne, upd_same]
/-- what the written part says of NoText -/
structure TextC (K : PySem.W.Frag) (mg : Str → Option Value) (cT fT : Addr) (fdT : FuncData) : Prop where
  o : OexC K cT
  i : PySem.W.findIn K (.ref cT) "__init__" = some (some (.ref fT))
  t : PySem.W.typeIn K (.ref fT) = some (.type "function")
  F : FunD K "__init__" "NoText.__init__" (defArgs iText) (defBody iText) (defScope iText) [.int 0] [] fT fdT
  n : PySem.W.findIn K (.ref cT) "at" = some none
  g : mg "NoText" = some (.ref cT)
theorem no_in {H : Hp} {x : V} {cT : Addr} {Q : XK} (q : ∀ H' d, Same H H' → H' d = some (.xd [("at", x)]) → Q (.ref cT) (some d) H') :
    [x].length ≤ 1000 ∧ ∀ a, H a = none → spN cT (.ref a :: ([x] ++ [])) (upd H a (exo a cT none))
      (fun v H2 => v = .non ∧ ∃ (d : Addr) (fs : List (Str × V)), H2 a = some (exo a cT (some d)) ∧ H2 d = some (exd d fs) ∧ H d = none ∧ Q (.ref cT) (some d) (upd (del H2 a) d (.xd fs))) (fun _ _ _ => False) := by
  refine ⟨by show 1 ≤ 1000; decide, fun a ha => ⟨a, x, rfl, upd_same, fun H' dx hdx ne keep ea ed => ⟨rfl, dx, _, ea, ed, ?_, ?_⟩⟩⟩
  · rw [upd_ne ne] at hdx
    exact hdx
  · refine q _ dx (fun b o z => ?_) upd_same
    have hba : b ≠ a := fun e => by rw [e, ha] at z; cases z
    have hbd : b ≠ dx := fun e => by rw [upd_ne ne, ← e, z] at hdx; cases hdx
    rw [upd_ne hbd, del_ne hba]
    exact keep b o hba (by rw [upd_ne hba]; exact z)
theorem part_in (s : Nat) : ∀ (l : List (List Nat)) {p : List Nat}, p ∈ l → p.length ≤ (TL.joinL [s] l).length ∧ ∀ c ∈ p, c ∈ TL.joinL [s] l
  | [], p, h => nomatch h
  | [x], p, h => by
    rw [List.mem_singleton.mp h]
    exact ⟨Nat.le_refl _, fun c hc => hc⟩
  | x :: y :: r, p, h => by
    rw [joinL_cons (List.cons_ne_nil _ _)]
    rcases List.mem_cons.mp h with rfl | h
    · refine ⟨?_, fun c hc => List.mem_append.mpr (.inl hc)⟩
      rw [List.length_append]
      omega
    · obtain ⟨a, b⟩ := part_in s (y :: r) h
      refine ⟨?_, fun c hc => List.mem_append.mpr (.inr (List.mem_append.mpr (.inr (b c hc))))⟩
      rw [List.length_append, List.length_append]
      omega
theorem spl_in {s : Nat} {l p : List Nat} (h : p ∈ TL.spl [s] 0 [] l) : p.length ≤ l.length ∧ ∀ c ∈ p, c ∈ l := by
  have e := (spl_back s l [] (by simp)).1
  have k := part_in s _ h
  rw [e] at k
  exact k
theorem spl_count (s : Nat) : ∀ (l acc : List Nat), (TL.spl [s] 0 acc l).length ≤ l.length + 1
  | [], acc => by rw [TL.spl_nil]; exact Nat.le_refl _
  | c :: r, acc => by
    by_cases e : TL.pre [s] (c :: r) = true
    · rw [TL.spl_hit e]
      have := spl_count s r []
      show (acc :: TL.spl [s] 0 [] r).length ≤ _
      simp only [List.length_cons] at *
      omega
    · rw [TL.spl_miss (Bool.eq_false_iff.mpr e)]
      have := spl_count s r (acc ++ [c])
      simp only [List.length_cons] at *
      omega
def rSplS : V → List V → Hp → VK → Prop := fun x xs H Q => ∃ a b, x = .str a ∧ xs = [.str b] ∧ (b.length == 0) = false ∧ a.length + 2 ≤ sizeLine ∧ rNewStrs (Txt.split a b) H Q
theorem mt_splS {X : Cx} : MtR X "str.split" rSplS := mt_split
theorem rv_spl {t : List Nat} {z : Str} {s : Nat} (hz : z = S [s]) (hs : s < 256) {H : Hp} {Q : VK} (hl : t.length ≤ 4000) (q : ∀ p, H p = none → Q (.ref p) (upd H p (.lst ((TL.spl [s] 0 [] t).map fun u => V.str (S u))))) : rSplS (.str (S t)) [.str z] H Q := by
  subst hz
  refine ⟨S t, S [s], rfl, rfl, rfl, by rw [S_len, sizeLine_eq]; omega, fun p hp => ?_⟩
  rw [split_S (List.cons_ne_nil _ _) (by simp [hs]), List.map_map]
  exact q p hp
theorem flat_optV (l : List (Option Int)) : (l.map optV).all flatV = true := by
  rw [List.all_eq_true]
  intro v hv
  obtain ⟨o, _, rfl⟩ := List.mem_map.mp hv
  cases o <;> rfl
theorem none_in : ∀ l : List (Option Int), inV .non (l.map optV) = l.any (·.isNone)
  | [] => rfl
  | o :: l => by
    have ih := none_in l
    unfold inV at *
    rw [List.map_cons, List.any_cons, List.any_cons, ih]
    cases o <;> rfl
theorem four_none {l : List (Option Int)} (h : l.length ≠ 4 ∨ l.any (·.isNone) = true) : four l = none := by
  cases hf : four l with
  | none => rfl
  | some x =>
    rw [four_some hf] at h
    rcases h with h | h
    · exact absurd rfl h
    · cases h
theorem four_got {l : List (Option Int)} (h1 : l.length = 4) (h2 : l.any (·.isNone) = false) : ∃ x, four l = some x := by
  match l, h1, h2 with
  | [some a, some b, some c, some d], _, _ => exact ⟨_, rfl⟩
  | [none, _, _, _], _, h2 => cases h2
  | [some _, none, _, _], _, h2 => cases h2
  | [some _, some _, none, _], _, h2 => cases h2
  | [some _, some _, some _, none], _, h2 => cases h2
def numsV (x : Ent4) : List V := [.int x.1, .int x.2.1, .int x.2.2.1, .int x.2.2.2]
theorem sum_at {x a : Ent4} {i : Nat} {u v : V} (h1 : (numsV x)[i]? = some u) (h2 : (entV a)[i]? = some v) : ∃ n m : Int, u = .int n ∧ v = .int m ∧ (entV (addE x a))[i]? = some (.int (n + m)) := by
  match i with
  | 0 => cases h1; cases h2; exact ⟨_, _, rfl, rfl, rfl⟩
  | 1 => cases h1; cases h2; exact ⟨_, _, rfl, rfl, rfl⟩
  | 2 => cases h1; cases h2; exact ⟨_, _, rfl, rfl, rfl⟩
  | 3 => cases h1; cases h2; exact ⟨_, _, rfl, rfl, rfl⟩
  | n + 4 => cases h1
theorem rowR_of {t : List Nat} {a x : Ent4} (h : four (numsOf t) = some x) : rowR t a = if okE (addE x a) a = true then some (addE x a) else none := by
  unfold rowR
  rw [h]
theorem rowR_no {t : List Nat} {a : Ent4} (h : four (numsOf t) = none) : rowR t a = none := by
  unfold rowR
  rw [h]
def spER (K : PySem.W.Frag) (cT : Addr) : Sp := fun vs H Q E => ∃ (t : List Nat) (y : V) (a : Ent4), vs = [.str (S t), y] ∧ t.length ≤ 4000 ∧ EntR K H y a ∧ (∀ e, rowR t a = some e → ∀ H' v, Same H H' → EntR K H' v e → Q v H') ∧
  (rowR t a = none → ∀ H' d, Same H H' → H' d = some (.xd [("at", .int 0)]) → E (.ref cT) (some d) H')
theorem scER : FnScope ["text", "ahead", "numbers", "word", "begin", "end", "first", "last", "number", "one"] ["text", "ahead"] (defScope sER) := ⟨rfl, rfl, rfl, by decide +kernel, rfl, by decide +kernel, by decide +kernel⟩
theorem ok_ER {f fN : Addr} {fd dN : FuncData} (F : Fun K "entry_read" "entry_read" sER f fd) (T : Mp mg) (C : TextC K mg cT fT fdT) (FN : Fun K "number_read" "number_read" sNR fN dN) (gN : mg "number_read" = some (.ref fN)) (bN : L2.Binds K dN ["word"] []) (GN : FnOk P w K mg base CX0 2 fN dN ["word"] spNR) : FnOk P w K mg base (L2.CX P w) 3 f fd ["text", "ahead"] (spER K cT) := by
  have GT : FnOk P w K mg base CX0 1 fT fdT ["self", "at"] (spN cT) := ok_iText2 C.F C.o C.n
  have bT1 := bText1 C.F
  refine F.okX scER (fun vs H Q E h => ?_) (fun cdv A outer s H vs Q E hr h => ?_)
  · obtain ⟨t, y, a, rfl, _⟩ := h
    rfl
  · have hr2 := hr
    have hr1 := hr.mono (by decide : 1 ≤ 2)
    refine ⟨_, (pss_cons (ps_setLc (i := 2) (own := [("word", 3)]) (g := (gName 3)) (tt := tYes) (te := (tCall spNR [] E0 (tCons (tVar 3) tNil))) (by rfl) scER.nd rfl rfl (sw_true rfl rfl rfl (by decide +kernel)) (pi_list (pe_bm PySem.F.plainAttrs_str PySem.F.slot_str_split PySem.F.type_str_split mt_splS (pv 0) (pa_cons pe_str pa_nil))) (blkOk_by (own := [("word", 3)]) (N := ["text", "ahead", "numbers", "word", "begin", "end", "first", "last", "number", "one"]) (sc := defScope sER) (by decide +kernel)) (fun _ _ _ _ _ => (pg_name (i := 3) scER.nd rfl (.inl rfl))) (fun _ _ _ _ _ => pts_nil) (fun _ _ _ _ _ => (pe_call GN hr2 (by rfl) gN FN.kp bN .nil pass0 (pa_cons (pv 3) pa_nil))))
        (pss_cons (ps_if (PW.pt (pw_or (pt_cmpR op_ne (pe_callB call_len_seq (by rfl) T.len_ (by decide +kernel) (pa_cons (pv 2) pa_nil)) pe_int (nomark _)) (pw_or1 (pt_cmpR op_in_seq pe_non (pv 2) (by rfl))))) (pss_one (ps_raise rfl (takes_of rfl rfl rfl rfl) (pmk_oex C.o C.i C.t GT hr2 bT1 .nil pass0 (by rfl) C.g (pa_cons pe_int pa_nil)))) pss_nil)
        (pss_cons (ps_asg (pe_lc (own := [("number", 8), ("one", 9)]) (g := (gTup K 2 (gCons (gName 8) (gCons (gName 9) gNil)))) (tt := tYes) (te := (tOp (rI0 fun i j => .int (i + j)) (tVar 8) (tVar 9))) (by rfl) scER.nd (pi_zipM (by rfl) T.zip_ (pa_cons (pv 2) (pa_cons (pv 1) pa_nil))) (blkOk_by (own := [("number", 8), ("one", 9)]) (N := ["text", "ahead", "numbers", "word", "begin", "end", "first", "last", "number", "one"]) (sc := defScope sER) (by decide +kernel)) (fun _ _ _ _ _ => (pg_tup (by rfl) (pgs_cons (pg_name (i := 8) scER.nd rfl (.inl rfl)) (pgs_cons (pg_name (i := 9) scER.nd rfl (.inl rfl)) pgs_nil)))) (fun _ _ _ _ _ => pts_nil) (fun _ _ _ _ _ => (pe_op op_add (pv 8) (pv 9)))) (pg_unl (n := 4) (by rfl) (pgs_cons (pg_name (i := 4) scER.nd rfl (.inl rfl)) (pgs_cons (pg_name (i := 5) scER.nd rfl (.inl rfl)) (pgs_cons (pg_name (i := 6) scER.nd rfl (.inl rfl)) (pgs_cons (pg_name (i := 7) scER.nd rfl (.inl rfl)) pgs_nil))))))
        (pss_cons (ps_if (PW.pt (pw_or (pt_cmpR op_lt (pv 4) (pe_ix ix_tup (pv 1) pe_int (fun _ _ => rfl)) (nomark _)) (pw_or (pt_cmpR op_le (pv 5) (pv 4) (nomark _)) (pw_or (pt_cmpR op_lt (pv 6) pe_int (nomark _)) (pw_or1 (pt_cmpR op_lt (pv 7) (pv 6) (nomark _))))))) (pss_one (ps_raise rfl (takes_of rfl rfl rfl rfl) (pmk_oex C.o C.i C.t GT hr2 bT1 .nil pass0 (by rfl) C.g (pa_cons pe_int pa_nil)))) pss_nil)
        (pss_one (ps_ret (pe_tup (pa_cons (pv 4) (pa_cons (pv 5) (pa_cons (pv 6) (pa_cons (pv 7) pa_nil))))))))))), ?_⟩
    obtain ⟨t, y, a, rfl, hl, hy, qs, qe⟩ := h
    have lc := spl_count 32 t []
    have bad : rowR t a = none → ∀ H1, Same H H1 → [V.int 0].length ≤ 1000 ∧ ∀ x, H1 x = none → spN cT (.ref x :: ([V.int 0] ++ [])) (upd H1 x (exo x cT none))
        (fun v H2 => v = .non ∧ ∃ (d : Addr) (fs : List (Str × V)), H2 x = some (exo x cT (some d)) ∧ H2 d = some (exd d fs) ∧ H1 d = none ∧ E (.ref cT) (some d) (upd (del H2 x) d (.xd fs))) (fun _ _ _ => False) :=
      fun z H1 s1 => no_in fun H' d s hd => qe z H' d (s1.trans s) hd
    walk_at "rd"
    refine ⟨_, rfl, rfl, ?_⟩
    walk_at "rd"
    refine rv_spl (s := 32) rfl (by decide) hl fun p hp => ?_
    have sp := same_upd (o := .lst ((TL.spl [32] 0 [] t).map fun u => V.str (S u))) hp
    generalize eP : upd H p (HO.lst ((TL.spl [32] 0 [] t).map fun u => V.str (S u))) = H1 at *
    have hP : H1 p = some (.lst ((TL.spl [32] 0 [] t).map fun u => V.str (S u))) := by rw [← eP]; exact upd_same
    clear eP
    refine ⟨p, rfl, ⟨_, SqL.of hP⟩, fun D hD => ?_⟩
    refine lc_it (walk_list (xs := (TL.spl [32] 0 [] t).map fun u => V.str (S u))) (fun i H' => Same H1 H' ∧ H' D = some (.lst ((((TL.spl [32] 0 [] t).take i).map numR).map optV))) ⟨same_upd hD, upd_same⟩ (fun i H' _ ⟨s, _⟩ => SqL.of (s _ _ hP)) ?_ ?_
    · rintro i x H2 H3 hi ⟨sm, hd⟩ ⟨rfl, hx⟩
      rw [List.getElem?_map] at hx
      cases hw : (TL.spl [32] 0 [] t)[i]? with
      | none => rw [hw] at hx; cases hx
      | some u =>
        rw [hw] at hx
        cases hx
        have hu := spl_in (List.mem_of_getElem? hw)
        refine rg_name ⟨rfl, ?_⟩
        refine rv_yes ?_
        refine iteT ?_
        walk_at "rd"
        refine ⟨u, rfl, by omega, fun H4 s4 => ?_⟩
        refine ⟨_, s4 _ _ hd, ?_, same_put hD (sm.trans s4), ?_⟩
        · rw [List.length_map, List.length_map, List.length_take, sizeLine_eq]
          omega
        · rw [upd_same, List.take_succ, hw]
          simp
    · rintro H2 ⟨s2', hd⟩
      rw [List.length_map, List.take_length] at hd
      have s2 := sp.trans s2'
      replace hd : H2 D = some (.lst ((numsOf t).map optV)) := hd
      clear s2' hP sp hD
      walk_at "rd"
      refine ⟨D, _, rfl, .inl (SqL.of hd), ?_⟩
      walk_at "rd"
      refine iteB (fun h1 => ?_) (fun h1 => ?_)
      · have h4 : (numsOf t).length ≠ 4 := fun z => by
          rw [List.length_map, z] at h1
          cases h1
        refine iteTe rfl ?_
        exact bad (rowR_no (four_none (.inl h4))) H2 s2
      · have h4 : (numsOf t).length = 4 := by
          have e : decide (V.int ((List.map optV (numsOf t)).length : Nat) = V.int 4) = true := by simpa using h1
          have e2 := V.int.inj (of_decide_eq_true e)
          rw [List.length_map] at e2
          omega
        walk_at "rd"
        refine ⟨D, _, rfl, .inl (SqL.of hd), rfl, flat_optV _, ?_⟩
        rw [show (if false = true then !inV .non ((numsOf t).map optV) else inV .non ((numsOf t).map optV)) = (numsOf t).any (·.isNone) from none_in _]
        refine ⟨_, rfl, iteB (fun h2 => ?_) (fun h2 => ?_)⟩
        · exact bad (rowR_no (four_none (.inr h2))) H2 s2
        · obtain ⟨x, hx⟩ := four_got h4 h2
          have hv : (numsOf t).map optV = numsV x := by rw [four_some hx]; rfl
          have hrow := rowR_of (a := a) hx
          rw [hv] at hd
          obtain ⟨u, eu, hu⟩ := hy
          subst eu
          walk_at "rd"
          refine ⟨_, rfl, _, rfl, D, u, _, _, rfl, SqL.of hd, SqT.keep s2 hu, fun D2 hD2 => ?_⟩
          refine lc_it (walk_zipM (xs := numsV x) (ys := entV a) (n := 4) rfl) (fun i H' => Same H2 H' ∧ H' D2 = some (.lst ((entV (addE x a)).take i))) ⟨same_upd hD2, upd_same⟩ (fun i H' _ ⟨s, _⟩ => ⟨SqL.of (s _ _ hd), SqT.keep (s2.trans s) hu⟩) ?_ ?_
          · rintro i z H3 H4 hi ⟨sm, hd2⟩ ⟨U, y1, y2, rfl, hU, rfl, e1, e2⟩
            obtain ⟨n, m, rfl, rfl, e3⟩ := sum_at e1 e2
            have sU : Same H3 (upd H3 U (.tup [.int n, .int m])) := same_upd hU
            refine ⟨U, _, rfl, .inl (.inl upd_same), rfl, ?_⟩
            walk_at "rd"
            refine ⟨rfl, ?_⟩
            walk_at "rd"
            refine ⟨_, sU _ _ hd2, ?_, same_put hD2 (sm.trans sU), ?_⟩
            · rw [List.length_take, sizeLine_eq]
              omega
            · rw [upd_same, List.take_succ, e3]
              rfl
          · rintro H3 ⟨s3', hd2⟩
            have s3 := s2.trans s3'
            obtain ⟨⟨e1, e2, e3, e4⟩, hE⟩ : ∃ z, z = addE x a := ⟨_, rfl⟩
            rw [← hE] at hd2 hrow
            refine ⟨D2, _, rfl, SqL.of hd2, rfl, ?_⟩
            have kill : okE (e1, e2, e3, e4) a = false → rowR t a = none := fun z => by rw [hrow, z]; rfl
            show gCons (gName 4) (gCons (gName 5) (gCons (gName 6) (gCons (gName 7) gNil))) [.int e1, .int e2, .int e3, .int e4] _ _ _
            walk_at "rd"
            refine ⟨u, entV a, 1, .int a.2.1, rfl, rfl, SqT.keep s3 hu, rfl, ?_⟩
            walk_at "rd"
            refine iteB (fun h5 => ?_) (fun h5 => ?_)
            · refine iteTe rfl ?_
              exact bad (kill (by unfold okE; dsimp only; rw [h5]; simp)) H3 s3
            · walk_at "rd"
              refine iteB (fun h6 => ?_) (fun h6 => ?_)
              · refine iteTe rfl ?_
                exact bad (kill (by unfold okE; dsimp only; rw [h6]; simp)) H3 s3
              · walk_at "rd"
                refine iteB (fun h7 => ?_) (fun h7 => ?_)
                · refine iteTe rfl ?_
                  exact bad (kill (by unfold okE; dsimp only; rw [h7]; simp)) H3 s3
                · walk_at "rd"
                  refine iteB (fun h8 => ?_) (fun h8 => ?_)
                  · exact bad (kill (by unfold okE; dsimp only; rw [h8]; simp)) H3 s3
                  · walk_at "rd"
                    refine ⟨by show 4 ≤ sizeLine; decide, fun p2 hp2 => ?_⟩
                    have good : okE (e1, e2, e3, e4) a = true := by unfold okE; dsimp only; rw [h5, h6, h7, h8]; rfl
                    exact qs (e1, e2, e3, e4) (by rw [hrow, if_pos good]) _ _ (s3.trans (same_upd hp2)) ⟨p2, rfl, .inl (.inl upd_same)⟩
end
end My

namespace My
open PySem PySem.Spec PyProof.Rows L2 XR SX RZ
section
variable {P : Program} {w : World} {K : PySem.W.Frag} {mg : Str → Option Value} {base : Heap} {cT fT : Addr} {fdT : FuncData}
local macro_rules | `(tactic| walk_at "rd1") => `(tactic| first
  | with_reducible refine rs_seq ?_
  | with_reducible refine rs_asg ?_
  | with_reducible refine rs_ret ?_
  | with_reducible refine rs_if ?_
  | with_reducible refine rs_next ?_
  | with_reducible refine rg_name ?_
  | ((with_reducible refine rv_var (v := ?vv) ?hv ?_); (case hv => exact rfl))
  | with_reducible refine rv_c ?_
  | with_reducible refine rv_op ?_
  | with_reducible refine rv_cons ?_
  | with_reducible refine rv_nil ?_
  | with_reducible refine rv_rI0 ?_
  | ((with_reducible refine rv_rI ?hc ?_); (case hc => walk_at "side"))
  | ((with_reducible refine rv_eq ?hc ?_); (case hc => exact rfl))
  | ((with_reducible refine rv_ne ?hc ?_); (case hc => exact rfl))
  | with_reducible refine rv_test ?_
  | with_reducible refine rv_bl ?_
  | with_reducible refine rv_cb ?_
  | with_reducible refine rv_call ?_
  | with_reducible refine rv_tup ?_
  | with_reducible refine rv_lst ?_
  | with_reducible refine rv_tB ?_
  | with_reducible refine rv_or ?_
  | with_reducible refine rv_and ?_
  | with_reducible refine rv_not ?_
  | with_reducible refine rv_andV ?_
  | with_reducible refine rv_orV ?_
  | with_reducible refine rv_notV ?_
  | with_reducible refine rv_ifE ?_
  | with_reducible refine rs_drop ?_
  | with_reducible refine iteT ?_
  | with_reducible refine iteF ?_
  | with_reducible refine ro_nx ?_
  | with_reducible refine ro_rt ?_
  | with_reducible refine ro_ct ?_
  | with_reducible refine ro_bk ?_)
local macro_rules | `(tactic| walk_at "rd") => `(tactic| repeat walk_at "rd1")
local macro_rules | `(tactic| walk_at "side") => `(tactic| first
  | assumption
  | exact (show CPow _ _ from ⟨by decide, by decide, by decide⟩)
  | exact (show CMul _ _ from .inl ⟨by decide, by decide⟩)
  | exact (show CMul _ _ from .inr ⟨by decide, by decide⟩)
  | (show (0 : Int) < _; decide)
  | (show CMul _ _; first | exact .inl ⟨by omega, by omega⟩ | exact .inr ⟨by omega, by omega⟩)
  | omega)
local macro_rules | `(tactic| walk_at "rd1") => `(tactic| first
  | with_reducible refine rs_for ?_
  | with_reducible refine ri_zip ?_
  | with_reducible refine ri_list ?_
  | with_reducible refine ri_rng1 ?_
  | with_reducible refine rv_lc ?_
  | with_reducible refine rv_xfl ?_
  | with_reducible refine rs_par3 ?_
  | with_reducible refine rv_yes ?_
  | with_reducible refine rg_tup ?_
  | with_reducible refine rg_cons ?_
  | with_reducible refine rg_nil ?_)
local macro_rules | `(tactic| walk_at "rd1") => `(tactic| first
  | with_reducible refine ri_str ?_
  | with_reducible refine rv_sl ?_
  | with_reducible refine rv_part ?_
  | with_reducible refine rv_nopart ?_
  | with_reducible refine rv_callS ?_
  | with_reducible refine rv_chain ?_
  | with_reducible refine rv_leS ?_
  | with_reducible refine rv_inS ?_)
theorem SqT.put {H : Hp} {D u : Addr} {xs l : List V} {o : HO} (hD : H D = some (.lst l)) (h : SqT K H u xs) : SqT K (upd H D o) u xs := by
  rcases h with (h | ⟨z, h⟩) | h
  · exact .inl (.inl ((upd_ne (fun e => by rw [e, hD] at h; cases h)).trans h))
  · exact .inl (.inr ⟨z, (upd_ne (fun e => by rw [e, hD] at h; cases h)).trans h⟩)
  · exact .inr h
theorem EntR.put {H : Hp} {D : Addr} {v : V} {e : Ent4} {l : List V} {o : HO} (hD : H D = some (.lst l)) : EntR K H v e → EntR K (upd H D o) v e := fun ⟨p, a, b⟩ => ⟨p, a, SqT.put hD b⟩
/-- values and the entries that they are -/
abbrev Ents (K : PySem.W.Frag) (H : Hp) (vs : List V) (es : List Ent4) : Prop := Paired (EntR K H) vs es
theorem ents_snoc {H : Hp} {vs : List V} {es : List Ent4} {v : V} {e : Ent4} (h : Ents K H vs es) (k : EntR K H v e) : Ents K H (vs ++ [v]) (es ++ [e]) := by
  induction h with
  | nil => exact .cons k .nil
  | cons a _ ih => exact .cons a ih
theorem ents_read {H : Hp} {p : Addr} {vs : List V} {es : List Ent4} (hp : SqL K H p vs) (h : Ents K H vs es) : EntsR K H p es := by
  refine ⟨vs, hp, Paired.length h, ?_⟩
  clear hp
  induction h with
  | nil => intro i v e h; cases i <;> cases h
  | cons a _ ih =>
    intro i v e h1 h2
    cases i with
    | zero => cases h1; cases h2; exact a
    | succ i => exact ih i v e h1 h2
/-- a text, or what is none -/
def spRM (K : PySem.W.Frag) (cT : Addr) : Sp := fun vs H Q E => (∃ t : List Nat, vs = [.str (S t)] ∧ t.length ≤ 4000 ∧ (∀ es, readM t = some es → ∀ H' p us, Same H H' → H p = none → H' p = some (.lst us) → Ents K H' us es → Q (.ref p) H') ∧
  (readM t = none → ∀ H' d, Same H H' → H' d = some (.xd [("at", .int 0)]) → E (.ref cT) (some d) H')) ∨
  (∃ (v : V) (T : Value), vs = [v] ∧ TyX K H v T ∧ PySem.W.kitOne K T (.type "str") = some false ∧ ∀ H' d, Same H H' → H' d = some (.xd [("at", .int 0)]) → E (.ref cT) (some d) H')
theorem kit_same {K : PySem.W.Frag} {t : Value} : PySem.W.kitOne K t t = some true := by
  unfold PySem.W.kitOne
  rw [if_pos (beq_self_eq_true t)]
theorem readR_cons (t : List Nat) (r : List (List Nat)) (a : Ent4) : readR (t :: r) a = match rowR t a with
    | some e => (readR r e).map (e :: ·)
    | none => none := by
  rw [readR] <;> cases rowR t a <;> rfl
theorem map_map_app (o : Option (List Ent4)) (es : List Ent4) (e : Ent4) : (o.map (e :: ·)).map (es ++ ·) = o.map ((es ++ [e]) ++ ·) := by
  cases o with
  | none => rfl
  | some l => simp
theorem scRM : FnScope ["text", "told", "ahead", "row"] ["text"] (defScope sRM) := ⟨rfl, rfl, rfl, by decide +kernel, rfl, by decide +kernel, by decide +kernel⟩
theorem ok_RM {f fE : Addr} {fd dE : FuncData} (F : Fun K "read_map" "read_map" sRM f fd) (T : Mp mg) (C : TextC K mg cT fT fdT) (FE : Fun K "entry_read" "entry_read" sER fE dE) (gE : mg "entry_read" = some (.ref fE)) (bE : L2.Binds K dE ["text", "ahead"] []) (GE : FnOk P w K mg base (L2.CX P w) 3 fE dE ["text", "ahead"] (spER K cT)) : FnOk P w K mg base (L2.CX P w) 4 f fd ["text"] (spRM K cT) := by
  have GT : FnOk P w K mg base CX0 1 fT fdT ["self", "at"] (spN cT) := ok_iText2 C.F C.o C.n
  have bT1 := bText1 C.F
  refine F.okX scRM (fun vs H Q E h => ?_) (fun cdv A outer s H vs Q E hr h => ?_)
  · rcases h with ⟨t, rfl, _⟩ | ⟨v, T, rfl, _⟩
    · rfl
    · rfl
  · have tk : Takes (cxOf (L2.CX P w) P w K mg base ["text", "told", "ahead", "row"] "read_map" (defScope sRM) f cdv A outer s H E) (fun cls d _ H' => E cls d H') := takes_of rfl rfl rfl rfl
    refine ⟨_, (pss_cons (ps_if (pt_not (pt_val (pe_callB call_isi (by rfl) T.isinstance (by decide +kernel) (pa_cons (pv 0) (pa_cons (pe_bltn (by rfl) T.str_ (by decide +kernel) (v := .ty "str") rfl) pa_nil))))) (pss_one (ps_raise rfl (takes_of rfl rfl rfl rfl) (pmk_oex C.o C.i C.t GT (hr.mono (by decide : 2 ≤ 3)) bT1 .nil pass0 (by rfl) C.g (pa_cons pe_int pa_nil)))) pss_nil)
        (pss_cons (ps_if (pt_cmpR op_eq (pv 0) pe_str (nomark _)) (pss_one (ps_ret (pe_lst pa_nil))) pss_nil)
        (pss_cons (ps_set (i := 1) scRM.nd rfl (.inl rfl) (pe_lst pa_nil))
        (pss_cons (ps_set (i := 2) scRM.nd rfl (.inl rfl) (pe_tup (pa_cons pe_int (pa_cons pe_int (pa_cons pe_int (pa_cons pe_int pa_nil))))))
        (pss_cons (ps_for (passes_of rfl) rfl (pi_list (pe_bm PySem.F.plainAttrs_str PySem.F.slot_str_split PySem.F.type_str_split mt_splS (pv 0) (pa_cons pe_str pa_nil))) (pg_name (i := 3) scRM.nd rfl (.inl rfl)) (pss_cons (ps_set (i := 2) scRM.nd rfl (.inl rfl) (pe_callS GE hr (by rfl) gE FE.kp bE (fun σ => passAt tk σ) (pa_cons (pv 3) (pa_cons (pv 2) pa_nil))))
        (pss_one (ps_expr (pe_bm PySem.F.plainAttrs_list PySem.F.slot_list_append PySem.F.type_list_append mt_append (pv 1) (pa_cons (pv 2) pa_nil))))))
        (pss_one (ps_ret (pv 1)))))))), ?_⟩
    rcases h with ⟨t, rfl, hl, qs, qe⟩ | ⟨v, T, rfl, ht, hk, qe⟩
    · walk_at "rd"
      refine ⟨_, _, _, _, true, rfl, .ty _, .base (.str _), kit_same, ?_⟩
      refine ⟨_, rfl, iteFe rfl ?_⟩
      walk_at "rd"
      refine iteB (fun h1 => ?_) (fun h1 => ?_)
      · have e0 : t = [] := S_inj (b := []) (V.str.inj (of_decide_eq_true h1))
        subst e0
        walk_at "rd"
        refine ⟨by decide, fun p hp => ?_⟩
        exact qs [] rfl _ _ [] (same_upd hp) hp upd_same .nil
      · have ne : t ≠ [] := fun z => of_decide_eq_false h1 (by rw [z]; rfl)
        have hread : readM t = readR (TL.spl [59] 0 [] t) ent0 := by unfold readM; rw [if_neg ne]
        have lc := spl_count 59 t []
        walk_at "rd"
        refine ⟨by decide, fun D hD => ?_⟩
        have s1 := same_upd (o := .lst []) hD
        walk_at "rd"
        refine ⟨by show 4 ≤ sizeLine; decide, fun A0 hA => ?_⟩
        have s2 := s1.trans (same_upd (o := .tup [.int 0, .int 0, .int 0, .int 0]) hA)
        have hD2 : upd (upd H D (.lst [])) A0 (.tup [.int 0, .int 0, .int 0, .int 0]) D = some (.lst []) := (upd_ne (ne_of_none upd_same hA)).trans upd_same
        have hA2 : EntR K (upd (upd H D (.lst [])) A0 (.tup [.int 0, .int 0, .int 0, .int 0])) (.ref A0) ent0 := ⟨A0, rfl, .inl (.inl upd_same)⟩
        generalize upd (upd H D (HO.lst [])) A0 (HO.tup [.int 0, .int 0, .int 0, .int 0]) = H1 at *
        clear hA
        walk_at "rd"
        refine ⟨_, rfl, rfl, ?_⟩
        walk_at "rd"
        refine rv_spl (s := 59) rfl (by decide) hl fun p hp => ?_
        have s3 := same_upd (o := .lst ((TL.spl [59] 0 [] t).map fun u => V.str (S u))) hp
        have hD3 := s3 _ _ hD2
        have hA3 := hA2.same s3
        have s4 := s2.trans s3
        have hP : upd H1 p (.lst ((TL.spl [59] 0 [] t).map fun u => V.str (S u))) p = some (.lst ((TL.spl [59] 0 [] t).map fun u => V.str (S u))) := upd_same
        have npD : p ≠ D := fun e => by rw [e, hD2] at hp; cases hp
        have hpH : H p = none := s2.free hp
        generalize upd H1 p (HO.lst ((TL.spl [59] 0 [] t).map fun u => V.str (S u))) = H2 at *
        refine ⟨p, rfl, ⟨_, SqL.of hP⟩, ?_⟩
        refine for_list (xs := (TL.spl [59] 0 [] t).map fun u => V.str (S u)) (fun i σ H' => Same H H' ∧ H' p = some (.lst ((TL.spl [59] 0 [] t).map fun u => V.str (S u))) ∧ ∃ (y : V) (cur : Ent4) (us : List V) (es : List Ent4) (o3 : Option V), σ = [some (.str (S t)), some (.ref D), some y, o3] ∧ EntR K H' y cur ∧ H' D = some (.lst us) ∧ Ents K H' us es ∧ es.length = i ∧ readM t = (readR ((TL.spl [59] 0 [] t).drop i) cur).map (es ++ ·)) ⟨s4, hP, _, ent0, [], [], none, rfl, hA3, hD3, .nil, rfl, ?_⟩ (fun i σ H' _ ⟨_, s, _⟩ => SqL.of s) ?_ ?_
        · rw [hread, List.drop_zero]
          cases readR (TL.spl [59] 0 [] t) ent0 <;> rfl
        · rintro i x σ H3 hx ⟨s5, hp3, y, cur, us, es, o3, rfl, hy, hd, hus, hlen, hr⟩
          rw [List.getElem?_map] at hx
          cases hw : (TL.spl [59] 0 [] t)[i]? with
          | none => rw [hw] at hx; cases hx
          | some u =>
            rw [hw] at hx
            cases hx
            have hu := spl_in (List.mem_of_getElem? hw)
            have hi : i < (TL.spl [59] 0 [] t).length := (List.getElem?_eq_some_iff.mp hw).1
            have hdr : (TL.spl [59] 0 [] t).drop i = u :: (TL.spl [59] 0 [] t).drop (i + 1) := by
              rw [List.drop_eq_getElem_cons hi]
              congr 1
              exact (List.getElem?_eq_some_iff.mp hw).2
            rw [hdr, readR_cons] at hr
            refine rg_name ?_
            walk_at "rd"
            refine ⟨u, y, cur, rfl, by omega, hy, fun e he H4 v s6 hv => ?_, fun he H4 d s6 hd4 => ?_⟩
            · rw [he] at hr
              dsimp only at hr
              rw [map_map_app] at hr
              walk_at "rd"
              refine rv_app rfl (s6 _ _ hd) ?_
              walk_at "rd"
              refine ⟨us, v, rfl, s6 _ _ hd, ?_, ?_⟩
              · rw [Paired.length hus, sizeLine_eq]
                omega
              · refine ⟨same_put hD (s5.trans s6), (upd_ne npD).trans (s6 _ _ hp3), v, e, us ++ [v], es ++ [e], _, rfl, hv.put (s6 _ _ hd), upd_same, ?_, by rw [List.length_append, hlen]; rfl, hr⟩
                exact ents_snoc (Paired.mapP hus fun _ _ h => (h.same s6).put (s6 _ _ hd)) (hv.put (s6 _ _ hd))
            · rw [he] at hr
              exact qe hr H4 d (s5.trans s6) hd4
        · rintro σ H3 ⟨s5, hp3, y, cur, us, es, o3, rfl, hy, hd, hus, hlen, hr⟩
          rw [List.length_map, List.drop_length] at hr
          walk_at "rd"
          refine qs es (by rw [hr]; show some (es ++ []) = some es; rw [List.append_nil]) H3 D us s5 hD hd hus
    · walk_at "rd"
      refine ⟨v, _, T, _, false, rfl, .ty _, ht, hk, ?_⟩
      refine ⟨_, rfl, iteTe rfl ?_⟩
      exact no_in fun H' d s hd => qe H' d s hd
end
end My

namespace My
open PySem PySem.Spec PyProof.Rows L2 XR SX RZ
abbrev sLR : Stmt := top 31
section
variable {P : Program} {w : World} {K : PySem.W.Frag} {mg : Str → Option Value} {base : Heap}
local macro_rules | `(tactic| walk_at "rd1") => `(tactic| first
  | with_reducible refine rs_seq ?_
  | with_reducible refine rs_asg ?_
  | with_reducible refine rs_ret ?_
  | with_reducible refine rs_if ?_
  | with_reducible refine rs_next ?_
  | with_reducible refine rg_name ?_
  | ((with_reducible refine rv_var (v := ?vv) ?hv ?_); (case hv => exact rfl))
  | with_reducible refine rv_c ?_
  | with_reducible refine rv_op ?_
  | with_reducible refine rv_cons ?_
  | with_reducible refine rv_nil ?_
  | with_reducible refine rv_rI0 ?_
  | ((with_reducible refine rv_rI ?hc ?_); (case hc => walk_at "side"))
  | ((with_reducible refine rv_eq ?hc ?_); (case hc => exact rfl))
  | ((with_reducible refine rv_ne ?hc ?_); (case hc => exact rfl))
  | with_reducible refine rv_test ?_
  | with_reducible refine rv_bl ?_
  | with_reducible refine rv_cb ?_
  | with_reducible refine rv_call ?_
  | with_reducible refine rv_tup ?_
  | with_reducible refine rv_lst ?_
  | with_reducible refine rv_tB ?_
  | with_reducible refine rv_or ?_
  | with_reducible refine rv_and ?_
  | with_reducible refine rv_not ?_
  | with_reducible refine rv_andV ?_
  | with_reducible refine rv_orV ?_
  | with_reducible refine rv_notV ?_
  | with_reducible refine rv_ifE ?_
  | with_reducible refine rs_drop ?_
  | with_reducible refine iteT ?_
  | with_reducible refine iteF ?_
  | with_reducible refine ro_nx ?_
  | with_reducible refine ro_rt ?_
  | with_reducible refine ro_ct ?_
  | with_reducible refine ro_bk ?_)
local macro_rules | `(tactic| walk_at "rd") => `(tactic| repeat walk_at "rd1")
local macro_rules | `(tactic| walk_at "side") => `(tactic| first
  | assumption
  | exact (show CPow _ _ from ⟨by decide, by decide, by decide⟩)
  | exact (show CMul _ _ from .inl ⟨by decide, by decide⟩)
  | exact (show CMul _ _ from .inr ⟨by decide, by decide⟩)
  | (show (0 : Int) < _; decide)
  | (show CMul _ _; first | exact .inl ⟨by omega, by omega⟩ | exact .inr ⟨by omega, by omega⟩)
  | omega)
local macro_rules | `(tactic| walk_at "rd1") => `(tactic| first
  | with_reducible refine rs_for ?_
  | with_reducible refine ri_zip ?_
  | with_reducible refine ri_list ?_
  | with_reducible refine ri_rng1 ?_
  | with_reducible refine rv_lc ?_
  | with_reducible refine rv_xfl ?_
  | with_reducible refine rs_par3 ?_
  | with_reducible refine rv_yes ?_
  | with_reducible refine rg_tup ?_
  | with_reducible refine rg_cons ?_
  | with_reducible refine rg_nil ?_)
local macro_rules | `(tactic| walk_at "rd1") => `(tactic| first
  | with_reducible refine ri_str ?_
  | with_reducible refine rv_sl ?_
  | with_reducible refine rv_part ?_
  | with_reducible refine rv_nopart ?_
  | with_reducible refine rv_callS ?_
  | with_reducible refine rv_chain ?_
  | with_reducible refine rv_leS ?_
  | with_reducible refine rv_inS ?_)
theorem lt_un {k : Nat} {A : Around} (h : Room k A) : A.units + 100 < cLine := by
  have := h.un
  omega
/-- what the law looks at, and what the program does -/
theorem okE_min {e a : Ent4} (ha : 0 ≤ a.2.1) : okE e a = !(decide ([e.2.1, e.2.2.1, e.2.2.2].foldl min e.1 < 0) || decide (e.1 ≥ e.2.1) || decide (e.2.2.1 > e.2.2.2) || decide (e.1 < a.2.1)) := by
  obtain ⟨e1, e2, e3, e4⟩ := e
  obtain ⟨a1, a2, a3, a4⟩ := a
  dsimp only at *
  unfold okE
  have ef : [e2, e3, e4].foldl min e1 = min (min (min e1 e2) e3) e4 := rfl
  rw [ef, Bool.eq_iff_iff]
  simp only [Bool.not_eq_true', Bool.or_eq_false_iff, decide_eq_false_iff_not]
  omega
theorem okE_next {e a : Ent4} (ha : 0 ≤ a.2.1) (h : okE e a = true) : 0 ≤ e.2.1 := by
  unfold okE at h
  simp only [Bool.not_eq_true', Bool.or_eq_false_iff, decide_eq_false_iff_not] at h
  omega
def spLR (K : PySem.W.Frag) : Sp := fun vs H Q _ => ∃ t : List Nat, vs = [.str (S t)] ∧ t.length ≤ 4000 ∧ (∀ c ∈ t, c < 128) ∧ (∀ es, readM t = some es → ∀ H' p us, Same H H' → H p = none → H' p = some (.lst us) → Ents K H' us es → Q (.ref p) H') ∧
  (readM t = none → ∀ H', Same H H' → Q .non H')
def rTupS (K : PySem.W.Frag) : List V → Hp → VK → Prop := fun xs H Q => ∃ p ys, xs = [.ref p] ∧ ((SqL K H p ys ∧ ∀ l, H l = none → Q (.ref l) (upd H l (.tup ys))) ∨ (SqT K H p ys ∧ Q (.ref p) H))
theorem cr_tupS {X : Cx} : CallR X (.type "tuple") (rTupS X.K) := call_tuple_of
theorem scLR : FnScope ["text_own", "found", "ahead", "some", "numbers", "entry", "word", "one", "two"] ["text_own"] (defScope sLR) := ⟨rfl, rfl, rfl, by decide +kernel, rfl, by decide +kernel, by decide +kernel⟩
theorem ok_LR {f fN : Addr} {fd dN : FuncData} (F : Fun K "_law_read" "_law_read" sLR f fd) (T : Mp mg) (FN : Fun K "_law_number" "_law_number" sLN fN dN) (gN : mg "_law_number" = some (.ref fN)) (bN : L2.Binds K dN ["word"] []) (GN : FnOk P w K mg base CX0 3 fN dN ["word"] spLN) : FnOk P w K mg base CX0 4 f fd ["text_own"] (spLR K) := by
  refine F.ok scLR (fun vs H Q E h => ?_) (fun cdv A outer s H vs Q E hr h => ?_)
  · obtain ⟨t, rfl, _⟩ := h
    rfl
  · refine ⟨_, (pss_cons (ps_set (i := 1) scLR.nd rfl (.inl rfl) (pe_lst pa_nil))
        (pss_cons (ps_set (i := 2) scLR.nd rfl (.inl rfl) (pe_tup (pa_cons pe_int (pa_cons pe_int (pa_cons pe_int (pa_cons pe_int pa_nil))))))
        (pss_cons (ps_for PassesOwn.never rfl (pi_list (pe_bm PySem.F.plainAttrs_str PySem.F.slot_str_split PySem.F.type_str_split mt_splS (pv 0) (pa_cons pe_str pa_nil))) (pg_name (i := 3) scLR.nd rfl (.inl rfl)) (pss_cons (ps_setLc (i := 4) (own := [("word", 6)]) (g := (gName 6)) (tt := tYes) (te := (tCall spLN [] E0 (tCons (tVar 6) tNil))) (by rfl) scLR.nd rfl rfl (sw_true rfl rfl rfl (by decide +kernel)) (pi_list (pe_bm PySem.F.plainAttrs_str PySem.F.slot_str_split PySem.F.type_str_split mt_splS (pv 3) (pa_cons pe_str pa_nil))) (blkOk_by (own := [("word", 6)]) (N := ["text_own", "found", "ahead", "some", "numbers", "entry", "word", "one", "two"]) (sc := defScope sLR) (by decide +kernel)) (fun _ _ _ _ _ => (pg_name (i := 6) scLR.nd rfl (.inl rfl))) (fun _ _ _ _ _ => pts_nil) (fun _ _ _ _ _ => (pe_call GN hr (by rfl) gN FN.kp bN .nil pass0 (pa_cons (pv 6) pa_nil))))
        (pss_cons (ps_if (PW.pt (pw_and (pt_cmpR op_ne (pv 0) pe_str (nomark _)) (pw_and1 (PW.pt (pw_or (pt_cmpR op_ne (pe_callB call_len_seq (by rfl) T.len_ (by decide +kernel) (pa_cons (pv 4) pa_nil)) pe_int (nomark _)) (pw_or1 (pt_cmpR op_in_seq pe_non (pv 4) (by rfl)))))))) (pss_one (ps_ret pe_non)) pss_nil)
        (pss_one (ps_if (pt_cmpR op_ne (pv 0) pe_str (nomark _)) (pss_cons (ps_set (i := 5) scLR.nd rfl (.inl rfl) (pe_callTy cr_tupS (by rfl) T.tuple_ (by decide +kernel) (pa_cons (pe_lc (own := [("one", 7), ("two", 8)]) (g := (gTup K 2 (gCons (gName 7) (gCons (gName 8) gNil)))) (tt := tYes) (te := (tOp (rI0 fun i j => .int (i + j)) (tVar 7) (tVar 8))) (by rfl) scLR.nd (pi_zipM (by rfl) T.zip_ (pa_cons (pv 4) (pa_cons (pv 2) pa_nil))) (blkOk_by (own := [("one", 7), ("two", 8)]) (N := ["text_own", "found", "ahead", "some", "numbers", "entry", "word", "one", "two"]) (sc := defScope sLR) (by decide +kernel)) (fun _ _ _ _ _ => (pg_tup (by rfl) (pgs_cons (pg_name (i := 7) scLR.nd rfl (.inl rfl)) (pgs_cons (pg_name (i := 8) scLR.nd rfl (.inl rfl)) pgs_nil)))) (fun _ _ _ _ _ => pts_nil) (fun _ _ _ _ _ => (pe_op op_add (pv 7) (pv 8)))) pa_nil)))
        (pss_cons (ps_if (PW.pt (pw_or (pt_cmpR op_lt (pe_callB (cr_minT rfl (lt_un hr)) (by rfl) T.min_ (by decide +kernel) (pa_cons (pv 5) pa_nil)) pe_int (nomark _)) (pw_or (pt_cmpR op_ge (pe_ix ix_tup (pv 5) pe_int (fun _ _ => rfl)) (pe_ix ix_tup (pv 5) pe_int (fun _ _ => rfl)) (nomark _)) (pw_or (pt_cmpR op_gt (pe_ix ix_tup (pv 5) pe_int (fun _ _ => rfl)) (pe_ix ix_tup (pv 5) pe_int (fun _ _ => rfl)) (nomark _)) (pw_or1 (pt_cmpR op_lt (pe_ix ix_tup (pv 5) pe_int (fun _ _ => rfl)) (pe_ix ix_tup (pv 2) pe_int (fun _ _ => rfl)) (nomark _))))))) (pss_one (ps_ret pe_non)) pss_nil)
        (pss_cons (ps_expr (pe_bm PySem.F.plainAttrs_list PySem.F.slot_list_append PySem.F.type_list_append mt_append (pv 1) (pa_cons (pv 5) pa_nil)))
        (pss_one (ps_set (i := 2) scLR.nd rfl (.inl rfl) (pv 5)))))) pss_nil)))))
        (pss_one (ps_ret (pv 1)))))), ?_⟩
    obtain ⟨t, rfl, hl, hc, qs, qn⟩ := h
    have lc := spl_count 59 t []
    walk_at "rd"
    refine ⟨by decide, fun D hD => ?_⟩
    have s1 := same_upd (o := .lst []) hD
    walk_at "rd"
    refine ⟨by show 4 ≤ sizeLine; decide, fun A0 hA => ?_⟩
    have s2 := s1.trans (same_upd (o := .tup [.int 0, .int 0, .int 0, .int 0]) hA)
    have hD2 : upd (upd H D (.lst [])) A0 (.tup [.int 0, .int 0, .int 0, .int 0]) D = some (.lst []) := (upd_ne (ne_of_none upd_same hA)).trans upd_same
    have hA2 : EntR K (upd (upd H D (.lst [])) A0 (.tup [.int 0, .int 0, .int 0, .int 0])) (.ref A0) ent0 := ⟨A0, rfl, .inl (.inl upd_same)⟩
    generalize upd (upd H D (HO.lst [])) A0 (HO.tup [.int 0, .int 0, .int 0, .int 0]) = H1 at *
    clear hA
    walk_at "rd"
    refine ⟨_, rfl, rfl, ?_⟩
    walk_at "rd"
    refine rv_spl (s := 59) rfl (by decide) hl fun p hp => ?_
    have s3 := same_upd (o := .lst ((TL.spl [59] 0 [] t).map fun u => V.str (S u))) hp
    have hD3 := s3 _ _ hD2
    have hA3 := hA2.same s3
    have s4 := s2.trans s3
    have hP : upd H1 p (.lst ((TL.spl [59] 0 [] t).map fun u => V.str (S u))) p = some (.lst ((TL.spl [59] 0 [] t).map fun u => V.str (S u))) := upd_same
    have npD : p ≠ D := fun e => by rw [e, hD2] at hp; cases hp
    generalize upd H1 p (HO.lst ((TL.spl [59] 0 [] t).map fun u => V.str (S u))) = H2 at *
    refine ⟨p, rfl, ⟨_, SqL.of hP⟩, ?_⟩
    refine for_list (xs := (TL.spl [59] 0 [] t).map fun u => V.str (S u)) (fun i σ H' => Same H H' ∧ H' p = some (.lst ((TL.spl [59] 0 [] t).map fun u => V.str (S u))) ∧ ∃ (y : V) (cur : Ent4) (us : List V) (es : List Ent4) (o3 o4 o5 : Option V), σ = [some (.str (S t)), some (.ref D), some y, o3, o4, o5, none, none, none] ∧ EntR K H' y cur ∧ H' D = some (.lst us) ∧ Ents K H' us es ∧ 0 ≤ cur.2.1 ∧ es.length ≤ i ∧ (t = [] → es = []) ∧ (t ≠ [] → readM t = (readR ((TL.spl [59] 0 [] t).drop i) cur).map (es ++ ·))) ⟨s4, hP, _, ent0, [], [], none, none, none, rfl, hA3, hD3, .nil, Int.le_refl _, Nat.le_refl _, fun _ => rfl, fun ne => ?_⟩ (fun i σ H' _ ⟨_, s, _⟩ => SqL.of s) ?_ ?_
    · have hread : readM t = readR (TL.spl [59] 0 [] t) ent0 := by unfold readM; rw [if_neg ne]
      rw [hread, List.drop_zero]
      cases readR (TL.spl [59] 0 [] t) ent0 <;> rfl
    · rintro i x σ H3 hx ⟨s5, hp3, y, cur, us, es, o3, o4, o5, rfl, hy, hd, hus, h0, hlen, he0, hr0⟩
      rw [List.getElem?_map] at hx
      cases hw : (TL.spl [59] 0 [] t)[i]? with
      | none => rw [hw] at hx; cases hx
      | some u =>
        rw [hw] at hx
        cases hx
        have hu := spl_in (List.mem_of_getElem? hw)
        have hi : i < (TL.spl [59] 0 [] t).length := (List.getElem?_eq_some_iff.mp hw).1
        have hdr : (TL.spl [59] 0 [] t).drop i = u :: (TL.spl [59] 0 [] t).drop (i + 1) := by
          rw [List.drop_eq_getElem_cons hi]
          congr 1
          exact (List.getElem?_eq_some_iff.mp hw).2
        rw [hdr, readR_cons] at hr0
        have lcu := spl_count 32 u []
        refine rg_name ?_
        walk_at "rd"
        refine ⟨_, rfl, rfl, ?_⟩
        walk_at "rd"
        refine rv_spl (s := 32) rfl (by decide) (by omega) fun p2 hp2 => ?_
        have s6 := same_upd (o := .lst ((TL.spl [32] 0 [] u).map fun u => V.str (S u))) hp2
        have hP2 : upd H3 p2 (.lst ((TL.spl [32] 0 [] u).map fun u => V.str (S u))) p2 = some (.lst ((TL.spl [32] 0 [] u).map fun u => V.str (S u))) := upd_same
        generalize upd H3 p2 (HO.lst ((TL.spl [32] 0 [] u).map fun u => V.str (S u))) = H4 at *
        refine ⟨p2, rfl, ⟨_, SqL.of hP2⟩, fun D2 hD2' => ?_⟩
        refine lc_it (walk_list (xs := (TL.spl [32] 0 [] u).map fun u => V.str (S u))) (fun j H' => Same H4 H' ∧ H' D2 = some (.lst ((((TL.spl [32] 0 [] u).take j).map numR).map optV))) ⟨same_upd hD2', upd_same⟩ (fun j H' _ ⟨s, _⟩ => SqL.of (s _ _ hP2)) ?_ ?_
        · rintro j z H5 H6 hj ⟨sm, hd2⟩ ⟨rfl, hz⟩
          rw [List.getElem?_map] at hz
          cases hv : (TL.spl [32] 0 [] u)[j]? with
          | none => rw [hv] at hz; cases hz
          | some v =>
            rw [hv] at hz
            cases hz
            have hv2 := spl_in (List.mem_of_getElem? hv)
            refine rg_name ⟨rfl, ?_⟩
            refine rv_yes ?_
            refine iteT ?_
            walk_at "rd"
            refine ⟨v, rfl, by omega, fun c h => hc c (hu.2 c (hv2.2 c h)), fun H7 s7 => ?_⟩
            refine ⟨_, s7 _ _ hd2, ?_, same_put hD2' (sm.trans s7), ?_⟩
            · rw [List.length_map, List.length_map, List.length_take, sizeLine_eq]
              omega
            · rw [upd_same, List.take_succ, hv]
              simp
        rintro H5 ⟨s7, hd2⟩
        rw [List.length_map, List.take_length] at hd2
        have s8 := s6.trans s7
        replace hd2 : H5 D2 = some (.lst ((numsOf u).map optV)) := hd2
        have hd5 := s8 _ _ hd
        have hp5 := s8 _ _ hp3
        have hus5 : Ents K H5 us es := Paired.mapP hus fun _ _ h => h.same s8
        have hy5 := hy.same s8
        have s9 := s5.trans s8
        clear s6 s7 s8 hP2 hD2' hp2 hus hy hd hp3
        walk_at "rd"
        by_cases ne : t = []
        · refine iteFe (by rw [ne]; decide +kernel) ?_
          walk_at "rd"
          refine iteFe (by rw [ne]; decide +kernel) ?_
          walk_at "rd"
          exact ⟨s9, hp5, y, cur, us, es, _, _, _, rfl, hy5, hd5, hus5, h0, by omega, he0, fun z => absurd ne z⟩
        · have hr := hr0 ne
          have tne : (!decide (V.str (S t) = V.str "")) = true := by
            rw [Bool.not_eq_true', decide_eq_false_iff_not]
            exact fun z => ne (S_inj (b := []) (V.str.inj z))
          refine iteTe tne ?_
          walk_at "rd"
          refine ⟨D2, _, rfl, .inl (SqL.of hd2), ?_⟩
          walk_at "rd"
          refine iteB (fun h1 => ?_) (fun h1 => ?_)
          · have h4 : (numsOf u).length ≠ 4 := fun z => by
              rw [List.length_map, z] at h1
              cases h1
            walk_at "rd"
            rw [rowR_no (four_none (.inl h4))] at hr
            exact qn hr H5 s9
          · have h4 : (numsOf u).length = 4 := by
              have e : decide (V.int ((List.map optV (numsOf u)).length : Nat) = V.int 4) = true := by simpa using h1
              have e2 := V.int.inj (of_decide_eq_true e)
              rw [List.length_map] at e2
              omega
            walk_at "rd"
            refine ⟨D2, _, rfl, .inl (SqL.of hd2), rfl, flat_optV _, ?_⟩
            rw [show (if false = true then !inV .non ((numsOf u).map optV) else inV .non ((numsOf u).map optV)) = (numsOf u).any (·.isNone) from none_in _]
            refine ⟨_, rfl, iteB (fun h2 => ?_) (fun h2 => ?_)⟩
            · walk_at "rd"
              rw [rowR_no (four_none (.inr h2))] at hr
              exact qn hr H5 s9
            · obtain ⟨x, hx⟩ := four_got h4 h2
              have hv : (numsOf u).map optV = numsV x := by rw [four_some hx]; rfl
              have hrow := rowR_of (a := cur) hx
              rw [hv] at hd2
              obtain ⟨u2, eu, hu2⟩ := hy5
              subst eu
              walk_at "rd"
              refine iteTe tne ?_
              walk_at "rd"
              refine ⟨_, rfl, _, rfl, D2, u2, _, _, rfl, SqL.of hd2, hu2, fun D3 hD3 => ?_⟩
              refine lc_it (walk_zipM (xs := numsV x) (ys := entV cur) (n := 4) rfl) (fun j H' => Same H5 H' ∧ H' D3 = some (.lst ((entV (addE x cur)).take j))) ⟨same_upd hD3, upd_same⟩ (fun j H' _ ⟨s, _⟩ => ⟨SqL.of (s _ _ hd2), SqT.keep s hu2⟩) ?_ ?_
              · rintro j z H6 H7 hj ⟨sm, hd3⟩ ⟨U, y1, y2, rfl, hU, rfl, e1, e2⟩
                obtain ⟨n, m, rfl, rfl, e3⟩ := sum_at e1 e2
                have sU : Same H6 (upd H6 U (.tup [.int n, .int m])) := same_upd hU
                refine ⟨U, _, rfl, .inl (.inl upd_same), rfl, ?_⟩
                walk_at "rd"
                refine ⟨rfl, ?_⟩
                walk_at "rd"
                refine ⟨_, sU _ _ hd3, ?_, same_put hD3 (sm.trans sU), ?_⟩
                · rw [List.length_take, sizeLine_eq]
                  omega
                · rw [upd_same, List.take_succ, e3]
                  rfl
              · rintro H6 ⟨s10, hd3⟩
                walk_at "rd"
                refine ⟨D3, _, rfl, .inl ⟨SqL.of hd3, fun B hB => ?_⟩⟩
                have s11 := s10.trans (same_upd (o := .tup ((entV (addE x cur)).take 4)) hB)
                have hBt : upd H6 B (.tup ((entV (addE x cur)).take 4)) B = some (.tup (entV (addE x cur))) := upd_same
                generalize upd H6 B (HO.tup ((entV (addE x cur)).take 4)) = H7 at *
                obtain ⟨⟨e1, e2, e3, e4⟩, hE⟩ : ∃ z, z = addE x cur := ⟨_, rfl⟩
                rw [← hE] at hBt hrow
                have hBq : SqT K H7 B [.int e1, .int e2, .int e3, .int e4] := .inl (.inl hBt)
                have om := okE_min (e := (e1, e2, e3, e4)) h0
                have kill : okE (e1, e2, e3, e4) cur = false → readM t = none := fun z => by
                  rw [hr, hrow, z]
                  rfl
                have om2 : okE (e1, e2, e3, e4) cur = !(decide ([e2, e3, e4].foldl min e1 < 0) || decide (e2 ≤ e1) || decide (e4 < e3) || decide (e1 < cur.2.1)) := om
                have hua := SqT.keep s11 hu2
                walk_at "rd"
                refine ⟨B, e1, [e2, e3, e4], rfl, hBq, ?_⟩
                walk_at "rd"
                refine iteB (fun h5 => ?_) (fun h5 => ?_)
                · walk_at "rd"
                  exact qn (kill (by rw [om2, h5]; rfl)) H7 (s9.trans s11)
                · walk_at "rd"
                  refine ⟨B, _, 0, .int e1, rfl, rfl, hBq, rfl, ?_⟩
                  walk_at "rd"
                  refine ⟨B, _, 1, .int e2, rfl, rfl, hBq, rfl, ?_⟩
                  walk_at "rd"
                  refine iteB (fun h6 => ?_) (fun h6 => ?_)
                  · walk_at "rd"
                    exact qn (kill (by rw [om2, h5, h6]; rfl)) H7 (s9.trans s11)
                  · walk_at "rd"
                    refine ⟨B, _, 2, .int e3, rfl, rfl, hBq, rfl, ?_⟩
                    walk_at "rd"
                    refine ⟨B, _, 3, .int e4, rfl, rfl, hBq, rfl, ?_⟩
                    walk_at "rd"
                    refine iteB (fun h7 => ?_) (fun h7 => ?_)
                    · walk_at "rd"
                      exact qn (kill (by rw [om2, h5, h6, h7]; rfl)) H7 (s9.trans s11)
                    · walk_at "rd"
                      refine ⟨B, _, 0, .int e1, rfl, rfl, hBq, rfl, ?_⟩
                      walk_at "rd"
                      refine ⟨u2, entV cur, 1, .int cur.2.1, rfl, rfl, hua, rfl, ?_⟩
                      walk_at "rd"
                      refine iteB (fun h8 => ?_) (fun h8 => ?_)
                      · walk_at "rd"
                        exact qn (kill (by rw [om2, h5, h6, h7, h8]; rfl)) H7 (s9.trans s11)
                      · have good : okE (e1, e2, e3, e4) cur = true := by rw [om2, h5, h6, h7, h8]; rfl
                        rw [hrow, if_pos good] at hr
                        dsimp only at hr
                        rw [map_map_app] at hr
                        walk_at "rd"
                        refine rv_app rfl (s11 _ _ hd5) ?_
                        walk_at "rd"
                        refine ⟨us, .ref B, rfl, s11 _ _ hd5, ?_, ?_⟩
                        · rw [Paired.length hus5, sizeLine_eq]
                          omega
                        · walk_at "rd"
                          have hv : EntR K H7 (.ref B) (e1, e2, e3, e4) := ⟨B, rfl, hBq⟩
                          refine ⟨same_put hD (s9.trans s11), (upd_ne npD).trans (s11 _ _ hp5), .ref B, (e1, e2, e3, e4), us ++ [.ref B], es ++ [(e1, e2, e3, e4)], _, _, _, rfl, hv.put (s11 _ _ hd5), upd_same, ?_, okE_next h0 good, by rw [List.length_append]; show _ + 1 ≤ _; omega, fun z => absurd z ne, fun _ => hr⟩
                          exact ents_snoc (Paired.mapP hus5 fun _ _ h => (h.same s11).put (s11 _ _ hd5)) (hv.put (s11 _ _ hd5))
    · rintro σ H3 ⟨s5, hp3, y, cur, us, es, o3, o4, o5, rfl, hy, hd, hus, h0, hlen, he0, hr0⟩
      walk_at "rd"
      refine qs es ?_ H3 D us s5 hD hd hus
      by_cases ne : t = []
      · rw [he0 ne, ne]
        rfl
      · have hr := hr0 ne
        rw [List.length_map, List.drop_length] at hr
        rw [hr]
        show some (es ++ []) = some es
        rw [List.append_nil]
end
end My

namespace My
open PySem PySem.Spec PyProof.Rows L2 XR SX RZ
abbrev sLA : Stmt := top 32
abbrev sLG : Stmt := top 33
section
variable {P : Program} {w : World} {K : PySem.W.Frag} {mg : Str → Option Value} {base : Heap} {cs : Nat → Addr} {cL : Addr}
local macro_rules | `(tactic| walk_at "rd1") => `(tactic| first
  | with_reducible refine rs_seq ?_
  | with_reducible refine rs_asg ?_
  | with_reducible refine rs_ret ?_
  | with_reducible refine rs_if ?_
  | with_reducible refine rs_next ?_
  | with_reducible refine rg_name ?_
  | ((with_reducible refine rv_var (v := ?vv) ?hv ?_); (case hv => exact rfl))
  | with_reducible refine rv_c ?_
  | with_reducible refine rv_op ?_
  | with_reducible refine rv_cons ?_
  | with_reducible refine rv_nil ?_
  | with_reducible refine rv_rI0 ?_
  | ((with_reducible refine rv_rI ?hc ?_); (case hc => walk_at "side"))
  | ((with_reducible refine rv_eq ?hc ?_); (case hc => exact rfl))
  | ((with_reducible refine rv_ne ?hc ?_); (case hc => exact rfl))
  | with_reducible refine rv_test ?_
  | with_reducible refine rv_bl ?_
  | with_reducible refine rv_cb ?_
  | with_reducible refine rv_call ?_
  | with_reducible refine rv_tup ?_
  | with_reducible refine rv_lst ?_
  | with_reducible refine rv_tB ?_
  | with_reducible refine rv_or ?_
  | with_reducible refine rv_and ?_
  | with_reducible refine rv_not ?_
  | with_reducible refine rv_andV ?_
  | with_reducible refine rv_orV ?_
  | with_reducible refine rv_notV ?_
  | with_reducible refine rv_ifE ?_
  | with_reducible refine rs_drop ?_
  | with_reducible refine iteT ?_
  | with_reducible refine iteF ?_
  | with_reducible refine ro_nx ?_
  | with_reducible refine ro_rt ?_
  | with_reducible refine ro_ct ?_
  | with_reducible refine ro_bk ?_)
local macro_rules | `(tactic| walk_at "rd") => `(tactic| repeat walk_at "rd1")
local macro_rules | `(tactic| walk_at "side") => `(tactic| first
  | assumption
  | exact (show CPow _ _ from ⟨by decide, by decide, by decide⟩)
  | exact (show CMul _ _ from .inl ⟨by decide, by decide⟩)
  | exact (show CMul _ _ from .inr ⟨by decide, by decide⟩)
  | (show (0 : Int) < _; decide)
  | (show CMul _ _; first | exact .inl ⟨by omega, by omega⟩ | exact .inr ⟨by omega, by omega⟩)
  | omega)
local macro_rules | `(tactic| walk_at "rd1") => `(tactic| first
  | with_reducible refine rs_for ?_
  | with_reducible refine ri_zip ?_
  | with_reducible refine ri_list ?_
  | with_reducible refine ri_rng1 ?_
  | with_reducible refine rv_lc ?_
  | with_reducible refine rv_xfl ?_
  | with_reducible refine rs_par3 ?_
  | with_reducible refine rv_yes ?_
  | with_reducible refine rg_tup ?_
  | with_reducible refine rg_cons ?_
  | with_reducible refine rg_nil ?_)
local macro_rules | `(tactic| walk_at "rd1") => `(tactic| first
  | with_reducible refine ri_str ?_
  | with_reducible refine rv_sl ?_
  | with_reducible refine rv_part ?_
  | with_reducible refine rv_nopart ?_
  | with_reducible refine rv_callS ?_
  | with_reducible refine rv_chain ?_
  | with_reducible refine rv_leS ?_
  | with_reducible refine rv_inS ?_)
/-- asked with a thing that is refused -/
def BadM (cs : Nat → Addr) (H : Hp) (Q : VK) : Prop := ∀ H' p x d, Same H H' → H' p = some (.lst [.non, .ref x]) → ExAt H' x (cs 6) (some d) → DcAt H' d [("at", .int 0)] → Q (.ref p) H'
def spLA (K : PySem.W.Frag) (cs : Nat → Addr) : Sp := fun vs H Q _ => ∃ v, vs = [v] ∧ ((∃ t : List Nat, v = .str (S t) ∧ t.length ≤ 4000 ∧
  ((∃ es, readM t = some es ∧ ∀ H' p r us, Same H H' → H' p = some (.lst [.ref r, .non]) → H' r = some (.lst us) → Ents K H' us es → Q (.ref p) H') ∨ (readM t = none ∧ BadM cs H Q))) ∨
  ((∃ T, TyX K H v T ∧ PySem.W.kitOne K T (.type "str") = some false) ∧ BadM cs H Q))
theorem scLA : FnScope ["text_own", "found", "error", "e"] ["text_own"] (defScope sLA) := ⟨rfl, rfl, rfl, by decide +kernel, rfl, by decide +kernel, by decide +kernel⟩
theorem ok_LA {f fR : Addr} {fd dR : FuncData} (F : Fun K "_law_asked" "_law_asked" sLA f fd) (T : Ten K mg cs cL) (exm : PySem.W.exmOne K (.ref (cs 6)) (.ref cL) = some true)
    (FR : Fun K "read_map" "read_map" sRM fR dR) (gR : mg "read_map" = some (.ref fR)) (bR : L2.Binds K dR ["text"] []) (GR : FnOk P w K mg base (L2.CX P w) 4 fR dR ["text"] (spRM K (cs 6))) : FnOk P w K mg base CX0 5 f fd ["text_own"] (spLA K cs) := by
  refine F.ok scLA (fun vs H Q E h => ?_) (fun cdv A outer s H vs Q E hr h => ?_)
  · obtain ⟨v, rfl, _⟩ := h
    rfl
  · refine ⟨_, (pss_cons (ps_set (i := 1) scLA.nd rfl (.inl rfl) pe_non)
        (pss_cons (ps_set (i := 2) scLA.nd rfl (.inl rfl) pe_non)
        (pss_cons (ps_try_keep (i := 3) (j := 2) rfl rfl scLA.nd rfl rfl (by decide) rfl rfl rfl ⟨rfl, by decide, .inl T.gL⟩ takes0 (fun W pn xe tk _ => pss_one (ps_set (i := 1) scLA.nd rfl (.inl rfl) (pe_callS GR hr (by rfl) gR FR.kp bR (fun σ => passAt tk σ) (pa_cons (pv 0) pa_nil)))) rfl (fun a oe pn => pss_one (ps_set (i := 2) scLA.nd rfl (.inl rfl) (pv 3))))
        (pss_one (ps_ret (pe_lst (pa_cons (pv 1) (pa_cons (pv 2) pa_nil)))))))), ?_⟩
    obtain ⟨v, rfl, q⟩ := h
    walk_at "rd"
    rcases q with ⟨t, rfl, hl, ⟨es, hes, qg⟩ | ⟨hno, qb⟩⟩ | ⟨⟨T2, ht, hk⟩, qb⟩
    · refine .inl ⟨t, rfl, hl, fun es2 he2 H1 r us s1 nr hr1 hus => ?_, fun z => ?_⟩
      · have ee : es2 = es := Option.some.inj (he2.symm.trans hes)
        subst ee
        walk_at "rd"
        refine ⟨by show 2 ≤ sizeLine; decide, fun p hp => ?_⟩
        have s2 := same_upd (o := .lst [.ref r, .non]) hp
        exact qg _ p r us (s1.trans s2) upd_same (s2 _ _ hr1) (Paired.mapP hus fun _ _ h => h.same s2)
      · rw [hes] at z
        cases z
    · refine .inl ⟨t, rfl, hl, fun es2 he2 H1 r us s1 nr hr1 hus => ?_, fun z H2 d k2 hd => ?_⟩
      · rw [hno] at he2
        cases he2
      · refine ⟨true, exm, fun _ => ⟨cs 6, rfl, fun x hx => ?_⟩, fun z => nomatch z⟩
        have k3 := same_upd (o := exl x (cs 6) (some d)) hx
        have eA : ExAt (upd H2 x (exl x (cs 6) (some d))) x (cs 6) (some d) := exAt_exl upd_same
        have eD : DcAt (upd H2 x (exl x (cs 6) (some d))) d [("at", .int 0)] := .inl (k3 _ _ hd)
        walk_at "rd"
        refine ⟨by show 2 ≤ sizeLine; decide, fun p hp => ?_⟩
        have s4 := same_upd (o := .lst [.non, .ref x]) hp
        exact qb _ p x d ((k2.trans k3).trans s4) upd_same (eA.same s4) (eD.same s4)
    · refine .inr ⟨v, T2, rfl, ht, hk, fun H2 d k2 hd => ?_⟩
      refine ⟨true, exm, fun _ => ⟨cs 6, rfl, fun x hx => ?_⟩, fun z => nomatch z⟩
      have k3 := same_upd (o := exl x (cs 6) (some d)) hx
      have eA : ExAt (upd H2 x (exl x (cs 6) (some d))) x (cs 6) (some d) := exAt_exl upd_same
      have eD : DcAt (upd H2 x (exl x (cs 6) (some d))) d [("at", .int 0)] := .inl (k3 _ _ hd)
      walk_at "rd"
      refine ⟨by show 2 ≤ sizeLine; decide, fun p hp => ?_⟩
      have s4 := same_upd (o := .lst [.non, .ref x]) hp
      exact qb _ p x d ((k2.trans k3).trans s4) upd_same (eA.same s4) (eD.same s4)
def entD4 (e : Ent4) : PyData := .tuple [.int e.1, .int e.2.1, .int e.2.2.1, .int e.2.2.2]
theorem ents_dp {H : Hp} {vs : List V} {es : List Ent4} (h : Ents K H vs es) : DpAll K H vs (es.map entD4) := by
  induction h with
  | nil => exact .nil
  | cons a _ ih =>
    obtain ⟨p, rfl, hp⟩ := a
    exact .cons (.tup hp (.cons (.int _) (.cons (.int _) (.cons (.int _) (.cons (.int _) .nil))))) ih
theorem ents_lay : ∀ es : List Ent4, PyData.canLayAll0 (es.map entD4) = true ∧ PyData.depthAll (es.map entD4) ≤ 1
  | [] => ⟨rfl, Nat.zero_le _⟩
  | e :: es => by
    obtain ⟨h1, h2⟩ := ents_lay es
    refine ⟨?_, ?_⟩
    · show (PyData.canLay0 (entD4 e) && PyData.canLayAll0 (es.map entD4)) = true
      rw [h1]
      rfl
    · show max 1 (PyData.depthAll (es.map entD4)) ≤ 1
      omega
def entsD (es : List Ent4) : PyData := .list (es.map entD4)
theorem ents_shaped (es : List Ent4) : SeqAt.shaped (entsD es) = true := by
  obtain ⟨h1, h2⟩ := ents_lay es
  refine shaped_of h1 ?_
  show PyData.depthAll (es.map entD4) + 1 ≤ 64
  omega
theorem readR_len : ∀ {ts : List (List Nat)} {a : Ent4} {es : List Ent4}, readR ts a = some es → es.length = ts.length
  | [], _, _, h => by cases h; rfl
  | t :: r, a, es, h => by
    rw [readR_cons] at h
    cases hr : rowR t a with
    | none => rw [hr] at h; cases h
    | some e =>
      rw [hr] at h
      dsimp only at h
      cases hq : readR r e with
      | none => rw [hq] at h; cases h
      | some es2 =>
        rw [hq] at h
        cases h
        rw [List.length_cons, List.length_cons, readR_len hq]
theorem readM_len {t : List Nat} {es : List Ent4} (h : readM t = some es) : es.length ≤ t.length + 1 := by
  unfold readM at h
  by_cases c : t = []
  · rw [if_pos c] at h
    cases h
    exact Nat.zero_le _
  · rw [if_neg c] at h
    rw [readR_len h]
    exact spl_count 59 t []
def spLG : Sp := fun vs H Q _ => ∃ t : List Nat, vs = [.str (S t)] ∧ t.length ≤ 3999 ∧ (∀ c ∈ t, c < 128) ∧ ∀ H', Same H H' → Q (.bl true) H'
end
section
variable {P : Program} {w : World} {K : PySem.W.Frag} {mg : Str → Option Value} {base : Heap} {cs : Nat → Addr} {cL : Addr}
local macro_rules | `(tactic| walk_at "rd1") => `(tactic| first
  | with_reducible refine rs_seq ?_
  | with_reducible refine rs_asg ?_
  | with_reducible refine rs_ret ?_
  | with_reducible refine rs_if ?_
  | with_reducible refine rs_next ?_
  | with_reducible refine rg_name ?_
  | ((with_reducible refine rv_var (v := ?vv) ?hv ?_); (case hv => exact rfl))
  | with_reducible refine rv_c ?_
  | with_reducible refine rv_op ?_
  | with_reducible refine rv_cons ?_
  | with_reducible refine rv_nil ?_
  | with_reducible refine rv_rI0 ?_
  | ((with_reducible refine rv_rI ?hc ?_); (case hc => walk_at "side"))
  | ((with_reducible refine rv_eq ?hc ?_); (case hc => exact rfl))
  | ((with_reducible refine rv_ne ?hc ?_); (case hc => exact rfl))
  | with_reducible refine rv_test ?_
  | with_reducible refine rv_bl ?_
  | with_reducible refine rv_cb ?_
  | with_reducible refine rv_call ?_
  | with_reducible refine rv_tup ?_
  | with_reducible refine rv_lst ?_
  | with_reducible refine rv_tB ?_
  | with_reducible refine rv_or ?_
  | with_reducible refine rv_and ?_
  | with_reducible refine rv_not ?_
  | with_reducible refine rv_andV ?_
  | with_reducible refine rv_orV ?_
  | with_reducible refine rv_notV ?_
  | with_reducible refine rv_ifE ?_
  | with_reducible refine rs_drop ?_
  | with_reducible refine iteT ?_
  | with_reducible refine iteF ?_
  | with_reducible refine ro_nx ?_
  | with_reducible refine ro_rt ?_
  | with_reducible refine ro_ct ?_
  | with_reducible refine ro_bk ?_)
local macro_rules | `(tactic| walk_at "rd") => `(tactic| repeat walk_at "rd1")
local macro_rules | `(tactic| walk_at "side") => `(tactic| first
  | assumption
  | exact (show CPow _ _ from ⟨by decide, by decide, by decide⟩)
  | exact (show CMul _ _ from .inl ⟨by decide, by decide⟩)
  | exact (show CMul _ _ from .inr ⟨by decide, by decide⟩)
  | (show (0 : Int) < _; decide)
  | (show CMul _ _; first | exact .inl ⟨by omega, by omega⟩ | exact .inr ⟨by omega, by omega⟩)
  | omega)
local macro_rules | `(tactic| walk_at "rd1") => `(tactic| first
  | with_reducible refine rs_for ?_
  | with_reducible refine ri_zip ?_
  | with_reducible refine ri_list ?_
  | with_reducible refine ri_rng1 ?_
  | with_reducible refine rv_lc ?_
  | with_reducible refine rv_xfl ?_
  | with_reducible refine rs_par3 ?_
  | with_reducible refine rv_yes ?_
  | with_reducible refine rg_tup ?_
  | with_reducible refine rg_cons ?_
  | with_reducible refine rg_nil ?_)
local macro_rules | `(tactic| walk_at "rd1") => `(tactic| first
  | with_reducible refine ri_str ?_
  | with_reducible refine rv_sl ?_
  | with_reducible refine rv_part ?_
  | with_reducible refine rv_nopart ?_
  | with_reducible refine rv_callS ?_
  | with_reducible refine rv_chain ?_
  | with_reducible refine rv_leS ?_
  | with_reducible refine rv_inS ?_)
theorem scLG : FnScope ["text_own", "due", "found", "error"] ["text_own"] (defScope sLG) := ⟨rfl, rfl, rfl, by decide +kernel, rfl, by decide +kernel, by decide +kernel⟩
theorem ok_LG {f fR fA fO fM : Addr} {fd dR dA dO dM : FuncData} (F : Fun K "_law_good" "_law_good" sLG f fd) (M : Mp mg) (T : Ten K mg cs cL) (xn : PySem.W.findIn K (.ref (cs 6)) "at" = some none)
    (FR : Fun K "_law_read" "_law_read" sLR fR dR) (gR : mg "_law_read" = some (.ref fR)) (bR : L2.Binds K dR ["text_own"] []) (GR : FnOk P w K mg base CX0 4 fR dR ["text_own"] (spLR K))
    (FA : Fun K "_law_asked" "_law_asked" sLA fA dA) (gA : mg "_law_asked" = some (.ref fA)) (bA : L2.Binds K dA ["text_own"] []) (GA : FnOk P w K mg base CX0 5 fA dA ["text_own"] (spLA K cs))
    (FO : Fun K "_law_only" "_law_only" sOnly fO dO) (gO : mg "_law_only" = some (.ref fO)) (bO : L2.Binds K dO ["error", "word"] [])
    (FM : Fun K "map_text" "map_text" sMT fM dM) (gM : mg "map_text" = some (.ref fM)) (bM : L2.Binds K dM ["entries"] []) (GM : FnOk P w K mg base CX0 2 fM dM ["entries"] (spMT K)) : FnOk P w K mg base CX0 6 f fd ["text_own"] spLG := by
  have GO : FnOk P w K mg base CX0 1 fO dO ["error", "word"] (spOnly K cs) := ok_only FO T
  refine F.ok scLG (fun vs H Q E h => ?_) (fun cdv A outer s H vs Q E hr h => ?_)
  · obtain ⟨v, rfl, _⟩ := h
    rfl
  · refine ⟨_, (pss_cons (ps_set (i := 1) scLG.nd rfl (.inl rfl) (pe_call GR (hr.mono (by decide : 4 ≤ 5)) (by rfl) gR FR.kp bR .nil pass0 (pa_cons (pv 0) pa_nil)))
        (pss_cons (ps_asg (pe_call GA hr (by rfl) gA FA.kp bA .nil pass0 (pa_cons (pv 0) pa_nil)) (pg_unl (n := 2) (by rfl) (pgs_cons (pg_name (i := 2) scLG.nd rfl (.inl rfl)) (pgs_cons (pg_name (i := 3) scLG.nd rfl (.inl rfl)) pgs_nil))))
        (pss_cons (ps_if (pt_cmpR op_isN1 (pv 1) pe_non (by rfl)) (pss_one (ps_ret (pe_and (pe_cmpR op_isN1 (pv 2) pe_non (by rfl)) (pe_and (pe_call GO (hr.mono (by decide : 1 ≤ 5)) (by rfl) gO FO.kp bO .nil pass0 (pa_cons (pv 3) (pa_cons pe_str pa_nil))) (pe_one (pe_cmpR op_eq (pe_xfl (pv 3)) pe_int (nomark _))))))) pss_nil)
        (pss_one (ps_ret (pe_and (pe_cmpR op_isN1 (pv 3) pe_non (by rfl)) (pe_and (pe_callB call_isi (by rfl) M.isinstance (by decide +kernel) (pa_cons (pv 2) (pa_cons (pe_bltn (by rfl) M.list_ (by decide +kernel) (v := .ty "list") rfl) pa_nil))) (pe_and (pe_cmpR (op_eqD hr.units) (pv 2) (pv 1) (nomark _)) (pe_one (pe_cmpR op_eq (pe_call GM (hr.mono (by decide : 2 ≤ 5)) (by rfl) gM FM.kp bM .nil pass0 (pa_cons (pv 2) pa_nil)) (pv 0) (nomark _))))))))))), ?_⟩
    obtain ⟨t, rfl, hl, hc, q⟩ := h
    have hl' : t.length ≤ 4000 := by omega
    walk_at "rd"
    refine ⟨t, rfl, hl', hc, fun es hes H1 p us s1 np hp hus => ?_, fun hno H1 s1 => ?_⟩
    · walk_at "rd"
      refine ⟨_, rfl, .inl ⟨t, rfl, hl', .inl ⟨es, hes, fun H2 p2 r us2 s2 hp2 hr2 hus2 => ?_⟩⟩⟩
      refine ⟨p2, _, rfl, SqL.of hp2, rfl, ?_⟩
      walk_at "rd"
      refine ⟨rfl, ?_⟩
      refine ⟨_, rfl, iteFe (decide_eq_false nofun) ?_⟩
      walk_at "rd"
      refine ⟨rfl, ?_⟩
      refine ⟨_, rfl, iteTe rfl ?_⟩
      walk_at "rd"
      refine ⟨_, _, _, _, true, rfl, .ty _, .base (.lst hr2), kit_same, ?_⟩
      refine ⟨_, rfl, iteTe rfl ?_⟩
      walk_at "rd"
      refine ⟨entsD es, entsD es, .lst (SqL.of hr2) (ents_dp hus2), .lst (SqL.of (s2 _ _ hp)) (ents_dp (Paired.mapP hus fun _ _ h => h.same s2)), ents_shaped es, ents_shaped es, ?_⟩
      rw [SeqAt.eqv_refl _ (SeqAt.canLay_of_shaped (ents_shaped es))]
      refine ⟨_, rfl, iteTe rfl ?_⟩
      walk_at "rd"
      have lm := readM_len hes
      refine ⟨r, es, rfl, ents_read (SqL.of hr2) hus2, (readM_some hes).2.fits, by omega, fun H3 s3 => ?_⟩
      walk_at "rd"
      rw [(readM_some hes).1, decide_eq_true rfl]
      exact q H3 ((s1.trans s2).trans s3)
    · walk_at "rd"
      refine ⟨_, rfl, .inl ⟨t, rfl, hl', .inr ⟨hno, fun H2 p2 x d s2 hp2 hx hd => ?_⟩⟩⟩
      refine ⟨p2, _, rfl, SqL.of hp2, rfl, ?_⟩
      walk_at "rd"
      refine ⟨rfl, ?_⟩
      refine ⟨_, rfl, iteTe rfl ?_⟩
      walk_at "rd"
      refine ⟨rfl, ?_⟩
      refine ⟨_, rfl, iteTe rfl ?_⟩
      walk_at "rd"
      refine ⟨x, 6, by decide, rfl, .inr ⟨d, _, hx, hd⟩, fun H3 s3 => ?_⟩
      refine ⟨_, rfl, iteTe rfl ?_⟩
      walk_at "rd"
      refine ⟨x, cs 6, d, _, _, rfl, hx.same s3, hd.same s3, T.ek 6 (by decide), xn, rfl, ?_⟩
      walk_at "rd"
      rw [decide_eq_true rfl]
      exact q H3 ((s1.trans s2).trans s3)
end
end My

namespace My
open PySem PySem.Spec PyProof.Rows L2 XR SX RZ
abbrev sLE : Stmt := top 27
section
variable {P : Program} {w : World} {K : PySem.W.Frag} {mg : Str → Option Value} {base : Heap}
local macro_rules | `(tactic| walk_at "rd1") => `(tactic| first
  | with_reducible refine rs_seq ?_
  | with_reducible refine rs_asg ?_
  | with_reducible refine rs_ret ?_
  | with_reducible refine rs_if ?_
  | with_reducible refine rs_next ?_
  | with_reducible refine rg_name ?_
  | ((with_reducible refine rv_var (v := ?vv) ?hv ?_); (case hv => exact rfl))
  | with_reducible refine rv_c ?_
  | with_reducible refine rv_op ?_
  | with_reducible refine rv_cons ?_
  | with_reducible refine rv_nil ?_
  | with_reducible refine rv_rI0 ?_
  | ((with_reducible refine rv_rI ?hc ?_); (case hc => walk_at "side"))
  | ((with_reducible refine rv_eq ?hc ?_); (case hc => exact rfl))
  | ((with_reducible refine rv_ne ?hc ?_); (case hc => exact rfl))
  | with_reducible refine rv_test ?_
  | with_reducible refine rv_bl ?_
  | with_reducible refine rv_cb ?_
  | with_reducible refine rv_call ?_
  | with_reducible refine rv_tup ?_
  | with_reducible refine rv_lst ?_
  | with_reducible refine rv_tB ?_
  | with_reducible refine rv_or ?_
  | with_reducible refine rv_and ?_
  | with_reducible refine rv_not ?_
  | with_reducible refine rv_andV ?_
  | with_reducible refine rv_orV ?_
  | with_reducible refine rv_notV ?_
  | with_reducible refine rv_ifE ?_
  | with_reducible refine rs_drop ?_
  | with_reducible refine iteT ?_
  | with_reducible refine iteF ?_
  | with_reducible refine ro_nx ?_
  | with_reducible refine ro_rt ?_
  | with_reducible refine ro_ct ?_
  | with_reducible refine ro_bk ?_)
local macro_rules | `(tactic| walk_at "rd") => `(tactic| repeat walk_at "rd1")
local macro_rules | `(tactic| walk_at "side") => `(tactic| first
  | assumption
  | exact (show CPow _ _ from ⟨by decide, by decide, by decide⟩)
  | exact (show CMul _ _ from .inl ⟨by decide, by decide⟩)
  | exact (show CMul _ _ from .inr ⟨by decide, by decide⟩)
  | (show (0 : Int) < _; decide)
  | (show CMul _ _; first | exact .inl ⟨by omega, by omega⟩ | exact .inr ⟨by omega, by omega⟩)
  | omega)
local macro_rules | `(tactic| walk_at "rd1") => `(tactic| first
  | with_reducible refine rs_for ?_
  | with_reducible refine ri_zip ?_
  | with_reducible refine ri_list ?_
  | with_reducible refine ri_rng1 ?_
  | with_reducible refine rv_lc ?_
  | with_reducible refine rv_xfl ?_
  | with_reducible refine rs_par3 ?_
  | with_reducible refine rv_yes ?_
  | with_reducible refine rg_tup ?_
  | with_reducible refine rg_cons ?_
  | with_reducible refine rg_nil ?_)
local macro_rules | `(tactic| walk_at "rd1") => `(tactic| first
  | with_reducible refine ri_str ?_
  | with_reducible refine rv_sl ?_
  | with_reducible refine rv_part ?_
  | with_reducible refine rv_nopart ?_
  | with_reducible refine rv_callS ?_
  | with_reducible refine rv_chain ?_
  | with_reducible refine rv_leS ?_
  | with_reducible refine rv_inS ?_)
/-- but for the pile at p all is as it was; there a number -/
def Keep (p : Addr) (H H' : Hp) : Prop := (∀ b o, b ≠ p → H b = some o → H' b = some o) ∧ ∃ m, H' p = some (.lst [.int m])
theorem Keep.trans {p : Addr} {H H1 H2 : Hp} (a : Keep p H H1) (b : Keep p H1 H2) : Keep p H H2 := ⟨fun c o h e => b.1 c o h (a.1 c o h e), b.2⟩
theorem Keep.of {p : Addr} {H H1 : Hp} (a : Same H H1) (h : ∃ m, H p = some (.lst [.int m])) : Keep p H H1 := ⟨fun c o _ e => a c o e, let ⟨m, e⟩ := h; ⟨m, a _ _ e⟩⟩
theorem Keep.same {p : Addr} {H H1 H2 : Hp} (a : Same H H1) (n : H p = none) (b : Keep p H1 H2) : Same H H2 := fun c o e => b.1 c o (fun z => by rw [z, n] at e; cases e) (a c o e)
theorem drawn_at {l : List V} {d : Int} (h0 : 0 ≤ d) (h1 : d < l.length) : ∃ y, atI l d = some y ∧ y ∈ l := by
  obtain ⟨j, rfl⟩ := Int.eq_ofNat_of_zero_le h0
  have hj : j < l.length := by omega
  exact ⟨l[j], atI_nat (List.getElem?_eq_getElem hj), List.getElem_mem hj⟩
/-- a digit of the pile, by any size -/
def spTk : Sp := fun vs H Q _ => ∃ (a : Addr) (n z : Int), vs = [.ref a, .int z] ∧ H a = some (.lst [.int n]) ∧ 0 < z ∧ z.natAbs < 2 ^ 900 ∧ ∀ d m, 0 ≤ d → d < z → Q (.int d) (upd H a (.lst [.int m]))
theorem ok_takeW {f : Addr} {fd : FuncData} (F : Fun K "_law_take" "_law_take" sTake f fd) : FnOk P w K mg base CX0 1 f fd ["pile", "size"] spTk := by
  refine F.ok scTake (fun vs H Q E h => ?_) (fun cdv A outer s H vs Q E hr h => ?_)
  · obtain ⟨c, k, z, rfl, _⟩ := h
    rfl
  · refine ⟨_, pss_cons (ps_set (i := 2) scTake.nd rfl (.inl rfl) (pe_op op_mod (pe_ix ix_list (pv 0) pe_int (fun _ _ => rfl)) (pv 1)))
      (pss_cons (ps_asg (pe_op op_fdivW (pe_ix ix_list (pv 0) pe_int (fun _ _ => rfl)) (pv 1)) (pg_sub (pv 0) pe_int set_list))
        (pss_one (ps_ret (pv 2)))), ?_⟩
    obtain ⟨a, n, z, rfl, hl, h0, h1, q⟩ := h
    refine ⟨_, rfl, a, [.int n], 0, _, rfl, rfl, SqL.of hl, rfl, _, rfl, n, z, rfl, rfl, h0, ?_⟩
    refine ⟨_, rfl, a, [.int n], 0, _, rfl, rfl, SqL.of hl, rfl, _, rfl, n, z, rfl, rfl, wide_div h0 h1 (by decide) (by decide), ?_⟩
    refine ⟨_, rfl, a, [.int n], 0, 0, rfl, rfl, hl, rfl, ?_⟩
    refine ⟨_, rfl, ?_⟩
    exact q _ _ (Int.emod_nonneg n (by omega)) (Int.emod_lt_of_pos n h0)
theorem tk_in {Hc : Hp} {p : Addr} {z : Int} {Q : VK} {E : XK} (hp : ∃ n, Hc p = some (.lst [.int n])) (h0 : 0 < z) (h1 : z.natAbs < 2 ^ 900) (q : ∀ d H', 0 ≤ d → d < z → Keep p Hc H' → Q (.int d) H') : spTk ([.ref p, .int z] ++ []) Hc Q E :=
  let ⟨n, hp⟩ := hp
  ⟨p, n, z, rfl, hp, h0, h1, fun d m e0 e1 => q d _ e0 e1 ⟨fun b o hb e => by rw [upd_ne hb]; exact e, m, upd_same⟩⟩
theorem pick_in {σ : L2.St} {Hc : Hp} {p : Addr} {l : List V} {z : Int} {Q : VK} (hσ : σ[0]? = some (some (.ref p))) (hp : ∃ n, Hc p = some (.lst [.int n])) (hz : z = l.length) (h0 : 0 < z) (h1 : l.length ≤ 1000)
    (q : ∀ y H', y ∈ l → Keep p Hc H' → Q y H') : l.length ≤ sizeLine ∧ ∀ L, Hc L = none → tCall spTk [] E0 (tCons (tVar 0) (tCons (tC (.int z)) tNil)) σ (upd Hc L (.lst l)) fun y H2 => rIxL K (.ref L) y H2 Q := by
  refine ⟨by rw [sizeLine_eq]; omega, fun L hL => ⟨_, hσ, ?_⟩⟩
  have s1 := same_upd (o := .lst l) hL
  have nL : L ≠ p := fun e => by obtain ⟨n, hp⟩ := hp; rw [e, hp] at hL; cases hL
  show spTk ([.ref p, .int z] ++ []) (upd Hc L (.lst l)) (fun y H2 => rIxL K (.ref L) y H2 Q) E0
  refine tk_in (let ⟨n, hp⟩ := hp; ⟨n, s1 _ _ hp⟩) h0 (Nat.lt_of_le_of_lt (by omega : z.natAbs ≤ 1000) (Nat.lt_of_lt_of_le (by decide : 1000 < 2 ^ 10) (Nat.pow_le_pow_right (by decide) (by decide)))) fun d H' g0 g1 k => ?_
  obtain ⟨y, hy, ym⟩ := drawn_at (l := l) g0 (by omega)
  exact ⟨L, l, d, y, rfl, rfl, SqL.of (k.1 _ _ nL upd_same), hy, q y H' ym ((Keep.of s1 hp).trans k)⟩
def lastE (a : Ent4) : List Ent4 → Ent4
  | [] => a
  | e :: r => lastE e r
theorem lastE_snoc (e : Ent4) : ∀ (es : List Ent4) (a : Ent4), lastE a (es ++ [e]) = e
  | [], _ => rfl
  | b :: r, _ => lastE_snoc e r b
theorem good_snoc {e : Ent4} : ∀ {es : List Ent4} {a : Ent4}, Good a es → okE e (lastE a es) = true → (∀ x ∈ lessE e (lastE a es), x.natAbs < 32 ^ 30) → Good a (es ++ [e])
  | [], _, _, h1, h2 => ⟨h1, h2, True.intro⟩
  | b :: r, _, h, h1, h2 => ⟨h.1, h.2.1, good_snoc h.2.2 h1 h2⟩
/-- an entry of small numbers -/
def Sml (e : Ent4) (n : Int) : Prop := 0 ≤ e.1 ∧ e.1 ≤ n ∧ 0 ≤ e.2.1 ∧ e.2.1 ≤ n ∧ 0 ≤ e.2.2.1 ∧ e.2.2.1 < 10 ^ 29 ∧ 0 ≤ e.2.2.2 ∧ e.2.2.2 < 10 ^ 29 + 50
theorem big30 : (32 : Nat) ^ 30 = 1427247692705959881058285969449495136382746624 := by decide
theorem sml_less {e a : Ent4} {n m : Int} (h1 : Sml e n) (h2 : Sml a m) (hn : n ≤ 1000) (hm : m ≤ 1000) : ∀ x ∈ lessE e a, x.natAbs < 32 ^ 30 := by
  obtain ⟨e1, e2, e3, e4⟩ := e
  obtain ⟨a1, a2, a3, a4⟩ := a
  unfold Sml at h1 h2
  dsimp only at h1 h2
  intro x hx
  rw [big30]
  simp only [lessE, List.mem_cons, List.not_mem_nil, or_false] at hx
  rcases hx with rfl | rfl | rfl | rfl <;> omega
def spLE (K : PySem.W.Frag) : Sp := fun vs H Q _ => ∃ p, vs = [.ref p] ∧ (∃ n, H p = some (.lst [.int n])) ∧ ∀ H' r us es, Keep p H H' → H' r = some (.lst us) → Ents K H' us es → Good ent0 es → es.length ≤ 12 → Q (.ref r) H'
theorem scLE : FnScope ["pile", "found", "at", "turn", "begin", "most", "first"] ["pile"] (defScope sLE) := ⟨rfl, rfl, rfl, by decide +kernel, rfl, by decide +kernel, by decide +kernel⟩
theorem ok_LE {f fK : Addr} {fd dK : FuncData} (F : Fun K "_law_entries" "_law_entries" sLE f fd) (T : Mp mg) (FK : Fun K "_law_take" "_law_take" sTake fK dK) (gK : mg "_law_take" = some (.ref fK)) (bK : L2.Binds K dK ["pile", "size"] []) : FnOk P w K mg base CX0 2 f fd ["pile"] (spLE K) := by
  have GK : FnOk P w K mg base CX0 1 fK dK ["pile", "size"] spTk := ok_takeW FK
  refine F.ok scLE (fun vs H Q E h => ?_) (fun cdv A outer s H vs Q E hr h => ?_)
  · obtain ⟨p, rfl, _⟩ := h
    rfl
  · refine ⟨_, (pss_cons (ps_set (i := 1) scLE.nd rfl (.inl rfl) (pe_lst pa_nil))
        (pss_cons (ps_set (i := 2) scLE.nd rfl (.inl rfl) pe_int)
        (pss_cons (ps_for PassesOwn.never rfl (pi_range1 (by rfl) T.range_ (pa_cons (pe_call GK hr (by rfl) gK FK.kp bK .nil pass0 (pa_cons (pv 0) (pa_cons pe_int pa_nil))) pa_nil)) (pg_name (i := 3) scLE.nd rfl (.inl rfl)) (pss_cons (ps_set (i := 4) scLE.nd rfl (.inl rfl) (pe_op op_add (pv 2) (pe_ix ix_list (pe_lst (pa_cons pe_int (pa_cons pe_int (pa_cons (pe_call GK hr (by rfl) gK FK.kp bK .nil pass0 (pa_cons (pv 0) (pa_cons pe_int pa_nil))) pa_nil)))) (pe_call GK hr (by rfl) gK FK.kp bK .nil pass0 (pa_cons (pv 0) (pa_cons pe_int pa_nil))) (fun _ _ => rfl))))
        (pss_cons (ps_set (i := 2) scLE.nd rfl (.inl rfl) (pe_op op_add (pe_op op_add (pv 4) pe_int) (pe_ix ix_list (pe_lst (pa_cons pe_int (pa_cons (pe_call GK hr (by rfl) gK FK.kp bK .nil pass0 (pa_cons (pv 0) (pa_cons pe_int pa_nil))) pa_nil))) (pe_call GK hr (by rfl) gK FK.kp bK .nil pass0 (pa_cons (pv 0) (pa_cons pe_int pa_nil))) (fun _ _ => rfl))))
        (pss_cons (ps_set (i := 5) scLE.nd rfl (.inl rfl) (pe_ix ix_list (pe_lst (pa_cons pe_int (pa_cons pe_int (pa_cons (pe_op op_pow pe_int pe_int) (pa_cons (pe_op op_pow pe_int pe_int) pa_nil))))) (pe_call GK hr (by rfl) gK FK.kp bK .nil pass0 (pa_cons (pv 0) (pa_cons pe_int pa_nil))) (fun _ _ => rfl)))
        (pss_cons (ps_set (i := 6) scLE.nd rfl (.inl rfl) (pe_call GK hr (by rfl) gK FK.kp bK .nil pass0 (pa_cons (pv 0) (pa_cons (pv 5) pa_nil))))
        (pss_one (ps_expr (pe_bm PySem.F.plainAttrs_list PySem.F.slot_list_append PySem.F.type_list_append mt_append (pv 1) (pa_cons (pe_tup (pa_cons (pv 4) (pa_cons (pv 2) (pa_cons (pv 6) (pa_cons (pe_op op_add (pv 6) (pe_call GK hr (by rfl) gK FK.kp bK .nil pass0 (pa_cons (pv 0) (pa_cons pe_int pa_nil)))) pa_nil))))) pa_nil)))))))))
        (pss_one (ps_ret (pv 1)))))), ?_⟩
    obtain ⟨p, rfl, hp, q⟩ := h
    walk_at "rd"
    refine ⟨by decide, fun D hD => ?_⟩
    have s1 := same_upd (o := .lst []) hD
    have npD : D ≠ p := fun e => by obtain ⟨n, hp⟩ := hp; rw [e, hp] at hD; cases hD
    have hd1 : upd H D (.lst []) D = some (.lst []) := upd_same
    have hp1 : ∃ n, upd H D (.lst []) p = some (.lst [.int n]) := let ⟨n, hp⟩ := hp; ⟨n, s1 _ _ hp⟩
    generalize upd H D (HO.lst []) = H1 at *
    walk_at "rd"
    refine tk_in hp1 (by decide) (by decide) fun d0 H2 g0 g1 k1 => ?_
    have hd2 := k1.1 _ _ npD hd1
    have kp : Keep p H H2 := (Keep.of s1 hp).trans k1
    refine ⟨d0, rfl, by omega, by omega, for_range (lo := 0) (n := d0.toNat) (fun i σ H' => Keep p H H' ∧ ∃ (at0 : Int) (us : List V) (es : List Ent4) (o3 o4 o5 o6 : Option V), σ = [some (.ref p), some (.ref D), some (.int at0), o3, o4, o5, o6] ∧ H' D = some (.lst us) ∧ Ents K H' us es ∧ Good ent0 es ∧ es.length = i ∧ at0 = (lastE ent0 es).2.1 ∧ Sml (lastE ent0 es) (53 * i)) ⟨kp, 0, [], [], none, none, none, none, rfl, hd2, .nil, True.intro, rfl, rfl, by unfold Sml; decide⟩ ?_ ?_⟩
    · rintro i σ H3 hi ⟨kp3, at0, us, es, o3, o4, o5, o6, rfl, hd, hus, hg, hlen, hat, hsm⟩
      refine rg_name ?_
      walk_at "rd"
      refine tk_in kp3.2 (by decide) (by decide) fun a1 H4 g2 g3 k4 => ?_
      refine pick_in rfl k4.2 rfl (by decide) (by show 3 ≤ 1000; decide) fun y H5 ym k5 => ?_
      obtain ⟨b, rfl, b0, b1⟩ : ∃ b : Int, y = .int b ∧ 0 ≤ b ∧ b ≤ 39 := by
        simp only [List.mem_cons, List.not_mem_nil, or_false] at ym
        rcases ym with rfl | rfl | rfl
        · exact ⟨0, rfl, by decide, by decide⟩
        · exact ⟨1, rfl, by decide, by decide⟩
        · exact ⟨a1, rfl, g2, by omega⟩
      walk_at "rd"
      refine tk_in k5.2 (by decide) (by decide) fun a2 H6 g4 g5 k6 => ?_
      refine pick_in rfl k6.2 rfl (by decide) (by show 2 ≤ 1000; decide) fun y H7 ym k7 => ?_
      obtain ⟨c, rfl, c0, c1⟩ : ∃ c : Int, y = .int c ∧ 0 ≤ c ∧ c ≤ 11 := by
        simp only [List.mem_cons, List.not_mem_nil, or_false] at ym
        rcases ym with rfl | rfl
        · exact ⟨0, rfl, by decide, by decide⟩
        · exact ⟨a2, rfl, g4, by omega⟩
      walk_at "rd"
      refine pick_in rfl k7.2 rfl (by decide) (by show 4 ≤ 1000; decide) fun y H8 ym k8 => ?_
      obtain ⟨m, rfl, m0, m1⟩ : ∃ m : Int, y = .int m ∧ 0 < m ∧ m ≤ 10 ^ 29 := by
        simp only [List.mem_cons, List.not_mem_nil, or_false] at ym
        rcases ym with rfl | rfl | rfl | rfl
        · exact ⟨_, rfl, by decide, by decide⟩
        · exact ⟨_, rfl, by decide, by decide⟩
        · exact ⟨_, rfl, by decide, by decide⟩
        · exact ⟨_, rfl, by decide, by decide⟩
      walk_at "rd"
      refine tk_in k8.2 m0 (Nat.lt_of_lt_of_le (by omega : m.natAbs < 2 ^ 200) (Nat.pow_le_pow_right (by decide) (by decide))) fun f0 H9 g6 g7 k9 => ?_
      have ka := (((k4.trans k5).trans k6).trans k7).trans (k8.trans k9)
      have hd9 := ka.1 _ _ npD hd
      walk_at "rd"
      refine rv_app rfl hd9 ?_
      walk_at "rd"
      refine tk_in k9.2 (by decide) (by decide) fun l0 H10 g8 g9 k10 => ?_
      walk_at "rd"
      refine ⟨by show 4 ≤ sizeLine; decide, fun U hU => ?_⟩
      have kb := ka.trans k10
      have sU := same_upd (o := .tup [.int (at0 + b), .int (at0 + b + 1 + c), .int f0, .int (f0 + l0)]) hU
      have hdU := sU _ _ (kb.1 _ _ npD hd)
      obtain ⟨e, he⟩ : ∃ e : Ent4, e = (at0 + b, at0 + b + 1 + c, f0, f0 + l0) := ⟨_, rfl⟩
      have hv : EntR K (upd H10 U (.tup [.int (at0 + b), .int (at0 + b + 1 + c), .int f0, .int (f0 + l0)])) (.ref U) e := ⟨U, rfl, by rw [he]; exact .inl (.inl upd_same)⟩
      have hn : (i : Int) < 13 := by omega
      have he1 : e.1 = at0 + b := by rw [he]
      have he2 : e.2.1 = at0 + b + 1 + c := by rw [he]
      have he3 : e.2.2.1 = f0 := by rw [he]
      have he4 : e.2.2.2 = f0 + l0 := by rw [he]
      have hsm2 := hsm
      unfold Sml at hsm2
      have hse : Sml e (53 * ((i + 1 : Nat) : Int)) := by
        unfold Sml
        rw [he1, he2, he3, he4]
        omega
      have hok : okE e (lastE ent0 es) = true := by
        unfold okE
        rw [he1, he2, he3, he4, ← hat]
        simp only [Bool.not_eq_true', Bool.or_eq_false_iff, decide_eq_false_iff_not]
        omega
      have key : ∀ (v : V) (e : Ent4), EntR K H3 v e → H3 p = some (.lst [.int 0]) ∨ True → EntR K (upd H10 U (.tup [.int (at0 + b), .int (at0 + b + 1 + c), .int f0, .int (f0 + l0)])) v e := fun v e ⟨u, e1, h⟩ _ => ⟨u, e1, by
        refine SqT.keep sU ?_
        rcases h with (h | ⟨z, h⟩) | h
        · exact .inl (.inl (kb.1 _ _ (fun e => by obtain ⟨n, hp⟩ := kp3.2; rw [e, hp] at h; cases h) h))
        · exact .inl (.inr ⟨z, kb.1 _ _ (fun e => by obtain ⟨n, hp⟩ := kp3.2; rw [e, hp] at h; cases h) h⟩)
        · exact .inr h⟩
      refine ⟨us, .ref U, rfl, hdU, ?_, ?_⟩
      · rw [Paired.length hus, sizeLine_eq]
        omega
      · refine ⟨⟨fun b o hb z => ?_, ?_⟩, at0 + b + 1 + c, us ++ [.ref U], es ++ [e], _, _, _, _, rfl, upd_same, ?_, good_snoc hg hok (sml_less hse hsm (by omega) (by omega)), by rw [List.length_append, hlen]; rfl, by rw [lastE_snoc]; exact he2.symm, by rw [lastE_snoc]; exact hse⟩
        · rw [upd_ne (fun e => by rw [e, hD] at z; cases z)]
          exact sU _ _ (kb.1 _ _ hb (kp3.1 _ _ hb z))
        · obtain ⟨n, hn⟩ := kb.2
          exact ⟨n, (upd_ne npD.symm).trans (sU _ _ hn)⟩
        · exact ents_snoc (Paired.mapP hus fun _ _ h => (key _ _ h (.inr True.intro)).put hdU) (hv.put hdU)
    · rintro σ H3 ⟨kp3, at0, us, es, o3, o4, o5, o6, rfl, hd, hus, hg, hlen, hat, hsm⟩
      walk_at "rd"
      exact q H3 D us es kp3 hd hus hg (by omega)
end
end My

namespace My
open PySem PySem.Spec PyProof.Rows L2 XR SX RZ
abbrev sLaw : Stmt := top 34
section
variable {P : Program} {w : World} {K : PySem.W.Frag} {mg : Str → Option Value} {base : Heap} {cs : Nat → Addr} {cL : Addr}
local macro_rules | `(tactic| walk_at "rd1") => `(tactic| first
  | with_reducible refine rs_seq ?_
  | with_reducible refine rs_asg ?_
  | with_reducible refine rs_ret ?_
  | with_reducible refine rs_if ?_
  | with_reducible refine rs_next ?_
  | with_reducible refine rg_name ?_
  | ((with_reducible refine rv_var (v := ?vv) ?hv ?_); (case hv => exact rfl))
  | with_reducible refine rv_c ?_
  | with_reducible refine rv_op ?_
  | with_reducible refine rv_cons ?_
  | with_reducible refine rv_nil ?_
  | with_reducible refine rv_rI0 ?_
  | ((with_reducible refine rv_rI ?hc ?_); (case hc => walk_at "side"))
  | ((with_reducible refine rv_eq ?hc ?_); (case hc => exact rfl))
  | ((with_reducible refine rv_ne ?hc ?_); (case hc => exact rfl))
  | with_reducible refine rv_test ?_
  | with_reducible refine rv_bl ?_
  | with_reducible refine rv_cb ?_
  | with_reducible refine rv_call ?_
  | with_reducible refine rv_tup ?_
  | with_reducible refine rv_lst ?_
  | with_reducible refine rv_tB ?_
  | with_reducible refine rv_or ?_
  | with_reducible refine rv_and ?_
  | with_reducible refine rv_not ?_
  | with_reducible refine rv_andV ?_
  | with_reducible refine rv_orV ?_
  | with_reducible refine rv_notV ?_
  | with_reducible refine rv_ifE ?_
  | with_reducible refine rs_drop ?_
  | with_reducible refine iteT ?_
  | with_reducible refine iteF ?_
  | with_reducible refine ro_nx ?_
  | with_reducible refine ro_rt ?_
  | with_reducible refine ro_ct ?_
  | with_reducible refine ro_bk ?_)
local macro_rules | `(tactic| walk_at "rd") => `(tactic| repeat walk_at "rd1")
local macro_rules | `(tactic| walk_at "side") => `(tactic| first
  | assumption
  | exact (show CPow _ _ from ⟨by decide, by decide, by decide⟩)
  | exact (show CMul _ _ from .inl ⟨by decide, by decide⟩)
  | exact (show CMul _ _ from .inr ⟨by decide, by decide⟩)
  | (show (0 : Int) < _; decide)
  | (show CMul _ _; first | exact .inl ⟨by omega, by omega⟩ | exact .inr ⟨by omega, by omega⟩)
  | omega)
local macro_rules | `(tactic| walk_at "rd1") => `(tactic| first
  | with_reducible refine rs_for ?_
  | with_reducible refine ri_zip ?_
  | with_reducible refine ri_list ?_
  | with_reducible refine ri_rng1 ?_
  | with_reducible refine rv_lc ?_
  | with_reducible refine rv_xfl ?_
  | with_reducible refine rs_par3 ?_
  | with_reducible refine rv_yes ?_
  | with_reducible refine rg_tup ?_
  | with_reducible refine rg_cons ?_
  | with_reducible refine rg_nil ?_)
local macro_rules | `(tactic| walk_at "rd1") => `(tactic| first
  | with_reducible refine ri_str ?_
  | with_reducible refine rv_sl ?_
  | with_reducible refine rv_part ?_
  | with_reducible refine rv_nopart ?_
  | with_reducible refine rv_callS ?_
  | with_reducible refine rv_chain ?_
  | with_reducible refine rv_leS ?_
  | with_reducible refine rv_inS ?_)
end
section
variable {X : Cx} {CX : CXT} {k n : Nat} {f : Addr} {fd : FuncData} {ps ks : List Str} {sp : Sp} {E : XK} {x : Str} {p pos : Pos} {kws : List Keyword} {tk : TA} {g : List Value → List Value → List Value} {gV : List V → List V → List V}
/-- f(k = v, ..) -/
theorem pe_callN0 (F : FnOk X.prog X.w X.K X.mg X.base CX k f fd ps sp) (hr : Room k X.A) (hg : Gl X x) (hm : X.mg x = some (.ref f)) (hk : PySem.W.keepIn X.K (.ref f) = true) (hb : KBn X.K fd ps 0 ks g gV) (hx : Passes CX X E)
    (hkw : PK X kws tk) (hall : (backToKw pos (keywordEach kws X.env)).all (·.1.isSome) = true := by rfl) (hks : (backToKw pos (keywordEach kws X.env)).filterMap (·.1) = ks := by rfl)
    (hdb : (x == ("__debug__" : Str)) = false := by decide)
    (hpl : ((backTo pos (starEach [] X.env)).any (·.1) || (backToKw pos (keywordEach kws X.env)).any (·.1.isNone)) = false := by rfl) :
    PE X (.Call (.Name x p) [] kws pos) (tCallN 0 ks.length sp gV E tNil tk) := by
  refine ⟨fun pins s σ H Q I h => ?_⟩
  refine wpAny_Call_Name_kw (ld_glob I hg hm ?_ hdb)
  refine PySem.W.callWith_KW0 (h₀ := X.base) I.ok.mod.kin hk hall ?_ hpl
  refine thn (hkw.run pos pins s σ H _ I h) fun ws s2 ⟨zs, H2, I2, rz, l1, l2, q2⟩ => ⟨I2.kIn, ?_⟩
  rw [hks]
  exact run_fnN (us := []) F hr hb hx I2 .nil rz l1 l2 q2
end
theorem rv_callN {n m : Nat} {sp : Sp} {gV : List V → List V → List V} {E : XK} {t tk : TA} {σ : L2.St} {H : Hp} {Q : VK} (q : t σ H fun vs H1 => tk σ H1 fun zs H2 => vs.length = n ∧ zs.length = m ∧ sp (gV vs zs) H2 Q E) : tCallN n m sp gV E t tk σ H Q := q
section
variable {P : Program} {w : World} {K : PySem.W.Frag} {mg : Str → Option Value} {base : Heap} {cs : Nat → Addr} {cL : Addr}
local macro_rules | `(tactic| walk_at "rd1") => `(tactic| first
  | with_reducible refine rs_seq ?_
  | with_reducible refine rs_asg ?_
  | with_reducible refine rs_ret ?_
  | with_reducible refine rs_if ?_
  | with_reducible refine rs_next ?_
  | with_reducible refine rg_name ?_
  | ((with_reducible refine rv_var (v := ?vv) ?hv ?_); (case hv => exact rfl))
  | with_reducible refine rv_c ?_
  | with_reducible refine rv_op ?_
  | with_reducible refine rv_cons ?_
  | with_reducible refine rv_nil ?_
  | with_reducible refine rv_rI0 ?_
  | ((with_reducible refine rv_rI ?hc ?_); (case hc => walk_at "side"))
  | ((with_reducible refine rv_eq ?hc ?_); (case hc => exact rfl))
  | ((with_reducible refine rv_ne ?hc ?_); (case hc => exact rfl))
  | with_reducible refine rv_test ?_
  | with_reducible refine rv_bl ?_
  | with_reducible refine rv_cb ?_
  | with_reducible refine rv_call ?_
  | with_reducible refine rv_tup ?_
  | with_reducible refine rv_lst ?_
  | with_reducible refine rv_tB ?_
  | with_reducible refine rv_or ?_
  | with_reducible refine rv_and ?_
  | with_reducible refine rv_not ?_
  | with_reducible refine rv_andV ?_
  | with_reducible refine rv_orV ?_
  | with_reducible refine rv_notV ?_
  | with_reducible refine rv_ifE ?_
  | with_reducible refine rs_drop ?_
  | with_reducible refine iteT ?_
  | with_reducible refine iteF ?_
  | with_reducible refine ro_nx ?_
  | with_reducible refine ro_rt ?_
  | with_reducible refine ro_ct ?_
  | with_reducible refine ro_bk ?_)
local macro_rules | `(tactic| walk_at "rd") => `(tactic| repeat walk_at "rd1")
local macro_rules | `(tactic| walk_at "side") => `(tactic| first
  | assumption
  | exact (show CPow _ _ from ⟨by decide, by decide, by decide⟩)
  | exact (show CMul _ _ from .inl ⟨by decide, by decide⟩)
  | exact (show CMul _ _ from .inr ⟨by decide, by decide⟩)
  | (show (0 : Int) < _; decide)
  | (show CMul _ _; first | exact .inl ⟨by omega, by omega⟩ | exact .inr ⟨by omega, by omega⟩)
  | omega)
local macro_rules | `(tactic| walk_at "rd1") => `(tactic| first
  | with_reducible refine rs_for ?_
  | with_reducible refine ri_zip ?_
  | with_reducible refine ri_list ?_
  | with_reducible refine ri_rng1 ?_
  | with_reducible refine rv_lc ?_
  | with_reducible refine rv_xfl ?_
  | with_reducible refine rs_par3 ?_
  | with_reducible refine rv_yes ?_
  | with_reducible refine rg_tup ?_
  | with_reducible refine rg_cons ?_
  | with_reducible refine rg_nil ?_)
local macro_rules | `(tactic| walk_at "rd1") => `(tactic| first
  | with_reducible refine ri_str ?_
  | with_reducible refine rv_sl ?_
  | with_reducible refine rv_part ?_
  | with_reducible refine rv_nopart ?_
  | with_reducible refine rv_callS ?_
  | with_reducible refine rv_chain ?_
  | with_reducible refine rv_leS ?_
  | with_reducible refine rv_inS ?_)
theorem kb1 {nm : Str} {st : Stmt} {f : Addr} {fd : FuncData} {x : Str} (F : Fun K nm nm st f fd) (h : ∀ (kV doc pm : Value) (an : Option Addr) (cdv ct a : Value), bindArgs (PySem.W.fnOf nm nm (defArgs st) (defBody st) (defScope st) .none kV doc pm an cdv ct) ⟨[], [(x, a)]⟩ = pure [(x, a)]) : KBn K fd [x] 0 [x] (fun us ws => us ++ ws) (fun vs zs => vs ++ zs) := by
  obtain ⟨oc, od, kV, doc, pm, an, cdv, ct, osl, rfl, lk, hcd⟩ := F.ex
  refine ⟨fun s us ws X l1 l2 => ?_, fun r1 r2 => r1.append r2⟩
  match us, ws, l1, l2 with
  | [], [a], _, _ => exact .of_eq (h _ _ _ _ _ _ _)
theorem joinL_sign {n : Nat} {s : List Nat} (hs : ∀ c ∈ s, c < n) : ∀ {l : List (List Nat)}, (∀ t ∈ l, ∀ c ∈ t, c < n) → ∀ c ∈ TL.joinL s l, c < n
  | [], _, c, h => nomatch h
  | [p], hl, c, h => hl p List.mem_cons_self c h
  | p :: q :: r, hl, c, h => by
    rw [joinL_cons (List.cons_ne_nil _ _), List.mem_append, List.mem_append] at h
    rcases h with h | h | h
    · exact hl p List.mem_cons_self c h
    · exact hs c h
    · exact joinL_sign hs (fun t ht => hl t (List.mem_cons_of_mem _ ht)) c h
theorem mapT_sign (es : List Ent4) : ∀ c ∈ mapT es, c < 128 := by
  refine joinL_sign (by decide) fun t ht => ?_
  rw [rowsT_eq] at ht
  obtain ⟨i, _, rfl⟩ := List.mem_map.mp ht
  refine joinL_sign (by decide) fun u hu => ?_
  obtain ⟨x, _, rfl⟩ := List.mem_map.mp hu
  exact fun c hc => (numT_sign x c hc).2.2
theorem mapT_len {es : List Ent4} (h : Fits ent0 es) : (mapT es).length ≤ es.length * 129 := by
  have := joinL_len [59] (rowsT es ent0) 128 fun t ht => by
    rw [rowsT_eq] at ht
    obtain ⟨i, hi, rfl⟩ := List.mem_map.mp ht
    have hi := List.mem_range.mp hi
    have he : es[i]? = some es[i] := List.getElem?_eq_getElem hi
    have hg : es.getD i ent0 = es[i] := by rw [List.getD_eq_getElem?_getD, he]; rfl
    unfold rowAt
    rw [hg]
    exact row_len (fits_at h he)
  rw [rowsT_eq, List.length_map, List.length_range, ← rowsT_eq] at this
  exact this
def signZ : Str := "0123-v w;A_"
def signL : List Nat := [48, 49, 50, 51, 45, 118, 32, 119, 59, 65, 95]
theorem signZ_eq : signZ = S signL := by decide +kernel
/-- a text that may be judged -/
def OkT (t : List Nat) : Prop := t.length ≤ 3999 ∧ ∀ c ∈ t, c < 128
theorem ok_app {t u : List Nat} (a : ∀ c ∈ t, c < 128) (b : ∀ c ∈ u, c < 128) : ∀ c ∈ t ++ u, c < 128 := fun c h => (List.mem_append.mp h).elim (a c) (b c)
theorem OkT.app {n m : Nat} {t u : List Nat} (ht : t.length ≤ n) (hu : u.length ≤ m) (hnm : n + m ≤ 3999) (a : ∀ c ∈ t, c < 128) (b : ∀ c ∈ u, c < 128) : OkT (t ++ u) := ⟨by rw [List.length_append]; omega, ok_app a b⟩
theorem lt_drop {t : List Nat} {n : Nat} (h : ∀ c ∈ t, c < 128) : ∀ c ∈ t.drop n, c < 128 := fun c hc => h c (List.mem_of_mem_drop hc)
theorem lt_take {t : List Nat} {n : Nat} (h : ∀ c ∈ t, c < 128) : ∀ c ∈ t.take n, c < 128 := fun c hc => h c (List.mem_of_mem_take hc)
/-- the numbers of the fixed texts -/
def fixA : List (List Nat) := ["0 1 0 0", "0 1 0 0;", "0 1 1 0", "00 1 0 0", "-0 1 0 0", "0 1 0 vvvvvvvvvvvvvvvvvvvvvvvvvvvvvv", "1 1 0 0", "0 1 0 1111111111111111111111111111111"].map fun z : String => (Str.ofString z).cps.toList
def fixB : List (List Nat) := ["", " ", "0 1 0 0;0 1 0 0", "0 1 0 0;1 1 -1 0", "5 3 2 1"].map fun z : String => (Str.ofString z).cps.toList
theorem fix_eq : (([V.str "0 1 0 0", V.str "0 1 0 0;", V.str "0 1 1 0", V.str "00 1 0 0", V.str "-0 1 0 0", V.str (("0 1 0 " : Str) ++ PySem.Txt.mul "v" 30), V.str "1 1 0 0"] ++ [V.str (("0 1 0 " : Str) ++ PySem.Txt.mul "1" 31)]) ++ [V.str "", V.str " ", V.str "0 1 0 0;0 1 0 0", V.str "0 1 0 0;1 1 -1 0", V.str "5 3 2 1"] : List V) = (fixA ++ fixB).map fun t => V.str (S t) := by decide +kernel
theorem fix_ok : ((fixA ++ fixB).all fun t => decide (t.length ≤ 3999) && t.all fun c => decide (c < 128)) = true := by decide +kernel
theorem fix_okT : ∀ t ∈ fixA ++ fixB, OkT t := fun t ht => by
  have := List.all_eq_true.mp fix_ok t ht
  rw [Bool.and_eq_true] at this
  exact ⟨of_decide_eq_true this.1, fun c hc => of_decide_eq_true (List.all_eq_true.mp this.2 c hc)⟩
theorem all_rep (n : Nat) : (List.replicate n true).all id = true := by simp
/-- texts judged, one behind the other -/
theorem lc_good {ts : List (List Nat)} {H : Hp} {C D : Addr} {i : Nat} {σ : L2.St} {vs : List Nat} {Qd : Hp → Prop} (hC : H C = some (.lst (ts.map fun t => V.str (S t)))) (hD : H D = none) (hok : ∀ t ∈ ts, OkT t) (hl : ts.length ≤ 100)
    (hσ : i < (wipe σ vs).length) (hw : ∀ x : V, wipe ((wipe σ vs).set i (some x)) vs = wipe σ vs) (hd : ∀ H', Same H H' → H' D = some (.lst ((List.replicate ts.length true).map V.bl)) → Qd H') :
    ∃ W : Nat → Nat → Hp → Prop, (∃ m, W 0 m (upd H D (.lst []))) ∧ ∀ i' m H, W i' m H →
      ((Itl K C).stop i' H ∧ Qd H) ∨ ((Itl K C).go i' H ∧ ∃ Nx : Hp → Prop, (∀ H', Nx H' → ∃ m', m' < m ∧ W (i' + 1) m' H') ∧ ∀ x H', (Itl K C).yld i' H x H' → gName i x (wipe σ vs) H' fun σ2 H2 => wipe σ2 vs = wipe σ vs ∧ tYes σ2 H2 fun b H3 =>
        if b = true then tCall spLG [] E0 (tCons (tVar i) tNil) σ2 H3 fun y H4 => ∃ acc, H4 D = some (.lst acc) ∧ acc.length < sizeLine ∧ Nx (upd H4 D (.lst (acc ++ [y]))) else Nx H3) := by
  refine lc_it (walk_list (xs := ts.map fun t => V.str (S t))) (fun n H' => Same H H' ∧ H' D = some (.lst ((List.replicate n true).map V.bl))) ⟨same_upd hD, upd_same⟩ (fun _ _ _ ⟨s, _⟩ => SqL.of (s _ _ hC)) ?_ ?_
  · rintro n x H' H2 hn ⟨sm, hd'⟩ ⟨rfl, hx⟩
    rw [List.getElem?_map] at hx
    cases hu : ts[n]? with
    | none => rw [hu] at hx; cases hx
    | some t =>
      rw [hu] at hx
      cases hx
      have ht := hok t (List.mem_of_getElem? hu)
      have hn' : n < ts.length := by simpa using hn
      refine rg_name ⟨hw _, ?_⟩
      refine rv_yes ?_
      refine iteT ?_
      refine rv_call ?_
      refine rv_cons ?_
      refine ⟨_, by rw [List.getElem?_set_self hσ], ?_⟩
      refine ⟨t, rfl, ht.1, ht.2, fun H3 s3 => ?_⟩
      refine ⟨_, s3 _ _ hd', ?_, same_put hD (sm.trans s3), ?_⟩
      · rw [List.length_map, List.length_replicate, sizeLine_eq]
        omega
      · rw [upd_same, List.replicate_succ', List.map_append]
        rfl
  · rintro H' ⟨sm, hd'⟩
    rw [List.length_map] at hd'
    exact hd H' sm hd'
theorem rv_sign {d : Int} {H : Hp} {Q : VK} (h0 : 0 ≤ d) (h1 : d < 11) (q : ∀ c, c < 128 → Q (.str (S [c])) H) : rIxS (.str signZ) (.int d) H Q := by
  obtain ⟨k, rfl⟩ := Int.eq_ofNat_of_zero_le h0
  have hk : k < signL.length := by show k < 11; omega
  rw [signZ_eq]
  refine at_S (c := signL[k]) (List.getElem?_eq_getElem hk) (by decide) (q _ ?_)
  exact (show ∀ c ∈ signL, c < 128 by decide) _ (List.getElem_mem hk)
def spLaw (K : PySem.W.Frag) : Sp := fun vs H Q _ => ∃ (a : Addr) (ns : List Int), vs = [.ref a] ∧ SqL K H a (ns.map V.int) ∧ ∀ H', Q (.bl true) H'
theorem scLaw : FnScope ["script", "k", "pile", "some", "text_own", "turn", "at", "sign", "bent", "one", "odd", "found", "error"] ["script"] (defScope sLaw) := ⟨rfl, rfl, rfl, by decide +kernel, rfl, by decide +kernel, by decide +kernel⟩
theorem ok_Law {f fC fE fW fM fR fK fG fA fO : Addr} {fd dC dE dW dM dR dK dG dA dO : FuncData} (F : Fun K "law" "law" sLaw f fd) (M : Mp mg) (T : Ten K mg cs cL) (xn : PySem.W.findIn K (.ref (cs 6)) "at" = some none)
    (FC : Fun K "_law_cell" "_law_cell" sCell fC dC) (gC : mg "_law_cell" = some (.ref fC)) (bC : L2.Binds K dC ["script", "k"] []) (GC : FnOk P w K mg base CX0 2 fC dC ["script", "k"] (spCell K))
    (FE : Fun K "_law_entries" "_law_entries" sLE fE dE) (gE : mg "_law_entries" = some (.ref fE)) (bE : L2.Binds K dE ["pile"] []) (GE : FnOk P w K mg base CX0 2 fE dE ["pile"] (spLE K))
    (FW : Fun K "_law_written" "_law_written" sLW fW dW) (gW : mg "_law_written" = some (.ref fW)) (bW : L2.Binds K dW ["entries_own"] []) (GW : FnOk P w K mg base CX0 3 fW dW ["entries_own"] (spMT K))
    (FM : Fun K "map_text" "map_text" sMT fM dM) (gM : mg "map_text" = some (.ref fM)) (bM : L2.Binds K dM ["entries"] []) (GM : FnOk P w K mg base CX0 2 fM dM ["entries"] (spMT K))
    (FR : Fun K "read_map" "read_map" sRM fR dR) (gR : mg "read_map" = some (.ref fR)) (bR : L2.Binds K dR ["text"] []) (GR : FnOk P w K mg base (L2.CX P w) 4 fR dR ["text"] (spRM K (cs 6)))
    (FK : Fun K "_law_take" "_law_take" sTake fK dK) (gK : mg "_law_take" = some (.ref fK)) (bK : L2.Binds K dK ["pile", "size"] []) (GK : FnOk P w K mg base CX0 1 fK dK ["pile", "size"] spTk)
    (FG : Fun K "_law_good" "_law_good" sLG fG dG) (gG : mg "_law_good" = some (.ref fG)) (bG : L2.Binds K dG ["text_own"] []) (GG : FnOk P w K mg base CX0 6 fG dG ["text_own"] spLG)
    (FA : Fun K "_law_asked" "_law_asked" sLA fA dA) (gA : mg "_law_asked" = some (.ref fA)) (bA : L2.Binds K dA ["text_own"] []) (GA : FnOk P w K mg base CX0 5 fA dA ["text_own"] (spLA K cs))
    (FO : Fun K "_law_only" "_law_only" sOnly fO dO) (gO : mg "_law_only" = some (.ref fO)) (bO : L2.Binds K dO ["error", "word"] []) (GO : FnOk P w K mg base CX0 1 fO dO ["error", "word"] (spOnly K cs)) : FnOk P w K mg base CX0 7 f fd ["script"] (spLaw K) := by
  refine F.ok scLaw (fun vs H Q E h => ?_) (fun cdv A outer s H vs Q E hr h => ?_)
  · obtain ⟨a, ns, rfl, _⟩ := h
    rfl
  · refine ⟨_, (pss_cons (ps_for PassesOwn.never rfl (pi_range1 (by rfl) M.range_ (pa_cons (pe_callB (call_max2 rfl) (by rfl) M.max_ (by decide +kernel) (pa_cons pe_int (pa_cons (pe_callB (call_min2 rfl) (by rfl) M.min_ (by decide +kernel) (pa_cons pe_int (pa_cons (pe_callB call_len_seq (by rfl) M.len_ (by decide +kernel) (pa_cons (pv 0) pa_nil)) pa_nil))) pa_nil))) pa_nil)) (pg_name (i := 1) scLaw.nd rfl (.inl rfl)) (pss_cons (ps_set (i := 2) scLaw.nd rfl (.inl rfl) (pe_lst (pa_cons (pe_call GC (hr.mono (by decide : 2 ≤ 6)) (by rfl) gC FC.kp bC .nil pass0 (pa_cons (pv 0) (pa_cons (pv 1) pa_nil))) pa_nil)))
        (pss_cons (ps_set (i := 3) scLaw.nd rfl (.inl rfl) (pe_call GE (hr.mono (by decide : 2 ≤ 6)) (by rfl) gE FE.kp bE .nil pass0 (pa_cons (pv 2) pa_nil)))
        (pss_cons (ps_set (i := 4) scLaw.nd rfl (.inl rfl) (pe_call GW (hr.mono (by decide : 3 ≤ 6)) (by rfl) gW FW.kp bW .nil pass0 (pa_cons (pv 3) pa_nil)))
        (pss_cons (ps_if (PW.pt (pw_or (pt_cmpR op_ne (pe_call GM (hr.mono (by decide : 2 ≤ 6)) (by rfl) gM FM.kp bM .nil pass0 (pa_cons (pv 3) pa_nil)) (pv 4) (nomark _)) (pw_or (pt_cmpR op_ne (pe_callN0 GM (hr.mono (by decide : 2 ≤ 6)) (by rfl) gM FM.kp (kb1 FM fun _ _ _ _ _ _ _ => rfl) pass0 (pk_cons (pv 3) pk_nil)) (pv 4) (nomark _)) (pw_or1 (pt_cmpR (op_neD hr.units) (pe_callN0 GR (hr.mono (by decide : 4 ≤ 6)) (by rfl) gR FR.kp (kb1 FR fun _ _ _ _ _ _ _ => rfl) passL (pk_cons (pv 4) pk_nil)) (pv 3) (nomark _)))))) (pss_one (ps_ret pe_bl)) pss_nil)
        (pss_one (ps_for PassesOwn.never rfl (pi_range1 (by rfl) M.range_ (pa_cons pe_int pa_nil)) (pg_name (i := 5) scLaw.nd rfl (.inl rfl)) (pss_cons (ps_set (i := 6) scLaw.nd rfl (.inl rfl) (pe_call GK (hr.mono (by decide : 1 ≤ 6)) (by rfl) gK FK.kp bK .nil pass0 (pa_cons (pv 2) (pa_cons (pe_op op_add (pe_callB call_len_str (by rfl) M.len_ (by decide +kernel) (pa_cons (pv 4) pa_nil)) pe_int) pa_nil))))
        (pss_cons (ps_set (i := 7) scLaw.nd rfl (.inl rfl) (pe_ix ix_str pe_str (pe_call GK (hr.mono (by decide : 1 ≤ 6)) (by rfl) gK FK.kp bK .nil pass0 (pa_cons (pv 2) (pa_cons pe_int pa_nil))) (fun _ _ => rfl)))
        (pss_cons (ps_set (i := 8) scLaw.nd rfl (.inl rfl) (pe_lst (pa_cons (pe_op op_addS (pe_op op_addS (pe_slice sl_str (pv 4) po_none (po_some (pv 6))) (pv 7)) (pe_slice sl_str (pv 4) (po_some (pv 6)) po_none)) (pa_cons (pe_op op_addS (pe_slice sl_str (pv 4) po_none (po_some (pv 6))) (pe_slice sl_str (pv 4) (po_some (pe_op op_add (pv 6) pe_int)) po_none)) pa_nil))))
        (pss_cons (ps_expr (pe_bm PySem.F.plainAttrs_list PySem.F.slot_list_append PySem.F.type_list_append mt_append (pv 8) (pa_cons (pe_op op_addS (pe_op op_addS (pe_slice sl_str (pv 4) po_none (po_some (pv 6))) (pv 7)) (pe_slice sl_str (pv 4) (po_some (pe_op op_add (pv 6) pe_int)) po_none)) pa_nil)))
        (pss_one (ps_if (pt_not (pt_val (pe_callB (cr_all rfl) (by rfl) M.all_ (by decide +kernel) (pa_cons (pe_lc (own := [("one", 9)]) (g := (gName 9)) (tt := tYes) (te := (tCall spLG [] E0 (tCons (tVar 9) tNil))) (by rfl) scLaw.nd (pi_list (pe_op op_cat (pv 8) (pe_lst (pa_cons (pe_slice sl_str (pv 4) po_none (po_some (pv 6))) pa_nil)))) (blkOk_by (own := [("one", 9)]) (N := ["script", "k", "pile", "some", "text_own", "turn", "at", "sign", "bent", "one", "odd", "found", "error"]) (sc := defScope sLaw) (by decide +kernel)) (fun _ _ _ _ _ => (pg_name (i := 9) scLaw.nd rfl (.inl rfl))) (fun _ _ _ _ _ => pts_nil) (fun _ _ _ _ _ => (pe_call GG hr (by rfl) gG FG.kp bG .nil pass0 (pa_cons (pv 9) pa_nil)))) pa_nil)))) (pss_one (ps_ret pe_bl)) pss_nil)))))))))))))
        (pss_cons (ps_for PassesOwn.never rfl (pi_list (pe_lst (pa_cons pe_non (pa_cons pe_bl (pa_cons pe_int (pa_cons (pe_tup pa_nil) (pa_cons (pe_lst (pa_cons pe_str pa_nil)) (pa_cons (pe_lst (pa_cons (pe_tup (pa_cons pe_int (pa_cons pe_int (pa_cons pe_int (pa_cons pe_int pa_nil))))) pa_nil)) pa_nil)))))))) (pg_name (i := 10) scLaw.nd rfl (.inl rfl)) (pss_cons (ps_asg (pe_call GA (hr.mono (by decide : 5 ≤ 6)) (by rfl) gA FA.kp bA .nil pass0 (pa_cons (pv 10) pa_nil)) (pg_unl (n := 2) (by rfl) (pgs_cons (pg_name (i := 11) scLaw.nd rfl (.inl rfl)) (pgs_cons (pg_name (i := 12) scLaw.nd rfl (.inl rfl)) pgs_nil))))
        (pss_one (ps_if (PW.pt (pw_or (pt_cmpR op_notN1 (pv 11) pe_non (by rfl)) (pw_or (pt_not (pt_val (pe_call GO (hr.mono (by decide : 1 ≤ 6)) (by rfl) gO FO.kp bO .nil pass0 (pa_cons (pv 12) (pa_cons pe_str pa_nil))))) (pw_or1 (pt_cmpR op_ne (pe_xfl (pv 12)) pe_int (nomark _)))))) (pss_one (ps_ret pe_bl)) pss_nil))))
        (pss_cons (ps_set (i := 3) scLaw.nd rfl (.inl rfl) (pe_lst (pa_cons pe_str (pa_cons pe_str (pa_cons pe_str (pa_cons pe_str (pa_cons pe_str (pa_cons (pe_op op_addS pe_str (pe_op op_mulS pe_str pe_int)) (pa_cons pe_str pa_nil)))))))))
        (pss_cons (ps_expr (pe_bm PySem.F.plainAttrs_list PySem.F.slot_list_append PySem.F.type_list_append mt_append (pv 3) (pa_cons (pe_op op_addS pe_str (pe_op op_mulS pe_str pe_int)) pa_nil)))
        (pss_one (ps_ret (pe_callB (cr_all rfl) (by rfl) M.all_ (by decide +kernel) (pa_cons (pe_lc (own := [("one", 9)]) (g := (gName 9)) (tt := tYes) (te := (tCall spLG [] E0 (tCons (tVar 9) tNil))) (by rfl) scLaw.nd (pi_list (pe_op op_cat (pv 3) (pe_lst (pa_cons pe_str (pa_cons pe_str (pa_cons pe_str (pa_cons pe_str (pa_cons pe_str pa_nil)))))))) (blkOk_by (own := [("one", 9)]) (N := ["script", "k", "pile", "some", "text_own", "turn", "at", "sign", "bent", "one", "odd", "found", "error"]) (sc := defScope sLaw) (by decide +kernel)) (fun _ _ _ _ _ => (pg_name (i := 9) scLaw.nd rfl (.inl rfl))) (fun _ _ _ _ _ => pts_nil) (fun _ _ _ _ _ => (pe_call GG hr (by rfl) gG FG.kp bG .nil pass0 (pa_cons (pv 9) pa_nil)))) pa_nil)))))))), ?_⟩
    obtain ⟨a, ns, rfl, hS, q⟩ := h
    walk_at "rd"
    refine ⟨a, _, rfl, .inl hS, ?_⟩
    walk_at "rd"
    refine ⟨_, _, rfl, ?_⟩
    walk_at "rd"
    refine ⟨_, _, rfl, ?_⟩
    obtain ⟨m, hm, m0, m1⟩ : ∃ m : Int, m = (if (if (((ns.map V.int).length : Nat) : Int) < 4 then (((ns.map V.int).length : Nat) : Int) else 4) > 1 then (if (((ns.map V.int).length : Nat) : Int) < 4 then (((ns.map V.int).length : Nat) : Int) else 4) else 1) ∧ 1 ≤ m ∧ m ≤ 4 := ⟨_, rfl, by split <;> omega, by split <;> (try split) <;> omega⟩
    refine ⟨m, by rw [hm], by omega, by omega, for_range (lo := 0) (n := m.toNat) (fun i σ H' => Same H H' ∧ ∃ o1 o2 o3 o4 o5 o6 o7 o8, σ = [some (.ref a), o1, o2, o3, o4, o5, o6, o7, o8, none, none, none, none]) ⟨Same.refl H, none, none, none, none, none, none, none, none, rfl⟩ ?_ ?_⟩
    · rintro i σ H1 hi ⟨k1, o1, o2, o3, o4, o5, o6, o7, o8, rfl⟩
      refine rg_name ?_
      walk_at "rd"
      refine ⟨a, ns, _, rfl, k1.seq hS, (by omega), (by omega), fun n => ?_⟩
      walk_at "rd"
      refine ⟨by show 1 ≤ sizeLine; decide, fun p hp => ?_⟩
      have k2 := k1.trans (same_upd (o := .lst [.int n]) hp)
      have np : H p = none := k1.free hp
      walk_at "rd"
      refine ⟨p, rfl, ⟨n, upd_same⟩, fun H2 r us es kp hr0 hus hg hlen => ?_⟩
      have k3 : Same H H2 := kp.same k2 np
      have hE : EntsR K H2 r es := ents_read (SqL.of hr0) hus
      have fit := hg.fits
      have tl := mapT_len fit
      have tl2 : (mapT es).length ≤ 1548 := by omega
      have tok := mapT_sign es
      obtain ⟨t, ht⟩ : ∃ t, t = mapT es := ⟨_, rfl⟩
      walk_at "rd"
      refine ⟨r, es, rfl, hE, fit, by omega, fun H3 s3 => ?_⟩
      walk_at "rd"
      refine ⟨r, es, rfl, hE.same s3, fit, by omega, fun H4 s4 => ?_⟩
      walk_at "rd"
      rw [← ht] at tl2 tok ⊢
      refine iteFe (by simp) ?_
      walk_at "rd"
      refine rv_callN ?_
      walk_at "rd"
      refine ⟨rfl, rfl, r, es, rfl, hE.same (s3.trans s4), fit, by omega, fun H5 s5 => ?_⟩
      rw [← ht]
      walk_at "rd"
      refine iteFe (by simp) ?_
      walk_at "rd"
      refine rv_callN ?_
      walk_at "rd"
      have hrd := readM_mapT hg
      rw [← ht] at hrd
      refine ⟨rfl, rfl, .inl ⟨t, rfl, by omega, fun es2 he2 H6 p2 us2 s6 np2 hp2 hus2 => ?_, fun z => by rw [hrd] at z; cases z⟩⟩
      have ee : es2 = es := Option.some.inj (he2.symm.trans hrd)
      subst ee
      have s36 := ((s3.trans s4).trans s5).trans s6
      walk_at "rd"
      refine ⟨entsD es2, entsD es2, .lst (SqL.of hp2) (ents_dp hus2), .lst (SqL.of (s36 _ _ hr0)) (ents_dp (Paired.mapP hus fun _ _ h => h.same s36)), ents_shaped es2, ents_shaped es2, ?_⟩
      rw [ne_self (ents_shaped es2)]
      refine ⟨_, rfl, iteFe rfl ?_⟩
      have kq := k3.trans s36
      obtain ⟨mp, hmp⟩ := kp.2
      have hp6 : ∃ n, H6 p = some (.lst [.int n]) := ⟨mp, s36 _ _ hmp⟩
      walk_at "rd"
      refine ⟨12, rfl, by decide, by decide, for_range (lo := 0) (n := 12) (fun j σ H' => Same H H' ∧ (∃ n, H' p = some (.lst [.int n])) ∧ ∃ o5 o6 o7 o8, σ = [some (.ref a), some (.int (0 + (i : Nat))), some (.ref p), some (.ref r), some (.str (S t)), o5, o6, o7, o8, none, none, none, none]) ⟨kq, hp6, o5, o6, o7, o8, rfl⟩ ?_ ?_⟩
      · rintro j σ H7 hj ⟨k7, hp7, o5, o6, o7, o8, rfl⟩
        refine rg_name ?_
        walk_at "rd"
        have lt4 : t.length ≤ 4000 := by omega
        refine ⟨S t, rfl, len_le lt4, ?_⟩
        rw [S_len]
        walk_at "rd"
        refine tk_in hp7 (by omega) (Nat.lt_of_lt_of_le (by omega : ((t.length : Int) + 1).natAbs < 2 ^ 20) (Nat.pow_le_pow_right (by decide) (by decide))) fun d H8 g0 g1 k8 => ?_
        obtain ⟨n, rfl⟩ := Int.eq_ofNat_of_zero_le g0
        have hn : n ≤ t.length := by omega
        walk_at "rd"
        refine tk_in k8.2 (by decide) (by decide) fun d2 H9 g2 g3 k9 => ?_
        refine rv_sign g2 g3 fun c hc => ?_
        have k10 : Same H H9 := (k8.trans k9).same k7 np
        walk_at "rd"
        refine ⟨_, rfl, rv_to (a := n) (len_le lt4) ?_⟩
        walk_at "rd"
        refine rv_addS (a := t.take n) (b := [c]) (by rw [List.length_take]; show _ + 1 ≤ _; omega) ?_
        walk_at "rd"
        refine ⟨_, rfl, ?_⟩
        walk_at "rd"
        refine rv_from (a := n) (len_le lt4) ?_
        refine rv_addS (a := t.take n ++ [c]) (b := t.drop n) (by rw [List.length_append, List.length_take, List.length_drop]; show _ + 1 + _ ≤ _; omega) ?_
        walk_at "rd"
        refine ⟨_, rfl, rv_to (a := n) (len_le lt4) ?_⟩
        walk_at "rd"
        refine ⟨_, rfl, ?_⟩
        walk_at "rd"
        refine rv_from (a := n + 1) (len_le lt4) ?_
        refine rv_addS (a := t.take n) (b := t.drop (n + 1)) (by rw [List.length_take, List.length_drop]; omega) ?_
        walk_at "rd"
        refine ⟨by show 2 ≤ sizeLine; decide, fun B hB => ?_⟩
        refine rv_app rfl upd_same ?_
        walk_at "rd"
        refine ⟨_, rfl, rv_to (a := n) (len_le lt4) ?_⟩
        walk_at "rd"
        refine rv_addS (a := t.take n) (b := [c]) (by rw [List.length_take]; show _ + 1 ≤ _; omega) ?_
        walk_at "rd"
        refine ⟨_, rfl, ?_⟩
        walk_at "rd"
        refine rv_from (a := n + 1) (len_le lt4) ?_
        refine rv_addS (a := t.take n ++ [c]) (b := t.drop (n + 1)) (by rw [List.length_append, List.length_take, List.length_drop]; show _ + 1 + _ ≤ _; omega) ?_
        walk_at "rd"
        refine ⟨_, _, rfl, upd_same, by show 2 < sizeLine; decide, ?_⟩
        rw [upd_upd]
        have hB1 : upd H9 B (.lst ([V.str (S (t.take n ++ [c] ++ t.drop n)), V.str (S (t.take n ++ t.drop (n + 1)))] ++ [V.str (S (t.take n ++ [c] ++ t.drop (n + 1)))])) B = some (.lst [V.str (S (t.take n ++ [c] ++ t.drop n)), V.str (S (t.take n ++ t.drop (n + 1))), V.str (S (t.take n ++ [c] ++ t.drop (n + 1)))]) := upd_same
        have k11 := k10.trans (same_upd (o := .lst ([V.str (S (t.take n ++ [c] ++ t.drop n)), V.str (S (t.take n ++ t.drop (n + 1)))] ++ [V.str (S (t.take n ++ [c] ++ t.drop (n + 1)))])) hB)
        have hp9 : ∃ n, H9 p = some (.lst [.int n]) := k9.2
        have hp10 := (same_upd (o := .lst ([V.str (S (t.take n ++ [c] ++ t.drop n)), V.str (S (t.take n ++ t.drop (n + 1)))] ++ [V.str (S (t.take n ++ [c] ++ t.drop (n + 1)))])) hB)
        generalize upd H9 B (HO.lst ([V.str (S (t.take n ++ [c] ++ t.drop n)), V.str (S (t.take n ++ t.drop (n + 1)))] ++ [V.str (S (t.take n ++ [c] ++ t.drop (n + 1)))])) = H10 at *
        walk_at "rd"
        refine ⟨_, rfl, rv_to (a := n) (len_le lt4) ?_⟩
        walk_at "rd"
        refine ⟨by show 1 ≤ sizeLine; decide, fun B2 hB2 => ?_⟩
        have s12 := same_upd (o := .lst [V.str (S (t.take n))]) hB2
        refine ⟨B, B2, _, _, rfl, rfl, s12 _ _ hB1, upd_same, by show 4 ≤ sizeLine; decide, fun C hC => ?_⟩
        obtain ⟨ts, hts⟩ : ∃ ts, ts = [t.take n ++ [c] ++ t.drop n, t.take n ++ t.drop (n + 1), t.take n ++ [c] ++ t.drop (n + 1), t.take n] := ⟨_, rfl⟩
        have s13 := s12.trans (same_upd (o := .lst (ts.map fun t => V.str (S t))) hC)
        have hcs : upd (upd H10 B2 (.lst [V.str (S (t.take n))])) C (.lst ([V.str (S (t.take n ++ [c] ++ t.drop n)), V.str (S (t.take n ++ t.drop (n + 1))), V.str (S (t.take n ++ [c] ++ t.drop (n + 1)))] ++ [V.str (S (t.take n))])) C = some (.lst (ts.map fun t => V.str (S t))) := by rw [hts]; exact upd_same
        have s14 : Same H10 (upd (upd H10 B2 (.lst [V.str (S (t.take n))])) C (.lst ([V.str (S (t.take n ++ [c] ++ t.drop n)), V.str (S (t.take n ++ t.drop (n + 1))), V.str (S (t.take n ++ [c] ++ t.drop (n + 1)))] ++ [V.str (S (t.take n))]))) := s12.trans (same_upd hC)
        have hok : ∀ u ∈ ts, OkT u := by
          have l1 : (t.take n).length ≤ 1548 := by rw [List.length_take]; omega
          have l2 : (t.drop n).length ≤ 1548 := by rw [List.length_drop]; omega
          have l3 : (t.drop (n + 1)).length ≤ 1548 := by rw [List.length_drop]; omega
          have c1 : ∀ x ∈ [c], x < 128 := fun x hx => by rw [List.mem_singleton.mp hx]; exact hc
          have l4 : (t.take n ++ [c]).length ≤ 1549 := by rw [List.length_append]; show _ + 1 ≤ _; omega
          intro u hu
          rw [hts] at hu
          simp only [List.mem_cons, List.not_mem_nil, or_false] at hu
          rcases hu with rfl | rfl | rfl | rfl
          · exact OkT.app l4 l2 (by decide) (ok_app (lt_take tok) c1) (lt_drop tok)
          · exact OkT.app l1 l3 (by decide) (lt_take tok) (lt_drop tok)
          · exact OkT.app l4 l3 (by decide) (ok_app (lt_take tok) c1) (lt_drop tok)
          · exact ⟨by omega, lt_take tok⟩
        generalize upd (upd H10 B2 (HO.lst [V.str (S (t.take n))])) C (HO.lst ([V.str (S (t.take n ++ [c] ++ t.drop n)), V.str (S (t.take n ++ t.drop (n + 1))), V.str (S (t.take n ++ [c] ++ t.drop (n + 1)))] ++ [V.str (S (t.take n))])) = H11 at *
        refine ⟨C, rfl, ⟨_, SqL.of hcs⟩, fun D hD => ?_⟩
        refine lc_good hcs hD hok (by rw [hts]; show 4 ≤ 100; decide) (by show 9 < 13; decide) (fun _ => rfl) fun H12 s15 hD2 => ?_
        walk_at "rd"
        refine ⟨D, _, rfl, SqL.of hD2, ?_⟩
        rw [all_rep]
        refine ⟨_, rfl, iteFe rfl ?_⟩
        walk_at "rd"
        obtain ⟨n9, h9⟩ := hp9
        exact ⟨(k11.trans s14).trans s15, ⟨n9, s15 _ _ (s14 _ _ (hp10 _ _ h9))⟩, _, _, _, _, rfl⟩
      · rintro σ H7 ⟨k7, hp7, o5, o6, o7, o8, rfl⟩
        walk_at "rd"
        exact ⟨k7, _, _, _, _, _, _, _, _, rfl⟩
    · rintro σ H1 ⟨k1, o1, o2, o3, o4, o5, o6, o7, o8, rfl⟩
      walk_at "rd"
      refine ⟨by decide, fun T0 hT0 => ?_⟩
      have j1 := same_upd (o := .tup []) hT0
      walk_at "rd"
      refine ⟨by show 1 ≤ sizeLine; decide, fun L1 hL1 => ?_⟩
      have j2 := j1.trans (same_upd (o := .lst [.str "0 1 0 0"]) hL1)
      walk_at "rd"
      refine ⟨by show 4 ≤ sizeLine; decide, fun T2 hT2 => ?_⟩
      have j3 := j2.trans (same_upd (o := .tup [.int 0, .int 1, .int 0, .int 0]) hT2)
      walk_at "rd"
      refine ⟨by show 1 ≤ sizeLine; decide, fun L3 hL3 => ?_⟩
      have j4 := j3.trans (same_upd (o := .lst [.ref T2]) hL3)
      walk_at "rd"
      refine ⟨by show 6 ≤ sizeLine; decide, fun L4 hL4 => ?_⟩
      have u4 := same_upd (o := .lst [.non, .bl true, .int 0, .ref T0, .ref L1, .ref L3]) hL4
      have t0 := u4 _ _ ((same_upd (o := .lst [.ref T2]) hL3) _ _ ((same_upd (o := .tup [.int 0, .int 1, .int 0, .int 0]) hT2) _ _ ((same_upd (o := .lst [.str "0 1 0 0"]) hL1) _ _ (upd_same (a := T0) (o := .tup [])))))
      have t1 := u4 _ _ ((same_upd (o := .lst [.ref T2]) hL3) _ _ ((same_upd (o := .tup [.int 0, .int 1, .int 0, .int 0]) hT2) _ _ (upd_same (a := L1) (o := .lst [.str "0 1 0 0"]))))
      have t3 := u4 _ _ (upd_same (a := L3) (o := .lst [.ref T2]))
      have t4 : (upd (upd (upd (upd (upd H1 T0 (HO.tup [])) L1 (HO.lst [V.str "0 1 0 0"])) T2 (HO.tup [V.int 0, V.int 1, V.int 0, V.int 0])) L3 (HO.lst [V.ref T2])) L4 (HO.lst [V.non, V.bl true, V.int 0, V.ref T0, V.ref L1, V.ref L3])) L4 = some (.lst [.non, .bl true, .int 0, .ref T0, .ref L1, .ref L3]) := upd_same
      have j5 := k1.trans (j4.trans u4)
      generalize upd (upd (upd (upd (upd H1 T0 (HO.tup [])) L1 (HO.lst [V.str "0 1 0 0"])) T2 (HO.tup [V.int 0, V.int 1, V.int 0, V.int 0])) L3 (HO.lst [V.ref T2])) L4 (HO.lst [V.non, V.bl true, V.int 0, V.ref T0, V.ref L1, V.ref L3]) = H2 at *
      clear u4 j1 j2 j3 j4 hT0 hL1 hT2 hL3 hL4
      refine ⟨L4, rfl, ⟨_, SqL.of t4⟩, ?_⟩
      refine for_list (xs := [.non, .bl true, .int 0, .ref T0, .ref L1, .ref L3]) (fun i σ H' => Same H2 H' ∧ ∃ o1 o2 o3 o4 o5 o6 o7 o8 o10 o11 o12, σ = [some (.ref a), o1, o2, o3, o4, o5, o6, o7, o8, none, o10, o11, o12]) ⟨Same.refl H2, _, _, _, _, _, _, _, _, none, none, none, rfl⟩ (fun i σ H' _ ⟨s, _⟩ => SqL.of (s _ _ t4)) ?_ ?_
      · rintro i x σ H3 hx ⟨s3, o1, o2, o3, o4, o5, o6, o7, o8, o10, o11, o12, rfl⟩
        have ty : ∃ T, TyX K H3 x T ∧ PySem.W.kitOne K T (.type "str") = some false := by
          match i, hx with
          | 0, hx => cases hx; exact ⟨_, .base .non, L2.kit_ty (by decide +kernel)⟩
          | 1, hx => cases hx; exact ⟨_, .base (.bl _), L2.kit_ty (by decide +kernel)⟩
          | 2, hx => cases hx; exact ⟨_, .base (.int _), L2.kit_ty (by decide +kernel)⟩
          | 3, hx => cases hx; exact ⟨_, .base (.tup (s3 _ _ t0)), L2.kit_ty (by decide +kernel)⟩
          | 4, hx => cases hx; exact ⟨_, .base (.lst (s3 _ _ t1)), L2.kit_ty (by decide +kernel)⟩
          | 5, hx => cases hx; exact ⟨_, .base (.lst (s3 _ _ t3)), L2.kit_ty (by decide +kernel)⟩
          | i + 6, hx => cases hx
        refine rg_name ?_
        walk_at "rd"
        refine ⟨x, rfl, .inr ⟨ty, fun H4 p2 e d s4 hp2 he hd => ?_⟩⟩
        refine ⟨p2, _, rfl, SqL.of hp2, rfl, ?_⟩
        walk_at "rd"
        refine ⟨rfl, ?_⟩
        refine ⟨_, rfl, iteFe (by simp) ?_⟩
        walk_at "rd"
        refine ⟨e, 6, by decide, rfl, .inr ⟨d, _, he, hd⟩, fun H5 s5 => ?_⟩
        refine ⟨_, rfl, iteFe rfl ?_⟩
        walk_at "rd"
        refine ⟨e, cs 6, d, _, _, rfl, he.same s5, hd.same s5, T.ek 6 (by decide), xn, rfl, ?_⟩
        walk_at "rd"
        refine iteFe (by simp) ?_
        walk_at "rd"
        exact ⟨(s3.trans s4).trans s5, _, _, _, _, _, _, _, _, _, _, _, rfl⟩
      · rintro σ H3 ⟨s3, o1, o2, o3, o4, o5, o6, o7, o8, o10, o11, o12, rfl⟩
        walk_at "rd"
        refine ⟨_, _, rfl, rfl, ⟨by decide, fun _ _ => by decide, fun _ _ => by decide⟩, ?_⟩
        refine ⟨_, _, rfl, rfl, (by rw [sizeLine_eq]; decide +kernel), ?_⟩
        walk_at "rd"
        refine ⟨by show 7 ≤ sizeLine; decide, fun S1 hS1 => ?_⟩
        walk_at "rd"
        refine rv_app rfl upd_same ?_
        walk_at "rd"
        refine ⟨_, _, rfl, rfl, ⟨by decide, fun _ _ => by decide, fun _ _ => by decide⟩, ?_⟩
        refine ⟨_, _, rfl, rfl, (by rw [sizeLine_eq]; decide +kernel), ?_⟩
        walk_at "rd"
        refine ⟨_, _, rfl, upd_same, by show 7 < sizeLine; decide, ?_⟩
        rw [upd_upd]
        walk_at "rd"
        refine ⟨by show 5 ≤ sizeLine; decide, fun S2 hS2 => ?_⟩
        refine ⟨S1, S2, _, _, rfl, rfl, (upd_ne (ne_of_none upd_same hS2)).trans upd_same, upd_same, by show 13 ≤ sizeLine; decide, fun C hC => ?_⟩
        have hcs : (upd (upd (upd H3 S1 (HO.lst ([V.str "0 1 0 0", V.str "0 1 0 0;", V.str "0 1 1 0", V.str "00 1 0 0", V.str "-0 1 0 0", V.str (("0 1 0 " : Str) ++ PySem.Txt.mul "v" 30), V.str "1 1 0 0"] ++ [V.str (("0 1 0 " : Str) ++ PySem.Txt.mul "1" 31)]))) S2 (HO.lst [V.str "", V.str " ", V.str "0 1 0 0;0 1 0 0", V.str "0 1 0 0;1 1 -1 0", V.str "5 3 2 1"])) C (HO.lst (([V.str "0 1 0 0", V.str "0 1 0 0;", V.str "0 1 1 0", V.str "00 1 0 0", V.str "-0 1 0 0", V.str (("0 1 0 " : Str) ++ PySem.Txt.mul "v" 30), V.str "1 1 0 0"] ++ [V.str (("0 1 0 " : Str) ++ PySem.Txt.mul "1" 31)]) ++ [V.str "", V.str " ", V.str "0 1 0 0;0 1 0 0", V.str "0 1 0 0;1 1 -1 0", V.str "5 3 2 1"]))) C = some (.lst ((fixA ++ fixB).map fun t => V.str (S t))) := by
          rw [upd_same, fix_eq]
        refine ⟨C, rfl, ⟨_, SqL.of upd_same⟩, fun D hD => ?_⟩
        refine lc_good hcs hD fix_okT (by decide) (by show 9 < 13; decide) (fun _ => rfl) fun H12 s15 hD2 => ?_
        walk_at "rd"
        refine ⟨D, _, rfl, SqL.of hD2, ?_⟩
        rw [all_rep]
        exact q _
end
end My

namespace My
open PySem PySem.Spec PyProof.Rows L2 XR
theorem kit_ref {K : PySem.W.Frag} {t : Value} {C : Addr} {b : Bool} (h1 : PySem.W.isClsIn K C = true) (h2 : PySem.W.typeIn K (.ref C) = some (.type "type")) (h3 : PySem.W.subIn K t (.ref C) = some b) (hb : (t == .ref C) = true → b = true) : PySem.W.kitOne K t (.ref C) = some b := by
  unfold PySem.W.kitOne
  by_cases e : (t == .ref C) = true
  · rw [if_pos e, hb e]
  · rw [if_neg e]
    show (if ((PySem.W.clsIn K C).isSome && PySem.W.typeIn K (.ref C) == some (.type "type")) = true then PySem.W.subIn K t (.ref C) else none) = some b
    have h1' : (PySem.W.clsIn K C).isSome = true := h1
    rw [if_pos (by rw [h1', h2] <;> rfl)]
    exact h3
theorem exm_ref {K : PySem.W.Frag} {t : Value} {C : Addr} {b : Bool} (h0 : PySem.W.subIn K (.ref C) (.type "BaseException") = some true) (h1 : PySem.W.isClsIn K C = true) (h2 : PySem.W.typeIn K (.ref C) = some (.type "type")) (h3 : PySem.W.subIn K t (.ref C) = some b) : PySem.W.exmOne K t (.ref C) = some b := by
  show (if (PySem.W.subIn K (.ref C) (.type "BaseException") == some true) = true then (if ((PySem.W.clsIn K C).isSome && PySem.W.typeIn K (.ref C) == some (.type "type")) = true then PySem.W.subIn K t (.ref C) else none) else none) = some b
  have h1' : (PySem.W.clsIn K C).isSome = true := h1
  rw [if_pos (by rw [h0] <;> rfl), if_pos (by rw [h1', h2] <;> rfl)]
  exact h3
theorem kit_self {K : PySem.W.Frag} {t : Value} : PySem.W.kitOne K t t = some true := by
  unfold PySem.W.kitOne
  rw [if_pos (beq_self_eq_true t)]
theorem kit_bi {K : PySem.W.Frag} {C : Addr} {T : String} {b : Bool} (hm : PySem.W.kitMeta T = true) (h3 : PySem.W.subIn K (.ref C) (.type T) = some b) : PySem.W.kitOne K (.ref C) (.type T) = some b := by
  unfold PySem.W.kitOne
  rw [if_neg (by intro z; have := beq_iff_eq.mp z; cases this)]
  show (if PySem.W.kitMeta T = true then PySem.W.subIn K (.ref C) (.type T) else none) = some b
  rw [if_pos hm]
  exact h3
theorem ne_ref {a b : Addr} (h : a ≠ b) {x : Bool} : ((Value.ref a == Value.ref b) = true → x = true) := fun z => absurd (Value.ref.inj (beq_iff_eq.mp z)) h
/-- of unlike classes neither is below the other: so they stand apart -/
theorem sub_ne {K : PySem.W.Frag} {a b : Addr} (h : PySem.W.subIn K (.ref a) (.ref b) = some false) (g : PySem.W.subIn K (.ref a) (.type "BaseException") = some true) (s : PySem.W.selfFirst K a = true) : a ≠ b := by
  intro e
  subst e
  unfold PySem.W.selfFirst at s
  replace h : PySem.W.mroIn K a (.ref a) = some false := h
  unfold PySem.W.mroIn at h
  cases hc : PySem.W.clsIn K a with
  | none => rw [hc] at s; cases s
  | some cd =>
    rw [hc] at s h
    simp only [Option.any_some, Option.bind_some, beq_iff_eq] at s h
    cases hm : cd.mro with
    | nil => rw [hm] at s; cases s
    | cons x r =>
      rw [hm] at s h
      have s' : some x = some (Value.ref a) := s
      cases s'
      simp at h

theorem all_mk {P : Program} {w : World} {K : PySem.W.Frag} {h : Heap} {mg : Str → Option Value} {fa c0 c1 c2 c3 c4 c5 c6 c7 c8 c9 cL : Addr} {tk0 : Tok}
    {nmT qT : Str} {NT : Addr} {bsT : List Value} {snT : List Str} {subT : List Value} {abT : Bool} {colT : Option Bool} {ddT : Option Addr} {m0T m1T m2T m3T m5T : Option Value} {ocT kVT docT pmT cdvT ctT oTT : Value} {odT anT oDT : Option Addr} {oslT slT : Array (Option Value)} {nT : Nat} {fT dT : Addr}
    {t30 t32 tF : Tok}
    {aocM akVM adocM apmM acdM actM : Value} {aodM aanM : Option Addr} {aslM : Array (Option Value)} {afM : Addr}
    {aocC akVC adocC apmC acdC actC : Value} {aodC aanC : Option Addr} {aslC : Array (Option Value)} {afC : Addr}
    {aocK akVK adocK apmK acdK actK : Value} {aodK aanK : Option Addr} {aslK : Array (Option Value)} {afK : Addr}
    {aocO akVO adocO apmO acdO actO : Value} {aodO aanO : Option Addr} {aslO : Array (Option Value)} {afO : Addr}
    {aocPn akVPn adocPn apmPn acdPn actPn : Value} {aodPn aanPn : Option Addr} {aslPn : Array (Option Value)} {afPn : Addr}
    {aocPl akVPl adocPl apmPl acdPl actPl : Value} {aodPl aanPl : Option Addr} {aslPl : Array (Option Value)} {afPl : Addr}
    {aocPm akVPm adocPm apmPm acdPm actPm : Value} {aodPm aanPm : Option Addr} {aslPm : Array (Option Value)} {afPm : Addr}
    {aocPr akVPr adocPr apmPr acdPr actPr : Value} {aodPr aanPr : Option Addr} {aslPr : Array (Option Value)} {afPr : Addr}
    {aocPe akVPe adocPe apmPe acdPe actPe : Value} {aodPe aanPe : Option Addr} {aslPe : Array (Option Value)} {afPe : Addr}
    {aocPd akVPd adocPd apmPd acdPd actPd : Value} {aodPd aanPd : Option Addr} {aslPd : Array (Option Value)} {afPd : Addr}
    {aocLe akVLe adocLe apmLe acdLe actLe : Value} {aodLe aanLe : Option Addr} {aslLe : Array (Option Value)} {afLe : Addr}
    {aocLd akVLd adocLd apmLd acdLd actLd : Value} {aodLd aanLd : Option Addr} {aslLd : Array (Option Value)} {afLd : Addr}
    {aocLw akVLw adocLw apmLw acdLw actLw : Value} {aodLw aanLw : Option Addr} {aslLw : Array (Option Value)} {afLw : Addr}
    {aocLn akVLn adocLn apmLn acdLn actLn : Value} {aodLn aanLn : Option Addr} {aslLn : Array (Option Value)} {afLn : Addr}
    {aocLr akVLr adocLr apmLr acdLr actLr : Value} {aodLr aanLr : Option Addr} {aslLr : Array (Option Value)} {afLr : Addr}
    {aocLa akVLa adocLa apmLa acdLa actLa : Value} {aodLa aanLa : Option Addr} {aslLa : Array (Option Value)} {afLa : Addr}
    {aocLg akVLg adocLg apmLg acdLg actLg : Value} {aodLg aanLg : Option Addr} {aslLg : Array (Option Value)} {afLg : Addr}
    {aocW akVW adocW apmW acdW actW : Value} {aodW aanW : Option Addr} {aslW : Array (Option Value)} {afW : Addr}
    (X : K.In h) (G : h.Ns mainGlobals mg) (hfa : mg "law" = some (.ref fa))
    (g0 : PySem.W.nsIn K mainGlobals "NoCount" = some (some (.ref c0)))
    (g1 : PySem.W.nsIn K mainGlobals "NoLetters" = some (some (.ref c1)))
    (g2 : PySem.W.nsIn K mainGlobals "NoLine" = some (some (.ref c2)))
    (g3 : PySem.W.nsIn K mainGlobals "NoMap" = some (some (.ref c3)))
    (g4 : PySem.W.nsIn K mainGlobals "NoNaming" = some (some (.ref c4)))
    (g5 : PySem.W.nsIn K mainGlobals "NoPath" = some (some (.ref c5)))
    (g6 : PySem.W.nsIn K mainGlobals "NoText" = some (some (.ref c6)))
    (g7 : PySem.W.nsIn K mainGlobals "NoTree" = some (some (.ref c7)))
    (g8 : PySem.W.nsIn K mainGlobals "NoTurning" = some (some (.ref c8)))
    (g9 : PySem.W.nsIn K mainGlobals "TooMany" = some (some (.ref c9)))
    (gL : PySem.W.nsIn K mainGlobals "LeanError" = some (some (.ref cL)))
    (z_isinstance : PySem.W.nsIn K mainGlobals "isinstance" = some none)
    (z_zip : PySem.W.nsIn K mainGlobals "zip" = some none)
    (z_ValueError : PySem.W.nsIn K mainGlobals "ValueError" = some none)
    (z_len : PySem.W.nsIn K mainGlobals "len" = some none)
    (z_range : PySem.W.nsIn K mainGlobals "range" = some none)
    (z_str : PySem.W.nsIn K mainGlobals "str" = some none)
    (z_all : PySem.W.nsIn K mainGlobals "all" = some none)
    (z_int : PySem.W.nsIn K mainGlobals "int" = some none)
    (z_list : PySem.W.nsIn K mainGlobals "list" = some none)
    (z_abs : PySem.W.nsIn K mainGlobals "abs" = some none)
    (z_min : PySem.W.nsIn K mainGlobals "min" = some none)
    (z_max : PySem.W.nsIn K mainGlobals "max" = some none)
    (z_tuple : PySem.W.nsIn K mainGlobals "tuple" = some none)
    (sn : PySem.W.specialIn K (.builtin "object.__class__") "__get__" = some (some (.builtin "getset_descriptor.__get__")))
    (st : PySem.W.takesIn K (.builtin "object.__class__") = some true)
    (hc0 : PySem.W.isClsIn K c0 = true)
    (hg0 : PySem.W.findIn K (.ref c0) "__getattribute__" = some (some (.builtin "BaseException.__getattribute__")))
    (hk0 : PySem.W.findIn K (.ref c0) "__getattr__" = some none)
    (hs0 : PySem.W.subIn K (.ref c0) (.type "BaseException") = some true)
    (hd0 : PySem.W.hasDictIn K c0 = true)
    (ha0 : PySem.W.findIn K (.ref c0) "__class__" = some (some (.builtin "object.__class__")))
    (hm0 : PySem.W.mroIn K c0 (.type "object") = some true)
    (ht0 : PySem.W.typeIn K (.ref c0) = some (.type "type"))
    (sV0 : PySem.W.subIn K (.ref c0) (.type "ValueError") = some true)
    (sL0 : PySem.W.subIn K (.ref c0) (.ref cL) = some true)
    (s0_1 : PySem.W.subIn K (.ref c0) (.ref c1) = some false)
    (s0_2 : PySem.W.subIn K (.ref c0) (.ref c2) = some false)
    (s0_3 : PySem.W.subIn K (.ref c0) (.ref c3) = some false)
    (s0_4 : PySem.W.subIn K (.ref c0) (.ref c4) = some false)
    (s0_5 : PySem.W.subIn K (.ref c0) (.ref c5) = some false)
    (s0_6 : PySem.W.subIn K (.ref c0) (.ref c6) = some false)
    (s0_7 : PySem.W.subIn K (.ref c0) (.ref c7) = some false)
    (s0_8 : PySem.W.subIn K (.ref c0) (.ref c8) = some false)
    (s0_9 : PySem.W.subIn K (.ref c0) (.ref c9) = some false)
    (hc1 : PySem.W.isClsIn K c1 = true)
    (hg1 : PySem.W.findIn K (.ref c1) "__getattribute__" = some (some (.builtin "BaseException.__getattribute__")))
    (hk1 : PySem.W.findIn K (.ref c1) "__getattr__" = some none)
    (hs1 : PySem.W.subIn K (.ref c1) (.type "BaseException") = some true)
    (hd1 : PySem.W.hasDictIn K c1 = true)
    (ha1 : PySem.W.findIn K (.ref c1) "__class__" = some (some (.builtin "object.__class__")))
    (hm1 : PySem.W.mroIn K c1 (.type "object") = some true)
    (ht1 : PySem.W.typeIn K (.ref c1) = some (.type "type"))
    (sV1 : PySem.W.subIn K (.ref c1) (.type "ValueError") = some true)
    (sL1 : PySem.W.subIn K (.ref c1) (.ref cL) = some true)
    (s1_0 : PySem.W.subIn K (.ref c1) (.ref c0) = some false)
    (s1_2 : PySem.W.subIn K (.ref c1) (.ref c2) = some false)
    (s1_3 : PySem.W.subIn K (.ref c1) (.ref c3) = some false)
    (s1_4 : PySem.W.subIn K (.ref c1) (.ref c4) = some false)
    (s1_5 : PySem.W.subIn K (.ref c1) (.ref c5) = some false)
    (s1_6 : PySem.W.subIn K (.ref c1) (.ref c6) = some false)
    (s1_7 : PySem.W.subIn K (.ref c1) (.ref c7) = some false)
    (s1_8 : PySem.W.subIn K (.ref c1) (.ref c8) = some false)
    (s1_9 : PySem.W.subIn K (.ref c1) (.ref c9) = some false)
    (hc2 : PySem.W.isClsIn K c2 = true)
    (hg2 : PySem.W.findIn K (.ref c2) "__getattribute__" = some (some (.builtin "BaseException.__getattribute__")))
    (hk2 : PySem.W.findIn K (.ref c2) "__getattr__" = some none)
    (hs2 : PySem.W.subIn K (.ref c2) (.type "BaseException") = some true)
    (hd2 : PySem.W.hasDictIn K c2 = true)
    (ha2 : PySem.W.findIn K (.ref c2) "__class__" = some (some (.builtin "object.__class__")))
    (hm2 : PySem.W.mroIn K c2 (.type "object") = some true)
    (ht2 : PySem.W.typeIn K (.ref c2) = some (.type "type"))
    (sV2 : PySem.W.subIn K (.ref c2) (.type "ValueError") = some true)
    (sL2 : PySem.W.subIn K (.ref c2) (.ref cL) = some true)
    (s2_0 : PySem.W.subIn K (.ref c2) (.ref c0) = some false)
    (s2_1 : PySem.W.subIn K (.ref c2) (.ref c1) = some false)
    (s2_3 : PySem.W.subIn K (.ref c2) (.ref c3) = some false)
    (s2_4 : PySem.W.subIn K (.ref c2) (.ref c4) = some false)
    (s2_5 : PySem.W.subIn K (.ref c2) (.ref c5) = some false)
    (s2_6 : PySem.W.subIn K (.ref c2) (.ref c6) = some false)
    (s2_7 : PySem.W.subIn K (.ref c2) (.ref c7) = some false)
    (s2_8 : PySem.W.subIn K (.ref c2) (.ref c8) = some false)
    (s2_9 : PySem.W.subIn K (.ref c2) (.ref c9) = some false)
    (hc3 : PySem.W.isClsIn K c3 = true)
    (hg3 : PySem.W.findIn K (.ref c3) "__getattribute__" = some (some (.builtin "BaseException.__getattribute__")))
    (hk3 : PySem.W.findIn K (.ref c3) "__getattr__" = some none)
    (hs3 : PySem.W.subIn K (.ref c3) (.type "BaseException") = some true)
    (hd3 : PySem.W.hasDictIn K c3 = true)
    (ha3 : PySem.W.findIn K (.ref c3) "__class__" = some (some (.builtin "object.__class__")))
    (hm3 : PySem.W.mroIn K c3 (.type "object") = some true)
    (ht3 : PySem.W.typeIn K (.ref c3) = some (.type "type"))
    (sV3 : PySem.W.subIn K (.ref c3) (.type "ValueError") = some true)
    (sL3 : PySem.W.subIn K (.ref c3) (.ref cL) = some true)
    (s3_0 : PySem.W.subIn K (.ref c3) (.ref c0) = some false)
    (s3_1 : PySem.W.subIn K (.ref c3) (.ref c1) = some false)
    (s3_2 : PySem.W.subIn K (.ref c3) (.ref c2) = some false)
    (s3_4 : PySem.W.subIn K (.ref c3) (.ref c4) = some false)
    (s3_5 : PySem.W.subIn K (.ref c3) (.ref c5) = some false)
    (s3_6 : PySem.W.subIn K (.ref c3) (.ref c6) = some false)
    (s3_7 : PySem.W.subIn K (.ref c3) (.ref c7) = some false)
    (s3_8 : PySem.W.subIn K (.ref c3) (.ref c8) = some false)
    (s3_9 : PySem.W.subIn K (.ref c3) (.ref c9) = some false)
    (hc4 : PySem.W.isClsIn K c4 = true)
    (hg4 : PySem.W.findIn K (.ref c4) "__getattribute__" = some (some (.builtin "BaseException.__getattribute__")))
    (hk4 : PySem.W.findIn K (.ref c4) "__getattr__" = some none)
    (hs4 : PySem.W.subIn K (.ref c4) (.type "BaseException") = some true)
    (hd4 : PySem.W.hasDictIn K c4 = true)
    (ha4 : PySem.W.findIn K (.ref c4) "__class__" = some (some (.builtin "object.__class__")))
    (hm4 : PySem.W.mroIn K c4 (.type "object") = some true)
    (ht4 : PySem.W.typeIn K (.ref c4) = some (.type "type"))
    (sV4 : PySem.W.subIn K (.ref c4) (.type "ValueError") = some true)
    (sL4 : PySem.W.subIn K (.ref c4) (.ref cL) = some true)
    (s4_0 : PySem.W.subIn K (.ref c4) (.ref c0) = some false)
    (s4_1 : PySem.W.subIn K (.ref c4) (.ref c1) = some false)
    (s4_2 : PySem.W.subIn K (.ref c4) (.ref c2) = some false)
    (s4_3 : PySem.W.subIn K (.ref c4) (.ref c3) = some false)
    (s4_5 : PySem.W.subIn K (.ref c4) (.ref c5) = some false)
    (s4_6 : PySem.W.subIn K (.ref c4) (.ref c6) = some false)
    (s4_7 : PySem.W.subIn K (.ref c4) (.ref c7) = some false)
    (s4_8 : PySem.W.subIn K (.ref c4) (.ref c8) = some false)
    (s4_9 : PySem.W.subIn K (.ref c4) (.ref c9) = some false)
    (hc5 : PySem.W.isClsIn K c5 = true)
    (hg5 : PySem.W.findIn K (.ref c5) "__getattribute__" = some (some (.builtin "BaseException.__getattribute__")))
    (hk5 : PySem.W.findIn K (.ref c5) "__getattr__" = some none)
    (hs5 : PySem.W.subIn K (.ref c5) (.type "BaseException") = some true)
    (hd5 : PySem.W.hasDictIn K c5 = true)
    (ha5 : PySem.W.findIn K (.ref c5) "__class__" = some (some (.builtin "object.__class__")))
    (hm5 : PySem.W.mroIn K c5 (.type "object") = some true)
    (ht5 : PySem.W.typeIn K (.ref c5) = some (.type "type"))
    (sV5 : PySem.W.subIn K (.ref c5) (.type "ValueError") = some true)
    (sL5 : PySem.W.subIn K (.ref c5) (.ref cL) = some true)
    (s5_0 : PySem.W.subIn K (.ref c5) (.ref c0) = some false)
    (s5_1 : PySem.W.subIn K (.ref c5) (.ref c1) = some false)
    (s5_2 : PySem.W.subIn K (.ref c5) (.ref c2) = some false)
    (s5_3 : PySem.W.subIn K (.ref c5) (.ref c3) = some false)
    (s5_4 : PySem.W.subIn K (.ref c5) (.ref c4) = some false)
    (s5_6 : PySem.W.subIn K (.ref c5) (.ref c6) = some false)
    (s5_7 : PySem.W.subIn K (.ref c5) (.ref c7) = some false)
    (s5_8 : PySem.W.subIn K (.ref c5) (.ref c8) = some false)
    (s5_9 : PySem.W.subIn K (.ref c5) (.ref c9) = some false)
    (hc6 : PySem.W.isClsIn K c6 = true)
    (hg6 : PySem.W.findIn K (.ref c6) "__getattribute__" = some (some (.builtin "BaseException.__getattribute__")))
    (hk6 : PySem.W.findIn K (.ref c6) "__getattr__" = some none)
    (hs6 : PySem.W.subIn K (.ref c6) (.type "BaseException") = some true)
    (hd6 : PySem.W.hasDictIn K c6 = true)
    (ha6 : PySem.W.findIn K (.ref c6) "__class__" = some (some (.builtin "object.__class__")))
    (hm6 : PySem.W.mroIn K c6 (.type "object") = some true)
    (ht6 : PySem.W.typeIn K (.ref c6) = some (.type "type"))
    (sV6 : PySem.W.subIn K (.ref c6) (.type "ValueError") = some true)
    (sL6 : PySem.W.subIn K (.ref c6) (.ref cL) = some true)
    (s6_0 : PySem.W.subIn K (.ref c6) (.ref c0) = some false)
    (s6_1 : PySem.W.subIn K (.ref c6) (.ref c1) = some false)
    (s6_2 : PySem.W.subIn K (.ref c6) (.ref c2) = some false)
    (s6_3 : PySem.W.subIn K (.ref c6) (.ref c3) = some false)
    (s6_4 : PySem.W.subIn K (.ref c6) (.ref c4) = some false)
    (s6_5 : PySem.W.subIn K (.ref c6) (.ref c5) = some false)
    (s6_7 : PySem.W.subIn K (.ref c6) (.ref c7) = some false)
    (s6_8 : PySem.W.subIn K (.ref c6) (.ref c8) = some false)
    (s6_9 : PySem.W.subIn K (.ref c6) (.ref c9) = some false)
    (hc7 : PySem.W.isClsIn K c7 = true)
    (hg7 : PySem.W.findIn K (.ref c7) "__getattribute__" = some (some (.builtin "BaseException.__getattribute__")))
    (hk7 : PySem.W.findIn K (.ref c7) "__getattr__" = some none)
    (hs7 : PySem.W.subIn K (.ref c7) (.type "BaseException") = some true)
    (hd7 : PySem.W.hasDictIn K c7 = true)
    (ha7 : PySem.W.findIn K (.ref c7) "__class__" = some (some (.builtin "object.__class__")))
    (hm7 : PySem.W.mroIn K c7 (.type "object") = some true)
    (ht7 : PySem.W.typeIn K (.ref c7) = some (.type "type"))
    (sV7 : PySem.W.subIn K (.ref c7) (.type "ValueError") = some true)
    (sL7 : PySem.W.subIn K (.ref c7) (.ref cL) = some true)
    (s7_0 : PySem.W.subIn K (.ref c7) (.ref c0) = some false)
    (s7_1 : PySem.W.subIn K (.ref c7) (.ref c1) = some false)
    (s7_2 : PySem.W.subIn K (.ref c7) (.ref c2) = some false)
    (s7_3 : PySem.W.subIn K (.ref c7) (.ref c3) = some false)
    (s7_4 : PySem.W.subIn K (.ref c7) (.ref c4) = some false)
    (s7_5 : PySem.W.subIn K (.ref c7) (.ref c5) = some false)
    (s7_6 : PySem.W.subIn K (.ref c7) (.ref c6) = some false)
    (s7_8 : PySem.W.subIn K (.ref c7) (.ref c8) = some false)
    (s7_9 : PySem.W.subIn K (.ref c7) (.ref c9) = some false)
    (hc8 : PySem.W.isClsIn K c8 = true)
    (hg8 : PySem.W.findIn K (.ref c8) "__getattribute__" = some (some (.builtin "BaseException.__getattribute__")))
    (hk8 : PySem.W.findIn K (.ref c8) "__getattr__" = some none)
    (hs8 : PySem.W.subIn K (.ref c8) (.type "BaseException") = some true)
    (hd8 : PySem.W.hasDictIn K c8 = true)
    (ha8 : PySem.W.findIn K (.ref c8) "__class__" = some (some (.builtin "object.__class__")))
    (hm8 : PySem.W.mroIn K c8 (.type "object") = some true)
    (ht8 : PySem.W.typeIn K (.ref c8) = some (.type "type"))
    (sV8 : PySem.W.subIn K (.ref c8) (.type "ValueError") = some true)
    (sL8 : PySem.W.subIn K (.ref c8) (.ref cL) = some true)
    (s8_0 : PySem.W.subIn K (.ref c8) (.ref c0) = some false)
    (s8_1 : PySem.W.subIn K (.ref c8) (.ref c1) = some false)
    (s8_2 : PySem.W.subIn K (.ref c8) (.ref c2) = some false)
    (s8_3 : PySem.W.subIn K (.ref c8) (.ref c3) = some false)
    (s8_4 : PySem.W.subIn K (.ref c8) (.ref c4) = some false)
    (s8_5 : PySem.W.subIn K (.ref c8) (.ref c5) = some false)
    (s8_6 : PySem.W.subIn K (.ref c8) (.ref c6) = some false)
    (s8_7 : PySem.W.subIn K (.ref c8) (.ref c7) = some false)
    (s8_9 : PySem.W.subIn K (.ref c8) (.ref c9) = some false)
    (hc9 : PySem.W.isClsIn K c9 = true)
    (hg9 : PySem.W.findIn K (.ref c9) "__getattribute__" = some (some (.builtin "BaseException.__getattribute__")))
    (hk9 : PySem.W.findIn K (.ref c9) "__getattr__" = some none)
    (hs9 : PySem.W.subIn K (.ref c9) (.type "BaseException") = some true)
    (hd9 : PySem.W.hasDictIn K c9 = true)
    (ha9 : PySem.W.findIn K (.ref c9) "__class__" = some (some (.builtin "object.__class__")))
    (hm9 : PySem.W.mroIn K c9 (.type "object") = some true)
    (ht9 : PySem.W.typeIn K (.ref c9) = some (.type "type"))
    (sV9 : PySem.W.subIn K (.ref c9) (.type "ValueError") = some true)
    (sL9 : PySem.W.subIn K (.ref c9) (.ref cL) = some true)
    (s9_0 : PySem.W.subIn K (.ref c9) (.ref c0) = some false)
    (s9_1 : PySem.W.subIn K (.ref c9) (.ref c1) = some false)
    (s9_2 : PySem.W.subIn K (.ref c9) (.ref c2) = some false)
    (s9_3 : PySem.W.subIn K (.ref c9) (.ref c3) = some false)
    (s9_4 : PySem.W.subIn K (.ref c9) (.ref c4) = some false)
    (s9_5 : PySem.W.subIn K (.ref c9) (.ref c5) = some false)
    (s9_6 : PySem.W.subIn K (.ref c9) (.ref c6) = some false)
    (s9_7 : PySem.W.subIn K (.ref c9) (.ref c7) = some false)
    (s9_8 : PySem.W.subIn K (.ref c9) (.ref c8) = some false)
    (cL1 : PySem.W.isClsIn K cL = true)
    (cL2 : PySem.W.typeIn K (.ref cL) = some (.type "type"))
    (xT : K.lookup c6 = some (excClassObj nmT qT c6 NT bsT (.ref cL :: [.type "ValueError", .type "Exception", .type "BaseException", .type "object"]) true snT subT abT colT ddT m0T m1T m2T m3T m5T "ValueError.__new__"))
    (saT : PySem.W.findIn K (.ref c6) "__setattr__" = some (some (.builtin "object.__setattr__")))
    (kcT : PySem.W.keepIn K (.ref c6) = true)
    (icT : PySem.W.findIn K (.ref c6) "__init__" = some (some (.ref fT)))
    (tiT : PySem.W.typeIn K (.ref fT) = some (.type "function"))
    (lfT : K.lookup fT = some ⟨ocT, odT, .func (PySem.W.fnOf "__init__" "NoText.__init__" (defArgs iText) (defBody iText) (defScope iText) (.ref dT) kVT docT pmT anT cdvT ctT), oslT⟩)
    (cfT : PySem.W.codeIn K cdvT "NoText.__init__" = true)
    (kfT : PySem.W.keepIn K (.ref fT) = true)
    (ldT : K.lookup dT = some ⟨oTT, oDT, .seq ([.int 0 tk0] : List Value).toArray nT, slT⟩)
    (nTat : PySem.W.findIn K (.ref c6) "at" = some none)
    (bL : PySem.W.subIn K (.ref cL) (.type "BaseException") = some true)
    (q30 : PySem.W.nsIn K mainGlobals "MOST_FIGURES" = some (some (.int 30 t30)))
    (q32 : PySem.W.nsIn K mainGlobals "BASE" = some (some (.int 32 t32)))
    (qF : PySem.W.nsIn K mainGlobals "FIGURES" = some (some (.str figZ tF)))
    (aM : PySem.W.nsIn K mainGlobals "_law_mixed" = some (some (.ref afM)))
    (alM : K.lookup afM = some ⟨aocM, aodM, .func (PySem.W.fnOf "_law_mixed" "_law_mixed" (defArgs sMixed) (defBody sMixed) (defScope sMixed) .none akVM adocM apmM aanM acdM actM), aslM⟩)
    (acM : PySem.W.codeIn K acdM "_law_mixed" = true)
    (akM : PySem.W.keepIn K (.ref afM) = true)
    (aC : PySem.W.nsIn K mainGlobals "_law_cell" = some (some (.ref afC)))
    (alC : K.lookup afC = some ⟨aocC, aodC, .func (PySem.W.fnOf "_law_cell" "_law_cell" (defArgs sCell) (defBody sCell) (defScope sCell) .none akVC adocC apmC aanC acdC actC), aslC⟩)
    (acC : PySem.W.codeIn K acdC "_law_cell" = true)
    (akC : PySem.W.keepIn K (.ref afC) = true)
    (aK : PySem.W.nsIn K mainGlobals "_law_take" = some (some (.ref afK)))
    (alK : K.lookup afK = some ⟨aocK, aodK, .func (PySem.W.fnOf "_law_take" "_law_take" (defArgs sTake) (defBody sTake) (defScope sTake) .none akVK adocK apmK aanK acdK actK), aslK⟩)
    (acK : PySem.W.codeIn K acdK "_law_take" = true)
    (akK : PySem.W.keepIn K (.ref afK) = true)
    (aO : PySem.W.nsIn K mainGlobals "_law_only" = some (some (.ref afO)))
    (alO : K.lookup afO = some ⟨aocO, aodO, .func (PySem.W.fnOf "_law_only" "_law_only" (defArgs sOnly) (defBody sOnly) (defScope sOnly) .none akVO adocO apmO aanO acdO actO), aslO⟩)
    (acO : PySem.W.codeIn K acdO "_law_only" = true)
    (akO : PySem.W.keepIn K (.ref afO) = true)
    (aPn : PySem.W.nsIn K mainGlobals "number_text" = some (some (.ref afPn)))
    (alPn : K.lookup afPn = some ⟨aocPn, aodPn, .func (PySem.W.fnOf "number_text" "number_text" (defArgs sNT) (defBody sNT) (defScope sNT) .none akVPn adocPn apmPn aanPn acdPn actPn), aslPn⟩)
    (acPn : PySem.W.codeIn K acdPn "number_text" = true)
    (akPn : PySem.W.keepIn K (.ref afPn) = true)
    (aPl : PySem.W.nsIn K mainGlobals "less" = some (some (.ref afPl)))
    (alPl : K.lookup afPl = some ⟨aocPl, aodPl, .func (PySem.W.fnOf "less" "less" (defArgs sLess) (defBody sLess) (defScope sLess) .none akVPl adocPl apmPl aanPl acdPl actPl), aslPl⟩)
    (acPl : PySem.W.codeIn K acdPl "less" = true)
    (akPl : PySem.W.keepIn K (.ref afPl) = true)
    (aPm : PySem.W.nsIn K mainGlobals "map_text" = some (some (.ref afPm)))
    (alPm : K.lookup afPm = some ⟨aocPm, aodPm, .func (PySem.W.fnOf "map_text" "map_text" (defArgs sMT) (defBody sMT) (defScope sMT) .none akVPm adocPm apmPm aanPm acdPm actPm), aslPm⟩)
    (acPm : PySem.W.codeIn K acdPm "map_text" = true)
    (akPm : PySem.W.keepIn K (.ref afPm) = true)
    (aPr : PySem.W.nsIn K mainGlobals "number_read" = some (some (.ref afPr)))
    (alPr : K.lookup afPr = some ⟨aocPr, aodPr, .func (PySem.W.fnOf "number_read" "number_read" (defArgs sNR) (defBody sNR) (defScope sNR) .none akVPr adocPr apmPr aanPr acdPr actPr), aslPr⟩)
    (acPr : PySem.W.codeIn K acdPr "number_read" = true)
    (akPr : PySem.W.keepIn K (.ref afPr) = true)
    (aPe : PySem.W.nsIn K mainGlobals "entry_read" = some (some (.ref afPe)))
    (alPe : K.lookup afPe = some ⟨aocPe, aodPe, .func (PySem.W.fnOf "entry_read" "entry_read" (defArgs sER) (defBody sER) (defScope sER) .none akVPe adocPe apmPe aanPe acdPe actPe), aslPe⟩)
    (acPe : PySem.W.codeIn K acdPe "entry_read" = true)
    (akPe : PySem.W.keepIn K (.ref afPe) = true)
    (aPd : PySem.W.nsIn K mainGlobals "read_map" = some (some (.ref afPd)))
    (alPd : K.lookup afPd = some ⟨aocPd, aodPd, .func (PySem.W.fnOf "read_map" "read_map" (defArgs sRM) (defBody sRM) (defScope sRM) .none akVPd adocPd apmPd aanPd acdPd actPd), aslPd⟩)
    (acPd : PySem.W.codeIn K acdPd "read_map" = true)
    (akPd : PySem.W.keepIn K (.ref afPd) = true)
    (aLe : PySem.W.nsIn K mainGlobals "_law_entries" = some (some (.ref afLe)))
    (alLe : K.lookup afLe = some ⟨aocLe, aodLe, .func (PySem.W.fnOf "_law_entries" "_law_entries" (defArgs sLE) (defBody sLE) (defScope sLE) .none akVLe adocLe apmLe aanLe acdLe actLe), aslLe⟩)
    (acLe : PySem.W.codeIn K acdLe "_law_entries" = true)
    (akLe : PySem.W.keepIn K (.ref afLe) = true)
    (aLd : PySem.W.nsIn K mainGlobals "_law_digits" = some (some (.ref afLd)))
    (alLd : K.lookup afLd = some ⟨aocLd, aodLd, .func (PySem.W.fnOf "_law_digits" "_law_digits" (defArgs sLD) (defBody sLD) (defScope sLD) .none akVLd adocLd apmLd aanLd acdLd actLd), aslLd⟩)
    (acLd : PySem.W.codeIn K acdLd "_law_digits" = true)
    (akLd : PySem.W.keepIn K (.ref afLd) = true)
    (aLw : PySem.W.nsIn K mainGlobals "_law_written" = some (some (.ref afLw)))
    (alLw : K.lookup afLw = some ⟨aocLw, aodLw, .func (PySem.W.fnOf "_law_written" "_law_written" (defArgs sLW) (defBody sLW) (defScope sLW) .none akVLw adocLw apmLw aanLw acdLw actLw), aslLw⟩)
    (acLw : PySem.W.codeIn K acdLw "_law_written" = true)
    (akLw : PySem.W.keepIn K (.ref afLw) = true)
    (aLn : PySem.W.nsIn K mainGlobals "_law_number" = some (some (.ref afLn)))
    (alLn : K.lookup afLn = some ⟨aocLn, aodLn, .func (PySem.W.fnOf "_law_number" "_law_number" (defArgs sLN) (defBody sLN) (defScope sLN) .none akVLn adocLn apmLn aanLn acdLn actLn), aslLn⟩)
    (acLn : PySem.W.codeIn K acdLn "_law_number" = true)
    (akLn : PySem.W.keepIn K (.ref afLn) = true)
    (aLr : PySem.W.nsIn K mainGlobals "_law_read" = some (some (.ref afLr)))
    (alLr : K.lookup afLr = some ⟨aocLr, aodLr, .func (PySem.W.fnOf "_law_read" "_law_read" (defArgs sLR) (defBody sLR) (defScope sLR) .none akVLr adocLr apmLr aanLr acdLr actLr), aslLr⟩)
    (acLr : PySem.W.codeIn K acdLr "_law_read" = true)
    (akLr : PySem.W.keepIn K (.ref afLr) = true)
    (aLa : PySem.W.nsIn K mainGlobals "_law_asked" = some (some (.ref afLa)))
    (alLa : K.lookup afLa = some ⟨aocLa, aodLa, .func (PySem.W.fnOf "_law_asked" "_law_asked" (defArgs sLA) (defBody sLA) (defScope sLA) .none akVLa adocLa apmLa aanLa acdLa actLa), aslLa⟩)
    (acLa : PySem.W.codeIn K acdLa "_law_asked" = true)
    (akLa : PySem.W.keepIn K (.ref afLa) = true)
    (aLg : PySem.W.nsIn K mainGlobals "_law_good" = some (some (.ref afLg)))
    (alLg : K.lookup afLg = some ⟨aocLg, aodLg, .func (PySem.W.fnOf "_law_good" "_law_good" (defArgs sLG) (defBody sLG) (defScope sLG) .none akVLg adocLg apmLg aanLg acdLg actLg), aslLg⟩)
    (acLg : PySem.W.codeIn K acdLg "_law_good" = true)
    (akLg : PySem.W.keepIn K (.ref afLg) = true)
    (aW : PySem.W.nsIn K mainGlobals "law" = some (some (.ref afW)))
    (alW : K.lookup afW = some ⟨aocW, aodW, .func (PySem.W.fnOf "law" "law" (defArgs sLaw) (defBody sLaw) (defScope sLaw) .none akVW adocW apmW aanW acdW actW), aslW⟩)
    (acW : PySem.W.codeIn K acdW "law" = true)
    (akW : PySem.W.keepIn K (.ref afW) = true)
    (sf0 : PySem.W.selfFirst K c0 = true)
    (sf1 : PySem.W.selfFirst K c1 = true)
    (sf2 : PySem.W.selfFirst K c2 = true)
    (sf3 : PySem.W.selfFirst K c3 = true)
    (sf4 : PySem.W.selfFirst K c4 = true)
    (sf5 : PySem.W.selfFirst K c5 = true)
    (sf6 : PySem.W.selfFirst K c6 = true)
    (sf7 : PySem.W.selfFirst K c7 = true)
    (sf8 : PySem.W.selfFirst K c8 = true)
    (sf9 : PySem.W.selfFirst K c9 = true)
    : ∃ fd : FuncData, (∀ (s : Shared) (u : Value), BindsTo s fd ⟨[u], []⟩ [("script", u)]) ∧ ∀ base : Heap, K.In base → base.Ns mainGlobals mg → FnOk P w K mg base CX0 7 fa fd ["script"] (spLaw K) := by
  have e := hfa.symm.trans (PySem.W.mg_of X G aW)
  cases e
  have T : Ten K mg (fun i => [c0, c1, c2, c3, c4, c5, c6, c7, c8, c9].getD i 0) cL := {
    g := fun i hi => match i, hi with
      | 0, _ => PySem.W.mg_of X G g0
      | 1, _ => PySem.W.mg_of X G g1
      | 2, _ => PySem.W.mg_of X G g2
      | 3, _ => PySem.W.mg_of X G g3
      | 4, _ => PySem.W.mg_of X G g4
      | 5, _ => PySem.W.mg_of X G g5
      | 6, _ => PySem.W.mg_of X G g6
      | 7, _ => PySem.W.mg_of X G g7
      | 8, _ => PySem.W.mg_of X G g8
      | 9, _ => PySem.W.mg_of X G g9
    gL := PySem.W.mg_of X G gL
    gI := PySem.W.mg_none_of X G z_isinstance
    gZ := PySem.W.mg_none_of X G z_zip
    gV := PySem.W.mg_none_of X G z_ValueError
    isOne := fun i j hi hj => match i, hi, j, hj with
      | 0, _, 0, _ => kit_self
      | 0, _, 1, _ => kit_ref hc1 ht1 s0_1 (ne_ref (sub_ne s0_1 hs0 sf0))
      | 0, _, 2, _ => kit_ref hc2 ht2 s0_2 (ne_ref (sub_ne s0_2 hs0 sf0))
      | 0, _, 3, _ => kit_ref hc3 ht3 s0_3 (ne_ref (sub_ne s0_3 hs0 sf0))
      | 0, _, 4, _ => kit_ref hc4 ht4 s0_4 (ne_ref (sub_ne s0_4 hs0 sf0))
      | 0, _, 5, _ => kit_ref hc5 ht5 s0_5 (ne_ref (sub_ne s0_5 hs0 sf0))
      | 0, _, 6, _ => kit_ref hc6 ht6 s0_6 (ne_ref (sub_ne s0_6 hs0 sf0))
      | 0, _, 7, _ => kit_ref hc7 ht7 s0_7 (ne_ref (sub_ne s0_7 hs0 sf0))
      | 0, _, 8, _ => kit_ref hc8 ht8 s0_8 (ne_ref (sub_ne s0_8 hs0 sf0))
      | 0, _, 9, _ => kit_ref hc9 ht9 s0_9 (ne_ref (sub_ne s0_9 hs0 sf0))
      | 1, _, 0, _ => kit_ref hc0 ht0 s1_0 (ne_ref (sub_ne s1_0 hs1 sf1))
      | 1, _, 1, _ => kit_self
      | 1, _, 2, _ => kit_ref hc2 ht2 s1_2 (ne_ref (sub_ne s1_2 hs1 sf1))
      | 1, _, 3, _ => kit_ref hc3 ht3 s1_3 (ne_ref (sub_ne s1_3 hs1 sf1))
      | 1, _, 4, _ => kit_ref hc4 ht4 s1_4 (ne_ref (sub_ne s1_4 hs1 sf1))
      | 1, _, 5, _ => kit_ref hc5 ht5 s1_5 (ne_ref (sub_ne s1_5 hs1 sf1))
      | 1, _, 6, _ => kit_ref hc6 ht6 s1_6 (ne_ref (sub_ne s1_6 hs1 sf1))
      | 1, _, 7, _ => kit_ref hc7 ht7 s1_7 (ne_ref (sub_ne s1_7 hs1 sf1))
      | 1, _, 8, _ => kit_ref hc8 ht8 s1_8 (ne_ref (sub_ne s1_8 hs1 sf1))
      | 1, _, 9, _ => kit_ref hc9 ht9 s1_9 (ne_ref (sub_ne s1_9 hs1 sf1))
      | 2, _, 0, _ => kit_ref hc0 ht0 s2_0 (ne_ref (sub_ne s2_0 hs2 sf2))
      | 2, _, 1, _ => kit_ref hc1 ht1 s2_1 (ne_ref (sub_ne s2_1 hs2 sf2))
      | 2, _, 2, _ => kit_self
      | 2, _, 3, _ => kit_ref hc3 ht3 s2_3 (ne_ref (sub_ne s2_3 hs2 sf2))
      | 2, _, 4, _ => kit_ref hc4 ht4 s2_4 (ne_ref (sub_ne s2_4 hs2 sf2))
      | 2, _, 5, _ => kit_ref hc5 ht5 s2_5 (ne_ref (sub_ne s2_5 hs2 sf2))
      | 2, _, 6, _ => kit_ref hc6 ht6 s2_6 (ne_ref (sub_ne s2_6 hs2 sf2))
      | 2, _, 7, _ => kit_ref hc7 ht7 s2_7 (ne_ref (sub_ne s2_7 hs2 sf2))
      | 2, _, 8, _ => kit_ref hc8 ht8 s2_8 (ne_ref (sub_ne s2_8 hs2 sf2))
      | 2, _, 9, _ => kit_ref hc9 ht9 s2_9 (ne_ref (sub_ne s2_9 hs2 sf2))
      | 3, _, 0, _ => kit_ref hc0 ht0 s3_0 (ne_ref (sub_ne s3_0 hs3 sf3))
      | 3, _, 1, _ => kit_ref hc1 ht1 s3_1 (ne_ref (sub_ne s3_1 hs3 sf3))
      | 3, _, 2, _ => kit_ref hc2 ht2 s3_2 (ne_ref (sub_ne s3_2 hs3 sf3))
      | 3, _, 3, _ => kit_self
      | 3, _, 4, _ => kit_ref hc4 ht4 s3_4 (ne_ref (sub_ne s3_4 hs3 sf3))
      | 3, _, 5, _ => kit_ref hc5 ht5 s3_5 (ne_ref (sub_ne s3_5 hs3 sf3))
      | 3, _, 6, _ => kit_ref hc6 ht6 s3_6 (ne_ref (sub_ne s3_6 hs3 sf3))
      | 3, _, 7, _ => kit_ref hc7 ht7 s3_7 (ne_ref (sub_ne s3_7 hs3 sf3))
      | 3, _, 8, _ => kit_ref hc8 ht8 s3_8 (ne_ref (sub_ne s3_8 hs3 sf3))
      | 3, _, 9, _ => kit_ref hc9 ht9 s3_9 (ne_ref (sub_ne s3_9 hs3 sf3))
      | 4, _, 0, _ => kit_ref hc0 ht0 s4_0 (ne_ref (sub_ne s4_0 hs4 sf4))
      | 4, _, 1, _ => kit_ref hc1 ht1 s4_1 (ne_ref (sub_ne s4_1 hs4 sf4))
      | 4, _, 2, _ => kit_ref hc2 ht2 s4_2 (ne_ref (sub_ne s4_2 hs4 sf4))
      | 4, _, 3, _ => kit_ref hc3 ht3 s4_3 (ne_ref (sub_ne s4_3 hs4 sf4))
      | 4, _, 4, _ => kit_self
      | 4, _, 5, _ => kit_ref hc5 ht5 s4_5 (ne_ref (sub_ne s4_5 hs4 sf4))
      | 4, _, 6, _ => kit_ref hc6 ht6 s4_6 (ne_ref (sub_ne s4_6 hs4 sf4))
      | 4, _, 7, _ => kit_ref hc7 ht7 s4_7 (ne_ref (sub_ne s4_7 hs4 sf4))
      | 4, _, 8, _ => kit_ref hc8 ht8 s4_8 (ne_ref (sub_ne s4_8 hs4 sf4))
      | 4, _, 9, _ => kit_ref hc9 ht9 s4_9 (ne_ref (sub_ne s4_9 hs4 sf4))
      | 5, _, 0, _ => kit_ref hc0 ht0 s5_0 (ne_ref (sub_ne s5_0 hs5 sf5))
      | 5, _, 1, _ => kit_ref hc1 ht1 s5_1 (ne_ref (sub_ne s5_1 hs5 sf5))
      | 5, _, 2, _ => kit_ref hc2 ht2 s5_2 (ne_ref (sub_ne s5_2 hs5 sf5))
      | 5, _, 3, _ => kit_ref hc3 ht3 s5_3 (ne_ref (sub_ne s5_3 hs5 sf5))
      | 5, _, 4, _ => kit_ref hc4 ht4 s5_4 (ne_ref (sub_ne s5_4 hs5 sf5))
      | 5, _, 5, _ => kit_self
      | 5, _, 6, _ => kit_ref hc6 ht6 s5_6 (ne_ref (sub_ne s5_6 hs5 sf5))
      | 5, _, 7, _ => kit_ref hc7 ht7 s5_7 (ne_ref (sub_ne s5_7 hs5 sf5))
      | 5, _, 8, _ => kit_ref hc8 ht8 s5_8 (ne_ref (sub_ne s5_8 hs5 sf5))
      | 5, _, 9, _ => kit_ref hc9 ht9 s5_9 (ne_ref (sub_ne s5_9 hs5 sf5))
      | 6, _, 0, _ => kit_ref hc0 ht0 s6_0 (ne_ref (sub_ne s6_0 hs6 sf6))
      | 6, _, 1, _ => kit_ref hc1 ht1 s6_1 (ne_ref (sub_ne s6_1 hs6 sf6))
      | 6, _, 2, _ => kit_ref hc2 ht2 s6_2 (ne_ref (sub_ne s6_2 hs6 sf6))
      | 6, _, 3, _ => kit_ref hc3 ht3 s6_3 (ne_ref (sub_ne s6_3 hs6 sf6))
      | 6, _, 4, _ => kit_ref hc4 ht4 s6_4 (ne_ref (sub_ne s6_4 hs6 sf6))
      | 6, _, 5, _ => kit_ref hc5 ht5 s6_5 (ne_ref (sub_ne s6_5 hs6 sf6))
      | 6, _, 6, _ => kit_self
      | 6, _, 7, _ => kit_ref hc7 ht7 s6_7 (ne_ref (sub_ne s6_7 hs6 sf6))
      | 6, _, 8, _ => kit_ref hc8 ht8 s6_8 (ne_ref (sub_ne s6_8 hs6 sf6))
      | 6, _, 9, _ => kit_ref hc9 ht9 s6_9 (ne_ref (sub_ne s6_9 hs6 sf6))
      | 7, _, 0, _ => kit_ref hc0 ht0 s7_0 (ne_ref (sub_ne s7_0 hs7 sf7))
      | 7, _, 1, _ => kit_ref hc1 ht1 s7_1 (ne_ref (sub_ne s7_1 hs7 sf7))
      | 7, _, 2, _ => kit_ref hc2 ht2 s7_2 (ne_ref (sub_ne s7_2 hs7 sf7))
      | 7, _, 3, _ => kit_ref hc3 ht3 s7_3 (ne_ref (sub_ne s7_3 hs7 sf7))
      | 7, _, 4, _ => kit_ref hc4 ht4 s7_4 (ne_ref (sub_ne s7_4 hs7 sf7))
      | 7, _, 5, _ => kit_ref hc5 ht5 s7_5 (ne_ref (sub_ne s7_5 hs7 sf7))
      | 7, _, 6, _ => kit_ref hc6 ht6 s7_6 (ne_ref (sub_ne s7_6 hs7 sf7))
      | 7, _, 7, _ => kit_self
      | 7, _, 8, _ => kit_ref hc8 ht8 s7_8 (ne_ref (sub_ne s7_8 hs7 sf7))
      | 7, _, 9, _ => kit_ref hc9 ht9 s7_9 (ne_ref (sub_ne s7_9 hs7 sf7))
      | 8, _, 0, _ => kit_ref hc0 ht0 s8_0 (ne_ref (sub_ne s8_0 hs8 sf8))
      | 8, _, 1, _ => kit_ref hc1 ht1 s8_1 (ne_ref (sub_ne s8_1 hs8 sf8))
      | 8, _, 2, _ => kit_ref hc2 ht2 s8_2 (ne_ref (sub_ne s8_2 hs8 sf8))
      | 8, _, 3, _ => kit_ref hc3 ht3 s8_3 (ne_ref (sub_ne s8_3 hs8 sf8))
      | 8, _, 4, _ => kit_ref hc4 ht4 s8_4 (ne_ref (sub_ne s8_4 hs8 sf8))
      | 8, _, 5, _ => kit_ref hc5 ht5 s8_5 (ne_ref (sub_ne s8_5 hs8 sf8))
      | 8, _, 6, _ => kit_ref hc6 ht6 s8_6 (ne_ref (sub_ne s8_6 hs8 sf8))
      | 8, _, 7, _ => kit_ref hc7 ht7 s8_7 (ne_ref (sub_ne s8_7 hs8 sf8))
      | 8, _, 8, _ => kit_self
      | 8, _, 9, _ => kit_ref hc9 ht9 s8_9 (ne_ref (sub_ne s8_9 hs8 sf8))
      | 9, _, 0, _ => kit_ref hc0 ht0 s9_0 (ne_ref (sub_ne s9_0 hs9 sf9))
      | 9, _, 1, _ => kit_ref hc1 ht1 s9_1 (ne_ref (sub_ne s9_1 hs9 sf9))
      | 9, _, 2, _ => kit_ref hc2 ht2 s9_2 (ne_ref (sub_ne s9_2 hs9 sf9))
      | 9, _, 3, _ => kit_ref hc3 ht3 s9_3 (ne_ref (sub_ne s9_3 hs9 sf9))
      | 9, _, 4, _ => kit_ref hc4 ht4 s9_4 (ne_ref (sub_ne s9_4 hs9 sf9))
      | 9, _, 5, _ => kit_ref hc5 ht5 s9_5 (ne_ref (sub_ne s9_5 hs9 sf9))
      | 9, _, 6, _ => kit_ref hc6 ht6 s9_6 (ne_ref (sub_ne s9_6 hs9 sf9))
      | 9, _, 7, _ => kit_ref hc7 ht7 s9_7 (ne_ref (sub_ne s9_7 hs9 sf9))
      | 9, _, 8, _ => kit_ref hc8 ht8 s9_8 (ne_ref (sub_ne s9_8 hs9 sf9))
      | 9, _, 9, _ => kit_self
    isL := fun i hi => match i, hi with
      | 0, _ => kit_ref cL1 cL2 sL0 (fun _ => rfl)
      | 1, _ => kit_ref cL1 cL2 sL1 (fun _ => rfl)
      | 2, _ => kit_ref cL1 cL2 sL2 (fun _ => rfl)
      | 3, _ => kit_ref cL1 cL2 sL3 (fun _ => rfl)
      | 4, _ => kit_ref cL1 cL2 sL4 (fun _ => rfl)
      | 5, _ => kit_ref cL1 cL2 sL5 (fun _ => rfl)
      | 6, _ => kit_ref cL1 cL2 sL6 (fun _ => rfl)
      | 7, _ => kit_ref cL1 cL2 sL7 (fun _ => rfl)
      | 8, _ => kit_ref cL1 cL2 sL8 (fun _ => rfl)
      | 9, _ => kit_ref cL1 cL2 sL9 (fun _ => rfl)
    isV := fun i hi => match i, hi with
      | 0, _ => kit_bi (by decide +kernel) sV0
      | 1, _ => kit_bi (by decide +kernel) sV1
      | 2, _ => kit_bi (by decide +kernel) sV2
      | 3, _ => kit_bi (by decide +kernel) sV3
      | 4, _ => kit_bi (by decide +kernel) sV4
      | 5, _ => kit_bi (by decide +kernel) sV5
      | 6, _ => kit_bi (by decide +kernel) sV6
      | 7, _ => kit_bi (by decide +kernel) sV7
      | 8, _ => kit_bi (by decide +kernel) sV8
      | 9, _ => kit_bi (by decide +kernel) sV9
    ek := fun i hi => match i, hi with
      | 0, _ => ⟨hc0, hg0, hk0, hs0, hd0, ha0, sn, st, hm0⟩
      | 1, _ => ⟨hc1, hg1, hk1, hs1, hd1, ha1, sn, st, hm1⟩
      | 2, _ => ⟨hc2, hg2, hk2, hs2, hd2, ha2, sn, st, hm2⟩
      | 3, _ => ⟨hc3, hg3, hk3, hs3, hd3, ha3, sn, st, hm3⟩
      | 4, _ => ⟨hc4, hg4, hk4, hs4, hd4, ha4, sn, st, hm4⟩
      | 5, _ => ⟨hc5, hg5, hk5, hs5, hd5, ha5, sn, st, hm5⟩
      | 6, _ => ⟨hc6, hg6, hk6, hs6, hd6, ha6, sn, st, hm6⟩
      | 7, _ => ⟨hc7, hg7, hk7, hs7, hd7, ha7, sn, st, hm7⟩
      | 8, _ => ⟨hc8, hg8, hk8, hs8, hd8, ha8, sn, st, hm8⟩
      | 9, _ => ⟨hc9, hg9, hk9, hs9, hd9, ha9, sn, st, hm9⟩ }
  have oT : OexC K c6 := ⟨⟨_, _, _, _, _, _, _, _, _, _, _, _, _, _, _, xT, rfl⟩, saT, hs6, ht6, kcT⟩
  have FT : FunD K "__init__" "NoText.__init__" (defArgs iText) (defBody iText) (defScope iText) [.int 0] [] fT _ := ⟨⟨_, _, _, _, _, _, _, _, _, _, rfl, lfT, cfT, .inr ⟨by simp, _, _, _, _, rfl, ldT, rfl, .cons ⟨_, rfl⟩ .nil⟩, .inl rfl⟩, kfT⟩
  have C : TextC K mg ((fun i => [c0, c1, c2, c3, c4, c5, c6, c7, c8, c9].getD i 0) 6) fT _ := { o := oT, i := icT, t := tiT, F := FT, n := nTat, g := PySem.W.mg_of X G g6 }
  have MM : Mp mg := { abs_ := PySem.W.mg_none_of X G z_abs, len_ := PySem.W.mg_none_of X G z_len, zip_ := PySem.W.mg_none_of X G z_zip, all_ := PySem.W.mg_none_of X G z_all, int_ := PySem.W.mg_none_of X G z_int, min_ := PySem.W.mg_none_of X G z_min, max_ := PySem.W.mg_none_of X G z_max, str_ := PySem.W.mg_none_of X G z_str, list_ := PySem.W.mg_none_of X G z_list, tuple_ := PySem.W.mg_none_of X G z_tuple, range_ := PySem.W.mg_none_of X G z_range, isinstance := PySem.W.mg_none_of X G z_isinstance, figs := ⟨_, PySem.W.mg_of X G qF⟩, base := ⟨_, PySem.W.mg_of X G q32⟩, most := ⟨_, PySem.W.mg_of X G q30⟩ }
  have DM := fun_mk (st := sMixed) alM acM akM
  have DC := fun_mk (st := sCell) alC acC akC
  have DK := fun_mk (st := sTake) alK acK akK
  have DO := fun_mk (st := sOnly) alO acO akO
  have DPn := fun_mk (st := sNT) alPn acPn akPn
  have DPl := fun_mk (st := sLess) alPl acPl akPl
  have DPm := fun_mk (st := sMT) alPm acPm akPm
  have DPr := fun_mk (st := sNR) alPr acPr akPr
  have DPe := fun_mk (st := sER) alPe acPe akPe
  have DPd := fun_mk (st := sRM) alPd acPd akPd
  have DLe := fun_mk (st := sLE) alLe acLe akLe
  have DLd := fun_mk (st := sLD) alLd acLd akLd
  have DLw := fun_mk (st := sLW) alLw acLw akLw
  have DLn := fun_mk (st := sLN) alLn acLn akLn
  have DLr := fun_mk (st := sLR) alLr acLr akLr
  have DLa := fun_mk (st := sLA) alLa acLa akLa
  have DLg := fun_mk (st := sLG) alLg acLg akLg
  have DW := fun_mk (st := sLaw) alW acW akW
  have BM := DM.binds (ps := ["cell", "k"]) fun _ _ _ _ _ _ us hl => match us, hl with | [_, _], _ => rfl
  have GM := PySem.W.mg_of X G aM
  have BC := DC.binds (ps := ["script", "k"]) fun _ _ _ _ _ _ us hl => match us, hl with | [_, _], _ => rfl
  have GC := PySem.W.mg_of X G aC
  have BK := DK.binds (ps := ["pile", "size"]) fun _ _ _ _ _ _ us hl => match us, hl with | [_, _], _ => rfl
  have GK := PySem.W.mg_of X G aK
  have BO := DO.binds (ps := ["error", "word"]) fun _ _ _ _ _ _ us hl => match us, hl with | [_, _], _ => rfl
  have GO := PySem.W.mg_of X G aO
  have BPn := DPn.binds (ps := ["number"]) fun _ _ _ _ _ _ us hl => match us, hl with | [_], _ => rfl
  have GPn := PySem.W.mg_of X G aPn
  have BPl := DPl.binds (ps := ["entry", "other"]) fun _ _ _ _ _ _ us hl => match us, hl with | [_, _], _ => rfl
  have GPl := PySem.W.mg_of X G aPl
  have BPm := DPm.binds (ps := ["entries"]) fun _ _ _ _ _ _ us hl => match us, hl with | [_], _ => rfl
  have GPm := PySem.W.mg_of X G aPm
  have BPr := DPr.binds (ps := ["word"]) fun _ _ _ _ _ _ us hl => match us, hl with | [_], _ => rfl
  have GPr := PySem.W.mg_of X G aPr
  have BPe := DPe.binds (ps := ["text", "ahead"]) fun _ _ _ _ _ _ us hl => match us, hl with | [_, _], _ => rfl
  have GPe := PySem.W.mg_of X G aPe
  have BPd := DPd.binds (ps := ["text"]) fun _ _ _ _ _ _ us hl => match us, hl with | [_], _ => rfl
  have GPd := PySem.W.mg_of X G aPd
  have BLe := DLe.binds (ps := ["pile"]) fun _ _ _ _ _ _ us hl => match us, hl with | [_], _ => rfl
  have GLe := PySem.W.mg_of X G aLe
  have BLd := DLd.binds (ps := ["number_own"]) fun _ _ _ _ _ _ us hl => match us, hl with | [_], _ => rfl
  have GLd := PySem.W.mg_of X G aLd
  have BLw := DLw.binds (ps := ["entries_own"]) fun _ _ _ _ _ _ us hl => match us, hl with | [_], _ => rfl
  have GLw := PySem.W.mg_of X G aLw
  have BLn := DLn.binds (ps := ["word"]) fun _ _ _ _ _ _ us hl => match us, hl with | [_], _ => rfl
  have GLn := PySem.W.mg_of X G aLn
  have BLr := DLr.binds (ps := ["text_own"]) fun _ _ _ _ _ _ us hl => match us, hl with | [_], _ => rfl
  have GLr := PySem.W.mg_of X G aLr
  have BLa := DLa.binds (ps := ["text_own"]) fun _ _ _ _ _ _ us hl => match us, hl with | [_], _ => rfl
  have GLa := PySem.W.mg_of X G aLa
  have BLg := DLg.binds (ps := ["text_own"]) fun _ _ _ _ _ _ us hl => match us, hl with | [_], _ => rfl
  have GLg := PySem.W.mg_of X G aLg
  refine ⟨PySem.W.fnOf "law" "law" (defArgs sLaw) (defBody sLaw) (defScope sLaw) .none akVW adocW apmW aanW acdW actW, fun s u => .of_eq rfl, fun base _ _ => ?_⟩
  have exm := exm_ref bL cL1 cL2 sL6
  have ONT : FnOk P w K mg base CX0 1 _ _ ["number"] spNT := ok_NT DPn MM
  have OLs : FnOk P w K mg base CX0 1 _ _ ["entry", "other"] (spLess K) := ok_Less DPl MM
  have OMT : FnOk P w K mg base CX0 2 _ _ ["entries"] (spMT K) := ok_MT DPm DPl GPl BPl OLs DPn GPn BPn ONT
  have ONR : FnOk P w K mg base CX0 2 _ _ ["word"] spNR := ok_NR DPr MM DPn GPn BPn ONT
  have OER : FnOk P w K mg base (L2.CX P w) 3 _ _ ["text", "ahead"] (spER K _) := ok_ER DPe MM C DPr GPr BPr ONR
  have ORM : FnOk P w K mg base (L2.CX P w) 4 _ _ ["text"] (spRM K _) := ok_RM DPd MM C DPe GPe BPe OER
  have OLD : FnOk P w K mg base CX0 2 _ _ ["number_own"] spNT := ok_LD DLd MM GLd BLd
  have OLW : FnOk P w K mg base CX0 3 _ _ ["entries_own"] (spMT K) := ok_LW DLw MM DLd GLd BLd OLD
  have OLN : FnOk P w K mg base CX0 3 _ _ ["word"] spLN := ok_LN DLn MM DLd GLd BLd OLD
  have OLR : FnOk P w K mg base CX0 4 _ _ ["text_own"] (spLR K) := ok_LR DLr MM DLn GLn BLn OLN
  have OLA : FnOk P w K mg base CX0 5 _ _ ["text_own"] (spLA K fun i => [c0, c1, c2, c3, c4, c5, c6, c7, c8, c9].getD i 0) := ok_LA DLa T exm DPd GPd BPd ORM
  have OLG : FnOk P w K mg base CX0 6 _ _ ["text_own"] spLG := ok_LG DLg MM T nTat DLr GLr BLr OLR DLa GLa BLa OLA DO GO BO DPm GPm BPm OMT
  have OLE : FnOk P w K mg base CX0 2 _ _ ["pile"] (spLE K) := ok_LE DLe MM DK GK BK
  have OC : FnOk P w K mg base CX0 2 _ _ ["script", "k"] (spCell K) := ok_cell DC DM BM GM (PySem.W.mg_none_of X G z_len) (PySem.W.mg_none_of X G z_range)
  have OK : FnOk P w K mg base CX0 1 _ _ ["pile", "size"] spTk := ok_takeW DK
  have OO : FnOk P w K mg base CX0 1 _ _ ["error", "word"] (spOnly K fun i => [c0, c1, c2, c3, c4, c5, c6, c7, c8, c9].getD i 0) := ok_only DO T
  exact ok_Law (cs := fun i => [c0, c1, c2, c3, c4, c5, c6, c7, c8, c9].getD i 0) DW MM T nTat DC GC BC OC DLe GLe BLe OLE DLw GLw BLw OLW DPm GPm BPm OMT DPd GPd BPd ORM DK GK BK OK DLg GLg BLg OLG DLa GLa BLa OLA DO GO BO OO
end My
open PySem PySem.W PyProof.Rows
set_option maxRecDepth 100000 in
set_option maxHeartbeats 0 in
theorem PySem.Challenge.cw_leanscript_k71_texts_of_maps_holds : PySem.Challenge.rw_leanscript_k71_texts_of_maps.Holds := by
  w_on; o_law; k_head; (case hw => w_witness2)
  k_fill
  refine L2.walk_ofK (l := PySem.Challenge.rw_leanscript_k71_texts_of_maps) (n := 63) (k := 7) (x := "script") (CX := L2.CX0) (sp := My.spLaw) rfl (by decide) rfl ⟨rfl, by decide, by decide⟩ (fun w h Y => PySem.W.kIn_of Y) ?F (fun K H a ns _ _ hS => ⟨a, ns, rfl, hS, fun _ => rfl⟩) (fun _ _ _ _ z => z)
  case F =>
    intro w mg fa h KX G hmg
    refine' My.all_mk KX G hmg ?my_g0 ?my_g1 ?my_g2 ?my_g3 ?my_g4 ?my_g5 ?my_g6 ?my_g7 ?my_g8 ?my_g9 ?my_gL ?my_z_isinstance ?my_z_zip ?my_z_ValueError ?my_z_len ?my_z_range ?my_z_str ?my_z_all ?my_z_int ?my_z_list ?my_z_abs ?my_z_min ?my_z_max ?my_z_tuple ?my_sn ?my_st ?my_hc0 ?my_hg0 ?my_hk0 ?my_hs0 ?my_hd0 ?my_ha0 ?my_hm0 ?my_ht0 ?my_sV0 ?my_sL0 ?my_s0_1 ?my_s0_2 ?my_s0_3 ?my_s0_4 ?my_s0_5 ?my_s0_6 ?my_s0_7 ?my_s0_8 ?my_s0_9 ?my_hc1 ?my_hg1 ?my_hk1 ?my_hs1 ?my_hd1 ?my_ha1 ?my_hm1 ?my_ht1 ?my_sV1 ?my_sL1 ?my_s1_0 ?my_s1_2 ?my_s1_3 ?my_s1_4 ?my_s1_5 ?my_s1_6 ?my_s1_7 ?my_s1_8 ?my_s1_9 ?my_hc2 ?my_hg2 ?my_hk2 ?my_hs2 ?my_hd2 ?my_ha2 ?my_hm2 ?my_ht2 ?my_sV2 ?my_sL2 ?my_s2_0 ?my_s2_1 ?my_s2_3 ?my_s2_4 ?my_s2_5 ?my_s2_6 ?my_s2_7 ?my_s2_8 ?my_s2_9 ?my_hc3 ?my_hg3 ?my_hk3 ?my_hs3 ?my_hd3 ?my_ha3 ?my_hm3 ?my_ht3 ?my_sV3 ?my_sL3 ?my_s3_0 ?my_s3_1 ?my_s3_2 ?my_s3_4 ?my_s3_5 ?my_s3_6 ?my_s3_7 ?my_s3_8 ?my_s3_9 ?my_hc4 ?my_hg4 ?my_hk4 ?my_hs4 ?my_hd4 ?my_ha4 ?my_hm4 ?my_ht4 ?my_sV4 ?my_sL4 ?my_s4_0 ?my_s4_1 ?my_s4_2 ?my_s4_3 ?my_s4_5 ?my_s4_6 ?my_s4_7 ?my_s4_8 ?my_s4_9 ?my_hc5 ?my_hg5 ?my_hk5 ?my_hs5 ?my_hd5 ?my_ha5 ?my_hm5 ?my_ht5 ?my_sV5 ?my_sL5 ?my_s5_0 ?my_s5_1 ?my_s5_2 ?my_s5_3 ?my_s5_4 ?my_s5_6 ?my_s5_7 ?my_s5_8 ?my_s5_9 ?my_hc6 ?my_hg6 ?my_hk6 ?my_hs6 ?my_hd6 ?my_ha6 ?my_hm6 ?my_ht6 ?my_sV6 ?my_sL6 ?my_s6_0 ?my_s6_1 ?my_s6_2 ?my_s6_3 ?my_s6_4 ?my_s6_5 ?my_s6_7 ?my_s6_8 ?my_s6_9 ?my_hc7 ?my_hg7 ?my_hk7 ?my_hs7 ?my_hd7 ?my_ha7 ?my_hm7 ?my_ht7 ?my_sV7 ?my_sL7 ?my_s7_0 ?my_s7_1 ?my_s7_2 ?my_s7_3 ?my_s7_4 ?my_s7_5 ?my_s7_6 ?my_s7_8 ?my_s7_9 ?my_hc8 ?my_hg8 ?my_hk8 ?my_hs8 ?my_hd8 ?my_ha8 ?my_hm8 ?my_ht8 ?my_sV8 ?my_sL8 ?my_s8_0 ?my_s8_1 ?my_s8_2 ?my_s8_3 ?my_s8_4 ?my_s8_5 ?my_s8_6 ?my_s8_7 ?my_s8_9 ?my_hc9 ?my_hg9 ?my_hk9 ?my_hs9 ?my_hd9 ?my_ha9 ?my_hm9 ?my_ht9 ?my_sV9 ?my_sL9 ?my_s9_0 ?my_s9_1 ?my_s9_2 ?my_s9_3 ?my_s9_4 ?my_s9_5 ?my_s9_6 ?my_s9_7 ?my_s9_8 ?my_cL1 ?my_cL2 ?my_xT ?my_saT ?my_kcT ?my_icT ?my_tiT ?my_lfT ?my_cfT ?my_kfT ?my_ldT ?my_nTat ?my_bL ?my_q30 ?my_q32 ?my_qF ?my_aM ?my_alM ?my_acM ?my_akM ?my_aC ?my_alC ?my_acC ?my_akC ?my_aK ?my_alK ?my_acK ?my_akK ?my_aO ?my_alO ?my_acO ?my_akO ?my_aPn ?my_alPn ?my_acPn ?my_akPn ?my_aPl ?my_alPl ?my_acPl ?my_akPl ?my_aPm ?my_alPm ?my_acPm ?my_akPm ?my_aPr ?my_alPr ?my_acPr ?my_akPr ?my_aPe ?my_alPe ?my_acPe ?my_akPe ?my_aPd ?my_alPd ?my_acPd ?my_akPd ?my_aLe ?my_alLe ?my_acLe ?my_akLe ?my_aLd ?my_alLd ?my_acLd ?my_akLd ?my_aLw ?my_alLw ?my_acLw ?my_akLw ?my_aLn ?my_alLn ?my_acLn ?my_akLn ?my_aLr ?my_alLr ?my_acLr ?my_akLr ?my_aLa ?my_alLa ?my_acLa ?my_akLa ?my_aLg ?my_alLg ?my_acLg ?my_akLg ?my_aW ?my_alW ?my_acW ?my_akW ?my_sf0 ?my_sf1 ?my_sf2 ?my_sf3 ?my_sf4 ?my_sf5 ?my_sf6 ?my_sf7 ?my_sf8 ?my_sf9
    (case my_g0 => k_is)
    (case my_g1 => k_is)
    (case my_g2 => k_is)
    (case my_g3 => k_is)
    (case my_g4 => k_is)
    (case my_g5 => k_is)
    (case my_g6 => k_is)
    (case my_g7 => k_is)
    (case my_g8 => k_is)
    (case my_g9 => k_is)
    (case my_gL => k_is)
    (case my_z_isinstance => k_is)
    (case my_z_zip => k_is)
    (case my_z_ValueError => k_is)
    (case my_z_len => k_is)
    (case my_z_range => k_is)
    (case my_z_str => k_is)
    (case my_z_all => k_is)
    (case my_z_int => k_is)
    (case my_z_list => k_is)
    (case my_z_abs => k_is)
    (case my_z_min => k_is)
    (case my_z_max => k_is)
    (case my_z_tuple => k_is)
    (case my_sn => k_is)
    (case my_st => k_is)
    (case my_hc0 => k_is)
    (case my_hg0 => k_is)
    (case my_hk0 => k_is)
    (case my_hs0 => k_is)
    (case my_hd0 => k_is)
    (case my_ha0 => k_is)
    (case my_hm0 => k_is)
    (case my_ht0 => k_is)
    (case my_sV0 => k_is)
    (case my_sL0 => k_is)
    (case my_s0_1 => k_is)
    (case my_s0_2 => k_is)
    (case my_s0_3 => k_is)
    (case my_s0_4 => k_is)
    (case my_s0_5 => k_is)
    (case my_s0_6 => k_is)
    (case my_s0_7 => k_is)
    (case my_s0_8 => k_is)
    (case my_s0_9 => k_is)
    (case my_hc1 => k_is)
    (case my_hg1 => k_is)
    (case my_hk1 => k_is)
    (case my_hs1 => k_is)
    (case my_hd1 => k_is)
    (case my_ha1 => k_is)
    (case my_hm1 => k_is)
    (case my_ht1 => k_is)
    (case my_sV1 => k_is)
    (case my_sL1 => k_is)
    (case my_s1_0 => k_is)
    (case my_s1_2 => k_is)
    (case my_s1_3 => k_is)
    (case my_s1_4 => k_is)
    (case my_s1_5 => k_is)
    (case my_s1_6 => k_is)
    (case my_s1_7 => k_is)
    (case my_s1_8 => k_is)
    (case my_s1_9 => k_is)
    (case my_hc2 => k_is)
    (case my_hg2 => k_is)
    (case my_hk2 => k_is)
    (case my_hs2 => k_is)
    (case my_hd2 => k_is)
    (case my_ha2 => k_is)
    (case my_hm2 => k_is)
    (case my_ht2 => k_is)
    (case my_sV2 => k_is)
    (case my_sL2 => k_is)
    (case my_s2_0 => k_is)
    (case my_s2_1 => k_is)
    (case my_s2_3 => k_is)
    (case my_s2_4 => k_is)
    (case my_s2_5 => k_is)
    (case my_s2_6 => k_is)
    (case my_s2_7 => k_is)
    (case my_s2_8 => k_is)
    (case my_s2_9 => k_is)
    (case my_hc3 => k_is)
    (case my_hg3 => k_is)
    (case my_hk3 => k_is)
    (case my_hs3 => k_is)
    (case my_hd3 => k_is)
    (case my_ha3 => k_is)
    (case my_hm3 => k_is)
    (case my_ht3 => k_is)
    (case my_sV3 => k_is)
    (case my_sL3 => k_is)
    (case my_s3_0 => k_is)
    (case my_s3_1 => k_is)
    (case my_s3_2 => k_is)
    (case my_s3_4 => k_is)
    (case my_s3_5 => k_is)
    (case my_s3_6 => k_is)
    (case my_s3_7 => k_is)
    (case my_s3_8 => k_is)
    (case my_s3_9 => k_is)
    (case my_hc4 => k_is)
    (case my_hg4 => k_is)
    (case my_hk4 => k_is)
    (case my_hs4 => k_is)
    (case my_hd4 => k_is)
    (case my_ha4 => k_is)
    (case my_hm4 => k_is)
    (case my_ht4 => k_is)
    (case my_sV4 => k_is)
    (case my_sL4 => k_is)
    (case my_s4_0 => k_is)
    (case my_s4_1 => k_is)
    (case my_s4_2 => k_is)
    (case my_s4_3 => k_is)
    (case my_s4_5 => k_is)
    (case my_s4_6 => k_is)
    (case my_s4_7 => k_is)
    (case my_s4_8 => k_is)
    (case my_s4_9 => k_is)
    (case my_hc5 => k_is)
    (case my_hg5 => k_is)
    (case my_hk5 => k_is)
    (case my_hs5 => k_is)
    (case my_hd5 => k_is)
    (case my_ha5 => k_is)
    (case my_hm5 => k_is)
    (case my_ht5 => k_is)
    (case my_sV5 => k_is)
    (case my_sL5 => k_is)
    (case my_s5_0 => k_is)
    (case my_s5_1 => k_is)
    (case my_s5_2 => k_is)
    (case my_s5_3 => k_is)
    (case my_s5_4 => k_is)
    (case my_s5_6 => k_is)
    (case my_s5_7 => k_is)
    (case my_s5_8 => k_is)
    (case my_s5_9 => k_is)
    (case my_hc6 => k_is)
    (case my_hg6 => k_is)
    (case my_hk6 => k_is)
    (case my_hs6 => k_is)
    (case my_hd6 => k_is)
    (case my_ha6 => k_is)
    (case my_hm6 => k_is)
    (case my_ht6 => k_is)
    (case my_sV6 => k_is)
    (case my_sL6 => k_is)
    (case my_s6_0 => k_is)
    (case my_s6_1 => k_is)
    (case my_s6_2 => k_is)
    (case my_s6_3 => k_is)
    (case my_s6_4 => k_is)
    (case my_s6_5 => k_is)
    (case my_s6_7 => k_is)
    (case my_s6_8 => k_is)
    (case my_s6_9 => k_is)
    (case my_hc7 => k_is)
    (case my_hg7 => k_is)
    (case my_hk7 => k_is)
    (case my_hs7 => k_is)
    (case my_hd7 => k_is)
    (case my_ha7 => k_is)
    (case my_hm7 => k_is)
    (case my_ht7 => k_is)
    (case my_sV7 => k_is)
    (case my_sL7 => k_is)
    (case my_s7_0 => k_is)
    (case my_s7_1 => k_is)
    (case my_s7_2 => k_is)
    (case my_s7_3 => k_is)
    (case my_s7_4 => k_is)
    (case my_s7_5 => k_is)
    (case my_s7_6 => k_is)
    (case my_s7_8 => k_is)
    (case my_s7_9 => k_is)
    (case my_hc8 => k_is)
    (case my_hg8 => k_is)
    (case my_hk8 => k_is)
    (case my_hs8 => k_is)
    (case my_hd8 => k_is)
    (case my_ha8 => k_is)
    (case my_hm8 => k_is)
    (case my_ht8 => k_is)
    (case my_sV8 => k_is)
    (case my_sL8 => k_is)
    (case my_s8_0 => k_is)
    (case my_s8_1 => k_is)
    (case my_s8_2 => k_is)
    (case my_s8_3 => k_is)
    (case my_s8_4 => k_is)
    (case my_s8_5 => k_is)
    (case my_s8_6 => k_is)
    (case my_s8_7 => k_is)
    (case my_s8_9 => k_is)
    (case my_hc9 => k_is)
    (case my_hg9 => k_is)
    (case my_hk9 => k_is)
    (case my_hs9 => k_is)
    (case my_hd9 => k_is)
    (case my_ha9 => k_is)
    (case my_hm9 => k_is)
    (case my_ht9 => k_is)
    (case my_sV9 => k_is)
    (case my_sL9 => k_is)
    (case my_s9_0 => k_is)
    (case my_s9_1 => k_is)
    (case my_s9_2 => k_is)
    (case my_s9_3 => k_is)
    (case my_s9_4 => k_is)
    (case my_s9_5 => k_is)
    (case my_s9_6 => k_is)
    (case my_s9_7 => k_is)
    (case my_s9_8 => k_is)
    (case my_cL1 => k_is)
    (case my_cL2 => k_is)
    (case my_xT => k_is)
    (case my_saT => k_is)
    (case my_kcT => k_is)
    (case my_icT => k_is)
    (case my_tiT => k_is)
    (case my_lfT => k_is)
    (case my_cfT => k_is)
    (case my_kfT => k_is)
    (case my_ldT => k_is)
    (case my_nTat => k_is)
    (case my_bL => k_is)
    (case my_q30 => k_is)
    (case my_q32 => k_is)
    (case my_qF => k_is)
    (case my_aM => k_is)
    (case my_alM => k_is)
    (case my_acM => k_is)
    (case my_akM => k_is)
    (case my_aC => k_is)
    (case my_alC => k_is)
    (case my_acC => k_is)
    (case my_akC => k_is)
    (case my_aK => k_is)
    (case my_alK => k_is)
    (case my_acK => k_is)
    (case my_akK => k_is)
    (case my_aO => k_is)
    (case my_alO => k_is)
    (case my_acO => k_is)
    (case my_akO => k_is)
    (case my_aPn => k_is)
    (case my_alPn => k_is)
    (case my_acPn => k_is)
    (case my_akPn => k_is)
    (case my_aPl => k_is)
    (case my_alPl => k_is)
    (case my_acPl => k_is)
    (case my_akPl => k_is)
    (case my_aPm => k_is)
    (case my_alPm => k_is)
    (case my_acPm => k_is)
    (case my_akPm => k_is)
    (case my_aPr => k_is)
    (case my_alPr => k_is)
    (case my_acPr => k_is)
    (case my_akPr => k_is)
    (case my_aPe => k_is)
    (case my_alPe => k_is)
    (case my_acPe => k_is)
    (case my_akPe => k_is)
    (case my_aPd => k_is)
    (case my_alPd => k_is)
    (case my_acPd => k_is)
    (case my_akPd => k_is)
    (case my_aLe => k_is)
    (case my_alLe => k_is)
    (case my_acLe => k_is)
    (case my_akLe => k_is)
    (case my_aLd => k_is)
    (case my_alLd => k_is)
    (case my_acLd => k_is)
    (case my_akLd => k_is)
    (case my_aLw => k_is)
    (case my_alLw => k_is)
    (case my_acLw => k_is)
    (case my_akLw => k_is)
    (case my_aLn => k_is)
    (case my_alLn => k_is)
    (case my_acLn => k_is)
    (case my_akLn => k_is)
    (case my_aLr => k_is)
    (case my_alLr => k_is)
    (case my_acLr => k_is)
    (case my_akLr => k_is)
    (case my_aLa => k_is)
    (case my_alLa => k_is)
    (case my_acLa => k_is)
    (case my_akLa => k_is)
    (case my_aLg => k_is)
    (case my_alLg => k_is)
    (case my_acLg => k_is)
    (case my_akLg => k_is)
    (case my_aW => k_is)
    (case my_alW => k_is)
    (case my_acW => k_is)
    (case my_akW => k_is)
    (case my_sf0 => k_is)
    (case my_sf1 => k_is)
    (case my_sf2 => k_is)
    (case my_sf3 => k_is)
    (case my_sf4 => k_is)
    (case my_sf5 => k_is)
    (case my_sf6 => k_is)
    (case my_sf7 => k_is)
    (case my_sf8 => k_is)
    (case my_sf9 => k_is)
