import PyProof.Rows.All
import Wide.All
import OpenK.AllK
import Wide.FinOn
import PyProof.EqAt
import PyProof.EqKinds
import PyProof.TupleCall
import KE.KExcIs
import HandS.ForMost
import HandS.Exc
import HandS.ExcOwn
import HandS.WordsExc
import HandS.ExcInit
import HandS.ExcValue
import HandS.Defaults
import HandS.IsInst
import HandS.Wide
import HandS.Walk
import HandS.MakeKw
import HandS.Style
import HandS.Conv
import PySem.Challenge.RW_leanscript_k14_refusals
set_option Elab.async false
set_option linter.all false
set_option maxRecDepth 100000
set_option maxHeartbeats 8000000
namespace XR
open PySem PySem.Spec PyProof.Rows L2

/-- an exception's object, by its class and its dict -/
def ExAt (H : Hp) (a C : Addr) (d : Option Addr) : Prop := ∃ phi : Heap → Prop, H a = some (.ext phi) ∧
  ∀ h, phi h → ∃ (oe : Obj) (vs : Array Value), h.get? a = some oe ∧ oe.cls = .ref C ∧ oe.dict = d ∧ oe.data = .fields vs
/-- its own dict -/
def DcAt (H : Hp) (dd : Addr) (fs : List (Str × V)) : Prop := H dd = some (.xd fs) ∨ H dd = some (exd dd fs)
def ExIn (H : Hp) (a C : Addr) : Prop := ExAt H a C none ∨ ∃ dd fs, ExAt H a C (some dd) ∧ DcAt H dd fs
theorem exAt_exo {H : Hp} {a C : Addr} {d : Option Addr} (h : H a = some (exo a C d)) : ExAt H a C d := ⟨_, h, fun _ ⟨_, e⟩ => ⟨_, _, e, rfl, rfl, rfl⟩⟩
theorem exAt_ExO {H : Hp} {a C : Addr} (h : H a = some (ExO (.ref C) a)) : ExAt H a C none := ⟨_, h, fun _ ⟨_, _, e, z, d, _⟩ => ⟨_, _, e, z.1, z.2, d⟩⟩
theorem ExAt.same {H H' : Hp} {a C : Addr} {d : Option Addr} (h : ExAt H a C d) (k : Same H H') : ExAt H' a C d := let ⟨p, e, q⟩ := h; ⟨p, k _ _ e, q⟩
theorem DcAt.same {H H' : Hp} {dd : Addr} {fs : List (Str × V)} (h : DcAt H dd fs) (k : Same H H') : DcAt H' dd fs := h.elim (fun e => .inl (k _ _ e)) fun e => .inr (k _ _ e)
theorem ExIn.same {H H' : Hp} {a C : Addr} (h : ExIn H a C) (k : Same H H') : ExIn H' a C := h.elim (fun e => .inl (e.same k)) fun ⟨dd, fs, e, f⟩ => .inr ⟨dd, fs, e.same k, f.same k⟩

section
variable {X : Cx} {pins : List (Addr × Obj)} {σ : L2.St} {H : Hp} {s : Shared}
theorem dc_ns {dd : Addr} {fs : List (Str × V)} (I : Inv X pins σ H s) (h : DcAt H dd fs) : ∃ mA, s.heap.Ns1 dd mA ∧ ∀ f, RelO (fs.lookup f) (mA f) := by
  rcases h with h | h
  · exact I.hok dd _ h
  · exact exd_at I.hok h
theorem ex_obj {a C : Addr} {d : Option Addr} (I : Inv X pins σ H s) (h : ExAt H a C d) : ∃ (oe : Obj) (vs : Array Value), s.heap.get? a = some oe ∧ oe.cls = .ref C ∧ oe.dict = d ∧ oe.data = .fields vs := by
  obtain ⟨p, e, q⟩ := h
  have x : ObjOk X.prog X.w H s.heap a (.ext p) := I.hok a _ e
  exact q _ x.1
theorem inst_of {a C : Addr} (I : Inv X pins σ H s) (h : ExIn H a C) : ∃ (oe : Obj) (od : Option Obj), PySem.W.InstAt s.heap a oe C od := by
  rcases h with h | ⟨dd, fs, h, k⟩
  · obtain ⟨oe, vs, e, c, d, t⟩ := ex_obj I h
    exact ⟨oe, none, ⟨e, c, by unfold PySem.W.notCls; rw [t] <;> rfl, by rw [d] <;> trivial⟩⟩
  · obtain ⟨oe, vs, e, c, d, t⟩ := ex_obj I h
    obtain ⟨mA, hns, hr⟩ := dc_ns I k
    obtain ⟨od, ho, hl⟩ := lookIn_ns hns
    exact ⟨oe, some od, ⟨e, c, by unfold PySem.W.notCls; rw [t] <;> rfl, by rw [d]; exact ho⟩⟩
/-- what the class must say, so that isinstance asks its instances rightly -/
structure ExcK (K : PySem.W.Frag) (C : Addr) : Prop where
  hc : (PySem.W.clsIn K C).isSome = true
  hg : PySem.W.findIn K (.ref C) "__getattribute__" = some (some (.builtin "BaseException.__getattribute__"))
  hk : PySem.W.findIn K (.ref C) "__getattr__" = some none
  hs : PySem.W.subIn K (.ref C) (.type "BaseException") = some true
  hd : PySem.W.hasDictIn K C = true
  ha : PySem.W.findIn K (.ref C) "__class__" = some (some (.builtin "object.__class__"))
  hn : PySem.W.specialIn K (.builtin "object.__class__") "__get__" = some (some (.builtin "getset_descriptor.__get__"))
  ht : PySem.W.takesIn K (.builtin "object.__class__") = some true
  hm : PySem.W.mroIn K C (.type "object") = some true
/-- isinstance(x, T), x an exception of the class at C -/
def rIsX (K : PySem.W.Frag) : List V → Hp → VK → Prop := fun xs H Q => ∃ (a C : Addr) (c : V) (u : Value) (b : Bool), xs = [.ref a, c] ∧ ClsV c u ∧ ExIn H a C ∧ ExcK K C ∧ PySem.W.kitOne K (.ref C) u = some b ∧ Q (.bl b) H
theorem call_isX : CallR X (.builtin "isinstance") (rIsX X.K) := by
  intro pins s σ H xs us Q I r h
  obtain ⟨a, C, c, u, b, rfl, k, ex, T, e, q⟩ := h
  obtain ⟨u1, u2, rfl, r1, r2⟩ := vals2 r
  have e2 := k.eq r2
  subst e2
  cases (show u1 = Value.ref a from r1)
  obtain ⟨oe, od, J⟩ := inst_of I ex
  exact PySem.W.kia_one (PySem.W.kitx_exc T.hc T.hg T.hk T.hs T.ha T.hn T.ht T.hm) I.kIn J e (fun z => nomatch z) fun tk => ⟨.bl b, H, I.tok tk, rfl, q⟩
/-- x.f, x an exception that has its dict -/
def tXfl (K : PySem.W.Frag) (f : Str) (te : TE) : TE := fun σ H Q => te σ H fun x H1 => ∃ (a C dd : Addr) (fs : List (Str × V)) (v : V), x = .ref a ∧ ExAt H1 a C (some dd) ∧ DcAt H1 dd fs ∧ ExcK K C ∧ PySem.W.findIn K (.ref C) f = some none ∧ fs.lookup f = some v ∧ Q v H1
theorem pe_xfl {e : Expr} {te : TE} {pos : Pos} {f : Str} (he : PE X e te) (hb : attributeBase e f X.env (eval e X.env) = eval e X.env := by rfl) : PE X (.Attribute e f pos) (tXfl X.K f te) := by
  refine ⟨fun pins s σ H Q I h => ?_⟩
  refine attr_of hb (thn (he.run pins s σ H _ I h) fun u s1 hh => ?_)
  obtain ⟨x, H1, I1, rx, a, C, dd, fs, v, ex, ea, ed, T, hno, l, q⟩ := hh
  subst ex
  obtain rfl : u = Value.ref a := rx
  obtain ⟨oe, vs, e1, c1, d1, t1⟩ := ex_obj I1 ea
  obtain ⟨mA, hns, hr⟩ := dc_ns I1 ed
  obtain ⟨od, ho, hl⟩ := lookIn_ns hns
  obtain ⟨u, hu, ru⟩ := RelO.some_of (v := v) (o := mA f) (by rw [← l]; exact hr f)
  have J : PySem.W.InstAt s1.heap a oe C (some od) := ⟨e1, c1, by unfold PySem.W.notCls; rw [t1] <;> rfl, by rw [d1]; exact ho⟩
  exact HandSPX.exc_get I1.kIn J T.hg T.hk T.hs (PySem.W.findObj_own T.hd hno rfl (by rw [hl, hu])) (handed_of ru) ⟨v, H1, I1.tok _, ru, q⟩
end

/-! ### C(e, ..) as a value, C's own __init__ keeping sp -/
def tMkX (C : Addr) (sp : Sp) (dvs : List V) (ta : TA) : TE := fun σ H Q => ta σ H fun vs H1 => vs.length ≤ 1000 ∧ ∀ a, H1 a = none → sp (.ref a :: (vs ++ dvs)) (upd H1 a (exo a C none)) (fun v H2 => v = .non ∧ Q (.ref a) H2) (fun _ _ _ => False)
section
variable {X : Cx} {CX : CXT} {k : Nat} {C fI : Addr} {fd : FuncData} {ps : List Str} {sp : Sp} {ds : List Value} {dvs : List V} {x : Str} {p pos : Pos} {e : Expr} {es : List Expr} {ta : TA}
theorem run_mkX {pins : List (Addr × Obj)} {σ : L2.St} {H : Hp} {s : Shared} {Q : VK} {us : List Value} {vs : List V} (T : OexC X.K C) (iC : PySem.W.findIn X.K (.ref C) "__init__" = some (some (.ref fI))) (tI : PySem.W.typeIn X.K (.ref fI) = some (.type "function"))
    (F1 : FnOk X.prog X.w X.K X.mg X.base CX k fI fd ps sp) (hr : Room (k + 1) X.A) (hb : Binds X.K fd ps ds) (hd : Vals dvs ds) (hx : Passes CX X (fun _ _ _ => False)) (I1 : Inv X pins σ H s) (r1 : Vals vs us) (hz : vs.length ≤ 1000)
    (q1 : ∀ a, H a = none → sp (.ref a :: (vs ++ dvs)) (upd H a (exo a C none)) (fun v H2 => v = .non ∧ Q (.ref a) H2) (fun _ _ _ => False)) :
    wpAny (model X.prog X.w) X.A (call (.ref C) us) (EP X pins σ Q) X.xe s := by
  obtain ⟨nm, q, N, bs, bm, sn, sub, ab, col, dd, k0, k1, k2, k3, k5, hC, hbm⟩ := T.cls
  obtain ⟨hp, g, dr, tk, os⟩ := s
  have hsz : hp.objs.size ≤ hp.objs.size + 1 := Nat.le_succ _
  have hn : H (hp.objs.size + 1) = none := I1.hok.fresh hsz
  have hq := q1 (hp.objs.size + 1) hn
  have kk : ∀ b o, hp.get? b = some o → ((hp.push (PySem.W.kdv_tup us)).push (PySem.HandSPX.excO C hp.objs.size)).get? b = some o := fun b o e => Heap.get?_push_of_some _ (Heap.get?_push_of_some _ e)
  have hget : ((hp.push (PySem.W.kdv_tup us)).push (PySem.HandSPX.excO C hp.objs.size)).get? (hp.objs.size + 1) = some (PySem.HandSPX.excO C hp.objs.size) := by heap_get
  have I2 : Inv X pins σ (upd H (hp.objs.size + 1) (exo (hp.objs.size + 1) C none)) ⟨(hp.push (PySem.W.kdv_tup us)).push (PySem.HandSPX.excO C hp.objs.size), g, dr, tk, os⟩ :=
    I1.laid (t' := tk) (a := hp.objs.size + 1) (o := exo (hp.objs.size + 1) C none) (h' := (hp.push (PySem.W.kdv_tup us)).push (PySem.HandSPX.excO C hp.objs.size)) kk hsz (exo_ok hget)
  have r2 : Vals (V.ref (hp.objs.size + 1) :: (vs ++ dvs)) (Value.ref (hp.objs.size + 1) :: (us ++ ds)) := .cons rfl (r1.append hd)
  have hl : (Value.ref (hp.objs.size + 1) :: us ++ ds).length = ps.length := by
    have e := r2.length
    rw [F1.len _ _ _ _ hq] at e
    exact e.symm
  have hus : us.length ≤ sizeLine := by
    rw [← Paired.length r1, sizeLine_eq]
    omega
  refine wpAny_call (PySem.HandSPX.call_own F.excBase_ValueError (fun Y => PySem.HandSPX.refsVE_contains Y bm hbm) (I1.kIn _ _ hC) (PySem.W.looks_findIn I1.kIn iC) (fun self => PySem.W.bind_fn I1.kIn self tI) hus
    (codeAny_mono (F1.run _ X.stack _ _ ⟨Value.ref (hp.objs.size + 1) :: us, []⟩ (Value.ref (hp.objs.size + 1) :: (us ++ ds)) _ _ (fun _ _ _ => False) (hr.make C us []) (I2.env0.make C us []) (hb _ (Value.ref (hp.objs.size + 1) :: us) I2.kIn hl) r2 hq) fun r s' hq' => ?_))
  cases r with
  | error er => exact hx pins σ _ _ er s' I2 hq'
  | ok fl =>
    cases fl with
    | ret u =>
      obtain ⟨v, H', I3, rv, ev, q3⟩ := I2.after hq'
      subst ev
      exact ⟨rv, ⟨V.ref (hp.objs.size + 1), H', I3, rfl, q3⟩⟩
    | next => exact False.elim hq'
    | brk => exact False.elim hq'
    | cont => exact False.elim hq'
theorem pe_mkX (T : OexC X.K C) (iC : PySem.W.findIn X.K (.ref C) "__init__" = some (some (.ref fI))) (tI : PySem.W.typeIn X.K (.ref fI) = some (.type "function"))
    (F1 : FnOk X.prog X.w X.K X.mg X.base CX k fI fd ps sp) (hr : Room (k + 1) X.A) (hb : Binds X.K fd ps ds) (hd : Vals dvs ds) (hx : Passes CX X (fun _ _ _ => False)) (hg : Gl X x) (hm : X.mg x = some (.ref C)) (ha : PA X (e :: es) ta)
    (hdb : (x == ("__debug__" : Str)) = false := by decide) (he : starEach (e :: es) X.env = (false, eval e X.env) :: starEach es X.env := by rfl) (hpl : (backTo pos (starEach es X.env)).any (·.1) = false := by rfl) :
    PE X (.Call (.Name x p) (e :: es) [] pos) (tMkX C sp dvs ta) := by
  refine ⟨fun pins s σ H Q I h => ?_⟩
  refine wpAny_Call_Name_kw (ld_glob I hg hm ?_ hdb)
  refine PySem.W.callWith_K (h₀ := X.base) I.ok.mod.kin T.kC (thn (ha.run pos pins s σ H _ I h) fun us s1 ⟨vs, H1, I1, r1, hz, q1⟩ => ⟨I1.kIn, ?_⟩) he hpl
  exact run_mkX T iC tI F1 hr hb hd hx I1 r1 hz q1
theorem pe_mkX0 (T : OexC X.K C) (iC : PySem.W.findIn X.K (.ref C) "__init__" = some (some (.ref fI))) (tI : PySem.W.typeIn X.K (.ref fI) = some (.type "function"))
    (F1 : FnOk X.prog X.w X.K X.mg X.base CX k fI fd ps sp) (hr : Room (k + 1) X.A) (hb : Binds X.K fd ps ds) (hd : Vals dvs ds) (hx : Passes CX X (fun _ _ _ => False)) (hg : Gl X x) (hm : X.mg x = some (.ref C))
    (hdb : (x == ("__debug__" : Str)) = false := by decide) : PE X (.Call (.Name x p) [] [] pos) (tMkX C sp dvs tNil) := by
  refine ⟨fun pins s σ H Q I h => ?_⟩
  refine wpAny_Call_Name_kw (ld_glob I hg hm ?_ hdb)
  obtain ⟨hz, q1⟩ := h
  exact PySem.W.callWith_K0 I.kIn T.kC (run_mkX (us := []) T iC tI F1 hr hb hd hx I .nil hz q1)
end
/-! ### a class without own __init__, made of nothing -/
section
variable {X : Cx}
theorem pe_exc0 {C : Addr} {bmB : List Value} {B newId initId : String} {x : Str} {p pos : Pos} (F : ExcBaseFacts B newId initId bmB) (q : PySem.W.excIn X.K C bmB newId = true) (gC : X.mg x = some (.ref C)) (kC : PySem.W.keepIn X.K (.ref C) = true) (hg : Gl X x)
    (hdb : (x == ("__debug__" : Str)) = false := by decide) :
    PE X (.Call (.Name x p) [] [] pos) (fun σ H Q => ∀ a, H a = none → Q (.ref a) (upd H a (ExO (.ref C) a))) := by
  refine ⟨fun pins s σ H Q I h => ?_⟩
  refine wpAny_Call_Name_kw (ld_glob I hg gC ?_ hdb)
  refine PySem.W.callWith_K0 I.kIn kC ?_
  obtain ⟨bm, N, nm, qn, bs, hdct, sn, sub, ab, col, dd, k0, k1, k2, k3, k5, mN, hC, hN, hni, T⟩ := exc_obj I.kIn q
  refine wpAny_call_exc_subT F T hC hN hni (fun h' a hm => ?_) (by show 0 ≤ sizeLine; omega)
  have hn : H a = none := I.hok.gone hm.new
  obtain ⟨t, ht, _, _⟩ := hm.there
  exact ⟨.ref a, upd H a (ExO (.ref C) a), I.laidN hm.keeps hm.new hn (exO_ok ht ⟨rfl, rfl⟩ rfl rfl rfl (show 4 < 6 by decide)), rfl, h a hn⟩
end
end XR

namespace XRK
open PySem PySem.Spec PySem.W PySem.Calls PyProof.Rows PySem.HandSPX
open Builtin Builtin.ObjectAttr
section
variable {M : Model} {A : Around} {E : Value → Shared → Prop} {h : Heap} {g : Array GenState} {d : Drawn} {t : Nat} {os : OsState}
variable {nm q : Str} {C N : Addr} {bs bm bmB : List Value} {hdct : Bool} {sn : List Str} {sub : List Value} {ab : Bool} {col : Option Bool} {dd : Option Addr} {k0 k1 k2 k3 k5 : Option Value} {B newId initId : String}
theorem check_new_ownK (F : ExcBaseFacts B newId initId bmB) (hT : ∀ X : String, bm.contains (.type X) = bmB.contains (.type X)) {rest : List Value} {kw : List (Str × Value)} {Q : Unit → Shared → Prop}
    (hC : h.get? C = some (excClassObj nm q C N bs bm hdct sn sub ab col dd k0 k1 k2 k3 k5 newId)) (hq : Q () ⟨h, g, d, t, os⟩) : wpAny M A (checkBuiltinCall newId ⟨.ref C :: rest, kw⟩) Q E ⟨h, g, d, t, os⟩ := by
  have hcont : (Value.ref C :: bm).contains (.type B) = true := by rw [List.contains_cons, hT, F.hasB, Bool.or_true]
  have hstar := F.noStar
  simp only [checkBuiltinCall, F.newKind, F.newSplit, F.newRow]
  repeat (first | refine wpAny_loadPart_at hC ?_ | (refine wpAny_isSubtype_exc hC ?_; rw [hcont]) | refine wpAny_staticBase_exc hC ?_ | refine wpAny_madeBy_exc hC ?_ | simp only [bne_self_eq_false, Bool.false_eq_true, if_false] | wp_step)
  exact hq
theorem check_type_callK {rest : List Value} {kw : List (Str × Value)} {newId : String} {Q : Unit → Shared → Prop} (hC : h.get? C = some (excClassObj nm q C N bs bm hdct sn sub ab col dd k0 k1 k2 k3 k5 newId))
    (hq : Q () ⟨h, g, d, t, os⟩) : wpAny M A (checkBuiltinCall "type.__call__" ⟨.ref C :: rest, kw⟩) Q E ⟨h, g, d, t, os⟩ := by
  have f3 := tc_sub
  have hT : (⟨h, g, d, t, os⟩ : Shared).TypeIs (.ref C) "type" := ⟨_, hC, rfl⟩
  simp only [checkBuiltinCall, tc_kind, tc_split]
  repeat (any_goals (first | assumption | with_reducible refine wpAny_loadPart_at hC ?_ | with_reducible refine wpAny_onRaise ?_ | with_reducible refine wpAny_map ?_ | wp_step))
end
section
variable {prog : Program} {w : World} {A : Around} {E : Value → Shared → Prop} {R : Result → Shared → Prop} {h : Heap} {g : Array GenState} {d : Drawn} {t : Nat} {os : OsState}
variable {nm q : Str} {C N : Addr} {bs bm bmB : List Value} {hdct : Bool} {sn : List Str} {sub : List Value} {ab : Bool} {col : Option Bool} {dd : Option Addr} {k0 k1 k2 k3 k5 : Option Value} {B newId initId : String}
theorem new_ownK (F : ExcBaseFacts B newId initId bmB) (hT : ∀ X : String, bm.contains (.type X) = bmB.contains (.type X)) {rest : List Value} {kw : List (Str × Value)}
    (hC : h.get? C = some (excClassObj nm q C N bs bm hdct sn sub ab col dd k0 k1 k2 k3 k5 newId))
    (hq : R (.ok (.ret (.ref (h.objs.size + 1)))) ⟨(h.push { cls := .type "tuple", data := .seq rest.toArray }).push
      { cls := .ref C, data := .fields #[.ref h.objs.size, .none, .none, .none, .bool false, .none] }, g, d, t, os⟩) (hrest : rest.length ≤ sizeLine) :
    codeAny (model prog w) A (.builtin newId ⟨.ref C :: rest, kw⟩) R ⟨h, g, d, t, os⟩ := by
  have hends := F.ends
  have hcB : (Value.ref C :: bm).contains (.type B) = true := by rw [List.contains_cons, hT, F.hasB, Bool.or_true]
  have hcA : (Value.ref C :: bm).contains (.type "AttributeError") = false := by rw [List.contains_cons, hT, F.noAttr]; rfl
  have hcN : (Value.ref C :: bm).contains (.type "NameError") = false := by rw [List.contains_cons, hT, F.noName]; rfl
  refine codeAny_builtinAt F.entry ?_
  unfold Builtin.«BaseException.__new__»
  refine PySem.wpAt_bind ?_
  show PySem.wpAt _ _ _ (stack >>= _) _ _ _
  refine PySem.wpAt_bind (PySem.wpAt_stack fun p below => PySem.wpAt_of_wpAny ?_)
  wp_walk
  refine PySem.wpAt_of_wpAny ?_
  rw [F.owner]
  repeat (first | with_reducible refine wpAny_madeHere_exc F.canon hC ?_ | with_reducible refine wpAny_loadPart_at hC ?_ | (with_reducible refine wpAny_isSubtype_exc hC ?_; first | rw [hcB] | rw [hcA] | rw [hcN]) | wp_step)
  show R _ _
  rw [Heap.size_push]
  exact hq
theorem type_call_ownK (F : ExcBaseFacts B newId initId bmB) (hT : ∀ X : String, bm.contains (.type X) = bmB.contains (.type X)) {rest : List Value} {kw : List (Str × Value)} {fI : Addr} {Q : Fin → Shared → Prop}
    (hC : h.get? C = some (excClassObj nm q C N bs bm hdct sn sub ab col dd k0 k1 k2 k3 k5 newId))
    (hi : W.Looks (model prog w) h (typeLookup (.ref C) "__init__") (some (.ref fI))) (hb : ∀ self, W.Looks (model prog w) h (bindSpecial (.ref fI) self) (.ref fI, [self])) (hrest : rest.length ≤ sizeLine)
    (hq : codeAny (model prog w) A (.call (.ref fI) ⟨.ref (h.objs.size + 1) :: rest, kw⟩)
      (fun r s' => match r with | .ok (.ret v) => v = .none ∧ Q (.done (.ret (.ref (h.objs.size + 1)))) s' | .ok _ => False | .error e => E e s')
      ⟨(h.push (W.kdv_tup rest)).push (excO C h.objs.size), g, d, t, os⟩) :
    wpAny (model prog w) A (Builtin.«type.__call__» ⟨.ref C :: rest, kw⟩) Q E ⟨h, g, d, t, os⟩ := by
  repeat (first | with_reducible refine wpAny_loadPart_at hC ?_ | with_reducible refine wpAny_madeBy_exc hC ?_ | wp_step)
  refine codeAny_call_builtin_code (Code.quiet_builtin _ F.quiet) (check_new_ownK F hT hC ?_)
  refine new_ownK F hT hC ?_ hrest
  show wpAny _ _ _ _ _ _
  have k : ∀ b o, h.get? b = some o → ((h.push (W.kdv_tup rest)).push (excO C h.objs.size)).get? b = some o := fun b o e => Heap.get?_push_of_some _ (Heap.get?_push_of_some _ e)
  have hC₁ := k _ _ hC
  have hget : ((h.push (W.kdv_tup rest)).push (excO C h.objs.size)).get? (h.objs.size + 1) = some (excO C h.objs.size) := by heap_get
  have hcC : (Value.ref C :: bm).contains (.ref C) = true := by simp
  have i1 := hi.keeps k
  have b1 := (hb (.ref (h.objs.size + 1))).keeps k
  unfold isInstance
  repeat (first | with_reducible refine wpAny_loadPart_at hget ?_ | (with_reducible refine wpAny_isSubtype_exc hC₁ ?_; rw [hcC]) | wp_step)
  show wpAny _ _ (typeLookup (.ref C) _) _ _ _
  refine i1.at ?_
  refine wpAny_holding (wpAny_bind (b1.at ?_))
  refine wpAny_bind (wpAny_call (codeAny_mono hq fun r s' z => ?_))
  rcases r with e | (v | _ | _ | _) <;> first | exact z | exact z.elim | skip
  obtain ⟨rfl, z⟩ := z
  first
    | exact wpAny_pure (wpAny_pure z)
    | (wp_walk; exact z)
theorem call_ownK (F : ExcBaseFacts B newId initId bmB) (hT : ∀ X : String, bm.contains (.type X) = bmB.contains (.type X)) {rest : List Value} {kw : List (Str × Value)} {fI : Addr}
    (hC : h.get? C = some (excClassObj nm q C N bs bm hdct sn sub ab col dd k0 k1 k2 k3 k5 newId))
    (hi : W.Looks (model prog w) h (typeLookup (.ref C) "__init__") (some (.ref fI))) (hb : ∀ self, W.Looks (model prog w) h (bindSpecial (.ref fI) self) (.ref fI, [self])) (hrest : rest.length ≤ sizeLine)
    (hq : codeAny (model prog w) (A.under (.builtin "type.__call__" ⟨.ref C :: rest, kw⟩)) (.call (.ref fI) ⟨.ref (h.objs.size + 1) :: rest, kw⟩) (W.InitBack (h.objs.size + 1) R)
      ⟨(h.push (W.kdv_tup rest)).push (excO C h.objs.size), g, d, t, os⟩) :
    codeAny (model prog w) A (.call (.ref C) ⟨rest, kw⟩) R ⟨h, g, d, t, os⟩ := by
  have f1 := tc_lookup
  have f2 := tc_bind (.ref C)
  have hTy : (⟨h, g, d, t, os⟩ : Shared).TypeIs (.ref C) "type" := ⟨_, hC, rfl⟩
  refine codeAny_of_tree ?_
  show wpAny _ _ (callAny (.ref C) _) _ _ _
  repeat (any_goals (first | assumption | with_reducible refine wpAny_loadPart_at hC ?_ | wp_step))
  refine ⟨rfl, ?_⟩
  refine codeAny_call_builtin_at (Code.quiet_builtin _ (by decide +kernel)) entry_typeCall (check_type_callK hC (type_call_ownK F hT hC hi hb hrest ?_))
  refine codeAny_mono hq fun r s' z => ?_
  rcases r with e | (v | _ | _ | _) <;> exact z
end
end XRK
namespace XR
open PySem PySem.Spec PyProof.Rows L2
/-- C(e, .., k = v, ..) as a value: n values and keywords ks -/
def tMkXK (C : Addr) (n m : Nat) (sp : Sp) (gV : List V → List V → List V) (t tk : TA) : TE := fun σ H Q => t σ H fun vs H1 => tk σ H1 fun zs H2 => vs.length = n ∧ zs.length = m ∧ n ≤ 1000 ∧
  ∀ a, H2 a = none → sp (gV (.ref a :: vs) zs) (upd H2 a (exo a C none)) (fun v H3 => v = .non ∧ Q (.ref a) H3) (fun _ _ _ => False)
section
variable {X : Cx} {CX : CXT} {k n : Nat} {C fI : Addr} {fd : FuncData} {ps ks : List Str} {sp : Sp} {x : Str} {p pos : Pos} {e : Expr} {es : List Expr} {kws : List Keyword} {t tk : TA} {g : List Value → List Value → List Value} {gV : List V → List V → List V}
theorem run_mkXK {pins : List (Addr × Obj)} {σ : L2.St} {H : Hp} {s : Shared} {Q : VK} {us ws : List Value} {vs zs : List V} (T : OexC X.K C) (iC : PySem.W.findIn X.K (.ref C) "__init__" = some (some (.ref fI))) (tI : PySem.W.typeIn X.K (.ref fI) = some (.type "function"))
    (F1 : FnOk X.prog X.w X.K X.mg X.base CX k fI fd ps sp) (hr : Room (k + 1) X.A) (hb : KBn X.K fd ps (n + 1) ks g gV) (hx : Passes CX X (fun _ _ _ => False)) (I1 : Inv X pins σ H s) (r : Vals vs us) (rz : Vals zs ws) (l1 : vs.length = n) (l2 : zs.length = ks.length) (hz : n ≤ 1000)
    (q1 : ∀ a, H a = none → sp (gV (.ref a :: vs) zs) (upd H a (exo a C none)) (fun v H2 => v = .non ∧ Q (.ref a) H2) (fun _ _ _ => False)) :
    wpAny (model X.prog X.w) X.A (call (.ref C) us (ks.zip ws)) (EP X pins σ Q) X.xe s := by
  obtain ⟨nm, q, N, bs, bm, sn, sub, ab, col, dd, k0, k1, k2, k3, k5, hC, hbm⟩ := T.cls
  obtain ⟨hp, g', dr, tk', os⟩ := s
  have hsz : hp.objs.size ≤ hp.objs.size + 1 := Nat.le_succ _
  have hn : H (hp.objs.size + 1) = none := I1.hok.fresh hsz
  have hq := q1 (hp.objs.size + 1) hn
  have kk : ∀ b o, hp.get? b = some o → ((hp.push (PySem.W.kdv_tup us)).push (PySem.HandSPX.excO C hp.objs.size)).get? b = some o := fun b o e => Heap.get?_push_of_some _ (Heap.get?_push_of_some _ e)
  have hget : ((hp.push (PySem.W.kdv_tup us)).push (PySem.HandSPX.excO C hp.objs.size)).get? (hp.objs.size + 1) = some (PySem.HandSPX.excO C hp.objs.size) := by heap_get
  have I2 : Inv X pins σ (upd H (hp.objs.size + 1) (exo (hp.objs.size + 1) C none)) ⟨(hp.push (PySem.W.kdv_tup us)).push (PySem.HandSPX.excO C hp.objs.size), g', dr, tk', os⟩ :=
    I1.laid (t' := tk') (a := hp.objs.size + 1) (o := exo (hp.objs.size + 1) C none) (h' := (hp.push (PySem.W.kdv_tup us)).push (PySem.HandSPX.excO C hp.objs.size)) kk hsz (exo_ok hget)
  have r1 : Vals (V.ref (hp.objs.size + 1) :: vs) (Value.ref (hp.objs.size + 1) :: us) := .cons rfl r
  have r2 := hb.rel r1 rz
  have e1 : (Value.ref (hp.objs.size + 1) :: us).length = n + 1 := r1.length.symm.trans (congrArg Nat.succ l1)
  have e2 : ws.length = ks.length := rz.length.symm.trans l2
  have hus : us.length ≤ sizeLine := by
    rw [← Paired.length r, sizeLine_eq]
    omega
  refine wpAny_call (XRK.call_ownK F.excBase_ValueError (fun Y => PySem.HandSPX.refsVE_contains Y bm hbm) (I1.kIn _ _ hC) (PySem.W.looks_findIn I1.kIn iC) (fun self => PySem.W.bind_fn I1.kIn self tI) hus
    (codeAny_mono (F1.run _ X.stack _ _ ⟨Value.ref (hp.objs.size + 1) :: us, ks.zip ws⟩ (g (Value.ref (hp.objs.size + 1) :: us) ws) _ _ (fun _ _ _ => False) (hr.make C us (ks.zip ws)) (I2.env0.make C us (ks.zip ws)) (hb.to _ (Value.ref (hp.objs.size + 1) :: us) ws I2.kIn e1 e2) r2 hq) fun r s' hq' => ?_))
  cases r with
  | error er => exact hx pins σ _ _ er s' I2 hq'
  | ok fl =>
    cases fl with
    | ret u =>
      obtain ⟨v, H', I3, rv, ev, q3⟩ := I2.after hq'
      subst ev
      exact ⟨rv, ⟨V.ref (hp.objs.size + 1), H', I3, rfl, q3⟩⟩
    | next => exact False.elim hq'
    | brk => exact False.elim hq'
    | cont => exact False.elim hq'
theorem pe_mkXK (T : OexC X.K C) (iC : PySem.W.findIn X.K (.ref C) "__init__" = some (some (.ref fI))) (tI : PySem.W.typeIn X.K (.ref fI) = some (.type "function"))
    (F1 : FnOk X.prog X.w X.K X.mg X.base CX k fI fd ps sp) (hr : Room (k + 1) X.A) (hb : KBn X.K fd ps (n + 1) ks g gV) (hx : Passes CX X (fun _ _ _ => False)) (hg : Gl X x) (hm : X.mg x = some (.ref C))
    (ha : PA X (e :: es) t) (hkw : PK X kws tk) (hall : (backToKw pos (keywordEach kws X.env)).all (·.1.isSome) = true := by rfl) (hks : (backToKw pos (keywordEach kws X.env)).filterMap (·.1) = ks := by rfl)
    (hdb : (x == ("__debug__" : Str)) = false := by decide) (he : starEach (e :: es) X.env = (false, eval e X.env) :: starEach es X.env := by rfl)
    (hpl : ((backTo pos (starEach (e :: es) X.env)).any (·.1) || (backToKw pos (keywordEach kws X.env)).any (·.1.isNone)) = false := by rfl) :
    PE X (.Call (.Name x p) (e :: es) kws pos) (tMkXK C n ks.length sp gV t tk) := by
  refine ⟨fun pins s σ H Q I h => ?_⟩
  refine wpAny_Call_Name_kw (ld_glob I hg hm ?_ hdb)
  refine PySem.W.callWith_KW (h₀ := X.base) I.ok.mod.kin T.kC hall (thn (ha.run pos pins s σ H _ I h) fun us s1 ⟨vs, H1, I1, r, q⟩ => ?_) hpl he
  refine thn (hkw.run pos pins s1 σ H1 _ I1 q) fun ws s2 ⟨zs, H2, I2, rz, l1, l2, l3, q2⟩ => ⟨I2.kIn, ?_⟩
  rw [hks]
  exact run_mkXK T iC tI F1 hr hb hx I2 r rz l1 l2 l3 q2
theorem pe_mkXK0 (T : OexC X.K C) (iC : PySem.W.findIn X.K (.ref C) "__init__" = some (some (.ref fI))) (tI : PySem.W.typeIn X.K (.ref fI) = some (.type "function"))
    (F1 : FnOk X.prog X.w X.K X.mg X.base CX k fI fd ps sp) (hr : Room (k + 1) X.A) (hb : KBn X.K fd ps 1 ks g gV) (hx : Passes CX X (fun _ _ _ => False)) (hg : Gl X x) (hm : X.mg x = some (.ref C))
    (hkw : PK X kws tk) (hall : (backToKw pos (keywordEach kws X.env)).all (·.1.isSome) = true := by rfl) (hks : (backToKw pos (keywordEach kws X.env)).filterMap (·.1) = ks := by rfl)
    (hdb : (x == ("__debug__" : Str)) = false := by decide)
    (hpl : ((backTo pos (starEach [] X.env)).any (·.1) || (backToKw pos (keywordEach kws X.env)).any (·.1.isNone)) = false := by rfl) :
    PE X (.Call (.Name x p) [] kws pos) (tMkXK C 0 ks.length sp gV tNil tk) := by
  refine ⟨fun pins s σ H Q I h => ?_⟩
  refine wpAny_Call_Name_kw (ld_glob I hg hm ?_ hdb)
  refine PySem.W.callWith_KW0 (h₀ := X.base) I.ok.mod.kin T.kC hall ?_ hpl
  refine thn (hkw.run pos pins s σ H _ I h) fun ws s2 ⟨zs, H2, I2, rz, l1, l2, l3, q2⟩ => ⟨I2.kIn, ?_⟩
  rw [hks]
  exact run_mkXK (us := []) T iC tI F1 hr hb hx I2 .nil rz l1 l2 l3 q2
end
end XR

/-! a reading, step by step -/
namespace XR
open PySem PySem.Spec PyProof.Rows L2
section
variable {σ : L2.St} {H : Hp} {Q : VK} {QT : Bool → Hp → Prop} {QA : List V → Hp → Prop} {v x y : V} {i j : Int} {n : Nat} {ta tb te : TE} {tr t : TA} {r : R2} {D : Ends} {s u : TS} {g : TG}
theorem rv_var (e : σ[n]? = some (some v)) (q : Q v H) : tVar n σ H Q := ⟨v, e, q⟩
theorem rv_c (q : Q v H) : tC v σ H Q := q
theorem rv_op (q : ta σ H fun x H1 => tb σ H1 fun y H2 => r x y H2 Q) : tOp r ta tb σ H Q := q
theorem rv_nil (q : QA [] H) : tNil σ H QA := q
theorem rv_cons (q : ta σ H fun x H1 => tr σ H1 fun xs H2 => QA (x :: xs) H2) : tCons ta tr σ H QA := q
theorem rv_rI0 {g : Int → Int → V} (q : Q (g i j) H) : rI0 g (.int i) (.int j) H Q := ⟨i, j, rfl, rfl, q⟩
theorem rv_rI {C : Int → Int → Prop} {g : Int → Int → V} (c : C i j) (q : Q (g i j) H) : rI C g (.int i) (.int j) H Q := ⟨i, j, rfl, rfl, c, q⟩
theorem rv_eq (c : scal x y = true) (q : Q (.bl (decide (x = y))) H) : rEq x y H Q := ⟨c, q⟩
theorem rv_ne (c : scal x y = true) (q : Q (.bl (!decide (x = y))) H) : rNe x y H Q := ⟨c, q⟩
theorem rv_test (q : te σ H fun x H' => ∃ k, x = .bl k ∧ QT k H') : tTest te σ H QT := q
theorem rv_bl {b : Bool} {P : Bool → Prop} (q : P b) : ∃ k, V.bl b = .bl k ∧ P k := ⟨b, rfl, q⟩
theorem rv_cb {r : List V → Hp → VK → Prop} (q : t σ H fun vs H1 => r vs H1 Q) : tCB r t σ H Q := q
theorem rv_call {sp : Sp} {dvs : List V} {E : XK} (q : t σ H fun vs H1 => sp (vs ++ dvs) H1 Q E) : tCall sp dvs E t σ H Q := q
theorem rv_tup (q : t σ H fun xs H1 => xs.length ≤ sizeLine ∧ ∀ p, H1 p = none → Q (.ref p) (upd H1 p (.tup xs))) : tTup t σ H Q := q
theorem rv_lst (q : t σ H fun xs H1 => xs.length ≤ sizeLine ∧ ∀ p, H1 p = none → Q (.ref p) (upd H1 p (.lst xs))) : tLst t σ H Q := q
theorem rs_seq (q : s { D with nx := u D } σ H) : tSeq s u D σ H := q
theorem rs_asg (q : te σ H fun x H1 => g x σ H1 D.nx) : tAsg te g D σ H := q
theorem rg_name {Q2 : L2.St → Hp → Prop} (q : Q2 (σ.set n (some v)) H) : gName n v σ H Q2 := q
theorem rs_ret (q : te σ H D.rt) : tRet te D σ H := q
theorem rs_next (q : D.nx σ H) : tNext D σ H := q
theorem rs_if {c : TT} (q : c σ H fun b H1 => if b = true then s D σ H1 else u D σ H1) : tIfS c s u D σ H := q
theorem rv_tB (q : te σ H fun x H' => ∃ k, x = .bl k ∧ QT k H') : tB te σ H QT := q
theorem rv_or {tA tB : TT} (q : tA σ H fun c H1 => if c = true then QT true H1 else tB σ H1 QT) : tOr tA tB σ H QT := q
theorem rv_and {tA tB : TT} (q : tA σ H fun c H1 => if c = true then tB σ H1 QT else QT false H1) : tAnd tA tB σ H QT := q
theorem rv_not {tA : TT} (q : tA σ H fun c H1 => QT (!c) H1) : tNot tA σ H QT := q
theorem rv_andV (q : ta σ H fun x H1 => ∃ c, x = .bl c ∧ if c = true then tb σ H1 Q else Q (.bl false) H1) : tAndV ta tb σ H Q := q
theorem rv_orV (q : ta σ H fun x H1 => ∃ c, x = .bl c ∧ if c = true then Q (.bl true) H1 else tb σ H1 Q) : tOrV ta tb σ H Q := q
theorem rv_notV (q : ta σ H fun x H1 => ∃ c, x = .bl c ∧ Q (.bl (!c)) H1) : tNotV ta σ H Q := q
theorem rv_ifE {tA : TT} (q : tA σ H fun c H1 => if c = true then ta σ H1 Q else tb σ H1 Q) : tIf tA ta tb σ H Q := q
theorem rs_drop (q : te σ H fun _ H1 => D.nx σ H1) : tDrop te D σ H := q
theorem rv_app {K : PySem.W.Frag} {l : Addr} {xs : List V} (e : σ[n]? = some (some (.ref l))) (h : H l = some (.lst xs)) (q : t σ H fun vs H2 => ∃ (zs : List V) (y : V), vs = [y] ∧ H2 l = some (.lst zs) ∧ zs.length < sizeLine ∧ Q .non (upd H2 l (.lst (zs ++ [y])))) : tBM K "list" rAppend (tVar n) t σ H Q := by
  refine ⟨_, e, .inl ⟨rfl, _, SqL.of h⟩, ?_⟩
  have : (fun vs H2 => ∃ (zs : List V) (y : V), vs = [y] ∧ H2 l = some (.lst zs) ∧ zs.length < sizeLine ∧ Q .non (upd H2 l (.lst (zs ++ [y])))) = fun (vs : List V) (H2 : Hp) => rAppend (.ref l) vs H2 Q := by
    funext vs H2
    refine propext ⟨fun ⟨zs, y, a, b, c, d⟩ => ⟨l, zs, y, rfl, a, b, c, d⟩, fun ⟨l', zs, y, a, b, c, d, f⟩ => ?_⟩
    cases a
    exact ⟨zs, y, b, c, d, f⟩
  rw [this] at q
  exact q
theorem ro_nx {n2 : L2.St → Hp → Prop} {rt : VK} {bk ct : L2.St → Hp → Prop} (q : n2 σ H) : (Ends.mk n2 rt bk ct).nx σ H := q
theorem ro_rt {n2 : L2.St → Hp → Prop} {rt : VK} {bk ct : L2.St → Hp → Prop} (q : rt v H) : (Ends.mk n2 rt bk ct).rt v H := q
theorem ro_ct {n2 : L2.St → Hp → Prop} {rt : VK} {bk ct : L2.St → Hp → Prop} (q : ct σ H) : (Ends.mk n2 rt bk ct).ct σ H := q
theorem ro_bk {n2 : L2.St → Hp → Prop} {rt : VK} {bk ct : L2.St → Hp → Prop} (q : bk σ H) : (Ends.mk n2 rt bk ct).bk σ H := q
end
end XR

namespace My
open PySem PySem.Spec PyProof.Rows L2 XR
def top (i : Nat) : Stmt := PySem.Challenge.pw_leanscript_k14_refusals.main.body.getD i (.Pass ⟨0, 0, 0, 0⟩)
abbrev sMixed : Stmt := top 13
abbrev sCell : Stmt := top 14
abbrev sTake : Stmt := top 15
abbrev sOnly : Stmt := top 16
section
variable {P : Program} {w : World} {K : PySem.W.Frag} {mg : Str → Option Value} {base : Heap}
/-- _law_mixed: some number -/
def spMixed : Sp := fun vs H Q _ => ∃ c k : Int, vs = [.int c, .int k] ∧ ∀ n, Q (.int n) H
/-- _law_cell: some number -/
def spCell (K : PySem.W.Frag) : Sp := fun vs H Q _ => ∃ (a : Addr) (ns : List Int) (k : Int), vs = [.ref a, .int k] ∧ SqL K H a (ns.map V.int) ∧ 0 ≤ k ∧ k < 1000 ∧ ∀ n, Q (.int n) H
/-- _law_take: a digit; the pile goes on -/
def spTake : Sp := fun vs H Q _ => ∃ (a : Addr) (n z : Int), vs = [.ref a, .int z] ∧ H a = some (.lst [.int n]) ∧ 0 < z ∧ z < 1073741824 ∧ ∀ d m, 0 ≤ d → d < z → Q (.int d) (upd H a (.lst [.int m]))
local macro_rules | `(tactic| walk_at "rd1") => `(tactic| first
  | with_reducible refine rs_seq ?_
  | with_reducible refine rs_asg ?_
  | with_reducible refine rs_ret ?_
  | with_reducible refine rs_if ?_
  | with_reducible refine rs_next ?_
  | with_reducible refine rg_name ?_
  | ((with_reducible refine rv_var (v := ?vv) ?hv ?_); (case hv => exact rfl))
  | with_reducible refine rv_c ?_
  | with_reducible refine rv_op ?_
  | with_reducible refine rv_cons ?_
  | with_reducible refine rv_nil ?_
  | with_reducible refine rv_rI0 ?_
  | ((with_reducible refine rv_rI ?hc ?_); (case hc => walk_at "side"))
  | ((with_reducible refine rv_eq ?hc ?_); (case hc => exact rfl))
  | ((with_reducible refine rv_ne ?hc ?_); (case hc => exact rfl))
  | with_reducible refine rv_test ?_
  | with_reducible refine rv_bl ?_
  | with_reducible refine rv_cb ?_
  | with_reducible refine rv_call ?_
  | with_reducible refine rv_tup ?_
  | with_reducible refine rv_lst ?_
  | with_reducible refine rv_tB ?_
  | with_reducible refine rv_or ?_
  | with_reducible refine rv_and ?_
  | with_reducible refine rv_not ?_
  | with_reducible refine rv_andV ?_
  | with_reducible refine rv_orV ?_
  | with_reducible refine rv_notV ?_
  | with_reducible refine rv_ifE ?_
  | with_reducible refine rs_drop ?_
  | with_reducible refine iteT ?_
  | with_reducible refine iteF ?_
  | with_reducible refine ro_nx ?_
  | with_reducible refine ro_rt ?_
  | with_reducible refine ro_ct ?_
  | with_reducible refine ro_bk ?_)
local macro_rules | `(tactic| walk_at "rd") => `(tactic| repeat walk_at "rd1")
local macro_rules | `(tactic| walk_at "side") => `(tactic| first
  | assumption
  | exact (show CPow _ _ from ⟨by decide, by decide, by decide⟩)
  | exact (show CMul _ _ from .inl ⟨by decide, by decide⟩)
  | exact (show CMul _ _ from .inr ⟨by decide, by decide⟩)
  | (show (0 : Int) < _; decide)
  | (show CMul _ _; first | exact .inl ⟨by omega, by omega⟩ | exact .inr ⟨by omega, by omega⟩)
  | omega)
theorem scMixed : FnScope ["cell", "k", "mix"] ["cell", "k"] (defScope sMixed) := ⟨rfl, rfl, rfl, by decide +kernel, rfl, by decide +kernel, by decide +kernel⟩
theorem ok_mixed {f : Addr} {fd : FuncData} (F : Fun K "_law_mixed" "_law_mixed" sMixed f fd) : FnOk P w K mg base CX0 1 f fd ["cell", "k"] spMixed := by
  refine F.ok scMixed (fun vs H Q E h => ?_) (fun cdv A outer s H vs Q E hr h => ?_)
  · obtain ⟨c, k, rfl, _⟩ := h
    rfl
  · refine ⟨_, pss_cons (ps_set (i := 2) scMixed.nd rfl (.inl rfl) (pe_op op_mod (pe_op op_add (pe_op op_add (pe_op op_mul (pe_op op_mod (pv 0) pe_int) pe_int) (pe_op op_mul (pv 1) pe_int)) pe_int) pe_int))
      (pss_cons (ps_set (i := 2) scMixed.nd rfl (.inl rfl) (pe_op op_mod (pe_op op_mul (pv 2) (pv 2)) pe_int))
        (pss_one (ps_ret (pe_op op_mod (pe_op op_mul (pv 2) (pe_op op_add (pv 2) pe_int)) pe_int)))), ?_⟩
    obtain ⟨c, k, rfl, q⟩ := h
    have m1 : ∀ x y : Int, 0 < y → y < 2 ^ 64 → CMul (x % y) y ∧ ∀ z, CMul (x % y) z := fun x y h1 h2 => by
      have a1 := Int.emod_nonneg x (by omega : y ≠ 0)
      have a2 := Int.emod_lt_of_pos x h1
      exact ⟨.inl ⟨by omega, by omega⟩, fun z => .inl ⟨by omega, by omega⟩⟩
    refine ⟨_, rfl, _, _, rfl, rfl, (by show (0 : Int) < _; decide), _, _, rfl, rfl, (m1 _ _ (by decide) (by decide)).2 _, _, rfl, _, _, rfl, rfl, .inr ⟨by decide, by decide⟩, _, _, rfl, rfl, _, _, rfl, rfl, _, _, rfl, rfl, (by show (0 : Int) < _; decide), ?_⟩
    refine ⟨_, rfl, _, rfl, _, _, rfl, rfl, (m1 _ _ (by decide) (by decide)).2 _, _, _, rfl, rfl, (by show (0 : Int) < _; decide), ?_⟩
    refine ⟨_, rfl, _, rfl, _, _, rfl, rfl, _, _, rfl, rfl, (m1 _ _ (by decide) (by decide)).2 _, _, _, rfl, rfl, (by show (0 : Int) < _; decide), ?_⟩
    exact q _
theorem scCell : FnScope ["script", "k", "cell", "found", "j"] ["script", "k"] (defScope sCell) := ⟨rfl, rfl, rfl, by decide +kernel, rfl, by decide +kernel, by decide +kernel⟩
theorem pow60 : (10 ^ (60 : Int).toNat : Int).natAbs < 2 ^ 200 := by decide +kernel
/-- from the second if on -/
def t_cell (tM : Sp) : TS := tSeq (tIfS (tTest (tOp (rI0 fun i j => .bl (decide (j ≤ i))) (tVar 2) (tOp (rI CPow fun i j => .int (i ^ j.toNat)) (tC (.int 10)) (tC (.int 18)))))
   (tRet (tOp (rI (fun _ j => 0 < j) fun i j => .int (i % j)) (tOp (rI0 fun i j => .int (i - j)) (tVar 2) (tOp (rI CPow fun i j => .int (i ^ j.toNat)) (tC (.int 10)) (tC (.int 18))))
      (tOp (rI CMulW fun i j => .int (i * j)) (tOp (rI CMulW fun i j => .int (i * j)) (tOp (rI CMulW fun i j => .int (i * j)) (tOp (rI CPow fun i j => .int (i ^ j.toNat)) (tC (.int 10)) (tC (.int 60))) (tOp (rI CPow fun i j => .int (i ^ j.toNat)) (tC (.int 10)) (tC (.int 60)))) (tOp (rI CPow fun i j => .int (i ^ j.toNat)) (tC (.int 10)) (tC (.int 60)))) (tOp (rI CPow fun i j => .int (i ^ j.toNat)) (tC (.int 10)) (tC (.int 60)))))) tNext)
   (tSeq (tAsg (tC (.int 0)) (gName 3)) (tSeq (tFor (iRng1 (tCons (tC (.int 24)) tNil)) (gName 4)
     (tAsg (tOp (rI0 fun i j => .int (i + j)) (tOp (rI CMul fun i j => .int (i * j)) (tVar 3) (tC (.int 2147483579)))
       (tCall spMixed [] E0 (tCons (tVar 2) (tCons (tOp (rI0 fun i j => .int (i + j)) (tOp (rI0 fun i j => .int (i + j)) (tOp (rI CMul fun i j => .int (i * j)) (tC (.int 7)) (tVar 1)) (tOp (rI CMul fun i j => .int (i * j)) (tC (.int 100)) (tVar 4))) (tOp (rI CMul fun i j => .int (i * j)) (tVar 4) (tVar 4))) tNil)))) (gName 3)))
   (tRet (tVar 3))))
theorem rest_cell {a : Addr} {k c : Int} {ns : List Int} {H : Hp} {Q : VK} (hS : SqL K H a (ns.map V.int)) (h0 : 0 ≤ k) (h1 : k < 1000) (q : ∀ n, Q (.int n) H) :
    t_cell spMixed { nx := fun _ H' => Q .non H', rt := Q } [some (.ref a), some (.int k), some (.int c), none, none] H := by
  have P60 : CPow 10 60 := ⟨by decide, by decide, by decide⟩
  have P18 : CPow 10 18 := ⟨by decide, by decide, by decide⟩
  have b60 : (10 ^ (60 : Int).toNat : Int).natAbs < 2 ^ 200 := by decide +kernel
  have b120 := wide_lt b60 b60
  have b180 := wide_lt b120 b60
  unfold t_cell
  walk_at "rd"
  refine ite2 (fun _ => ?_) (fun _ => ?_)
  · have w1 : CMulW _ _ := wide_mul b60 b60 (by decide) (by decide) (by decide)
    have w2 : CMulW _ _ := wide_mul b120 b60 (by decide) (by decide) (by decide)
    have w3 : CMulW _ _ := wide_mul b180 b60 (by decide) (by decide) (by decide)
    walk_at "rd"
    exact q _
  · walk_at "rd"
    refine ⟨24, rfl, by decide, by decide, for_range (lo := 0) (n := 24) (fun i σ H' => H' = H ∧ ∃ (f : Int) (j : Option V), σ = [some (.ref a), some (.int k), some (.int c), some (.int f), j]) ⟨rfl, 0, none, rfl⟩ ?_ ?_⟩
    · rintro i σ H' hi ⟨rfl, f, j, rfl⟩
      have hi' : (i : Int) < 24 := by exact_mod_cast hi
      walk_at "rd"
      refine ⟨_, _, rfl, fun n => ?_⟩
      walk_at "rd"
      exact ⟨rfl, _, _, rfl⟩
    · rintro σ H' ⟨rfl, f, j, rfl⟩
      walk_at "rd"
      exact q _
theorem ok_cell {f fM : Addr} {fd fdM : FuncData} (F : Fun K "_law_cell" "_law_cell" sCell f fd) (FM : Fun K "_law_mixed" "_law_mixed" sMixed fM fdM) (bM : Binds K fdM ["cell", "k"] []) (gM : mg "_law_mixed" = some (.ref fM)) (gL : mg "len" = none) (gR : mg "range" = none) :
    FnOk P w K mg base CX0 2 f fd ["script", "k"] (spCell K) := by
  have GM : FnOk P w K mg base CX0 1 fM fdM ["cell", "k"] spMixed := ok_mixed FM
  refine F.ok scCell (fun vs H Q E h => ?_) (fun cdv A outer s H vs Q E hr h => ?_)
  · obtain ⟨a, ns, k, rfl, _⟩ := h
    rfl
  · refine ⟨_, pss_cons (ps_set (i := 2) scCell.nd rfl (.inl rfl) pe_int)
      (pss_cons (ps_if (pt_cmpR op_lt (pv 1) (pe_callB call_len_seq (by rfl) gL PySem.boot_len (pa_cons (pv 0) pa_nil)) (nomark _)) (pss_one (ps_set (i := 2) scCell.nd rfl (.inl rfl) (pe_ix ix_list (pv 0) (pv 1) (fun _ _ => rfl)))) pss_nil)
      (pss_cons (ps_if (pt_cmpR op_ge (pv 2) (pe_op op_pow pe_int pe_int) (nomark _)) (pss_one (ps_ret (pe_op op_mod (pe_op op_sub (pv 2) (pe_op op_pow pe_int pe_int))
          (pe_op op_mulW (pe_op op_mulW (pe_op op_mulW (pe_op op_pow pe_int pe_int) (pe_op op_pow pe_int pe_int)) (pe_op op_pow pe_int pe_int)) (pe_op op_pow pe_int pe_int))))) pss_nil)
      (pss_cons (ps_set (i := 3) scCell.nd rfl (.inl rfl) pe_int)
      (pss_cons (ps_for PassesOwn.never rfl (pi_range1 rfl gR (pa_cons pe_int pa_nil)) (pg_name (i := 4) scCell.nd rfl (.inl rfl))
        (pss_one (ps_set (i := 3) scCell.nd rfl (.inl rfl) (pe_op op_add (pe_op op_mul (pv 3) pe_int)
          (pe_call GM hr rfl gM FM.kp bM .nil pass0 (pa_cons (pv 2) (pa_cons (pe_op op_add (pe_op op_add (pe_op op_mul pe_int (pv 1)) (pe_op op_mul pe_int (pv 4))) (pe_op op_mul (pv 4) (pv 4))) pa_nil)))))))
      (pss_one (ps_ret (pv 3))))))), ?_⟩
    obtain ⟨a, ns, k, rfl, hS, h0, h1, q⟩ := h
    have big : ∀ i : Int, i.natAbs < 2 ^ 200 → ∀ j : Int, j.natAbs < 2 ^ 600 → CMulW j i := fun i h1 j h2 => wide_mul h2 h1 (by decide) (by decide) (by decide)
    have at0 : k < ((ns.map V.int).length : Nat) → ∃ z : Int, atI (ns.map V.int) k = some (.int z) := fun hk => by
      rw [List.length_map] at hk
      obtain ⟨j, rfl⟩ := Int.eq_ofNat_of_zero_le h0
      have hj : j < ns.length := by omega
      exact ⟨ns[j], atI_nat (by rw [List.getElem?_map, List.getElem?_eq_getElem hj]; rfl)⟩
    walk_at "rd"
    refine ⟨a, _, rfl, .inl hS, ?_⟩
    walk_at "rd"
    refine ite2 (fun c => ?_) (fun c => ?_)
    · obtain ⟨z, hz⟩ := at0 (of_decide_eq_true c)
      walk_at "rd"
      refine ⟨a, _, k, _, rfl, rfl, hS, hz, ?_⟩
      exact rest_cell hS h0 h1 q
    · exact rest_cell hS h0 h1 q
theorem scTake : FnScope ["pile", "size", "digit"] ["pile", "size"] (defScope sTake) := ⟨rfl, rfl, rfl, by decide +kernel, rfl, by decide +kernel, by decide +kernel⟩
theorem ok_take {f : Addr} {fd : FuncData} (F : Fun K "_law_take" "_law_take" sTake f fd) : FnOk P w K mg base CX0 1 f fd ["pile", "size"] spTake := by
  refine F.ok scTake (fun vs H Q E h => ?_) (fun cdv A outer s H vs Q E hr h => ?_)
  · obtain ⟨c, k, z, rfl, _⟩ := h
    rfl
  · refine ⟨_, pss_cons (ps_set (i := 2) scTake.nd rfl (.inl rfl) (pe_op op_mod (pe_ix ix_list (pv 0) pe_int (fun _ _ => rfl)) (pv 1)))
      (pss_cons (ps_asg (pe_op op_fdiv (pe_ix ix_list (pv 0) pe_int (fun _ _ => rfl)) (pv 1)) (pg_sub (pv 0) pe_int set_list))
        (pss_one (ps_ret (pv 2)))), ?_⟩
    obtain ⟨a, n, z, rfl, hl, h0, h1, q⟩ := h
    refine ⟨_, rfl, a, [.int n], 0, _, rfl, rfl, SqL.of hl, rfl, _, rfl, n, z, rfl, rfl, h0, ?_⟩
    refine ⟨_, rfl, a, [.int n], 0, _, rfl, rfl, SqL.of hl, rfl, _, rfl, n, z, rfl, rfl, ⟨h0, h1⟩, ?_⟩
    refine ⟨_, rfl, a, [.int n], 0, 0, rfl, rfl, hl, rfl, ?_⟩
    refine ⟨_, rfl, ?_⟩
    exact q _ _ (Int.emod_nonneg n (by omega)) (Int.emod_lt_of_pos n h0)

def n10 : List Str := ["NoText", "NoTree", "NoPath", "NoNaming", "NoLetters", "NoCount", "NoTurning", "NoMap", "NoLine", "TooMany"]
/-- the ten error classes at cs, LeanError at cL -/
structure Ten (K : PySem.W.Frag) (mg : Str → Option Value) (cs : Nat → Addr) (cL : Addr) : Prop where
  g : ∀ i, i < 10 → mg (n10.getD i "") = some (.ref (cs i))
  gL : mg "LeanError" = some (.ref cL)
  gI : mg "isinstance" = none
  gZ : mg "zip" = none
  gK : mg "LookupError" = none
  gA : mg "ArithmeticError" = none
  gV : mg "ValueError" = none
  isOne : ∀ i j, i < 10 → j < 10 → PySem.W.kitOne K (.ref (cs i)) (.ref (cs j)) = some (decide (i = j))
  isK : ∀ i, i < 10 → PySem.W.kitOne K (.ref (cs i)) (.type "LookupError") = some false
  isA : ∀ i, i < 10 → PySem.W.kitOne K (.ref (cs i)) (.type "ArithmeticError") = some false
  isL : ∀ i, i < 10 → PySem.W.kitOne K (.ref (cs i)) (.ref cL) = some true
  isV : ∀ i, i < 10 → PySem.W.kitOne K (.ref (cs i)) (.type "ValueError") = some true
  ek : ∀ i, i < 10 → ExcK K (cs i)
theorem same_upd {H : Hp} {p : Addr} {o : HO} (h : H p = none) : Same H (upd H p o) := fun b x e => by
  rw [upd_ne (ne_of_none e h)]
  exact e
theorem n10_shaped : ∀ i, i < 10 → SeqAt.shaped (.list [.str (n10.getD i "")]) = true := by decide +kernel
/-- _law_only: of an error of the i-th class and its name: True -/
def spOnly (K : PySem.W.Frag) (cs : Nat → Addr) : Sp := fun vs H Q _ => ∃ (a : Addr) (i : Nat), i < 10 ∧ vs = [.ref a, .str (n10.getD i "")] ∧ ExIn H a (cs i) ∧ ∀ H', Same H H' → Q (.bl true) H'
theorem scOnly : FnScope ["caught", "name", "names", "some", "first", "here"] ["caught", "name"] (defScope sOnly) := ⟨rfl, rfl, rfl, by decide +kernel, rfl, by decide +kernel, by decide +kernel⟩
theorem ok_only {f : Addr} {fd : FuncData} {cs : Nat → Addr} {cL : Addr} (F : Fun K "_law_only" "_law_only" sOnly f fd) (T : Ten K mg cs cL) : FnOk P w K mg base CX0 1 f fd ["caught", "name"] (spOnly K cs) := by
  refine F.ok scOnly (fun vs H Q E h => ?_) (fun cdv A outer s H vs Q E hr h => ?_)
  · obtain ⟨a, i, _, rfl, _⟩ := h
    rfl
  · have g0 := T.g 0 (by decide)
    have g1 := T.g 1 (by decide)
    have g2 := T.g 2 (by decide)
    have g3 := T.g 3 (by decide)
    have g4 := T.g 4 (by decide)
    have g5 := T.g 5 (by decide)
    have g6 := T.g 6 (by decide)
    have g7 := T.g 7 (by decide)
    have g8 := T.g 8 (by decide)
    have g9 := T.g 9 (by decide)
    refine ⟨_, pss_cons (ps_set (i := 2) scOnly.nd rfl (.inl rfl) (pe_lst (pa_cons pe_str (pa_cons pe_str (pa_cons pe_str (pa_cons pe_str (pa_cons pe_str (pa_cons pe_str (pa_cons pe_str (pa_cons pe_str (pa_cons pe_str pa_nil)))))))))))
      (pss_cons (ps_expr (pe_bm PySem.F.plainAttrs_list PySem.F.slot_list_append PySem.F.type_list_append mt_append (pv 2) (pa_cons pe_str pa_nil)))
      (pss_cons (ps_set (i := 3) scOnly.nd rfl (.inl rfl) (pe_lst (pa_cons (pe_callB call_isX (by rfl) T.gI (by decide +kernel) (pa_cons (pv 0) (pa_cons (pe_glob (v := .ref (cs 0)) (by rfl) g0 rfl) pa_nil))) (pa_cons (pe_callB call_isX (by rfl) T.gI (by decide +kernel) (pa_cons (pv 0) (pa_cons (pe_glob (v := .ref (cs 1)) (by rfl) g1 rfl) pa_nil))) (pa_cons (pe_callB call_isX (by rfl) T.gI (by decide +kernel) (pa_cons (pv 0) (pa_cons (pe_glob (v := .ref (cs 2)) (by rfl) g2 rfl) pa_nil))) pa_nil)))))
      (pss_cons (ps_set (i := 3) scOnly.nd rfl (.inl rfl) (pe_op op_cat (pv 3) (pe_lst (pa_cons (pe_callB call_isX (by rfl) T.gI (by decide +kernel) (pa_cons (pv 0) (pa_cons (pe_glob (v := .ref (cs 3)) (by rfl) g3 rfl) pa_nil))) (pa_cons (pe_callB call_isX (by rfl) T.gI (by decide +kernel) (pa_cons (pv 0) (pa_cons (pe_glob (v := .ref (cs 4)) (by rfl) g4 rfl) pa_nil))) (pa_cons (pe_callB call_isX (by rfl) T.gI (by decide +kernel) (pa_cons (pv 0) (pa_cons (pe_glob (v := .ref (cs 5)) (by rfl) g5 rfl) pa_nil))) pa_nil))))))
      (pss_cons (ps_set (i := 3) scOnly.nd rfl (.inl rfl) (pe_op op_cat (pv 3) (pe_lst (pa_cons (pe_callB call_isX (by rfl) T.gI (by decide +kernel) (pa_cons (pv 0) (pa_cons (pe_glob (v := .ref (cs 6)) (by rfl) g6 rfl) pa_nil))) (pa_cons (pe_callB call_isX (by rfl) T.gI (by decide +kernel) (pa_cons (pv 0) (pa_cons (pe_glob (v := .ref (cs 7)) (by rfl) g7 rfl) pa_nil))) (pa_cons (pe_callB call_isX (by rfl) T.gI (by decide +kernel) (pa_cons (pv 0) (pa_cons (pe_glob (v := .ref (cs 8)) (by rfl) g8 rfl) pa_nil))) pa_nil))))))
      (pss_cons (ps_expr (pe_bm PySem.F.plainAttrs_list PySem.F.slot_list_append PySem.F.type_list_append mt_append (pv 3) (pa_cons (pe_callB call_isX (by rfl) T.gI (by decide +kernel) (pa_cons (pv 0) (pa_cons (pe_glob (v := .ref (cs 9)) (by rfl) g9 rfl) pa_nil))) pa_nil)))
      (pss_cons (ps_if (pt_cmpR (op_neD hr.units)
          (pe_lc (own := [("first", 4), ("here", 5)]) (g := gTup K 2 (gCons (gName 4) (gCons (gName 5) gNil))) (tt := tB (tVar 5)) (te := tVar 4) (by rfl) scOnly.nd (pi_zip (by rfl) T.gZ (pa_cons (pv 2) (pa_cons (pv 3) pa_nil))) (blkOk_by (own := [("first", 4), ("here", 5)]) (N := ["caught", "name", "names", "some", "first", "here"]) (sc := defScope sOnly) (by decide +kernel))
            (fun _ _ _ _ _ => pg_tup (by rfl) (pgs_cons (pg_name (i := 4) scOnly.nd rfl (.inl rfl)) (pgs_cons (pg_name (i := 5) scOnly.nd rfl (.inl rfl)) pgs_nil)))
            (fun _ _ _ _ _ => pts_one (pt_val (pv 5))) (fun _ _ _ _ _ => pv 4))
          (pe_lst (pa_cons (pv 1) pa_nil)) (nomark _)) (pss_one (ps_ret pe_bl)) pss_nil)
      (pss_cons (ps_if (PW.pt (pw_or (pt_val (pe_callB call_isX (by rfl) T.gI (by decide +kernel) (pa_cons (pv 0) (pa_cons (pe_bltn (by rfl) T.gK (by decide +kernel) (v := .ty "LookupError") rfl) pa_nil))))
            (pw_or1 (pt_val (pe_callB call_isX (by rfl) T.gI (by decide +kernel) (pa_cons (pv 0) (pa_cons (pe_bltn (by rfl) T.gA (by decide +kernel) (v := .ty "ArithmeticError") rfl) pa_nil))))))) (pss_one (ps_ret pe_bl)) pss_nil)
      (pss_one (ps_ret (pe_and (pe_callB call_isX (by rfl) T.gI (by decide +kernel) (pa_cons (pv 0) (pa_cons (pe_glob (by rfl) T.gL rfl (v := .ref cL)) pa_nil)))
        (pe_one (pe_callB call_isX (by rfl) T.gI (by decide +kernel) (pa_cons (pv 0) (pa_cons (pe_bltn (by rfl) T.gV (by decide +kernel) (v := .ty "ValueError") rfl) pa_nil)))))))))))))), ?_⟩
    obtain ⟨a, i, hi, rfl, ex, q⟩ := h
    have isx : ∀ (H' : Hp), Same H H' → ∀ (j : Nat), j < 10 → ∀ (Q' : VK), Q' (.bl (decide (i = j))) H' → rIsX K [.ref a, .ref (cs j)] H' Q' := fun H' sm j hj Q' z => ⟨a, cs i, _, _, _, rfl, .own _, ex.same sm, T.ek i hi, T.isOne i j hi hj, z⟩
    walk_at "rd"
    refine ⟨by decide, fun n0 hn0 => ?_⟩
    walk_at "rd"
    refine rv_app rfl upd_same ?_
    walk_at "rd"
    refine ⟨_, _, rfl, upd_same, by decide, ?_⟩
    rw [upd_upd]
    have s1 : Same H (upd H n0 (.lst (List.map V.str n10))) := same_upd hn0
    have e1 : ([.str "NoText", .str "NoTree", .str "NoPath", .str "NoNaming", .str "NoLetters", .str "NoCount", .str "NoTurning", .str "NoMap", .str "NoLine"] ++ [.str "TooMany"] : List V) = n10.map V.str := rfl
    rw [e1]
    obtain ⟨B, eB⟩ : ∃ B, B = upd H n0 (.lst (List.map V.str n10)) := ⟨_, rfl⟩
    have hB : B n0 = some (.lst (List.map V.str n10)) := by rw [eB]; exact upd_same
    rw [← eB] at s1
    rw [← eB]
    walk_at "rd"
    refine isx _ s1 0 (by decide) _ ?_
    walk_at "rd"
    refine isx _ s1 1 (by decide) _ ?_
    walk_at "rd"
    refine isx _ s1 2 (by decide) _ ?_
    walk_at "rd"
    refine ⟨(by show 3 ≤ sizeLine; decide), fun p1 hp1 => ?_⟩
    have k2 := same_upd (o := .lst [.bl (decide (i = 0)), .bl (decide (i = 1)), .bl (decide (i = 2))]) hp1
    walk_at "rd"
    refine isx _ (s1.trans k2) 3 (by decide) _ ?_
    walk_at "rd"
    refine isx _ (s1.trans k2) 4 (by decide) _ ?_
    walk_at "rd"
    refine isx _ (s1.trans k2) 5 (by decide) _ ?_
    walk_at "rd"
    refine ⟨(by show 3 ≤ sizeLine; decide), fun p2 hp2 => ?_⟩
    have k3 := k2.trans (same_upd (o := .lst [.bl (decide (i = 3)), .bl (decide (i = 4)), .bl (decide (i = 5))]) hp2)
    refine ⟨p1, p2, _, _, rfl, rfl, (upd_ne (ne_of_none upd_same hp2)).trans upd_same, upd_same, (by show 6 ≤ sizeLine; decide), fun p3 hp3 => ?_⟩
    have k4 := k3.trans (same_upd (o := .lst ([.bl (decide (i = 0)), .bl (decide (i = 1)), .bl (decide (i = 2))] ++ [.bl (decide (i = 3)), .bl (decide (i = 4)), .bl (decide (i = 5))])) hp3)
    walk_at "rd"
    refine isx _ (s1.trans k4) 6 (by decide) _ ?_
    walk_at "rd"
    refine isx _ (s1.trans k4) 7 (by decide) _ ?_
    walk_at "rd"
    refine isx _ (s1.trans k4) 8 (by decide) _ ?_
    walk_at "rd"
    refine ⟨(by show 3 ≤ sizeLine; decide), fun p4 hp4 => ?_⟩
    have k5 := k4.trans (same_upd (o := .lst [.bl (decide (i = 6)), .bl (decide (i = 7)), .bl (decide (i = 8))]) hp4)
    refine ⟨p3, p4, _, _, rfl, rfl, (upd_ne (ne_of_none upd_same hp4)).trans upd_same, upd_same, (by show 9 ≤ sizeLine; decide), fun p5 hp5 => ?_⟩
    walk_at "rd"
    refine rv_app rfl upd_same ?_
    have k6 := k5.trans (same_upd (o := .lst ([.bl (decide (i = 0)), .bl (decide (i = 1)), .bl (decide (i = 2))] ++ [.bl (decide (i = 3)), .bl (decide (i = 4)), .bl (decide (i = 5))] ++ [.bl (decide (i = 6)), .bl (decide (i = 7)), .bl (decide (i = 8))])) hp5)
    walk_at "rd"
    refine isx _ (s1.trans k6) 9 (by decide) _ ?_
    walk_at "rd"
    refine ⟨_, _, rfl, upd_same, (by show 9 < sizeLine; decide), ?_⟩
    rw [upd_upd]
    have k7 := k5.trans (same_upd (o := .lst ((List.range 10).map fun j => V.bl (decide (i = j)))) hp5)
    show tSeq _ _ _ _ (upd _ p5 (.lst ((List.range 10).map fun j => V.bl (decide (i = j)))))
    generalize e7 : upd (upd (upd (upd (upd B p1 (.lst [.bl (decide (i = 0)), .bl (decide (i = 1)), .bl (decide (i = 2))])) p2 (.lst [.bl (decide (i = 3)), .bl (decide (i = 4)), .bl (decide (i = 5))])) p3 (.lst ([.bl (decide (i = 0)), .bl (decide (i = 1)), .bl (decide (i = 2))] ++ [.bl (decide (i = 3)), .bl (decide (i = 4)), .bl (decide (i = 5))]))) p4 (.lst [.bl (decide (i = 6)), .bl (decide (i = 7)), .bl (decide (i = 8))])) p5 (.lst ((List.range 10).map fun j => V.bl (decide (i = j)))) = H7 at k7 ⊢
    have h7n : H7 n0 = some (.lst (List.map V.str n10)) := k7 _ _ hB
    have h7p : H7 p5 = some (.lst ((List.range 10).map fun j => V.bl (decide (i = j)))) := by rw [← e7]; exact upd_same
    have s7 : Same H H7 := s1.trans k7
    clear e7 k7 k6 k5 k4 k3 k2 hp5 hp4 hp3 hp2 hp1 hB eB s1 hn0 e1
    walk_at "rd"
    refine ⟨_, rfl, _, rfl, n0, p5, _, _, rfl, SqL.of h7n, SqL.of h7p, fun D hD => ?_⟩
    refine lc_it (walk_zip (xs := List.map V.str n10) (ys := (List.range 10).map fun j => V.bl (decide (i = j))) (n := 10) rfl)
      (fun t H' => Same H7 H' ∧ H' D = some (.lst (if i < t then [.str (n10.getD i "")] else []))) ⟨same_upd hD, upd_same⟩ (fun t H' _ ⟨s, _⟩ => ⟨SqL.of (s _ _ h7n), SqL.of (s _ _ h7p)⟩) ?_ ?_
    · rintro t x H' H2 ht ⟨sm, hd⟩ ⟨U, y1, y2, rfl, hU, rfl, e1, e2⟩
      have sU : Same H' (upd H' U (.tup [y1, y2])) := same_upd hU
      refine ⟨U, _, rfl, .inl (.inl upd_same), rfl, _, _, rfl, _, _, rfl, rfl, rfl, _, rfl, ?_⟩
      have ey1 : y1 = .str (n10.getD t "") := by
        have : ∀ t, t < 10 → (List.map V.str n10)[t]? = some (.str (n10.getD t "")) := by decide +kernel
        exact Option.some.inj (e1.symm.trans (this t ht))
      have ey2 : y2 = .bl (decide (i = t)) := by
        dsimp only at e2
        rw [List.getElem?_map, List.getElem?_range ht] at e2
        exact (Option.some.inj e2).symm
      subst ey1 ey2
      refine ⟨_, rfl, ?_⟩
      refine ite2 (fun c => ?_) (fun c => ?_)
      · have c' : i = t := of_decide_eq_true c
        refine ⟨_, rfl, _, sU _ _ hd, ?_, ?_⟩
        · rw [if_neg (by omega)]
          show 0 < sizeLine
          decide
        · refine ⟨fun b o z => ?_, ?_⟩
          · rw [upd_ne (fun z2 => by rw [z2] at z; rw [z] at hD; cases hD)]
            exact sU _ _ (sm _ _ z)
          · rw [upd_same, if_neg (by omega), if_pos (by omega), c']
            rfl
      · have c' : ¬ i = t := fun z => c (decide_eq_true z)
        refine ⟨sm.trans sU, ?_⟩
        rw [sU _ _ hd]
        have : (i < t + 1) = (i < t) := propext ⟨fun _ => by omega, fun _ => by omega⟩
        simp only [this]
    · rintro H' ⟨sm, hd⟩
      rw [if_pos hi] at hd
      walk_at "rd"
      refine ⟨(by show 1 ≤ sizeLine; decide), fun p6 hp6 => ?_⟩
      have s8 := same_upd (o := .lst [.str (n10.getD i "")]) hp6
      refine ⟨.list [.str (n10.getD i "")], .list [.str (n10.getD i "")], .lst (SqL.of (s8 _ _ hd)) (.cons (.str _) .nil), .lst (SqL.of upd_same) (.cons (.str _) .nil), n10_shaped i hi, n10_shaped i hi, ?_⟩
      have ee : (!PyData.eqv (.list [.str (n10.getD i "")]) (.list [.str (n10.getD i "")])) = false := by simp [PyData.eqv, PyData.eqvAll]
      rw [ee]
      have s9 := (s7.trans sm).trans s8
      have isb : ∀ (c : V) (u : Value) (b : Bool) (Q' : VK), ClsV c u → PySem.W.kitOne K (.ref (cs i)) u = some b → Q' (.bl b) _ → rIsX K [.ref a, c] _ Q' := fun c u b Q' k1 k2 z => ⟨a, cs i, c, u, b, rfl, k1, ex.same s9, T.ek i hi, k2, z⟩
      walk_at "rd"
      refine isb _ _ _ _ (.ty _) (T.isK i hi) ?_
      walk_at "rd"
      refine isb _ _ _ _ (.ty _) (T.isA i hi) ?_
      walk_at "rd"
      refine isb _ _ _ _ (.own _) (T.isL i hi) ?_
      walk_at "rd"
      refine isb _ _ _ _ (.ty _) (T.isV i hi) ?_
      walk_at "rd"
      exact q _ s9
end
end My

namespace My
open PySem PySem.Spec PyProof.Rows L2 XR
abbrev iText : Stmt := inClass (top 2) 0
abbrev iTree : Stmt := inClass (top 3) 0
abbrev iNaming : Stmt := inClass (top 5) 0
local macro_rules | `(tactic| walk_at "rd1") => `(tactic| first
  | with_reducible refine rs_seq ?_
  | with_reducible refine rs_asg ?_
  | with_reducible refine rs_ret ?_
  | with_reducible refine rs_if ?_
  | with_reducible refine rs_next ?_
  | with_reducible refine rg_name ?_
  | ((with_reducible refine rv_var (v := ?vv) ?hv ?_); (case hv => exact rfl))
  | with_reducible refine rv_c ?_
  | with_reducible refine rv_op ?_
  | with_reducible refine rv_cons ?_
  | with_reducible refine rv_nil ?_
  | with_reducible refine rv_rI0 ?_
  | ((with_reducible refine rv_rI ?hc ?_); (case hc => walk_at "side"))
  | ((with_reducible refine rv_eq ?hc ?_); (case hc => exact rfl))
  | ((with_reducible refine rv_ne ?hc ?_); (case hc => exact rfl))
  | with_reducible refine rv_test ?_
  | with_reducible refine rv_bl ?_
  | with_reducible refine rv_cb ?_
  | with_reducible refine rv_call ?_
  | with_reducible refine rv_tup ?_
  | with_reducible refine rv_lst ?_
  | with_reducible refine rv_tB ?_
  | with_reducible refine rv_or ?_
  | with_reducible refine rv_and ?_
  | with_reducible refine rv_not ?_
  | with_reducible refine rv_andV ?_
  | with_reducible refine rv_orV ?_
  | with_reducible refine rv_notV ?_
  | with_reducible refine rv_ifE ?_
  | with_reducible refine rs_drop ?_
  | with_reducible refine iteT ?_
  | with_reducible refine iteF ?_
  | with_reducible refine ro_nx ?_
  | with_reducible refine ro_rt ?_
  | with_reducible refine ro_ct ?_
  | with_reducible refine ro_bk ?_)
local macro_rules | `(tactic| walk_at "rd") => `(tactic| repeat walk_at "rd1")
local macro_rules | `(tactic| walk_at "side") => `(tactic| first
  | assumption
  | exact (show CPow _ _ from ⟨by decide, by decide, by decide⟩)
  | exact (show CMul _ _ from .inl ⟨by decide, by decide⟩)
  | exact (show CMul _ _ from .inr ⟨by decide, by decide⟩)
  | (show (0 : Int) < _; decide)
  | (show CMul _ _; first | exact .inl ⟨by omega, by omega⟩ | exact .inr ⟨by omega, by omega⟩)
  | omega)
section
variable {P : Program} {w : World} {K : PySem.W.Frag} {mg : Str → Option Value} {base : Heap}
/-- an __init__ of n fields: a new dict with them -/
def spI (C : Addr) (n : Nat) (fs : List V → List (Str × V)) : Sp := fun vs H Q _ => ∃ (a : Addr) (ws : List V), vs = .ref a :: ws ∧ ws.length = n ∧ H a = some (exo a C none) ∧
  ∀ H' dx, (∀ b o, b ≠ a → H b = some o → H' b = some o) → H' a = some (exo a C (some dx)) → H' dx = some (exd dx (fs ws)) → Q .non H'
def fsText (vs : List V) : List (Str × V) := [("at", vs.getD 0 .non)]
def fsTree (vs : List V) : List (Str × V) := [("why", vs.getD 1 .non), ("path", vs.getD 0 .non)]
def fsNaming (vs : List V) : List (Str × V) := [("other", vs.getD 1 .non), ("one", vs.getD 0 .non)]
theorem scIText : FnScope ["self", "at"] ["self", "at"] (defScope iText) := ⟨rfl, rfl, rfl, by decide +kernel, rfl, by decide +kernel, by decide +kernel⟩
theorem scITree : FnScope ["self", "path", "why"] ["self", "path", "why"] (defScope iTree) := ⟨rfl, rfl, rfl, by decide +kernel, rfl, by decide +kernel, by decide +kernel⟩
theorem scINaming : FnScope ["self", "one", "other"] ["self", "one", "other"] (defScope iNaming) := ⟨rfl, rfl, rfl, by decide +kernel, rfl, by decide +kernel, by decide +kernel⟩
theorem len2 {α : Type} {l : List α} (h : l.length = 1) : ∃ x, l = [x] := by
  match l, h with
  | [x], _ => exact ⟨x, rfl⟩
theorem len3 {α : Type} {l : List α} (h : l.length = 2) : ∃ x y, l = [x, y] := by
  match l, h with
  | [x, y], _ => exact ⟨x, y, rfl⟩
theorem ok_iText {f C : Addr} {fd : FuncData} {dvs : List V} (F : FunD K "__init__" "NoText.__init__" (defArgs iText) (defBody iText) (defScope iText) dvs [] f fd) (O : OexC K C) (n1 : PySem.W.findIn K (.ref C) "at" = some none) : FnOk P w K mg base CX0 1 f fd ["self", "at"] (spI C 1 fsText) := by
  refine F.ok scIText (fun vs H Q E h => ?_) (fun cdv A outer s H vs Q E hr h => ?_)
  · obtain ⟨a, ws, rfl, hl, _⟩ := h
    show ws.length + 1 = 2
    omega
  · refine ⟨_, pss_one (ps_ost (pv 0) (pv 1)), ?_⟩
    obtain ⟨a, ws, rfl, hl, ha, q⟩ := h
    obtain ⟨x, rfl⟩ := len2 hl
    refine ⟨_, rfl, _, rfl, a, C, rfl, O, n1, .inl ⟨ha, fun dx nd ne => ?_⟩⟩
    refine q _ dx (fun b o hb z => ?_) upd_same ?_
    · rw [upd_ne hb, upd_ne (ne_of_none z nd)]
      exact z
    · rw [upd_ne ne, upd_same]
      rfl
theorem ok_iTwo {f C : Addr} {fd : FuncData} {dvs : List V} {st : Stmt} {x y q : Str} {fs : List V → List (Str × V)} (F : FunD K "__init__" q (defArgs st) (defBody st) (defScope st) dvs [] f fd) (O : OexC K C)
    (sc : FnScope ["self", x, y] ["self", x, y] (defScope st)) (n1 : PySem.W.findIn K (.ref C) x = some none) (n2 : PySem.W.findIn K (.ref C) y = some none)
    (hb : ∀ (cdv : Value) (A : Around) (outer : List Env) (s : Shared) (H : Hp) (E : XK), PSs (cxOf CX0 P w K mg base ["self", x, y] q (defScope st) f cdv A outer s H E) (defBody st) (tSeq (tOst K x (tVar 0) (tVar 1)) (tOst K y (tVar 0) (tVar 2))))
    (hfs : ∀ u v, fs [u, v] = [(y, v), (x, u)]) : FnOk P w K mg base CX0 1 f fd ["self", x, y] (spI C 2 fs) := by
  refine F.ok sc (fun vs H Q E h => ?_) (fun cdv A outer s H vs Q E hr h => ?_)
  · obtain ⟨a, ws, rfl, hl, _⟩ := h
    show ws.length + 1 = 3
    omega
  · refine ⟨_, hb cdv A outer s H E, ?_⟩
    obtain ⟨a, ws, rfl, hl, ha, q⟩ := h
    obtain ⟨u, v, rfl⟩ := len3 hl
    refine ⟨_, rfl, _, rfl, a, C, rfl, O, n1, .inl ⟨ha, fun dx nd ne => ?_⟩⟩
    refine ⟨_, rfl, _, rfl, a, C, rfl, O, n2, .inr ⟨dx, _, upd_same, (upd_ne ne).trans upd_same, by show 1 ≤ 900; decide, ?_⟩⟩
    refine q _ dx (fun b o hb z => ?_) ?_ ?_
    · rw [upd_ne (ne_of_none z nd), upd_ne hb, upd_ne (ne_of_none z nd)]
      exact z
    · rw [upd_ne (Ne.symm ne), upd_same]
    · rw [upd_same, hfs]
theorem ok_iTree {f C : Addr} {fd : FuncData} {dvs : List V} (F : FunD K "__init__" "NoTree.__init__" (defArgs iTree) (defBody iTree) (defScope iTree) dvs [] f fd) (O : OexC K C) (n1 : PySem.W.findIn K (.ref C) "path" = some none) (n2 : PySem.W.findIn K (.ref C) "why" = some none) :
    FnOk P w K mg base CX0 1 f fd ["self", "path", "why"] (spI C 2 fsTree) :=
  ok_iTwo F O scITree n1 n2 (fun cdv A outer s H E => pss_cons (ps_ost (pv 0) (pv 1)) (pss_one (ps_ost (pv 0) (pv 2)))) fun _ _ => rfl
theorem ok_iNaming {f C : Addr} {fd : FuncData} {dvs : List V} (F : FunD K "__init__" "NoNaming.__init__" (defArgs iNaming) (defBody iNaming) (defScope iNaming) dvs [] f fd) (O : OexC K C) (n1 : PySem.W.findIn K (.ref C) "one" = some none) (n2 : PySem.W.findIn K (.ref C) "other" = some none) :
    FnOk P w K mg base CX0 1 f fd ["self", "one", "other"] (spI C 2 fsNaming) :=
  ok_iTwo F O scINaming n1 n2 (fun cdv A outer s H E => pss_cons (ps_ost (pv 0) (pv 1)) (pss_one (ps_ost (pv 0) (pv 2)))) fun _ _ => rfl
/-! how arguments come to the parameters -/
section
variable {f : Addr} {fd : FuncData} {d0 d1 : V}
theorem bText0 (F : FunD K "__init__" "NoText.__init__" (defArgs iText) (defBody iText) (defScope iText) [d0] [] f fd) : ∃ ds, Vals [d0] ds ∧ L2.Binds K fd ["self", "at"] ds :=
  F.binds1 1 0 (by simp) rfl fun T kV doc pm an cdv ct us its h1 h2 => match us, its, h1, h2 with | [_], [_], _, _ => ⟨_, rfl, rfl⟩
theorem bText1 (F : FunD K "__init__" "NoText.__init__" (defArgs iText) (defBody iText) (defScope iText) [d0] [] f fd) : L2.Binds K fd ["self", "at"] [] := by
  obtain ⟨ds, h, b⟩ := F.binds1 (ps := ["self", "at"]) 2 1 (by simp) rfl fun T kV doc pm an cdv ct us its h1 h2 => match us, its, h1, h2 with | [_, _], [_], _, _ => ⟨_, rfl, rfl⟩
  cases h
  exact b
theorem kText (F : FunD K "__init__" "NoText.__init__" (defArgs iText) (defBody iText) (defScope iText) [d0] [] f fd) : ∃ its : List Value, KBn K fd ["self", "at"] 1 ["at"] (fun us ws => us ++ ws) (fun vs zs => vs ++ zs) :=
  F.kbindsD (ps := ["self", "at"]) 1 ["at"] (fun us _ ws => us ++ ws) (by simp) (fun h1 _ h3 => h1.append h3)
    fun T kV doc pm an cdv ct us its ws h1 h2 h3 => match us, its, ws, h1, h2, h3 with | [_], [_], [_], _, _, _ => ⟨_, rfl, rfl⟩
variable {x y : Str}
theorem vals_rev : ∀ {xs : List V} {us : List Value}, Vals xs us → Vals xs.reverse us.reverse
  | _, _, .nil => .nil
  | _, _, .cons a r => by
    rw [List.reverse_cons, List.reverse_cons]
    exact (vals_rev r).append (.cons a .nil)
/-- of __init__(self, x = .., y = ..) -/
structure TwoB (K : PySem.W.Frag) (fd : FuncData) (x y : Str) (d0 d1 : V) : Prop where
  b0 : ∃ ds, Vals [d0, d1] ds ∧ L2.Binds K fd ["self", x, y] ds
  b1 : ∃ ds, Vals [d1] ds ∧ L2.Binds K fd ["self", x, y] ds
  b2 : L2.Binds K fd ["self", x, y] []
  kyx : ∃ g, KBn K fd ["self", x, y] 1 [y, x] g (fun vs zs => vs ++ zs.reverse)
  k1y : ∃ g, KBn K fd ["self", x, y] 2 [y] g (fun vs zs => vs ++ zs)
  k0y : ∃ g, KBn K fd ["self", x, y] 1 [y] g (fun vs zs => vs ++ ([d0] ++ zs))
theorem bTree (F : FunD K "__init__" "NoTree.__init__" (defArgs iTree) (defBody iTree) (defScope iTree) [d0, d1] [] f fd) : TwoB K fd "path" "why" d0 d1 where
  b0 := F.binds1 (ps := ["self", "path", "why"]) 1 0 (by simp) rfl fun T kV doc pm an cdv ct us its h1 h2 => match us, its, h1, h2 with | [_], [_, _], _, _ => ⟨_, rfl, rfl⟩
  b1 := F.binds1 (ps := ["self", "path", "why"]) 2 1 (by simp) rfl fun T kV doc pm an cdv ct us its h1 h2 => match us, its, h1, h2 with | [_, _], [_, _], _, _ => ⟨_, rfl, rfl⟩
  b2 := by
    obtain ⟨ds, h, b⟩ := F.binds1 (ps := ["self", "path", "why"]) 3 2 (by simp) rfl fun T kV doc pm an cdv ct us its h1 h2 => match us, its, h1, h2 with | [_, _, _], [_, _], _, _ => ⟨_, rfl, rfl⟩
    cases h
    exact b
  kyx := by
    obtain ⟨its, k⟩ := F.kbindsD (ps := ["self", "path", "why"]) 1 ["why", "path"] (fun us _ ws => us ++ ws.reverse) (by simp) (fun h1 _ h3 => h1.append (vals_rev h3)) (fun T kV doc pm an cdv ct us its ws h1 h2 h3 => match us, its, ws, h1, h2, h3 with | [_], [_, _], [_, _], _, _, _ => ⟨_, rfl, rfl⟩)
    exact ⟨_, k⟩
  k1y := by
    obtain ⟨its, k⟩ := F.kbindsD (ps := ["self", "path", "why"]) 2 ["why"] (fun us _ ws => us ++ ws) (by simp) (fun h1 _ h3 => h1.append h3) (fun T kV doc pm an cdv ct us its ws h1 h2 h3 => match us, its, ws, h1, h2, h3 with | [_, _], [_, _], [_], _, _, _ => ⟨_, rfl, rfl⟩)
    exact ⟨_, k⟩
  k0y := by
    obtain ⟨its, k⟩ := F.kbindsD (ps := ["self", "path", "why"]) 1 ["why"] (fun us its ws => us ++ (its.take 1 ++ ws)) (by simp) (fun h1 h2 h3 => h1.append ((h2.take 1).append h3)) (fun T kV doc pm an cdv ct us its ws h1 h2 h3 => match us, its, ws, h1, h2, h3 with | [_], [_, _], [_], _, _, _ => ⟨_, rfl, rfl⟩)
    exact ⟨_, k⟩
theorem bNaming (F : FunD K "__init__" "NoNaming.__init__" (defArgs iNaming) (defBody iNaming) (defScope iNaming) [d0, d1] [] f fd) : TwoB K fd "one" "other" d0 d1 where
  b0 := F.binds1 (ps := ["self", "one", "other"]) 1 0 (by simp) rfl fun T kV doc pm an cdv ct us its h1 h2 => match us, its, h1, h2 with | [_], [_, _], _, _ => ⟨_, rfl, rfl⟩
  b1 := F.binds1 (ps := ["self", "one", "other"]) 2 1 (by simp) rfl fun T kV doc pm an cdv ct us its h1 h2 => match us, its, h1, h2 with | [_, _], [_, _], _, _ => ⟨_, rfl, rfl⟩
  b2 := by
    obtain ⟨ds, h, b⟩ := F.binds1 (ps := ["self", "one", "other"]) 3 2 (by simp) rfl fun T kV doc pm an cdv ct us its h1 h2 => match us, its, h1, h2 with | [_, _, _], [_, _], _, _ => ⟨_, rfl, rfl⟩
    cases h
    exact b
  kyx := by
    obtain ⟨its, k⟩ := F.kbindsD (ps := ["self", "one", "other"]) 1 ["other", "one"] (fun us _ ws => us ++ ws.reverse) (by simp) (fun h1 _ h3 => h1.append (vals_rev h3)) (fun T kV doc pm an cdv ct us its ws h1 h2 h3 => match us, its, ws, h1, h2, h3 with | [_], [_, _], [_, _], _, _, _ => ⟨_, rfl, rfl⟩)
    exact ⟨_, k⟩
  k1y := by
    obtain ⟨its, k⟩ := F.kbindsD (ps := ["self", "one", "other"]) 2 ["other"] (fun us _ ws => us ++ ws) (by simp) (fun h1 _ h3 => h1.append h3) (fun T kV doc pm an cdv ct us its ws h1 h2 h3 => match us, its, ws, h1, h2, h3 with | [_, _], [_, _], [_], _, _, _ => ⟨_, rfl, rfl⟩)
    exact ⟨_, k⟩
  k0y := by
    obtain ⟨its, k⟩ := F.kbindsD (ps := ["self", "one", "other"]) 1 ["other"] (fun us its ws => us ++ (its.take 1 ++ ws)) (by simp) (fun h1 h2 h3 => h1.append ((h2.take 1).append h3)) (fun T kV doc pm an cdv ct us its ws h1 h2 h3 => match us, its, ws, h1, h2, h3 with | [_], [_, _], [_], _, _, _ => ⟨_, rfl, rfl⟩)
    exact ⟨_, k⟩
end
end
end My

namespace My
open PySem PySem.Spec PyProof.Rows L2 XR
abbrev sBare : Stmt := top 17
abbrev sNames : Stmt := top 18
theorem rv_mkS {C : Addr} {sp : Sp} {dvs : List V} {ta : TA} {σ : L2.St} {H : Hp} {Q : VK} (q : ta σ H fun vs H1 => vs.length ≤ 1000 ∧ ∀ a, H1 a = none → sp (.ref a :: (vs ++ dvs)) (upd H1 a (exo a C none)) (fun v H2 => v = .non ∧ Q (.ref a) H2) (fun _ _ _ => False)) : tMkX C sp dvs ta σ H Q := q
theorem rv_mkK {C : Addr} {n m : Nat} {sp : Sp} {gV : List V → List V → List V} {t tk : TA} {σ : L2.St} {H : Hp} {Q : VK} (q : t σ H fun vs H1 => tk σ H1 fun zs H2 => vs.length = n ∧ zs.length = m ∧ n ≤ 1000 ∧
  ∀ a, H2 a = none → sp (gV (.ref a :: vs) zs) (upd H2 a (exo a C none)) (fun v H3 => v = .non ∧ Q (.ref a) H3) (fun _ _ _ => False)) : tMkXK C n m sp gV t tk σ H Q := q
def Mad (H H' : Hp) (a C : Addr) (fs : List (Str × V)) : Prop := Same H H' ∧ H a = none ∧ ∃ dx, ExAt H' a C (some dx) ∧ DcAt H' dx fs
theorem Mad.ex {H H' : Hp} {a C : Addr} {fs : List (Str × V)} (m : Mad H H' a C fs) : ExIn H' a C := let ⟨_, _, dx, e, d⟩ := m; .inr ⟨dx, fs, e, d⟩
theorem mk_core {C a : Addr} {n : Nat} {fs : List V → List (Str × V)} {H1 : Hp} {R : Hp → Prop} {ws us : List V} (e : us = .ref a :: ws) (h2 : ws.length = n) (ha : H1 a = none) (q : ∀ H', Mad H1 H' a C (fs ws) → R H') :
    spI C n fs us (upd H1 a (exo a C none)) (fun v H2 => v = .non ∧ R H2) (fun _ _ _ => False) :=
  ⟨a, ws, e, h2, upd_same, fun H' dx k h3 h4 => ⟨rfl, q H' ⟨fun b o z => k b o (ne_of_none z ha) (by rw [upd_ne (ne_of_none z ha)]; exact z), ha, dx, exAt_exo h3, .inr h4⟩⟩⟩
theorem mk_in {C : Addr} {n : Nat} {fs : List V → List (Str × V)} {H1 : Hp} {R : Addr → Hp → Prop} {vs dvs : List V} (h1 : vs.length ≤ 1000) (h2 : (vs ++ dvs).length = n) (q : ∀ a H', Mad H1 H' a C (fs (vs ++ dvs)) → R a H') :
    vs.length ≤ 1000 ∧ ∀ a, H1 a = none → spI C n fs (.ref a :: (vs ++ dvs)) (upd H1 a (exo a C none)) (fun v H2 => v = .non ∧ R a H2) (fun _ _ _ => False) :=
  ⟨h1, fun a ha => mk_core rfl h2 ha (q a)⟩
theorem ex0_made {H : Hp} {a C : Addr} (h : H a = none) : Same H (upd H a (ExO (.ref C) a)) ∧ ExIn (upd H a (ExO (.ref C) a)) a C := ⟨same_upd h, .inl (exAt_ExO upd_same)⟩
local macro_rules | `(tactic| walk_at "rd1") => `(tactic| first
  | with_reducible refine rs_seq ?_
  | with_reducible refine rs_asg ?_
  | with_reducible refine rs_ret ?_
  | with_reducible refine rs_if ?_
  | with_reducible refine rs_next ?_
  | with_reducible refine rg_name ?_
  | ((with_reducible refine rv_var (v := ?vv) ?hv ?_); (case hv => exact rfl))
  | with_reducible refine rv_c ?_
  | with_reducible refine rv_op ?_
  | with_reducible refine rv_cons ?_
  | with_reducible refine rv_nil ?_
  | with_reducible refine rv_rI0 ?_
  | ((with_reducible refine rv_rI ?hc ?_); (case hc => walk_at "side"))
  | ((with_reducible refine rv_eq ?hc ?_); (case hc => exact rfl))
  | ((with_reducible refine rv_ne ?hc ?_); (case hc => exact rfl))
  | with_reducible refine rv_test ?_
  | with_reducible refine rv_bl ?_
  | with_reducible refine rv_cb ?_
  | with_reducible refine rv_call ?_
  | with_reducible refine rv_tup ?_
  | with_reducible refine rv_lst ?_
  | with_reducible refine rv_tB ?_
  | with_reducible refine rv_or ?_
  | with_reducible refine rv_and ?_
  | with_reducible refine rv_not ?_
  | with_reducible refine rv_andV ?_
  | with_reducible refine rv_orV ?_
  | with_reducible refine rv_notV ?_
  | with_reducible refine rv_ifE ?_
  | with_reducible refine rs_drop ?_
  | with_reducible refine iteT ?_
  | with_reducible refine iteF ?_
  | with_reducible refine rv_mkS ?_
  | with_reducible refine rv_mkK ?_
  | with_reducible refine ro_nx ?_
  | with_reducible refine ro_rt ?_
  | with_reducible refine ro_ct ?_
  | with_reducible refine ro_bk ?_)
local macro_rules | `(tactic| walk_at "rd") => `(tactic| repeat walk_at "rd1")
local macro_rules | `(tactic| walk_at "side") => `(tactic| first
  | assumption
  | exact (show CPow _ _ from ⟨by decide, by decide, by decide⟩)
  | exact (show CMul _ _ from .inl ⟨by decide, by decide⟩)
  | exact (show CMul _ _ from .inr ⟨by decide, by decide⟩)
  | (show (0 : Int) < _; decide)
  | (show CMul _ _; first | exact .inl ⟨by omega, by omega⟩ | exact .inr ⟨by omega, by omega⟩)
  | omega)
section
variable {P : Program} {w : World} {K : PySem.W.Frag} {mg : Str → Option Value} {base : Heap} {cs : Nat → Addr} {cL fT fR fN e0 : Addr} {fdT fdR fdN : FuncData}
/-- what the written part says of the ten classes -/
structure Cl (K : PySem.W.Frag) (cs : Nat → Addr) (fT fR fN e0 : Addr) (fdT fdR fdN : FuncData) : Prop where
  oT : OexC K (cs 0)
  oR : OexC K (cs 1)
  oN : OexC K (cs 3)
  iT : PySem.W.findIn K (.ref (cs 0)) "__init__" = some (some (.ref fT))
  iR : PySem.W.findIn K (.ref (cs 1)) "__init__" = some (some (.ref fR))
  iN : PySem.W.findIn K (.ref (cs 3)) "__init__" = some (some (.ref fN))
  tT : PySem.W.typeIn K (.ref fT) = some (.type "function")
  tR : PySem.W.typeIn K (.ref fR) = some (.type "function")
  tN : PySem.W.typeIn K (.ref fN) = some (.type "function")
  FT : FunD K "__init__" "NoText.__init__" (defArgs iText) (defBody iText) (defScope iText) [.int 0] [] fT fdT
  FR : FunD K "__init__" "NoTree.__init__" (defArgs iTree) (defBody iTree) (defScope iTree) [.ref e0, .str ""] [] fR fdR
  FN : FunD K "__init__" "NoNaming.__init__" (defArgs iNaming) (defBody iNaming) (defScope iNaming) [.non, .non] [] fN fdN
  nAt : PySem.W.findIn K (.ref (cs 0)) "at" = some none
  nPath : PySem.W.findIn K (.ref (cs 1)) "path" = some none
  nWhy : PySem.W.findIn K (.ref (cs 1)) "why" = some none
  nOne : PySem.W.findIn K (.ref (cs 3)) "one" = some none
  nOther : PySem.W.findIn K (.ref (cs 3)) "other" = some none
  x : ∀ i ∈ [2, 4, 5, 6, 7, 8, 9], PySem.W.excIn K (cs i) [.type "ValueError", .type "Exception", .type "BaseException", .type "object"] "ValueError.__new__" = true
  k : ∀ i ∈ [2, 4, 5, 6, 7, 8, 9], PySem.W.keepIn K (.ref (cs i)) = true
  e0 : ∀ H, SqT K H e0 []
def spBare (cs : Nat → Addr) : Sp := fun vs H Q _ => vs = [] ∧ ∀ H' l (as : List Addr), Same H H' → H' l = some (.lst (as.map V.ref)) → as.length = 10 → (∀ i, i < 10 → ExIn H' (as.getD i 0) (cs i)) → Q (.ref l) H'
def spNames : Sp := fun vs H Q _ => vs = [] ∧ ∀ H' l, Same H H' → H' l = some (.lst (n10.map V.str)) → Q (.ref l) H'
theorem scBare : FnScope ["some"] [] (defScope sBare) := ⟨rfl, rfl, rfl, by decide +kernel, rfl, by decide +kernel, by decide +kernel⟩
theorem scNames : FnScope ["names"] [] (defScope sNames) := ⟨rfl, rfl, rfl, by decide +kernel, rfl, by decide +kernel, by decide +kernel⟩
theorem ok_names {f : Addr} {fd : FuncData} (F : Fun K "_law_names" "_law_names" sNames f fd) : FnOk P w K mg base CX0 1 f fd [] spNames := by
  refine F.ok scNames (fun vs H Q E h => ?_) (fun cdv A outer s H vs Q E hr h => ?_)
  · rw [h.1]
    rfl
  · refine ⟨_, pss_cons (ps_set (i := 0) scNames.nd rfl (.inl rfl) (pe_lst (pa_cons pe_str (pa_cons pe_str (pa_cons pe_str (pa_cons pe_str (pa_cons pe_str (pa_cons pe_str (pa_cons pe_str (pa_cons pe_str (pa_cons pe_str pa_nil)))))))))))
      (pss_one (ps_ret (pe_op op_cat (pv 0) (pe_lst (pa_cons pe_str pa_nil))))), ?_⟩
    obtain ⟨rfl, q⟩ := h
    walk_at "rd"
    refine ⟨(by show 9 ≤ sizeLine; decide), fun p1 h1 => ?_⟩
    walk_at "rd"
    refine ⟨(by show 1 ≤ sizeLine; decide), fun p2 h2 => ?_⟩
    refine ⟨p1, p2, _, _, rfl, rfl, (upd_ne (ne_of_none upd_same h2)).trans upd_same, upd_same, (by show 10 ≤ sizeLine; decide), fun p3 h3 => ?_⟩
    walk_at "rd"
    exact q _ p3 (((same_upd h1).trans (same_upd h2)).trans (same_upd h3)) upd_same
theorem ok_bare {f : Addr} {fd : FuncData} (F : Fun K "_law_bare" "_law_bare" sBare f fd) (T : Ten K mg cs cL) (L : Cl K cs fT fR fN e0 fdT fdR fdN) : FnOk P w K mg base CX0 3 f fd [] (spBare cs) := by
  obtain ⟨dsT, vT, bT⟩ := bText0 L.FT
  obtain ⟨dsR, vR, bR⟩ := (bTree L.FR).b0
  obtain ⟨dsN, vN, bN⟩ := (bNaming L.FN).b0
  have GT : FnOk P w K mg base CX0 1 fT fdT ["self", "at"] (spI (cs 0) 1 fsText) := ok_iText L.FT L.oT L.nAt
  have GR : FnOk P w K mg base CX0 1 fR fdR ["self", "path", "why"] (spI (cs 1) 2 fsTree) := ok_iTree L.FR L.oR L.nPath L.nWhy
  have GN : FnOk P w K mg base CX0 1 fN fdN ["self", "one", "other"] (spI (cs 3) 2 fsNaming) := ok_iNaming L.FN L.oN L.nOne L.nOther
  have g0 := T.g 0 (by decide)
  have g1 := T.g 1 (by decide)
  have g2 := T.g 2 (by decide)
  have g3 := T.g 3 (by decide)
  have g4 := T.g 4 (by decide)
  have g5 := T.g 5 (by decide)
  have g6 := T.g 6 (by decide)
  have g7 := T.g 7 (by decide)
  have g8 := T.g 8 (by decide)
  have g9 := T.g 9 (by decide)
  refine F.ok scBare (fun vs H Q E h => ?_) (fun cdv A outer s H vs Q E hr h => ?_)
  · rw [h.1]
    rfl
  · have e0 : ∀ {X : Cx} {i : Nat} {x : Str} {p pos : Pos}, X.K = K → X.mg x = some (.ref (cs i)) → i ∈ [2, 4, 5, 6, 7, 8, 9] → Gl X x → (x == ("__debug__" : Str)) = false → PE X (.Call (.Name x p) [] [] pos) (fun σ H Q => ∀ a, H a = none → Q (.ref a) (upd H a (ExO (.ref (cs i)) a))) :=
      fun {X i x p pos} e g hi hg hd => pe_exc0 PySem.F.excBase_ValueError (by rw [e]; exact L.x i hi) g (by rw [e]; exact L.k i hi) hg hd
    refine ⟨_, pss_cons (ps_set (i := 0) scBare.nd rfl (.inl rfl) (pe_lst
        (pa_cons (pe_mkX0 L.oT L.iT L.tT GT hr bT vT pass0 (by rfl) g0)
        (pa_cons (pe_mkX0 L.oR L.iR L.tR GR hr bR vR pass0 (by rfl) g1)
        (pa_cons (e0 (i := 2) rfl g2 (by decide) (by rfl) (by decide))
        (pa_cons (pe_mkX0 L.oN L.iN L.tN GN hr bN vN pass0 (by rfl) g3)
        (pa_cons (e0 (i := 4) rfl g4 (by decide) (by rfl) (by decide))
        (pa_cons (e0 (i := 5) rfl g5 (by decide) (by rfl) (by decide))
        (pa_cons (e0 (i := 6) rfl g6 (by decide) (by rfl) (by decide))
        (pa_cons (e0 (i := 7) rfl g7 (by decide) (by rfl) (by decide)) pa_nil))))))))))
      (pss_one (ps_ret (pe_op op_cat (pv 0) (pe_lst (pa_cons (e0 (i := 8) rfl g8 (by decide) (by rfl) (by decide)) (pa_cons (e0 (i := 9) rfl g9 (by decide) (by rfl) (by decide)) pa_nil)))))), ?_⟩
    obtain ⟨rfl, q⟩ := h
    walk_at "rd"
    refine mk_in (vs := []) (by decide) (by rfl) fun a0 H0 m0 => ?_
    walk_at "rd"
    refine mk_in (vs := []) (by decide) (by rfl) fun a1 H1 m1 => ?_
    walk_at "rd"
    intro a2 h2
    obtain ⟨k2, x2⟩ := ex0_made (C := cs 2) h2
    generalize upd H1 a2 (ExO (.ref (cs 2)) a2) = H2 at k2 x2 ⊢
    walk_at "rd"
    refine mk_in (vs := []) (by decide) (by rfl) fun a3 H3 m3 => ?_
    walk_at "rd"
    intro a4 h4
    obtain ⟨k4, x4⟩ := ex0_made (C := cs 4) h4
    generalize upd H3 a4 (ExO (.ref (cs 4)) a4) = H4 at k4 x4 ⊢
    walk_at "rd"
    intro a5 h5
    obtain ⟨k5, x5⟩ := ex0_made (C := cs 5) h5
    generalize upd H4 a5 (ExO (.ref (cs 5)) a5) = H5 at k5 x5 ⊢
    walk_at "rd"
    intro a6 h6
    obtain ⟨k6, x6⟩ := ex0_made (C := cs 6) h6
    generalize upd H5 a6 (ExO (.ref (cs 6)) a6) = H6 at k6 x6 ⊢
    walk_at "rd"
    intro a7 h7
    obtain ⟨k7, x7⟩ := ex0_made (C := cs 7) h7
    generalize upd H6 a7 (ExO (.ref (cs 7)) a7) = H7 at k7 x7 ⊢
    walk_at "rd"
    refine ⟨(by show 8 ≤ sizeLine; decide), fun p1 hp1 => ?_⟩
    have kp1 := same_upd (o := .lst [.ref a0, .ref a1, .ref a2, .ref a3, .ref a4, .ref a5, .ref a6, .ref a7]) hp1
    have lp1 : upd H7 p1 (.lst [.ref a0, .ref a1, .ref a2, .ref a3, .ref a4, .ref a5, .ref a6, .ref a7]) p1 = some (.lst [.ref a0, .ref a1, .ref a2, .ref a3, .ref a4, .ref a5, .ref a6, .ref a7]) := upd_same
    generalize upd H7 p1 (.lst [.ref a0, .ref a1, .ref a2, .ref a3, .ref a4, .ref a5, .ref a6, .ref a7]) = Hp at kp1 lp1 ⊢
    walk_at "rd"
    intro a8 h8
    obtain ⟨k8, x8⟩ := ex0_made (C := cs 8) h8
    generalize upd Hp a8 (ExO (.ref (cs 8)) a8) = H8 at k8 x8 ⊢
    walk_at "rd"
    intro a9 h9
    obtain ⟨k9, x9⟩ := ex0_made (C := cs 9) h9
    generalize upd H8 a9 (ExO (.ref (cs 9)) a9) = H9 at k9 x9 ⊢
    walk_at "rd"
    refine ⟨(by show 2 ≤ sizeLine; decide), fun p2 hp2 => ?_⟩
    have kp2 := same_upd (o := .lst [.ref a8, .ref a9]) hp2
    refine ⟨p1, p2, _, _, rfl, rfl, kp2 _ _ (k9 _ _ (k8 _ _ lp1)), upd_same, (by show 10 ≤ sizeLine; decide), fun p3 hp3 => ?_⟩
    have kp3 := same_upd (o := .lst ([.ref a0, .ref a1, .ref a2, .ref a3, .ref a4, .ref a5, .ref a6, .ref a7] ++ [.ref a8, .ref a9])) hp3
    walk_at "rd"
    have z9 := kp2.trans kp3
    have z8 := k9.trans z9
    have zp := k8.trans z8
    have z7 := kp1.trans zp
    have z6 := k7.trans z7
    have z5 := k6.trans z6
    have z4 := k5.trans z5
    have z3 := k4.trans z4
    have z2 := m3.1.trans z3
    have z1 := k2.trans z2
    have z0 := m1.1.trans z1
    refine q _ p3 (m0.1.trans z0) (as := [a0, a1, a2, a3, a4, a5, a6, a7, a8, a9]) upd_same rfl fun i hi => ?_
    match i, hi with
    | 0, _ => exact m0.ex.same z0
    | 1, _ => exact m1.ex.same z1
    | 2, _ => exact x2.same z2
    | 3, _ => exact m3.ex.same z3
    | 4, _ => exact x4.same z4
    | 5, _ => exact x5.same z5
    | 6, _ => exact x6.same z6
    | 7, _ => exact x7.same z7
    | 8, _ => exact x8.same z8
    | 9, _ => exact x9.same z9
end
end My

namespace XR
open PySem PySem.Spec PyProof.Rows L2
section
variable {K : PySem.W.Frag} {σ : L2.St} {H : Hp} {Q : VK} {QT : Bool → Hp → Prop} {v : V} {i j l : Nat} {te : TE} {t : TA} {D : Ends} {tb : TS} {g : TG} {wi : TI} {R : It → Hp → Prop} {Qs : L2.St → Hp → Prop}
theorem rs_for (q : wi σ H fun J H1 => ∃ W : Nat → Nat → L2.St → Hp → Prop, (∃ m, W 0 m σ H1) ∧ ∀ i m σ H, W i m σ H →
  (J.stop i H ∧ D.nx σ H) ∨ (J.go i H ∧ ∃ N : L2.St → Hp → Prop, (∀ σ' H', N σ' H' → ∃ m', m' < m ∧ W (i + 1) m' σ' H') ∧ ∀ x H', J.yld i H x H' → g x σ H' fun σ2 H2 => tb { D with nx := N, ct := N, bk := D.nx } σ2 H2)) : tFor wi g tb D σ H := q
theorem ri_zip (q : t σ H fun vs H1 => ∃ a b xs ys, vs = [.ref a, .ref b] ∧ SqL K H1 a xs ∧ SqL K H1 b ys ∧ R (Itz K a b) H1) : iZip K t σ H R := q
theorem ri_list (q : te σ H fun x H1 => ∃ a, x = .ref a ∧ (∃ xs, SqL K H1 a xs) ∧ R (Itl K a) H1) : iList K te σ H R := q
theorem ri_rng1 (q : t σ H fun vs H1 => ∃ j : Int, vs = [.int j] ∧ -(2 ^ 62) ≤ j ∧ j < 2 ^ 62 ∧ R (Itr 0 j.toNat) H1) : iRng1 t σ H R := q
theorem rv_lc {tt : TT} {vs : List Nat} (q : wi σ H fun J H1 => ∀ D, H1 D = none → ∃ W : Nat → Nat → Hp → Prop, (∃ m, W 0 m (upd H1 D (.lst []))) ∧ ∀ i m H, W i m H →
  (J.stop i H ∧ Q (.ref D) H) ∨ (J.go i H ∧ ∃ Nx : Hp → Prop, (∀ H', Nx H' → ∃ m', m' < m ∧ W (i + 1) m' H') ∧ ∀ x H', J.yld i H x H' → g x (wipe σ vs) H' fun σ2 H2 => wipe σ2 vs = wipe σ vs ∧ tt σ2 H2 fun b H3 =>
    if b = true then te σ2 H3 fun y H4 => ∃ acc, H4 D = some (.lst acc) ∧ acc.length < sizeLine ∧ Nx (upd H4 D (.lst (acc ++ [y]))) else Nx H3)) : tLc wi g tt te vs σ H Q := q
theorem rv_xfl {f : Str} (q : te σ H fun x H1 => ∃ (a C dd : Addr) (fs : List (Str × V)) (v : V), x = .ref a ∧ ExAt H1 a C (some dd) ∧ DcAt H1 dd fs ∧ ExcK K C ∧ PySem.W.findIn K (.ref C) f = some none ∧ fs.lookup f = some v ∧ Q v H1) : tXfl K f te σ H Q := q
theorem rs_par3 (q : t σ H fun vs H1 => ∃ u v w, vs = [u, v, w] ∧ D.nx (((σ.set i (some u)).set j (some v)).set l (some w)) H1) : tPar3 i j l t D σ H := q
theorem rv_yes (q : QT true H) : tYes σ H QT := q
theorem rg_tup {n : Nat} {tg : TGs} (q : ∃ a xs, v = .ref a ∧ SqT K H a xs ∧ xs.length = n ∧ tg xs σ H Qs) : gTup K n tg v σ H Qs := q
theorem rg_cons {t1 : TG} {u : TGs} {vs : List V} (q : t1 v σ H fun σ' H' => u vs σ' H' Qs) : gCons t1 u (v :: vs) σ H Qs := ⟨v, vs, rfl, q⟩
theorem rg_nil (q : Qs σ H) : gNil [] σ H Qs := ⟨rfl, q⟩
theorem iteFe {c : Bool} {A B : Prop} (hc : c = false) (h : B) : if c = true then A else B := by
  rw [hc, if_neg Bool.false_ne_true]
  exact h
theorem iteTe {c : Bool} {A B : Prop} (hc : c = true) (h : A) : if c = true then A else B := by
  rw [hc, if_pos rfl]
  exact h
end
end XR

namespace My
open PySem PySem.Spec PyProof.Rows L2 XR
section
variable {K : PySem.W.Frag}
theorem tk_in {Hc : Hp} {p : Addr} {n z : Int} {Q : VK} {E : XK} (hp : Hc p = some (.lst [.int n])) (h0 : 0 < z) (h1 : z < 1073741824)
    (q : ∀ d m H', 0 ≤ d → d < z → H' p = some (.lst [.int m]) → (∀ b o, b ≠ p → Hc b = some o → H' b = some o) → Q (.int d) H') : spTake ([.ref p, .int z] ++ []) Hc Q E :=
  ⟨p, n, z, rfl, hp, h0, h1, fun d m e0 e1 => q d m _ e0 e1 upd_same fun b o hb e => by rw [upd_ne hb]; exact e⟩
theorem refs_at {as : List Addr} {i : Nat} (h : i < as.length) : (as.map V.ref)[i]? = some (.ref (as.getD i 0)) := by
  rw [List.getElem?_map, List.getElem?_eq_getElem h, List.getD_eq_getElem?_getD, List.getElem?_eq_getElem h]
  rfl
theorem n10_at : ∀ t, t < 10 → (List.map V.str n10)[t]? = some (.str (n10.getD t "")) := by decide +kernel
theorem lk_here {k : Str} {v : V} {r : List (Str × V)} : List.lookup k ((k, v) :: r) = some v := by
  have e : (k == k) = true := beq_self_eq_true k
  simp only [List.lookup, e]
theorem lk_past {k g : Str} {v : V} {r : List (Str × V)} (h : (k == g) = false) : List.lookup k ((g, v) :: r) = List.lookup k r := by
  simp only [List.lookup, h]
theorem xf_in {H H1 H' : Hp} {a C : Addr} {fs : List (Str × V)} {f : Str} {v : V} {R : V → Prop} (m : Mad H H1 a C fs) (k : Same H1 H') (ek : ExcK K C) (nf : PySem.W.findIn K (.ref C) f = some none) (l : fs.lookup f = some v) (q : R v) :
    ∃ (a' C' dd : Addr) (fs' : List (Str × V)) (v' : V), V.ref a = .ref a' ∧ ExAt H' a' C' (some dd) ∧ DcAt H' dd fs' ∧ ExcK K C' ∧ PySem.W.findIn K (.ref C') f = some none ∧ fs'.lookup f = some v' ∧ R v' := by
  obtain ⟨_, _, dx, e, d⟩ := m
  exact ⟨a, C, dx, fs, v, rfl, e.same k, d.same k, ek, nf, l, q⟩
theorem xg_in {H' : Hp} {a C dx : Addr} {fs : List (Str × V)} {f : Str} {v : V} {R : V → Prop} (e : ExAt H' a C (some dx)) (d : DcAt H' dx fs) (ek : ExcK K C) (nf : PySem.W.findIn K (.ref C) f = some none) (l : fs.lookup f = some v) (q : R v) :
    ∃ (a' C' dd : Addr) (fs' : List (Str × V)) (v' : V), V.ref a = .ref a' ∧ ExAt H' a' C' (some dd) ∧ DcAt H' dd fs' ∧ ExcK K C' ∧ PySem.W.findIn K (.ref C') f = some none ∧ fs'.lookup f = some v' ∧ R v' :=
  ⟨a, C, dx, fs, v, rfl, e, d, ek, nf, l, q⟩
/-- a value that is data by itself -/
def Sc (y : V) (f : PyData) : Prop := (y = .non ∧ f = .none) ∨ (∃ i, y = .int i ∧ f = .int i) ∨ ∃ s, y = .str s ∧ f = .str s ∧ PyData.strOk s = true
theorem Sc.dp {y : V} {f : PyData} (h : Sc y f) (H : Hp) : Dp K H y f := by
  rcases h with ⟨rfl, rfl⟩ | ⟨i, rfl, rfl⟩ | ⟨s, rfl, rfl, _⟩
  · exact .non
  · exact .int i
  · exact .str s
theorem Sc.lay {y : V} {f : PyData} (h : Sc y f) : PyData.canLay0 f = true ∧ PyData.depth f = 0 := by
  rcases h with ⟨rfl, rfl⟩ | ⟨i, rfl, rfl⟩ | ⟨s, rfl, rfl, h⟩
  · exact ⟨rfl, rfl⟩
  · exact ⟨rfl, rfl⟩
  · exact ⟨h, rfl⟩
theorem ints_lay : ∀ ds : List Int, PyData.canLayAll0 (ds.map PyData.int) = true ∧ PyData.depthAll (ds.map PyData.int) = 0
  | [] => ⟨rfl, rfl⟩
  | d :: ds => by
    obtain ⟨h1, h2⟩ := ints_lay ds
    refine ⟨?_, ?_⟩
    · show (PyData.canLay0 (.int d) && PyData.canLayAll0 (ds.map PyData.int)) = true
      rw [h1]
      rfl
    · show max (PyData.depth (.int d)) (PyData.depthAll (ds.map PyData.int)) = 0
      rw [h2]
      rfl
theorem ints_dp {H : Hp} : ∀ ds : List Int, DpAll K H (ds.map V.int) (ds.map PyData.int)
  | [] => .nil
  | d :: ds => .cons (.int d) (ints_dp ds)
theorem shaped_of {d : PyData} (h : d.canLay0 = true) (k : d.depth ≤ 64) : SeqAt.shaped d = true := by
  unfold SeqAt.shaped
  rw [h, decide_eq_true k]
  rfl
theorem sc2_shaped {f1 f2 : PyData} (h1 : PyData.canLay0 f1 = true ∧ PyData.depth f1 = 0) (h2 : PyData.canLay0 f2 = true ∧ PyData.depth f2 = 0) : SeqAt.shaped (.tuple [f1, f2]) = true := by
  refine shaped_of ?_ ?_
  · show (PyData.canLay0 f1 && (PyData.canLay0 f2 && true)) = true
    rw [h1.1, h2.1]
    rfl
  · show max (PyData.depth f1) (max (PyData.depth f2) 0) + 1 ≤ 64
    rw [h1.2, h2.2]
    decide
theorem spot_shaped {ds : List Int} {f2 : PyData} (h2 : PyData.canLay0 f2 = true ∧ PyData.depth f2 = 0) : SeqAt.shaped (.tuple [.tuple (ds.map PyData.int), f2]) = true := by
  obtain ⟨h3, h4⟩ := ints_lay ds
  refine shaped_of ?_ ?_
  · show (PyData.canLayAll0 (ds.map PyData.int) && (PyData.canLay0 f2 && true)) = true
    rw [h3, h2.1]
    rfl
  · show max (PyData.depthAll (ds.map PyData.int) + 1) (max (PyData.depth f2) 0) + 1 ≤ 64
    rw [h4, h2.2]
    decide
theorem ne_self {d : PyData} (h : SeqAt.shaped d = true) : (!PyData.eqv d d) = false := by
  rw [SeqAt.eqv_refl d (SeqAt.canLay_of_shaped h)]
  rfl
theorem ne_v (x : V) : (!decide (x = x)) = false := by rw [decide_eq_true rfl]; rfl
/-- an item at a drawn place below n -/
theorem drawn_at {l : List V} {d : Int} (h0 : 0 ≤ d) (h1 : d < l.length) : ∃ y, atI l d = some y ∧ y ∈ l := by
  obtain ⟨j, rfl⟩ := Int.eq_ofNat_of_zero_le h0
  have hj : j < l.length := by omega
  exact ⟨l[j], atI_nat (List.getElem?_eq_getElem hj), List.getElem_mem hj⟩
end
end My

namespace My
open PySem PySem.Spec PyProof.Rows L2 XR
abbrev sLaw : Stmt := top 19
local macro_rules | `(tactic| walk_at "rd1") => `(tactic| first
  | with_reducible refine rs_seq ?_
  | with_reducible refine rs_asg ?_
  | with_reducible refine rs_ret ?_
  | with_reducible refine rs_if ?_
  | with_reducible refine rs_next ?_
  | with_reducible refine rg_name ?_
  | ((with_reducible refine rv_var (v := ?vv) ?hv ?_); (case hv => exact rfl))
  | with_reducible refine rv_c ?_
  | with_reducible refine rv_op ?_
  | with_reducible refine rv_cons ?_
  | with_reducible refine rv_nil ?_
  | with_reducible refine rv_rI0 ?_
  | ((with_reducible refine rv_rI ?hc ?_); (case hc => walk_at "side"))
  | ((with_reducible refine rv_eq ?hc ?_); (case hc => exact rfl))
  | ((with_reducible refine rv_ne ?hc ?_); (case hc => exact rfl))
  | with_reducible refine rv_test ?_
  | with_reducible refine rv_bl ?_
  | with_reducible refine rv_cb ?_
  | with_reducible refine rv_call ?_
  | with_reducible refine rv_tup ?_
  | with_reducible refine rv_lst ?_
  | with_reducible refine rv_tB ?_
  | with_reducible refine rv_or ?_
  | with_reducible refine rv_and ?_
  | with_reducible refine rv_not ?_
  | with_reducible refine rv_andV ?_
  | with_reducible refine rv_orV ?_
  | with_reducible refine rv_notV ?_
  | with_reducible refine rv_ifE ?_
  | with_reducible refine rs_drop ?_
  | with_reducible refine iteT ?_
  | with_reducible refine iteF ?_
  | with_reducible refine rv_mkS ?_
  | with_reducible refine rv_mkK ?_
  | with_reducible refine ro_nx ?_
  | with_reducible refine ro_rt ?_
  | with_reducible refine ro_ct ?_
  | with_reducible refine ro_bk ?_)
local macro_rules | `(tactic| walk_at "rd") => `(tactic| repeat walk_at "rd1")
local macro_rules | `(tactic| walk_at "side") => `(tactic| first
  | assumption
  | exact (show CPow _ _ from ⟨by decide, by decide, by decide⟩)
  | exact (show CMul _ _ from .inl ⟨by decide, by decide⟩)
  | exact (show CMul _ _ from .inr ⟨by decide, by decide⟩)
  | (show (0 : Int) < _; decide)
  | (show CMul _ _; first | exact .inl ⟨by omega, by omega⟩ | exact .inr ⟨by omega, by omega⟩)
  | omega)
local macro_rules | `(tactic| walk_at "rd1") => `(tactic| first
  | with_reducible refine rs_for ?_
  | with_reducible refine ri_zip ?_
  | with_reducible refine ri_list ?_
  | with_reducible refine ri_rng1 ?_
  | with_reducible refine rv_lc ?_
  | with_reducible refine rv_xfl ?_
  | with_reducible refine rs_par3 ?_
  | with_reducible refine rv_yes ?_
  | with_reducible refine rg_tup ?_
  | with_reducible refine rg_cons ?_
  | with_reducible refine rg_nil ?_)
section
variable {P : Program} {w : World} {K : PySem.W.Frag} {mg : Str → Option Value} {base : Heap} {cs : Nat → Addr} {cL fT fR fN e0 : Addr} {fdT fdR fdN : FuncData}
def nLaw : List Str := ["script", "error", "name", "text", "tree", "naming", "word", "made", "names", "k", "pile", "where", "spot", "what", "first", "second", "turn"]
theorem scLaw : FnScope nLaw ["script"] (defScope sLaw) := ⟨rfl, rfl, rfl, by decide +kernel, rfl, by decide +kernel, by decide +kernel⟩
/-- the law: True -/
def spLaw (K : PySem.W.Frag) : Sp := fun vs H Q _ => ∃ (a : Addr) (ns : List Int), vs = [.ref a] ∧ SqL K H a (ns.map V.int) ∧ ∀ H', Q (.bl true) H'
/-- the defs of the law -/
structure Defs (K : PySem.W.Frag) (mg : Str → Option Value) (fM fC fK fO fB fS : Addr) (dM dC dK dO dB dS : FuncData) : Prop where
  FM : Fun K "_law_mixed" "_law_mixed" sMixed fM dM
  FC : Fun K "_law_cell" "_law_cell" sCell fC dC
  FK : Fun K "_law_take" "_law_take" sTake fK dK
  FO : Fun K "_law_only" "_law_only" sOnly fO dO
  FB : Fun K "_law_bare" "_law_bare" sBare fB dB
  FS : Fun K "_law_names" "_law_names" sNames fS dS
  gM : mg "_law_mixed" = some (.ref fM)
  gC : mg "_law_cell" = some (.ref fC)
  gK : mg "_law_take" = some (.ref fK)
  gO : mg "_law_only" = some (.ref fO)
  gB : mg "_law_bare" = some (.ref fB)
  gS : mg "_law_names" = some (.ref fS)
  bM : L2.Binds K dM ["cell", "k"] []
  bC : L2.Binds K dC ["script", "k"] []
  bK : L2.Binds K dK ["pile", "size"] []
  bO : L2.Binds K dO ["caught", "name"] []
  bB : L2.Binds K dB [] []
  bS : L2.Binds K dS [] []
  mL : mg "len" = none
  mR : mg "range" = none
  mT : mg "tuple" = none
theorem ok_law {f fM fC fK fO fB fS : Addr} {fd dM dC dK dO dB dS : FuncData} (F : Fun K "law" "law" sLaw f fd) (T : Ten K mg cs cL) (L : Cl K cs fT fR fN e0 fdT fdR fdN) (G : Defs K mg fM fC fK fO fB fS dM dC dK dO dB dS) : FnOk P w K mg base CX0 4 f fd ["script"] (spLaw K) := by
  have BT := bText1 L.FT
  obtain ⟨dsT, vT, bT⟩ := bText0 L.FT
  obtain ⟨itsT, kT⟩ := kText L.FT
  have BR := bTree L.FR
  have BN := bNaming L.FN
  obtain ⟨dsR0, vR0, bR0⟩ := BR.b0
  obtain ⟨dsR1, vR1, bR1⟩ := BR.b1
  obtain ⟨dsN0, vN0, bN0⟩ := BN.b0
  obtain ⟨dsN1, vN1, bN1⟩ := BN.b1
  obtain ⟨gRyx, kRyx⟩ := BR.kyx
  obtain ⟨gR1y, kR1y⟩ := BR.k1y
  obtain ⟨gR0y, kR0y⟩ := BR.k0y
  obtain ⟨gNyx, kNyx⟩ := BN.kyx
  have GT : FnOk P w K mg base CX0 1 fT fdT ["self", "at"] (spI (cs 0) 1 fsText) := ok_iText L.FT L.oT L.nAt
  have GR : FnOk P w K mg base CX0 1 fR fdR ["self", "path", "why"] (spI (cs 1) 2 fsTree) := ok_iTree L.FR L.oR L.nPath L.nWhy
  have GN : FnOk P w K mg base CX0 1 fN fdN ["self", "one", "other"] (spI (cs 3) 2 fsNaming) := ok_iNaming L.FN L.oN L.nOne L.nOther
  have GC : FnOk P w K mg base CX0 2 fC dC ["script", "k"] (spCell K) := ok_cell G.FC G.FM G.bM G.gM G.mL G.mR
  have GK : FnOk P w K mg base CX0 1 fK dK ["pile", "size"] spTake := ok_take G.FK
  have GO : FnOk P w K mg base CX0 1 fO dO ["caught", "name"] (spOnly K cs) := ok_only G.FO T
  have GB : FnOk P w K mg base CX0 3 fB dB [] (spBare cs) := ok_bare G.FB T L
  have GS : FnOk P w K mg base CX0 1 fS dS [] spNames := ok_names G.FS
  have g0 := T.g 0 (by decide)
  have g1 := T.g 1 (by decide)
  have g2 := T.g 2 (by decide)
  have g3 := T.g 3 (by decide)
  have g4 := T.g 4 (by decide)
  have g5 := T.g 5 (by decide)
  have g6 := T.g 6 (by decide)
  have g7 := T.g 7 (by decide)
  have g8 := T.g 8 (by decide)
  have g9 := T.g 9 (by decide)
  refine F.ok scLaw (fun vs H Q E h => ?_) (fun cdv A outer s H vs Q E hr h => ?_)
  · obtain ⟨a, ns, rfl, _⟩ := h
    rfl
  · have hr3 : Room 3 (A.deeper (envOfC "law" (defScope sLaw) s.heap.objs.size f cdv)) := hr
    have hr2 := hr3.mono (j := 2) (by decide)
    have hr1 := hr3.mono (j := 1) (by decide)
    have e1 : ∀ {X : Cx} {i : Nat} {x : Str} {p pos : Pos} {e : Expr} {ta : TE}, X.K = K → X.mg x = some (.ref (cs i)) → i ∈ [2, 4, 5, 6, 7, 8, 9] → Gl X x → (x == ("__debug__" : Str)) = false → PE X e ta → starEach [e] X.env = (false, eval e X.env) :: starEach [] X.env →
        PE X (.Call (.Name x p) [e] [] pos) (fun σ H Q => ta σ H fun _ H1 => ∀ a, H1 a = none → Q (.ref a) (upd H1 a (ExO (.ref (cs i)) a))) :=
      fun {X i x p pos e ta} eK g hi hg hd he hs => pe_exc1 PySem.F.excBase_ValueError (by rw [eK]; exact L.x i hi) g (by rw [eK]; exact L.k i hi) hg he hs hd
    refine ⟨_, (pss_cons (ps_for PassesOwn.never rfl (pi_zip (by rfl) T.gZ (pa_cons (pe_call0 GB hr3 (by rfl) G.gB G.FB.kp G.bB .nil pass0) (pa_cons (pe_call0 GS hr1 (by rfl) G.gS G.FS.kp G.bS .nil pass0) pa_nil))) (pg_tup (by rfl) (pgs_cons (pg_name (i := 1) scLaw.nd rfl (.inl rfl)) (pgs_cons (pg_name (i := 2) scLaw.nd rfl (.inl rfl)) pgs_nil))) (pss_one (ps_if (pt_not (pt_val (pe_call GO hr1 (by rfl) G.gO G.FO.kp G.bO .nil pass0 (pa_cons (pv 1) (pa_cons (pv 2) pa_nil))))) (pss_one (ps_ret pe_bl)) pss_nil)))
        (pss_cons (ps_par3 (i := 3) (j := 4) (l := 5) rfl scLaw.nd rfl rfl rfl (by decide) (by decide) (by decide) rfl rfl rfl (pa_cons (pe_mkX0 L.oT L.iT L.tT GT hr2 bT vT pass0 (by rfl) g0) (pa_cons (pe_mkX0 L.oR L.iR L.tR GR hr2 bR0 vR0 pass0 (by rfl) g1) (pa_cons (pe_mkX0 L.oN L.iN L.tN GN hr2 bN0 vN0 pass0 (by rfl) g3) pa_nil))) (by rfl))
        (pss_cons (ps_if (pt_cmpR (op_neD hr.units) (pe_lst (pa_cons (pe_xfl (pv 3)) (pa_cons (pe_xfl (pv 4)) (pa_cons (pe_xfl (pv 4)) (pa_cons (pe_xfl (pv 5)) (pa_cons (pe_xfl (pv 5)) pa_nil)))))) (pe_lst (pa_cons pe_int (pa_cons (pe_tup pa_nil) (pa_cons pe_str (pa_cons pe_non (pa_cons pe_non pa_nil)))))) (nomark _)) (pss_one (ps_ret pe_bl)) pss_nil)
        (pss_cons (ps_for PassesOwn.never rfl (pi_list (pe_lst (pa_cons pe_str (pa_cons pe_str pa_nil)))) (pg_name (i := 6) scLaw.nd rfl (.inl rfl)) (pss_cons (ps_set (i := 7) scLaw.nd rfl (.inl rfl) (pe_lst (pa_cons (e1 (i := 2) rfl g2 (by decide) (by rfl) (by decide) (pv 6) (by rfl)) (pa_cons (e1 (i := 4) rfl g4 (by decide) (by rfl) (by decide) (pv 6) (by rfl)) (pa_cons (e1 (i := 5) rfl g5 (by decide) (by rfl) (by decide) (pv 6) (by rfl)) (pa_cons (e1 (i := 6) rfl g6 (by decide) (by rfl) (by decide) (pv 6) (by rfl)) (pa_cons (e1 (i := 7) rfl g7 (by decide) (by rfl) (by decide) (pv 6) (by rfl)) (pa_cons (e1 (i := 8) rfl g8 (by decide) (by rfl) (by decide) (pv 6) (by rfl)) pa_nil))))))))
        (pss_cons (ps_expr (pe_bm PySem.F.plainAttrs_list PySem.F.slot_list_append PySem.F.type_list_append mt_append (pv 7) (pa_cons (e1 (i := 9) rfl g9 (by decide) (by rfl) (by decide) (pv 6) (by rfl)) pa_nil)))
        (pss_cons (ps_set (i := 8) scLaw.nd rfl (.inl rfl) (pe_lst (pa_cons pe_str (pa_cons pe_str (pa_cons pe_str (pa_cons pe_str (pa_cons pe_str (pa_cons pe_str (pa_cons pe_str pa_nil)))))))))
        (pss_one (ps_if (pt_cmpR (op_neD hr.units) (pe_lc (own := [("error", 1), ("name", 2)]) (g := gTup K 2 (gCons (gName 1) (gCons (gName 2) gNil))) (tt := tNot (tB (tCall (spOnly K cs) [] E0 (tCons (tVar 1) (tCons (tVar 2) tNil))))) (te := tVar 2) (by rfl) scLaw.nd (pi_zip (by rfl) T.gZ (pa_cons (pv 7) (pa_cons (pv 8) pa_nil))) (blkOk_by (own := [("error", 1), ("name", 2)]) (N := nLaw) (sc := defScope sLaw) (by decide +kernel)) (fun _ _ _ _ _ => (pg_tup (by rfl) (pgs_cons (pg_name (i := 1) scLaw.nd rfl (.inl rfl)) (pgs_cons (pg_name (i := 2) scLaw.nd rfl (.inl rfl)) pgs_nil)))) (fun _ _ _ _ _ => pts_one (pt_not (pt_val (pe_call GO hr1 (by rfl) G.gO G.FO.kp G.bO .nil pass0 (pa_cons (pv 1) (pa_cons (pv 2) pa_nil)))))) (fun _ _ _ _ _ => pv 2)) (pe_lst pa_nil) (nomark _)) (pss_one (ps_ret pe_bl)) pss_nil))))))
        (pss_cons (ps_for PassesOwn.never rfl (pi_range1 (by rfl) G.mR (pa_cons pe_int pa_nil)) (pg_name (i := 9) scLaw.nd rfl (.inl rfl)) (pss_cons (ps_set (i := 10) scLaw.nd rfl (.inr rfl) (pe_lst (pa_cons (pe_call GC hr2 (by rfl) G.gC G.FC.kp G.bC .nil pass0 (pa_cons (pv 0) (pa_cons (pv 9) pa_nil))) pa_nil)))
        (pss_cons (ps_set (i := 11) scLaw.nd rfl (.inl rfl) (pe_call GK hr1 (by rfl) G.gK G.FK.kp G.bK .nil pass0 (pa_cons (pv 10) (pa_cons pe_int pa_nil))))
        (pss_cons (ps_set (i := 12) scLaw.nd rfl (.inl rfl) (pe_callTy call_tuple_of (by rfl) G.mT (by decide +kernel) (pa_cons (pe_lc (own := [("turn", 16)]) (g := gName 16) (tt := tYes) (te := tCall spTake [] E0 (tCons (tVar 10) (tCons (tC (.int 9)) tNil))) (by rfl) scLaw.nd (pi_range1 (by rfl) G.mR (pa_cons (pe_call GK hr1 (by rfl) G.gK G.FK.kp G.bK .nil pass0 (pa_cons (pv 10) (pa_cons pe_int pa_nil))) pa_nil)) (blkOk_by (own := [("turn", 16)]) (N := nLaw) (sc := defScope sLaw) (by decide +kernel)) (fun _ _ _ _ _ => (pg_name (i := 16) scLaw.nd rfl (.inl rfl))) (fun _ _ _ _ _ => pts_nil) (fun _ _ _ _ _ => (pe_call GK hr1 (by rfl) G.gK G.FK.kp G.bK .nil pass0 (pa_cons (pv 10) (pa_cons pe_int pa_nil))))) pa_nil)))
        (pss_cons (ps_set (i := 13) scLaw.nd rfl (.inl rfl) (pe_ix ix_list (pe_lst (pa_cons pe_str (pa_cons pe_str (pa_cons pe_str (pa_cons pe_str pa_nil))))) (pe_call GK hr1 (by rfl) G.gK G.FK.kp G.bK .nil pass0 (pa_cons (pv 10) (pa_cons pe_int pa_nil))) (fun _ _ => rfl)))
        (pss_cons (ps_set (i := 14) scLaw.nd rfl (.inl rfl) (pe_ix ix_list (pe_lst (pa_cons pe_non (pa_cons pe_int (pa_cons (pv 11) pa_nil)))) (pe_call GK hr1 (by rfl) G.gK G.FK.kp G.bK .nil pass0 (pa_cons (pv 10) (pa_cons pe_int pa_nil))) (fun _ _ => rfl)))
        (pss_cons (ps_set (i := 15) scLaw.nd rfl (.inl rfl) (pe_ix ix_list (pe_lst (pa_cons pe_str (pa_cons pe_int (pa_cons pe_non pa_nil)))) (pe_call GK hr1 (by rfl) G.gK G.FK.kp G.bK .nil pass0 (pa_cons (pv 10) (pa_cons pe_int pa_nil))) (fun _ _ => rfl)))
        (pss_cons (ps_if (PW.pt (pw_or (pt_cmpR op_ne (pe_xfl (pe_mkX L.oT L.iT L.tT GT hr2 BT .nil pass0 (by rfl) g0 (pa_cons (pv 11) pa_nil))) (pv 11) (nomark _)) (pw_or1 (pt_cmpR op_ne (pe_xfl (pe_mkXK0 L.oT L.iT L.tT GT hr2 kT pass0 (by rfl) g0 (pk_cons (pv 11) pk_nil))) (pv 11) (nomark _))))) (pss_one (ps_ret pe_bl)) pss_nil)
        (pss_cons (ps_for PassesOwn.never rfl (pi_list (pe_lst (pa_cons (pe_mkX L.oR L.iR L.tR GR hr2 BR.b2 .nil pass0 (by rfl) g1 (pa_cons (pv 12) (pa_cons (pv 13) pa_nil))) (pa_cons (pe_mkXK0 L.oR L.iR L.tR GR hr2 kRyx pass0 (by rfl) g1 (pk_cons (pv 13) (pk_cons (pv 12) pk_nil))) (pa_cons (pe_mkXK (n := 1) L.oR L.iR L.tR GR hr2 kR1y pass0 (by rfl) g1 (pa_cons (pv 12) pa_nil) (pk_cons (pv 13) pk_nil)) pa_nil))))) (pg_name (i := 1) scLaw.nd rfl (.inl rfl)) (pss_one (ps_if (PW.pt (pw_or (pt_cmpR (op_neD hr.units) (pe_tup (pa_cons (pe_xfl (pv 1)) (pa_cons (pe_xfl (pv 1)) pa_nil))) (pe_tup (pa_cons (pv 12) (pa_cons (pv 13) pa_nil))) (nomark _)) (pw_or1 (pt_not (pt_val (pe_call GO hr1 (by rfl) G.gO G.FO.kp G.bO .nil pass0 (pa_cons (pv 1) (pa_cons pe_str pa_nil)))))))) (pss_one (ps_ret pe_bl)) pss_nil)))
        (pss_cons (ps_for PassesOwn.never rfl (pi_list (pe_lst (pa_cons (pe_mkX L.oN L.iN L.tN GN hr2 BN.b2 .nil pass0 (by rfl) g3 (pa_cons (pv 14) (pa_cons (pv 15) pa_nil))) (pa_cons (pe_mkXK0 L.oN L.iN L.tN GN hr2 kNyx pass0 (by rfl) g3 (pk_cons (pv 15) (pk_cons (pv 14) pk_nil))) pa_nil)))) (pg_name (i := 1) scLaw.nd rfl (.inl rfl)) (pss_one (ps_if (PW.pt (pw_or (pt_cmpR (op_neD hr.units) (pe_tup (pa_cons (pe_xfl (pv 1)) (pa_cons (pe_xfl (pv 1)) pa_nil))) (pe_tup (pa_cons (pv 14) (pa_cons (pv 15) pa_nil))) (nomark _)) (pw_or1 (pt_not (pt_val (pe_call GO hr1 (by rfl) G.gO G.FO.kp G.bO .nil pass0 (pa_cons (pv 1) (pa_cons pe_str pa_nil)))))))) (pss_one (ps_ret pe_bl)) pss_nil)))
        (pss_one (ps_if (PW.pt (pw_or (pt_cmpR op_ne (pe_xfl (pe_mkX L.oR L.iR L.tR GR hr2 bR1 vR1 pass0 (by rfl) g1 (pa_cons (pv 12) pa_nil))) pe_str (nomark _)) (pw_or (pt_cmpR op_notN (pe_xfl (pe_mkX L.oN L.iN L.tN GN hr2 bN1 vN1 pass0 (by rfl) g3 (pa_cons (pv 14) pa_nil))) pe_non (nomark _)) (pw_or1 (pt_cmpR (op_neD hr.units) (pe_xfl (pe_mkXK0 L.oR L.iR L.tR GR hr2 kR0y pass0 (by rfl) g1 (pk_cons (pv 13) pk_nil))) (pe_tup pa_nil) (nomark _)))))) (pss_one (ps_ret pe_bl)) pss_nil))))))))))))
        (pss_one (ps_ret pe_bl))))))), ?_⟩
    obtain ⟨a, ns, rfl, hS, q⟩ := h
    have eL : L2.start nLaw [.ref a] = [some (.ref a), none, none, none, none, none, none, none, none, none, none, none, none, none, none, none, none] := rfl
    rw [eL]
    -- for error, name in zip(_law_bare(), _law_names())
    walk_at "rd"
    refine ⟨rfl, fun H1 l as k1 hl hlen hx => ?_⟩
    walk_at "rd"
    refine ⟨rfl, fun H2 l2 k2 hl2 => ?_⟩
    walk_at "rd"
    refine ⟨l, l2, _, _, rfl, SqL.of (k2 _ _ hl), SqL.of hl2, ?_⟩
    refine for_it (walk_zip (xs := as.map V.ref) (ys := n10.map V.str) (n := 10) (by rw [List.length_map, hlen]; rfl))
      (fun i σ H' => Same H2 H' ∧ ∃ x y, σ = [some (.ref a), x, y, none, none, none, none, none, none, none, none, none, none, none, none, none, none]) ⟨Same.refl _, _, _, rfl⟩ (fun i σ H' _ ⟨s, _⟩ => ⟨SqL.of (s _ _ (k2 _ _ hl)), SqL.of (s _ _ hl2)⟩) ?_ ?_
    · rintro i x σ H' H3 hi ⟨sm, x0, y0, rfl⟩ ⟨U, y1, y2, rfl, hU, rfl, e1, e2⟩
      have z1 : y1 = .ref (as.getD i 0) := Option.some.inj (e1.symm.trans (refs_at (by omega)))
      have z2 : y2 = .str (n10.getD i "") := Option.some.inj (e2.symm.trans (n10_at i hi))
      subst z1 z2
      have kU := same_upd (o := .tup [.ref (as.getD i 0), .str (n10.getD i "")]) hU
      walk_at "rd"
      refine ⟨U, _, rfl, .inl (.inl upd_same), rfl, ?_⟩
      walk_at "rd"
      refine ⟨_, i, hi, rfl, (hx i hi).same ((k2.trans sm).trans kU), fun H4 k4 => ?_⟩
      walk_at "rd"
      refine iteF ?_
      walk_at "rd"
      exact ⟨(sm.trans kU).trans k4, _, _, rfl⟩
    · rintro σ H3 ⟨k3, x1, x2, rfl⟩
      have s3 : Same H H3 := (k1.trans k2).trans k3
      clear k1 k2 k3 hl hlen hx hl2
      -- text, tree, naming = ..
      walk_at "rd"
      refine mk_in (vs := []) (by decide) (by rfl) fun a0 Ha m0 => ?_
      walk_at "rd"
      refine mk_in (vs := []) (by decide) (by rfl) fun a1 Hb m1 => ?_
      walk_at "rd"
      refine mk_in (vs := []) (by decide) (by rfl) fun a3 Hc m3 => ?_
      walk_at "rd"
      refine ⟨_, _, _, rfl, ?_⟩
      have kab := m1.1.trans m3.1
      have sc : Same H Hc := (s3.trans m0.1).trans kab
      walk_at "rd"
      refine xf_in (v := .int 0) m0 kab (T.ek 0 (by decide)) L.nAt lk_here ?_
      walk_at "rd"
      refine xf_in (v := .ref e0) m1 m3.1 (T.ek 1 (by decide)) L.nPath ((lk_past (by decide +kernel)).trans lk_here) ?_
      walk_at "rd"
      refine xf_in (v := .str "") m1 m3.1 (T.ek 1 (by decide)) L.nWhy lk_here ?_
      walk_at "rd"
      refine xf_in (v := .non) m3 (Same.refl _) (T.ek 3 (by decide)) L.nOne ((lk_past (by decide +kernel)).trans lk_here) ?_
      walk_at "rd"
      refine xf_in (v := .non) m3 (Same.refl _) (T.ek 3 (by decide)) L.nOther lk_here ?_
      walk_at "rd"
      refine ⟨(by show 5 ≤ sizeLine; decide), fun p1 hp1 => ?_⟩
      have kp1 := same_upd (o := .lst [.int 0, .ref e0, .str "", .non, .non]) hp1
      have lp1 : upd Hc p1 (.lst [.int 0, .ref e0, .str "", .non, .non]) p1 = some (.lst [.int 0, .ref e0, .str "", .non, .non]) := upd_same
      walk_at "rd"
      refine ⟨(by show 0 ≤ sizeLine; decide), fun p2 hp2 => ?_⟩
      have kp2 := same_upd (o := .tup []) hp2
      walk_at "rd"
      refine ⟨(by show 5 ≤ sizeLine; decide), fun p3 hp3 => ?_⟩
      have kp3 := same_upd (o := .lst [.int 0, .ref p2, .str "", .non, .non]) hp3
      refine ⟨.list [.int 0, .tuple [], .str "", .none, .none], .list [.int 0, .tuple [], .str "", .none, .none],
        .lst (SqL.of (kp3 _ _ (kp2 _ _ lp1))) (.cons (.int 0) (.cons (.tup (L.e0 _) .nil) (.cons (.str _) (.cons .non (.cons .non .nil))))),
        .lst (SqL.of upd_same) (.cons (.int 0) (.cons (.tup (.inl (.inl (kp3 _ _ upd_same))) .nil) (.cons (.str _) (.cons .non (.cons .non .nil))))), by decide +kernel, by decide +kernel, ?_⟩
      rw [ne_self (by decide +kernel)]
      have s4 := ((sc.trans kp1).trans kp2).trans kp3
      generalize upd (upd (upd Hc p1 (.lst [.int 0, .ref e0, .str "", .non, .non])) p2 (.tup [])) p3 (.lst [.int 0, .ref p2, .str "", .non, .non]) = H4 at s4 ⊢
      clear kp1 kp2 kp3 lp1 hp1 hp2 hp3 kab sc m0 m1 m3 s3
      walk_at "rd"
      -- for word in ['', 'why not']
      refine ⟨(by show 2 ≤ sizeLine; decide), fun q1 hq1 => ?_⟩
      have kq1 := same_upd (o := .lst [.str "", .str "why not"]) hq1
      refine ⟨q1, rfl, ⟨_, SqL.of upd_same⟩, ?_⟩
      refine for_list (K := K) (a := q1) (xs := [.str "", .str "why not"]) (fun i σ H' => Same (upd H4 q1 (.lst [.str "", .str "why not"])) H' ∧ ∃ y1 y2 y6 y7 y8, σ = [some (.ref a), y1, y2, some (.ref a0), some (.ref a1), some (.ref a3), y6, y7, y8, none, none, none, none, none, none, none, none])
        ⟨Same.refl _, _, _, _, _, _, rfl⟩ (fun i σ H' _ ⟨s, _⟩ => SqL.of (s _ _ upd_same)) ?_ ?_
      · rintro i x σ H' hi ⟨sm, y1, y2, y6, y7, y8, rfl⟩
        walk_at "rd"
        intro c2 h2
        obtain ⟨k2, x2⟩ := ex0_made (C := cs 2) h2
        generalize upd H' c2 (ExO (.ref (cs 2)) c2) = J2 at k2 x2 ⊢
        walk_at "rd"
        intro c4 h4
        obtain ⟨k4, x4⟩ := ex0_made (C := cs 4) h4
        generalize upd J2 c4 (ExO (.ref (cs 4)) c4) = J4 at k4 x4 ⊢
        walk_at "rd"
        intro c5 h5
        obtain ⟨k5, x5⟩ := ex0_made (C := cs 5) h5
        generalize upd J4 c5 (ExO (.ref (cs 5)) c5) = J5 at k5 x5 ⊢
        walk_at "rd"
        intro c6 h6
        obtain ⟨k6, x6⟩ := ex0_made (C := cs 6) h6
        generalize upd J5 c6 (ExO (.ref (cs 6)) c6) = J6 at k6 x6 ⊢
        walk_at "rd"
        intro c7 h7
        obtain ⟨k7, x7⟩ := ex0_made (C := cs 7) h7
        generalize upd J6 c7 (ExO (.ref (cs 7)) c7) = J7 at k7 x7 ⊢
        walk_at "rd"
        intro c8 h8
        obtain ⟨k8, x8⟩ := ex0_made (C := cs 8) h8
        generalize upd J7 c8 (ExO (.ref (cs 8)) c8) = J8 at k8 x8 ⊢
        walk_at "rd"
        refine ⟨(by show 6 ≤ sizeLine; decide), fun m1 hm1 => ?_⟩
        walk_at "rd"
        refine rv_app rfl upd_same ?_
        walk_at "rd"
        intro c9 h9
        obtain ⟨k9, x9⟩ := ex0_made (C := cs 9) h9
        walk_at "rd"
        refine ⟨_, _, rfl, (k9 _ _ upd_same), (by show 6 < sizeLine; decide), ?_⟩
        have n91 : c9 ≠ m1 := fun z => by
          rw [z, upd_same] at h9
          cases h9
        -- the list at m1 grows: what stood ahead of it stands
        have kall : Same J8 (upd (upd (upd J8 m1 (.lst [.ref c2, .ref c4, .ref c5, .ref c6, .ref c7, .ref c8])) c9 (ExO (.ref (cs 9)) c9)) m1 (.lst ([.ref c2, .ref c4, .ref c5, .ref c6, .ref c7, .ref c8] ++ [.ref c9]))) := fun b o z => by
          rw [upd_ne (ne_of_none z hm1)]
          exact k9 _ _ (by rw [upd_ne (ne_of_none z hm1)]; exact z)
        have x9' : ExIn (upd (upd (upd J8 m1 (.lst [.ref c2, .ref c4, .ref c5, .ref c6, .ref c7, .ref c8])) c9 (ExO (.ref (cs 9)) c9)) m1 (.lst ([.ref c2, .ref c4, .ref c5, .ref c6, .ref c7, .ref c8] ++ [.ref c9]))) c9 (cs 9) :=
          .inl (exAt_ExO (by rw [upd_ne n91, upd_same]))
        have lm : upd (upd (upd J8 m1 (.lst [.ref c2, .ref c4, .ref c5, .ref c6, .ref c7, .ref c8])) c9 (ExO (.ref (cs 9)) c9)) m1 (.lst ([.ref c2, .ref c4, .ref c5, .ref c6, .ref c7, .ref c8] ++ [.ref c9])) m1 = some (.lst ([c2, c4, c5, c6, c7, c8, c9].map V.ref)) := upd_same
        generalize upd (upd (upd J8 m1 (.lst [.ref c2, .ref c4, .ref c5, .ref c6, .ref c7, .ref c8])) c9 (ExO (.ref (cs 9)) c9)) m1 (.lst ([.ref c2, .ref c4, .ref c5, .ref c6, .ref c7, .ref c8] ++ [.ref c9])) = J9 at kall x9' lm ⊢
        walk_at "rd"
        refine ⟨(by show 7 ≤ sizeLine; decide), fun n1 hn1 => ?_⟩
        have kn1 := same_upd (o := .lst ([2, 4, 5, 6, 7, 8, 9].map fun j => V.str (n10.getD j ""))) hn1
        have ln1 : upd J9 n1 (.lst ([2, 4, 5, 6, 7, 8, 9].map fun j => V.str (n10.getD j ""))) n1 = some (.lst ([2, 4, 5, 6, 7, 8, 9].map fun j => V.str (n10.getD j ""))) := upd_same
        show gName 8 _ _ (upd J9 n1 (.lst ([2, 4, 5, 6, 7, 8, 9].map fun j => V.str (n10.getD j "")))) _
        generalize upd J9 n1 (.lst ([2, 4, 5, 6, 7, 8, 9].map fun j => V.str (n10.getD j ""))) = K1 at kn1 ln1 ⊢
        have z8 := kall.trans kn1
        have z7 := k8.trans z8
        have z6 := k7.trans z7
        have z5 := k6.trans z6
        have z4 := k5.trans z5
        have z2 := k4.trans z4
        have z0 := k2.trans z2
        have lm1 := kn1 _ _ lm
        have ex : ∀ t, t < 7 → ExIn K1 ([c2, c4, c5, c6, c7, c8, c9].getD t 0) (cs ([2, 4, 5, 6, 7, 8, 9].getD t 0)) := fun t ht => by
          match t, ht with
          | 0, _ => exact x2.same z2
          | 1, _ => exact x4.same z4
          | 2, _ => exact x5.same z5
          | 3, _ => exact x6.same z6
          | 4, _ => exact x7.same z7
          | 5, _ => exact x8.same z8
          | 6, _ => exact x9'.same kn1
        walk_at "rd"
        refine ⟨m1, n1, _, _, rfl, SqL.of lm1, SqL.of ln1, fun D hD => ?_⟩
        refine lc_it (walk_zip (xs := [c2, c4, c5, c6, c7, c8, c9].map V.ref) (ys := [2, 4, 5, 6, 7, 8, 9].map fun j => V.str (n10.getD j "")) (n := 7) rfl)
          (fun t H' => Same K1 H' ∧ H' D = some (.lst [])) ⟨same_upd hD, upd_same⟩ (fun t H' _ ⟨s, _⟩ => ⟨SqL.of (s _ _ lm1), SqL.of (s _ _ ln1)⟩) ?_ ?_
        · rintro t x H5 H6 ht ⟨s5, hd⟩ ⟨U, w1, w2, rfl, hU, rfl, e1, e2⟩
          have u1 : w1 = .ref ([c2, c4, c5, c6, c7, c8, c9].getD t 0) := Option.some.inj (e1.symm.trans (refs_at ht))
          have u2 : w2 = .str (n10.getD ([2, 4, 5, 6, 7, 8, 9].getD t 0) "") := by
            have : ∀ t, t < 7 → ([2, 4, 5, 6, 7, 8, 9].map fun j => V.str (n10.getD j ""))[t]? = some (.str (n10.getD ([2, 4, 5, 6, 7, 8, 9].getD t 0) "")) := by decide +kernel
            exact Option.some.inj (e2.symm.trans (this t ht))
          subst u1 u2
          have kU := same_upd (o := .tup [.ref ([c2, c4, c5, c6, c7, c8, c9].getD t 0), .str (n10.getD ([2, 4, 5, 6, 7, 8, 9].getD t 0) "")]) hU
          walk_at "rd"
          refine ⟨U, _, rfl, .inl (.inl upd_same), rfl, ?_⟩
          walk_at "rd"
          refine ⟨rfl, ?_⟩
          walk_at "rd"
          have i7 : ∀ t, t < 7 → [2, 4, 5, 6, 7, 8, 9].getD t 0 < 10 := by decide
          refine ⟨_, [2, 4, 5, 6, 7, 8, 9].getD t 0, i7 t ht, rfl, (ex t ht).same (s5.trans kU), fun H7 k7' => ?_⟩
          walk_at "rd"
          refine iteF ⟨(s5.trans kU).trans k7', k7' _ _ (kU _ _ hd)⟩
        · rintro H5 ⟨s5, hd⟩
          walk_at "rd"
          refine ⟨(by show 0 ≤ sizeLine; decide), fun p5 hp5 => ?_⟩
          have kp5 := same_upd (o := .lst []) hp5
          refine ⟨.list [], .list [], .lst (SqL.of (kp5 _ _ hd)) .nil, .lst (SqL.of upd_same) .nil, by decide +kernel, by decide +kernel, ?_⟩
          rw [ne_self (by decide +kernel)]
          walk_at "rd"
          exact ⟨((sm.trans z0).trans s5).trans kp5, _, _, _, _, _, rfl⟩
      · rintro σ H5 ⟨k5, y1, y2, y6, y7, y8, rfl⟩
        have s5 := (s4.trans kq1).trans k5
        clear k5 s4 kq1 hq1
        walk_at "rd"
        -- for k in range(3)
        refine ⟨3, rfl, by decide, by decide, for_range (lo := 0) (n := 3) (fun i σ H' => Same H H' ∧ ∃ y1 y2 y3 y4 y5 y6 y7 y8 y9 u1 u2 u3 u4 u5 u6 u7, σ = [some (.ref a), y1, y2, y3, y4, y5, y6, y7, y8, y9, u1, u2, u3, u4, u5, u6, u7])
          ⟨s5, _, _, _, _, _, _, _, _, _, _, _, _, _, _, _, _, rfl⟩ ?_ ?_⟩
        · clear s5
          rintro i σ Ha hi ⟨sa, z1, z2, z3, z4, z5, z6, z7, z8, z9, u1, u2, u3, u4, u5, u6, u7, rfl⟩
          have hi' : (i : Int) < 3 := by exact_mod_cast hi
          walk_at "rd"
          refine ⟨a, ns, _, rfl, sa.seq hS, by omega, by omega, fun n => ?_⟩
          walk_at "rd"
          refine ⟨(by show 1 ≤ sizeLine; decide), fun p hp => ?_⟩
          have sb := sa.trans (same_upd (o := .lst [.int n]) hp)
          have lp : upd Ha p (.lst [.int n]) p = some (.lst [.int n]) := upd_same
          have np : ∀ b o, H b = some o → b ≠ p := fun b o z e => by
            have := sa _ _ z
            rw [e, hp] at this
            cases this
          generalize upd Ha p (.lst [.int n]) = Hb at sb lp ⊢
          clear hp sa
          walk_at "rd"
          -- where
          refine tk_in lp (by decide) (by decide) fun d0 n0 Hc _ _ lc kc => ?_
          have sc : Same H Hc := fun b o z => kc b o (np b o z) (sb b o z)
          clear kc lp sb
          walk_at "rd"
          -- spot
          refine tk_in lc (by decide) (by decide) fun d1 n1 Hd h0 h1 ld kd => ?_
          have sd : Same H Hd := fun b o z => kd b o (np b o z) (sc b o z)
          clear kd lc sc
          walk_at "rd"
          refine ⟨d1, rfl, by omega, by omega, fun D hD => ?_⟩
          have nD : D ≠ p := fun z => by
            rw [z, ld] at hD
            cases hD
          refine lc_range (lo := 0) (n := d1.toNat) (fun t H' => Same H H' ∧ (∃ m, H' p = some (.lst [.int m])) ∧ ∃ ds : List Int, ds.length = t ∧ H' D = some (.lst (ds.map V.int))) ⟨sd.trans (same_upd hD), ⟨n1, (upd_ne (Ne.symm nD)).trans ld⟩, [], rfl, upd_same⟩ ?_ ?_
          · rintro t H' ht ⟨st, ⟨m, lm⟩, ds, hl, ls⟩
            walk_at "rd"
            refine ⟨rfl, ?_⟩
            walk_at "rd"
            refine tk_in lm (by decide) (by decide) fun d2 n2 H2 _ _ l2 k2 => ?_
            have ls2 := k2 _ _ nD ls
            refine ⟨_, ls2, (by rw [List.length_map]; exact small1000 (by omega)), ?_, ⟨n2, (upd_ne (Ne.symm nD)).trans l2⟩, ds ++ [d2], ?_, ?_⟩
            · intro b o z
              have nb : b ≠ D := fun e => by
                have := sd b o z
                rw [e, hD] at this
                cases this
              rw [upd_ne nb]
              exact k2 b o (np b o z) (st b o z)
            · rw [List.length_append, hl]
              rfl
            · rw [upd_same, List.map_append]
              rfl
          · rintro H' ⟨st, ⟨m, lm⟩, ds, hl, ls⟩
            clear sd ld hD
            walk_at "rd"
            refine ⟨D, ds.map V.int, rfl, .inl ⟨SqL.of ls, fun sp hsp => ?_⟩⟩
            have se := st.trans (same_upd (o := .tup (ds.map V.int)) hsp)
            have le : upd H' sp (.tup (ds.map V.int)) p = some (.lst [.int m]) := by
              rw [upd_ne (fun e => by rw [← e, lm] at hsp; cases hsp)]
              exact lm
            have lsp : upd H' sp (.tup (ds.map V.int)) sp = some (.tup (ds.map V.int)) := upd_same
            have nsp : sp ≠ p := fun e => by rw [e, lm] at hsp; cases hsp
            generalize upd H' sp (.tup (ds.map V.int)) = He at se le lsp ⊢
            clear hsp st lm ls
            walk_at "rd"
            -- what
            refine ⟨(by show 4 ≤ sizeLine; decide), fun l1 hl1 => ?_⟩
            have k1 := same_upd (o := .lst [.str "kind", .str "twice", .str "great", .str ""]) hl1
            have b1 : upd He l1 (.lst [.str "kind", .str "twice", .str "great", .str ""]) l1 = some (.lst [.str "kind", .str "twice", .str "great", .str ""]) := upd_same
            have nl1 : l1 ≠ p := fun e => by rw [e, le] at hl1; cases hl1
            generalize upd He l1 (.lst [.str "kind", .str "twice", .str "great", .str ""]) = Hf at k1 b1 ⊢
            walk_at "rd"
            refine tk_in (k1 _ _ le) (by decide) (by decide) fun d3 n3 Hg h30 h31 lg kg => ?_
            obtain ⟨wy, aw, mw⟩ := drawn_at (l := [.str "kind", .str "twice", .str "great", .str ""]) h30 (by exact h31)
            obtain ⟨wt, rfl, wok⟩ : ∃ s, wy = .str s ∧ PyData.strOk s = true := by
              simp only [List.mem_cons, List.mem_nil_iff, or_false] at mw
              rcases mw with rfl | rfl | rfl | rfl <;> exact ⟨_, rfl, by decide +kernel⟩
            refine ⟨l1, _, _, _, rfl, rfl, SqL.of (kg _ _ nl1 b1), aw, ?_⟩
            have sg : Same H Hg := fun b o z => kg b o (np b o z) (k1 _ _ (se b o z))
            have lsg := kg _ _ nsp (k1 _ _ lsp)
            clear b1 nl1 kg k1 se lsp le hl1 aw mw
            walk_at "rd"
            -- first
            refine ⟨(by show 3 ≤ sizeLine; decide), fun l1 hl1 => ?_⟩
            have k1 := same_upd (o := .lst [.non, .int 3, .int d0]) hl1
            have b1 : upd Hg l1 (.lst [.non, .int 3, .int d0]) l1 = some (.lst [.non, .int 3, .int d0]) := upd_same
            have nl1 : l1 ≠ p := fun e => by rw [e, lg] at hl1; cases hl1
            generalize upd Hg l1 (.lst [.non, .int 3, .int d0]) = Hh at k1 b1 ⊢
            walk_at "rd"
            refine tk_in (k1 _ _ lg) (by decide) (by decide) fun d4 n4 Hi h40 h41 li ki => ?_
            obtain ⟨fy, af, mf⟩ := drawn_at (l := [.non, .int 3, .int d0]) h40 (by exact h41)
            obtain ⟨ff, scf⟩ : ∃ f, Sc fy f := by
              simp only [List.mem_cons, List.mem_nil_iff, or_false] at mf
              rcases mf with rfl | rfl | rfl
              · exact ⟨.none, .inl ⟨rfl, rfl⟩⟩
              · exact ⟨.int 3, .inr (.inl ⟨3, rfl, rfl⟩)⟩
              · exact ⟨.int d0, .inr (.inl ⟨d0, rfl, rfl⟩)⟩
            refine ⟨l1, _, _, _, rfl, rfl, SqL.of (ki _ _ nl1 b1), af, ?_⟩
            have si : Same H Hi := fun b o z => ki b o (np b o z) (k1 _ _ (sg b o z))
            have lsi := ki _ _ nsp (k1 _ _ lsg)
            clear b1 nl1 ki k1 sg lsg lg hl1 af mf
            walk_at "rd"
            -- second
            refine ⟨(by show 3 ≤ sizeLine; decide), fun l1 hl1 => ?_⟩
            have k1 := same_upd (o := .lst [.str "a", .int 7, .non]) hl1
            have b1 : upd Hi l1 (.lst [.str "a", .int 7, .non]) l1 = some (.lst [.str "a", .int 7, .non]) := upd_same
            have nl1 : l1 ≠ p := fun e => by rw [e, li] at hl1; cases hl1
            generalize upd Hi l1 (.lst [.str "a", .int 7, .non]) = Hj at k1 b1 ⊢
            walk_at "rd"
            refine tk_in (k1 _ _ li) (by decide) (by decide) fun d5 n5 Hk h50 h51 lk kk => ?_
            obtain ⟨gy, ag, mg'⟩ := drawn_at (l := [.str "a", .int 7, .non]) h50 (by exact h51)
            obtain ⟨gf, scg⟩ : ∃ f, Sc gy f := by
              simp only [List.mem_cons, List.mem_nil_iff, or_false] at mg'
              rcases mg' with rfl | rfl | rfl
              · exact ⟨.str "a", .inr (.inr ⟨_, rfl, rfl, by decide +kernel⟩)⟩
              · exact ⟨.int 7, .inr (.inl ⟨7, rfl, rfl⟩)⟩
              · exact ⟨.none, .inl ⟨rfl, rfl⟩⟩
            refine ⟨l1, _, _, _, rfl, rfl, SqL.of (kk _ _ nl1 b1), ag, ?_⟩
            have sk : Same H Hk := fun b o z => kk b o (np b o z) (k1 _ _ (si b o z))
            have lsk := kk _ _ nsp (k1 _ _ lsi)
            clear b1 nl1 kk k1 si lsi li lk hl1 ag mg' np nsp
            walk_at "rd"
            -- if NoText(where).at != where or NoText(at=where).at != where
            refine mk_in (vs := [.int d0]) (by show 1 ≤ 1000; decide) (by rfl) fun a5 J1 m5 => ?_
            refine xf_in (v := .int d0) m5 (Same.refl _) (T.ek 0 (by decide)) L.nAt lk_here ?_
            walk_at "rd"
            rw [ne_v]
            walk_at "rd"
            refine ⟨rfl, rfl, by decide, fun a6 h6 => mk_core (ws := [.int d0]) rfl rfl h6 fun J2 m6 => ?_⟩
            refine xf_in (v := .int d0) m6 (Same.refl _) (T.ek 0 (by decide)) L.nAt lk_here ?_
            walk_at "rd"
            rw [ne_v]
            have sJ := (sk.trans m5.1).trans m6.1
            have lsJ := m6.1 _ _ (m5.1 _ _ lsk)
            clear m5 m6 h6 sk lsk
            walk_at "rd"
            -- for error in [NoTree(spot, what), ..]
            refine mk_in (vs := [.ref sp, .str wt]) (by show 2 ≤ 1000; decide) (by rfl) fun r1 J3 m3 => ?_
            walk_at "rd"
            refine ⟨rfl, rfl, by decide, fun r2 h2 => mk_core (ws := [.ref sp, .str wt]) rfl rfl h2 fun J4 m4 => ?_⟩
            walk_at "rd"
            refine ⟨rfl, rfl, by decide, fun r3 h3 => mk_core (ws := [.ref sp, .str wt]) rfl rfl h3 fun J5 m5 => ?_⟩
            walk_at "rd"
            refine ⟨(by show 3 ≤ sizeLine; decide), fun q1 hq1 => ?_⟩
            have kq1 := same_upd (o := .lst [.ref r1, .ref r2, .ref r3]) hq1
            have lq1 : upd J5 q1 (.lst [.ref r1, .ref r2, .ref r3]) q1 = some (.lst [.ref r1, .ref r2, .ref r3]) := upd_same
            generalize upd J5 q1 (.lst [.ref r1, .ref r2, .ref r3]) = J6 at kq1 lq1 ⊢
            have k5 := m5.1.trans kq1
            have k4 := m4.1.trans k5
            have s6 := (sJ.trans m3.1).trans k4
            have ls6 := k4 _ _ (m3.1 _ _ lsJ)
            have hE : ∀ (t : Nat) (x : V), ([.ref r1, .ref r2, .ref r3] : List V)[t]? = some x → ∃ e dx, x = .ref e ∧ ExAt J6 e (cs 1) (some dx) ∧ DcAt J6 dx [("why", .str wt), ("path", .ref sp)] := fun t x z => by
              obtain ⟨_, _, x1, e1, f1⟩ := m3
              obtain ⟨_, _, x2, e2, f2⟩ := m4
              obtain ⟨_, _, x3, e3, f3⟩ := m5
              match t, z with
              | 0, z => exact ⟨r1, x1, (Option.some.inj z).symm, e1.same k4, f1.same k4⟩
              | 1, z => exact ⟨r2, x2, (Option.some.inj z).symm, e2.same k5, f2.same k5⟩
              | 2, z => exact ⟨r3, x3, (Option.some.inj z).symm, e3.same kq1, f3.same kq1⟩
            clear m3 m4 m5 h2 h3 k4 k5 kq1 hq1 sJ lsJ
            refine ⟨q1, rfl, ⟨_, SqL.of lq1⟩, ?_⟩
            refine for_list (K := K) (a := q1) (xs := [.ref r1, .ref r2, .ref r3]) (fun t σ H' => Same J6 H' ∧ ∃ y, σ = [some (.ref a), y, z2, z3, z4, z5, z6, z7, z8, some (.int (0 + i)), some (.ref p), some (.int d0), some (.ref sp), some (.str wt), some fy, some gy, u7]) ⟨Same.refl _, _, rfl⟩ (fun t σ H' _ ⟨s, _⟩ => SqL.of (s _ _ lq1)) ?_ ?_
            · rintro t x σ H' ht ⟨sm, y, rfl⟩
              obtain ⟨e, dx, rfl, ee, ed⟩ := hE t x ht
              walk_at "rd"
              refine xg_in (v := .ref sp) (ee.same sm) (ed.same sm) (T.ek 1 (by decide)) L.nPath ((lk_past (by decide +kernel)).trans lk_here) ?_
              walk_at "rd"
              refine xg_in (v := .str wt) (ee.same sm) (ed.same sm) (T.ek 1 (by decide)) L.nWhy lk_here ?_
              walk_at "rd"
              refine ⟨(by show 2 ≤ sizeLine; decide), fun t1 ht1 => ?_⟩
              have kt1 := same_upd (o := .tup [.ref sp, .str wt]) ht1
              have lt1 : upd H' t1 (.tup [.ref sp, .str wt]) t1 = some (.tup [.ref sp, .str wt]) := upd_same
              generalize upd H' t1 (.tup [.ref sp, .str wt]) = H7 at kt1 lt1 ⊢
              walk_at "rd"
              refine ⟨(by show 2 ≤ sizeLine; decide), fun t2 ht2 => ?_⟩
              have kt2 := same_upd (o := .tup [.ref sp, .str wt]) ht2
              have lt2 : upd H7 t2 (.tup [.ref sp, .str wt]) t2 = some (.tup [.ref sp, .str wt]) := upd_same
              generalize upd H7 t2 (.tup [.ref sp, .str wt]) = H8 at kt2 lt2 ⊢
              have s8 := (sm.trans kt1).trans kt2
              have hsp : DpAll K H8 [.ref sp, .str wt] [.tuple (ds.map PyData.int), .str wt] := .cons (.tup (.inl (.inl (s8 _ _ ls6))) (ints_dp ds)) (.cons (.str _) .nil)
              have hsh := spot_shaped (ds := ds) (f2 := .str wt) ⟨wok, rfl⟩
              refine ⟨_, _, .tup (.inl (.inl (kt2 _ _ lt1))) hsp, .tup (.inl (.inl lt2)) hsp, hsh, hsh, ?_⟩
              rw [ne_self hsh]
              walk_at "rd"
              refine ⟨_, 1, by decide, rfl, .inr ⟨dx, _, ee.same s8, ed.same s8⟩, fun H9 k9 => ?_⟩
              walk_at "rd"
              refine iteF ?_
              walk_at "rd"
              exact ⟨s8.trans k9, _, rfl⟩
            · rintro σ H' ⟨sm, y, rfl⟩
              have s7 := s6.trans sm
              have ls7 := sm _ _ ls6
              clear sm s6 ls6 hE lq1
              walk_at "rd"
              -- for error in [NoNaming(first, second), ..]
              refine mk_in (vs := [fy, gy]) (by show 2 ≤ 1000; decide) (by rfl) fun r1 J3 m3 => ?_
              walk_at "rd"
              refine ⟨rfl, rfl, by decide, fun r2 h2 => mk_core (ws := [fy, gy]) rfl rfl h2 fun J5 m5 => ?_⟩
              walk_at "rd"
              refine ⟨(by show 2 ≤ sizeLine; decide), fun q1 hq1 => ?_⟩
              have kq1 := same_upd (o := .lst [.ref r1, .ref r2]) hq1
              have lq1 : upd J5 q1 (.lst [.ref r1, .ref r2]) q1 = some (.lst [.ref r1, .ref r2]) := upd_same
              generalize upd J5 q1 (.lst [.ref r1, .ref r2]) = J6 at kq1 lq1 ⊢
              have k5 := m5.1.trans kq1
              have s6 := (s7.trans m3.1).trans k5
              have ls6 := k5 _ _ (m3.1 _ _ ls7)
              have hE : ∀ (t : Nat) (x : V), ([.ref r1, .ref r2] : List V)[t]? = some x → ∃ e dx, x = .ref e ∧ ExAt J6 e (cs 3) (some dx) ∧ DcAt J6 dx [("other", gy), ("one", fy)] := fun t x z => by
                obtain ⟨_, _, x1, e1, f1⟩ := m3
                obtain ⟨_, _, x3, e3, f3⟩ := m5
                match t, z with
                | 0, z => exact ⟨r1, x1, (Option.some.inj z).symm, e1.same k5, f1.same k5⟩
                | 1, z => exact ⟨r2, x3, (Option.some.inj z).symm, e3.same kq1, f3.same kq1⟩
              clear m3 m5 h2 k5 kq1 hq1 s7 ls7
              refine ⟨q1, rfl, ⟨_, SqL.of lq1⟩, ?_⟩
              refine for_list (K := K) (a := q1) (xs := [.ref r1, .ref r2]) (fun t σ H' => Same J6 H' ∧ ∃ y, σ = [some (.ref a), y, z2, z3, z4, z5, z6, z7, z8, some (.int (0 + i)), some (.ref p), some (.int d0), some (.ref sp), some (.str wt), some fy, some gy, u7]) ⟨Same.refl _, _, rfl⟩ (fun t σ H' _ ⟨s, _⟩ => SqL.of (s _ _ lq1)) ?_ ?_
              · rintro t x σ H' ht ⟨sm, y, rfl⟩
                obtain ⟨e, dx, rfl, ee, ed⟩ := hE t x ht
                walk_at "rd"
                refine xg_in (v := fy) (ee.same sm) (ed.same sm) (T.ek 3 (by decide)) L.nOne ((lk_past (by decide +kernel)).trans lk_here) ?_
                walk_at "rd"
                refine xg_in (v := gy) (ee.same sm) (ed.same sm) (T.ek 3 (by decide)) L.nOther lk_here ?_
                walk_at "rd"
                refine ⟨(by show 2 ≤ sizeLine; decide), fun t1 ht1 => ?_⟩
                have kt1 := same_upd (o := .tup [fy, gy]) ht1
                have lt1 : upd H' t1 (.tup [fy, gy]) t1 = some (.tup [fy, gy]) := upd_same
                generalize upd H' t1 (.tup [fy, gy]) = H7 at kt1 lt1 ⊢
                walk_at "rd"
                refine ⟨(by show 2 ≤ sizeLine; decide), fun t2 ht2 => ?_⟩
                have kt2 := same_upd (o := .tup [fy, gy]) ht2
                have lt2 : upd H7 t2 (.tup [fy, gy]) t2 = some (.tup [fy, gy]) := upd_same
                generalize upd H7 t2 (.tup [fy, gy]) = H8 at kt2 lt2 ⊢
                have s8 := (sm.trans kt1).trans kt2
                have hsp : DpAll K H8 [fy, gy] [ff, gf] := .cons (scf.dp _) (.cons (scg.dp _) .nil)
                have hsh := sc2_shaped scf.lay scg.lay
                refine ⟨_, _, .tup (.inl (.inl (kt2 _ _ lt1))) hsp, .tup (.inl (.inl lt2)) hsp, hsh, hsh, ?_⟩
                rw [ne_self hsh]
                walk_at "rd"
                refine ⟨_, 3, by decide, rfl, .inr ⟨dx, _, ee.same s8, ed.same s8⟩, fun H9 k9 => ?_⟩
                walk_at "rd"
                refine iteF ?_
                walk_at "rd"
                exact ⟨s8.trans k9, _, rfl⟩
              · rintro σ H' ⟨sm, y, rfl⟩
                have s7 := s6.trans sm
                clear sm s6 ls6 hE lq1
                walk_at "rd"
                -- the last three
                refine mk_in (vs := [.ref sp]) (by show 1 ≤ 1000; decide) (by rfl) fun r1 J3 m3 => ?_
                refine xf_in (v := .str "") m3 (Same.refl _) (T.ek 1 (by decide)) L.nWhy lk_here ?_
                walk_at "rd"
                rw [ne_v]
                walk_at "rd"
                refine mk_in (vs := [fy]) (by show 1 ≤ 1000; decide) (by rfl) fun r2 J4 m4 => ?_
                refine xf_in (v := .non) m4 (Same.refl _) (T.ek 3 (by decide)) L.nOther lk_here ?_
                walk_at "rd"
                refine ⟨rfl, ?_⟩
                rw [ne_v]
                walk_at "rd"
                refine ⟨rfl, rfl, by decide, fun r3 h3 => mk_core (ws := [.ref e0, .str wt]) rfl rfl h3 fun J5 m5 => ?_⟩
                refine xf_in (v := .ref e0) m5 (Same.refl _) (T.ek 1 (by decide)) L.nPath ((lk_past (by decide +kernel)).trans lk_here) ?_
                walk_at "rd"
                refine ⟨(by show 0 ≤ sizeLine; decide), fun t2 ht2 => ?_⟩
                refine ⟨.tuple [], .tuple [], .tup (L.e0 _) .nil, .tup (.inl (.inl upd_same)) .nil, by decide +kernel, by decide +kernel, ?_⟩
                rw [ne_self (by decide +kernel)]
                walk_at "rd"
                exact ⟨(((s7.trans m3.1).trans m4.1).trans m5.1).trans (same_upd ht2), _, _, _, _, _, _, _, _, _, _, _, _, _, _, _, _, rfl⟩
        · rintro σ H' ⟨_, z1, z2, z3, z4, z5, z6, z7, z8, z9, u1, u2, u3, u4, u5, u6, u7, rfl⟩
          walk_at "rd"
          exact q _
end
end My

namespace My
open PySem PySem.Spec PyProof.Rows L2 XR
theorem kit_ref {K : PySem.W.Frag} {t : Value} {C : Addr} {b : Bool} (h1 : PySem.W.isClsIn K C = true) (h2 : PySem.W.typeIn K (.ref C) = some (.type "type")) (h3 : PySem.W.subIn K t (.ref C) = some b) (hb : (t == .ref C) = true → b = true) : PySem.W.kitOne K t (.ref C) = some b := by
  unfold PySem.W.kitOne
  by_cases e : (t == .ref C) = true
  · rw [if_pos e, hb e]
  · rw [if_neg e]
    show (if ((PySem.W.clsIn K C).isSome && PySem.W.typeIn K (.ref C) == some (.type "type")) = true then PySem.W.subIn K t (.ref C) else none) = some b
    have h1' : (PySem.W.clsIn K C).isSome = true := h1
    rw [if_pos (by rw [h1', h2] <;> rfl)]
    exact h3
theorem kit_self {K : PySem.W.Frag} {t : Value} : PySem.W.kitOne K t t = some true := by
  unfold PySem.W.kitOne
  rw [if_pos (beq_self_eq_true t)]
theorem kit_bi {K : PySem.W.Frag} {C : Addr} {T : String} {b : Bool} (hm : PySem.W.kitMeta T = true) (h3 : PySem.W.subIn K (.ref C) (.type T) = some b) : PySem.W.kitOne K (.ref C) (.type T) = some b := by
  unfold PySem.W.kitOne
  rw [if_neg (by intro z; have := beq_iff_eq.mp z; cases this)]
  show (if PySem.W.kitMeta T = true then PySem.W.subIn K (.ref C) (.type T) else none) = some b
  rw [if_pos hm]
  exact h3
theorem ne_ref {a b : Addr} (h : a ≠ b) {x : Bool} : ((Value.ref a == Value.ref b) = true → x = true) := fun z => absurd (Value.ref.inj (beq_iff_eq.mp z)) h
/-- of unlike classes neither is below the other: so they stand apart -/
theorem sub_ne {K : PySem.W.Frag} {a b : Addr} (h : PySem.W.subIn K (.ref a) (.ref b) = some false) (g : PySem.W.subIn K (.ref a) (.type "BaseException") = some true) (s : PySem.W.selfFirst K a = true) : a ≠ b := by
  intro e
  subst e
  unfold PySem.W.selfFirst at s
  replace h : PySem.W.mroIn K a (.ref a) = some false := h
  unfold PySem.W.mroIn at h
  cases hc : PySem.W.clsIn K a with
  | none => rw [hc] at s; cases s
  | some cd =>
    rw [hc] at s h
    simp only [Option.any_some, Option.bind_some, beq_iff_eq] at s h
    cases hm : cd.mro with
    | nil => rw [hm] at s; cases s
    | cons x r =>
      rw [hm] at s h
      have s' : some x = some (Value.ref a) := s
      cases s'
      simp at h

theorem all_mk {P : Program} {w : World} {K : PySem.W.Frag} {h : Heap} {mg : Str → Option Value} {fa c0 c1 c2 c3 c4 c5 c6 c7 c8 c9 cL e0 : Addr} {tk0 tk1 : Tok} {oE : Option Addr} {nE : Nat} {slE : Array (Option Value)}
    {nmT qT : Str} {NT : Addr} {bsT : List Value} {snT : List Str} {subT : List Value} {abT : Bool} {colT : Option Bool} {ddT : Option Addr} {m0T m1T m2T m3T m5T : Option Value} {ocT kVT docT pmT cdvT ctT oTT : Value} {odT anT oDT : Option Addr} {oslT slT : Array (Option Value)} {nT : Nat} {fT dT : Addr}
    {nmR qR : Str} {NR : Addr} {bsR : List Value} {snR : List Str} {subR : List Value} {abR : Bool} {colR : Option Bool} {ddR : Option Addr} {m0R m1R m2R m3R m5R : Option Value} {ocR kVR docR pmR cdvR ctR oTR : Value} {odR anR oDR : Option Addr} {oslR slR : Array (Option Value)} {nR : Nat} {fR dR : Addr}
    {nmN qN : Str} {NN : Addr} {bsN : List Value} {snN : List Str} {subN : List Value} {abN : Bool} {colN : Option Bool} {ddN : Option Addr} {m0N m1N m2N m3N m5N : Option Value} {ocN kVN docN pmN cdvN ctN oTN : Value} {odN anN oDN : Option Addr} {oslN slN : Array (Option Value)} {nN : Nat} {fN dN : Addr}
    {aocM akVM adocM apmM acdM actM : Value} {aodM aanM : Option Addr} {aslM : Array (Option Value)} {afM : Addr}
    {aocC akVC adocC apmC acdC actC : Value} {aodC aanC : Option Addr} {aslC : Array (Option Value)} {afC : Addr}
    {aocK akVK adocK apmK acdK actK : Value} {aodK aanK : Option Addr} {aslK : Array (Option Value)} {afK : Addr}
    {aocO akVO adocO apmO acdO actO : Value} {aodO aanO : Option Addr} {aslO : Array (Option Value)} {afO : Addr}
    {aocB akVB adocB apmB acdB actB : Value} {aodB aanB : Option Addr} {aslB : Array (Option Value)} {afB : Addr}
    {aocS akVS adocS apmS acdS actS : Value} {aodS aanS : Option Addr} {aslS : Array (Option Value)} {afS : Addr}
    {aocW akVW adocW apmW acdW actW : Value} {aodW aanW : Option Addr} {aslW : Array (Option Value)} {afW : Addr}
    (X : K.In h) (G : h.Ns mainGlobals mg) (hfa : mg "law" = some (.ref fa))
    (g0 : PySem.W.nsIn K mainGlobals "NoText" = some (some (.ref c0)))
    (g1 : PySem.W.nsIn K mainGlobals "NoTree" = some (some (.ref c1)))
    (g2 : PySem.W.nsIn K mainGlobals "NoPath" = some (some (.ref c2)))
    (g3 : PySem.W.nsIn K mainGlobals "NoNaming" = some (some (.ref c3)))
    (g4 : PySem.W.nsIn K mainGlobals "NoLetters" = some (some (.ref c4)))
    (g5 : PySem.W.nsIn K mainGlobals "NoCount" = some (some (.ref c5)))
    (g6 : PySem.W.nsIn K mainGlobals "NoTurning" = some (some (.ref c6)))
    (g7 : PySem.W.nsIn K mainGlobals "NoMap" = some (some (.ref c7)))
    (g8 : PySem.W.nsIn K mainGlobals "NoLine" = some (some (.ref c8)))
    (g9 : PySem.W.nsIn K mainGlobals "TooMany" = some (some (.ref c9)))
    (gL : PySem.W.nsIn K mainGlobals "LeanError" = some (some (.ref cL)))
    (zI : PySem.W.nsIn K mainGlobals "isinstance" = some none)
    (zZ : PySem.W.nsIn K mainGlobals "zip" = some none)
    (zK : PySem.W.nsIn K mainGlobals "LookupError" = some none)
    (zA : PySem.W.nsIn K mainGlobals "ArithmeticError" = some none)
    (zV : PySem.W.nsIn K mainGlobals "ValueError" = some none)
    (zl : PySem.W.nsIn K mainGlobals "len" = some none)
    (zr : PySem.W.nsIn K mainGlobals "range" = some none)
    (zt : PySem.W.nsIn K mainGlobals "tuple" = some none)
    (sn : PySem.W.specialIn K (.builtin "object.__class__") "__get__" = some (some (.builtin "getset_descriptor.__get__")))
    (st : PySem.W.takesIn K (.builtin "object.__class__") = some true)
    (hc0 : PySem.W.isClsIn K c0 = true)
    (hg0 : PySem.W.findIn K (.ref c0) "__getattribute__" = some (some (.builtin "BaseException.__getattribute__")))
    (hk0 : PySem.W.findIn K (.ref c0) "__getattr__" = some none)
    (hs0 : PySem.W.subIn K (.ref c0) (.type "BaseException") = some true)
    (hd0 : PySem.W.hasDictIn K c0 = true)
    (ha0 : PySem.W.findIn K (.ref c0) "__class__" = some (some (.builtin "object.__class__")))
    (hm0 : PySem.W.mroIn K c0 (.type "object") = some true)
    (ht0 : PySem.W.typeIn K (.ref c0) = some (.type "type"))
    (sK0 : PySem.W.subIn K (.ref c0) (.type "LookupError") = some false)
    (sA0 : PySem.W.subIn K (.ref c0) (.type "ArithmeticError") = some false)
    (sV0 : PySem.W.subIn K (.ref c0) (.type "ValueError") = some true)
    (sL0 : PySem.W.subIn K (.ref c0) (.ref cL) = some true)
    (s0_1 : PySem.W.subIn K (.ref c0) (.ref c1) = some false)
    (s0_2 : PySem.W.subIn K (.ref c0) (.ref c2) = some false)
    (s0_3 : PySem.W.subIn K (.ref c0) (.ref c3) = some false)
    (s0_4 : PySem.W.subIn K (.ref c0) (.ref c4) = some false)
    (s0_5 : PySem.W.subIn K (.ref c0) (.ref c5) = some false)
    (s0_6 : PySem.W.subIn K (.ref c0) (.ref c6) = some false)
    (s0_7 : PySem.W.subIn K (.ref c0) (.ref c7) = some false)
    (s0_8 : PySem.W.subIn K (.ref c0) (.ref c8) = some false)
    (s0_9 : PySem.W.subIn K (.ref c0) (.ref c9) = some false)
    (hc1 : PySem.W.isClsIn K c1 = true)
    (hg1 : PySem.W.findIn K (.ref c1) "__getattribute__" = some (some (.builtin "BaseException.__getattribute__")))
    (hk1 : PySem.W.findIn K (.ref c1) "__getattr__" = some none)
    (hs1 : PySem.W.subIn K (.ref c1) (.type "BaseException") = some true)
    (hd1 : PySem.W.hasDictIn K c1 = true)
    (ha1 : PySem.W.findIn K (.ref c1) "__class__" = some (some (.builtin "object.__class__")))
    (hm1 : PySem.W.mroIn K c1 (.type "object") = some true)
    (ht1 : PySem.W.typeIn K (.ref c1) = some (.type "type"))
    (sK1 : PySem.W.subIn K (.ref c1) (.type "LookupError") = some false)
    (sA1 : PySem.W.subIn K (.ref c1) (.type "ArithmeticError") = some false)
    (sV1 : PySem.W.subIn K (.ref c1) (.type "ValueError") = some true)
    (sL1 : PySem.W.subIn K (.ref c1) (.ref cL) = some true)
    (s1_0 : PySem.W.subIn K (.ref c1) (.ref c0) = some false)
    (s1_2 : PySem.W.subIn K (.ref c1) (.ref c2) = some false)
    (s1_3 : PySem.W.subIn K (.ref c1) (.ref c3) = some false)
    (s1_4 : PySem.W.subIn K (.ref c1) (.ref c4) = some false)
    (s1_5 : PySem.W.subIn K (.ref c1) (.ref c5) = some false)
    (s1_6 : PySem.W.subIn K (.ref c1) (.ref c6) = some false)
    (s1_7 : PySem.W.subIn K (.ref c1) (.ref c7) = some false)
    (s1_8 : PySem.W.subIn K (.ref c1) (.ref c8) = some false)
    (s1_9 : PySem.W.subIn K (.ref c1) (.ref c9) = some false)
    (hc2 : PySem.W.isClsIn K c2 = true)
    (hg2 : PySem.W.findIn K (.ref c2) "__getattribute__" = some (some (.builtin "BaseException.__getattribute__")))
    (hk2 : PySem.W.findIn K (.ref c2) "__getattr__" = some none)
    (hs2 : PySem.W.subIn K (.ref c2) (.type "BaseException") = some true)
    (hd2 : PySem.W.hasDictIn K c2 = true)
    (ha2 : PySem.W.findIn K (.ref c2) "__class__" = some (some (.builtin "object.__class__")))
    (hm2 : PySem.W.mroIn K c2 (.type "object") = some true)
    (ht2 : PySem.W.typeIn K (.ref c2) = some (.type "type"))
    (sK2 : PySem.W.subIn K (.ref c2) (.type "LookupError") = some false)
    (sA2 : PySem.W.subIn K (.ref c2) (.type "ArithmeticError") = some false)
    (sV2 : PySem.W.subIn K (.ref c2) (.type "ValueError") = some true)
    (sL2 : PySem.W.subIn K (.ref c2) (.ref cL) = some true)
    (s2_0 : PySem.W.subIn K (.ref c2) (.ref c0) = some false)
    (s2_1 : PySem.W.subIn K (.ref c2) (.ref c1) = some false)
    (s2_3 : PySem.W.subIn K (.ref c2) (.ref c3) = some false)
    (s2_4 : PySem.W.subIn K (.ref c2) (.ref c4) = some false)
    (s2_5 : PySem.W.subIn K (.ref c2) (.ref c5) = some false)
    (s2_6 : PySem.W.subIn K (.ref c2) (.ref c6) = some false)
    (s2_7 : PySem.W.subIn K (.ref c2) (.ref c7) = some false)
    (s2_8 : PySem.W.subIn K (.ref c2) (.ref c8) = some false)
    (s2_9 : PySem.W.subIn K (.ref c2) (.ref c9) = some false)
    (hc3 : PySem.W.isClsIn K c3 = true)
    (hg3 : PySem.W.findIn K (.ref c3) "__getattribute__" = some (some (.builtin "BaseException.__getattribute__")))
    (hk3 : PySem.W.findIn K (.ref c3) "__getattr__" = some none)
    (hs3 : PySem.W.subIn K (.ref c3) (.type "BaseException") = some true)
    (hd3 : PySem.W.hasDictIn K c3 = true)
    (ha3 : PySem.W.findIn K (.ref c3) "__class__" = some (some (.builtin "object.__class__")))
    (hm3 : PySem.W.mroIn K c3 (.type "object") = some true)
    (ht3 : PySem.W.typeIn K (.ref c3) = some (.type "type"))
    (sK3 : PySem.W.subIn K (.ref c3) (.type "LookupError") = some false)
    (sA3 : PySem.W.subIn K (.ref c3) (.type "ArithmeticError") = some false)
    (sV3 : PySem.W.subIn K (.ref c3) (.type "ValueError") = some true)
    (sL3 : PySem.W.subIn K (.ref c3) (.ref cL) = some true)
    (s3_0 : PySem.W.subIn K (.ref c3) (.ref c0) = some false)
    (s3_1 : PySem.W.subIn K (.ref c3) (.ref c1) = some false)
    (s3_2 : PySem.W.subIn K (.ref c3) (.ref c2) = some false)
    (s3_4 : PySem.W.subIn K (.ref c3) (.ref c4) = some false)
    (s3_5 : PySem.W.subIn K (.ref c3) (.ref c5) = some false)
    (s3_6 : PySem.W.subIn K (.ref c3) (.ref c6) = some false)
    (s3_7 : PySem.W.subIn K (.ref c3) (.ref c7) = some false)
    (s3_8 : PySem.W.subIn K (.ref c3) (.ref c8) = some false)
    (s3_9 : PySem.W.subIn K (.ref c3) (.ref c9) = some false)
    (hc4 : PySem.W.isClsIn K c4 = true)
    (hg4 : PySem.W.findIn K (.ref c4) "__getattribute__" = some (some (.builtin "BaseException.__getattribute__")))
    (hk4 : PySem.W.findIn K (.ref c4) "__getattr__" = some none)
    (hs4 : PySem.W.subIn K (.ref c4) (.type "BaseException") = some true)
    (hd4 : PySem.W.hasDictIn K c4 = true)
    (ha4 : PySem.W.findIn K (.ref c4) "__class__" = some (some (.builtin "object.__class__")))
    (hm4 : PySem.W.mroIn K c4 (.type "object") = some true)
    (ht4 : PySem.W.typeIn K (.ref c4) = some (.type "type"))
    (sK4 : PySem.W.subIn K (.ref c4) (.type "LookupError") = some false)
    (sA4 : PySem.W.subIn K (.ref c4) (.type "ArithmeticError") = some false)
    (sV4 : PySem.W.subIn K (.ref c4) (.type "ValueError") = some true)
    (sL4 : PySem.W.subIn K (.ref c4) (.ref cL) = some true)
    (s4_0 : PySem.W.subIn K (.ref c4) (.ref c0) = some false)
    (s4_1 : PySem.W.subIn K (.ref c4) (.ref c1) = some false)
    (s4_2 : PySem.W.subIn K (.ref c4) (.ref c2) = some false)
    (s4_3 : PySem.W.subIn K (.ref c4) (.ref c3) = some false)
    (s4_5 : PySem.W.subIn K (.ref c4) (.ref c5) = some false)
    (s4_6 : PySem.W.subIn K (.ref c4) (.ref c6) = some false)
    (s4_7 : PySem.W.subIn K (.ref c4) (.ref c7) = some false)
    (s4_8 : PySem.W.subIn K (.ref c4) (.ref c8) = some false)
    (s4_9 : PySem.W.subIn K (.ref c4) (.ref c9) = some false)
    (hc5 : PySem.W.isClsIn K c5 = true)
    (hg5 : PySem.W.findIn K (.ref c5) "__getattribute__" = some (some (.builtin "BaseException.__getattribute__")))
    (hk5 : PySem.W.findIn K (.ref c5) "__getattr__" = some none)
    (hs5 : PySem.W.subIn K (.ref c5) (.type "BaseException") = some true)
    (hd5 : PySem.W.hasDictIn K c5 = true)
    (ha5 : PySem.W.findIn K (.ref c5) "__class__" = some (some (.builtin "object.__class__")))
    (hm5 : PySem.W.mroIn K c5 (.type "object") = some true)
    (ht5 : PySem.W.typeIn K (.ref c5) = some (.type "type"))
    (sK5 : PySem.W.subIn K (.ref c5) (.type "LookupError") = some false)
    (sA5 : PySem.W.subIn K (.ref c5) (.type "ArithmeticError") = some false)
    (sV5 : PySem.W.subIn K (.ref c5) (.type "ValueError") = some true)
    (sL5 : PySem.W.subIn K (.ref c5) (.ref cL) = some true)
    (s5_0 : PySem.W.subIn K (.ref c5) (.ref c0) = some false)
    (s5_1 : PySem.W.subIn K (.ref c5) (.ref c1) = some false)
    (s5_2 : PySem.W.subIn K (.ref c5) (.ref c2) = some false)
    (s5_3 : PySem.W.subIn K (.ref c5) (.ref c3) = some false)
    (s5_4 : PySem.W.subIn K (.ref c5) (.ref c4) = some false)
    (s5_6 : PySem.W.subIn K (.ref c5) (.ref c6) = some false)
    (s5_7 : PySem.W.subIn K (.ref c5) (.ref c7) = some false)
    (s5_8 : PySem.W.subIn K (.ref c5) (.ref c8) = some false)
    (s5_9 : PySem.W.subIn K (.ref c5) (.ref c9) = some false)
    (hc6 : PySem.W.isClsIn K c6 = true)
    (hg6 : PySem.W.findIn K (.ref c6) "__getattribute__" = some (some (.builtin "BaseException.__getattribute__")))
    (hk6 : PySem.W.findIn K (.ref c6) "__getattr__" = some none)
    (hs6 : PySem.W.subIn K (.ref c6) (.type "BaseException") = some true)
    (hd6 : PySem.W.hasDictIn K c6 = true)
    (ha6 : PySem.W.findIn K (.ref c6) "__class__" = some (some (.builtin "object.__class__")))
    (hm6 : PySem.W.mroIn K c6 (.type "object") = some true)
    (ht6 : PySem.W.typeIn K (.ref c6) = some (.type "type"))
    (sK6 : PySem.W.subIn K (.ref c6) (.type "LookupError") = some false)
    (sA6 : PySem.W.subIn K (.ref c6) (.type "ArithmeticError") = some false)
    (sV6 : PySem.W.subIn K (.ref c6) (.type "ValueError") = some true)
    (sL6 : PySem.W.subIn K (.ref c6) (.ref cL) = some true)
    (s6_0 : PySem.W.subIn K (.ref c6) (.ref c0) = some false)
    (s6_1 : PySem.W.subIn K (.ref c6) (.ref c1) = some false)
    (s6_2 : PySem.W.subIn K (.ref c6) (.ref c2) = some false)
    (s6_3 : PySem.W.subIn K (.ref c6) (.ref c3) = some false)
    (s6_4 : PySem.W.subIn K (.ref c6) (.ref c4) = some false)
    (s6_5 : PySem.W.subIn K (.ref c6) (.ref c5) = some false)
    (s6_7 : PySem.W.subIn K (.ref c6) (.ref c7) = some false)
    (s6_8 : PySem.W.subIn K (.ref c6) (.ref c8) = some false)
    (s6_9 : PySem.W.subIn K (.ref c6) (.ref c9) = some false)
    (hc7 : PySem.W.isClsIn K c7 = true)
    (hg7 : PySem.W.findIn K (.ref c7) "__getattribute__" = some (some (.builtin "BaseException.__getattribute__")))
    (hk7 : PySem.W.findIn K (.ref c7) "__getattr__" = some none)
    (hs7 : PySem.W.subIn K (.ref c7) (.type "BaseException") = some true)
    (hd7 : PySem.W.hasDictIn K c7 = true)
    (ha7 : PySem.W.findIn K (.ref c7) "__class__" = some (some (.builtin "object.__class__")))
    (hm7 : PySem.W.mroIn K c7 (.type "object") = some true)
    (ht7 : PySem.W.typeIn K (.ref c7) = some (.type "type"))
    (sK7 : PySem.W.subIn K (.ref c7) (.type "LookupError") = some false)
    (sA7 : PySem.W.subIn K (.ref c7) (.type "ArithmeticError") = some false)
    (sV7 : PySem.W.subIn K (.ref c7) (.type "ValueError") = some true)
    (sL7 : PySem.W.subIn K (.ref c7) (.ref cL) = some true)
    (s7_0 : PySem.W.subIn K (.ref c7) (.ref c0) = some false)
    (s7_1 : PySem.W.subIn K (.ref c7) (.ref c1) = some false)
    (s7_2 : PySem.W.subIn K (.ref c7) (.ref c2) = some false)
    (s7_3 : PySem.W.subIn K (.ref c7) (.ref c3) = some false)
    (s7_4 : PySem.W.subIn K (.ref c7) (.ref c4) = some false)
    (s7_5 : PySem.W.subIn K (.ref c7) (.ref c5) = some false)
    (s7_6 : PySem.W.subIn K (.ref c7) (.ref c6) = some false)
    (s7_8 : PySem.W.subIn K (.ref c7) (.ref c8) = some false)
    (s7_9 : PySem.W.subIn K (.ref c7) (.ref c9) = some false)
    (hc8 : PySem.W.isClsIn K c8 = true)
    (hg8 : PySem.W.findIn K (.ref c8) "__getattribute__" = some (some (.builtin "BaseException.__getattribute__")))
    (hk8 : PySem.W.findIn K (.ref c8) "__getattr__" = some none)
    (hs8 : PySem.W.subIn K (.ref c8) (.type "BaseException") = some true)
    (hd8 : PySem.W.hasDictIn K c8 = true)
    (ha8 : PySem.W.findIn K (.ref c8) "__class__" = some (some (.builtin "object.__class__")))
    (hm8 : PySem.W.mroIn K c8 (.type "object") = some true)
    (ht8 : PySem.W.typeIn K (.ref c8) = some (.type "type"))
    (sK8 : PySem.W.subIn K (.ref c8) (.type "LookupError") = some false)
    (sA8 : PySem.W.subIn K (.ref c8) (.type "ArithmeticError") = some false)
    (sV8 : PySem.W.subIn K (.ref c8) (.type "ValueError") = some true)
    (sL8 : PySem.W.subIn K (.ref c8) (.ref cL) = some true)
    (s8_0 : PySem.W.subIn K (.ref c8) (.ref c0) = some false)
    (s8_1 : PySem.W.subIn K (.ref c8) (.ref c1) = some false)
    (s8_2 : PySem.W.subIn K (.ref c8) (.ref c2) = some false)
    (s8_3 : PySem.W.subIn K (.ref c8) (.ref c3) = some false)
    (s8_4 : PySem.W.subIn K (.ref c8) (.ref c4) = some false)
    (s8_5 : PySem.W.subIn K (.ref c8) (.ref c5) = some false)
    (s8_6 : PySem.W.subIn K (.ref c8) (.ref c6) = some false)
    (s8_7 : PySem.W.subIn K (.ref c8) (.ref c7) = some false)
    (s8_9 : PySem.W.subIn K (.ref c8) (.ref c9) = some false)
    (hc9 : PySem.W.isClsIn K c9 = true)
    (hg9 : PySem.W.findIn K (.ref c9) "__getattribute__" = some (some (.builtin "BaseException.__getattribute__")))
    (hk9 : PySem.W.findIn K (.ref c9) "__getattr__" = some none)
    (hs9 : PySem.W.subIn K (.ref c9) (.type "BaseException") = some true)
    (hd9 : PySem.W.hasDictIn K c9 = true)
    (ha9 : PySem.W.findIn K (.ref c9) "__class__" = some (some (.builtin "object.__class__")))
    (hm9 : PySem.W.mroIn K c9 (.type "object") = some true)
    (ht9 : PySem.W.typeIn K (.ref c9) = some (.type "type"))
    (sK9 : PySem.W.subIn K (.ref c9) (.type "LookupError") = some false)
    (sA9 : PySem.W.subIn K (.ref c9) (.type "ArithmeticError") = some false)
    (sV9 : PySem.W.subIn K (.ref c9) (.type "ValueError") = some true)
    (sL9 : PySem.W.subIn K (.ref c9) (.ref cL) = some true)
    (s9_0 : PySem.W.subIn K (.ref c9) (.ref c0) = some false)
    (s9_1 : PySem.W.subIn K (.ref c9) (.ref c1) = some false)
    (s9_2 : PySem.W.subIn K (.ref c9) (.ref c2) = some false)
    (s9_3 : PySem.W.subIn K (.ref c9) (.ref c3) = some false)
    (s9_4 : PySem.W.subIn K (.ref c9) (.ref c4) = some false)
    (s9_5 : PySem.W.subIn K (.ref c9) (.ref c5) = some false)
    (s9_6 : PySem.W.subIn K (.ref c9) (.ref c6) = some false)
    (s9_7 : PySem.W.subIn K (.ref c9) (.ref c7) = some false)
    (s9_8 : PySem.W.subIn K (.ref c9) (.ref c8) = some false)
    (cL1 : PySem.W.isClsIn K cL = true)
    (cL2 : PySem.W.typeIn K (.ref cL) = some (.type "type"))
    (xT : K.lookup c0 = some (excClassObj nmT qT c0 NT bsT (.ref cL :: [.type "ValueError", .type "Exception", .type "BaseException", .type "object"]) true snT subT abT colT ddT m0T m1T m2T m3T m5T "ValueError.__new__"))
    (saT : PySem.W.findIn K (.ref c0) "__setattr__" = some (some (.builtin "object.__setattr__")))
    (kcT : PySem.W.keepIn K (.ref c0) = true)
    (icT : PySem.W.findIn K (.ref c0) "__init__" = some (some (.ref fT)))
    (tiT : PySem.W.typeIn K (.ref fT) = some (.type "function"))
    (lfT : K.lookup fT = some ⟨ocT, odT, .func (PySem.W.fnOf "__init__" "NoText.__init__" (defArgs iText) (defBody iText) (defScope iText) (.ref dT) kVT docT pmT anT cdvT ctT), oslT⟩)
    (cfT : PySem.W.codeIn K cdvT "NoText.__init__" = true)
    (kfT : PySem.W.keepIn K (.ref fT) = true)
    (ldT : K.lookup dT = some ⟨oTT, oDT, .seq ([.int 0 tk0] : List Value).toArray nT, slT⟩)
    (nTat : PySem.W.findIn K (.ref c0) "at" = some none)
    (xR : K.lookup c1 = some (excClassObj nmR qR c1 NR bsR (.ref cL :: [.type "ValueError", .type "Exception", .type "BaseException", .type "object"]) true snR subR abR colR ddR m0R m1R m2R m3R m5R "ValueError.__new__"))
    (saR : PySem.W.findIn K (.ref c1) "__setattr__" = some (some (.builtin "object.__setattr__")))
    (kcR : PySem.W.keepIn K (.ref c1) = true)
    (icR : PySem.W.findIn K (.ref c1) "__init__" = some (some (.ref fR)))
    (tiR : PySem.W.typeIn K (.ref fR) = some (.type "function"))
    (lfR : K.lookup fR = some ⟨ocR, odR, .func (PySem.W.fnOf "__init__" "NoTree.__init__" (defArgs iTree) (defBody iTree) (defScope iTree) (.ref dR) kVR docR pmR anR cdvR ctR), oslR⟩)
    (cfR : PySem.W.codeIn K cdvR "NoTree.__init__" = true)
    (kfR : PySem.W.keepIn K (.ref fR) = true)
    (ldR : K.lookup dR = some ⟨oTR, oDR, .seq ([.ref e0, .str "" tk1] : List Value).toArray nR, slR⟩)
    (nRpath : PySem.W.findIn K (.ref c1) "path" = some none)
    (nRwhy : PySem.W.findIn K (.ref c1) "why" = some none)
    (xN : K.lookup c3 = some (excClassObj nmN qN c3 NN bsN (.ref cL :: [.type "ValueError", .type "Exception", .type "BaseException", .type "object"]) true snN subN abN colN ddN m0N m1N m2N m3N m5N "ValueError.__new__"))
    (saN : PySem.W.findIn K (.ref c3) "__setattr__" = some (some (.builtin "object.__setattr__")))
    (kcN : PySem.W.keepIn K (.ref c3) = true)
    (icN : PySem.W.findIn K (.ref c3) "__init__" = some (some (.ref fN)))
    (tiN : PySem.W.typeIn K (.ref fN) = some (.type "function"))
    (lfN : K.lookup fN = some ⟨ocN, odN, .func (PySem.W.fnOf "__init__" "NoNaming.__init__" (defArgs iNaming) (defBody iNaming) (defScope iNaming) (.ref dN) kVN docN pmN anN cdvN ctN), oslN⟩)
    (cfN : PySem.W.codeIn K cdvN "NoNaming.__init__" = true)
    (kfN : PySem.W.keepIn K (.ref fN) = true)
    (ldN : K.lookup dN = some ⟨oTN, oDN, .seq ([.none, .none] : List Value).toArray nN, slN⟩)
    (nNone : PySem.W.findIn K (.ref c3) "one" = some none)
    (nNother : PySem.W.findIn K (.ref c3) "other" = some none)
    (le0 : K.lookup e0 = some ⟨.type "tuple", oE, .seq ([] : List Value).toArray nE, slE⟩)
    (xc2 : PySem.W.excIn K c2 [.type "ValueError", .type "Exception", .type "BaseException", .type "object"] "ValueError.__new__" = true)
    (kc2 : PySem.W.keepIn K (.ref c2) = true)
    (xc4 : PySem.W.excIn K c4 [.type "ValueError", .type "Exception", .type "BaseException", .type "object"] "ValueError.__new__" = true)
    (kc4 : PySem.W.keepIn K (.ref c4) = true)
    (xc5 : PySem.W.excIn K c5 [.type "ValueError", .type "Exception", .type "BaseException", .type "object"] "ValueError.__new__" = true)
    (kc5 : PySem.W.keepIn K (.ref c5) = true)
    (xc6 : PySem.W.excIn K c6 [.type "ValueError", .type "Exception", .type "BaseException", .type "object"] "ValueError.__new__" = true)
    (kc6 : PySem.W.keepIn K (.ref c6) = true)
    (xc7 : PySem.W.excIn K c7 [.type "ValueError", .type "Exception", .type "BaseException", .type "object"] "ValueError.__new__" = true)
    (kc7 : PySem.W.keepIn K (.ref c7) = true)
    (xc8 : PySem.W.excIn K c8 [.type "ValueError", .type "Exception", .type "BaseException", .type "object"] "ValueError.__new__" = true)
    (kc8 : PySem.W.keepIn K (.ref c8) = true)
    (xc9 : PySem.W.excIn K c9 [.type "ValueError", .type "Exception", .type "BaseException", .type "object"] "ValueError.__new__" = true)
    (kc9 : PySem.W.keepIn K (.ref c9) = true)
    (aM : PySem.W.nsIn K mainGlobals "_law_mixed" = some (some (.ref afM)))
    (alM : K.lookup afM = some ⟨aocM, aodM, .func (PySem.W.fnOf "_law_mixed" "_law_mixed" (defArgs sMixed) (defBody sMixed) (defScope sMixed) .none akVM adocM apmM aanM acdM actM), aslM⟩)
    (acM : PySem.W.codeIn K acdM "_law_mixed" = true)
    (akM : PySem.W.keepIn K (.ref afM) = true)
    (aC : PySem.W.nsIn K mainGlobals "_law_cell" = some (some (.ref afC)))
    (alC : K.lookup afC = some ⟨aocC, aodC, .func (PySem.W.fnOf "_law_cell" "_law_cell" (defArgs sCell) (defBody sCell) (defScope sCell) .none akVC adocC apmC aanC acdC actC), aslC⟩)
    (acC : PySem.W.codeIn K acdC "_law_cell" = true)
    (akC : PySem.W.keepIn K (.ref afC) = true)
    (aK : PySem.W.nsIn K mainGlobals "_law_take" = some (some (.ref afK)))
    (alK : K.lookup afK = some ⟨aocK, aodK, .func (PySem.W.fnOf "_law_take" "_law_take" (defArgs sTake) (defBody sTake) (defScope sTake) .none akVK adocK apmK aanK acdK actK), aslK⟩)
    (acK : PySem.W.codeIn K acdK "_law_take" = true)
    (akK : PySem.W.keepIn K (.ref afK) = true)
    (aO : PySem.W.nsIn K mainGlobals "_law_only" = some (some (.ref afO)))
    (alO : K.lookup afO = some ⟨aocO, aodO, .func (PySem.W.fnOf "_law_only" "_law_only" (defArgs sOnly) (defBody sOnly) (defScope sOnly) .none akVO adocO apmO aanO acdO actO), aslO⟩)
    (acO : PySem.W.codeIn K acdO "_law_only" = true)
    (akO : PySem.W.keepIn K (.ref afO) = true)
    (aB : PySem.W.nsIn K mainGlobals "_law_bare" = some (some (.ref afB)))
    (alB : K.lookup afB = some ⟨aocB, aodB, .func (PySem.W.fnOf "_law_bare" "_law_bare" (defArgs sBare) (defBody sBare) (defScope sBare) .none akVB adocB apmB aanB acdB actB), aslB⟩)
    (acB : PySem.W.codeIn K acdB "_law_bare" = true)
    (akB : PySem.W.keepIn K (.ref afB) = true)
    (aS : PySem.W.nsIn K mainGlobals "_law_names" = some (some (.ref afS)))
    (alS : K.lookup afS = some ⟨aocS, aodS, .func (PySem.W.fnOf "_law_names" "_law_names" (defArgs sNames) (defBody sNames) (defScope sNames) .none akVS adocS apmS aanS acdS actS), aslS⟩)
    (acS : PySem.W.codeIn K acdS "_law_names" = true)
    (akS : PySem.W.keepIn K (.ref afS) = true)
    (aW : PySem.W.nsIn K mainGlobals "law" = some (some (.ref afW)))
    (alW : K.lookup afW = some ⟨aocW, aodW, .func (PySem.W.fnOf "law" "law" (defArgs sLaw) (defBody sLaw) (defScope sLaw) .none akVW adocW apmW aanW acdW actW), aslW⟩)
    (acW : PySem.W.codeIn K acdW "law" = true)
    (akW : PySem.W.keepIn K (.ref afW) = true)
    (sf0 : PySem.W.selfFirst K c0 = true)
    (sf1 : PySem.W.selfFirst K c1 = true)
    (sf2 : PySem.W.selfFirst K c2 = true)
    (sf3 : PySem.W.selfFirst K c3 = true)
    (sf4 : PySem.W.selfFirst K c4 = true)
    (sf5 : PySem.W.selfFirst K c5 = true)
    (sf6 : PySem.W.selfFirst K c6 = true)
    (sf7 : PySem.W.selfFirst K c7 = true)
    (sf8 : PySem.W.selfFirst K c8 = true)
    (sf9 : PySem.W.selfFirst K c9 = true)
    : ∃ fd : FuncData, (∀ (s : Shared) (u : Value), BindsTo s fd ⟨[u], []⟩ [("script", u)]) ∧ ∀ base : Heap, K.In base → base.Ns mainGlobals mg → FnOk P w K mg base CX0 4 fa fd ["script"] (spLaw K) := by
  have e := hfa.symm.trans (PySem.W.mg_of X G aW)
  cases e
  have T : Ten K mg (fun i => [c0, c1, c2, c3, c4, c5, c6, c7, c8, c9].getD i 0) cL := {
    g := fun i hi => match i, hi with
      | 0, _ => PySem.W.mg_of X G g0
      | 1, _ => PySem.W.mg_of X G g1
      | 2, _ => PySem.W.mg_of X G g2
      | 3, _ => PySem.W.mg_of X G g3
      | 4, _ => PySem.W.mg_of X G g4
      | 5, _ => PySem.W.mg_of X G g5
      | 6, _ => PySem.W.mg_of X G g6
      | 7, _ => PySem.W.mg_of X G g7
      | 8, _ => PySem.W.mg_of X G g8
      | 9, _ => PySem.W.mg_of X G g9
    gL := PySem.W.mg_of X G gL
    gI := PySem.W.mg_none_of X G zI
    gZ := PySem.W.mg_none_of X G zZ
    gK := PySem.W.mg_none_of X G zK
    gA := PySem.W.mg_none_of X G zA
    gV := PySem.W.mg_none_of X G zV
    isOne := fun i j hi hj => match i, hi, j, hj with
      | 0, _, 0, _ => kit_self
      | 0, _, 1, _ => kit_ref hc1 ht1 s0_1 (ne_ref (sub_ne s0_1 hs0 sf0))
      | 0, _, 2, _ => kit_ref hc2 ht2 s0_2 (ne_ref (sub_ne s0_2 hs0 sf0))
      | 0, _, 3, _ => kit_ref hc3 ht3 s0_3 (ne_ref (sub_ne s0_3 hs0 sf0))
      | 0, _, 4, _ => kit_ref hc4 ht4 s0_4 (ne_ref (sub_ne s0_4 hs0 sf0))
      | 0, _, 5, _ => kit_ref hc5 ht5 s0_5 (ne_ref (sub_ne s0_5 hs0 sf0))
      | 0, _, 6, _ => kit_ref hc6 ht6 s0_6 (ne_ref (sub_ne s0_6 hs0 sf0))
      | 0, _, 7, _ => kit_ref hc7 ht7 s0_7 (ne_ref (sub_ne s0_7 hs0 sf0))
      | 0, _, 8, _ => kit_ref hc8 ht8 s0_8 (ne_ref (sub_ne s0_8 hs0 sf0))
      | 0, _, 9, _ => kit_ref hc9 ht9 s0_9 (ne_ref (sub_ne s0_9 hs0 sf0))
      | 1, _, 0, _ => kit_ref hc0 ht0 s1_0 (ne_ref (sub_ne s1_0 hs1 sf1))
      | 1, _, 1, _ => kit_self
      | 1, _, 2, _ => kit_ref hc2 ht2 s1_2 (ne_ref (sub_ne s1_2 hs1 sf1))
      | 1, _, 3, _ => kit_ref hc3 ht3 s1_3 (ne_ref (sub_ne s1_3 hs1 sf1))
      | 1, _, 4, _ => kit_ref hc4 ht4 s1_4 (ne_ref (sub_ne s1_4 hs1 sf1))
      | 1, _, 5, _ => kit_ref hc5 ht5 s1_5 (ne_ref (sub_ne s1_5 hs1 sf1))
      | 1, _, 6, _ => kit_ref hc6 ht6 s1_6 (ne_ref (sub_ne s1_6 hs1 sf1))
      | 1, _, 7, _ => kit_ref hc7 ht7 s1_7 (ne_ref (sub_ne s1_7 hs1 sf1))
      | 1, _, 8, _ => kit_ref hc8 ht8 s1_8 (ne_ref (sub_ne s1_8 hs1 sf1))
      | 1, _, 9, _ => kit_ref hc9 ht9 s1_9 (ne_ref (sub_ne s1_9 hs1 sf1))
      | 2, _, 0, _ => kit_ref hc0 ht0 s2_0 (ne_ref (sub_ne s2_0 hs2 sf2))
      | 2, _, 1, _ => kit_ref hc1 ht1 s2_1 (ne_ref (sub_ne s2_1 hs2 sf2))
      | 2, _, 2, _ => kit_self
      | 2, _, 3, _ => kit_ref hc3 ht3 s2_3 (ne_ref (sub_ne s2_3 hs2 sf2))
      | 2, _, 4, _ => kit_ref hc4 ht4 s2_4 (ne_ref (sub_ne s2_4 hs2 sf2))
      | 2, _, 5, _ => kit_ref hc5 ht5 s2_5 (ne_ref (sub_ne s2_5 hs2 sf2))
      | 2, _, 6, _ => kit_ref hc6 ht6 s2_6 (ne_ref (sub_ne s2_6 hs2 sf2))
      | 2, _, 7, _ => kit_ref hc7 ht7 s2_7 (ne_ref (sub_ne s2_7 hs2 sf2))
      | 2, _, 8, _ => kit_ref hc8 ht8 s2_8 (ne_ref (sub_ne s2_8 hs2 sf2))
      | 2, _, 9, _ => kit_ref hc9 ht9 s2_9 (ne_ref (sub_ne s2_9 hs2 sf2))
      | 3, _, 0, _ => kit_ref hc0 ht0 s3_0 (ne_ref (sub_ne s3_0 hs3 sf3))
      | 3, _, 1, _ => kit_ref hc1 ht1 s3_1 (ne_ref (sub_ne s3_1 hs3 sf3))
      | 3, _, 2, _ => kit_ref hc2 ht2 s3_2 (ne_ref (sub_ne s3_2 hs3 sf3))
      | 3, _, 3, _ => kit_self
      | 3, _, 4, _ => kit_ref hc4 ht4 s3_4 (ne_ref (sub_ne s3_4 hs3 sf3))
      | 3, _, 5, _ => kit_ref hc5 ht5 s3_5 (ne_ref (sub_ne s3_5 hs3 sf3))
      | 3, _, 6, _ => kit_ref hc6 ht6 s3_6 (ne_ref (sub_ne s3_6 hs3 sf3))
      | 3, _, 7, _ => kit_ref hc7 ht7 s3_7 (ne_ref (sub_ne s3_7 hs3 sf3))
      | 3, _, 8, _ => kit_ref hc8 ht8 s3_8 (ne_ref (sub_ne s3_8 hs3 sf3))
      | 3, _, 9, _ => kit_ref hc9 ht9 s3_9 (ne_ref (sub_ne s3_9 hs3 sf3))
      | 4, _, 0, _ => kit_ref hc0 ht0 s4_0 (ne_ref (sub_ne s4_0 hs4 sf4))
      | 4, _, 1, _ => kit_ref hc1 ht1 s4_1 (ne_ref (sub_ne s4_1 hs4 sf4))
      | 4, _, 2, _ => kit_ref hc2 ht2 s4_2 (ne_ref (sub_ne s4_2 hs4 sf4))
      | 4, _, 3, _ => kit_ref hc3 ht3 s4_3 (ne_ref (sub_ne s4_3 hs4 sf4))
      | 4, _, 4, _ => kit_self
      | 4, _, 5, _ => kit_ref hc5 ht5 s4_5 (ne_ref (sub_ne s4_5 hs4 sf4))
      | 4, _, 6, _ => kit_ref hc6 ht6 s4_6 (ne_ref (sub_ne s4_6 hs4 sf4))
      | 4, _, 7, _ => kit_ref hc7 ht7 s4_7 (ne_ref (sub_ne s4_7 hs4 sf4))
      | 4, _, 8, _ => kit_ref hc8 ht8 s4_8 (ne_ref (sub_ne s4_8 hs4 sf4))
      | 4, _, 9, _ => kit_ref hc9 ht9 s4_9 (ne_ref (sub_ne s4_9 hs4 sf4))
      | 5, _, 0, _ => kit_ref hc0 ht0 s5_0 (ne_ref (sub_ne s5_0 hs5 sf5))
      | 5, _, 1, _ => kit_ref hc1 ht1 s5_1 (ne_ref (sub_ne s5_1 hs5 sf5))
      | 5, _, 2, _ => kit_ref hc2 ht2 s5_2 (ne_ref (sub_ne s5_2 hs5 sf5))
      | 5, _, 3, _ => kit_ref hc3 ht3 s5_3 (ne_ref (sub_ne s5_3 hs5 sf5))
      | 5, _, 4, _ => kit_ref hc4 ht4 s5_4 (ne_ref (sub_ne s5_4 hs5 sf5))
      | 5, _, 5, _ => kit_self
      | 5, _, 6, _ => kit_ref hc6 ht6 s5_6 (ne_ref (sub_ne s5_6 hs5 sf5))
      | 5, _, 7, _ => kit_ref hc7 ht7 s5_7 (ne_ref (sub_ne s5_7 hs5 sf5))
      | 5, _, 8, _ => kit_ref hc8 ht8 s5_8 (ne_ref (sub_ne s5_8 hs5 sf5))
      | 5, _, 9, _ => kit_ref hc9 ht9 s5_9 (ne_ref (sub_ne s5_9 hs5 sf5))
      | 6, _, 0, _ => kit_ref hc0 ht0 s6_0 (ne_ref (sub_ne s6_0 hs6 sf6))
      | 6, _, 1, _ => kit_ref hc1 ht1 s6_1 (ne_ref (sub_ne s6_1 hs6 sf6))
      | 6, _, 2, _ => kit_ref hc2 ht2 s6_2 (ne_ref (sub_ne s6_2 hs6 sf6))
      | 6, _, 3, _ => kit_ref hc3 ht3 s6_3 (ne_ref (sub_ne s6_3 hs6 sf6))
      | 6, _, 4, _ => kit_ref hc4 ht4 s6_4 (ne_ref (sub_ne s6_4 hs6 sf6))
      | 6, _, 5, _ => kit_ref hc5 ht5 s6_5 (ne_ref (sub_ne s6_5 hs6 sf6))
      | 6, _, 6, _ => kit_self
      | 6, _, 7, _ => kit_ref hc7 ht7 s6_7 (ne_ref (sub_ne s6_7 hs6 sf6))
      | 6, _, 8, _ => kit_ref hc8 ht8 s6_8 (ne_ref (sub_ne s6_8 hs6 sf6))
      | 6, _, 9, _ => kit_ref hc9 ht9 s6_9 (ne_ref (sub_ne s6_9 hs6 sf6))
      | 7, _, 0, _ => kit_ref hc0 ht0 s7_0 (ne_ref (sub_ne s7_0 hs7 sf7))
      | 7, _, 1, _ => kit_ref hc1 ht1 s7_1 (ne_ref (sub_ne s7_1 hs7 sf7))
      | 7, _, 2, _ => kit_ref hc2 ht2 s7_2 (ne_ref (sub_ne s7_2 hs7 sf7))
      | 7, _, 3, _ => kit_ref hc3 ht3 s7_3 (ne_ref (sub_ne s7_3 hs7 sf7))
      | 7, _, 4, _ => kit_ref hc4 ht4 s7_4 (ne_ref (sub_ne s7_4 hs7 sf7))
      | 7, _, 5, _ => kit_ref hc5 ht5 s7_5 (ne_ref (sub_ne s7_5 hs7 sf7))
      | 7, _, 6, _ => kit_ref hc6 ht6 s7_6 (ne_ref (sub_ne s7_6 hs7 sf7))
      | 7, _, 7, _ => kit_self
      | 7, _, 8, _ => kit_ref hc8 ht8 s7_8 (ne_ref (sub_ne s7_8 hs7 sf7))
      | 7, _, 9, _ => kit_ref hc9 ht9 s7_9 (ne_ref (sub_ne s7_9 hs7 sf7))
      | 8, _, 0, _ => kit_ref hc0 ht0 s8_0 (ne_ref (sub_ne s8_0 hs8 sf8))
      | 8, _, 1, _ => kit_ref hc1 ht1 s8_1 (ne_ref (sub_ne s8_1 hs8 sf8))
      | 8, _, 2, _ => kit_ref hc2 ht2 s8_2 (ne_ref (sub_ne s8_2 hs8 sf8))
      | 8, _, 3, _ => kit_ref hc3 ht3 s8_3 (ne_ref (sub_ne s8_3 hs8 sf8))
      | 8, _, 4, _ => kit_ref hc4 ht4 s8_4 (ne_ref (sub_ne s8_4 hs8 sf8))
      | 8, _, 5, _ => kit_ref hc5 ht5 s8_5 (ne_ref (sub_ne s8_5 hs8 sf8))
      | 8, _, 6, _ => kit_ref hc6 ht6 s8_6 (ne_ref (sub_ne s8_6 hs8 sf8))
      | 8, _, 7, _ => kit_ref hc7 ht7 s8_7 (ne_ref (sub_ne s8_7 hs8 sf8))
      | 8, _, 8, _ => kit_self
      | 8, _, 9, _ => kit_ref hc9 ht9 s8_9 (ne_ref (sub_ne s8_9 hs8 sf8))
      | 9, _, 0, _ => kit_ref hc0 ht0 s9_0 (ne_ref (sub_ne s9_0 hs9 sf9))
      | 9, _, 1, _ => kit_ref hc1 ht1 s9_1 (ne_ref (sub_ne s9_1 hs9 sf9))
      | 9, _, 2, _ => kit_ref hc2 ht2 s9_2 (ne_ref (sub_ne s9_2 hs9 sf9))
      | 9, _, 3, _ => kit_ref hc3 ht3 s9_3 (ne_ref (sub_ne s9_3 hs9 sf9))
      | 9, _, 4, _ => kit_ref hc4 ht4 s9_4 (ne_ref (sub_ne s9_4 hs9 sf9))
      | 9, _, 5, _ => kit_ref hc5 ht5 s9_5 (ne_ref (sub_ne s9_5 hs9 sf9))
      | 9, _, 6, _ => kit_ref hc6 ht6 s9_6 (ne_ref (sub_ne s9_6 hs9 sf9))
      | 9, _, 7, _ => kit_ref hc7 ht7 s9_7 (ne_ref (sub_ne s9_7 hs9 sf9))
      | 9, _, 8, _ => kit_ref hc8 ht8 s9_8 (ne_ref (sub_ne s9_8 hs9 sf9))
      | 9, _, 9, _ => kit_self
    isK := fun i hi => match i, hi with
      | 0, _ => kit_bi (by decide +kernel) sK0
      | 1, _ => kit_bi (by decide +kernel) sK1
      | 2, _ => kit_bi (by decide +kernel) sK2
      | 3, _ => kit_bi (by decide +kernel) sK3
      | 4, _ => kit_bi (by decide +kernel) sK4
      | 5, _ => kit_bi (by decide +kernel) sK5
      | 6, _ => kit_bi (by decide +kernel) sK6
      | 7, _ => kit_bi (by decide +kernel) sK7
      | 8, _ => kit_bi (by decide +kernel) sK8
      | 9, _ => kit_bi (by decide +kernel) sK9
    isA := fun i hi => match i, hi with
      | 0, _ => kit_bi (by decide +kernel) sA0
      | 1, _ => kit_bi (by decide +kernel) sA1
      | 2, _ => kit_bi (by decide +kernel) sA2
      | 3, _ => kit_bi (by decide +kernel) sA3
      | 4, _ => kit_bi (by decide +kernel) sA4
      | 5, _ => kit_bi (by decide +kernel) sA5
      | 6, _ => kit_bi (by decide +kernel) sA6
      | 7, _ => kit_bi (by decide +kernel) sA7
      | 8, _ => kit_bi (by decide +kernel) sA8
      | 9, _ => kit_bi (by decide +kernel) sA9
    isL := fun i hi => match i, hi with
      | 0, _ => kit_ref cL1 cL2 sL0 (fun _ => rfl)
      | 1, _ => kit_ref cL1 cL2 sL1 (fun _ => rfl)
      | 2, _ => kit_ref cL1 cL2 sL2 (fun _ => rfl)
      | 3, _ => kit_ref cL1 cL2 sL3 (fun _ => rfl)
      | 4, _ => kit_ref cL1 cL2 sL4 (fun _ => rfl)
      | 5, _ => kit_ref cL1 cL2 sL5 (fun _ => rfl)
      | 6, _ => kit_ref cL1 cL2 sL6 (fun _ => rfl)
      | 7, _ => kit_ref cL1 cL2 sL7 (fun _ => rfl)
      | 8, _ => kit_ref cL1 cL2 sL8 (fun _ => rfl)
      | 9, _ => kit_ref cL1 cL2 sL9 (fun _ => rfl)
    isV := fun i hi => match i, hi with
      | 0, _ => kit_bi (by decide +kernel) sV0
      | 1, _ => kit_bi (by decide +kernel) sV1
      | 2, _ => kit_bi (by decide +kernel) sV2
      | 3, _ => kit_bi (by decide +kernel) sV3
      | 4, _ => kit_bi (by decide +kernel) sV4
      | 5, _ => kit_bi (by decide +kernel) sV5
      | 6, _ => kit_bi (by decide +kernel) sV6
      | 7, _ => kit_bi (by decide +kernel) sV7
      | 8, _ => kit_bi (by decide +kernel) sV8
      | 9, _ => kit_bi (by decide +kernel) sV9
    ek := fun i hi => match i, hi with
      | 0, _ => ⟨hc0, hg0, hk0, hs0, hd0, ha0, sn, st, hm0⟩
      | 1, _ => ⟨hc1, hg1, hk1, hs1, hd1, ha1, sn, st, hm1⟩
      | 2, _ => ⟨hc2, hg2, hk2, hs2, hd2, ha2, sn, st, hm2⟩
      | 3, _ => ⟨hc3, hg3, hk3, hs3, hd3, ha3, sn, st, hm3⟩
      | 4, _ => ⟨hc4, hg4, hk4, hs4, hd4, ha4, sn, st, hm4⟩
      | 5, _ => ⟨hc5, hg5, hk5, hs5, hd5, ha5, sn, st, hm5⟩
      | 6, _ => ⟨hc6, hg6, hk6, hs6, hd6, ha6, sn, st, hm6⟩
      | 7, _ => ⟨hc7, hg7, hk7, hs7, hd7, ha7, sn, st, hm7⟩
      | 8, _ => ⟨hc8, hg8, hk8, hs8, hd8, ha8, sn, st, hm8⟩
      | 9, _ => ⟨hc9, hg9, hk9, hs9, hd9, ha9, sn, st, hm9⟩ }
  have oT : OexC K c0 := ⟨⟨_, _, _, _, _, _, _, _, _, _, _, _, _, _, _, xT, rfl⟩, saT, hs0, ht0, kcT⟩
  have FT : FunD K "__init__" "NoText.__init__" (defArgs iText) (defBody iText) (defScope iText) [.int 0] [] fT _ := ⟨⟨_, _, _, _, _, _, _, _, _, _, rfl, lfT, cfT, .inr ⟨by simp, _, _, _, _, rfl, ldT, rfl, .cons ⟨_, rfl⟩ .nil⟩, .inl rfl⟩, kfT⟩
  have oR : OexC K c1 := ⟨⟨_, _, _, _, _, _, _, _, _, _, _, _, _, _, _, xR, rfl⟩, saR, hs1, ht1, kcR⟩
  have FR : FunD K "__init__" "NoTree.__init__" (defArgs iTree) (defBody iTree) (defScope iTree) [.ref e0, .str ""] [] fR _ := ⟨⟨_, _, _, _, _, _, _, _, _, _, rfl, lfR, cfR, .inr ⟨by simp, _, _, _, _, rfl, ldR, rfl, .cons rfl (.cons ⟨_, rfl⟩ .nil)⟩, .inl rfl⟩, kfR⟩
  have oN : OexC K c3 := ⟨⟨_, _, _, _, _, _, _, _, _, _, _, _, _, _, _, xN, rfl⟩, saN, hs3, ht3, kcN⟩
  have FN : FunD K "__init__" "NoNaming.__init__" (defArgs iNaming) (defBody iNaming) (defScope iNaming) [.non, .non] [] fN _ := ⟨⟨_, _, _, _, _, _, _, _, _, _, rfl, lfN, cfN, .inr ⟨by simp, _, _, _, _, rfl, ldN, rfl, .cons rfl (.cons rfl .nil)⟩, .inl rfl⟩, kfN⟩
  have L : Cl K (fun i => [c0, c1, c2, c3, c4, c5, c6, c7, c8, c9].getD i 0) fT fR fN e0 _ _ _ := {
    oT := oT, oR := oR, oN := oN, iT := icT, iR := icR, iN := icN, tT := tiT, tR := tiR, tN := tiN, FT := FT, FR := FR, FN := FN, nAt := nTat, nPath := nRpath, nWhy := nRwhy, nOne := nNone, nOther := nNother
    x := fun i hi => by
      simp only [List.mem_cons, List.mem_nil_iff, or_false] at hi
      rcases hi with rfl | rfl | rfl | rfl | rfl | rfl | rfl
      · exact xc2
      · exact xc4
      · exact xc5
      · exact xc6
      · exact xc7
      · exact xc8
      · exact xc9
    k := fun i hi => by
      simp only [List.mem_cons, List.mem_nil_iff, or_false] at hi
      rcases hi with rfl | rfl | rfl | rfl | rfl | rfl | rfl
      · exact kc2
      · exact kc4
      · exact kc5
      · exact kc6
      · exact kc7
      · exact kc8
      · exact kc9
    e0 := fun H => .inr ⟨_, _, _, le0, rfl, rfl, by decide, .nil⟩ }
  have DM := fun_mk (st := sMixed) alM acM akM
  have DC := fun_mk (st := sCell) alC acC akC
  have DK := fun_mk (st := sTake) alK acK akK
  have DO := fun_mk (st := sOnly) alO acO akO
  have DB := fun_mk (st := sBare) alB acB akB
  have DS := fun_mk (st := sNames) alS acS akS
  have DW := fun_mk (st := sLaw) alW acW akW
  have BM := DM.binds (ps := ["cell", "k"]) fun _ _ _ _ _ _ us hl => match us, hl with | [_, _], _ => rfl
  have BC := DC.binds (ps := ["script", "k"]) fun _ _ _ _ _ _ us hl => match us, hl with | [_, _], _ => rfl
  have BK := DK.binds (ps := ["pile", "size"]) fun _ _ _ _ _ _ us hl => match us, hl with | [_, _], _ => rfl
  have BO := DO.binds (ps := ["caught", "name"]) fun _ _ _ _ _ _ us hl => match us, hl with | [_, _], _ => rfl
  have BB := DB.binds (ps := []) fun _ _ _ _ _ _ us hl => match us, hl with | [], _ => rfl
  have BS := DS.binds (ps := []) fun _ _ _ _ _ _ us hl => match us, hl with | [], _ => rfl
  have DD : Defs K mg afM afC afK afO afB afS _ _ _ _ _ _ := {
    FM := DM, FC := DC, FK := DK, FO := DO, FB := DB, FS := DS, gM := PySem.W.mg_of X G aM, gC := PySem.W.mg_of X G aC, gK := PySem.W.mg_of X G aK, gO := PySem.W.mg_of X G aO, gB := PySem.W.mg_of X G aB, gS := PySem.W.mg_of X G aS
    bM := BM, bC := BC, bK := BK, bO := BO, bB := BB, bS := BS, mL := PySem.W.mg_none_of X G zl, mR := PySem.W.mg_none_of X G zr, mT := PySem.W.mg_none_of X G zt }
  exact ⟨PySem.W.fnOf "law" "law" (defArgs sLaw) (defBody sLaw) (defScope sLaw) .none akVW adocW apmW aanW acdW actW, fun s u => .of_eq rfl, fun base _ _ => ok_law DW T L DD⟩
end My
open PySem PySem.W PyProof.Rows
set_option maxRecDepth 100000 in
set_option maxHeartbeats 0 in
theorem PySem.Challenge.cw_leanscript_k14_refusals_holds : PySem.Challenge.rw_leanscript_k14_refusals.Holds := by
  w_on; o_law; k_head; (case hw => w_witness2)
  k_fill
  refine L2.walk_ofK (l := PySem.Challenge.rw_leanscript_k14_refusals) (n := 63) (k := 4) (x := "script") (CX := L2.CX0) (sp := My.spLaw) rfl (by decide) rfl ⟨rfl, by decide, by decide⟩ (fun w h Y => PySem.W.kIn_of Y) ?F (fun K H a ns _ _ hS => ⟨a, ns, rfl, hS, fun _ => rfl⟩) (fun _ _ _ _ z => z)
  case F =>
    intro w mg fa h KX G hmg
    refine' My.all_mk KX G hmg ?my_g0 ?my_g1 ?my_g2 ?my_g3 ?my_g4 ?my_g5 ?my_g6 ?my_g7 ?my_g8 ?my_g9 ?my_gL ?my_zI ?my_zZ ?my_zK ?my_zA ?my_zV ?my_zl ?my_zr ?my_zt ?my_sn ?my_st ?my_hc0 ?my_hg0 ?my_hk0 ?my_hs0 ?my_hd0 ?my_ha0 ?my_hm0 ?my_ht0 ?my_sK0 ?my_sA0 ?my_sV0 ?my_sL0 ?my_s0_1 ?my_s0_2 ?my_s0_3 ?my_s0_4 ?my_s0_5 ?my_s0_6 ?my_s0_7 ?my_s0_8 ?my_s0_9 ?my_hc1 ?my_hg1 ?my_hk1 ?my_hs1 ?my_hd1 ?my_ha1 ?my_hm1 ?my_ht1 ?my_sK1 ?my_sA1 ?my_sV1 ?my_sL1 ?my_s1_0 ?my_s1_2 ?my_s1_3 ?my_s1_4 ?my_s1_5 ?my_s1_6 ?my_s1_7 ?my_s1_8 ?my_s1_9 ?my_hc2 ?my_hg2 ?my_hk2 ?my_hs2 ?my_hd2 ?my_ha2 ?my_hm2 ?my_ht2 ?my_sK2 ?my_sA2 ?my_sV2 ?my_sL2 ?my_s2_0 ?my_s2_1 ?my_s2_3 ?my_s2_4 ?my_s2_5 ?my_s2_6 ?my_s2_7 ?my_s2_8 ?my_s2_9 ?my_hc3 ?my_hg3 ?my_hk3 ?my_hs3 ?my_hd3 ?my_ha3 ?my_hm3 ?my_ht3 ?my_sK3 ?my_sA3 ?my_sV3 ?my_sL3 ?my_s3_0 ?my_s3_1 ?my_s3_2 ?my_s3_4 ?my_s3_5 ?my_s3_6 ?my_s3_7 ?my_s3_8 ?my_s3_9 ?my_hc4 ?my_hg4 ?my_hk4 ?my_hs4 ?my_hd4 ?my_ha4 ?my_hm4 ?my_ht4 ?my_sK4 ?my_sA4 ?my_sV4 ?my_sL4 ?my_s4_0 ?my_s4_1 ?my_s4_2 ?my_s4_3 ?my_s4_5 ?my_s4_6 ?my_s4_7 ?my_s4_8 ?my_s4_9 ?my_hc5 ?my_hg5 ?my_hk5 ?my_hs5 ?my_hd5 ?my_ha5 ?my_hm5 ?my_ht5 ?my_sK5 ?my_sA5 ?my_sV5 ?my_sL5 ?my_s5_0 ?my_s5_1 ?my_s5_2 ?my_s5_3 ?my_s5_4 ?my_s5_6 ?my_s5_7 ?my_s5_8 ?my_s5_9 ?my_hc6 ?my_hg6 ?my_hk6 ?my_hs6 ?my_hd6 ?my_ha6 ?my_hm6 ?my_ht6 ?my_sK6 ?my_sA6 ?my_sV6 ?my_sL6 ?my_s6_0 ?my_s6_1 ?my_s6_2 ?my_s6_3 ?my_s6_4 ?my_s6_5 ?my_s6_7 ?my_s6_8 ?my_s6_9 ?my_hc7 ?my_hg7 ?my_hk7 ?my_hs7 ?my_hd7 ?my_ha7 ?my_hm7 ?my_ht7 ?my_sK7 ?my_sA7 ?my_sV7 ?my_sL7 ?my_s7_0 ?my_s7_1 ?my_s7_2 ?my_s7_3 ?my_s7_4 ?my_s7_5 ?my_s7_6 ?my_s7_8 ?my_s7_9 ?my_hc8 ?my_hg8 ?my_hk8 ?my_hs8 ?my_hd8 ?my_ha8 ?my_hm8 ?my_ht8 ?my_sK8 ?my_sA8 ?my_sV8 ?my_sL8 ?my_s8_0 ?my_s8_1 ?my_s8_2 ?my_s8_3 ?my_s8_4 ?my_s8_5 ?my_s8_6 ?my_s8_7 ?my_s8_9 ?my_hc9 ?my_hg9 ?my_hk9 ?my_hs9 ?my_hd9 ?my_ha9 ?my_hm9 ?my_ht9 ?my_sK9 ?my_sA9 ?my_sV9 ?my_sL9 ?my_s9_0 ?my_s9_1 ?my_s9_2 ?my_s9_3 ?my_s9_4 ?my_s9_5 ?my_s9_6 ?my_s9_7 ?my_s9_8 ?my_cL1 ?my_cL2 ?my_xT ?my_saT ?my_kcT ?my_icT ?my_tiT ?my_lfT ?my_cfT ?my_kfT ?my_ldT ?my_nTat ?my_xR ?my_saR ?my_kcR ?my_icR ?my_tiR ?my_lfR ?my_cfR ?my_kfR ?my_ldR ?my_nRpath ?my_nRwhy ?my_xN ?my_saN ?my_kcN ?my_icN ?my_tiN ?my_lfN ?my_cfN ?my_kfN ?my_ldN ?my_nNone ?my_nNother ?my_le0 ?my_xc2 ?my_kc2 ?my_xc4 ?my_kc4 ?my_xc5 ?my_kc5 ?my_xc6 ?my_kc6 ?my_xc7 ?my_kc7 ?my_xc8 ?my_kc8 ?my_xc9 ?my_kc9 ?my_aM ?my_alM ?my_acM ?my_akM ?my_aC ?my_alC ?my_acC ?my_akC ?my_aK ?my_alK ?my_acK ?my_akK ?my_aO ?my_alO ?my_acO ?my_akO ?my_aB ?my_alB ?my_acB ?my_akB ?my_aS ?my_alS ?my_acS ?my_akS ?my_aW ?my_alW ?my_acW ?my_akW ?my_sf0 ?my_sf1 ?my_sf2 ?my_sf3 ?my_sf4 ?my_sf5 ?my_sf6 ?my_sf7 ?my_sf8 ?my_sf9
    (case my_g0 => k_is)
    (case my_g1 => k_is)
    (case my_g2 => k_is)
    (case my_g3 => k_is)
    (case my_g4 => k_is)
    (case my_g5 => k_is)
    (case my_g6 => k_is)
    (case my_g7 => k_is)
    (case my_g8 => k_is)
    (case my_g9 => k_is)
    (case my_gL => k_is)
    (case my_zI => k_is)
    (case my_zZ => k_is)
    (case my_zK => k_is)
    (case my_zA => k_is)
    (case my_zV => k_is)
    (case my_zl => k_is)
    (case my_zr => k_is)
    (case my_zt => k_is)
    (case my_sn => k_is)
    (case my_st => k_is)
    (case my_hc0 => k_is)
    (case my_hg0 => k_is)
    (case my_hk0 => k_is)
    (case my_hs0 => k_is)
    (case my_hd0 => k_is)
    (case my_ha0 => k_is)
    (case my_hm0 => k_is)
    (case my_ht0 => k_is)
    (case my_sK0 => k_is)
    (case my_sA0 => k_is)
    (case my_sV0 => k_is)
    (case my_sL0 => k_is)
    (case my_s0_1 => k_is)
    (case my_s0_2 => k_is)
    (case my_s0_3 => k_is)
    (case my_s0_4 => k_is)
    (case my_s0_5 => k_is)
    (case my_s0_6 => k_is)
    (case my_s0_7 => k_is)
    (case my_s0_8 => k_is)
    (case my_s0_9 => k_is)
    (case my_hc1 => k_is)
    (case my_hg1 => k_is)
    (case my_hk1 => k_is)
    (case my_hs1 => k_is)
    (case my_hd1 => k_is)
    (case my_ha1 => k_is)
    (case my_hm1 => k_is)
    (case my_ht1 => k_is)
    (case my_sK1 => k_is)
    (case my_sA1 => k_is)
    (case my_sV1 => k_is)
    (case my_sL1 => k_is)
    (case my_s1_0 => k_is)
    (case my_s1_2 => k_is)
    (case my_s1_3 => k_is)
    (case my_s1_4 => k_is)
    (case my_s1_5 => k_is)
    (case my_s1_6 => k_is)
    (case my_s1_7 => k_is)
    (case my_s1_8 => k_is)
    (case my_s1_9 => k_is)
    (case my_hc2 => k_is)
    (case my_hg2 => k_is)
    (case my_hk2 => k_is)
    (case my_hs2 => k_is)
    (case my_hd2 => k_is)
    (case my_ha2 => k_is)
    (case my_hm2 => k_is)
    (case my_ht2 => k_is)
    (case my_sK2 => k_is)
    (case my_sA2 => k_is)
    (case my_sV2 => k_is)
    (case my_sL2 => k_is)
    (case my_s2_0 => k_is)
    (case my_s2_1 => k_is)
    (case my_s2_3 => k_is)
    (case my_s2_4 => k_is)
    (case my_s2_5 => k_is)
    (case my_s2_6 => k_is)
    (case my_s2_7 => k_is)
    (case my_s2_8 => k_is)
    (case my_s2_9 => k_is)
    (case my_hc3 => k_is)
    (case my_hg3 => k_is)
    (case my_hk3 => k_is)
    (case my_hs3 => k_is)
    (case my_hd3 => k_is)
    (case my_ha3 => k_is)
    (case my_hm3 => k_is)
    (case my_ht3 => k_is)
    (case my_sK3 => k_is)
    (case my_sA3 => k_is)
    (case my_sV3 => k_is)
    (case my_sL3 => k_is)
    (case my_s3_0 => k_is)
    (case my_s3_1 => k_is)
    (case my_s3_2 => k_is)
    (case my_s3_4 => k_is)
    (case my_s3_5 => k_is)
    (case my_s3_6 => k_is)
    (case my_s3_7 => k_is)
    (case my_s3_8 => k_is)
    (case my_s3_9 => k_is)
    (case my_hc4 => k_is)
    (case my_hg4 => k_is)
    (case my_hk4 => k_is)
    (case my_hs4 => k_is)
    (case my_hd4 => k_is)
    (case my_ha4 => k_is)
    (case my_hm4 => k_is)
    (case my_ht4 => k_is)
    (case my_sK4 => k_is)
    (case my_sA4 => k_is)
    (case my_sV4 => k_is)
    (case my_sL4 => k_is)
    (case my_s4_0 => k_is)
    (case my_s4_1 => k_is)
    (case my_s4_2 => k_is)
    (case my_s4_3 => k_is)
    (case my_s4_5 => k_is)
    (case my_s4_6 => k_is)
    (case my_s4_7 => k_is)
    (case my_s4_8 => k_is)
    (case my_s4_9 => k_is)
    (case my_hc5 => k_is)
    (case my_hg5 => k_is)
    (case my_hk5 => k_is)
    (case my_hs5 => k_is)
    (case my_hd5 => k_is)
    (case my_ha5 => k_is)
    (case my_hm5 => k_is)
    (case my_ht5 => k_is)
    (case my_sK5 => k_is)
    (case my_sA5 => k_is)
    (case my_sV5 => k_is)
    (case my_sL5 => k_is)
    (case my_s5_0 => k_is)
    (case my_s5_1 => k_is)
    (case my_s5_2 => k_is)
    (case my_s5_3 => k_is)
    (case my_s5_4 => k_is)
    (case my_s5_6 => k_is)
    (case my_s5_7 => k_is)
    (case my_s5_8 => k_is)
    (case my_s5_9 => k_is)
    (case my_hc6 => k_is)
    (case my_hg6 => k_is)
    (case my_hk6 => k_is)
    (case my_hs6 => k_is)
    (case my_hd6 => k_is)
    (case my_ha6 => k_is)
    (case my_hm6 => k_is)
    (case my_ht6 => k_is)
    (case my_sK6 => k_is)
    (case my_sA6 => k_is)
    (case my_sV6 => k_is)
    (case my_sL6 => k_is)
    (case my_s6_0 => k_is)
    (case my_s6_1 => k_is)
    (case my_s6_2 => k_is)
    (case my_s6_3 => k_is)
    (case my_s6_4 => k_is)
    (case my_s6_5 => k_is)
    (case my_s6_7 => k_is)
    (case my_s6_8 => k_is)
    (case my_s6_9 => k_is)
    (case my_hc7 => k_is)
    (case my_hg7 => k_is)
    (case my_hk7 => k_is)
    (case my_hs7 => k_is)
    (case my_hd7 => k_is)
    (case my_ha7 => k_is)
    (case my_hm7 => k_is)
    (case my_ht7 => k_is)
    (case my_sK7 => k_is)
    (case my_sA7 => k_is)
    (case my_sV7 => k_is)
    (case my_sL7 => k_is)
    (case my_s7_0 => k_is)
    (case my_s7_1 => k_is)
    (case my_s7_2 => k_is)
    (case my_s7_3 => k_is)
    (case my_s7_4 => k_is)
    (case my_s7_5 => k_is)
    (case my_s7_6 => k_is)
    (case my_s7_8 => k_is)
    (case my_s7_9 => k_is)
    (case my_hc8 => k_is)
    (case my_hg8 => k_is)
    (case my_hk8 => k_is)
    (case my_hs8 => k_is)
    (case my_hd8 => k_is)
    (case my_ha8 => k_is)
    (case my_hm8 => k_is)
    (case my_ht8 => k_is)
    (case my_sK8 => k_is)
    (case my_sA8 => k_is)
    (case my_sV8 => k_is)
    (case my_sL8 => k_is)
    (case my_s8_0 => k_is)
    (case my_s8_1 => k_is)
    (case my_s8_2 => k_is)
    (case my_s8_3 => k_is)
    (case my_s8_4 => k_is)
    (case my_s8_5 => k_is)
    (case my_s8_6 => k_is)
    (case my_s8_7 => k_is)
    (case my_s8_9 => k_is)
    (case my_hc9 => k_is)
    (case my_hg9 => k_is)
    (case my_hk9 => k_is)
    (case my_hs9 => k_is)
    (case my_hd9 => k_is)
    (case my_ha9 => k_is)
    (case my_hm9 => k_is)
    (case my_ht9 => k_is)
    (case my_sK9 => k_is)
    (case my_sA9 => k_is)
    (case my_sV9 => k_is)
    (case my_sL9 => k_is)
    (case my_s9_0 => k_is)
    (case my_s9_1 => k_is)
    (case my_s9_2 => k_is)
    (case my_s9_3 => k_is)
    (case my_s9_4 => k_is)
    (case my_s9_5 => k_is)
    (case my_s9_6 => k_is)
    (case my_s9_7 => k_is)
    (case my_s9_8 => k_is)
    (case my_cL1 => k_is)
    (case my_cL2 => k_is)
    (case my_xT => k_is)
    (case my_saT => k_is)
    (case my_kcT => k_is)
    (case my_icT => k_is)
    (case my_tiT => k_is)
    (case my_lfT => k_is)
    (case my_cfT => k_is)
    (case my_kfT => k_is)
    (case my_ldT => k_is)
    (case my_nTat => k_is)
    (case my_xR => k_is)
    (case my_saR => k_is)
    (case my_kcR => k_is)
    (case my_icR => k_is)
    (case my_tiR => k_is)
    (case my_lfR => k_is)
    (case my_cfR => k_is)
    (case my_kfR => k_is)
    (case my_ldR => k_is)
    (case my_nRpath => k_is)
    (case my_nRwhy => k_is)
    (case my_xN => k_is)
    (case my_saN => k_is)
    (case my_kcN => k_is)
    (case my_icN => k_is)
    (case my_tiN => k_is)
    (case my_lfN => k_is)
    (case my_cfN => k_is)
    (case my_kfN => k_is)
    (case my_ldN => k_is)
    (case my_nNone => k_is)
    (case my_nNother => k_is)
    (case my_le0 => k_is)
    (case my_xc2 => k_exc)
    (case my_kc2 => k_is)
    (case my_xc4 => k_exc)
    (case my_kc4 => k_is)
    (case my_xc5 => k_exc)
    (case my_kc5 => k_is)
    (case my_xc6 => k_exc)
    (case my_kc6 => k_is)
    (case my_xc7 => k_exc)
    (case my_kc7 => k_is)
    (case my_xc8 => k_exc)
    (case my_kc8 => k_is)
    (case my_xc9 => k_exc)
    (case my_kc9 => k_is)
    (case my_aM => k_is)
    (case my_alM => k_is)
    (case my_acM => k_is)
    (case my_akM => k_is)
    (case my_aC => k_is)
    (case my_alC => k_is)
    (case my_acC => k_is)
    (case my_akC => k_is)
    (case my_aK => k_is)
    (case my_alK => k_is)
    (case my_acK => k_is)
    (case my_akK => k_is)
    (case my_aO => k_is)
    (case my_alO => k_is)
    (case my_acO => k_is)
    (case my_akO => k_is)
    (case my_aB => k_is)
    (case my_alB => k_is)
    (case my_acB => k_is)
    (case my_akB => k_is)
    (case my_aS => k_is)
    (case my_alS => k_is)
    (case my_acS => k_is)
    (case my_akS => k_is)
    (case my_aW => k_is)
    (case my_alW => k_is)
    (case my_acW => k_is)
    (case my_akW => k_is)
    (case my_sf0 => k_is)
    (case my_sf1 => k_is)
    (case my_sf2 => k_is)
    (case my_sf3 => k_is)
    (case my_sf4 => k_is)
    (case my_sf5 => k_is)
    (case my_sf6 => k_is)
    (case my_sf7 => k_is)
    (case my_sf8 => k_is)
    (case my_sf9 => k_is)
