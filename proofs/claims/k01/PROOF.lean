import PyProof.Rows.All
import Wide.All
import OpenK.AllK
import Wide.FinOn
import PyProof.EqAt
import PyProof.EqKinds
import PyProof.TupleCall
import KE.KExcIs
import HandS.ForMost
import HandS.Exc
import HandS.ExcOwn
import HandS.WordsExc
import HandS.ExcInit
import HandS.ExcValue
import HandS.Defaults
import HandS.IsInst
import HandS.Wide
import HandS.Walk
import HandS.Style
import HandS.MakeKw
import HandS.Codes
import HandS.Text
import HandS.Steps
import PySem.Challenge.RW_leanscript_k01_words_of_texts
set_option Elab.async false
set_option linter.all false
set_option maxRecDepth 100000
set_option maxHeartbeats 8000000
namespace XR
open PySem PySem.Spec PyProof.Rows L2

/-- an exception's object, by its class and its dict -/
def ExAt (H : Hp) (a C : Addr) (d : Option Addr) : Prop := ∃ phi : Heap → Prop, H a = some (.ext phi) ∧
  ∀ h, phi h → ∃ (oe : Obj) (vs : Array Value), h.get? a = some oe ∧ oe.cls = .ref C ∧ oe.dict = d ∧ oe.data = .fields vs
/-- its own dict -/
def DcAt (H : Hp) (dd : Addr) (fs : List (Str × V)) : Prop := H dd = some (.xd fs) ∨ H dd = some (exd dd fs)
def ExIn (H : Hp) (a C : Addr) : Prop := ExAt H a C none ∨ ∃ dd fs, ExAt H a C (some dd) ∧ DcAt H dd fs
theorem exAt_exo {H : Hp} {a C : Addr} {d : Option Addr} (h : H a = some (exo a C d)) : ExAt H a C d := ⟨_, h, fun _ ⟨_, e⟩ => ⟨_, _, e, rfl, rfl, rfl⟩⟩
theorem exAt_ExO {H : Hp} {a C : Addr} (h : H a = some (ExO (.ref C) a)) : ExAt H a C none := ⟨_, h, fun _ ⟨_, _, e, z, d, _⟩ => ⟨_, _, e, z.1, z.2, d⟩⟩
theorem ExAt.same {H H' : Hp} {a C : Addr} {d : Option Addr} (h : ExAt H a C d) (k : Same H H') : ExAt H' a C d := let ⟨p, e, q⟩ := h; ⟨p, k _ _ e, q⟩
theorem DcAt.same {H H' : Hp} {dd : Addr} {fs : List (Str × V)} (h : DcAt H dd fs) (k : Same H H') : DcAt H' dd fs := h.elim (fun e => .inl (k _ _ e)) fun e => .inr (k _ _ e)
theorem ExIn.same {H H' : Hp} {a C : Addr} (h : ExIn H a C) (k : Same H H') : ExIn H' a C := h.elim (fun e => .inl (e.same k)) fun ⟨dd, fs, e, f⟩ => .inr ⟨dd, fs, e.same k, f.same k⟩

section
variable {X : Cx} {pins : List (Addr × Obj)} {σ : L2.St} {H : Hp} {s : Shared}
theorem dc_ns {dd : Addr} {fs : List (Str × V)} (I : Inv X pins σ H s) (h : DcAt H dd fs) : ∃ mA, s.heap.Ns1 dd mA ∧ ∀ f, RelO (fs.lookup f) (mA f) := by
  rcases h with h | h
  · exact I.hok dd _ h
  · exact exd_at I.hok h
theorem ex_obj {a C : Addr} {d : Option Addr} (I : Inv X pins σ H s) (h : ExAt H a C d) : ∃ (oe : Obj) (vs : Array Value), s.heap.get? a = some oe ∧ oe.cls = .ref C ∧ oe.dict = d ∧ oe.data = .fields vs := by
  obtain ⟨p, e, q⟩ := h
  have x : ObjOk X.prog X.w H s.heap a (.ext p) := I.hok a _ e
  exact q _ x.1
theorem inst_of {a C : Addr} (I : Inv X pins σ H s) (h : ExIn H a C) : ∃ (oe : Obj) (od : Option Obj), PySem.W.InstAt s.heap a oe C od := by
  rcases h with h | ⟨dd, fs, h, k⟩
  · obtain ⟨oe, vs, e, c, d, t⟩ := ex_obj I h
    exact ⟨oe, none, ⟨e, c, by unfold PySem.W.notCls; rw [t] <;> rfl, by rw [d] <;> trivial⟩⟩
  · obtain ⟨oe, vs, e, c, d, t⟩ := ex_obj I h
    obtain ⟨mA, hns, hr⟩ := dc_ns I k
    obtain ⟨od, ho, hl⟩ := lookIn_ns hns
    exact ⟨oe, some od, ⟨e, c, by unfold PySem.W.notCls; rw [t] <;> rfl, by rw [d]; exact ho⟩⟩
/-- what the class must say, so that isinstance asks its instances rightly -/
structure ExcK (K : PySem.W.Frag) (C : Addr) : Prop where
  hc : (PySem.W.clsIn K C).isSome = true
  hg : PySem.W.findIn K (.ref C) "__getattribute__" = some (some (.builtin "BaseException.__getattribute__"))
  hk : PySem.W.findIn K (.ref C) "__getattr__" = some none
  hs : PySem.W.subIn K (.ref C) (.type "BaseException") = some true
  hd : PySem.W.hasDictIn K C = true
  ha : PySem.W.findIn K (.ref C) "__class__" = some (some (.builtin "object.__class__"))
  hn : PySem.W.specialIn K (.builtin "object.__class__") "__get__" = some (some (.builtin "getset_descriptor.__get__"))
  ht : PySem.W.takesIn K (.builtin "object.__class__") = some true
  hm : PySem.W.mroIn K C (.type "object") = some true
/-- isinstance(x, T), x an exception of the class at C -/
def rIsX (K : PySem.W.Frag) : List V → Hp → VK → Prop := fun xs H Q => ∃ (a C : Addr) (c : V) (u : Value) (b : Bool), xs = [.ref a, c] ∧ ClsV c u ∧ ExIn H a C ∧ ExcK K C ∧ PySem.W.kitOne K (.ref C) u = some b ∧ Q (.bl b) H
theorem call_isX : CallR X (.builtin "isinstance") (rIsX X.K) := by
  intro pins s σ H xs us Q I r h
  obtain ⟨a, C, c, u, b, rfl, k, ex, T, e, q⟩ := h
  obtain ⟨u1, u2, rfl, r1, r2⟩ := vals2 r
  have e2 := k.eq r2
  subst e2
  cases (show u1 = Value.ref a from r1)
  obtain ⟨oe, od, J⟩ := inst_of I ex
  exact PySem.W.kia_one (PySem.W.kitx_exc T.hc T.hg T.hk T.hs T.ha T.hn T.ht T.hm) I.kIn J e (fun z => nomatch z) fun tk => ⟨.bl b, H, I.tok tk, rfl, q⟩
/-- x.f, x an exception that has its dict -/
def tXfl (K : PySem.W.Frag) (f : Str) (te : TE) : TE := fun σ H Q => te σ H fun x H1 => ∃ (a C dd : Addr) (fs : List (Str × V)) (v : V), x = .ref a ∧ ExAt H1 a C (some dd) ∧ DcAt H1 dd fs ∧ ExcK K C ∧ PySem.W.findIn K (.ref C) f = some none ∧ fs.lookup f = some v ∧ Q v H1
theorem pe_xfl {e : Expr} {te : TE} {pos : Pos} {f : Str} (he : PE X e te) (hb : attributeBase e f X.env (eval e X.env) = eval e X.env := by rfl) : PE X (.Attribute e f pos) (tXfl X.K f te) := by
  refine ⟨fun pins s σ H Q I h => ?_⟩
  refine attr_of hb (thn (he.run pins s σ H _ I h) fun u s1 hh => ?_)
  obtain ⟨x, H1, I1, rx, a, C, dd, fs, v, ex, ea, ed, T, hno, l, q⟩ := hh
  subst ex
  obtain rfl : u = Value.ref a := rx
  obtain ⟨oe, vs, e1, c1, d1, t1⟩ := ex_obj I1 ea
  obtain ⟨mA, hns, hr⟩ := dc_ns I1 ed
  obtain ⟨od, ho, hl⟩ := lookIn_ns hns
  obtain ⟨u, hu, ru⟩ := RelO.some_of (v := v) (o := mA f) (by rw [← l]; exact hr f)
  have J : PySem.W.InstAt s1.heap a oe C (some od) := ⟨e1, c1, by unfold PySem.W.notCls; rw [t1] <;> rfl, by rw [d1]; exact ho⟩
  exact HandSPX.exc_get I1.kIn J T.hg T.hk T.hs (PySem.W.findObj_own T.hd hno rfl (by rw [hl, hu])) (handed_of ru) ⟨v, H1, I1.tok _, ru, q⟩
end

/-! ### C(e, ..) as a value, C's own __init__ keeping sp -/
def tMkX (C : Addr) (sp : Sp) (dvs : List V) (ta : TA) : TE := fun σ H Q => ta σ H fun vs H1 => vs.length ≤ 1000 ∧ ∀ a, H1 a = none → sp (.ref a :: (vs ++ dvs)) (upd H1 a (exo a C none)) (fun v H2 => v = .non ∧ Q (.ref a) H2) (fun _ _ _ => False)
section
variable {X : Cx} {CX : CXT} {k : Nat} {C fI : Addr} {fd : FuncData} {ps : List Str} {sp : Sp} {ds : List Value} {dvs : List V} {x : Str} {p pos : Pos} {e : Expr} {es : List Expr} {ta : TA}
theorem run_mkX {pins : List (Addr × Obj)} {σ : L2.St} {H : Hp} {s : Shared} {Q : VK} {us : List Value} {vs : List V} (T : OexC X.K C) (iC : PySem.W.findIn X.K (.ref C) "__init__" = some (some (.ref fI))) (tI : PySem.W.typeIn X.K (.ref fI) = some (.type "function"))
    (F1 : FnOk X.prog X.w X.K X.mg X.base CX k fI fd ps sp) (hr : Room (k + 1) X.A) (hb : Binds X.K fd ps ds) (hd : Vals dvs ds) (hx : Passes CX X (fun _ _ _ => False)) (I1 : Inv X pins σ H s) (r1 : Vals vs us) (hz : vs.length ≤ 1000)
    (q1 : ∀ a, H a = none → sp (.ref a :: (vs ++ dvs)) (upd H a (exo a C none)) (fun v H2 => v = .non ∧ Q (.ref a) H2) (fun _ _ _ => False)) :
    wpAny (model X.prog X.w) X.A (call (.ref C) us) (EP X pins σ Q) X.xe s := by
  obtain ⟨nm, q, N, bs, bm, sn, sub, ab, col, dd, k0, k1, k2, k3, k5, hC, hbm⟩ := T.cls
  obtain ⟨hp, g, dr, tk, os⟩ := s
  have hsz : hp.objs.size ≤ hp.objs.size + 1 := Nat.le_succ _
  have hn : H (hp.objs.size + 1) = none := I1.hok.fresh hsz
  have hq := q1 (hp.objs.size + 1) hn
  have kk : ∀ b o, hp.get? b = some o → ((hp.push (PySem.W.kdv_tup us)).push (PySem.HandSPX.excO C hp.objs.size)).get? b = some o := fun b o e => Heap.get?_push_of_some _ (Heap.get?_push_of_some _ e)
  have hget : ((hp.push (PySem.W.kdv_tup us)).push (PySem.HandSPX.excO C hp.objs.size)).get? (hp.objs.size + 1) = some (PySem.HandSPX.excO C hp.objs.size) := by heap_get
  have I2 : Inv X pins σ (upd H (hp.objs.size + 1) (exo (hp.objs.size + 1) C none)) ⟨(hp.push (PySem.W.kdv_tup us)).push (PySem.HandSPX.excO C hp.objs.size), g, dr, tk, os⟩ :=
    I1.laid (t' := tk) (a := hp.objs.size + 1) (o := exo (hp.objs.size + 1) C none) (h' := (hp.push (PySem.W.kdv_tup us)).push (PySem.HandSPX.excO C hp.objs.size)) kk hsz (exo_ok hget)
  have r2 : Vals (V.ref (hp.objs.size + 1) :: (vs ++ dvs)) (Value.ref (hp.objs.size + 1) :: (us ++ ds)) := .cons rfl (r1.append hd)
  have hl : (Value.ref (hp.objs.size + 1) :: us ++ ds).length = ps.length := by
    have e := r2.length
    rw [F1.len _ _ _ _ hq] at e
    exact e.symm
  have hus : us.length ≤ sizeLine := by
    rw [← Paired.length r1, sizeLine_eq]
    omega
  refine wpAny_call (PySem.HandSPX.call_own F.excBase_ValueError (fun Y => PySem.HandSPX.refsVE_contains Y bm hbm) (I1.kIn _ _ hC) (PySem.W.looks_findIn I1.kIn iC) (fun self => PySem.W.bind_fn I1.kIn self tI) hus
    (codeAny_mono (F1.run _ X.stack _ _ ⟨Value.ref (hp.objs.size + 1) :: us, []⟩ (Value.ref (hp.objs.size + 1) :: (us ++ ds)) _ _ (fun _ _ _ => False) (hr.make C us []) (I2.env0.make C us []) (hb _ (Value.ref (hp.objs.size + 1) :: us) I2.kIn hl) r2 hq) fun r s' hq' => ?_))
  cases r with
  | error er => exact hx pins σ _ _ er s' I2 hq'
  | ok fl =>
    cases fl with
    | ret u =>
      obtain ⟨v, H', I3, rv, ev, q3⟩ := I2.after hq'
      subst ev
      exact ⟨rv, ⟨V.ref (hp.objs.size + 1), H', I3, rfl, q3⟩⟩
    | next => exact False.elim hq'
    | brk => exact False.elim hq'
    | cont => exact False.elim hq'
theorem pe_mkX (T : OexC X.K C) (iC : PySem.W.findIn X.K (.ref C) "__init__" = some (some (.ref fI))) (tI : PySem.W.typeIn X.K (.ref fI) = some (.type "function"))
    (F1 : FnOk X.prog X.w X.K X.mg X.base CX k fI fd ps sp) (hr : Room (k + 1) X.A) (hb : Binds X.K fd ps ds) (hd : Vals dvs ds) (hx : Passes CX X (fun _ _ _ => False)) (hg : Gl X x) (hm : X.mg x = some (.ref C)) (ha : PA X (e :: es) ta)
    (hdb : (x == ("__debug__" : Str)) = false := by decide) (he : starEach (e :: es) X.env = (false, eval e X.env) :: starEach es X.env := by rfl) (hpl : (backTo pos (starEach es X.env)).any (·.1) = false := by rfl) :
    PE X (.Call (.Name x p) (e :: es) [] pos) (tMkX C sp dvs ta) := by
  refine ⟨fun pins s σ H Q I h => ?_⟩
  refine wpAny_Call_Name_kw (ld_glob I hg hm ?_ hdb)
  refine PySem.W.callWith_K (h₀ := X.base) I.ok.mod.kin T.kC (thn (ha.run pos pins s σ H _ I h) fun us s1 ⟨vs, H1, I1, r1, hz, q1⟩ => ⟨I1.kIn, ?_⟩) he hpl
  exact run_mkX T iC tI F1 hr hb hd hx I1 r1 hz q1
theorem pe_mkX0 (T : OexC X.K C) (iC : PySem.W.findIn X.K (.ref C) "__init__" = some (some (.ref fI))) (tI : PySem.W.typeIn X.K (.ref fI) = some (.type "function"))
    (F1 : FnOk X.prog X.w X.K X.mg X.base CX k fI fd ps sp) (hr : Room (k + 1) X.A) (hb : Binds X.K fd ps ds) (hd : Vals dvs ds) (hx : Passes CX X (fun _ _ _ => False)) (hg : Gl X x) (hm : X.mg x = some (.ref C))
    (hdb : (x == ("__debug__" : Str)) = false := by decide) : PE X (.Call (.Name x p) [] [] pos) (tMkX C sp dvs tNil) := by
  refine ⟨fun pins s σ H Q I h => ?_⟩
  refine wpAny_Call_Name_kw (ld_glob I hg hm ?_ hdb)
  obtain ⟨hz, q1⟩ := h
  exact PySem.W.callWith_K0 I.kIn T.kC (run_mkX (us := []) T iC tI F1 hr hb hd hx I .nil hz q1)
end
/-! ### a class without own __init__, made of nothing -/
section
variable {X : Cx}
theorem pe_exc0 {C : Addr} {bmB : List Value} {B newId initId : String} {x : Str} {p pos : Pos} (F : ExcBaseFacts B newId initId bmB) (q : PySem.W.excIn X.K C bmB newId = true) (gC : X.mg x = some (.ref C)) (kC : PySem.W.keepIn X.K (.ref C) = true) (hg : Gl X x)
    (hdb : (x == ("__debug__" : Str)) = false := by decide) :
    PE X (.Call (.Name x p) [] [] pos) (fun σ H Q => ∀ a, H a = none → Q (.ref a) (upd H a (ExO (.ref C) a))) := by
  refine ⟨fun pins s σ H Q I h => ?_⟩
  refine wpAny_Call_Name_kw (ld_glob I hg gC ?_ hdb)
  refine PySem.W.callWith_K0 I.kIn kC ?_
  obtain ⟨bm, N, nm, qn, bs, hdct, sn, sub, ab, col, dd, k0, k1, k2, k3, k5, mN, hC, hN, hni, T⟩ := exc_obj I.kIn q
  refine wpAny_call_exc_subT F T hC hN hni (fun h' a hm => ?_) (by show 0 ≤ sizeLine; omega)
  have hn : H a = none := I.hok.gone hm.new
  obtain ⟨t, ht, _, _⟩ := hm.there
  exact ⟨.ref a, upd H a (ExO (.ref C) a), I.laidN hm.keeps hm.new hn (exO_ok ht ⟨rfl, rfl⟩ rfl rfl rfl (show 4 < 6 by decide)), rfl, h a hn⟩
end
end XR

namespace XRK
open PySem PySem.Spec PySem.W PySem.Calls PyProof.Rows PySem.HandSPX
open Builtin Builtin.ObjectAttr
section
variable {M : Model} {A : Around} {E : Value → Shared → Prop} {h : Heap} {g : Array GenState} {d : Drawn} {t : Nat} {os : OsState}
variable {nm q : Str} {C N : Addr} {bs bm bmB : List Value} {hdct : Bool} {sn : List Str} {sub : List Value} {ab : Bool} {col : Option Bool} {dd : Option Addr} {k0 k1 k2 k3 k5 : Option Value} {B newId initId : String}
theorem check_new_ownK (F : ExcBaseFacts B newId initId bmB) (hT : ∀ X : String, bm.contains (.type X) = bmB.contains (.type X)) {rest : List Value} {kw : List (Str × Value)} {Q : Unit → Shared → Prop}
    (hC : h.get? C = some (excClassObj nm q C N bs bm hdct sn sub ab col dd k0 k1 k2 k3 k5 newId)) (hq : Q () ⟨h, g, d, t, os⟩) : wpAny M A (checkBuiltinCall newId ⟨.ref C :: rest, kw⟩) Q E ⟨h, g, d, t, os⟩ := by
  have hcont : (Value.ref C :: bm).contains (.type B) = true := by rw [List.contains_cons, hT, F.hasB, Bool.or_true]
  have hstar := F.noStar
  simp only [checkBuiltinCall, F.newKind, F.newSplit, F.newRow]
  repeat (first | refine wpAny_loadPart_at hC ?_ | (refine wpAny_isSubtype_exc hC ?_; rw [hcont]) | refine wpAny_staticBase_exc hC ?_ | refine wpAny_madeBy_exc hC ?_ | simp only [bne_self_eq_false, Bool.false_eq_true, if_false] | wp_step)
  exact hq
theorem check_type_callK {rest : List Value} {kw : List (Str × Value)} {newId : String} {Q : Unit → Shared → Prop} (hC : h.get? C = some (excClassObj nm q C N bs bm hdct sn sub ab col dd k0 k1 k2 k3 k5 newId))
    (hq : Q () ⟨h, g, d, t, os⟩) : wpAny M A (checkBuiltinCall "type.__call__" ⟨.ref C :: rest, kw⟩) Q E ⟨h, g, d, t, os⟩ := by
  have f3 := tc_sub
  have hT : (⟨h, g, d, t, os⟩ : Shared).TypeIs (.ref C) "type" := ⟨_, hC, rfl⟩
  simp only [checkBuiltinCall, tc_kind, tc_split]
  repeat (any_goals (first | assumption | with_reducible refine wpAny_loadPart_at hC ?_ | with_reducible refine wpAny_onRaise ?_ | with_reducible refine wpAny_map ?_ | wp_step))
end
section
variable {prog : Program} {w : World} {A : Around} {E : Value → Shared → Prop} {R : Result → Shared → Prop} {h : Heap} {g : Array GenState} {d : Drawn} {t : Nat} {os : OsState}
variable {nm q : Str} {C N : Addr} {bs bm bmB : List Value} {hdct : Bool} {sn : List Str} {sub : List Value} {ab : Bool} {col : Option Bool} {dd : Option Addr} {k0 k1 k2 k3 k5 : Option Value} {B newId initId : String}
theorem new_ownK (F : ExcBaseFacts B newId initId bmB) (hT : ∀ X : String, bm.contains (.type X) = bmB.contains (.type X)) {rest : List Value} {kw : List (Str × Value)}
    (hC : h.get? C = some (excClassObj nm q C N bs bm hdct sn sub ab col dd k0 k1 k2 k3 k5 newId))
    (hq : R (.ok (.ret (.ref (h.objs.size + 1)))) ⟨(h.push { cls := .type "tuple", data := .seq rest.toArray }).push
      { cls := .ref C, data := .fields #[.ref h.objs.size, .none, .none, .none, .bool false, .none] }, g, d, t, os⟩) (hrest : rest.length ≤ sizeLine) :
    codeAny (model prog w) A (.builtin newId ⟨.ref C :: rest, kw⟩) R ⟨h, g, d, t, os⟩ := by
  have hends := F.ends
  have hcB : (Value.ref C :: bm).contains (.type B) = true := by rw [List.contains_cons, hT, F.hasB, Bool.or_true]
  have hcA : (Value.ref C :: bm).contains (.type "AttributeError") = false := by rw [List.contains_cons, hT, F.noAttr]; rfl
  have hcN : (Value.ref C :: bm).contains (.type "NameError") = false := by rw [List.contains_cons, hT, F.noName]; rfl
  refine codeAny_builtinAt F.entry ?_
  unfold Builtin.«BaseException.__new__»
  refine PySem.wpAt_bind ?_
  show PySem.wpAt _ _ _ (stack >>= _) _ _ _
  refine PySem.wpAt_bind (PySem.wpAt_stack fun p below => PySem.wpAt_of_wpAny ?_)
  wp_walk
  refine PySem.wpAt_of_wpAny ?_
  rw [F.owner]
  repeat (first | with_reducible refine wpAny_madeHere_exc F.canon hC ?_ | with_reducible refine wpAny_loadPart_at hC ?_ | (with_reducible refine wpAny_isSubtype_exc hC ?_; first | rw [hcB] | rw [hcA] | rw [hcN]) | wp_step)
  show R _ _
  rw [Heap.size_push]
  exact hq
theorem type_call_ownK (F : ExcBaseFacts B newId initId bmB) (hT : ∀ X : String, bm.contains (.type X) = bmB.contains (.type X)) {rest : List Value} {kw : List (Str × Value)} {fI : Addr} {Q : Fin → Shared → Prop}
    (hC : h.get? C = some (excClassObj nm q C N bs bm hdct sn sub ab col dd k0 k1 k2 k3 k5 newId))
    (hi : W.Looks (model prog w) h (typeLookup (.ref C) "__init__") (some (.ref fI))) (hb : ∀ self, W.Looks (model prog w) h (bindSpecial (.ref fI) self) (.ref fI, [self])) (hrest : rest.length ≤ sizeLine)
    (hq : codeAny (model prog w) A (.call (.ref fI) ⟨.ref (h.objs.size + 1) :: rest, kw⟩)
      (fun r s' => match r with | .ok (.ret v) => v = .none ∧ Q (.done (.ret (.ref (h.objs.size + 1)))) s' | .ok _ => False | .error e => E e s')
      ⟨(h.push (W.kdv_tup rest)).push (excO C h.objs.size), g, d, t, os⟩) :
    wpAny (model prog w) A (Builtin.«type.__call__» ⟨.ref C :: rest, kw⟩) Q E ⟨h, g, d, t, os⟩ := by
  repeat (first | with_reducible refine wpAny_loadPart_at hC ?_ | with_reducible refine wpAny_madeBy_exc hC ?_ | wp_step)
  refine codeAny_call_builtin_code (Code.quiet_builtin _ F.quiet) (check_new_ownK F hT hC ?_)
  refine new_ownK F hT hC ?_ hrest
  show wpAny _ _ _ _ _ _
  have k : ∀ b o, h.get? b = some o → ((h.push (W.kdv_tup rest)).push (excO C h.objs.size)).get? b = some o := fun b o e => Heap.get?_push_of_some _ (Heap.get?_push_of_some _ e)
  have hC₁ := k _ _ hC
  have hget : ((h.push (W.kdv_tup rest)).push (excO C h.objs.size)).get? (h.objs.size + 1) = some (excO C h.objs.size) := by heap_get
  have hcC : (Value.ref C :: bm).contains (.ref C) = true := by simp
  have i1 := hi.keeps k
  have b1 := (hb (.ref (h.objs.size + 1))).keeps k
  unfold isInstance
  repeat (first | with_reducible refine wpAny_loadPart_at hget ?_ | (with_reducible refine wpAny_isSubtype_exc hC₁ ?_; rw [hcC]) | wp_step)
  show wpAny _ _ (typeLookup (.ref C) _) _ _ _
  refine i1.at ?_
  refine wpAny_holding (wpAny_bind (b1.at ?_))
  refine wpAny_bind (wpAny_call (codeAny_mono hq fun r s' z => ?_))
  rcases r with e | (v | _ | _ | _) <;> first | exact z | exact z.elim | skip
  obtain ⟨rfl, z⟩ := z
  first
    | exact wpAny_pure (wpAny_pure z)
    | (wp_walk; exact z)
theorem call_ownK (F : ExcBaseFacts B newId initId bmB) (hT : ∀ X : String, bm.contains (.type X) = bmB.contains (.type X)) {rest : List Value} {kw : List (Str × Value)} {fI : Addr}
    (hC : h.get? C = some (excClassObj nm q C N bs bm hdct sn sub ab col dd k0 k1 k2 k3 k5 newId))
    (hi : W.Looks (model prog w) h (typeLookup (.ref C) "__init__") (some (.ref fI))) (hb : ∀ self, W.Looks (model prog w) h (bindSpecial (.ref fI) self) (.ref fI, [self])) (hrest : rest.length ≤ sizeLine)
    (hq : codeAny (model prog w) (A.under (.builtin "type.__call__" ⟨.ref C :: rest, kw⟩)) (.call (.ref fI) ⟨.ref (h.objs.size + 1) :: rest, kw⟩) (W.InitBack (h.objs.size + 1) R)
      ⟨(h.push (W.kdv_tup rest)).push (excO C h.objs.size), g, d, t, os⟩) :
    codeAny (model prog w) A (.call (.ref C) ⟨rest, kw⟩) R ⟨h, g, d, t, os⟩ := by
  have f1 := tc_lookup
  have f2 := tc_bind (.ref C)
  have hTy : (⟨h, g, d, t, os⟩ : Shared).TypeIs (.ref C) "type" := ⟨_, hC, rfl⟩
  refine codeAny_of_tree ?_
  show wpAny _ _ (callAny (.ref C) _) _ _ _
  repeat (any_goals (first | assumption | with_reducible refine wpAny_loadPart_at hC ?_ | wp_step))
  refine ⟨rfl, ?_⟩
  refine codeAny_call_builtin_at (Code.quiet_builtin _ (by decide +kernel)) entry_typeCall (check_type_callK hC (type_call_ownK F hT hC hi hb hrest ?_))
  refine codeAny_mono hq fun r s' z => ?_
  rcases r with e | (v | _ | _ | _) <;> exact z
end
end XRK
namespace XR
open PySem PySem.Spec PyProof.Rows L2
/-- C(e, .., k = v, ..) as a value: n values and keywords ks -/
def tMkXK (C : Addr) (n m : Nat) (sp : Sp) (gV : List V → List V → List V) (t tk : TA) : TE := fun σ H Q => t σ H fun vs H1 => tk σ H1 fun zs H2 => vs.length = n ∧ zs.length = m ∧ n ≤ 1000 ∧
  ∀ a, H2 a = none → sp (gV (.ref a :: vs) zs) (upd H2 a (exo a C none)) (fun v H3 => v = .non ∧ Q (.ref a) H3) (fun _ _ _ => False)
section
variable {X : Cx} {CX : CXT} {k n : Nat} {C fI : Addr} {fd : FuncData} {ps ks : List Str} {sp : Sp} {x : Str} {p pos : Pos} {e : Expr} {es : List Expr} {kws : List Keyword} {t tk : TA} {g : List Value → List Value → List Value} {gV : List V → List V → List V}
theorem run_mkXK {pins : List (Addr × Obj)} {σ : L2.St} {H : Hp} {s : Shared} {Q : VK} {us ws : List Value} {vs zs : List V} (T : OexC X.K C) (iC : PySem.W.findIn X.K (.ref C) "__init__" = some (some (.ref fI))) (tI : PySem.W.typeIn X.K (.ref fI) = some (.type "function"))
    (F1 : FnOk X.prog X.w X.K X.mg X.base CX k fI fd ps sp) (hr : Room (k + 1) X.A) (hb : KBn X.K fd ps (n + 1) ks g gV) (hx : Passes CX X (fun _ _ _ => False)) (I1 : Inv X pins σ H s) (r : Vals vs us) (rz : Vals zs ws) (l1 : vs.length = n) (l2 : zs.length = ks.length) (hz : n ≤ 1000)
    (q1 : ∀ a, H a = none → sp (gV (.ref a :: vs) zs) (upd H a (exo a C none)) (fun v H2 => v = .non ∧ Q (.ref a) H2) (fun _ _ _ => False)) :
    wpAny (model X.prog X.w) X.A (call (.ref C) us (ks.zip ws)) (EP X pins σ Q) X.xe s := by
  obtain ⟨nm, q, N, bs, bm, sn, sub, ab, col, dd, k0, k1, k2, k3, k5, hC, hbm⟩ := T.cls
  obtain ⟨hp, g', dr, tk', os⟩ := s
  have hsz : hp.objs.size ≤ hp.objs.size + 1 := Nat.le_succ _
  have hn : H (hp.objs.size + 1) = none := I1.hok.fresh hsz
  have hq := q1 (hp.objs.size + 1) hn
  have kk : ∀ b o, hp.get? b = some o → ((hp.push (PySem.W.kdv_tup us)).push (PySem.HandSPX.excO C hp.objs.size)).get? b = some o := fun b o e => Heap.get?_push_of_some _ (Heap.get?_push_of_some _ e)
  have hget : ((hp.push (PySem.W.kdv_tup us)).push (PySem.HandSPX.excO C hp.objs.size)).get? (hp.objs.size + 1) = some (PySem.HandSPX.excO C hp.objs.size) := by heap_get
  have I2 : Inv X pins σ (upd H (hp.objs.size + 1) (exo (hp.objs.size + 1) C none)) ⟨(hp.push (PySem.W.kdv_tup us)).push (PySem.HandSPX.excO C hp.objs.size), g', dr, tk', os⟩ :=
    I1.laid (t' := tk') (a := hp.objs.size + 1) (o := exo (hp.objs.size + 1) C none) (h' := (hp.push (PySem.W.kdv_tup us)).push (PySem.HandSPX.excO C hp.objs.size)) kk hsz (exo_ok hget)
  have r1 : Vals (V.ref (hp.objs.size + 1) :: vs) (Value.ref (hp.objs.size + 1) :: us) := .cons rfl r
  have r2 := hb.rel r1 rz
  have e1 : (Value.ref (hp.objs.size + 1) :: us).length = n + 1 := r1.length.symm.trans (congrArg Nat.succ l1)
  have e2 : ws.length = ks.length := rz.length.symm.trans l2
  have hus : us.length ≤ sizeLine := by
    rw [← Paired.length r, sizeLine_eq]
    omega
  refine wpAny_call (XRK.call_ownK F.excBase_ValueError (fun Y => PySem.HandSPX.refsVE_contains Y bm hbm) (I1.kIn _ _ hC) (PySem.W.looks_findIn I1.kIn iC) (fun self => PySem.W.bind_fn I1.kIn self tI) hus
    (codeAny_mono (F1.run _ X.stack _ _ ⟨Value.ref (hp.objs.size + 1) :: us, ks.zip ws⟩ (g (Value.ref (hp.objs.size + 1) :: us) ws) _ _ (fun _ _ _ => False) (hr.make C us (ks.zip ws)) (I2.env0.make C us (ks.zip ws)) (hb.to _ (Value.ref (hp.objs.size + 1) :: us) ws I2.kIn e1 e2) r2 hq) fun r s' hq' => ?_))
  cases r with
  | error er => exact hx pins σ _ _ er s' I2 hq'
  | ok fl =>
    cases fl with
    | ret u =>
      obtain ⟨v, H', I3, rv, ev, q3⟩ := I2.after hq'
      subst ev
      exact ⟨rv, ⟨V.ref (hp.objs.size + 1), H', I3, rfl, q3⟩⟩
    | next => exact False.elim hq'
    | brk => exact False.elim hq'
    | cont => exact False.elim hq'
theorem pe_mkXK (T : OexC X.K C) (iC : PySem.W.findIn X.K (.ref C) "__init__" = some (some (.ref fI))) (tI : PySem.W.typeIn X.K (.ref fI) = some (.type "function"))
    (F1 : FnOk X.prog X.w X.K X.mg X.base CX k fI fd ps sp) (hr : Room (k + 1) X.A) (hb : KBn X.K fd ps (n + 1) ks g gV) (hx : Passes CX X (fun _ _ _ => False)) (hg : Gl X x) (hm : X.mg x = some (.ref C))
    (ha : PA X (e :: es) t) (hkw : PK X kws tk) (hall : (backToKw pos (keywordEach kws X.env)).all (·.1.isSome) = true := by rfl) (hks : (backToKw pos (keywordEach kws X.env)).filterMap (·.1) = ks := by rfl)
    (hdb : (x == ("__debug__" : Str)) = false := by decide) (he : starEach (e :: es) X.env = (false, eval e X.env) :: starEach es X.env := by rfl)
    (hpl : ((backTo pos (starEach (e :: es) X.env)).any (·.1) || (backToKw pos (keywordEach kws X.env)).any (·.1.isNone)) = false := by rfl) :
    PE X (.Call (.Name x p) (e :: es) kws pos) (tMkXK C n ks.length sp gV t tk) := by
  refine ⟨fun pins s σ H Q I h => ?_⟩
  refine wpAny_Call_Name_kw (ld_glob I hg hm ?_ hdb)
  refine PySem.W.callWith_KW (h₀ := X.base) I.ok.mod.kin T.kC hall (thn (ha.run pos pins s σ H _ I h) fun us s1 ⟨vs, H1, I1, r, q⟩ => ?_) hpl he
  refine thn (hkw.run pos pins s1 σ H1 _ I1 q) fun ws s2 ⟨zs, H2, I2, rz, l1, l2, l3, q2⟩ => ⟨I2.kIn, ?_⟩
  rw [hks]
  exact run_mkXK T iC tI F1 hr hb hx I2 r rz l1 l2 l3 q2
theorem pe_mkXK0 (T : OexC X.K C) (iC : PySem.W.findIn X.K (.ref C) "__init__" = some (some (.ref fI))) (tI : PySem.W.typeIn X.K (.ref fI) = some (.type "function"))
    (F1 : FnOk X.prog X.w X.K X.mg X.base CX k fI fd ps sp) (hr : Room (k + 1) X.A) (hb : KBn X.K fd ps 1 ks g gV) (hx : Passes CX X (fun _ _ _ => False)) (hg : Gl X x) (hm : X.mg x = some (.ref C))
    (hkw : PK X kws tk) (hall : (backToKw pos (keywordEach kws X.env)).all (·.1.isSome) = true := by rfl) (hks : (backToKw pos (keywordEach kws X.env)).filterMap (·.1) = ks := by rfl)
    (hdb : (x == ("__debug__" : Str)) = false := by decide)
    (hpl : ((backTo pos (starEach [] X.env)).any (·.1) || (backToKw pos (keywordEach kws X.env)).any (·.1.isNone)) = false := by rfl) :
    PE X (.Call (.Name x p) [] kws pos) (tMkXK C 0 ks.length sp gV tNil tk) := by
  refine ⟨fun pins s σ H Q I h => ?_⟩
  refine wpAny_Call_Name_kw (ld_glob I hg hm ?_ hdb)
  refine PySem.W.callWith_KW0 (h₀ := X.base) I.ok.mod.kin T.kC hall ?_ hpl
  refine thn (hkw.run pos pins s σ H _ I h) fun ws s2 ⟨zs, H2, I2, rz, l1, l2, l3, q2⟩ => ⟨I2.kIn, ?_⟩
  rw [hks]
  exact run_mkXK (us := []) T iC tI F1 hr hb hx I2 .nil rz l1 l2 l3 q2
end
end XR

namespace XR
open PySem PySem.Spec PyProof.Rows L2
/-- an exception's object, whatever its fields -/
def exl (a : Addr) (C : Addr) (d : Option Addr) : HO := .ext fun h => ∃ (oe : Obj) (vs : Array Value), h.get? a = some oe ∧ oe.cls = .ref C ∧ oe.dict = d ∧ oe.data = .fields vs
theorem exAt_exl {H : Hp} {a C : Addr} {d : Option Addr} (h : H a = some (exl a C d)) : ExAt H a C d := ⟨_, h, fun _ z => z⟩
theorem exl_ok {P : Program} {w : World} {H : Hp} {h : Heap} {a C : Addr} {d : Option Addr} {oe : Obj} {vs : Array Value} (e : h.get? a = some oe) (c : oe.cls = .ref C) (dd : oe.dict = d) (t : oe.data = .fields vs) : ObjOk P w H h a (exl a C d) :=
  ⟨⟨oe, vs, e, c, dd, t⟩, ⟨oe, e⟩, fun _ _ ⟨o, v, q, r⟩ k => ⟨o, v, k o q, r⟩⟩
section
variable {X : Cx} {pins : List (Addr × Obj)} {σ : L2.St} {H : Hp} {s : Shared}
/-- an object that stands in no abstract heap and was not there at the entry is tracked from now on -/
theorem Inv.track {a : Addr} {o : HO} (I : Inv X pins σ H s) (na : H a = none) (n0 : X.s_0.heap.get? a = none) (nL : a ≠ X.env.locals) (nC : ∀ x c, X.env.cells.lookup x = some c → c ≠ a) (nP : ∀ p ∈ X.pn ++ pins, p.1 ≠ a)
    (new : ObjOk X.prog X.w (upd H a o) s.heap a o) : Inv X pins σ (upd H a o) s := by
  have ne0 : ∀ b o, X.s_0.heap.get? b = some o → b ≠ a := fun b o e z => by
    rw [z, n0] at e
    cases e
  have neN : ∀ b u, H b = some u → b ≠ a := fun b u e z => by
    rw [z, na] at e
    cases e
  refine ⟨I.ok, I.os, I.bare, ⟨I.base.keep, I.base.slot, fun b o e n hq => ?_, I.base.there, fun b xs e => ?_, fun b o u e => ?_, fun b ps e => ?_⟩, I.loc, I.cell, ?_, fun x c e => ?_, fun p hp => ?_, fun b u e => ?_, I.len⟩
  · rw [upd_ne (ne0 b o e)]
    exact I.base.free b o e n hq
  · have q := I.base.tups b xs e
    rw [upd_ne (neN b _ q)]
    exact q
  · have q := I.base.frzs b o u e
    rw [upd_ne (neN b _ q)]
    exact q
  · obtain ⟨m, q⟩ := I.base.tbls b ps e
    exact ⟨m, by rw [upd_ne (neN b _ q)]; exact q⟩
  · rw [upd_ne (Ne.symm nL)]
    exact I.free
  · rw [upd_ne (nC x c e)]
    exact I.freeC x c e
  · obtain ⟨e, n, ne, nf, d⟩ := I.pin p hp
    exact ⟨e, by rw [upd_ne (nP p hp)]; exact n, ne, nf, d⟩
  · by_cases hb : b = a
    · subst hb
      rw [upd_same] at e
      cases e
      exact new
    · rw [upd_ne hb] at e
      exact (I.hok b u e).stay (fun c v _ q => q) (fun c q => by rw [upd_ne (neN c _ q)]; exact q) fun c xs q => by rw [upd_ne (neN c _ q)]; exact q
end
/-- what the clause 'except x as n: m = n' wishes of an exception of the body: slot i is n's, slot j m's; the exception's object is tracked behind it -/
def wKeep (K : PySem.W.Frag) (c : Value) (i j : Nat) (Wout : WX) (D : Ends) : WX := fun cls d σ H =>
  ∃ b, PySem.W.exmOne K cls c = some b ∧ (b = true → ∃ C, cls = .ref C ∧ ∀ a, H a = none → D.nx (((σ.set i (some (.ref a))).set j (some (.ref a))).set i none) (upd H a (exl a C d))) ∧ (b = false → Wout cls d σ H)
section
variable {X : Cx} {x n m : Str} {c : Value} {i j : Nat} {body : List Stmt} {np pos pos' mp np2 ap : Pos} {tb : WX → TS} {Wout : WX}
theorem ps_try_keep (hs : X.stack = X.env :: X.outer) (hf : X.env.frame = some X.env.locals) (hN : X.N.Nodup) (hi : X.N[i]? = some n) (hj : X.N[j]? = some m) (hij : i ≠ j) (hln : X.env.kindOf n = some .local) (hlm : X.env.kindOf m = some .local) (hx : X.ex = []) (hc : Names X x c) (tk : Takes X Wout)
    (hb : ∀ (W : WX) (pn : List (Addr × Obj)) (xe : Value → Shared → Prop), Takes (X.tr pn xe) W → PassesOwn (model X.prog X.w) X.A X.env xe → PSs (X.tr pn xe) body (tb W))
    (hpn : X.pn = [])
    (hsu : ∀ (a : Addr) (oe : Obj) (pn : List (Addr × Obj)), PSs (X.suite a ((a, oe) :: pn)) [.Assign [.Name m mp] (.Name n np2) ap] (tAsg (tVar i) (gName j))) :
    PS X (.Try body [.ExceptHandler (some (.Name x np)) (some n) [.Assign [.Name m mp] (.Name n np2) ap] pos'] [] [] pos) (fun D σ H => tb (wKeep X.K c i j Wout D) D σ H) := by
  refine ⟨fun pins s σ H D I h => ?_⟩
  have ok := I.ok
  have hfr : X.A.frames = some (X.env :: X.outer) := by rw [ok.frames, hs]
  have hloc : Loc X.env.scope n := .inl hln
  refine wpAny_Try_except ?_
  refine wpAny_mono ((hb (wKeep X.K c i j Wout D) (X.pn ++ pins) (fun e s₁ => wpAny (model X.prog X.w) X.A (noteFrame e X.env) (fun _ s₂ => wpAny (model X.prog X.w) X.A (setFlight e none) (fun _ s₃ =>
    wpAny (model X.prog X.w) X.A (handleBy e X.env [.ExceptHandler (some (.Name x np)) (some n) [.Assign [.Name m mp] (.Name n np2) ap] pos']) (SP X pins D) X.xe s₃) X.xe s₂) X.xe s₁) (fun u s' xx => ?_) PassesOwn.looking).run [] s σ H D (I.toTry _) h) (fun f s1 hsp => ?_) (fun e s1 he => he)
  · -- the catch
    obtain ⟨a, B, sI, pins', σ', H', cls, d, rfl, J', nb, up, sky, na, os, ag, b, hb1, hyes, hno⟩ := xx
    have J : Inv X pins σ' H' sI := J'.ofTry ok
    have sky' : Sky B (X.env :: X.outer) a (Zc cls d) X.env.locals s'.heap := by rw [← hs]; exact sky
    show wpAny (model X.prog X.w) X.A (noteFrame (.ref a) X.env) _ _ _
    refine Sky.land Zc.steady hfr hf sky' fun h3 fl3 up3 => ?_
    have J3 : Inv X pins σ' H' { s' with heap := h3 } := J.landed nb fl3.1 (up.trans up3) os ag
    obtain ⟨oe3, vs3, he3, hz3, hd3⟩ := fl3.there
    have notFr : ∀ {h : Heap} {o : Obj} {vs : Array Value}, h.FunFrames B (X.env :: X.outer) → h.get? a = some o → o.data = .fields vs → a ∉ frs (X.env :: X.outer) := fun {h o vs} ff e dd hm => by
      obtain ⟨_, o', e', hnf⟩ := ff.mem hm
      rw [e] at e'; cases e'
      exact hnf _ dd
    have nfr := notFr fl3.2.2.1 he3 hd3
    have nL : a ≠ X.env.locals := fun z => nfr (List.mem_filterMap.mpr ⟨X.env, List.mem_cons_self, by rw [hf, z]⟩)
    have nF : a ∉ X.fs := fun hm => by
      obtain ⟨e, he, q⟩ := List.mem_filterMap.mp hm
      exact nfr (List.mem_filterMap.mpr ⟨e, List.mem_cons_of_mem _ he, q⟩)
    have nI : sI.heap.get? a = none := by
      cases q : sI.heap.get? a with
      | none => rfl
      | some o =>
        have z := nb a o q (by rw [hs]; exact nfr)
        rw [fl3.2.1] at z
        cases z
    have n0 : X.s_0.heap.get? a = none := by
      cases q : X.s_0.heap.get? a with
      | none => rfl
      | some o =>
        obtain ⟨o', z⟩ := J.base.there a o q (by rw [hx]; exact fun z => nomatch z)
        rw [nI] at z
        cases z
    have nP : ∀ p ∈ X.pn ++ pins, p.1 ≠ a := fun p hp z => by
      have q := (J.pin p hp).1
      rw [z, nI] at q
      cases q
    have S3 := J3.suite he3 hd3 na nL nF
    refine wpAny_handleBy_cons (codeAny_handlers_test ?_) (by intro q; cases q)
    have LT : PySem.W.Looks (model X.prog X.w) h3 (typeOf (.ref a)) cls := fun A Q E s k q => wpAny_typeOf_ref (k _ _ he3) (by rw [hz3.1]; exact q)
    have LM := PySem.W.exm_one (M := model X.prog X.w) (J3.kIn) LT hb1
    have test : ∀ {Q : Value → Shared → Prop} {E : Value → Shared → Prop}, Q c { s' with heap := h3 } → wpAny (model X.prog X.w) (X.A.mark (some (.ref a))) (eval (.Name x np) X.env) Q E { s' with heap := h3 } := fun {Q E} q => by
      obtain ⟨hg, hdbg, hm | ⟨hm, hv, hnn⟩⟩ := hc
      · exact ld_glob (X := X.suite a ((a, oe3) :: (X.pn ++ pins))) S3 hg hm q hdbg
      · exact ld_blt (X := X.suite a ((a, oe3) :: (X.pn ++ pins))) S3 hg hm hv q hnn hdbg
    refine test (LM.here ?_)
    cases b with
    | true =>
      obtain ⟨C, ec, hy2⟩ := hyes rfl
      subst ec
      refine codeAny_handlers_suite_as ?_
      refine HandSPX.lands_againZ fl3 fun h4 fl4 up4 => ?_
      have J4 : Inv X pins σ' H' { s' with heap := h4 } := J.landed nb fl4.1 ((up.trans up3).trans up4) os ag
      obtain ⟨oe4, vs4, he4, hz4, hd4⟩ := fl4.there
      have S4 := J4.suite he4 hd4 na nL nF
      refine store_ok (X := X.suite a ((a, oe4) :: (X.pn ++ pins))) (v := .ref a) S4 hN hi hloc rfl (fun s5 S5 => ?_) (.inr hln)
      have hlen : i < σ'.length := by
        rw [J.len]
        exact (List.getElem?_eq_some_iff.mp hi).1
      refine wpAny_mono ((hsu a oe4 (X.pn ++ pins)).run [] s5 _ H' { nx := fun σ6 H6 => σ6 = (σ'.set i (some (.ref a))).set j (some (.ref a)) ∧ H6 = H', rt := fun _ _ => False } S5 ⟨_, List.getElem?_set_self hlen, rfl, rfl⟩) (fun f s6 hsp => ?_) (fun _ _ z => False.elim z)
      cases f with
      | next =>
        obtain ⟨σ6, H6, S6, rfl, rfl⟩ := hsp
        have U : Inv X ((a, oe4) :: pins) ((σ'.set i (some (.ref a))).set j (some (.ref a))) H6 s6 :=
          ⟨ok, S6.os, S6.bare, S6.base, S6.loc, S6.cell, S6.free, S6.freeC, fun p hp => S6.pin p (by
            rw [hpn] at hp ⊢
            rw [List.append_nil]
            exact hp), S6.hok, S6.len⟩
        refine gone_ok U hN hi hln fun s7 J7 => ⟨_, upd H6 a (exl a C d), ?_, hy2 a na⟩
        have J8 : Inv X pins (((σ'.set i (some (.ref a))).set j (some (.ref a))).set i none) H6 s7 :=
          ⟨ok, J7.os, J7.bare, J7.base, J7.loc, J7.cell, J7.free, J7.freeC, fun p hp => J7.pin p (by
            rcases List.mem_append.mp hp with z | z
            · exact List.mem_append_left _ z
            · exact List.mem_append_right _ (List.mem_cons_of_mem _ z)), J7.hok, J7.len⟩
        have pa := (J7.pin (a, oe4) (List.mem_append_right _ List.mem_cons_self)).1
        refine Inv.track J8 na n0 nL (fun x c e z => ?_) nP (exl_ok pa hz4.1 hz4.2 hd4)
        obtain ⟨v, o, ho, hd⟩ := J7.cell x c e
        rw [z, pa] at ho
        cases ho
        rw [hd4] at hd
        cases hd
      | brk =>
        obtain ⟨σ6, H6, S6, q6⟩ := hsp
        exact q6.elim
      | cont =>
        obtain ⟨σ6, H6, S6, q6⟩ := hsp
        exact q6.elim
      | ret u =>
        obtain ⟨v6, σ6, H6, S6, r6, q6⟩ := hsp
        exact q6.elim
    | false =>
      show wpAny _ X.A (handleBy (.ref a) X.env []) _ _ _
      refine wpAny_handleBy_nil ?_
      obtain ⟨k1, k2, k3, oe, vs, T, oT, ts', he, hz, hd, h1, hr⟩ := id fl3
      unfold PySem.passOn
      refine wpAny_bind (wpAny_field he hd h1 ?_)
      rw [if_neg (show ¬ ((Value.ref T == Value.none) = true) from by simp)]
      have fin : wpAny (model X.prog X.w) X.A (setFlight (.ref a) X.env.frame) (fun _ s4 => wpAny (model X.prog X.w) X.A (throw (.ref a) : Sem Flow) (SP X pins D) X.xe s4) X.xe { s' with heap := h3 } := by
        rw [hf]
        refine HandSPX.setFlight_upZ fl3 fun h4 hh4 up4 => wpAny_throw (tk _ _ ?_)
        exact ⟨a, B, sI, pins, σ', H', cls, d, rfl, J, nb, (up.trans up3).trans up4, .inr (.inr (by rw [hs]; exact hh4)), na, os, ag, hno rfl⟩
      first
        | exact wpAny_bind (wpAny_pure (wpAny_bind fin))
        | exact wpAny_bind fin
  · cases f with
    | next =>
      obtain ⟨σ', H', J', q⟩ := hsp
      exact wpAny_execs_nil ⟨σ', H', J'.ofTry ok, q⟩
    | brk =>
      obtain ⟨σ', H', J', q⟩ := hsp
      exact ⟨σ', H', J'.ofTry ok, q⟩
    | cont =>
      obtain ⟨σ', H', J', q⟩ := hsp
      exact ⟨σ', H', J'.ofTry ok, q⟩
    | ret u =>
      obtain ⟨v, σ', H', J', r, q⟩ := hsp
      exact ⟨v, σ', H', J'.ofTry ok, r, q⟩
end
end XR

/-! a reading, step by step -/
namespace XR
open PySem PySem.Spec PyProof.Rows L2
section
variable {σ : L2.St} {H : Hp} {Q : VK} {QT : Bool → Hp → Prop} {QA : List V → Hp → Prop} {v x y : V} {i j : Int} {n : Nat} {ta tb te : TE} {tr t : TA} {r : R2} {D : Ends} {s u : TS} {g : TG}
theorem rv_var (e : σ[n]? = some (some v)) (q : Q v H) : tVar n σ H Q := ⟨v, e, q⟩
theorem rv_c (q : Q v H) : tC v σ H Q := q
theorem rv_op (q : ta σ H fun x H1 => tb σ H1 fun y H2 => r x y H2 Q) : tOp r ta tb σ H Q := q
theorem rv_nil (q : QA [] H) : tNil σ H QA := q
theorem rv_cons (q : ta σ H fun x H1 => tr σ H1 fun xs H2 => QA (x :: xs) H2) : tCons ta tr σ H QA := q
theorem rv_rI0 {g : Int → Int → V} (q : Q (g i j) H) : rI0 g (.int i) (.int j) H Q := ⟨i, j, rfl, rfl, q⟩
theorem rv_rI {C : Int → Int → Prop} {g : Int → Int → V} (c : C i j) (q : Q (g i j) H) : rI C g (.int i) (.int j) H Q := ⟨i, j, rfl, rfl, c, q⟩
theorem rv_eq (c : scal x y = true) (q : Q (.bl (decide (x = y))) H) : rEq x y H Q := ⟨c, q⟩
theorem rv_ne (c : scal x y = true) (q : Q (.bl (!decide (x = y))) H) : rNe x y H Q := ⟨c, q⟩
theorem rv_test (q : te σ H fun x H' => ∃ k, x = .bl k ∧ QT k H') : tTest te σ H QT := q
theorem rv_bl {b : Bool} {P : Bool → Prop} (q : P b) : ∃ k, V.bl b = .bl k ∧ P k := ⟨b, rfl, q⟩
theorem rv_cb {r : List V → Hp → VK → Prop} (q : t σ H fun vs H1 => r vs H1 Q) : tCB r t σ H Q := q
theorem rv_call {sp : Sp} {dvs : List V} {E : XK} (q : t σ H fun vs H1 => sp (vs ++ dvs) H1 Q E) : tCall sp dvs E t σ H Q := q
theorem rv_tup (q : t σ H fun xs H1 => xs.length ≤ sizeLine ∧ ∀ p, H1 p = none → Q (.ref p) (upd H1 p (.tup xs))) : tTup t σ H Q := q
theorem rv_lst (q : t σ H fun xs H1 => xs.length ≤ sizeLine ∧ ∀ p, H1 p = none → Q (.ref p) (upd H1 p (.lst xs))) : tLst t σ H Q := q
theorem rs_seq (q : s { D with nx := u D } σ H) : tSeq s u D σ H := q
theorem rs_asg (q : te σ H fun x H1 => g x σ H1 D.nx) : tAsg te g D σ H := q
theorem rg_name {Q2 : L2.St → Hp → Prop} (q : Q2 (σ.set n (some v)) H) : gName n v σ H Q2 := q
theorem rs_ret (q : te σ H D.rt) : tRet te D σ H := q
theorem rs_next (q : D.nx σ H) : tNext D σ H := q
theorem rs_if {c : TT} (q : c σ H fun b H1 => if b = true then s D σ H1 else u D σ H1) : tIfS c s u D σ H := q
theorem rv_tB (q : te σ H fun x H' => ∃ k, x = .bl k ∧ QT k H') : tB te σ H QT := q
theorem rv_or {tA tB : TT} (q : tA σ H fun c H1 => if c = true then QT true H1 else tB σ H1 QT) : tOr tA tB σ H QT := q
theorem rv_and {tA tB : TT} (q : tA σ H fun c H1 => if c = true then tB σ H1 QT else QT false H1) : tAnd tA tB σ H QT := q
theorem rv_not {tA : TT} (q : tA σ H fun c H1 => QT (!c) H1) : tNot tA σ H QT := q
theorem rv_andV (q : ta σ H fun x H1 => ∃ c, x = .bl c ∧ if c = true then tb σ H1 Q else Q (.bl false) H1) : tAndV ta tb σ H Q := q
theorem rv_orV (q : ta σ H fun x H1 => ∃ c, x = .bl c ∧ if c = true then Q (.bl true) H1 else tb σ H1 Q) : tOrV ta tb σ H Q := q
theorem rv_notV (q : ta σ H fun x H1 => ∃ c, x = .bl c ∧ Q (.bl (!c)) H1) : tNotV ta σ H Q := q
theorem rv_ifE {tA : TT} (q : tA σ H fun c H1 => if c = true then ta σ H1 Q else tb σ H1 Q) : tIf tA ta tb σ H Q := q
theorem rs_drop (q : te σ H fun _ H1 => D.nx σ H1) : tDrop te D σ H := q
theorem rv_app {K : PySem.W.Frag} {l : Addr} {xs : List V} (e : σ[n]? = some (some (.ref l))) (h : H l = some (.lst xs)) (q : t σ H fun vs H2 => ∃ (zs : List V) (y : V), vs = [y] ∧ H2 l = some (.lst zs) ∧ zs.length < sizeLine ∧ Q .non (upd H2 l (.lst (zs ++ [y])))) : tBM K "list" rAppend (tVar n) t σ H Q := by
  refine ⟨_, e, .inl ⟨rfl, _, SqL.of h⟩, ?_⟩
  have : (fun vs H2 => ∃ (zs : List V) (y : V), vs = [y] ∧ H2 l = some (.lst zs) ∧ zs.length < sizeLine ∧ Q .non (upd H2 l (.lst (zs ++ [y])))) = fun (vs : List V) (H2 : Hp) => rAppend (.ref l) vs H2 Q := by
    funext vs H2
    refine propext ⟨fun ⟨zs, y, a, b, c, d⟩ => ⟨l, zs, y, rfl, a, b, c, d⟩, fun ⟨l', zs, y, a, b, c, d, f⟩ => ?_⟩
    cases a
    exact ⟨zs, y, b, c, d, f⟩
  rw [this] at q
  exact q
theorem ro_nx {n2 : L2.St → Hp → Prop} {rt : VK} {bk ct : L2.St → Hp → Prop} (q : n2 σ H) : (Ends.mk n2 rt bk ct).nx σ H := q
theorem ro_rt {n2 : L2.St → Hp → Prop} {rt : VK} {bk ct : L2.St → Hp → Prop} (q : rt v H) : (Ends.mk n2 rt bk ct).rt v H := q
theorem ro_ct {n2 : L2.St → Hp → Prop} {rt : VK} {bk ct : L2.St → Hp → Prop} (q : ct σ H) : (Ends.mk n2 rt bk ct).ct σ H := q
theorem ro_bk {n2 : L2.St → Hp → Prop} {rt : VK} {bk ct : L2.St → Hp → Prop} (q : bk σ H) : (Ends.mk n2 rt bk ct).bk σ H := q
end
end XR

namespace XR
open PySem PySem.Spec PyProof.Rows L2
section
variable {K : PySem.W.Frag} {σ : L2.St} {H : Hp} {Q : VK} {QT : Bool → Hp → Prop} {v : V} {i j l : Nat} {te : TE} {t : TA} {D : Ends} {tb : TS} {g : TG} {wi : TI} {R : It → Hp → Prop} {Qs : L2.St → Hp → Prop}
theorem rs_for (q : wi σ H fun J H1 => ∃ W : Nat → Nat → L2.St → Hp → Prop, (∃ m, W 0 m σ H1) ∧ ∀ i m σ H, W i m σ H →
  (J.stop i H ∧ D.nx σ H) ∨ (J.go i H ∧ ∃ N : L2.St → Hp → Prop, (∀ σ' H', N σ' H' → ∃ m', m' < m ∧ W (i + 1) m' σ' H') ∧ ∀ x H', J.yld i H x H' → g x σ H' fun σ2 H2 => tb { D with nx := N, ct := N, bk := D.nx } σ2 H2)) : tFor wi g tb D σ H := q
theorem ri_zip (q : t σ H fun vs H1 => ∃ a b xs ys, vs = [.ref a, .ref b] ∧ SqL K H1 a xs ∧ SqL K H1 b ys ∧ R (Itz K a b) H1) : iZip K t σ H R := q
theorem ri_list (q : te σ H fun x H1 => ∃ a, x = .ref a ∧ (∃ xs, SqL K H1 a xs) ∧ R (Itl K a) H1) : iList K te σ H R := q
theorem ri_rng1 (q : t σ H fun vs H1 => ∃ j : Int, vs = [.int j] ∧ -(2 ^ 62) ≤ j ∧ j < 2 ^ 62 ∧ R (Itr 0 j.toNat) H1) : iRng1 t σ H R := q
theorem rv_lc {tt : TT} {vs : List Nat} (q : wi σ H fun J H1 => ∀ D, H1 D = none → ∃ W : Nat → Nat → Hp → Prop, (∃ m, W 0 m (upd H1 D (.lst []))) ∧ ∀ i m H, W i m H →
  (J.stop i H ∧ Q (.ref D) H) ∨ (J.go i H ∧ ∃ Nx : Hp → Prop, (∀ H', Nx H' → ∃ m', m' < m ∧ W (i + 1) m' H') ∧ ∀ x H', J.yld i H x H' → g x (wipe σ vs) H' fun σ2 H2 => wipe σ2 vs = wipe σ vs ∧ tt σ2 H2 fun b H3 =>
    if b = true then te σ2 H3 fun y H4 => ∃ acc, H4 D = some (.lst acc) ∧ acc.length < sizeLine ∧ Nx (upd H4 D (.lst (acc ++ [y]))) else Nx H3)) : tLc wi g tt te vs σ H Q := q
theorem rv_xfl {f : Str} (q : te σ H fun x H1 => ∃ (a C dd : Addr) (fs : List (Str × V)) (v : V), x = .ref a ∧ ExAt H1 a C (some dd) ∧ DcAt H1 dd fs ∧ ExcK K C ∧ PySem.W.findIn K (.ref C) f = some none ∧ fs.lookup f = some v ∧ Q v H1) : tXfl K f te σ H Q := q
theorem rs_par3 (q : t σ H fun vs H1 => ∃ u v w, vs = [u, v, w] ∧ D.nx (((σ.set i (some u)).set j (some v)).set l (some w)) H1) : tPar3 i j l t D σ H := q
theorem rv_yes (q : QT true H) : tYes σ H QT := q
theorem rg_tup {n : Nat} {tg : TGs} (q : ∃ a xs, v = .ref a ∧ SqT K H a xs ∧ xs.length = n ∧ tg xs σ H Qs) : gTup K n tg v σ H Qs := q
theorem rg_cons {t1 : TG} {u : TGs} {vs : List V} (q : t1 v σ H fun σ' H' => u vs σ' H' Qs) : gCons t1 u (v :: vs) σ H Qs := ⟨v, vs, rfl, q⟩
theorem rg_nil (q : Qs σ H) : gNil [] σ H Qs := ⟨rfl, q⟩
theorem iteFe {c : Bool} {A B : Prop} (hc : c = false) (h : B) : if c = true then A else B := by
  rw [hc, if_neg Bool.false_ne_true]
  exact h
theorem iteTe {c : Bool} {A B : Prop} (hc : c = true) (h : A) : if c = true then A else B := by
  rw [hc, if_pos rfl]
  exact h
end
end XR

namespace My
open PySem PySem.Spec PyProof.Rows L2 XR
def top (i : Nat) : Stmt := PySem.Challenge.pw_leanscript_k01_words_of_texts.main.body.getD i (.Pass ⟨0, 0, 0, 0⟩)
abbrev sMixed : Stmt := top 29
abbrev sCell : Stmt := top 30
abbrev sTake : Stmt := top 31
abbrev sOnly : Stmt := top 36
section
variable {P : Program} {w : World} {K : PySem.W.Frag} {mg : Str → Option Value} {base : Heap}
/-- _law_mixed: some number -/
def spMixed : Sp := fun vs H Q _ => ∃ c k : Int, vs = [.int c, .int k] ∧ ∀ n, Q (.int n) H
/-- _law_cell: some number -/
def spCell (K : PySem.W.Frag) : Sp := fun vs H Q _ => ∃ (a : Addr) (ns : List Int) (k : Int), vs = [.ref a, .int k] ∧ SqL K H a (ns.map V.int) ∧ 0 ≤ k ∧ k < 1000 ∧ ∀ n, Q (.int n) H
/-- _law_take: a digit; the pile goes on -/
def spTake : Sp := fun vs H Q _ => ∃ (a : Addr) (n z : Int), vs = [.ref a, .int z] ∧ H a = some (.lst [.int n]) ∧ 0 < z ∧ z < 1073741824 ∧ ∀ d m, 0 ≤ d → d < z → Q (.int d) (upd H a (.lst [.int m]))
local macro_rules | `(tactic| walk_at "rd1") => `(tactic| first
  | with_reducible refine rs_seq ?_
  | with_reducible refine rs_asg ?_
  | with_reducible refine rs_ret ?_
  | with_reducible refine rs_if ?_
  | with_reducible refine rs_next ?_
  | with_reducible refine rg_name ?_
  | ((with_reducible refine rv_var (v := ?vv) ?hv ?_); (case hv => exact rfl))
  | with_reducible refine rv_c ?_
  | with_reducible refine rv_op ?_
  | with_reducible refine rv_cons ?_
  | with_reducible refine rv_nil ?_
  | with_reducible refine rv_rI0 ?_
  | ((with_reducible refine rv_rI ?hc ?_); (case hc => walk_at "side"))
  | ((with_reducible refine rv_eq ?hc ?_); (case hc => exact rfl))
  | ((with_reducible refine rv_ne ?hc ?_); (case hc => exact rfl))
  | with_reducible refine rv_test ?_
  | with_reducible refine rv_bl ?_
  | with_reducible refine rv_cb ?_
  | with_reducible refine rv_call ?_
  | with_reducible refine rv_tup ?_
  | with_reducible refine rv_lst ?_
  | with_reducible refine rv_tB ?_
  | with_reducible refine rv_or ?_
  | with_reducible refine rv_and ?_
  | with_reducible refine rv_not ?_
  | with_reducible refine rv_andV ?_
  | with_reducible refine rv_orV ?_
  | with_reducible refine rv_notV ?_
  | with_reducible refine rv_ifE ?_
  | with_reducible refine rs_drop ?_
  | with_reducible refine iteT ?_
  | with_reducible refine iteF ?_
  | with_reducible refine ro_nx ?_
  | with_reducible refine ro_rt ?_
  | with_reducible refine ro_ct ?_
  | with_reducible refine ro_bk ?_)
local macro_rules | `(tactic| walk_at "rd") => `(tactic| repeat walk_at "rd1")
local macro_rules | `(tactic| walk_at "side") => `(tactic| first
  | assumption
  | exact (show CPow _ _ from ⟨by decide, by decide, by decide⟩)
  | exact (show CMul _ _ from .inl ⟨by decide, by decide⟩)
  | exact (show CMul _ _ from .inr ⟨by decide, by decide⟩)
  | (show (0 : Int) < _; decide)
  | (show CMul _ _; first | exact .inl ⟨by omega, by omega⟩ | exact .inr ⟨by omega, by omega⟩)
  | omega)
theorem scMixed : FnScope ["cell", "k", "mix"] ["cell", "k"] (defScope sMixed) := ⟨rfl, rfl, rfl, by decide +kernel, rfl, by decide +kernel, by decide +kernel⟩
theorem ok_mixed {f : Addr} {fd : FuncData} (F : Fun K "_law_mixed" "_law_mixed" sMixed f fd) : FnOk P w K mg base CX0 1 f fd ["cell", "k"] spMixed := by
  refine F.ok scMixed (fun vs H Q E h => ?_) (fun cdv A outer s H vs Q E hr h => ?_)
  · obtain ⟨c, k, rfl, _⟩ := h
    rfl
  · refine ⟨_, pss_cons (ps_set (i := 2) scMixed.nd rfl (.inl rfl) (pe_op op_mod (pe_op op_add (pe_op op_add (pe_op op_mul (pe_op op_mod (pv 0) pe_int) pe_int) (pe_op op_mul (pv 1) pe_int)) pe_int) pe_int))
      (pss_cons (ps_set (i := 2) scMixed.nd rfl (.inl rfl) (pe_op op_mod (pe_op op_mul (pv 2) (pv 2)) pe_int))
        (pss_one (ps_ret (pe_op op_mod (pe_op op_mul (pv 2) (pe_op op_add (pv 2) pe_int)) pe_int)))), ?_⟩
    obtain ⟨c, k, rfl, q⟩ := h
    have m1 : ∀ x y : Int, 0 < y → y < 2 ^ 64 → CMul (x % y) y ∧ ∀ z, CMul (x % y) z := fun x y h1 h2 => by
      have a1 := Int.emod_nonneg x (by omega : y ≠ 0)
      have a2 := Int.emod_lt_of_pos x h1
      exact ⟨.inl ⟨by omega, by omega⟩, fun z => .inl ⟨by omega, by omega⟩⟩
    refine ⟨_, rfl, _, _, rfl, rfl, (by show (0 : Int) < _; decide), _, _, rfl, rfl, (m1 _ _ (by decide) (by decide)).2 _, _, rfl, _, _, rfl, rfl, .inr ⟨by decide, by decide⟩, _, _, rfl, rfl, _, _, rfl, rfl, _, _, rfl, rfl, (by show (0 : Int) < _; decide), ?_⟩
    refine ⟨_, rfl, _, rfl, _, _, rfl, rfl, (m1 _ _ (by decide) (by decide)).2 _, _, _, rfl, rfl, (by show (0 : Int) < _; decide), ?_⟩
    refine ⟨_, rfl, _, rfl, _, _, rfl, rfl, _, _, rfl, rfl, (m1 _ _ (by decide) (by decide)).2 _, _, _, rfl, rfl, (by show (0 : Int) < _; decide), ?_⟩
    exact q _
theorem scCell : FnScope ["script", "k", "cell", "found", "j"] ["script", "k"] (defScope sCell) := ⟨rfl, rfl, rfl, by decide +kernel, rfl, by decide +kernel, by decide +kernel⟩
theorem pow60 : (10 ^ (60 : Int).toNat : Int).natAbs < 2 ^ 200 := by decide +kernel
/-- from the second if on -/
def t_cell (tM : Sp) : TS := tSeq (tIfS (tTest (tOp (rI0 fun i j => .bl (decide (j ≤ i))) (tVar 2) (tOp (rI CPow fun i j => .int (i ^ j.toNat)) (tC (.int 10)) (tC (.int 18)))))
   (tRet (tOp (rI (fun _ j => 0 < j) fun i j => .int (i % j)) (tOp (rI0 fun i j => .int (i - j)) (tVar 2) (tOp (rI CPow fun i j => .int (i ^ j.toNat)) (tC (.int 10)) (tC (.int 18))))
      (tOp (rI CMulW fun i j => .int (i * j)) (tOp (rI CMulW fun i j => .int (i * j)) (tOp (rI CMulW fun i j => .int (i * j)) (tOp (rI CPow fun i j => .int (i ^ j.toNat)) (tC (.int 10)) (tC (.int 60))) (tOp (rI CPow fun i j => .int (i ^ j.toNat)) (tC (.int 10)) (tC (.int 60)))) (tOp (rI CPow fun i j => .int (i ^ j.toNat)) (tC (.int 10)) (tC (.int 60)))) (tOp (rI CPow fun i j => .int (i ^ j.toNat)) (tC (.int 10)) (tC (.int 60)))))) tNext)
   (tSeq (tAsg (tC (.int 0)) (gName 3)) (tSeq (tFor (iRng1 (tCons (tC (.int 24)) tNil)) (gName 4)
     (tAsg (tOp (rI0 fun i j => .int (i + j)) (tOp (rI CMul fun i j => .int (i * j)) (tVar 3) (tC (.int 2147483579)))
       (tCall spMixed [] E0 (tCons (tVar 2) (tCons (tOp (rI0 fun i j => .int (i + j)) (tOp (rI0 fun i j => .int (i + j)) (tOp (rI CMul fun i j => .int (i * j)) (tC (.int 7)) (tVar 1)) (tOp (rI CMul fun i j => .int (i * j)) (tC (.int 100)) (tVar 4))) (tOp (rI CMul fun i j => .int (i * j)) (tVar 4) (tVar 4))) tNil)))) (gName 3)))
   (tRet (tVar 3))))
theorem rest_cell {a : Addr} {k c : Int} {ns : List Int} {H : Hp} {Q : VK} (hS : SqL K H a (ns.map V.int)) (h0 : 0 ≤ k) (h1 : k < 1000) (q : ∀ n, Q (.int n) H) :
    t_cell spMixed { nx := fun _ H' => Q .non H', rt := Q } [some (.ref a), some (.int k), some (.int c), none, none] H := by
  have P60 : CPow 10 60 := ⟨by decide, by decide, by decide⟩
  have P18 : CPow 10 18 := ⟨by decide, by decide, by decide⟩
  have b60 : (10 ^ (60 : Int).toNat : Int).natAbs < 2 ^ 200 := by decide +kernel
  have b120 := wide_lt b60 b60
  have b180 := wide_lt b120 b60
  unfold t_cell
  walk_at "rd"
  refine ite2 (fun _ => ?_) (fun _ => ?_)
  · have w1 : CMulW _ _ := wide_mul b60 b60 (by decide) (by decide) (by decide)
    have w2 : CMulW _ _ := wide_mul b120 b60 (by decide) (by decide) (by decide)
    have w3 : CMulW _ _ := wide_mul b180 b60 (by decide) (by decide) (by decide)
    walk_at "rd"
    exact q _
  · walk_at "rd"
    refine ⟨24, rfl, by decide, by decide, for_range (lo := 0) (n := 24) (fun i σ H' => H' = H ∧ ∃ (f : Int) (j : Option V), σ = [some (.ref a), some (.int k), some (.int c), some (.int f), j]) ⟨rfl, 0, none, rfl⟩ ?_ ?_⟩
    · rintro i σ H' hi ⟨rfl, f, j, rfl⟩
      have hi' : (i : Int) < 24 := by exact_mod_cast hi
      walk_at "rd"
      refine ⟨_, _, rfl, fun n => ?_⟩
      walk_at "rd"
      exact ⟨rfl, _, _, rfl⟩
    · rintro σ H' ⟨rfl, f, j, rfl⟩
      walk_at "rd"
      exact q _
theorem ok_cell {f fM : Addr} {fd fdM : FuncData} (F : Fun K "_law_cell" "_law_cell" sCell f fd) (FM : Fun K "_law_mixed" "_law_mixed" sMixed fM fdM) (bM : Binds K fdM ["cell", "k"] []) (gM : mg "_law_mixed" = some (.ref fM)) (gL : mg "len" = none) (gR : mg "range" = none) :
    FnOk P w K mg base CX0 2 f fd ["script", "k"] (spCell K) := by
  have GM : FnOk P w K mg base CX0 1 fM fdM ["cell", "k"] spMixed := ok_mixed FM
  refine F.ok scCell (fun vs H Q E h => ?_) (fun cdv A outer s H vs Q E hr h => ?_)
  · obtain ⟨a, ns, k, rfl, _⟩ := h
    rfl
  · refine ⟨_, pss_cons (ps_set (i := 2) scCell.nd rfl (.inl rfl) pe_int)
      (pss_cons (ps_if (pt_cmpR op_lt (pv 1) (pe_callB call_len_seq (by rfl) gL PySem.boot_len (pa_cons (pv 0) pa_nil)) (nomark _)) (pss_one (ps_set (i := 2) scCell.nd rfl (.inl rfl) (pe_ix ix_list (pv 0) (pv 1) (fun _ _ => rfl)))) pss_nil)
      (pss_cons (ps_if (pt_cmpR op_ge (pv 2) (pe_op op_pow pe_int pe_int) (nomark _)) (pss_one (ps_ret (pe_op op_mod (pe_op op_sub (pv 2) (pe_op op_pow pe_int pe_int))
          (pe_op op_mulW (pe_op op_mulW (pe_op op_mulW (pe_op op_pow pe_int pe_int) (pe_op op_pow pe_int pe_int)) (pe_op op_pow pe_int pe_int)) (pe_op op_pow pe_int pe_int))))) pss_nil)
      (pss_cons (ps_set (i := 3) scCell.nd rfl (.inl rfl) pe_int)
      (pss_cons (ps_for PassesOwn.never rfl (pi_range1 rfl gR (pa_cons pe_int pa_nil)) (pg_name (i := 4) scCell.nd rfl (.inl rfl))
        (pss_one (ps_set (i := 3) scCell.nd rfl (.inl rfl) (pe_op op_add (pe_op op_mul (pv 3) pe_int)
          (pe_call GM hr rfl gM FM.kp bM .nil pass0 (pa_cons (pv 2) (pa_cons (pe_op op_add (pe_op op_add (pe_op op_mul pe_int (pv 1)) (pe_op op_mul pe_int (pv 4))) (pe_op op_mul (pv 4) (pv 4))) pa_nil)))))))
      (pss_one (ps_ret (pv 3))))))), ?_⟩
    obtain ⟨a, ns, k, rfl, hS, h0, h1, q⟩ := h
    have big : ∀ i : Int, i.natAbs < 2 ^ 200 → ∀ j : Int, j.natAbs < 2 ^ 600 → CMulW j i := fun i h1 j h2 => wide_mul h2 h1 (by decide) (by decide) (by decide)
    have at0 : k < ((ns.map V.int).length : Nat) → ∃ z : Int, atI (ns.map V.int) k = some (.int z) := fun hk => by
      rw [List.length_map] at hk
      obtain ⟨j, rfl⟩ := Int.eq_ofNat_of_zero_le h0
      have hj : j < ns.length := by omega
      exact ⟨ns[j], atI_nat (by rw [List.getElem?_map, List.getElem?_eq_getElem hj]; rfl)⟩
    walk_at "rd"
    refine ⟨a, _, rfl, .inl hS, ?_⟩
    walk_at "rd"
    refine ite2 (fun c => ?_) (fun c => ?_)
    · obtain ⟨z, hz⟩ := at0 (of_decide_eq_true c)
      walk_at "rd"
      refine ⟨a, _, k, _, rfl, rfl, hS, hz, ?_⟩
      exact rest_cell hS h0 h1 q
    · exact rest_cell hS h0 h1 q
theorem scTake : FnScope ["pile", "size", "digit"] ["pile", "size"] (defScope sTake) := ⟨rfl, rfl, rfl, by decide +kernel, rfl, by decide +kernel, by decide +kernel⟩
theorem ok_take {f : Addr} {fd : FuncData} (F : Fun K "_law_take" "_law_take" sTake f fd) : FnOk P w K mg base CX0 1 f fd ["pile", "size"] spTake := by
  refine F.ok scTake (fun vs H Q E h => ?_) (fun cdv A outer s H vs Q E hr h => ?_)
  · obtain ⟨c, k, z, rfl, _⟩ := h
    rfl
  · refine ⟨_, pss_cons (ps_set (i := 2) scTake.nd rfl (.inl rfl) (pe_op op_mod (pe_ix ix_list (pv 0) pe_int (fun _ _ => rfl)) (pv 1)))
      (pss_cons (ps_asg (pe_op op_fdiv (pe_ix ix_list (pv 0) pe_int (fun _ _ => rfl)) (pv 1)) (pg_sub (pv 0) pe_int set_list))
        (pss_one (ps_ret (pv 2)))), ?_⟩
    obtain ⟨a, n, z, rfl, hl, h0, h1, q⟩ := h
    refine ⟨_, rfl, a, [.int n], 0, _, rfl, rfl, SqL.of hl, rfl, _, rfl, n, z, rfl, rfl, h0, ?_⟩
    refine ⟨_, rfl, a, [.int n], 0, _, rfl, rfl, SqL.of hl, rfl, _, rfl, n, z, rfl, rfl, ⟨h0, h1⟩, ?_⟩
    refine ⟨_, rfl, a, [.int n], 0, 0, rfl, rfl, hl, rfl, ?_⟩
    refine ⟨_, rfl, ?_⟩
    exact q _ _ (Int.emod_nonneg n (by omega)) (Int.emod_lt_of_pos n h0)

def n10 : List Str := ["NoText", "NoTree", "NoPath", "NoNaming", "NoLetters", "NoCount", "NoTurning", "NoMap", "NoLine", "TooMany"]
/-- the ten error classes at cs, LeanError at cL -/
structure Ten (K : PySem.W.Frag) (mg : Str → Option Value) (cs : Nat → Addr) (cL : Addr) : Prop where
  g : ∀ i, i < 10 → mg (n10.getD i "") = some (.ref (cs i))
  gL : mg "LeanError" = some (.ref cL)
  gI : mg "isinstance" = none
  gZ : mg "zip" = none
  gK : mg "LookupError" = none
  gA : mg "ArithmeticError" = none
  gV : mg "ValueError" = none
  isOne : ∀ i j, i < 10 → j < 10 → PySem.W.kitOne K (.ref (cs i)) (.ref (cs j)) = some (decide (i = j))
  isK : ∀ i, i < 10 → PySem.W.kitOne K (.ref (cs i)) (.type "LookupError") = some false
  isA : ∀ i, i < 10 → PySem.W.kitOne K (.ref (cs i)) (.type "ArithmeticError") = some false
  isL : ∀ i, i < 10 → PySem.W.kitOne K (.ref (cs i)) (.ref cL) = some true
  isV : ∀ i, i < 10 → PySem.W.kitOne K (.ref (cs i)) (.type "ValueError") = some true
  ek : ∀ i, i < 10 → ExcK K (cs i)
theorem same_upd {H : Hp} {p : Addr} {o : HO} (h : H p = none) : Same H (upd H p o) := fun b x e => by
  rw [upd_ne (ne_of_none e h)]
  exact e
theorem n10_shaped : ∀ i, i < 10 → SeqAt.shaped (.list [.str (n10.getD i "")]) = true := by decide +kernel
/-- _law_only: of an error of the i-th class and its name: True -/
def spOnly (K : PySem.W.Frag) (cs : Nat → Addr) : Sp := fun vs H Q _ => ∃ (a : Addr) (i : Nat), i < 10 ∧ vs = [.ref a, .str (n10.getD i "")] ∧ ExIn H a (cs i) ∧ ∀ H', Same H H' → Q (.bl true) H'
theorem scOnly : FnScope ["caught", "name", "names", "some", "one", "here"] ["caught", "name"] (defScope sOnly) := ⟨rfl, rfl, rfl, by decide +kernel, rfl, by decide +kernel, by decide +kernel⟩
theorem ok_only {f : Addr} {fd : FuncData} {cs : Nat → Addr} {cL : Addr} (F : Fun K "_law_only" "_law_only" sOnly f fd) (T : Ten K mg cs cL) : FnOk P w K mg base CX0 1 f fd ["caught", "name"] (spOnly K cs) := by
  refine F.ok scOnly (fun vs H Q E h => ?_) (fun cdv A outer s H vs Q E hr h => ?_)
  · obtain ⟨a, i, _, rfl, _⟩ := h
    rfl
  · have g0 := T.g 0 (by decide)
    have g1 := T.g 1 (by decide)
    have g2 := T.g 2 (by decide)
    have g3 := T.g 3 (by decide)
    have g4 := T.g 4 (by decide)
    have g5 := T.g 5 (by decide)
    have g6 := T.g 6 (by decide)
    have g7 := T.g 7 (by decide)
    have g8 := T.g 8 (by decide)
    have g9 := T.g 9 (by decide)
    refine ⟨_, pss_cons (ps_set (i := 2) scOnly.nd rfl (.inl rfl) (pe_lst (pa_cons pe_str (pa_cons pe_str (pa_cons pe_str (pa_cons pe_str (pa_cons pe_str (pa_cons pe_str (pa_cons pe_str (pa_cons pe_str (pa_cons pe_str pa_nil)))))))))))
      (pss_cons (ps_expr (pe_bm PySem.F.plainAttrs_list PySem.F.slot_list_append PySem.F.type_list_append mt_append (pv 2) (pa_cons pe_str pa_nil)))
      (pss_cons (ps_set (i := 3) scOnly.nd rfl (.inl rfl) (pe_lst (pa_cons (pe_callB call_isX (by rfl) T.gI (by decide +kernel) (pa_cons (pv 0) (pa_cons (pe_glob (v := .ref (cs 0)) (by rfl) g0 rfl) pa_nil))) (pa_cons (pe_callB call_isX (by rfl) T.gI (by decide +kernel) (pa_cons (pv 0) (pa_cons (pe_glob (v := .ref (cs 1)) (by rfl) g1 rfl) pa_nil))) (pa_cons (pe_callB call_isX (by rfl) T.gI (by decide +kernel) (pa_cons (pv 0) (pa_cons (pe_glob (v := .ref (cs 2)) (by rfl) g2 rfl) pa_nil))) pa_nil)))))
      (pss_cons (ps_set (i := 3) scOnly.nd rfl (.inl rfl) (pe_op op_cat (pv 3) (pe_lst (pa_cons (pe_callB call_isX (by rfl) T.gI (by decide +kernel) (pa_cons (pv 0) (pa_cons (pe_glob (v := .ref (cs 3)) (by rfl) g3 rfl) pa_nil))) (pa_cons (pe_callB call_isX (by rfl) T.gI (by decide +kernel) (pa_cons (pv 0) (pa_cons (pe_glob (v := .ref (cs 4)) (by rfl) g4 rfl) pa_nil))) (pa_cons (pe_callB call_isX (by rfl) T.gI (by decide +kernel) (pa_cons (pv 0) (pa_cons (pe_glob (v := .ref (cs 5)) (by rfl) g5 rfl) pa_nil))) pa_nil))))))
      (pss_cons (ps_set (i := 3) scOnly.nd rfl (.inl rfl) (pe_op op_cat (pv 3) (pe_lst (pa_cons (pe_callB call_isX (by rfl) T.gI (by decide +kernel) (pa_cons (pv 0) (pa_cons (pe_glob (v := .ref (cs 6)) (by rfl) g6 rfl) pa_nil))) (pa_cons (pe_callB call_isX (by rfl) T.gI (by decide +kernel) (pa_cons (pv 0) (pa_cons (pe_glob (v := .ref (cs 7)) (by rfl) g7 rfl) pa_nil))) (pa_cons (pe_callB call_isX (by rfl) T.gI (by decide +kernel) (pa_cons (pv 0) (pa_cons (pe_glob (v := .ref (cs 8)) (by rfl) g8 rfl) pa_nil))) pa_nil))))))
      (pss_cons (ps_expr (pe_bm PySem.F.plainAttrs_list PySem.F.slot_list_append PySem.F.type_list_append mt_append (pv 3) (pa_cons (pe_callB call_isX (by rfl) T.gI (by decide +kernel) (pa_cons (pv 0) (pa_cons (pe_glob (v := .ref (cs 9)) (by rfl) g9 rfl) pa_nil))) pa_nil)))
      (pss_cons (ps_if (pt_cmpR (op_neD hr.units)
          (pe_lc (own := [("one", 4), ("here", 5)]) (g := gTup K 2 (gCons (gName 4) (gCons (gName 5) gNil))) (tt := tB (tVar 5)) (te := tVar 4) (by rfl) scOnly.nd (pi_zip (by rfl) T.gZ (pa_cons (pv 2) (pa_cons (pv 3) pa_nil))) (blkOk_by (own := [("one", 4), ("here", 5)]) (N := ["caught", "name", "names", "some", "one", "here"]) (sc := defScope sOnly) (by decide +kernel))
            (fun _ _ _ _ _ => pg_tup (by rfl) (pgs_cons (pg_name (i := 4) scOnly.nd rfl (.inl rfl)) (pgs_cons (pg_name (i := 5) scOnly.nd rfl (.inl rfl)) pgs_nil)))
            (fun _ _ _ _ _ => pts_one (pt_val (pv 5))) (fun _ _ _ _ _ => pv 4))
          (pe_lst (pa_cons (pv 1) pa_nil)) (nomark _)) (pss_one (ps_ret pe_bl)) pss_nil)
      (pss_cons (ps_if (PW.pt (pw_or (pt_val (pe_callB call_isX (by rfl) T.gI (by decide +kernel) (pa_cons (pv 0) (pa_cons (pe_bltn (by rfl) T.gK (by decide +kernel) (v := .ty "LookupError") rfl) pa_nil))))
            (pw_or1 (pt_val (pe_callB call_isX (by rfl) T.gI (by decide +kernel) (pa_cons (pv 0) (pa_cons (pe_bltn (by rfl) T.gA (by decide +kernel) (v := .ty "ArithmeticError") rfl) pa_nil))))))) (pss_one (ps_ret pe_bl)) pss_nil)
      (pss_one (ps_ret (pe_and (pe_callB call_isX (by rfl) T.gI (by decide +kernel) (pa_cons (pv 0) (pa_cons (pe_glob (by rfl) T.gL rfl (v := .ref cL)) pa_nil)))
        (pe_one (pe_callB call_isX (by rfl) T.gI (by decide +kernel) (pa_cons (pv 0) (pa_cons (pe_bltn (by rfl) T.gV (by decide +kernel) (v := .ty "ValueError") rfl) pa_nil)))))))))))))), ?_⟩
    obtain ⟨a, i, hi, rfl, ex, q⟩ := h
    have isx : ∀ (H' : Hp), Same H H' → ∀ (j : Nat), j < 10 → ∀ (Q' : VK), Q' (.bl (decide (i = j))) H' → rIsX K [.ref a, .ref (cs j)] H' Q' := fun H' sm j hj Q' z => ⟨a, cs i, _, _, _, rfl, .own _, ex.same sm, T.ek i hi, T.isOne i j hi hj, z⟩
    walk_at "rd"
    refine ⟨by decide, fun n0 hn0 => ?_⟩
    walk_at "rd"
    refine rv_app rfl upd_same ?_
    walk_at "rd"
    refine ⟨_, _, rfl, upd_same, by decide, ?_⟩
    rw [upd_upd]
    have s1 : Same H (upd H n0 (.lst (List.map V.str n10))) := same_upd hn0
    have e1 : ([.str "NoText", .str "NoTree", .str "NoPath", .str "NoNaming", .str "NoLetters", .str "NoCount", .str "NoTurning", .str "NoMap", .str "NoLine"] ++ [.str "TooMany"] : List V) = n10.map V.str := rfl
    rw [e1]
    obtain ⟨B, eB⟩ : ∃ B, B = upd H n0 (.lst (List.map V.str n10)) := ⟨_, rfl⟩
    have hB : B n0 = some (.lst (List.map V.str n10)) := by rw [eB]; exact upd_same
    rw [← eB] at s1
    rw [← eB]
    walk_at "rd"
    refine isx _ s1 0 (by decide) _ ?_
    walk_at "rd"
    refine isx _ s1 1 (by decide) _ ?_
    walk_at "rd"
    refine isx _ s1 2 (by decide) _ ?_
    walk_at "rd"
    refine ⟨(by show 3 ≤ sizeLine; decide), fun p1 hp1 => ?_⟩
    have k2 := same_upd (o := .lst [.bl (decide (i = 0)), .bl (decide (i = 1)), .bl (decide (i = 2))]) hp1
    walk_at "rd"
    refine isx _ (s1.trans k2) 3 (by decide) _ ?_
    walk_at "rd"
    refine isx _ (s1.trans k2) 4 (by decide) _ ?_
    walk_at "rd"
    refine isx _ (s1.trans k2) 5 (by decide) _ ?_
    walk_at "rd"
    refine ⟨(by show 3 ≤ sizeLine; decide), fun p2 hp2 => ?_⟩
    have k3 := k2.trans (same_upd (o := .lst [.bl (decide (i = 3)), .bl (decide (i = 4)), .bl (decide (i = 5))]) hp2)
    refine ⟨p1, p2, _, _, rfl, rfl, (upd_ne (ne_of_none upd_same hp2)).trans upd_same, upd_same, (by show 6 ≤ sizeLine; decide), fun p3 hp3 => ?_⟩
    have k4 := k3.trans (same_upd (o := .lst ([.bl (decide (i = 0)), .bl (decide (i = 1)), .bl (decide (i = 2))] ++ [.bl (decide (i = 3)), .bl (decide (i = 4)), .bl (decide (i = 5))])) hp3)
    walk_at "rd"
    refine isx _ (s1.trans k4) 6 (by decide) _ ?_
    walk_at "rd"
    refine isx _ (s1.trans k4) 7 (by decide) _ ?_
    walk_at "rd"
    refine isx _ (s1.trans k4) 8 (by decide) _ ?_
    walk_at "rd"
    refine ⟨(by show 3 ≤ sizeLine; decide), fun p4 hp4 => ?_⟩
    have k5 := k4.trans (same_upd (o := .lst [.bl (decide (i = 6)), .bl (decide (i = 7)), .bl (decide (i = 8))]) hp4)
    refine ⟨p3, p4, _, _, rfl, rfl, (upd_ne (ne_of_none upd_same hp4)).trans upd_same, upd_same, (by show 9 ≤ sizeLine; decide), fun p5 hp5 => ?_⟩
    walk_at "rd"
    refine rv_app rfl upd_same ?_
    have k6 := k5.trans (same_upd (o := .lst ([.bl (decide (i = 0)), .bl (decide (i = 1)), .bl (decide (i = 2))] ++ [.bl (decide (i = 3)), .bl (decide (i = 4)), .bl (decide (i = 5))] ++ [.bl (decide (i = 6)), .bl (decide (i = 7)), .bl (decide (i = 8))])) hp5)
    walk_at "rd"
    refine isx _ (s1.trans k6) 9 (by decide) _ ?_
    walk_at "rd"
    refine ⟨_, _, rfl, upd_same, (by show 9 < sizeLine; decide), ?_⟩
    rw [upd_upd]
    have k7 := k5.trans (same_upd (o := .lst ((List.range 10).map fun j => V.bl (decide (i = j)))) hp5)
    show tSeq _ _ _ _ (upd _ p5 (.lst ((List.range 10).map fun j => V.bl (decide (i = j)))))
    generalize e7 : upd (upd (upd (upd (upd B p1 (.lst [.bl (decide (i = 0)), .bl (decide (i = 1)), .bl (decide (i = 2))])) p2 (.lst [.bl (decide (i = 3)), .bl (decide (i = 4)), .bl (decide (i = 5))])) p3 (.lst ([.bl (decide (i = 0)), .bl (decide (i = 1)), .bl (decide (i = 2))] ++ [.bl (decide (i = 3)), .bl (decide (i = 4)), .bl (decide (i = 5))]))) p4 (.lst [.bl (decide (i = 6)), .bl (decide (i = 7)), .bl (decide (i = 8))])) p5 (.lst ((List.range 10).map fun j => V.bl (decide (i = j)))) = H7 at k7 ⊢
    have h7n : H7 n0 = some (.lst (List.map V.str n10)) := k7 _ _ hB
    have h7p : H7 p5 = some (.lst ((List.range 10).map fun j => V.bl (decide (i = j)))) := by rw [← e7]; exact upd_same
    have s7 : Same H H7 := s1.trans k7
    clear e7 k7 k6 k5 k4 k3 k2 hp5 hp4 hp3 hp2 hp1 hB eB s1 hn0 e1
    walk_at "rd"
    refine ⟨_, rfl, _, rfl, n0, p5, _, _, rfl, SqL.of h7n, SqL.of h7p, fun D hD => ?_⟩
    refine lc_it (walk_zip (xs := List.map V.str n10) (ys := (List.range 10).map fun j => V.bl (decide (i = j))) (n := 10) rfl)
      (fun t H' => Same H7 H' ∧ H' D = some (.lst (if i < t then [.str (n10.getD i "")] else []))) ⟨same_upd hD, upd_same⟩ (fun t H' _ ⟨s, _⟩ => ⟨SqL.of (s _ _ h7n), SqL.of (s _ _ h7p)⟩) ?_ ?_
    · rintro t x H' H2 ht ⟨sm, hd⟩ ⟨U, y1, y2, rfl, hU, rfl, e1, e2⟩
      have sU : Same H' (upd H' U (.tup [y1, y2])) := same_upd hU
      refine ⟨U, _, rfl, .inl (.inl upd_same), rfl, _, _, rfl, _, _, rfl, rfl, rfl, _, rfl, ?_⟩
      have ey1 : y1 = .str (n10.getD t "") := by
        have : ∀ t, t < 10 → (List.map V.str n10)[t]? = some (.str (n10.getD t "")) := by decide +kernel
        exact Option.some.inj (e1.symm.trans (this t ht))
      have ey2 : y2 = .bl (decide (i = t)) := by
        dsimp only at e2
        rw [List.getElem?_map, List.getElem?_range ht] at e2
        exact (Option.some.inj e2).symm
      subst ey1 ey2
      refine ⟨_, rfl, ?_⟩
      refine ite2 (fun c => ?_) (fun c => ?_)
      · have c' : i = t := of_decide_eq_true c
        refine ⟨_, rfl, _, sU _ _ hd, ?_, ?_⟩
        · rw [if_neg (by omega)]
          show 0 < sizeLine
          decide
        · refine ⟨fun b o z => ?_, ?_⟩
          · rw [upd_ne (fun z2 => by rw [z2] at z; rw [z] at hD; cases hD)]
            exact sU _ _ (sm _ _ z)
          · rw [upd_same, if_neg (by omega), if_pos (by omega), c']
            rfl
      · have c' : ¬ i = t := fun z => c (decide_eq_true z)
        refine ⟨sm.trans sU, ?_⟩
        rw [sU _ _ hd]
        have : (i < t + 1) = (i < t) := propext ⟨fun _ => by omega, fun _ => by omega⟩
        simp only [this]
    · rintro H' ⟨sm, hd⟩
      rw [if_pos hi] at hd
      walk_at "rd"
      refine ⟨(by show 1 ≤ sizeLine; decide), fun p6 hp6 => ?_⟩
      have s8 := same_upd (o := .lst [.str (n10.getD i "")]) hp6
      refine ⟨.list [.str (n10.getD i "")], .list [.str (n10.getD i "")], .lst (SqL.of (s8 _ _ hd)) (.cons (.str _) .nil), .lst (SqL.of upd_same) (.cons (.str _) .nil), n10_shaped i hi, n10_shaped i hi, ?_⟩
      have ee : (!PyData.eqv (.list [.str (n10.getD i "")]) (.list [.str (n10.getD i "")])) = false := by simp [PyData.eqv, PyData.eqvAll]
      rw [ee]
      have s9 := (s7.trans sm).trans s8
      have isb : ∀ (c : V) (u : Value) (b : Bool) (Q' : VK), ClsV c u → PySem.W.kitOne K (.ref (cs i)) u = some b → Q' (.bl b) _ → rIsX K [.ref a, c] _ Q' := fun c u b Q' k1 k2 z => ⟨a, cs i, c, u, b, rfl, k1, ex.same s9, T.ek i hi, k2, z⟩
      walk_at "rd"
      refine isb _ _ _ _ (.ty _) (T.isK i hi) ?_
      walk_at "rd"
      refine isb _ _ _ _ (.ty _) (T.isA i hi) ?_
      walk_at "rd"
      refine isb _ _ _ _ (.own _) (T.isL i hi) ?_
      walk_at "rd"
      refine isb _ _ _ _ (.ty _) (T.isV i hi) ?_
      walk_at "rd"
      exact q _ s9
end
end My

namespace My
open PySem PySem.Spec PyProof.Rows L2 XR
abbrev iText : Stmt := inClass (top 2) 0
abbrev iTree : Stmt := inClass (top 3) 0
abbrev iNaming : Stmt := inClass (top 5) 0
local macro_rules | `(tactic| walk_at "rd1") => `(tactic| first
  | with_reducible refine rs_seq ?_
  | with_reducible refine rs_asg ?_
  | with_reducible refine rs_ret ?_
  | with_reducible refine rs_if ?_
  | with_reducible refine rs_next ?_
  | with_reducible refine rg_name ?_
  | ((with_reducible refine rv_var (v := ?vv) ?hv ?_); (case hv => exact rfl))
  | with_reducible refine rv_c ?_
  | with_reducible refine rv_op ?_
  | with_reducible refine rv_cons ?_
  | with_reducible refine rv_nil ?_
  | with_reducible refine rv_rI0 ?_
  | ((with_reducible refine rv_rI ?hc ?_); (case hc => walk_at "side"))
  | ((with_reducible refine rv_eq ?hc ?_); (case hc => exact rfl))
  | ((with_reducible refine rv_ne ?hc ?_); (case hc => exact rfl))
  | with_reducible refine rv_test ?_
  | with_reducible refine rv_bl ?_
  | with_reducible refine rv_cb ?_
  | with_reducible refine rv_call ?_
  | with_reducible refine rv_tup ?_
  | with_reducible refine rv_lst ?_
  | with_reducible refine rv_tB ?_
  | with_reducible refine rv_or ?_
  | with_reducible refine rv_and ?_
  | with_reducible refine rv_not ?_
  | with_reducible refine rv_andV ?_
  | with_reducible refine rv_orV ?_
  | with_reducible refine rv_notV ?_
  | with_reducible refine rv_ifE ?_
  | with_reducible refine rs_drop ?_
  | with_reducible refine iteT ?_
  | with_reducible refine iteF ?_
  | with_reducible refine ro_nx ?_
  | with_reducible refine ro_rt ?_
  | with_reducible refine ro_ct ?_
  | with_reducible refine ro_bk ?_)
local macro_rules | `(tactic| walk_at "rd") => `(tactic| repeat walk_at "rd1")
local macro_rules | `(tactic| walk_at "side") => `(tactic| first
  | assumption
  | exact (show CPow _ _ from ⟨by decide, by decide, by decide⟩)
  | exact (show CMul _ _ from .inl ⟨by decide, by decide⟩)
  | exact (show CMul _ _ from .inr ⟨by decide, by decide⟩)
  | (show (0 : Int) < _; decide)
  | (show CMul _ _; first | exact .inl ⟨by omega, by omega⟩ | exact .inr ⟨by omega, by omega⟩)
  | omega)
section
variable {P : Program} {w : World} {K : PySem.W.Frag} {mg : Str → Option Value} {base : Heap}
/-- an __init__ of n fields: a new dict with them -/
def spI (C : Addr) (n : Nat) (fs : List V → List (Str × V)) : Sp := fun vs H Q _ => ∃ (a : Addr) (ws : List V), vs = .ref a :: ws ∧ ws.length = n ∧ H a = some (exo a C none) ∧
  ∀ H' dx, (∀ b o, b ≠ a → H b = some o → H' b = some o) → H' a = some (exo a C (some dx)) → H' dx = some (exd dx (fs ws)) → Q .non H'
def fsText (vs : List V) : List (Str × V) := [("at", vs.getD 0 .non)]
def fsTree (vs : List V) : List (Str × V) := [("why", vs.getD 1 .non), ("path", vs.getD 0 .non)]
def fsNaming (vs : List V) : List (Str × V) := [("other", vs.getD 1 .non), ("one", vs.getD 0 .non)]
theorem scIText : FnScope ["self", "at"] ["self", "at"] (defScope iText) := ⟨rfl, rfl, rfl, by decide +kernel, rfl, by decide +kernel, by decide +kernel⟩
theorem scITree : FnScope ["self", "path", "why"] ["self", "path", "why"] (defScope iTree) := ⟨rfl, rfl, rfl, by decide +kernel, rfl, by decide +kernel, by decide +kernel⟩
theorem scINaming : FnScope ["self", "one", "other"] ["self", "one", "other"] (defScope iNaming) := ⟨rfl, rfl, rfl, by decide +kernel, rfl, by decide +kernel, by decide +kernel⟩
theorem len2 {α : Type} {l : List α} (h : l.length = 1) : ∃ x, l = [x] := by
  match l, h with
  | [x], _ => exact ⟨x, rfl⟩
theorem len3 {α : Type} {l : List α} (h : l.length = 2) : ∃ x y, l = [x, y] := by
  match l, h with
  | [x, y], _ => exact ⟨x, y, rfl⟩
theorem ok_iText {f C : Addr} {fd : FuncData} {dvs : List V} (F : FunD K "__init__" "NoText.__init__" (defArgs iText) (defBody iText) (defScope iText) dvs [] f fd) (O : OexC K C) (n1 : PySem.W.findIn K (.ref C) "at" = some none) : FnOk P w K mg base CX0 1 f fd ["self", "at"] (spI C 1 fsText) := by
  refine F.ok scIText (fun vs H Q E h => ?_) (fun cdv A outer s H vs Q E hr h => ?_)
  · obtain ⟨a, ws, rfl, hl, _⟩ := h
    show ws.length + 1 = 2
    omega
  · refine ⟨_, pss_one (ps_ost (pv 0) (pv 1)), ?_⟩
    obtain ⟨a, ws, rfl, hl, ha, q⟩ := h
    obtain ⟨x, rfl⟩ := len2 hl
    refine ⟨_, rfl, _, rfl, a, C, rfl, O, n1, .inl ⟨ha, fun dx nd ne => ?_⟩⟩
    refine q _ dx (fun b o hb z => ?_) upd_same ?_
    · rw [upd_ne hb, upd_ne (ne_of_none z nd)]
      exact z
    · rw [upd_ne ne, upd_same]
      rfl
theorem ok_iTwo {f C : Addr} {fd : FuncData} {dvs : List V} {st : Stmt} {x y q : Str} {fs : List V → List (Str × V)} (F : FunD K "__init__" q (defArgs st) (defBody st) (defScope st) dvs [] f fd) (O : OexC K C)
    (sc : FnScope ["self", x, y] ["self", x, y] (defScope st)) (n1 : PySem.W.findIn K (.ref C) x = some none) (n2 : PySem.W.findIn K (.ref C) y = some none)
    (hb : ∀ (cdv : Value) (A : Around) (outer : List Env) (s : Shared) (H : Hp) (E : XK), PSs (cxOf CX0 P w K mg base ["self", x, y] q (defScope st) f cdv A outer s H E) (defBody st) (tSeq (tOst K x (tVar 0) (tVar 1)) (tOst K y (tVar 0) (tVar 2))))
    (hfs : ∀ u v, fs [u, v] = [(y, v), (x, u)]) : FnOk P w K mg base CX0 1 f fd ["self", x, y] (spI C 2 fs) := by
  refine F.ok sc (fun vs H Q E h => ?_) (fun cdv A outer s H vs Q E hr h => ?_)
  · obtain ⟨a, ws, rfl, hl, _⟩ := h
    show ws.length + 1 = 3
    omega
  · refine ⟨_, hb cdv A outer s H E, ?_⟩
    obtain ⟨a, ws, rfl, hl, ha, q⟩ := h
    obtain ⟨u, v, rfl⟩ := len3 hl
    refine ⟨_, rfl, _, rfl, a, C, rfl, O, n1, .inl ⟨ha, fun dx nd ne => ?_⟩⟩
    refine ⟨_, rfl, _, rfl, a, C, rfl, O, n2, .inr ⟨dx, _, upd_same, (upd_ne ne).trans upd_same, by show 1 ≤ 900; decide, ?_⟩⟩
    refine q _ dx (fun b o hb z => ?_) ?_ ?_
    · rw [upd_ne (ne_of_none z nd), upd_ne hb, upd_ne (ne_of_none z nd)]
      exact z
    · rw [upd_ne (Ne.symm ne), upd_same]
    · rw [upd_same, hfs]
theorem ok_iTree {f C : Addr} {fd : FuncData} {dvs : List V} (F : FunD K "__init__" "NoTree.__init__" (defArgs iTree) (defBody iTree) (defScope iTree) dvs [] f fd) (O : OexC K C) (n1 : PySem.W.findIn K (.ref C) "path" = some none) (n2 : PySem.W.findIn K (.ref C) "why" = some none) :
    FnOk P w K mg base CX0 1 f fd ["self", "path", "why"] (spI C 2 fsTree) :=
  ok_iTwo F O scITree n1 n2 (fun cdv A outer s H E => pss_cons (ps_ost (pv 0) (pv 1)) (pss_one (ps_ost (pv 0) (pv 2)))) fun _ _ => rfl
theorem ok_iNaming {f C : Addr} {fd : FuncData} {dvs : List V} (F : FunD K "__init__" "NoNaming.__init__" (defArgs iNaming) (defBody iNaming) (defScope iNaming) dvs [] f fd) (O : OexC K C) (n1 : PySem.W.findIn K (.ref C) "one" = some none) (n2 : PySem.W.findIn K (.ref C) "other" = some none) :
    FnOk P w K mg base CX0 1 f fd ["self", "one", "other"] (spI C 2 fsNaming) :=
  ok_iTwo F O scINaming n1 n2 (fun cdv A outer s H E => pss_cons (ps_ost (pv 0) (pv 1)) (pss_one (ps_ost (pv 0) (pv 2)))) fun _ _ => rfl
/-! how arguments come to the parameters -/
section
variable {f : Addr} {fd : FuncData} {d0 d1 : V}
theorem bText0 (F : FunD K "__init__" "NoText.__init__" (defArgs iText) (defBody iText) (defScope iText) [d0] [] f fd) : ∃ ds, Vals [d0] ds ∧ L2.Binds K fd ["self", "at"] ds :=
  F.binds1 1 0 (by simp) rfl fun T kV doc pm an cdv ct us its h1 h2 => match us, its, h1, h2 with | [_], [_], _, _ => ⟨_, rfl, rfl⟩
theorem bText1 (F : FunD K "__init__" "NoText.__init__" (defArgs iText) (defBody iText) (defScope iText) [d0] [] f fd) : L2.Binds K fd ["self", "at"] [] := by
  obtain ⟨ds, h, b⟩ := F.binds1 (ps := ["self", "at"]) 2 1 (by simp) rfl fun T kV doc pm an cdv ct us its h1 h2 => match us, its, h1, h2 with | [_, _], [_], _, _ => ⟨_, rfl, rfl⟩
  cases h
  exact b
theorem kText (F : FunD K "__init__" "NoText.__init__" (defArgs iText) (defBody iText) (defScope iText) [d0] [] f fd) : ∃ its : List Value, KBn K fd ["self", "at"] 1 ["at"] (fun us ws => us ++ ws) (fun vs zs => vs ++ zs) :=
  F.kbindsD (ps := ["self", "at"]) 1 ["at"] (fun us _ ws => us ++ ws) (by simp) (fun h1 _ h3 => h1.append h3)
    fun T kV doc pm an cdv ct us its ws h1 h2 h3 => match us, its, ws, h1, h2, h3 with | [_], [_], [_], _, _, _ => ⟨_, rfl, rfl⟩
variable {x y : Str}
theorem vals_rev : ∀ {xs : List V} {us : List Value}, Vals xs us → Vals xs.reverse us.reverse
  | _, _, .nil => .nil
  | _, _, .cons a r => by
    rw [List.reverse_cons, List.reverse_cons]
    exact (vals_rev r).append (.cons a .nil)
/-- of __init__(self, x = .., y = ..) -/
structure TwoB (K : PySem.W.Frag) (fd : FuncData) (x y : Str) (d0 d1 : V) : Prop where
  b0 : ∃ ds, Vals [d0, d1] ds ∧ L2.Binds K fd ["self", x, y] ds
  b1 : ∃ ds, Vals [d1] ds ∧ L2.Binds K fd ["self", x, y] ds
  b2 : L2.Binds K fd ["self", x, y] []
  kyx : ∃ g, KBn K fd ["self", x, y] 1 [y, x] g (fun vs zs => vs ++ zs.reverse)
  k1y : ∃ g, KBn K fd ["self", x, y] 2 [y] g (fun vs zs => vs ++ zs)
  k0y : ∃ g, KBn K fd ["self", x, y] 1 [y] g (fun vs zs => vs ++ ([d0] ++ zs))
theorem bTree (F : FunD K "__init__" "NoTree.__init__" (defArgs iTree) (defBody iTree) (defScope iTree) [d0, d1] [] f fd) : TwoB K fd "path" "why" d0 d1 where
  b0 := F.binds1 (ps := ["self", "path", "why"]) 1 0 (by simp) rfl fun T kV doc pm an cdv ct us its h1 h2 => match us, its, h1, h2 with | [_], [_, _], _, _ => ⟨_, rfl, rfl⟩
  b1 := F.binds1 (ps := ["self", "path", "why"]) 2 1 (by simp) rfl fun T kV doc pm an cdv ct us its h1 h2 => match us, its, h1, h2 with | [_, _], [_, _], _, _ => ⟨_, rfl, rfl⟩
  b2 := by
    obtain ⟨ds, h, b⟩ := F.binds1 (ps := ["self", "path", "why"]) 3 2 (by simp) rfl fun T kV doc pm an cdv ct us its h1 h2 => match us, its, h1, h2 with | [_, _, _], [_, _], _, _ => ⟨_, rfl, rfl⟩
    cases h
    exact b
  kyx := by
    obtain ⟨its, k⟩ := F.kbindsD (ps := ["self", "path", "why"]) 1 ["why", "path"] (fun us _ ws => us ++ ws.reverse) (by simp) (fun h1 _ h3 => h1.append (vals_rev h3)) (fun T kV doc pm an cdv ct us its ws h1 h2 h3 => match us, its, ws, h1, h2, h3 with | [_], [_, _], [_, _], _, _, _ => ⟨_, rfl, rfl⟩)
    exact ⟨_, k⟩
  k1y := by
    obtain ⟨its, k⟩ := F.kbindsD (ps := ["self", "path", "why"]) 2 ["why"] (fun us _ ws => us ++ ws) (by simp) (fun h1 _ h3 => h1.append h3) (fun T kV doc pm an cdv ct us its ws h1 h2 h3 => match us, its, ws, h1, h2, h3 with | [_, _], [_, _], [_], _, _, _ => ⟨_, rfl, rfl⟩)
    exact ⟨_, k⟩
  k0y := by
    obtain ⟨its, k⟩ := F.kbindsD (ps := ["self", "path", "why"]) 1 ["why"] (fun us its ws => us ++ (its.take 1 ++ ws)) (by simp) (fun h1 h2 h3 => h1.append ((h2.take 1).append h3)) (fun T kV doc pm an cdv ct us its ws h1 h2 h3 => match us, its, ws, h1, h2, h3 with | [_], [_, _], [_], _, _, _ => ⟨_, rfl, rfl⟩)
    exact ⟨_, k⟩
theorem bNaming (F : FunD K "__init__" "NoNaming.__init__" (defArgs iNaming) (defBody iNaming) (defScope iNaming) [d0, d1] [] f fd) : TwoB K fd "one" "other" d0 d1 where
  b0 := F.binds1 (ps := ["self", "one", "other"]) 1 0 (by simp) rfl fun T kV doc pm an cdv ct us its h1 h2 => match us, its, h1, h2 with | [_], [_, _], _, _ => ⟨_, rfl, rfl⟩
  b1 := F.binds1 (ps := ["self", "one", "other"]) 2 1 (by simp) rfl fun T kV doc pm an cdv ct us its h1 h2 => match us, its, h1, h2 with | [_, _], [_, _], _, _ => ⟨_, rfl, rfl⟩
  b2 := by
    obtain ⟨ds, h, b⟩ := F.binds1 (ps := ["self", "one", "other"]) 3 2 (by simp) rfl fun T kV doc pm an cdv ct us its h1 h2 => match us, its, h1, h2 with | [_, _, _], [_, _], _, _ => ⟨_, rfl, rfl⟩
    cases h
    exact b
  kyx := by
    obtain ⟨its, k⟩ := F.kbindsD (ps := ["self", "one", "other"]) 1 ["other", "one"] (fun us _ ws => us ++ ws.reverse) (by simp) (fun h1 _ h3 => h1.append (vals_rev h3)) (fun T kV doc pm an cdv ct us its ws h1 h2 h3 => match us, its, ws, h1, h2, h3 with | [_], [_, _], [_, _], _, _, _ => ⟨_, rfl, rfl⟩)
    exact ⟨_, k⟩
  k1y := by
    obtain ⟨its, k⟩ := F.kbindsD (ps := ["self", "one", "other"]) 2 ["other"] (fun us _ ws => us ++ ws) (by simp) (fun h1 _ h3 => h1.append h3) (fun T kV doc pm an cdv ct us its ws h1 h2 h3 => match us, its, ws, h1, h2, h3 with | [_, _], [_, _], [_], _, _, _ => ⟨_, rfl, rfl⟩)
    exact ⟨_, k⟩
  k0y := by
    obtain ⟨its, k⟩ := F.kbindsD (ps := ["self", "one", "other"]) 1 ["other"] (fun us its ws => us ++ (its.take 1 ++ ws)) (by simp) (fun h1 h2 h3 => h1.append ((h2.take 1).append h3)) (fun T kV doc pm an cdv ct us its ws h1 h2 h3 => match us, its, ws, h1, h2, h3 with | [_], [_, _], [_], _, _, _ => ⟨_, rfl, rfl⟩)
    exact ⟨_, k⟩
end
end
end My

namespace XR
open PySem PySem.Spec PyProof.Rows L2 SX
section
variable {K : PySem.W.Frag} {σ : L2.St} {H : Hp} {Q : VK} {QT : Bool → Hp → Prop} {v x y : V} {i j : Int} {n : Nat} {ta tb tc te : TE} {t : TA} {r r' : R2} {D : Ends} {g : TG} {R : It → Hp → Prop} {Qo : Option Int → Hp → Prop}
theorem rv_chain (q : ta σ H fun x H1 => tb σ H1 fun y H2 => r x y H2 fun z H3 => ∃ k, z = .bl k ∧ (if k = true then tc σ H3 fun w' H4 => r' y w' H4 Q else Q (.bl false) H3)) : tChain r r' ta tb tc σ H Q := q
theorem ri_str (q : te σ H fun v H1 => ∃ x, v = .str x ∧ R (Its x) H1) : iStr te σ H R := q
theorem rv_sl {rr : V → Option Int → Option Int → Hp → VK → Prop} {tl th : TO} (q : te σ H fun x H1 => tl σ H1 fun l H2 => th σ H2 fun u H3 => rr x l u H3 Q) : tSl rr te tl th σ H Q := q
theorem rv_part (q : te σ H fun x H1 => ∃ i, x = .int i ∧ Qo (some i) H1) : tPart te σ H Qo := q
theorem rv_nopart (q : Qo none H) : tNoPart σ H Qo := q
theorem rv_callS {sp : Sp} {E : L2.St → XK} (q : t σ H fun vs H1 => sp vs H1 Q (E σ)) : tCallS sp E t σ H Q := q
theorem rv_le (q : Q (.bl (decide (i ≤ j))) H) : rI0 (fun i j => V.bl (decide (i ≤ j))) (.int i) (.int j) H Q := ⟨i, j, rfl, rfl, q⟩
def rLeS : R2 := fun x y H Q => ∃ i j, x = .str i ∧ y = .str j ∧ Q (.bl (!decide (j.cps.toList < i.cps.toList))) H
theorem op_leS {X : Cx} : OpR X (compareOp .LtE) rLeS := op_le_str
theorem lt1 (a b : Nat) : (([a] : List Nat) < [b]) ↔ a < b := by
  constructor
  · intro h
    cases h with
    | rel h => exact h
    | cons h => cases h
  · intro h
    exact .rel h
theorem rv_leS {a b : Nat} (q : Q (.bl (decide (a ≤ b))) H) : rLeS (.str (S [a])) (.str (S [b])) H Q := by
  refine ⟨_, _, rfl, rfl, ?_⟩
  have e : (!decide ((S [b]).cps.toList < (S [a]).cps.toList)) = decide (a ≤ b) := by
    show (!decide ([b] < [a])) = decide (a ≤ b)
    rw [← decide_not]
    exact decide_eq_decide.mpr (by rw [lt1]; omega)
  rw [e]
  exact q
theorem rv_inS {c : Nat} {z : List Nat} (q : Q (.bl (decide (c ∈ z))) H) : rInS (.str (S [c])) (.str (S z)) H Q := ⟨c, S z, rfl, rfl, q⟩
theorem at_S {t : List Nat} {k c : Nat} (hk : t[k]? = some c) (hl : t.length ≤ sizeLine) (q : Q (.str (S [c])) H) : rIxS (.str (S t)) (.int (k : Int)) H Q :=
  ⟨S t, k, c, rfl, rfl, by rw [S_len]; exact hl, atI_nat hk, q⟩
theorem cut_S {t : List Nat} (a b : Nat) : cutS (S t) (some (a : Int)) (some (b : Int)) = S ((t.drop a).take (b - a)) := by
  unfold cutS
  rw [HT.sIx_nat, HT.sIx_nat, S_len]
  show S ((t.drop (min a t.length)).take (min b t.length - min a t.length)) = _
  congr 1
  by_cases h : a ≤ t.length
  · rw [Nat.min_eq_left h]
    by_cases h2 : b ≤ t.length
    · rw [Nat.min_eq_left h2]
    · rw [show min b t.length = t.length from by omega, List.take_of_length_le (by simp), List.take_of_length_le (by simp; omega)]
  · rw [show min a t.length = t.length from by omega, List.drop_of_length_le (Nat.le_refl _), List.drop_of_length_le (by omega)]
    simp
theorem rv_cut {t : List Nat} {a b : Nat} (hl : t.length ≤ sizeLine) (q : Q (.str (S ((t.drop a).take (b - a)))) H) : rSlS (.str (S t)) (some (a : Int)) (some (b : Int)) H Q :=
  ⟨S t, rfl, by rw [S_len]; exact hl, by rw [cut_S]; exact q⟩
theorem rv_lenS {t : List Nat} (hl : t.length ≤ sizeLine) (q : Q (.int (t.length : Nat)) H) : ∃ z, [V.str (S t)] = [.str z] ∧ z.length ≤ sizeLine ∧ Q (.int z.length) H :=
  ⟨S t, rfl, by rw [S_len]; exact hl, by rw [S_len]; exact q⟩
end
end XR

namespace My
open PySem PySem.Spec PyProof.Rows L2 XR SX
abbrev sLetter : Stmt := top 18
abbrev sFigure : Stmt := top 19
abbrev sLF : Stmt := top 20
abbrev sName : Stmt := top 21
abbrev sPlain : Stmt := top 22
abbrev sNumber : Stmt := top 23
abbrev sRunEnd : Stmt := top 24
abbrev sSort : Stmt := top 25
abbrev sSign : Stmt := top 26
abbrev sWords : Stmt := top 27
section
variable {P : Program} {w : World} {K : PySem.W.Frag} {mg : Str → Option Value} {base : Heap}
local macro_rules | `(tactic| walk_at "rd1") => `(tactic| first
  | with_reducible refine rs_seq ?_
  | with_reducible refine rs_asg ?_
  | with_reducible refine rs_ret ?_
  | with_reducible refine rs_if ?_
  | with_reducible refine rs_next ?_
  | with_reducible refine rg_name ?_
  | ((with_reducible refine rv_var (v := ?vv) ?hv ?_); (case hv => exact rfl))
  | with_reducible refine rv_c ?_
  | with_reducible refine rv_op ?_
  | with_reducible refine rv_cons ?_
  | with_reducible refine rv_nil ?_
  | with_reducible refine rv_rI0 ?_
  | ((with_reducible refine rv_rI ?hc ?_); (case hc => walk_at "side"))
  | ((with_reducible refine rv_eq ?hc ?_); (case hc => exact rfl))
  | ((with_reducible refine rv_ne ?hc ?_); (case hc => exact rfl))
  | with_reducible refine rv_test ?_
  | with_reducible refine rv_bl ?_
  | with_reducible refine rv_cb ?_
  | with_reducible refine rv_call ?_
  | with_reducible refine rv_tup ?_
  | with_reducible refine rv_lst ?_
  | with_reducible refine rv_tB ?_
  | with_reducible refine rv_or ?_
  | with_reducible refine rv_and ?_
  | with_reducible refine rv_not ?_
  | with_reducible refine rv_andV ?_
  | with_reducible refine rv_orV ?_
  | with_reducible refine rv_notV ?_
  | with_reducible refine rv_ifE ?_
  | with_reducible refine rs_drop ?_
  | with_reducible refine iteT ?_
  | with_reducible refine iteF ?_
  | with_reducible refine ro_nx ?_
  | with_reducible refine ro_rt ?_
  | with_reducible refine ro_ct ?_
  | with_reducible refine ro_bk ?_)
local macro_rules | `(tactic| walk_at "rd") => `(tactic| repeat walk_at "rd1")
local macro_rules | `(tactic| walk_at "side") => `(tactic| first
  | assumption
  | exact (show CPow _ _ from ⟨by decide, by decide, by decide⟩)
  | exact (show CMul _ _ from .inl ⟨by decide, by decide⟩)
  | exact (show CMul _ _ from .inr ⟨by decide, by decide⟩)
  | (show (0 : Int) < _; decide)
  | (show CMul _ _; first | exact .inl ⟨by omega, by omega⟩ | exact .inr ⟨by omega, by omega⟩)
  | omega)
local macro_rules | `(tactic| walk_at "rd1") => `(tactic| first
  | with_reducible refine rs_for ?_
  | with_reducible refine ri_zip ?_
  | with_reducible refine ri_list ?_
  | with_reducible refine ri_rng1 ?_
  | with_reducible refine rv_lc ?_
  | with_reducible refine rv_xfl ?_
  | with_reducible refine rs_par3 ?_
  | with_reducible refine rv_yes ?_
  | with_reducible refine rg_tup ?_
  | with_reducible refine rg_cons ?_
  | with_reducible refine rg_nil ?_)
local macro_rules | `(tactic| walk_at "rd1") => `(tactic| first
  | with_reducible refine ri_str ?_
  | with_reducible refine rv_sl ?_
  | with_reducible refine rv_part ?_
  | with_reducible refine rv_nopart ?_
  | with_reducible refine rv_callS ?_
  | with_reducible refine rv_chain ?_
  | with_reducible refine rv_leS ?_
  | with_reducible refine rv_inS ?_)
def isL (c : Nat) : Bool := decide (97 ≤ c) && decide (c ≤ 122)
def isF (c : Nat) : Bool := decide (48 ≤ c) && decide (c ≤ 57)
def isLF (c : Nat) : Bool := isL c || isF c
/-- a test of one sign -/
def spB (f : Nat → Bool) : Sp := fun vs H Q _ => ∃ c : Nat, vs = [.str (S [c])] ∧ Q (.bl (f c)) H
theorem scLetter : FnScope ["sign"] ["sign"] (defScope sLetter) := ⟨rfl, rfl, rfl, by decide +kernel, rfl, by decide +kernel, by decide +kernel⟩
theorem scFigure : FnScope ["sign"] ["sign"] (defScope sFigure) := ⟨rfl, rfl, rfl, by decide +kernel, rfl, by decide +kernel, by decide +kernel⟩
theorem scLF : FnScope ["sign"] ["sign"] (defScope sLF) := ⟨rfl, rfl, rfl, by decide +kernel, rfl, by decide +kernel, by decide +kernel⟩
theorem ok_Letter {f : Addr} {fd : FuncData} (F : Fun K "is_letter" "is_letter" sLetter f fd) : FnOk P w K mg base CX0 1 f fd ["sign"] (spB isL) := by
  refine F.ok scLetter (fun vs H Q E h => ?_) (fun cdv A outer s H vs Q E hr h => ?_)
  · obtain ⟨c, rfl, _⟩ := h
    rfl
  · refine ⟨_, pss_one (ps_ret (pe_chain op_leS op_leS pe_str (pv 0) pe_str)), ?_⟩
    obtain ⟨c, rfl, q⟩ := h
    walk_at "rd"
    refine rv_leS (a := 97) ?_
    refine ⟨_, rfl, ite2 (fun h => ?_) (fun h => ?_)⟩
    · walk_at "rd"
      refine rv_leS (b := 122) ?_
      show Q (.bl (decide (c ≤ 122))) H
      have e : isL c = decide (c ≤ 122) := by unfold isL; rw [h]; rfl
      rw [← e]
      exact q
    · show Q (.bl false) H
      have e : isL c = false := by unfold isL; rw [Bool.eq_false_iff.mpr h]; rfl
      rw [← e]
      exact q
theorem ok_Figure {f : Addr} {fd : FuncData} (F : Fun K "is_figure" "is_figure" sFigure f fd) : FnOk P w K mg base CX0 1 f fd ["sign"] (spB isF) := by
  refine F.ok scFigure (fun vs H Q E h => ?_) (fun cdv A outer s H vs Q E hr h => ?_)
  · obtain ⟨c, rfl, _⟩ := h
    rfl
  · refine ⟨_, pss_one (ps_ret (pe_chain op_leS op_leS pe_str (pv 0) pe_str)), ?_⟩
    obtain ⟨c, rfl, q⟩ := h
    walk_at "rd"
    refine rv_leS (a := 48) ?_
    refine ⟨_, rfl, ite2 (fun h => ?_) (fun h => ?_)⟩
    · walk_at "rd"
      refine rv_leS (b := 57) ?_
      show Q (.bl (decide (c ≤ 57))) H
      have e : isF c = decide (c ≤ 57) := by unfold isF; rw [h]; rfl
      rw [← e]
      exact q
    · show Q (.bl false) H
      have e : isF c = false := by unfold isF; rw [Bool.eq_false_iff.mpr h]; rfl
      rw [← e]
      exact q
theorem ok_LF {f fL fF : Addr} {fd dL dF : FuncData} (F : Fun K "is_letter_or_figure" "is_letter_or_figure" sLF f fd) (FL : Fun K "is_letter" "is_letter" sLetter fL dL) (FF : Fun K "is_figure" "is_figure" sFigure fF dF)
    (gL : mg "is_letter" = some (.ref fL)) (gF : mg "is_figure" = some (.ref fF)) (bL : L2.Binds K dL ["sign"] []) (bF : L2.Binds K dF ["sign"] []) : FnOk P w K mg base CX0 2 f fd ["sign"] (spB isLF) := by
  have GL : FnOk P w K mg base CX0 1 fL dL ["sign"] (spB isL) := ok_Letter FL
  have GF : FnOk P w K mg base CX0 1 fF dF ["sign"] (spB isF) := ok_Figure FF
  refine F.ok scLF (fun vs H Q E h => ?_) (fun cdv A outer s H vs Q E hr h => ?_)
  · obtain ⟨c, rfl, _⟩ := h
    rfl
  · refine ⟨_, pss_one (ps_ret (pe_or (pe_call GL hr (by rfl) gL FL.kp bL .nil pass0 (pa_cons (pv 0) pa_nil)) (pe_one (pe_call GF hr (by rfl) gF FF.kp bF .nil pass0 (pa_cons (pv 0) pa_nil))))), ?_⟩
    obtain ⟨c, rfl, q⟩ := h
    walk_at "rd"
    refine ⟨c, rfl, ?_⟩
    refine ⟨_, rfl, ite2 (fun h => ?_) (fun h => ?_)⟩
    · have e : isLF c = true := by unfold isLF; rw [h]; rfl
      rw [e] at q
      exact q
    · walk_at "rd"
      refine ⟨c, rfl, ?_⟩
      have e : isLF c = isF c := by unfold isLF; rw [Bool.eq_false_iff.mpr h]; rfl
      rw [← e]
      exact q
def keptL : List Str := ["let", "if", "else", "while", "return", "fail", "try", "catch", "out", "fn"]
/-- is the text of these signs a kept word -/
def kept (t : List Nat) : Bool := inV (.str (S t)) (keptL.map V.str)
def nameB (t : List Nat) : Bool := decide (1 ≤ t.length) && decide (t.length ≤ 12) && !kept t && t.all isL
def spName : Sp := fun vs H Q _ => ∃ t : List Nat, vs = [.str (S t)] ∧ t.length ≤ 4000 ∧ ∀ H', Same H H' → Q (.bl (nameB t)) H'
def plainB (t : List Nat) : Bool := !decide (t = []) && t.all isF && (decide (t = [48]) || !decide (t.head? = some 48))
def spPlain : Sp := fun vs H Q _ => ∃ t : List Nat, vs = [.str (S t)] ∧ t.length ≤ 4000 ∧ ∀ H', Same H H' → Q (.bl (plainB t)) H'
/-- the signs of a text, each asked -/
theorem lc_signs {t : List Nat} {H : Hp} {D : Addr} {i : Nat} {f : Nat → Bool} {σ : L2.St} {vs : List Nat} {Qd : Hp → Prop} (hl : t.length ≤ 4000) (hD : H D = none)
    (hσ : i < (wipe σ vs).length) (hv : wipe ((wipe σ vs).set i none) vs = wipe σ vs) (hw : ∀ x : V, wipe ((wipe σ vs).set i (some x)) vs = wipe σ vs)
    (hd : ∀ H', Same H H' → H' D = some (.lst ((t.map f).map V.bl)) → Qd H') :
    ∃ W : Nat → Nat → Hp → Prop, (∃ m, W 0 m (upd H D (.lst []))) ∧ ∀ i' m H, W i' m H →
      ((Its (S t)).stop i' H ∧ Qd H) ∨ ((Its (S t)).go i' H ∧ ∃ Nx : Hp → Prop, (∀ H', Nx H' → ∃ m', m' < m ∧ W (i' + 1) m' H') ∧ ∀ x H', (Its (S t)).yld i' H x H' → gName i x (wipe σ vs) H' fun σ2 H2 => wipe σ2 vs = wipe σ vs ∧ tYes σ2 H2 fun b H3 =>
        if b = true then tCall (spB f) [] E0 (tCons (tVar i) tNil) σ2 H3 fun y H4 => ∃ acc, H4 D = some (.lst acc) ∧ acc.length < sizeLine ∧ Nx (upd H4 D (.lst (acc ++ [y]))) else Nx H3) := by
  refine lc_it walk_str (fun n H' => Same H H' ∧ H' D = some (.lst (((t.take n).map f).map V.bl))) ⟨same_upd hD, by rw [List.take_zero]; exact upd_same⟩ (fun _ _ _ _ => True.intro) ?_ ?_
  · rintro n x H' H2 hn ⟨sm, hd'⟩ ⟨rfl, c, hc, rfl⟩
    have hn' : n < t.length := by simpa using hn
    have hc' : t[n]? = some c := by simpa using hc
    refine rg_name ⟨hw _, ?_⟩
    refine rv_yes ?_
    refine iteT ?_
    refine rv_call ?_
    refine rv_cons ?_
    refine ⟨_, by rw [List.getElem?_set_self hσ], ?_⟩
    refine ⟨c, rfl, _, hd', ?_, fun b o z => ?_, ?_⟩
    · rw [List.length_map, List.length_map, List.length_take]
      exact Nat.lt_of_lt_of_le (by omega : min n t.length < 4001) (by rw [sizeLine_eq]; decide)
    · rw [upd_ne (fun z2 => by rw [z2] at z; rw [z] at hD; cases hD)]
      exact sm _ _ z
    · rw [upd_same, List.take_succ, hc']
      simp
  · rintro H' ⟨sm, hd'⟩
    refine hd H' sm ?_
    have : t.take (S t).cps.size = t := List.take_of_length_le (by simp)
    rw [this] at hd'
    exact hd'
end
end My

namespace My
open PySem PySem.Spec PyProof.Rows L2 XR SX
section
variable {P : Program} {w : World} {K : PySem.W.Frag} {mg : Str → Option Value} {base : Heap} {aK aL aS : Addr}
local macro_rules | `(tactic| walk_at "rd1") => `(tactic| first
  | with_reducible refine rs_seq ?_
  | with_reducible refine rs_asg ?_
  | with_reducible refine rs_ret ?_
  | with_reducible refine rs_if ?_
  | with_reducible refine rs_next ?_
  | with_reducible refine rg_name ?_
  | ((with_reducible refine rv_var (v := ?vv) ?hv ?_); (case hv => exact rfl))
  | with_reducible refine rv_c ?_
  | with_reducible refine rv_op ?_
  | with_reducible refine rv_cons ?_
  | with_reducible refine rv_nil ?_
  | with_reducible refine rv_rI0 ?_
  | ((with_reducible refine rv_rI ?hc ?_); (case hc => walk_at "side"))
  | ((with_reducible refine rv_eq ?hc ?_); (case hc => exact rfl))
  | ((with_reducible refine rv_ne ?hc ?_); (case hc => exact rfl))
  | with_reducible refine rv_test ?_
  | with_reducible refine rv_bl ?_
  | with_reducible refine rv_cb ?_
  | with_reducible refine rv_call ?_
  | with_reducible refine rv_tup ?_
  | with_reducible refine rv_lst ?_
  | with_reducible refine rv_tB ?_
  | with_reducible refine rv_or ?_
  | with_reducible refine rv_and ?_
  | with_reducible refine rv_not ?_
  | with_reducible refine rv_andV ?_
  | with_reducible refine rv_orV ?_
  | with_reducible refine rv_notV ?_
  | with_reducible refine rv_ifE ?_
  | with_reducible refine rs_drop ?_
  | with_reducible refine iteT ?_
  | with_reducible refine iteF ?_
  | with_reducible refine ro_nx ?_
  | with_reducible refine ro_rt ?_
  | with_reducible refine ro_ct ?_
  | with_reducible refine ro_bk ?_)
local macro_rules | `(tactic| walk_at "rd") => `(tactic| repeat walk_at "rd1")
local macro_rules | `(tactic| walk_at "side") => `(tactic| first
  | assumption
  | exact (show CPow _ _ from ⟨by decide, by decide, by decide⟩)
  | exact (show CMul _ _ from .inl ⟨by decide, by decide⟩)
  | exact (show CMul _ _ from .inr ⟨by decide, by decide⟩)
  | (show (0 : Int) < _; decide)
  | (show CMul _ _; first | exact .inl ⟨by omega, by omega⟩ | exact .inr ⟨by omega, by omega⟩)
  | omega)
local macro_rules | `(tactic| walk_at "rd1") => `(tactic| first
  | with_reducible refine rs_for ?_
  | with_reducible refine ri_zip ?_
  | with_reducible refine ri_list ?_
  | with_reducible refine ri_rng1 ?_
  | with_reducible refine rv_lc ?_
  | with_reducible refine rv_xfl ?_
  | with_reducible refine rs_par3 ?_
  | with_reducible refine rv_yes ?_
  | with_reducible refine rg_tup ?_
  | with_reducible refine rg_cons ?_
  | with_reducible refine rg_nil ?_)
local macro_rules | `(tactic| walk_at "rd1") => `(tactic| first
  | with_reducible refine ri_str ?_
  | with_reducible refine rv_sl ?_
  | with_reducible refine rv_part ?_
  | with_reducible refine rv_nopart ?_
  | with_reducible refine rv_callS ?_
  | with_reducible refine rv_chain ?_
  | with_reducible refine rv_leS ?_
  | with_reducible refine rv_inS ?_)
def longL : List Str := ["<=", ">=", "==", "!=", "&&", "||"]
def shortL : List Str := ["+", "-", "*", "/", "~", "<", ">", "!", "?", ":", ".", ",", "=", "(", ")", "{", "}", "[", "]", ";"]
structure Glo (K : PySem.W.Frag) (mg : Str → Option Value) (aK aL aS : Addr) : Prop where
  mI : mg "isinstance" = none
  mS : mg "str" = none
  mA : mg "all" = none
  mL : mg "len" = none
  mN : mg "int" = none
  c12 : ∃ t, mg "MOST_LETTERS" = some (.int 12 t)
  c18 : ∃ t, mg "MOST_FIGURES" = some (.int 18 t)
  gK : mg "KEPT" = some (.ref aK)
  gLo : mg "LONG_SIGNS" = some (.ref aL)
  gSh : mg "SHORT_SIGNS" = some (.ref aS)
  sK : ∀ H, SqT K H aK (keptL.map V.str)
  sLo : ∀ H, SqT K H aL (longL.map V.str)
  sSh : ∀ H, SqT K H aS (shortL.map V.str)
theorem kit_same {K : PySem.W.Frag} {t : Value} : PySem.W.kitOne K t t = some true := by
  unfold PySem.W.kitOne
  rw [if_pos (beq_self_eq_true t)]
theorem eqS {t u : List Nat} {k : Bool} (h : decide (V.str (S t) = V.str (S u)) = k) : decide (t = u) = k := by
  rw [← h]
  exact decide_eq_decide.mpr ⟨fun e => by rw [e], fun e => S_inj (V.str.inj e)⟩
theorem len_le {n : Nat} (h : n ≤ 4000) : n ≤ sizeLine := Nat.le_trans h (by rw [sizeLine_eq]; decide)
theorem scName : FnScope ["thing", "sign"] ["thing"] (defScope sName) := ⟨rfl, rfl, rfl, by decide +kernel, rfl, by decide +kernel, by decide +kernel⟩
theorem scPlain : FnScope ["word", "sign"] ["word"] (defScope sPlain) := ⟨rfl, rfl, rfl, by decide +kernel, rfl, by decide +kernel, by decide +kernel⟩
theorem ok_Name {f fL : Addr} {fd dL : FuncData} (F : Fun K "is_name" "is_name" sName f fd) (T : Glo K mg aK aL aS) (FL : Fun K "is_letter" "is_letter" sLetter fL dL) (gL : mg "is_letter" = some (.ref fL)) (bL : L2.Binds K dL ["sign"] []) : FnOk P w K mg base CX0 2 f fd ["thing"] spName := by
  have GL : FnOk P w K mg base CX0 1 fL dL ["sign"] (spB isL) := ok_Letter FL
  obtain ⟨t12, h12⟩ := T.c12
  refine F.ok scName (fun vs H Q E h => ?_) (fun cdv A outer s H vs Q E hr h => ?_)
  · obtain ⟨c, rfl, _⟩ := h
    rfl
  · refine ⟨_, (pss_cons (ps_if (PW.pt (pw_or (pt_not (pt_val (pe_callB call_isi (by rfl) T.mI (by decide +kernel) (pa_cons (pv 0) (pa_cons (pe_bltn (by rfl) T.mS (by decide +kernel) (v := .ty "str") rfl) pa_nil))))) (pw_or (pt_not (pt_chain op_le op_le pe_int (pe_callB call_len_str (by rfl) T.mL PySem.boot_len (pa_cons (pv 0) pa_nil)) (pe_glob (by rfl) h12 (v := .int 12) ⟨_, rfl⟩))) (pw_or1 (pt_cmpR op_in_seq (pv 0) (pe_glob (by rfl) T.gK (v := .ref aK) rfl) (by rfl)))))) (pss_one (ps_ret pe_bl)) pss_nil)
        (pss_one (ps_ret (pe_callB (cr_all rfl) (by rfl) T.mA (by decide +kernel) (pa_cons (pe_lc (own := [("sign", 1)]) (g := gName 1) (tt := tYes) (te := tCall (spB isL) [] E0 (tCons (tVar 1) tNil)) (by rfl) scName.nd (pi_str (pv 0)) (blkOk_by (own := [("sign", 1)]) (N := ["thing", "sign"]) (sc := defScope sName) (by decide +kernel)) (fun _ _ _ _ _ => (pg_name (i := 1) scName.nd rfl (.inl rfl))) (fun _ _ _ _ _ => pts_nil) (fun _ _ _ _ _ => pe_call GL hr (by rfl) gL FL.kp bL .nil pass0 (pa_cons (pv 1) pa_nil))) pa_nil))))), ?_⟩
    obtain ⟨t, rfl, hl, q⟩ := h
    walk_at "rd"
    refine ⟨_, _, _, _, true, rfl, .ty _, .base (.str _), kit_same, ?_⟩
    refine ⟨_, rfl, ?_⟩
    refine iteFe rfl ?_
    walk_at "rd"
    refine ⟨S t, rfl, len_le hl, ?_⟩
    rw [S_len]
    refine ⟨_, _, rfl, rfl, ?_⟩
    refine ⟨_, rfl, ite2 (fun h1 => ?_) (fun h1 => ?_)⟩
    · have h1' : 1 ≤ t.length := by have := of_decide_eq_true h1; omega
      walk_at "rd"
      refine ite2 (fun h2 => ?_) (fun h2 => ?_)
      · walk_at "rd"
        have h2' : ¬ t.length ≤ 12 := fun z => by
          have : decide ((t.length : Int) ≤ 12) = true := decide_eq_true (by omega)
          rw [this] at h2
          cases h2
        have e : nameB t = false := by unfold nameB; rw [decide_eq_false h2']; simp
        rw [e] at q
        exact q H (Same.refl H)
      · have h2' : t.length ≤ 12 := by
          have : decide ((t.length : Int) ≤ 12) = true := by simpa using h2
          have := of_decide_eq_true this
          omega
        walk_at "rd"
        refine ⟨aK, _, rfl, .inr (T.sK H), rfl, (by decide +kernel), ?_⟩
        refine ⟨_, rfl, ite2 (fun h3 => ?_) (fun h3 => ?_)⟩
        · walk_at "rd"
          have h3' : kept t = true := h3
          have e : nameB t = false := by unfold nameB; rw [h3']; simp
          rw [e] at q
          exact q H (Same.refl H)
        · walk_at "rd"
          refine ⟨_, rfl, ?_⟩
          intro D hD
          refine lc_signs (i := 1) (vs := [1]) hl hD (by show 1 < 2; decide) (by rfl) (fun _ => by rfl) fun H' sm hs => ?_
          walk_at "rd"
          refine ⟨D, _, rfl, SqL.of hs, ?_⟩
          have h3' : kept t = false := Bool.eq_false_iff.mpr h3
          have e : (t.map isL).all id = nameB t := by
            unfold nameB
            rw [decide_eq_true h1', decide_eq_true h2', h3', List.all_map]
            rfl
          rw [e]
          exact q H' sm
    · walk_at "rd"
      have h1' : ¬ 1 ≤ t.length := fun z => h1 (decide_eq_true (by omega))
      have e : nameB t = false := by unfold nameB; rw [decide_eq_false h1']; simp
      rw [e] at q
      exact q H (Same.refl H)
theorem ok_Plain {f fF : Addr} {fd dF : FuncData} (F : Fun K "is_plain_number" "is_plain_number" sPlain f fd) (T : Glo K mg aK aL aS) (FF : Fun K "is_figure" "is_figure" sFigure fF dF) (gF : mg "is_figure" = some (.ref fF)) (bF : L2.Binds K dF ["sign"] []) : FnOk P w K mg base CX0 2 f fd ["word"] spPlain := by
  have GF : FnOk P w K mg base CX0 1 fF dF ["sign"] (spB isF) := ok_Figure FF
  refine F.ok scPlain (fun vs H Q E h => ?_) (fun cdv A outer s H vs Q E hr h => ?_)
  · obtain ⟨c, rfl, _⟩ := h
    rfl
  · refine ⟨_, (pss_cons (ps_if (PW.pt (pw_or (pt_cmpR op_eq (pv 0) pe_str (nomark _)) (pw_or1 (pt_not (pt_val (pe_callB (cr_all rfl) (by rfl) T.mA (by decide +kernel) (pa_cons (pe_lc (own := [("sign", 1)]) (g := gName 1) (tt := tYes) (te := tCall (spB isF) [] E0 (tCons (tVar 1) tNil)) (by rfl) scPlain.nd (pi_str (pv 0)) (blkOk_by (own := [("sign", 1)]) (N := ["word", "sign"]) (sc := defScope sPlain) (by decide +kernel)) (fun _ _ _ _ _ => (pg_name (i := 1) scPlain.nd rfl (.inl rfl))) (fun _ _ _ _ _ => pts_nil) (fun _ _ _ _ _ => pe_call GF hr (by rfl) gF FF.kp bF .nil pass0 (pa_cons (pv 1) pa_nil))) pa_nil))))))) (pss_one (ps_ret pe_bl)) pss_nil)
        (pss_one (ps_ret (pe_or (pe_cmpR op_eq (pv 0) pe_str (nomark _)) (pe_one (pe_cmpR op_ne (pe_ix ix_str (pv 0) pe_int (fun _ _ => rfl)) pe_str (nomark _))))))), ?_⟩
    obtain ⟨t, rfl, hl, q⟩ := h
    walk_at "rd"
    refine ite2 (fun h1 => ?_) (fun h1 => ?_)
    · have h1' : t = [] := of_decide_eq_true (eqS (u := []) h1)
      walk_at "rd"
      have e : plainB t = false := by rw [h1']; rfl
      rw [e] at q
      exact q H (Same.refl H)
    · have h1' : t ≠ [] := of_decide_eq_false (eqS (u := []) (Bool.eq_false_iff.mpr h1))
      walk_at "rd"
      refine ⟨_, rfl, ?_⟩
      intro D hD
      refine lc_signs (i := 1) (vs := [1]) hl hD (by show 1 < 2; decide) (by rfl) (fun _ => by rfl) fun H' sm hs => ?_
      walk_at "rd"
      refine ⟨D, _, rfl, SqL.of hs, ?_⟩
      refine ⟨_, rfl, ite2 (fun h2 => ?_) (fun h2 => ?_)⟩
      · have h2' : t.all isF = false := by rw [List.all_map] at h2; simpa using h2
        walk_at "rd"
        have e : plainB t = false := by unfold plainB; rw [h2']; simp
        rw [e] at q
        exact q H' sm
      · have h2' : t.all isF = true := by rw [List.all_map] at h2; simpa using h2
        walk_at "rd"
        refine ite2 (fun h3 => ?_) (fun h3 => ?_)
        · have h3' : t = [48] := of_decide_eq_true (eqS (u := [48]) h3)
          have e : plainB t = true := by unfold plainB; rw [h2', decide_eq_false h1', decide_eq_true h3']; rfl
          rw [e] at q
          exact q H' sm
        · have h3' : ¬ t = [48] := of_decide_eq_false (eqS (u := [48]) (Bool.eq_false_iff.mpr h3))
          obtain ⟨c, r, rfl⟩ : ∃ c r, t = c :: r := by
            cases t with
            | nil => exact absurd rfl h1'
            | cons c r => exact ⟨c, r, rfl⟩
          walk_at "rd"
          refine at_S (k := 0) (c := c) rfl (len_le hl) ?_
          refine rv_ne rfl ?_
          have e : (!decide (V.str (S [c]) = V.str "0")) = plainB (c :: r) := by
            rw [show decide (V.str (S [c]) = V.str "0") = decide ([c] = [48]) from (eqS (u := [48]) rfl).symm]
            unfold plainB
            rw [h2', decide_eq_false h1', decide_eq_false h3']
            simp
          rw [e]
          exact q H' sm
end
end My

namespace My
open PySem PySem.Spec PyProof.Rows L2 XR SX
section
variable {P : Program} {w : World} {K : PySem.W.Frag} {mg : Str → Option Value} {base : Heap} {aK aL aS : Addr}
local macro_rules | `(tactic| walk_at "rd1") => `(tactic| first
  | with_reducible refine rs_seq ?_
  | with_reducible refine rs_asg ?_
  | with_reducible refine rs_ret ?_
  | with_reducible refine rs_if ?_
  | with_reducible refine rs_next ?_
  | with_reducible refine rg_name ?_
  | ((with_reducible refine rv_var (v := ?vv) ?hv ?_); (case hv => exact rfl))
  | with_reducible refine rv_c ?_
  | with_reducible refine rv_op ?_
  | with_reducible refine rv_cons ?_
  | with_reducible refine rv_nil ?_
  | with_reducible refine rv_rI0 ?_
  | ((with_reducible refine rv_rI ?hc ?_); (case hc => walk_at "side"))
  | ((with_reducible refine rv_eq ?hc ?_); (case hc => exact rfl))
  | ((with_reducible refine rv_ne ?hc ?_); (case hc => exact rfl))
  | with_reducible refine rv_test ?_
  | with_reducible refine rv_bl ?_
  | with_reducible refine rv_cb ?_
  | with_reducible refine rv_call ?_
  | with_reducible refine rv_tup ?_
  | with_reducible refine rv_lst ?_
  | with_reducible refine rv_tB ?_
  | with_reducible refine rv_or ?_
  | with_reducible refine rv_and ?_
  | with_reducible refine rv_not ?_
  | with_reducible refine rv_andV ?_
  | with_reducible refine rv_orV ?_
  | with_reducible refine rv_notV ?_
  | with_reducible refine rv_ifE ?_
  | with_reducible refine rs_drop ?_
  | with_reducible refine iteT ?_
  | with_reducible refine iteF ?_
  | with_reducible refine ro_nx ?_
  | with_reducible refine ro_rt ?_
  | with_reducible refine ro_ct ?_
  | with_reducible refine ro_bk ?_)
local macro_rules | `(tactic| walk_at "rd") => `(tactic| repeat walk_at "rd1")
local macro_rules | `(tactic| walk_at "side") => `(tactic| first
  | assumption
  | exact (show CPow _ _ from ⟨by decide, by decide, by decide⟩)
  | exact (show CMul _ _ from .inl ⟨by decide, by decide⟩)
  | exact (show CMul _ _ from .inr ⟨by decide, by decide⟩)
  | (show (0 : Int) < _; decide)
  | (show CMul _ _; first | exact .inl ⟨by omega, by omega⟩ | exact .inr ⟨by omega, by omega⟩)
  | omega)
local macro_rules | `(tactic| walk_at "rd1") => `(tactic| first
  | with_reducible refine rs_for ?_
  | with_reducible refine ri_zip ?_
  | with_reducible refine ri_list ?_
  | with_reducible refine ri_rng1 ?_
  | with_reducible refine rv_lc ?_
  | with_reducible refine rv_xfl ?_
  | with_reducible refine rs_par3 ?_
  | with_reducible refine rv_yes ?_
  | with_reducible refine rg_tup ?_
  | with_reducible refine rg_cons ?_
  | with_reducible refine rg_nil ?_)
local macro_rules | `(tactic| walk_at "rd1") => `(tactic| first
  | with_reducible refine ri_str ?_
  | with_reducible refine rv_sl ?_
  | with_reducible refine rv_part ?_
  | with_reducible refine rv_nopart ?_
  | with_reducible refine rv_callS ?_
  | with_reducible refine rv_chain ?_
  | with_reducible refine rv_leS ?_
  | with_reducible refine rv_inS ?_)
def noE (c : Nat) : Bool := !(c == 101)
def numB (t : List Nat) : Bool :=
  if plainB (t.takeWhile noE) = true then
    if (t.takeWhile noE).length = t.length then decide ((t.takeWhile noE).length ≤ 18)
    else !decide (t.takeWhile noE = [48]) && !decide (t.drop ((t.takeWhile noE).length + 1) = [48]) && decide ((t.drop ((t.takeWhile noE).length + 1)).length ≤ 2) && plainB (t.drop ((t.takeWhile noE).length + 1)) &&
      decide ((t.takeWhile noE).length + NumText.digitsVal (t.drop ((t.takeWhile noE).length + 1)) ≤ 18)
  else false
theorem tw_no : ∀ {t : List Nat}, 101 ∉ t → t.takeWhile noE = t
  | [], _ => rfl
  | c :: t, h => by
    have h1 : noE c = true := by
      unfold noE
      have : ¬ c = 101 := fun e => h (by rw [e]; exact List.mem_cons_self)
      simp [this]
    rw [List.takeWhile_cons, h1, if_pos rfl, tw_no fun z => h (List.mem_cons_of_mem _ z)]
theorem tw_e : ∀ {p q : List Nat}, 101 ∉ p → (p ++ 101 :: q).takeWhile noE = p
  | [], q, _ => by
    rw [List.nil_append, List.takeWhile_cons]
    rfl
  | c :: p, q, h => by
    have h1 : noE c = true := by
      unfold noE
      have : ¬ c = 101 := fun e => h (by rw [e]; exact List.mem_cons_self)
      simp [this]
    rw [List.cons_append, List.takeWhile_cons, h1, if_pos rfl, tw_e fun z => h (List.mem_cons_of_mem _ z)]
theorem split_e : ∀ t : List Nat, 101 ∉ t ∨ ∃ p q, t = p ++ 101 :: q ∧ 101 ∉ p
  | [] => .inl (by simp)
  | c :: t => by
    by_cases hc : c = 101
    · exact .inr ⟨[], t, by rw [hc]; rfl, by simp⟩
    · rcases split_e t with h | ⟨p, q, e, h⟩
      · exact .inl (by simp [h]; exact fun z => hc z.symm)
      · exact .inr ⟨c :: p, q, by rw [e]; rfl, by simp [h]; exact fun z => hc z.symm⟩
theorem numB_no {t : List Nat} (h : 101 ∉ t) : numB t = (plainB t && decide (t.length ≤ 18)) := by
  unfold numB
  rw [tw_no h]
  by_cases p : plainB t = true
  · rw [if_pos p, if_pos rfl, p]
    rfl
  · rw [if_neg p, Bool.eq_false_iff.mpr p]
    rfl
theorem numB_e {p q : List Nat} (h : 101 ∉ p) : numB (p ++ 101 :: q) = (plainB p && (!decide (p = [48]) && !decide (q = [48]) && decide (q.length ≤ 2) && plainB q && decide (p.length + NumText.digitsVal q ≤ 18))) := by
  unfold numB
  rw [tw_e h]
  have e : (p ++ 101 :: q).drop (p.length + 1) = q := by
    rw [show p ++ 101 :: q = (p ++ [101]) ++ q by simp, List.drop_append_of_le_length (by simp), List.drop_of_length_le (by simp)]
    rfl
  by_cases z : plainB p = true
  · rw [if_pos z, if_neg (by simp), z, e]
    rfl
  · rw [if_neg z, Bool.eq_false_iff.mpr z]
    rfl
def spNumber : Sp := fun vs H Q _ => ∃ t : List Nat, vs = [.str (S t)] ∧ t.length ≤ 4000 ∧ ∀ H', Same H H' → Q (.bl (numB t)) H'
theorem plain_figs {t : List Nat} (h : plainB t = true) : t ≠ [] ∧ t.all isF = true := by
  unfold plainB at h
  simp only [Bool.and_eq_true] at h
  exact ⟨by simpa using h.1.1, h.1.2⟩
theorem iteB {c : Bool} {A B : Prop} (h1 : c = true → A) (h2 : c = false → B) : if c = true then A else B := by
  cases c
  · exact iteF (h2 rfl)
  · exact iteT (h1 rfl)
theorem scNumber : FnScope ["word", "head", "parted", "tail"] ["word"] (defScope sNumber) := ⟨rfl, rfl, rfl, by decide +kernel, rfl, by decide +kernel, by decide +kernel⟩
theorem ok_Number {f fP fF : Addr} {fd dP dF : FuncData} (F : Fun K "is_number" "is_number" sNumber f fd) (T : Glo K mg aK aL aS) (FF : Fun K "is_figure" "is_figure" sFigure fF dF) (gF : mg "is_figure" = some (.ref fF)) (bF : L2.Binds K dF ["sign"] [])
    (FP : Fun K "is_plain_number" "is_plain_number" sPlain fP dP) (gP : mg "is_plain_number" = some (.ref fP)) (bP : L2.Binds K dP ["word"] []) : FnOk P w K mg base CX0 3 f fd ["word"] spNumber := by
  have GP : FnOk P w K mg base CX0 2 fP dP ["word"] spPlain := ok_Plain FP T FF gF bF
  obtain ⟨t18, h18⟩ := T.c18
  refine F.ok scNumber (fun vs H Q E h => ?_) (fun cdv A outer s H vs Q E hr h => ?_)
  · obtain ⟨c, rfl, _⟩ := h
    rfl
  · refine ⟨_, (pss_cons (ps_asg (pe_partition (pv 0) pe_str) (pg_tup (by rfl) (pgs_cons (pg_name (i := 1) scNumber.nd rfl (.inl rfl)) (pgs_cons (pg_name (i := 2) scNumber.nd rfl (.inl rfl)) (pgs_cons (pg_name (i := 3) scNumber.nd rfl (.inl rfl)) pgs_nil)))))
        (pss_cons (ps_if (pt_not (pt_val (pe_call GP hr (by rfl) gP FP.kp bP .nil pass0 (pa_cons (pv 1) pa_nil)))) (pss_one (ps_ret pe_bl)) pss_nil)
        (pss_cons (ps_if (pt_cmpR op_eq (pv 2) pe_str (nomark _)) (pss_one (ps_ret (pe_cmpR op_le (pe_callB call_len_str (by rfl) T.mL PySem.boot_len (pa_cons (pv 1) pa_nil)) (pe_glob (by rfl) h18 (v := .int 18) ⟨_, rfl⟩) (nomark _)))) pss_nil)
        (pss_cons (ps_if (PW.pt (pw_or (pt_cmpR op_eq (pv 1) pe_str (nomark _)) (pw_or (pt_cmpR op_eq (pv 3) pe_str (nomark _)) (pw_or (pt_cmpR op_gt (pe_callB call_len_str (by rfl) T.mL PySem.boot_len (pa_cons (pv 3) pa_nil)) pe_int (nomark _)) (pw_or1 (pt_not (pt_val (pe_call GP hr (by rfl) gP FP.kp bP .nil pass0 (pa_cons (pv 3) pa_nil))))))))) (pss_one (ps_ret pe_bl)) pss_nil)
        (pss_one (ps_ret (pe_cmpR op_le (pe_op op_add (pe_callB call_len_str (by rfl) T.mL PySem.boot_len (pa_cons (pv 1) pa_nil)) (pe_callTy call_int_str (by rfl) T.mN (by decide +kernel) (pa_cons (pv 3) pa_nil))) (pe_glob (by rfl) h18 (v := .int 18) ⟨_, rfl⟩) (nomark _)))))))), ?_⟩
    obtain ⟨t, rfl, hl, q⟩ := h
    walk_at "rd"
    refine ⟨_, rfl, ⟨_, rfl⟩, ?_⟩
    walk_at "rd"
    refine ⟨S t, S [101], rfl, rfl, rfl, len_le hl, fun p0 hp0 => ?_⟩
    rcases split_e t with ne | ⟨p, u, et, ne⟩
    · rw [partition_none (by simp) (par_head_none ne)]
      refine ⟨p0, _, rfl, .inl (.inl upd_same), rfl, ?_⟩
      have s0 := same_upd (o := .tup [.str (S t), .str (S []), .str (S [])]) hp0
      walk_at "rd"
      refine ⟨_, rfl, hl, fun H1 s1 => ?_⟩
      have k1 := s0.trans s1
      rw [numB_no ne] at q
      refine ⟨_, rfl, iteB (fun h1 => ?_) (fun h1 => ?_)⟩
      · have h1' : plainB t = false := by simpa using h1
        walk_at "rd"
        rw [h1'] at q
        exact q H1 k1
      · have h1' : plainB t = true := by simpa using h1
        walk_at "rd"
        refine iteTe rfl ?_
        walk_at "rd"
        refine ⟨S t, rfl, len_le hl, ?_⟩
        rw [S_len]
        walk_at "rd"
        rw [h1'] at q
        have e : decide ((t.length : Int) ≤ 18) = decide (t.length ≤ 18) := decide_eq_decide.mpr (by omega)
        rw [e]
        exact q H1 k1
    · have e2 : t = p ++ ((101 :: []) ++ u) := et
      have hlp : p.length ≤ 4000 := by rw [et] at hl; simp at hl; omega
      have hlu : u.length ≤ 4000 := by rw [et] at hl; simp at hl; omega
      rw [partition_some (p := p) (q := u) (by simp) (by rw [e2]; exact par_head u ne)]
      refine ⟨p0, _, rfl, .inl (.inl upd_same), rfl, ?_⟩
      have s0 := same_upd (o := .tup [.str (S p), .str (S [101]), .str (S u)]) hp0
      walk_at "rd"
      refine ⟨_, rfl, hlp, fun H1 s1 => ?_⟩
      have k1 := s0.trans s1
      rw [et, numB_e ne] at q
      refine ⟨_, rfl, iteB (fun h1 => ?_) (fun h1 => ?_)⟩
      · have h1' : plainB p = false := by simpa using h1
        walk_at "rd"
        rw [h1'] at q
        exact q H1 k1
      · have h1' : plainB p = true := by simpa using h1
        rw [h1', Bool.true_and] at q
        walk_at "rd"
        refine iteFe rfl ?_
        walk_at "rd"
        refine iteB (fun h2 => ?_) (fun h2 => ?_)
        · have h2' : p = [48] := of_decide_eq_true (eqS (u := [48]) h2)
          walk_at "rd"
          rw [decide_eq_true h2'] at q
          exact q H1 k1
        · have h2' : ¬ p = [48] := of_decide_eq_false (eqS (u := [48]) h2)
          walk_at "rd"
          refine iteB (fun h3 => ?_) (fun h3 => ?_)
          · have h3' : u = [48] := of_decide_eq_true (eqS (u := [48]) h3)
            walk_at "rd"
            rw [decide_eq_true h3'] at q
            simp only [Bool.not_true, Bool.and_false, Bool.false_and] at q
            exact q H1 k1
          · have h3' : ¬ u = [48] := of_decide_eq_false (eqS (u := [48]) h3)
            walk_at "rd"
            refine ⟨S u, rfl, len_le hlu, ?_⟩
            rw [S_len]
            walk_at "rd"
            refine iteB (fun h4 => ?_) (fun h4 => ?_)
            · have h4' : ¬ u.length ≤ 2 := by have := of_decide_eq_true h4; omega
              walk_at "rd"
              rw [decide_eq_false h4'] at q
              simp only [Bool.and_false, Bool.false_and] at q
              exact q H1 k1
            · have h4' : u.length ≤ 2 := by have := of_decide_eq_false h4; omega
              walk_at "rd"
              refine ⟨_, rfl, hlu, fun H2 s2 => ?_⟩
              have k2 := k1.trans s2
              refine ⟨_, rfl, iteB (fun h5 => ?_) (fun h5 => ?_)⟩
              · have h5' : plainB u = false := by simpa using h5
                walk_at "rd"
                rw [h5'] at q
                simp only [Bool.and_false, Bool.false_and] at q
                exact q H2 k2
              · have h5' : plainB u = true := by simpa using h5
                have fg := plain_figs h5'
                walk_at "rd"
                refine ⟨S p, rfl, len_le hlp, ?_⟩
                rw [S_len]
                walk_at "rd"
                refine ⟨S u, _, rfl, int_S fg.2 fg.1 (by omega), (by rw [S_len]; omega), ?_⟩
                walk_at "rd"
                rw [decide_eq_false h2', decide_eq_false h3', decide_eq_true h4', h5'] at q
                have e : decide (((p.length : Nat) : Int) + ((NumText.digitsVal u : Nat) : Int) ≤ 18) = decide (p.length + NumText.digitsVal u ≤ 18) := decide_eq_decide.mpr (by omega)
                rw [e]
                exact q H2 k2
end
end My

namespace My
open PySem PySem.Spec PyProof.Rows L2 XR SX
section
variable {P : Program} {w : World} {K : PySem.W.Frag} {mg : Str → Option Value} {base : Heap} {aK aL aS : Addr}
local macro_rules | `(tactic| walk_at "rd1") => `(tactic| first
  | with_reducible refine rs_seq ?_
  | with_reducible refine rs_asg ?_
  | with_reducible refine rs_ret ?_
  | with_reducible refine rs_if ?_
  | with_reducible refine rs_next ?_
  | with_reducible refine rg_name ?_
  | ((with_reducible refine rv_var (v := ?vv) ?hv ?_); (case hv => exact rfl))
  | with_reducible refine rv_c ?_
  | with_reducible refine rv_op ?_
  | with_reducible refine rv_cons ?_
  | with_reducible refine rv_nil ?_
  | with_reducible refine rv_rI0 ?_
  | ((with_reducible refine rv_rI ?hc ?_); (case hc => walk_at "side"))
  | ((with_reducible refine rv_eq ?hc ?_); (case hc => exact rfl))
  | ((with_reducible refine rv_ne ?hc ?_); (case hc => exact rfl))
  | with_reducible refine rv_test ?_
  | with_reducible refine rv_bl ?_
  | with_reducible refine rv_cb ?_
  | with_reducible refine rv_call ?_
  | with_reducible refine rv_tup ?_
  | with_reducible refine rv_lst ?_
  | with_reducible refine rv_tB ?_
  | with_reducible refine rv_or ?_
  | with_reducible refine rv_and ?_
  | with_reducible refine rv_not ?_
  | with_reducible refine rv_andV ?_
  | with_reducible refine rv_orV ?_
  | with_reducible refine rv_notV ?_
  | with_reducible refine rv_ifE ?_
  | with_reducible refine rs_drop ?_
  | with_reducible refine iteT ?_
  | with_reducible refine iteF ?_
  | with_reducible refine ro_nx ?_
  | with_reducible refine ro_rt ?_
  | with_reducible refine ro_ct ?_
  | with_reducible refine ro_bk ?_)
local macro_rules | `(tactic| walk_at "rd") => `(tactic| repeat walk_at "rd1")
local macro_rules | `(tactic| walk_at "side") => `(tactic| first
  | assumption
  | exact (show CPow _ _ from ⟨by decide, by decide, by decide⟩)
  | exact (show CMul _ _ from .inl ⟨by decide, by decide⟩)
  | exact (show CMul _ _ from .inr ⟨by decide, by decide⟩)
  | (show (0 : Int) < _; decide)
  | (show CMul _ _; first | exact .inl ⟨by omega, by omega⟩ | exact .inr ⟨by omega, by omega⟩)
  | omega)
local macro_rules | `(tactic| walk_at "rd1") => `(tactic| first
  | with_reducible refine rs_for ?_
  | with_reducible refine ri_zip ?_
  | with_reducible refine ri_list ?_
  | with_reducible refine ri_rng1 ?_
  | with_reducible refine rv_lc ?_
  | with_reducible refine rv_xfl ?_
  | with_reducible refine rs_par3 ?_
  | with_reducible refine rv_yes ?_
  | with_reducible refine rg_tup ?_
  | with_reducible refine rg_cons ?_
  | with_reducible refine rg_nil ?_)
local macro_rules | `(tactic| walk_at "rd1") => `(tactic| first
  | with_reducible refine ri_str ?_
  | with_reducible refine rv_sl ?_
  | with_reducible refine rv_part ?_
  | with_reducible refine rv_nopart ?_
  | with_reducible refine rv_callS ?_
  | with_reducible refine rv_chain ?_
  | with_reducible refine rv_leS ?_
  | with_reducible refine rv_inS ?_)
theorem while_m {c : TT} {tb : TS} {D : Ends} {σ : L2.St} {H : Hp} (Pv : Nat → L2.St → Hp → Prop) (m0 : Nat) (h0 : Pv m0 σ H)
    (hs : ∀ m σ H, Pv m σ H → c σ H fun b H1 => if b = true then ∃ N : L2.St → Hp → Prop, (∀ σ' H', N σ' H' → ∃ m', m' < m ∧ Pv m' σ' H') ∧ tb { D with nx := N, ct := N, bk := D.nx } σ H1 else D.nx σ H1) : tWhile c tb D σ H :=
  ⟨Pv, ⟨m0, h0⟩, hs⟩
def runL (t : List Nat) : Nat := (t.takeWhile isLF).length
theorem run_step {t : List Nat} {k c : Nat} (hc : t[k]? = some c) : runL (t.drop k) = if isLF c = true then 1 + runL (t.drop (k + 1)) else 0 := by
  have hk : k < t.length := (List.getElem?_eq_some_iff.mp hc).1
  have e : t.drop k = c :: t.drop (k + 1) := by
    rw [List.drop_eq_getElem_cons hk]
    congr 1
    exact Option.some.inj ((List.getElem?_eq_getElem hk).symm.trans hc)
  unfold runL
  rw [e, List.takeWhile_cons]
  by_cases h : isLF c = true
  · rw [if_pos h, if_pos h, List.length_cons]
    omega
  · rw [if_neg h, if_neg h]
    rfl
theorem run_end {t : List Nat} {k : Nat} (h : t.length ≤ k) : runL (t.drop k) = 0 := by
  rw [List.drop_of_length_le h]
  rfl
def spRunEnd : Sp := fun vs H Q _ => ∃ (t : List Nat) (k : Nat), vs = [.str (S t), .int (k : Int)] ∧ t.length ≤ 4000 ∧ k ≤ t.length ∧ Q (.int ((k + runL (t.drop k) : Nat) : Int)) H
theorem scRunEnd : FnScope ["text", "at"] ["text", "at"] (defScope sRunEnd) := ⟨rfl, rfl, rfl, by decide +kernel, rfl, by decide +kernel, by decide +kernel⟩
theorem ok_RunEnd {f fF : Addr} {fd dF : FuncData} (F : Fun K "run_end" "run_end" sRunEnd f fd) (mL : mg "len" = none) (FF : Fun K "is_letter_or_figure" "is_letter_or_figure" sLF fF dF) (gF : mg "is_letter_or_figure" = some (.ref fF)) (bF : L2.Binds K dF ["sign"] [])
    (GF : FnOk P w K mg base CX0 2 fF dF ["sign"] (spB isLF)) : FnOk P w K mg base CX0 3 f fd ["text", "at"] spRunEnd := by
  refine F.ok scRunEnd (fun vs H Q E h => ?_) (fun cdv A outer s H vs Q E hr h => ?_)
  · obtain ⟨t, k, rfl, _⟩ := h
    rfl
  · refine ⟨_, (pss_cons (ps_while PassesOwn.never (PW.pt (pw_and (pt_cmpR op_lt (pv 1) (pe_callB call_len_str (by rfl) mL PySem.boot_len (pa_cons (pv 0) pa_nil)) (nomark _)) (pw_and1 (pt_val (pe_call GF hr (by rfl) gF FF.kp bF .nil pass0 (pa_cons (pe_ix ix_str (pv 0) (pv 1) (fun _ _ => rfl)) pa_nil)))))) (pss_one (ps_aug (i := 1) scRunEnd.nd rfl (.inl rfl) pe_int ip_add)))
        (pss_one (ps_ret (pv 1)))), ?_⟩
    obtain ⟨t, k, rfl, hl, hk, q⟩ := h
    walk_at "rd"
    refine while_m (fun m σ H' => H' = H ∧ ∃ j : Nat, σ = [some (.str (S t)), some (.int (j : Int))] ∧ m = t.length - j ∧ j ≤ t.length ∧ j + runL (t.drop j) = k + runL (t.drop k)) _ ⟨rfl, k, rfl, rfl, hk, rfl⟩ ?_
    rintro m σ H' ⟨rfl, j, rfl, rfl, hj, ej⟩
    walk_at "rd"
    refine ⟨S t, rfl, len_le hl, ?_⟩
    rw [S_len]
    walk_at "rd"
    refine iteB (fun h1 => ?_) (fun h1 => ?_)
    · have hjl : j < t.length := by have := of_decide_eq_true h1; omega
      obtain ⟨c, hc⟩ : ∃ c, t[j]? = some c := ⟨t[j], List.getElem?_eq_getElem hjl⟩
      walk_at "rd"
      refine at_S hc (len_le hl) ?_
      walk_at "rd"
      refine ⟨c, rfl, ?_⟩
      refine ⟨_, rfl, iteB (fun h2 => ?_) (fun h2 => ?_)⟩
      · refine ⟨fun σ' H'' => H'' = H' ∧ σ' = [some (.str (S t)), some (.int ((j + 1 : Nat) : Int))], ?_, ?_⟩
        · rintro σ' H'' ⟨rfl, rfl⟩
          refine ⟨t.length - (j + 1), by omega, rfl, j + 1, rfl, rfl, hjl, ?_⟩
          rw [run_step hc, if_pos h2] at ej
          omega
        · exact ⟨_, rfl, _, _, rfl, rfl, rfl, rfl⟩
      · walk_at "rd"
        rw [run_step hc, h2, if_neg Bool.false_ne_true] at ej
        rw [← ej] at q
        exact q
    · have hjl : ¬ j < t.length := by have := of_decide_eq_false h1; omega
      walk_at "rd"
      rw [run_end (by omega)] at ej
      rw [← ej] at q
      exact q
end
end My

namespace My
open PySem PySem.Spec PyProof.Rows L2 XR SX
section
variable {P : Program} {w : World} {K : PySem.W.Frag} {mg : Str → Option Value} {base : Heap} {aK aL aS cT fT : Addr} {fdT : FuncData}
local macro_rules | `(tactic| walk_at "rd1") => `(tactic| first
  | with_reducible refine rs_seq ?_
  | with_reducible refine rs_asg ?_
  | with_reducible refine rs_ret ?_
  | with_reducible refine rs_if ?_
  | with_reducible refine rs_next ?_
  | with_reducible refine rg_name ?_
  | ((with_reducible refine rv_var (v := ?vv) ?hv ?_); (case hv => exact rfl))
  | with_reducible refine rv_c ?_
  | with_reducible refine rv_op ?_
  | with_reducible refine rv_cons ?_
  | with_reducible refine rv_nil ?_
  | with_reducible refine rv_rI0 ?_
  | ((with_reducible refine rv_rI ?hc ?_); (case hc => walk_at "side"))
  | ((with_reducible refine rv_eq ?hc ?_); (case hc => exact rfl))
  | ((with_reducible refine rv_ne ?hc ?_); (case hc => exact rfl))
  | with_reducible refine rv_test ?_
  | with_reducible refine rv_bl ?_
  | with_reducible refine rv_cb ?_
  | with_reducible refine rv_call ?_
  | with_reducible refine rv_tup ?_
  | with_reducible refine rv_lst ?_
  | with_reducible refine rv_tB ?_
  | with_reducible refine rv_or ?_
  | with_reducible refine rv_and ?_
  | with_reducible refine rv_not ?_
  | with_reducible refine rv_andV ?_
  | with_reducible refine rv_orV ?_
  | with_reducible refine rv_notV ?_
  | with_reducible refine rv_ifE ?_
  | with_reducible refine rs_drop ?_
  | with_reducible refine iteT ?_
  | with_reducible refine iteF ?_
  | with_reducible refine ro_nx ?_
  | with_reducible refine ro_rt ?_
  | with_reducible refine ro_ct ?_
  | with_reducible refine ro_bk ?_)
local macro_rules | `(tactic| walk_at "rd") => `(tactic| repeat walk_at "rd1")
local macro_rules | `(tactic| walk_at "side") => `(tactic| first
  | assumption
  | exact (show CPow _ _ from ⟨by decide, by decide, by decide⟩)
  | exact (show CMul _ _ from .inl ⟨by decide, by decide⟩)
  | exact (show CMul _ _ from .inr ⟨by decide, by decide⟩)
  | (show (0 : Int) < _; decide)
  | (show CMul _ _; first | exact .inl ⟨by omega, by omega⟩ | exact .inr ⟨by omega, by omega⟩)
  | omega)
local macro_rules | `(tactic| walk_at "rd1") => `(tactic| first
  | with_reducible refine rs_for ?_
  | with_reducible refine ri_zip ?_
  | with_reducible refine ri_list ?_
  | with_reducible refine ri_rng1 ?_
  | with_reducible refine rv_lc ?_
  | with_reducible refine rv_xfl ?_
  | with_reducible refine rs_par3 ?_
  | with_reducible refine rv_yes ?_
  | with_reducible refine rg_tup ?_
  | with_reducible refine rg_cons ?_
  | with_reducible refine rg_nil ?_)
local macro_rules | `(tactic| walk_at "rd1") => `(tactic| first
  | with_reducible refine ri_str ?_
  | with_reducible refine rv_sl ?_
  | with_reducible refine rv_part ?_
  | with_reducible refine rv_nopart ?_
  | with_reducible refine rv_callS ?_
  | with_reducible refine rv_chain ?_
  | with_reducible refine rv_leS ?_
  | with_reducible refine rv_inS ?_)
/-- __init__ of NoText: a new dict, not there before -/
def spN (C : Addr) : Sp := fun vs H Q _ => ∃ (a : Addr) (x : V), vs = [.ref a, x] ∧ H a = some (exo a C none) ∧
  ∀ H' dx, H dx = none → dx ≠ a → (∀ b o, b ≠ a → H b = some o → H' b = some o) → H' a = some (exo a C (some dx)) → H' dx = some (exd dx [("at", x)]) → Q .non H'
theorem ok_iText2 {f C : Addr} {fd : FuncData} {dvs : List V} (F : FunD K "__init__" "NoText.__init__" (defArgs iText) (defBody iText) (defScope iText) dvs [] f fd) (O : OexC K C) (n1 : PySem.W.findIn K (.ref C) "at" = some none) : FnOk P w K mg base CX0 1 f fd ["self", "at"] (spN C) := by
  refine F.ok scIText (fun vs H Q E h => ?_) (fun cdv A outer s H vs Q E hr h => ?_)
  · obtain ⟨a, x, rfl, _⟩ := h
    rfl
  · refine ⟨_, pss_one (ps_ost (pv 0) (pv 1)), ?_⟩
    obtain ⟨a, x, rfl, ha, q⟩ := h
    refine ⟨_, rfl, _, rfl, a, C, rfl, O, n1, .inl ⟨ha, fun dx nd ne => ?_⟩⟩
    refine q _ dx nd ne (fun b o hb z => ?_) upd_same ?_
    · rw [upd_ne hb, upd_ne (ne_of_none z nd)]
      exact z
    · rw [upd_ne ne, upd_same]
/-- what the written part says of NoText -/
structure TextC (K : PySem.W.Frag) (mg : Str → Option Value) (cT fT : Addr) (fdT : FuncData) : Prop where
  o : OexC K cT
  i : PySem.W.findIn K (.ref cT) "__init__" = some (some (.ref fT))
  t : PySem.W.typeIn K (.ref fT) = some (.type "function")
  F : FunD K "__init__" "NoText.__init__" (defArgs iText) (defBody iText) (defScope iText) [.int 0] [] fT fdT
  n : PySem.W.findIn K (.ref cT) "at" = some none
  g : mg "NoText" = some (.ref cT)
theorem no_in {H : Hp} {x : V} {cT : Addr} {Q : XK} (q : ∀ H' d, Same H H' → H' d = some (.xd [("at", x)]) → Q (.ref cT) (some d) H') :
    [x].length ≤ 1000 ∧ ∀ a, H a = none → spN cT (.ref a :: ([x] ++ [])) (upd H a (exo a cT none))
      (fun v H2 => v = .non ∧ ∃ (d : Addr) (fs : List (Str × V)), H2 a = some (exo a cT (some d)) ∧ H2 d = some (exd d fs) ∧ H d = none ∧ Q (.ref cT) (some d) (upd (del H2 a) d (.xd fs))) (fun _ _ _ => False) := by
  refine ⟨by show 1 ≤ 1000; decide, fun a ha => ⟨a, x, rfl, upd_same, fun H' dx hdx ne keep ea ed => ⟨rfl, dx, _, ea, ed, ?_, ?_⟩⟩⟩
  · rw [upd_ne ne] at hdx
    exact hdx
  · refine q _ dx (fun b o z => ?_) upd_same
    have hba : b ≠ a := fun e => by rw [e, ha] at z; cases z
    have hbd : b ≠ dx := fun e => by rw [upd_ne ne, ← e, z] at hdx; cases hdx
    rw [upd_ne hbd, del_ne hba]
    exact keep b o hba (by rw [upd_ne hba]; exact z)
def sortB (t : List Nat) : Option Str := if kept t = true then some "kept" else if nameB t = true then some "name" else if numB t = true then some "number" else none
def spSort (cT : Addr) : Sp := fun vs H Q E => ∃ (t : List Nat) (k : Nat), vs = [.str (S t), .int (k : Int)] ∧ t.length ≤ 4000 ∧ (∀ x, sortB t = some x → ∀ H', Same H H' → Q (.str x) H') ∧
  (sortB t = none → ∀ H' d, Same H H' → H' d = some (.xd [("at", .int (k : Int))]) → E (.ref cT) (some d) H')
def signB (u : List Nat) : Option Nat := if inV (.str (S (u.take 2))) (longL.map V.str) = true then some 2 else if inV (.str (S (u.take 1))) (shortL.map V.str) = true then some 1 else none
def spSign (cT : Addr) : Sp := fun vs H Q E => ∃ (t : List Nat) (k c : Nat), vs = [.str (S t), .int (k : Int)] ∧ t.length ≤ 4000 ∧ t[k]? = some c ∧ (∀ n, signB (t.drop k) = some n → ∀ H', Same H H' → Q (.int ((k + n : Nat) : Int)) H') ∧
  (signB (t.drop k) = none → ∀ H' d, Same H H' → H' d = some (.xd [("at", .int (k : Int))]) → E (.ref cT) (some d) H')
theorem take1 {t : List Nat} {k c : Nat} (h : t[k]? = some c) : (t.drop k).take 1 = [c] := by
  have hk : k < t.length := (List.getElem?_eq_some_iff.mp h).1
  rw [List.drop_eq_getElem_cons hk, List.take_succ_cons, List.take_zero]
  congr 1
  exact Option.some.inj ((List.getElem?_eq_getElem hk).symm.trans h)
theorem scSort : FnScope ["word", "at"] ["word", "at"] (defScope sSort) := ⟨rfl, rfl, rfl, by decide +kernel, rfl, by decide +kernel, by decide +kernel⟩
theorem scSign : FnScope ["text", "at"] ["text", "at"] (defScope sSign) := ⟨rfl, rfl, rfl, by decide +kernel, rfl, by decide +kernel, by decide +kernel⟩
theorem ok_Sort {f fN fU : Addr} {fd dN dU : FuncData} (F : Fun K "sort_of" "sort_of" sSort f fd) (T : Glo K mg aK aL aS) (C : TextC K mg cT fT fdT)
    (FN : Fun K "is_name" "is_name" sName fN dN) (gN : mg "is_name" = some (.ref fN)) (bN : L2.Binds K dN ["thing"] []) (GN : FnOk P w K mg base CX0 2 fN dN ["thing"] spName)
    (FU : Fun K "is_number" "is_number" sNumber fU dU) (gU : mg "is_number" = some (.ref fU)) (bU : L2.Binds K dU ["word"] []) (GU : FnOk P w K mg base CX0 3 fU dU ["word"] spNumber) : FnOk P w K mg base (L2.CX P w) 4 f fd ["word", "at"] (spSort cT) := by
  have GT : FnOk P w K mg base CX0 1 fT fdT ["self", "at"] (spN cT) := ok_iText2 C.F C.o C.n
  have bT1 := bText1 C.F
  refine F.okX scSort (fun vs H Q E h => ?_) (fun cdv A outer s H vs Q E hr h => ?_)
  · obtain ⟨t, k, rfl, _⟩ := h
    rfl
  · have hr2 := hr.mono (by decide : 2 ≤ 3)
    refine ⟨_, (pss_cons (ps_if (pt_cmpR op_in_seq (pv 0) (pe_glob (by rfl) T.gK (v := .ref aK) rfl) (by rfl)) (pss_one (ps_ret pe_str)) pss_nil)
        (pss_cons (ps_if (pt_val (pe_call GN hr2 (by rfl) gN FN.kp bN .nil pass0 (pa_cons (pv 0) pa_nil))) (pss_one (ps_ret pe_str)) pss_nil)
        (pss_cons (ps_if (pt_val (pe_call GU hr (by rfl) gU FU.kp bU .nil pass0 (pa_cons (pv 0) pa_nil))) (pss_one (ps_ret pe_str)) pss_nil)
        (pss_one (ps_raise rfl (takes_of rfl rfl rfl rfl) (pmk_oex C.o C.i C.t GT hr2 bT1 .nil pass0 (by rfl) C.g (pa_cons (pv 1) pa_nil))))))), ?_⟩
    obtain ⟨t, k, rfl, hl, q, e⟩ := h
    walk_at "rd"
    refine ⟨aK, _, rfl, .inr (T.sK H), rfl, (by decide +kernel), ?_⟩
    refine ⟨_, rfl, iteB (fun h1 => ?_) (fun h1 => ?_)⟩
    · have h1' : kept t = true := h1
      walk_at "rd"
      exact q _ (by unfold sortB; rw [if_pos h1']) H (Same.refl H)
    · have h1' : ¬ kept t = true := fun z => by
        have h1'' : kept t = false := h1
        rw [h1''] at z
        cases z
      walk_at "rd"
      refine ⟨t, rfl, hl, fun H1 s1 => ?_⟩
      refine ⟨_, rfl, iteB (fun h2 => ?_) (fun h2 => ?_)⟩
      · walk_at "rd"
        exact q _ (by unfold sortB; rw [if_neg h1', if_pos h2]) H1 s1
      · have h2' : ¬ nameB t = true := fun z => by rw [h2] at z; cases z
        walk_at "rd"
        refine ⟨t, rfl, hl, fun H2 s2 => ?_⟩
        refine ⟨_, rfl, iteB (fun h3 => ?_) (fun h3 => ?_)⟩
        · walk_at "rd"
          exact q _ (by unfold sortB; rw [if_neg h1', if_neg h2', if_pos h3]) H2 (s1.trans s2)
        · have h3' : ¬ numB t = true := fun z => by rw [h3] at z; cases z
          walk_at "rd"
          refine ⟨_, rfl, ?_⟩
          exact no_in fun H' d s3 hd => e (by unfold sortB; rw [if_neg h1', if_neg h2', if_neg h3']) H' d ((s1.trans s2).trans s3) hd
theorem ok_Sign {f : Addr} {fd : FuncData} (F : Fun K "sign_end" "sign_end" sSign f fd) (T : Glo K mg aK aL aS) (C : TextC K mg cT fT fdT) : FnOk P w K mg base (L2.CX P w) 3 f fd ["text", "at"] (spSign cT) := by
  have GT : FnOk P w K mg base CX0 1 fT fdT ["self", "at"] (spN cT) := ok_iText2 C.F C.o C.n
  have bT1 := bText1 C.F
  refine F.okX scSign (fun vs H Q E h => ?_) (fun cdv A outer s H vs Q E hr h => ?_)
  · obtain ⟨t, k, c, rfl, _⟩ := h
    rfl
  · refine ⟨_, (pss_cons (ps_if (pt_cmpR op_in_seq (pe_slice sl_str (pv 0) (po_some (pv 1)) (po_some (pe_op op_add (pv 1) pe_int))) (pe_glob (by rfl) T.gLo (v := .ref aL) rfl) (by rfl)) (pss_one (ps_ret (pe_op op_add (pv 1) pe_int))) pss_nil)
        (pss_cons (ps_if (pt_cmpR op_in_seq (pe_ix ix_str (pv 0) (pv 1) (fun _ _ => rfl)) (pe_glob (by rfl) T.gSh (v := .ref aS) rfl) (by rfl)) (pss_one (ps_ret (pe_op op_add (pv 1) pe_int))) pss_nil)
        (pss_one (ps_raise rfl (takes_of rfl rfl rfl rfl) (pmk_oex C.o C.i C.t GT hr bT1 .nil pass0 (by rfl) C.g (pa_cons (pv 1) pa_nil)))))), ?_⟩
    obtain ⟨t, k, c, rfl, hl, hc, q, e⟩ := h
    walk_at "rd"
    refine ⟨_, rfl, ?_⟩
    walk_at "rd"
    refine ⟨_, rfl, ?_⟩
    refine rv_cut (a := k) (b := k + 2) (len_le hl) ?_
    rw [show k + 2 - k = 2 by omega]
    walk_at "rd"
    refine ⟨aL, _, rfl, .inr (T.sLo H), rfl, (by decide +kernel), ?_⟩
    refine ⟨_, rfl, iteB (fun h1 => ?_) (fun h1 => ?_)⟩
    · have h1' : inV (.str (S ((t.drop k).take 2))) (longL.map V.str) = true := h1
      walk_at "rd"
      exact q 2 (by unfold signB; rw [if_pos h1']) H (Same.refl H)
    · have h1' : ¬ inV (.str (S ((t.drop k).take 2))) (longL.map V.str) = true := Bool.eq_false_iff.mp h1
      walk_at "rd"
      refine at_S hc (len_le hl) ?_
      walk_at "rd"
      refine ⟨aS, _, rfl, .inr (T.sSh H), rfl, (by decide +kernel), ?_⟩
      refine ⟨_, rfl, iteB (fun h2 => ?_) (fun h2 => ?_)⟩
      · have h2' : inV (.str (S ((t.drop k).take 1))) (shortL.map V.str) = true := by rw [take1 hc]; exact h2
        walk_at "rd"
        exact q 1 (by unfold signB; rw [if_neg h1', if_pos h2']) H (Same.refl H)
      · have h2' : ¬ inV (.str (S ((t.drop k).take 1))) (shortL.map V.str) = true := by rw [take1 hc]; exact Bool.eq_false_iff.mp h2
        walk_at "rd"
        refine ⟨_, rfl, ?_⟩
        exact no_in fun H' d s3 hd => e (by unfold signB; rw [if_neg h1', if_neg h2']) H' d s3 hd
end
end My

namespace My
open PySem PySem.Spec PyProof.Rows L2 XR SX
section
variable {P : Program} {w : World} {K : PySem.W.Frag} {mg : Str → Option Value} {base : Heap} {aK aL aS cT fT : Addr} {fdT : FuncData}
local macro_rules | `(tactic| walk_at "rd1") => `(tactic| first
  | with_reducible refine rs_seq ?_
  | with_reducible refine rs_asg ?_
  | with_reducible refine rs_ret ?_
  | with_reducible refine rs_if ?_
  | with_reducible refine rs_next ?_
  | with_reducible refine rg_name ?_
  | ((with_reducible refine rv_var (v := ?vv) ?hv ?_); (case hv => exact rfl))
  | with_reducible refine rv_c ?_
  | with_reducible refine rv_op ?_
  | with_reducible refine rv_cons ?_
  | with_reducible refine rv_nil ?_
  | with_reducible refine rv_rI0 ?_
  | ((with_reducible refine rv_rI ?hc ?_); (case hc => walk_at "side"))
  | ((with_reducible refine rv_eq ?hc ?_); (case hc => exact rfl))
  | ((with_reducible refine rv_ne ?hc ?_); (case hc => exact rfl))
  | with_reducible refine rv_test ?_
  | with_reducible refine rv_bl ?_
  | with_reducible refine rv_cb ?_
  | with_reducible refine rv_call ?_
  | with_reducible refine rv_tup ?_
  | with_reducible refine rv_lst ?_
  | with_reducible refine rv_tB ?_
  | with_reducible refine rv_or ?_
  | with_reducible refine rv_and ?_
  | with_reducible refine rv_not ?_
  | with_reducible refine rv_andV ?_
  | with_reducible refine rv_orV ?_
  | with_reducible refine rv_notV ?_
  | with_reducible refine rv_ifE ?_
  | with_reducible refine rs_drop ?_
  | with_reducible refine iteT ?_
  | with_reducible refine iteF ?_
  | with_reducible refine ro_nx ?_
  | with_reducible refine ro_rt ?_
  | with_reducible refine ro_ct ?_
  | with_reducible refine ro_bk ?_)
local macro_rules | `(tactic| walk_at "rd") => `(tactic| repeat walk_at "rd1")
local macro_rules | `(tactic| walk_at "side") => `(tactic| first
  | assumption
  | exact (show CPow _ _ from ⟨by decide, by decide, by decide⟩)
  | exact (show CMul _ _ from .inl ⟨by decide, by decide⟩)
  | exact (show CMul _ _ from .inr ⟨by decide, by decide⟩)
  | (show (0 : Int) < _; decide)
  | (show CMul _ _; first | exact .inl ⟨by omega, by omega⟩ | exact .inr ⟨by omega, by omega⟩)
  | omega)
local macro_rules | `(tactic| walk_at "rd1") => `(tactic| first
  | with_reducible refine rs_for ?_
  | with_reducible refine ri_zip ?_
  | with_reducible refine ri_list ?_
  | with_reducible refine ri_rng1 ?_
  | with_reducible refine rv_lc ?_
  | with_reducible refine rv_xfl ?_
  | with_reducible refine rs_par3 ?_
  | with_reducible refine rv_yes ?_
  | with_reducible refine rg_tup ?_
  | with_reducible refine rg_cons ?_
  | with_reducible refine rg_nil ?_)
local macro_rules | `(tactic| walk_at "rd1") => `(tactic| first
  | with_reducible refine ri_str ?_
  | with_reducible refine rv_sl ?_
  | with_reducible refine rv_part ?_
  | with_reducible refine rv_nopart ?_
  | with_reducible refine rv_callS ?_
  | with_reducible refine rv_chain ?_
  | with_reducible refine rv_leS ?_
  | with_reducible refine rv_inS ?_)
def blank (c : Nat) : Bool := decide (c ∈ [32, 10])
theorem blank_in (c : Nat) : inV (.str (S [c])) [.str " ", .str "\n"] = blank c := by
  have h1 : (.str " " : V) = .str (S [32]) := rfl
  have h2 : (.str "\n" : V) = .str (S [10]) := rfl
  rw [h1, h2]
  show ((S [32] == S [c]) || ((S [10] == S [c]) || false)) = _
  rw [S_beq_eq, S_beq_eq, Bool.or_false]
  unfold blank
  rw [Bool.eq_iff_iff]
  simp
  constructor
  · rintro (h | h)
    · exact .inl h.symm
    · exact .inr h.symm
  · rintro (h | h)
    · exact .inl h.symm
    · exact .inr h.symm
/-- a word that is told: its sort, its signs, where it begins -/
abbrev Ent := Str × List Nat × Nat
def entV (e : Ent) : List V := [.str e.1, .str (S e.2.1), .int (e.2.2 : Nat)]
def Ents (H : Hp) : List V → List Ent → Prop
  | [], [] => True
  | x :: xs, e :: es => (∃ p, x = .ref p ∧ H p = some (.tup (entV e))) ∧ Ents H xs es
  | _, _ => False
theorem Ents.keep {H H' : Hp} (k : ∀ b ys, H b = some (.tup ys) → H' b = some (.tup ys)) : ∀ {xs : List V} {es : List Ent}, Ents H xs es → Ents H' xs es
  | [], [], _ => True.intro
  | _ :: _, _ :: _, ⟨⟨p, e, h⟩, r⟩ => ⟨⟨p, e, k _ _ h⟩, Ents.keep k r⟩
theorem Ents.snoc {H : Hp} {p : Addr} {e : Ent} (hp : H p = some (.tup (entV e))) : ∀ {xs : List V} {es : List Ent}, Ents H xs es → Ents H (xs ++ [.ref p]) (es ++ [e])
  | [], [], _ => ⟨⟨p, rfl, hp⟩, True.intro⟩
  | _ :: _, _ :: _, ⟨a, r⟩ => ⟨a, Ents.snoc hp r⟩
theorem Ents.len {H : Hp} : ∀ {xs : List V} {es : List Ent}, Ents H xs es → xs.length = es.length
  | [], [], _ => rfl
  | _ :: _, _ :: _, ⟨_, r⟩ => congrArg (· + 1) (Ents.len r)
/-- the words of a text from a place on, by a function that reads one; where it reads none -/
inductive Scan (f : List Nat → Option (Str × Nat)) (t : List Nat) : Nat → List Ent → Option Nat → Prop
  | stop {k : Nat} : k = t.length → Scan f t k [] none
  | blank {k c : Nat} {es : List Ent} {z : Option Nat} : t[k]? = some c → blank c = true → Scan f t (k + 1) es z → Scan f t k es z
  | bad {k c : Nat} : t[k]? = some c → blank c = false → f (t.drop k) = none → Scan f t k [] (some k)
  | word {k c m : Nat} {s : Str} {es : List Ent} {z : Option Nat} : t[k]? = some c → blank c = false → f (t.drop k) = some (s, m) → 0 < m → k + m ≤ t.length → Scan f t (k + m) es z → Scan f t k ((s, (t.drop k).take m, k) :: es) z
def stepP (u : List Nat) : Option (Str × Nat) :=
  if isLF (u.headD 0) = true then (sortB (u.take (runL u))).map fun s => (s, runL u) else (signB u).map fun n => (("sign" : Str), n)
def spWords (cT : Addr) : Sp := fun vs H Q E => ∃ (t : List Nat) (es : List Ent) (z : Option Nat), vs = [.str (S t)] ∧ t.length ≤ 4000 ∧ Scan stepP t 0 es z ∧
  (z = none → ∀ H' a xs, Same H H' → H a = none → H' a = some (.lst xs) → Ents H' xs es → Q (.ref a) H') ∧
  (∀ k, z = some k → ∀ H' d, Same H H' → H' d = some (.xd [("at", .int (k : Nat))]) → E (.ref cT) (some d) H')
theorem headD_drop {t : List Nat} {k c : Nat} (h : t[k]? = some c) : (t.drop k).headD 0 = c := by
  have e := take1 h
  cases q : t.drop k with
  | nil => rw [q] at e; cases e
  | cons a r => rw [q] at e; exact (List.cons.inj e).1
theorem scWords : FnScope ["text", "told", "at", "end", "sort"] ["text"] (defScope sWords) := ⟨rfl, rfl, rfl, by decide +kernel, rfl, by decide +kernel, by decide +kernel⟩
theorem ok_Words {f fF fR fS fG : Addr} {fd dF dR dS dG : FuncData} (F : Fun K "words" "words" sWords f fd) (T : Glo K mg aK aL aS)
    (FF : Fun K "is_letter_or_figure" "is_letter_or_figure" sLF fF dF) (gF : mg "is_letter_or_figure" = some (.ref fF)) (bF : L2.Binds K dF ["sign"] []) (GF : FnOk P w K mg base CX0 2 fF dF ["sign"] (spB isLF))
    (FR : Fun K "run_end" "run_end" sRunEnd fR dR) (gR : mg "run_end" = some (.ref fR)) (bR : L2.Binds K dR ["text", "at"] []) (GR : FnOk P w K mg base CX0 3 fR dR ["text", "at"] spRunEnd)
    (FS : Fun K "sort_of" "sort_of" sSort fS dS) (gS : mg "sort_of" = some (.ref fS)) (bS : L2.Binds K dS ["word", "at"] []) (GS : FnOk P w K mg base (L2.CX P w) 4 fS dS ["word", "at"] (spSort cT))
    (FG : Fun K "sign_end" "sign_end" sSign fG dG) (gG : mg "sign_end" = some (.ref fG)) (bG : L2.Binds K dG ["text", "at"] []) (GG : FnOk P w K mg base (L2.CX P w) 3 fG dG ["text", "at"] (spSign cT)) :
    FnOk P w K mg base (L2.CX P w) 5 f fd ["text"] (spWords cT) := by
  refine F.okX scWords (fun vs H Q E h => ?_) (fun cdv A outer s H vs Q E hr h => ?_)
  · obtain ⟨t, es, z, rfl, _⟩ := h
    rfl
  · have hr2 := hr.mono (by decide : 2 ≤ 4)
    have hr3 := hr.mono (by decide : 3 ≤ 4)
    have tk : Takes (cxOf (L2.CX P w) P w K mg base ["text", "told", "at", "end", "sort"] "words" (defScope sWords) f cdv A outer s H E) (fun cls d _ H' => E cls d H') := takes_of rfl rfl rfl rfl
    refine ⟨_, (pss_cons (ps_set (i := 1) scWords.nd rfl (.inl rfl) (pe_lst pa_nil))
        (pss_cons (ps_set (i := 2) scWords.nd rfl (.inl rfl) pe_int)
        (pss_cons (ps_while (passes_of rfl) (pt_cmpR op_lt (pv 2) (pe_callB call_len_str (by rfl) T.mL PySem.boot_len (pa_cons (pv 0) pa_nil)) (nomark _)) (pss_cons (ps_if (pt_cmpR op_in_seq (pe_ix ix_str (pv 0) (pv 2) (fun _ _ => rfl)) (pe_tup (pa_cons pe_str (pa_cons pe_str pa_nil))) (by rfl)) (pss_cons (ps_aug (i := 2) scWords.nd rfl (.inl rfl) pe_int ip_add)
        (pss_one ps_continue)) pss_nil)
        (pss_cons (ps_if (pt_val (pe_call GF hr2 (by rfl) gF FF.kp bF .nil pass0 (pa_cons (pe_ix ix_str (pv 0) (pv 2) (fun _ _ => rfl)) pa_nil))) (pss_cons (ps_set (i := 3) scWords.nd rfl (.inl rfl) (pe_call GR hr3 (by rfl) gR FR.kp bR .nil pass0 (pa_cons (pv 0) (pa_cons (pv 2) pa_nil))))
        (pss_one (ps_set (i := 4) scWords.nd rfl (.inl rfl) (pe_callS GS hr (by rfl) gS FS.kp bS (fun σ => passAt tk σ) (pa_cons (pe_slice sl_str (pv 0) (po_some (pv 2)) (po_some (pv 3))) (pa_cons (pv 2) pa_nil)))))) (pss_cons (ps_set (i := 3) scWords.nd rfl (.inl rfl) (pe_callS GG hr3 (by rfl) gG FG.kp bG (fun σ => passAt tk σ) (pa_cons (pv 0) (pa_cons (pv 2) pa_nil))))
        (pss_one (ps_set (i := 4) scWords.nd rfl (.inl rfl) pe_str))))
        (pss_cons (ps_expr (pe_bm PySem.F.plainAttrs_list PySem.F.slot_list_append PySem.F.type_list_append mt_append (pv 1) (pa_cons (pe_tup (pa_cons (pv 4) (pa_cons (pe_slice sl_str (pv 0) (po_some (pv 2)) (po_some (pv 3))) (pa_cons (pv 2) pa_nil)))) pa_nil)))
        (pss_one (ps_set (i := 2) scWords.nd rfl (.inl rfl) (pv 3)))))))
        (pss_one (ps_ret (pv 1)))))), ?_⟩
    obtain ⟨t, es, z, rfl, hl, hs, q, e⟩ := h
    walk_at "rd"
    refine ⟨by decide, fun a ha => ?_⟩
    walk_at "rd"
    refine while_m (fun m σ H' => ∃ (k : Nat) (o3 o4 : Option V) (xs : List V) (e0 e1 : List Ent), σ = [some (.str (S t)), some (.ref a), some (.int (k : Int)), o3, o4] ∧ m = t.length - k ∧ k ≤ t.length ∧ Same H H' ∧ H' a = some (.lst xs) ∧ Ents H' xs e0 ∧ e0.length ≤ k ∧ es = e0 ++ e1 ∧ Scan stepP t k e1 z) t.length
      ⟨0, none, none, [], [], es, rfl, rfl, Nat.zero_le _, same_upd ha, upd_same, True.intro, Nat.le_refl _, rfl, hs⟩ ?_
    rintro m σ H' ⟨k, o3, o4, xs, e0, e1, rfl, rfl, hk, sm, hd, en, hle, rfl, hk1⟩
    walk_at "rd"
    refine ⟨S t, rfl, len_le hl, ?_⟩
    rw [S_len]
    walk_at "rd"
    refine iteB (fun h1 => ?_) (fun h1 => ?_)
    · have hkl : k < t.length := by have := of_decide_eq_true h1; omega
      obtain ⟨c, hc⟩ : ∃ c, t[k]? = some c := ⟨t[k], List.getElem?_eq_getElem hkl⟩
      refine ⟨fun σ' H'' => ∃ m', m' < t.length - k ∧ ∃ (k' : Nat) (o3 o4 : Option V) (xs : List V) (f0 f1 : List Ent), σ' = [some (.str (S t)), some (.ref a), some (.int (k' : Int)), o3, o4] ∧ m' = t.length - k' ∧ k' ≤ t.length ∧ Same H H'' ∧ H'' a = some (.lst xs) ∧ Ents H'' xs f0 ∧ f0.length ≤ k' ∧ e0 ++ e1 = f0 ++ f1 ∧ Scan stepP t k' f1 z, fun σ' H'' h => h, ?_⟩
      walk_at "rd"
      refine at_S hc (len_le hl) ?_
      walk_at "rd"
      refine ⟨(by show 2 ≤ sizeLine; decide), fun p hp => ?_⟩
      have sp := same_upd (o := .tup [.str " ", .str "\n"]) hp
      refine ⟨p, _, rfl, .inr (.inl (.inl upd_same)), rfl, rfl, ?_⟩
      rw [blank_in]
      refine ⟨_, rfl, iteB (fun h2 => ?_) (fun h2 => ?_)⟩
      · have h2p : blank c = true := h2
        cases hk1 with
        | stop h => omega
        | bad g1 g2 g3 => rw [hc] at g1; cases g1; rw [h2p] at g2; cases g2
        | word g1 g2 g3 g4 g5 g6 => rw [hc] at g1; cases g1; rw [h2p] at g2; cases g2
        | blank g1 g2 g3 =>
          refine ⟨_, rfl, _, _, rfl, rfl, ?_⟩
          refine ⟨t.length - (k + 1), by omega, k + 1, o3, o4, xs, e0, e1, rfl, rfl, hkl, sm.trans sp, sp _ _ hd, en.keep (fun b ys z => sp _ _ z), by omega, rfl, g3⟩
      · have h2' : blank c = false := h2
        walk_at "rd"
        refine at_S hc (len_le hl) ?_
        walk_at "rd"
        refine ⟨c, rfl, ?_⟩
        refine ⟨_, rfl, iteB (fun h3 => ?_) (fun h3 => ?_)⟩
        · have rs : stepP (t.drop k) = (sortB ((t.drop k).take (runL (t.drop k)))).map fun s => (s, runL (t.drop k)) := by
            unfold stepP
            rw [headD_drop hc, if_pos h3]
          have hrun : 0 < runL (t.drop k) := by rw [run_step hc, if_pos h3]; omega
          have hrl : k + runL (t.drop k) ≤ t.length := by
            have : runL (t.drop k) ≤ (t.drop k).length := by unfold runL; exact (List.takeWhile_prefix _).length_le
            rw [List.length_drop] at this
            omega
          walk_at "rd"
          refine ⟨t, k, rfl, hl, hk, ?_⟩
          walk_at "rd"
          refine ⟨_, rfl, ?_⟩
          walk_at "rd"
          refine ⟨_, rfl, ?_⟩
          refine rv_cut (a := k) (b := k + runL (t.drop k)) (len_le hl) ?_
          rw [show k + runL (t.drop k) - k = runL (t.drop k) by omega]
          walk_at "rd"
          refine ⟨_, k, rfl, (by rw [List.length_take, List.length_drop]; omega), fun x hx H3 s3 => ?_, fun hx H3 d s3 hd3 => ?_⟩
          · rw [hx] at rs
            have sm3 := (sm.trans sp).trans s3
            have hd3 : H3 a = some (.lst xs) := s3 _ _ (sp _ _ hd)
            have en3 : Ents H3 xs e0 := en.keep (fun b ys z => s3 _ _ (sp _ _ z))
            have hw : ∃ es', e1 = (x, (t.drop k).take (runL (t.drop k)), k) :: es' ∧ Scan stepP t (k + (runL (t.drop k))) es' z ∧ 0 < runL (t.drop k) ∧ k + (runL (t.drop k)) ≤ t.length := by
              cases hk1 with
              | stop h => omega
              | blank g1 g2 g3 => rw [hc] at g1; cases g1; rw [h2'] at g2; cases g2
              | bad g1 g2 g3 => rw [rs] at g3; cases g3
              | word g1 g2 g3 g4 g5 g6 =>
                rw [rs] at g3
                cases g3
                exact ⟨_, rfl, g6, g4, g5⟩
            obtain ⟨es', rfl, hsc, hm0, hml⟩ := hw
            walk_at "rd"
            refine rv_app rfl hd3 ?_
            walk_at "rd"
            refine ⟨_, rfl, ?_⟩
            walk_at "rd"
            refine ⟨_, rfl, ?_⟩
            refine rv_cut (a := k) (b := k + (runL (t.drop k))) (len_le hl) ?_
            rw [show k + (runL (t.drop k)) - k = runL (t.drop k) by omega]
            walk_at "rd"
            refine ⟨(by show 3 ≤ sizeLine; decide), fun p3 hp3 => ?_⟩
            have s4 := same_upd (o := .tup [.str x, .str (S ((t.drop k).take (runL (t.drop k)))), .int (k : Int)]) hp3
            refine ⟨xs, _, rfl, s4 _ _ hd3, ?_, ?_⟩
            · rw [en3.len]
              exact Nat.lt_of_le_of_lt (Nat.le_trans hle hk) (Nat.lt_of_le_of_lt hl (by rw [sizeLine_eq]; decide))
            walk_at "rd"
            have k4 : ∀ b ys, H3 b = some (.tup ys) → (upd (upd H3 p3 (.tup [.str x, .str (S ((t.drop k).take (runL (t.drop k)))), .int (k : Int)])) a (.lst (xs ++ [.ref p3]))) b = some (.tup ys) := fun b ys z => by
              rw [upd_ne (fun e => by rw [e, hd3] at z; cases z)]
              exact s4 _ _ z
            refine ⟨t.length - (k + (runL (t.drop k))), by omega, k + (runL (t.drop k)), _, _, xs ++ [.ref p3], e0 ++ [(x, (t.drop k).take (runL (t.drop k)), k)], es', rfl, rfl, hml, ?_, upd_same, ?_, ?_, ?_, hsc⟩
            · refine fun b o z => ?_
              rw [upd_ne (fun e => by rw [e, ha] at z; cases z)]
              exact s4 _ _ (sm3 _ _ z)
            · refine Ents.snoc ?_ (en3.keep k4)
              rw [upd_ne (fun e => by rw [e, hd3] at hp3; cases hp3), upd_same]
              rfl
            · rw [List.length_append]
              show e0.length + 1 ≤ _
              omega
            · rw [List.append_assoc]
              rfl
          · rw [hx] at rs
            have zk : z = some k := by
              cases hk1 with
              | stop h => omega
              | blank g1 g2 g3 => rw [hc] at g1; cases g1; rw [h2'] at g2; cases g2
              | word g1 g2 g3 g4 g5 g6 => rw [rs] at g3; cases g3
              | bad g1 g2 g3 => rfl
            exact e k zk H3 d ((sm.trans sp).trans s3) hd3
        · have rs : stepP (t.drop k) = (signB (t.drop k)).map fun n => (("sign" : Str), n) := by
            unfold stepP
            rw [headD_drop hc, h3, if_neg Bool.false_ne_true]
          walk_at "rd"
          refine ⟨t, k, c, rfl, hl, hc, fun n hx H3 s3 => ?_, fun hx H3 d s3 hd3 => ?_⟩
          · rw [hx] at rs
            walk_at "rd"
            have sm3 := (sm.trans sp).trans s3
            have hd3 : H3 a = some (.lst xs) := s3 _ _ (sp _ _ hd)
            have en3 : Ents H3 xs e0 := en.keep (fun b ys z => s3 _ _ (sp _ _ z))
            have hw : ∃ es', e1 = (("sign" : Str), (t.drop k).take (n), k) :: es' ∧ Scan stepP t (k + (n)) es' z ∧ 0 < n ∧ k + (n) ≤ t.length := by
              cases hk1 with
              | stop h => omega
              | blank g1 g2 g3 => rw [hc] at g1; cases g1; rw [h2'] at g2; cases g2
              | bad g1 g2 g3 => rw [rs] at g3; cases g3
              | word g1 g2 g3 g4 g5 g6 =>
                rw [rs] at g3
                cases g3
                exact ⟨_, rfl, g6, g4, g5⟩
            obtain ⟨es', rfl, hsc, hm0, hml⟩ := hw
            walk_at "rd"
            refine rv_app rfl hd3 ?_
            walk_at "rd"
            refine ⟨_, rfl, ?_⟩
            walk_at "rd"
            refine ⟨_, rfl, ?_⟩
            refine rv_cut (a := k) (b := k + (n)) (len_le hl) ?_
            rw [show k + (n) - k = n by omega]
            walk_at "rd"
            refine ⟨(by show 3 ≤ sizeLine; decide), fun p3 hp3 => ?_⟩
            have s4 := same_upd (o := .tup [.str "sign", .str (S ((t.drop k).take (n))), .int (k : Int)]) hp3
            refine ⟨xs, _, rfl, s4 _ _ hd3, ?_, ?_⟩
            · rw [en3.len]
              exact Nat.lt_of_le_of_lt (Nat.le_trans hle hk) (Nat.lt_of_le_of_lt hl (by rw [sizeLine_eq]; decide))
            walk_at "rd"
            have k4 : ∀ b ys, H3 b = some (.tup ys) → (upd (upd H3 p3 (.tup [.str "sign", .str (S ((t.drop k).take (n))), .int (k : Int)])) a (.lst (xs ++ [.ref p3]))) b = some (.tup ys) := fun b ys z => by
              rw [upd_ne (fun e => by rw [e, hd3] at z; cases z)]
              exact s4 _ _ z
            refine ⟨t.length - (k + (n)), by omega, k + (n), _, _, xs ++ [.ref p3], e0 ++ [(("sign" : Str), (t.drop k).take (n), k)], es', rfl, rfl, hml, ?_, upd_same, ?_, ?_, ?_, hsc⟩
            · refine fun b o z => ?_
              rw [upd_ne (fun e => by rw [e, ha] at z; cases z)]
              exact s4 _ _ (sm3 _ _ z)
            · refine Ents.snoc ?_ (en3.keep k4)
              rw [upd_ne (fun e => by rw [e, hd3] at hp3; cases hp3), upd_same]
              rfl
            · rw [List.length_append]
              show e0.length + 1 ≤ _
              omega
            · rw [List.append_assoc]
              rfl
          · rw [hx] at rs
            have zk : z = some k := by
              cases hk1 with
              | stop h => omega
              | blank g1 g2 g3 => rw [hc] at g1; cases g1; rw [h2'] at g2; cases g2
              | word g1 g2 g3 g4 g5 g6 => rw [rs] at g3; cases g3
              | bad g1 g2 g3 => rfl
            exact e k zk H3 d ((sm.trans sp).trans s3) hd3
    · have hkl : k = t.length := by have := of_decide_eq_false h1; omega
      walk_at "rd"
      cases hk1 with
      | stop h => exact q rfl H' a xs sm ha hd (by rw [List.append_nil]; exact en)
      | blank g1 g2 g3 => rw [hkl, List.getElem?_eq_none (Nat.le_refl _)] at g1; cases g1
      | word g1 g2 g3 g4 g5 g6 => rw [hkl, List.getElem?_eq_none (Nat.le_refl _)] at g1; cases g1
      | bad g1 g2 g3 => rw [hkl, List.getElem?_eq_none (Nat.le_refl _)] at g1; cases g1
end
end My

namespace My
open PySem PySem.Spec PyProof.Rows L2 XR SX
abbrev sLRun : Stmt := top 32
abbrev sLNum : Stmt := top 33
abbrev sLAt : Stmt := top 34
abbrev sLWords : Stmt := top 35
section
variable {P : Program} {w : World} {K : PySem.W.Frag} {mg : Str → Option Value} {base : Heap}
local macro_rules | `(tactic| walk_at "rd1") => `(tactic| first
  | with_reducible refine rs_seq ?_
  | with_reducible refine rs_asg ?_
  | with_reducible refine rs_ret ?_
  | with_reducible refine rs_if ?_
  | with_reducible refine rs_next ?_
  | with_reducible refine rg_name ?_
  | ((with_reducible refine rv_var (v := ?vv) ?hv ?_); (case hv => exact rfl))
  | with_reducible refine rv_c ?_
  | with_reducible refine rv_op ?_
  | with_reducible refine rv_cons ?_
  | with_reducible refine rv_nil ?_
  | with_reducible refine rv_rI0 ?_
  | ((with_reducible refine rv_rI ?hc ?_); (case hc => walk_at "side"))
  | ((with_reducible refine rv_eq ?hc ?_); (case hc => exact rfl))
  | ((with_reducible refine rv_ne ?hc ?_); (case hc => exact rfl))
  | with_reducible refine rv_test ?_
  | with_reducible refine rv_bl ?_
  | with_reducible refine rv_cb ?_
  | with_reducible refine rv_call ?_
  | with_reducible refine rv_tup ?_
  | with_reducible refine rv_lst ?_
  | with_reducible refine rv_tB ?_
  | with_reducible refine rv_or ?_
  | with_reducible refine rv_and ?_
  | with_reducible refine rv_not ?_
  | with_reducible refine rv_andV ?_
  | with_reducible refine rv_orV ?_
  | with_reducible refine rv_notV ?_
  | with_reducible refine rv_ifE ?_
  | with_reducible refine rs_drop ?_
  | with_reducible refine iteT ?_
  | with_reducible refine iteF ?_
  | with_reducible refine ro_nx ?_
  | with_reducible refine ro_rt ?_
  | with_reducible refine ro_ct ?_
  | with_reducible refine ro_bk ?_)
local macro_rules | `(tactic| walk_at "rd") => `(tactic| repeat walk_at "rd1")
local macro_rules | `(tactic| walk_at "side") => `(tactic| first
  | assumption
  | exact (show CPow _ _ from ⟨by decide, by decide, by decide⟩)
  | exact (show CMul _ _ from .inl ⟨by decide, by decide⟩)
  | exact (show CMul _ _ from .inr ⟨by decide, by decide⟩)
  | (show (0 : Int) < _; decide)
  | (show CMul _ _; first | exact .inl ⟨by omega, by omega⟩ | exact .inr ⟨by omega, by omega⟩)
  | omega)
local macro_rules | `(tactic| walk_at "rd1") => `(tactic| first
  | with_reducible refine rs_for ?_
  | with_reducible refine ri_zip ?_
  | with_reducible refine ri_list ?_
  | with_reducible refine ri_rng1 ?_
  | with_reducible refine rv_lc ?_
  | with_reducible refine rv_xfl ?_
  | with_reducible refine rs_par3 ?_
  | with_reducible refine rv_yes ?_
  | with_reducible refine rg_tup ?_
  | with_reducible refine rg_cons ?_
  | with_reducible refine rg_nil ?_)
local macro_rules | `(tactic| walk_at "rd1") => `(tactic| first
  | with_reducible refine ri_str ?_
  | with_reducible refine rv_sl ?_
  | with_reducible refine rv_part ?_
  | with_reducible refine rv_nopart ?_
  | with_reducible refine rv_callS ?_
  | with_reducible refine rv_chain ?_
  | with_reducible refine rv_leS ?_
  | with_reducible refine rv_inS ?_)
def smallC : List Nat := [97, 98, 99, 100, 101, 102, 103, 104, 105, 106, 107, 108, 109, 110, 111, 112, 113, 114, 115, 116, 117, 118, 119, 120, 121, 122]
def figC : List Nat := [48, 49, 50, 51, 52, 53, 54, 55, 56, 57]
theorem small_in (c : Nat) : decide (c ∈ smallC) = isL c := by
  unfold smallC isL
  rw [Bool.eq_iff_iff]
  simp
  omega
theorem fig_in (c : Nat) : decide (c ∈ figC) = isF c := by
  unfold figC isF
  rw [Bool.eq_iff_iff]
  simp
  omega
def runG (p : Nat → Bool) (t : List Nat) : Nat := (t.takeWhile p).length
theorem runG_step {p : Nat → Bool} {t : List Nat} {k c : Nat} (hc : t[k]? = some c) : runG p (t.drop k) = if p c = true then 1 + runG p (t.drop (k + 1)) else 0 := by
  have hk : k < t.length := (List.getElem?_eq_some_iff.mp hc).1
  have e : t.drop k = c :: t.drop (k + 1) := by
    rw [List.drop_eq_getElem_cons hk]
    congr 1
    exact Option.some.inj ((List.getElem?_eq_getElem hk).symm.trans hc)
  unfold runG
  rw [e, List.takeWhile_cons]
  by_cases h : p c = true
  · rw [if_pos h, if_pos h, List.length_cons]
    omega
  · rw [if_neg h, if_neg h]
    rfl
theorem runG_end {p : Nat → Bool} {t : List Nat} {k : Nat} (h : t.length ≤ k) : runG p (t.drop k) = 0 := by
  rw [List.drop_of_length_le h]
  rfl
theorem runG_le (p : Nat → Bool) (u : List Nat) : runG p u ≤ u.length := (List.takeWhile_prefix _).length_le
def spLRun : Sp := fun vs H Q _ => ∃ (t z : List Nat) (k : Nat), vs = [.str (S t), .int (k : Int), .str (S z)] ∧ t.length ≤ 4000 ∧ k ≤ t.length ∧ Q (.int ((k + runG (fun c => decide (c ∈ z)) (t.drop k) : Nat) : Int)) H
/-- the sign at a place, or nothing -/
def nxt (u : List Nat) (m : Nat) : List Nat := (u.drop m).take 1
def nx (p : Nat → Bool) (u : List Nat) (m : Nat) : Bool := match nxt u m with
  | [] => false
  | c :: _ => p c
theorem nxt_drop (t : List Nat) (k m : Nat) : (t.drop (k + m)).take 1 = nxt (t.drop k) m := by
  unfold nxt
  rw [List.drop_drop]
theorem nxt_cases (u : List Nat) (m : Nat) : nxt u m = [] ∨ ∃ c, nxt u m = [c] ∧ u[m]? = some c := by
  unfold nxt
  by_cases h : m < u.length
  · refine .inr ⟨u[m], ?_, List.getElem?_eq_getElem h⟩
    rw [List.drop_eq_getElem_cons h, List.take_succ_cons, List.take_zero]
  · exact .inl (by rw [List.drop_of_length_le (by omega)]; rfl)
def nineL : List Str := ["1", "2", "3", "4", "5", "6", "7", "8", "9"]
def isN (c : Nat) : Bool := decide (49 ≤ c) && decide (c ≤ 57)
theorem nine_in (u : List Nat) (m : Nat) : inV (.str (S (nxt u m))) [.str "1", .str "2", .str "3", .str "4", .str "5", .str "6", .str "7", .str "8", .str "9"] = nx isN u m := by
  unfold nx
  rcases nxt_cases u m with h | ⟨c, h, _⟩
  · rw [h]
    decide +kernel
  · rw [h]
    show ((S [49] == S [c]) || ((S [50] == S [c]) || ((S [51] == S [c]) || ((S [52] == S [c]) || ((S [53] == S [c]) || ((S [54] == S [c]) || ((S [55] == S [c]) || ((S [56] == S [c]) || ((S [57] == S [c]) || false))))))))) = isN c
    simp only [S_beq_eq]
    unfold isN
    rw [Bool.eq_iff_iff]
    simp
    omega
def numL (u : List Nat) : Nat × Nat :=
  if u.headD 0 = 48 then (1, 1)
  else if (nx (fun c => c == 101) u (runG isF u) && nx isN u (runG isF u + 1)) = true then
    if nx isF u (runG isF u + 2) = true then (runG isF u + 3, runG isF u + NumText.digitsVal ((u.drop (runG isF u + 1)).take 2))
    else (runG isF u + 2, runG isF u + NumText.digitsVal ((u.drop (runG isF u + 1)).take 1))
  else (runG isF u, runG isF u)
def spLNum : Sp := fun vs H Q _ => ∃ (t : List Nat) (k c : Nat), vs = [.str (S t), .int (k : Int)] ∧ t.length ≤ 4000 ∧ t[k]? = some c ∧
  ∀ H' p, Same H H' → H' p = some (.tup [.int ((k + (numL (t.drop k)).1 : Nat) : Int), .int ((numL (t.drop k)).2 : Nat)]) → Q (.ref p) H'
theorem scLRun : FnScope ["text_in", "at", "signs", "end"] ["text_in", "at", "signs"] (defScope sLRun) := ⟨rfl, rfl, rfl, by decide +kernel, rfl, by decide +kernel, by decide +kernel⟩
theorem scLNum : FnScope ["text_in", "at", "end", "many", "far"] ["text_in", "at"] (defScope sLNum) := ⟨rfl, rfl, rfl, by decide +kernel, rfl, by decide +kernel, by decide +kernel⟩
theorem ok_LRun {f : Addr} {fd : FuncData} (F : Fun K "_law_run_end" "_law_run_end" sLRun f fd) (mL : mg "len" = none) : FnOk P w K mg base CX0 1 f fd ["text_in", "at", "signs"] spLRun := by
  refine F.ok scLRun (fun vs H Q E h => ?_) (fun cdv A outer s H vs Q E hr h => ?_)
  · obtain ⟨t, z, k, rfl, _⟩ := h
    rfl
  · refine ⟨_, (pss_cons (ps_set (i := 3) scLRun.nd rfl (.inl rfl) (pv 1))
        (pss_cons (ps_while PassesOwn.never (PW.pt (pw_and (pt_cmpR op_lt (pv 3) (pe_callB call_len_str (by rfl) mL PySem.boot_len (pa_cons (pv 0) pa_nil)) (nomark _)) (pw_and1 (pt_cmpR op_inS (pe_ix ix_str (pv 0) (pv 3) (fun _ _ => rfl)) (pv 2) (by rfl))))) (pss_one (ps_set (i := 3) scLRun.nd rfl (.inl rfl) (pe_op op_add (pv 3) pe_int))))
        (pss_one (ps_ret (pv 3))))), ?_⟩
    obtain ⟨t, z, k, rfl, hl, hk, q⟩ := h
    walk_at "rd"
    refine while_m (fun m σ H' => H' = H ∧ ∃ j : Nat, σ = [some (.str (S t)), some (.int (k : Int)), some (.str (S z)), some (.int (j : Int))] ∧ m = t.length - j ∧ j ≤ t.length ∧ j + runG (fun c => decide (c ∈ z)) (t.drop j) = k + runG (fun c => decide (c ∈ z)) (t.drop k)) _ ⟨rfl, k, rfl, rfl, hk, rfl⟩ ?_
    rintro m σ H' ⟨rfl, j, rfl, rfl, hj, ej⟩
    walk_at "rd"
    refine ⟨S t, rfl, len_le hl, ?_⟩
    rw [S_len]
    walk_at "rd"
    refine iteB (fun h1 => ?_) (fun h1 => ?_)
    · have hjl : j < t.length := by have := of_decide_eq_true h1; omega
      obtain ⟨c, hc⟩ : ∃ c, t[j]? = some c := ⟨t[j], List.getElem?_eq_getElem hjl⟩
      walk_at "rd"
      refine at_S hc (len_le hl) ?_
      walk_at "rd"
      refine iteB (fun h2 => ?_) (fun h2 => ?_)
      · refine ⟨fun σ' H'' => H'' = H' ∧ σ' = [some (.str (S t)), some (.int (k : Int)), some (.str (S z)), some (.int ((j + 1 : Nat) : Int))], ?_, ?_⟩
        · rintro σ' H'' ⟨rfl, rfl⟩
          refine ⟨t.length - (j + 1), by omega, rfl, j + 1, rfl, rfl, hjl, ?_⟩
          rw [runG_step hc, if_pos h2] at ej
          omega
        · walk_at "rd"
          exact ⟨rfl, rfl⟩
      · walk_at "rd"
        rw [runG_step hc, h2, if_neg Bool.false_ne_true] at ej
        rw [← ej] at q
        exact q
    · have hjl : ¬ j < t.length := by have := of_decide_eq_false h1; omega
      walk_at "rd"
      rw [runG_end (by omega)] at ej
      rw [← ej] at q
      exact q
theorem nx_one {p : Nat → Bool} {u : List Nat} {m c : Nat} (h : nxt u m = [c]) : nx p u m = p c := by unfold nx; rw [h]
theorem nx_nil {p : Nat → Bool} {u : List Nat} {m : Nat} (h : nxt u m = []) : nx p u m = false := by unfold nx; rw [h]
theorem nx_eq {u : List Nat} {m c0 : Nat} : nxt u m = [c0] ↔ nx (fun c => c == c0) u m = true := by
  unfold nx
  rcases nxt_cases u m with h | ⟨c, h, _⟩
  · rw [h]
    simp
  · rw [h]
    simp
theorem nx_has {p : Nat → Bool} {u : List Nat} {m : Nat} (h : nx p u m = true) : ∃ c, nxt u m = [c] ∧ u[m]? = some c ∧ p c = true := by
  rcases nxt_cases u m with e | ⟨c, e, hc⟩
  · rw [nx_nil e] at h
    cases h
  · rw [nx_one e] at h
    exact ⟨c, e, hc, h⟩
theorem take2 {u : List Nat} {m a b : Nat} (h1 : u[m]? = some a) (h2 : u[m + 1]? = some b) : (u.drop m).take 2 = [a, b] := by
  have k1 : m < u.length := (List.getElem?_eq_some_iff.mp h1).1
  have k2 : m + 1 < u.length := (List.getElem?_eq_some_iff.mp h2).1
  rw [List.drop_eq_getElem_cons k1, List.take_succ_cons, List.drop_eq_getElem_cons k2, List.take_succ_cons, List.take_zero]
  rw [List.getElem?_eq_getElem k1] at h1
  rw [List.getElem?_eq_getElem k2] at h2
  cases h1
  cases h2
  rfl
theorem fig_of_nine {c : Nat} (h : isN c = true) : isF c = true := by
  unfold isN at h
  unfold isF
  simp at h ⊢
  omega
theorem figs1 {c : Nat} (h : isF c = true) : ([c] : List Nat).all (fun c => decide (48 ≤ c) && decide (c ≤ 57)) = true := by
  show (isF c && true) = true
  rw [h]
  rfl
theorem figs2 {c d : Nat} (h : isF c = true) (g : isF d = true) : ([c, d] : List Nat).all (fun c => decide (48 ≤ c) && decide (c ≤ 57)) = true := by
  show (isF c && (isF d && true)) = true
  rw [h, g]
  rfl
theorem ok_LNum {f fR : Addr} {fd dR : FuncData} (F : Fun K "_law_number_end" "_law_number_end" sLNum f fd) (mN : mg "int" = none) (FR : Fun K "_law_run_end" "_law_run_end" sLRun fR dR) (gR : mg "_law_run_end" = some (.ref fR)) (bR : L2.Binds K dR ["text_in", "at", "signs"] [])
    (GR : FnOk P w K mg base CX0 1 fR dR ["text_in", "at", "signs"] spLRun) : FnOk P w K mg base CX0 2 f fd ["text_in", "at"] spLNum := by
  refine F.ok scLNum (fun vs H Q E h => ?_) (fun cdv A outer s H vs Q E hr h => ?_)
  · obtain ⟨t, k, c, rfl, _⟩ := h
    rfl
  · refine ⟨_, (pss_cons (ps_set (i := 2) scLNum.nd rfl (.inl rfl) (pe_call GR hr (by rfl) gR FR.kp bR .nil pass0 (pa_cons (pv 0) (pa_cons (pv 1) (pa_cons pe_str pa_nil)))))
        (pss_cons (ps_if (pt_cmpR op_eq (pe_ix ix_str (pv 0) (pv 1) (fun _ _ => rfl)) pe_str (nomark _)) (pss_one (ps_ret (pe_tup (pa_cons (pe_op op_add (pv 1) pe_int) (pa_cons pe_int pa_nil))))) pss_nil)
        (pss_cons (ps_set (i := 3) scLNum.nd rfl (.inl rfl) (pe_op op_sub (pv 2) (pv 1)))
        (pss_cons (ps_if (PW.pt (pw_and (pt_cmpR op_eq (pe_slice sl_str (pv 0) (po_some (pv 2)) (po_some (pe_op op_add (pv 2) pe_int))) pe_str (nomark _)) (pw_and1 (pt_cmpR op_in_seq (pe_slice sl_str (pv 0) (po_some (pe_op op_add (pv 2) pe_int)) (po_some (pe_op op_add (pv 2) pe_int))) (pe_lst (pa_cons pe_str (pa_cons pe_str (pa_cons pe_str (pa_cons pe_str (pa_cons pe_str (pa_cons pe_str (pa_cons pe_str (pa_cons pe_str (pa_cons pe_str pa_nil)))))))))) (by rfl))))) (pss_cons (ps_set (i := 4) scLNum.nd rfl (.inl rfl) (pe_op op_add (pv 2) pe_int))
        (pss_cons (ps_if (PW.pt (pw_and (pt_cmpR op_ne (pe_slice sl_str (pv 0) (po_some (pv 4)) (po_some (pe_op op_add (pv 4) pe_int))) pe_str (nomark _)) (pw_and1 (pt_cmpR op_inS (pe_ix ix_str (pv 0) (pv 4) (fun _ _ => rfl)) pe_str (by rfl))))) (pss_one (ps_set (i := 4) scLNum.nd rfl (.inl rfl) (pe_op op_add (pv 4) pe_int))) pss_nil)
        (pss_one (ps_ret (pe_tup (pa_cons (pv 4) (pa_cons (pe_op op_add (pv 3) (pe_callTy call_int_str (by rfl) mN (by decide +kernel) (pa_cons (pe_slice sl_str (pv 0) (po_some (pe_op op_add (pv 2) pe_int)) (po_some (pv 4))) pa_nil))) pa_nil))))))) pss_nil)
        (pss_one (ps_ret (pe_tup (pa_cons (pv 2) (pa_cons (pv 3) pa_nil))))))))), ?_⟩
    obtain ⟨t, k, c, rfl, hl, hc, q⟩ := h
    have hk : k < t.length := (List.getElem?_eq_some_iff.mp hc).1
    walk_at "rd"
    refine ⟨t, figC, k, rfl, hl, Nat.le_of_lt hk, ?_⟩
    rw [show (fun c => decide (c ∈ figC)) = isF from funext fig_in]
    have hF := runG_le isF (t.drop k)
    rw [List.length_drop] at hF
    obtain ⟨n, hn⟩ : ∃ n, n = runG isF (t.drop k) := ⟨_, rfl⟩
    rw [← hn] at hF ⊢
    walk_at "rd"
    refine at_S hc (len_le hl) ?_
    walk_at "rd"
    unfold numL at q
    rw [headD_drop hc, ← hn] at q
    refine iteB (fun h1 => ?_) (fun h1 => ?_)
    · have h1' : c = 48 := by have := of_decide_eq_true (eqS (u := [48]) h1); simpa using this
      rw [if_pos h1'] at q
      walk_at "rd"
      refine ⟨(by show 2 ≤ sizeLine; decide), fun p hp => ?_⟩
      exact q _ p (same_upd hp) upd_same
    · have h1' : ¬ c = 48 := fun z => by have := of_decide_eq_false (eqS (u := [48]) h1); exact this (by rw [z])
      rw [if_neg h1'] at q
      walk_at "rd"
      have e3 : (((k + n : Nat) : Int) - (k : Int)) = ((n : Nat) : Int) := by omega
      rw [e3]
      refine ⟨_, rfl, ?_⟩
      walk_at "rd"
      refine ⟨_, rfl, ?_⟩
      refine rv_cut (a := k + n) (b := k + n + 1) (len_le hl) ?_
      rw [show k + n + 1 - (k + n) = 1 by omega, nxt_drop]
      walk_at "rd"
      walk_at "rd"
      have ud : ∀ i, (t.drop k)[i]? = t[k + i]? := fun i => List.getElem?_drop
      refine iteB (fun h2 => ?_) (fun h2 => ?_)
      · have n2 : nx (fun c => c == 101) (t.drop k) n = true := nx_eq.mp (of_decide_eq_true (eqS (u := [101]) h2))
        rw [n2, Bool.true_and] at q
        walk_at "rd"
        refine ⟨_, rfl, ?_⟩
        walk_at "rd"
        refine ⟨_, rfl, ?_⟩
        refine rv_cut (a := k + n + 1) (b := k + n + 2) (len_le hl) ?_
        rw [show k + n + 2 - (k + n + 1) = 1 by omega, show k + n + 1 = k + (n + 1) by omega, nxt_drop]
        walk_at "rd"
        refine ⟨(by show 9 ≤ sizeLine; decide), fun p hp => ?_⟩
        have sp := same_upd (o := .lst [.str "1", .str "2", .str "3", .str "4", .str "5", .str "6", .str "7", .str "8", .str "9"]) hp
        refine ⟨p, _, rfl, .inl (SqL.of upd_same), rfl, rfl, ?_⟩
        rw [nine_in]
        refine ⟨_, rfl, iteB (fun h3 => ?_) (fun h3 => ?_)⟩
        · have h3' : nx isN (t.drop k) (n + 1) = true := h3
          rw [if_pos h3'] at q
          obtain ⟨d1, e1, u1, f1⟩ := nx_has h3'
          walk_at "rd"
          refine ⟨_, rfl, ?_⟩
          walk_at "rd"
          refine ⟨_, rfl, ?_⟩
          refine rv_cut (a := k + n + 2) (b := k + n + 2 + 1) (len_le hl) ?_
          rw [show k + n + 2 + 1 - (k + n + 2) = 1 by omega, show k + n + 2 = k + (n + 2) by omega, nxt_drop]
          walk_at "rd"
          rcases nxt_cases (t.drop k) (n + 2) with h4 | ⟨d, h4, hd⟩
          · rw [h4]
            refine iteFe rfl ?_
            rw [nx_nil h4, if_neg Bool.false_ne_true] at q
            walk_at "rd"
            refine ⟨_, rfl, ?_⟩
            walk_at "rd"
            refine ⟨_, rfl, ?_⟩
            refine rv_cut (a := k + n + 1) (b := k + n + 2) (len_le hl) ?_
            rw [show k + n + 2 - (k + n + 1) = 1 by omega, show k + n + 1 = k + (n + 1) by omega, ← List.drop_drop, show (List.drop (n + 1) (List.drop k t)).take 1 = [d1] from e1]
            walk_at "rd"
            refine ⟨S [d1], _, rfl, int_S (figs1 (fig_of_nine f1)) (by simp) (by simp), (by rw [S_len]; simp), ?_⟩
            walk_at "rd"
            refine ⟨(by show 2 ≤ sizeLine; decide), fun p2 hp2 => ?_⟩
            rw [show (List.drop (n + 1) (List.drop k t)).take 1 = [d1] from e1] at q
            exact q _ p2 (sp.trans (same_upd hp2)) upd_same
          · rw [h4]
            refine iteTe rfl ?_
            walk_at "rd"
            refine at_S (k := k + n + 2) (c := d) (by rw [Nat.add_assoc, ← ud]; exact hd) (len_le hl) ?_
            walk_at "rd"
            refine iteB (fun h5 => ?_) (fun h5 => ?_)
            · replace h5 : isF d = true := (fig_in d).symm.trans h5
              rw [nx_one h4, if_pos h5] at q
              walk_at "rd"
              refine ⟨_, rfl, ?_⟩
              walk_at "rd"
              refine ⟨_, rfl, ?_⟩
              refine rv_cut (a := k + n + 1) (b := k + n + 3) (len_le hl) ?_
              rw [show k + n + 3 - (k + n + 1) = 2 by omega, show k + n + 1 = k + (n + 1) by omega, ← List.drop_drop, show (List.drop (n + 1) (List.drop k t)).take 2 = [d1, d] from take2 u1 hd]
              walk_at "rd"
              refine ⟨S [d1, d], _, rfl, int_S (figs2 (fig_of_nine f1) h5) (by simp) (by simp), (by rw [S_len]; simp), ?_⟩
              walk_at "rd"
              refine ⟨(by show 2 ≤ sizeLine; decide), fun p2 hp2 => ?_⟩
              rw [show (List.drop (n + 1) (List.drop k t)).take 2 = [d1, d] from take2 u1 hd] at q
              exact q _ p2 (sp.trans (same_upd hp2)) upd_same
            · replace h5 : isF d = false := (fig_in d).symm.trans h5
              rw [nx_one h4, h5, if_neg Bool.false_ne_true] at q
              walk_at "rd"
              refine ⟨_, rfl, ?_⟩
              walk_at "rd"
              refine ⟨_, rfl, ?_⟩
              refine rv_cut (a := k + n + 1) (b := k + n + 2) (len_le hl) ?_
              rw [show k + n + 2 - (k + n + 1) = 1 by omega, show k + n + 1 = k + (n + 1) by omega, ← List.drop_drop, show (List.drop (n + 1) (List.drop k t)).take 1 = [d1] from e1]
              walk_at "rd"
              refine ⟨S [d1], _, rfl, int_S (figs1 (fig_of_nine f1)) (by simp) (by simp), (by rw [S_len]; simp), ?_⟩
              walk_at "rd"
              refine ⟨(by show 2 ≤ sizeLine; decide), fun p2 hp2 => ?_⟩
              rw [show (List.drop (n + 1) (List.drop k t)).take 1 = [d1] from e1] at q
              exact q _ p2 (sp.trans (same_upd hp2)) upd_same
        · have h3' : ¬ nx isN (t.drop k) (n + 1) = true := Bool.eq_false_iff.mp h3
          rw [if_neg h3'] at q
          walk_at "rd"
          refine ⟨(by show 2 ≤ sizeLine; decide), fun p2 hp2 => ?_⟩
          exact q _ p2 (sp.trans (same_upd hp2)) upd_same
      · have n2 : nx (fun c => c == 101) (t.drop k) n = false := Bool.eq_false_iff.mpr fun z => of_decide_eq_false (eqS (u := [101]) h2) (nx_eq.mpr z)
        rw [n2, Bool.false_and, if_neg Bool.false_ne_true] at q
        walk_at "rd"
        refine ⟨(by show 2 ≤ sizeLine; decide), fun p2 hp2 => ?_⟩
        exact q _ p2 (same_upd hp2) upd_same
end
end My

namespace My
open PySem PySem.Spec PyProof.Rows L2 XR SX
section
variable {P : Program} {w : World} {K : PySem.W.Frag} {mg : Str → Option Value} {base : Heap}
local macro_rules | `(tactic| walk_at "rd1") => `(tactic| first
  | with_reducible refine rs_seq ?_
  | with_reducible refine rs_asg ?_
  | with_reducible refine rs_ret ?_
  | with_reducible refine rs_if ?_
  | with_reducible refine rs_next ?_
  | with_reducible refine rg_name ?_
  | ((with_reducible refine rv_var (v := ?vv) ?hv ?_); (case hv => exact rfl))
  | with_reducible refine rv_c ?_
  | with_reducible refine rv_op ?_
  | with_reducible refine rv_cons ?_
  | with_reducible refine rv_nil ?_
  | with_reducible refine rv_rI0 ?_
  | ((with_reducible refine rv_rI ?hc ?_); (case hc => walk_at "side"))
  | ((with_reducible refine rv_eq ?hc ?_); (case hc => exact rfl))
  | ((with_reducible refine rv_ne ?hc ?_); (case hc => exact rfl))
  | with_reducible refine rv_test ?_
  | with_reducible refine rv_bl ?_
  | with_reducible refine rv_cb ?_
  | with_reducible refine rv_call ?_
  | with_reducible refine rv_tup ?_
  | with_reducible refine rv_lst ?_
  | with_reducible refine rv_tB ?_
  | with_reducible refine rv_or ?_
  | with_reducible refine rv_and ?_
  | with_reducible refine rv_not ?_
  | with_reducible refine rv_andV ?_
  | with_reducible refine rv_orV ?_
  | with_reducible refine rv_notV ?_
  | with_reducible refine rv_ifE ?_
  | with_reducible refine rs_drop ?_
  | with_reducible refine iteT ?_
  | with_reducible refine iteF ?_
  | with_reducible refine ro_nx ?_
  | with_reducible refine ro_rt ?_
  | with_reducible refine ro_ct ?_
  | with_reducible refine ro_bk ?_)
local macro_rules | `(tactic| walk_at "rd") => `(tactic| repeat walk_at "rd1")
local macro_rules | `(tactic| walk_at "side") => `(tactic| first
  | assumption
  | exact (show CPow _ _ from ⟨by decide, by decide, by decide⟩)
  | exact (show CMul _ _ from .inl ⟨by decide, by decide⟩)
  | exact (show CMul _ _ from .inr ⟨by decide, by decide⟩)
  | (show (0 : Int) < _; decide)
  | (show CMul _ _; first | exact .inl ⟨by omega, by omega⟩ | exact .inr ⟨by omega, by omega⟩)
  | omega)
local macro_rules | `(tactic| walk_at "rd1") => `(tactic| first
  | with_reducible refine rs_for ?_
  | with_reducible refine ri_zip ?_
  | with_reducible refine ri_list ?_
  | with_reducible refine ri_rng1 ?_
  | with_reducible refine rv_lc ?_
  | with_reducible refine rv_xfl ?_
  | with_reducible refine rs_par3 ?_
  | with_reducible refine rv_yes ?_
  | with_reducible refine rg_tup ?_
  | with_reducible refine rg_cons ?_
  | with_reducible refine rg_nil ?_)
local macro_rules | `(tactic| walk_at "rd1") => `(tactic| first
  | with_reducible refine ri_str ?_
  | with_reducible refine rv_sl ?_
  | with_reducible refine rv_part ?_
  | with_reducible refine rv_nopart ?_
  | with_reducible refine rv_callS ?_
  | with_reducible refine rv_chain ?_
  | with_reducible refine rv_leS ?_
  | with_reducible refine rv_inS ?_)
def signC : List Nat := [43, 45, 42, 47, 126, 60, 62, 33, 63, 58, 46, 44, 61, 40, 41, 123, 125, 91, 93, 59]
def wordL (u : List Nat) : Str × Nat × Nat :=
  if isL (u.headD 0) = true then (if kept (u.take (runG isL u)) = true then ("kept" : Str) else "name", runG isL u, runG isL u + 6) else ("number", (numL u).1, (numL u).2)
def stepL (u : List Nat) : Option (Str × Nat) :=
  if isLF (u.headD 0) = true then
    if 18 < (wordL u).2.2 then none else if nx isLF u (wordL u).2.1 = true then none else some ((wordL u).1, (wordL u).2.1)
  else if inV (.str (S (u.take 2))) (longL.map V.str) = true then some ("sign", 2)
  else if u.headD 0 ∈ signC then some ("sign", 1) else none
def spLAt : Sp := fun vs H Q _ => ∃ (t : List Nat) (k c : Nat), vs = [.str (S t), .int (k : Int)] ∧ t.length ≤ 4000 ∧ t[k]? = some c ∧
  (stepL (t.drop k) = none → ∀ H', Same H H' → Q .non H') ∧
  (∀ s m, stepL (t.drop k) = some (s, m) → ∀ H' p, Same H H' → H' p = some (.tup (entV (s, (t.drop k).take m, k))) → Q (.ref p) H')
theorem sf_in (c : Nat) : decide (c ∈ (("abcdefghijklmnopqrstuvwxyz" : Str) ++ ("0123456789" : Str)).cps.toList) = isLF c := by
  have e : (("abcdefghijklmnopqrstuvwxyz" : Str) ++ ("0123456789" : Str)) = S (smallC ++ figC) := S_cat smallC figC
  rw [e]
  show decide (c ∈ smallC ++ figC) = _
  unfold isLF
  rw [← small_in, ← fig_in, Bool.eq_iff_iff]
  simp
theorem scLAt : FnScope ["text_in", "at", "small", "figures", "sort", "end", "many"] ["text_in", "at"] (defScope sLAt) := ⟨rfl, rfl, rfl, by decide +kernel, rfl, by decide +kernel, by decide +kernel⟩
theorem ok_LAt {f fR fN : Addr} {fd dR dN : FuncData} (F : Fun K "_law_word_at" "_law_word_at" sLAt f fd) (FR : Fun K "_law_run_end" "_law_run_end" sLRun fR dR) (gR : mg "_law_run_end" = some (.ref fR)) (bR : L2.Binds K dR ["text_in", "at", "signs"] [])
    (GR : FnOk P w K mg base CX0 1 fR dR ["text_in", "at", "signs"] spLRun) (FN : Fun K "_law_number_end" "_law_number_end" sLNum fN dN) (gN : mg "_law_number_end" = some (.ref fN)) (bN : L2.Binds K dN ["text_in", "at"] [])
    (GN : FnOk P w K mg base CX0 2 fN dN ["text_in", "at"] spLNum) : FnOk P w K mg base CX0 3 f fd ["text_in", "at"] spLAt := by
  refine F.ok scLAt (fun vs H Q E h => ?_) (fun cdv A outer s H vs Q E hr h => ?_)
  · obtain ⟨t, k, c, rfl, _⟩ := h
    rfl
  · have hr1 := hr.mono (by decide : 1 ≤ 2)
    refine ⟨_, (pss_cons (ps_set (i := 2) scLAt.nd rfl (.inl rfl) pe_str)
        (pss_cons (ps_set (i := 3) scLAt.nd rfl (.inl rfl) pe_str)
        (pss_cons (ps_if (PW.pt (pw_or (pt_cmpR op_inS (pe_ix ix_str (pv 0) (pv 1) (fun _ _ => rfl)) (pv 2) (by rfl)) (pw_or1 (pt_cmpR op_inS (pe_ix ix_str (pv 0) (pv 1) (fun _ _ => rfl)) (pv 3) (by rfl))))) (pss_cons (ps_set (i := 4) scLAt.nd rfl (.inl rfl) pe_str)
        (pss_cons (ps_if (pt_cmpR op_inS (pe_ix ix_str (pv 0) (pv 1) (fun _ _ => rfl)) (pv 2) (by rfl)) (pss_cons (ps_set (i := 5) scLAt.nd rfl (.inl rfl) (pe_call GR hr1 (by rfl) gR FR.kp bR .nil pass0 (pa_cons (pv 0) (pa_cons (pv 1) (pa_cons (pv 2) pa_nil)))))
        (pss_cons (ps_set (i := 6) scLAt.nd rfl (.inl rfl) (pe_op op_add (pe_op op_sub (pv 5) (pv 1)) pe_int))
        (pss_cons (ps_set (i := 4) scLAt.nd rfl (.inl rfl) pe_str)
        (pss_one (ps_if (pt_cmpR op_in_seq (pe_slice sl_str (pv 0) (po_some (pv 1)) (po_some (pv 5))) (pe_lst (pa_cons pe_str (pa_cons pe_str (pa_cons pe_str (pa_cons pe_str (pa_cons pe_str (pa_cons pe_str (pa_cons pe_str (pa_cons pe_str (pa_cons pe_str (pa_cons pe_str pa_nil))))))))))) (by rfl)) (pss_one (ps_set (i := 4) scLAt.nd rfl (.inl rfl) pe_str)) pss_nil))))) (pss_one (ps_asg (pe_call GN hr (by rfl) gN FN.kp bN .nil pass0 (pa_cons (pv 0) (pa_cons (pv 1) pa_nil))) (pg_tup (by rfl) (pgs_cons (pg_name (i := 5) scLAt.nd rfl (.inl rfl)) (pgs_cons (pg_name (i := 6) scLAt.nd rfl (.inl rfl)) pgs_nil))))))
        (pss_cons (ps_if (PW.pt (pw_or (pt_cmpR op_gt (pv 6) pe_int (nomark _)) (pw_or1 (PW.pt (pw_and (pt_cmpR op_ne (pe_slice sl_str (pv 0) (po_some (pv 5)) (po_some (pe_op op_add (pv 5) pe_int))) pe_str (nomark _)) (pw_and1 (pt_cmpR op_inS (pe_ix ix_str (pv 0) (pv 5) (fun _ _ => rfl)) (pe_op op_add_str (pv 2) (pv 3)) (by rfl)))))))) (pss_one (ps_ret pe_non)) pss_nil)
        (pss_one (ps_ret (pe_tup (pa_cons (pv 4) (pa_cons (pe_slice sl_str (pv 0) (po_some (pv 1)) (po_some (pv 5))) (pa_cons (pv 1) pa_nil))))))))) pss_nil)
        (pss_cons (ps_if (pt_cmpR op_in_seq (pe_slice sl_str (pv 0) (po_some (pv 1)) (po_some (pe_op op_add (pv 1) pe_int))) (pe_lst (pa_cons pe_str (pa_cons pe_str (pa_cons pe_str (pa_cons pe_str (pa_cons pe_str (pa_cons pe_str pa_nil))))))) (by rfl)) (pss_one (ps_ret (pe_tup (pa_cons pe_str (pa_cons (pe_slice sl_str (pv 0) (po_some (pv 1)) (po_some (pe_op op_add (pv 1) pe_int))) (pa_cons (pv 1) pa_nil)))))) pss_nil)
        (pss_cons (ps_if (pt_cmpR op_inS (pe_ix ix_str (pv 0) (pv 1) (fun _ _ => rfl)) pe_str (by rfl)) (pss_one (ps_ret (pe_tup (pa_cons pe_str (pa_cons (pe_ix ix_str (pv 0) (pv 1) (fun _ _ => rfl)) (pa_cons (pv 1) pa_nil)))))) pss_nil)
        (pss_one (ps_ret pe_non))))))), ?_⟩
    obtain ⟨t, k, c, rfl, hl, hc, qn, qs⟩ := h
    have hk : k < t.length := (List.getElem?_eq_some_iff.mp hc).1
    have ud : ∀ i, (t.drop k)[i]? = t[k + i]? := fun i => List.getElem?_drop
    walk_at "rd"
    refine at_S hc (len_le hl) ?_
    walk_at "rd"
    refine iteB (fun h1 => ?_) (fun h1 => ?_)
    · replace h1 : isL c = true := (small_in c).symm.trans h1
      have hlf : isLF c = true := by unfold isLF; rw [h1]; rfl
      walk_at "rd"
      refine at_S hc (len_le hl) ?_
      walk_at "rd"
      refine iteTe ((small_in c).trans h1) ?_
      walk_at "rd"
      refine ⟨t, smallC, k, rfl, hl, Nat.le_of_lt hk, ?_⟩
      rw [show (fun c => decide (c ∈ smallC)) = isL from funext small_in]
      obtain ⟨n, hn⟩ : ∃ n, n = runG isL (t.drop k) := ⟨_, rfl⟩
      rw [← hn]
      walk_at "rd"
      have e3 : (((k + n : Nat) : Int) - (k : Int)) = ((n : Nat) : Int) := by omega
      rw [e3]
      refine ⟨_, rfl, ?_⟩
      walk_at "rd"
      refine ⟨_, rfl, ?_⟩
      refine rv_cut (a := k) (b := k + n) (len_le hl) ?_
      rw [show k + n - k = n by omega]
      walk_at "rd"
      refine ⟨(by show 10 ≤ sizeLine; decide), fun p hp => ?_⟩
      have sp := same_upd (o := .lst (keptL.map V.str)) hp
      refine ⟨p, _, rfl, .inl (SqL.of upd_same), rfl, rfl, ?_⟩
      refine ⟨_, rfl, iteB (fun h2 => ?_) (fun h2 => ?_)⟩
      · replace h2 : kept ((t.drop k).take n) = true := h2
        have hwl : wordL (t.drop k) = (("kept" : Str), n, n + 6) := by unfold wordL; rw [headD_drop hc, if_pos h1, ← hn, if_pos h2]
        walk_at "rd"
        have qn' := qn
        have qs' := qs
        unfold stepL at qn' qs'
        rw [headD_drop hc, if_pos hlf, hwl] at qn' qs'
        refine iteB (fun h6 => ?_) (fun h6 => ?_)
        · have h6' : 18 < (n + 6) := by have := of_decide_eq_true h6; omega
          walk_at "rd"
          exact qn' (if_pos h6') _ sp
        · have h6' : ¬ 18 < (n + 6) := by have := of_decide_eq_false h6; omega
          rw [if_neg h6'] at qn' qs'
          walk_at "rd"
          refine ⟨_, rfl, ?_⟩
          walk_at "rd"
          refine ⟨_, rfl, ?_⟩
          refine rv_cut (a := k + n) (b := k + n + 1) (len_le hl) ?_
          rw [show k + n + 1 - (k + n) = 1 by omega, nxt_drop]
          walk_at "rd"
          have fin : ∀ (Hx : Hp), Same H Hx → nx isLF (t.drop k) (n) = false → ∀ p, Hx p = none → Q (.ref p) (upd Hx p (.tup [.str "kept", .str (S ((t.drop k).take (n))), .int (k : Int)])) := fun Hx sx hx p hp =>
            qs' _ _ (if_neg (by rw [hx]; exact Bool.false_ne_true)) _ p (sx.trans (same_upd hp)) upd_same
          rcases nxt_cases (t.drop k) (n) with h7 | ⟨d, h7, hd⟩
          · rw [h7]
            refine iteFe rfl ?_
            walk_at "rd"
            refine ⟨_, rfl, ?_⟩
            walk_at "rd"
            refine ⟨_, rfl, ?_⟩
            refine rv_cut (a := k) (b := k + n) (len_le hl) ?_
            rw [show k + n - k = n by omega]
            walk_at "rd"
            refine ⟨(by show 3 ≤ sizeLine; decide), fun p3 hp3 => ?_⟩
            exact fin _ sp (nx_nil h7) p3 hp3
          · rw [h7]
            refine iteTe rfl ?_
            walk_at "rd"
            refine at_S (k := k + n) (c := d) (by rw [← ud]; exact hd) (len_le hl) ?_
            walk_at "rd"
            refine ⟨_, _, rfl, rfl, (by decide +kernel), ?_⟩
            refine ⟨d, _, rfl, rfl, ?_⟩
            rw [sf_in]
            refine ⟨_, rfl, iteB (fun h8 => ?_) (fun h8 => ?_)⟩
            · walk_at "rd"
              exact qn' (by rw [nx_one h7, if_pos h8]) _ sp
            · walk_at "rd"
              refine ⟨_, rfl, ?_⟩
              walk_at "rd"
              refine ⟨_, rfl, ?_⟩
              refine rv_cut (a := k) (b := k + n) (len_le hl) ?_
              rw [show k + n - k = n by omega]
              walk_at "rd"
              refine ⟨(by show 3 ≤ sizeLine; decide), fun p3 hp3 => ?_⟩
              exact fin _ sp ((nx_one h7).trans h8) p3 hp3
      · replace h2 : kept ((t.drop k).take n) = false := h2
        have hwl : wordL (t.drop k) = (("name" : Str), n, n + 6) := by unfold wordL; rw [headD_drop hc, if_pos h1, ← hn, if_neg (Bool.eq_false_iff.mp h2)]
        walk_at "rd"
        have qn' := qn
        have qs' := qs
        unfold stepL at qn' qs'
        rw [headD_drop hc, if_pos hlf, hwl] at qn' qs'
        refine iteB (fun h6 => ?_) (fun h6 => ?_)
        · have h6' : 18 < (n + 6) := by have := of_decide_eq_true h6; omega
          walk_at "rd"
          exact qn' (if_pos h6') _ sp
        · have h6' : ¬ 18 < (n + 6) := by have := of_decide_eq_false h6; omega
          rw [if_neg h6'] at qn' qs'
          walk_at "rd"
          refine ⟨_, rfl, ?_⟩
          walk_at "rd"
          refine ⟨_, rfl, ?_⟩
          refine rv_cut (a := k + n) (b := k + n + 1) (len_le hl) ?_
          rw [show k + n + 1 - (k + n) = 1 by omega, nxt_drop]
          walk_at "rd"
          have fin : ∀ (Hx : Hp), Same H Hx → nx isLF (t.drop k) (n) = false → ∀ p, Hx p = none → Q (.ref p) (upd Hx p (.tup [.str "name", .str (S ((t.drop k).take (n))), .int (k : Int)])) := fun Hx sx hx p hp =>
            qs' _ _ (if_neg (by rw [hx]; exact Bool.false_ne_true)) _ p (sx.trans (same_upd hp)) upd_same
          rcases nxt_cases (t.drop k) (n) with h7 | ⟨d, h7, hd⟩
          · rw [h7]
            refine iteFe rfl ?_
            walk_at "rd"
            refine ⟨_, rfl, ?_⟩
            walk_at "rd"
            refine ⟨_, rfl, ?_⟩
            refine rv_cut (a := k) (b := k + n) (len_le hl) ?_
            rw [show k + n - k = n by omega]
            walk_at "rd"
            refine ⟨(by show 3 ≤ sizeLine; decide), fun p3 hp3 => ?_⟩
            exact fin _ sp (nx_nil h7) p3 hp3
          · rw [h7]
            refine iteTe rfl ?_
            walk_at "rd"
            refine at_S (k := k + n) (c := d) (by rw [← ud]; exact hd) (len_le hl) ?_
            walk_at "rd"
            refine ⟨_, _, rfl, rfl, (by decide +kernel), ?_⟩
            refine ⟨d, _, rfl, rfl, ?_⟩
            rw [sf_in]
            refine ⟨_, rfl, iteB (fun h8 => ?_) (fun h8 => ?_)⟩
            · walk_at "rd"
              exact qn' (by rw [nx_one h7, if_pos h8]) _ sp
            · walk_at "rd"
              refine ⟨_, rfl, ?_⟩
              walk_at "rd"
              refine ⟨_, rfl, ?_⟩
              refine rv_cut (a := k) (b := k + n) (len_le hl) ?_
              rw [show k + n - k = n by omega]
              walk_at "rd"
              refine ⟨(by show 3 ≤ sizeLine; decide), fun p3 hp3 => ?_⟩
              exact fin _ sp ((nx_one h7).trans h8) p3 hp3
    · replace h1 : isL c = false := (small_in c).symm.trans h1
      walk_at "rd"
      refine at_S hc (len_le hl) ?_
      walk_at "rd"
      refine iteB (fun h2 => ?_) (fun h2 => ?_)
      · replace h2 : isF c = true := (fig_in c).symm.trans h2
        have hlf : isLF c = true := by unfold isLF; rw [h2, Bool.or_true]
        walk_at "rd"
        refine at_S hc (len_le hl) ?_
        walk_at "rd"
        refine iteFe ((small_in c).trans h1) ?_
        walk_at "rd"
        refine ⟨t, k, c, rfl, hl, hc, fun H1 p1 s1 hp1 => ?_⟩
        obtain ⟨n, hn⟩ : ∃ n, n = (numL (t.drop k)).1 := ⟨_, rfl⟩
        obtain ⟨m, hm⟩ : ∃ m, m = (numL (t.drop k)).2 := ⟨_, rfl⟩
        rw [← hn, ← hm] at hp1
        have hwl : wordL (t.drop k) = (("number" : Str), n, m) := by unfold wordL; rw [headD_drop hc, if_neg (Bool.eq_false_iff.mp h1), ← hn, ← hm]
        refine ⟨p1, _, rfl, .inl (.inl hp1), rfl, ?_⟩
        walk_at "rd"
        have qn' := qn
        have qs' := qs
        unfold stepL at qn' qs'
        rw [headD_drop hc, if_pos hlf, hwl] at qn' qs'
        refine iteB (fun h6 => ?_) (fun h6 => ?_)
        · have h6' : 18 < m := by have := of_decide_eq_true h6; omega
          walk_at "rd"
          exact qn' (if_pos h6') _ s1
        · have h6' : ¬ 18 < m := by have := of_decide_eq_false h6; omega
          rw [if_neg h6'] at qn' qs'
          walk_at "rd"
          refine ⟨_, rfl, ?_⟩
          walk_at "rd"
          refine ⟨_, rfl, ?_⟩
          refine rv_cut (a := k + n) (b := k + n + 1) (len_le hl) ?_
          rw [show k + n + 1 - (k + n) = 1 by omega, nxt_drop]
          walk_at "rd"
          have fin : ∀ (Hx : Hp), Same H Hx → nx isLF (t.drop k) (n) = false → ∀ p, Hx p = none → Q (.ref p) (upd Hx p (.tup [.str "number", .str (S ((t.drop k).take (n))), .int (k : Int)])) := fun Hx sx hx p hp =>
            qs' _ _ (if_neg (by rw [hx]; exact Bool.false_ne_true)) _ p (sx.trans (same_upd hp)) upd_same
          rcases nxt_cases (t.drop k) (n) with h7 | ⟨d, h7, hd⟩
          · rw [h7]
            refine iteFe rfl ?_
            walk_at "rd"
            refine ⟨_, rfl, ?_⟩
            walk_at "rd"
            refine ⟨_, rfl, ?_⟩
            refine rv_cut (a := k) (b := k + n) (len_le hl) ?_
            rw [show k + n - k = n by omega]
            walk_at "rd"
            refine ⟨(by show 3 ≤ sizeLine; decide), fun p3 hp3 => ?_⟩
            exact fin _ s1 (nx_nil h7) p3 hp3
          · rw [h7]
            refine iteTe rfl ?_
            walk_at "rd"
            refine at_S (k := k + n) (c := d) (by rw [← ud]; exact hd) (len_le hl) ?_
            walk_at "rd"
            refine ⟨_, _, rfl, rfl, (by decide +kernel), ?_⟩
            refine ⟨d, _, rfl, rfl, ?_⟩
            rw [sf_in]
            refine ⟨_, rfl, iteB (fun h8 => ?_) (fun h8 => ?_)⟩
            · walk_at "rd"
              exact qn' (by rw [nx_one h7, if_pos h8]) _ s1
            · walk_at "rd"
              refine ⟨_, rfl, ?_⟩
              walk_at "rd"
              refine ⟨_, rfl, ?_⟩
              refine rv_cut (a := k) (b := k + n) (len_le hl) ?_
              rw [show k + n - k = n by omega]
              walk_at "rd"
              refine ⟨(by show 3 ≤ sizeLine; decide), fun p3 hp3 => ?_⟩
              exact fin _ s1 ((nx_one h7).trans h8) p3 hp3
      · replace h2 : isF c = false := (fig_in c).symm.trans h2
        have hlf : ¬ isLF c = true := by unfold isLF; rw [h1, h2]; exact Bool.false_ne_true
        unfold stepL at qn qs
        rw [headD_drop hc, if_neg hlf] at qn qs
        walk_at "rd"
        refine ⟨_, rfl, ?_⟩
        walk_at "rd"
        refine ⟨_, rfl, ?_⟩
        refine rv_cut (a := k) (b := k + 2) (len_le hl) ?_
        rw [show k + 2 - k = 2 by omega]
        walk_at "rd"
        refine ⟨(by show 6 ≤ sizeLine; decide), fun p hp => ?_⟩
        have sp := same_upd (o := .lst (longL.map V.str)) hp
        refine ⟨p, _, rfl, .inl (SqL.of upd_same), rfl, rfl, ?_⟩
        refine ⟨_, rfl, iteB (fun h3 => ?_) (fun h3 => ?_)⟩
        · replace h3 : inV (.str (S ((t.drop k).take 2))) (longL.map V.str) = true := h3
          rw [if_pos h3] at qs
          walk_at "rd"
          refine ⟨_, rfl, ?_⟩
          walk_at "rd"
          refine ⟨_, rfl, ?_⟩
          refine rv_cut (a := k) (b := k + 2) (len_le hl) ?_
          rw [show k + 2 - k = 2 by omega]
          walk_at "rd"
          refine ⟨(by show 3 ≤ sizeLine; decide), fun p3 hp3 => ?_⟩
          exact qs _ _ rfl _ p3 (sp.trans (same_upd hp3)) upd_same
        · replace h3 : ¬ inV (.str (S ((t.drop k).take 2))) (longL.map V.str) = true := Bool.eq_false_iff.mp h3
          rw [if_neg h3] at qn qs
          walk_at "rd"
          refine at_S hc (len_le hl) ?_
          walk_at "rd"
          refine iteB (fun h4 => ?_) (fun h4 => ?_)
          · replace h4 : c ∈ signC := of_decide_eq_true h4
            rw [if_pos h4] at qs
            walk_at "rd"
            refine at_S hc (len_le hl) ?_
            walk_at "rd"
            refine ⟨(by show 3 ≤ sizeLine; decide), fun p3 hp3 => ?_⟩
            refine qs _ _ rfl _ p3 (sp.trans (same_upd hp3)) ?_
            rw [take1 hc]
            exact upd_same
          · replace h4 : ¬ c ∈ signC := of_decide_eq_false h4
            rw [if_neg h4] at qn
            walk_at "rd"
            exact qn rfl _ sp
end
end My

namespace My
open PySem PySem.Spec PyProof.Rows L2 XR SX
/-! the program's reading of one word and the law's are one -/
theorem drop_app (F l : List Nat) (i : Nat) : (F ++ l).drop (F.length + i) = l.drop i := by
  rw [List.drop_append, List.drop_of_length_le (by omega), List.nil_append, Nat.add_sub_cancel_left]
theorem nx_app {p : Nat → Bool} (F l : List Nat) (i : Nat) : nx p (F ++ l) (F.length + i) = nx p l i := by
  unfold nx nxt
  rw [drop_app]
theorem nx_app0 {p : Nat → Bool} (F l : List Nat) : nx p (F ++ l) F.length = nx p l 0 := nx_app F l 0
theorem nx_s {p : Nat → Bool} (a : Nat) (l : List Nat) (i : Nat) : nx p (a :: l) (i + 1) = nx p l i := rfl
theorem nx_0 {p : Nat → Bool} (a : Nat) (l : List Nat) : nx p (a :: l) 0 = p a := rfl
theorem nx_sub {p q : Nat → Bool} {l : List Nat} (h : ∀ c, q c = true → p c = true) (hl : nx p l 0 = false) : nx q l 0 = false := by
  cases l with
  | nil => rfl
  | cons c l =>
    rw [nx_0] at hl ⊢
    cases e : q c
    · rfl
    · rw [h c e] at hl
      cases hl
theorem runG_app {p : Nat → Bool} {F l : List Nat} (hF : F.all p = true) (hl : nx p l 0 = false) : runG p (F ++ l) = F.length := by
  induction F with
  | nil =>
    cases l with
    | nil => rfl
    | cons c l =>
      rw [nx_0] at hl
      unfold runG
      rw [List.nil_append, List.takeWhile_cons, hl]
      rfl
  | cons c F ih =>
    rw [List.all_cons, Bool.and_eq_true] at hF
    unfold runG at ih ⊢
    rw [List.cons_append, List.takeWhile_cons, if_pos hF.1, List.length_cons, ih hF.2]
    rfl
theorem runG_split (p : Nat → Bool) : ∀ u : List Nat, ∃ F l, u = F ++ l ∧ F.all p = true ∧ nx p l 0 = false
  | [] => ⟨[], [], rfl, rfl, rfl⟩
  | c :: u => by
    cases h : p c
    · exact ⟨[], c :: u, rfl, rfl, by rw [nx_0]; exact h⟩
    · obtain ⟨F, l, e, h1, h2⟩ := runG_split p u
      exact ⟨c :: F, l, by rw [e]; rfl, by rw [List.all_cons, h, h1]; rfl, h2⟩
theorem isF_LF {c : Nat} (h : isF c = true) : isLF c = true := by unfold isLF; rw [h, Bool.or_true]
theorem isL_LF {c : Nat} (h : isL c = true) : isLF c = true := by unfold isLF; rw [h]; rfl
theorem isN_LF {c : Nat} (h : isN c = true) : isLF c = true := isF_LF (fig_of_nine h)
theorem e_LF {c : Nat} (h : (c == 101) = true) : isLF c = true := by
  rw [beq_iff_eq] at h
  subst h
  rfl
theorem not_both {c : Nat} (h : isL c = true) : isF c = false := by
  unfold isL at h
  unfold isF
  simp at h ⊢
  omega
theorem fig_noE {c : Nat} (h : isF c = true) : noE c = true := by
  unfold isF at h
  unfold noE
  simp at h ⊢
  omega
theorem no101 {F : List Nat} (h : F.all isF = true) : 101 ∉ F := fun z => by
  have := List.all_eq_true.mp h 101 z
  cases this
theorem twE_app {F l : List Nat} (hF : F.all noE = true) : (F ++ l).takeWhile noE = F ++ l.takeWhile noE := by
  induction F with
  | nil => rfl
  | cons c F ih =>
    rw [List.all_cons, Bool.and_eq_true] at hF
    rw [List.cons_append, List.takeWhile_cons, if_pos hF.1, ih hF.2]
    rfl
theorem all_noE {F : List Nat} (h : F.all isF = true) : F.all noE = true := by
  rw [List.all_eq_true] at h ⊢
  exact fun x hx => fig_noE (h x hx)
/-- a number that begins with c and not with 0 -/
theorem plain_of {c : Nat} {F : List Nat} (h : (c :: F).all isF = true) (h0 : ¬ c = 48) : plainB (c :: F) = true := by
  unfold plainB
  rw [h]
  simp [h0]
theorem num_bad {F l : List Nat} {x : Nat} (hF : F.all isF = true) (hx : isF x = false) (he : noE x = true) : numB (F ++ x :: l) = false := by
  have e : plainB ((F ++ x :: l).takeWhile noE) = false := by
    rw [twE_app (all_noE hF), List.takeWhile_cons, if_pos he]
    unfold plainB
    rw [List.all_append, List.all_cons, hx]
    simp
  unfold numB
  rw [e]
  rfl
def numR (u : List Nat) : Option Nat := if 18 < (numL u).2 then none else if nx isLF u (numL u).1 = true then none else some (numL u).1
theorem numR_of {u : List Nat} {n m : Nat} (h : numL u = (n, m)) : numR u = if 18 < m then none else if nx isLF u n = true then none else some n := by
  unfold numR
  rw [h]
theorem some_dec {b : Bool} {n m : Nat} (h : b = decide (m ≤ 18)) : (if 18 < m then none else if false = true then none else some n) = if b = true then some n else none := by
  subst h
  by_cases c : m ≤ 18
  · rw [if_neg (by omega), if_neg Bool.false_ne_true, if_pos (decide_eq_true c)]
  · rw [if_pos (by omega), if_neg (by rw [decide_eq_false c]; exact Bool.false_ne_true)]
theorem none_dec {n m : Nat} : (if 18 < m then none else if true = true then none else some n) = (none : Option Nat) := by
  by_cases c : 18 < m
  · rw [if_pos c]
  · rw [if_neg c, if_pos rfl]
theorem numL_eq (u : List Nat) (h : ¬ u.headD 0 = 48) : numL u =
  if (nx (fun c => c == 101) u (runG isF u) && nx isN u (runG isF u + 1)) = true then
    if nx isF u (runG isF u + 2) = true then (runG isF u + 3, runG isF u + NumText.digitsVal ((u.drop (runG isF u + 1)).take 2))
    else (runG isF u + 2, runG isF u + NumText.digitsVal ((u.drop (runG isF u + 1)).take 1))
  else (runG isF u, runG isF u) := by
  unfold numL
  rw [if_neg h]
theorem num_case {c : Nat} {W rest : List Nat} (hW : (c :: W).all isLF = true) (hr : nx isLF rest 0 = false) (hc : isF c = true) : numR ((c :: W) ++ rest) = if numB (c :: W) = true then some (c :: W).length else none := by
  have rF : nx isF rest 0 = false := nx_sub (fun _ => isF_LF) hr
  have rE : nx (fun c => c == 101) rest 0 = false := nx_sub (fun _ => e_LF) hr
  have rN : nx isN rest 0 = false := nx_sub (fun _ => isN_LF) hr
  by_cases c0 : c = 48
  · subst c0
    have hn : numL ((48 :: W) ++ rest) = (1, 1) := by unfold numL; exact if_pos rfl
    rw [numR_of hn]
    cases W with
    | nil =>
      rw [show nx isLF ([48] ++ rest) 1 = nx isLF rest 0 from rfl, hr]
      exact some_dec (by decide +kernel)
    | cons x r =>
      have hx : isLF x = true := by
        simp only [List.all_cons, Bool.and_eq_true] at hW
        exact hW.2.1
      rw [show nx isLF ((48 :: x :: r) ++ rest) 1 = isLF x from rfl, hx, none_dec]
      have : numB (48 :: x :: r) = false := by
        by_cases hx2 : x = 101
        · subst hx2
          rw [show 48 :: 101 :: r = [48] ++ 101 :: r from rfl, numB_e (by decide)]
          simp
        · have e : (48 :: x :: r).takeWhile noE = 48 :: x :: r.takeWhile noE := by
            rw [List.takeWhile_cons, if_pos (by decide), List.takeWhile_cons, if_pos (by unfold noE; simp [hx2])]
          have : plainB ((48 :: x :: r).takeWhile noE) = false := by
            rw [e]
            unfold plainB
            simp
          unfold numB
          rw [this]
          rfl
      rw [this]
      rfl
  · obtain ⟨F, G, e, hF, hG⟩ := runG_split isF W
    subst e
    have hcF : (c :: F).all isF = true := by rw [List.all_cons, hc, hF]; rfl
    have hd : ∀ l, ¬ ((c :: F) ++ l).headD 0 = 48 := fun l => c0
    have pF : plainB (c :: F) = true := plain_of hcF c0
    have nF : ¬ (c :: F) = [48] := fun z => c0 (List.cons.inj z).1
    obtain ⟨A, hA⟩ : ∃ A, A = c :: F := ⟨_, rfl⟩
    rw [← hA] at hcF pF nF
    have hd : ∀ l, ¬ (A ++ l).headD 0 = 48 := fun l => by rw [hA]; exact c0
    rw [show c :: (F ++ G) = A ++ G by rw [hA]; rfl, List.append_assoc] at *
    rw [List.all_append, Bool.and_eq_true] at hW
    have hGL := hW.2
    cases G with
    | nil =>
      rw [List.nil_append, List.append_nil]
      have r1 : runG isF (A ++ rest) = A.length := runG_app hcF rF
      have hn : numL (A ++ rest) = (A.length, A.length) := by rw [numL_eq _ (hd _), r1, nx_app0, rE]; rfl
      rw [numR_of hn, nx_app0, hr]
      exact some_dec (by rw [numB_no (no101 hcF), pF]; rfl)
    | cons x G =>
      rw [List.all_cons, Bool.and_eq_true] at hGL
      have xF : isF x = false := by rw [nx_0] at hG; exact hG
      rw [List.cons_append]
      have r1 : runG isF (A ++ x :: (G ++ rest)) = A.length := runG_app hcF (by rw [nx_0]; exact xF)
      by_cases x1 : x = 101
      · subst x1
        have nE : nx (fun c => c == 101) (A ++ 101 :: (G ++ rest)) A.length = true := by rw [nx_app0]; rfl
        rw [numB_e (no101 hcF), pF, decide_eq_false nF]
        have bad : nx isN (G ++ rest) 0 = false → numR (A ++ 101 :: (G ++ rest)) = none := fun z => by
          have hn : numL (A ++ 101 :: (G ++ rest)) = (A.length, A.length) := by rw [numL_eq _ (hd _), r1, nE, nx_app, nx_s, z]; rfl
          rw [numR_of hn, nx_app0, nx_0, hGL.1, none_dec]
        cases G with
        | nil => rw [bad rN]; rfl
        | cons d G =>
          have hdL : isLF d = true := by have := hGL.2; simp only [List.all_cons, Bool.and_eq_true] at this; exact this.1
          have hGG : G.all isLF = true := by have := hGL.2; simp only [List.all_cons, Bool.and_eq_true] at this; exact this.2
          cases dN : isN d
          · rw [bad (by rw [List.cons_append, nx_0]; exact dN)]
            have : (!decide (d :: G = [48]) && decide ((d :: G).length ≤ 2) && plainB (d :: G)) = false := by
              cases dF : isF d
              · unfold plainB
                rw [List.all_cons, dF]
                simp
              · have d0 : d = 48 := by
                  unfold isN at dN
                  unfold isF at dF
                  simp at dN dF
                  omega
                subst d0
                unfold plainB
                cases G with
                | nil => simp
                | cons y G => simp
            have e2 : (true && (!false && !decide (d :: G = [48]) && decide ((d :: G).length ≤ 2) && plainB (d :: G) && decide (A.length + NumText.digitsVal (d :: G) ≤ 18))) = false := by
              rw [Bool.not_false, Bool.true_and, Bool.true_and, this, Bool.false_and]
            rw [e2]
            rfl
          · have dF := fig_of_nine dN
            have d0 : ¬ d = 48 := by
              unfold isN at dN
              simp at dN
              omega
            have nN : nx isN (A ++ 101 :: (d :: G ++ rest)) (A.length + 1) = true := by rw [nx_app, nx_s, List.cons_append, nx_0]; exact dN
            have t1 : ((A ++ 101 :: (d :: G ++ rest)).drop (A.length + 1)).take 1 = [d] := by rw [drop_app]; rfl
            have n1 : ¬ (d :: G) = [48] := fun z => d0 (List.cons.inj z).1
            rw [decide_eq_false n1]
            cases G with
            | nil =>
              have n3 : nx isF (A ++ 101 :: ([d] ++ rest)) (A.length + 2) = false := by rw [nx_app, nx_s, List.cons_append, nx_s]; exact rF
              have hn : numL (A ++ 101 :: ([d] ++ rest)) = (A.length + 2, A.length + NumText.digitsVal [d]) := by rw [numL_eq _ (hd _), r1, nE, nN, n3, t1]; rfl
              rw [numR_of hn, nx_app, nx_s, List.cons_append, nx_s, show nx isLF ([] ++ rest) 0 = false from hr]
              have pl : plainB [d] = true := plain_of (by rw [List.all_cons, dF]; rfl) d0
              rw [some_dec rfl, pl]
              simp
            | cons y G =>
              rw [List.all_cons, Bool.and_eq_true] at hGG
              cases yF : isF y
              · have n3 : nx isF (A ++ 101 :: (d :: y :: G ++ rest)) (A.length + 2) = false := by rw [nx_app, nx_s, List.cons_append, nx_s, List.cons_append, nx_0]; exact yF
                have hn : numL (A ++ 101 :: (d :: y :: G ++ rest)) = (A.length + 2, A.length + NumText.digitsVal [d]) := by rw [numL_eq _ (hd _), r1, nE, nN, n3, t1]; rfl
                rw [numR_of hn, nx_app, nx_s, List.cons_append, nx_s, List.cons_append, nx_0, hGG.1, none_dec]
                have pl : plainB (d :: y :: G) = false := by
                  unfold plainB
                  rw [List.all_cons, List.all_cons, yF]
                  simp
                rw [pl]
                simp
              · have n3 : nx isF (A ++ 101 :: (d :: y :: G ++ rest)) (A.length + 2) = true := by rw [nx_app, nx_s, List.cons_append, nx_s, List.cons_append, nx_0]; exact yF
                have t2 : ((A ++ 101 :: (d :: y :: G ++ rest)).drop (A.length + 1)).take 2 = [d, y] := by rw [drop_app]; rfl
                have hn : numL (A ++ 101 :: (d :: y :: G ++ rest)) = (A.length + 3, A.length + NumText.digitsVal [d, y]) := by rw [numL_eq _ (hd _), r1, nE, nN, n3, t2]; rfl
                rw [numR_of hn, nx_app, nx_s, List.cons_append, nx_s, List.cons_append, nx_s]
                cases G with
                | nil =>
                  rw [show nx isLF ([] ++ rest) 0 = false from hr]
                  have pl : plainB [d, y] = true := plain_of (by rw [List.all_cons, List.all_cons, dF, yF]; rfl) d0
                  rw [some_dec rfl, pl]
                  simp
                | cons z G =>
                  have hz : isLF z = true := by have := hGG.2; simp only [List.all_cons, Bool.and_eq_true] at this; exact this.1
                  rw [List.cons_append, nx_0, hz, none_dec]
                  simp
      · have hn : numL (A ++ x :: (G ++ rest)) = (A.length, A.length) := by
          rw [numL_eq _ (hd _), r1, nx_app0, nx_0, show (x == 101) = false by simp [x1]]
          rfl
        rw [numR_of hn, nx_app0, nx_0, hGL.1, none_dec, num_bad hcF xF (by unfold noE; simp [x1])]
        rfl
end My

namespace My
open PySem PySem.Spec PyProof.Rows L2 XR SX
theorem kept_or {t : List Nat} (h : kept t = true) : t = [108, 101, 116] ∨ t = [105, 102] ∨ t = [101, 108, 115, 101] ∨ t = [119, 104, 105, 108, 101] ∨ t = [114, 101, 116, 117, 114, 110] ∨ t = [102, 97, 105, 108] ∨ t = [116, 114, 121] ∨ t = [99, 97, 116, 99, 104] ∨ t = [111, 117, 116] ∨ t = [102, 110] := by
  have e : kept t = ((S [108, 101, 116] == S t) || ((S [105, 102] == S t) || ((S [101, 108, 115, 101] == S t) || ((S [119, 104, 105, 108, 101] == S t) || ((S [114, 101, 116, 117, 114, 110] == S t) || ((S [102, 97, 105, 108] == S t) || ((S [116, 114, 121] == S t) || ((S [99, 97, 116, 99, 104] == S t) || ((S [111, 117, 116] == S t) || ((S [102, 110] == S t) || false)))))))))) := rfl
  rw [e] at h
  simp only [S_beq_eq, Bool.or_eq_true, decide_eq_true_eq, Bool.or_false] at h
  rcases h with h | h | h | h | h | h | h | h | h | h <;> subst h <;> simp
theorem kept_all {t : List Nat} (h : kept t = true) : t.all isL = true ∧ t.length ≤ 12 := by
  rcases kept_or h with h | h | h | h | h | h | h | h | h | h <;> subst h <;> exact ⟨rfl, by decide⟩
theorem kept_no {t : List Nat} (h : t.all isL = false) : kept t = false := by
  cases e : kept t
  · rfl
  · rw [(kept_all e).1] at h
    cases h
theorem name_no {t : List Nat} (h : t.all isL = false) : nameB t = false := by
  unfold nameB
  rw [h, Bool.and_false]
theorem numB_letter {c : Nat} {W : List Nat} (h : isL c = true) : numB (c :: W) = false := by
  have : plainB ((c :: W).takeWhile noE) = false := by
    rw [List.takeWhile_cons]
    cases noE c
    · rfl
    · rw [if_pos rfl]
      unfold plainB
      rw [List.all_cons, not_both h]
      simp
  unfold numB
  rw [this]
  rfl
theorem sign_in (c : Nat) : inV (.str (S [c])) (shortL.map V.str) = decide (c ∈ signC) := by
  have e : inV (.str (S [c])) (shortL.map V.str) = (signC.any fun d => S [d] == S [c]) := rfl
  rw [e]
  simp only [S_beq_eq]
  rw [Bool.eq_iff_iff]
  simp
theorem step_eq {c : Nat} {r : List Nat} : stepP (c :: r) = stepL (c :: r) := by
  by_cases hlf : isLF c = true
  · obtain ⟨W', rest, e, hW, hr⟩ := runG_split isLF (c :: r)
    obtain ⟨W, rfl⟩ : ∃ W, W' = c :: W := by
      cases W' with
      | nil =>
        rw [List.nil_append] at e
        subst e
        rw [nx_0, hlf] at hr
        cases hr
      | cons a W =>
        rw [List.cons_append] at e
        exact ⟨W, by rw [(List.cons.inj e).1]⟩
    have hrun : runL (c :: r) = (c :: W).length := by rw [e]; exact runG_app hW hr
    have htk : (c :: r).take (c :: W).length = c :: W := by rw [e]; exact List.take_left
    have hP : stepP (c :: r) = (sortB (c :: W)).map fun s => (s, (c :: W).length) := by
      unfold stepP
      rw [List.headD_cons, if_pos hlf, hrun, htk]
    have hL : stepL (c :: r) = if 18 < (wordL (c :: r)).2.2 then none else if nx isLF (c :: r) (wordL (c :: r)).2.1 = true then none else some ((wordL (c :: r)).1, (wordL (c :: r)).2.1) := by
      unfold stepL
      rw [List.headD_cons, if_pos hlf]
    rw [hP, hL]
    cases hl : isL c
    · have hf : isF c = true := by
        unfold isLF at hlf
        rw [hl, Bool.false_or] at hlf
        exact hlf
      have na : (c :: W).all isL = false := by rw [List.all_cons, hl]; rfl
      have hw : wordL (c :: r) = (("number" : Str), (numL (c :: r)).1, (numL (c :: r)).2) := by
        unfold wordL
        rw [List.headD_cons, hl, if_neg Bool.false_ne_true]
      have hs : sortB (c :: W) = if numB (c :: W) = true then some (("number" : Str)) else none := by
        unfold sortB
        rw [kept_no na, name_no na, if_neg Bool.false_ne_true, if_neg Bool.false_ne_true]
      have hn := num_case hW hr hf
      rw [← e] at hn
      have h2 : (if 18 < (wordL (c :: r)).2.2 then none else if nx isLF (c :: r) (wordL (c :: r)).2.1 = true then none else some ((wordL (c :: r)).1, (wordL (c :: r)).2.1)) = (numR (c :: r)).map fun n => (("number" : Str), n) := by
        rw [hw]
        unfold numR
        dsimp only
        split
        · rfl
        · split <;> rfl
      rw [h2, hn, hs]
      split <;> rfl
    · obtain ⟨F, G, e2, hF, hG⟩ := runG_split isL W
      subst e2
      have hcF : (c :: F).all isL = true := by rw [List.all_cons, hl, hF]; rfl
      have hrL : nx isL rest 0 = false := nx_sub (fun _ => isL_LF) hr
      have hm : runG isL (c :: r) = (c :: F).length := by
        rw [e, show c :: (F ++ G) ++ rest = (c :: F) ++ (G ++ rest) by simp]
        refine runG_app hcF ?_
        cases G with
        | nil => exact hrL
        | cons x G => exact hG
      have ht : (c :: r).take (c :: F).length = c :: F := by
        rw [e, show c :: (F ++ G) ++ rest = (c :: F) ++ (G ++ rest) by simp]
        exact List.take_left
      have hw : wordL (c :: r) = ((if kept (c :: F) = true then ("kept" : Str) else "name"), (c :: F).length, (c :: F).length + 6) := by
        unfold wordL
        rw [List.headD_cons, hl, if_pos rfl, hm, ht]
      rw [hw]
      dsimp only
      have hnx : nx isLF (c :: r) (c :: F).length = nx isLF (G ++ rest) 0 := by
        rw [e, show c :: (F ++ G) ++ rest = (c :: F) ++ (G ++ rest) by simp]
        exact nx_app0 _ _
      rw [hnx]
      cases G with
      | nil =>
        rw [List.nil_append, hr, List.append_nil, if_neg Bool.false_ne_true]
        unfold sortB
        rw [numB_letter hl]
        cases hk : kept (c :: F)
        · rw [if_neg Bool.false_ne_true, if_neg Bool.false_ne_true, if_neg Bool.false_ne_true]
          have hn : nameB (c :: F) = decide ((c :: F).length ≤ 12) := by
            unfold nameB
            rw [hk, hcF]
            simp
          rw [hn]
          by_cases h12 : (c :: F).length ≤ 12
          · rw [decide_eq_true h12, if_pos rfl, if_neg (by omega)]
            rfl
          · rw [decide_eq_false h12, if_neg Bool.false_ne_true, if_pos (by omega)]
            rfl
        · have := (kept_all hk).2
          rw [if_pos rfl, if_neg (by omega), if_pos rfl]
          rfl
      | cons x G =>
        have hx : isL x = false := by rw [nx_0] at hG; exact hG
        have na : (c :: (F ++ x :: G)).all isL = false := by
          rw [List.all_cons, List.all_append, List.all_cons, hx]
          simp
        have hxl : isLF x = true := by
          simp only [List.all_cons, List.all_append, Bool.and_eq_true] at hW
          exact hW.2.2.1
        rw [List.cons_append, nx_0, hxl, if_pos rfl]
        unfold sortB
        rw [kept_no na, name_no na, numB_letter hl, if_neg Bool.false_ne_true, if_neg Bool.false_ne_true, if_neg Bool.false_ne_true]
        split <;> rfl
  · unfold stepP stepL
    rw [List.headD_cons, if_neg hlf, if_neg hlf]
    unfold signB
    rw [show (c :: r).take 1 = [c] from rfl, sign_in]
    split
    · rfl
    · by_cases h : c ∈ signC
      · rw [decide_eq_true h, if_pos rfl, if_pos h]
        rfl
      · rw [decide_eq_false h, if_neg Bool.false_ne_true, if_neg h]
        rfl
/-- what is read has a length that fits -/
theorem step_len {c : Nat} {r : List Nat} {s : Str} {m : Nat} (h : stepP (c :: r) = some (s, m)) : 0 < m ∧ m ≤ (c :: r).length := by
  unfold stepP at h
  rw [List.headD_cons] at h
  by_cases hlf : isLF c = true
  · rw [if_pos hlf] at h
    obtain ⟨x, _, hx⟩ := Option.map_eq_some_iff.mp h
    cases hx
    refine ⟨?_, runG_le isLF (c :: r)⟩
    unfold runL
    rw [List.takeWhile_cons, if_pos hlf, List.length_cons]
    omega
  · rw [if_neg hlf] at h
    obtain ⟨n, hn, hx⟩ := Option.map_eq_some_iff.mp h
    cases hx
    unfold signB at hn
    split at hn
    · rename_i hl
      cases hn
      refine ⟨by decide, ?_⟩
      cases r with
      | nil =>
        exfalso
        have e : inV (.str (S [c])) (longL.map V.str) = ([[60, 61], [62, 61], [61, 61], [33, 61], [38, 38], [124, 124]].any fun d => S d == S [c]) := rfl
        have hl' : inV (.str (S [c])) (longL.map V.str) = true := hl
        rw [e] at hl'
        simp [S_beq_eq] at hl'
      | cons d r => simp
    · split at hn
      · cases hn
        exact ⟨by decide, by simp⟩
      · cases hn
/-- every text is read to its end, or to the first place where nothing is read -/
theorem scan_ex (t : List Nat) : ∀ (n k : Nat), t.length - k ≤ n → k ≤ t.length → ∃ es z, Scan stepP t k es z ∧ Scan stepL t k es z
  | 0, k, h, hk => ⟨[], none, .stop (by omega), .stop (by omega)⟩
  | n + 1, k, h, hk => by
    by_cases e : k = t.length
    · exact ⟨[], none, .stop e, .stop e⟩
    · have hkl : k < t.length := by omega
      have hc : t[k]? = some t[k] := List.getElem?_eq_getElem hkl
      have ed : t.drop k = t[k] :: t.drop (k + 1) := List.drop_eq_getElem_cons hkl
      cases hb : blank t[k]
      · cases hs : stepP (t.drop k) with
        | none => exact ⟨[], some k, .bad hc hb hs, .bad hc hb (by rw [ed, ← step_eq, ← ed]; exact hs)⟩
        | some sm =>
          obtain ⟨s, m⟩ := sm
          have hl := step_len (c := t[k]) (r := t.drop (k + 1)) (by rw [← ed]; exact hs)
          rw [← ed, List.length_drop] at hl
          obtain ⟨es, z, h1, h2⟩ := scan_ex t n (k + m) (by omega) (by omega)
          exact ⟨_, z, .word hc hb hs hl.1 (by omega) h1, .word hc hb (by rw [ed, ← step_eq, ← ed]; exact hs) hl.1 (by omega) h2⟩
      · obtain ⟨es, z, h1, h2⟩ := scan_ex t n (k + 1) (by omega) (by omega)
        exact ⟨es, z, .blank hc hb h1, .blank hc hb h2⟩
end My

namespace My
open PySem PySem.Spec PyProof.Rows L2 XR SX
section
variable {P : Program} {w : World} {K : PySem.W.Frag} {mg : Str → Option Value} {base : Heap}
local macro_rules | `(tactic| walk_at "rd1") => `(tactic| first
  | with_reducible refine rs_seq ?_
  | with_reducible refine rs_asg ?_
  | with_reducible refine rs_ret ?_
  | with_reducible refine rs_if ?_
  | with_reducible refine rs_next ?_
  | with_reducible refine rg_name ?_
  | ((with_reducible refine rv_var (v := ?vv) ?hv ?_); (case hv => exact rfl))
  | with_reducible refine rv_c ?_
  | with_reducible refine rv_op ?_
  | with_reducible refine rv_cons ?_
  | with_reducible refine rv_nil ?_
  | with_reducible refine rv_rI0 ?_
  | ((with_reducible refine rv_rI ?hc ?_); (case hc => walk_at "side"))
  | ((with_reducible refine rv_eq ?hc ?_); (case hc => exact rfl))
  | ((with_reducible refine rv_ne ?hc ?_); (case hc => exact rfl))
  | with_reducible refine rv_test ?_
  | with_reducible refine rv_bl ?_
  | with_reducible refine rv_cb ?_
  | with_reducible refine rv_call ?_
  | with_reducible refine rv_tup ?_
  | with_reducible refine rv_lst ?_
  | with_reducible refine rv_tB ?_
  | with_reducible refine rv_or ?_
  | with_reducible refine rv_and ?_
  | with_reducible refine rv_not ?_
  | with_reducible refine rv_andV ?_
  | with_reducible refine rv_orV ?_
  | with_reducible refine rv_notV ?_
  | with_reducible refine rv_ifE ?_
  | with_reducible refine rs_drop ?_
  | with_reducible refine iteT ?_
  | with_reducible refine iteF ?_
  | with_reducible refine ro_nx ?_
  | with_reducible refine ro_rt ?_
  | with_reducible refine ro_ct ?_
  | with_reducible refine ro_bk ?_)
local macro_rules | `(tactic| walk_at "rd") => `(tactic| repeat walk_at "rd1")
local macro_rules | `(tactic| walk_at "side") => `(tactic| first
  | assumption
  | exact (show CPow _ _ from ⟨by decide, by decide, by decide⟩)
  | exact (show CMul _ _ from .inl ⟨by decide, by decide⟩)
  | exact (show CMul _ _ from .inr ⟨by decide, by decide⟩)
  | (show (0 : Int) < _; decide)
  | (show CMul _ _; first | exact .inl ⟨by omega, by omega⟩ | exact .inr ⟨by omega, by omega⟩)
  | omega)
local macro_rules | `(tactic| walk_at "rd1") => `(tactic| first
  | with_reducible refine rs_for ?_
  | with_reducible refine ri_zip ?_
  | with_reducible refine ri_list ?_
  | with_reducible refine ri_rng1 ?_
  | with_reducible refine rv_lc ?_
  | with_reducible refine rv_xfl ?_
  | with_reducible refine rs_par3 ?_
  | with_reducible refine rv_yes ?_
  | with_reducible refine rg_tup ?_
  | with_reducible refine rg_cons ?_
  | with_reducible refine rg_nil ?_)
local macro_rules | `(tactic| walk_at "rd1") => `(tactic| first
  | with_reducible refine ri_str ?_
  | with_reducible refine rv_sl ?_
  | with_reducible refine rv_part ?_
  | with_reducible refine rv_nopart ?_
  | with_reducible refine rv_callS ?_
  | with_reducible refine rv_chain ?_
  | with_reducible refine rv_leS ?_
  | with_reducible refine rv_inS ?_)
def zV : Option Nat → V
  | none => .non
  | some k => .int (k : Nat)
def spLWords : Sp := fun vs H Q _ => ∃ (t : List Nat) (es : List Ent) (z : Option Nat), vs = [.str (S t)] ∧ t.length ≤ 4000 ∧ Scan stepL t 0 es z ∧
  ∀ H' p a xs, Same H H' → H a = none → H' p = some (.tup [.ref a, zV z]) → H' a = some (.lst xs) → Ents H' xs es → Q (.ref p) H'
theorem Ents.two {H H' : Hp} {xs : List V} {es : List Ent} (h : Ents H xs es) (k : Same H H') : Ents H' xs es := h.keep fun b ys z => k _ _ z
theorem scLWords : FnScope ["text_in", "found", "at", "one"] ["text_in"] (defScope sLWords) := ⟨rfl, rfl, rfl, by decide +kernel, rfl, by decide +kernel, by decide +kernel⟩
theorem ok_LWords {f fA : Addr} {fd dA : FuncData} (F : Fun K "_law_words" "_law_words" sLWords f fd) (mL : mg "len" = none) (FA : Fun K "_law_word_at" "_law_word_at" sLAt fA dA) (gA : mg "_law_word_at" = some (.ref fA)) (bA : L2.Binds K dA ["text_in", "at"] [])
    (GA : FnOk P w K mg base CX0 3 fA dA ["text_in", "at"] spLAt) : FnOk P w K mg base CX0 4 f fd ["text_in"] spLWords := by
  refine F.ok scLWords (fun vs H Q E h => ?_) (fun cdv A outer s H vs Q E hr h => ?_)
  · obtain ⟨t, es, z, rfl, _⟩ := h
    rfl
  · refine ⟨_, (pss_cons (ps_set (i := 1) scLWords.nd rfl (.inl rfl) (pe_lst pa_nil))
        (pss_cons (ps_set (i := 2) scLWords.nd rfl (.inl rfl) pe_int)
        (pss_cons (ps_while PassesOwn.never (pt_cmpR op_lt (pv 2) (pe_callB call_len_str (by rfl) mL PySem.boot_len (pa_cons (pv 0) pa_nil)) (nomark _)) (pss_one (ps_if (pt_cmpR op_inS (pe_ix ix_str (pv 0) (pv 2) (fun _ _ => rfl)) pe_str (by rfl)) (pss_one (ps_set (i := 2) scLWords.nd rfl (.inl rfl) (pe_op op_add (pv 2) pe_int))) (pss_cons (ps_set (i := 3) scLWords.nd rfl (.inl rfl) (pe_call GA hr (by rfl) gA FA.kp bA .nil pass0 (pa_cons (pv 0) (pa_cons (pv 2) pa_nil))))
        (pss_cons (ps_if (pt_cmpR op_isN1 (pv 3) pe_non (by rfl)) (pss_one (ps_ret (pe_tup (pa_cons (pv 1) (pa_cons (pv 2) pa_nil))))) pss_nil)
        (pss_cons (ps_expr (pe_bm PySem.F.plainAttrs_list PySem.F.slot_list_append PySem.F.type_list_append mt_append (pv 1) (pa_cons (pv 3) pa_nil)))
        (pss_one (ps_set (i := 2) scLWords.nd rfl (.inl rfl) (pe_op op_add (pv 2) (pe_callB call_len_str (by rfl) mL PySem.boot_len (pa_cons (pe_ix ix_tup (pv 3) pe_int (fun _ _ => rfl)) pa_nil)))))))))))
        (pss_one (ps_ret (pe_tup (pa_cons (pv 1) (pa_cons pe_non pa_nil)))))))), ?_⟩
    obtain ⟨t, es, z, rfl, hl, hs, q⟩ := h
    walk_at "rd"
    refine ⟨by decide, fun a ha => ?_⟩
    walk_at "rd"
    refine while_m (fun m σ H' => ∃ (k : Nat) (o3 : Option V) (xs : List V) (e0 e1 : List Ent), σ = [some (.str (S t)), some (.ref a), some (.int (k : Int)), o3] ∧ m = t.length - k ∧ k ≤ t.length ∧ Same H H' ∧ H' a = some (.lst xs) ∧ Ents H' xs e0 ∧ e0.length ≤ k ∧ es = e0 ++ e1 ∧ Scan stepL t k e1 z) t.length
      ⟨0, none, [], [], es, rfl, rfl, Nat.zero_le _, same_upd ha, upd_same, True.intro, Nat.le_refl _, rfl, hs⟩ ?_
    rintro m σ H' ⟨k, o3, xs, e0, e1, rfl, rfl, hk, sm, hd, en, hle, rfl, hk1⟩
    walk_at "rd"
    refine ⟨S t, rfl, len_le hl, ?_⟩
    rw [S_len]
    walk_at "rd"
    refine iteB (fun h1 => ?_) (fun h1 => ?_)
    · have hkl : k < t.length := by have := of_decide_eq_true h1; omega
      obtain ⟨c, hc⟩ : ∃ c, t[k]? = some c := ⟨t[k], List.getElem?_eq_getElem hkl⟩
      refine ⟨fun σ' H'' => ∃ m', m' < t.length - k ∧ ∃ (k' : Nat) (o3 : Option V) (xs : List V) (f0 f1 : List Ent), σ' = [some (.str (S t)), some (.ref a), some (.int (k' : Int)), o3] ∧ m' = t.length - k' ∧ k' ≤ t.length ∧ Same H H'' ∧ H'' a = some (.lst xs) ∧ Ents H'' xs f0 ∧ f0.length ≤ k' ∧ e0 ++ e1 = f0 ++ f1 ∧ Scan stepL t k' f1 z, fun σ' H'' h => h, ?_⟩
      walk_at "rd"
      refine at_S hc (len_le hl) ?_
      walk_at "rd"
      refine iteB (fun h2 => ?_) (fun h2 => ?_)
      · replace h2 : blank c = true := h2
        walk_at "rd"
        cases hk1 with
        | stop h => omega
        | bad g1 g2 g3 => rw [hc] at g1; cases g1; rw [h2] at g2; cases g2
        | word g1 g2 g3 g4 g5 g6 => rw [hc] at g1; cases g1; rw [h2] at g2; cases g2
        | blank g1 g2 g3 => exact ⟨t.length - (k + 1), by omega, k + 1, o3, xs, e0, e1, rfl, rfl, hkl, sm, hd, en, by omega, rfl, g3⟩
      · replace h2 : blank c = false := h2
        walk_at "rd"
        refine ⟨t, k, c, rfl, hl, hc, fun hx H3 s3 => ?_, fun s m hx H3 p s3 hp => ?_⟩
        · walk_at "rd"
          refine ⟨rfl, ?_⟩
          refine ⟨_, rfl, ?_⟩
          refine iteTe rfl ?_
          walk_at "rd"
          refine ⟨(by show 2 ≤ sizeLine; decide), fun p2 hp2 => ?_⟩
          cases hk1 with
          | stop h => omega
          | blank g1 g2 g3 => rw [hc] at g1; cases g1; rw [h2] at g2; cases g2
          | word g1 g2 g3 g4 g5 g6 => rw [hx] at g3; cases g3
          | bad g1 g2 g3 =>
            have s4 := same_upd (o := .tup [.ref a, .int (k : Int)]) hp2
            exact q _ p2 a xs ((sm.trans s3).trans s4) ha upd_same (s4 _ _ (s3 _ _ hd)) (by rw [List.append_nil]; exact (en.two s3).two s4)
        · have hw : ∃ es', e1 = (s, (t.drop k).take m, k) :: es' ∧ Scan stepL t (k + m) es' z ∧ 0 < m ∧ k + m ≤ t.length := by
            cases hk1 with
            | stop h => omega
            | blank g1 g2 g3 => rw [hc] at g1; cases g1; rw [h2] at g2; cases g2
            | bad g1 g2 g3 => rw [hx] at g3; cases g3
            | word g1 g2 g3 g4 g5 g6 =>
              rw [hx] at g3
              cases g3
              exact ⟨_, rfl, g6, g4, g5⟩
          obtain ⟨es', rfl, hsc, hm0, hml⟩ := hw
          have hd3 : H3 a = some (.lst xs) := s3 _ _ hd
          have en3 := en.two s3
          have hpa : p ≠ a := fun e => by rw [e, hd3] at hp; cases hp
          walk_at "rd"
          refine ⟨rfl, ?_⟩
          refine ⟨_, rfl, ?_⟩
          refine iteFe rfl ?_
          walk_at "rd"
          refine rv_app rfl hd3 ?_
          walk_at "rd"
          refine ⟨xs, _, rfl, hd3, ?_, ?_⟩
          · rw [en3.len]
            exact Nat.lt_of_le_of_lt (Nat.le_trans hle hk) (Nat.lt_of_le_of_lt hl (by rw [sizeLine_eq]; decide))
          walk_at "rd"
          refine ⟨p, entV (s, (t.drop k).take m, k), 1, _, rfl, rfl, .inl (.inl ((upd_ne hpa).trans hp)), rfl, ?_⟩
          have hlm : ((t.drop k).take m).length = m := by rw [List.length_take, List.length_drop]; omega
          walk_at "rd"
          refine ⟨S ((t.drop k).take m), rfl, len_le (by rw [S_len, hlm]; omega), ?_⟩
          rw [S_len, hlm]
          walk_at "rd"
          have k4 : ∀ b ys, H3 b = some (.tup ys) → (upd H3 a (.lst (xs ++ [.ref p]))) b = some (.tup ys) := fun b ys z => by
            rw [upd_ne (fun e => by rw [e, hd3] at z; cases z)]
            exact z
          refine ⟨t.length - (k + m), by omega, k + m, _, xs ++ [.ref p], e0 ++ [(s, (t.drop k).take m, k)], es', rfl, rfl, hml, ?_, upd_same, ?_, ?_, ?_, hsc⟩
          · refine fun b o z => ?_
            rw [upd_ne (fun e => by rw [e, ha] at z; cases z)]
            exact s3 _ _ (sm _ _ z)
          · exact Ents.snoc (k4 _ _ hp) (en3.keep k4)
          · rw [List.length_append]
            show e0.length + 1 ≤ _
            omega
          · rw [List.append_assoc]
            rfl
    · have hkl : k = t.length := by have := of_decide_eq_false h1; omega
      walk_at "rd"
      refine ⟨(by show 2 ≤ sizeLine; decide), fun p2 hp2 => ?_⟩
      have s4 := same_upd (o := .tup [.ref a, .non]) hp2
      cases hk1 with
      | stop h => exact q _ p2 a xs (sm.trans s4) ha upd_same (s4 _ _ hd) (by rw [List.append_nil]; exact en.two s4)
      | blank g1 g2 g3 => rw [hkl, List.getElem?_eq_none (Nat.le_refl _)] at g1; cases g1
      | word g1 g2 g3 g4 g5 g6 => rw [hkl, List.getElem?_eq_none (Nat.le_refl _)] at g1; cases g1
      | bad g1 g2 g3 => rw [hkl, List.getElem?_eq_none (Nat.le_refl _)] at g1; cases g1
end
end My

namespace My
open PySem PySem.Spec PyProof.Rows L2 XR SX
abbrev sGood : Stmt := top 39
section
variable {P : Program} {w : World} {K : PySem.W.Frag} {mg : Str → Option Value} {base : Heap} {cs : Nat → Addr} {cL fT : Addr} {fdT : FuncData}
local macro_rules | `(tactic| walk_at "rd1") => `(tactic| first
  | with_reducible refine rs_seq ?_
  | with_reducible refine rs_asg ?_
  | with_reducible refine rs_ret ?_
  | with_reducible refine rs_if ?_
  | with_reducible refine rs_next ?_
  | with_reducible refine rg_name ?_
  | ((with_reducible refine rv_var (v := ?vv) ?hv ?_); (case hv => exact rfl))
  | with_reducible refine rv_c ?_
  | with_reducible refine rv_op ?_
  | with_reducible refine rv_cons ?_
  | with_reducible refine rv_nil ?_
  | with_reducible refine rv_rI0 ?_
  | ((with_reducible refine rv_rI ?hc ?_); (case hc => walk_at "side"))
  | ((with_reducible refine rv_eq ?hc ?_); (case hc => exact rfl))
  | ((with_reducible refine rv_ne ?hc ?_); (case hc => exact rfl))
  | with_reducible refine rv_test ?_
  | with_reducible refine rv_bl ?_
  | with_reducible refine rv_cb ?_
  | with_reducible refine rv_call ?_
  | with_reducible refine rv_tup ?_
  | with_reducible refine rv_lst ?_
  | with_reducible refine rv_tB ?_
  | with_reducible refine rv_or ?_
  | with_reducible refine rv_and ?_
  | with_reducible refine rv_not ?_
  | with_reducible refine rv_andV ?_
  | with_reducible refine rv_orV ?_
  | with_reducible refine rv_notV ?_
  | with_reducible refine rv_ifE ?_
  | with_reducible refine rs_drop ?_
  | with_reducible refine iteT ?_
  | with_reducible refine iteF ?_
  | with_reducible refine ro_nx ?_
  | with_reducible refine ro_rt ?_
  | with_reducible refine ro_ct ?_
  | with_reducible refine ro_bk ?_)
local macro_rules | `(tactic| walk_at "rd") => `(tactic| repeat walk_at "rd1")
local macro_rules | `(tactic| walk_at "side") => `(tactic| first
  | assumption
  | exact (show CPow _ _ from ⟨by decide, by decide, by decide⟩)
  | exact (show CMul _ _ from .inl ⟨by decide, by decide⟩)
  | exact (show CMul _ _ from .inr ⟨by decide, by decide⟩)
  | (show (0 : Int) < _; decide)
  | (show CMul _ _; first | exact .inl ⟨by omega, by omega⟩ | exact .inr ⟨by omega, by omega⟩)
  | omega)
local macro_rules | `(tactic| walk_at "rd1") => `(tactic| first
  | with_reducible refine rs_for ?_
  | with_reducible refine ri_zip ?_
  | with_reducible refine ri_list ?_
  | with_reducible refine ri_rng1 ?_
  | with_reducible refine rv_lc ?_
  | with_reducible refine rv_xfl ?_
  | with_reducible refine rs_par3 ?_
  | with_reducible refine rv_yes ?_
  | with_reducible refine rg_tup ?_
  | with_reducible refine rg_cons ?_
  | with_reducible refine rg_nil ?_)
local macro_rules | `(tactic| walk_at "rd1") => `(tactic| first
  | with_reducible refine ri_str ?_
  | with_reducible refine rv_sl ?_
  | with_reducible refine rv_part ?_
  | with_reducible refine rv_nopart ?_
  | with_reducible refine rv_callS ?_
  | with_reducible refine rv_chain ?_
  | with_reducible refine rv_leS ?_
  | with_reducible refine rv_inS ?_)
section
variable {X : Cx} {CX : CXT} {k n : Nat} {f : Addr} {fd : FuncData} {ps ks : List Str} {sp : Sp} {E : XK} {x : Str} {p pos : Pos} {kws : List Keyword} {tk : TA} {g : List Value → List Value → List Value} {gV : List V → List V → List V}
/-- f(k = v, ..) -/
theorem pe_callN0 (F : FnOk X.prog X.w X.K X.mg X.base CX k f fd ps sp) (hr : Room k X.A) (hg : Gl X x) (hm : X.mg x = some (.ref f)) (hk : PySem.W.keepIn X.K (.ref f) = true) (hb : KBn X.K fd ps 0 ks g gV) (hx : Passes CX X E)
    (hkw : PK X kws tk) (hall : (backToKw pos (keywordEach kws X.env)).all (·.1.isSome) = true := by rfl) (hks : (backToKw pos (keywordEach kws X.env)).filterMap (·.1) = ks := by rfl)
    (hdb : (x == ("__debug__" : Str)) = false := by decide)
    (hpl : ((backTo pos (starEach [] X.env)).any (·.1) || (backToKw pos (keywordEach kws X.env)).any (·.1.isNone)) = false := by rfl) :
    PE X (.Call (.Name x p) [] kws pos) (tCallN 0 ks.length sp gV E tNil tk) := by
  refine ⟨fun pins s σ H Q I h => ?_⟩
  refine wpAny_Call_Name_kw (ld_glob I hg hm ?_ hdb)
  refine PySem.W.callWith_KW0 (h₀ := X.base) I.ok.mod.kin hk hall ?_ hpl
  refine thn (hkw.run pos pins s σ H _ I h) fun ws s2 ⟨zs, H2, I2, rz, l1, l2, q2⟩ => ⟨I2.kIn, ?_⟩
  rw [hks]
  exact run_fnN (us := []) F hr hb hx I2 .nil rz l1 l2 q2
end
theorem kbWords {f : Addr} {fd : FuncData} (F : Fun K "words" "words" sWords f fd) : KBn K fd ["text"] 0 ["text"] (fun us ws => us ++ ws) (fun vs zs => vs ++ zs) := by
  obtain ⟨oc, od, kV, doc, pm, an, cdv, ct, osl, rfl, lk, hcd⟩ := F.ex
  refine ⟨fun s us ws X l1 l2 => ?_, fun r1 r2 => r1.append r2⟩
  match us, ws, l1, l2 with
  | [], [w], _, _ => exact .of_eq rfl
def entD (e : Ent) : PyData := .tuple [.str e.1, .str (S e.2.1), .int (e.2.2 : Nat)]
theorem ents_dp {H : Hp} : ∀ {xs : List V} {es : List Ent}, Ents H xs es → DpAll K H xs (es.map entD)
  | [], [], _ => .nil
  | _ :: _, e :: es, ⟨⟨p, rfl, h⟩, r⟩ => .cons (.tup (.inl (.inl h)) (.cons (.str _) (.cons (.str _) (.cons (.int _) .nil)))) (ents_dp r)
def okE (e : Ent) : Prop := PyData.strOk e.1 = true ∧ PyData.strOk (S e.2.1) = true
theorem shaped_of {d : PyData} (h : d.canLay0 = true) (k : d.depth ≤ 64) : SeqAt.shaped d = true := by
  unfold SeqAt.shaped
  rw [h, decide_eq_true k]
  rfl
theorem ents_lay : ∀ {es : List Ent}, (∀ e ∈ es, okE e) → PyData.canLayAll0 (es.map entD) = true ∧ PyData.depthAll (es.map entD) ≤ 1
  | [], _ => ⟨rfl, Nat.zero_le _⟩
  | e :: es, h => by
    obtain ⟨h1, h2⟩ := ents_lay fun x hx => h x (List.mem_cons_of_mem _ hx)
    obtain ⟨g1, g2⟩ := h e List.mem_cons_self
    refine ⟨?_, ?_⟩
    · show (PyData.canLay0 (entD e) && PyData.canLayAll0 (es.map entD)) = true
      have : PyData.canLay0 (entD e) = true := by
        show (PyData.strOk e.1 && (PyData.strOk (S e.2.1) && (true && true))) = true
        rw [g1, g2]
        rfl
      rw [h1, this]
      rfl
    · show max (PyData.depth (entD e)) (PyData.depthAll (es.map entD)) ≤ 1
      have : PyData.depth (entD e) = 1 := rfl
      omega
theorem ents_shaped {es : List Ent} (h : ∀ e ∈ es, okE e) : SeqAt.shaped (.list (es.map entD)) = true := by
  obtain ⟨h1, h2⟩ := ents_lay h
  refine shaped_of h1 ?_
  show PyData.depthAll (es.map entD) + 1 ≤ 64
  omega
theorem ne_self {d : PyData} (h : SeqAt.shaped d = true) : (!PyData.eqv d d) = false := by
  rw [SeqAt.eqv_refl d (SeqAt.canLay_of_shaped h)]
  rfl
theorem stepP_ok {u : List Nat} {s : Str} {m : Nat} (h : stepP u = some (s, m)) : PyData.strOk s = true := by
  unfold stepP at h
  split at h
  · obtain ⟨x, hx, e⟩ := Option.map_eq_some_iff.mp h
    cases e
    unfold sortB at hx
    split at hx
    · cases hx; decide +kernel
    · split at hx
      · cases hx; decide +kernel
      · split at hx
        · cases hx; decide +kernel
        · cases hx
  · obtain ⟨x, hx, e⟩ := Option.map_eq_some_iff.mp h
    cases e
    decide +kernel
theorem strOk_S {w : List Nat} (h : ∀ c ∈ w, c < 128) : PyData.strOk (S w) = true := by
  unfold PyData.strOk
  rw [← Array.all_toList, List.all_eq_true]
  intro c hc
  exact decide_eq_true (Nat.lt_trans (h c hc) (by decide))
theorem scan_ok {t : List Nat} (ht : ∀ c ∈ t, c < 128) {k : Nat} {es : List Ent} {z : Option Nat} (h : Scan stepP t k es z) : ∀ e ∈ es, okE e := by
  induction h with
  | stop _ => intro e he; cases he
  | blank _ _ _ ih => exact ih
  | bad _ _ _ => intro e he; cases he
  | word _ _ g _ _ _ ih =>
    intro e he
    rcases List.mem_cons.mp he with rfl | he
    · exact ⟨stepP_ok g, strOk_S fun c hc => ht c (List.mem_of_mem_drop (List.mem_of_mem_take hc))⟩
    · exact ih e he
theorem scan_len {f : List Nat → Option (Str × Nat)} {t : List Nat} {k : Nat} {es : List Ent} {z : Option Nat} (h : Scan f t k es z) : k ≤ t.length → es.length + k ≤ t.length := by
  induction h with
  | stop e => intro _; simp; omega
  | blank hc _ _ ih =>
    intro _
    have := (List.getElem?_eq_some_iff.mp hc).1
    have := ih (by omega)
    omega
  | bad _ _ _ => intro h; simp; omega
  | word _ _ _ h0 h1 _ ih =>
    intro _
    have := ih h1
    rw [List.length_cons]
    omega
def spGood : Sp := fun vs H Q _ => ∃ t : List Nat, vs = [.str (S t)] ∧ t.length ≤ 2000 ∧ (∀ c ∈ t, c < 128) ∧ ∀ H', Same H H' → Q (.bl true) H'
theorem rv_callN {n m : Nat} {sp : Sp} {gV : List V → List V → List V} {E : XK} {t tk : TA} {σ : L2.St} {H : Hp} {Q : VK} (q : t σ H fun vs H1 => tk σ H1 fun zs H2 => vs.length = n ∧ zs.length = m ∧ sp (gV vs zs) H2 Q E) : tCallN n m sp gV E t tk σ H Q := q
theorem scGood : FnScope ["text_in", "due", "at", "got", "caught", "e"] ["text_in"] (defScope sGood) := ⟨rfl, rfl, rfl, by decide +kernel, rfl, by decide +kernel, by decide +kernel⟩
theorem ok_Good {f fD fW fO : Addr} {fd dD dW dO : FuncData} (F : Fun K "_law_good" "_law_good" sGood f fd) (T : Ten K mg cs cL) (C : TextC K mg (cs 0) fT fdT) (exm : PySem.W.exmOne K (.ref (cs 0)) (.ref cL) = some true) (mI : mg "isinstance" = none) (mLi : mg "list" = none)
    (FD : Fun K "_law_words" "_law_words" sLWords fD dD) (gD : mg "_law_words" = some (.ref fD)) (bD : L2.Binds K dD ["text_in"] []) (GD : FnOk P w K mg base CX0 4 fD dD ["text_in"] spLWords)
    (FW : Fun K "words" "words" sWords fW dW) (gW : mg "words" = some (.ref fW)) (bW : L2.Binds K dW ["text"] []) (GW : FnOk P w K mg base (L2.CX P w) 5 fW dW ["text"] (spWords (cs 0)))
    (FO : Fun K "_law_only" "_law_only" sOnly fO dO) (gO : mg "_law_only" = some (.ref fO)) (bO : L2.Binds K dO ["caught", "name"] []) : FnOk P w K mg base CX0 6 f fd ["text_in"] spGood := by
  have GO : FnOk P w K mg base CX0 1 fO dO ["caught", "name"] (spOnly K cs) := ok_only FO T
  have kW := kbWords FW
  refine F.ok scGood (fun vs H Q E h => ?_) (fun cdv A outer s H vs Q E hr h => ?_)
  · obtain ⟨t, rfl, _⟩ := h
    rfl
  · have hr4 := hr.mono (by decide : 4 ≤ 5)
    have hr1 := hr.mono (by decide : 1 ≤ 5)
    refine ⟨_, (pss_cons (ps_asg (pe_call GD hr4 (by rfl) gD FD.kp bD .nil pass0 (pa_cons (pv 0) pa_nil)) (pg_tup (by rfl) (pgs_cons (pg_name (i := 1) scGood.nd rfl (.inl rfl)) (pgs_cons (pg_name (i := 2) scGood.nd rfl (.inl rfl)) pgs_nil))))
        (pss_cons (ps_set (i := 3) scGood.nd rfl (.inl rfl) pe_non)
        (pss_cons (ps_set (i := 4) scGood.nd rfl (.inl rfl) pe_non)
        (pss_cons (ps_try_keep (i := 5) (j := 4) rfl rfl scGood.nd rfl rfl (by decide) rfl rfl rfl ⟨rfl, by decide, .inl T.gL⟩ takes0 (fun W pn xe tk _ => pss_one (ps_set (i := 3) scGood.nd rfl (.inl rfl) (pe_callS GW hr (by rfl) gW FW.kp bW (fun σ => passAt tk σ) (pa_cons (pv 0) pa_nil)))) rfl (fun a oe pn => pss_one (ps_set (i := 4) scGood.nd rfl (.inl rfl) (pv 5))))
        (pss_cons (ps_if (pt_cmpR op_notN1 (pv 2) pe_non (by rfl)) (pss_one (ps_ret (pe_and (pe_cmpR op_isN1 (pv 3) pe_non (by rfl)) (pe_and (pe_call GO hr1 (by rfl) gO FO.kp bO .nil pass0 (pa_cons (pv 4) (pa_cons pe_str pa_nil))) (pe_one (pe_cmpR op_eq (pe_xfl (pv 4)) (pv 2) (nomark _))))))) pss_nil)
        (pss_cons (ps_if (PW.pt (pw_or (pt_cmpR op_notN1 (pv 4) pe_non (by rfl)) (pw_or (pt_not (pt_val (pe_callB call_isi (by rfl) mI (by decide +kernel) (pa_cons (pv 3) (pa_cons (pe_bltn (by rfl) mLi (by decide +kernel) (v := .ty "list") rfl) pa_nil))))) (pw_or (pt_cmpR (op_neD hr.units) (pv 3) (pv 1) (nomark _)) (pw_or1 (pt_cmpR (op_neD hr.units) (pe_callN0 GW hr (by rfl) gW FW.kp kW passL (pk_cons (pv 0) pk_nil)) (pv 1) (nomark _))))))) (pss_one (ps_ret pe_bl)) pss_nil)
        (pss_cons (ps_expr (pe_bm PySem.F.plainAttrs_list PySem.F.slot_list_append PySem.F.type_list_append mt_append (pv 3) (pa_cons pe_int pa_nil)))
        (pss_one (ps_ret (pe_cmpR (op_eqD hr.units) (pe_call GW hr (by rfl) gW FW.kp bW .nil passL (pa_cons (pv 0) pa_nil)) (pv 1) (nomark _))))))))))), ?_⟩
    obtain ⟨t, rfl, hl2, hA, q⟩ := h
    have hl : t.length ≤ 4000 := by omega
    obtain ⟨es, z, s1, s2⟩ := scan_ex t t.length 0 (by omega) (Nat.zero_le _)
    have sh := ents_shaped (scan_ok hA s1)
    walk_at "rd"
    refine ⟨t, es, z, rfl, hl, s2, fun H1 p a xs k1 na hp ha en => ?_⟩
    refine ⟨p, _, rfl, .inl (.inl hp), rfl, ?_⟩
    walk_at "rd"
    refine ⟨t, es, z, rfl, hl, s1, fun hz H2 b ys k2 nb hb en2 => ?_, fun k hz H2 d k2 hd => ?_⟩
    · subst hz
      walk_at "rd"
      refine ⟨rfl, ?_⟩
      refine ⟨_, rfl, iteFe rfl ?_⟩
      walk_at "rd"
      refine ⟨rfl, ?_⟩
      refine ⟨_, rfl, iteFe rfl ?_⟩
      walk_at "rd"
      refine ⟨_, _, _, _, true, rfl, .ty _, .base (.lst hb), kit_same, ?_⟩
      refine ⟨_, rfl, iteFe rfl ?_⟩
      walk_at "rd"
      refine ⟨_, _, .lst (SqL.of hb) (ents_dp en2), .lst (SqL.of (k2 _ _ ha)) (ents_dp (en.two k2)), sh, sh, ?_⟩
      rw [ne_self sh]
      refine ⟨_, rfl, iteFe rfl ?_⟩
      walk_at "rd"
      refine rv_callN ?_
      walk_at "rd"
      refine ⟨rfl, rfl, t, es, none, rfl, hl, s1, fun _ H3 b3 ys3 k3 nb3 hb3 en3 => ?_, fun k hk => nomatch hk⟩
      have k13 := k2.trans k3
      walk_at "rd"
      refine ⟨_, _, .lst (SqL.of hb3) (ents_dp en3), .lst (SqL.of (k13 _ _ ha)) (ents_dp (en.two k13)), sh, sh, ?_⟩
      rw [ne_self sh]
      refine ⟨_, rfl, iteFe rfl ?_⟩
      walk_at "rd"
      refine rv_app rfl (k3 _ _ hb) ?_
      walk_at "rd"
      refine ⟨ys, _, rfl, k3 _ _ hb, ?_, ?_⟩
      · rw [en2.len]
        have := scan_len s1 (Nat.zero_le _)
        exact Nat.lt_of_le_of_lt (by omega : es.length ≤ 4000) (by rw [sizeLine_eq]; decide)
      have k4 : Same H1 (upd H3 b (.lst (ys ++ [.int 0]))) := fun c o z => by
        rw [upd_ne (fun e => by rw [e, nb] at z; cases z)]
        exact k13 _ _ z
      walk_at "rd"
      refine ⟨t, es, none, rfl, hl, s1, fun _ H5 b5 ys5 k5 nb5 hb5 en5 => ?_, fun k hk => nomatch hk⟩
      walk_at "rd"
      refine ⟨_, _, .lst (SqL.of hb5) (ents_dp en5), .lst (SqL.of (k5 _ _ (k4 _ _ ha))) (ents_dp (en.two (k4.trans k5))), sh, sh, ?_⟩
      rw [SeqAt.eqv_refl _ (SeqAt.canLay_of_shaped sh)]
      exact q H5 ((k1.trans k4).trans k5)
    · subst hz
      refine ⟨true, exm, fun _ => ⟨cs 0, rfl, fun x hx => ?_⟩, fun z => nomatch z⟩
      have k3 := same_upd (o := exl x (cs 0) (some d)) hx
      have eA : ExAt (upd H2 x (exl x (cs 0) (some d))) x (cs 0) (some d) := exAt_exl upd_same
      have eD : DcAt (upd H2 x (exl x (cs 0) (some d))) d [("at", .int (k : Int))] := .inl (k3 _ _ hd)
      walk_at "rd"
      refine ⟨rfl, ?_⟩
      refine ⟨_, rfl, iteTe rfl ?_⟩
      walk_at "rd"
      refine ⟨rfl, ?_⟩
      refine ⟨_, rfl, iteTe rfl ?_⟩
      walk_at "rd"
      refine ⟨x, 0, by decide, rfl, .inr ⟨d, _, eA, eD⟩, fun H4 k4 => ?_⟩
      refine ⟨_, rfl, iteTe rfl ?_⟩
      walk_at "rd"
      refine ⟨x, cs 0, d, _, _, rfl, eA.same k4, eD.same k4, T.ek 0 (by decide), C.n, rfl, ?_⟩
      walk_at "rd"
      rw [show decide (V.int (k : Int) = zV (some k)) = true from decide_eq_true rfl]
      exact q H4 (((k1.trans k2).trans k3).trans k4)
end
end My

namespace My
open PySem PySem.Spec PyProof.Rows L2 XR SX
abbrev sDrawn : Stmt := top 37
abbrev sBent : Stmt := top 38
section
variable {P : Program} {w : World} {K : PySem.W.Frag} {mg : Str → Option Value} {base : Heap}
local macro_rules | `(tactic| walk_at "rd1") => `(tactic| first
  | with_reducible refine rs_seq ?_
  | with_reducible refine rs_asg ?_
  | with_reducible refine rs_ret ?_
  | with_reducible refine rs_if ?_
  | with_reducible refine rs_next ?_
  | with_reducible refine rg_name ?_
  | ((with_reducible refine rv_var (v := ?vv) ?hv ?_); (case hv => exact rfl))
  | with_reducible refine rv_c ?_
  | with_reducible refine rv_op ?_
  | with_reducible refine rv_cons ?_
  | with_reducible refine rv_nil ?_
  | with_reducible refine rv_rI0 ?_
  | ((with_reducible refine rv_rI ?hc ?_); (case hc => walk_at "side"))
  | ((with_reducible refine rv_eq ?hc ?_); (case hc => exact rfl))
  | ((with_reducible refine rv_ne ?hc ?_); (case hc => exact rfl))
  | with_reducible refine rv_test ?_
  | with_reducible refine rv_bl ?_
  | with_reducible refine rv_cb ?_
  | with_reducible refine rv_call ?_
  | with_reducible refine rv_tup ?_
  | with_reducible refine rv_lst ?_
  | with_reducible refine rv_tB ?_
  | with_reducible refine rv_or ?_
  | with_reducible refine rv_and ?_
  | with_reducible refine rv_not ?_
  | with_reducible refine rv_andV ?_
  | with_reducible refine rv_orV ?_
  | with_reducible refine rv_notV ?_
  | with_reducible refine rv_ifE ?_
  | with_reducible refine rs_drop ?_
  | with_reducible refine iteT ?_
  | with_reducible refine iteF ?_
  | with_reducible refine ro_nx ?_
  | with_reducible refine ro_rt ?_
  | with_reducible refine ro_ct ?_
  | with_reducible refine ro_bk ?_)
local macro_rules | `(tactic| walk_at "rd") => `(tactic| repeat walk_at "rd1")
local macro_rules | `(tactic| walk_at "side") => `(tactic| first
  | assumption
  | exact (show CPow _ _ from ⟨by decide, by decide, by decide⟩)
  | exact (show CMul _ _ from .inl ⟨by decide, by decide⟩)
  | exact (show CMul _ _ from .inr ⟨by decide, by decide⟩)
  | (show (0 : Int) < _; decide)
  | (show CMul _ _; first | exact .inl ⟨by omega, by omega⟩ | exact .inr ⟨by omega, by omega⟩)
  | omega)
local macro_rules | `(tactic| walk_at "rd1") => `(tactic| first
  | with_reducible refine rs_for ?_
  | with_reducible refine ri_zip ?_
  | with_reducible refine ri_list ?_
  | with_reducible refine ri_rng1 ?_
  | with_reducible refine rv_lc ?_
  | with_reducible refine rv_xfl ?_
  | with_reducible refine rs_par3 ?_
  | with_reducible refine rv_yes ?_
  | with_reducible refine rg_tup ?_
  | with_reducible refine rg_cons ?_
  | with_reducible refine rg_nil ?_)
local macro_rules | `(tactic| walk_at "rd1") => `(tactic| first
  | with_reducible refine ri_str ?_
  | with_reducible refine rv_sl ?_
  | with_reducible refine rv_part ?_
  | with_reducible refine rv_nopart ?_
  | with_reducible refine rv_callS ?_
  | with_reducible refine rv_chain ?_
  | with_reducible refine rv_leS ?_
  | with_reducible refine rv_inS ?_)
theorem tk_in {Hc : Hp} {p : Addr} {n z : Int} {Q : VK} {E : XK} (hp : Hc p = some (.lst [.int n])) (h0 : 0 < z) (h1 : z < 1073741824)
    (q : ∀ d m H', 0 ≤ d → d < z → H' p = some (.lst [.int m]) → (∀ b o, b ≠ p → Hc b = some o → H' b = some o) → Q (.int d) H') : spTake ([.ref p, .int z] ++ []) Hc Q E :=
  ⟨p, n, z, rfl, hp, h0, h1, fun d m e0 e1 => q d m _ e0 e1 upd_same fun b o hb e => by rw [upd_ne hb]; exact e⟩
theorem drawn_at {l : List V} {d : Int} (h0 : 0 ≤ d) (h1 : d < l.length) : ∃ y, atI l d = some y ∧ y ∈ l := by
  obtain ⟨j, rfl⟩ := Int.eq_ofNat_of_zero_le h0
  have hj : j < l.length := by omega
  exact ⟨l[j], atI_nat (List.getElem?_eq_getElem hj), List.getElem_mem hj⟩
/-- a text of plain signs, not long -/
def okV (n : Nat) : V → Bool
  | .str x => decide (x.length ≤ n) && x.cps.toList.all (fun c => decide (c < 128))
  | _ => false
theorem okV_str {n : Nat} {y : V} (h : okV n y = true) : ∃ u : List Nat, y = .str (S u) ∧ u.length ≤ n ∧ ∀ c ∈ u, c < 128 := by
  cases y with
  | str x =>
    unfold okV at h
    rw [Bool.and_eq_true] at h
    refine ⟨x.cps.toList, rfl, ?_, fun c hc => ?_⟩
    · have := of_decide_eq_true h.1
      exact this
    · exact of_decide_eq_true (List.all_eq_true.mp h.2 c hc)
  | _ => cases h
def some1 : List V := [.str "let", .str "if", .str "else", .str "fn", .str "out", .str "a", .str "b", .str "letter", .str "zz", .str "abcdefghijkl", .str "0", .str "7", .str "10", .str "12e3"]
def some2 : List V := [.str "9e17", .str "123456789012345678", .str "+", .str "-", .str "*", .str "/", .str "~", .str "<", .str ">", .str "<=", .str ">=", .str "==", .str "!="]
def some3 : List V := [.str "&&", .str "||", .str "!", .str "?"]
def some4 : List V := [.str ":", .str ".", .str ",", .str "=", .str "(", .str ")", .str "{", .str "}", .str "[", .str "]", .str ";", .str "return", .str "fail", .str "try", .str "catch", .str "while"]
def someV : List V := some1 ++ some2 ++ some3 ++ some4
/-- but for the pile at p all is as it was; there a number -/
def Keep (p : Addr) (H H' : Hp) : Prop := (∀ b o, b ≠ p → H b = some o → H' b = some o) ∧ ∃ m, H' p = some (.lst [.int m])
theorem Keep.trans {p : Addr} {H H1 H2 : Hp} (a : Keep p H H1) (b : Keep p H1 H2) : Keep p H H2 := ⟨fun c o h e => b.1 c o h (a.1 c o h e), b.2⟩
theorem Keep.of {p : Addr} {H H1 : Hp} (a : Same H H1) (h : ∃ m, H p = some (.lst [.int m])) : Keep p H H1 := ⟨fun c o _ e => a c o e, let ⟨m, e⟩ := h; ⟨m, a _ _ e⟩⟩
theorem Keep.same {p : Addr} {H H1 H2 : Hp} (a : Same H H1) (n : H p = none) (b : Keep p H1 H2) : Same H H2 := fun c o e => b.1 c o (fun z => by rw [z, n] at e; cases e) (a c o e)
def spDrawn : Sp := fun vs H Q _ => ∃ p n, vs = [.ref p] ∧ H p = some (.lst [.int n]) ∧ ∀ H' t, Keep p H H' → t.length ≤ 400 → (∀ c ∈ t, c < 128) → Q (.str (S t)) H'
def spBent : Sp := fun vs H Q _ => ∃ p n t, vs = [.ref p, .str (S t)] ∧ H p = some (.lst [.int n]) ∧ t.length ≤ 1000 ∧ (∀ c ∈ t, c < 128) ∧ ∀ H' u, Keep p H H' → u.length ≤ t.length + 1 → (∀ c ∈ u, c < 128) → Q (.str (S u)) H'
theorem ok_app {t u : List Nat} (a : ∀ c ∈ t, c < 128) (b : ∀ c ∈ u, c < 128) : ∀ c ∈ t ++ u, c < 128 := fun c h => (List.mem_append.mp h).elim (a c) (b c)
theorem scDrawn : FnScope ["pile", "some", "text_in", "k"] ["pile"] (defScope sDrawn) := ⟨rfl, rfl, rfl, by decide +kernel, rfl, by decide +kernel, by decide +kernel⟩
theorem scBent : FnScope ["pile", "text_in", "spot", "sign", "way"] ["pile", "text_in"] (defScope sBent) := ⟨rfl, rfl, rfl, by decide +kernel, rfl, by decide +kernel, by decide +kernel⟩
theorem ok_Drawn {f fK : Addr} {fd dK : FuncData} (F : Fun K "_law_drawn" "_law_drawn" sDrawn f fd) (mL : mg "len" = none) (mR : mg "range" = none) (FK : Fun K "_law_take" "_law_take" sTake fK dK) (gK : mg "_law_take" = some (.ref fK)) (bK : L2.Binds K dK ["pile", "size"] []) : FnOk P w K mg base CX0 2 f fd ["pile"] spDrawn := by
  have GK : FnOk P w K mg base CX0 1 fK dK ["pile", "size"] spTake := ok_take FK
  refine F.ok scDrawn (fun vs H Q E h => ?_) (fun cdv A outer s H vs Q E hr h => ?_)
  · obtain ⟨p, n, rfl, _⟩ := h
    rfl
  · refine ⟨_, (pss_cons (ps_set (i := 1) scDrawn.nd rfl (.inl rfl) (pe_lst (pa_cons pe_str (pa_cons pe_str (pa_cons pe_str (pa_cons pe_str (pa_cons pe_str (pa_cons pe_str (pa_cons pe_str (pa_cons pe_str (pa_cons pe_str (pa_cons pe_str (pa_cons pe_str (pa_cons pe_str (pa_cons pe_str (pa_cons pe_str pa_nil))))))))))))))))
        (pss_cons (ps_set (i := 1) scDrawn.nd rfl (.inl rfl) (pe_op op_cat (pv 1) (pe_lst (pa_cons pe_str (pa_cons pe_str (pa_cons pe_str (pa_cons pe_str (pa_cons pe_str (pa_cons pe_str (pa_cons pe_str (pa_cons pe_str (pa_cons pe_str (pa_cons pe_str (pa_cons pe_str (pa_cons pe_str (pa_cons pe_str pa_nil))))))))))))))))
        (pss_cons (ps_set (i := 1) scDrawn.nd rfl (.inl rfl) (pe_op op_cat (pv 1) (pe_lst (pa_cons pe_str (pa_cons pe_str (pa_cons pe_str (pa_cons pe_str pa_nil)))))))
        (pss_cons (ps_set (i := 1) scDrawn.nd rfl (.inl rfl) (pe_op op_cat (pv 1) (pe_lst (pa_cons pe_str (pa_cons pe_str (pa_cons pe_str (pa_cons pe_str (pa_cons pe_str (pa_cons pe_str (pa_cons pe_str (pa_cons pe_str (pa_cons pe_str (pa_cons pe_str (pa_cons pe_str (pa_cons pe_str (pa_cons pe_str (pa_cons pe_str (pa_cons pe_str (pa_cons pe_str pa_nil)))))))))))))))))))
        (pss_cons (ps_set (i := 2) scDrawn.nd rfl (.inl rfl) (pe_ix ix_list (pe_lst (pa_cons pe_str (pa_cons pe_str (pa_cons pe_str pa_nil)))) (pe_call GK hr (by rfl) gK FK.kp bK .nil pass0 (pa_cons (pv 0) (pa_cons pe_int pa_nil))) (fun _ _ => rfl)))
        (pss_cons (ps_for PassesOwn.never rfl (pi_range1 (by rfl) mR (pa_cons (pe_call GK hr (by rfl) gK FK.kp bK .nil pass0 (pa_cons (pv 0) (pa_cons pe_int pa_nil))) pa_nil)) (pg_name (i := 3) scDrawn.nd rfl (.inl rfl)) (pss_one (ps_set (i := 2) scDrawn.nd rfl (.inl rfl) (pe_op op_add_str (pe_op op_add_str (pv 2) (pe_ix ix_list (pv 1) (pe_call GK hr (by rfl) gK FK.kp bK .nil pass0 (pa_cons (pv 0) (pa_cons (pe_callB call_len_seq (by rfl) mL PySem.boot_len (pa_cons (pv 1) pa_nil)) pa_nil))) (fun _ _ => rfl))) (pe_ix ix_list (pe_lst (pa_cons pe_str (pa_cons pe_str (pa_cons pe_str (pa_cons pe_str (pa_cons pe_str (pa_cons pe_str pa_nil))))))) (pe_call GK hr (by rfl) gK FK.kp bK .nil pass0 (pa_cons (pv 0) (pa_cons pe_int pa_nil))) (fun _ _ => rfl))))))
        (pss_one (ps_ret (pv 2))))))))), ?_⟩
    obtain ⟨p, n, rfl, hp, q⟩ := h
    walk_at "rd"
    refine ⟨(by show 14 ≤ sizeLine; decide), fun a1 n1 => ?_⟩
    have k1 := same_upd (o := .lst some1) n1
    walk_at "rd"
    refine ⟨(by show 13 ≤ sizeLine; decide), fun a2 n2 => ?_⟩
    have k2 := same_upd (o := .lst some2) n2
    refine ⟨a1, a2, some1, some2, rfl, rfl, k2 _ _ upd_same, upd_same, (by show 27 ≤ sizeLine; decide), fun a3 n3 => ?_⟩
    have k3 := same_upd (o := .lst (some1 ++ some2)) n3
    walk_at "rd"
    refine ⟨(by show 4 ≤ sizeLine; decide), fun a4 n4 => ?_⟩
    have k4 := same_upd (o := .lst some3) n4
    refine ⟨a3, a4, some1 ++ some2, some3, rfl, rfl, k4 _ _ upd_same, upd_same, (by show 31 ≤ sizeLine; decide), fun a5 n5 => ?_⟩
    have k5 := same_upd (o := .lst (some1 ++ some2 ++ some3)) n5
    walk_at "rd"
    refine ⟨(by show 16 ≤ sizeLine; decide), fun a6 n6 => ?_⟩
    have k6 := same_upd (o := .lst some4) n6
    refine ⟨a5, a6, some1 ++ some2 ++ some3, some4, rfl, rfl, k6 _ _ upd_same, upd_same, (by show 47 ≤ sizeLine; decide), fun a7 n7 => ?_⟩
    have k7 := same_upd (o := .lst someV) n7
    have kk : Same H (upd (upd (upd (upd (upd (upd (upd H a1 (.lst some1)) a2 (.lst some2)) a3 (.lst (some1 ++ some2))) a4 (.lst some3)) a5 (.lst (some1 ++ some2 ++ some3))) a6 (.lst some4)) a7 (.lst someV)) := (((((k1.trans k2).trans k3).trans k4).trans k5).trans k6).trans k7
    obtain ⟨H7, e7⟩ : ∃ H7, H7 = upd (upd (upd (upd (upd (upd (upd H a1 (.lst some1)) a2 (.lst some2)) a3 (.lst (some1 ++ some2))) a4 (.lst some3)) a5 (.lst (some1 ++ some2 ++ some3))) a6 (.lst some4)) a7 (.lst someV) := ⟨_, rfl⟩
    have h7 : H7 a7 = some (.lst someV) := by rw [e7]; exact upd_same
    rw [← e7] at kk
    show tSeq _ _ _ _ (upd (upd (upd (upd (upd (upd (upd H a1 (.lst some1)) a2 (.lst some2)) a3 (.lst (some1 ++ some2))) a4 (.lst some3)) a5 (.lst (some1 ++ some2 ++ some3))) a6 (.lst some4)) a7 (.lst someV))
    rw [← e7]
    clear e7 k1 k2 k3 k4 k5 k6 k7 n1 n2 n3 n4 n5 n6 n7
    have hne : a7 ≠ p := fun e => by rw [e, kk _ _ hp] at h7; cases h7
    walk_at "rd"
    refine ⟨(by show 3 ≤ sizeLine; decide), fun a8 n8 => ?_⟩
    have k8 := same_upd (o := .lst [.str "", .str " ", .str "\n"]) n8
    have hp8 := k8 _ _ (kk _ _ hp)
    walk_at "rd"
    refine tk_in hp8 (by decide) (by decide) fun d1 m1 H9 d0 dz e9 r9 => ?_
    have ne8 : a8 ≠ p := fun e => by rw [e, kk _ _ hp] at n8; cases n8
    obtain ⟨y, hy, ym⟩ := drawn_at (l := [.str "", .str " ", .str "\n"]) d0 dz
    have yo : okV 1 y = true := List.all_eq_true.mp (show ([.str "", .str " ", .str "\n"] : List V).all (okV 1) = true by decide +kernel) y ym
    obtain ⟨t0, rfl, l0, c0⟩ := okV_str yo
    refine ⟨a8, _, d1, _, rfl, rfl, SqL.of (r9 _ _ ne8 upd_same), hy, ?_⟩
    walk_at "rd"
    refine tk_in e9 (by decide) (by decide) fun d2 m2 H10 d20 d2z e10 r10 => ?_
    have kp : Keep p H H10 := ⟨fun b o hb e => r10 _ _ hb (r9 _ _ hb (k8 _ _ (kk _ _ e))), m2, e10⟩
    have h10 : H10 a7 = some (.lst someV) := r10 _ _ hne (r9 _ _ hne (k8 _ _ h7))
    clear r10 r9 e9 e10 k8 n8 kk hp8
    refine ⟨d2, rfl, by omega, by omega, for_range (lo := 0) (n := d2.toNat) (fun i σ H' => ∃ (t : List Nat) (k : Option V), σ = [some (.ref p), some (.ref a7), some (.str (S t)), k] ∧ t.length ≤ 1 + i * 20 ∧ (∀ c ∈ t, c < 128) ∧ Keep p H H' ∧ H' a7 = some (.lst someV)) ⟨t0, none, rfl, l0, c0, kp, h10⟩ ?_ ?_⟩
    · rintro i σ H' hi ⟨t, k, rfl, lt, ct, kp, h'⟩
      have hi' : i < 12 := by omega
      refine rg_name ?_
      obtain ⟨m, hm⟩ := kp.2
      walk_at "rd"
      refine ⟨a7, someV, rfl, .inl (SqL.of h'), ?_⟩
      walk_at "rd"
      refine tk_in hm (by decide +kernel) (by decide +kernel) fun d3 m3 H11 d30 d3z e11 r11 => ?_
      obtain ⟨y, hy, ym⟩ := drawn_at (l := someV) d30 d3z
      have yo : okV 18 y = true := List.all_eq_true.mp (show someV.all (okV 18) = true by decide +kernel) y ym
      obtain ⟨t1, rfl, l1, c1⟩ := okV_str yo
      refine ⟨a7, _, d3, _, rfl, rfl, SqL.of (r11 _ _ hne h'), hy, ?_⟩
      refine ⟨_, _, rfl, rfl, (by rw [S_len, S_len]; exact len_le (by omega)), ?_⟩
      rw [S_cat]
      walk_at "rd"
      refine ⟨(by show 6 ≤ sizeLine; decide), fun a9 n9 => ?_⟩
      have k9 := same_upd (o := .lst [.str "", .str " ", .str "\n", .str " ", .str "", .str "  "]) n9
      have ne9 : a9 ≠ p := fun e => by rw [e, e11] at n9; cases n9
      walk_at "rd"
      refine tk_in (k9 _ _ e11) (by decide) (by decide) fun d4 m4 H12 d40 d4z e12 r12 => ?_
      obtain ⟨y, hy, ym⟩ := drawn_at (l := [.str "", .str " ", .str "\n", .str " ", .str "", .str "  "]) d40 d4z
      have yo : okV 2 y = true := List.all_eq_true.mp (show ([.str "", .str " ", .str "\n", .str " ", .str "", .str "  "] : List V).all (okV 2) = true by decide +kernel) y ym
      obtain ⟨t2, rfl, l2, c2⟩ := okV_str yo
      refine ⟨a9, _, d4, _, rfl, rfl, SqL.of (r12 _ _ ne9 upd_same), hy, ?_⟩
      refine ⟨_, _, rfl, rfl, (by rw [S_len, S_len, List.length_append]; exact len_le (by omega)), ?_⟩
      rw [S_cat]
      walk_at "rd"
      refine ⟨(t ++ t1) ++ t2, _, rfl, ?_, ok_app (ok_app ct c1) c2, ?_, r12 _ _ hne (k9 _ _ (r11 _ _ hne h'))⟩
      · rw [List.length_append, List.length_append]
        omega
      · exact kp.trans ⟨fun b o hb e => r12 _ _ hb (k9 _ _ (r11 _ _ hb e)), m4, e12⟩
    · rintro σ H' ⟨t, k, rfl, lt, ct, kp, h'⟩
      walk_at "rd"
      exact q H' t kp (by omega) ct
end
end My

namespace My
open PySem PySem.Spec PyProof.Rows L2 XR SX
abbrev sLaw : Stmt := top 40
section
variable {P : Program} {w : World} {K : PySem.W.Frag} {mg : Str → Option Value} {base : Heap} {cs : Nat → Addr} {cL fT : Addr} {fdT : FuncData}
local macro_rules | `(tactic| walk_at "rd1") => `(tactic| first
  | with_reducible refine rs_seq ?_
  | with_reducible refine rs_asg ?_
  | with_reducible refine rs_ret ?_
  | with_reducible refine rs_if ?_
  | with_reducible refine rs_next ?_
  | with_reducible refine rg_name ?_
  | ((with_reducible refine rv_var (v := ?vv) ?hv ?_); (case hv => exact rfl))
  | with_reducible refine rv_c ?_
  | with_reducible refine rv_op ?_
  | with_reducible refine rv_cons ?_
  | with_reducible refine rv_nil ?_
  | with_reducible refine rv_rI0 ?_
  | ((with_reducible refine rv_rI ?hc ?_); (case hc => walk_at "side"))
  | ((with_reducible refine rv_eq ?hc ?_); (case hc => exact rfl))
  | ((with_reducible refine rv_ne ?hc ?_); (case hc => exact rfl))
  | with_reducible refine rv_test ?_
  | with_reducible refine rv_bl ?_
  | with_reducible refine rv_cb ?_
  | with_reducible refine rv_call ?_
  | with_reducible refine rv_tup ?_
  | with_reducible refine rv_lst ?_
  | with_reducible refine rv_tB ?_
  | with_reducible refine rv_or ?_
  | with_reducible refine rv_and ?_
  | with_reducible refine rv_not ?_
  | with_reducible refine rv_andV ?_
  | with_reducible refine rv_orV ?_
  | with_reducible refine rv_notV ?_
  | with_reducible refine rv_ifE ?_
  | with_reducible refine rs_drop ?_
  | with_reducible refine iteT ?_
  | with_reducible refine iteF ?_
  | with_reducible refine ro_nx ?_
  | with_reducible refine ro_rt ?_
  | with_reducible refine ro_ct ?_
  | with_reducible refine ro_bk ?_)
local macro_rules | `(tactic| walk_at "rd") => `(tactic| repeat walk_at "rd1")
local macro_rules | `(tactic| walk_at "side") => `(tactic| first
  | assumption
  | exact (show CPow _ _ from ⟨by decide, by decide, by decide⟩)
  | exact (show CMul _ _ from .inl ⟨by decide, by decide⟩)
  | exact (show CMul _ _ from .inr ⟨by decide, by decide⟩)
  | (show (0 : Int) < _; decide)
  | (show CMul _ _; first | exact .inl ⟨by omega, by omega⟩ | exact .inr ⟨by omega, by omega⟩)
  | omega)
local macro_rules | `(tactic| walk_at "rd1") => `(tactic| first
  | with_reducible refine rs_for ?_
  | with_reducible refine ri_zip ?_
  | with_reducible refine ri_list ?_
  | with_reducible refine ri_rng1 ?_
  | with_reducible refine rv_lc ?_
  | with_reducible refine rv_xfl ?_
  | with_reducible refine rs_par3 ?_
  | with_reducible refine rv_yes ?_
  | with_reducible refine rg_tup ?_
  | with_reducible refine rg_cons ?_
  | with_reducible refine rg_nil ?_)
local macro_rules | `(tactic| walk_at "rd1") => `(tactic| first
  | with_reducible refine ri_str ?_
  | with_reducible refine rv_sl ?_
  | with_reducible refine rv_part ?_
  | with_reducible refine rv_nopart ?_
  | with_reducible refine rv_callS ?_
  | with_reducible refine rv_chain ?_
  | with_reducible refine rv_leS ?_
  | with_reducible refine rv_inS ?_)
theorem rv_to {t : List Nat} {a : Int} {H : Hp} {Q : VK} (h0 : 0 ≤ a) (hl : t.length ≤ 4000) (q : Q (.str (S (t.take a.toNat))) H) : C8.rSlX (.str (S t)) none (some a) H Q :=
  ⟨S t, rfl, len_le hl, by rw [slice_to h0]; exact q⟩
theorem rv_from {t : List Nat} {a : Int} {H : Hp} {Q : VK} (h0 : 0 ≤ a) (hl : t.length ≤ 4000) (q : Q (.str (S (t.drop a.toNat))) H) : C8.rSlX (.str (S t)) (some a) none H Q :=
  ⟨S t, rfl, len_le hl, by rw [slice_from h0]; exact q⟩
def rAddS : R2 := fun x y H Q => ∃ i j, x = V.str i ∧ y = V.str j ∧ i.length + j.length ≤ sizeLine ∧ Q (V.str (i ++ j)) H
theorem op_addS {X : Cx} : OpR X (binaryOp .Add) rAddS := op_add_str
theorem rv_addS {t u : List Nat} {H : Hp} {Q : VK} (hl : t.length + u.length ≤ 4000) (q : Q (.str (S (t ++ u))) H) : rAddS (.str (S t)) (.str (S u)) H Q :=
  ⟨S t, S u, rfl, rfl, len_le hl, by rw [S_cat]; exact q⟩
def bentC : List Nat := [97, 101, 48, 57, 32, 10, 60, 61, 38, 124, 33, 46, 59, 90, 35, 95]
theorem ok_take' {t : List Nat} {n : Nat} (h : ∀ c ∈ t, c < 128) : ∀ c ∈ t.take n, c < 128 := fun c m => h c (List.mem_of_mem_take m)
theorem ok_drop {t : List Nat} {n : Nat} (h : ∀ c ∈ t, c < 128) : ∀ c ∈ t.drop n, c < 128 := fun c m => h c (List.mem_of_mem_drop m)
theorem ok_one {c : Nat} (h : c < 128) : ∀ d ∈ [c], d < 128 := fun d m => by
  cases List.mem_singleton.mp m
  exact h
theorem ok_Bent {f fK : Addr} {fd dK : FuncData} (F : Fun K "_law_bent" "_law_bent" sBent f fd) (mL : mg "len" = none) (FK : Fun K "_law_take" "_law_take" sTake fK dK) (gK : mg "_law_take" = some (.ref fK)) (bK : L2.Binds K dK ["pile", "size"] []) : FnOk P w K mg base CX0 2 f fd ["pile", "text_in"] spBent := by
  have GK : FnOk P w K mg base CX0 1 fK dK ["pile", "size"] spTake := ok_take FK
  refine F.ok scBent (fun vs H Q E h => ?_) (fun cdv A outer s H vs Q E hr h => ?_)
  · obtain ⟨p, n, t, rfl, _⟩ := h
    rfl
  · refine ⟨_, (pss_cons (ps_set (i := 2) scBent.nd rfl (.inl rfl) (pe_op op_mod (pe_call GK hr (by rfl) gK FK.kp bK .nil pass0 (pa_cons (pv 0) (pa_cons pe_int pa_nil))) (pe_op op_add (pe_callB call_len_str (by rfl) mL PySem.boot_len (pa_cons (pv 1) pa_nil)) pe_int)))
        (pss_cons (ps_set (i := 3) scBent.nd rfl (.inl rfl) (pe_ix ix_str pe_str (pe_call GK hr (by rfl) gK FK.kp bK .nil pass0 (pa_cons (pv 0) (pa_cons pe_int pa_nil))) (fun _ _ => rfl)))
        (pss_cons (ps_set (i := 4) scBent.nd rfl (.inl rfl) (pe_call GK hr (by rfl) gK FK.kp bK .nil pass0 (pa_cons (pv 0) (pa_cons pe_int pa_nil))))
        (pss_cons (ps_if (pt_cmpR op_eq (pv 4) pe_int (nomark _)) (pss_one (ps_ret (pe_op op_addS (pe_op op_addS (pe_slice C8.sl_txt (pv 1) po_none (po_some (pv 2))) (pv 3)) (pe_slice C8.sl_txt (pv 1) (po_some (pv 2)) po_none)))) pss_nil)
        (pss_cons (ps_if (pt_cmpR op_eq (pv 4) pe_int (nomark _)) (pss_one (ps_ret (pe_op op_addS (pe_slice C8.sl_txt (pv 1) po_none (po_some (pv 2))) (pe_slice C8.sl_txt (pv 1) (po_some (pe_op op_add (pv 2) pe_int)) po_none)))) pss_nil)
        (pss_one (ps_ret (pe_op op_addS (pe_op op_addS (pe_slice C8.sl_txt (pv 1) po_none (po_some (pv 2))) (pv 3)) (pe_slice C8.sl_txt (pv 1) (po_some (pe_op op_add (pv 2) pe_int)) po_none))))))))), ?_⟩
    obtain ⟨p, n, t, rfl, hp, hl, ht, q⟩ := h
    have hl4 : t.length ≤ 4000 := by omega
    walk_at "rd"
    refine tk_in hp (by decide) (by decide) fun d1 m1 H1 d10 d1z e1 r1 => ?_
    walk_at "rd"
    refine ⟨S t, rfl, len_le hl4, ?_⟩
    rw [S_len]
    walk_at "rd"
    have hx0 : 0 ≤ d1 % ((t.length : Int) + 1) := Int.emod_nonneg _ (by omega)
    have hx1 : d1 % ((t.length : Int) + 1) < (t.length : Int) + 1 := Int.emod_lt_of_pos _ (by omega)
    obtain ⟨x, ex⟩ : ∃ x, x = d1 % ((t.length : Int) + 1) := ⟨_, rfl⟩
    rw [← ex] at hx0 hx1 ⊢
    walk_at "rd"
    refine tk_in e1 (by decide) (by decide) fun d2 m2 H2 d20 d2z e2 r2 => ?_
    obtain ⟨c, hc, c1⟩ : ∃ c, bentC[d2.toNat]? = some c ∧ c < 128 := by
      have hb : d2.toNat < bentC.length := by show d2.toNat < 16; omega
      exact ⟨bentC[d2.toNat], List.getElem?_eq_getElem hb, of_decide_eq_true (List.all_eq_true.mp (show bentC.all (fun c => decide (c < 128)) = true by decide) _ (List.getElem_mem hb))⟩
    have hs : rIxS (.str (S bentC)) (.int ((d2.toNat : Nat) : Int)) = rIxS (.str (S bentC)) (.int d2) := by rw [Int.toNat_of_nonneg d20]
    show rIxS (.str (S bentC)) (.int d2) _ _
    rw [← hs]
    refine at_S hc (by rw [sizeLine_eq]; decide) ?_
    walk_at "rd"
    refine tk_in e2 (by decide) (by decide) fun d3 m3 H3 d30 d3z e3 r3 => ?_
    have kp : Keep p H H3 := ⟨fun b o hb e => r3 _ _ hb (r2 _ _ hb (r1 _ _ hb e)), m3, e3⟩
    walk_at "rd"
    have lt : (t.take x.toNat).length = x.toNat := by rw [List.length_take]; omega
    have ld : (t.drop x.toNat).length = t.length - x.toNat := List.length_drop
    have ld1 : (t.drop (x + 1).toNat).length ≤ t.length - x.toNat := by rw [List.length_drop]; omega
    refine iteB (fun h1 => ?_) (fun h1 => ?_)
    · walk_at "rd"
      walk_at "rd"
      refine ⟨_, rfl, ?_⟩
      refine rv_to hx0 hl4 ?_
      walk_at "rd"
      refine rv_addS (t := t.take x.toNat) (u := [c]) (by rw [lt]; show x.toNat + 1 ≤ 4000; omega) ?_
      walk_at "rd"
      refine ⟨_, rfl, ?_⟩
      walk_at "rd"
      refine rv_from hx0 hl4 ?_
      refine rv_addS (by rw [List.length_append, lt, ld]; show x.toNat + 1 + _ ≤ 4000; omega) ?_
      walk_at "rd"
      refine q H3 _ kp (by rw [List.length_append, List.length_append, lt, ld]; show x.toNat + 1 + _ ≤ _; omega) (ok_app (ok_app (ok_take' ht) (ok_one c1)) (ok_drop ht))
    · walk_at "rd"
      refine iteB (fun h2 => ?_) (fun h2 => ?_)
      · walk_at "rd"
        walk_at "rd"
        refine ⟨_, rfl, ?_⟩
        refine rv_to hx0 hl4 ?_
        walk_at "rd"
        refine ⟨_, rfl, ?_⟩
        walk_at "rd"
        refine rv_from (by omega) hl4 ?_
        refine rv_addS (by rw [lt]; omega) ?_
        walk_at "rd"
        refine q H3 _ kp (by rw [List.length_append, lt]; omega) (ok_app (ok_take' ht) (ok_drop ht))
      · walk_at "rd"
        walk_at "rd"
        refine ⟨_, rfl, ?_⟩
        refine rv_to hx0 hl4 ?_
        walk_at "rd"
        refine rv_addS (t := t.take x.toNat) (u := [c]) (by rw [lt]; show x.toNat + 1 ≤ 4000; omega) ?_
        walk_at "rd"
        refine ⟨_, rfl, ?_⟩
        walk_at "rd"
        refine rv_from (by omega) hl4 ?_
        refine rv_addS (by rw [List.length_append, lt]; show x.toNat + 1 + _ ≤ 4000; omega) ?_
        walk_at "rd"
        refine q H3 _ kp (by rw [List.length_append, List.length_append, lt]; show x.toNat + 1 + _ ≤ _; omega) (ok_app (ok_app (ok_take' ht) (ok_one c1)) (ok_drop ht))
end
end My

namespace My
open PySem PySem.Spec PyProof.Rows L2 XR SX
section
variable {P : Program} {w : World} {K : PySem.W.Frag} {mg : Str → Option Value} {base : Heap} {cs : Nat → Addr} {cL fT : Addr} {fdT : FuncData}
local macro_rules | `(tactic| walk_at "rd1") => `(tactic| first
  | with_reducible refine rs_seq ?_
  | with_reducible refine rs_asg ?_
  | with_reducible refine rs_ret ?_
  | with_reducible refine rs_if ?_
  | with_reducible refine rs_next ?_
  | with_reducible refine rg_name ?_
  | ((with_reducible refine rv_var (v := ?vv) ?hv ?_); (case hv => exact rfl))
  | with_reducible refine rv_c ?_
  | with_reducible refine rv_op ?_
  | with_reducible refine rv_cons ?_
  | with_reducible refine rv_nil ?_
  | with_reducible refine rv_rI0 ?_
  | ((with_reducible refine rv_rI ?hc ?_); (case hc => walk_at "side"))
  | ((with_reducible refine rv_eq ?hc ?_); (case hc => exact rfl))
  | ((with_reducible refine rv_ne ?hc ?_); (case hc => exact rfl))
  | with_reducible refine rv_test ?_
  | with_reducible refine rv_bl ?_
  | with_reducible refine rv_cb ?_
  | with_reducible refine rv_call ?_
  | with_reducible refine rv_tup ?_
  | with_reducible refine rv_lst ?_
  | with_reducible refine rv_tB ?_
  | with_reducible refine rv_or ?_
  | with_reducible refine rv_and ?_
  | with_reducible refine rv_not ?_
  | with_reducible refine rv_andV ?_
  | with_reducible refine rv_orV ?_
  | with_reducible refine rv_notV ?_
  | with_reducible refine rv_ifE ?_
  | with_reducible refine rs_drop ?_
  | with_reducible refine iteT ?_
  | with_reducible refine iteF ?_
  | with_reducible refine ro_nx ?_
  | with_reducible refine ro_rt ?_
  | with_reducible refine ro_ct ?_
  | with_reducible refine ro_bk ?_)
local macro_rules | `(tactic| walk_at "rd") => `(tactic| repeat walk_at "rd1")
local macro_rules | `(tactic| walk_at "side") => `(tactic| first
  | assumption
  | exact (show CPow _ _ from ⟨by decide, by decide, by decide⟩)
  | exact (show CMul _ _ from .inl ⟨by decide, by decide⟩)
  | exact (show CMul _ _ from .inr ⟨by decide, by decide⟩)
  | (show (0 : Int) < _; decide)
  | (show CMul _ _; first | exact .inl ⟨by omega, by omega⟩ | exact .inr ⟨by omega, by omega⟩)
  | omega)
local macro_rules | `(tactic| walk_at "rd1") => `(tactic| first
  | with_reducible refine rs_for ?_
  | with_reducible refine ri_zip ?_
  | with_reducible refine ri_list ?_
  | with_reducible refine ri_rng1 ?_
  | with_reducible refine rv_lc ?_
  | with_reducible refine rv_xfl ?_
  | with_reducible refine rs_par3 ?_
  | with_reducible refine rv_yes ?_
  | with_reducible refine rg_tup ?_
  | with_reducible refine rg_cons ?_
  | with_reducible refine rg_nil ?_)
local macro_rules | `(tactic| walk_at "rd1") => `(tactic| first
  | with_reducible refine ri_str ?_
  | with_reducible refine rv_sl ?_
  | with_reducible refine rv_part ?_
  | with_reducible refine rv_nopart ?_
  | with_reducible refine rv_callS ?_
  | with_reducible refine rv_chain ?_
  | with_reducible refine rv_leS ?_
  | with_reducible refine rv_inS ?_)
def spLaw (K : PySem.W.Frag) : Sp := fun vs H Q _ => ∃ (a : Addr) (ns : List Int), vs = [.ref a] ∧ SqL K H a (ns.map V.int) ∧ ∀ H', Q (.bl true) H'
theorem scLaw : FnScope ["script", "k", "pile", "text_in", "turn"] ["script"] (defScope sLaw) := ⟨rfl, rfl, rfl, by decide +kernel, rfl, by decide +kernel, by decide +kernel⟩
theorem ok_Law {f fC fD fG fB fW : Addr} {fd dC dD dG dB dW : FuncData} (F : Fun K "law" "law" sLaw f fd) (mR : mg "range" = none)
    (FC : Fun K "_law_cell" "_law_cell" sCell fC dC) (gC : mg "_law_cell" = some (.ref fC)) (bC : L2.Binds K dC ["script", "k"] []) (GC : FnOk P w K mg base CX0 2 fC dC ["script", "k"] (spCell K))
    (FD : Fun K "_law_drawn" "_law_drawn" sDrawn fD dD) (gD : mg "_law_drawn" = some (.ref fD)) (bD : L2.Binds K dD ["pile"] []) (GD : FnOk P w K mg base CX0 2 fD dD ["pile"] spDrawn)
    (FB : Fun K "_law_bent" "_law_bent" sBent fB dB) (gB : mg "_law_bent" = some (.ref fB)) (bB : L2.Binds K dB ["pile", "text_in"] []) (GB : FnOk P w K mg base CX0 2 fB dB ["pile", "text_in"] spBent)
    (FG : Fun K "_law_good" "_law_good" sGood fG dG) (gG : mg "_law_good" = some (.ref fG)) (bG : L2.Binds K dG ["text_in"] []) (GG : FnOk P w K mg base CX0 6 fG dG ["text_in"] spGood)
    (FW : Fun K "words" "words" sWords fW dW) (gW : mg "words" = some (.ref fW)) (bW : L2.Binds K dW ["text"] []) (GW : FnOk P w K mg base (L2.CX P w) 5 fW dW ["text"] (spWords (cs 0))) : FnOk P w K mg base CX0 7 f fd ["script"] (spLaw K) := by
  refine F.ok scLaw (fun vs H Q E h => ?_) (fun cdv A outer s H vs Q E hr h => ?_)
  · obtain ⟨a, ns, rfl, _⟩ := h
    rfl
  · have hr2 := hr.mono (by decide : 2 ≤ 6)
    have hr5 := hr.mono (by decide : 5 ≤ 6)
    refine ⟨_, (pss_cons (ps_for PassesOwn.never rfl (pi_range1 (by rfl) mR (pa_cons pe_int pa_nil)) (pg_name (i := 1) scLaw.nd rfl (.inl rfl)) (pss_cons (ps_set (i := 2) scLaw.nd rfl (.inl rfl) (pe_lst (pa_cons (pe_call GC hr2 (by rfl) gC FC.kp bC .nil pass0 (pa_cons (pv 0) (pa_cons (pv 1) pa_nil))) pa_nil)))
        (pss_cons (ps_set (i := 3) scLaw.nd rfl (.inl rfl) (pe_call GD hr2 (by rfl) gD FD.kp bD .nil pass0 (pa_cons (pv 2) pa_nil)))
        (pss_cons (ps_if (pt_not (pt_val (pe_call GG hr (by rfl) gG FG.kp bG .nil pass0 (pa_cons (pv 3) pa_nil)))) (pss_one (ps_ret pe_bl)) pss_nil)
        (pss_one (ps_for PassesOwn.never rfl (pi_range1 (by rfl) mR (pa_cons pe_int pa_nil)) (pg_name (i := 4) scLaw.nd rfl (.inl rfl)) (pss_cons (ps_set (i := 3) scLaw.nd rfl (.inl rfl) (pe_call GB hr2 (by rfl) gB FB.kp bB .nil pass0 (pa_cons (pv 2) (pa_cons (pv 3) pa_nil))))
        (pss_one (ps_if (pt_not (pt_val (pe_call GG hr (by rfl) gG FG.kp bG .nil pass0 (pa_cons (pv 3) pa_nil)))) (pss_one (ps_ret pe_bl)) pss_nil)))))))))
        (pss_one (ps_ret (pe_and (pe_cmpR (op_eqD hr.units) (pe_call GW hr5 (by rfl) gW FW.kp bW .nil passL (pa_cons pe_str pa_nil)) (pe_lst pa_nil) (nomark _)) (pe_and (pe_cmpR (op_eqD hr.units) (pe_call GW hr5 (by rfl) gW FW.kp bW .nil passL (pa_cons pe_str pa_nil)) (pe_lst pa_nil) (nomark _)) (pe_one (pe_cmpR (op_eqD hr.units) (pe_call GW hr5 (by rfl) gW FW.kp bW .nil passL (pa_cons pe_str pa_nil)) (pe_lst (pa_cons (pe_tup (pa_cons pe_str (pa_cons pe_str (pa_cons pe_int pa_nil)))) pa_nil)) (nomark _)))))))), ?_⟩
    obtain ⟨a, ns, rfl, hS, q⟩ := h
    walk_at "rd"
    refine ⟨4, rfl, by decide, by decide, for_range (lo := 0) (n := 4) (fun i σ H' => Same H H' ∧ ∃ o1 o2 o3 o4, σ = [some (.ref a), o1, o2, o3, o4]) ⟨Same.refl H, none, none, none, none, rfl⟩ ?_ ?_⟩
    · rintro i σ H1 hi ⟨k1, o1, o2, o3, o4, rfl⟩
      refine rg_name ?_
      walk_at "rd"
      refine ⟨a, ns, _, rfl, k1.seq hS, (by omega), (by omega), fun n => ?_⟩
      walk_at "rd"
      refine ⟨by show 1 ≤ sizeLine; decide, fun p hp => ?_⟩
      have k2 := k1.trans (same_upd (o := .lst [.int n]) hp)
      have np : H p = none := k1.free hp
      walk_at "rd"
      refine ⟨p, n, rfl, upd_same, fun H2 t kp lt ct => ?_⟩
      have k3 : Same H H2 := kp.same k2 np
      walk_at "rd"
      refine ⟨t, rfl, by omega, ct, fun H3 k4 => ?_⟩
      refine ⟨_, rfl, iteFe rfl ?_⟩
      have kp3 : Keep p (upd H1 p (.lst [.int n])) H3 := kp.trans (.of k4 kp.2)
      have k5 := k3.trans k4
      obtain ⟨m3, e3⟩ := kp3.2
      walk_at "rd"
      refine ⟨4, rfl, by decide, by decide, for_range (lo := 0) (n := 4) (fun j σ H' => Same H H' ∧ (∃ m, H' p = some (.lst [.int m])) ∧ ∃ (t : List Nat) (o4 : Option V), σ = [some (.ref a), some (.int (0 + (i : Nat))), some (.ref p), some (.str (S t)), o4] ∧ t.length ≤ 400 + j ∧ ∀ c ∈ t, c < 128) ⟨k5, ⟨m3, e3⟩, t, o4, rfl, lt, ct⟩ ?_ ?_⟩
      · rintro j σ H4 hj ⟨k6, ⟨m4, e4⟩, t, o4, rfl, lt, ct⟩
        refine rg_name ?_
        walk_at "rd"
        refine ⟨p, m4, t, rfl, e4, by omega, ct, fun H5 u kq lu cu => ?_⟩
        have k7 : Same H H5 := kq.same k6 np
        walk_at "rd"
        refine ⟨u, rfl, by omega, cu, fun H6 k8 => ?_⟩
        refine ⟨_, rfl, iteFe rfl ?_⟩
        obtain ⟨m5, e5⟩ := kq.2
        walk_at "rd"
        exact ⟨k7.trans k8, ⟨m5, k8 _ _ e5⟩, u, _, rfl, by omega, cu⟩
      · rintro σ H4 ⟨k6, _, t, o4, rfl, _⟩
        walk_at "rd"
        exact ⟨k6, _, _, _, _, rfl⟩
    · rintro σ H1 ⟨k1, o1, o2, o3, o4, rfl⟩
      walk_at "rd"
      refine ⟨[], [], none, rfl, by decide, .stop rfl, fun _ H2 b ys k2 nb hb en => ?_, fun k hk => nomatch hk⟩
      walk_at "rd"
      refine ⟨by decide, fun p2 hp2 => ?_⟩
      have k3 := same_upd (o := .lst []) hp2
      refine ⟨.list [], .list [], .lst (SqL.of (k3 _ _ hb)) (ents_dp (en.two k3)), .lst (SqL.of upd_same) .nil, (by decide +kernel), (by decide +kernel), ?_⟩
      refine ⟨_, rfl, iteTe (by decide +kernel) ?_⟩
      walk_at "rd"
      refine ⟨[10], [], none, rfl, by decide, .blank (c := 10) rfl rfl (.stop rfl), fun _ H4 b4 ys4 k4 nb4 hb4 en4 => ?_, fun k hk => nomatch hk⟩
      walk_at "rd"
      refine ⟨by decide, fun p5 hp5 => ?_⟩
      have k5 := same_upd (o := .lst []) hp5
      refine ⟨.list [], .list [], .lst (SqL.of (k5 _ _ hb4)) (ents_dp (en4.two k5)), .lst (SqL.of upd_same) .nil, (by decide +kernel), (by decide +kernel), ?_⟩
      refine ⟨_, rfl, iteTe (by decide +kernel) ?_⟩
      walk_at "rd"
      refine ⟨[97], [(("name" : Str), [97], 0)], none, rfl, by decide, .word (c := 97) (m := 1) rfl rfl (show stepP [97] = some (("name" : Str), 1) by decide +kernel) (by decide) (by decide) (.stop rfl), fun _ H6 b6 ys6 k6 nb6 hb6 en6 => ?_, fun k hk => nomatch hk⟩
      walk_at "rd"
      refine ⟨(by show 3 ≤ sizeLine; decide), fun p7 hp7 => ?_⟩
      have k7 := same_upd (o := .tup [.str "name", .str "a", .int 0]) hp7
      walk_at "rd"
      refine ⟨(by show 1 ≤ sizeLine; decide), fun p8 hp8 => ?_⟩
      have k8 := same_upd (o := .lst [.ref p7]) hp8
      refine ⟨.list [entD (("name" : Str), [97], 0)], .list [entD (("name" : Str), [97], 0)], .lst (SqL.of (k8 _ _ (k7 _ _ hb6))) (ents_dp (en6.two (k7.trans k8))), .lst (SqL.of upd_same) (.cons (.tup (.inl (.inl (k8 _ _ upd_same))) (.cons (.str _) (.cons (.str _) (.cons (.int _) .nil)))) .nil), (by decide +kernel), (by decide +kernel), ?_⟩
      rw [SeqAt.eqv_refl _ (SeqAt.canLay_of_shaped (by decide +kernel))]
      exact q _
end
end My

namespace My
open PySem PySem.Spec PyProof.Rows L2 XR
theorem kit_ref {K : PySem.W.Frag} {t : Value} {C : Addr} {b : Bool} (h1 : PySem.W.isClsIn K C = true) (h2 : PySem.W.typeIn K (.ref C) = some (.type "type")) (h3 : PySem.W.subIn K t (.ref C) = some b) (hb : (t == .ref C) = true → b = true) : PySem.W.kitOne K t (.ref C) = some b := by
  unfold PySem.W.kitOne
  by_cases e : (t == .ref C) = true
  · rw [if_pos e, hb e]
  · rw [if_neg e]
    show (if ((PySem.W.clsIn K C).isSome && PySem.W.typeIn K (.ref C) == some (.type "type")) = true then PySem.W.subIn K t (.ref C) else none) = some b
    have h1' : (PySem.W.clsIn K C).isSome = true := h1
    rw [if_pos (by rw [h1', h2] <;> rfl)]
    exact h3
theorem exm_ref {K : PySem.W.Frag} {t : Value} {C : Addr} {b : Bool} (h0 : PySem.W.subIn K (.ref C) (.type "BaseException") = some true) (h1 : PySem.W.isClsIn K C = true) (h2 : PySem.W.typeIn K (.ref C) = some (.type "type")) (h3 : PySem.W.subIn K t (.ref C) = some b) : PySem.W.exmOne K t (.ref C) = some b := by
  show (if (PySem.W.subIn K (.ref C) (.type "BaseException") == some true) = true then (if ((PySem.W.clsIn K C).isSome && PySem.W.typeIn K (.ref C) == some (.type "type")) = true then PySem.W.subIn K t (.ref C) else none) else none) = some b
  have h1' : (PySem.W.clsIn K C).isSome = true := h1
  rw [if_pos (by rw [h0] <;> rfl), if_pos (by rw [h1', h2] <;> rfl)]
  exact h3
theorem kit_self {K : PySem.W.Frag} {t : Value} : PySem.W.kitOne K t t = some true := by
  unfold PySem.W.kitOne
  rw [if_pos (beq_self_eq_true t)]
theorem kit_bi {K : PySem.W.Frag} {C : Addr} {T : String} {b : Bool} (hm : PySem.W.kitMeta T = true) (h3 : PySem.W.subIn K (.ref C) (.type T) = some b) : PySem.W.kitOne K (.ref C) (.type T) = some b := by
  unfold PySem.W.kitOne
  rw [if_neg (by intro z; have := beq_iff_eq.mp z; cases this)]
  show (if PySem.W.kitMeta T = true then PySem.W.subIn K (.ref C) (.type T) else none) = some b
  rw [if_pos hm]
  exact h3
theorem ne_ref {a b : Addr} (h : a ≠ b) {x : Bool} : ((Value.ref a == Value.ref b) = true → x = true) := fun z => absurd (Value.ref.inj (beq_iff_eq.mp z)) h
/-- of unlike classes neither is below the other: so they stand apart -/
theorem sub_ne {K : PySem.W.Frag} {a b : Addr} (h : PySem.W.subIn K (.ref a) (.ref b) = some false) (g : PySem.W.subIn K (.ref a) (.type "BaseException") = some true) (s : PySem.W.selfFirst K a = true) : a ≠ b := by
  intro e
  subst e
  unfold PySem.W.selfFirst at s
  replace h : PySem.W.mroIn K a (.ref a) = some false := h
  unfold PySem.W.mroIn at h
  cases hc : PySem.W.clsIn K a with
  | none => rw [hc] at s; cases s
  | some cd =>
    rw [hc] at s h
    simp only [Option.any_some, Option.bind_some, beq_iff_eq] at s h
    cases hm : cd.mro with
    | nil => rw [hm] at s; cases s
    | cons x r =>
      rw [hm] at s h
      have s' : some x = some (Value.ref a) := s
      cases s'
      simp at h

theorem all_mk {P : Program} {w : World} {K : PySem.W.Frag} {h : Heap} {mg : Str → Option Value} {fa c0 c1 c2 c3 c4 c5 c6 c7 c8 c9 cL : Addr} {tk0 : Tok}
    {nmT qT : Str} {NT : Addr} {bsT : List Value} {snT : List Str} {subT : List Value} {abT : Bool} {colT : Option Bool} {ddT : Option Addr} {m0T m1T m2T m3T m5T : Option Value} {ocT kVT docT pmT cdvT ctT oTT : Value} {odT anT oDT : Option Addr} {oslT slT : Array (Option Value)} {nT : Nat} {fT dT : Addr}
    {t12 t18 : Tok}
    {kKp0 kKp1 kKp2 kKp3 kKp4 kKp5 kKp6 kKp7 kKp8 kKp9 : Tok} {aKp : Addr} {oKp : Option Addr} {nKp : Nat} {slKp : Array (Option Value)}
    {kLo0 kLo1 kLo2 kLo3 kLo4 kLo5 : Tok} {aLo : Addr} {oLo : Option Addr} {nLo : Nat} {slLo : Array (Option Value)}
    {kSh0 kSh1 kSh2 kSh3 kSh4 kSh5 kSh6 kSh7 kSh8 kSh9 kSh10 kSh11 kSh12 kSh13 kSh14 kSh15 kSh16 kSh17 kSh18 kSh19 : Tok} {aSh : Addr} {oSh : Option Addr} {nSh : Nat} {slSh : Array (Option Value)}
    {aocM akVM adocM apmM acdM actM : Value} {aodM aanM : Option Addr} {aslM : Array (Option Value)} {afM : Addr}
    {aocC akVC adocC apmC acdC actC : Value} {aodC aanC : Option Addr} {aslC : Array (Option Value)} {afC : Addr}
    {aocK akVK adocK apmK acdK actK : Value} {aodK aanK : Option Addr} {aslK : Array (Option Value)} {afK : Addr}
    {aocO akVO adocO apmO acdO actO : Value} {aodO aanO : Option Addr} {aslO : Array (Option Value)} {afO : Addr}
    {aocPl akVPl adocPl apmPl acdPl actPl : Value} {aodPl aanPl : Option Addr} {aslPl : Array (Option Value)} {afPl : Addr}
    {aocPf akVPf adocPf apmPf acdPf actPf : Value} {aodPf aanPf : Option Addr} {aslPf : Array (Option Value)} {afPf : Addr}
    {aocPx akVPx adocPx apmPx acdPx actPx : Value} {aodPx aanPx : Option Addr} {aslPx : Array (Option Value)} {afPx : Addr}
    {aocPn akVPn adocPn apmPn acdPn actPn : Value} {aodPn aanPn : Option Addr} {aslPn : Array (Option Value)} {afPn : Addr}
    {aocPp akVPp adocPp apmPp acdPp actPp : Value} {aodPp aanPp : Option Addr} {aslPp : Array (Option Value)} {afPp : Addr}
    {aocPu akVPu adocPu apmPu acdPu actPu : Value} {aodPu aanPu : Option Addr} {aslPu : Array (Option Value)} {afPu : Addr}
    {aocPr akVPr adocPr apmPr acdPr actPr : Value} {aodPr aanPr : Option Addr} {aslPr : Array (Option Value)} {afPr : Addr}
    {aocPs akVPs adocPs apmPs acdPs actPs : Value} {aodPs aanPs : Option Addr} {aslPs : Array (Option Value)} {afPs : Addr}
    {aocPg akVPg adocPg apmPg acdPg actPg : Value} {aodPg aanPg : Option Addr} {aslPg : Array (Option Value)} {afPg : Addr}
    {aocPw akVPw adocPw apmPw acdPw actPw : Value} {aodPw aanPw : Option Addr} {aslPw : Array (Option Value)} {afPw : Addr}
    {aocLr akVLr adocLr apmLr acdLr actLr : Value} {aodLr aanLr : Option Addr} {aslLr : Array (Option Value)} {afLr : Addr}
    {aocLn akVLn adocLn apmLn acdLn actLn : Value} {aodLn aanLn : Option Addr} {aslLn : Array (Option Value)} {afLn : Addr}
    {aocLa akVLa adocLa apmLa acdLa actLa : Value} {aodLa aanLa : Option Addr} {aslLa : Array (Option Value)} {afLa : Addr}
    {aocLw akVLw adocLw apmLw acdLw actLw : Value} {aodLw aanLw : Option Addr} {aslLw : Array (Option Value)} {afLw : Addr}
    {aocLd akVLd adocLd apmLd acdLd actLd : Value} {aodLd aanLd : Option Addr} {aslLd : Array (Option Value)} {afLd : Addr}
    {aocLb akVLb adocLb apmLb acdLb actLb : Value} {aodLb aanLb : Option Addr} {aslLb : Array (Option Value)} {afLb : Addr}
    {aocLg akVLg adocLg apmLg acdLg actLg : Value} {aodLg aanLg : Option Addr} {aslLg : Array (Option Value)} {afLg : Addr}
    {aocW akVW adocW apmW acdW actW : Value} {aodW aanW : Option Addr} {aslW : Array (Option Value)} {afW : Addr}
    (X : K.In h) (G : h.Ns mainGlobals mg) (hfa : mg "law" = some (.ref fa))
    (g0 : PySem.W.nsIn K mainGlobals "NoText" = some (some (.ref c0)))
    (g1 : PySem.W.nsIn K mainGlobals "NoTree" = some (some (.ref c1)))
    (g2 : PySem.W.nsIn K mainGlobals "NoPath" = some (some (.ref c2)))
    (g3 : PySem.W.nsIn K mainGlobals "NoNaming" = some (some (.ref c3)))
    (g4 : PySem.W.nsIn K mainGlobals "NoLetters" = some (some (.ref c4)))
    (g5 : PySem.W.nsIn K mainGlobals "NoCount" = some (some (.ref c5)))
    (g6 : PySem.W.nsIn K mainGlobals "NoTurning" = some (some (.ref c6)))
    (g7 : PySem.W.nsIn K mainGlobals "NoMap" = some (some (.ref c7)))
    (g8 : PySem.W.nsIn K mainGlobals "NoLine" = some (some (.ref c8)))
    (g9 : PySem.W.nsIn K mainGlobals "TooMany" = some (some (.ref c9)))
    (gL : PySem.W.nsIn K mainGlobals "LeanError" = some (some (.ref cL)))
    (zI : PySem.W.nsIn K mainGlobals "isinstance" = some none)
    (zZ : PySem.W.nsIn K mainGlobals "zip" = some none)
    (zK : PySem.W.nsIn K mainGlobals "LookupError" = some none)
    (zA : PySem.W.nsIn K mainGlobals "ArithmeticError" = some none)
    (zV : PySem.W.nsIn K mainGlobals "ValueError" = some none)
    (zl : PySem.W.nsIn K mainGlobals "len" = some none)
    (zr : PySem.W.nsIn K mainGlobals "range" = some none)
    (zs : PySem.W.nsIn K mainGlobals "str" = some none)
    (za : PySem.W.nsIn K mainGlobals "all" = some none)
    (zi : PySem.W.nsIn K mainGlobals "int" = some none)
    (zt : PySem.W.nsIn K mainGlobals "list" = some none)
    (sn : PySem.W.specialIn K (.builtin "object.__class__") "__get__" = some (some (.builtin "getset_descriptor.__get__")))
    (st : PySem.W.takesIn K (.builtin "object.__class__") = some true)
    (hc0 : PySem.W.isClsIn K c0 = true)
    (hg0 : PySem.W.findIn K (.ref c0) "__getattribute__" = some (some (.builtin "BaseException.__getattribute__")))
    (hk0 : PySem.W.findIn K (.ref c0) "__getattr__" = some none)
    (hs0 : PySem.W.subIn K (.ref c0) (.type "BaseException") = some true)
    (hd0 : PySem.W.hasDictIn K c0 = true)
    (ha0 : PySem.W.findIn K (.ref c0) "__class__" = some (some (.builtin "object.__class__")))
    (hm0 : PySem.W.mroIn K c0 (.type "object") = some true)
    (ht0 : PySem.W.typeIn K (.ref c0) = some (.type "type"))
    (sK0 : PySem.W.subIn K (.ref c0) (.type "LookupError") = some false)
    (sA0 : PySem.W.subIn K (.ref c0) (.type "ArithmeticError") = some false)
    (sV0 : PySem.W.subIn K (.ref c0) (.type "ValueError") = some true)
    (sL0 : PySem.W.subIn K (.ref c0) (.ref cL) = some true)
    (s0_1 : PySem.W.subIn K (.ref c0) (.ref c1) = some false)
    (s0_2 : PySem.W.subIn K (.ref c0) (.ref c2) = some false)
    (s0_3 : PySem.W.subIn K (.ref c0) (.ref c3) = some false)
    (s0_4 : PySem.W.subIn K (.ref c0) (.ref c4) = some false)
    (s0_5 : PySem.W.subIn K (.ref c0) (.ref c5) = some false)
    (s0_6 : PySem.W.subIn K (.ref c0) (.ref c6) = some false)
    (s0_7 : PySem.W.subIn K (.ref c0) (.ref c7) = some false)
    (s0_8 : PySem.W.subIn K (.ref c0) (.ref c8) = some false)
    (s0_9 : PySem.W.subIn K (.ref c0) (.ref c9) = some false)
    (hc1 : PySem.W.isClsIn K c1 = true)
    (hg1 : PySem.W.findIn K (.ref c1) "__getattribute__" = some (some (.builtin "BaseException.__getattribute__")))
    (hk1 : PySem.W.findIn K (.ref c1) "__getattr__" = some none)
    (hs1 : PySem.W.subIn K (.ref c1) (.type "BaseException") = some true)
    (hd1 : PySem.W.hasDictIn K c1 = true)
    (ha1 : PySem.W.findIn K (.ref c1) "__class__" = some (some (.builtin "object.__class__")))
    (hm1 : PySem.W.mroIn K c1 (.type "object") = some true)
    (ht1 : PySem.W.typeIn K (.ref c1) = some (.type "type"))
    (sK1 : PySem.W.subIn K (.ref c1) (.type "LookupError") = some false)
    (sA1 : PySem.W.subIn K (.ref c1) (.type "ArithmeticError") = some false)
    (sV1 : PySem.W.subIn K (.ref c1) (.type "ValueError") = some true)
    (sL1 : PySem.W.subIn K (.ref c1) (.ref cL) = some true)
    (s1_0 : PySem.W.subIn K (.ref c1) (.ref c0) = some false)
    (s1_2 : PySem.W.subIn K (.ref c1) (.ref c2) = some false)
    (s1_3 : PySem.W.subIn K (.ref c1) (.ref c3) = some false)
    (s1_4 : PySem.W.subIn K (.ref c1) (.ref c4) = some false)
    (s1_5 : PySem.W.subIn K (.ref c1) (.ref c5) = some false)
    (s1_6 : PySem.W.subIn K (.ref c1) (.ref c6) = some false)
    (s1_7 : PySem.W.subIn K (.ref c1) (.ref c7) = some false)
    (s1_8 : PySem.W.subIn K (.ref c1) (.ref c8) = some false)
    (s1_9 : PySem.W.subIn K (.ref c1) (.ref c9) = some false)
    (hc2 : PySem.W.isClsIn K c2 = true)
    (hg2 : PySem.W.findIn K (.ref c2) "__getattribute__" = some (some (.builtin "BaseException.__getattribute__")))
    (hk2 : PySem.W.findIn K (.ref c2) "__getattr__" = some none)
    (hs2 : PySem.W.subIn K (.ref c2) (.type "BaseException") = some true)
    (hd2 : PySem.W.hasDictIn K c2 = true)
    (ha2 : PySem.W.findIn K (.ref c2) "__class__" = some (some (.builtin "object.__class__")))
    (hm2 : PySem.W.mroIn K c2 (.type "object") = some true)
    (ht2 : PySem.W.typeIn K (.ref c2) = some (.type "type"))
    (sK2 : PySem.W.subIn K (.ref c2) (.type "LookupError") = some false)
    (sA2 : PySem.W.subIn K (.ref c2) (.type "ArithmeticError") = some false)
    (sV2 : PySem.W.subIn K (.ref c2) (.type "ValueError") = some true)
    (sL2 : PySem.W.subIn K (.ref c2) (.ref cL) = some true)
    (s2_0 : PySem.W.subIn K (.ref c2) (.ref c0) = some false)
    (s2_1 : PySem.W.subIn K (.ref c2) (.ref c1) = some false)
    (s2_3 : PySem.W.subIn K (.ref c2) (.ref c3) = some false)
    (s2_4 : PySem.W.subIn K (.ref c2) (.ref c4) = some false)
    (s2_5 : PySem.W.subIn K (.ref c2) (.ref c5) = some false)
    (s2_6 : PySem.W.subIn K (.ref c2) (.ref c6) = some false)
    (s2_7 : PySem.W.subIn K (.ref c2) (.ref c7) = some false)
    (s2_8 : PySem.W.subIn K (.ref c2) (.ref c8) = some false)
    (s2_9 : PySem.W.subIn K (.ref c2) (.ref c9) = some false)
    (hc3 : PySem.W.isClsIn K c3 = true)
    (hg3 : PySem.W.findIn K (.ref c3) "__getattribute__" = some (some (.builtin "BaseException.__getattribute__")))
    (hk3 : PySem.W.findIn K (.ref c3) "__getattr__" = some none)
    (hs3 : PySem.W.subIn K (.ref c3) (.type "BaseException") = some true)
    (hd3 : PySem.W.hasDictIn K c3 = true)
    (ha3 : PySem.W.findIn K (.ref c3) "__class__" = some (some (.builtin "object.__class__")))
    (hm3 : PySem.W.mroIn K c3 (.type "object") = some true)
    (ht3 : PySem.W.typeIn K (.ref c3) = some (.type "type"))
    (sK3 : PySem.W.subIn K (.ref c3) (.type "LookupError") = some false)
    (sA3 : PySem.W.subIn K (.ref c3) (.type "ArithmeticError") = some false)
    (sV3 : PySem.W.subIn K (.ref c3) (.type "ValueError") = some true)
    (sL3 : PySem.W.subIn K (.ref c3) (.ref cL) = some true)
    (s3_0 : PySem.W.subIn K (.ref c3) (.ref c0) = some false)
    (s3_1 : PySem.W.subIn K (.ref c3) (.ref c1) = some false)
    (s3_2 : PySem.W.subIn K (.ref c3) (.ref c2) = some false)
    (s3_4 : PySem.W.subIn K (.ref c3) (.ref c4) = some false)
    (s3_5 : PySem.W.subIn K (.ref c3) (.ref c5) = some false)
    (s3_6 : PySem.W.subIn K (.ref c3) (.ref c6) = some false)
    (s3_7 : PySem.W.subIn K (.ref c3) (.ref c7) = some false)
    (s3_8 : PySem.W.subIn K (.ref c3) (.ref c8) = some false)
    (s3_9 : PySem.W.subIn K (.ref c3) (.ref c9) = some false)
    (hc4 : PySem.W.isClsIn K c4 = true)
    (hg4 : PySem.W.findIn K (.ref c4) "__getattribute__" = some (some (.builtin "BaseException.__getattribute__")))
    (hk4 : PySem.W.findIn K (.ref c4) "__getattr__" = some none)
    (hs4 : PySem.W.subIn K (.ref c4) (.type "BaseException") = some true)
    (hd4 : PySem.W.hasDictIn K c4 = true)
    (ha4 : PySem.W.findIn K (.ref c4) "__class__" = some (some (.builtin "object.__class__")))
    (hm4 : PySem.W.mroIn K c4 (.type "object") = some true)
    (ht4 : PySem.W.typeIn K (.ref c4) = some (.type "type"))
    (sK4 : PySem.W.subIn K (.ref c4) (.type "LookupError") = some false)
    (sA4 : PySem.W.subIn K (.ref c4) (.type "ArithmeticError") = some false)
    (sV4 : PySem.W.subIn K (.ref c4) (.type "ValueError") = some true)
    (sL4 : PySem.W.subIn K (.ref c4) (.ref cL) = some true)
    (s4_0 : PySem.W.subIn K (.ref c4) (.ref c0) = some false)
    (s4_1 : PySem.W.subIn K (.ref c4) (.ref c1) = some false)
    (s4_2 : PySem.W.subIn K (.ref c4) (.ref c2) = some false)
    (s4_3 : PySem.W.subIn K (.ref c4) (.ref c3) = some false)
    (s4_5 : PySem.W.subIn K (.ref c4) (.ref c5) = some false)
    (s4_6 : PySem.W.subIn K (.ref c4) (.ref c6) = some false)
    (s4_7 : PySem.W.subIn K (.ref c4) (.ref c7) = some false)
    (s4_8 : PySem.W.subIn K (.ref c4) (.ref c8) = some false)
    (s4_9 : PySem.W.subIn K (.ref c4) (.ref c9) = some false)
    (hc5 : PySem.W.isClsIn K c5 = true)
    (hg5 : PySem.W.findIn K (.ref c5) "__getattribute__" = some (some (.builtin "BaseException.__getattribute__")))
    (hk5 : PySem.W.findIn K (.ref c5) "__getattr__" = some none)
    (hs5 : PySem.W.subIn K (.ref c5) (.type "BaseException") = some true)
    (hd5 : PySem.W.hasDictIn K c5 = true)
    (ha5 : PySem.W.findIn K (.ref c5) "__class__" = some (some (.builtin "object.__class__")))
    (hm5 : PySem.W.mroIn K c5 (.type "object") = some true)
    (ht5 : PySem.W.typeIn K (.ref c5) = some (.type "type"))
    (sK5 : PySem.W.subIn K (.ref c5) (.type "LookupError") = some false)
    (sA5 : PySem.W.subIn K (.ref c5) (.type "ArithmeticError") = some false)
    (sV5 : PySem.W.subIn K (.ref c5) (.type "ValueError") = some true)
    (sL5 : PySem.W.subIn K (.ref c5) (.ref cL) = some true)
    (s5_0 : PySem.W.subIn K (.ref c5) (.ref c0) = some false)
    (s5_1 : PySem.W.subIn K (.ref c5) (.ref c1) = some false)
    (s5_2 : PySem.W.subIn K (.ref c5) (.ref c2) = some false)
    (s5_3 : PySem.W.subIn K (.ref c5) (.ref c3) = some false)
    (s5_4 : PySem.W.subIn K (.ref c5) (.ref c4) = some false)
    (s5_6 : PySem.W.subIn K (.ref c5) (.ref c6) = some false)
    (s5_7 : PySem.W.subIn K (.ref c5) (.ref c7) = some false)
    (s5_8 : PySem.W.subIn K (.ref c5) (.ref c8) = some false)
    (s5_9 : PySem.W.subIn K (.ref c5) (.ref c9) = some false)
    (hc6 : PySem.W.isClsIn K c6 = true)
    (hg6 : PySem.W.findIn K (.ref c6) "__getattribute__" = some (some (.builtin "BaseException.__getattribute__")))
    (hk6 : PySem.W.findIn K (.ref c6) "__getattr__" = some none)
    (hs6 : PySem.W.subIn K (.ref c6) (.type "BaseException") = some true)
    (hd6 : PySem.W.hasDictIn K c6 = true)
    (ha6 : PySem.W.findIn K (.ref c6) "__class__" = some (some (.builtin "object.__class__")))
    (hm6 : PySem.W.mroIn K c6 (.type "object") = some true)
    (ht6 : PySem.W.typeIn K (.ref c6) = some (.type "type"))
    (sK6 : PySem.W.subIn K (.ref c6) (.type "LookupError") = some false)
    (sA6 : PySem.W.subIn K (.ref c6) (.type "ArithmeticError") = some false)
    (sV6 : PySem.W.subIn K (.ref c6) (.type "ValueError") = some true)
    (sL6 : PySem.W.subIn K (.ref c6) (.ref cL) = some true)
    (s6_0 : PySem.W.subIn K (.ref c6) (.ref c0) = some false)
    (s6_1 : PySem.W.subIn K (.ref c6) (.ref c1) = some false)
    (s6_2 : PySem.W.subIn K (.ref c6) (.ref c2) = some false)
    (s6_3 : PySem.W.subIn K (.ref c6) (.ref c3) = some false)
    (s6_4 : PySem.W.subIn K (.ref c6) (.ref c4) = some false)
    (s6_5 : PySem.W.subIn K (.ref c6) (.ref c5) = some false)
    (s6_7 : PySem.W.subIn K (.ref c6) (.ref c7) = some false)
    (s6_8 : PySem.W.subIn K (.ref c6) (.ref c8) = some false)
    (s6_9 : PySem.W.subIn K (.ref c6) (.ref c9) = some false)
    (hc7 : PySem.W.isClsIn K c7 = true)
    (hg7 : PySem.W.findIn K (.ref c7) "__getattribute__" = some (some (.builtin "BaseException.__getattribute__")))
    (hk7 : PySem.W.findIn K (.ref c7) "__getattr__" = some none)
    (hs7 : PySem.W.subIn K (.ref c7) (.type "BaseException") = some true)
    (hd7 : PySem.W.hasDictIn K c7 = true)
    (ha7 : PySem.W.findIn K (.ref c7) "__class__" = some (some (.builtin "object.__class__")))
    (hm7 : PySem.W.mroIn K c7 (.type "object") = some true)
    (ht7 : PySem.W.typeIn K (.ref c7) = some (.type "type"))
    (sK7 : PySem.W.subIn K (.ref c7) (.type "LookupError") = some false)
    (sA7 : PySem.W.subIn K (.ref c7) (.type "ArithmeticError") = some false)
    (sV7 : PySem.W.subIn K (.ref c7) (.type "ValueError") = some true)
    (sL7 : PySem.W.subIn K (.ref c7) (.ref cL) = some true)
    (s7_0 : PySem.W.subIn K (.ref c7) (.ref c0) = some false)
    (s7_1 : PySem.W.subIn K (.ref c7) (.ref c1) = some false)
    (s7_2 : PySem.W.subIn K (.ref c7) (.ref c2) = some false)
    (s7_3 : PySem.W.subIn K (.ref c7) (.ref c3) = some false)
    (s7_4 : PySem.W.subIn K (.ref c7) (.ref c4) = some false)
    (s7_5 : PySem.W.subIn K (.ref c7) (.ref c5) = some false)
    (s7_6 : PySem.W.subIn K (.ref c7) (.ref c6) = some false)
    (s7_8 : PySem.W.subIn K (.ref c7) (.ref c8) = some false)
    (s7_9 : PySem.W.subIn K (.ref c7) (.ref c9) = some false)
    (hc8 : PySem.W.isClsIn K c8 = true)
    (hg8 : PySem.W.findIn K (.ref c8) "__getattribute__" = some (some (.builtin "BaseException.__getattribute__")))
    (hk8 : PySem.W.findIn K (.ref c8) "__getattr__" = some none)
    (hs8 : PySem.W.subIn K (.ref c8) (.type "BaseException") = some true)
    (hd8 : PySem.W.hasDictIn K c8 = true)
    (ha8 : PySem.W.findIn K (.ref c8) "__class__" = some (some (.builtin "object.__class__")))
    (hm8 : PySem.W.mroIn K c8 (.type "object") = some true)
    (ht8 : PySem.W.typeIn K (.ref c8) = some (.type "type"))
    (sK8 : PySem.W.subIn K (.ref c8) (.type "LookupError") = some false)
    (sA8 : PySem.W.subIn K (.ref c8) (.type "ArithmeticError") = some false)
    (sV8 : PySem.W.subIn K (.ref c8) (.type "ValueError") = some true)
    (sL8 : PySem.W.subIn K (.ref c8) (.ref cL) = some true)
    (s8_0 : PySem.W.subIn K (.ref c8) (.ref c0) = some false)
    (s8_1 : PySem.W.subIn K (.ref c8) (.ref c1) = some false)
    (s8_2 : PySem.W.subIn K (.ref c8) (.ref c2) = some false)
    (s8_3 : PySem.W.subIn K (.ref c8) (.ref c3) = some false)
    (s8_4 : PySem.W.subIn K (.ref c8) (.ref c4) = some false)
    (s8_5 : PySem.W.subIn K (.ref c8) (.ref c5) = some false)
    (s8_6 : PySem.W.subIn K (.ref c8) (.ref c6) = some false)
    (s8_7 : PySem.W.subIn K (.ref c8) (.ref c7) = some false)
    (s8_9 : PySem.W.subIn K (.ref c8) (.ref c9) = some false)
    (hc9 : PySem.W.isClsIn K c9 = true)
    (hg9 : PySem.W.findIn K (.ref c9) "__getattribute__" = some (some (.builtin "BaseException.__getattribute__")))
    (hk9 : PySem.W.findIn K (.ref c9) "__getattr__" = some none)
    (hs9 : PySem.W.subIn K (.ref c9) (.type "BaseException") = some true)
    (hd9 : PySem.W.hasDictIn K c9 = true)
    (ha9 : PySem.W.findIn K (.ref c9) "__class__" = some (some (.builtin "object.__class__")))
    (hm9 : PySem.W.mroIn K c9 (.type "object") = some true)
    (ht9 : PySem.W.typeIn K (.ref c9) = some (.type "type"))
    (sK9 : PySem.W.subIn K (.ref c9) (.type "LookupError") = some false)
    (sA9 : PySem.W.subIn K (.ref c9) (.type "ArithmeticError") = some false)
    (sV9 : PySem.W.subIn K (.ref c9) (.type "ValueError") = some true)
    (sL9 : PySem.W.subIn K (.ref c9) (.ref cL) = some true)
    (s9_0 : PySem.W.subIn K (.ref c9) (.ref c0) = some false)
    (s9_1 : PySem.W.subIn K (.ref c9) (.ref c1) = some false)
    (s9_2 : PySem.W.subIn K (.ref c9) (.ref c2) = some false)
    (s9_3 : PySem.W.subIn K (.ref c9) (.ref c3) = some false)
    (s9_4 : PySem.W.subIn K (.ref c9) (.ref c4) = some false)
    (s9_5 : PySem.W.subIn K (.ref c9) (.ref c5) = some false)
    (s9_6 : PySem.W.subIn K (.ref c9) (.ref c6) = some false)
    (s9_7 : PySem.W.subIn K (.ref c9) (.ref c7) = some false)
    (s9_8 : PySem.W.subIn K (.ref c9) (.ref c8) = some false)
    (cL1 : PySem.W.isClsIn K cL = true)
    (cL2 : PySem.W.typeIn K (.ref cL) = some (.type "type"))
    (xT : K.lookup c0 = some (excClassObj nmT qT c0 NT bsT (.ref cL :: [.type "ValueError", .type "Exception", .type "BaseException", .type "object"]) true snT subT abT colT ddT m0T m1T m2T m3T m5T "ValueError.__new__"))
    (saT : PySem.W.findIn K (.ref c0) "__setattr__" = some (some (.builtin "object.__setattr__")))
    (kcT : PySem.W.keepIn K (.ref c0) = true)
    (icT : PySem.W.findIn K (.ref c0) "__init__" = some (some (.ref fT)))
    (tiT : PySem.W.typeIn K (.ref fT) = some (.type "function"))
    (lfT : K.lookup fT = some ⟨ocT, odT, .func (PySem.W.fnOf "__init__" "NoText.__init__" (defArgs iText) (defBody iText) (defScope iText) (.ref dT) kVT docT pmT anT cdvT ctT), oslT⟩)
    (cfT : PySem.W.codeIn K cdvT "NoText.__init__" = true)
    (kfT : PySem.W.keepIn K (.ref fT) = true)
    (ldT : K.lookup dT = some ⟨oTT, oDT, .seq ([.int 0 tk0] : List Value).toArray nT, slT⟩)
    (nTat : PySem.W.findIn K (.ref c0) "at" = some none)
    (bL : PySem.W.subIn K (.ref cL) (.type "BaseException") = some true)
    (q12 : PySem.W.nsIn K mainGlobals "MOST_LETTERS" = some (some (.int 12 t12)))
    (q18 : PySem.W.nsIn K mainGlobals "MOST_FIGURES" = some (some (.int 18 t18)))
    (qKp : PySem.W.nsIn K mainGlobals "KEPT" = some (some (.ref aKp)))
    (lKp : K.lookup aKp = some ⟨.type "tuple", oKp, .seq ([.str "let" kKp0, .str "if" kKp1, .str "else" kKp2, .str "while" kKp3, .str "return" kKp4, .str "fail" kKp5, .str "try" kKp6, .str "catch" kKp7, .str "out" kKp8, .str "fn" kKp9] : List Value).toArray nKp, slKp⟩)
    (qLo : PySem.W.nsIn K mainGlobals "LONG_SIGNS" = some (some (.ref aLo)))
    (lLo : K.lookup aLo = some ⟨.type "tuple", oLo, .seq ([.str "<=" kLo0, .str ">=" kLo1, .str "==" kLo2, .str "!=" kLo3, .str "&&" kLo4, .str "||" kLo5] : List Value).toArray nLo, slLo⟩)
    (qSh : PySem.W.nsIn K mainGlobals "SHORT_SIGNS" = some (some (.ref aSh)))
    (lSh : K.lookup aSh = some ⟨.type "tuple", oSh, .seq ([.str "+" kSh0, .str "-" kSh1, .str "*" kSh2, .str "/" kSh3, .str "~" kSh4, .str "<" kSh5, .str ">" kSh6, .str "!" kSh7, .str "?" kSh8, .str ":" kSh9, .str "." kSh10, .str "," kSh11, .str "=" kSh12, .str "(" kSh13, .str ")" kSh14, .str "{" kSh15, .str "}" kSh16, .str "[" kSh17, .str "]" kSh18, .str ";" kSh19] : List Value).toArray nSh, slSh⟩)
    (aM : PySem.W.nsIn K mainGlobals "_law_mixed" = some (some (.ref afM)))
    (alM : K.lookup afM = some ⟨aocM, aodM, .func (PySem.W.fnOf "_law_mixed" "_law_mixed" (defArgs sMixed) (defBody sMixed) (defScope sMixed) .none akVM adocM apmM aanM acdM actM), aslM⟩)
    (acM : PySem.W.codeIn K acdM "_law_mixed" = true)
    (akM : PySem.W.keepIn K (.ref afM) = true)
    (aC : PySem.W.nsIn K mainGlobals "_law_cell" = some (some (.ref afC)))
    (alC : K.lookup afC = some ⟨aocC, aodC, .func (PySem.W.fnOf "_law_cell" "_law_cell" (defArgs sCell) (defBody sCell) (defScope sCell) .none akVC adocC apmC aanC acdC actC), aslC⟩)
    (acC : PySem.W.codeIn K acdC "_law_cell" = true)
    (akC : PySem.W.keepIn K (.ref afC) = true)
    (aK : PySem.W.nsIn K mainGlobals "_law_take" = some (some (.ref afK)))
    (alK : K.lookup afK = some ⟨aocK, aodK, .func (PySem.W.fnOf "_law_take" "_law_take" (defArgs sTake) (defBody sTake) (defScope sTake) .none akVK adocK apmK aanK acdK actK), aslK⟩)
    (acK : PySem.W.codeIn K acdK "_law_take" = true)
    (akK : PySem.W.keepIn K (.ref afK) = true)
    (aO : PySem.W.nsIn K mainGlobals "_law_only" = some (some (.ref afO)))
    (alO : K.lookup afO = some ⟨aocO, aodO, .func (PySem.W.fnOf "_law_only" "_law_only" (defArgs sOnly) (defBody sOnly) (defScope sOnly) .none akVO adocO apmO aanO acdO actO), aslO⟩)
    (acO : PySem.W.codeIn K acdO "_law_only" = true)
    (akO : PySem.W.keepIn K (.ref afO) = true)
    (aPl : PySem.W.nsIn K mainGlobals "is_letter" = some (some (.ref afPl)))
    (alPl : K.lookup afPl = some ⟨aocPl, aodPl, .func (PySem.W.fnOf "is_letter" "is_letter" (defArgs sLetter) (defBody sLetter) (defScope sLetter) .none akVPl adocPl apmPl aanPl acdPl actPl), aslPl⟩)
    (acPl : PySem.W.codeIn K acdPl "is_letter" = true)
    (akPl : PySem.W.keepIn K (.ref afPl) = true)
    (aPf : PySem.W.nsIn K mainGlobals "is_figure" = some (some (.ref afPf)))
    (alPf : K.lookup afPf = some ⟨aocPf, aodPf, .func (PySem.W.fnOf "is_figure" "is_figure" (defArgs sFigure) (defBody sFigure) (defScope sFigure) .none akVPf adocPf apmPf aanPf acdPf actPf), aslPf⟩)
    (acPf : PySem.W.codeIn K acdPf "is_figure" = true)
    (akPf : PySem.W.keepIn K (.ref afPf) = true)
    (aPx : PySem.W.nsIn K mainGlobals "is_letter_or_figure" = some (some (.ref afPx)))
    (alPx : K.lookup afPx = some ⟨aocPx, aodPx, .func (PySem.W.fnOf "is_letter_or_figure" "is_letter_or_figure" (defArgs sLF) (defBody sLF) (defScope sLF) .none akVPx adocPx apmPx aanPx acdPx actPx), aslPx⟩)
    (acPx : PySem.W.codeIn K acdPx "is_letter_or_figure" = true)
    (akPx : PySem.W.keepIn K (.ref afPx) = true)
    (aPn : PySem.W.nsIn K mainGlobals "is_name" = some (some (.ref afPn)))
    (alPn : K.lookup afPn = some ⟨aocPn, aodPn, .func (PySem.W.fnOf "is_name" "is_name" (defArgs sName) (defBody sName) (defScope sName) .none akVPn adocPn apmPn aanPn acdPn actPn), aslPn⟩)
    (acPn : PySem.W.codeIn K acdPn "is_name" = true)
    (akPn : PySem.W.keepIn K (.ref afPn) = true)
    (aPp : PySem.W.nsIn K mainGlobals "is_plain_number" = some (some (.ref afPp)))
    (alPp : K.lookup afPp = some ⟨aocPp, aodPp, .func (PySem.W.fnOf "is_plain_number" "is_plain_number" (defArgs sPlain) (defBody sPlain) (defScope sPlain) .none akVPp adocPp apmPp aanPp acdPp actPp), aslPp⟩)
    (acPp : PySem.W.codeIn K acdPp "is_plain_number" = true)
    (akPp : PySem.W.keepIn K (.ref afPp) = true)
    (aPu : PySem.W.nsIn K mainGlobals "is_number" = some (some (.ref afPu)))
    (alPu : K.lookup afPu = some ⟨aocPu, aodPu, .func (PySem.W.fnOf "is_number" "is_number" (defArgs sNumber) (defBody sNumber) (defScope sNumber) .none akVPu adocPu apmPu aanPu acdPu actPu), aslPu⟩)
    (acPu : PySem.W.codeIn K acdPu "is_number" = true)
    (akPu : PySem.W.keepIn K (.ref afPu) = true)
    (aPr : PySem.W.nsIn K mainGlobals "run_end" = some (some (.ref afPr)))
    (alPr : K.lookup afPr = some ⟨aocPr, aodPr, .func (PySem.W.fnOf "run_end" "run_end" (defArgs sRunEnd) (defBody sRunEnd) (defScope sRunEnd) .none akVPr adocPr apmPr aanPr acdPr actPr), aslPr⟩)
    (acPr : PySem.W.codeIn K acdPr "run_end" = true)
    (akPr : PySem.W.keepIn K (.ref afPr) = true)
    (aPs : PySem.W.nsIn K mainGlobals "sort_of" = some (some (.ref afPs)))
    (alPs : K.lookup afPs = some ⟨aocPs, aodPs, .func (PySem.W.fnOf "sort_of" "sort_of" (defArgs sSort) (defBody sSort) (defScope sSort) .none akVPs adocPs apmPs aanPs acdPs actPs), aslPs⟩)
    (acPs : PySem.W.codeIn K acdPs "sort_of" = true)
    (akPs : PySem.W.keepIn K (.ref afPs) = true)
    (aPg : PySem.W.nsIn K mainGlobals "sign_end" = some (some (.ref afPg)))
    (alPg : K.lookup afPg = some ⟨aocPg, aodPg, .func (PySem.W.fnOf "sign_end" "sign_end" (defArgs sSign) (defBody sSign) (defScope sSign) .none akVPg adocPg apmPg aanPg acdPg actPg), aslPg⟩)
    (acPg : PySem.W.codeIn K acdPg "sign_end" = true)
    (akPg : PySem.W.keepIn K (.ref afPg) = true)
    (aPw : PySem.W.nsIn K mainGlobals "words" = some (some (.ref afPw)))
    (alPw : K.lookup afPw = some ⟨aocPw, aodPw, .func (PySem.W.fnOf "words" "words" (defArgs sWords) (defBody sWords) (defScope sWords) .none akVPw adocPw apmPw aanPw acdPw actPw), aslPw⟩)
    (acPw : PySem.W.codeIn K acdPw "words" = true)
    (akPw : PySem.W.keepIn K (.ref afPw) = true)
    (aLr : PySem.W.nsIn K mainGlobals "_law_run_end" = some (some (.ref afLr)))
    (alLr : K.lookup afLr = some ⟨aocLr, aodLr, .func (PySem.W.fnOf "_law_run_end" "_law_run_end" (defArgs sLRun) (defBody sLRun) (defScope sLRun) .none akVLr adocLr apmLr aanLr acdLr actLr), aslLr⟩)
    (acLr : PySem.W.codeIn K acdLr "_law_run_end" = true)
    (akLr : PySem.W.keepIn K (.ref afLr) = true)
    (aLn : PySem.W.nsIn K mainGlobals "_law_number_end" = some (some (.ref afLn)))
    (alLn : K.lookup afLn = some ⟨aocLn, aodLn, .func (PySem.W.fnOf "_law_number_end" "_law_number_end" (defArgs sLNum) (defBody sLNum) (defScope sLNum) .none akVLn adocLn apmLn aanLn acdLn actLn), aslLn⟩)
    (acLn : PySem.W.codeIn K acdLn "_law_number_end" = true)
    (akLn : PySem.W.keepIn K (.ref afLn) = true)
    (aLa : PySem.W.nsIn K mainGlobals "_law_word_at" = some (some (.ref afLa)))
    (alLa : K.lookup afLa = some ⟨aocLa, aodLa, .func (PySem.W.fnOf "_law_word_at" "_law_word_at" (defArgs sLAt) (defBody sLAt) (defScope sLAt) .none akVLa adocLa apmLa aanLa acdLa actLa), aslLa⟩)
    (acLa : PySem.W.codeIn K acdLa "_law_word_at" = true)
    (akLa : PySem.W.keepIn K (.ref afLa) = true)
    (aLw : PySem.W.nsIn K mainGlobals "_law_words" = some (some (.ref afLw)))
    (alLw : K.lookup afLw = some ⟨aocLw, aodLw, .func (PySem.W.fnOf "_law_words" "_law_words" (defArgs sLWords) (defBody sLWords) (defScope sLWords) .none akVLw adocLw apmLw aanLw acdLw actLw), aslLw⟩)
    (acLw : PySem.W.codeIn K acdLw "_law_words" = true)
    (akLw : PySem.W.keepIn K (.ref afLw) = true)
    (aLd : PySem.W.nsIn K mainGlobals "_law_drawn" = some (some (.ref afLd)))
    (alLd : K.lookup afLd = some ⟨aocLd, aodLd, .func (PySem.W.fnOf "_law_drawn" "_law_drawn" (defArgs sDrawn) (defBody sDrawn) (defScope sDrawn) .none akVLd adocLd apmLd aanLd acdLd actLd), aslLd⟩)
    (acLd : PySem.W.codeIn K acdLd "_law_drawn" = true)
    (akLd : PySem.W.keepIn K (.ref afLd) = true)
    (aLb : PySem.W.nsIn K mainGlobals "_law_bent" = some (some (.ref afLb)))
    (alLb : K.lookup afLb = some ⟨aocLb, aodLb, .func (PySem.W.fnOf "_law_bent" "_law_bent" (defArgs sBent) (defBody sBent) (defScope sBent) .none akVLb adocLb apmLb aanLb acdLb actLb), aslLb⟩)
    (acLb : PySem.W.codeIn K acdLb "_law_bent" = true)
    (akLb : PySem.W.keepIn K (.ref afLb) = true)
    (aLg : PySem.W.nsIn K mainGlobals "_law_good" = some (some (.ref afLg)))
    (alLg : K.lookup afLg = some ⟨aocLg, aodLg, .func (PySem.W.fnOf "_law_good" "_law_good" (defArgs sGood) (defBody sGood) (defScope sGood) .none akVLg adocLg apmLg aanLg acdLg actLg), aslLg⟩)
    (acLg : PySem.W.codeIn K acdLg "_law_good" = true)
    (akLg : PySem.W.keepIn K (.ref afLg) = true)
    (aW : PySem.W.nsIn K mainGlobals "law" = some (some (.ref afW)))
    (alW : K.lookup afW = some ⟨aocW, aodW, .func (PySem.W.fnOf "law" "law" (defArgs sLaw) (defBody sLaw) (defScope sLaw) .none akVW adocW apmW aanW acdW actW), aslW⟩)
    (acW : PySem.W.codeIn K acdW "law" = true)
    (akW : PySem.W.keepIn K (.ref afW) = true)
    (sf0 : PySem.W.selfFirst K c0 = true)
    (sf1 : PySem.W.selfFirst K c1 = true)
    (sf2 : PySem.W.selfFirst K c2 = true)
    (sf3 : PySem.W.selfFirst K c3 = true)
    (sf4 : PySem.W.selfFirst K c4 = true)
    (sf5 : PySem.W.selfFirst K c5 = true)
    (sf6 : PySem.W.selfFirst K c6 = true)
    (sf7 : PySem.W.selfFirst K c7 = true)
    (sf8 : PySem.W.selfFirst K c8 = true)
    (sf9 : PySem.W.selfFirst K c9 = true)
    : ∃ fd : FuncData, (∀ (s : Shared) (u : Value), BindsTo s fd ⟨[u], []⟩ [("script", u)]) ∧ ∀ base : Heap, K.In base → base.Ns mainGlobals mg → FnOk P w K mg base CX0 7 fa fd ["script"] (spLaw K) := by
  have e := hfa.symm.trans (PySem.W.mg_of X G aW)
  cases e
  have T : Ten K mg (fun i => [c0, c1, c2, c3, c4, c5, c6, c7, c8, c9].getD i 0) cL := {
    g := fun i hi => match i, hi with
      | 0, _ => PySem.W.mg_of X G g0
      | 1, _ => PySem.W.mg_of X G g1
      | 2, _ => PySem.W.mg_of X G g2
      | 3, _ => PySem.W.mg_of X G g3
      | 4, _ => PySem.W.mg_of X G g4
      | 5, _ => PySem.W.mg_of X G g5
      | 6, _ => PySem.W.mg_of X G g6
      | 7, _ => PySem.W.mg_of X G g7
      | 8, _ => PySem.W.mg_of X G g8
      | 9, _ => PySem.W.mg_of X G g9
    gL := PySem.W.mg_of X G gL
    gI := PySem.W.mg_none_of X G zI
    gZ := PySem.W.mg_none_of X G zZ
    gK := PySem.W.mg_none_of X G zK
    gA := PySem.W.mg_none_of X G zA
    gV := PySem.W.mg_none_of X G zV
    isOne := fun i j hi hj => match i, hi, j, hj with
      | 0, _, 0, _ => kit_self
      | 0, _, 1, _ => kit_ref hc1 ht1 s0_1 (ne_ref (sub_ne s0_1 hs0 sf0))
      | 0, _, 2, _ => kit_ref hc2 ht2 s0_2 (ne_ref (sub_ne s0_2 hs0 sf0))
      | 0, _, 3, _ => kit_ref hc3 ht3 s0_3 (ne_ref (sub_ne s0_3 hs0 sf0))
      | 0, _, 4, _ => kit_ref hc4 ht4 s0_4 (ne_ref (sub_ne s0_4 hs0 sf0))
      | 0, _, 5, _ => kit_ref hc5 ht5 s0_5 (ne_ref (sub_ne s0_5 hs0 sf0))
      | 0, _, 6, _ => kit_ref hc6 ht6 s0_6 (ne_ref (sub_ne s0_6 hs0 sf0))
      | 0, _, 7, _ => kit_ref hc7 ht7 s0_7 (ne_ref (sub_ne s0_7 hs0 sf0))
      | 0, _, 8, _ => kit_ref hc8 ht8 s0_8 (ne_ref (sub_ne s0_8 hs0 sf0))
      | 0, _, 9, _ => kit_ref hc9 ht9 s0_9 (ne_ref (sub_ne s0_9 hs0 sf0))
      | 1, _, 0, _ => kit_ref hc0 ht0 s1_0 (ne_ref (sub_ne s1_0 hs1 sf1))
      | 1, _, 1, _ => kit_self
      | 1, _, 2, _ => kit_ref hc2 ht2 s1_2 (ne_ref (sub_ne s1_2 hs1 sf1))
      | 1, _, 3, _ => kit_ref hc3 ht3 s1_3 (ne_ref (sub_ne s1_3 hs1 sf1))
      | 1, _, 4, _ => kit_ref hc4 ht4 s1_4 (ne_ref (sub_ne s1_4 hs1 sf1))
      | 1, _, 5, _ => kit_ref hc5 ht5 s1_5 (ne_ref (sub_ne s1_5 hs1 sf1))
      | 1, _, 6, _ => kit_ref hc6 ht6 s1_6 (ne_ref (sub_ne s1_6 hs1 sf1))
      | 1, _, 7, _ => kit_ref hc7 ht7 s1_7 (ne_ref (sub_ne s1_7 hs1 sf1))
      | 1, _, 8, _ => kit_ref hc8 ht8 s1_8 (ne_ref (sub_ne s1_8 hs1 sf1))
      | 1, _, 9, _ => kit_ref hc9 ht9 s1_9 (ne_ref (sub_ne s1_9 hs1 sf1))
      | 2, _, 0, _ => kit_ref hc0 ht0 s2_0 (ne_ref (sub_ne s2_0 hs2 sf2))
      | 2, _, 1, _ => kit_ref hc1 ht1 s2_1 (ne_ref (sub_ne s2_1 hs2 sf2))
      | 2, _, 2, _ => kit_self
      | 2, _, 3, _ => kit_ref hc3 ht3 s2_3 (ne_ref (sub_ne s2_3 hs2 sf2))
      | 2, _, 4, _ => kit_ref hc4 ht4 s2_4 (ne_ref (sub_ne s2_4 hs2 sf2))
      | 2, _, 5, _ => kit_ref hc5 ht5 s2_5 (ne_ref (sub_ne s2_5 hs2 sf2))
      | 2, _, 6, _ => kit_ref hc6 ht6 s2_6 (ne_ref (sub_ne s2_6 hs2 sf2))
      | 2, _, 7, _ => kit_ref hc7 ht7 s2_7 (ne_ref (sub_ne s2_7 hs2 sf2))
      | 2, _, 8, _ => kit_ref hc8 ht8 s2_8 (ne_ref (sub_ne s2_8 hs2 sf2))
      | 2, _, 9, _ => kit_ref hc9 ht9 s2_9 (ne_ref (sub_ne s2_9 hs2 sf2))
      | 3, _, 0, _ => kit_ref hc0 ht0 s3_0 (ne_ref (sub_ne s3_0 hs3 sf3))
      | 3, _, 1, _ => kit_ref hc1 ht1 s3_1 (ne_ref (sub_ne s3_1 hs3 sf3))
      | 3, _, 2, _ => kit_ref hc2 ht2 s3_2 (ne_ref (sub_ne s3_2 hs3 sf3))
      | 3, _, 3, _ => kit_self
      | 3, _, 4, _ => kit_ref hc4 ht4 s3_4 (ne_ref (sub_ne s3_4 hs3 sf3))
      | 3, _, 5, _ => kit_ref hc5 ht5 s3_5 (ne_ref (sub_ne s3_5 hs3 sf3))
      | 3, _, 6, _ => kit_ref hc6 ht6 s3_6 (ne_ref (sub_ne s3_6 hs3 sf3))
      | 3, _, 7, _ => kit_ref hc7 ht7 s3_7 (ne_ref (sub_ne s3_7 hs3 sf3))
      | 3, _, 8, _ => kit_ref hc8 ht8 s3_8 (ne_ref (sub_ne s3_8 hs3 sf3))
      | 3, _, 9, _ => kit_ref hc9 ht9 s3_9 (ne_ref (sub_ne s3_9 hs3 sf3))
      | 4, _, 0, _ => kit_ref hc0 ht0 s4_0 (ne_ref (sub_ne s4_0 hs4 sf4))
      | 4, _, 1, _ => kit_ref hc1 ht1 s4_1 (ne_ref (sub_ne s4_1 hs4 sf4))
      | 4, _, 2, _ => kit_ref hc2 ht2 s4_2 (ne_ref (sub_ne s4_2 hs4 sf4))
      | 4, _, 3, _ => kit_ref hc3 ht3 s4_3 (ne_ref (sub_ne s4_3 hs4 sf4))
      | 4, _, 4, _ => kit_self
      | 4, _, 5, _ => kit_ref hc5 ht5 s4_5 (ne_ref (sub_ne s4_5 hs4 sf4))
      | 4, _, 6, _ => kit_ref hc6 ht6 s4_6 (ne_ref (sub_ne s4_6 hs4 sf4))
      | 4, _, 7, _ => kit_ref hc7 ht7 s4_7 (ne_ref (sub_ne s4_7 hs4 sf4))
      | 4, _, 8, _ => kit_ref hc8 ht8 s4_8 (ne_ref (sub_ne s4_8 hs4 sf4))
      | 4, _, 9, _ => kit_ref hc9 ht9 s4_9 (ne_ref (sub_ne s4_9 hs4 sf4))
      | 5, _, 0, _ => kit_ref hc0 ht0 s5_0 (ne_ref (sub_ne s5_0 hs5 sf5))
      | 5, _, 1, _ => kit_ref hc1 ht1 s5_1 (ne_ref (sub_ne s5_1 hs5 sf5))
      | 5, _, 2, _ => kit_ref hc2 ht2 s5_2 (ne_ref (sub_ne s5_2 hs5 sf5))
      | 5, _, 3, _ => kit_ref hc3 ht3 s5_3 (ne_ref (sub_ne s5_3 hs5 sf5))
      | 5, _, 4, _ => kit_ref hc4 ht4 s5_4 (ne_ref (sub_ne s5_4 hs5 sf5))
      | 5, _, 5, _ => kit_self
      | 5, _, 6, _ => kit_ref hc6 ht6 s5_6 (ne_ref (sub_ne s5_6 hs5 sf5))
      | 5, _, 7, _ => kit_ref hc7 ht7 s5_7 (ne_ref (sub_ne s5_7 hs5 sf5))
      | 5, _, 8, _ => kit_ref hc8 ht8 s5_8 (ne_ref (sub_ne s5_8 hs5 sf5))
      | 5, _, 9, _ => kit_ref hc9 ht9 s5_9 (ne_ref (sub_ne s5_9 hs5 sf5))
      | 6, _, 0, _ => kit_ref hc0 ht0 s6_0 (ne_ref (sub_ne s6_0 hs6 sf6))
      | 6, _, 1, _ => kit_ref hc1 ht1 s6_1 (ne_ref (sub_ne s6_1 hs6 sf6))
      | 6, _, 2, _ => kit_ref hc2 ht2 s6_2 (ne_ref (sub_ne s6_2 hs6 sf6))
      | 6, _, 3, _ => kit_ref hc3 ht3 s6_3 (ne_ref (sub_ne s6_3 hs6 sf6))
      | 6, _, 4, _ => kit_ref hc4 ht4 s6_4 (ne_ref (sub_ne s6_4 hs6 sf6))
      | 6, _, 5, _ => kit_ref hc5 ht5 s6_5 (ne_ref (sub_ne s6_5 hs6 sf6))
      | 6, _, 6, _ => kit_self
      | 6, _, 7, _ => kit_ref hc7 ht7 s6_7 (ne_ref (sub_ne s6_7 hs6 sf6))
      | 6, _, 8, _ => kit_ref hc8 ht8 s6_8 (ne_ref (sub_ne s6_8 hs6 sf6))
      | 6, _, 9, _ => kit_ref hc9 ht9 s6_9 (ne_ref (sub_ne s6_9 hs6 sf6))
      | 7, _, 0, _ => kit_ref hc0 ht0 s7_0 (ne_ref (sub_ne s7_0 hs7 sf7))
      | 7, _, 1, _ => kit_ref hc1 ht1 s7_1 (ne_ref (sub_ne s7_1 hs7 sf7))
      | 7, _, 2, _ => kit_ref hc2 ht2 s7_2 (ne_ref (sub_ne s7_2 hs7 sf7))
      | 7, _, 3, _ => kit_ref hc3 ht3 s7_3 (ne_ref (sub_ne s7_3 hs7 sf7))
      | 7, _, 4, _ => kit_ref hc4 ht4 s7_4 (ne_ref (sub_ne s7_4 hs7 sf7))
      | 7, _, 5, _ => kit_ref hc5 ht5 s7_5 (ne_ref (sub_ne s7_5 hs7 sf7))
      | 7, _, 6, _ => kit_ref hc6 ht6 s7_6 (ne_ref (sub_ne s7_6 hs7 sf7))
      | 7, _, 7, _ => kit_self
      | 7, _, 8, _ => kit_ref hc8 ht8 s7_8 (ne_ref (sub_ne s7_8 hs7 sf7))
      | 7, _, 9, _ => kit_ref hc9 ht9 s7_9 (ne_ref (sub_ne s7_9 hs7 sf7))
      | 8, _, 0, _ => kit_ref hc0 ht0 s8_0 (ne_ref (sub_ne s8_0 hs8 sf8))
      | 8, _, 1, _ => kit_ref hc1 ht1 s8_1 (ne_ref (sub_ne s8_1 hs8 sf8))
      | 8, _, 2, _ => kit_ref hc2 ht2 s8_2 (ne_ref (sub_ne s8_2 hs8 sf8))
      | 8, _, 3, _ => kit_ref hc3 ht3 s8_3 (ne_ref (sub_ne s8_3 hs8 sf8))
      | 8, _, 4, _ => kit_ref hc4 ht4 s8_4 (ne_ref (sub_ne s8_4 hs8 sf8))
      | 8, _, 5, _ => kit_ref hc5 ht5 s8_5 (ne_ref (sub_ne s8_5 hs8 sf8))
      | 8, _, 6, _ => kit_ref hc6 ht6 s8_6 (ne_ref (sub_ne s8_6 hs8 sf8))
      | 8, _, 7, _ => kit_ref hc7 ht7 s8_7 (ne_ref (sub_ne s8_7 hs8 sf8))
      | 8, _, 8, _ => kit_self
      | 8, _, 9, _ => kit_ref hc9 ht9 s8_9 (ne_ref (sub_ne s8_9 hs8 sf8))
      | 9, _, 0, _ => kit_ref hc0 ht0 s9_0 (ne_ref (sub_ne s9_0 hs9 sf9))
      | 9, _, 1, _ => kit_ref hc1 ht1 s9_1 (ne_ref (sub_ne s9_1 hs9 sf9))
      | 9, _, 2, _ => kit_ref hc2 ht2 s9_2 (ne_ref (sub_ne s9_2 hs9 sf9))
      | 9, _, 3, _ => kit_ref hc3 ht3 s9_3 (ne_ref (sub_ne s9_3 hs9 sf9))
      | 9, _, 4, _ => kit_ref hc4 ht4 s9_4 (ne_ref (sub_ne s9_4 hs9 sf9))
      | 9, _, 5, _ => kit_ref hc5 ht5 s9_5 (ne_ref (sub_ne s9_5 hs9 sf9))
      | 9, _, 6, _ => kit_ref hc6 ht6 s9_6 (ne_ref (sub_ne s9_6 hs9 sf9))
      | 9, _, 7, _ => kit_ref hc7 ht7 s9_7 (ne_ref (sub_ne s9_7 hs9 sf9))
      | 9, _, 8, _ => kit_ref hc8 ht8 s9_8 (ne_ref (sub_ne s9_8 hs9 sf9))
      | 9, _, 9, _ => kit_self
    isK := fun i hi => match i, hi with
      | 0, _ => kit_bi (by decide +kernel) sK0
      | 1, _ => kit_bi (by decide +kernel) sK1
      | 2, _ => kit_bi (by decide +kernel) sK2
      | 3, _ => kit_bi (by decide +kernel) sK3
      | 4, _ => kit_bi (by decide +kernel) sK4
      | 5, _ => kit_bi (by decide +kernel) sK5
      | 6, _ => kit_bi (by decide +kernel) sK6
      | 7, _ => kit_bi (by decide +kernel) sK7
      | 8, _ => kit_bi (by decide +kernel) sK8
      | 9, _ => kit_bi (by decide +kernel) sK9
    isA := fun i hi => match i, hi with
      | 0, _ => kit_bi (by decide +kernel) sA0
      | 1, _ => kit_bi (by decide +kernel) sA1
      | 2, _ => kit_bi (by decide +kernel) sA2
      | 3, _ => kit_bi (by decide +kernel) sA3
      | 4, _ => kit_bi (by decide +kernel) sA4
      | 5, _ => kit_bi (by decide +kernel) sA5
      | 6, _ => kit_bi (by decide +kernel) sA6
      | 7, _ => kit_bi (by decide +kernel) sA7
      | 8, _ => kit_bi (by decide +kernel) sA8
      | 9, _ => kit_bi (by decide +kernel) sA9
    isL := fun i hi => match i, hi with
      | 0, _ => kit_ref cL1 cL2 sL0 (fun _ => rfl)
      | 1, _ => kit_ref cL1 cL2 sL1 (fun _ => rfl)
      | 2, _ => kit_ref cL1 cL2 sL2 (fun _ => rfl)
      | 3, _ => kit_ref cL1 cL2 sL3 (fun _ => rfl)
      | 4, _ => kit_ref cL1 cL2 sL4 (fun _ => rfl)
      | 5, _ => kit_ref cL1 cL2 sL5 (fun _ => rfl)
      | 6, _ => kit_ref cL1 cL2 sL6 (fun _ => rfl)
      | 7, _ => kit_ref cL1 cL2 sL7 (fun _ => rfl)
      | 8, _ => kit_ref cL1 cL2 sL8 (fun _ => rfl)
      | 9, _ => kit_ref cL1 cL2 sL9 (fun _ => rfl)
    isV := fun i hi => match i, hi with
      | 0, _ => kit_bi (by decide +kernel) sV0
      | 1, _ => kit_bi (by decide +kernel) sV1
      | 2, _ => kit_bi (by decide +kernel) sV2
      | 3, _ => kit_bi (by decide +kernel) sV3
      | 4, _ => kit_bi (by decide +kernel) sV4
      | 5, _ => kit_bi (by decide +kernel) sV5
      | 6, _ => kit_bi (by decide +kernel) sV6
      | 7, _ => kit_bi (by decide +kernel) sV7
      | 8, _ => kit_bi (by decide +kernel) sV8
      | 9, _ => kit_bi (by decide +kernel) sV9
    ek := fun i hi => match i, hi with
      | 0, _ => ⟨hc0, hg0, hk0, hs0, hd0, ha0, sn, st, hm0⟩
      | 1, _ => ⟨hc1, hg1, hk1, hs1, hd1, ha1, sn, st, hm1⟩
      | 2, _ => ⟨hc2, hg2, hk2, hs2, hd2, ha2, sn, st, hm2⟩
      | 3, _ => ⟨hc3, hg3, hk3, hs3, hd3, ha3, sn, st, hm3⟩
      | 4, _ => ⟨hc4, hg4, hk4, hs4, hd4, ha4, sn, st, hm4⟩
      | 5, _ => ⟨hc5, hg5, hk5, hs5, hd5, ha5, sn, st, hm5⟩
      | 6, _ => ⟨hc6, hg6, hk6, hs6, hd6, ha6, sn, st, hm6⟩
      | 7, _ => ⟨hc7, hg7, hk7, hs7, hd7, ha7, sn, st, hm7⟩
      | 8, _ => ⟨hc8, hg8, hk8, hs8, hd8, ha8, sn, st, hm8⟩
      | 9, _ => ⟨hc9, hg9, hk9, hs9, hd9, ha9, sn, st, hm9⟩ }
  have oT : OexC K c0 := ⟨⟨_, _, _, _, _, _, _, _, _, _, _, _, _, _, _, xT, rfl⟩, saT, hs0, ht0, kcT⟩
  have FT : FunD K "__init__" "NoText.__init__" (defArgs iText) (defBody iText) (defScope iText) [.int 0] [] fT _ := ⟨⟨_, _, _, _, _, _, _, _, _, _, rfl, lfT, cfT, .inr ⟨by simp, _, _, _, _, rfl, ldT, rfl, .cons ⟨_, rfl⟩ .nil⟩, .inl rfl⟩, kfT⟩
  have C : TextC K mg ((fun i => [c0, c1, c2, c3, c4, c5, c6, c7, c8, c9].getD i 0) 0) fT _ := { o := oT, i := icT, t := tiT, F := FT, n := nTat, g := PySem.W.mg_of X G g0 }
  have GL : Glo K mg aKp aLo aSh := {
    mI := PySem.W.mg_none_of X G zI, mS := PySem.W.mg_none_of X G zs, mA := PySem.W.mg_none_of X G za, mL := PySem.W.mg_none_of X G zl, mN := PySem.W.mg_none_of X G zi, c12 := ⟨_, PySem.W.mg_of X G q12⟩, c18 := ⟨_, PySem.W.mg_of X G q18⟩, gK := PySem.W.mg_of X G qKp, gLo := PySem.W.mg_of X G qLo, gSh := PySem.W.mg_of X G qSh
    sK := fun H => .inr ⟨_, _, _, lKp, rfl, rfl, by show 10 ≤ sizeLine; decide, (.cons ⟨_, rfl⟩ (.cons ⟨_, rfl⟩ (.cons ⟨_, rfl⟩ (.cons ⟨_, rfl⟩ (.cons ⟨_, rfl⟩ (.cons ⟨_, rfl⟩ (.cons ⟨_, rfl⟩ (.cons ⟨_, rfl⟩ (.cons ⟨_, rfl⟩ (.cons ⟨_, rfl⟩ .nil))))))))))⟩
    sLo := fun H => .inr ⟨_, _, _, lLo, rfl, rfl, by show 6 ≤ sizeLine; decide, (.cons ⟨_, rfl⟩ (.cons ⟨_, rfl⟩ (.cons ⟨_, rfl⟩ (.cons ⟨_, rfl⟩ (.cons ⟨_, rfl⟩ (.cons ⟨_, rfl⟩ .nil))))))⟩
    sSh := fun H => .inr ⟨_, _, _, lSh, rfl, rfl, by show 20 ≤ sizeLine; decide, (.cons ⟨_, rfl⟩ (.cons ⟨_, rfl⟩ (.cons ⟨_, rfl⟩ (.cons ⟨_, rfl⟩ (.cons ⟨_, rfl⟩ (.cons ⟨_, rfl⟩ (.cons ⟨_, rfl⟩ (.cons ⟨_, rfl⟩ (.cons ⟨_, rfl⟩ (.cons ⟨_, rfl⟩ (.cons ⟨_, rfl⟩ (.cons ⟨_, rfl⟩ (.cons ⟨_, rfl⟩ (.cons ⟨_, rfl⟩ (.cons ⟨_, rfl⟩ (.cons ⟨_, rfl⟩ (.cons ⟨_, rfl⟩ (.cons ⟨_, rfl⟩ (.cons ⟨_, rfl⟩ (.cons ⟨_, rfl⟩ .nil))))))))))))))))))))⟩ }
  have DM := fun_mk (st := sMixed) alM acM akM
  have DC := fun_mk (st := sCell) alC acC akC
  have DK := fun_mk (st := sTake) alK acK akK
  have DO := fun_mk (st := sOnly) alO acO akO
  have DPl := fun_mk (st := sLetter) alPl acPl akPl
  have DPf := fun_mk (st := sFigure) alPf acPf akPf
  have DPx := fun_mk (st := sLF) alPx acPx akPx
  have DPn := fun_mk (st := sName) alPn acPn akPn
  have DPp := fun_mk (st := sPlain) alPp acPp akPp
  have DPu := fun_mk (st := sNumber) alPu acPu akPu
  have DPr := fun_mk (st := sRunEnd) alPr acPr akPr
  have DPs := fun_mk (st := sSort) alPs acPs akPs
  have DPg := fun_mk (st := sSign) alPg acPg akPg
  have DPw := fun_mk (st := sWords) alPw acPw akPw
  have DLr := fun_mk (st := sLRun) alLr acLr akLr
  have DLn := fun_mk (st := sLNum) alLn acLn akLn
  have DLa := fun_mk (st := sLAt) alLa acLa akLa
  have DLw := fun_mk (st := sLWords) alLw acLw akLw
  have DLd := fun_mk (st := sDrawn) alLd acLd akLd
  have DLb := fun_mk (st := sBent) alLb acLb akLb
  have DLg := fun_mk (st := sGood) alLg acLg akLg
  have DW := fun_mk (st := sLaw) alW acW akW
  have BM := DM.binds (ps := ["cell", "k"]) fun _ _ _ _ _ _ us hl => match us, hl with | [_, _], _ => rfl
  have BC := DC.binds (ps := ["script", "k"]) fun _ _ _ _ _ _ us hl => match us, hl with | [_, _], _ => rfl
  have BK := DK.binds (ps := ["pile", "size"]) fun _ _ _ _ _ _ us hl => match us, hl with | [_, _], _ => rfl
  have BO := DO.binds (ps := ["caught", "name"]) fun _ _ _ _ _ _ us hl => match us, hl with | [_, _], _ => rfl
  have BPl := DPl.binds (ps := ["sign"]) fun _ _ _ _ _ _ us hl => match us, hl with | [_], _ => rfl
  have BPf := DPf.binds (ps := ["sign"]) fun _ _ _ _ _ _ us hl => match us, hl with | [_], _ => rfl
  have BPx := DPx.binds (ps := ["sign"]) fun _ _ _ _ _ _ us hl => match us, hl with | [_], _ => rfl
  have BPn := DPn.binds (ps := ["thing"]) fun _ _ _ _ _ _ us hl => match us, hl with | [_], _ => rfl
  have BPp := DPp.binds (ps := ["word"]) fun _ _ _ _ _ _ us hl => match us, hl with | [_], _ => rfl
  have BPu := DPu.binds (ps := ["word"]) fun _ _ _ _ _ _ us hl => match us, hl with | [_], _ => rfl
  have BPr := DPr.binds (ps := ["text", "at"]) fun _ _ _ _ _ _ us hl => match us, hl with | [_, _], _ => rfl
  have BPs := DPs.binds (ps := ["word", "at"]) fun _ _ _ _ _ _ us hl => match us, hl with | [_, _], _ => rfl
  have BPg := DPg.binds (ps := ["text", "at"]) fun _ _ _ _ _ _ us hl => match us, hl with | [_, _], _ => rfl
  have BPw := DPw.binds (ps := ["text"]) fun _ _ _ _ _ _ us hl => match us, hl with | [_], _ => rfl
  have BLr := DLr.binds (ps := ["text_in", "at", "signs"]) fun _ _ _ _ _ _ us hl => match us, hl with | [_, _, _], _ => rfl
  have BLn := DLn.binds (ps := ["text_in", "at"]) fun _ _ _ _ _ _ us hl => match us, hl with | [_, _], _ => rfl
  have BLa := DLa.binds (ps := ["text_in", "at"]) fun _ _ _ _ _ _ us hl => match us, hl with | [_, _], _ => rfl
  have BLw := DLw.binds (ps := ["text_in"]) fun _ _ _ _ _ _ us hl => match us, hl with | [_], _ => rfl
  have BLd := DLd.binds (ps := ["pile"]) fun _ _ _ _ _ _ us hl => match us, hl with | [_], _ => rfl
  have BLb := DLb.binds (ps := ["pile", "text_in"]) fun _ _ _ _ _ _ us hl => match us, hl with | [_, _], _ => rfl
  have BLg := DLg.binds (ps := ["text_in"]) fun _ _ _ _ _ _ us hl => match us, hl with | [_], _ => rfl
  have GM := PySem.W.mg_of X G aM
  have GC := PySem.W.mg_of X G aC
  have GK := PySem.W.mg_of X G aK
  have GO := PySem.W.mg_of X G aO
  have GPl := PySem.W.mg_of X G aPl
  have GPf := PySem.W.mg_of X G aPf
  have GPx := PySem.W.mg_of X G aPx
  have GPn := PySem.W.mg_of X G aPn
  have GPp := PySem.W.mg_of X G aPp
  have GPu := PySem.W.mg_of X G aPu
  have GPr := PySem.W.mg_of X G aPr
  have GPs := PySem.W.mg_of X G aPs
  have GPg := PySem.W.mg_of X G aPg
  have GPw := PySem.W.mg_of X G aPw
  have GLr := PySem.W.mg_of X G aLr
  have GLn := PySem.W.mg_of X G aLn
  have GLa := PySem.W.mg_of X G aLa
  have GLw := PySem.W.mg_of X G aLw
  have GLd := PySem.W.mg_of X G aLd
  have GLb := PySem.W.mg_of X G aLb
  have GLg := PySem.W.mg_of X G aLg
  refine ⟨PySem.W.fnOf "law" "law" (defArgs sLaw) (defBody sLaw) (defScope sLaw) .none akVW adocW apmW aanW acdW actW, fun s u => .of_eq rfl, fun base _ _ => ?_⟩
  have mL := PySem.W.mg_none_of X G zl
  have exm := exm_ref bL cL1 cL2 sL0
  have mR := PySem.W.mg_none_of X G zr
  have OPx : FnOk P w K mg base CX0 2 _ _ ["sign"] (spB isLF) := ok_LF DPx DPl DPf GPl GPf BPl BPf
  have OPn : FnOk P w K mg base CX0 2 _ _ ["thing"] spName := ok_Name DPn GL DPl GPl BPl
  have OPu : FnOk P w K mg base CX0 3 _ _ ["word"] spNumber := ok_Number DPu GL DPf GPf BPf DPp GPp BPp
  have OPr : FnOk P w K mg base CX0 3 _ _ ["text", "at"] spRunEnd := ok_RunEnd DPr mL DPx GPx BPx OPx
  have OPs : FnOk P w K mg base (L2.CX P w) 4 _ _ ["word", "at"] (spSort _) := ok_Sort DPs GL C DPn GPn BPn OPn DPu GPu BPu OPu
  have OPg : FnOk P w K mg base (L2.CX P w) 3 _ _ ["text", "at"] (spSign _) := ok_Sign DPg GL C
  have OPw : FnOk P w K mg base (L2.CX P w) 5 _ _ ["text"] (spWords _) := ok_Words DPw GL DPx GPx BPx OPx DPr GPr BPr OPr DPs GPs BPs OPs DPg GPg BPg OPg
  have OLr : FnOk P w K mg base CX0 1 _ _ ["text_in", "at", "signs"] spLRun := ok_LRun DLr mL
  have OLn : FnOk P w K mg base CX0 2 _ _ ["text_in", "at"] spLNum := ok_LNum DLn (PySem.W.mg_none_of X G zi) DLr GLr BLr OLr
  have OLa : FnOk P w K mg base CX0 3 _ _ ["text_in", "at"] spLAt := ok_LAt DLa DLr GLr BLr OLr DLn GLn BLn OLn
  have OLw : FnOk P w K mg base CX0 4 _ _ ["text_in"] spLWords := ok_LWords DLw mL DLa GLa BLa OLa
  have OC : FnOk P w K mg base CX0 2 _ _ ["script", "k"] (spCell K) := ok_cell DC DM BM GM mL mR
  have OD : FnOk P w K mg base CX0 2 _ _ ["pile"] spDrawn := ok_Drawn DLd mL mR DK GK BK
  have OB : FnOk P w K mg base CX0 2 _ _ ["pile", "text_in"] spBent := ok_Bent DLb mL DK GK BK
  have OG : FnOk P w K mg base CX0 6 _ _ ["text_in"] spGood := ok_Good DLg T C exm (PySem.W.mg_none_of X G zI) (PySem.W.mg_none_of X G zt) DLw GLw BLw OLw DPw GPw BPw OPw DO GO BO
  exact ok_Law (cs := fun i => [c0, c1, c2, c3, c4, c5, c6, c7, c8, c9].getD i 0) DW mR DC GC BC OC DLd GLd BLd OD DLb GLb BLb OB DLg GLg BLg OG DPw GPw BPw OPw
end My
open PySem PySem.W PyProof.Rows
set_option maxRecDepth 100000 in
set_option maxHeartbeats 0 in
theorem PySem.Challenge.cw_leanscript_k01_words_of_texts_holds : PySem.Challenge.rw_leanscript_k01_words_of_texts.Holds := by
  w_on; o_law; k_head; (case hw => w_witness2)
  k_fill
  refine L2.walk_ofK (l := PySem.Challenge.rw_leanscript_k01_words_of_texts) (n := 63) (k := 7) (x := "script") (CX := L2.CX0) (sp := My.spLaw) rfl (by decide) rfl ⟨rfl, by decide, by decide⟩ (fun w h Y => PySem.W.kIn_of Y) ?F (fun K H a ns _ _ hS => ⟨a, ns, rfl, hS, fun _ => rfl⟩) (fun _ _ _ _ z => z)
  case F =>
    intro w mg fa h KX G hmg
    refine' My.all_mk KX G hmg ?my_g0 ?my_g1 ?my_g2 ?my_g3 ?my_g4 ?my_g5 ?my_g6 ?my_g7 ?my_g8 ?my_g9 ?my_gL ?my_zI ?my_zZ ?my_zK ?my_zA ?my_zV ?my_zl ?my_zr ?my_zs ?my_za ?my_zi ?my_zt ?my_sn ?my_st ?my_hc0 ?my_hg0 ?my_hk0 ?my_hs0 ?my_hd0 ?my_ha0 ?my_hm0 ?my_ht0 ?my_sK0 ?my_sA0 ?my_sV0 ?my_sL0 ?my_s0_1 ?my_s0_2 ?my_s0_3 ?my_s0_4 ?my_s0_5 ?my_s0_6 ?my_s0_7 ?my_s0_8 ?my_s0_9 ?my_hc1 ?my_hg1 ?my_hk1 ?my_hs1 ?my_hd1 ?my_ha1 ?my_hm1 ?my_ht1 ?my_sK1 ?my_sA1 ?my_sV1 ?my_sL1 ?my_s1_0 ?my_s1_2 ?my_s1_3 ?my_s1_4 ?my_s1_5 ?my_s1_6 ?my_s1_7 ?my_s1_8 ?my_s1_9 ?my_hc2 ?my_hg2 ?my_hk2 ?my_hs2 ?my_hd2 ?my_ha2 ?my_hm2 ?my_ht2 ?my_sK2 ?my_sA2 ?my_sV2 ?my_sL2 ?my_s2_0 ?my_s2_1 ?my_s2_3 ?my_s2_4 ?my_s2_5 ?my_s2_6 ?my_s2_7 ?my_s2_8 ?my_s2_9 ?my_hc3 ?my_hg3 ?my_hk3 ?my_hs3 ?my_hd3 ?my_ha3 ?my_hm3 ?my_ht3 ?my_sK3 ?my_sA3 ?my_sV3 ?my_sL3 ?my_s3_0 ?my_s3_1 ?my_s3_2 ?my_s3_4 ?my_s3_5 ?my_s3_6 ?my_s3_7 ?my_s3_8 ?my_s3_9 ?my_hc4 ?my_hg4 ?my_hk4 ?my_hs4 ?my_hd4 ?my_ha4 ?my_hm4 ?my_ht4 ?my_sK4 ?my_sA4 ?my_sV4 ?my_sL4 ?my_s4_0 ?my_s4_1 ?my_s4_2 ?my_s4_3 ?my_s4_5 ?my_s4_6 ?my_s4_7 ?my_s4_8 ?my_s4_9 ?my_hc5 ?my_hg5 ?my_hk5 ?my_hs5 ?my_hd5 ?my_ha5 ?my_hm5 ?my_ht5 ?my_sK5 ?my_sA5 ?my_sV5 ?my_sL5 ?my_s5_0 ?my_s5_1 ?my_s5_2 ?my_s5_3 ?my_s5_4 ?my_s5_6 ?my_s5_7 ?my_s5_8 ?my_s5_9 ?my_hc6 ?my_hg6 ?my_hk6 ?my_hs6 ?my_hd6 ?my_ha6 ?my_hm6 ?my_ht6 ?my_sK6 ?my_sA6 ?my_sV6 ?my_sL6 ?my_s6_0 ?my_s6_1 ?my_s6_2 ?my_s6_3 ?my_s6_4 ?my_s6_5 ?my_s6_7 ?my_s6_8 ?my_s6_9 ?my_hc7 ?my_hg7 ?my_hk7 ?my_hs7 ?my_hd7 ?my_ha7 ?my_hm7 ?my_ht7 ?my_sK7 ?my_sA7 ?my_sV7 ?my_sL7 ?my_s7_0 ?my_s7_1 ?my_s7_2 ?my_s7_3 ?my_s7_4 ?my_s7_5 ?my_s7_6 ?my_s7_8 ?my_s7_9 ?my_hc8 ?my_hg8 ?my_hk8 ?my_hs8 ?my_hd8 ?my_ha8 ?my_hm8 ?my_ht8 ?my_sK8 ?my_sA8 ?my_sV8 ?my_sL8 ?my_s8_0 ?my_s8_1 ?my_s8_2 ?my_s8_3 ?my_s8_4 ?my_s8_5 ?my_s8_6 ?my_s8_7 ?my_s8_9 ?my_hc9 ?my_hg9 ?my_hk9 ?my_hs9 ?my_hd9 ?my_ha9 ?my_hm9 ?my_ht9 ?my_sK9 ?my_sA9 ?my_sV9 ?my_sL9 ?my_s9_0 ?my_s9_1 ?my_s9_2 ?my_s9_3 ?my_s9_4 ?my_s9_5 ?my_s9_6 ?my_s9_7 ?my_s9_8 ?my_cL1 ?my_cL2 ?my_xT ?my_saT ?my_kcT ?my_icT ?my_tiT ?my_lfT ?my_cfT ?my_kfT ?my_ldT ?my_nTat ?my_bL ?my_q12 ?my_q18 ?my_qKp ?my_lKp ?my_qLo ?my_lLo ?my_qSh ?my_lSh ?my_aM ?my_alM ?my_acM ?my_akM ?my_aC ?my_alC ?my_acC ?my_akC ?my_aK ?my_alK ?my_acK ?my_akK ?my_aO ?my_alO ?my_acO ?my_akO ?my_aPl ?my_alPl ?my_acPl ?my_akPl ?my_aPf ?my_alPf ?my_acPf ?my_akPf ?my_aPx ?my_alPx ?my_acPx ?my_akPx ?my_aPn ?my_alPn ?my_acPn ?my_akPn ?my_aPp ?my_alPp ?my_acPp ?my_akPp ?my_aPu ?my_alPu ?my_acPu ?my_akPu ?my_aPr ?my_alPr ?my_acPr ?my_akPr ?my_aPs ?my_alPs ?my_acPs ?my_akPs ?my_aPg ?my_alPg ?my_acPg ?my_akPg ?my_aPw ?my_alPw ?my_acPw ?my_akPw ?my_aLr ?my_alLr ?my_acLr ?my_akLr ?my_aLn ?my_alLn ?my_acLn ?my_akLn ?my_aLa ?my_alLa ?my_acLa ?my_akLa ?my_aLw ?my_alLw ?my_acLw ?my_akLw ?my_aLd ?my_alLd ?my_acLd ?my_akLd ?my_aLb ?my_alLb ?my_acLb ?my_akLb ?my_aLg ?my_alLg ?my_acLg ?my_akLg ?my_aW ?my_alW ?my_acW ?my_akW ?my_sf0 ?my_sf1 ?my_sf2 ?my_sf3 ?my_sf4 ?my_sf5 ?my_sf6 ?my_sf7 ?my_sf8 ?my_sf9
    (case my_g0 => k_is)
    (case my_g1 => k_is)
    (case my_g2 => k_is)
    (case my_g3 => k_is)
    (case my_g4 => k_is)
    (case my_g5 => k_is)
    (case my_g6 => k_is)
    (case my_g7 => k_is)
    (case my_g8 => k_is)
    (case my_g9 => k_is)
    (case my_gL => k_is)
    (case my_zI => k_is)
    (case my_zZ => k_is)
    (case my_zK => k_is)
    (case my_zA => k_is)
    (case my_zV => k_is)
    (case my_zl => k_is)
    (case my_zr => k_is)
    (case my_zs => k_is)
    (case my_za => k_is)
    (case my_zi => k_is)
    (case my_zt => k_is)
    (case my_sn => k_is)
    (case my_st => k_is)
    (case my_hc0 => k_is)
    (case my_hg0 => k_is)
    (case my_hk0 => k_is)
    (case my_hs0 => k_is)
    (case my_hd0 => k_is)
    (case my_ha0 => k_is)
    (case my_hm0 => k_is)
    (case my_ht0 => k_is)
    (case my_sK0 => k_is)
    (case my_sA0 => k_is)
    (case my_sV0 => k_is)
    (case my_sL0 => k_is)
    (case my_s0_1 => k_is)
    (case my_s0_2 => k_is)
    (case my_s0_3 => k_is)
    (case my_s0_4 => k_is)
    (case my_s0_5 => k_is)
    (case my_s0_6 => k_is)
    (case my_s0_7 => k_is)
    (case my_s0_8 => k_is)
    (case my_s0_9 => k_is)
    (case my_hc1 => k_is)
    (case my_hg1 => k_is)
    (case my_hk1 => k_is)
    (case my_hs1 => k_is)
    (case my_hd1 => k_is)
    (case my_ha1 => k_is)
    (case my_hm1 => k_is)
    (case my_ht1 => k_is)
    (case my_sK1 => k_is)
    (case my_sA1 => k_is)
    (case my_sV1 => k_is)
    (case my_sL1 => k_is)
    (case my_s1_0 => k_is)
    (case my_s1_2 => k_is)
    (case my_s1_3 => k_is)
    (case my_s1_4 => k_is)
    (case my_s1_5 => k_is)
    (case my_s1_6 => k_is)
    (case my_s1_7 => k_is)
    (case my_s1_8 => k_is)
    (case my_s1_9 => k_is)
    (case my_hc2 => k_is)
    (case my_hg2 => k_is)
    (case my_hk2 => k_is)
    (case my_hs2 => k_is)
    (case my_hd2 => k_is)
    (case my_ha2 => k_is)
    (case my_hm2 => k_is)
    (case my_ht2 => k_is)
    (case my_sK2 => k_is)
    (case my_sA2 => k_is)
    (case my_sV2 => k_is)
    (case my_sL2 => k_is)
    (case my_s2_0 => k_is)
    (case my_s2_1 => k_is)
    (case my_s2_3 => k_is)
    (case my_s2_4 => k_is)
    (case my_s2_5 => k_is)
    (case my_s2_6 => k_is)
    (case my_s2_7 => k_is)
    (case my_s2_8 => k_is)
    (case my_s2_9 => k_is)
    (case my_hc3 => k_is)
    (case my_hg3 => k_is)
    (case my_hk3 => k_is)
    (case my_hs3 => k_is)
    (case my_hd3 => k_is)
    (case my_ha3 => k_is)
    (case my_hm3 => k_is)
    (case my_ht3 => k_is)
    (case my_sK3 => k_is)
    (case my_sA3 => k_is)
    (case my_sV3 => k_is)
    (case my_sL3 => k_is)
    (case my_s3_0 => k_is)
    (case my_s3_1 => k_is)
    (case my_s3_2 => k_is)
    (case my_s3_4 => k_is)
    (case my_s3_5 => k_is)
    (case my_s3_6 => k_is)
    (case my_s3_7 => k_is)
    (case my_s3_8 => k_is)
    (case my_s3_9 => k_is)
    (case my_hc4 => k_is)
    (case my_hg4 => k_is)
    (case my_hk4 => k_is)
    (case my_hs4 => k_is)
    (case my_hd4 => k_is)
    (case my_ha4 => k_is)
    (case my_hm4 => k_is)
    (case my_ht4 => k_is)
    (case my_sK4 => k_is)
    (case my_sA4 => k_is)
    (case my_sV4 => k_is)
    (case my_sL4 => k_is)
    (case my_s4_0 => k_is)
    (case my_s4_1 => k_is)
    (case my_s4_2 => k_is)
    (case my_s4_3 => k_is)
    (case my_s4_5 => k_is)
    (case my_s4_6 => k_is)
    (case my_s4_7 => k_is)
    (case my_s4_8 => k_is)
    (case my_s4_9 => k_is)
    (case my_hc5 => k_is)
    (case my_hg5 => k_is)
    (case my_hk5 => k_is)
    (case my_hs5 => k_is)
    (case my_hd5 => k_is)
    (case my_ha5 => k_is)
    (case my_hm5 => k_is)
    (case my_ht5 => k_is)
    (case my_sK5 => k_is)
    (case my_sA5 => k_is)
    (case my_sV5 => k_is)
    (case my_sL5 => k_is)
    (case my_s5_0 => k_is)
    (case my_s5_1 => k_is)
    (case my_s5_2 => k_is)
    (case my_s5_3 => k_is)
    (case my_s5_4 => k_is)
    (case my_s5_6 => k_is)
    (case my_s5_7 => k_is)
    (case my_s5_8 => k_is)
    (case my_s5_9 => k_is)
    (case my_hc6 => k_is)
    (case my_hg6 => k_is)
    (case my_hk6 => k_is)
    (case my_hs6 => k_is)
    (case my_hd6 => k_is)
    (case my_ha6 => k_is)
    (case my_hm6 => k_is)
    (case my_ht6 => k_is)
    (case my_sK6 => k_is)
    (case my_sA6 => k_is)
    (case my_sV6 => k_is)
    (case my_sL6 => k_is)
    (case my_s6_0 => k_is)
    (case my_s6_1 => k_is)
    (case my_s6_2 => k_is)
    (case my_s6_3 => k_is)
    (case my_s6_4 => k_is)
    (case my_s6_5 => k_is)
    (case my_s6_7 => k_is)
    (case my_s6_8 => k_is)
    (case my_s6_9 => k_is)
    (case my_hc7 => k_is)
    (case my_hg7 => k_is)
    (case my_hk7 => k_is)
    (case my_hs7 => k_is)
    (case my_hd7 => k_is)
    (case my_ha7 => k_is)
    (case my_hm7 => k_is)
    (case my_ht7 => k_is)
    (case my_sK7 => k_is)
    (case my_sA7 => k_is)
    (case my_sV7 => k_is)
    (case my_sL7 => k_is)
    (case my_s7_0 => k_is)
    (case my_s7_1 => k_is)
    (case my_s7_2 => k_is)
    (case my_s7_3 => k_is)
    (case my_s7_4 => k_is)
    (case my_s7_5 => k_is)
    (case my_s7_6 => k_is)
    (case my_s7_8 => k_is)
    (case my_s7_9 => k_is)
    (case my_hc8 => k_is)
    (case my_hg8 => k_is)
    (case my_hk8 => k_is)
    (case my_hs8 => k_is)
    (case my_hd8 => k_is)
    (case my_ha8 => k_is)
    (case my_hm8 => k_is)
    (case my_ht8 => k_is)
    (case my_sK8 => k_is)
    (case my_sA8 => k_is)
    (case my_sV8 => k_is)
    (case my_sL8 => k_is)
    (case my_s8_0 => k_is)
    (case my_s8_1 => k_is)
    (case my_s8_2 => k_is)
    (case my_s8_3 => k_is)
    (case my_s8_4 => k_is)
    (case my_s8_5 => k_is)
    (case my_s8_6 => k_is)
    (case my_s8_7 => k_is)
    (case my_s8_9 => k_is)
    (case my_hc9 => k_is)
    (case my_hg9 => k_is)
    (case my_hk9 => k_is)
    (case my_hs9 => k_is)
    (case my_hd9 => k_is)
    (case my_ha9 => k_is)
    (case my_hm9 => k_is)
    (case my_ht9 => k_is)
    (case my_sK9 => k_is)
    (case my_sA9 => k_is)
    (case my_sV9 => k_is)
    (case my_sL9 => k_is)
    (case my_s9_0 => k_is)
    (case my_s9_1 => k_is)
    (case my_s9_2 => k_is)
    (case my_s9_3 => k_is)
    (case my_s9_4 => k_is)
    (case my_s9_5 => k_is)
    (case my_s9_6 => k_is)
    (case my_s9_7 => k_is)
    (case my_s9_8 => k_is)
    (case my_cL1 => k_is)
    (case my_cL2 => k_is)
    (case my_xT => k_is)
    (case my_saT => k_is)
    (case my_kcT => k_is)
    (case my_icT => k_is)
    (case my_tiT => k_is)
    (case my_lfT => k_is)
    (case my_cfT => k_is)
    (case my_kfT => k_is)
    (case my_ldT => k_is)
    (case my_nTat => k_is)
    (case my_bL => k_is)
    (case my_q12 => k_is)
    (case my_q18 => k_is)
    (case my_qKp => k_is)
    (case my_lKp => k_is)
    (case my_qLo => k_is)
    (case my_lLo => k_is)
    (case my_qSh => k_is)
    (case my_lSh => k_is)
    (case my_aM => k_is)
    (case my_alM => k_is)
    (case my_acM => k_is)
    (case my_akM => k_is)
    (case my_aC => k_is)
    (case my_alC => k_is)
    (case my_acC => k_is)
    (case my_akC => k_is)
    (case my_aK => k_is)
    (case my_alK => k_is)
    (case my_acK => k_is)
    (case my_akK => k_is)
    (case my_aO => k_is)
    (case my_alO => k_is)
    (case my_acO => k_is)
    (case my_akO => k_is)
    (case my_aPl => k_is)
    (case my_alPl => k_is)
    (case my_acPl => k_is)
    (case my_akPl => k_is)
    (case my_aPf => k_is)
    (case my_alPf => k_is)
    (case my_acPf => k_is)
    (case my_akPf => k_is)
    (case my_aPx => k_is)
    (case my_alPx => k_is)
    (case my_acPx => k_is)
    (case my_akPx => k_is)
    (case my_aPn => k_is)
    (case my_alPn => k_is)
    (case my_acPn => k_is)
    (case my_akPn => k_is)
    (case my_aPp => k_is)
    (case my_alPp => k_is)
    (case my_acPp => k_is)
    (case my_akPp => k_is)
    (case my_aPu => k_is)
    (case my_alPu => k_is)
    (case my_acPu => k_is)
    (case my_akPu => k_is)
    (case my_aPr => k_is)
    (case my_alPr => k_is)
    (case my_acPr => k_is)
    (case my_akPr => k_is)
    (case my_aPs => k_is)
    (case my_alPs => k_is)
    (case my_acPs => k_is)
    (case my_akPs => k_is)
    (case my_aPg => k_is)
    (case my_alPg => k_is)
    (case my_acPg => k_is)
    (case my_akPg => k_is)
    (case my_aPw => k_is)
    (case my_alPw => k_is)
    (case my_acPw => k_is)
    (case my_akPw => k_is)
    (case my_aLr => k_is)
    (case my_alLr => k_is)
    (case my_acLr => k_is)
    (case my_akLr => k_is)
    (case my_aLn => k_is)
    (case my_alLn => k_is)
    (case my_acLn => k_is)
    (case my_akLn => k_is)
    (case my_aLa => k_is)
    (case my_alLa => k_is)
    (case my_acLa => k_is)
    (case my_akLa => k_is)
    (case my_aLw => k_is)
    (case my_alLw => k_is)
    (case my_acLw => k_is)
    (case my_akLw => k_is)
    (case my_aLd => k_is)
    (case my_alLd => k_is)
    (case my_acLd => k_is)
    (case my_akLd => k_is)
    (case my_aLb => k_is)
    (case my_alLb => k_is)
    (case my_acLb => k_is)
    (case my_akLb => k_is)
    (case my_aLg => k_is)
    (case my_alLg => k_is)
    (case my_acLg => k_is)
    (case my_akLg => k_is)
    (case my_aW => k_is)
    (case my_alW => k_is)
    (case my_acW => k_is)
    (case my_akW => k_is)
    (case my_sf0 => k_is)
    (case my_sf1 => k_is)
    (case my_sf2 => k_is)
    (case my_sf3 => k_is)
    (case my_sf4 => k_is)
    (case my_sf5 => k_is)
    (case my_sf6 => k_is)
    (case my_sf7 => k_is)
    (case my_sf8 => k_is)
    (case my_sf9 => k_is)
