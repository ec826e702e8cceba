import PyProof.Rows.All
import Wide.All
import OpenK.AllK
import Wide.FinOn
import HandS.Base
import HandS.Call
import HandS.List
import HandS.Ends
import HandS.Words
import HandS.Exc
import HandS.ExcInit
import HandS.Defaults
import HandS.IsInst
import HandS.ExcBuiltin
import HandS.ExcValue
import KE.KExcIs
import HandS.ForMost
import HandS.Flow
import PySem.Challenge.RW_oldclients_k20_exceptions
set_option Elab.async false
set_option linter.all false
set_option maxRecDepth 100000
set_option maxHeartbeats 8000000
/-! an own exception made as a value, by place and by keywords -/
namespace OldX
open PySem PySem.W PySem.Calls PyProof.Rows PySem.HandSPX
section
variable {prog : Program} {w : World} {A : Around} {E : Value → Shared → Prop} {R : Result → Shared → Prop} {hp : Heap} {g : Array GenState} {d : Drawn} {t : Nat} {os : OsState}
variable {nm q : Str} {C N : Addr} {bs bm bmB : List Value} {hdct : Bool} {sn : List Str} {sub : List Value} {ab : Bool} {col : Option Bool} {dd : Option Addr} {k0 k1 k2 k3 k5 : Option Value} {B newId initId : String}
open Builtin Builtin.ObjectAttr

theorem checkNewKw {M : Model} (F : ExcBaseFacts B newId initId bmB) (own : ∀ X : String, bm.contains (.type X) = bmB.contains (.type X)) {us : List Value} {kw : List (Str × Value)} {Q : Unit → Shared → Prop}
    (cl : hp.get? C = some (excClassObj nm q C N bs bm hdct sn sub ab col dd k0 k1 k2 k3 k5 newId)) (fin : Q () ⟨hp, g, d, t, os⟩) : wpAny M A (checkBuiltinCall newId ⟨.ref C :: us, kw⟩) Q E ⟨hp, g, d, t, os⟩ := by
  have inB : (Value.ref C :: bm).contains (.type B) = true := by rw [List.contains_cons, own, F.hasB, Bool.or_true]
  have star := F.noStar
  simp only [checkBuiltinCall, F.newKind, F.newSplit, F.newRow]
  repeat (first | (with_reducible refine wpAny_loadPart_at cl ?_) | (refine wpAny_isSubtype_exc cl ?_; rw [inB]) | (refine wpAny_staticBase_exc cl ?_) | (refine wpAny_madeBy_exc cl ?_) | simp only [bne_self_eq_false, Bool.false_eq_true, if_false] | wp_step)
  exact fin
theorem newKw (F : ExcBaseFacts B newId initId bmB) (own : ∀ X : String, bm.contains (.type X) = bmB.contains (.type X)) {us : List Value} {kw : List (Str × Value)}
    (cl : hp.get? C = some (excClassObj nm q C N bs bm hdct sn sub ab col dd k0 k1 k2 k3 k5 newId))
    (fin : R (.ok (.ret (.ref (hp.objs.size + 1)))) ⟨(hp.push (kdv_tup us)).push (excO C hp.objs.size), g, d, t, os⟩) (few : us.length ≤ sizeLine) :
    codeAny (model prog w) A (.builtin newId ⟨.ref C :: us, kw⟩) R ⟨hp, g, d, t, os⟩ := by
  have ends := F.ends
  have inB : (Value.ref C :: bm).contains (.type B) = true := by rw [List.contains_cons, own, F.hasB, Bool.or_true]
  have notA : (Value.ref C :: bm).contains (.type "AttributeError") = false := by rw [List.contains_cons, own, F.noAttr]; rfl
  have notN : (Value.ref C :: bm).contains (.type "NameError") = false := by rw [List.contains_cons, own, F.noName]; rfl
  refine codeAny_builtinAt F.entry ?_
  unfold Builtin.«BaseException.__new__»
  refine PySem.wpAt_bind ?_
  show PySem.wpAt _ _ _ (stack >>= _) _ _ _
  refine PySem.wpAt_bind (PySem.wpAt_stack fun _ _ => PySem.wpAt_of_wpAny ?_)
  wp_walk
  refine PySem.wpAt_of_wpAny ?_
  rw [F.owner]
  repeat (first | (with_reducible refine wpAny_madeHere_exc F.canon cl ?_) | (with_reducible refine wpAny_loadPart_at cl ?_) | (with_reducible refine wpAny_isSubtype_exc cl ?_; first | rw [inB] | rw [notA] | rw [notN]) | wp_step)
  show R _ _
  rw [Heap.size_push]
  exact fin
theorem typeCallKw (F : ExcBaseFacts B newId initId bmB) (own : ∀ X : String, bm.contains (.type X) = bmB.contains (.type X)) {us : List Value} {kw : List (Str × Value)} {fI : Addr} {Q : Fin → Shared → Prop}
    (cl : hp.get? C = some (excClassObj nm q C N bs bm hdct sn sub ab col dd k0 k1 k2 k3 k5 newId))
    (ini : Looks (model prog w) hp (typeLookup (.ref C) "__init__") (some (.ref fI))) (bnd : ∀ self, Looks (model prog w) hp (bindSpecial (.ref fI) self) (.ref fI, [self])) (few : us.length ≤ sizeLine)
    (fin : codeAny (model prog w) A (.call (.ref fI) ⟨.ref (hp.objs.size + 1) :: us, kw⟩)
      (fun r s' => match r with | .ok (.ret v) => v = .none ∧ Q (.done (.ret (.ref (hp.objs.size + 1)))) s' | .ok _ => False | .error e => E e s')
      ⟨(hp.push (kdv_tup us)).push (excO C hp.objs.size), g, d, t, os⟩) :
    wpAny (model prog w) A (Builtin.«type.__call__» ⟨.ref C :: us, kw⟩) Q E ⟨hp, g, d, t, os⟩ := by
  repeat (first | (with_reducible refine wpAny_loadPart_at cl ?_) | (with_reducible refine wpAny_madeBy_exc cl ?_) | wp_step)
  refine codeAny_call_builtin_code (Code.quiet_builtin _ F.quiet) (checkNewKw F own cl ?_)
  refine newKw F own cl ?_ few
  show wpAny _ _ _ _ _ _
  have keep : ∀ b o, hp.get? b = some o → ((hp.push (kdv_tup us)).push (excO C hp.objs.size)).get? b = some o := fun b o e => Heap.get?_push_of_some _ (Heap.get?_push_of_some _ e)
  have cl' := keep _ _ cl
  have made : ((hp.push (kdv_tup us)).push (excO C hp.objs.size)).get? (hp.objs.size + 1) = some (excO C hp.objs.size) := by heap_get
  have inC : (Value.ref C :: bm).contains (.ref C) = true := by simp
  have ini' := ini.keeps keep
  have bnd' := (bnd (.ref (hp.objs.size + 1))).keeps keep
  unfold isInstance
  repeat (first | (with_reducible refine wpAny_loadPart_at made ?_) | (with_reducible refine wpAny_isSubtype_exc cl' ?_; rw [inC]) | wp_step)
  show wpAny _ _ (typeLookup (.ref C) _) _ _ _
  refine ini'.at ?_
  refine wpAny_holding (wpAny_bind (bnd'.at ?_))
  refine wpAny_bind (wpAny_call (codeAny_mono fin fun r s' z => ?_))
  rcases r with e | (v | _ | _ | _) <;> first | exact z | exact z.elim | skip
  obtain ⟨rfl, z⟩ := z
  first
    | exact wpAny_pure (wpAny_pure z)
    | (wp_walk; exact z)
theorem callKw (F : ExcBaseFacts B newId initId bmB) (own : ∀ X : String, bm.contains (.type X) = bmB.contains (.type X)) {us : List Value} {kw : List (Str × Value)} {fI : Addr}
    (cl : hp.get? C = some (excClassObj nm q C N bs bm hdct sn sub ab col dd k0 k1 k2 k3 k5 newId))
    (ini : Looks (model prog w) hp (typeLookup (.ref C) "__init__") (some (.ref fI))) (bnd : ∀ self, Looks (model prog w) hp (bindSpecial (.ref fI) self) (.ref fI, [self])) (few : us.length ≤ sizeLine)
    (fin : codeAny (model prog w) (A.under (.builtin "type.__call__" ⟨.ref C :: us, kw⟩)) (.call (.ref fI) ⟨.ref (hp.objs.size + 1) :: us, kw⟩) (InitBack (hp.objs.size + 1) R)
      ⟨(hp.push (kdv_tup us)).push (excO C hp.objs.size), g, d, t, os⟩) :
    codeAny (model prog w) A (.call (.ref C) ⟨us, kw⟩) R ⟨hp, g, d, t, os⟩ := by
  have f1 := tc_lookup
  have f2 := tc_bind (.ref C)
  have ty : (⟨hp, g, d, t, os⟩ : Shared).TypeIs (.ref C) "type" := ⟨_, cl, rfl⟩
  refine codeAny_of_tree ?_
  show wpAny _ _ (callAny (.ref C) _) _ _ _
  repeat (any_goals (first | assumption | (with_reducible refine wpAny_loadPart_at cl ?_) | wp_step))
  refine ⟨rfl, ?_⟩
  refine codeAny_call_builtin_at (Code.quiet_builtin _ (by decide +kernel)) entry_typeCall (wpAny_check_type_call_sub cl (typeCallKw F own cl ini bnd few ?_))
  refine codeAny_mono fin fun r s' z => ?_
  rcases r with e | (v | _ | _ | _) <;> exact z
end
end OldX

namespace L2
open PySem PySem.Spec PyProof.Rows
/-- at e: an exception of the class at C whose own dict holds the fields fs -/
def OexAt (C : Addr) (H : Hp) (e : Addr) (fs : List (Str × V)) : Prop := ∃ dx, H e = some (exo e C (some dx)) ∧ H dx = some (exd dx fs)
/-- C(..) as a value: values vs and keywords' values zs, put in order by gV -/
def tOexN (C : Addr) (sp : Sp) (gV : List V → List V → List V) (n m : Nat) (t tk : TA) : TE := fun σ H Q => t σ H fun vs H1 => tk σ H1 fun zs H2 => vs.length = n ∧ zs.length = m ∧ n ≤ 1000 ∧
  ∀ a, H2 a = none → sp (.ref a :: gV vs zs) (upd H2 a (exo a C none)) (fun v H3 => v = .non ∧ Q (.ref a) H3) E0
section
variable {X : Cx} {k n : Nat} {f C : Addr} {fd : FuncData} {ps ks : List Str} {sp : Sp} {x : Str} {p pos : Pos} {e : Expr} {es : List Expr} {kws : List Keyword} {t tk : TA} {g : List Value → List Value → List Value} {gV : List V → List V → List V}
theorem run_oexN {pins : List (Addr × Obj)} {σ : St} {H : Hp} {s : Shared} {Q : VK} {us ws : List Value} {vs zs : List V} (T : OexC X.K C) (iC : PySem.W.findIn X.K (.ref C) "__init__" = some (some (.ref f))) (tI : PySem.W.typeIn X.K (.ref f) = some (.type "function"))
    (G : FnOk X.prog X.w X.K X.mg X.base CX0 k f fd ps sp) (hr : Room (k + 1) X.A)
    (to : ∀ (s : Shared) (self : Value), PySem.W.Frag.In X.K s.heap → BindsTo s fd ⟨self :: us, ks.zip ws⟩ (ps.zip (self :: g us ws))) (rel : Vals (gV vs zs) (g us ws))
    (I : Inv X pins σ H s) (few : us.length ≤ 1000)
    (h : ∀ a, H a = none → sp (.ref a :: gV vs zs) (upd H a (exo a C none)) (fun v H2 => v = .non ∧ Q (.ref a) H2) E0) :
    wpAny (model X.prog X.w) X.A (call (.ref C) us (ks.zip ws)) (EP X pins σ Q) X.xe s := by
  obtain ⟨nm, q, N, bs, bm, sn, sub, ab, col, dd, k0, k1, k2, k3, k5, hC, hbm⟩ := T.cls
  obtain ⟨hp, gg, dr, tk', os⟩ := s
  have big : hp.objs.size ≤ hp.objs.size + 1 := Nat.le_succ _
  have hn : H (hp.objs.size + 1) = none := I.hok.fresh big
  have hq := h (hp.objs.size + 1) hn
  have keep : ∀ b o, hp.get? b = some o → ((hp.push (PySem.W.kdv_tup us)).push (PySem.HandSPX.excO C hp.objs.size)).get? b = some o := fun b o e => Heap.get?_push_of_some _ (Heap.get?_push_of_some _ e)
  have made : ((hp.push (PySem.W.kdv_tup us)).push (PySem.HandSPX.excO C hp.objs.size)).get? (hp.objs.size + 1) = some (PySem.HandSPX.excO C hp.objs.size) := by heap_get
  have I2 : Inv X pins σ (upd H (hp.objs.size + 1) (exo (hp.objs.size + 1) C none)) ⟨(hp.push (PySem.W.kdv_tup us)).push (PySem.HandSPX.excO C hp.objs.size), gg, dr, tk', os⟩ :=
    I.laid (t' := tk') (a := hp.objs.size + 1) (o := exo (hp.objs.size + 1) C none) (h' := (hp.push (PySem.W.kdv_tup us)).push (PySem.HandSPX.excO C hp.objs.size)) keep big (exo_ok made)
  have r2 : Vals (V.ref (hp.objs.size + 1) :: gV vs zs) (Value.ref (hp.objs.size + 1) :: g us ws) := .cons rfl rel
  refine wpAny_call (OldX.callKw PySem.F.excBase_ValueError (fun Y => PySem.HandSPX.refsVE_contains Y bm hbm) (I.kIn _ _ hC) (PySem.W.looks_findIn I.kIn iC) (fun self => PySem.W.bind_fn I.kIn self tI) (by rw [sizeLine_eq]; omega)
    (codeAny_mono (G.run _ X.stack _ _ ⟨Value.ref (hp.objs.size + 1) :: us, ks.zip ws⟩ (Value.ref (hp.objs.size + 1) :: g us ws) _ _ E0 (hr.make C us (ks.zip ws)) (I2.env0.make C us (ks.zip ws)) (to _ _ I2.kIn) r2 hq) fun r s' hq' => ?_))
  cases r with
  | error er => exact hq'.elim
  | ok fl =>
    cases fl with
    | ret u =>
      obtain ⟨v, H', I3, rv, ev, q3⟩ := I2.after hq'
      subst ev
      exact ⟨rv, ⟨V.ref (hp.objs.size + 1), H', I3, rfl, q3⟩⟩
    | next => exact False.elim hq'
    | brk => exact False.elim hq'
    | cont => exact False.elim hq'
/-- C(e, ..) -/
theorem pe_oex (T : OexC X.K C) (iC : PySem.W.findIn X.K (.ref C) "__init__" = some (some (.ref f))) (tI : PySem.W.typeIn X.K (.ref f) = some (.type "function"))
    (G : FnOk X.prog X.w X.K X.mg X.base CX0 k f fd ps sp) (hr : Room (k + 1) X.A) (hb : Binds X.K fd ps []) (hg : Gl X x) (hm : X.mg x = some (.ref C)) (ha : PA X (e :: es) t) (hn : n + 1 = ps.length)
    (hdb : (x == ("__debug__" : Str)) = false := by decide) (he : starEach (e :: es) X.env = (false, eval e X.env) :: starEach es X.env := by rfl) (hpl : (backTo pos (starEach es X.env)).any (·.1) = false := by rfl) :
    PE X (.Call (.Name x p) (e :: es) [] pos) (tOexN C sp (fun vs _ => vs) n 0 t tNil) := by
  refine ⟨fun pins s σ H Q I h => ?_⟩
  refine wpAny_Call_Name_kw (ld_glob I hg hm ?_ hdb)
  refine PySem.W.callWith_K (h₀ := X.base) I.ok.mod.kin T.kC (thn (ha.run pos pins s σ H _ I h) fun us s1 ⟨vs, H1, I1, r, l1, _, few, q⟩ => ⟨I1.kIn, ?_⟩) he hpl
  have lu : us.length = n := r.length.symm.trans l1
  refine run_oexN (us := us) (ks := []) (ws := []) (zs := []) (g := fun us _ => us) (gV := fun vs _ => vs) T iC tI G hr (fun s' self kin => ?_) r I1 (by omega) q
  have z := hb s' (self :: us) kin (by rw [List.append_nil, List.length_cons, lu]; exact hn)
  rw [List.append_nil] at z
  exact z
/-- C(k = v, ..) -/
theorem pe_oexK (T : OexC X.K C) (iC : PySem.W.findIn X.K (.ref C) "__init__" = some (some (.ref f))) (tI : PySem.W.typeIn X.K (.ref f) = some (.type "function"))
    (G : FnOk X.prog X.w X.K X.mg X.base CX0 k f fd ps sp) (hr : Room (k + 1) X.A) (hg : Gl X x) (hm : X.mg x = some (.ref C)) (hkw : PK X kws tk)
    (to : ∀ (self : Value) (ws : List Value), ws.length = ks.length → bindArgs fd ⟨[self], ks.zip ws⟩ = pure (ps.zip (self :: g [] ws))) (rel : ∀ {zs : List V} {ws : List Value}, Vals zs ws → Vals (gV [] zs) (g [] ws))
    (hall : (backToKw pos (keywordEach kws X.env)).all (·.1.isSome) = true := by rfl) (hks : (backToKw pos (keywordEach kws X.env)).filterMap (·.1) = ks := by rfl) (hdb : (x == ("__debug__" : Str)) = false := by decide)
    (hpl : ((backTo pos (starEach [] X.env)).any (·.1) || (backToKw pos (keywordEach kws X.env)).any (·.1.isNone)) = false := by rfl) :
    PE X (.Call (.Name x p) [] kws pos) (tOexN C sp gV 0 ks.length tNil tk) := by
  refine ⟨fun pins s σ H Q I h => ?_⟩
  refine wpAny_Call_Name_kw (ld_glob I hg hm ?_ hdb)
  refine PySem.W.callWith_KW0 (h₀ := X.base) I.ok.mod.kin T.kC hall ?_ hpl
  refine thn (hkw.run pos pins s σ H _ I h) fun ws s2 ⟨zs, H2, I2, rz, _, l2, _, q2⟩ => ⟨I2.kIn, ?_⟩
  rw [hks]
  have lw : ws.length = ks.length := rz.length.symm.trans l2
  exact run_oexN (us := []) (vs := []) (g := g) (gV := gV) T iC tI G hr (fun s' self _ => .of_eq (to self ws lw)) (rel rz) I2 (Nat.zero_le _) q2
end

/-! ### what stands of such a class; its fields read; isinstance -/
structure OexT (K : PySem.W.Frag) (C : Addr) : Prop where
  c : OexC K C
  ga : PySem.W.findIn K (.ref C) "__getattribute__" = some (some (.builtin "BaseException.__getattribute__"))
  gg : PySem.W.findIn K (.ref C) "__getattr__" = some none
  cl : PySem.W.findIn K (.ref C) "__class__" = some (some (.builtin "object.__class__"))
theorem OexT.dict {K : PySem.W.Frag} {C : Addr} (T : OexT K C) : PySem.W.hasDictIn K C = true := by
  obtain ⟨nm, q, N, bs, bm, sn, sub, ab, col, dd, k0, k1, k2, k3, k5, hC, hbm⟩ := T.c.cls
  unfold PySem.W.hasDictIn PySem.W.clsIn
  rw [hC]
  rfl
theorem OexT.isCls {K : PySem.W.Frag} {C : Addr} (T : OexT K C) : (PySem.W.clsIn K C).isSome = true := by
  obtain ⟨nm, q, N, bs, bm, sn, sub, ab, col, dd, k0, k1, k2, k3, k5, hC, hbm⟩ := T.c.cls
  unfold PySem.W.clsIn
  rw [hC]
  rfl
theorem OexT.mro {K : PySem.W.Frag} {C : Addr} (T : OexT K C) : PySem.W.mroIn K C (.type "object") = some true := by
  obtain ⟨nm, q, N, bs, bm, sn, sub, ab, col, dd, k0, k1, k2, k3, k5, hC, hbm⟩ := T.c.cls
  have h : PySem.W.clsIn K C = some { name := nm, bases := bs, mro := .ref C :: bm, ns := N, qualname := q, hasDict := true, slotNames := sn, subclasses := sub, abstract := ab, collection := col, hasDel := false } := by unfold PySem.W.clsIn; rw [hC] <;> rfl
  unfold PySem.W.mroIn
  rw [h, Option.bind_some]
  have z : (Value.ref C :: bm).contains (.type "object") = true := (PySem.HandSPX.refsVE_contains "object" (.ref C :: bm) hbm).trans (by decide +kernel)
  show (if (Value.ref C :: bm).isEmpty = true then none else some ((Value.ref C :: bm).contains (.type "object"))) = some true
  rw [z]
  rfl
section
variable {X : Cx} {pins : List (Addr × Obj)} {σ : St} {H : Hp} {s : Shared} {a C dx : Addr} {fs : List (Str × V)}
theorem oex_inst (I : Inv X pins σ H s) (ha : H a = some (exo a C (some dx))) (hd : H dx = some (exd dx fs)) :
    ∃ (oe od : Obj) (mA : Str → Option Value), PySem.W.InstAt s.heap a oe C (some od) ∧ (∀ name, PySem.W.lookIn name od = some (mA name)) ∧ ∀ f, RelO (fs.lookup f) (mA f) := by
  obtain ⟨t1, ho⟩ := exo_at I.hok ha
  obtain ⟨mA, hns, hr⟩ := exd_at I.hok hd
  obtain ⟨od, hod, hl⟩ := lookIn_ns hns
  exact ⟨_, od, mA, ⟨ho, rfl, rfl, hod⟩, hl, hr⟩
/-- e.f, e an exception that stands -/
def tOxf (K : PySem.W.Frag) (f : Str) (te : TE) : TE := fun σ H Q => te σ H fun x H1 => ∃ (a C : Addr) (fs : List (Str × V)) (v : V), x = .ref a ∧ OexAt C H1 a fs ∧ OexT K C ∧ PySem.W.findIn K (.ref C) f = some none ∧ fs.lookup f = some v ∧ Q v H1
theorem pe_oxf {e : Expr} {te : TE} {pos : Pos} {n : Str} (he : PE X e te) (hb : attributeBase e n X.env (eval e X.env) = eval e X.env := by rfl) : PE X (.Attribute e n pos) (tOxf X.K n te) := by
  refine ⟨fun pins s σ H Q I h => ?_⟩
  refine attr_of hb (thn (he.run pins s σ H _ I h) fun u s1 ⟨x, H1, I1, rx, a, C, fs, v, ex, ⟨dx, ea, ed⟩, T, hno, l, q⟩ => ?_)
  subst ex
  obtain rfl : u = Value.ref a := rx
  obtain ⟨oe, od, mA, J, hl, hr⟩ := oex_inst I1 ea ed
  obtain ⟨u, hu, ru⟩ := RelO.some_of (v := v) (o := mA n) (by rw [← l]; exact hr n)
  exact HandSPX.exc_get I1.kIn J T.ga T.gg T.c.exC (PySem.W.findObj_own T.dict hno rfl (by rw [hl, hu])) (handed_of ru) ⟨v, H1, I1.tok _, ru, q⟩
theorem isiGet : PySem.W.specialIn X.K (.builtin "object.__class__") "__get__" = some (some (.builtin "getset_descriptor.__get__")) := by
  with_unfolding_all rfl
/-- isinstance(e, c), e an exception that stands -/
def rIsOx (K : PySem.W.Frag) : List V → Hp → VK → Prop := fun xs H Q => ∃ (a C : Addr) (fs : List (Str × V)) (c : V) (u : Value) (b : Bool), xs = [.ref a, c] ∧ ClsV c u ∧ OexAt C H a fs ∧ OexT K C ∧ PySem.W.kitOne K (.ref C) u = some b ∧ Q (.bl b) H
theorem call_isOx : CallR X (.builtin "isinstance") (rIsOx X.K) := by
  intro pins s σ H xs us Q I r h
  obtain ⟨a, C, fs, c, u, b, rfl, k, ⟨dx, ea, ed⟩, T, e, q⟩ := h
  obtain ⟨u1, u2, rfl, r1, r2⟩ := vals2 r
  obtain rfl := k.eq r2
  cases (show u1 = Value.ref a from r1)
  obtain ⟨oe, od, mA, J, hl, hr⟩ := oex_inst I ea ed
  refine PySem.W.kia_one (PySem.W.kitx_exc (gt := none) T.isCls T.ga T.gg T.c.exC T.cl isiGet (by with_unfolding_all rfl) T.mro) I.kIn J e (fun z => nomatch z) fun tk => ⟨.bl b, H, I.tok tk, rfl, q⟩
/-- an exception of a built-in class, as a value -/
def exb (a : Addr) (T : String) : HO := .ext fun h => PySem.W.KitAt a T h
theorem exb_ok {P : Program} {w : World} {H : Hp} {h : Heap} {a : Addr} {T : String} {o : Obj} (e : h.get? a = some o) (c : o.cls = .type T) : ObjOk P w H h a (exb a T) :=
  ⟨⟨o, e, c⟩, ⟨o, e⟩, fun h1 h2 z k => by
    obtain ⟨o', e', c'⟩ := z
    exact ⟨o', k _ e', c'⟩⟩
/-- T(e, ..) as a value -/
def tExB (T : String) (t : TA) : TE := fun σ H Q => t σ H fun vs H1 => vs.length ≤ sizeLine ∧ ∀ a, H1 a = none → Q (.ref a) (upd H1 a (exb a T))
theorem pe_exb {T N I : String} {x : Str} {p pos : Pos} {e : Expr} {es : List Expr} {t : TA} (F : ExcB T N I) (hg : Gl X x) (hm : X.mg x = none) (hv : bootBuiltins x = some (.type T)) (ha : PA X (e :: es) t) (hn : x ≠ "__name__" := by decide) (hdb : (x == ("__debug__" : Str)) = false := by decide)
    (he : starEach (e :: es) X.env = (false, eval e X.env) :: starEach es X.env := by rfl) (hpl : (backTo pos (starEach es X.env)).any (·.1) = false := by rfl) :
    PE X (.Call (.Name x p) (e :: es) [] pos) (tExB T t) := by
  refine ⟨fun pins s σ H Q J h => ?_⟩
  refine wpAny_Call_Name_kw (ld_blt J hg hm hv ?_ hn hdb)
  refine PyProof.Rows.callWith_type1 (thn (ha.run pos pins s σ H _ J h) fun us s1 hh => ?_) he hpl
  obtain ⟨vs, H1, I1, r1, q0, q1⟩ := hh
  obtain ⟨hp1, g1, d1, tk1, os1⟩ := s1
  refine wpAny_call_exc F.call (fun h' a mk => ?_) (Nat.le_trans (Nat.le_of_eq r1.length.symm) q0)
  have mk' := PySem.Heap.MadeExc.of mk
  obtain ⟨t0, ho, _, _⟩ := mk'.there
  exact ⟨.ref a, _, I1.laidN (t' := tk1) (a := a) (o := exb a T) mk'.keeps mk'.new (I1.hok.gone mk'.new) (exb_ok ho rfl), rfl, q1 a (I1.hok.gone mk'.new)⟩
/-- isinstance(e, c), e an exception of a built-in class -/
def rIsEb (K : PySem.W.Frag) : List V → Hp → VK → Prop := fun xs H Q => ∃ (a : Addr) (c : V) (u : Value) (b : Bool), xs = [.ref a, c] ∧ ClsV c u ∧ H a = some (exb a "ValueError") ∧ PySem.W.kitOne K (.type "ValueError") u = some b ∧ Q (.bl b) H
theorem call_isEb : CallR X (.builtin "isinstance") (rIsEb X.K) := by
  intro pins s σ H xs us Q I r h
  obtain ⟨a, c, u, b, rfl, k, ea, e, q⟩ := h
  obtain ⟨u1, u2, rfl, r1, r2⟩ := vals2 r
  obtain rfl := k.eq r2
  cases (show u1 = Value.ref a from r1)
  have z : PySem.W.KitAt a "ValueError" s.heap := (show ObjOk X.prog X.w H s.heap a (exb a "ValueError") from I.hok a _ ea).1
  exact PySem.W.kia_one (PySem.W.kitx_bexc PySem.F.excAttr_ValueError PySem.F.lkClass_ValueError PySem.F.soClass_ValueError (by decide +kernel)) I.kIn z e (fun z => nomatch z) fun tk => ⟨.bl b, H, I.tok tk, rfl, q⟩
end
end L2

/-! k20: the classes' own __init__, isinstance, by place, by name, fields -/
namespace K20
open PySem PySem.Spec PyProof.Rows L2
def topS (i : Nat) : Stmt := PySem.Challenge.pw_oldclients_k20_exceptions.main.body.getD i (.Pass ⟨0, 0, 0, 0⟩)
abbrev sDraw : Stmt := topS 20
abbrev sTaken : Stmt := topS 21
abbrev sPlace : Stmt := topS 22
abbrev sName : Stmt := topS 23
abbrev sFields : Stmt := topS 24
abbrev sRight : Stmt := topS 25
abbrev sLaw : Stmt := topS 26
abbrev sX0 : Stmt := inClass (topS 2) 0
abbrev sX1 : Stmt := inClass (topS 9) 0
abbrev sX2 : Stmt := inClass (topS 8) 0
abbrev sX3 : Stmt := inClass (topS 3) 0
abbrev sX4 : Stmt := inClass (topS 4) 0
abbrev sX5 : Stmt := inClass (topS 5) 0
abbrev sX6 : Stmt := inClass (topS 6) 0
abbrev sX7 : Stmt := inClass (topS 7) 0
abbrev sX8 : Stmt := inClass (topS 10) 0
abbrev sX9 : Stmt := inClass (topS 11) 0
abbrev sX10 : Stmt := inClass (topS 12) 0
abbrev sX11 : Stmt := inClass (topS 13) 0
abbrev sX12 : Stmt := inClass (topS 14) 0
abbrev sX13 : Stmt := inClass (topS 15) 0
abbrev sX14 : Stmt := inClass (topS 16) 0
abbrev sX15 : Stmt := inClass (topS 17) 0
abbrev sX16 : Stmt := inClass (topS 18) 0
def nmsL : List (List Str) := [["number", "part", "index"], ["number", "part", "index"], ["where", "at"], ["name"], ["name"], ["index"], ["index"], ["size"], ["need"], ["at"], ["index"], ["number"], ["place"], ["place"], ["need"], ["number"], ["pace"]]
def nms (i : Fin 17) : List Str := nmsL.getD i.val []
/-- what the top has written of the classes -/
structure Cls17 (K : PySem.W.Frag) (mg : Str → Option Value) (C fI : Fin 17 → Addr) (OE : Addr) : Prop where
  t : ∀ i, OexT K (C i)
  iC : ∀ i, PySem.W.findIn K (.ref (C i)) "__init__" = some (some (.ref (fI i)))
  tI : ∀ i, PySem.W.typeIn K (.ref (fI i)) = some (.type "function")
  no : ∀ i, ∀ n ∈ nms i, PySem.W.findIn K (.ref (C i)) n = some none
  kit : ∀ i j, PySem.W.kitOne K (.ref (C i)) (.ref (C j)) = some (decide (j = i))
  kitO : ∀ i, PySem.W.kitOne K (.ref (C i)) (.ref OE) = some true
  kitV : ∀ i, PySem.W.kitOne K (.ref (C i)) (.type "ValueError") = some true
  kitN : PySem.W.kitOne K (.type "ValueError") (.ref OE) = some false
  gO : mg "OldError" = some (.ref OE)
  isi : mg "isinstance" = none
  ve : mg "ValueError" = none
  g0 : mg "NoLibrary" = some (.ref (C 0))
  g1 : mg "NoClient" = some (.ref (C 1))
  g2 : mg "NoBody" = some (.ref (C 2))
  g3 : mg "NoClass" = some (.ref (C 3))
  g4 : mg "NoMember" = some (.ref (C 4))
  g5 : mg "NoTables" = some (.ref (C 5))
  g6 : mg "NoFields" = some (.ref (C 6))
  g7 : mg "NoRoom" = some (.ref (C 7))
  g8 : mg "Lacks" = some (.ref (C 8))
  g9 : mg "NoText" = some (.ref (C 9))
  g10 : mg "NoVersions" = some (.ref (C 10))
  g11 : mg "NoVersion" = some (.ref (C 11))
  g12 : mg "NoPlace" = some (.ref (C 12))
  g13 : mg "NoReference" = some (.ref (C 13))
  g14 : mg "NoNeed" = some (.ref (C 14))
  g15 : mg "NoNumber" = some (.ref (C 15))
  g16 : mg "NoPace" = some (.ref (C 16))
def spX (C : Addr) (ns : List Str) : Sp := fun vs H Q _ => ∃ (a : Addr) (xs : List V), vs = .ref a :: xs ∧ xs.length = ns.length ∧ H a = some (exo a C none) ∧
  ∀ H', OexAt C H' a (ns.zip xs).reverse → (∀ b o, H b = some o → b ≠ a → H' b = some o) → Q .non H'
theorem spX_len {C : Addr} {ns : List Str} {vs : List V} {H : Hp} {Q : VK} {E : XK} (h : spX C ns vs H Q E) : vs.length = ns.length + 1 := by
  obtain ⟨a, xs, rfl, l, _⟩ := h
  rw [List.length_cons, l]
theorem OexAt.same {C : Addr} {H H' : Hp} {e : Addr} {fs : List (Str × V)} (h : OexAt C H e fs) (s : Same H H') : OexAt C H' e fs := by
  obtain ⟨dx, h1, h2⟩ := h
  exact ⟨dx, s _ _ h1, s _ _ h2⟩
theorem same_up {H : Hp} {p : Addr} {o : HO} (h : H p = none) : Same H (upd H p o) := fun b x e => by
  rw [upd_ne (ne_of_none e h)]
  exact e
theorem same_made {H H' : Hp} {a : Addr} {u : HO} (h : H a = none) (k : ∀ b o, upd H a u b = some o → b ≠ a → H' b = some o) : Same H H' := fun b o e =>
  k b o (by rw [upd_ne (ne_of_none e h)]; exact e) (ne_of_none e h)
section
variable {P : Program} {w : World} {K : PySem.W.Frag} {mg : Str → Option Value} {base : Heap} {C fI : Fin 17 → Addr} {OE : Addr}
theorem scX0 : FnScope ["self", "number", "part", "index"] ["self", "number", "part", "index"] (defScope sX0) := ⟨rfl, rfl, rfl, by decide +kernel, rfl, by decide +kernel, by decide +kernel⟩
theorem okX0 {f : Addr} {fd : FuncData} (F : Fun K "__init__" "NoLibrary.__init__" sX0 f fd) (T : Cls17 K mg C fI OE) : FnOk P w K mg base CX0 1 f fd ["self", "number", "part", "index"] (spX (C 0) ["number", "part", "index"]) := by
  refine F.ok scX0 (fun vs H Q E h => spX_len h) (fun cdv A outer s H vs Q E hr h => ?_)
  obtain ⟨a, xs, rfl, l, ha, k⟩ := h
  match xs, l with
  | [x, y, z], _ =>
    refine ⟨_, pss_cons (ps_ost (pv 0) (pv 1)) (pss_cons (ps_ost (pv 0) (pv 2)) (pss_one (ps_ost (pv 0) (pv 3)))), ?_⟩
    refine ⟨_, rfl, _, rfl, a, C 0, rfl, (T.t 0).c, T.no 0 _ (by decide +kernel), .inl ⟨ha, fun dx nd ne => ?_⟩⟩
    have ea : ∀ u v, upd (upd H dx u) a v a = some v := fun u v => upd_same
    have ed : ∀ u v, upd (upd H dx u) a v dx = some u := fun u v => by rw [upd_ne ne]; exact upd_same
    refine ⟨_, rfl, _, rfl, a, C 0, rfl, (T.t 0).c, T.no 0 _ (by decide +kernel), .inr ⟨dx, _, ea _ _, ed _ _, by show 1 ≤ 900; decide, ?_⟩⟩
    refine ⟨_, rfl, _, rfl, a, C 0, rfl, (T.t 0).c, T.no 0 _ (by decide +kernel), .inr ⟨dx, _, Eq.trans (upd_ne (Ne.symm ne)) (ea _ _), upd_same, by show 2 ≤ 900; decide, ?_⟩⟩
    exact k _ ⟨dx, Eq.trans (upd_ne (Ne.symm ne)) (Eq.trans (upd_ne (Ne.symm ne)) (ea _ _)), upd_same⟩ fun b o e hb => by rw [upd_ne (ne_of_none e nd), upd_ne (ne_of_none e nd), upd_ne hb, upd_ne (ne_of_none e nd)]; exact e
theorem scX1 : FnScope ["self", "number", "part", "index"] ["self", "number", "part", "index"] (defScope sX1) := ⟨rfl, rfl, rfl, by decide +kernel, rfl, by decide +kernel, by decide +kernel⟩
theorem okX1 {f : Addr} {fd : FuncData} (F : Fun K "__init__" "NoClient.__init__" sX1 f fd) (T : Cls17 K mg C fI OE) : FnOk P w K mg base CX0 1 f fd ["self", "number", "part", "index"] (spX (C 1) ["number", "part", "index"]) := by
  refine F.ok scX1 (fun vs H Q E h => spX_len h) (fun cdv A outer s H vs Q E hr h => ?_)
  obtain ⟨a, xs, rfl, l, ha, k⟩ := h
  match xs, l with
  | [x, y, z], _ =>
    refine ⟨_, pss_cons (ps_ost (pv 0) (pv 1)) (pss_cons (ps_ost (pv 0) (pv 2)) (pss_one (ps_ost (pv 0) (pv 3)))), ?_⟩
    refine ⟨_, rfl, _, rfl, a, C 1, rfl, (T.t 1).c, T.no 1 _ (by decide +kernel), .inl ⟨ha, fun dx nd ne => ?_⟩⟩
    have ea : ∀ u v, upd (upd H dx u) a v a = some v := fun u v => upd_same
    have ed : ∀ u v, upd (upd H dx u) a v dx = some u := fun u v => by rw [upd_ne ne]; exact upd_same
    refine ⟨_, rfl, _, rfl, a, C 1, rfl, (T.t 1).c, T.no 1 _ (by decide +kernel), .inr ⟨dx, _, ea _ _, ed _ _, by show 1 ≤ 900; decide, ?_⟩⟩
    refine ⟨_, rfl, _, rfl, a, C 1, rfl, (T.t 1).c, T.no 1 _ (by decide +kernel), .inr ⟨dx, _, Eq.trans (upd_ne (Ne.symm ne)) (ea _ _), upd_same, by show 2 ≤ 900; decide, ?_⟩⟩
    exact k _ ⟨dx, Eq.trans (upd_ne (Ne.symm ne)) (Eq.trans (upd_ne (Ne.symm ne)) (ea _ _)), upd_same⟩ fun b o e hb => by rw [upd_ne (ne_of_none e nd), upd_ne (ne_of_none e nd), upd_ne hb, upd_ne (ne_of_none e nd)]; exact e
theorem scX2 : FnScope ["self", "where", "at"] ["self", "where", "at"] (defScope sX2) := ⟨rfl, rfl, rfl, by decide +kernel, rfl, by decide +kernel, by decide +kernel⟩
theorem okX2 {f : Addr} {fd : FuncData} (F : Fun K "__init__" "NoBody.__init__" sX2 f fd) (T : Cls17 K mg C fI OE) : FnOk P w K mg base CX0 1 f fd ["self", "where", "at"] (spX (C 2) ["where", "at"]) := by
  refine F.ok scX2 (fun vs H Q E h => spX_len h) (fun cdv A outer s H vs Q E hr h => ?_)
  obtain ⟨a, xs, rfl, l, ha, k⟩ := h
  match xs, l with
  | [x, y], _ =>
    refine ⟨_, pss_cons (ps_ost (pv 0) (pv 1)) (pss_one (ps_ost (pv 0) (pv 2))), ?_⟩
    refine ⟨_, rfl, _, rfl, a, C 2, rfl, (T.t 2).c, T.no 2 _ (by decide +kernel), .inl ⟨ha, fun dx nd ne => ?_⟩⟩
    have ea : ∀ u v, upd (upd H dx u) a v a = some v := fun u v => upd_same
    have ed : ∀ u v, upd (upd H dx u) a v dx = some u := fun u v => by rw [upd_ne ne]; exact upd_same
    refine ⟨_, rfl, _, rfl, a, C 2, rfl, (T.t 2).c, T.no 2 _ (by decide +kernel), .inr ⟨dx, _, ea _ _, ed _ _, by show 1 ≤ 900; decide, ?_⟩⟩
    exact k _ ⟨dx, Eq.trans (upd_ne (Ne.symm ne)) (ea _ _), upd_same⟩ fun b o e hb => by rw [upd_ne (ne_of_none e nd), upd_ne hb, upd_ne (ne_of_none e nd)]; exact e
theorem scX3 : FnScope ["self", "name"] ["self", "name"] (defScope sX3) := ⟨rfl, rfl, rfl, by decide +kernel, rfl, by decide +kernel, by decide +kernel⟩
theorem okX3 {f : Addr} {fd : FuncData} (F : Fun K "__init__" "NoClass.__init__" sX3 f fd) (T : Cls17 K mg C fI OE) : FnOk P w K mg base CX0 1 f fd ["self", "name"] (spX (C 3) ["name"]) := by
  refine F.ok scX3 (fun vs H Q E h => spX_len h) (fun cdv A outer s H vs Q E hr h => ?_)
  obtain ⟨a, xs, rfl, l, ha, k⟩ := h
  match xs, l with
  | [x], _ =>
    refine ⟨_, pss_one (ps_ost (pv 0) (pv 1)), ?_⟩
    refine ⟨_, rfl, _, rfl, a, C 3, rfl, (T.t 3).c, T.no 3 _ (by decide +kernel), .inl ⟨ha, fun dx nd ne => ?_⟩⟩
    exact k _ ⟨dx, upd_same, by rw [upd_ne ne]; exact upd_same⟩ fun b o e hb => by rw [upd_ne hb, upd_ne (ne_of_none e nd)]; exact e
theorem scX4 : FnScope ["self", "name"] ["self", "name"] (defScope sX4) := ⟨rfl, rfl, rfl, by decide +kernel, rfl, by decide +kernel, by decide +kernel⟩
theorem okX4 {f : Addr} {fd : FuncData} (F : Fun K "__init__" "NoMember.__init__" sX4 f fd) (T : Cls17 K mg C fI OE) : FnOk P w K mg base CX0 1 f fd ["self", "name"] (spX (C 4) ["name"]) := by
  refine F.ok scX4 (fun vs H Q E h => spX_len h) (fun cdv A outer s H vs Q E hr h => ?_)
  obtain ⟨a, xs, rfl, l, ha, k⟩ := h
  match xs, l with
  | [x], _ =>
    refine ⟨_, pss_one (ps_ost (pv 0) (pv 1)), ?_⟩
    refine ⟨_, rfl, _, rfl, a, C 4, rfl, (T.t 4).c, T.no 4 _ (by decide +kernel), .inl ⟨ha, fun dx nd ne => ?_⟩⟩
    exact k _ ⟨dx, upd_same, by rw [upd_ne ne]; exact upd_same⟩ fun b o e hb => by rw [upd_ne hb, upd_ne (ne_of_none e nd)]; exact e
theorem scX5 : FnScope ["self", "index"] ["self", "index"] (defScope sX5) := ⟨rfl, rfl, rfl, by decide +kernel, rfl, by decide +kernel, by decide +kernel⟩
theorem okX5 {f : Addr} {fd : FuncData} (F : Fun K "__init__" "NoTables.__init__" sX5 f fd) (T : Cls17 K mg C fI OE) : FnOk P w K mg base CX0 1 f fd ["self", "index"] (spX (C 5) ["index"]) := by
  refine F.ok scX5 (fun vs H Q E h => spX_len h) (fun cdv A outer s H vs Q E hr h => ?_)
  obtain ⟨a, xs, rfl, l, ha, k⟩ := h
  match xs, l with
  | [x], _ =>
    refine ⟨_, pss_one (ps_ost (pv 0) (pv 1)), ?_⟩
    refine ⟨_, rfl, _, rfl, a, C 5, rfl, (T.t 5).c, T.no 5 _ (by decide +kernel), .inl ⟨ha, fun dx nd ne => ?_⟩⟩
    exact k _ ⟨dx, upd_same, by rw [upd_ne ne]; exact upd_same⟩ fun b o e hb => by rw [upd_ne hb, upd_ne (ne_of_none e nd)]; exact e
theorem scX6 : FnScope ["self", "index"] ["self", "index"] (defScope sX6) := ⟨rfl, rfl, rfl, by decide +kernel, rfl, by decide +kernel, by decide +kernel⟩
theorem okX6 {f : Addr} {fd : FuncData} (F : Fun K "__init__" "NoFields.__init__" sX6 f fd) (T : Cls17 K mg C fI OE) : FnOk P w K mg base CX0 1 f fd ["self", "index"] (spX (C 6) ["index"]) := by
  refine F.ok scX6 (fun vs H Q E h => spX_len h) (fun cdv A outer s H vs Q E hr h => ?_)
  obtain ⟨a, xs, rfl, l, ha, k⟩ := h
  match xs, l with
  | [x], _ =>
    refine ⟨_, pss_one (ps_ost (pv 0) (pv 1)), ?_⟩
    refine ⟨_, rfl, _, rfl, a, C 6, rfl, (T.t 6).c, T.no 6 _ (by decide +kernel), .inl ⟨ha, fun dx nd ne => ?_⟩⟩
    exact k _ ⟨dx, upd_same, by rw [upd_ne ne]; exact upd_same⟩ fun b o e hb => by rw [upd_ne hb, upd_ne (ne_of_none e nd)]; exact e
theorem scX7 : FnScope ["self", "size"] ["self", "size"] (defScope sX7) := ⟨rfl, rfl, rfl, by decide +kernel, rfl, by decide +kernel, by decide +kernel⟩
theorem okX7 {f : Addr} {fd : FuncData} (F : Fun K "__init__" "NoRoom.__init__" sX7 f fd) (T : Cls17 K mg C fI OE) : FnOk P w K mg base CX0 1 f fd ["self", "size"] (spX (C 7) ["size"]) := by
  refine F.ok scX7 (fun vs H Q E h => spX_len h) (fun cdv A outer s H vs Q E hr h => ?_)
  obtain ⟨a, xs, rfl, l, ha, k⟩ := h
  match xs, l with
  | [x], _ =>
    refine ⟨_, pss_one (ps_ost (pv 0) (pv 1)), ?_⟩
    refine ⟨_, rfl, _, rfl, a, C 7, rfl, (T.t 7).c, T.no 7 _ (by decide +kernel), .inl ⟨ha, fun dx nd ne => ?_⟩⟩
    exact k _ ⟨dx, upd_same, by rw [upd_ne ne]; exact upd_same⟩ fun b o e hb => by rw [upd_ne hb, upd_ne (ne_of_none e nd)]; exact e
theorem scX8 : FnScope ["self", "need"] ["self", "need"] (defScope sX8) := ⟨rfl, rfl, rfl, by decide +kernel, rfl, by decide +kernel, by decide +kernel⟩
theorem okX8 {f : Addr} {fd : FuncData} (F : Fun K "__init__" "Lacks.__init__" sX8 f fd) (T : Cls17 K mg C fI OE) : FnOk P w K mg base CX0 1 f fd ["self", "need"] (spX (C 8) ["need"]) := by
  refine F.ok scX8 (fun vs H Q E h => spX_len h) (fun cdv A outer s H vs Q E hr h => ?_)
  obtain ⟨a, xs, rfl, l, ha, k⟩ := h
  match xs, l with
  | [x], _ =>
    refine ⟨_, pss_one (ps_ost (pv 0) (pv 1)), ?_⟩
    refine ⟨_, rfl, _, rfl, a, C 8, rfl, (T.t 8).c, T.no 8 _ (by decide +kernel), .inl ⟨ha, fun dx nd ne => ?_⟩⟩
    exact k _ ⟨dx, upd_same, by rw [upd_ne ne]; exact upd_same⟩ fun b o e hb => by rw [upd_ne hb, upd_ne (ne_of_none e nd)]; exact e
theorem scX9 : FnScope ["self", "at"] ["self", "at"] (defScope sX9) := ⟨rfl, rfl, rfl, by decide +kernel, rfl, by decide +kernel, by decide +kernel⟩
theorem okX9 {f : Addr} {fd : FuncData} (F : Fun K "__init__" "NoText.__init__" sX9 f fd) (T : Cls17 K mg C fI OE) : FnOk P w K mg base CX0 1 f fd ["self", "at"] (spX (C 9) ["at"]) := by
  refine F.ok scX9 (fun vs H Q E h => spX_len h) (fun cdv A outer s H vs Q E hr h => ?_)
  obtain ⟨a, xs, rfl, l, ha, k⟩ := h
  match xs, l with
  | [x], _ =>
    refine ⟨_, pss_one (ps_ost (pv 0) (pv 1)), ?_⟩
    refine ⟨_, rfl, _, rfl, a, C 9, rfl, (T.t 9).c, T.no 9 _ (by decide +kernel), .inl ⟨ha, fun dx nd ne => ?_⟩⟩
    exact k _ ⟨dx, upd_same, by rw [upd_ne ne]; exact upd_same⟩ fun b o e hb => by rw [upd_ne hb, upd_ne (ne_of_none e nd)]; exact e
theorem scX10 : FnScope ["self", "index"] ["self", "index"] (defScope sX10) := ⟨rfl, rfl, rfl, by decide +kernel, rfl, by decide +kernel, by decide +kernel⟩
theorem okX10 {f : Addr} {fd : FuncData} (F : Fun K "__init__" "NoVersions.__init__" sX10 f fd) (T : Cls17 K mg C fI OE) : FnOk P w K mg base CX0 1 f fd ["self", "index"] (spX (C 10) ["index"]) := by
  refine F.ok scX10 (fun vs H Q E h => spX_len h) (fun cdv A outer s H vs Q E hr h => ?_)
  obtain ⟨a, xs, rfl, l, ha, k⟩ := h
  match xs, l with
  | [x], _ =>
    refine ⟨_, pss_one (ps_ost (pv 0) (pv 1)), ?_⟩
    refine ⟨_, rfl, _, rfl, a, C 10, rfl, (T.t 10).c, T.no 10 _ (by decide +kernel), .inl ⟨ha, fun dx nd ne => ?_⟩⟩
    exact k _ ⟨dx, upd_same, by rw [upd_ne ne]; exact upd_same⟩ fun b o e hb => by rw [upd_ne hb, upd_ne (ne_of_none e nd)]; exact e
theorem scX11 : FnScope ["self", "number"] ["self", "number"] (defScope sX11) := ⟨rfl, rfl, rfl, by decide +kernel, rfl, by decide +kernel, by decide +kernel⟩
theorem okX11 {f : Addr} {fd : FuncData} (F : Fun K "__init__" "NoVersion.__init__" sX11 f fd) (T : Cls17 K mg C fI OE) : FnOk P w K mg base CX0 1 f fd ["self", "number"] (spX (C 11) ["number"]) := by
  refine F.ok scX11 (fun vs H Q E h => spX_len h) (fun cdv A outer s H vs Q E hr h => ?_)
  obtain ⟨a, xs, rfl, l, ha, k⟩ := h
  match xs, l with
  | [x], _ =>
    refine ⟨_, pss_one (ps_ost (pv 0) (pv 1)), ?_⟩
    refine ⟨_, rfl, _, rfl, a, C 11, rfl, (T.t 11).c, T.no 11 _ (by decide +kernel), .inl ⟨ha, fun dx nd ne => ?_⟩⟩
    exact k _ ⟨dx, upd_same, by rw [upd_ne ne]; exact upd_same⟩ fun b o e hb => by rw [upd_ne hb, upd_ne (ne_of_none e nd)]; exact e
theorem scX12 : FnScope ["self", "place"] ["self", "place"] (defScope sX12) := ⟨rfl, rfl, rfl, by decide +kernel, rfl, by decide +kernel, by decide +kernel⟩
theorem okX12 {f : Addr} {fd : FuncData} (F : Fun K "__init__" "NoPlace.__init__" sX12 f fd) (T : Cls17 K mg C fI OE) : FnOk P w K mg base CX0 1 f fd ["self", "place"] (spX (C 12) ["place"]) := by
  refine F.ok scX12 (fun vs H Q E h => spX_len h) (fun cdv A outer s H vs Q E hr h => ?_)
  obtain ⟨a, xs, rfl, l, ha, k⟩ := h
  match xs, l with
  | [x], _ =>
    refine ⟨_, pss_one (ps_ost (pv 0) (pv 1)), ?_⟩
    refine ⟨_, rfl, _, rfl, a, C 12, rfl, (T.t 12).c, T.no 12 _ (by decide +kernel), .inl ⟨ha, fun dx nd ne => ?_⟩⟩
    exact k _ ⟨dx, upd_same, by rw [upd_ne ne]; exact upd_same⟩ fun b o e hb => by rw [upd_ne hb, upd_ne (ne_of_none e nd)]; exact e
theorem scX13 : FnScope ["self", "place"] ["self", "place"] (defScope sX13) := ⟨rfl, rfl, rfl, by decide +kernel, rfl, by decide +kernel, by decide +kernel⟩
theorem okX13 {f : Addr} {fd : FuncData} (F : Fun K "__init__" "NoReference.__init__" sX13 f fd) (T : Cls17 K mg C fI OE) : FnOk P w K mg base CX0 1 f fd ["self", "place"] (spX (C 13) ["place"]) := by
  refine F.ok scX13 (fun vs H Q E h => spX_len h) (fun cdv A outer s H vs Q E hr h => ?_)
  obtain ⟨a, xs, rfl, l, ha, k⟩ := h
  match xs, l with
  | [x], _ =>
    refine ⟨_, pss_one (ps_ost (pv 0) (pv 1)), ?_⟩
    refine ⟨_, rfl, _, rfl, a, C 13, rfl, (T.t 13).c, T.no 13 _ (by decide +kernel), .inl ⟨ha, fun dx nd ne => ?_⟩⟩
    exact k _ ⟨dx, upd_same, by rw [upd_ne ne]; exact upd_same⟩ fun b o e hb => by rw [upd_ne hb, upd_ne (ne_of_none e nd)]; exact e
theorem scX14 : FnScope ["self", "need"] ["self", "need"] (defScope sX14) := ⟨rfl, rfl, rfl, by decide +kernel, rfl, by decide +kernel, by decide +kernel⟩
theorem okX14 {f : Addr} {fd : FuncData} (F : Fun K "__init__" "NoNeed.__init__" sX14 f fd) (T : Cls17 K mg C fI OE) : FnOk P w K mg base CX0 1 f fd ["self", "need"] (spX (C 14) ["need"]) := by
  refine F.ok scX14 (fun vs H Q E h => spX_len h) (fun cdv A outer s H vs Q E hr h => ?_)
  obtain ⟨a, xs, rfl, l, ha, k⟩ := h
  match xs, l with
  | [x], _ =>
    refine ⟨_, pss_one (ps_ost (pv 0) (pv 1)), ?_⟩
    refine ⟨_, rfl, _, rfl, a, C 14, rfl, (T.t 14).c, T.no 14 _ (by decide +kernel), .inl ⟨ha, fun dx nd ne => ?_⟩⟩
    exact k _ ⟨dx, upd_same, by rw [upd_ne ne]; exact upd_same⟩ fun b o e hb => by rw [upd_ne hb, upd_ne (ne_of_none e nd)]; exact e
theorem scX15 : FnScope ["self", "number"] ["self", "number"] (defScope sX15) := ⟨rfl, rfl, rfl, by decide +kernel, rfl, by decide +kernel, by decide +kernel⟩
theorem okX15 {f : Addr} {fd : FuncData} (F : Fun K "__init__" "NoNumber.__init__" sX15 f fd) (T : Cls17 K mg C fI OE) : FnOk P w K mg base CX0 1 f fd ["self", "number"] (spX (C 15) ["number"]) := by
  refine F.ok scX15 (fun vs H Q E h => spX_len h) (fun cdv A outer s H vs Q E hr h => ?_)
  obtain ⟨a, xs, rfl, l, ha, k⟩ := h
  match xs, l with
  | [x], _ =>
    refine ⟨_, pss_one (ps_ost (pv 0) (pv 1)), ?_⟩
    refine ⟨_, rfl, _, rfl, a, C 15, rfl, (T.t 15).c, T.no 15 _ (by decide +kernel), .inl ⟨ha, fun dx nd ne => ?_⟩⟩
    exact k _ ⟨dx, upd_same, by rw [upd_ne ne]; exact upd_same⟩ fun b o e hb => by rw [upd_ne hb, upd_ne (ne_of_none e nd)]; exact e
theorem scX16 : FnScope ["self", "pace"] ["self", "pace"] (defScope sX16) := ⟨rfl, rfl, rfl, by decide +kernel, rfl, by decide +kernel, by decide +kernel⟩
theorem okX16 {f : Addr} {fd : FuncData} (F : Fun K "__init__" "NoPace.__init__" sX16 f fd) (T : Cls17 K mg C fI OE) : FnOk P w K mg base CX0 1 f fd ["self", "pace"] (spX (C 16) ["pace"]) := by
  refine F.ok scX16 (fun vs H Q E h => spX_len h) (fun cdv A outer s H vs Q E hr h => ?_)
  obtain ⟨a, xs, rfl, l, ha, k⟩ := h
  match xs, l with
  | [x], _ =>
    refine ⟨_, pss_one (ps_ost (pv 0) (pv 1)), ?_⟩
    refine ⟨_, rfl, _, rfl, a, C 16, rfl, (T.t 16).c, T.no 16 _ (by decide +kernel), .inl ⟨ha, fun dx nd ne => ?_⟩⟩
    exact k _ ⟨dx, upd_same, by rw [upd_ne ne]; exact upd_same⟩ fun b o e hb => by rw [upd_ne hb, upd_ne (ne_of_none e nd)]; exact e
end
end K20

/-! k20: _law_taken -/
namespace K20
open PySem PySem.Spec PyProof.Rows L2
def tk (i : Fin 17) : List V := [.bl (decide ((0 : Fin 17) = i)), .bl (decide ((1 : Fin 17) = i)), .bl (decide ((2 : Fin 17) = i)), .bl (decide ((3 : Fin 17) = i)), .bl (decide ((4 : Fin 17) = i)), .bl (decide ((5 : Fin 17) = i)), .bl (decide ((6 : Fin 17) = i)), .bl (decide ((7 : Fin 17) = i)), .bl (decide ((8 : Fin 17) = i)), .bl (decide ((9 : Fin 17) = i)), .bl (decide ((10 : Fin 17) = i)), .bl (decide ((11 : Fin 17) = i)), .bl (decide ((12 : Fin 17) = i)), .bl (decide ((13 : Fin 17) = i)), .bl (decide ((14 : Fin 17) = i)), .bl (decide ((15 : Fin 17) = i)), .bl (decide ((16 : Fin 17) = i))]
def spTaken (C : Fin 17 → Addr) : Sp := fun vs H Q _ => ∃ (a : Addr) (i : Fin 17) (fs : List (Str × V)), vs = [.ref a] ∧ OexAt (C i) H a fs ∧ ∀ H' p, Same H H' → H' p = some (.lst (tk i)) → Q (.ref p) H'
theorem few {n : Nat} (h : n ≤ 1000) : n ≤ sizeLine := Nat.le_of_lt (small1000 h)
section
variable {P : Program} {w : World} {K : PySem.W.Frag} {mg : Str → Option Value} {base : Heap} {C fI : Fin 17 → Addr} {OE : Addr}
theorem scT : FnScope ["_law_e", "_law_found"] ["_law_e"] (defScope sTaken) := ⟨rfl, rfl, rfl, by decide +kernel, rfl, by decide +kernel, by decide +kernel⟩
theorem okTaken {f : Addr} {fd : FuncData} (F : Fun K "_law_taken" "_law_taken" sTaken f fd) (T : Cls17 K mg C fI OE) : FnOk P w K mg base CX0 1 f fd ["_law_e"] (spTaken C) := by
  refine F.ok scT (fun vs H Q E h => ?_) (fun cdv A outer s H vs Q E hr h => ?_)
  · obtain ⟨a, i, fs, rfl, _⟩ := h
    rfl
  · obtain ⟨a, i, fs, rfl, hat, k⟩ := h
    refine ⟨_, (pss_cons (ps_set (i := 1) scT.nd rfl (.inl rfl) (pe_lst (pa_cons (pe_callB call_isOx (by rfl) T.isi PyProof.Rows.boot_isinstance (pa_cons (pv 0) (pa_cons (pe_glob (v := .ref (C 0)) (by rfl) T.g0 rfl) pa_nil))) (pa_cons (pe_callB call_isOx (by rfl) T.isi PyProof.Rows.boot_isinstance (pa_cons (pv 0) (pa_cons (pe_glob (v := .ref (C 1)) (by rfl) T.g1 rfl) pa_nil))) (pa_cons (pe_callB call_isOx (by rfl) T.isi PyProof.Rows.boot_isinstance (pa_cons (pv 0) (pa_cons (pe_glob (v := .ref (C 2)) (by rfl) T.g2 rfl) pa_nil))) (pa_cons (pe_callB call_isOx (by rfl) T.isi PyProof.Rows.boot_isinstance (pa_cons (pv 0) (pa_cons (pe_glob (v := .ref (C 3)) (by rfl) T.g3 rfl) pa_nil))) pa_nil))))))
      (pss_cons (ps_set (i := 1) scT.nd rfl (.inl rfl) (pe_op op_cat (pv 1) (pe_lst (pa_cons (pe_callB call_isOx (by rfl) T.isi PyProof.Rows.boot_isinstance (pa_cons (pv 0) (pa_cons (pe_glob (v := .ref (C 4)) (by rfl) T.g4 rfl) pa_nil))) (pa_cons (pe_callB call_isOx (by rfl) T.isi PyProof.Rows.boot_isinstance (pa_cons (pv 0) (pa_cons (pe_glob (v := .ref (C 5)) (by rfl) T.g5 rfl) pa_nil))) (pa_cons (pe_callB call_isOx (by rfl) T.isi PyProof.Rows.boot_isinstance (pa_cons (pv 0) (pa_cons (pe_glob (v := .ref (C 6)) (by rfl) T.g6 rfl) pa_nil))) (pa_cons (pe_callB call_isOx (by rfl) T.isi PyProof.Rows.boot_isinstance (pa_cons (pv 0) (pa_cons (pe_glob (v := .ref (C 7)) (by rfl) T.g7 rfl) pa_nil))) pa_nil)))))))
      (pss_cons (ps_set (i := 1) scT.nd rfl (.inl rfl) (pe_op op_cat (pv 1) (pe_lst (pa_cons (pe_callB call_isOx (by rfl) T.isi PyProof.Rows.boot_isinstance (pa_cons (pv 0) (pa_cons (pe_glob (v := .ref (C 8)) (by rfl) T.g8 rfl) pa_nil))) (pa_cons (pe_callB call_isOx (by rfl) T.isi PyProof.Rows.boot_isinstance (pa_cons (pv 0) (pa_cons (pe_glob (v := .ref (C 9)) (by rfl) T.g9 rfl) pa_nil))) (pa_cons (pe_callB call_isOx (by rfl) T.isi PyProof.Rows.boot_isinstance (pa_cons (pv 0) (pa_cons (pe_glob (v := .ref (C 10)) (by rfl) T.g10 rfl) pa_nil))) (pa_cons (pe_callB call_isOx (by rfl) T.isi PyProof.Rows.boot_isinstance (pa_cons (pv 0) (pa_cons (pe_glob (v := .ref (C 11)) (by rfl) T.g11 rfl) pa_nil))) pa_nil)))))))
      (pss_cons (ps_set (i := 1) scT.nd rfl (.inl rfl) (pe_op op_cat (pv 1) (pe_lst (pa_cons (pe_callB call_isOx (by rfl) T.isi PyProof.Rows.boot_isinstance (pa_cons (pv 0) (pa_cons (pe_glob (v := .ref (C 12)) (by rfl) T.g12 rfl) pa_nil))) (pa_cons (pe_callB call_isOx (by rfl) T.isi PyProof.Rows.boot_isinstance (pa_cons (pv 0) (pa_cons (pe_glob (v := .ref (C 13)) (by rfl) T.g13 rfl) pa_nil))) (pa_cons (pe_callB call_isOx (by rfl) T.isi PyProof.Rows.boot_isinstance (pa_cons (pv 0) (pa_cons (pe_glob (v := .ref (C 14)) (by rfl) T.g14 rfl) pa_nil))) (pa_cons (pe_callB call_isOx (by rfl) T.isi PyProof.Rows.boot_isinstance (pa_cons (pv 0) (pa_cons (pe_glob (v := .ref (C 15)) (by rfl) T.g15 rfl) pa_nil))) pa_nil)))))))
      (pss_one (ps_ret (pe_op op_cat (pv 1) (pe_lst (pa_cons (pe_callB call_isOx (by rfl) T.isi PyProof.Rows.boot_isinstance (pa_cons (pv 0) (pa_cons (pe_glob (v := .ref (C 16)) (by rfl) T.g16 rfl) pa_nil))) pa_nil))))))))), ?_⟩
    have s0 : Same H H := Same.refl H
    refine ⟨_, rfl, a, C i, fs, _, _, _, rfl, .own _, hat, T.t i, T.kit i 0, ?_⟩
    refine ⟨_, rfl, a, C i, fs, _, _, _, rfl, .own _, hat, T.t i, T.kit i 1, ?_⟩
    refine ⟨_, rfl, a, C i, fs, _, _, _, rfl, .own _, hat, T.t i, T.kit i 2, ?_⟩
    refine ⟨_, rfl, a, C i, fs, _, _, _, rfl, .own _, hat, T.t i, T.kit i 3, ?_⟩
    refine ⟨few (by show 4 ≤ 1000; decide), fun p0 n0 => ?_⟩
    have t0 := s0.trans (same_up (o := .lst [.bl (decide ((0 : Fin 17) = i)), .bl (decide ((1 : Fin 17) = i)), .bl (decide ((2 : Fin 17) = i)), .bl (decide ((3 : Fin 17) = i))]) n0)
    have s1 := t0
    have h1 : ∀ o, upd H p0 o p0 = some o := fun o => upd_same
    have hat1 := OexAt.same hat s1
    refine ⟨_, rfl, ?_⟩
    refine ⟨_, rfl, a, C i, fs, _, _, _, rfl, .own _, hat1, T.t i, T.kit i 4, ?_⟩
    refine ⟨_, rfl, a, C i, fs, _, _, _, rfl, .own _, hat1, T.t i, T.kit i 5, ?_⟩
    refine ⟨_, rfl, a, C i, fs, _, _, _, rfl, .own _, hat1, T.t i, T.kit i 6, ?_⟩
    refine ⟨_, rfl, a, C i, fs, _, _, _, rfl, .own _, hat1, T.t i, T.kit i 7, ?_⟩
    refine ⟨few (by show 4 ≤ 1000; decide), fun p1 n1 => ?_⟩
    have t1 := s1.trans (same_up (o := .lst [.bl (decide ((4 : Fin 17) = i)), .bl (decide ((5 : Fin 17) = i)), .bl (decide ((6 : Fin 17) = i)), .bl (decide ((7 : Fin 17) = i))]) n1)
    refine ⟨p0, p1, _, _, rfl, rfl, Eq.trans (upd_ne (ne_of_none (h1 _) n1)) (h1 _), upd_same, few (by show 4 + 4 ≤ 1000; decide), fun q1 m1 => ?_⟩
    have s2 := t1.trans (same_up (o := .lst [.bl (decide ((0 : Fin 17) = i)), .bl (decide ((1 : Fin 17) = i)), .bl (decide ((2 : Fin 17) = i)), .bl (decide ((3 : Fin 17) = i)), .bl (decide ((4 : Fin 17) = i)), .bl (decide ((5 : Fin 17) = i)), .bl (decide ((6 : Fin 17) = i)), .bl (decide ((7 : Fin 17) = i))]) m1)
    have hat2 := OexAt.same hat s2
    refine ⟨_, rfl, ?_⟩
    refine ⟨_, rfl, a, C i, fs, _, _, _, rfl, .own _, hat2, T.t i, T.kit i 8, ?_⟩
    refine ⟨_, rfl, a, C i, fs, _, _, _, rfl, .own _, hat2, T.t i, T.kit i 9, ?_⟩
    refine ⟨_, rfl, a, C i, fs, _, _, _, rfl, .own _, hat2, T.t i, T.kit i 10, ?_⟩
    refine ⟨_, rfl, a, C i, fs, _, _, _, rfl, .own _, hat2, T.t i, T.kit i 11, ?_⟩
    refine ⟨few (by show 4 ≤ 1000; decide), fun p2 n2 => ?_⟩
    have t2 := s2.trans (same_up (o := .lst [.bl (decide ((8 : Fin 17) = i)), .bl (decide ((9 : Fin 17) = i)), .bl (decide ((10 : Fin 17) = i)), .bl (decide ((11 : Fin 17) = i))]) n2)
    refine ⟨q1, p2, _, _, rfl, rfl, Eq.trans (upd_ne (ne_of_none (upd_same) n2)) (upd_same), upd_same, few (by show 8 + 4 ≤ 1000; decide), fun q2 m2 => ?_⟩
    have s3 := t2.trans (same_up (o := .lst [.bl (decide ((0 : Fin 17) = i)), .bl (decide ((1 : Fin 17) = i)), .bl (decide ((2 : Fin 17) = i)), .bl (decide ((3 : Fin 17) = i)), .bl (decide ((4 : Fin 17) = i)), .bl (decide ((5 : Fin 17) = i)), .bl (decide ((6 : Fin 17) = i)), .bl (decide ((7 : Fin 17) = i)), .bl (decide ((8 : Fin 17) = i)), .bl (decide ((9 : Fin 17) = i)), .bl (decide ((10 : Fin 17) = i)), .bl (decide ((11 : Fin 17) = i))]) m2)
    have hat3 := OexAt.same hat s3
    refine ⟨_, rfl, ?_⟩
    refine ⟨_, rfl, a, C i, fs, _, _, _, rfl, .own _, hat3, T.t i, T.kit i 12, ?_⟩
    refine ⟨_, rfl, a, C i, fs, _, _, _, rfl, .own _, hat3, T.t i, T.kit i 13, ?_⟩
    refine ⟨_, rfl, a, C i, fs, _, _, _, rfl, .own _, hat3, T.t i, T.kit i 14, ?_⟩
    refine ⟨_, rfl, a, C i, fs, _, _, _, rfl, .own _, hat3, T.t i, T.kit i 15, ?_⟩
    refine ⟨few (by show 4 ≤ 1000; decide), fun p3 n3 => ?_⟩
    have t3 := s3.trans (same_up (o := .lst [.bl (decide ((12 : Fin 17) = i)), .bl (decide ((13 : Fin 17) = i)), .bl (decide ((14 : Fin 17) = i)), .bl (decide ((15 : Fin 17) = i))]) n3)
    refine ⟨q2, p3, _, _, rfl, rfl, Eq.trans (upd_ne (ne_of_none (upd_same) n3)) (upd_same), upd_same, few (by show 12 + 4 ≤ 1000; decide), fun q3 m3 => ?_⟩
    have s4 := t3.trans (same_up (o := .lst [.bl (decide ((0 : Fin 17) = i)), .bl (decide ((1 : Fin 17) = i)), .bl (decide ((2 : Fin 17) = i)), .bl (decide ((3 : Fin 17) = i)), .bl (decide ((4 : Fin 17) = i)), .bl (decide ((5 : Fin 17) = i)), .bl (decide ((6 : Fin 17) = i)), .bl (decide ((7 : Fin 17) = i)), .bl (decide ((8 : Fin 17) = i)), .bl (decide ((9 : Fin 17) = i)), .bl (decide ((10 : Fin 17) = i)), .bl (decide ((11 : Fin 17) = i)), .bl (decide ((12 : Fin 17) = i)), .bl (decide ((13 : Fin 17) = i)), .bl (decide ((14 : Fin 17) = i)), .bl (decide ((15 : Fin 17) = i))]) m3)
    have hat4 := OexAt.same hat s4
    refine ⟨_, rfl, ?_⟩
    refine ⟨_, rfl, a, C i, fs, _, _, _, rfl, .own _, hat4, T.t i, T.kit i 16, ?_⟩
    refine ⟨few (by show 1 ≤ 1000; decide), fun p4 n4 => ?_⟩
    have t4 := s4.trans (same_up (o := .lst [.bl (decide ((16 : Fin 17) = i))]) n4)
    refine ⟨q3, p4, _, _, rfl, rfl, Eq.trans (upd_ne (ne_of_none (upd_same) n4)) (upd_same), upd_same, few (by show 16 + 1 ≤ 1000; decide), fun q4 m4 => ?_⟩
    have s5 := t4.trans (same_up (o := .lst [.bl (decide ((0 : Fin 17) = i)), .bl (decide ((1 : Fin 17) = i)), .bl (decide ((2 : Fin 17) = i)), .bl (decide ((3 : Fin 17) = i)), .bl (decide ((4 : Fin 17) = i)), .bl (decide ((5 : Fin 17) = i)), .bl (decide ((6 : Fin 17) = i)), .bl (decide ((7 : Fin 17) = i)), .bl (decide ((8 : Fin 17) = i)), .bl (decide ((9 : Fin 17) = i)), .bl (decide ((10 : Fin 17) = i)), .bl (decide ((11 : Fin 17) = i)), .bl (decide ((12 : Fin 17) = i)), .bl (decide ((13 : Fin 17) = i)), .bl (decide ((14 : Fin 17) = i)), .bl (decide ((15 : Fin 17) = i)), .bl (decide ((16 : Fin 17) = i))]) m4)
    have hat5 := OexAt.same hat s5
    exact k _ _ s5 upd_same
end
end K20

/-! k20: _law_by_place, _law_by_name -/
namespace K20
open PySem PySem.Spec PyProof.Rows L2
structure Ini (K : PySem.W.Frag) (fI : Fin 17 → Addr) (fd : Fin 17 → FuncData) : Prop where
  F0 : Fun K "__init__" "NoLibrary.__init__" sX0 (fI 0) (fd 0)
  F1 : Fun K "__init__" "NoClient.__init__" sX1 (fI 1) (fd 1)
  F2 : Fun K "__init__" "NoBody.__init__" sX2 (fI 2) (fd 2)
  F3 : Fun K "__init__" "NoClass.__init__" sX3 (fI 3) (fd 3)
  F4 : Fun K "__init__" "NoMember.__init__" sX4 (fI 4) (fd 4)
  F5 : Fun K "__init__" "NoTables.__init__" sX5 (fI 5) (fd 5)
  F6 : Fun K "__init__" "NoFields.__init__" sX6 (fI 6) (fd 6)
  F7 : Fun K "__init__" "NoRoom.__init__" sX7 (fI 7) (fd 7)
  F8 : Fun K "__init__" "Lacks.__init__" sX8 (fI 8) (fd 8)
  F9 : Fun K "__init__" "NoText.__init__" sX9 (fI 9) (fd 9)
  F10 : Fun K "__init__" "NoVersions.__init__" sX10 (fI 10) (fd 10)
  F11 : Fun K "__init__" "NoVersion.__init__" sX11 (fI 11) (fd 11)
  F12 : Fun K "__init__" "NoPlace.__init__" sX12 (fI 12) (fd 12)
  F13 : Fun K "__init__" "NoReference.__init__" sX13 (fI 13) (fd 13)
  F14 : Fun K "__init__" "NoNeed.__init__" sX14 (fI 14) (fd 14)
  F15 : Fun K "__init__" "NoNumber.__init__" sX15 (fI 15) (fd 15)
  F16 : Fun K "__init__" "NoPace.__init__" sX16 (fI 16) (fd 16)
def fx (x : V) : List (List (Str × V)) := [[("index", .int 7), ("part", .str "p"), ("number", x)], [("index", .int 7), ("part", .str "p"), ("number", x)], [("at", .int 7), ("where", x)], [("name", x)], [("name", x)], [("index", x)], [("index", x)], [("size", x)], [("need", x)], [("at", x)], [("index", x)], [("number", x)], [("place", x)], [("place", x)], [("need", x)], [("number", x)], [("pace", x)]]
structure Some17 (C : Fin 17 → Addr) (x : V) (H : Hp) (p : Addr) (es : List Addr) : Prop where
  len : es.length = 17
  li : H p = some (.lst (es.map V.ref))
  at_ : ∀ i : Fin 17, OexAt (C i) H (es.getD i.val 0) ((fx x).getD i.val [])
def spSome (C : Fin 17 → Addr) : Sp := fun vs H Q _ => ∃ x : V, vs = [x] ∧ ∀ H' p es, Same H H' → Some17 C x H' p es → Q (.ref p) H'
theorem kbOf {K : PySem.W.Frag} {x qual : Str} {st : Stmt} {f : Addr} {fd : FuncData} {ps ks : List Str} {g : List Value → List Value → List Value} (F : Fun K x qual st f fd)
    (h : ∀ (kV doc pm : Value) (an : Option Addr) (cdv ct : Value) (self : Value) (ws : List Value), ws.length = ks.length → bindArgs (PySem.W.fnOf x qual (defArgs st) (defBody st) (defScope st) .none kV doc pm an cdv ct) ⟨[self], ks.zip ws⟩ = pure (ps.zip (self :: g [] ws))) :
    ∀ (self : Value) (ws : List Value), ws.length = ks.length → bindArgs fd ⟨[self], ks.zip ws⟩ = pure (ps.zip (self :: g [] ws)) := by
  obtain ⟨oc, od, kV, doc, pm, an, cdv, ct, osl, rfl, lk, hcd⟩ := F.ex
  exact h kV doc pm an cdv ct
def rv {α : Type} (_ ws : List α) : List α := ws.reverse
theorem vals_rev {xs : List V} {us : List Value} (r : Vals xs us) : Vals (rv [] xs) (rv [] us) := r.reverse
section
variable {P : Program} {w : World} {K : PySem.W.Frag} {mg : Str → Option Value} {base : Heap} {C fI : Fin 17 → Addr} {fd : Fin 17 → FuncData} {OE : Addr}
theorem scP : FnScope ["_law_x", "_law_some"] ["_law_x"] (defScope sPlace) := ⟨rfl, rfl, rfl, by decide +kernel, rfl, by decide +kernel, by decide +kernel⟩
theorem scN : FnScope ["_law_x", "_law_some"] ["_law_x"] (defScope sName) := ⟨rfl, rfl, rfl, by decide +kernel, rfl, by decide +kernel, by decide +kernel⟩
theorem bX0 (I : Ini K fI fd) : Binds K (fd 0) ["self", "number", "part", "index"] [] := I.F0.binds fun _ _ _ _ _ _ us hl => match us, hl with | [_, _, _, _], _ => rfl
theorem kX0 (I : Ini K fI fd) : ∀ (self : Value) (ws : List Value), ws.length = (["index", "part", "number"] : List Str).length → bindArgs (fd 0) ⟨[self], (["index", "part", "number"] : List Str).zip ws⟩ = pure ((["self", "number", "part", "index"] : List Str).zip (self :: rv [] ws)) := kbOf I.F0 fun _ _ _ _ _ _ _ ws hl => match ws, hl with | [_, _, _], _ => rfl
theorem bX1 (I : Ini K fI fd) : Binds K (fd 1) ["self", "number", "part", "index"] [] := I.F1.binds fun _ _ _ _ _ _ us hl => match us, hl with | [_, _, _, _], _ => rfl
theorem kX1 (I : Ini K fI fd) : ∀ (self : Value) (ws : List Value), ws.length = (["index", "part", "number"] : List Str).length → bindArgs (fd 1) ⟨[self], (["index", "part", "number"] : List Str).zip ws⟩ = pure ((["self", "number", "part", "index"] : List Str).zip (self :: rv [] ws)) := kbOf I.F1 fun _ _ _ _ _ _ _ ws hl => match ws, hl with | [_, _, _], _ => rfl
theorem bX2 (I : Ini K fI fd) : Binds K (fd 2) ["self", "where", "at"] [] := I.F2.binds fun _ _ _ _ _ _ us hl => match us, hl with | [_, _, _], _ => rfl
theorem kX2 (I : Ini K fI fd) : ∀ (self : Value) (ws : List Value), ws.length = (["at", "where"] : List Str).length → bindArgs (fd 2) ⟨[self], (["at", "where"] : List Str).zip ws⟩ = pure ((["self", "where", "at"] : List Str).zip (self :: rv [] ws)) := kbOf I.F2 fun _ _ _ _ _ _ _ ws hl => match ws, hl with | [_, _], _ => rfl
theorem bX3 (I : Ini K fI fd) : Binds K (fd 3) ["self", "name"] [] := I.F3.binds fun _ _ _ _ _ _ us hl => match us, hl with | [_, _], _ => rfl
theorem kX3 (I : Ini K fI fd) : ∀ (self : Value) (ws : List Value), ws.length = (["name"] : List Str).length → bindArgs (fd 3) ⟨[self], (["name"] : List Str).zip ws⟩ = pure ((["self", "name"] : List Str).zip (self :: rv [] ws)) := kbOf I.F3 fun _ _ _ _ _ _ _ ws hl => match ws, hl with | [_], _ => rfl
theorem bX4 (I : Ini K fI fd) : Binds K (fd 4) ["self", "name"] [] := I.F4.binds fun _ _ _ _ _ _ us hl => match us, hl with | [_, _], _ => rfl
theorem kX4 (I : Ini K fI fd) : ∀ (self : Value) (ws : List Value), ws.length = (["name"] : List Str).length → bindArgs (fd 4) ⟨[self], (["name"] : List Str).zip ws⟩ = pure ((["self", "name"] : List Str).zip (self :: rv [] ws)) := kbOf I.F4 fun _ _ _ _ _ _ _ ws hl => match ws, hl with | [_], _ => rfl
theorem bX5 (I : Ini K fI fd) : Binds K (fd 5) ["self", "index"] [] := I.F5.binds fun _ _ _ _ _ _ us hl => match us, hl with | [_, _], _ => rfl
theorem kX5 (I : Ini K fI fd) : ∀ (self : Value) (ws : List Value), ws.length = (["index"] : List Str).length → bindArgs (fd 5) ⟨[self], (["index"] : List Str).zip ws⟩ = pure ((["self", "index"] : List Str).zip (self :: rv [] ws)) := kbOf I.F5 fun _ _ _ _ _ _ _ ws hl => match ws, hl with | [_], _ => rfl
theorem bX6 (I : Ini K fI fd) : Binds K (fd 6) ["self", "index"] [] := I.F6.binds fun _ _ _ _ _ _ us hl => match us, hl with | [_, _], _ => rfl
theorem kX6 (I : Ini K fI fd) : ∀ (self : Value) (ws : List Value), ws.length = (["index"] : List Str).length → bindArgs (fd 6) ⟨[self], (["index"] : List Str).zip ws⟩ = pure ((["self", "index"] : List Str).zip (self :: rv [] ws)) := kbOf I.F6 fun _ _ _ _ _ _ _ ws hl => match ws, hl with | [_], _ => rfl
theorem bX7 (I : Ini K fI fd) : Binds K (fd 7) ["self", "size"] [] := I.F7.binds fun _ _ _ _ _ _ us hl => match us, hl with | [_, _], _ => rfl
theorem kX7 (I : Ini K fI fd) : ∀ (self : Value) (ws : List Value), ws.length = (["size"] : List Str).length → bindArgs (fd 7) ⟨[self], (["size"] : List Str).zip ws⟩ = pure ((["self", "size"] : List Str).zip (self :: rv [] ws)) := kbOf I.F7 fun _ _ _ _ _ _ _ ws hl => match ws, hl with | [_], _ => rfl
theorem bX8 (I : Ini K fI fd) : Binds K (fd 8) ["self", "need"] [] := I.F8.binds fun _ _ _ _ _ _ us hl => match us, hl with | [_, _], _ => rfl
theorem kX8 (I : Ini K fI fd) : ∀ (self : Value) (ws : List Value), ws.length = (["need"] : List Str).length → bindArgs (fd 8) ⟨[self], (["need"] : List Str).zip ws⟩ = pure ((["self", "need"] : List Str).zip (self :: rv [] ws)) := kbOf I.F8 fun _ _ _ _ _ _ _ ws hl => match ws, hl with | [_], _ => rfl
theorem bX9 (I : Ini K fI fd) : Binds K (fd 9) ["self", "at"] [] := I.F9.binds fun _ _ _ _ _ _ us hl => match us, hl with | [_, _], _ => rfl
theorem kX9 (I : Ini K fI fd) : ∀ (self : Value) (ws : List Value), ws.length = (["at"] : List Str).length → bindArgs (fd 9) ⟨[self], (["at"] : List Str).zip ws⟩ = pure ((["self", "at"] : List Str).zip (self :: rv [] ws)) := kbOf I.F9 fun _ _ _ _ _ _ _ ws hl => match ws, hl with | [_], _ => rfl
theorem bX10 (I : Ini K fI fd) : Binds K (fd 10) ["self", "index"] [] := I.F10.binds fun _ _ _ _ _ _ us hl => match us, hl with | [_, _], _ => rfl
theorem kX10 (I : Ini K fI fd) : ∀ (self : Value) (ws : List Value), ws.length = (["index"] : List Str).length → bindArgs (fd 10) ⟨[self], (["index"] : List Str).zip ws⟩ = pure ((["self", "index"] : List Str).zip (self :: rv [] ws)) := kbOf I.F10 fun _ _ _ _ _ _ _ ws hl => match ws, hl with | [_], _ => rfl
theorem bX11 (I : Ini K fI fd) : Binds K (fd 11) ["self", "number"] [] := I.F11.binds fun _ _ _ _ _ _ us hl => match us, hl with | [_, _], _ => rfl
theorem kX11 (I : Ini K fI fd) : ∀ (self : Value) (ws : List Value), ws.length = (["number"] : List Str).length → bindArgs (fd 11) ⟨[self], (["number"] : List Str).zip ws⟩ = pure ((["self", "number"] : List Str).zip (self :: rv [] ws)) := kbOf I.F11 fun _ _ _ _ _ _ _ ws hl => match ws, hl with | [_], _ => rfl
theorem bX12 (I : Ini K fI fd) : Binds K (fd 12) ["self", "place"] [] := I.F12.binds fun _ _ _ _ _ _ us hl => match us, hl with | [_, _], _ => rfl
theorem kX12 (I : Ini K fI fd) : ∀ (self : Value) (ws : List Value), ws.length = (["place"] : List Str).length → bindArgs (fd 12) ⟨[self], (["place"] : List Str).zip ws⟩ = pure ((["self", "place"] : List Str).zip (self :: rv [] ws)) := kbOf I.F12 fun _ _ _ _ _ _ _ ws hl => match ws, hl with | [_], _ => rfl
theorem bX13 (I : Ini K fI fd) : Binds K (fd 13) ["self", "place"] [] := I.F13.binds fun _ _ _ _ _ _ us hl => match us, hl with | [_, _], _ => rfl
theorem kX13 (I : Ini K fI fd) : ∀ (self : Value) (ws : List Value), ws.length = (["place"] : List Str).length → bindArgs (fd 13) ⟨[self], (["place"] : List Str).zip ws⟩ = pure ((["self", "place"] : List Str).zip (self :: rv [] ws)) := kbOf I.F13 fun _ _ _ _ _ _ _ ws hl => match ws, hl with | [_], _ => rfl
theorem bX14 (I : Ini K fI fd) : Binds K (fd 14) ["self", "need"] [] := I.F14.binds fun _ _ _ _ _ _ us hl => match us, hl with | [_, _], _ => rfl
theorem kX14 (I : Ini K fI fd) : ∀ (self : Value) (ws : List Value), ws.length = (["need"] : List Str).length → bindArgs (fd 14) ⟨[self], (["need"] : List Str).zip ws⟩ = pure ((["self", "need"] : List Str).zip (self :: rv [] ws)) := kbOf I.F14 fun _ _ _ _ _ _ _ ws hl => match ws, hl with | [_], _ => rfl
theorem bX15 (I : Ini K fI fd) : Binds K (fd 15) ["self", "number"] [] := I.F15.binds fun _ _ _ _ _ _ us hl => match us, hl with | [_, _], _ => rfl
theorem kX15 (I : Ini K fI fd) : ∀ (self : Value) (ws : List Value), ws.length = (["number"] : List Str).length → bindArgs (fd 15) ⟨[self], (["number"] : List Str).zip ws⟩ = pure ((["self", "number"] : List Str).zip (self :: rv [] ws)) := kbOf I.F15 fun _ _ _ _ _ _ _ ws hl => match ws, hl with | [_], _ => rfl
theorem bX16 (I : Ini K fI fd) : Binds K (fd 16) ["self", "pace"] [] := I.F16.binds fun _ _ _ _ _ _ us hl => match us, hl with | [_, _], _ => rfl
theorem kX16 (I : Ini K fI fd) : ∀ (self : Value) (ws : List Value), ws.length = (["pace"] : List Str).length → bindArgs (fd 16) ⟨[self], (["pace"] : List Str).zip ws⟩ = pure ((["self", "pace"] : List Str).zip (self :: rv [] ws)) := kbOf I.F16 fun _ _ _ _ _ _ _ ws hl => match ws, hl with | [_], _ => rfl
theorem okPlace {f : Addr} {fdp : FuncData} (F : Fun K "_law_by_place" "_law_by_place" sPlace f fdp) (T : Cls17 K mg C fI OE) (I : Ini K fI fd) : FnOk P w K mg base CX0 3 f fdp ["_law_x"] (spSome C) := by
  refine F.ok scP (fun vs H Q E h => ?_) (fun cdv A outer s H vs Q E hr h => ?_)
  · obtain ⟨x, rfl, _⟩ := h
    rfl
  · obtain ⟨x, rfl, k⟩ := h
    refine ⟨_, (pss_cons (ps_set (i := 1) scP.nd rfl (.inl rfl) (pe_lst (pa_cons (pe_oex (n := 3) (T.t 0).c (T.iC 0) (T.tI 0) (okX0 I.F0 T) hr (bX0 I) (by rfl) T.g0 (pa_cons (pv 0) (pa_cons pe_str (pa_cons pe_int pa_nil))) rfl)
        (pa_cons (pe_oex (n := 3) (T.t 1).c (T.iC 1) (T.tI 1) (okX1 I.F1 T) hr (bX1 I) (by rfl) T.g1 (pa_cons (pv 0) (pa_cons pe_str (pa_cons pe_int pa_nil))) rfl)
        (pa_cons (pe_oex (n := 2) (T.t 2).c (T.iC 2) (T.tI 2) (okX2 I.F2 T) hr (bX2 I) (by rfl) T.g2 (pa_cons (pv 0) (pa_cons pe_int pa_nil)) rfl)
        (pa_cons (pe_oex (n := 1) (T.t 3).c (T.iC 3) (T.tI 3) (okX3 I.F3 T) hr (bX3 I) (by rfl) T.g3 (pa_cons (pv 0) pa_nil) rfl)
        (pa_cons (pe_oex (n := 1) (T.t 4).c (T.iC 4) (T.tI 4) (okX4 I.F4 T) hr (bX4 I) (by rfl) T.g4 (pa_cons (pv 0) pa_nil) rfl)
        (pa_cons (pe_oex (n := 1) (T.t 5).c (T.iC 5) (T.tI 5) (okX5 I.F5 T) hr (bX5 I) (by rfl) T.g5 (pa_cons (pv 0) pa_nil) rfl)
        (pa_cons (pe_oex (n := 1) (T.t 6).c (T.iC 6) (T.tI 6) (okX6 I.F6 T) hr (bX6 I) (by rfl) T.g6 (pa_cons (pv 0) pa_nil) rfl)
        pa_nil)))))))))
      (pss_cons (ps_set (i := 1) scP.nd rfl (.inl rfl) (pe_op op_cat (pv 1) (pe_lst (pa_cons (pe_oex (n := 1) (T.t 7).c (T.iC 7) (T.tI 7) (okX7 I.F7 T) hr (bX7 I) (by rfl) T.g7 (pa_cons (pv 0) pa_nil) rfl)
        (pa_cons (pe_oex (n := 1) (T.t 8).c (T.iC 8) (T.tI 8) (okX8 I.F8 T) hr (bX8 I) (by rfl) T.g8 (pa_cons (pv 0) pa_nil) rfl)
        (pa_cons (pe_oex (n := 1) (T.t 9).c (T.iC 9) (T.tI 9) (okX9 I.F9 T) hr (bX9 I) (by rfl) T.g9 (pa_cons (pv 0) pa_nil) rfl)
        (pa_cons (pe_oex (n := 1) (T.t 10).c (T.iC 10) (T.tI 10) (okX10 I.F10 T) hr (bX10 I) (by rfl) T.g10 (pa_cons (pv 0) pa_nil) rfl)
        (pa_cons (pe_oex (n := 1) (T.t 11).c (T.iC 11) (T.tI 11) (okX11 I.F11 T) hr (bX11 I) (by rfl) T.g11 (pa_cons (pv 0) pa_nil) rfl)
        (pa_cons (pe_oex (n := 1) (T.t 12).c (T.iC 12) (T.tI 12) (okX12 I.F12 T) hr (bX12 I) (by rfl) T.g12 (pa_cons (pv 0) pa_nil) rfl)
        (pa_cons (pe_oex (n := 1) (T.t 13).c (T.iC 13) (T.tI 13) (okX13 I.F13 T) hr (bX13 I) (by rfl) T.g13 (pa_cons (pv 0) pa_nil) rfl)
        pa_nil))))))))))
      (pss_one (ps_ret (pe_op op_cat (pv 1) (pe_lst (pa_cons (pe_oex (n := 1) (T.t 14).c (T.iC 14) (T.tI 14) (okX14 I.F14 T) hr (bX14 I) (by rfl) T.g14 (pa_cons (pv 0) pa_nil) rfl)
        (pa_cons (pe_oex (n := 1) (T.t 15).c (T.iC 15) (T.tI 15) (okX15 I.F15 T) hr (bX15 I) (by rfl) T.g15 (pa_cons (pv 0) pa_nil) rfl)
        (pa_cons (pe_oex (n := 1) (T.t 16).c (T.iC 16) (T.tI 16) (okX16 I.F16 T) hr (bX16 I) (by rfl) T.g16 (pa_cons (pv 0) pa_nil) rfl)
        pa_nil))))))))), ?_⟩
    refine ⟨_, rfl, rfl, rfl, by decide, fun a0 na0 => ⟨a0, [x, .str "p", .int 7], rfl, rfl, upd_same, fun H0 hat0 kp0 => ⟨rfl, ?_⟩⟩⟩
    have s_0 := same_made na0 kp0
    refine ⟨_, rfl, rfl, rfl, by decide, fun a1 na1 => ⟨a1, [x, .str "p", .int 7], rfl, rfl, upd_same, fun H1 hat1 kp1 => ⟨rfl, ?_⟩⟩⟩
    have s_1 := same_made na1 kp1
    refine ⟨_, rfl, rfl, rfl, by decide, fun a2 na2 => ⟨a2, [x, .int 7], rfl, rfl, upd_same, fun H2 hat2 kp2 => ⟨rfl, ?_⟩⟩⟩
    have s_2 := same_made na2 kp2
    refine ⟨_, rfl, rfl, rfl, by decide, fun a3 na3 => ⟨a3, [x], rfl, rfl, upd_same, fun H3 hat3 kp3 => ⟨rfl, ?_⟩⟩⟩
    have s_3 := same_made na3 kp3
    refine ⟨_, rfl, rfl, rfl, by decide, fun a4 na4 => ⟨a4, [x], rfl, rfl, upd_same, fun H4 hat4 kp4 => ⟨rfl, ?_⟩⟩⟩
    have s_4 := same_made na4 kp4
    refine ⟨_, rfl, rfl, rfl, by decide, fun a5 na5 => ⟨a5, [x], rfl, rfl, upd_same, fun H5 hat5 kp5 => ⟨rfl, ?_⟩⟩⟩
    have s_5 := same_made na5 kp5
    refine ⟨_, rfl, rfl, rfl, by decide, fun a6 na6 => ⟨a6, [x], rfl, rfl, upd_same, fun H6 hat6 kp6 => ⟨rfl, ?_⟩⟩⟩
    have s_6 := same_made na6 kp6
    refine ⟨few (by show 7 ≤ 1000; decide), fun p0 n0 => ?_⟩
    have t_0 := same_up (o := .lst [.ref a0, .ref a1, .ref a2, .ref a3, .ref a4, .ref a5, .ref a6]) n0
    refine ⟨_, rfl, ?_⟩
    refine ⟨_, rfl, rfl, rfl, by decide, fun a7 na7 => ⟨a7, [x], rfl, rfl, upd_same, fun H7 hat7 kp7 => ⟨rfl, ?_⟩⟩⟩
    have s_7 := same_made na7 kp7
    refine ⟨_, rfl, rfl, rfl, by decide, fun a8 na8 => ⟨a8, [x], rfl, rfl, upd_same, fun H8 hat8 kp8 => ⟨rfl, ?_⟩⟩⟩
    have s_8 := same_made na8 kp8
    refine ⟨_, rfl, rfl, rfl, by decide, fun a9 na9 => ⟨a9, [x], rfl, rfl, upd_same, fun H9 hat9 kp9 => ⟨rfl, ?_⟩⟩⟩
    have s_9 := same_made na9 kp9
    refine ⟨_, rfl, rfl, rfl, by decide, fun a10 na10 => ⟨a10, [x], rfl, rfl, upd_same, fun H10 hat10 kp10 => ⟨rfl, ?_⟩⟩⟩
    have s_10 := same_made na10 kp10
    refine ⟨_, rfl, rfl, rfl, by decide, fun a11 na11 => ⟨a11, [x], rfl, rfl, upd_same, fun H11 hat11 kp11 => ⟨rfl, ?_⟩⟩⟩
    have s_11 := same_made na11 kp11
    refine ⟨_, rfl, rfl, rfl, by decide, fun a12 na12 => ⟨a12, [x], rfl, rfl, upd_same, fun H12 hat12 kp12 => ⟨rfl, ?_⟩⟩⟩
    have s_12 := same_made na12 kp12
    refine ⟨_, rfl, rfl, rfl, by decide, fun a13 na13 => ⟨a13, [x], rfl, rfl, upd_same, fun H13 hat13 kp13 => ⟨rfl, ?_⟩⟩⟩
    have s_13 := same_made na13 kp13
    refine ⟨few (by show 7 ≤ 1000; decide), fun p1 n1 => ?_⟩
    have t_1 := same_up (o := .lst [.ref a7, .ref a8, .ref a9, .ref a10, .ref a11, .ref a12, .ref a13]) n1
    refine ⟨p0, p1, _, _, rfl, rfl, ((((((((s_7).trans s_8).trans s_9).trans s_10).trans s_11).trans s_12).trans s_13).trans t_1) _ _ (upd_same), upd_same, few (by show 7 + 7 ≤ 1000; decide), fun q1 m1 => ?_⟩
    have v_1 := same_up (o := .lst [.ref a0, .ref a1, .ref a2, .ref a3, .ref a4, .ref a5, .ref a6, .ref a7, .ref a8, .ref a9, .ref a10, .ref a11, .ref a12, .ref a13]) m1
    refine ⟨_, rfl, ?_⟩
    refine ⟨_, rfl, rfl, rfl, by decide, fun a14 na14 => ⟨a14, [x], rfl, rfl, upd_same, fun H14 hat14 kp14 => ⟨rfl, ?_⟩⟩⟩
    have s_14 := same_made na14 kp14
    refine ⟨_, rfl, rfl, rfl, by decide, fun a15 na15 => ⟨a15, [x], rfl, rfl, upd_same, fun H15 hat15 kp15 => ⟨rfl, ?_⟩⟩⟩
    have s_15 := same_made na15 kp15
    refine ⟨_, rfl, rfl, rfl, by decide, fun a16 na16 => ⟨a16, [x], rfl, rfl, upd_same, fun H16 hat16 kp16 => ⟨rfl, ?_⟩⟩⟩
    have s_16 := same_made na16 kp16
    refine ⟨few (by show 3 ≤ 1000; decide), fun p2 n2 => ?_⟩
    have t_2 := same_up (o := .lst [.ref a14, .ref a15, .ref a16]) n2
    refine ⟨q1, p2, _, _, rfl, rfl, ((((s_14).trans s_15).trans s_16).trans t_2) _ _ (upd_same), upd_same, few (by show 14 + 3 ≤ 1000; decide), fun q2 m2 => ?_⟩
    have v_2 := same_up (o := .lst [.ref a0, .ref a1, .ref a2, .ref a3, .ref a4, .ref a5, .ref a6, .ref a7, .ref a8, .ref a9, .ref a10, .ref a11, .ref a12, .ref a13, .ref a14, .ref a15, .ref a16]) m2
    have r21 := v_2
    have r20 := (t_2).trans r21
    have r19 := (s_16).trans r20
    have r18 := (s_15).trans r19
    have r17 := (s_14).trans r18
    have r16 := (v_1).trans r17
    have r15 := (t_1).trans r16
    have r14 := (s_13).trans r15
    have r13 := (s_12).trans r14
    have r12 := (s_11).trans r13
    have r11 := (s_10).trans r12
    have r10 := (s_9).trans r11
    have r9 := (s_8).trans r10
    have r8 := (s_7).trans r9
    have r7 := (t_0).trans r8
    have r6 := (s_6).trans r7
    have r5 := (s_5).trans r6
    have r4 := (s_4).trans r5
    have r3 := (s_3).trans r4
    have r2 := (s_2).trans r3
    have r1 := (s_1).trans r2
    have r0 := (s_0).trans r1
    refine k _ _ [a0, a1, a2, a3, a4, a5, a6, a7, a8, a9, a10, a11, a12, a13, a14, a15, a16] r0 ⟨rfl, upd_same, fun i => ?_⟩
    match i with
    | ⟨0, _⟩ => exact OexAt.same hat0 r1
    | ⟨1, _⟩ => exact OexAt.same hat1 r2
    | ⟨2, _⟩ => exact OexAt.same hat2 r3
    | ⟨3, _⟩ => exact OexAt.same hat3 r4
    | ⟨4, _⟩ => exact OexAt.same hat4 r5
    | ⟨5, _⟩ => exact OexAt.same hat5 r6
    | ⟨6, _⟩ => exact OexAt.same hat6 r7
    | ⟨7, _⟩ => exact OexAt.same hat7 r9
    | ⟨8, _⟩ => exact OexAt.same hat8 r10
    | ⟨9, _⟩ => exact OexAt.same hat9 r11
    | ⟨10, _⟩ => exact OexAt.same hat10 r12
    | ⟨11, _⟩ => exact OexAt.same hat11 r13
    | ⟨12, _⟩ => exact OexAt.same hat12 r14
    | ⟨13, _⟩ => exact OexAt.same hat13 r15
    | ⟨14, _⟩ => exact OexAt.same hat14 r18
    | ⟨15, _⟩ => exact OexAt.same hat15 r19
    | ⟨16, _⟩ => exact OexAt.same hat16 r20
    | ⟨n + 17, h⟩ => exact absurd h (by omega)
theorem oex_lst {C : Addr} {H : Hp} {e q : Addr} {fs : List (Str × V)} {xs ys : List V} (h : OexAt C H e fs) (l : H q = some (.lst xs)) : OexAt C (upd H q (.lst ys)) e fs := by
  obtain ⟨dx, h1, h2⟩ := h
  refine ⟨dx, ?_, ?_⟩
  · rw [upd_ne fun z => ?_]
    · exact h1
    · rw [z, l] at h1
      have y : HO.lst xs = HO.ext _ := Option.some.inj h1
      cases y
  · rw [upd_ne fun z => ?_]
    · exact h2
    · rw [z, l] at h2
      have y : HO.lst xs = HO.ext _ := Option.some.inj h2
      cases y
theorem okName {f : Addr} {fdp : FuncData} (F : Fun K "_law_by_name" "_law_by_name" sName f fdp) (T : Cls17 K mg C fI OE) (I : Ini K fI fd) : FnOk P w K mg base CX0 3 f fdp ["_law_x"] (spSome C) := by
  refine F.ok scN (fun vs H Q E h => ?_) (fun cdv A outer s H vs Q E hr h => ?_)
  · obtain ⟨x, rfl, _⟩ := h
    rfl
  · obtain ⟨x, rfl, k⟩ := h
    refine ⟨_, (pss_cons (ps_set (i := 1) scN.nd rfl (.inl rfl) (pe_lst (pa_cons (pe_oexK (ks := ["index", "part", "number"]) (g := rv) (gV := rv) (T.t 0).c (T.iC 0) (T.tI 0) (okX0 I.F0 T) hr (by rfl) T.g0 (pk_cons pe_int (pk_cons pe_str (pk_cons (pv 0) pk_nil))) (kX0 I) vals_rev)
        (pa_cons (pe_oexK (ks := ["index", "part", "number"]) (g := rv) (gV := rv) (T.t 1).c (T.iC 1) (T.tI 1) (okX1 I.F1 T) hr (by rfl) T.g1 (pk_cons pe_int (pk_cons pe_str (pk_cons (pv 0) pk_nil))) (kX1 I) vals_rev)
        (pa_cons (pe_oexK (ks := ["at", "where"]) (g := rv) (gV := rv) (T.t 2).c (T.iC 2) (T.tI 2) (okX2 I.F2 T) hr (by rfl) T.g2 (pk_cons pe_int (pk_cons (pv 0) pk_nil)) (kX2 I) vals_rev)
        pa_nil)))))
      (pss_cons (ps_set (i := 1) scN.nd rfl (.inl rfl) (pe_op op_cat (pv 1) (pe_lst (pa_cons (pe_oexK (ks := ["name"]) (g := rv) (gV := rv) (T.t 3).c (T.iC 3) (T.tI 3) (okX3 I.F3 T) hr (by rfl) T.g3 (pk_cons (pv 0) pk_nil) (kX3 I) vals_rev)
        (pa_cons (pe_oexK (ks := ["name"]) (g := rv) (gV := rv) (T.t 4).c (T.iC 4) (T.tI 4) (okX4 I.F4 T) hr (by rfl) T.g4 (pk_cons (pv 0) pk_nil) (kX4 I) vals_rev)
        (pa_cons (pe_oexK (ks := ["index"]) (g := rv) (gV := rv) (T.t 5).c (T.iC 5) (T.tI 5) (okX5 I.F5 T) hr (by rfl) T.g5 (pk_cons (pv 0) pk_nil) (kX5 I) vals_rev)
        (pa_cons (pe_oexK (ks := ["index"]) (g := rv) (gV := rv) (T.t 6).c (T.iC 6) (T.tI 6) (okX6 I.F6 T) hr (by rfl) T.g6 (pk_cons (pv 0) pk_nil) (kX6 I) vals_rev)
        (pa_cons (pe_oexK (ks := ["size"]) (g := rv) (gV := rv) (T.t 7).c (T.iC 7) (T.tI 7) (okX7 I.F7 T) hr (by rfl) T.g7 (pk_cons (pv 0) pk_nil) (kX7 I) vals_rev)
        pa_nil))))))))
      (pss_cons (ps_set (i := 1) scN.nd rfl (.inl rfl) (pe_op op_cat (pv 1) (pe_lst (pa_cons (pe_oexK (ks := ["need"]) (g := rv) (gV := rv) (T.t 8).c (T.iC 8) (T.tI 8) (okX8 I.F8 T) hr (by rfl) T.g8 (pk_cons (pv 0) pk_nil) (kX8 I) vals_rev)
        (pa_cons (pe_oexK (ks := ["at"]) (g := rv) (gV := rv) (T.t 9).c (T.iC 9) (T.tI 9) (okX9 I.F9 T) hr (by rfl) T.g9 (pk_cons (pv 0) pk_nil) (kX9 I) vals_rev)
        (pa_cons (pe_oexK (ks := ["index"]) (g := rv) (gV := rv) (T.t 10).c (T.iC 10) (T.tI 10) (okX10 I.F10 T) hr (by rfl) T.g10 (pk_cons (pv 0) pk_nil) (kX10 I) vals_rev)
        (pa_cons (pe_oexK (ks := ["number"]) (g := rv) (gV := rv) (T.t 11).c (T.iC 11) (T.tI 11) (okX11 I.F11 T) hr (by rfl) T.g11 (pk_cons (pv 0) pk_nil) (kX11 I) vals_rev)
        (pa_cons (pe_oexK (ks := ["place"]) (g := rv) (gV := rv) (T.t 12).c (T.iC 12) (T.tI 12) (okX12 I.F12 T) hr (by rfl) T.g12 (pk_cons (pv 0) pk_nil) (kX12 I) vals_rev)
        pa_nil))))))))
      (pss_cons (ps_expr (pe_bm PySem.F.plainAttrs_list PySem.F.slot_list_append PySem.F.type_list_append mt_append (pv 1) (pa_cons (pe_oexK (ks := ["place"]) (g := rv) (gV := rv) (T.t 13).c (T.iC 13) (T.tI 13) (okX13 I.F13 T) hr (by rfl) T.g13 (pk_cons (pv 0) pk_nil) (kX13 I) vals_rev) pa_nil)))
      (pss_one (ps_ret (pe_op op_cat (pv 1) (pe_lst (pa_cons (pe_oexK (ks := ["need"]) (g := rv) (gV := rv) (T.t 14).c (T.iC 14) (T.tI 14) (okX14 I.F14 T) hr (by rfl) T.g14 (pk_cons (pv 0) pk_nil) (kX14 I) vals_rev)
        (pa_cons (pe_oexK (ks := ["number"]) (g := rv) (gV := rv) (T.t 15).c (T.iC 15) (T.tI 15) (okX15 I.F15 T) hr (by rfl) T.g15 (pk_cons (pv 0) pk_nil) (kX15 I) vals_rev)
        (pa_cons (pe_oexK (ks := ["pace"]) (g := rv) (gV := rv) (T.t 16).c (T.iC 16) (T.tI 16) (okX16 I.F16 T) hr (by rfl) T.g16 (pk_cons (pv 0) pk_nil) (kX16 I) vals_rev)
        pa_nil))))))))))), ?_⟩
    refine ⟨_, rfl, rfl, rfl, by decide, fun a0 na0 => ⟨a0, [x, .str "p", .int 7], rfl, rfl, upd_same, fun H0 hat0 kp0 => ⟨rfl, ?_⟩⟩⟩
    have s_0 := same_made na0 kp0
    refine ⟨_, rfl, rfl, rfl, by decide, fun a1 na1 => ⟨a1, [x, .str "p", .int 7], rfl, rfl, upd_same, fun H1 hat1 kp1 => ⟨rfl, ?_⟩⟩⟩
    have s_1 := same_made na1 kp1
    refine ⟨_, rfl, rfl, rfl, by decide, fun a2 na2 => ⟨a2, [x, .int 7], rfl, rfl, upd_same, fun H2 hat2 kp2 => ⟨rfl, ?_⟩⟩⟩
    have s_2 := same_made na2 kp2
    refine ⟨few (by show 3 ≤ 1000; decide), fun p0 n0 => ?_⟩
    have t_0 := same_up (o := .lst [.ref a0, .ref a1, .ref a2]) n0
    refine ⟨_, rfl, ?_⟩
    refine ⟨_, rfl, rfl, rfl, by decide, fun a3 na3 => ⟨a3, [x], rfl, rfl, upd_same, fun H3 hat3 kp3 => ⟨rfl, ?_⟩⟩⟩
    have s_3 := same_made na3 kp3
    refine ⟨_, rfl, rfl, rfl, by decide, fun a4 na4 => ⟨a4, [x], rfl, rfl, upd_same, fun H4 hat4 kp4 => ⟨rfl, ?_⟩⟩⟩
    have s_4 := same_made na4 kp4
    refine ⟨_, rfl, rfl, rfl, by decide, fun a5 na5 => ⟨a5, [x], rfl, rfl, upd_same, fun H5 hat5 kp5 => ⟨rfl, ?_⟩⟩⟩
    have s_5 := same_made na5 kp5
    refine ⟨_, rfl, rfl, rfl, by decide, fun a6 na6 => ⟨a6, [x], rfl, rfl, upd_same, fun H6 hat6 kp6 => ⟨rfl, ?_⟩⟩⟩
    have s_6 := same_made na6 kp6
    refine ⟨_, rfl, rfl, rfl, by decide, fun a7 na7 => ⟨a7, [x], rfl, rfl, upd_same, fun H7 hat7 kp7 => ⟨rfl, ?_⟩⟩⟩
    have s_7 := same_made na7 kp7
    refine ⟨few (by show 5 ≤ 1000; decide), fun p1 n1 => ?_⟩
    have t_1 := same_up (o := .lst [.ref a3, .ref a4, .ref a5, .ref a6, .ref a7]) n1
    refine ⟨p0, p1, _, _, rfl, rfl, ((((((s_3).trans s_4).trans s_5).trans s_6).trans s_7).trans t_1) _ _ (upd_same), upd_same, few (by show 3 + 5 ≤ 1000; decide), fun q1 m1 => ?_⟩
    have v_1 := same_up (o := .lst [.ref a0, .ref a1, .ref a2, .ref a3, .ref a4, .ref a5, .ref a6, .ref a7]) m1
    refine ⟨_, rfl, ?_⟩
    refine ⟨_, rfl, rfl, rfl, by decide, fun a8 na8 => ⟨a8, [x], rfl, rfl, upd_same, fun H8 hat8 kp8 => ⟨rfl, ?_⟩⟩⟩
    have s_8 := same_made na8 kp8
    refine ⟨_, rfl, rfl, rfl, by decide, fun a9 na9 => ⟨a9, [x], rfl, rfl, upd_same, fun H9 hat9 kp9 => ⟨rfl, ?_⟩⟩⟩
    have s_9 := same_made na9 kp9
    refine ⟨_, rfl, rfl, rfl, by decide, fun a10 na10 => ⟨a10, [x], rfl, rfl, upd_same, fun H10 hat10 kp10 => ⟨rfl, ?_⟩⟩⟩
    have s_10 := same_made na10 kp10
    refine ⟨_, rfl, rfl, rfl, by decide, fun a11 na11 => ⟨a11, [x], rfl, rfl, upd_same, fun H11 hat11 kp11 => ⟨rfl, ?_⟩⟩⟩
    have s_11 := same_made na11 kp11
    refine ⟨_, rfl, rfl, rfl, by decide, fun a12 na12 => ⟨a12, [x], rfl, rfl, upd_same, fun H12 hat12 kp12 => ⟨rfl, ?_⟩⟩⟩
    have s_12 := same_made na12 kp12
    refine ⟨few (by show 5 ≤ 1000; decide), fun p2 n2 => ?_⟩
    have t_2 := same_up (o := .lst [.ref a8, .ref a9, .ref a10, .ref a11, .ref a12]) n2
    refine ⟨q1, p2, _, _, rfl, rfl, ((((((s_8).trans s_9).trans s_10).trans s_11).trans s_12).trans t_2) _ _ (upd_same), upd_same, few (by show 8 + 5 ≤ 1000; decide), fun q2 m2 => ?_⟩
    have v_2 := same_up (o := .lst [.ref a0, .ref a1, .ref a2, .ref a3, .ref a4, .ref a5, .ref a6, .ref a7, .ref a8, .ref a9, .ref a10, .ref a11, .ref a12]) m2
    refine ⟨_, rfl, .inl ⟨rfl, _, SqL.of (upd_same)⟩, ?_⟩
    refine ⟨_, rfl, rfl, rfl, by decide, fun a13 na13 => ⟨a13, [x], rfl, rfl, upd_same, fun H13 hat13 kp13 => ⟨rfl, ?_⟩⟩⟩
    have s_13 := same_made na13 kp13
    have la3 := s_13 _ _ (upd_same)
    refine ⟨q2, _, _, rfl, rfl, la3, small1000 (by show 13 ≤ 1000; decide), ?_⟩
    have u3 : ∀ b o, H13 b = some o → b ≠ q2 → upd H13 q2 (.lst [.ref a0, .ref a1, .ref a2, .ref a3, .ref a4, .ref a5, .ref a6, .ref a7, .ref a8, .ref a9, .ref a10, .ref a11, .ref a12, .ref a13]) b = some o := fun b o e hb => by rw [upd_ne hb]; exact e
    refine ⟨_, rfl, ?_⟩
    refine ⟨_, rfl, rfl, rfl, by decide, fun a14 na14 => ⟨a14, [x], rfl, rfl, upd_same, fun H14 hat14 kp14 => ⟨rfl, ?_⟩⟩⟩
    have s_14 := same_made na14 kp14
    refine ⟨_, rfl, rfl, rfl, by decide, fun a15 na15 => ⟨a15, [x], rfl, rfl, upd_same, fun H15 hat15 kp15 => ⟨rfl, ?_⟩⟩⟩
    have s_15 := same_made na15 kp15
    refine ⟨_, rfl, rfl, rfl, by decide, fun a16 na16 => ⟨a16, [x], rfl, rfl, upd_same, fun H16 hat16 kp16 => ⟨rfl, ?_⟩⟩⟩
    have s_16 := same_made na16 kp16
    refine ⟨few (by show 3 ≤ 1000; decide), fun p4 n4 => ?_⟩
    have t_4 := same_up (o := .lst [.ref a14, .ref a15, .ref a16]) n4
    refine ⟨q2, p4, _, _, rfl, rfl, ((((s_14).trans s_15).trans s_16).trans t_4) _ _ (upd_same), upd_same, few (by show 14 + 3 ≤ 1000; decide), fun q4 m4 => ?_⟩
    have v_4 := same_up (o := .lst [.ref a0, .ref a1, .ref a2, .ref a3, .ref a4, .ref a5, .ref a6, .ref a7, .ref a8, .ref a9, .ref a10, .ref a11, .ref a12, .ref a13, .ref a14, .ref a15, .ref a16]) m4
    have rr19 := Same.refl H13
    have rr18 := (s_13).trans rr19
    have rr17 := (v_2).trans rr18
    have rr16 := (t_2).trans rr17
    have rr15 := (s_12).trans rr16
    have rr14 := (s_11).trans rr15
    have rr13 := (s_10).trans rr14
    have rr12 := (s_9).trans rr13
    have rr11 := (s_8).trans rr12
    have rr10 := (v_1).trans rr11
    have rr9 := (t_1).trans rr10
    have rr8 := (s_7).trans rr9
    have rr7 := (s_6).trans rr8
    have rr6 := (s_5).trans rr7
    have rr5 := (s_4).trans rr6
    have rr4 := (s_3).trans rr5
    have rr3 := (t_0).trans rr4
    have rr2 := (s_2).trans rr3
    have rr1 := (s_1).trans rr2
    have rr0 := (s_0).trans rr1
    have f24 := v_4
    have f23 := (t_4).trans f24
    have f22 := (s_16).trans f23
    have f21 := (s_15).trans f22
    have f20 := (s_14).trans f21
    have pre := ((((((((((((((((s_0).trans s_1).trans s_2).trans t_0).trans s_3).trans s_4).trans s_5).trans s_6).trans s_7).trans t_1).trans v_1).trans s_8).trans s_9).trans s_10).trans s_11).trans s_12).trans t_2
    have all0 : Same H _ := fun b o e => f20 b o (u3 b o (rr0 b o e) (ne_of_none (pre b o e) m2))
    refine k _ _ [a0, a1, a2, a3, a4, a5, a6, a7, a8, a9, a10, a11, a12, a13, a14, a15, a16] all0 ⟨rfl, upd_same, fun i => ?_⟩
    match i with
    | ⟨0, _⟩ => exact OexAt.same (oex_lst (OexAt.same hat0 rr1) la3) f20
    | ⟨1, _⟩ => exact OexAt.same (oex_lst (OexAt.same hat1 rr2) la3) f20
    | ⟨2, _⟩ => exact OexAt.same (oex_lst (OexAt.same hat2 rr3) la3) f20
    | ⟨3, _⟩ => exact OexAt.same (oex_lst (OexAt.same hat3 rr5) la3) f20
    | ⟨4, _⟩ => exact OexAt.same (oex_lst (OexAt.same hat4 rr6) la3) f20
    | ⟨5, _⟩ => exact OexAt.same (oex_lst (OexAt.same hat5 rr7) la3) f20
    | ⟨6, _⟩ => exact OexAt.same (oex_lst (OexAt.same hat6 rr8) la3) f20
    | ⟨7, _⟩ => exact OexAt.same (oex_lst (OexAt.same hat7 rr9) la3) f20
    | ⟨8, _⟩ => exact OexAt.same (oex_lst (OexAt.same hat8 rr12) la3) f20
    | ⟨9, _⟩ => exact OexAt.same (oex_lst (OexAt.same hat9 rr13) la3) f20
    | ⟨10, _⟩ => exact OexAt.same (oex_lst (OexAt.same hat10 rr14) la3) f20
    | ⟨11, _⟩ => exact OexAt.same (oex_lst (OexAt.same hat11 rr15) la3) f20
    | ⟨12, _⟩ => exact OexAt.same (oex_lst (OexAt.same hat12 rr16) la3) f20
    | ⟨13, _⟩ => exact OexAt.same (oex_lst (OexAt.same hat13 rr19) la3) f20
    | ⟨14, _⟩ => exact OexAt.same hat14 f21
    | ⟨15, _⟩ => exact OexAt.same hat15 f22
    | ⟨16, _⟩ => exact OexAt.same hat16 f23
    | ⟨n + 17, h⟩ => exact absurd h (by omega)
end
end K20

/-! k20: _law_fields, _law_draw -/
namespace K20
open PySem PySem.Spec PyProof.Rows L2
def spFields (C : Fin 17 → Addr) : Sp := fun vs H Q _ => ∃ (x : V) (p : Addr) (es : List Addr), vs = [.ref p] ∧ Some17 C x H p es ∧ ∀ H' q, Same H H' → H' q = some (.lst (List.replicate 17 x)) → Q (.ref q) H'
theorem lk1 (f : Str) (x : V) : List.lookup f [(f, x)] = some x := by simp [List.lookup]
theorem lkW (x : V) : List.lookup ("where" : Str) [("at", V.int 7), ("where", x)] = some x := by rw [lookup_put, if_neg (by decide +kernel), lookup_put, if_pos rfl]
theorem lkA (x : V) : List.lookup ("at" : Str) [("at", V.int 7), ("where", x)] = some (.int 7) := by rw [lookup_put, if_pos rfl]
theorem lkN (x : V) : List.lookup ("number" : Str) [("index", V.int 7), ("part", V.str "p"), ("number", x)] = some x := by rw [lookup_put, if_neg (by decide +kernel), lookup_put, if_neg (by decide +kernel), lookup_put, if_pos rfl]
theorem lkP (x : V) : List.lookup ("part" : Str) [("index", V.int 7), ("part", V.str "p"), ("number", x)] = some (.str "p") := by rw [lookup_put, if_neg (by decide +kernel), lookup_put, if_pos rfl]
theorem lkI (x : V) : List.lookup ("index" : Str) [("index", V.int 7), ("part", V.str "p"), ("number", x)] = some (.int 7) := by rw [lookup_put, if_pos rfl]
section
variable {P : Program} {w : World} {K : PySem.W.Frag} {mg : Str → Option Value} {base : Heap} {C fI : Fin 17 → Addr} {OE : Addr}
theorem scF : FnScope ["_law_some", "_law_found"] ["_law_some"] (defScope sFields) := ⟨rfl, rfl, rfl, by decide +kernel, rfl, by decide +kernel, by decide +kernel⟩
theorem okFields {f : Addr} {fd : FuncData} (F : Fun K "_law_fields" "_law_fields" sFields f fd) (T : Cls17 K mg C fI OE) : FnOk P w K mg base CX0 1 f fd ["_law_some"] (spFields C) := by
  refine F.ok scF (fun vs H Q E h => ?_) (fun cdv A outer s H vs Q E hr h => ?_)
  · obtain ⟨x, p, es, rfl, _⟩ := h
    rfl
  · obtain ⟨x, p, es, rfl, ⟨len, li, hat⟩, k⟩ := h
    match es, len with
    | [e0, e1, e2, e3, e4, e5, e6, e7, e8, e9, e10, e11, e12, e13, e14, e15, e16], _ =>

    refine ⟨_, (pss_cons (ps_set (i := 1) scF.nd rfl (.inl rfl) (pe_lst (pa_cons (pe_oxf (pe_ix ix_list (pv 0) pe_int (fun _ _ => rfl))) (pa_cons (pe_oxf (pe_ix ix_list (pv 0) pe_int (fun _ _ => rfl))) (pa_cons (pe_oxf (pe_ix ix_list (pv 0) pe_int (fun _ _ => rfl))) (pa_cons (pe_oxf (pe_ix ix_list (pv 0) pe_int (fun _ _ => rfl))) (pa_cons (pe_oxf (pe_ix ix_list (pv 0) pe_int (fun _ _ => rfl))) (pa_cons (pe_oxf (pe_ix ix_list (pv 0) pe_int (fun _ _ => rfl))) (pa_cons (pe_oxf (pe_ix ix_list (pv 0) pe_int (fun _ _ => rfl))) pa_nil))))))))) (pss_cons (ps_set (i := 1) scF.nd rfl (.inl rfl) (pe_op op_cat (pv 1) (pe_lst (pa_cons (pe_oxf (pe_ix ix_list (pv 0) pe_int (fun _ _ => rfl))) (pa_cons (pe_oxf (pe_ix ix_list (pv 0) pe_int (fun _ _ => rfl))) (pa_cons (pe_oxf (pe_ix ix_list (pv 0) pe_int (fun _ _ => rfl))) (pa_cons (pe_oxf (pe_ix ix_list (pv 0) pe_int (fun _ _ => rfl))) (pa_cons (pe_oxf (pe_ix ix_list (pv 0) pe_int (fun _ _ => rfl))) (pa_cons (pe_oxf (pe_ix ix_list (pv 0) pe_int (fun _ _ => rfl))) pa_nil))))))))) (pss_one (ps_ret (pe_op op_cat (pv 1) (pe_lst (pa_cons (pe_oxf (pe_ix ix_list (pv 0) pe_int (fun _ _ => rfl))) (pa_cons (pe_oxf (pe_ix ix_list (pv 0) pe_int (fun _ _ => rfl))) (pa_cons (pe_oxf (pe_ix ix_list (pv 0) pe_int (fun _ _ => rfl))) (pa_cons (pe_oxf (pe_ix ix_list (pv 0) pe_int (fun _ _ => rfl))) pa_nil)))))))))), ?_⟩
    have s0 := Same.refl H
    refine ⟨_, rfl, p, _, _, .ref e0, rfl, rfl, SqL.of (s0 _ _ li), rfl, e0, C 0, _, x, rfl, OexAt.same (hat 0) s0, T.t 0, T.no 0 _ (by decide +kernel), lkN x, ?_⟩
    refine ⟨_, rfl, p, _, _, .ref e1, rfl, rfl, SqL.of (s0 _ _ li), rfl, e1, C 1, _, x, rfl, OexAt.same (hat 1) s0, T.t 1, T.no 1 _ (by decide +kernel), lkN x, ?_⟩
    refine ⟨_, rfl, p, _, _, .ref e2, rfl, rfl, SqL.of (s0 _ _ li), rfl, e2, C 2, _, x, rfl, OexAt.same (hat 2) s0, T.t 2, T.no 2 _ (by decide +kernel), lkW x, ?_⟩
    refine ⟨_, rfl, p, _, _, .ref e3, rfl, rfl, SqL.of (s0 _ _ li), rfl, e3, C 3, _, x, rfl, OexAt.same (hat 3) s0, T.t 3, T.no 3 _ (by decide +kernel), lk1 _ x, ?_⟩
    refine ⟨_, rfl, p, _, _, .ref e4, rfl, rfl, SqL.of (s0 _ _ li), rfl, e4, C 4, _, x, rfl, OexAt.same (hat 4) s0, T.t 4, T.no 4 _ (by decide +kernel), lk1 _ x, ?_⟩
    refine ⟨_, rfl, p, _, _, .ref e5, rfl, rfl, SqL.of (s0 _ _ li), rfl, e5, C 5, _, x, rfl, OexAt.same (hat 5) s0, T.t 5, T.no 5 _ (by decide +kernel), lk1 _ x, ?_⟩
    refine ⟨_, rfl, p, _, _, .ref e6, rfl, rfl, SqL.of (s0 _ _ li), rfl, e6, C 6, _, x, rfl, OexAt.same (hat 6) s0, T.t 6, T.no 6 _ (by decide +kernel), lk1 _ x, ?_⟩
    refine ⟨few (by show 7 ≤ 1000; decide), fun p0 n0 => ?_⟩
    have t0 := s0.trans (same_up (o := .lst (List.replicate 7 x)) n0)
    have l0 : ∀ o, upd H p0 o p0 = some o := fun o => upd_same
    refine ⟨_, rfl, ?_⟩
    refine ⟨_, rfl, p, _, _, .ref e7, rfl, rfl, SqL.of (t0 _ _ li), rfl, e7, C 7, _, x, rfl, OexAt.same (hat 7) t0, T.t 7, T.no 7 _ (by decide +kernel), lk1 _ x, ?_⟩
    refine ⟨_, rfl, p, _, _, .ref e8, rfl, rfl, SqL.of (t0 _ _ li), rfl, e8, C 8, _, x, rfl, OexAt.same (hat 8) t0, T.t 8, T.no 8 _ (by decide +kernel), lk1 _ x, ?_⟩
    refine ⟨_, rfl, p, _, _, .ref e9, rfl, rfl, SqL.of (t0 _ _ li), rfl, e9, C 9, _, x, rfl, OexAt.same (hat 9) t0, T.t 9, T.no 9 _ (by decide +kernel), lk1 _ x, ?_⟩
    refine ⟨_, rfl, p, _, _, .ref e10, rfl, rfl, SqL.of (t0 _ _ li), rfl, e10, C 10, _, x, rfl, OexAt.same (hat 10) t0, T.t 10, T.no 10 _ (by decide +kernel), lk1 _ x, ?_⟩
    refine ⟨_, rfl, p, _, _, .ref e11, rfl, rfl, SqL.of (t0 _ _ li), rfl, e11, C 11, _, x, rfl, OexAt.same (hat 11) t0, T.t 11, T.no 11 _ (by decide +kernel), lk1 _ x, ?_⟩
    refine ⟨_, rfl, p, _, _, .ref e12, rfl, rfl, SqL.of (t0 _ _ li), rfl, e12, C 12, _, x, rfl, OexAt.same (hat 12) t0, T.t 12, T.no 12 _ (by decide +kernel), lk1 _ x, ?_⟩
    refine ⟨few (by show 6 ≤ 1000; decide), fun p1 n1 => ?_⟩
    have t1 := t0.trans (same_up (o := .lst (List.replicate 6 x)) n1)
    refine ⟨p0, p1, _, _, rfl, rfl, Eq.trans (upd_ne (ne_of_none (l0 _) n1)) (l0 _), upd_same, few (by show 7 + 6 ≤ 1000; decide), fun q1 m1 => ?_⟩
    have u1 := t1.trans (same_up (o := .lst (List.replicate 13 x)) m1)
    refine ⟨_, rfl, ?_⟩
    refine ⟨_, rfl, p, _, _, .ref e13, rfl, rfl, SqL.of (u1 _ _ li), rfl, e13, C 13, _, x, rfl, OexAt.same (hat 13) u1, T.t 13, T.no 13 _ (by decide +kernel), lk1 _ x, ?_⟩
    refine ⟨_, rfl, p, _, _, .ref e14, rfl, rfl, SqL.of (u1 _ _ li), rfl, e14, C 14, _, x, rfl, OexAt.same (hat 14) u1, T.t 14, T.no 14 _ (by decide +kernel), lk1 _ x, ?_⟩
    refine ⟨_, rfl, p, _, _, .ref e15, rfl, rfl, SqL.of (u1 _ _ li), rfl, e15, C 15, _, x, rfl, OexAt.same (hat 15) u1, T.t 15, T.no 15 _ (by decide +kernel), lk1 _ x, ?_⟩
    refine ⟨_, rfl, p, _, _, .ref e16, rfl, rfl, SqL.of (u1 _ _ li), rfl, e16, C 16, _, x, rfl, OexAt.same (hat 16) u1, T.t 16, T.no 16 _ (by decide +kernel), lk1 _ x, ?_⟩
    refine ⟨few (by show 4 ≤ 1000; decide), fun p2 n2 => ?_⟩
    have t2 := u1.trans (same_up (o := .lst (List.replicate 4 x)) n2)
    refine ⟨q1, p2, _, _, rfl, rfl, Eq.trans (upd_ne (ne_of_none (upd_same) n2)) (upd_same), upd_same, few (by show 13 + 4 ≤ 1000; decide), fun q2 m2 => ?_⟩
    have u2 := t2.trans (same_up (o := .lst (List.replicate 17 x)) m2)
    exact k _ _ u2 upd_same
end
/-! ### _law_draw -/
structure Well (n : Int) (a b c : Int) : Prop where
  a0 : 0 ≤ a
  b0 : 0 ≤ b
  b1 : b < 4294967296
  c0 : 0 ≤ c
  c1 : c ≤ n
def wl (a b c : Int) : HO := .lst [.int a, .int b, .int c]
/-- a draw below many: at most one more figure is taken -/
def spDraw : Sp := fun vs H Q _ => ∃ (p : Addr) (m a b c n : Int), vs = [.ref p, .int m] ∧ H p = some (wl a b c) ∧ 0 < m ∧ m < 1073741824 ∧ Well n a b c ∧ n ≤ 1000000 ∧
  ∀ v a' c', 0 ≤ v → v < m → Well (n + 1) a' b c' → Q (.int v) (upd H p (wl a' b c'))
theorem scD : FnScope ["_law_well", "_law_many", "_law_found", "_law_figure"] ["_law_well", "_law_many"] (defScope sDraw) := ⟨rfl, rfl, rfl, by decide +kernel, rfl, by decide +kernel, by decide +kernel⟩
section
variable {P : Program} {w : World} {K : PySem.W.Frag} {mg : Str → Option Value} {base : Heap}
theorem okDraw {f : Addr} {fd : FuncData} (F : Fun K "_law_draw" "_law_draw" sDraw f fd) (mi : mg "int" = none) : FnOk P w K mg base CX0 1 f fd ["_law_well", "_law_many"] spDraw := by
  refine F.ok scD (fun vs H Q E h => ?_) (fun cdv A outer s H vs Q E hr h => ?_)
  · obtain ⟨p, m, a, b, c, n, rfl, _⟩ := h
    rfl
  · obtain ⟨p, m, a, b, c, n, rfl, hp, m0, m1, W, hn, k⟩ := h
    obtain ⟨a0, b0, b1, c0, c1⟩ := W
    refine ⟨_, pss_cons (ps_if (pt_cmpR op_gt (pe_ix ix_list (pv 0) pe_int (fun _ _ => rfl)) pe_int (nomark _))
        (pss_cons (ps_set (i := 2) scD.nd rfl (.inl rfl) (pe_op op_mod (pe_callTy call_int1 (by rfl) mi boot_int (pa_cons (pe_ix ix_list (pv 0) pe_int (fun _ _ => rfl)) pa_nil)) (pv 1)))
        (pss_cons (ps_asg (pe_op op_fdiv (pe_ix ix_list (pv 0) pe_int (fun _ _ => rfl)) (pv 1)) (pg_sub (pv 0) pe_int set_list))
        (pss_one (ps_ret (pv 2))))) pss_nil)
      (pss_cons (ps_asg (pe_op op_add (pe_ix ix_list (pv 0) pe_int (fun _ _ => rfl)) pe_int) (pg_sub (pv 0) pe_int set_list))
      (pss_cons (ps_set (i := 3) scD.nd rfl (.inl rfl) (pe_op op_mod (pe_callTy call_int1 (by rfl) mi boot_int (pa_cons (pe_op op_mul (pe_op op_add (pe_op op_add (pe_ix ix_list (pv 0) pe_int (fun _ _ => rfl)) (pe_op op_mul pe_int (pe_ix ix_list (pv 0) pe_int (fun _ _ => rfl)))) pe_int) pe_int) pa_nil)) pe_int))
      (pss_cons (ps_set (i := 3) scD.nd rfl (.inl rfl) (pe_op op_mod (pe_callTy call_int1 (by rfl) mi boot_int (pa_cons (pe_op op_mul (pv 3) (pe_op op_add (pe_op op_fdiv (pv 3) pe_int) pe_int)) pa_nil)) pe_int))
      (pss_one (ps_ret (pe_op op_mod (pe_callTy call_int1 (by rfl) mi boot_int (pa_cons (pe_op op_mod (pe_callTy call_int1 (by rfl) mi boot_int (pa_cons (pe_op op_mul (pv 3) (pe_op op_add (pe_op op_fdiv (pv 3) pe_int) pe_int)) pa_nil)) pe_int) pa_nil)) (pv 1))))))), ?_⟩
    have S : SqL K H p [.int a, .int b, .int c] := SqL.of hp
    refine ⟨_, rfl, p, _, _, .int a, rfl, rfl, S, rfl, _, _, rfl, rfl, _, rfl, ?_⟩
    refine ite2 (fun ha => ?_) (fun ha => ?_)
    · have ha' : 0 < a := of_decide_eq_true ha
      refine ⟨_, rfl, p, _, _, .int a, rfl, rfl, S, rfl, .inl ⟨a, rfl, _, rfl, _, _, rfl, rfl, m0, ?_⟩⟩
      refine ⟨_, rfl, p, _, _, .int a, rfl, rfl, S, rfl, _, rfl, _, _, rfl, rfl, ⟨m0, m1⟩, ?_⟩
      refine ⟨_, rfl, p, _, _, _, rfl, rfl, hp, rfl, ?_⟩
      refine ⟨_, rfl, ?_⟩
      exact k (a % m) (a / m) c (Int.emod_nonneg _ (by omega)) (Int.emod_lt_of_pos _ m0) ⟨Int.ediv_nonneg a0 (by omega), b0, b1, c0, by omega⟩
    · refine ⟨_, rfl, p, _, _, .int c, rfl, rfl, S, rfl, _, _, rfl, rfl, ?_⟩
      refine ⟨_, rfl, p, _, _, _, rfl, rfl, hp, rfl, ?_⟩
      have S2 : SqL K (upd H p (wl a b (c + 1))) p [.int a, .int b, .int (c + 1)] := SqL.of upd_same
      refine ⟨_, rfl, p, _, _, .int b, rfl, rfl, S2, rfl, _, rfl, p, _, _, .int (c + 1), rfl, rfl, S2, rfl, _, _, rfl, rfl, .inl ⟨by decide, by decide⟩, _, _, rfl, rfl, _, _, rfl, rfl, _, _, rfl, rfl, .inr ⟨by decide, by decide⟩, .inl ⟨_, rfl, _, _, rfl, rfl, by show (0 : Int) < 2147483647; decide, ?_⟩⟩
      generalize ef : (b + 104729 * (c + 1) + 1) * 48271 % 2147483647 = g
      have g0 : 0 ≤ g := by rw [← ef]; exact Int.emod_nonneg _ (by decide)
      have g1 : g < 2147483647 := by rw [← ef]; exact Int.emod_lt_of_pos _ (by decide)
      refine ⟨_, rfl, _, rfl, _, _, rfl, rfl, ⟨by decide, by decide⟩, _, _, rfl, rfl, _, _, rfl, rfl, .inl ⟨by omega, by omega⟩, .inl ⟨_, rfl, _, _, rfl, rfl, by show (0 : Int) < 2147483647; decide, ?_⟩⟩
      generalize eh : g * (g / 1009 + 69621) % 2147483647 = h
      have h0 : 0 ≤ h := by rw [← eh]; exact Int.emod_nonneg _ (by decide)
      have h1 : h < 2147483647 := by rw [← eh]; exact Int.emod_lt_of_pos _ (by decide)
      refine ⟨_, rfl, _, rfl, _, _, rfl, rfl, ⟨by decide, by decide⟩, _, _, rfl, rfl, _, _, rfl, rfl, .inl ⟨by omega, by omega⟩, .inl ⟨_, rfl, _, _, rfl, rfl, by show (0 : Int) < 2147483399; decide, ?_⟩⟩
      refine .inl ⟨_, rfl, _, rfl, _, _, rfl, rfl, m0, ?_⟩
      exact k _ a (c + 1) (Int.emod_nonneg _ (by omega)) (Int.emod_lt_of_pos _ m0) ⟨a0, b0, b1, by omega, by omega⟩
end
end K20

/-! k20: _law_right -/
namespace K20
open PySem PySem.Spec PyProof.Rows L2
/-- what _law_x may be -/
inductive XOk (H : Hp) : V → PyData → Prop
  | int (v : Int) : XOk H (.int v) (.int v)
  | non : XOk H .non .none
  | str : XOk H (.str "v") (.str "v")
  | tup (t : Addr) (e : H t = some (.tup [.int 0, .int 1])) : XOk H (.ref t) (.tuple [.int 0, .int 1])
theorem XOk.same {H H' : Hp} {x : V} {d : PyData} (h : XOk H x d) (s : Same H H') : XOk H' x d := by
  cases h with
  | int v => exact .int v
  | non => exact .non
  | str => exact .str
  | tup t e => exact .tup t (s _ _ e)
theorem XOk.dp {K : PySem.W.Frag} {H : Hp} {x : V} {d : PyData} (h : XOk H x d) : Dp K H x d := by
  cases h with
  | int v => exact .int v
  | non => exact .non
  | str => exact .str _
  | tup t e => exact .tup (.inl (.inl e)) (.cons (.int 0) (.cons (.int 1) .nil))
theorem dpRep {K : PySem.W.Frag} {H : Hp} {x : V} {d : PyData} (h : Dp K H x d) : ∀ n : Nat, DpAll K H (List.replicate n x) (List.replicate n d)
  | 0 => .nil
  | n + 1 => .cons h (dpRep h n)
theorem dpBls {K : PySem.W.Frag} {H : Hp} : ∀ bs : List Bool, DpAll K H (bs.map V.bl) (bs.map PyData.bool)
  | [] => .nil
  | b :: r => .cons (.bl b) (dpBls r)
theorem XOk.shaped {H : Hp} {x : V} {d : PyData} (h : XOk H x d) : SeqAt.shaped (.list (List.replicate 17 d)) = true := by
  cases h <;> first | rfl | decide +kernel
theorem eqvSelf {d : PyData} (h : SeqAt.shaped d = true) : PyData.eqv d d = true := PySem.SeqAt.eqv_refl d (SeqAt.canLay_of_shaped h)
theorem blsLay : ∀ bs : List Bool, PyData.canLayAll0 (bs.map PyData.bool) = true
  | [] => rfl
  | b :: r => by
    show (PyData.canLay0 (.bool b) && PyData.canLayAll0 (r.map PyData.bool)) = true
    rw [blsLay r]
    rfl
theorem blsDepth : ∀ bs : List Bool, PyData.depthAll (bs.map PyData.bool) = 0
  | [] => rfl
  | b :: r => by
    show max (PyData.depth (.bool b)) (PyData.depthAll (r.map PyData.bool)) = 0
    rw [blsDepth r]
    rfl
theorem blsShaped (bs : List Bool) : SeqAt.shaped (.list (bs.map PyData.bool)) = true := by
  have h1 : PyData.canLay0 (.list (bs.map PyData.bool)) = true := blsLay bs
  have h2 : PyData.depth (.list (bs.map PyData.bool)) = 1 := by
    show PyData.depthAll (bs.map PyData.bool) + 1 = 1
    rw [blsDepth]
  unfold SeqAt.shaped
  rw [h1, h2]
  rfl
theorem Some17.same {C : Fin 17 → Addr} {x : V} {H H' : Hp} {p : Addr} {es : List Addr} (h : Some17 C x H p es) (s : Same H H') : Some17 C x H' p es := ⟨h.len, s _ _ h.li, fun i => OexAt.same (h.at_ i) s⟩
theorem iteSelf {d : PyData} (h : SeqAt.shaped d = true) {A B : Prop} (hb : B) : if (!PyData.eqv d d) = true then A else B := by
  rw [eqvSelf h]
  exact hb
def bs (i : Nat) (n : Nat) : List Bool := (List.range n).map fun (k : Nat) => decide (V.int (0 + (k : Int)) = V.int (i : Int))
theorem bs_succ (i n : Nat) : (bs i (n + 1)).map V.bl = (bs i n).map V.bl ++ [.bl (decide (V.int (0 + (n : Int)) = V.int (i : Int)))] := by
  unfold bs
  rw [List.range_succ, List.map_append, List.map_append]
  rfl
theorem bs_len (i n : Nat) : (bs i n).length = n := by
  unfold bs
  rw [List.length_map, List.length_range]
theorem tk_bs : ∀ i : Fin 17, tk i = (bs i.val 17).map V.bl := by decide +kernel
def spRight : Sp := fun vs H Q _ => ∃ (p : Addr) (a b c : Int), vs = [.ref p] ∧ H p = some (wl a b c) ∧ Well 0 a b c ∧ ∀ H', (∀ q o, H q = some o → q ≠ p → H' q = some o) → Q (.bl true) H'
/-- the other names of the top -/
structure Oth (K : PySem.W.Frag) (mg : Str → Option Value) (fD fT fP fN fF : Addr) : Prop where
  gD : mg "_law_draw" = some (.ref fD)
  gT : mg "_law_taken" = some (.ref fT)
  gP : mg "_law_by_place" = some (.ref fP)
  gN : mg "_law_by_name" = some (.ref fN)
  gF : mg "_law_fields" = some (.ref fF)
  enu : mg "enumerate" = none
  rng : mg "range" = none
  int : mg "int" = none
section
variable {P : Program} {w : World} {K : PySem.W.Frag} {mg : Str → Option Value} {base : Heap} {C fI : Fin 17 → Addr} {fd : Fin 17 → FuncData} {OE fD fT fP fN fF : Addr} {dD dT dP dN dF : FuncData}
abbrev nR : List Str := ["_law_well", "_law_x", "_law_some", "_law_spot", "_law_e", "_law_k"]
theorem scR : FnScope nR ["_law_well"] (defScope sRight) := ⟨rfl, rfl, rfl, by decide +kernel, rfl, by decide +kernel, by decide +kernel⟩
theorem okRight {f : Addr} {fdr : FuncData} (F : Fun K "_law_right" "_law_right" sRight f fdr) (T : Cls17 K mg C fI OE) (I : Ini K fI fd) (O : Oth K mg fD fT fP fN fF)
    (FD : Fun K "_law_draw" "_law_draw" sDraw fD dD) (bD : Binds K dD ["_law_well", "_law_many"] [])
    (FT : Fun K "_law_taken" "_law_taken" sTaken fT dT) (bT : Binds K dT ["_law_e"] [])
    (FP : Fun K "_law_by_place" "_law_by_place" sPlace fP dP) (bP : Binds K dP ["_law_x"] [])
    (FN : Fun K "_law_by_name" "_law_by_name" sName fN dN) (bN : Binds K dN ["_law_x"] [])
    (FF : Fun K "_law_fields" "_law_fields" sFields fF dF) (bF : Binds K dF ["_law_some"] []) : FnOk P w K mg base CX0 4 f fdr ["_law_well"] spRight := by
  have GD : FnOk P w K mg base CX0 1 fD dD ["_law_well", "_law_many"] spDraw := okDraw FD O.int
  have GT : FnOk P w K mg base CX0 1 fT dT ["_law_e"] (spTaken C) := okTaken FT T
  have GP : FnOk P w K mg base CX0 3 fP dP ["_law_x"] (spSome C) := okPlace FP T I
  have GN : FnOk P w K mg base CX0 3 fN dN ["_law_x"] (spSome C) := okName FN T I
  have GF : FnOk P w K mg base CX0 1 fF dF ["_law_some"] (spFields C) := okFields FF T
  refine F.ok scR (fun vs H Q E h => ?_) (fun cdv A outer s H vs Q E hr h => ?_)
  · obtain ⟨p, a, b, c, rfl, _⟩ := h
    rfl
  · obtain ⟨p, a, b, c, rfl, hp, W, k⟩ := h
    have hr1 : Room 1 _ := hr.mono (by decide)
    have hu : _ + 64 < cLine := hr.units
    refine ⟨_, pss_cons (ps_set (i := 1) scR.nd rfl (.inl rfl) (pe_ix ix_list
          (pe_lst (pa_cons (pe_call GD hr1 (by rfl) O.gD FD.kp bD .nil pass0 (pa_cons (pv 0) (pa_cons pe_int pa_nil))) (pa_cons (pe_un un_neg pe_int) (pa_cons pe_non (pa_cons pe_str (pa_cons (pe_tup (pa_cons pe_int (pa_cons pe_int pa_nil))) pa_nil))))))
          (pe_call GD hr1 (by rfl) O.gD FD.kp bD .nil pass0 (pa_cons (pv 0) (pa_cons pe_int pa_nil))) (fun _ _ => rfl)))
      (pss_cons (ps_for PassesOwn.never rfl (pi_list (pe_lst (pa_cons (pe_call GP hr (by rfl) O.gP FP.kp bP .nil pass0 (pa_cons (pv 1) pa_nil)) (pa_cons (pe_call GN hr (by rfl) O.gN FN.kp bN .nil pass0 (pa_cons (pv 1) pa_nil)) pa_nil)))) (pg_name (i := 2) scR.nd rfl (.inl rfl))
        (pss_cons (ps_if (PW.pt (pw_or (pt_cmpR (op_neD hu) (pe_call GF hr1 (by rfl) O.gF FF.kp bF .nil pass0 (pa_cons (pv 2) pa_nil)) (pe_op op_rep (pe_lst (pa_cons (pv 1) pa_nil)) pe_int) (nomark _))
            (pw_or1 (pt_cmpR (op_neD hu) (pe_tup (pa_cons (pe_oxf (pe_ix ix_list (pv 2) pe_int (fun _ _ => rfl))) (pa_cons (pe_oxf (pe_ix ix_list (pv 2) pe_int (fun _ _ => rfl))) (pa_cons (pe_oxf (pe_ix ix_list (pv 2) pe_int (fun _ _ => rfl))) pa_nil)))) (pe_tup (pa_cons pe_str (pa_cons pe_int (pa_cons pe_str pa_nil)))) (nomark _))))) (pss_one (ps_ret pe_bl)) pss_nil)
        (pss_cons (ps_if (pt_cmpR (op_neD hu) (pe_tup (pa_cons (pe_oxf (pe_ix ix_list (pv 2) pe_int (fun _ _ => rfl))) (pa_cons (pe_oxf (pe_ix ix_list (pv 2) pe_int (fun _ _ => rfl))) pa_nil))) (pe_tup (pa_cons pe_int (pa_cons pe_int pa_nil))) (nomark _)) (pss_one (ps_ret pe_bl)) pss_nil)
        (pss_one (ps_for PassesOwn.never rfl (pi_enum (by rfl) O.enu (pa_cons (pv 2) pa_nil)) (pg_tup rfl (pgs_cons (pg_name (i := 3) scR.nd rfl (.inr rfl)) (pgs_cons (pg_name (i := 4) scR.nd rfl (.inl rfl)) pgs_nil)))
          (pss_cons (ps_if (pt_cmpR (op_neD hu) (pe_call GT hr1 (by rfl) O.gT FT.kp bT .nil pass0 (pa_cons (pv 4) pa_nil))
              (pe_lc (own := [("_law_k", 5)]) (g := gName 5) (tt := tYes) (by rfl) scR.nd (pi_range1 (by rfl) O.rng (pa_cons pe_int pa_nil)) (blkOk_by (own := [("_law_k", 5)]) (N := nR) (sc := defScope sRight) (by decide +kernel)) (fun _ _ _ _ _ => pg_name (i := 5) scR.nd rfl (Or.inl rfl)) (fun _ _ _ _ _ => pts_nil) (fun _ _ _ _ _ => pe_cmpR op_eq (pv 5) (pv 3) (nomark _))) (nomark _)) (pss_one (ps_ret pe_bl)) pss_nil)
          (pss_one (ps_if (PW.pt (pw_or (pt_not (pt_val (pe_callB call_isOx (by rfl) T.isi PyProof.Rows.boot_isinstance (pa_cons (pv 4) (pa_cons (pe_glob (v := .ref OE) (by rfl) T.gO rfl) pa_nil))))) (pw_or1 (pt_not (pt_val (pe_callB call_isOx (by rfl) T.isi PyProof.Rows.boot_isinstance (pa_cons (pv 4) (pa_cons (pe_bltn (v := .ty "ValueError") (by rfl) T.ve boot_ValueError rfl) pa_nil)))))))) (pss_one (ps_ret pe_bl)) pss_nil))))))))
      (pss_one (ps_ret (pe_not (pe_callB call_isEb (by rfl) T.isi PyProof.Rows.boot_isinstance (pa_cons (pe_exb exb_ValueError (by rfl) T.ve boot_ValueError (pa_cons pe_str pa_nil)) (pa_cons (pe_glob (v := .ref OE) (by rfl) T.gO rfl) pa_nil))))))), ?_⟩
    -- _law_x
    refine ⟨_, rfl, p, 1000, a, b, c, 0, rfl, hp, by decide, by decide, W, by decide, fun v a1 c1 v0 v1 W1 => ?_⟩
    refine ⟨_, rfl, few (by show 2 ≤ 1000; decide), fun tp ntp => ?_⟩
    refine ⟨few (by show 5 ≤ 1000; decide), fun l nl => ?_⟩
    have npt : p ≠ tp := fun z => by rw [← z, upd_same] at ntp; cases ntp
    have npl : p ≠ l := fun z => by rw [← z, upd_ne npt, upd_same] at nl; cases nl
    have ntl : tp ≠ l := fun z => by rw [← z, upd_same] at nl; cases nl
    refine ⟨_, rfl, p, 5, a1, b, c1, 1, rfl, ?_, by decide, by decide, W1, by decide, fun u a2 c2 u0 u1 W2 => ?_⟩
    · rw [upd_ne npl, upd_ne npt, upd_same]
    generalize eH1 : upd (upd (upd (upd H p (wl a1 b c1)) tp (.tup [.int 0, .int 1])) l (.lst [.int v, .int (-1), .non, .str "v", .ref tp])) p (wl a2 b c2) = H1
    have el : H1 l = some (.lst [.int v, .int (-1), .non, .str "v", .ref tp]) := by rw [← eH1, upd_ne npl.symm, upd_same]
    have et : H1 tp = some (.tup [.int 0, .int 1]) := by rw [← eH1, upd_ne npt.symm, upd_ne ntl, upd_same]
    have frame : ∀ q o, H q = some o → q ≠ p → H1 q = some o := fun q o e hq => by
      have e1 : upd H p (wl a1 b c1) q = some o := by rw [upd_ne hq]; exact e
      have e2 : upd (upd H p (wl a1 b c1)) tp (.tup [.int 0, .int 1]) q = some o := by rw [upd_ne (ne_of_none e1 ntp)]; exact e1
      rw [← eH1, upd_ne hq, upd_ne (ne_of_none e2 nl)]
      exact e2
    obtain ⟨x, d, hat, hx⟩ : ∃ x d, atI [V.int v, .int (-1), .non, .str "v", .ref tp] u = some x ∧ XOk H1 x d := by
      have hu5 : u = 0 ∨ u = 1 ∨ u = 2 ∨ u = 3 ∨ u = 4 := by omega
      rcases hu5 with e | e | e | e | e <;> subst e
      · exact ⟨_, _, rfl, .int v⟩
      · exact ⟨_, _, rfl, .int (-1)⟩
      · exact ⟨_, _, rfl, .non⟩
      · exact ⟨_, _, rfl, .str⟩
      · exact ⟨_, _, rfl, .tup tp et⟩
    refine ⟨l, _, u, x, rfl, rfl, SqL.of el, hat, ?_⟩
    -- for _law_some in [..]
    refine ⟨_, rfl, x, rfl, fun H2 p1 es1 s12 S1 => ?_⟩
    refine ⟨_, rfl, x, rfl, fun H3 p2 es2 s23 S2 => ?_⟩
    refine ⟨few (by show 2 ≤ 1000; decide), fun q nq => ?_⟩
    have s34 := same_up (o := .lst [.ref p1, .ref p2]) nq
    have S1' := S1.same (s23.trans s34)
    have S2' := S2.same s34
    have s14 := (s12.trans s23).trans s34
    generalize eH4 : upd H3 q (.lst [.ref p1, .ref p2]) = H4 at S1' S2' s14
    have eq : H4 q = some (.lst [.ref p1, .ref p2]) := by rw [← eH4, upd_same]
    have hx4 := hx.same s14
    refine ⟨q, rfl, ⟨_, SqL.of eq⟩, for_list (K := K) (a := q) (xs := [.ref p1, .ref p2]) (fun i σ H' => ∃ s2 s3 s4, σ = [some (.ref p), some x, s2, s3, s4, none] ∧ Same H4 H')
      ⟨none, none, none, rfl, Same.refl _⟩ (fun i σ H' _ ⟨_, _, _, _, s⟩ => s.seq (SqL.of eq)) ?_ ?_⟩
    · rintro i y σ H5 hi ⟨s2, s3, s4, rfl, s45⟩
      obtain ⟨pp, es, rfl, S⟩ : ∃ pp es, y = V.ref pp ∧ Some17 C x H5 pp es := by
        match i, hi with
        | 0, hi => exact ⟨p1, es1, (Option.some.inj hi).symm, S1'.same s45⟩
        | 1, hi => exact ⟨p2, es2, (Option.some.inj hi).symm, S2'.same s45⟩
        | n + 2, hi => exact absurd hi (by simp)
      match es, S.len, S with
      | [e0, e1, e2, e3, e4, e5, e6, e7, e8, e9, e10, e11, e12, e13, e14, e15, e16], _, S =>
      -- _law_fields(_law_some) != [_law_x] * 17
      refine ⟨_, rfl, x, pp, _, rfl, S, fun H6 fq s56 ef => ?_⟩
      refine ⟨_, rfl, few (by show 1 ≤ 1000; decide), fun l1 n1 => ?_⟩
      have s67 := same_up (o := .lst [x]) n1
      refine ⟨l1, 17, [x], rfl, rfl, upd_same, by decide, by decide, few (by show 17 ≤ 1000; decide), fun l2 n2 => ?_⟩
      have s78 := same_up (o := .lst (List.replicate 17 x)) n2
      have s48 := ((s45.trans s56).trans s67).trans s78
      have hx8 := hx4.same s48
      have S8 := S.same ((s56.trans s67).trans s78)
      have ef8 := (s67.trans s78) _ _ ef
      have el8 : upd (upd H6 l1 (.lst [x])) l2 (.lst (List.replicate 17 x)) l2 = some (.lst (List.replicate 17 x)) := upd_same
      refine ⟨.list (List.replicate 17 d), .list (List.replicate 17 d), .lst (SqL.of ef8) (dpRep hx8.dp 17), .lst (SqL.of el8) (dpRep hx8.dp 17), hx8.shaped, hx8.shaped, _, rfl, ?_⟩
      refine iteSelf hx8.shaped ?_
      -- (_law_some[0].part, ..) != ('p', 7, 'p')
      rw [show (List.replicate (Int.toNat 17) [x]).flatten = List.replicate 17 x from rfl]
      generalize eH8 : upd (upd H6 l1 (.lst [x])) l2 (.lst (List.replicate 17 x)) = H8 at s48 S8
      refine ⟨_, rfl, pp, _, _, .ref e0, rfl, rfl, SqL.of S8.li, rfl, e0, C 0, _, .str "p", rfl, S8.at_ 0, T.t 0, T.no 0 _ (by decide +kernel), lkP x, ?_⟩
      refine ⟨_, rfl, pp, _, _, .ref e0, rfl, rfl, SqL.of S8.li, rfl, e0, C 0, _, .int 7, rfl, S8.at_ 0, T.t 0, T.no 0 _ (by decide +kernel), lkI x, ?_⟩
      refine ⟨_, rfl, pp, _, _, .ref e1, rfl, rfl, SqL.of S8.li, rfl, e1, C 1, _, .str "p", rfl, S8.at_ 1, T.t 1, T.no 1 _ (by decide +kernel), lkP x, ?_⟩
      refine ⟨few (by show 3 ≤ 1000; decide), fun t1 m1 => ?_⟩
      refine ⟨few (by show 3 ≤ 1000; decide), fun t2 m2 => ?_⟩
      have z1 := same_up (o := .tup [.str "p", .int 7, .str "p"]) m1
      have z2 := same_up (o := .tup [.str "p", .int 7, .str "p"]) m2
      have w1 := z2 _ _ (upd_same (H := H8) (a := t1) (o := .tup [.str "p", .int 7, .str "p"]))
      have w2 : upd (upd H8 t1 (.tup [.str "p", .int 7, .str "p"])) t2 (.tup [.str "p", .int 7, .str "p"]) t2 = some (.tup [.str "p", .int 7, .str "p"]) := upd_same
      have dp3 : ∀ {H' : Hp} {t : Addr}, H' t = some (.tup [.str "p", .int 7, .str "p"]) → Dp K H' (.ref t) (.tuple [.str "p", .int 7, .str "p"]) := fun e => .tup (.inl (.inl e)) (.cons (.str _) (.cons (.int _) (.cons (.str _) .nil)))
      have sh3 : SeqAt.shaped (.tuple [.str "p", .int 7, .str "p"]) = true := by decide +kernel
      refine ⟨_, _, dp3 w1, dp3 w2, sh3, sh3, _, rfl, ?_⟩
      refine iteSelf sh3 ?_
      have s4a := (s48.trans z1).trans z2
      have S9 := S8.same (z1.trans z2)
      generalize eH9 : upd (upd H8 t1 (.tup [.str "p", .int 7, .str "p"])) t2 (.tup [.str "p", .int 7, .str "p"]) = H9 at s4a S9
      -- (_law_some[1].index, _law_some[2].at) != (7, 7)
      refine ⟨_, rfl, pp, _, _, .ref e1, rfl, rfl, SqL.of S9.li, rfl, e1, C 1, _, .int 7, rfl, S9.at_ 1, T.t 1, T.no 1 _ (by decide +kernel), lkI x, ?_⟩
      refine ⟨_, rfl, pp, _, _, .ref e2, rfl, rfl, SqL.of S9.li, rfl, e2, C 2, _, .int 7, rfl, S9.at_ 2, T.t 2, T.no 2 _ (by decide +kernel), lkA x, ?_⟩
      refine ⟨few (by show 2 ≤ 1000; decide), fun t3 m3 => ?_⟩
      refine ⟨few (by show 2 ≤ 1000; decide), fun t4 m4 => ?_⟩
      have z3 := same_up (o := .tup [.int 7, .int 7]) m3
      have z4 := same_up (o := .tup [.int 7, .int 7]) m4
      have w3 := z4 _ _ (upd_same (H := H9) (a := t3) (o := .tup [.int 7, .int 7]))
      have w4 : upd (upd H9 t3 (.tup [.int 7, .int 7])) t4 (.tup [.int 7, .int 7]) t4 = some (.tup [.int 7, .int 7]) := upd_same
      have dp2 : ∀ {H' : Hp} {t : Addr}, H' t = some (.tup [.int 7, .int 7]) → Dp K H' (.ref t) (.tuple [.int 7, .int 7]) := fun e => .tup (.inl (.inl e)) (.cons (.int _) (.cons (.int _) .nil))
      have sh2 : SeqAt.shaped (.tuple [.int 7, .int 7]) = true := by decide +kernel
      refine ⟨_, _, dp2 w3, dp2 w4, sh2, sh2, _, rfl, ?_⟩
      refine iteSelf sh2 ?_
      have s4b := (s4a.trans z3).trans z4
      have SA := S9.same (z3.trans z4)
      generalize eHA : upd (upd H9 t3 (.tup [.int 7, .int 7])) t4 (.tup [.int 7, .int 7]) = HA at s4b SA
      -- for _law_spot, _law_e in enumerate(_law_some)
      refine ⟨_, rfl, pp, _, rfl, SqL.of SA.li, ?_⟩
      refine ⟨fun i m σ H' => ∃ s3 s4, σ = [some (.ref p), some x, some (.ref pp), s3, s4, none] ∧ i + m = 17 ∧ Same HA H', ⟨17, s3, s4, rfl, rfl, Same.refl _⟩, fun i m σ HB hW => ?_⟩
      obtain ⟨s3', s4', rfl, em, sAB⟩ := hW
      have SB := SA.same sAB
      by_cases hi : i < 17
      · have hlen : i < ([e0, e1, e2, e3, e4, e5, e6, e7, e8, e9, e10, e11, e12, e13, e14, e15, e16].map V.ref).length := hi
        have hget : ([e0, e1, e2, e3, e4, e5, e6, e7, e8, e9, e10, e11, e12, e13, e14, e15, e16].map V.ref)[i]? = some (.ref ([e0, e1, e2, e3, e4, e5, e6, e7, e8, e9, e10, e11, e12, e13, e14, e15, e16].getD i 0)) := by
          rw [List.getElem?_map, List.getD_eq_getElem?_getD]
          have hlen' : i < ([e0, e1, e2, e3, e4, e5, e6, e7, e8, e9, e10, e11, e12, e13, e14, e15, e16] : List Addr).length := hi
          rw [List.getElem?_eq_getElem hlen']
          rfl
        generalize ee : ([e0, e1, e2, e3, e4, e5, e6, e7, e8, e9, e10, e11, e12, e13, e14, e15, e16] : List Addr).getD i 0 = ei at hget
        have hat : OexAt (C ⟨i, hi⟩) HB ei ((fx x).getD i []) := by
          rw [← ee]
          exact SB.at_ ⟨i, hi⟩
        refine .inr ⟨⟨_, _, SqL.of SB.li, hget⟩, fun σ' H' => ∃ s3 s4, σ' = [some (.ref p), some x, some (.ref pp), s3, s4, none] ∧ Same HA H', fun σ' H' hN => ?_, fun y H' hy => ?_⟩
        · obtain ⟨z3, z4, ez, sz⟩ := hN
          exact ⟨m - 1, by omega, z3, z4, ez, by omega, sz⟩
        · obtain ⟨tt, y1, rfl, nT, rfl, f1⟩ := hy
          have ey : y1 = .ref ei := Option.some.inj ((f1 _ (SqL.of SB.li)).symm.trans hget)
          subst ey
          have sT := same_up (o := .tup [.int (i : Nat), .ref ei]) nT
          refine ⟨tt, [.int (i : Nat), .ref ei], rfl, .inl (.inl upd_same), rfl, .int (i : Nat), [.ref ei], rfl, .ref ei, [], rfl, rfl, ?_⟩
          refine ⟨_, rfl, ei, ⟨i, hi⟩, _, rfl, OexAt.same hat sT, fun HC tq sC etq => ?_⟩
          refine ⟨17, rfl, by decide, by decide, fun D nD => ?_⟩
          have sD := same_up (o := .lst []) nD
          refine lc_range (n := 17) (fun j H' => Same HC H' ∧ H' D = some (.lst ((bs i j).map V.bl))) ⟨sD, upd_same⟩ (fun j H' hj hP => ?_) (fun H' hP => ?_)
          · obtain ⟨sj, ej⟩ := hP
            refine ⟨rfl, _, rfl, _, rfl, rfl, _, ej, ?_, ?_, ?_⟩
            · rw [List.length_map, bs_len]
              exact small1000 (by omega)
            · intro b o e
              rw [upd_ne (ne_of_none e nD)]
              exact sj _ _ e
            · rw [upd_same, bs_succ]
          · obtain ⟨sj, ej⟩ := hP
            have et : H' tq = some (.lst ((bs i 17).map V.bl)) := by
              rw [← tk_bs ⟨i, hi⟩]
              exact sj _ _ etq
            refine ⟨_, _, .lst (SqL.of et) (dpBls _), .lst (SqL.of ej) (dpBls _), blsShaped _, blsShaped _, _, rfl, ?_⟩
            refine iteSelf (blsShaped _) ?_
            have hat' : OexAt (C ⟨i, hi⟩) H' ei ((fx x).getD i []) := OexAt.same hat ((sT.trans sC).trans sj)
            refine ⟨_, rfl, ei, C ⟨i, hi⟩, _, .ref OE, .ref OE, true, rfl, .own _, hat', T.t _, T.kitO _, true, rfl, ?_⟩
            refine iteF ?_
            refine ⟨_, rfl, ei, C ⟨i, hi⟩, _, .ty "ValueError", .type "ValueError", true, rfl, .ty _, hat', T.t _, T.kitV _, true, rfl, ?_⟩
            refine iteF ?_
            exact ⟨_, _, rfl, sAB.trans ((sT.trans sC).trans sj)⟩
      · refine .inl ⟨⟨_, SqL.of SB.li, by show 17 ≤ i; omega⟩, ?_⟩
        exact ⟨_, _, _, rfl, s4b.trans sAB⟩
    · rintro σ H5 ⟨s2, s3, s4, rfl, s45⟩
      refine ⟨few (by show 1 ≤ 1000; decide), fun e ne => ?_⟩
      refine ⟨e, .ref OE, .ref OE, false, rfl, .own _, upd_same, T.kitN, false, rfl, ?_⟩
      exact k _ fun b o eb hb => same_up ne _ _ (s45 _ _ (s14 _ _ (frame b o eb hb)))
end
end K20

/-! list + list, the first one as it stands -/
namespace L2
open PySem PySem.Spec PyProof.Rows
def rCatS (K : PySem.W.Frag) : R2 := fun x y H Q => ∃ l b xs zs, x = .ref l ∧ y = .ref b ∧ SqL K H l xs ∧ SqL K H b zs ∧ xs.length + zs.length ≤ sizeLine ∧ ∀ p, H p = none → Q (.ref p) (upd H p (.lst (xs ++ zs)))
theorem op_catS {X : Cx} : OpR X (binaryOp .Add) (rCatS X.K) := by
  intro pins s σ H x y v u Q I rx ry h
  obtain ⟨l, b, xs, zs, rfl, rfl, hH, hB, hz, q⟩ := h
  cases rx
  cases ry
  obtain ⟨its, r, p1, _⟩ := I.list hH
  obtain ⟨its2, r2, p2, _⟩ := I.list hB
  obtain ⟨⟨cls, dd, data, sl⟩, ho, hc, n, hd⟩ := id p1.isList
  obtain ⟨⟨cls2, dd2, data2, sl2⟩, ho2, hc2, n2, hd2⟩ := id p2.isList
  simp only at hc hd hc2 hd2
  subst hc hd hc2 hd2
  have few : its.toArray.size + its2.toArray.size ≤ sizeLine := by
    rw [List.size_toArray, List.size_toArray, ← r.length, ← r2.length]
    exact hz
  refine concat_meets ⟨_, ho, rfl⟩ ⟨_, ho2, rfl⟩ noFill_list_add seq_list_add PySem.F.slot_list_add PySem.F.entry_list_add (PySem.F.args_list_add_2 _ _) (list_addW l b its.toArray its2.toArray n n2 dd dd2 sl sl2 few) ⟨ho, ho2, ?_⟩
  have e : its.toArray ++ its2.toArray = (its ++ its2).toArray := by simp
  rw [e]
  exact ⟨.ref _, _, I.lnew (t' := s.toks) (r.append r2) (by rw [List.length_append]; omega), rfl, q _ I.fresh⟩
end L2
/-! k20: law -/
namespace K20
open PySem PySem.Spec PyProof.Rows L2
theorem cutTo (xs : List V) (n : Nat) : cutV xs none (some (n : Int)) = xs.take n := by
  unfold cutV
  rw [HT.sIx_none, HT.sIx_nat]
  show (xs.drop 0).take (min n xs.length - 0) = xs.take n
  rw [List.drop_zero, Nat.sub_zero]
  by_cases h : n ≤ xs.length
  · rw [Nat.min_eq_left h]
  · rw [Nat.min_eq_right (by omega), List.take_length, List.take_of_length_le (by omega)]
def spLaw (K : PySem.W.Frag) : Sp := fun vs H Q _ => ∃ (a : Addr) (ns : List Int), vs = [.ref a] ∧ SqL K H a (ns.map V.int) ∧ ns.length ≤ 63 ∧ ∀ H', Q (.bl true) H'
theorem cellWell {z : Int} {i : Nat} (hi : i < 100000) : Well 0 (z * (if decide ((10 : Int) ^ (18 : Int).toNat ≤ z) = true then 1 else 0)) (z % 2147483647 + 7919 * (i : Int)) 0 := by
  have h0 := Int.emod_nonneg z (show (2147483647 : Int) ≠ 0 by decide)
  have h1 := Int.emod_lt_of_pos z (show (0 : Int) < 2147483647 by decide)
  refine ⟨?_, by omega, by omega, by decide, by decide⟩
  by_cases h : (10 : Int) ^ (18 : Int).toNat ≤ z
  · rw [decide_eq_true h, if_pos rfl]
    have : (10 : Int) ^ (18 : Int).toNat = 1000000000000000000 := by decide
    omega
  · rw [decide_eq_false h, if_neg Bool.false_ne_true]
    omega
section
variable {P : Program} {w : World} {K : PySem.W.Frag} {mg : Str → Option Value} {base : Heap} {fR : Addr} {dR : FuncData}
theorem scL : FnScope ["_law_script", "_law_k", "_law_cell"] ["_law_script"] (defScope sLaw) := ⟨rfl, rfl, rfl, by decide +kernel, rfl, by decide +kernel, by decide +kernel⟩
theorem okLaw {f : Addr} {fd : FuncData} (F : Fun K "law" "law" sLaw f fd) (gR : mg "_law_right" = some (.ref fR)) (enu : mg "enumerate" = none) (mi : mg "int" = none) (FR : Fun K "_law_right" "_law_right" sRight fR dR) (bR : Binds K dR ["_law_well"] [])
    (GR : FnOk P w K mg base CX0 4 fR dR ["_law_well"] spRight) : FnOk P w K mg base CX0 5 f fd ["_law_script"] (spLaw K) := by
  refine F.ok scL (fun vs H Q E h => ?_) (fun cdv A outer s H vs Q E hr h => ?_)
  · obtain ⟨a, ns, rfl, _⟩ := h
    rfl
  · obtain ⟨a, ns, rfl, hS, hl, k⟩ := h
    refine ⟨_, pss_cons (ps_for PassesOwn.never rfl (pi_enum (by rfl) enu (pa_cons (pe_slice sl_list (pe_op op_catS (pv 0) (pe_lst (pa_cons pe_int pa_nil))) po_none (po_some pe_int)) pa_nil)) (pg_tup rfl (pgs_cons (pg_name (i := 1) scL.nd rfl (.inl rfl)) (pgs_cons (pg_name (i := 2) scL.nd rfl (.inl rfl)) pgs_nil)))
        (pss_one (ps_if (pt_not (pt_val (pe_call GR hr (by rfl) gR FR.kp bR .nil pass0 (pa_cons (pe_lst (pa_cons (pe_op op_mul (pv 2) (pe_callTy call_int1 (by rfl) mi boot_int (pa_cons (pe_cmpR op_ge (pv 2) (pe_op op_pow pe_int pe_int) (nomark _)) pa_nil)))
          (pa_cons (pe_op op_add (pe_op op_mod (pe_callTy call_int1 (by rfl) mi boot_int (pa_cons (pv 2) pa_nil)) pe_int) (pe_op op_mul pe_int (pv 1))) (pa_cons pe_int pa_nil)))) pa_nil)))) (pss_one (ps_ret pe_bl)) pss_nil)))
      (pss_one (ps_ret pe_bl)), ?_⟩
    refine ⟨_, rfl, few (by show 1 ≤ 1000; decide), fun l nl => ?_⟩
    have s1 := same_up (o := .lst [.int 0]) nl
    refine ⟨a, l, ns.map V.int, [.int 0], rfl, rfl, s1.seq hS, SqL.of upd_same, few (by rw [List.length_map]; show ns.length + 1 ≤ 1000; omega), fun b nb => ?_⟩
    refine ⟨3, rfl, b, _, rfl, SqL.of upd_same, fun c nc => ?_⟩
    have ezs : cutV (ns.map V.int ++ [.int 0]) none (some 3) = ((ns ++ [0]).take 3).map V.int := by
      show cutV (ns.map V.int ++ [.int 0]) none (some ((3 : Nat) : Int)) = _
      rw [cutTo, List.map_take, List.map_append]
      rfl
    rw [ezs] at *
    generalize ezz : (ns ++ [0]).take 3 = zs
    have lz : zs.length ≤ 3 := by
      rw [← ezz, List.length_take]
      omega
    refine ⟨c, _, rfl, SqL.of upd_same, ?_⟩
    refine ⟨fun i m σ H' => ∃ s1 s2, σ = [some (.ref a), s1, s2] ∧ i + m = zs.length ∧ H' c = some (.lst (zs.map V.int)), ⟨zs.length, none, none, rfl, by omega, upd_same⟩, fun i m σ H3 hW => ?_⟩
    obtain ⟨y1, y2, rfl, em, ec⟩ := hW
    have hC : SqL K H3 c (zs.map V.int) := SqL.of ec
    by_cases hi : i < zs.length
    · have hg : (zs.map V.int)[i]? = some (.int zs[i]) := by
        rw [List.getElem?_map, List.getElem?_eq_getElem hi]
        rfl
      generalize zs[i] = z at hg
      refine .inr ⟨⟨_, _, hC, hg⟩, fun σ' H' => ∃ s1 s2, σ' = [some (.ref a), s1, s2] ∧ H' c = some (.lst (zs.map V.int)), fun σ' H' hN => ?_, fun y H' hy => ?_⟩
      · obtain ⟨z1, z2, e, ec'⟩ := hN
        exact ⟨m - 1, by omega, z1, z2, e, by omega, ec'⟩
      · obtain ⟨tt, v1, rfl, nT, rfl, f1⟩ := hy
        have ey : v1 = .int z := Option.some.inj ((f1 _ hC).symm.trans hg)
        subst ey
        have sT := same_up (o := .tup [.int (i : Nat), .int z]) nT
        refine ⟨tt, [.int (i : Nat), .int z], rfl, .inl (.inl upd_same), rfl, .int (i : Nat), [.int z], rfl, .int z, [], rfl, rfl, ?_⟩
        refine ⟨_, rfl, _, rfl, _, _, rfl, rfl, ⟨by decide, by decide, by decide⟩, _, _, rfl, rfl, .inr ⟨_, rfl, _, _, rfl, rfl, .inr ?_, ?_⟩⟩
        · by_cases hd : (10 : Int) ^ (18 : Int).toNat ≤ z
          · rw [decide_eq_true hd, if_pos rfl]; exact ⟨by decide, by decide⟩
          · rw [decide_eq_false hd, if_neg Bool.false_ne_true]; exact ⟨by decide, by decide⟩
        refine ⟨_, rfl, .inl ⟨_, rfl, _, _, rfl, rfl, by show (0 : Int) < 2147483647; decide, _, rfl, _, _, rfl, rfl, .inl ⟨by decide, by decide⟩, _, _, rfl, rfl, ?_⟩⟩
        refine ⟨few (by show 3 ≤ 1000; decide), fun p np => ?_⟩
        refine ⟨p, _, _, _, rfl, upd_same, cellWell (by omega), fun H4 fr => ?_⟩
        refine ⟨true, rfl, iteF ?_⟩
        have e1 := sT _ _ ec
        have ncp : c ≠ p := ne_of_none e1 np
        exact ⟨_, _, rfl, fr _ _ (by rw [upd_ne ncp]; exact e1) ncp⟩
    · exact .inl ⟨⟨_, hC, by rw [List.length_map]; omega⟩, k H3⟩
end
end K20

/-! k20: what the top has written -/
namespace K20
open PySem PySem.Spec PyProof.Rows L2
abbrev tailO (OE : Addr) : List Value := [.ref OE, .type "ValueError", .type "Exception", .type "BaseException", .type "object"]
/-- the class as it lies -/
def XL (K : PySem.W.Frag) (C OE : Addr) (nm : Str) : Prop := ∃ (q : Str) (N : Addr) (bs : List Value) (sn : List Str) (sub : List Value) (ab : Bool) (col : Option Bool) (dd : Option Addr) (k0 k1 k2 k3 k5 : Option Value),
  K.lookup C = some (excClassObj nm q C N bs (tailO OE) true sn sub ab col dd k0 k1 k2 k3 k5 "ValueError.__new__")
def XO (K : PySem.W.Frag) (OE : Addr) : Prop := ∃ (q : Str) (N : Addr) (bs : List Value) (sn : List Str) (sub : List Value) (ab : Bool) (col : Option Bool) (dd : Option Addr) (k0 k1 k2 k3 k5 : Option Value),
  K.lookup OE = some (excClassObj "OldError" q OE N bs [.type "ValueError", .type "Exception", .type "BaseException", .type "object"] true sn sub ab col dd k0 k1 k2 k3 k5 "ValueError.__new__")
section
variable {K : PySem.W.Frag} {C D OE : Addr} {nm nm' : Str}
theorem XL.ne (x : XL K C OE nm) (y : XL K D OE nm') (h : nm ≠ nm') : C ≠ D := fun e => by
  subst e
  obtain ⟨q, N, bs, sn, sub, ab, col, dd, k0, k1, k2, k3, k5, e1⟩ := x
  obtain ⟨q', N', bs', sn', sub', ab', col', dd', k0', k1', k2', k3', k5', e2⟩ := y
  rw [e1] at e2
  have z := congrArg (fun o : Obj => match o.data with | .cls cd => cd.name | _ => nm) (Option.some.inj e2)
  exact h z
theorem XL.neO (x : XL K C OE nm) (y : XO K OE) (h : nm ≠ "OldError") : C ≠ OE := fun e => by
  subst e
  obtain ⟨q, N, bs, sn, sub, ab, col, dd, k0, k1, k2, k3, k5, e1⟩ := x
  obtain ⟨q', N', bs', sn', sub', ab', col', dd', k0', k1', k2', k3', k5', e2⟩ := y
  rw [e1] at e2
  have z := congrArg (fun o : Obj => match o.data with | .cls cd => cd.name | _ => nm) (Option.some.inj e2)
  exact h z
theorem XL.cls (x : XL K C OE nm) : (PySem.W.clsIn K C).isSome = true ∧ PySem.W.typeIn K (.ref C) = some (.type "type") := by
  obtain ⟨q, N, bs, sn, sub, ab, col, dd, k0, k1, k2, k3, k5, e1⟩ := x
  refine ⟨?_, ?_⟩
  · unfold PySem.W.clsIn
    rw [e1]
    rfl
  · show (K.lookup C).map (·.cls) = _
    rw [e1]
    rfl
theorem XO.cls (x : XO K OE) : (PySem.W.clsIn K OE).isSome = true ∧ PySem.W.typeIn K (.ref OE) = some (.type "type") := by
  obtain ⟨q, N, bs, sn, sub, ab, col, dd, k0, k1, k2, k3, k5, e1⟩ := x
  refine ⟨?_, ?_⟩
  · unfold PySem.W.clsIn
    rw [e1]
    rfl
  · show (K.lookup OE).map (·.cls) = _
    rw [e1]
    rfl
theorem XL.sub (x : XL K C OE nm) (b : Value) : PySem.W.subIn K (.ref C) b = some ((Value.ref C :: tailO OE).contains b) := by
  obtain ⟨q, N, bs, sn, sub, ab, col, dd, k0, k1, k2, k3, k5, e1⟩ := x
  show PySem.W.mroIn K C b = _
  unfold PySem.W.mroIn PySem.W.clsIn
  rw [e1]
  rfl
theorem kitRef {t : Value} {r : Bool} (h : (PySem.W.clsIn K D).isSome = true ∧ PySem.W.typeIn K (.ref D) = some (.type "type")) (ne : (t == .ref D) = false) (s : PySem.W.subIn K t (.ref D) = some r) : PySem.W.kitOne K t (.ref D) = some r := by
  unfold PySem.W.kitOne PySem.W.kitCls
  rw [ne, if_neg Bool.false_ne_true]
  dsimp only
  rw [h.1, h.2]
  exact s
theorem XL.kit (x : XL K C OE nm) (y : XL K D OE nm') (yo : XO K OE) (h : nm ≠ nm') (h' : nm' ≠ "OldError") : PySem.W.kitOne K (.ref C) (.ref D) = some false := by
  have n1 := x.ne y h
  have n2 := y.neO yo h'
  refine kitRef y.cls (by simp [n1]) ?_
  rw [x.sub]
  have e : (Value.ref C :: tailO OE).contains (.ref D) = false := by
    simp [tailO, Ne.symm n1, n2]
  rw [e]
theorem XL.kitS (x : XL K C OE nm) : PySem.W.kitOne K (.ref C) (.ref C) = some true := by
  unfold PySem.W.kitOne
  rw [if_pos (by simp)]
theorem XL.kitO (x : XL K C OE nm) (yo : XO K OE) (h : nm ≠ "OldError") : PySem.W.kitOne K (.ref C) (.ref OE) = some true := by
  have n := x.neO yo h
  refine kitRef yo.cls (by simp [n]) ?_
  rw [x.sub]
  simp [tailO]
theorem XL.kitV (x : XL K C OE nm) : PySem.W.kitOne K (.ref C) (.type "ValueError") = some true := by
  unfold PySem.W.kitOne PySem.W.kitCls
  rw [if_neg (by simp)]
  dsimp only
  rw [if_pos (by decide +kernel), x.sub]
  simp [tailO]
theorem XO.kitN (yo : XO K OE) : PySem.W.kitOne K (.type "ValueError") (.ref OE) = some false := by
  refine kitRef yo.cls (by simp) ?_
  show (fastBuiltinMro "ValueError").map (·.contains (.ref OE)) = some false
  have e : fastBuiltinMro "ValueError" = some [.type "ValueError", .type "Exception", .type "BaseException", .type "object"] := by decide +kernel
  rw [e]
  simp
theorem XL.exc (x : XL K C OE nm) (sa : PySem.W.findIn K (.ref C) "__setattr__" = some (some (.builtin "object.__setattr__"))) (kC : PySem.W.keepIn K (.ref C) = true) (ga : PySem.W.findIn K (.ref C) "__getattribute__" = some (some (.builtin "BaseException.__getattribute__")))
    (gg : PySem.W.findIn K (.ref C) "__getattr__" = some none) (cl : PySem.W.findIn K (.ref C) "__class__" = some (some (.builtin "object.__class__"))) : OexT K C := by
  have ex : PySem.W.subIn K (.ref C) (.type "BaseException") = some true := by
    rw [x.sub]
    simp [tailO]
  have ty := x.cls.2
  obtain ⟨q, N, bs, sn, sub, ab, col, dd, k0, k1, k2, k3, k5, e1⟩ := x
  exact ⟨⟨⟨nm, q, N, bs, tailO OE, sn, sub, ab, col, dd, k0, k1, k2, k3, k5, e1, by show PySem.HandSPX.refsVE [.ref OE, .type "ValueError", .type "Exception", .type "BaseException", .type "object"] = true; exact (by decide +kernel : PySem.HandSPX.refsVE [.type "ValueError", .type "Exception", .type "BaseException", .type "object"] = true)⟩, sa, ex, ty, kC⟩, ga, gg, cl⟩
end
def nmsOf : List Str := ["NoLibrary", "NoClient", "NoBody", "NoClass", "NoMember", "NoTables", "NoFields", "NoRoom", "Lacks", "NoText", "NoVersions", "NoVersion", "NoPlace", "NoReference", "NoNeed", "NoNumber", "NoPace"]
theorem nms_inj : ∀ i j : Fin 17, i ≠ j → nmsOf.getD i.val "" ≠ nmsOf.getD j.val "" := by decide +kernel
theorem nms_noO : ∀ i : Fin 17, nmsOf.getD i.val "" ≠ "OldError" := by decide +kernel
/-- one class as k_is finds it -/
structure One (K : PySem.W.Frag) (mg : Str → Option Value) (C fI OE : Addr) (nm : Str) (ns : List Str) : Prop where
  g : mg nm = some (.ref C)
  x : XL K C OE nm
  t : OexT K C
  i : PySem.W.findIn K (.ref C) "__init__" = some (some (.ref fI))
  ti : PySem.W.typeIn K (.ref fI) = some (.type "function")
  no : ∀ n ∈ ns, PySem.W.findIn K (.ref C) n = some none

theorem cls17 {K : PySem.W.Frag} {mg : Str → Option Value} {C fI : Fin 17 → Addr} {OE : Addr} (h : ∀ i : Fin 17, One K mg (C i) (fI i) OE (nmsOf.getD i.val "") (nms i)) (xo : XO K OE) (gO : mg "OldError" = some (.ref OE)) (isi : mg "isinstance" = none) (ve : mg "ValueError" = none) : Cls17 K mg C fI OE := by
  exact {
    t := fun i => (h i).t, iC := fun i => (h i).i, tI := fun i => (h i).ti, no := fun i => (h i).no
    kit := fun i j => by
      by_cases e : j = i
      · subst e
        rw [decide_eq_true rfl]
        exact (h j).x.kitS
      · rw [decide_eq_false e]
        exact (h i).x.kit (h j).x xo (nms_inj i j (Ne.symm e)) (nms_noO j)
    kitO := fun i => (h i).x.kitO xo (nms_noO i)
    kitV := fun i => (h i).x.kitV
    kitN := xo.kitN
    gO := gO, isi := isi, ve := ve
    g0 := (h 0).g
    g1 := (h 1).g
    g2 := (h 2).g
    g3 := (h 3).g
    g4 := (h 4).g
    g5 := (h 5).g
    g6 := (h 6).g
    g7 := (h 7).g
    g8 := (h 8).g
    g9 := (h 9).g
    g10 := (h 10).g
    g11 := (h 11).g
    g12 := (h 12).g
    g13 := (h 13).g
    g14 := (h 14).g
    g15 := (h 15).g
    g16 := (h 16).g
  }
end K20

namespace K20
open PySem PySem.Spec PyProof.Rows L2
section
variable {K : PySem.W.Frag} {h : Heap} {mg : Str → Option Value} {C fI OE N : Addr} {nm q qi : Str} {bs : List Value} {sn : List Str} {sub : List Value} {ab : Bool} {col : Option Bool} {dd : Option Addr} {k0 k1 k2 k3 k5 : Option Value} {st : Stmt}
  {oc : Value} {od an : Option Addr} {osl : Array (Option Value)} {kV doc pm cdv ct : Value}
theorem oneMk {ns : List Str} (X : K.In h) (G : h.Ns mainGlobals mg) (a : PySem.W.nsIn K mainGlobals nm = some (some (.ref C))) (x : K.lookup C = some (excClassObj nm q C N bs (tailO OE) true sn sub ab col dd k0 k1 k2 k3 k5 "ValueError.__new__"))
    (sa : PySem.W.findIn K (.ref C) "__setattr__" = some (some (.builtin "object.__setattr__"))) (kC : PySem.W.keepIn K (.ref C) = true) (ga : PySem.W.findIn K (.ref C) "__getattribute__" = some (some (.builtin "BaseException.__getattribute__")))
    (gg : PySem.W.findIn K (.ref C) "__getattr__" = some none) (cl : PySem.W.findIn K (.ref C) "__class__" = some (some (.builtin "object.__class__")))
    (i : PySem.W.findIn K (.ref C) "__init__" = some (some (.ref fI))) (ti : PySem.W.typeIn K (.ref fI) = some (.type "function"))
    (l : K.lookup fI = some ⟨oc, od, .func (PySem.W.fnOf "__init__" qi (defArgs st) (defBody st) (defScope st) .none kV doc pm an cdv ct), osl⟩) (c : PySem.W.codeIn K cdv qi = true) (k : PySem.W.keepIn K (.ref fI) = true)
    (no : ∀ n ∈ ns, PySem.W.findIn K (.ref C) n = some none) : One K mg C fI OE nm ns ∧ ∃ fd, Fun K "__init__" qi st fI fd := by
  have xl : XL K C OE nm := ⟨q, N, bs, sn, sub, ab, col, dd, k0, k1, k2, k3, k5, x⟩
  exact ⟨⟨PySem.W.mg_of X G a, xl, xl.exc sa kC ga gg cl, i, ti, no⟩, _, fun_mk l c k⟩
theorem no1 {p : Str → Prop} {a : Str} (h : p a) : ∀ n ∈ [a], p n := fun n hn => by
  rw [List.mem_singleton] at hn
  rw [hn]
  exact h
theorem noC {p : Str → Prop} {a : Str} {r : List Str} (h : p a) (t : ∀ n ∈ r, p n) : ∀ n ∈ a :: r, p n := fun n hn => by
  rcases List.mem_cons.mp hn with e | e
  · rw [e]
    exact h
  · exact t n e
theorem defMk {x : Str} (X : K.In h) (G : h.Ns mainGlobals mg) (a : PySem.W.nsIn K mainGlobals x = some (some (.ref fI)))
    (l : K.lookup fI = some ⟨oc, od, .func (PySem.W.fnOf x x (defArgs st) (defBody st) (defScope st) .none kV doc pm an cdv ct), osl⟩) (c : PySem.W.codeIn K cdv x = true) (k : PySem.W.keepIn K (.ref fI) = true) : mg x = some (.ref fI) ∧ ∃ fd, Fun K x x st fI fd :=
  ⟨PySem.W.mg_of X G a, _, fun_mk l c k⟩
end
def at17 {α : Type} (d : α) (l : List α) (i : Fin 17) : α := l.getD i.val d
theorem allMk {P : Program} {w : World} {K : PySem.W.Frag} {h : Heap} {mg : Str → Option Value} {fa OE c0 f0 c1 f1 c2 f2 c3 f3 c4 f4 c5 f5 c6 f6 c7 f7 c8 f8 c9 f9 c10 f10 c11 f11 c12 f12 c13 f13 c14 f14 c15 f15 c16 f16 gD gT gP gN gF gR gL : Addr} (X : K.In h) (G : h.Ns mainGlobals mg) (hfa : mg "law" = some (.ref fa))
    (o0 : One K mg c0 f0 OE "NoLibrary" ["number", "part", "index"] ∧ ∃ fd, Fun K "__init__" "NoLibrary.__init__" sX0 f0 fd)
    (o1 : One K mg c1 f1 OE "NoClient" ["number", "part", "index"] ∧ ∃ fd, Fun K "__init__" "NoClient.__init__" sX1 f1 fd)
    (o2 : One K mg c2 f2 OE "NoBody" ["where", "at"] ∧ ∃ fd, Fun K "__init__" "NoBody.__init__" sX2 f2 fd)
    (o3 : One K mg c3 f3 OE "NoClass" ["name"] ∧ ∃ fd, Fun K "__init__" "NoClass.__init__" sX3 f3 fd)
    (o4 : One K mg c4 f4 OE "NoMember" ["name"] ∧ ∃ fd, Fun K "__init__" "NoMember.__init__" sX4 f4 fd)
    (o5 : One K mg c5 f5 OE "NoTables" ["index"] ∧ ∃ fd, Fun K "__init__" "NoTables.__init__" sX5 f5 fd)
    (o6 : One K mg c6 f6 OE "NoFields" ["index"] ∧ ∃ fd, Fun K "__init__" "NoFields.__init__" sX6 f6 fd)
    (o7 : One K mg c7 f7 OE "NoRoom" ["size"] ∧ ∃ fd, Fun K "__init__" "NoRoom.__init__" sX7 f7 fd)
    (o8 : One K mg c8 f8 OE "Lacks" ["need"] ∧ ∃ fd, Fun K "__init__" "Lacks.__init__" sX8 f8 fd)
    (o9 : One K mg c9 f9 OE "NoText" ["at"] ∧ ∃ fd, Fun K "__init__" "NoText.__init__" sX9 f9 fd)
    (o10 : One K mg c10 f10 OE "NoVersions" ["index"] ∧ ∃ fd, Fun K "__init__" "NoVersions.__init__" sX10 f10 fd)
    (o11 : One K mg c11 f11 OE "NoVersion" ["number"] ∧ ∃ fd, Fun K "__init__" "NoVersion.__init__" sX11 f11 fd)
    (o12 : One K mg c12 f12 OE "NoPlace" ["place"] ∧ ∃ fd, Fun K "__init__" "NoPlace.__init__" sX12 f12 fd)
    (o13 : One K mg c13 f13 OE "NoReference" ["place"] ∧ ∃ fd, Fun K "__init__" "NoReference.__init__" sX13 f13 fd)
    (o14 : One K mg c14 f14 OE "NoNeed" ["need"] ∧ ∃ fd, Fun K "__init__" "NoNeed.__init__" sX14 f14 fd)
    (o15 : One K mg c15 f15 OE "NoNumber" ["number"] ∧ ∃ fd, Fun K "__init__" "NoNumber.__init__" sX15 f15 fd)
    (o16 : One K mg c16 f16 OE "NoPace" ["pace"] ∧ ∃ fd, Fun K "__init__" "NoPace.__init__" sX16 f16 fd)
    (xo : XO K OE) (aO : PySem.W.nsIn K mainGlobals "OldError" = some (some (.ref OE)))
    (dD : mg "_law_draw" = some (.ref gD) ∧ ∃ fd, Fun K "_law_draw" "_law_draw" sDraw gD fd)
    (dT : mg "_law_taken" = some (.ref gT) ∧ ∃ fd, Fun K "_law_taken" "_law_taken" sTaken gT fd)
    (dP : mg "_law_by_place" = some (.ref gP) ∧ ∃ fd, Fun K "_law_by_place" "_law_by_place" sPlace gP fd)
    (dN : mg "_law_by_name" = some (.ref gN) ∧ ∃ fd, Fun K "_law_by_name" "_law_by_name" sName gN fd)
    (dF : mg "_law_fields" = some (.ref gF) ∧ ∃ fd, Fun K "_law_fields" "_law_fields" sFields gF fd)
    (dR : mg "_law_right" = some (.ref gR) ∧ ∃ fd, Fun K "_law_right" "_law_right" sRight gR fd)
    (dL : mg "law" = some (.ref gL) ∧ ∃ fd, Fun K "law" "law" sLaw gL fd)
    (zisinstance : PySem.W.nsIn K mainGlobals "isinstance" = some none)
    (zValueError : PySem.W.nsIn K mainGlobals "ValueError" = some none)
    (zenumerate : PySem.W.nsIn K mainGlobals "enumerate" = some none)
    (zrange : PySem.W.nsIn K mainGlobals "range" = some none)
    (zint : PySem.W.nsIn K mainGlobals "int" = some none)
    : ∃ fd : FuncData, (∀ (s : Shared) (v : Value), BindsTo s fd ⟨[v], []⟩ [("_law_script", v)]) ∧ ∀ base : Heap, K.In base → base.Ns mainGlobals mg → FnOk P w K mg base CX0 5 fa fd ["_law_script"] (spLaw K) := by
  obtain ⟨p0, fd0, F0⟩ := o0
  obtain ⟨p1, fd1, F1⟩ := o1
  obtain ⟨p2, fd2, F2⟩ := o2
  obtain ⟨p3, fd3, F3⟩ := o3
  obtain ⟨p4, fd4, F4⟩ := o4
  obtain ⟨p5, fd5, F5⟩ := o5
  obtain ⟨p6, fd6, F6⟩ := o6
  obtain ⟨p7, fd7, F7⟩ := o7
  obtain ⟨p8, fd8, F8⟩ := o8
  obtain ⟨p9, fd9, F9⟩ := o9
  obtain ⟨p10, fd10, F10⟩ := o10
  obtain ⟨p11, fd11, F11⟩ := o11
  obtain ⟨p12, fd12, F12⟩ := o12
  obtain ⟨p13, fd13, F13⟩ := o13
  obtain ⟨p14, fd14, F14⟩ := o14
  obtain ⟨p15, fd15, F15⟩ := o15
  obtain ⟨p16, fd16, F16⟩ := o16
  obtain ⟨mD, fdD, FD⟩ := dD
  obtain ⟨mT, fdT, FT⟩ := dT
  obtain ⟨mP, fdP, FP⟩ := dP
  obtain ⟨mN, fdN, FN⟩ := dN
  obtain ⟨mF, fdF, FF⟩ := dF
  obtain ⟨mR, fdR, FR⟩ := dR
  obtain ⟨mL, fdL, FL⟩ := dL
  have e := hfa.symm.trans mL
  cases e
  have T : Cls17 K mg (at17 0 [c0, c1, c2, c3, c4, c5, c6, c7, c8, c9, c10, c11, c12, c13, c14, c15, c16]) (at17 0 [f0, f1, f2, f3, f4, f5, f6, f7, f8, f9, f10, f11, f12, f13, f14, f15, f16]) OE := cls17 (fun i => match i with
    | ⟨0, _⟩ => p0
    | ⟨1, _⟩ => p1
    | ⟨2, _⟩ => p2
    | ⟨3, _⟩ => p3
    | ⟨4, _⟩ => p4
    | ⟨5, _⟩ => p5
    | ⟨6, _⟩ => p6
    | ⟨7, _⟩ => p7
    | ⟨8, _⟩ => p8
    | ⟨9, _⟩ => p9
    | ⟨10, _⟩ => p10
    | ⟨11, _⟩ => p11
    | ⟨12, _⟩ => p12
    | ⟨13, _⟩ => p13
    | ⟨14, _⟩ => p14
    | ⟨15, _⟩ => p15
    | ⟨16, _⟩ => p16
    | ⟨n + 17, h⟩ => absurd h (by omega)) xo (PySem.W.mg_of X G aO) (PySem.W.mg_none_of X G zisinstance) (PySem.W.mg_none_of X G zValueError)
  have I : Ini K (at17 0 [f0, f1, f2, f3, f4, f5, f6, f7, f8, f9, f10, f11, f12, f13, f14, f15, f16]) (at17 fd0 [fd0, fd1, fd2, fd3, fd4, fd5, fd6, fd7, fd8, fd9, fd10, fd11, fd12, fd13, fd14, fd15, fd16]) := ⟨F0, F1, F2, F3, F4, F5, F6, F7, F8, F9, F10, F11, F12, F13, F14, F15, F16⟩
  have O : Oth K mg gD gT gP gN gF := ⟨mD, mT, mP, mN, mF, PySem.W.mg_none_of X G zenumerate, PySem.W.mg_none_of X G zrange, PySem.W.mg_none_of X G zint⟩
  have bD := FD.binds (ps := ["_law_well", "_law_many"]) fun _ _ _ _ _ _ us hl => match us, hl with | [_, _], _ => rfl
  have bT := FT.binds (ps := ["_law_e"]) fun _ _ _ _ _ _ us hl => match us, hl with | [_], _ => rfl
  have bP := FP.binds (ps := ["_law_x"]) fun _ _ _ _ _ _ us hl => match us, hl with | [_], _ => rfl
  have bN := FN.binds (ps := ["_law_x"]) fun _ _ _ _ _ _ us hl => match us, hl with | [_], _ => rfl
  have bF := FF.binds (ps := ["_law_some"]) fun _ _ _ _ _ _ us hl => match us, hl with | [_], _ => rfl
  have bR := FR.binds (ps := ["_law_well"]) fun _ _ _ _ _ _ us hl => match us, hl with | [_], _ => rfl
  have bL : ∀ (s : Shared) (v : Value), BindsTo s fdL ⟨[v], []⟩ [("_law_script", v)] := fun s v => by
    obtain ⟨oc, od, kV, doc, pm, an, cdv, ct, osl, rfl, lk, hcd⟩ := FL.ex
    exact .of_eq rfl
  exact ⟨fdL, bL, fun base _ _ => okLaw FL mR (PySem.W.mg_none_of X G zenumerate) (PySem.W.mg_none_of X G zint) FR bR (okRight FR T I O FD bD FT bT FP bP FN bN FF bF)⟩
theorem walk {l : PySem.W.OpenLaw} {q : Program} {loose : List Str} {XP : (Str → Option Value) → Heap → Prop} {YP : World → Heap → Prop} {d : DefRec} {K : Params → PySem.W.Frag} (hn : l.most = some 63) (hdf : d.params.defaults = [])
    (hY : ∀ (w : World) (h : Heap), YP w h → (K w.params).In h)
    (F : ∀ (w : World) (mg : Str → Option Value) (fa : Addr) (h : Heap), (K w.params).In h → h.Ns mainGlobals mg → mg d.name = some (.ref fa) →
      ∃ fd : FuncData, (∀ (s : Shared) (u : Value), BindsTo s fd ⟨[u], []⟩ [("_law_script", u)]) ∧ ∀ base : Heap, (K w.params).In base → base.Ns mainGlobals mg → FnOk l.prog w (K w.params) mg base CX0 5 fa fd ["_law_script"] (spLaw (K w.params))) :
    PySem.W.WalkO q loose XP YP l.row.toRowW d [] (fun f vs => PySem.call f vs) :=
  L2.walk_of (n := 63) (k := 5) (x := "_law_script") (CX := fun _ => CX0) (sp := fun w => spLaw (K w.params)) hn (by decide) hdf ⟨rfl, by decide, by decide⟩ hY F (fun _ _ a ns hl _ hS => ⟨a, ns, rfl, hS, hl, fun _ => rfl⟩) fun _ _ _ _ _ z => z
end K20

open PySem PySem.W PyProof.Rows in
set_option maxRecDepth 100000 in
set_option maxHeartbeats 0 in
theorem PySem.Challenge.cw_oldclients_k20_exceptions_holds : PySem.Challenge.rw_oldclients_k20_exceptions.Holds := by
  w_on; o_law; k_head; (case hw => w_witness2)
  k_fill
  refine K20.walk (l := PySem.Challenge.rw_oldclients_k20_exceptions) rfl rfl (fun w h Y => PySem.W.kIn_of Y) ?F
  case F =>
    intro w mg fa h KX G hmg
    refine' K20.allMk KX G hmg ?o0 ?o1 ?o2 ?o3 ?o4 ?o5 ?o6 ?o7 ?o8 ?o9 ?o10 ?o11 ?o12 ?o13 ?o14 ?o15 ?o16 ?xo ?aO ?dD ?dT ?dP ?dN ?dF ?dR ?dL ?zisinstance ?zValueError ?zenumerate ?zrange ?zint
    (case o0 =>
      refine' K20.oneMk KX G ?a ?x ?sa ?kC ?ga ?gg ?cl ?i ?ti ?l ?c ?k (K20.noC ?n0 (K20.noC ?n1 (K20.no1 ?n2)))
      (case a => k_is)
      (case x => k_is)
      (case sa => k_is)
      (case kC => k_is)
      (case ga => k_is)
      (case gg => k_is)
      (case cl => k_is)
      (case i => k_is)
      (case ti => k_is)
      (case l => k_is)
      (case c => k_is)
      (case k => k_is)
      (case n0 => k_is)
      (case n1 => k_is)
      (case n2 => k_is))
    (case o1 =>
      refine' K20.oneMk KX G ?a ?x ?sa ?kC ?ga ?gg ?cl ?i ?ti ?l ?c ?k (K20.noC ?n0 (K20.noC ?n1 (K20.no1 ?n2)))
      (case a => k_is)
      (case x => k_is)
      (case sa => k_is)
      (case kC => k_is)
      (case ga => k_is)
      (case gg => k_is)
      (case cl => k_is)
      (case i => k_is)
      (case ti => k_is)
      (case l => k_is)
      (case c => k_is)
      (case k => k_is)
      (case n0 => k_is)
      (case n1 => k_is)
      (case n2 => k_is))
    (case o2 =>
      refine' K20.oneMk KX G ?a ?x ?sa ?kC ?ga ?gg ?cl ?i ?ti ?l ?c ?k (K20.noC ?n0 (K20.no1 ?n1))
      (case a => k_is)
      (case x => k_is)
      (case sa => k_is)
      (case kC => k_is)
      (case ga => k_is)
      (case gg => k_is)
      (case cl => k_is)
      (case i => k_is)
      (case ti => k_is)
      (case l => k_is)
      (case c => k_is)
      (case k => k_is)
      (case n0 => k_is)
      (case n1 => k_is))
    (case o3 =>
      refine' K20.oneMk KX G ?a ?x ?sa ?kC ?ga ?gg ?cl ?i ?ti ?l ?c ?k (K20.no1 ?n0)
      (case a => k_is)
      (case x => k_is)
      (case sa => k_is)
      (case kC => k_is)
      (case ga => k_is)
      (case gg => k_is)
      (case cl => k_is)
      (case i => k_is)
      (case ti => k_is)
      (case l => k_is)
      (case c => k_is)
      (case k => k_is)
      (case n0 => k_is))
    (case o4 =>
      refine' K20.oneMk KX G ?a ?x ?sa ?kC ?ga ?gg ?cl ?i ?ti ?l ?c ?k (K20.no1 ?n0)
      (case a => k_is)
      (case x => k_is)
      (case sa => k_is)
      (case kC => k_is)
      (case ga => k_is)
      (case gg => k_is)
      (case cl => k_is)
      (case i => k_is)
      (case ti => k_is)
      (case l => k_is)
      (case c => k_is)
      (case k => k_is)
      (case n0 => k_is))
    (case o5 =>
      refine' K20.oneMk KX G ?a ?x ?sa ?kC ?ga ?gg ?cl ?i ?ti ?l ?c ?k (K20.no1 ?n0)
      (case a => k_is)
      (case x => k_is)
      (case sa => k_is)
      (case kC => k_is)
      (case ga => k_is)
      (case gg => k_is)
      (case cl => k_is)
      (case i => k_is)
      (case ti => k_is)
      (case l => k_is)
      (case c => k_is)
      (case k => k_is)
      (case n0 => k_is))
    (case o6 =>
      refine' K20.oneMk KX G ?a ?x ?sa ?kC ?ga ?gg ?cl ?i ?ti ?l ?c ?k (K20.no1 ?n0)
      (case a => k_is)
      (case x => k_is)
      (case sa => k_is)
      (case kC => k_is)
      (case ga => k_is)
      (case gg => k_is)
      (case cl => k_is)
      (case i => k_is)
      (case ti => k_is)
      (case l => k_is)
      (case c => k_is)
      (case k => k_is)
      (case n0 => k_is))
    (case o7 =>
      refine' K20.oneMk KX G ?a ?x ?sa ?kC ?ga ?gg ?cl ?i ?ti ?l ?c ?k (K20.no1 ?n0)
      (case a => k_is)
      (case x => k_is)
      (case sa => k_is)
      (case kC => k_is)
      (case ga => k_is)
      (case gg => k_is)
      (case cl => k_is)
      (case i => k_is)
      (case ti => k_is)
      (case l => k_is)
      (case c => k_is)
      (case k => k_is)
      (case n0 => k_is))
    (case o8 =>
      refine' K20.oneMk KX G ?a ?x ?sa ?kC ?ga ?gg ?cl ?i ?ti ?l ?c ?k (K20.no1 ?n0)
      (case a => k_is)
      (case x => k_is)
      (case sa => k_is)
      (case kC => k_is)
      (case ga => k_is)
      (case gg => k_is)
      (case cl => k_is)
      (case i => k_is)
      (case ti => k_is)
      (case l => k_is)
      (case c => k_is)
      (case k => k_is)
      (case n0 => k_is))
    (case o9 =>
      refine' K20.oneMk KX G ?a ?x ?sa ?kC ?ga ?gg ?cl ?i ?ti ?l ?c ?k (K20.no1 ?n0)
      (case a => k_is)
      (case x => k_is)
      (case sa => k_is)
      (case kC => k_is)
      (case ga => k_is)
      (case gg => k_is)
      (case cl => k_is)
      (case i => k_is)
      (case ti => k_is)
      (case l => k_is)
      (case c => k_is)
      (case k => k_is)
      (case n0 => k_is))
    (case o10 =>
      refine' K20.oneMk KX G ?a ?x ?sa ?kC ?ga ?gg ?cl ?i ?ti ?l ?c ?k (K20.no1 ?n0)
      (case a => k_is)
      (case x => k_is)
      (case sa => k_is)
      (case kC => k_is)
      (case ga => k_is)
      (case gg => k_is)
      (case cl => k_is)
      (case i => k_is)
      (case ti => k_is)
      (case l => k_is)
      (case c => k_is)
      (case k => k_is)
      (case n0 => k_is))
    (case o11 =>
      refine' K20.oneMk KX G ?a ?x ?sa ?kC ?ga ?gg ?cl ?i ?ti ?l ?c ?k (K20.no1 ?n0)
      (case a => k_is)
      (case x => k_is)
      (case sa => k_is)
      (case kC => k_is)
      (case ga => k_is)
      (case gg => k_is)
      (case cl => k_is)
      (case i => k_is)
      (case ti => k_is)
      (case l => k_is)
      (case c => k_is)
      (case k => k_is)
      (case n0 => k_is))
    (case o12 =>
      refine' K20.oneMk KX G ?a ?x ?sa ?kC ?ga ?gg ?cl ?i ?ti ?l ?c ?k (K20.no1 ?n0)
      (case a => k_is)
      (case x => k_is)
      (case sa => k_is)
      (case kC => k_is)
      (case ga => k_is)
      (case gg => k_is)
      (case cl => k_is)
      (case i => k_is)
      (case ti => k_is)
      (case l => k_is)
      (case c => k_is)
      (case k => k_is)
      (case n0 => k_is))
    (case o13 =>
      refine' K20.oneMk KX G ?a ?x ?sa ?kC ?ga ?gg ?cl ?i ?ti ?l ?c ?k (K20.no1 ?n0)
      (case a => k_is)
      (case x => k_is)
      (case sa => k_is)
      (case kC => k_is)
      (case ga => k_is)
      (case gg => k_is)
      (case cl => k_is)
      (case i => k_is)
      (case ti => k_is)
      (case l => k_is)
      (case c => k_is)
      (case k => k_is)
      (case n0 => k_is))
    (case o14 =>
      refine' K20.oneMk KX G ?a ?x ?sa ?kC ?ga ?gg ?cl ?i ?ti ?l ?c ?k (K20.no1 ?n0)
      (case a => k_is)
      (case x => k_is)
      (case sa => k_is)
      (case kC => k_is)
      (case ga => k_is)
      (case gg => k_is)
      (case cl => k_is)
      (case i => k_is)
      (case ti => k_is)
      (case l => k_is)
      (case c => k_is)
      (case k => k_is)
      (case n0 => k_is))
    (case o15 =>
      refine' K20.oneMk KX G ?a ?x ?sa ?kC ?ga ?gg ?cl ?i ?ti ?l ?c ?k (K20.no1 ?n0)
      (case a => k_is)
      (case x => k_is)
      (case sa => k_is)
      (case kC => k_is)
      (case ga => k_is)
      (case gg => k_is)
      (case cl => k_is)
      (case i => k_is)
      (case ti => k_is)
      (case l => k_is)
      (case c => k_is)
      (case k => k_is)
      (case n0 => k_is))
    (case o16 =>
      refine' K20.oneMk KX G ?a ?x ?sa ?kC ?ga ?gg ?cl ?i ?ti ?l ?c ?k (K20.no1 ?n0)
      (case a => k_is)
      (case x => k_is)
      (case sa => k_is)
      (case kC => k_is)
      (case ga => k_is)
      (case gg => k_is)
      (case cl => k_is)
      (case i => k_is)
      (case ti => k_is)
      (case l => k_is)
      (case c => k_is)
      (case k => k_is)
      (case n0 => k_is))
    (case xo => exact ⟨_, _, _, _, _, _, _, _, _, _, _, _, _, by k_is⟩)
    (case aO => k_is)
    (case dD =>
      refine' K20.defMk KX G ?a ?l ?c ?k
      (case a => k_is)
      (case l => k_is)
      (case c => k_is)
      (case k => k_is))
    (case dT =>
      refine' K20.defMk KX G ?a ?l ?c ?k
      (case a => k_is)
      (case l => k_is)
      (case c => k_is)
      (case k => k_is))
    (case dP =>
      refine' K20.defMk KX G ?a ?l ?c ?k
      (case a => k_is)
      (case l => k_is)
      (case c => k_is)
      (case k => k_is))
    (case dN =>
      refine' K20.defMk KX G ?a ?l ?c ?k
      (case a => k_is)
      (case l => k_is)
      (case c => k_is)
      (case k => k_is))
    (case dF =>
      refine' K20.defMk KX G ?a ?l ?c ?k
      (case a => k_is)
      (case l => k_is)
      (case c => k_is)
      (case k => k_is))
    (case dR =>
      refine' K20.defMk KX G ?a ?l ?c ?k
      (case a => k_is)
      (case l => k_is)
      (case c => k_is)
      (case k => k_is))
    (case dL =>
      refine' K20.defMk KX G ?a ?l ?c ?k
      (case a => k_is)
      (case l => k_is)
      (case c => k_is)
      (case k => k_is))
    (case zisinstance => k_is)
    (case zValueError => k_is)
    (case zenumerate => k_is)
    (case zrange => k_is)
    (case zint => k_is)
#print axioms PySem.Challenge.cw_oldclients_k20_exceptions_holds
