import PyProof.Rows.All
import Wide.All
import OpenK.AllK
import Wide.FinOn
import HandS.ForMost
import HandS.ExcInit
import HandS.Defaults
import HandS.MakeKwOnly
import HandS.ExcIs
import HandS.IsInst
import HandS.ExcValue
import HandS.Wide
import KE.KEqSeq
import HandS.Comp
import HandS.AnyAll
import HandS.WordsExc
import HandS.DictComp
import PySem.Challenge.RW_allstreams_k00_errors_made_by_hand
set_option Elab.async false
set_option linter.all false
set_option maxRecDepth 100000
set_option maxHeartbeats 4000000
namespace PySem
namespace ExV
open PySem.W PySem.Calls PyProof.Rows PySem.HandSPX
open Builtin Builtin.ObjectAttr
section
variable {M : Model} {A : Around} {E : Value → Shared → Prop} {h : Heap} {g : Array GenState} {d : Drawn} {t : Nat} {os : OsState}
variable {nm q : Str} {C N : Addr} {bs bm bmB : List Value} {hdct : Bool} {sn : List Str} {sub : List Value} {ab : Bool} {col : Option Bool} {dd : Option Addr} {k0 k1 k2 k3 k5 : Option Value} {B newId initId : String}

theorem check_new_kw (F : ExcBaseFacts B newId initId bmB) (hT : ∀ X : String, bm.contains (.type X) = bmB.contains (.type X)) {rest : List Value} {kw : List (Str × Value)} {Q : Unit → Shared → Prop}
    (hC : h.get? C = some (excClassObj nm q C N bs bm hdct sn sub ab col dd k0 k1 k2 k3 k5 newId)) (hq : Q () ⟨h, g, d, t, os⟩) : wpAny M A (checkBuiltinCall newId ⟨.ref C :: rest, kw⟩) Q E ⟨h, g, d, t, os⟩ := by
  have hcont : (Value.ref C :: bm).contains (.type B) = true := by rw [List.contains_cons, hT, F.hasB, Bool.or_true]
  have hstar := F.noStar
  simp only [checkBuiltinCall, F.newKind, F.newSplit, F.newRow]
  repeat (first | refine wpAny_loadPart_at hC ?_ | (refine wpAny_isSubtype_exc hC ?_; rw [hcont]) | refine wpAny_staticBase_exc hC ?_ | refine wpAny_madeBy_exc hC ?_ | simp only [bne_self_eq_false, Bool.false_eq_true, if_false] | wp_step)
  exact hq
end
section
variable {prog : Program} {w : World} {A : Around} {E : Value → Shared → Prop} {R : Result → Shared → Prop} {h : Heap} {g : Array GenState} {d : Drawn} {t : Nat} {os : OsState}
variable {nm q : Str} {C N : Addr} {bs bm bmB : List Value} {hdct : Bool} {sn : List Str} {sub : List Value} {ab : Bool} {col : Option Bool} {dd : Option Addr} {k0 k1 k2 k3 k5 : Option Value} {B newId initId : String}

theorem new_kw (F : ExcBaseFacts B newId initId bmB) (hT : ∀ X : String, bm.contains (.type X) = bmB.contains (.type X)) {rest : List Value} {kw : List (Str × Value)}
    (hC : h.get? C = some (excClassObj nm q C N bs bm hdct sn sub ab col dd k0 k1 k2 k3 k5 newId))
    (hq : R (.ok (.ret (.ref (h.objs.size + 1)))) ⟨(h.push { cls := .type "tuple", data := .seq rest.toArray }).push
      { cls := .ref C, data := .fields #[.ref h.objs.size, .none, .none, .none, .bool false, .none] }, g, d, t, os⟩) (hrest : rest.length ≤ sizeLine) :
    codeAny (model prog w) A (.builtin newId ⟨.ref C :: rest, kw⟩) R ⟨h, g, d, t, os⟩ := by
  have hends := F.ends
  have hcB : (Value.ref C :: bm).contains (.type B) = true := by rw [List.contains_cons, hT, F.hasB, Bool.or_true]
  have hcA : (Value.ref C :: bm).contains (.type "AttributeError") = false := by rw [List.contains_cons, hT, F.noAttr]; rfl
  have hcN : (Value.ref C :: bm).contains (.type "NameError") = false := by rw [List.contains_cons, hT, F.noName]; rfl
  refine codeAny_builtinAt F.entry ?_
  unfold Builtin.«BaseException.__new__»
  refine wpAt_bind ?_
  show wpAt _ _ _ (stack >>= _) _ _ _
  refine wpAt_bind (wpAt_stack fun p below => wpAt_of_wpAny ?_)
  wp_walk
  refine wpAt_of_wpAny ?_
  rw [F.owner]
  repeat (first | with_reducible refine wpAny_madeHere_exc F.canon hC ?_ | with_reducible refine wpAny_loadPart_at hC ?_ | (with_reducible refine wpAny_isSubtype_exc hC ?_; first | rw [hcB] | rw [hcA] | rw [hcN]) | wp_step)
  show R _ _
  rw [Heap.size_push]
  exact hq

theorem type_call_kw (F : ExcBaseFacts B newId initId bmB) (hT : ∀ X : String, bm.contains (.type X) = bmB.contains (.type X)) {rest : List Value} {kw : List (Str × Value)} {fI : Addr} {Q : Fin → Shared → Prop}
    (hC : h.get? C = some (excClassObj nm q C N bs bm hdct sn sub ab col dd k0 k1 k2 k3 k5 newId))
    (hi : W.Looks (model prog w) h (typeLookup (.ref C) "__init__") (some (.ref fI))) (hb : ∀ self, W.Looks (model prog w) h (bindSpecial (.ref fI) self) (.ref fI, [self])) (hrest : rest.length ≤ sizeLine)
    (hq : codeAny (model prog w) A (.call (.ref fI) ⟨.ref (h.objs.size + 1) :: rest, kw⟩)
      (fun r s' => match r with | .ok (.ret v) => v = .none ∧ Q (.done (.ret (.ref (h.objs.size + 1)))) s' | .ok _ => False | .error e => E e s')
      ⟨(h.push (W.kdv_tup rest)).push (excO C h.objs.size), g, d, t, os⟩) :
    wpAny (model prog w) A (Builtin.«type.__call__» ⟨.ref C :: rest, kw⟩) Q E ⟨h, g, d, t, os⟩ := by
  repeat (first | with_reducible refine wpAny_loadPart_at hC ?_ | with_reducible refine wpAny_madeBy_exc hC ?_ | wp_step)
  refine codeAny_call_builtin_code (Code.quiet_builtin _ F.quiet) (check_new_kw F hT hC ?_)
  refine new_kw F hT hC ?_ hrest
  show wpAny _ _ _ _ _ _
  have k : ∀ b o, h.get? b = some o → ((h.push (W.kdv_tup rest)).push (excO C h.objs.size)).get? b = some o := fun b o e => Heap.get?_push_of_some _ (Heap.get?_push_of_some _ e)
  have hC₁ := k _ _ hC
  have hget : ((h.push (W.kdv_tup rest)).push (excO C h.objs.size)).get? (h.objs.size + 1) = some (excO C h.objs.size) := by heap_get
  have hcC : (Value.ref C :: bm).contains (.ref C) = true := by simp
  have i1 := hi.keeps k
  have b1 := (hb (.ref (h.objs.size + 1))).keeps k
  unfold isInstance
  repeat (first | with_reducible refine wpAny_loadPart_at hget ?_ | (with_reducible refine wpAny_isSubtype_exc hC₁ ?_; rw [hcC]) | wp_step)
  show wpAny _ _ (typeLookup (.ref C) _) _ _ _
  refine i1.at ?_
  refine wpAny_holding (wpAny_bind (b1.at ?_))
  refine wpAny_bind (wpAny_call (codeAny_mono hq fun r s' z => ?_))
  rcases r with e | (v | _ | _ | _) <;> first | exact z | exact z.elim | skip
  obtain ⟨rfl, z⟩ := z
  first
    | exact wpAny_pure (wpAny_pure z)
    | (wp_walk; exact z)

theorem call_kw (F : ExcBaseFacts B newId initId bmB) (hT : ∀ X : String, bm.contains (.type X) = bmB.contains (.type X)) {rest : List Value} {kw : List (Str × Value)} {fI : Addr}
    (hC : h.get? C = some (excClassObj nm q C N bs bm hdct sn sub ab col dd k0 k1 k2 k3 k5 newId))
    (hi : W.Looks (model prog w) h (typeLookup (.ref C) "__init__") (some (.ref fI))) (hb : ∀ self, W.Looks (model prog w) h (bindSpecial (.ref fI) self) (.ref fI, [self])) (hrest : rest.length ≤ sizeLine)
    (hq : codeAny (model prog w) (A.under (.builtin "type.__call__" ⟨.ref C :: rest, kw⟩)) (.call (.ref fI) ⟨.ref (h.objs.size + 1) :: rest, kw⟩) (W.InitBack (h.objs.size + 1) R)
      ⟨(h.push (W.kdv_tup rest)).push (excO C h.objs.size), g, d, t, os⟩) :
    codeAny (model prog w) A (.call (.ref C) ⟨rest, kw⟩) R ⟨h, g, d, t, os⟩ := by
  have f1 := tc_lookup
  have f2 := tc_bind (.ref C)
  have hTy : (⟨h, g, d, t, os⟩ : Shared).TypeIs (.ref C) "type" := ⟨_, hC, rfl⟩
  refine codeAny_of_tree ?_
  show wpAny _ _ (callAny (.ref C) _) _ _ _
  repeat (any_goals (first | assumption | with_reducible refine wpAny_loadPart_at hC ?_ | wp_step))
  refine ⟨rfl, ?_⟩
  refine codeAny_call_builtin_at (Code.quiet_builtin _ (by decide +kernel)) entry_typeCall (wpAny_check_type_call_sub hC (type_call_kw F hT hC hi hb hrest ?_))
  refine codeAny_mono hq fun r s' z => ?_
  rcases r with e | (v | _ | _ | _) <;> exact z
end
end ExV
end PySem

namespace L2
open PySem PySem.Spec PyProof.Rows
/-- a call of the exception class at C with n values and the keywords ks; its own __init__ keeps sp; the new object is tracked -/
def tMkV (C : Addr) (n m : Nat) (sp : Sp) (gV : List V → List V → List V) (t tk : TA) : TE := fun σ H Q => t σ H fun vs H1 => tk σ H1 fun zs H2 => vs.length = n ∧ zs.length = m ∧
  ∀ a, H2 a = none → sp (gV (.ref a :: vs) zs) (upd H2 a (exo a C none)) (fun v H3 => v = .non ∧ Q (.ref a) H3) (fun _ _ _ => False)
/-- what is known of the class at C, of its __init__ at fI -/
structure OwnX (K : PySem.W.Frag) (C fI : Addr) : Prop where
  T : OexC K C
  iC : PySem.W.findIn K (.ref C) "__init__" = some (some (.ref fI))
  tI : PySem.W.typeIn K (.ref fI) = some (.type "function")
section
variable {X : Cx} {CX : CXT} {k n : Nat} {fI C : Addr} {fd : FuncData} {ps ks : List Str} {sp : Sp} {x : Str} {p pos : Pos} {e : Expr} {es : List Expr} {kws : List Keyword} {t tk : TA} {g : List Value → List Value → List Value} {gV : List V → List V → List V}
theorem run_mkv {pins : List (Addr × Obj)} {σ : St} {H : Hp} {s : Shared} {Q : VK} {us ws : List Value} {vs zs : List V} (O : OwnX X.K C fI)
    (F1 : FnOk X.prog X.w X.K X.mg X.base CX k fI fd ps sp) (hr : Room (k + 1) X.A) (hb : KBn X.K fd ps (n + 1) ks g gV) (hx : Passes CX X (fun _ _ _ => False)) (hn : n ≤ 1000)
    (I : Inv X pins σ H s) (r : Vals vs us) (rz : Vals zs ws) (l1 : vs.length = n) (l2 : zs.length = ks.length)
    (h : ∀ a, H a = none → sp (gV (.ref a :: vs) zs) (upd H a (exo a C none)) (fun v H3 => v = .non ∧ Q (.ref a) H3) (fun _ _ _ => False)) :
    wpAny (model X.prog X.w) X.A (call (.ref C) us (ks.zip ws)) (EP X pins σ Q) X.xe s := by
  obtain ⟨cn, cq, cN, cbs, cbm, csn, csub, cab, ccol, cdd, z0, z1, z2, z3, z5, isC, isR⟩ := O.T.cls
  obtain ⟨H0, gg, dr, tt, oo⟩ := s
  let a : Addr := H0.objs.size + 1
  let H9 : Heap := (H0.push (PySem.W.kdv_tup us)).push (PySem.HandSPX.excO C H0.objs.size)
  have up : ∀ b o, H0.get? b = some o → H9.get? b = some o := fun b o q => Heap.get?_push_of_some _ (Heap.get?_push_of_some _ q)
  have at9 : H9.get? a = some (PySem.HandSPX.excO C H0.objs.size) := by
    show ((H0.push (PySem.W.kdv_tup us)).push (PySem.HandSPX.excO C H0.objs.size)).get? (H0.objs.size + 1) = _
    heap_get
  have free : H a = none := I.hok.fresh (show H0.objs.size ≤ a from Nat.le_succ _)
  have J : Inv X pins σ (upd H a (exo a C none)) ⟨H9, gg, dr, tt, oo⟩ := I.laid (t' := tt) (a := a) (o := exo a C none) (h' := H9) up (Nat.le_succ _) (exo_ok at9)
  have rel := hb.rel (vs := V.ref a :: vs) (us := Value.ref a :: us) (.cons rfl r) rz
  have lu : us.length = n := r.length.symm.trans l1
  have small : us.length ≤ sizeLine := by rw [lu, sizeLine_eq]; omega
  have bnd := hb.to (⟨H9, gg, dr, tt, oo⟩ : Shared) (Value.ref a :: us) ws J.kIn (by rw [List.length_cons, lu]) (rz.length.symm.trans l2)
  refine wpAny_call (PySem.ExV.call_kw F.excBase_ValueError (fun Y => PySem.HandSPX.refsVE_contains Y cbm isR) (I.kIn _ _ isC) (PySem.W.looks_findIn I.kIn O.iC) (fun self => PySem.W.bind_fn I.kIn self O.tI) small
    (codeAny_mono (F1.run _ X.stack ⟨H9, gg, dr, tt, oo⟩ _ ⟨Value.ref a :: us, ks.zip ws⟩ _ _ _ (fun _ _ _ => False) (hr.make C us (ks.zip ws)) (J.env0.make C us (ks.zip ws)) bnd rel (h a free)) fun res s9 got => ?_))
  cases res with
  | error er => exact hx pins σ _ _ er s9 J got
  | ok fl =>
    cases fl with
    | ret u =>
      obtain ⟨v, H', I3, rv, ev, q3⟩ := J.after got
      subst ev
      exact ⟨rv, ⟨V.ref a, H', I3, rfl, q3⟩⟩
    | next => exact got.elim
    | brk => exact got.elim
    | cont => exact got.elim
/-- C(e, .., k = v, ..) -/
theorem pe_mkv (O : OwnX X.K C fI) (F1 : FnOk X.prog X.w X.K X.mg X.base CX k fI fd ps sp) (hr : Room (k + 1) X.A) (hb : KBn X.K fd ps (n + 1) ks g gV) (hx : Passes CX X (fun _ _ _ => False)) (hn : n ≤ 1000)
    (hg : Gl X x) (hm : X.mg x = some (.ref C)) (ha : PA X (e :: es) t) (hkw : PK X kws tk)
    (hall : (backToKw pos (keywordEach kws X.env)).all (·.1.isSome) = true := by rfl) (hks : (backToKw pos (keywordEach kws X.env)).filterMap (·.1) = ks := by rfl) (hdb : (x == ("__debug__" : Str)) = false := by decide)
    (he : starEach (e :: es) X.env = (false, eval e X.env) :: starEach es X.env := by rfl) (hpl : ((backTo pos (starEach (e :: es) X.env)).any (·.1) || (backToKw pos (keywordEach kws X.env)).any (·.1.isNone)) = false := by rfl) :
    PE X (.Call (.Name x p) (e :: es) kws pos) (tMkV C n ks.length sp gV t tk) := by
  refine ⟨fun pins s σ H Q I h => wpAny_Call_Name_kw (ld_glob I hg hm ?_ hdb)⟩
  refine PySem.W.callWith_KW (h₀ := X.base) I.ok.mod.kin O.T.kC hall (thn (ha.run pos pins s σ H _ I h) fun us s1 ⟨vs, H1, I1, r, q⟩ => thn (hkw.run pos pins s1 σ H1 _ I1 q) fun ws s2 ⟨zs, H2, I2, rz, l1, l2, q2⟩ => ⟨I2.kIn, ?_⟩) hpl he
  rw [hks]
  exact run_mkv O F1 hr hb hx hn I2 r rz l1 l2 q2
/-- C(k = v, ..) -/
theorem pe_mkv0 (O : OwnX X.K C fI) (F1 : FnOk X.prog X.w X.K X.mg X.base CX k fI fd ps sp) (hr : Room (k + 1) X.A) (hb : KBn X.K fd ps 1 ks g gV) (hx : Passes CX X (fun _ _ _ => False))
    (hg : Gl X x) (hm : X.mg x = some (.ref C)) (hkw : PK X kws tk)
    (hall : (backToKw pos (keywordEach kws X.env)).all (·.1.isSome) = true := by rfl) (hks : (backToKw pos (keywordEach kws X.env)).filterMap (·.1) = ks := by rfl) (hdb : (x == ("__debug__" : Str)) = false := by decide)
    (hpl : ((backTo pos (starEach [] X.env)).any (·.1) || (backToKw pos (keywordEach kws X.env)).any (·.1.isNone)) = false := by rfl) :
    PE X (.Call (.Name x p) [] kws pos) (tMkV C 0 ks.length sp gV tNil tk) := by
  refine ⟨fun pins s σ H Q I h => wpAny_Call_Name_kw (ld_glob I hg hm ?_ hdb)⟩
  refine PySem.W.callWith_KW0 (h₀ := X.base) I.ok.mod.kin O.T.kC hall ?_ hpl
  refine thn (hkw.run pos pins s σ H _ I h) fun ws s2 ⟨zs, H2, I2, rz, l1, l2, q2⟩ => ⟨I2.kIn, ?_⟩
  rw [hks]
  exact run_mkv (us := []) (vs := []) O F1 hr hb hx (Nat.zero_le _) I2 .nil rz rfl l2 q2
end
end L2

namespace PySem
namespace ExV
open PySem.W PyProof.Rows
section
variable {prog : Program} {w : World} {A : Around} {E : Value → Shared → Prop} {s : Shared} {K : Frag} {x D : Addr} {ox : Obj} {od : Option Obj}
/-- a data descriptor is found ahead of what the own dict holds -/
theorem found_first {C : Addr} {name : Str} {a g : Value} (hc : (clsIn K C).isSome = true) (ha : findIn K (.ref C) name = some (some a)) (hg : specialIn K a "__get__" = some (some g)) (ht : takesIn K a = some true) :
    findObj K C od name = some (.bind g a) := by
  cases q : clsIn K C with
  | none => rw [q] at hc; cases hc
  | some cd =>
    unfold findObj
    rw [q, Option.bind_some, ha, Option.bind_some]
    simp [hg, ht]
/-- what the class must say -/
structure ClsX (K : Frag) (D : Addr) : Prop where
  ga : findIn K (.ref D) "__getattribute__" = some (some (.builtin "BaseException.__getattribute__"))
  gt : findIn K (.ref D) "__getattr__" = some none
  su : subIn K (.ref D) (.type "BaseException") = some true
  di : hasDictIn K D = true
  cl : findIn K (.ref D) "__class__" = some (some (.builtin "object.__class__"))
  sp : specialIn K (.builtin "object.__class__") "__get__" = some (some (.builtin "getset_descriptor.__get__"))
  tk : takesIn K (.builtin "object.__class__") = some true
  mr : mroIn K D (.type "object") = some true
theorem class_of {Q : Option Value → Shared → Prop} (Z : ClsX K D) (X : K.In s.heap) (I : InstAt s.heap x ox D od) (h : Q (some (.ref D)) { s with toks := s.toks + 1 }) : wpAny (model prog w) A (getAttr? (.ref x) "__class__") Q E s := by
  have hf : findObj K D od "__class__" = some (.bind (.builtin "getset_descriptor.__get__") (.builtin "object.__class__")) :=
    found_first (by obtain ⟨c9, e9, _⟩ := any_some Z.di; rw [e9]; rfl) Z.cl Z.sp Z.tk
  obtain ⟨h9, g9, d9, t9, o9⟩ := s
  have a0 := I.type (M := model prog w)
  have a1 := looks_findIn (M := model prog w) X Z.ga
  have a2 := looks_findIn (M := model prog w) X Z.gt
  have a3 := looks_find (M := model prog w) X I hf
  have isB : Looks (model prog w) h9 (isInstance (.ref x) (.type "BaseException")) true := a0.andThen (looks_subIn X Z.su)
  have n0 : (false && onTheHeap (Value.builtin "BaseException.__getattribute__")) = false := rfl
  have n1 : (onTheHeap (Value.ref D) && Value.builtin "BaseException.__getattribute__" == Value.builtin "object.__getattribute__") = false := by
    rw [show (Value.builtin "BaseException.__getattribute__" == Value.builtin "object.__getattribute__") = false from by decide +kernel]; rfl
  unfold getAttr? getAttrBy? getAttrBy
  refine wpAny_bind (wpAny_mkText (wpAny_bind (wpAny_attempt (wpAny_holding (wpAny_bind (a0.at (wpAny_bind (a1.at ?_))))))))
  show wpAny _ _ (if (onTheHeap (Value.ref D) && Value.builtin "BaseException.__getattribute__" == Value.builtin "object.__getattribute__") = true then _ else _) _ _ _
  rw [n1, if_neg Bool.false_ne_true]
  unfold getAttrByItsOwn hookBefore
  refine wpAny_bind ?_
  rw [if_pos (show onTheHeap (Value.ref D) = true from rfl)]
  refine a2.at (wpAny_bind (wpAny_attempt (wpAny_holding ?_)))
  unfold callGetattribute
  rw [n0, if_neg Bool.false_ne_true]
  unfold boundAndCalled
  rw [PySem.F.excAttr_ValueError.ga.bind (.ref x)]
  refine wpAny_bind (wpAny_pure ?_)
  show wpAny _ _ (call (.builtin "BaseException.__getattribute__") [.ref x, .str "__class__" t9]) _ _ _
  refine wpAny_call (codeAny_call_builtin PySem.F.excAttr_ValueError.ga.plain PySem.F.entry_bexc_ga ?_)
  refine @check_slot (model prog w) _ _ ⟨h9, g9, d9, t9 + 1, o9⟩ "BaseException.__getattribute__" "BaseException" "__getattribute__" (.ref x) [.str "__class__" t9] [] _ (by decide +kernel) (by decide +kernel) isB (PySem.F.args_bexc_ga (.ref x) (.str "__class__" t9)) ?_
  unfold Builtin.«object.__getattribute__»
  refine wpAny_bind (wpAny_of_eq (a := ((Value.ref x : Value), [Value.str "__class__" t9])) (by first | rfl | (simp only [slotArgs]; rfl)) ?_)
  refine wpAny_bind (wpAny_pure (wpAny_bind (a0.at (wpAny_bind (a3.at ?_)))))
  show wpAny _ _ (holding [Value.builtin "object.__class__"] (call (.builtin "getset_descriptor.__get__") [.builtin "object.__class__", .ref x, .ref D]) >>= ret) _ _ _
  refine wpAny_bind (wpAny_holding (wpAny_call (class_get (s := ⟨h9, g9, d9, t9 + 1, o9⟩) (ox := ox) (od := od) X I Z.mr (wpAny_pure ?_))))
  show wpAny _ _ (handedOut (.ref D)) _ _ _
  rw [handedOut_of (v := .ref D) rfl]
  first
    | exact wpAny_pure (wpAny_pure h)
    | exact wpAny_pure h
    | exact wpAny_pure (wpAny_bind (wpAny_pure (wpAny_pure h)))
theorem kit_of_exc (Z : ClsX K D) : KitX K (.ref x) (.ref D) (fun h => ∃ od : Option Obj, ∃ ox, InstAt h x ox D od) where
  ty := fun _ _ _ ⟨_, _, I⟩ => I.type
  it := fun _ _ X _ => by
    obtain ⟨c9, e9, _⟩ := any_some Z.di
    unfold clsIn at e9
    split at e9
    · rename_i u1 u2 u3 u4 at9
      intro A' Q' E' s' k q
      unfold isType loadHead
      exact wpAny_bind (wpAny_loadPart (k _ _ (X _ _ at9)) (wpAny_pure q))
    · cases e9
  ne := fun h tp dd its n sl X htp => by
    obtain ⟨c9, e9, _⟩ := any_some Z.di
    refine Bool.eq_false_iff.mpr fun q => ?_
    obtain rfl : D = tp := Value.ref.inj (beq_iff_eq.mp q)
    unfold clsIn at e9
    split at e9
    · rename_i u1 u2 u3 u4 at9
      have z := (X _ _ at9).symm.trans htp
      cases z
    · cases e9
  ca := fun X ⟨_, _, I⟩ k => class_of Z X I k
end
end ExV
end PySem
namespace L2
open PySem PySem.Spec PyProof.Rows
/-- an exception of the class at C that is tracked at a: with its dict, without one, or one without an own __init__ -/
def XAt (H : Hp) (a C : Addr) : Prop := (∃ dx fs, H a = some (exo a C (some dx)) ∧ H dx = some (exd dx fs)) ∨ H a = some (ExO (.ref C) a)
theorem xat_inst {P : Program} {w : World} {H : Hp} {h : Heap} {a C : Addr} (ok : HOk P w H h) (e : XAt H a C) : ∃ od : Option Obj, ∃ ox, PySem.W.InstAt h a ox C od := by
  rcases e with ⟨dx, fs, ea, ed⟩ | ea
  · obtain ⟨t1, q⟩ := exo_at ok ea
    obtain ⟨mA, ⟨o, es, ep, ho, hr⟩, r⟩ := exd_at ok ed
    exact ⟨some o, _, q, rfl, rfl, ho⟩
  · obtain ⟨⟨oe, vs, ho, ⟨z1, z2⟩, hd, _⟩, _⟩ := (show ObjOk P w H h a (.ext _) from ok a _ ea)
    refine ⟨none, oe, ho, z1, ?_, ?_⟩
    · unfold PySem.W.notCls; rw [hd]
    · rw [z2]; trivial
/-- isinstance(e, c): e such an exception -/
def rIsX (K : PySem.W.Frag) : List V → Hp → VK → Prop := fun xs H Q => ∃ (a C : Addr) (c : V) (u : Value) (b : Bool), xs = [.ref a, c] ∧ ClsV c u ∧ XAt H a C ∧ PySem.ExV.ClsX K C ∧ PySem.W.kitOne K (.ref C) u = some b ∧ Q (.bl b) H
theorem call_isX {X : Cx} : CallR X (.builtin "isinstance") (rIsX X.K) := by
  intro pins s σ H xs us Q I r h
  obtain ⟨a, C, c, u, b, rfl, k, at_, Z, e, q⟩ := h
  obtain ⟨u1, u2, rfl, r1, r2⟩ := vals2 r
  obtain rfl := k.eq r2
  cases (show u1 = Value.ref a from r1)
  exact PySem.W.kia_one (PySem.ExV.kit_of_exc Z) I.kIn (xat_inst I.hok at_) e (fun z => nomatch z) fun tk => ⟨.bl b, H, I.tok tk, rfl, q⟩
/-- e.f, e an exception that is tracked with its dict -/
def tXat (K : PySem.W.Frag) (f : Str) (te : TE) : TE := fun σ H Q => te σ H fun x H1 => ∃ (a C dx : Addr) (fs : List (Str × V)) (v : V), x = .ref a ∧ PySem.ExV.ClsX K C ∧ PySem.W.findIn K (.ref C) f = some none ∧
  H1 a = some (exo a C (some dx)) ∧ H1 dx = some (exd dx fs) ∧ fs.lookup f = some v ∧ Q v H1
theorem pe_xat {X : Cx} {e : Expr} {te : TE} {f : Str} {pos : Pos} (he : PE X e te) (hb : attributeBase e f X.env (eval e X.env) = eval e X.env := by rfl) : PE X (.Attribute e f pos) (tXat X.K f te) := by
  refine ⟨fun pins s σ H Q I h => attr_of hb (thn (he.run pins s σ H _ I h) fun u s1 ⟨x, H1, I1, rx, q⟩ => ?_)⟩
  obtain ⟨a, C, dx, fs, v, rfl, Z, no, ea, ed, el, q⟩ := q
  cases (show u = Value.ref a from rx)
  obtain ⟨t1, at_⟩ := exo_at I1.hok ea
  obtain ⟨mA, hns, hr⟩ := exd_at I1.hok ed
  obtain ⟨od, ho, hl⟩ := lookIn_ns hns
  obtain ⟨u, hu, ru⟩ := RelO.some_of (v := v) (o := mA f) (by rw [← el]; exact hr f)
  have J : PySem.W.InstAt s1.heap a _ C (some od) := ⟨at_, rfl, rfl, ho⟩
  exact PySem.HandSPX.exc_get I1.kIn J Z.ga Z.gt Z.su (PySem.W.findObj_own Z.di no rfl (by rw [hl, hu])) (handed_of ru) ⟨v, H1, I1.tok _, ru, q⟩
end L2

namespace L2
open PySem PySem.Spec PyProof.Rows
theorem Same.new {H H' : Hp} {p : Addr} {o : HO} (a : Same H H') (hp : H' p = none) : Same H (upd H' p o) := fun x u e => by
  rw [upd_ne (ne_of_none (a x u e) hp)]
  exact a x u e
/-- what an __init__ that stores its one value keeps -/
def spI1 (C : Addr) (f : Str) : Sp := fun vs H Q _ => ∃ (a : Addr) (v : V), vs = [.ref a, v] ∧ H a = some (exo a C none) ∧ ∀ dx, H dx = none → dx ≠ a → Q .non (upd (upd H dx (exd dx [(f, v)])) a (exo a C (some dx)))
/-- .. its two values -/
def spI2 (C : Addr) (f g : Str) : Sp := fun vs H Q _ => ∃ (a : Addr) (v u : V), vs = [.ref a, v, u] ∧ H a = some (exo a C none) ∧
  ∀ dx, H dx = none → dx ≠ a → Q .non (upd (upd (upd H dx (exd dx [(f, v)])) a (exo a C (some dx))) dx (exd dx [(g, u), (f, v)]))
/-- an error class with one field -/
structure One (P : Program) (w : World) (K : PySem.W.Frag) (mg : Str → Option Value) (base : Heap) (C : Addr) (cls f : Str) : Prop where
  ex : ∃ (fI : Addr) (fd : FuncData), OwnX K C fI ∧ FnOk P w K mg base CX0 1 fI fd ["self", f] (spI1 C f) ∧ KBn K fd ["self", f] 2 [] (fun us _ => us) (fun vs _ => vs) ∧
    KBn K fd ["self", f] 1 [f] (fun us ws => us ++ ws) (fun vs zs => vs ++ zs)
  g : mg cls = some (.ref C)
  Z : PySem.ExV.ClsX K C
  no : PySem.W.findIn K (.ref C) f = some none
/-- .. two fields -/
structure Two (P : Program) (w : World) (K : PySem.W.Frag) (mg : Str → Option Value) (base : Heap) (C : Addr) (cls f h : Str) : Prop where
  ex : ∃ (fI : Addr) (fd : FuncData), OwnX K C fI ∧ FnOk P w K mg base CX0 1 fI fd ["self", f, h] (spI2 C f h) ∧ KBn K fd ["self", f, h] 3 [] (fun us _ => us) (fun vs _ => vs) ∧
    KBn K fd ["self", f, h] 2 [h] (fun us ws => us ++ ws) (fun vs zs => vs ++ zs) ∧
    KBn K fd ["self", f, h] 1 [h, f] (fun us ws => us ++ ws.reverse) (fun vs zs => vs ++ zs.reverse)
  g : mg cls = some (.ref C)
  Z : PySem.ExV.ClsX K C
  no : PySem.W.findIn K (.ref C) f = some none
  no2 : PySem.W.findIn K (.ref C) h = some none
/-- .. none -/
structure Bare (K : PySem.W.Frag) (mg : Str → Option Value) (C : Addr) (cls : Str) : Prop where
  q : PySem.W.excIn K C [.type "ValueError", .type "Exception", .type "BaseException", .type "object"] "ValueError.__new__" = true
  kC : PySem.W.keepIn K (.ref C) = true
  g : mg cls = some (.ref C)
  Z : PySem.ExV.ClsX K C
/-- a new error with the fields fs -/
def NewX (C : Addr) (fs : List (Str × V)) (H : Hp) (Q : VK) : Prop := ∀ (a dx : Addr) (H' : Hp), H a = none → H dx = none → Same H H' → H' a = some (exo a C (some dx)) → H' dx = some (exd dx fs) → Q (.ref a) H'
theorem NewX.one {C : Addr} {f : Str} {v : V} {H : Hp} {Q : VK} (q : NewX C [(f, v)] H Q) (a : Addr) (ha : H a = none) :
    spI1 C f [.ref a, v] (upd H a (exo a C none)) (fun u H3 => u = .non ∧ Q (.ref a) H3) (fun _ _ _ => False) :=
  ⟨a, v, rfl, upd_same, fun dx hd ne => ⟨rfl, q a dx _ ha (by rw [upd_ne ne] at hd; exact hd)
    (fun b o e => by
      have n1 := ne_of_none e ha
      have n2 : b ≠ dx := fun z => by rw [z] at e; rw [upd_ne ne, e] at hd; cases hd
      rw [upd_ne n1, upd_ne n2, upd_ne n1]; exact e) upd_same (by rw [upd_ne ne, upd_same])⟩⟩
theorem NewX.two {C : Addr} {f h : Str} {v u : V} {H : Hp} {Q : VK} (q : NewX C [(h, u), (f, v)] H Q) (a : Addr) (ha : H a = none) :
    spI2 C f h [.ref a, v, u] (upd H a (exo a C none)) (fun u H3 => u = .non ∧ Q (.ref a) H3) (fun _ _ _ => False) :=
  ⟨a, v, u, rfl, upd_same, fun dx hd ne => ⟨rfl, q a dx _ ha (by rw [upd_ne ne] at hd; exact hd)
    (fun b o e => by
      have n1 := ne_of_none e ha
      have n2 : b ≠ dx := fun z => by rw [z] at e; rw [upd_ne ne, e] at hd; cases hd
      rw [upd_ne n2, upd_ne n1, upd_ne n2, upd_ne n1]; exact e) (by rw [upd_ne ne.symm, upd_same]) upd_same⟩⟩
section
variable {X : Cx} {C : Addr} {cls f h : Str} {p pos : Pos} {e e2 : Expr} {te te2 : TE} {apos kp1 kp2 : Pos}
def tOneV (C : Addr) (f : Str) (te : TE) : TE := fun σ H Q => te σ H fun v H1 => NewX C [(f, v)] H1 Q
def tTwoV (C : Addr) (f h : Str) (te te2 : TE) : TE := fun σ H Q => te σ H fun v H1 => te2 σ H1 fun u H2 => NewX C [(h, u), (f, v)] H2 Q
/-- the values are told in the other order -/
def tTwoR (C : Addr) (f h : Str) (te2 te : TE) : TE := fun σ H Q => te2 σ H fun u H1 => te σ H1 fun v H2 => NewX C [(h, u), (f, v)] H2 Q
def tBareV (C : Addr) : TE := fun _ H Q => ∀ (a : Addr) (H' : Hp), H a = none → Same H H' → H' a = some (ExO (.ref C) a) → Q (.ref a) H'
variable {pins : List (Addr × Obj)} {σ : St} {H : Hp} {s : Shared} {Q : VK} {v u : V} {v' u' : Value}
theorem run_one1 (R : One X.prog X.w X.K X.mg X.base C cls f) (hr : Room 2 X.A) (I : Inv X pins σ H s) (r : RelV v v') (q : NewX C [(f, v)] H Q) : wpAny (model X.prog X.w) X.A (call (.ref C) [v'] []) (EP X pins σ Q) X.xe s := by
  obtain ⟨fI, fd, O, F, b1, _⟩ := R.ex
  exact run_mkv (us := [v']) (vs := [v]) (ws := []) (zs := []) O F hr b1 pass0 (by decide) I (.cons r .nil) .nil rfl rfl (q.one)
theorem run_oneK (R : One X.prog X.w X.K X.mg X.base C cls f) (hr : Room 2 X.A) (I : Inv X pins σ H s) (r : RelV v v') (q : NewX C [(f, v)] H Q) : wpAny (model X.prog X.w) X.A (call (.ref C) [] [(f, v')]) (EP X pins σ Q) X.xe s := by
  obtain ⟨fI, fd, O, F, _, b2⟩ := R.ex
  exact run_mkv (us := []) (vs := []) (ws := [v']) (zs := [v]) O F hr b2 pass0 (by decide) I .nil (.cons r .nil) rfl rfl (q.one)
theorem run_two2 (R : Two X.prog X.w X.K X.mg X.base C cls f h) (hr : Room 2 X.A) (I : Inv X pins σ H s) (r : RelV v v') (r2 : RelV u u') (q : NewX C [(h, u), (f, v)] H Q) : wpAny (model X.prog X.w) X.A (call (.ref C) [v', u'] []) (EP X pins σ Q) X.xe s := by
  obtain ⟨fI, fd, O, F, b1, _⟩ := R.ex
  exact run_mkv (us := [v', u']) (vs := [v, u]) (ws := []) (zs := []) O F hr b1 pass0 (by decide) I (.cons r (.cons r2 .nil)) .nil rfl rfl (q.two)
theorem run_two1K (R : Two X.prog X.w X.K X.mg X.base C cls f h) (hr : Room 2 X.A) (I : Inv X pins σ H s) (r : RelV v v') (r2 : RelV u u') (q : NewX C [(h, u), (f, v)] H Q) : wpAny (model X.prog X.w) X.A (call (.ref C) [v'] [(h, u')]) (EP X pins σ Q) X.xe s := by
  obtain ⟨fI, fd, O, F, _, b2, _⟩ := R.ex
  exact run_mkv (us := [v']) (vs := [v]) (ws := [u']) (zs := [u]) O F hr b2 pass0 (by decide) I (.cons r .nil) (.cons r2 .nil) rfl rfl (q.two)
theorem run_twoKK (R : Two X.prog X.w X.K X.mg X.base C cls f h) (hr : Room 2 X.A) (I : Inv X pins σ H s) (r : RelV v v') (r2 : RelV u u') (q : NewX C [(h, u), (f, v)] H Q) : wpAny (model X.prog X.w) X.A (call (.ref C) [] [(h, u'), (f, v')]) (EP X pins σ Q) X.xe s := by
  obtain ⟨fI, fd, O, F, _, _, b3⟩ := R.ex
  exact run_mkv (us := []) (vs := []) (ws := [u', v']) (zs := [u, v]) O F hr b3 pass0 (by decide) I .nil (.cons r2 (.cons r .nil)) rfl rfl (q.two)
/-- C(e) -/
theorem pe_one1 (R : One X.prog X.w X.K X.mg X.base C cls f) (hr : Room 2 X.A) (he : PE X e te) (hg : Gl X cls := by rfl) (hdb : (cls == ("__debug__" : Str)) = false := by decide)
    (hs : starEach [e] X.env = (false, eval e X.env) :: starEach [] X.env := by rfl) : PE X (.Call (.Name cls p) [e] [] pos) (tOneV C f te) := by
  refine ⟨fun pins s σ H Q I h => wpAny_Call_Name_kw (ld_glob I hg R.g ?_ hdb)⟩
  refine PySem.W.callWith_K (h₀ := X.base) I.ok.mod.kin (let ⟨_, _, O, _⟩ := R.ex; O.T.kC) ?_ hs (by rfl)
  rw [hs]
  show wpAny _ _ (spliced ((false, eval e X.env) :: backTo pos (starEach [] X.env))) _ _ s
  exact Calls.spliced_cons (thn (he.run pins s σ H _ I h) fun w1 s1 ⟨x, H1, I1, r1, q1⟩ => Calls.spliced_nil ⟨I1.kIn, run_one1 R hr I1 r1 q1⟩)
/-- C(e, e2) -/
theorem pe_two2 (R : Two X.prog X.w X.K X.mg X.base C cls f h) (hr : Room 2 X.A) (he : PE X e te) (he2 : PE X e2 te2) (hg : Gl X cls := by rfl) (hdb : (cls == ("__debug__" : Str)) = false := by decide)
    (hs : starEach [e, e2] X.env = (false, eval e X.env) :: starEach [e2] X.env := by rfl) (hs2 : starEach [e2] X.env = (false, eval e2 X.env) :: starEach [] X.env := by rfl) : PE X (.Call (.Name cls p) [e, e2] [] pos) (tTwoV C f h te te2) := by
  refine ⟨fun pins s σ H Q I h => wpAny_Call_Name_kw (ld_glob I hg R.g ?_ hdb)⟩
  refine PySem.W.callWith_K (h₀ := X.base) I.ok.mod.kin (let ⟨_, _, O, _⟩ := R.ex; O.T.kC) ?_ hs (by rw [hs2]; rfl)
  rw [hs, hs2]
  show wpAny _ _ (spliced ((false, eval e X.env) :: (false, eval e2 X.env) :: backTo pos (starEach [] X.env))) _ _ s
  refine Calls.spliced_cons (thn (he.run pins s σ H _ I h) fun w1 s1 ⟨x, H1, I1, r1, q1⟩ => ?_)
  refine Calls.spliced_cons (thn (he2.run pins s1 σ H1 _ I1 q1) fun w2 s2 ⟨y, H2, I2, r2, q2⟩ => ?_)
  exact Calls.spliced_nil ⟨I2.kIn, run_two2 R hr I2 r1 r2 q2⟩
/-- C(f = e) -/
theorem pe_oneK (R : One X.prog X.w X.K X.mg X.base C cls f) (hr : Room 2 X.A) (he : PE X e te) (hg : Gl X cls := by rfl) (hdb : (cls == ("__debug__" : Str)) = false := by decide) : PE X (.Call (.Name cls p) [] [⟨some f, e, kp1⟩] pos) (tOneV C f te) := by
  refine ⟨fun pins s σ H Q I h => wpAny_Call_Name_kw (ld_glob I hg R.g ?_ hdb)⟩
  refine PySem.W.callWith_KW0 (h₀ := X.base) I.ok.mod.kin (let ⟨_, _, O, _⟩ := R.ex; O.T.kC) rfl ?_ rfl
  show wpAny _ _ (evalAll ((do let v ← eval e X.env; standAt pos; pure v) :: [])) _ _ s
  refine wpAny_evalAll_cons (wpAny_bind (thn (he.run pins s σ H _ I h) fun w1 s1 ⟨x, H1, I1, r1, q1⟩ => wpAny_bind (wpAny_standAt (wpAny_pure (wpAny_evalAll_nil ?_)))))
  exact ⟨I1.kIn, run_oneK R hr I1 r1 q1⟩
/-- C(e, h = e2) -/
theorem pe_two1K (R : Two X.prog X.w X.K X.mg X.base C cls f h) (hr : Room 2 X.A) (he : PE X e te) (he2 : PE X e2 te2) (hg : Gl X cls := by rfl) (hdb : (cls == ("__debug__" : Str)) = false := by decide)
    (hs : starEach [e] X.env = (false, eval e X.env) :: starEach [] X.env := by rfl) : PE X (.Call (.Name cls p) [e] [⟨some h, e2, kp1⟩] pos) (tTwoV C f h te te2) := by
  refine ⟨fun pins s σ H Q I h => wpAny_Call_Name_kw (ld_glob I hg R.g ?_ hdb)⟩
  refine PySem.W.callWith_KW (h₀ := X.base) I.ok.mod.kin (let ⟨_, _, O, _⟩ := R.ex; O.T.kC) rfl ?_ (by rw [hs]; rfl) hs
  rw [hs]
  show wpAny _ _ (spliced ((false, eval e X.env) :: backTo pos (starEach [] X.env))) _ _ s
  refine Calls.spliced_cons (thn (he.run pins s σ H _ I h) fun w1 s1 ⟨x, H1, I1, r1, q1⟩ => Calls.spliced_nil ?_)
  show wpAny _ _ (evalAll ((do let v ← eval e2 X.env; standAt pos; pure v) :: [])) _ _ s1
  refine wpAny_evalAll_cons (wpAny_bind (thn (he2.run pins s1 σ H1 _ I1 q1) fun w2 s2 ⟨y, H2, I2, r2, q2⟩ => wpAny_bind (wpAny_standAt (wpAny_pure (wpAny_evalAll_nil ?_)))))
  exact ⟨I2.kIn, run_two1K R hr I2 r1 r2 q2⟩
/-- C(h = e2, f = e) -/
theorem pe_twoKK (R : Two X.prog X.w X.K X.mg X.base C cls f h) (hr : Room 2 X.A) (he2 : PE X e2 te2) (he : PE X e te) (hg : Gl X cls := by rfl) (hdb : (cls == ("__debug__" : Str)) = false := by decide) :
    PE X (.Call (.Name cls p) [] [⟨some h, e2, kp1⟩, ⟨some f, e, kp2⟩] pos) (tTwoR C f h te2 te) := by
  refine ⟨fun pins s σ H Q I h => wpAny_Call_Name_kw (ld_glob I hg R.g ?_ hdb)⟩
  refine PySem.W.callWith_KW0 (h₀ := X.base) I.ok.mod.kin (let ⟨_, _, O, _⟩ := R.ex; O.T.kC) rfl ?_ rfl
  show wpAny _ _ (evalAll ((do let v ← eval e2 X.env; standAt pos; pure v) :: (do let v ← eval e X.env; standAt pos; pure v) :: [])) _ _ s
  refine wpAny_evalAll_cons (wpAny_bind (thn (he2.run pins s σ H _ I h) fun w1 s1 ⟨x, H1, I1, r1, q1⟩ => wpAny_bind (wpAny_standAt (wpAny_pure ?_))))
  refine wpAny_evalAll_cons (wpAny_bind (thn (he.run pins s1 σ H1 _ I1 q1) fun w2 s2 ⟨y, H2, I2, r2, q2⟩ => wpAny_bind (wpAny_standAt (wpAny_pure (wpAny_evalAll_nil ?_)))))
  exact ⟨I2.kIn, run_twoKK R hr I2 r2 r1 q2⟩
/-- C() -/
theorem pe_bare (R : Bare X.K X.mg C cls) (hg : Gl X cls := by rfl) (hdb : (cls == ("__debug__" : Str)) = false := by decide) : PE X (.Call (.Name cls p) [] [] pos) (tBareV C) := by
  refine ⟨fun pins s σ H Q I h => wpAny_Call_Name_kw (ld_glob I hg R.g ?_ hdb)⟩
  refine PySem.W.callWith_K0 I.kIn R.kC ?_
  show wpAny _ _ (call (.ref C) []) _ _ _
  obtain ⟨bm, N, nm, qn, bs, hdct, sn, sub, ab, col, dd, k0, k1, k2, k3, k5, mN, hC, hN, hni, T⟩ := exc_obj I.kIn R.q
  obtain ⟨h0, g0, d0, t0, o0⟩ := s
  refine wpAny_call_exc_subT F.excBase_ValueError T hC hN hni (fun h' a hm => ?_) (by show 0 ≤ sizeLine; exact Nat.zero_le _)
  have hn : H a = none := I.hok.gone hm.new
  obtain ⟨t, ht, _, _⟩ := hm.there
  exact ⟨.ref a, upd H a (ExO (.ref C) a), I.laidN hm.keeps hm.new hn (exO_ok ht ⟨rfl, rfl⟩ rfl rfl rfl (show 4 < 6 by decide)), rfl, h a _ hn (Same.new (fun _ _ e => e) hn) upd_same⟩
end
end L2

namespace L2
open PySem PySem.Spec PyProof.Rows
section
variable {X : Cx}
/-- an expression that gives a new error with its dict: what is raised -/
theorem pmk_retX {e : Expr} {te : TE} (hx : X.ex = []) (he : PE X e te) :
    PMk X e (fun σ H Q => te σ H fun x H1 => ∃ (a C dx : Addr), x = .ref a ∧ H1 a = some (exo a C (some dx)) ∧ Fr0 X.H_0 a ∧ Raises X (.ref C) ∧ Q (.ref C) (some dx) (delH H1 a)) := by
  intro pins s σ H Q I h
  refine wpAny_mono (he.run pins s σ H _ I h) (fun u s1 got => ?_) fun _ _ z => z
  obtain ⟨v, H1, I1, r1, a, C, dx, rfl, ea, fr, ra, q⟩ := got
  cases (show u = Value.ref a from r1)
  obtain ⟨t1, at_⟩ := exo_at I1.hok ea
  obtain ⟨G, sub, gone, J⟩ := I1.untrack ea fr hx
  exact ⟨a, _, _, { s1 with heap := G }, delH H1 a, .ref C, some dx, rfl, J, sub, gone, at_, ⟨rfl, rfl⟩, rfl, rfl, delH_same, rfl, I1.bare, ra, q⟩
end
/-- how an __init__ with one value is called -/
theorem kb1 {K : PySem.W.Frag} {st : Stmt} {f qual : Str} {fI : Addr} {fd : FuncData} (F : Fun K "__init__" qual st fI fd)
    (h1 : ∀ (kV doc pm : Value) (an : Option Addr) (cdv ct a b : Value), bindArgs (PySem.W.fnOf "__init__" qual (defArgs st) (defBody st) (defScope st) .none kV doc pm an cdv ct) ⟨[a, b], []⟩ = pure [(("self" : Str), a), (f, b)])
    (h2 : ∀ (kV doc pm : Value) (an : Option Addr) (cdv ct a b : Value), bindArgs (PySem.W.fnOf "__init__" qual (defArgs st) (defBody st) (defScope st) .none kV doc pm an cdv ct) ⟨[a], [(f, b)]⟩ = pure [(("self" : Str), a), (f, b)]) :
    KBn K fd ["self", f] 2 [] (fun us _ => us) (fun vs _ => vs) ∧ KBn K fd ["self", f] 1 [f] (fun us ws => us ++ ws) (fun vs zs => vs ++ zs) := by
  obtain ⟨oc, od, kV, doc, pm, an, cdv, ct, osl, rfl, lk, hcd⟩ := F.ex
  refine ⟨⟨fun s us ws X l1 l2 => ?_, fun r _ => r⟩, ⟨fun s us ws X l1 l2 => ?_, fun r rz => r.append rz⟩⟩
  · match us, ws, l1, l2 with
    | [a, b], [], _, _ => exact .of_eq (h1 kV doc pm an cdv ct a b)
  · match us, ws, l1, l2 with
    | [a], [b], _, _ => exact .of_eq (h2 kV doc pm an cdv ct a b)
theorem kb2 {K : PySem.W.Frag} {st : Stmt} {f h qual : Str} {fI : Addr} {fd : FuncData} (F : Fun K "__init__" qual st fI fd)
    (h1 : ∀ (kV doc pm : Value) (an : Option Addr) (cdv ct a b c : Value), bindArgs (PySem.W.fnOf "__init__" qual (defArgs st) (defBody st) (defScope st) .none kV doc pm an cdv ct) ⟨[a, b, c], []⟩ = pure [(("self" : Str), a), (f, b), (h, c)])
    (h2 : ∀ (kV doc pm : Value) (an : Option Addr) (cdv ct a b c : Value), bindArgs (PySem.W.fnOf "__init__" qual (defArgs st) (defBody st) (defScope st) .none kV doc pm an cdv ct) ⟨[a, b], [(h, c)]⟩ = pure [(("self" : Str), a), (f, b), (h, c)])
    (h3 : ∀ (kV doc pm : Value) (an : Option Addr) (cdv ct a b c : Value), bindArgs (PySem.W.fnOf "__init__" qual (defArgs st) (defBody st) (defScope st) .none kV doc pm an cdv ct) ⟨[a], [(h, c), (f, b)]⟩ = pure [(("self" : Str), a), (f, b), (h, c)]) :
    KBn K fd ["self", f, h] 3 [] (fun us _ => us) (fun vs _ => vs) ∧ KBn K fd ["self", f, h] 2 [h] (fun us ws => us ++ ws) (fun vs zs => vs ++ zs) ∧
    KBn K fd ["self", f, h] 1 [h, f] (fun us ws => us ++ ws.reverse) (fun vs zs => vs ++ zs.reverse) := by
  obtain ⟨oc, od, kV, doc, pm, an, cdv, ct, osl, rfl, lk, hcd⟩ := F.ex
  have rev : ∀ {zs : List V} {ws : List Value}, Vals zs ws → Vals zs.reverse ws.reverse := by
    intro zs ws r
    induction r with
    | nil => exact .nil
    | cons q t ih =>
      rw [List.reverse_cons, List.reverse_cons]
      exact ih.append (.cons q .nil)
  refine ⟨⟨fun s us ws X l1 l2 => ?_, fun r _ => r⟩, ⟨fun s us ws X l1 l2 => ?_, fun r rz => r.append rz⟩, ⟨fun s us ws X l1 l2 => ?_, fun r rz => r.append (rev rz)⟩⟩
  · match us, ws, l1, l2 with
    | [a, b, c], [], _, _ => exact .of_eq (h1 kV doc pm an cdv ct a b c)
  · match us, ws, l1, l2 with
    | [a, b], [c], _, _ => exact .of_eq (h2 kV doc pm an cdv ct a b c)
  · match us, ws, l1, l2 with
    | [a], [c, b], _, _ => exact .of_eq (h3 kV doc pm an cdv ct a b c)
end L2

namespace K00
open PySem PySem.Spec PyProof.Rows L2
def top (i : Nat) : Stmt := PySem.Challenge.pw_allstreams_k00_errors_made_by_hand.main.body.getD i (.Pass ⟨0, 0, 0, 0⟩)
abbrev sPen : Stmt := top 32
abbrev sDraw : Stmt := top 33
abbrev sPick : Stmt := top 34
/-- the pen: the cells' list at c, the stop s, the rest r -/
def pen (c : Addr) (s r : Int) : List (Key × V) := [(.inr "cells", .ref c), (.inr "stop", .int s), (.inr "rest", .int r)]
theorem n1 : ¬ (("cells" : Str) = "stop") := by decide +kernel
theorem n2 : ¬ (("cells" : Str) = "rest") := by decide +kernel
theorem n3 : ¬ (("stop" : Str) = "rest") := by decide +kernel
theorem n4 : ¬ (("rest" : Str) = "stop") := by decide +kernel
theorem pen_cells (c : Addr) (s r : Int) : valV (pen c s r) (.inr "cells") = some (.ref c) := valV_pos rfl
theorem pen_stop (c : Addr) (s r : Int) : valV (pen c s r) (.inr "stop") = some (.int s) := (valV_neg fun z => n1 (Sum.inr.inj z)).trans (valV_pos rfl)
theorem pen_rest (c : Addr) (s r : Int) : valV (pen c s r) (.inr "rest") = some (.int r) := (valV_neg fun z => n2 (Sum.inr.inj z)).trans ((valV_neg fun z => n3 (Sum.inr.inj z)).trans (valV_pos rfl))
theorem put_stop (c : Addr) (s r z : Int) : putK (pen c s r) (.inr "stop") (.int z) = pen c z r := by
  simp [putK, pen, n1, n4]
theorem put_rest (c : Addr) (s r z : Int) : putK (pen c s r) (.inr "rest") (.int z) = pen c s z := by
  simp [putK, pen, n2, n3]
theorem merge_pen (c : Addr) (s r : Int) : mergeK [] (pen c s r) = pen c s r := by
  simp [mergeK, putK, pen, n1, n2, n3]
structure PenAt (H : Hp) (d c : Addr) (s r : Int) (cells : List Int) : Prop where
  dc : H d = some (.dK (pen c s r))
  ls : H c = some (.lst (cells.map V.int))
theorem PenAt.ne {H : Hp} {d c : Addr} {s r : Int} {cells : List Int} (p : PenAt H d c s r cells) : c ≠ d := ne_of p.ls p.dc (by intro z; cases z)
theorem PenAt.set {H : Hp} {d c : Addr} {s r : Int} {cells : List Int} (p : PenAt H d c s r cells) (s' r' : Int) : PenAt (upd H d (.dK (pen c s' r'))) d c s' r' cells := ⟨upd_same, by rw [upd_ne p.ne]; exact p.ls⟩
/-- all that was tracked but at d is as it was -/
def SameBut (d : Addr) (H H' : Hp) : Prop := ∀ b o, H b = some o → b ≠ d → H' b = some o
theorem SameBut.put {d : Addr} {H H' : Hp} {o : HO} (h : SameBut d H H') : SameBut d H (upd H' d o) := fun b u e n => by rw [upd_ne n]; exact h b u e n
theorem SameBut.new {d p : Addr} {H H' : Hp} {o : HO} (h : SameBut d H H') (hp : H' p = none) : SameBut d H (upd H' p o) := fun b u e n => by
  rw [upd_ne (ne_of_none (h b u e n) hp)]
  exact h b u e n
theorem SameBut.refl {d : Addr} {H : Hp} : SameBut d H H := fun _ _ e _ => e
theorem PenAt.new {H : Hp} {d c q : Addr} {s r : Int} {cells : List Int} {o : HO} (p : PenAt H d c s r cells) (hq : H q = none) : PenAt (upd H q o) d c s r cells :=
  ⟨by rw [upd_ne (ne_of_none p.dc hq)]; exact p.dc, by rw [upd_ne (ne_of_none p.ls hq)]; exact p.ls⟩
structure TxtP (mg : Str → Option Value) : Prop where
  int : mg "int" = none
  len : mg "len" = none
  list : mg "list" = none
def spPen (K : PySem.W.Frag) : Sp := fun vs H Q _ => ∃ (a : Addr) (ns : List Int), vs = [.ref a] ∧ SqL K H a (ns.map V.int) ∧ ns.length ≤ 63 ∧
  ∀ (d c : Addr) (H' : Hp), H d = none → H c = none → Same H H' → PenAt H' d c 0 0 ns → Q (.ref d) H'
def spDraw : Sp := fun vs H Q _ => ∃ (d c : Addr) (s r many : Int) (cells : List Int), vs = [.ref d, .int many] ∧ PenAt H d c s r cells ∧ 0 ≤ s ∧ s ≤ 100000 ∧ cells.length ≤ 63 ∧ 0 < many ∧ many < 2 ^ 30 ∧
  ∀ (n s' r' : Int) (H' : Hp), 0 ≤ n → n < many → 0 ≤ s' → s' ≤ s + 1 → PenAt H' d c s' r' cells → SameBut d H H' → Q (.int n) H'
theorem dp_ints {K : PySem.W.Frag} {H : Hp} : ∀ ns : List Int, DpAll K H (ns.map V.int) (ns.map PyData.int)
  | [] => .nil
  | n :: r => .cons (.int n) (dp_ints r)
section
variable {P : Program} {w : World} {K : PySem.W.Frag} {mg : Str → Option Value} {base : Heap}
theorem scPen : FnScope ["_law_script"] ["_law_script"] (defScope sPen) := ⟨rfl, rfl, rfl, by decide +kernel, rfl, by decide +kernel, by decide +kernel⟩
theorem ok_pen {f : Addr} {fd : FuncData} (F : Fun K "_law_pen" "_law_pen" sPen f fd) (T : TxtP mg) : FnOk P w K mg base CX0 1 f fd ["_law_script"] (spPen K) := by
  refine F.ok scPen (fun vs H Q E h => ?_) (fun cdv A outer s H vs Q E hr h => ?_)
  · obtain ⟨a, ns, rfl, _⟩ := h
    rfl
  · obtain ⟨a, ns, rfl, hS, hl, k⟩ := h
    refine ⟨_, pss_one (ps_ret (pe_disp (pps_cons pe_str (pe_callTy call_list_of (by rfl) T.list (by decide +kernel) (pa_cons (pe_slice sl_list (pv 0) po_none (po_some pe_int)) pa_nil))
      (pps_cons pe_str pe_int (pps_cons pe_str pe_int pps_nil))) (by rfl) (by rfl) (fun z => by cases z) (by decide))), ?_⟩
    intro d hd
    refine ⟨_, rfl, 63, rfl, a, ns.map V.int, rfl, ?_, fun p hp => ?_⟩
    · exact Same.seq (fun b o e => by rw [upd_ne (ne_of_none e hd)]; exact e) hS
    have e1 : cutV (ns.map V.int) none (some 63) = ns.map V.int := by
      unfold cutV
      rw [HT.sIx_none, List.drop_zero, show (some (63 : Int)) = some ((63 : Nat) : Int) from rfl, HT.sIx_nat, List.length_map, Nat.sub_zero]
      exact List.take_of_length_le (by rw [List.length_map]; omega)
    rw [e1]
    have npd : p ≠ d := fun z => by rw [z, upd_same] at hp; cases hp
    have hp0 : H p = none := by rw [upd_ne npd] at hp; exact hp
    refine ⟨p, _, rfl, .inl (SqL.of upd_same), fun c hc => ?_⟩
    have ncp : c ≠ p := fun z => by rw [z, upd_same] at hc; cases hc
    have hc1 : upd H d (.dK []) c = none := by rw [upd_ne ncp] at hc; exact hc
    have ncd : c ≠ d := fun z => by rw [z, upd_same] at hc1; cases hc1
    have hc0 : H c = none := by rw [upd_ne ncd] at hc1; exact hc1
    refine ⟨by rw [upd_ne ncd.symm, upd_ne npd.symm, upd_same], pen c 0 0, rfl, by show 3 ≤ 15; decide, ?_⟩
    rw [merge_pen]
    refine k d c _ hd hc0 (fun b o e => ?_) ⟨upd_same, by rw [upd_ne ncd, upd_same]⟩
    rw [upd_ne (ne_of_none e hd), upd_ne (ne_of_none e hc0), upd_ne (ne_of_none e hp0), upd_ne (ne_of_none e hd)]
    exact e

theorem at_mod {cells : List Int} (h : 0 < cells.length) (s : Int) : ∃ x, atI (cells.map V.int) (s % ((cells.map V.int).length : Int)) = some (.int x) := by
  have a1 := Int.emod_nonneg s (show ((cells.map V.int).length : Int) ≠ 0 by rw [List.length_map]; omega)
  have a2 := Int.emod_lt_of_pos s (show (0 : Int) < ((cells.map V.int).length : Int) by rw [List.length_map]; omega)
  rw [List.length_map] at a1 a2
  rw [List.length_map, show s % (cells.length : Int) = (((s % (cells.length : Int)).toNat : Nat) : Int) by omega]
  have a3 : (s % (cells.length : Int)).toNat < cells.length := by omega
  exact ⟨cells[(s % (cells.length : Int)).toNat], atI_nat (by rw [List.getElem?_map, List.getElem?_eq_getElem a3]; rfl)⟩
theorem modb (a : Int) {m : Int} (h : 0 < m) (h2 : m < 2 ^ 64) : -(2 ^ 64) < a % m ∧ a % m < 2 ^ 64 := by
  have x := Int.emod_nonneg a (show m ≠ 0 by omega)
  have y := Int.emod_lt_of_pos a h
  omega
theorem b18 : (10 : Int) ^ (18 : Int).toNat = 1000000000000000000 := by decide
theorem scDraw : FnScope ["_law_pen_here", "_law_many", "_law_digit", "_law_stop", "_law_cell", "_law_blend"] ["_law_pen_here", "_law_many"] (defScope sDraw) := ⟨rfl, rfl, rfl, by decide +kernel, rfl, by decide +kernel, by decide +kernel⟩
theorem ok_draw {f : Addr} {fd : FuncData} (F : Fun K "_law_draw" "_law_draw" sDraw f fd) (T : TxtP mg) : FnOk P w K mg base CX0 1 f fd ["_law_pen_here", "_law_many"] spDraw := by
  refine F.ok scDraw (fun vs H Q E h => ?_) (fun cdv A outer s H vs Q E hr h => ?_)
  · obtain ⟨d, c, s, r, many, cells, rfl, _⟩ := h
    rfl
  · obtain ⟨d, c, st, r, many, cells, rfl, p, h0, h1, hl, hm, hm2, k⟩ := h
    have hu := hu_of hr
    have nd := scDraw.nd
    refine ⟨_, (pss_cons (ps_if (pt_cmpR op_ge (pe_dget hu (pv 0) pe_str (fun _ _ => rfl)) (pv 1) (nomark _)) (pss_cons (ps_set (i := 2) nd rfl (Or.inl rfl) (pe_op op_mod (pe_callTy call_int1 (by rfl) T.int (by decide +kernel) (pa_cons (pe_dget hu (pv 0) pe_str (fun _ _ => rfl)) pa_nil)) (pv 1)))
      (pss_cons (ps_dput hu (pv 0) pe_str (pe_op op_fdiv (pe_dget hu (pv 0) pe_str (fun _ _ => rfl)) (pv 1)) rfl)
      (pss_one (ps_ret (pv 2))))) pss_nil)
      (pss_cons (ps_set (i := 3) nd rfl (Or.inl rfl) (pe_dget hu (pv 0) pe_str (fun _ _ => rfl)))
      (pss_cons (ps_dput hu (pv 0) pe_str (pe_op op_add (pv 3) pe_int) rfl)
      (pss_cons (ps_set (i := 4) nd rfl (Or.inl rfl) (pe_op op_add (pe_op op_mul pe_int (pv 3)) pe_int))
      (pss_cons (ps_if (pt_cmpR (op_neD hr.units) (pe_dget hu (pv 0) pe_str (fun _ _ => rfl)) (pe_lst pa_nil) (nomark _)) (pss_one (ps_set (i := 4) nd rfl (Or.inl rfl) (pe_ix ix_list (pe_dget hu (pv 0) pe_str (fun _ _ => rfl)) (pe_op op_mod (pe_callTy call_int1 (by rfl) T.int (by decide +kernel) (pa_cons (pv 3) pa_nil)) (pe_callB call_len_seq (by rfl) T.len PySem.boot_len (pa_cons (pe_dget hu (pv 0) pe_str (fun _ _ => rfl)) pa_nil))) (fun _ _ => rfl)))) pss_nil)
      (pss_cons (ps_if (PW.pt (pw_and (pt_cmpR op_lt (pv 3) (pe_callB call_len_seq (by rfl) T.len PySem.boot_len (pa_cons (pe_dget hu (pv 0) pe_str (fun _ _ => rfl)) pa_nil)) (nomark _)) (pw_and1 (pt_cmpR op_ge (pv 4) (pe_op op_pow pe_int pe_int) (nomark _))))) (pss_cons (ps_dput hu (pv 0) pe_str (pe_op op_fdiv (pe_op op_sub (pv 4) (pe_op op_pow pe_int pe_int)) (pv 1)) rfl)
      (pss_one (ps_ret (pe_op op_mod (pe_callTy call_int1 (by rfl) T.int (by decide +kernel) (pa_cons (pe_op op_sub (pv 4) (pe_op op_pow pe_int pe_int)) pa_nil)) (pv 1))))) pss_nil)
      (pss_cons (ps_set (i := 5) nd rfl (Or.inl rfl) (pe_op op_mul (pe_op op_mod (pe_callTy call_int1 (by rfl) T.int (by decide +kernel) (pa_cons (pv 4) pa_nil)) pe_int) pe_int))
      (pss_cons (ps_set (i := 5) nd rfl (Or.inl rfl) (pe_op op_mod (pe_callTy call_int1 (by rfl) T.int (by decide +kernel) (pa_cons (pe_op op_add (pe_op op_add (pe_op op_add (pv 5) (pe_op op_mul (pe_op op_mul pe_int (pv 3)) (pv 3))) (pe_op op_mul pe_int (pv 3))) pe_int) pa_nil)) pe_int))
      (pss_cons (ps_set (i := 5) nd rfl (Or.inl rfl) (pe_op op_mod (pe_callTy call_int1 (by rfl) T.int (by decide +kernel) (pa_cons (pe_op op_mul (pv 5) (pe_op op_add (pv 5) pe_int)) pa_nil)) pe_int))
      (pss_one (ps_ret (pe_op op_mod (pe_callTy call_int1 (by rfl) T.int (by decide +kernel) (pa_cons (pe_op op_fdiv (pe_op op_mod (pe_callTy call_int1 (by rfl) T.int (by decide +kernel) (pa_cons (pe_op op_add (pe_op op_mul (pv 5) (pv 5)) (pe_op op_mul pe_int (pv 5))) pa_nil)) pe_int) pe_int) pa_nil)) (pv 1))))))))))))), ?_⟩
    have gs : ∀ {H' : Hp} {s' r' : Int}, PenAt H' d c s' r' cells → DGet H' d (.str "stop") (some (.int s')) := fun {H' s' r'} q => by
      have z := DGet.k (k := (.inr "stop" : Key)) q.dc
      rw [pen_stop] at z
      exact z
    have gr : ∀ {H' : Hp} {s' r' : Int}, PenAt H' d c s' r' cells → DGet H' d (.str "rest") (some (.int r')) := fun {H' s' r'} q => by
      have z := DGet.k (k := (.inr "rest" : Key)) q.dc
      rw [pen_rest] at z
      exact z
    have gc : ∀ {H' : Hp} {s' r' : Int}, PenAt H' d c s' r' cells → DGet H' d (.str "cells") (some (.ref c)) := fun {H' s' r'} q => by
      have z := DGet.k (k := (.inr "cells" : Key)) q.dc
      rw [pen_cells] at z
      exact z
    have us : ∀ {H' : Hp} {s' r' : Int} (z : Int), PenAt H' d c s' r' cells → DPut H' d (.str "stop") (.int z) (upd H' d (.dK (pen c z r'))) := fun {H' s' r'} z q => by
      have y := DPut.k (k := (.inr "stop" : Key)) (v := .int z) q.dc (by show 3 < sizeLine; decide)
      rw [put_stop] at y
      exact y
    have ur : ∀ {H' : Hp} {s' r' : Int} (z : Int), PenAt H' d c s' r' cells → DPut H' d (.str "rest") (.int z) (upd H' d (.dK (pen c s' z))) := fun {H' s' r'} z q => by
      have y := DPut.k (k := (.inr "rest" : Key)) (v := .int z) q.dc (by show 3 < sizeLine; decide)
      rw [put_rest] at y
      exact y
    -- if pen["rest"] >= many
    refine ⟨_, rfl, d, _, rfl, gr p, _, rfl, _, _, rfl, rfl, _, rfl, ?_⟩
    refine ite2 (fun _ => ?_) (fun _ => ?_)
    · refine ⟨_, rfl, d, _, rfl, gr p, .inl ⟨_, rfl, _, rfl, _, _, rfl, rfl, hm, ?_⟩⟩
      refine ⟨_, rfl, d, _, rfl, gr p, _, rfl, _, _, rfl, rfl, ⟨hm, hm2⟩, _, rfl, d, _, rfl, ur _ p, ?_⟩
      exact ⟨_, rfl, k _ _ _ _ (Int.emod_nonneg _ (by omega)) (Int.emod_lt_of_pos _ hm) h0 (by omega) (p.set _ _) SameBut.refl.put⟩
    -- stop, cell
    have p1 := p.set (st + 1) r
    have frs : ∀ {H1 : Hp} {b : Addr}, H1 b = none → ∀ {a : Addr} {o : HO}, H1 a = some o → a ≠ b := fun h1 _ _ h2 => ne_of_none h2 h1
    refine ⟨_, rfl, d, _, rfl, gs p, _, rfl, _, _, rfl, rfl, _, rfl, d, _, rfl, us _ p, _, rfl, _, _, rfl, rfl, .inl ⟨by decide, by decide⟩, _, _, rfl, rfl, ?_⟩
    refine ⟨_, rfl, d, _, rfl, gc p1, by show 0 ≤ sizeLine; decide, fun l hn => ?_⟩
    have p2 := p1.new (o := .lst []) hn
    have sb : SameBut d H (upd (upd H d (.dK (pen c (st + 1) r))) l (.lst [])) := SameBut.refl.put.new hn
    have hl2 : upd (upd H d (.dK (pen c (st + 1) r))) l (.lst []) l = some (.lst []) := upd_same
    generalize upd (upd H d (.dK (pen c (st + 1) r))) l (.lst []) = H2 at p2 sb hl2 ⊢
    refine ⟨.list (cells.map PyData.int), .list [], .lst (SqL.of p2.ls) (dp_ints _), .lst (SqL.of hl2) .nil, PySem.W.ke_shaped_ints _, by decide +kernel, _, rfl, ?_⟩
    -- cell = cells[stop % len(cells)]
    refine ite2 (fun nz => ?_) (fun _ => ?_)
    · have pos : 0 < cells.length := by
        cases cells with
        | nil => exact absurd nz (by decide)
        | cons _ _ => exact Nat.succ_pos _
      have l0 : (0 : Int) < ((cells.map V.int).length : Int) := by rw [List.length_map]; omega
      obtain ⟨x, hx⟩ := at_mod pos st
      refine ⟨_, rfl, d, _, rfl, gc p2, _, rfl, .inl ⟨_, rfl, _, rfl, d, _, rfl, gc p2, c, _, rfl, .inl (SqL.of p2.ls), _, _, rfl, rfl, l0, c, _, _, .int x, rfl, rfl, SqL.of p2.ls, hx, ?_⟩⟩
      refine ⟨_, rfl, _, rfl, d, _, rfl, gc p2, c, _, rfl, .inl (SqL.of p2.ls), _, _, rfl, rfl, _, rfl, ?_⟩
      refine ite2 (fun _ => ?_) (fun _ => iteF ?_)
      · refine ⟨_, rfl, _, _, rfl, rfl, ⟨by decide, by decide, by decide⟩, _, _, rfl, rfl, _, rfl, ?_⟩
        refine ite2 (fun _ => ?_) (fun _ => ?_)
        · refine ⟨_, rfl, _, _, rfl, rfl, ⟨by decide, by decide, by decide⟩, _, _, rfl, rfl, _, rfl, _, _, rfl, rfl, ⟨hm, hm2⟩, _, rfl, d, _, rfl, ur _ p2, ?_⟩
          refine ⟨_, rfl, _, _, rfl, rfl, ⟨by decide, by decide, by decide⟩, _, _, rfl, rfl, .inl ⟨_, rfl, _, rfl, _, _, rfl, rfl, hm, ?_⟩⟩
          exact k _ _ _ _ (Int.emod_nonneg _ (by omega)) (Int.emod_lt_of_pos _ hm) (by omega) (Int.le_refl _) (p2.set _ _) sb.put
        · refine ⟨_, rfl, .inl ⟨_, rfl, _, _, rfl, rfl, (show (0 : Int) < 2147483269 by decide), _, _, rfl, rfl, .inr ⟨by decide, by decide⟩, ?_⟩⟩
          refine ⟨_, rfl, _, rfl, _, _, rfl, rfl, .inl ⟨by decide, by decide⟩, _, rfl, _, _, rfl, rfl, .inr ⟨by omega, by omega⟩, _, _, rfl, rfl, _, rfl, _, _, rfl, rfl, .inl ⟨by decide, by decide⟩, _, _, rfl, rfl, _, _, rfl, rfl, .inl ⟨_, rfl, _, _, rfl, rfl, (show (0 : Int) < 2147483323 by decide), ?_⟩⟩
          refine ⟨_, rfl, _, rfl, _, _, rfl, rfl, _, _, rfl, rfl, .inl (modb _ (by decide) (by decide)), .inl ⟨_, rfl, _, _, rfl, rfl, (show (0 : Int) < 2147483353 by decide), ?_⟩⟩
          refine ⟨_, rfl, _, rfl, _, _, rfl, rfl, .inl (modb _ (by decide) (by decide)), _, rfl, _, _, rfl, rfl, .inl ⟨by decide, by decide⟩, _, _, rfl, rfl, .inl ⟨_, rfl, _, _, rfl, rfl, (show (0 : Int) < 2147483399 by decide), _, _, rfl, rfl, ⟨by decide, by decide⟩, .inl ⟨_, rfl, _, rfl, _, _, rfl, rfl, hm, ?_⟩⟩⟩
          exact k _ _ _ _ (Int.emod_nonneg _ (by omega)) (Int.emod_lt_of_pos _ hm) (by omega) (Int.le_refl _) p2 sb
      · refine ⟨_, rfl, .inl ⟨_, rfl, _, _, rfl, rfl, (show (0 : Int) < 2147483269 by decide), _, _, rfl, rfl, .inr ⟨by decide, by decide⟩, ?_⟩⟩
        refine ⟨_, rfl, _, rfl, _, _, rfl, rfl, .inl ⟨by decide, by decide⟩, _, rfl, _, _, rfl, rfl, .inr ⟨by omega, by omega⟩, _, _, rfl, rfl, _, rfl, _, _, rfl, rfl, .inl ⟨by decide, by decide⟩, _, _, rfl, rfl, _, _, rfl, rfl, .inl ⟨_, rfl, _, _, rfl, rfl, (show (0 : Int) < 2147483323 by decide), ?_⟩⟩
        refine ⟨_, rfl, _, rfl, _, _, rfl, rfl, _, _, rfl, rfl, .inl (modb _ (by decide) (by decide)), .inl ⟨_, rfl, _, _, rfl, rfl, (show (0 : Int) < 2147483353 by decide), ?_⟩⟩
        refine ⟨_, rfl, _, rfl, _, _, rfl, rfl, .inl (modb _ (by decide) (by decide)), _, rfl, _, _, rfl, rfl, .inl ⟨by decide, by decide⟩, _, _, rfl, rfl, .inl ⟨_, rfl, _, _, rfl, rfl, (show (0 : Int) < 2147483399 by decide), _, _, rfl, rfl, ⟨by decide, by decide⟩, .inl ⟨_, rfl, _, rfl, _, _, rfl, rfl, hm, ?_⟩⟩⟩
        exact k _ _ _ _ (Int.emod_nonneg _ (by omega)) (Int.emod_lt_of_pos _ hm) (by omega) (Int.le_refl _) p2 sb
    · refine ⟨_, rfl, _, rfl, d, _, rfl, gc p2, c, _, rfl, .inl (SqL.of p2.ls), _, _, rfl, rfl, _, rfl, ?_⟩
      refine ite2 (fun _ => ?_) (fun _ => iteF ?_)
      · refine ⟨_, rfl, _, _, rfl, rfl, ⟨by decide, by decide, by decide⟩, _, _, rfl, rfl, _, rfl, ?_⟩
        refine ite2 (fun _ => ?_) (fun _ => ?_)
        · refine ⟨_, rfl, _, _, rfl, rfl, ⟨by decide, by decide, by decide⟩, _, _, rfl, rfl, _, rfl, _, _, rfl, rfl, ⟨hm, hm2⟩, _, rfl, d, _, rfl, ur _ p2, ?_⟩
          refine ⟨_, rfl, _, _, rfl, rfl, ⟨by decide, by decide, by decide⟩, _, _, rfl, rfl, .inl ⟨_, rfl, _, rfl, _, _, rfl, rfl, hm, ?_⟩⟩
          exact k _ _ _ _ (Int.emod_nonneg _ (by omega)) (Int.emod_lt_of_pos _ hm) (by omega) (Int.le_refl _) (p2.set _ _) sb.put
        · refine ⟨_, rfl, .inl ⟨_, rfl, _, _, rfl, rfl, (show (0 : Int) < 2147483269 by decide), _, _, rfl, rfl, .inr ⟨by decide, by decide⟩, ?_⟩⟩
          refine ⟨_, rfl, _, rfl, _, _, rfl, rfl, .inl ⟨by decide, by decide⟩, _, rfl, _, _, rfl, rfl, .inr ⟨by omega, by omega⟩, _, _, rfl, rfl, _, rfl, _, _, rfl, rfl, .inl ⟨by decide, by decide⟩, _, _, rfl, rfl, _, _, rfl, rfl, .inl ⟨_, rfl, _, _, rfl, rfl, (show (0 : Int) < 2147483323 by decide), ?_⟩⟩
          refine ⟨_, rfl, _, rfl, _, _, rfl, rfl, _, _, rfl, rfl, .inl (modb _ (by decide) (by decide)), .inl ⟨_, rfl, _, _, rfl, rfl, (show (0 : Int) < 2147483353 by decide), ?_⟩⟩
          refine ⟨_, rfl, _, rfl, _, _, rfl, rfl, .inl (modb _ (by decide) (by decide)), _, rfl, _, _, rfl, rfl, .inl ⟨by decide, by decide⟩, _, _, rfl, rfl, .inl ⟨_, rfl, _, _, rfl, rfl, (show (0 : Int) < 2147483399 by decide), _, _, rfl, rfl, ⟨by decide, by decide⟩, .inl ⟨_, rfl, _, rfl, _, _, rfl, rfl, hm, ?_⟩⟩⟩
          exact k _ _ _ _ (Int.emod_nonneg _ (by omega)) (Int.emod_lt_of_pos _ hm) (by omega) (Int.le_refl _) p2 sb
      · refine ⟨_, rfl, .inl ⟨_, rfl, _, _, rfl, rfl, (show (0 : Int) < 2147483269 by decide), _, _, rfl, rfl, .inr ⟨by decide, by decide⟩, ?_⟩⟩
        refine ⟨_, rfl, _, rfl, _, _, rfl, rfl, .inl ⟨by decide, by decide⟩, _, rfl, _, _, rfl, rfl, .inr ⟨by omega, by omega⟩, _, _, rfl, rfl, _, rfl, _, _, rfl, rfl, .inl ⟨by decide, by decide⟩, _, _, rfl, rfl, _, _, rfl, rfl, .inl ⟨_, rfl, _, _, rfl, rfl, (show (0 : Int) < 2147483323 by decide), ?_⟩⟩
        refine ⟨_, rfl, _, rfl, _, _, rfl, rfl, _, _, rfl, rfl, .inl (modb _ (by decide) (by decide)), .inl ⟨_, rfl, _, _, rfl, rfl, (show (0 : Int) < 2147483353 by decide), ?_⟩⟩
        refine ⟨_, rfl, _, rfl, _, _, rfl, rfl, .inl (modb _ (by decide) (by decide)), _, rfl, _, _, rfl, rfl, .inl ⟨by decide, by decide⟩, _, _, rfl, rfl, .inl ⟨_, rfl, _, _, rfl, rfl, (show (0 : Int) < 2147483399 by decide), _, _, rfl, rfl, ⟨by decide, by decide⟩, .inl ⟨_, rfl, _, rfl, _, _, rfl, rfl, hm, ?_⟩⟩⟩
        exact k _ _ _ _ (Int.emod_nonneg _ (by omega)) (Int.emod_lt_of_pos _ hm) (by omega) (Int.le_refl _) p2 sb
end
end K00

namespace K00
open PySem PySem.Spec PyProof.Rows L2
section
variable {P : Program} {w : World} {K : PySem.W.Frag} {mg : Str → Option Value} {base : Heap}
abbrev iBadValue : Stmt := inClass (top 2) 0
theorem sBadValue : FnScope ["self", "value"] ["self", "value"] (defScope iBadValue) := ⟨rfl, rfl, rfl, by decide +kernel, rfl, by decide +kernel, by decide +kernel⟩
theorem oBadValue {fI C : Addr} {fd : FuncData} (F : Fun K "__init__" "BadValue.__init__" iBadValue fI fd) (O : OwnX K C fI) (g : mg "BadValue" = some (.ref C)) (Z : PySem.ExV.ClsX K C) (no : PySem.W.findIn K (.ref C) "value" = some none) : One P w K mg base C "BadValue" "value" := by
  obtain ⟨b1, b2⟩ := kb1 (f := "value") F (fun _ _ _ _ _ _ _ _ => rfl) (fun _ _ _ _ _ _ _ _ => rfl)
  refine ⟨⟨fI, fd, O, F.ok sBadValue (fun vs H Q E h => ?_) (fun cdv A outer s H vs Q E hr h => ?_), b1, b2⟩, g, Z, no⟩
  · obtain ⟨a, v, rfl, _⟩ := h
    rfl
  · obtain ⟨a, v, rfl, ha, k⟩ := h
    exact ⟨_, pss_one (ps_ost (pv 0) (pv 1)), _, rfl, _, rfl, a, C, rfl, O.T, no, .inl ⟨ha, fun dx hd ne => k dx hd ne⟩⟩
abbrev iNotAText : Stmt := inClass (top 5) 0
theorem sNotAText : FnScope ["self", "at"] ["self", "at"] (defScope iNotAText) := ⟨rfl, rfl, rfl, by decide +kernel, rfl, by decide +kernel, by decide +kernel⟩
theorem oNotAText {fI C : Addr} {fd : FuncData} (F : Fun K "__init__" "NotAText.__init__" iNotAText fI fd) (O : OwnX K C fI) (g : mg "NotAText" = some (.ref C)) (Z : PySem.ExV.ClsX K C) (no : PySem.W.findIn K (.ref C) "at" = some none) : One P w K mg base C "NotAText" "at" := by
  obtain ⟨b1, b2⟩ := kb1 (f := "at") F (fun _ _ _ _ _ _ _ _ => rfl) (fun _ _ _ _ _ _ _ _ => rfl)
  refine ⟨⟨fI, fd, O, F.ok sNotAText (fun vs H Q E h => ?_) (fun cdv A outer s H vs Q E hr h => ?_), b1, b2⟩, g, Z, no⟩
  · obtain ⟨a, v, rfl, _⟩ := h
    rfl
  · obtain ⟨a, v, rfl, ha, k⟩ := h
    exact ⟨_, pss_one (ps_ost (pv 0) (pv 1)), _, rfl, _, rfl, a, C, rfl, O.T, no, .inl ⟨ha, fun dx hd ne => k dx hd ne⟩⟩
abbrev iNoGiver : Stmt := inClass (top 6) 0
theorem sNoGiver : FnScope ["self", "name"] ["self", "name"] (defScope iNoGiver) := ⟨rfl, rfl, rfl, by decide +kernel, rfl, by decide +kernel, by decide +kernel⟩
theorem oNoGiver {fI C : Addr} {fd : FuncData} (F : Fun K "__init__" "NoGiver.__init__" iNoGiver fI fd) (O : OwnX K C fI) (g : mg "NoGiver" = some (.ref C)) (Z : PySem.ExV.ClsX K C) (no : PySem.W.findIn K (.ref C) "name" = some none) : One P w K mg base C "NoGiver" "name" := by
  obtain ⟨b1, b2⟩ := kb1 (f := "name") F (fun _ _ _ _ _ _ _ _ => rfl) (fun _ _ _ _ _ _ _ _ => rfl)
  refine ⟨⟨fI, fd, O, F.ok sNoGiver (fun vs H Q E h => ?_) (fun cdv A outer s H vs Q E hr h => ?_), b1, b2⟩, g, Z, no⟩
  · obtain ⟨a, v, rfl, _⟩ := h
    rfl
  · obtain ⟨a, v, rfl, ha, k⟩ := h
    exact ⟨_, pss_one (ps_ost (pv 0) (pv 1)), _, rfl, _, rfl, a, C, rfl, O.T, no, .inl ⟨ha, fun dx hd ne => k dx hd ne⟩⟩
abbrev iTwoGivers : Stmt := inClass (top 7) 0
theorem sTwoGivers : FnScope ["self", "name"] ["self", "name"] (defScope iTwoGivers) := ⟨rfl, rfl, rfl, by decide +kernel, rfl, by decide +kernel, by decide +kernel⟩
theorem oTwoGivers {fI C : Addr} {fd : FuncData} (F : Fun K "__init__" "TwoGivers.__init__" iTwoGivers fI fd) (O : OwnX K C fI) (g : mg "TwoGivers" = some (.ref C)) (Z : PySem.ExV.ClsX K C) (no : PySem.W.findIn K (.ref C) "name" = some none) : One P w K mg base C "TwoGivers" "name" := by
  obtain ⟨b1, b2⟩ := kb1 (f := "name") F (fun _ _ _ _ _ _ _ _ => rfl) (fun _ _ _ _ _ _ _ _ => rfl)
  refine ⟨⟨fI, fd, O, F.ok sTwoGivers (fun vs H Q E h => ?_) (fun cdv A outer s H vs Q E hr h => ?_), b1, b2⟩, g, Z, no⟩
  · obtain ⟨a, v, rfl, _⟩ := h
    rfl
  · obtain ⟨a, v, rfl, ha, k⟩ := h
    exact ⟨_, pss_one (ps_ost (pv 0) (pv 1)), _, rfl, _, rfl, a, C, rfl, O.T, no, .inl ⟨ha, fun dx hd ne => k dx hd ne⟩⟩
abbrev iUnknown : Stmt := inClass (top 8) 0
theorem sUnknown : FnScope ["self", "name"] ["self", "name"] (defScope iUnknown) := ⟨rfl, rfl, rfl, by decide +kernel, rfl, by decide +kernel, by decide +kernel⟩
theorem oUnknown {fI C : Addr} {fd : FuncData} (F : Fun K "__init__" "Unknown.__init__" iUnknown fI fd) (O : OwnX K C fI) (g : mg "Unknown" = some (.ref C)) (Z : PySem.ExV.ClsX K C) (no : PySem.W.findIn K (.ref C) "name" = some none) : One P w K mg base C "Unknown" "name" := by
  obtain ⟨b1, b2⟩ := kb1 (f := "name") F (fun _ _ _ _ _ _ _ _ => rfl) (fun _ _ _ _ _ _ _ _ => rfl)
  refine ⟨⟨fI, fd, O, F.ok sUnknown (fun vs H Q E h => ?_) (fun cdv A outer s H vs Q E hr h => ?_), b1, b2⟩, g, Z, no⟩
  · obtain ⟨a, v, rfl, _⟩ := h
    rfl
  · obtain ⟨a, v, rfl, ha, k⟩ := h
    exact ⟨_, pss_one (ps_ost (pv 0) (pv 1)), _, rfl, _, rfl, a, C, rfl, O.T, no, .inl ⟨ha, fun dx hd ne => k dx hd ne⟩⟩
abbrev iTaken : Stmt := inClass (top 9) 0
theorem sTaken : FnScope ["self", "name"] ["self", "name"] (defScope iTaken) := ⟨rfl, rfl, rfl, by decide +kernel, rfl, by decide +kernel, by decide +kernel⟩
theorem oTaken {fI C : Addr} {fd : FuncData} (F : Fun K "__init__" "Taken.__init__" iTaken fI fd) (O : OwnX K C fI) (g : mg "Taken" = some (.ref C)) (Z : PySem.ExV.ClsX K C) (no : PySem.W.findIn K (.ref C) "name" = some none) : One P w K mg base C "Taken" "name" := by
  obtain ⟨b1, b2⟩ := kb1 (f := "name") F (fun _ _ _ _ _ _ _ _ => rfl) (fun _ _ _ _ _ _ _ _ => rfl)
  refine ⟨⟨fI, fd, O, F.ok sTaken (fun vs H Q E h => ?_) (fun cdv A outer s H vs Q E hr h => ?_), b1, b2⟩, g, Z, no⟩
  · obtain ⟨a, v, rfl, _⟩ := h
    rfl
  · obtain ⟨a, v, rfl, ha, k⟩ := h
    exact ⟨_, pss_one (ps_ost (pv 0) (pv 1)), _, rfl, _, rfl, a, C, rfl, O.T, no, .inl ⟨ha, fun dx hd ne => k dx hd ne⟩⟩
abbrev iApart : Stmt := inClass (top 10) 0
theorem sApart : FnScope ["self", "name"] ["self", "name"] (defScope iApart) := ⟨rfl, rfl, rfl, by decide +kernel, rfl, by decide +kernel, by decide +kernel⟩
theorem oApart {fI C : Addr} {fd : FuncData} (F : Fun K "__init__" "Apart.__init__" iApart fI fd) (O : OwnX K C fI) (g : mg "Apart" = some (.ref C)) (Z : PySem.ExV.ClsX K C) (no : PySem.W.findIn K (.ref C) "name" = some none) : One P w K mg base C "Apart" "name" := by
  obtain ⟨b1, b2⟩ := kb1 (f := "name") F (fun _ _ _ _ _ _ _ _ => rfl) (fun _ _ _ _ _ _ _ _ => rfl)
  refine ⟨⟨fI, fd, O, F.ok sApart (fun vs H Q E h => ?_) (fun cdv A outer s H vs Q E hr h => ?_), b1, b2⟩, g, Z, no⟩
  · obtain ⟨a, v, rfl, _⟩ := h
    rfl
  · obtain ⟨a, v, rfl, ha, k⟩ := h
    exact ⟨_, pss_one (ps_ost (pv 0) (pv 1)), _, rfl, _, rfl, a, C, rfl, O.T, no, .inl ⟨ha, fun dx hd ne => k dx hd ne⟩⟩
abbrev iWithin : Stmt := inClass (top 11) 0
theorem sWithin : FnScope ["self", "name"] ["self", "name"] (defScope iWithin) := ⟨rfl, rfl, rfl, by decide +kernel, rfl, by decide +kernel, by decide +kernel⟩
theorem oWithin {fI C : Addr} {fd : FuncData} (F : Fun K "__init__" "Within.__init__" iWithin fI fd) (O : OwnX K C fI) (g : mg "Within" = some (.ref C)) (Z : PySem.ExV.ClsX K C) (no : PySem.W.findIn K (.ref C) "name" = some none) : One P w K mg base C "Within" "name" := by
  obtain ⟨b1, b2⟩ := kb1 (f := "name") F (fun _ _ _ _ _ _ _ _ => rfl) (fun _ _ _ _ _ _ _ _ => rfl)
  refine ⟨⟨fI, fd, O, F.ok sWithin (fun vs H Q E h => ?_) (fun cdv A outer s H vs Q E hr h => ?_), b1, b2⟩, g, Z, no⟩
  · obtain ⟨a, v, rfl, _⟩ := h
    rfl
  · obtain ⟨a, v, rfl, ha, k⟩ := h
    exact ⟨_, pss_one (ps_ost (pv 0) (pv 1)), _, rfl, _, rfl, a, C, rfl, O.T, no, .inl ⟨ha, fun dx hd ne => k dx hd ne⟩⟩
abbrev iUnpaced : Stmt := inClass (top 12) 0
theorem sUnpaced : FnScope ["self", "at"] ["self", "at"] (defScope iUnpaced) := ⟨rfl, rfl, rfl, by decide +kernel, rfl, by decide +kernel, by decide +kernel⟩
theorem oUnpaced {fI C : Addr} {fd : FuncData} (F : Fun K "__init__" "Unpaced.__init__" iUnpaced fI fd) (O : OwnX K C fI) (g : mg "Unpaced" = some (.ref C)) (Z : PySem.ExV.ClsX K C) (no : PySem.W.findIn K (.ref C) "at" = some none) : One P w K mg base C "Unpaced" "at" := by
  obtain ⟨b1, b2⟩ := kb1 (f := "at") F (fun _ _ _ _ _ _ _ _ => rfl) (fun _ _ _ _ _ _ _ _ => rfl)
  refine ⟨⟨fI, fd, O, F.ok sUnpaced (fun vs H Q E h => ?_) (fun cdv A outer s H vs Q E hr h => ?_), b1, b2⟩, g, Z, no⟩
  · obtain ⟨a, v, rfl, _⟩ := h
    rfl
  · obtain ⟨a, v, rfl, ha, k⟩ := h
    exact ⟨_, pss_one (ps_ost (pv 0) (pv 1)), _, rfl, _, rfl, a, C, rfl, O.T, no, .inl ⟨ha, fun dx hd ne => k dx hd ne⟩⟩
abbrev iTooMany : Stmt := inClass (top 13) 0
theorem sTooMany : FnScope ["self", "most"] ["self", "most"] (defScope iTooMany) := ⟨rfl, rfl, rfl, by decide +kernel, rfl, by decide +kernel, by decide +kernel⟩
theorem oTooMany {fI C : Addr} {fd : FuncData} (F : Fun K "__init__" "TooMany.__init__" iTooMany fI fd) (O : OwnX K C fI) (g : mg "TooMany" = some (.ref C)) (Z : PySem.ExV.ClsX K C) (no : PySem.W.findIn K (.ref C) "most" = some none) : One P w K mg base C "TooMany" "most" := by
  obtain ⟨b1, b2⟩ := kb1 (f := "most") F (fun _ _ _ _ _ _ _ _ => rfl) (fun _ _ _ _ _ _ _ _ => rfl)
  refine ⟨⟨fI, fd, O, F.ok sTooMany (fun vs H Q E h => ?_) (fun cdv A outer s H vs Q E hr h => ?_), b1, b2⟩, g, Z, no⟩
  · obtain ⟨a, v, rfl, _⟩ := h
    rfl
  · obtain ⟨a, v, rfl, ha, k⟩ := h
    exact ⟨_, pss_one (ps_ost (pv 0) (pv 1)), _, rfl, _, rfl, a, C, rfl, O.T, no, .inl ⟨ha, fun dx hd ne => k dx hd ne⟩⟩
abbrev iCannotStep : Stmt := inClass (top 15) 0
theorem sCannotStep : FnScope ["self", "box"] ["self", "box"] (defScope iCannotStep) := ⟨rfl, rfl, rfl, by decide +kernel, rfl, by decide +kernel, by decide +kernel⟩
theorem oCannotStep {fI C : Addr} {fd : FuncData} (F : Fun K "__init__" "CannotStep.__init__" iCannotStep fI fd) (O : OwnX K C fI) (g : mg "CannotStep" = some (.ref C)) (Z : PySem.ExV.ClsX K C) (no : PySem.W.findIn K (.ref C) "box" = some none) : One P w K mg base C "CannotStep" "box" := by
  obtain ⟨b1, b2⟩ := kb1 (f := "box") F (fun _ _ _ _ _ _ _ _ => rfl) (fun _ _ _ _ _ _ _ _ => rfl)
  refine ⟨⟨fI, fd, O, F.ok sCannotStep (fun vs H Q E h => ?_) (fun cdv A outer s H vs Q E hr h => ?_), b1, b2⟩, g, Z, no⟩
  · obtain ⟨a, v, rfl, _⟩ := h
    rfl
  · obtain ⟨a, v, rfl, ha, k⟩ := h
    exact ⟨_, pss_one (ps_ost (pv 0) (pv 1)), _, rfl, _, rfl, a, C, rfl, O.T, no, .inl ⟨ha, fun dx hd ne => k dx hd ne⟩⟩
abbrev iBadCode : Stmt := inClass (top 21) 0
theorem sBadCode : FnScope ["self", "at"] ["self", "at"] (defScope iBadCode) := ⟨rfl, rfl, rfl, by decide +kernel, rfl, by decide +kernel, by decide +kernel⟩
theorem oBadCode {fI C : Addr} {fd : FuncData} (F : Fun K "__init__" "BadCode.__init__" iBadCode fI fd) (O : OwnX K C fI) (g : mg "BadCode" = some (.ref C)) (Z : PySem.ExV.ClsX K C) (no : PySem.W.findIn K (.ref C) "at" = some none) : One P w K mg base C "BadCode" "at" := by
  obtain ⟨b1, b2⟩ := kb1 (f := "at") F (fun _ _ _ _ _ _ _ _ => rfl) (fun _ _ _ _ _ _ _ _ => rfl)
  refine ⟨⟨fI, fd, O, F.ok sBadCode (fun vs H Q E h => ?_) (fun cdv A outer s H vs Q E hr h => ?_), b1, b2⟩, g, Z, no⟩
  · obtain ⟨a, v, rfl, _⟩ := h
    rfl
  · obtain ⟨a, v, rfl, ha, k⟩ := h
    exact ⟨_, pss_one (ps_ost (pv 0) (pv 1)), _, rfl, _, rfl, a, C, rfl, O.T, no, .inl ⟨ha, fun dx hd ne => k dx hd ne⟩⟩
abbrev iHasSource : Stmt := inClass (top 22) 0
theorem sHasSource : FnScope ["self", "name"] ["self", "name"] (defScope iHasSource) := ⟨rfl, rfl, rfl, by decide +kernel, rfl, by decide +kernel, by decide +kernel⟩
theorem oHasSource {fI C : Addr} {fd : FuncData} (F : Fun K "__init__" "HasSource.__init__" iHasSource fI fd) (O : OwnX K C fI) (g : mg "HasSource" = some (.ref C)) (Z : PySem.ExV.ClsX K C) (no : PySem.W.findIn K (.ref C) "name" = some none) : One P w K mg base C "HasSource" "name" := by
  obtain ⟨b1, b2⟩ := kb1 (f := "name") F (fun _ _ _ _ _ _ _ _ => rfl) (fun _ _ _ _ _ _ _ _ => rfl)
  refine ⟨⟨fI, fd, O, F.ok sHasSource (fun vs H Q E h => ?_) (fun cdv A outer s H vs Q E hr h => ?_), b1, b2⟩, g, Z, no⟩
  · obtain ⟨a, v, rfl, _⟩ := h
    rfl
  · obtain ⟨a, v, rfl, ha, k⟩ := h
    exact ⟨_, pss_one (ps_ost (pv 0) (pv 1)), _, rfl, _, rfl, a, C, rfl, O.T, no, .inl ⟨ha, fun dx hd ne => k dx hd ne⟩⟩
abbrev iBadPromise : Stmt := inClass (top 26) 0
theorem sBadPromise : FnScope ["self", "promise"] ["self", "promise"] (defScope iBadPromise) := ⟨rfl, rfl, rfl, by decide +kernel, rfl, by decide +kernel, by decide +kernel⟩
theorem oBadPromise {fI C : Addr} {fd : FuncData} (F : Fun K "__init__" "BadPromise.__init__" iBadPromise fI fd) (O : OwnX K C fI) (g : mg "BadPromise" = some (.ref C)) (Z : PySem.ExV.ClsX K C) (no : PySem.W.findIn K (.ref C) "promise" = some none) : One P w K mg base C "BadPromise" "promise" := by
  obtain ⟨b1, b2⟩ := kb1 (f := "promise") F (fun _ _ _ _ _ _ _ _ => rfl) (fun _ _ _ _ _ _ _ _ => rfl)
  refine ⟨⟨fI, fd, O, F.ok sBadPromise (fun vs H Q E h => ?_) (fun cdv A outer s H vs Q E hr h => ?_), b1, b2⟩, g, Z, no⟩
  · obtain ⟨a, v, rfl, _⟩ := h
    rfl
  · obtain ⟨a, v, rfl, ha, k⟩ := h
    exact ⟨_, pss_one (ps_ost (pv 0) (pv 1)), _, rfl, _, rfl, a, C, rfl, O.T, no, .inl ⟨ha, fun dx hd ne => k dx hd ne⟩⟩
abbrev iNotMade : Stmt := inClass (top 28) 0
theorem sNotMade : FnScope ["self", "promise"] ["self", "promise"] (defScope iNotMade) := ⟨rfl, rfl, rfl, by decide +kernel, rfl, by decide +kernel, by decide +kernel⟩
theorem oNotMade {fI C : Addr} {fd : FuncData} (F : Fun K "__init__" "NotMade.__init__" iNotMade fI fd) (O : OwnX K C fI) (g : mg "NotMade" = some (.ref C)) (Z : PySem.ExV.ClsX K C) (no : PySem.W.findIn K (.ref C) "promise" = some none) : One P w K mg base C "NotMade" "promise" := by
  obtain ⟨b1, b2⟩ := kb1 (f := "promise") F (fun _ _ _ _ _ _ _ _ => rfl) (fun _ _ _ _ _ _ _ _ => rfl)
  refine ⟨⟨fI, fd, O, F.ok sNotMade (fun vs H Q E h => ?_) (fun cdv A outer s H vs Q E hr h => ?_), b1, b2⟩, g, Z, no⟩
  · obtain ⟨a, v, rfl, _⟩ := h
    rfl
  · obtain ⟨a, v, rfl, ha, k⟩ := h
    exact ⟨_, pss_one (ps_ost (pv 0) (pv 1)), _, rfl, _, rfl, a, C, rfl, O.T, no, .inl ⟨ha, fun dx hd ne => k dx hd ne⟩⟩
abbrev iNotAFile : Stmt := inClass (top 25) 0
theorem sNotAFile : FnScope ["self", "line", "at"] ["self", "line", "at"] (defScope iNotAFile) := ⟨rfl, rfl, rfl, by decide +kernel, rfl, by decide +kernel, by decide +kernel⟩
theorem oNotAFile {fI C : Addr} {fd : FuncData} (F : Fun K "__init__" "NotAFile.__init__" iNotAFile fI fd) (O : OwnX K C fI) (g : mg "NotAFile" = some (.ref C)) (Z : PySem.ExV.ClsX K C) (no : PySem.W.findIn K (.ref C) "line" = some none) (no2 : PySem.W.findIn K (.ref C) "at" = some none) : Two P w K mg base C "NotAFile" "line" "at" := by
  obtain ⟨b1, b2, b3⟩ := kb2 (f := "line") (h := "at") F (fun _ _ _ _ _ _ _ _ _ => rfl) (fun _ _ _ _ _ _ _ _ _ => rfl) (fun _ _ _ _ _ _ _ _ _ => rfl)
  refine ⟨⟨fI, fd, O, F.ok sNotAFile (fun vs H Q E h => ?_) (fun cdv A outer s H vs Q E hr h => ?_), b1, b2, b3⟩, g, Z, no, no2⟩
  · obtain ⟨a, v, u, rfl, _⟩ := h
    rfl
  · obtain ⟨a, v, u, rfl, ha, k⟩ := h
    refine ⟨_, pss_cons (ps_ost (pv 0) (pv 1)) (pss_one (ps_ost (pv 0) (pv 2))), _, rfl, _, rfl, a, C, rfl, O.T, no, .inl ⟨ha, fun dx hd ne => ?_⟩⟩
    exact ⟨_, rfl, _, rfl, a, C, rfl, O.T, no2, .inr ⟨dx, _, upd_same, by rw [upd_ne ne, upd_same], by show 1 ≤ 900; decide, k dx hd ne⟩⟩
abbrev iBroken : Stmt := inClass (top 27) 0
theorem sBroken : FnScope ["self", "promise", "paper"] ["self", "promise", "paper"] (defScope iBroken) := ⟨rfl, rfl, rfl, by decide +kernel, rfl, by decide +kernel, by decide +kernel⟩
theorem oBroken {fI C : Addr} {fd : FuncData} (F : Fun K "__init__" "Broken.__init__" iBroken fI fd) (O : OwnX K C fI) (g : mg "Broken" = some (.ref C)) (Z : PySem.ExV.ClsX K C) (no : PySem.W.findIn K (.ref C) "promise" = some none) (no2 : PySem.W.findIn K (.ref C) "paper" = some none) : Two P w K mg base C "Broken" "promise" "paper" := by
  obtain ⟨b1, b2, b3⟩ := kb2 (f := "promise") (h := "paper") F (fun _ _ _ _ _ _ _ _ _ => rfl) (fun _ _ _ _ _ _ _ _ _ => rfl) (fun _ _ _ _ _ _ _ _ _ => rfl)
  refine ⟨⟨fI, fd, O, F.ok sBroken (fun vs H Q E h => ?_) (fun cdv A outer s H vs Q E hr h => ?_), b1, b2, b3⟩, g, Z, no, no2⟩
  · obtain ⟨a, v, u, rfl, _⟩ := h
    rfl
  · obtain ⟨a, v, u, rfl, ha, k⟩ := h
    refine ⟨_, pss_cons (ps_ost (pv 0) (pv 1)) (pss_one (ps_ost (pv 0) (pv 2))), _, rfl, _, rfl, a, C, rfl, O.T, no, .inl ⟨ha, fun dx hd ne => ?_⟩⟩
    exact ⟨_, rfl, _, rfl, a, C, rfl, O.T, no2, .inr ⟨dx, _, upd_same, by rw [upd_ne ne, upd_same], by show 1 ≤ 900; decide, k dx hd ne⟩⟩
end
end K00

namespace K00
open PySem PySem.Spec PyProof.Rows L2
/-- all error classes: at c i the i-th one, at S what they stand below -/
structure Errs (P : Program) (w : World) (K : PySem.W.Frag) (mg : Str → Option Value) (base : Heap) (c : Nat → Addr) (S : Addr) : Prop where
  BadValue : One P w K mg base (c 0) "BadValue" "value"
  NoDivisor : Bare K mg (c 1) "NoDivisor"
  AtNought : Bare K mg (c 2) "AtNought"
  NotAText : One P w K mg base (c 3) "NotAText" "at"
  NoGiver : One P w K mg base (c 4) "NoGiver" "name"
  TwoGivers : One P w K mg base (c 5) "TwoGivers" "name"
  Unknown : One P w K mg base (c 6) "Unknown" "name"
  Taken : One P w K mg base (c 7) "Taken" "name"
  Apart : One P w K mg base (c 8) "Apart" "name"
  Within : One P w K mg base (c 9) "Within" "name"
  Unpaced : One P w K mg base (c 10) "Unpaced" "at"
  TooMany : One P w K mg base (c 11) "TooMany" "most"
  StandsStill : Bare K mg (c 12) "StandsStill"
  CannotStep : One P w K mg base (c 13) "CannotStep" "box"
  Unlike : Bare K mg (c 14) "Unlike"
  Singular : Bare K mg (c 15) "Singular"
  NotSquare : Bare K mg (c 16) "NotSquare"
  NotUndone : Bare K mg (c 17) "NotUndone"
  HasLoops : Bare K mg (c 18) "HasLoops"
  BadCode : One P w K mg base (c 19) "BadCode" "at"
  HasSource : One P w K mg base (c 20) "HasSource" "name"
  NotOfNet : Bare K mg (c 21) "NotOfNet"
  NotDriven : Bare K mg (c 22) "NotDriven"
  NotAFile : Two P w K mg base (c 23) "NotAFile" "line" "at"
  BadPromise : One P w K mg base (c 24) "BadPromise" "promise"
  Broken : Two P w K mg base (c 25) "Broken" "promise" "paper"
  NotMade : One P w K mg base (c 26) "NotMade" "promise"
  NothingToUndo : Bare K mg (c 27) "NothingToUndo"
  NothingToRedo : Bare K mg (c 28) "NothingToRedo"
  Z : ∀ i, i < 29 → PySem.ExV.ClsX K (c i)
  sub : ∀ i j, i < 29 → j < 29 → PySem.W.kitOne K (.ref (c i)) (.ref (c j)) = some (decide (i = j))
  subS : ∀ i, i < 29 → PySem.W.kitOne K (.ref (c i)) (.ref S) = some true
  subV : ∀ i, i < 29 → PySem.W.kitOne K (.ref (c i)) (.type "ValueError") = some true
  exm : ∀ i, i < 29 → PySem.W.exmOne K (.ref (c i)) (.ref S) = some true
  ty : ∀ i, i < 29 → PySem.W.typeIn K (.ref (c i)) = some (.type "type")
  gS : mg "StreamError" = some (.ref S)
  int : mg "int" = none
  len : mg "len" = none
  isi : mg "isinstance" = none
  all : mg "all" = none
  range : mg "range" = none
  VE : mg "ValueError" = none
abbrev sKinds : Stmt := top 37
theorem xat_same {H H' : Hp} {a C : Addr} (x : XAt H a C) (s : Same H H') : XAt H' a C := by
  rcases x with ⟨dx, fs, h1, h2⟩ | h
  · exact .inl ⟨dx, fs, s _ _ h1, s _ _ h2⟩
  · exact .inr (s _ _ h)
/-- what _law_kinds tells of the i-th error -/
def kindsOf (i : Nat) : List Int := (List.range 29).map fun j => if i = j then 1 else 0
def spKinds (c : Nat → Addr) : Sp := fun vs H Q _ => ∃ (a : Addr) (i : Nat), vs = [.ref a] ∧ i < 29 ∧ XAt H a (c i) ∧ ∀ (l : Addr) (H' : Hp), Same H H' → H' l = some (.lst ((kindsOf i).map V.int)) → Q (.ref l) H'
theorem pe_cls {X : Cx} {x : Str} {C : Addr} {pos : Pos} (hm : X.mg x = some (.ref C)) (hg : Gl X x := by rfl) (hd : (x == ("__debug__" : Str)) = false := by decide) : PE X (.Name x pos) (tC (.ref C)) := pe_glob hg hm rfl hd
theorem take_one {α : Type} {l : List α} {i : Nat} {x : α} (h : l[i]? = some x) : l.take (i + 1) = l.take i ++ [x] := by
  rw [List.take_succ, h]
  rfl
section
variable {P : Program} {w : World} {K : PySem.W.Frag} {mg : Str → Option Value} {base : Heap} {c : Nat → Addr} {S : Addr}
theorem scKinds : FnScope ["_law_error", "_law_told", "_law_once"] ["_law_error"] (defScope sKinds) := ⟨rfl, rfl, rfl, by decide +kernel, rfl, by decide +kernel, by decide +kernel⟩
theorem ok_kinds {f : Addr} {fd : FuncData} (F : Fun K "_law_kinds" "_law_kinds" sKinds f fd) (T : Errs P w K mg base c S) : FnOk P w K mg base CX0 1 f fd ["_law_error"] (spKinds c) := by
  refine F.ok scKinds (fun vs H Q E h => ?_) (fun cdv A outer s H vs Q E hr h => ?_)
  · obtain ⟨a, i, rfl, _⟩ := h
    rfl
  · obtain ⟨a, i, rfl, hi, x0, k⟩ := h
    have nd := scKinds.nd
    refine ⟨_, (pss_cons (ps_set (i := 1) nd rfl (Or.inl rfl) (pe_lst pa_nil))
      (pss_cons (ps_set (i := 1) nd rfl (Or.inl rfl) (pe_op op_cat (pv 1) (pe_lst (pa_cons (pe_callB call_isX (by rfl) T.isi (by decide +kernel) (pa_cons (pv 0) (pa_cons (pe_cls T.BadValue.g) pa_nil))) (pa_cons (pe_callB call_isX (by rfl) T.isi (by decide +kernel) (pa_cons (pv 0) (pa_cons (pe_cls T.NoDivisor.g) pa_nil))) (pa_cons (pe_callB call_isX (by rfl) T.isi (by decide +kernel) (pa_cons (pv 0) (pa_cons (pe_cls T.AtNought.g) pa_nil))) pa_nil))))))
      (pss_cons (ps_set (i := 1) nd rfl (Or.inl rfl) (pe_op op_cat (pv 1) (pe_lst (pa_cons (pe_callB call_isX (by rfl) T.isi (by decide +kernel) (pa_cons (pv 0) (pa_cons (pe_cls T.NotAText.g) pa_nil))) (pa_cons (pe_callB call_isX (by rfl) T.isi (by decide +kernel) (pa_cons (pv 0) (pa_cons (pe_cls T.NoGiver.g) pa_nil))) (pa_cons (pe_callB call_isX (by rfl) T.isi (by decide +kernel) (pa_cons (pv 0) (pa_cons (pe_cls T.TwoGivers.g) pa_nil))) pa_nil))))))
      (pss_cons (ps_set (i := 1) nd rfl (Or.inl rfl) (pe_op op_cat (pv 1) (pe_lst (pa_cons (pe_callB call_isX (by rfl) T.isi (by decide +kernel) (pa_cons (pv 0) (pa_cons (pe_cls T.Unknown.g) pa_nil))) (pa_cons (pe_callB call_isX (by rfl) T.isi (by decide +kernel) (pa_cons (pv 0) (pa_cons (pe_cls T.Taken.g) pa_nil))) (pa_cons (pe_callB call_isX (by rfl) T.isi (by decide +kernel) (pa_cons (pv 0) (pa_cons (pe_cls T.Apart.g) pa_nil))) pa_nil))))))
      (pss_cons (ps_set (i := 1) nd rfl (Or.inl rfl) (pe_op op_cat (pv 1) (pe_lst (pa_cons (pe_callB call_isX (by rfl) T.isi (by decide +kernel) (pa_cons (pv 0) (pa_cons (pe_cls T.Within.g) pa_nil))) (pa_cons (pe_callB call_isX (by rfl) T.isi (by decide +kernel) (pa_cons (pv 0) (pa_cons (pe_cls T.Unpaced.g) pa_nil))) (pa_cons (pe_callB call_isX (by rfl) T.isi (by decide +kernel) (pa_cons (pv 0) (pa_cons (pe_cls T.TooMany.g) pa_nil))) pa_nil))))))
      (pss_cons (ps_set (i := 1) nd rfl (Or.inl rfl) (pe_op op_cat (pv 1) (pe_lst (pa_cons (pe_callB call_isX (by rfl) T.isi (by decide +kernel) (pa_cons (pv 0) (pa_cons (pe_cls T.StandsStill.g) pa_nil))) (pa_cons (pe_callB call_isX (by rfl) T.isi (by decide +kernel) (pa_cons (pv 0) (pa_cons (pe_cls T.CannotStep.g) pa_nil))) (pa_cons (pe_callB call_isX (by rfl) T.isi (by decide +kernel) (pa_cons (pv 0) (pa_cons (pe_cls T.Unlike.g) pa_nil))) pa_nil))))))
      (pss_cons (ps_set (i := 1) nd rfl (Or.inl rfl) (pe_op op_cat (pv 1) (pe_lst (pa_cons (pe_callB call_isX (by rfl) T.isi (by decide +kernel) (pa_cons (pv 0) (pa_cons (pe_cls T.Singular.g) pa_nil))) (pa_cons (pe_callB call_isX (by rfl) T.isi (by decide +kernel) (pa_cons (pv 0) (pa_cons (pe_cls T.NotSquare.g) pa_nil))) (pa_cons (pe_callB call_isX (by rfl) T.isi (by decide +kernel) (pa_cons (pv 0) (pa_cons (pe_cls T.NotUndone.g) pa_nil))) pa_nil))))))
      (pss_cons (ps_set (i := 1) nd rfl (Or.inl rfl) (pe_op op_cat (pv 1) (pe_lst (pa_cons (pe_callB call_isX (by rfl) T.isi (by decide +kernel) (pa_cons (pv 0) (pa_cons (pe_cls T.HasLoops.g) pa_nil))) (pa_cons (pe_callB call_isX (by rfl) T.isi (by decide +kernel) (pa_cons (pv 0) (pa_cons (pe_cls T.BadCode.g) pa_nil))) (pa_cons (pe_callB call_isX (by rfl) T.isi (by decide +kernel) (pa_cons (pv 0) (pa_cons (pe_cls T.HasSource.g) pa_nil))) pa_nil))))))
      (pss_cons (ps_set (i := 1) nd rfl (Or.inl rfl) (pe_op op_cat (pv 1) (pe_lst (pa_cons (pe_callB call_isX (by rfl) T.isi (by decide +kernel) (pa_cons (pv 0) (pa_cons (pe_cls T.NotOfNet.g) pa_nil))) (pa_cons (pe_callB call_isX (by rfl) T.isi (by decide +kernel) (pa_cons (pv 0) (pa_cons (pe_cls T.NotDriven.g) pa_nil))) (pa_cons (pe_callB call_isX (by rfl) T.isi (by decide +kernel) (pa_cons (pv 0) (pa_cons (pe_cls T.NotAFile.g) pa_nil))) pa_nil))))))
      (pss_cons (ps_set (i := 1) nd rfl (Or.inl rfl) (pe_op op_cat (pv 1) (pe_lst (pa_cons (pe_callB call_isX (by rfl) T.isi (by decide +kernel) (pa_cons (pv 0) (pa_cons (pe_cls T.BadPromise.g) pa_nil))) (pa_cons (pe_callB call_isX (by rfl) T.isi (by decide +kernel) (pa_cons (pv 0) (pa_cons (pe_cls T.Broken.g) pa_nil))) (pa_cons (pe_callB call_isX (by rfl) T.isi (by decide +kernel) (pa_cons (pv 0) (pa_cons (pe_cls T.NotMade.g) pa_nil))) pa_nil))))))
      (pss_cons (ps_set (i := 1) nd rfl (Or.inl rfl) (pe_op op_cat (pv 1) (pe_lst (pa_cons (pe_callB call_isX (by rfl) T.isi (by decide +kernel) (pa_cons (pv 0) (pa_cons (pe_cls T.NothingToUndo.g) pa_nil))) (pa_cons (pe_callB call_isX (by rfl) T.isi (by decide +kernel) (pa_cons (pv 0) (pa_cons (pe_cls T.NothingToRedo.g) pa_nil))) pa_nil)))))
      (pss_one (ps_ret (pe_lc (own := [("_law_once", 2)]) (g := gName 2) (tt := tYes) rfl nd (pi_list (pv 1)) (blkOk_by (N := ["_law_error", "_law_told", "_law_once"]) (sc := defScope sKinds) (by decide +kernel)) (fun _ _ _ _ _ => pg_name (i := 2) nd rfl (Or.inl rfl)) (fun _ _ _ _ _ => pts_nil) (fun _ _ _ _ _ => pe_callTy call_int1 (by rfl) T.int (by decide +kernel) (pa_cons (pv 2) pa_nil)))))))))))))))), ?_⟩
    refine ⟨by show 0 ≤ sizeLine; decide, fun l0 n0 => ?_⟩
    have s0 : Same H (upd H l0 (.lst [])) := Same.new (fun _ _ e => e) n0
    have e0 : upd H l0 (.lst []) l0 = some (.lst []) := upd_same
    generalize upd H l0 (.lst []) = H0 at s0 e0 ⊢
    refine ⟨_, rfl, _, rfl, a, c i, _, _, _, rfl, ClsV.own _, xat_same x0 s0, T.Z i hi, T.sub i 0 hi (by decide), _, rfl, a, c i, _, _, _, rfl, ClsV.own _, xat_same x0 s0, T.Z i hi, T.sub i 1 hi (by decide), _, rfl, a, c i, _, _, _, rfl, ClsV.own _, xat_same x0 s0, T.Z i hi, T.sub i 2 hi (by decide), by show 3 ≤ sizeLine; decide, fun m0 q0 => ?_⟩
    have a0 : upd H0 m0 (.lst [V.bl (decide (i = 0)), V.bl (decide (i = 1)), V.bl (decide (i = 2))]) m0 = some (.lst [V.bl (decide (i = 0)), V.bl (decide (i = 1)), V.bl (decide (i = 2))]) := upd_same
    refine ⟨l0, m0, [], _, rfl, rfl, by rw [upd_ne (ne_of_none e0 q0)]; exact e0, a0, by show 3 ≤ sizeLine; decide, fun l1 n1 => ?_⟩
    have s1 := (s0.new (o := .lst [V.bl (decide (i = 0)), V.bl (decide (i = 1)), V.bl (decide (i = 2))]) q0).new (o := .lst ([] ++ [V.bl (decide (i = 0)), V.bl (decide (i = 1)), V.bl (decide (i = 2))])) n1
    have e1 : upd (upd H0 m0 (.lst [V.bl (decide (i = 0)), V.bl (decide (i = 1)), V.bl (decide (i = 2))])) l1 (.lst ([] ++ [V.bl (decide (i = 0)), V.bl (decide (i = 1)), V.bl (decide (i = 2))])) l1 = some (.lst ((List.range 3).map fun j => V.bl (decide (i = j)))) := upd_same
    generalize upd (upd H0 m0 (.lst [V.bl (decide (i = 0)), V.bl (decide (i = 1)), V.bl (decide (i = 2))])) l1 (.lst ([] ++ [V.bl (decide (i = 0)), V.bl (decide (i = 1)), V.bl (decide (i = 2))])) = H1 at s1 e1 ⊢
    refine ⟨_, rfl, _, rfl, a, c i, _, _, _, rfl, ClsV.own _, xat_same x0 s1, T.Z i hi, T.sub i 3 hi (by decide), _, rfl, a, c i, _, _, _, rfl, ClsV.own _, xat_same x0 s1, T.Z i hi, T.sub i 4 hi (by decide), _, rfl, a, c i, _, _, _, rfl, ClsV.own _, xat_same x0 s1, T.Z i hi, T.sub i 5 hi (by decide), by show 3 ≤ sizeLine; decide, fun m1 q1 => ?_⟩
    have a1 : upd H1 m1 (.lst [V.bl (decide (i = 3)), V.bl (decide (i = 4)), V.bl (decide (i = 5))]) m1 = some (.lst [V.bl (decide (i = 3)), V.bl (decide (i = 4)), V.bl (decide (i = 5))]) := upd_same
    refine ⟨l1, m1, ((List.range 3).map fun j => V.bl (decide (i = j))), _, rfl, rfl, by rw [upd_ne (ne_of_none e1 q1)]; exact e1, a1, by show 6 ≤ sizeLine; decide, fun l2 n2 => ?_⟩
    have s2 := (s1.new (o := .lst [V.bl (decide (i = 3)), V.bl (decide (i = 4)), V.bl (decide (i = 5))]) q1).new (o := .lst (((List.range 3).map fun j => V.bl (decide (i = j))) ++ [V.bl (decide (i = 3)), V.bl (decide (i = 4)), V.bl (decide (i = 5))])) n2
    have e2 : upd (upd H1 m1 (.lst [V.bl (decide (i = 3)), V.bl (decide (i = 4)), V.bl (decide (i = 5))])) l2 (.lst (((List.range 3).map fun j => V.bl (decide (i = j))) ++ [V.bl (decide (i = 3)), V.bl (decide (i = 4)), V.bl (decide (i = 5))])) l2 = some (.lst ((List.range 6).map fun j => V.bl (decide (i = j)))) := upd_same
    generalize upd (upd H1 m1 (.lst [V.bl (decide (i = 3)), V.bl (decide (i = 4)), V.bl (decide (i = 5))])) l2 (.lst (((List.range 3).map fun j => V.bl (decide (i = j))) ++ [V.bl (decide (i = 3)), V.bl (decide (i = 4)), V.bl (decide (i = 5))])) = H2 at s2 e2 ⊢
    refine ⟨_, rfl, _, rfl, a, c i, _, _, _, rfl, ClsV.own _, xat_same x0 s2, T.Z i hi, T.sub i 6 hi (by decide), _, rfl, a, c i, _, _, _, rfl, ClsV.own _, xat_same x0 s2, T.Z i hi, T.sub i 7 hi (by decide), _, rfl, a, c i, _, _, _, rfl, ClsV.own _, xat_same x0 s2, T.Z i hi, T.sub i 8 hi (by decide), by show 3 ≤ sizeLine; decide, fun m2 q2 => ?_⟩
    have a2 : upd H2 m2 (.lst [V.bl (decide (i = 6)), V.bl (decide (i = 7)), V.bl (decide (i = 8))]) m2 = some (.lst [V.bl (decide (i = 6)), V.bl (decide (i = 7)), V.bl (decide (i = 8))]) := upd_same
    refine ⟨l2, m2, ((List.range 6).map fun j => V.bl (decide (i = j))), _, rfl, rfl, by rw [upd_ne (ne_of_none e2 q2)]; exact e2, a2, by show 9 ≤ sizeLine; decide, fun l3 n3 => ?_⟩
    have s3 := (s2.new (o := .lst [V.bl (decide (i = 6)), V.bl (decide (i = 7)), V.bl (decide (i = 8))]) q2).new (o := .lst (((List.range 6).map fun j => V.bl (decide (i = j))) ++ [V.bl (decide (i = 6)), V.bl (decide (i = 7)), V.bl (decide (i = 8))])) n3
    have e3 : upd (upd H2 m2 (.lst [V.bl (decide (i = 6)), V.bl (decide (i = 7)), V.bl (decide (i = 8))])) l3 (.lst (((List.range 6).map fun j => V.bl (decide (i = j))) ++ [V.bl (decide (i = 6)), V.bl (decide (i = 7)), V.bl (decide (i = 8))])) l3 = some (.lst ((List.range 9).map fun j => V.bl (decide (i = j)))) := upd_same
    generalize upd (upd H2 m2 (.lst [V.bl (decide (i = 6)), V.bl (decide (i = 7)), V.bl (decide (i = 8))])) l3 (.lst (((List.range 6).map fun j => V.bl (decide (i = j))) ++ [V.bl (decide (i = 6)), V.bl (decide (i = 7)), V.bl (decide (i = 8))])) = H3 at s3 e3 ⊢
    refine ⟨_, rfl, _, rfl, a, c i, _, _, _, rfl, ClsV.own _, xat_same x0 s3, T.Z i hi, T.sub i 9 hi (by decide), _, rfl, a, c i, _, _, _, rfl, ClsV.own _, xat_same x0 s3, T.Z i hi, T.sub i 10 hi (by decide), _, rfl, a, c i, _, _, _, rfl, ClsV.own _, xat_same x0 s3, T.Z i hi, T.sub i 11 hi (by decide), by show 3 ≤ sizeLine; decide, fun m3 q3 => ?_⟩
    have a3 : upd H3 m3 (.lst [V.bl (decide (i = 9)), V.bl (decide (i = 10)), V.bl (decide (i = 11))]) m3 = some (.lst [V.bl (decide (i = 9)), V.bl (decide (i = 10)), V.bl (decide (i = 11))]) := upd_same
    refine ⟨l3, m3, ((List.range 9).map fun j => V.bl (decide (i = j))), _, rfl, rfl, by rw [upd_ne (ne_of_none e3 q3)]; exact e3, a3, by show 12 ≤ sizeLine; decide, fun l4 n4 => ?_⟩
    have s4 := (s3.new (o := .lst [V.bl (decide (i = 9)), V.bl (decide (i = 10)), V.bl (decide (i = 11))]) q3).new (o := .lst (((List.range 9).map fun j => V.bl (decide (i = j))) ++ [V.bl (decide (i = 9)), V.bl (decide (i = 10)), V.bl (decide (i = 11))])) n4
    have e4 : upd (upd H3 m3 (.lst [V.bl (decide (i = 9)), V.bl (decide (i = 10)), V.bl (decide (i = 11))])) l4 (.lst (((List.range 9).map fun j => V.bl (decide (i = j))) ++ [V.bl (decide (i = 9)), V.bl (decide (i = 10)), V.bl (decide (i = 11))])) l4 = some (.lst ((List.range 12).map fun j => V.bl (decide (i = j)))) := upd_same
    generalize upd (upd H3 m3 (.lst [V.bl (decide (i = 9)), V.bl (decide (i = 10)), V.bl (decide (i = 11))])) l4 (.lst (((List.range 9).map fun j => V.bl (decide (i = j))) ++ [V.bl (decide (i = 9)), V.bl (decide (i = 10)), V.bl (decide (i = 11))])) = H4 at s4 e4 ⊢
    refine ⟨_, rfl, _, rfl, a, c i, _, _, _, rfl, ClsV.own _, xat_same x0 s4, T.Z i hi, T.sub i 12 hi (by decide), _, rfl, a, c i, _, _, _, rfl, ClsV.own _, xat_same x0 s4, T.Z i hi, T.sub i 13 hi (by decide), _, rfl, a, c i, _, _, _, rfl, ClsV.own _, xat_same x0 s4, T.Z i hi, T.sub i 14 hi (by decide), by show 3 ≤ sizeLine; decide, fun m4 q4 => ?_⟩
    have a4 : upd H4 m4 (.lst [V.bl (decide (i = 12)), V.bl (decide (i = 13)), V.bl (decide (i = 14))]) m4 = some (.lst [V.bl (decide (i = 12)), V.bl (decide (i = 13)), V.bl (decide (i = 14))]) := upd_same
    refine ⟨l4, m4, ((List.range 12).map fun j => V.bl (decide (i = j))), _, rfl, rfl, by rw [upd_ne (ne_of_none e4 q4)]; exact e4, a4, by show 15 ≤ sizeLine; decide, fun l5 n5 => ?_⟩
    have s5 := (s4.new (o := .lst [V.bl (decide (i = 12)), V.bl (decide (i = 13)), V.bl (decide (i = 14))]) q4).new (o := .lst (((List.range 12).map fun j => V.bl (decide (i = j))) ++ [V.bl (decide (i = 12)), V.bl (decide (i = 13)), V.bl (decide (i = 14))])) n5
    have e5 : upd (upd H4 m4 (.lst [V.bl (decide (i = 12)), V.bl (decide (i = 13)), V.bl (decide (i = 14))])) l5 (.lst (((List.range 12).map fun j => V.bl (decide (i = j))) ++ [V.bl (decide (i = 12)), V.bl (decide (i = 13)), V.bl (decide (i = 14))])) l5 = some (.lst ((List.range 15).map fun j => V.bl (decide (i = j)))) := upd_same
    generalize upd (upd H4 m4 (.lst [V.bl (decide (i = 12)), V.bl (decide (i = 13)), V.bl (decide (i = 14))])) l5 (.lst (((List.range 12).map fun j => V.bl (decide (i = j))) ++ [V.bl (decide (i = 12)), V.bl (decide (i = 13)), V.bl (decide (i = 14))])) = H5 at s5 e5 ⊢
    refine ⟨_, rfl, _, rfl, a, c i, _, _, _, rfl, ClsV.own _, xat_same x0 s5, T.Z i hi, T.sub i 15 hi (by decide), _, rfl, a, c i, _, _, _, rfl, ClsV.own _, xat_same x0 s5, T.Z i hi, T.sub i 16 hi (by decide), _, rfl, a, c i, _, _, _, rfl, ClsV.own _, xat_same x0 s5, T.Z i hi, T.sub i 17 hi (by decide), by show 3 ≤ sizeLine; decide, fun m5 q5 => ?_⟩
    have a5 : upd H5 m5 (.lst [V.bl (decide (i = 15)), V.bl (decide (i = 16)), V.bl (decide (i = 17))]) m5 = some (.lst [V.bl (decide (i = 15)), V.bl (decide (i = 16)), V.bl (decide (i = 17))]) := upd_same
    refine ⟨l5, m5, ((List.range 15).map fun j => V.bl (decide (i = j))), _, rfl, rfl, by rw [upd_ne (ne_of_none e5 q5)]; exact e5, a5, by show 18 ≤ sizeLine; decide, fun l6 n6 => ?_⟩
    have s6 := (s5.new (o := .lst [V.bl (decide (i = 15)), V.bl (decide (i = 16)), V.bl (decide (i = 17))]) q5).new (o := .lst (((List.range 15).map fun j => V.bl (decide (i = j))) ++ [V.bl (decide (i = 15)), V.bl (decide (i = 16)), V.bl (decide (i = 17))])) n6
    have e6 : upd (upd H5 m5 (.lst [V.bl (decide (i = 15)), V.bl (decide (i = 16)), V.bl (decide (i = 17))])) l6 (.lst (((List.range 15).map fun j => V.bl (decide (i = j))) ++ [V.bl (decide (i = 15)), V.bl (decide (i = 16)), V.bl (decide (i = 17))])) l6 = some (.lst ((List.range 18).map fun j => V.bl (decide (i = j)))) := upd_same
    generalize upd (upd H5 m5 (.lst [V.bl (decide (i = 15)), V.bl (decide (i = 16)), V.bl (decide (i = 17))])) l6 (.lst (((List.range 15).map fun j => V.bl (decide (i = j))) ++ [V.bl (decide (i = 15)), V.bl (decide (i = 16)), V.bl (decide (i = 17))])) = H6 at s6 e6 ⊢
    refine ⟨_, rfl, _, rfl, a, c i, _, _, _, rfl, ClsV.own _, xat_same x0 s6, T.Z i hi, T.sub i 18 hi (by decide), _, rfl, a, c i, _, _, _, rfl, ClsV.own _, xat_same x0 s6, T.Z i hi, T.sub i 19 hi (by decide), _, rfl, a, c i, _, _, _, rfl, ClsV.own _, xat_same x0 s6, T.Z i hi, T.sub i 20 hi (by decide), by show 3 ≤ sizeLine; decide, fun m6 q6 => ?_⟩
    have a6 : upd H6 m6 (.lst [V.bl (decide (i = 18)), V.bl (decide (i = 19)), V.bl (decide (i = 20))]) m6 = some (.lst [V.bl (decide (i = 18)), V.bl (decide (i = 19)), V.bl (decide (i = 20))]) := upd_same
    refine ⟨l6, m6, ((List.range 18).map fun j => V.bl (decide (i = j))), _, rfl, rfl, by rw [upd_ne (ne_of_none e6 q6)]; exact e6, a6, by show 21 ≤ sizeLine; decide, fun l7 n7 => ?_⟩
    have s7 := (s6.new (o := .lst [V.bl (decide (i = 18)), V.bl (decide (i = 19)), V.bl (decide (i = 20))]) q6).new (o := .lst (((List.range 18).map fun j => V.bl (decide (i = j))) ++ [V.bl (decide (i = 18)), V.bl (decide (i = 19)), V.bl (decide (i = 20))])) n7
    have e7 : upd (upd H6 m6 (.lst [V.bl (decide (i = 18)), V.bl (decide (i = 19)), V.bl (decide (i = 20))])) l7 (.lst (((List.range 18).map fun j => V.bl (decide (i = j))) ++ [V.bl (decide (i = 18)), V.bl (decide (i = 19)), V.bl (decide (i = 20))])) l7 = some (.lst ((List.range 21).map fun j => V.bl (decide (i = j)))) := upd_same
    generalize upd (upd H6 m6 (.lst [V.bl (decide (i = 18)), V.bl (decide (i = 19)), V.bl (decide (i = 20))])) l7 (.lst (((List.range 18).map fun j => V.bl (decide (i = j))) ++ [V.bl (decide (i = 18)), V.bl (decide (i = 19)), V.bl (decide (i = 20))])) = H7 at s7 e7 ⊢
    refine ⟨_, rfl, _, rfl, a, c i, _, _, _, rfl, ClsV.own _, xat_same x0 s7, T.Z i hi, T.sub i 21 hi (by decide), _, rfl, a, c i, _, _, _, rfl, ClsV.own _, xat_same x0 s7, T.Z i hi, T.sub i 22 hi (by decide), _, rfl, a, c i, _, _, _, rfl, ClsV.own _, xat_same x0 s7, T.Z i hi, T.sub i 23 hi (by decide), by show 3 ≤ sizeLine; decide, fun m7 q7 => ?_⟩
    have a7 : upd H7 m7 (.lst [V.bl (decide (i = 21)), V.bl (decide (i = 22)), V.bl (decide (i = 23))]) m7 = some (.lst [V.bl (decide (i = 21)), V.bl (decide (i = 22)), V.bl (decide (i = 23))]) := upd_same
    refine ⟨l7, m7, ((List.range 21).map fun j => V.bl (decide (i = j))), _, rfl, rfl, by rw [upd_ne (ne_of_none e7 q7)]; exact e7, a7, by show 24 ≤ sizeLine; decide, fun l8 n8 => ?_⟩
    have s8 := (s7.new (o := .lst [V.bl (decide (i = 21)), V.bl (decide (i = 22)), V.bl (decide (i = 23))]) q7).new (o := .lst (((List.range 21).map fun j => V.bl (decide (i = j))) ++ [V.bl (decide (i = 21)), V.bl (decide (i = 22)), V.bl (decide (i = 23))])) n8
    have e8 : upd (upd H7 m7 (.lst [V.bl (decide (i = 21)), V.bl (decide (i = 22)), V.bl (decide (i = 23))])) l8 (.lst (((List.range 21).map fun j => V.bl (decide (i = j))) ++ [V.bl (decide (i = 21)), V.bl (decide (i = 22)), V.bl (decide (i = 23))])) l8 = some (.lst ((List.range 24).map fun j => V.bl (decide (i = j)))) := upd_same
    generalize upd (upd H7 m7 (.lst [V.bl (decide (i = 21)), V.bl (decide (i = 22)), V.bl (decide (i = 23))])) l8 (.lst (((List.range 21).map fun j => V.bl (decide (i = j))) ++ [V.bl (decide (i = 21)), V.bl (decide (i = 22)), V.bl (decide (i = 23))])) = H8 at s8 e8 ⊢
    refine ⟨_, rfl, _, rfl, a, c i, _, _, _, rfl, ClsV.own _, xat_same x0 s8, T.Z i hi, T.sub i 24 hi (by decide), _, rfl, a, c i, _, _, _, rfl, ClsV.own _, xat_same x0 s8, T.Z i hi, T.sub i 25 hi (by decide), _, rfl, a, c i, _, _, _, rfl, ClsV.own _, xat_same x0 s8, T.Z i hi, T.sub i 26 hi (by decide), by show 3 ≤ sizeLine; decide, fun m8 q8 => ?_⟩
    have a8 : upd H8 m8 (.lst [V.bl (decide (i = 24)), V.bl (decide (i = 25)), V.bl (decide (i = 26))]) m8 = some (.lst [V.bl (decide (i = 24)), V.bl (decide (i = 25)), V.bl (decide (i = 26))]) := upd_same
    refine ⟨l8, m8, ((List.range 24).map fun j => V.bl (decide (i = j))), _, rfl, rfl, by rw [upd_ne (ne_of_none e8 q8)]; exact e8, a8, by show 27 ≤ sizeLine; decide, fun l9 n9 => ?_⟩
    have s9 := (s8.new (o := .lst [V.bl (decide (i = 24)), V.bl (decide (i = 25)), V.bl (decide (i = 26))]) q8).new (o := .lst (((List.range 24).map fun j => V.bl (decide (i = j))) ++ [V.bl (decide (i = 24)), V.bl (decide (i = 25)), V.bl (decide (i = 26))])) n9
    have e9 : upd (upd H8 m8 (.lst [V.bl (decide (i = 24)), V.bl (decide (i = 25)), V.bl (decide (i = 26))])) l9 (.lst (((List.range 24).map fun j => V.bl (decide (i = j))) ++ [V.bl (decide (i = 24)), V.bl (decide (i = 25)), V.bl (decide (i = 26))])) l9 = some (.lst ((List.range 27).map fun j => V.bl (decide (i = j)))) := upd_same
    generalize upd (upd H8 m8 (.lst [V.bl (decide (i = 24)), V.bl (decide (i = 25)), V.bl (decide (i = 26))])) l9 (.lst (((List.range 24).map fun j => V.bl (decide (i = j))) ++ [V.bl (decide (i = 24)), V.bl (decide (i = 25)), V.bl (decide (i = 26))])) = H9 at s9 e9 ⊢
    refine ⟨_, rfl, _, rfl, a, c i, _, _, _, rfl, ClsV.own _, xat_same x0 s9, T.Z i hi, T.sub i 27 hi (by decide), _, rfl, a, c i, _, _, _, rfl, ClsV.own _, xat_same x0 s9, T.Z i hi, T.sub i 28 hi (by decide), by show 2 ≤ sizeLine; decide, fun m9 q9 => ?_⟩
    have a9 : upd H9 m9 (.lst [V.bl (decide (i = 27)), V.bl (decide (i = 28))]) m9 = some (.lst [V.bl (decide (i = 27)), V.bl (decide (i = 28))]) := upd_same
    refine ⟨l9, m9, ((List.range 27).map fun j => V.bl (decide (i = j))), _, rfl, rfl, by rw [upd_ne (ne_of_none e9 q9)]; exact e9, a9, by show 29 ≤ sizeLine; decide, fun l10 n10 => ?_⟩
    have s10 := (s9.new (o := .lst [V.bl (decide (i = 27)), V.bl (decide (i = 28))]) q9).new (o := .lst (((List.range 27).map fun j => V.bl (decide (i = j))) ++ [V.bl (decide (i = 27)), V.bl (decide (i = 28))])) n10
    have e10 : upd (upd H9 m9 (.lst [V.bl (decide (i = 27)), V.bl (decide (i = 28))])) l10 (.lst (((List.range 27).map fun j => V.bl (decide (i = j))) ++ [V.bl (decide (i = 27)), V.bl (decide (i = 28))])) l10 = some (.lst ((List.range 29).map fun j => V.bl (decide (i = j)))) := upd_same
    generalize upd (upd H9 m9 (.lst [V.bl (decide (i = 27)), V.bl (decide (i = 28))])) l10 (.lst (((List.range 27).map fun j => V.bl (decide (i = j))) ++ [V.bl (decide (i = 27)), V.bl (decide (i = 28))])) = H10 at s10 e10 ⊢
    have ek : ∀ n (x : V), ((List.range 29).map fun j => V.bl (decide (i = j)))[n]? = some x → x = .bl (decide (i = n)) ∧ ((kindsOf i).map V.int)[n]? = some (.int (if decide (i = n) = true then 1 else 0)) ∧ n < 29 := fun n x hx => by
      have hn : n < 29 := by
        have z := (List.getElem?_eq_some_iff.mp hx).1
        rw [List.length_map, List.length_range] at z
        exact z
      rw [List.getElem?_map, List.getElem?_range hn] at hx
      refine ⟨(Option.some.inj hx).symm, ?_, hn⟩
      unfold kindsOf
      rw [List.map_map, List.getElem?_map, List.getElem?_range hn]
      by_cases q : i = n <;> simp [q]
    refine ⟨_, rfl, l10, rfl, ⟨_, SqL.of e10⟩, fun D hD => lc_list (K := K) (a := l10) (xs := (List.range 29).map fun j => V.bl (decide (i = j)))
      (fun n H2 => Same H H2 ∧ H2 l10 = some (.lst ((List.range 29).map fun j => V.bl (decide (i = j)))) ∧ H2 D = some (.lst (((kindsOf i).map V.int).take n))) ⟨s10.new hD, by rw [upd_ne (ne_of_none e10 hD)]; exact e10, upd_same⟩ (fun n H2 _ p => SqL.of p.2.1) ?_ ?_⟩
    · rintro n x H2 hx ⟨sS, eL, eD⟩
      obtain ⟨rfl, h2, hn⟩ := ek n x hx
      have nel : l10 ≠ D := ne_of_none e10 hD
      have nel2 : ∀ (b : Addr) (o : HO), H b = some o → b ≠ D := fun b o e => ne_of_none (s10 b o e) hD
      refine ⟨rfl, _, rfl, .inr ⟨_, rfl, _, eD, ?_, fun b o e => by rw [upd_ne (nel2 b o e)]; exact sS b o e, by rw [upd_ne nel]; exact eL, ?_⟩⟩
      · exact small1000 (by rw [List.length_take]; omega)
      · rw [upd_same, take_one h2]
    · rintro H2 ⟨sS, eL, eD⟩
      refine k D H2 sS ?_
      rw [eD, List.take_of_length_le]
      rw [List.length_map, List.length_map, List.length_range]
      exact Nat.le_refl _
end
end K00

namespace K00
open PySem PySem.Spec PyProof.Rows L2
abbrev sAlone : Stmt := top 35
abbrev sMore : Stmt := top 36
def Pairs (v : V) (H : Hp) (ts : List Addr) : Prop := ∀ t ∈ ts, H t = some (.tup [v, v])
theorem Pairs.same {v : V} {H H' : Hp} {ts : List Addr} (p : Pairs v H ts) (s : Same H H') : Pairs v H' ts := fun t h => s _ _ (p t h)
theorem Pairs.step {v : V} {H H' : Hp} {ts : List Addr} {t : Addr} (p : Pairs v H ts) (s : Same H H') (ht : H' t = none) : Pairs v (upd H' t (.tup [v, v])) (ts ++ [t]) := fun x h => by
  rcases List.mem_append.mp h with h | h
  · have e := s _ _ (p x h)
    rw [upd_ne (ne_of_none e ht)]
    exact e
  · rw [List.mem_singleton.mp h]
    exact upd_same
theorem lk1 {f : Str} {v : V} : ([(f, v)] : List (Str × V)).lookup f = some v := by simp [List.lookup]
theorem lkA {f g : Str} {v u : V} : ([(g, u), (f, v)] : List (Str × V)).lookup g = some u := by simp [List.lookup]
theorem lkB {f g : Str} {v u : V} (h : ¬ f = g) : ([(g, u), (f, v)] : List (Str × V)).lookup f = some v := by
  have e : (f == g) = false := by simpa using h
  simp [List.lookup, e]
theorem more_step {v u x : V} {H H0 J : Hp} {l t : Addr} {ts : List Addr} (hx : x = v ∨ x = u) (hl : H l = none) (z : Same H H0) (e : H0 l = some (.lst (ts.map V.ref))) (p : ∀ t ∈ ts, H0 t = some (.tup [v, v]) ∨ H0 t = some (.tup [u, u])) (s : Same H0 J) (ht : J t = none) :
    ∃ H1 : Hp, upd (upd J t (.tup [x, x])) l (.lst (ts.map V.ref ++ [.ref t])) = H1 ∧ Same H H1 ∧ H1 l = some (.lst ((ts ++ [t]).map V.ref)) ∧ ∀ t' ∈ ts ++ [t], H1 t' = some (.tup [v, v]) ∨ H1 t' = some (.tup [u, u]) := by
  have eJ := s _ _ e
  have ntl : t ≠ l := fun q => by rw [q, eJ] at ht; cases ht
  refine ⟨_, rfl, fun b o q => ?_, ?_, fun t' h => ?_⟩
  · rw [upd_ne (ne_of_none q hl), upd_ne (ne_of_none (s _ _ (z _ _ q)) ht)]
    exact s _ _ (z _ _ q)
  · rw [upd_same, List.map_append]
    rfl
  · rcases List.mem_append.mp h with h | h
    · have key : ∀ o, H0 t' = some o → o ≠ .lst (ts.map V.ref) → upd (upd J t (.tup [x, x])) l (.lst (ts.map V.ref ++ [.ref t])) t' = some o := fun o q ne => by
        rw [upd_ne (ne_of q e ne), upd_ne (ne_of_none (s _ _ q) ht)]
        exact s _ _ q
      rcases p t' h with q | q
      · exact .inl (key _ q (by intro z; cases z))
      · exact .inr (key _ q (by intro z; cases z))
    · rw [List.mem_singleton.mp h, upd_ne ntl, upd_same]
      rcases hx with rfl | rfl
      · exact .inl rfl
      · exact .inr rfl
def spPick : Sp := fun vs H Q _ => ∃ (d c l : Addr) (s r : Int) (cells : List Int) (xs : List V), vs = [.ref d, .ref l] ∧ PenAt H d c s r cells ∧ 0 ≤ s ∧ s ≤ 100000 ∧ cells.length ≤ 63 ∧ H l = some (.lst xs) ∧ 0 < xs.length ∧ xs.length ≤ 1000 ∧
  ∀ (v : V) (s' r' : Int) (H' : Hp), v ∈ xs → 0 ≤ s' → s' ≤ s + 1 → PenAt H' d c s' r' cells → SameBut d H H' → Q v H'
def spAlone : Sp := fun vs H Q _ => ∃ v : V, vs = [v] ∧ ∀ (l : Addr) (ts : List Addr) (H' : Hp), Same H H' → H' l = some (.lst (ts.map V.ref)) → Pairs v H' ts → Q (.ref l) H'
def spMore : Sp := fun vs H Q _ => ∃ v u : V, vs = [v, u] ∧ ∀ (l : Addr) (ts : List Addr) (H' : Hp), Same H H' → H' l = some (.lst (ts.map V.ref)) → (∀ t ∈ ts, H' t = some (.tup [v, v]) ∨ H' t = some (.tup [u, u])) → Q (.ref l) H'
section
variable {P : Program} {w : World} {K : PySem.W.Frag} {mg : Str → Option Value} {base : Heap} {c : Nat → Addr} {S : Addr}
theorem scPick : FnScope ["_law_pen_here", "_law_some"] ["_law_pen_here", "_law_some"] (defScope sPick) := ⟨rfl, rfl, rfl, by decide +kernel, rfl, by decide +kernel, by decide +kernel⟩
theorem ok_pick {f fD : Addr} {fd fdD : FuncData} (F : Fun K "_law_pick" "_law_pick" sPick f fd) (FD : Fun K "_law_draw" "_law_draw" sDraw fD fdD) (gD : mg "_law_draw" = some (.ref fD)) (bD : Binds K fdD ["_law_pen_here", "_law_many"] []) (T : TxtP mg) :
    FnOk P w K mg base CX0 2 f fd ["_law_pen_here", "_law_some"] spPick := by
  have G : FnOk P w K mg base CX0 1 fD fdD ["_law_pen_here", "_law_many"] spDraw := ok_draw FD T
  refine F.ok scPick (fun vs H Q E h => ?_) (fun cdv A outer s H vs Q E hr h => ?_)
  · obtain ⟨d, c, l, s, r, cells, xs, rfl, _⟩ := h
    rfl
  · obtain ⟨d, c, l, st, r, cells, xs, rfl, p, h0, h1, hl, hx, hp, hm, k⟩ := h
    refine ⟨_, pss_one (ps_ret (pe_ix ix_list (pv 1) (pe_call G hr (by rfl) gD FD.kp bD .nil pass0 (pa_cons (pv 0) (pa_cons (pe_callB call_len_seq (by rfl) T.len PySem.boot_len (pa_cons (pv 1) pa_nil)) pa_nil))) (fun _ _ => rfl))), ?_⟩
    refine ⟨_, rfl, _, rfl, _, rfl, l, _, rfl, .inl (SqL.of hx), d, c, st, r, _, cells, rfl, p, h0, h1, hl, by omega, by omega, fun n s' r' H' a1 a2 a3 a4 a5 a6 => ?_⟩
    have ex : H' l = some (.lst xs) := a6 l _ hx (ne_of hx p.dc (by intro z; cases z))
    obtain ⟨j, rfl⟩ : ∃ j : Nat, n = (j : Int) := ⟨n.toNat, by omega⟩
    have hn : j < xs.length := by omega
    exact ⟨l, xs, _, xs[j], rfl, rfl, SqL.of ex, atI_nat (List.getElem?_eq_getElem hn), k _ s' r' H' (List.getElem_mem hn) a3 a4 a5 a6⟩
theorem scAlone : FnScope ["_law_mine"] ["_law_mine"] (defScope sAlone) := ⟨rfl, rfl, rfl, by decide +kernel, rfl, by decide +kernel, by decide +kernel⟩
theorem ok_alone {f : Addr} {fd : FuncData} (F : Fun K "_law_alone" "_law_alone" sAlone f fd) (T : Errs P w K mg base c S) : FnOk P w K mg base CX0 3 f fd ["_law_mine"] spAlone := by
  refine F.ok scAlone (fun vs H Q E h => ?_) (fun cdv A outer s H vs Q E hr h => ?_)
  · obtain ⟨v, rfl, _⟩ := h
    rfl
  · obtain ⟨v, rfl, k⟩ := h
    refine ⟨_, pss_one (ps_ret (pe_lst (pa_cons (pe_tup (pa_cons (pe_xat (pe_one1 T.BadValue hr (pv 0))) (pa_cons (pe_xat (pe_oneK T.BadValue hr (pv 0))) pa_nil)))
      (pa_cons (pe_tup (pa_cons (pe_xat (pe_one1 T.NotAText hr (pv 0))) (pa_cons (pe_xat (pe_oneK T.NotAText hr (pv 0))) pa_nil)))
      (pa_cons (pe_tup (pa_cons (pe_xat (pe_one1 T.NoGiver hr (pv 0))) (pa_cons (pe_xat (pe_oneK T.NoGiver hr (pv 0))) pa_nil)))
      (pa_cons (pe_tup (pa_cons (pe_xat (pe_one1 T.TwoGivers hr (pv 0))) (pa_cons (pe_xat (pe_oneK T.TwoGivers hr (pv 0))) pa_nil)))
      (pa_cons (pe_tup (pa_cons (pe_xat (pe_one1 T.Unknown hr (pv 0))) (pa_cons (pe_xat (pe_oneK T.Unknown hr (pv 0))) pa_nil)))
      (pa_cons (pe_tup (pa_cons (pe_xat (pe_one1 T.Taken hr (pv 0))) (pa_cons (pe_xat (pe_oneK T.Taken hr (pv 0))) pa_nil)))
      (pa_cons (pe_tup (pa_cons (pe_xat (pe_one1 T.Apart hr (pv 0))) (pa_cons (pe_xat (pe_oneK T.Apart hr (pv 0))) pa_nil)))
      (pa_cons (pe_tup (pa_cons (pe_xat (pe_one1 T.Within hr (pv 0))) (pa_cons (pe_xat (pe_oneK T.Within hr (pv 0))) pa_nil)))
      (pa_cons (pe_tup (pa_cons (pe_xat (pe_one1 T.Unpaced hr (pv 0))) (pa_cons (pe_xat (pe_oneK T.Unpaced hr (pv 0))) pa_nil)))
      (pa_cons (pe_tup (pa_cons (pe_xat (pe_one1 T.TooMany hr (pv 0))) (pa_cons (pe_xat (pe_oneK T.TooMany hr (pv 0))) pa_nil)))
      (pa_cons (pe_tup (pa_cons (pe_xat (pe_one1 T.CannotStep hr (pv 0))) (pa_cons (pe_xat (pe_oneK T.CannotStep hr (pv 0))) pa_nil)))
      (pa_cons (pe_tup (pa_cons (pe_xat (pe_one1 T.BadCode hr (pv 0))) (pa_cons (pe_xat (pe_oneK T.BadCode hr (pv 0))) pa_nil)))
      (pa_cons (pe_tup (pa_cons (pe_xat (pe_one1 T.HasSource hr (pv 0))) (pa_cons (pe_xat (pe_oneK T.HasSource hr (pv 0))) pa_nil)))
      (pa_cons (pe_tup (pa_cons (pe_xat (pe_one1 T.BadPromise hr (pv 0))) (pa_cons (pe_xat (pe_oneK T.BadPromise hr (pv 0))) pa_nil)))
      (pa_cons (pe_tup (pa_cons (pe_xat (pe_one1 T.NotMade hr (pv 0))) (pa_cons (pe_xat (pe_oneK T.NotMade hr (pv 0))) pa_nil)))
      pa_nil))))))))))))))))), ?_⟩
    have z0 : Same H H := fun _ _ e => e
    have p0 : Pairs v H [] := fun _ h => nomatch h
    refine ⟨_, rfl, fun a1 d1 I1 _ _ s1 ea ed => ⟨a1, _, d1, _, _, rfl, T.BadValue.Z, T.BadValue.no, ea, ed, lk1, _, rfl, fun a2 d2 J1 _ _ s2 ea2 ed2 => ⟨a2, _, d2, _, _, rfl, T.BadValue.Z, T.BadValue.no, ea2, ed2, lk1, by show 2 ≤ sizeLine; decide, fun t1 ht => ?_⟩⟩⟩
    have z1 := Same.new (o := .tup [v, v]) (z0.trans (s1.trans s2)) ht
    have p1 := p0.step (s1.trans s2) ht
    clear ea ed ea2 ed2
    generalize upd J1 t1 (.tup [v, v]) = H1 at z1 p1 ⊢
    clear s1 s2 ht
    refine ⟨_, rfl, fun a1 d1 I2 _ _ s1 ea ed => ⟨a1, _, d1, _, _, rfl, T.NotAText.Z, T.NotAText.no, ea, ed, lk1, _, rfl, fun a2 d2 J2 _ _ s2 ea2 ed2 => ⟨a2, _, d2, _, _, rfl, T.NotAText.Z, T.NotAText.no, ea2, ed2, lk1, by show 2 ≤ sizeLine; decide, fun t2 ht => ?_⟩⟩⟩
    have z2 := Same.new (o := .tup [v, v]) (z1.trans (s1.trans s2)) ht
    have p2 := p1.step (s1.trans s2) ht
    clear ea ed ea2 ed2
    generalize upd J2 t2 (.tup [v, v]) = H2 at z2 p2 ⊢
    clear s1 s2 ht
    refine ⟨_, rfl, fun a1 d1 I3 _ _ s1 ea ed => ⟨a1, _, d1, _, _, rfl, T.NoGiver.Z, T.NoGiver.no, ea, ed, lk1, _, rfl, fun a2 d2 J3 _ _ s2 ea2 ed2 => ⟨a2, _, d2, _, _, rfl, T.NoGiver.Z, T.NoGiver.no, ea2, ed2, lk1, by show 2 ≤ sizeLine; decide, fun t3 ht => ?_⟩⟩⟩
    have z3 := Same.new (o := .tup [v, v]) (z2.trans (s1.trans s2)) ht
    have p3 := p2.step (s1.trans s2) ht
    clear ea ed ea2 ed2
    generalize upd J3 t3 (.tup [v, v]) = H3 at z3 p3 ⊢
    clear s1 s2 ht
    refine ⟨_, rfl, fun a1 d1 I4 _ _ s1 ea ed => ⟨a1, _, d1, _, _, rfl, T.TwoGivers.Z, T.TwoGivers.no, ea, ed, lk1, _, rfl, fun a2 d2 J4 _ _ s2 ea2 ed2 => ⟨a2, _, d2, _, _, rfl, T.TwoGivers.Z, T.TwoGivers.no, ea2, ed2, lk1, by show 2 ≤ sizeLine; decide, fun t4 ht => ?_⟩⟩⟩
    have z4 := Same.new (o := .tup [v, v]) (z3.trans (s1.trans s2)) ht
    have p4 := p3.step (s1.trans s2) ht
    clear ea ed ea2 ed2
    generalize upd J4 t4 (.tup [v, v]) = H4 at z4 p4 ⊢
    clear s1 s2 ht
    refine ⟨_, rfl, fun a1 d1 I5 _ _ s1 ea ed => ⟨a1, _, d1, _, _, rfl, T.Unknown.Z, T.Unknown.no, ea, ed, lk1, _, rfl, fun a2 d2 J5 _ _ s2 ea2 ed2 => ⟨a2, _, d2, _, _, rfl, T.Unknown.Z, T.Unknown.no, ea2, ed2, lk1, by show 2 ≤ sizeLine; decide, fun t5 ht => ?_⟩⟩⟩
    have z5 := Same.new (o := .tup [v, v]) (z4.trans (s1.trans s2)) ht
    have p5 := p4.step (s1.trans s2) ht
    clear ea ed ea2 ed2
    generalize upd J5 t5 (.tup [v, v]) = H5 at z5 p5 ⊢
    clear s1 s2 ht
    refine ⟨_, rfl, fun a1 d1 I6 _ _ s1 ea ed => ⟨a1, _, d1, _, _, rfl, T.Taken.Z, T.Taken.no, ea, ed, lk1, _, rfl, fun a2 d2 J6 _ _ s2 ea2 ed2 => ⟨a2, _, d2, _, _, rfl, T.Taken.Z, T.Taken.no, ea2, ed2, lk1, by show 2 ≤ sizeLine; decide, fun t6 ht => ?_⟩⟩⟩
    have z6 := Same.new (o := .tup [v, v]) (z5.trans (s1.trans s2)) ht
    have p6 := p5.step (s1.trans s2) ht
    clear ea ed ea2 ed2
    generalize upd J6 t6 (.tup [v, v]) = H6 at z6 p6 ⊢
    clear s1 s2 ht
    refine ⟨_, rfl, fun a1 d1 I7 _ _ s1 ea ed => ⟨a1, _, d1, _, _, rfl, T.Apart.Z, T.Apart.no, ea, ed, lk1, _, rfl, fun a2 d2 J7 _ _ s2 ea2 ed2 => ⟨a2, _, d2, _, _, rfl, T.Apart.Z, T.Apart.no, ea2, ed2, lk1, by show 2 ≤ sizeLine; decide, fun t7 ht => ?_⟩⟩⟩
    have z7 := Same.new (o := .tup [v, v]) (z6.trans (s1.trans s2)) ht
    have p7 := p6.step (s1.trans s2) ht
    clear ea ed ea2 ed2
    generalize upd J7 t7 (.tup [v, v]) = H7 at z7 p7 ⊢
    clear s1 s2 ht
    refine ⟨_, rfl, fun a1 d1 I8 _ _ s1 ea ed => ⟨a1, _, d1, _, _, rfl, T.Within.Z, T.Within.no, ea, ed, lk1, _, rfl, fun a2 d2 J8 _ _ s2 ea2 ed2 => ⟨a2, _, d2, _, _, rfl, T.Within.Z, T.Within.no, ea2, ed2, lk1, by show 2 ≤ sizeLine; decide, fun t8 ht => ?_⟩⟩⟩
    have z8 := Same.new (o := .tup [v, v]) (z7.trans (s1.trans s2)) ht
    have p8 := p7.step (s1.trans s2) ht
    clear ea ed ea2 ed2
    generalize upd J8 t8 (.tup [v, v]) = H8 at z8 p8 ⊢
    clear s1 s2 ht
    refine ⟨_, rfl, fun a1 d1 I9 _ _ s1 ea ed => ⟨a1, _, d1, _, _, rfl, T.Unpaced.Z, T.Unpaced.no, ea, ed, lk1, _, rfl, fun a2 d2 J9 _ _ s2 ea2 ed2 => ⟨a2, _, d2, _, _, rfl, T.Unpaced.Z, T.Unpaced.no, ea2, ed2, lk1, by show 2 ≤ sizeLine; decide, fun t9 ht => ?_⟩⟩⟩
    have z9 := Same.new (o := .tup [v, v]) (z8.trans (s1.trans s2)) ht
    have p9 := p8.step (s1.trans s2) ht
    clear ea ed ea2 ed2
    generalize upd J9 t9 (.tup [v, v]) = H9 at z9 p9 ⊢
    clear s1 s2 ht
    refine ⟨_, rfl, fun a1 d1 I10 _ _ s1 ea ed => ⟨a1, _, d1, _, _, rfl, T.TooMany.Z, T.TooMany.no, ea, ed, lk1, _, rfl, fun a2 d2 J10 _ _ s2 ea2 ed2 => ⟨a2, _, d2, _, _, rfl, T.TooMany.Z, T.TooMany.no, ea2, ed2, lk1, by show 2 ≤ sizeLine; decide, fun t10 ht => ?_⟩⟩⟩
    have z10 := Same.new (o := .tup [v, v]) (z9.trans (s1.trans s2)) ht
    have p10 := p9.step (s1.trans s2) ht
    clear ea ed ea2 ed2
    generalize upd J10 t10 (.tup [v, v]) = H10 at z10 p10 ⊢
    clear s1 s2 ht
    refine ⟨_, rfl, fun a1 d1 I11 _ _ s1 ea ed => ⟨a1, _, d1, _, _, rfl, T.CannotStep.Z, T.CannotStep.no, ea, ed, lk1, _, rfl, fun a2 d2 J11 _ _ s2 ea2 ed2 => ⟨a2, _, d2, _, _, rfl, T.CannotStep.Z, T.CannotStep.no, ea2, ed2, lk1, by show 2 ≤ sizeLine; decide, fun t11 ht => ?_⟩⟩⟩
    have z11 := Same.new (o := .tup [v, v]) (z10.trans (s1.trans s2)) ht
    have p11 := p10.step (s1.trans s2) ht
    clear ea ed ea2 ed2
    generalize upd J11 t11 (.tup [v, v]) = H11 at z11 p11 ⊢
    clear s1 s2 ht
    refine ⟨_, rfl, fun a1 d1 I12 _ _ s1 ea ed => ⟨a1, _, d1, _, _, rfl, T.BadCode.Z, T.BadCode.no, ea, ed, lk1, _, rfl, fun a2 d2 J12 _ _ s2 ea2 ed2 => ⟨a2, _, d2, _, _, rfl, T.BadCode.Z, T.BadCode.no, ea2, ed2, lk1, by show 2 ≤ sizeLine; decide, fun t12 ht => ?_⟩⟩⟩
    have z12 := Same.new (o := .tup [v, v]) (z11.trans (s1.trans s2)) ht
    have p12 := p11.step (s1.trans s2) ht
    clear ea ed ea2 ed2
    generalize upd J12 t12 (.tup [v, v]) = H12 at z12 p12 ⊢
    clear s1 s2 ht
    refine ⟨_, rfl, fun a1 d1 I13 _ _ s1 ea ed => ⟨a1, _, d1, _, _, rfl, T.HasSource.Z, T.HasSource.no, ea, ed, lk1, _, rfl, fun a2 d2 J13 _ _ s2 ea2 ed2 => ⟨a2, _, d2, _, _, rfl, T.HasSource.Z, T.HasSource.no, ea2, ed2, lk1, by show 2 ≤ sizeLine; decide, fun t13 ht => ?_⟩⟩⟩
    have z13 := Same.new (o := .tup [v, v]) (z12.trans (s1.trans s2)) ht
    have p13 := p12.step (s1.trans s2) ht
    clear ea ed ea2 ed2
    generalize upd J13 t13 (.tup [v, v]) = H13 at z13 p13 ⊢
    clear s1 s2 ht
    refine ⟨_, rfl, fun a1 d1 I14 _ _ s1 ea ed => ⟨a1, _, d1, _, _, rfl, T.BadPromise.Z, T.BadPromise.no, ea, ed, lk1, _, rfl, fun a2 d2 J14 _ _ s2 ea2 ed2 => ⟨a2, _, d2, _, _, rfl, T.BadPromise.Z, T.BadPromise.no, ea2, ed2, lk1, by show 2 ≤ sizeLine; decide, fun t14 ht => ?_⟩⟩⟩
    have z14 := Same.new (o := .tup [v, v]) (z13.trans (s1.trans s2)) ht
    have p14 := p13.step (s1.trans s2) ht
    clear ea ed ea2 ed2
    generalize upd J14 t14 (.tup [v, v]) = H14 at z14 p14 ⊢
    clear s1 s2 ht
    refine ⟨_, rfl, fun a1 d1 I15 _ _ s1 ea ed => ⟨a1, _, d1, _, _, rfl, T.NotMade.Z, T.NotMade.no, ea, ed, lk1, _, rfl, fun a2 d2 J15 _ _ s2 ea2 ed2 => ⟨a2, _, d2, _, _, rfl, T.NotMade.Z, T.NotMade.no, ea2, ed2, lk1, by show 2 ≤ sizeLine; decide, fun t15 ht => ?_⟩⟩⟩
    have z15 := Same.new (o := .tup [v, v]) (z14.trans (s1.trans s2)) ht
    have p15 := p14.step (s1.trans s2) ht
    clear ea ed ea2 ed2
    generalize upd J15 t15 (.tup [v, v]) = H15 at z15 p15 ⊢
    clear s1 s2 ht
    refine ⟨by show 15 ≤ sizeLine; decide, fun l hl => ?_⟩
    exact k l ((((((((((((((([] ++ [t1]) ++ [t2]) ++ [t3]) ++ [t4]) ++ [t5]) ++ [t6]) ++ [t7]) ++ [t8]) ++ [t9]) ++ [t10]) ++ [t11]) ++ [t12]) ++ [t13]) ++ [t14]) ++ [t15]) _ (z15.new hl) upd_same (p15.same (Same.new (fun _ _ e => e) hl))
theorem scMore : FnScope ["_law_mine", "_law_yours", "_law_pairs"] ["_law_mine", "_law_yours"] (defScope sMore) := ⟨rfl, rfl, rfl, by decide +kernel, rfl, by decide +kernel, by decide +kernel⟩
theorem ok_more {f : Addr} {fd : FuncData} (F : Fun K "_law_more" "_law_more" sMore f fd) (T : Errs P w K mg base c S) : FnOk P w K mg base CX0 3 f fd ["_law_mine", "_law_yours"] spMore := by
  refine F.ok scMore (fun vs H Q E h => ?_) (fun cdv A outer s H vs Q E hr h => ?_)
  · obtain ⟨v, u, rfl, _⟩ := h
    rfl
  · obtain ⟨v, u, rfl, k⟩ := h
    have nd := scMore.nd
    refine ⟨_, (pss_cons (ps_set (i := 2) nd rfl (Or.inl rfl) (pe_lst pa_nil))
      (pss_cons (ps_expr (pe_bm PySem.F.plainAttrs_list PySem.F.slot_list_append PySem.F.type_list_append mt_append (pv 2) (pa_cons (pe_tup (pa_cons (pe_xat (pe_two2 T.NotAFile hr (pv 0) (pv 1))) (pa_cons (pv 0) pa_nil))) pa_nil)))
      (pss_cons (ps_expr (pe_bm PySem.F.plainAttrs_list PySem.F.slot_list_append PySem.F.type_list_append mt_append (pv 2) (pa_cons (pe_tup (pa_cons (pe_xat (pe_two1K T.NotAFile hr (pv 0) (pv 1))) (pa_cons (pv 1) pa_nil))) pa_nil)))
      (pss_cons (ps_expr (pe_bm PySem.F.plainAttrs_list PySem.F.slot_list_append PySem.F.type_list_append mt_append (pv 2) (pa_cons (pe_tup (pa_cons (pe_xat (pe_twoKK T.NotAFile hr (pv 0) (pv 1))) (pa_cons (pv 0) pa_nil))) pa_nil)))
      (pss_cons (ps_expr (pe_bm PySem.F.plainAttrs_list PySem.F.slot_list_append PySem.F.type_list_append mt_append (pv 2) (pa_cons (pe_tup (pa_cons (pe_xat (pe_twoKK T.NotAFile hr (pv 0) (pv 1))) (pa_cons (pv 1) pa_nil))) pa_nil)))
      (pss_cons (ps_expr (pe_bm PySem.F.plainAttrs_list PySem.F.slot_list_append PySem.F.type_list_append mt_append (pv 2) (pa_cons (pe_tup (pa_cons (pe_xat (pe_two2 T.Broken hr (pv 0) (pv 1))) (pa_cons (pv 0) pa_nil))) pa_nil)))
      (pss_cons (ps_expr (pe_bm PySem.F.plainAttrs_list PySem.F.slot_list_append PySem.F.type_list_append mt_append (pv 2) (pa_cons (pe_tup (pa_cons (pe_xat (pe_two1K T.Broken hr (pv 0) (pv 1))) (pa_cons (pv 1) pa_nil))) pa_nil)))
      (pss_cons (ps_expr (pe_bm PySem.F.plainAttrs_list PySem.F.slot_list_append PySem.F.type_list_append mt_append (pv 2) (pa_cons (pe_tup (pa_cons (pe_xat (pe_twoKK T.Broken hr (pv 0) (pv 1))) (pa_cons (pv 0) pa_nil))) pa_nil)))
      (pss_cons (ps_expr (pe_bm PySem.F.plainAttrs_list PySem.F.slot_list_append PySem.F.type_list_append mt_append (pv 2) (pa_cons (pe_tup (pa_cons (pe_xat (pe_twoKK T.Broken hr (pv 0) (pv 1))) (pa_cons (pv 1) pa_nil))) pa_nil)))
      (pss_one (ps_ret (pv 2)))))))))))), ?_⟩
    refine ⟨by show 0 ≤ sizeLine; decide, fun l hl => ?_⟩
    have z0 : Same H (upd H l (.lst [])) := Same.new (fun _ _ e => e) hl
    have e0 : upd H l (.lst []) l = some (.lst (([] : List Addr).map V.ref)) := upd_same
    have p0 : ∀ t ∈ ([] : List Addr), upd H l (.lst []) t = some (.tup [v, v]) ∨ upd H l (.lst []) t = some (.tup [u, u]) := fun _ h => nomatch h
    generalize upd H l (.lst []) = H0 at z0 e0 p0 ⊢
    refine ⟨_, rfl, .inl ⟨rfl, _, SqL.of e0⟩, _, rfl, _, rfl, fun a1 d1 I1 _ _ s1 ea ed => ⟨a1, _, d1, _, _, rfl, T.NotAFile.Z, T.NotAFile.no, ea, ed, lkB (by decide +kernel), _, rfl, by show 2 ≤ sizeLine; decide, fun t1 ht => ?_⟩⟩
    obtain ⟨H1, g1, z1, e1, p1⟩ := more_step (l := l) (x := v) (.inl rfl) hl z0 e0 p0 s1 ht
    refine ⟨l, _, _, rfl, rfl, by rw [upd_ne (ne_of_none (s1 _ _ e0) ht)]; exact s1 _ _ e0, by show 0 < sizeLine; decide, ?_⟩
    rw [g1]
    clear ea ed s1 ht g1
    refine ⟨_, rfl, .inl ⟨rfl, _, SqL.of e1⟩, _, rfl, _, rfl, fun a1 d1 I2 _ _ s1 ea ed => ⟨a1, _, d1, _, _, rfl, T.NotAFile.Z, T.NotAFile.no2, ea, ed, lkA, _, rfl, by show 2 ≤ sizeLine; decide, fun t2 ht => ?_⟩⟩
    obtain ⟨H2, g2, z2, e2, p2⟩ := more_step (l := l) (x := u) (.inr rfl) hl z1 e1 p1 s1 ht
    refine ⟨l, _, _, rfl, rfl, by rw [upd_ne (ne_of_none (s1 _ _ e1) ht)]; exact s1 _ _ e1, by show 1 < sizeLine; decide, ?_⟩
    rw [g2]
    clear ea ed s1 ht g2
    refine ⟨_, rfl, .inl ⟨rfl, _, SqL.of e2⟩, _, rfl, _, rfl, fun a1 d1 I3 _ _ s1 ea ed => ⟨a1, _, d1, _, _, rfl, T.NotAFile.Z, T.NotAFile.no2, ea, ed, lkA, _, rfl, by show 2 ≤ sizeLine; decide, fun t3 ht => ?_⟩⟩
    obtain ⟨H3, g3, z3, e3, p3⟩ := more_step (l := l) (x := v) (.inl rfl) hl z2 e2 p2 s1 ht
    refine ⟨l, _, _, rfl, rfl, by rw [upd_ne (ne_of_none (s1 _ _ e2) ht)]; exact s1 _ _ e2, by show 2 < sizeLine; decide, ?_⟩
    rw [g3]
    clear ea ed s1 ht g3
    refine ⟨_, rfl, .inl ⟨rfl, _, SqL.of e3⟩, _, rfl, _, rfl, fun a1 d1 I4 _ _ s1 ea ed => ⟨a1, _, d1, _, _, rfl, T.NotAFile.Z, T.NotAFile.no, ea, ed, lkB (by decide +kernel), _, rfl, by show 2 ≤ sizeLine; decide, fun t4 ht => ?_⟩⟩
    obtain ⟨H4, g4, z4, e4, p4⟩ := more_step (l := l) (x := u) (.inr rfl) hl z3 e3 p3 s1 ht
    refine ⟨l, _, _, rfl, rfl, by rw [upd_ne (ne_of_none (s1 _ _ e3) ht)]; exact s1 _ _ e3, by show 3 < sizeLine; decide, ?_⟩
    rw [g4]
    clear ea ed s1 ht g4
    refine ⟨_, rfl, .inl ⟨rfl, _, SqL.of e4⟩, _, rfl, _, rfl, fun a1 d1 I5 _ _ s1 ea ed => ⟨a1, _, d1, _, _, rfl, T.Broken.Z, T.Broken.no, ea, ed, lkB (by decide +kernel), _, rfl, by show 2 ≤ sizeLine; decide, fun t5 ht => ?_⟩⟩
    obtain ⟨H5, g5, z5, e5, p5⟩ := more_step (l := l) (x := v) (.inl rfl) hl z4 e4 p4 s1 ht
    refine ⟨l, _, _, rfl, rfl, by rw [upd_ne (ne_of_none (s1 _ _ e4) ht)]; exact s1 _ _ e4, by show 4 < sizeLine; decide, ?_⟩
    rw [g5]
    clear ea ed s1 ht g5
    refine ⟨_, rfl, .inl ⟨rfl, _, SqL.of e5⟩, _, rfl, _, rfl, fun a1 d1 I6 _ _ s1 ea ed => ⟨a1, _, d1, _, _, rfl, T.Broken.Z, T.Broken.no2, ea, ed, lkA, _, rfl, by show 2 ≤ sizeLine; decide, fun t6 ht => ?_⟩⟩
    obtain ⟨H6, g6, z6, e6, p6⟩ := more_step (l := l) (x := u) (.inr rfl) hl z5 e5 p5 s1 ht
    refine ⟨l, _, _, rfl, rfl, by rw [upd_ne (ne_of_none (s1 _ _ e5) ht)]; exact s1 _ _ e5, by show 5 < sizeLine; decide, ?_⟩
    rw [g6]
    clear ea ed s1 ht g6
    refine ⟨_, rfl, .inl ⟨rfl, _, SqL.of e6⟩, _, rfl, _, rfl, fun a1 d1 I7 _ _ s1 ea ed => ⟨a1, _, d1, _, _, rfl, T.Broken.Z, T.Broken.no2, ea, ed, lkA, _, rfl, by show 2 ≤ sizeLine; decide, fun t7 ht => ?_⟩⟩
    obtain ⟨H7, g7, z7, e7, p7⟩ := more_step (l := l) (x := v) (.inl rfl) hl z6 e6 p6 s1 ht
    refine ⟨l, _, _, rfl, rfl, by rw [upd_ne (ne_of_none (s1 _ _ e6) ht)]; exact s1 _ _ e6, by show 6 < sizeLine; decide, ?_⟩
    rw [g7]
    clear ea ed s1 ht g7
    refine ⟨_, rfl, .inl ⟨rfl, _, SqL.of e7⟩, _, rfl, _, rfl, fun a1 d1 I8 _ _ s1 ea ed => ⟨a1, _, d1, _, _, rfl, T.Broken.Z, T.Broken.no, ea, ed, lkB (by decide +kernel), _, rfl, by show 2 ≤ sizeLine; decide, fun t8 ht => ?_⟩⟩
    obtain ⟨H8, g8, z8, e8, p8⟩ := more_step (l := l) (x := u) (.inr rfl) hl z7 e7 p7 s1 ht
    refine ⟨l, _, _, rfl, rfl, by rw [upd_ne (ne_of_none (s1 _ _ e7) ht)]; exact s1 _ _ e7, by show 7 < sizeLine; decide, ?_⟩
    rw [g8]
    clear ea ed s1 ht g8
    exact ⟨_, rfl, k l _ H8 z8 e8 p8⟩
end
end K00

namespace K00
open PySem PySem.Spec PyProof.Rows L2
abbrev sRaise : Stmt := top 39
abbrev sCaught : Stmt := top 40
def spRaise (c : Nat → Addr) : Sp := fun vs H Q E => ∃ (k : Int) (v : V), vs = [.int k, v] ∧ ∀ (i : Nat) (d : Option Addr) (H' : Hp), i < 29 → Same H H' → E (.ref (c i)) d H'
def spCaught : Sp := fun vs H Q _ => ∃ (k : Int) (v : V), vs = [.int k, v] ∧ ∀ H', Same H H' → Q (.bl true) H'
theorem same_del {H H' : Hp} {a : Addr} (s : Same H H') (ha : H a = none) : Same H (delH H' a) := fun b o e => by
  rw [delH_ne (ne_of_none e ha)]
  exact s b o e
section
variable {P : Program} {w : World} {K : PySem.W.Frag} {mg : Str → Option Value} {base : Heap} {c : Nat → Addr} {S : Addr}
theorem scRaise : FnScope ["_law_which", "_law_mine"] ["_law_which", "_law_mine"] (defScope sRaise) := ⟨rfl, rfl, rfl, by decide +kernel, rfl, by decide +kernel, by decide +kernel⟩
theorem ok_raise {f : Addr} {fd : FuncData} (F : Fun K "_law_raise" "_law_raise" sRaise f fd) (T : Errs P w K mg base c S) : FnOk P w K mg base (L2.CX P w) 3 f fd ["_law_which", "_law_mine"] (spRaise c) := by
  refine F.okX scRaise (fun vs H Q E h => ?_) (fun cdv A outer s H vs Q E hr h => ?_)
  · obtain ⟨n, v, rfl, _⟩ := h
    rfl
  · obtain ⟨n, v, rfl, k⟩ := h
    refine ⟨_, (pss_cons (ps_if (pt_cmpR op_eq (pv 0) pe_int (nomark _)) (pss_one (ps_raise rfl (takes_of rfl rfl rfl rfl) (pmk_ret rfl (pe_bare T.StandsStill)))) pss_nil)
      (pss_cons (ps_if (pt_cmpR op_eq (pv 0) pe_int (nomark _)) (pss_one (ps_raise rfl (takes_of rfl rfl rfl rfl) (pmk_retX rfl (pe_one1 T.TooMany hr pe_int)))) pss_nil)
      (pss_cons (ps_if (pt_cmpR op_eq (pv 0) pe_int (nomark _)) (pss_one (ps_raise rfl (takes_of rfl rfl rfl rfl) (pmk_retX rfl (pe_twoKK T.NotAFile hr (pv 1) pe_int)))) pss_nil)
      (pss_cons (ps_if (pt_cmpR op_eq (pv 0) pe_int (nomark _)) (pss_one (ps_raise rfl (takes_of rfl rfl rfl rfl) (pmk_retX rfl (pe_one1 T.Unknown hr (pv 1))))) pss_nil)
      (pss_cons (ps_if (pt_cmpR op_eq (pv 0) pe_int (nomark _)) (pss_one (ps_raise rfl (takes_of rfl rfl rfl rfl) (pmk_retX rfl (pe_two2 T.Broken hr (pv 1) pe_non)))) pss_nil)
      (pss_one (ps_raise rfl (takes_of rfl rfl rfl rfl) (pmk_ret rfl (pe_bare T.NothingToUndo))))))))), ?_⟩
    refine ⟨_, rfl, rfl, _, rfl, ?_⟩
    refine ite2 (fun _ => ?_) (fun _ => ?_)
    · exact fun a H1 ha s e => ⟨a, _, rfl, e, fr0_none ha, raises_own (T.Z 12 (by decide)).su (T.ty 12 (by decide)), k 12 _ _ (by decide) (same_del s ha)⟩
    refine ⟨_, rfl, rfl, _, rfl, ?_⟩
    refine ite2 (fun _ => ?_) (fun _ => ?_)
    · exact fun a dx H1 ha _ s e _ => ⟨a, _, dx, rfl, e, fr0_none ha, raises_own (T.Z 11 (by decide)).su (T.ty 11 (by decide)), k 11 _ _ (by decide) (same_del s ha)⟩
    refine ⟨_, rfl, rfl, _, rfl, ?_⟩
    refine ite2 (fun _ => ?_) (fun _ => ?_)
    · exact ⟨_, rfl, fun a dx H1 ha _ s e _ => ⟨a, _, dx, rfl, e, fr0_none ha, raises_own (T.Z 23 (by decide)).su (T.ty 23 (by decide)), k 23 _ _ (by decide) (same_del s ha)⟩⟩
    refine ⟨_, rfl, rfl, _, rfl, ?_⟩
    refine ite2 (fun _ => ?_) (fun _ => ?_)
    · exact ⟨_, rfl, fun a dx H1 ha _ s e _ => ⟨a, _, dx, rfl, e, fr0_none ha, raises_own (T.Z 6 (by decide)).su (T.ty 6 (by decide)), k 6 _ _ (by decide) (same_del s ha)⟩⟩
    refine ⟨_, rfl, rfl, _, rfl, ?_⟩
    refine ite2 (fun _ => ?_) (fun _ => ?_)
    · exact ⟨_, rfl, fun a dx H1 ha _ s e _ => ⟨a, _, dx, rfl, e, fr0_none ha, raises_own (T.Z 25 (by decide)).su (T.ty 25 (by decide)), k 25 _ _ (by decide) (same_del s ha)⟩⟩
    exact fun a H1 ha s e => ⟨a, _, rfl, e, fr0_none ha, raises_own (T.Z 27 (by decide)).su (T.ty 27 (by decide)), k 27 _ _ (by decide) (same_del s ha)⟩
theorem scCaught : FnScope ["_law_which", "_law_mine", "e"] ["_law_which", "_law_mine"] (defScope sCaught) := ⟨rfl, rfl, rfl, by decide +kernel, rfl, by decide +kernel, by decide +kernel⟩
theorem ok_caught {f fR : Addr} {fd fdR : FuncData} (F : Fun K "_law_caught" "_law_caught" sCaught f fd) (FR : Fun K "_law_raise" "_law_raise" sRaise fR fdR) (gR : mg "_law_raise" = some (.ref fR)) (bR : Binds K fdR ["_law_which", "_law_mine"] []) (T : Errs P w K mg base c S) :
    FnOk P w K mg base CX0 4 f fd ["_law_which", "_law_mine"] spCaught := by
  have G : FnOk P w K mg base (L2.CX P w) 3 fR fdR ["_law_which", "_law_mine"] (spRaise c) := ok_raise FR T
  refine F.ok scCaught (fun vs H Q E h => ?_) (fun cdv A outer s H vs Q E hr h => ?_)
  · obtain ⟨n, v, rfl, _⟩ := h
    rfl
  · obtain ⟨n, v, rfl, k⟩ := h
    refine ⟨_, pss_cons (ps_try_as (i := 2) (tb := fun W => tDrop (tCallS (spRaise c) (WE W) (tCons (tVar 0) (tCons (tVar 1) tNil)))) (ts := fun _ _ _ => tRet (tC (.bl true))) (Wout := fun _ _ _ _ => False) rfl rfl scCaught.nd rfl rfl ⟨rfl, by decide, Or.inl T.gS⟩ takes0
        (fun W pn xe tk _ => pss_one (ps_expr (by exact (pe_callS G hr rfl gR FR.kp bR (fun σ => passAt tk σ) (by exact (pa_cons (pv 0) (pa_cons (pv 1) pa_nil)))))))
        (fun a oe cls d pn hz hf => pss_one (ps_ret pe_bl)))
      (pss_one (ps_ret pe_bl)), ?_⟩
    exact ⟨_, rfl, _, rfl, n, v, rfl, fun i d H' hi s' => ⟨true, T.exm i hi, fun _ a _ => k H' s', fun q => nomatch q⟩⟩
end
end K00

namespace K00
open PySem PySem.Spec PyProof.Rows L2
abbrev tApart : Stmt := top 38
def Md (c : Nat → Addr) (H : Hp) (as : List Addr) : Prop := ∀ j a, as[j]? = some a → XAt H a (c j)
theorem Md.same {c : Nat → Addr} {H H' : Hp} {as : List Addr} (m : Md c H as) (s : Same H H') : Md c H' as := fun j a h => xat_same (m j a h) s
theorem Md.snoc {c : Nat → Addr} {H H' : Hp} {as : List Addr} {a : Addr} {n : Nat} (m : Md c H as) (s : Same H H') (hn : as.length = n) (x : XAt H' a (c n)) : Md c H' (as ++ [a]) := fun j b h => by
  by_cases q : j < as.length
  · rw [List.getElem?_append_left q] at h
    exact xat_same (m j b h) s
  · have z := (List.getElem?_eq_some_iff.mp h).1
    rw [List.length_append] at z
    have e : j = as.length := by
      have : ([a] : List Addr).length = 1 := rfl
      omega
    rw [e, List.getElem?_append_right (Nat.le_refl _), Nat.sub_self] at h
    obtain rfl : a = b := Option.some.inj h
    rw [e, hn]
    exact x
theorem xNew {H' : Hp} {a dx C : Addr} {fs : List (Str × V)} (h1 : H' a = some (exo a C (some dx))) (h2 : H' dx = some (exd dx fs)) : XAt H' a C := .inl ⟨dx, fs, h1, h2⟩
theorem kinds_eq : ∀ i, i < 29 → kindsOf i = List.replicate i 0 ++ [1] ++ List.replicate (28 - i) 0 := by decide +kernel
theorem rep0 : ∀ n : Nat, (List.replicate n [V.int 0]).flatten = (List.replicate n (0 : Int)).map V.int
  | 0 => rfl
  | n + 1 => by
    rw [List.replicate_succ, List.flatten_cons, rep0 n, List.replicate_succ]
    rfl
def spApart : Sp := fun vs H Q _ => ∃ v u : V, vs = [v, u] ∧ ∀ H', Same H H' → Q (.bl true) H'
section
variable {P : Program} {w : World} {K : PySem.W.Frag} {mg : Str → Option Value} {base : Heap} {c : Nat → Addr} {S : Addr}
theorem sdApart : FnScope ["_law_mine", "_law_yours", "_law_made", "_law_last", "_law_error", "_law_k"] ["_law_mine", "_law_yours"] (defScope tApart) := ⟨rfl, rfl, rfl, by decide +kernel, rfl, by decide +kernel, by decide +kernel⟩
theorem ok_apart {f fK : Addr} {fd fdK : FuncData} (F : Fun K "_law_apart" "_law_apart" tApart f fd) (FK : Fun K "_law_kinds" "_law_kinds" sKinds fK fdK) (gK : mg "_law_kinds" = some (.ref fK)) (bK : Binds K fdK ["_law_error"] []) (T : Errs P w K mg base c S) :
    FnOk P w K mg base CX0 4 f fd ["_law_mine", "_law_yours"] spApart := by
  have GK : FnOk P w K mg base CX0 1 fK fdK ["_law_error"] (spKinds c) := ok_kinds FK T
  refine F.ok sdApart (fun vs H Q E h => ?_) (fun cdv A outer s H vs Q E hr h => ?_)
  · obtain ⟨v, u, rfl, _⟩ := h
    rfl
  · obtain ⟨v, u, rfl, k⟩ := h
    have nd := sdApart.nd
    have hr2 : Room 2 _ := hr.mono (by decide)
    have hr1 : Room 1 _ := hr.mono (by decide)
    refine ⟨_, (pss_cons (ps_set (i := 2) nd rfl (Or.inr rfl) (pe_lst pa_nil))
      (pss_cons (ps_set (i := 2) nd rfl (Or.inr rfl) (pe_op op_cat (pv 2) (pe_lst (pa_cons (pe_one1 T.BadValue hr2 (pv 0)) (pa_cons (pe_bare T.NoDivisor) (pa_cons (pe_bare T.AtNought) (pa_cons (pe_one1 T.NotAText hr2 (pv 0)) (pa_cons (pe_one1 T.NoGiver hr2 (pv 0)) (pa_cons (pe_one1 T.TwoGivers hr2 (pv 0)) pa_nil)))))))))
      (pss_cons (ps_set (i := 2) nd rfl (Or.inr rfl) (pe_op op_cat (pv 2) (pe_lst (pa_cons (pe_one1 T.Unknown hr2 (pv 0)) (pa_cons (pe_one1 T.Taken hr2 (pv 0)) (pa_cons (pe_one1 T.Apart hr2 (pv 0)) (pa_cons (pe_one1 T.Within hr2 (pv 0)) (pa_cons (pe_one1 T.Unpaced hr2 (pv 0)) (pa_cons (pe_one1 T.TooMany hr2 (pv 0)) pa_nil)))))))))
      (pss_cons (ps_set (i := 2) nd rfl (Or.inr rfl) (pe_op op_cat (pv 2) (pe_lst (pa_cons (pe_bare T.StandsStill) (pa_cons (pe_one1 T.CannotStep hr2 (pv 0)) (pa_cons (pe_bare T.Unlike) (pa_cons (pe_bare T.Singular) (pa_cons (pe_bare T.NotSquare) (pa_cons (pe_bare T.NotUndone) pa_nil)))))))))
      (pss_cons (ps_set (i := 2) nd rfl (Or.inr rfl) (pe_op op_cat (pv 2) (pe_lst (pa_cons (pe_bare T.HasLoops) (pa_cons (pe_one1 T.BadCode hr2 (pv 0)) (pa_cons (pe_one1 T.HasSource hr2 (pv 0)) (pa_cons (pe_bare T.NotOfNet) (pa_cons (pe_bare T.NotDriven) (pa_cons (pe_two2 T.NotAFile hr2 (pv 0) (pv 1)) pa_nil)))))))))
      (pss_cons (ps_set (i := 2) nd rfl (Or.inr rfl) (pe_op op_cat (pv 2) (pe_lst (pa_cons (pe_one1 T.BadPromise hr2 (pv 0)) (pa_cons (pe_two2 T.Broken hr2 (pv 0) (pv 1)) (pa_cons (pe_one1 T.NotMade hr2 (pv 0)) (pa_cons (pe_bare T.NothingToUndo) (pa_cons (pe_bare T.NothingToRedo) pa_nil))))))))
      (pss_cons (ps_if (pt_not (pt_val (pe_callB (cr_all rfl) (by rfl) T.all (by decide +kernel) (pa_cons (pe_lc (own := [("_law_error", 4)]) (g := gName 4) (tt := tYes) rfl nd (pi_list (pv 2)) (blkOk_by (N := ["_law_mine", "_law_yours", "_law_made", "_law_last", "_law_error", "_law_k"]) (sc := defScope tApart) (by decide +kernel)) (fun _ _ _ _ _ => pg_name (i := 4) nd rfl (Or.inl rfl)) (fun _ _ _ _ _ => pts_nil) (fun _ _ _ _ _ => by exact (pe_and (pe_callB (show CallR _ (.builtin "isinstance") (rIsX K) from call_isX) (by rfl) T.isi (by decide +kernel) (pa_cons (pv 4) (pa_cons (pe_cls T.gS) pa_nil))) (pe_one (pe_callB (show CallR _ (.builtin "isinstance") (rIsX K) from call_isX) (by rfl) T.isi (by decide +kernel) (pa_cons (pv 4) (pa_cons (pe_bltn (v := .ty "ValueError") (by rfl) T.VE (by decide +kernel) rfl) pa_nil))))))) pa_nil)))) (pss_one (ps_ret pe_bl)) pss_nil)
      (pss_cons (ps_set (i := 3) nd rfl (Or.inr rfl) (pe_op op_sub (pe_callB call_len_seq (by rfl) T.len PySem.boot_len (pa_cons (pv 2) pa_nil)) pe_int))
      (pss_one (ps_ret (pe_callB (cr_all rfl) (by rfl) T.all (by decide +kernel) (pa_cons (pe_lc (own := [("_law_k", 5)]) (g := gName 5) (tt := tYes) rfl nd (pi_range1 (by rfl) T.range (pa_cons (pe_callB call_len_seq (by rfl) T.len PySem.boot_len (pa_cons (pv 2) pa_nil)) pa_nil)) (blkOk_by (N := ["_law_mine", "_law_yours", "_law_made", "_law_last", "_law_error", "_law_k"]) (sc := defScope tApart) (by decide +kernel)) (fun _ _ _ _ _ => pg_name (i := 5) nd rfl (Or.inl rfl)) (fun _ _ _ _ _ => pts_nil) (fun _ _ _ _ _ => by exact (pe_cmpR (show OpR _ (compareOp .Eq) (rEqD K) from op_eqD hr.units) (pe_call GK hr1 (by rfl) gK FK.kp bK .nil pass0 (pa_cons (pe_ix (show IxR _ (rIxL K) from ix_list) (pv 2) (pv 5) (fun _ _ => rfl)) pa_nil)) (pe_op op_cat (pe_op op_cat (pe_op op_rep (pe_lst (pa_cons pe_int pa_nil)) (pv 5)) (pe_lst (pa_cons pe_int pa_nil))) (pe_op op_rep (pe_lst (pa_cons pe_int pa_nil)) (pe_op op_sub (pv 3) (pv 5)))) (nomark _)))) pa_nil)))))))))))), ?_⟩
    refine ⟨by show 0 ≤ sizeLine; decide, fun l hl => ?_⟩
    have z0 : Same H (upd H l (.lst [])) := Same.new (fun _ _ e => e) hl
    have e0 : upd H l (.lst []) l = some (.lst (([] : List Addr).map V.ref)) := upd_same
    have m0 : Md c (upd H l (.lst [])) [] := fun j a h => by simp at h
    generalize upd H l (.lst []) = H0 at z0 e0 m0 ⊢
    have len0 : ([] : List Addr).length = 0 := rfl
    refine ⟨_, rfl, ?_⟩
    refine ⟨_, rfl, fun a1 d1 H1 _ _ s ea ed => ?_⟩
    have z1 := z0.trans s
    have e1 := s _ _ e0
    have m1 : Md c H1 ([] ++ [a1]) := m0.snoc s len0 (xNew ea ed)
    have len1 : ([] ++ [a1]).length = 1 := by rw [List.length_append, len0]; rfl
    clear s ea ed
    refine fun a2 H2 _ s ea => ?_
    have z2 := z1.trans s
    have e2 := s _ _ e1
    have m2 : Md c H2 (([] ++ [a1]) ++ [a2]) := m1.snoc s len1 (.inr ea)
    have len2 : (([] ++ [a1]) ++ [a2]).length = 2 := by rw [List.length_append, len1]; rfl
    clear s ea
    refine fun a3 H3 _ s ea => ?_
    have z3 := z2.trans s
    have e3 := s _ _ e2
    have m3 : Md c H3 ((([] ++ [a1]) ++ [a2]) ++ [a3]) := m2.snoc s len2 (.inr ea)
    have len3 : ((([] ++ [a1]) ++ [a2]) ++ [a3]).length = 3 := by rw [List.length_append, len2]; rfl
    clear s ea
    refine ⟨_, rfl, fun a4 d4 H4 _ _ s ea ed => ?_⟩
    have z4 := z3.trans s
    have e4 := s _ _ e3
    have m4 : Md c H4 (((([] ++ [a1]) ++ [a2]) ++ [a3]) ++ [a4]) := m3.snoc s len3 (xNew ea ed)
    have len4 : (((([] ++ [a1]) ++ [a2]) ++ [a3]) ++ [a4]).length = 4 := by rw [List.length_append, len3]; rfl
    clear s ea ed
    refine ⟨_, rfl, fun a5 d5 H5 _ _ s ea ed => ?_⟩
    have z5 := z4.trans s
    have e5 := s _ _ e4
    have m5 : Md c H5 ((((([] ++ [a1]) ++ [a2]) ++ [a3]) ++ [a4]) ++ [a5]) := m4.snoc s len4 (xNew ea ed)
    have len5 : ((((([] ++ [a1]) ++ [a2]) ++ [a3]) ++ [a4]) ++ [a5]).length = 5 := by rw [List.length_append, len4]; rfl
    clear s ea ed
    refine ⟨_, rfl, fun a6 d6 H6 _ _ s ea ed => ?_⟩
    have z6 := z5.trans s
    have e6 := s _ _ e5
    have m6 : Md c H6 (((((([] ++ [a1]) ++ [a2]) ++ [a3]) ++ [a4]) ++ [a5]) ++ [a6]) := m5.snoc s len5 (xNew ea ed)
    have len6 : (((((([] ++ [a1]) ++ [a2]) ++ [a3]) ++ [a4]) ++ [a5]) ++ [a6]).length = 6 := by rw [List.length_append, len5]; rfl
    clear s ea ed
    refine ⟨by show 6 ≤ sizeLine; decide, fun q hq => ?_⟩
    refine ⟨_, q, [].map V.ref, [V.ref a1, V.ref a2, V.ref a3, V.ref a4, V.ref a5, V.ref a6], rfl, rfl, by rw [upd_ne (ne_of_none e6 hq)]; exact e6, upd_same, by show 6 ≤ sizeLine; decide, fun l' hl' => ?_⟩
    have zz := (z6.new (o := .lst [V.ref a1, V.ref a2, V.ref a3, V.ref a4, V.ref a5, V.ref a6]) hq).new (o := .lst ([].map V.ref ++ [V.ref a1, V.ref a2, V.ref a3, V.ref a4, V.ref a5, V.ref a6])) hl'
    have ee : upd (upd H6 q (.lst [V.ref a1, V.ref a2, V.ref a3, V.ref a4, V.ref a5, V.ref a6])) l' (.lst ([].map V.ref ++ [V.ref a1, V.ref a2, V.ref a3, V.ref a4, V.ref a5, V.ref a6])) l' = some (.lst ((((((([] ++ [a1]) ++ [a2]) ++ [a3]) ++ [a4]) ++ [a5]) ++ [a6]).map V.ref)) := by rw [upd_same]; simp
    have mm := m6.same ((Same.new (fun _ _ e => e) hq : Same H6 (upd H6 q (.lst [V.ref a1, V.ref a2, V.ref a3, V.ref a4, V.ref a5, V.ref a6]))).new (o := .lst ([].map V.ref ++ [V.ref a1, V.ref a2, V.ref a3, V.ref a4, V.ref a5, V.ref a6])) hl')
    generalize upd (upd H6 q (.lst [V.ref a1, V.ref a2, V.ref a3, V.ref a4, V.ref a5, V.ref a6])) l' (.lst ([].map V.ref ++ [V.ref a1, V.ref a2, V.ref a3, V.ref a4, V.ref a5, V.ref a6])) = G0 at zz ee mm ⊢
    clear z6 e6 m6 hq hl' q
    have z6 := zz
    obtain ⟨as6, e6, m6, len6⟩ : ∃ as : List Addr, G0 l' = some (.lst (as.map V.ref)) ∧ Md c G0 as ∧ as.length = 6 := ⟨_, ee, mm, len6⟩
    clear zz ee mm
    refine ⟨_, rfl, ?_⟩
    refine ⟨_, rfl, fun a7 d7 H7 _ _ s ea ed => ?_⟩
    have z7 := z6.trans s
    have e7 := s _ _ e6
    have m7 : Md c H7 (as6 ++ [a7]) := m6.snoc s len6 (xNew ea ed)
    have len7 : (as6 ++ [a7]).length = 7 := by rw [List.length_append, len6]; rfl
    clear s ea ed
    refine ⟨_, rfl, fun a8 d8 H8 _ _ s ea ed => ?_⟩
    have z8 := z7.trans s
    have e8 := s _ _ e7
    have m8 : Md c H8 ((as6 ++ [a7]) ++ [a8]) := m7.snoc s len7 (xNew ea ed)
    have len8 : ((as6 ++ [a7]) ++ [a8]).length = 8 := by rw [List.length_append, len7]; rfl
    clear s ea ed
    refine ⟨_, rfl, fun a9 d9 H9 _ _ s ea ed => ?_⟩
    have z9 := z8.trans s
    have e9 := s _ _ e8
    have m9 : Md c H9 (((as6 ++ [a7]) ++ [a8]) ++ [a9]) := m8.snoc s len8 (xNew ea ed)
    have len9 : (((as6 ++ [a7]) ++ [a8]) ++ [a9]).length = 9 := by rw [List.length_append, len8]; rfl
    clear s ea ed
    refine ⟨_, rfl, fun a10 d10 H10 _ _ s ea ed => ?_⟩
    have z10 := z9.trans s
    have e10 := s _ _ e9
    have m10 : Md c H10 ((((as6 ++ [a7]) ++ [a8]) ++ [a9]) ++ [a10]) := m9.snoc s len9 (xNew ea ed)
    have len10 : ((((as6 ++ [a7]) ++ [a8]) ++ [a9]) ++ [a10]).length = 10 := by rw [List.length_append, len9]; rfl
    clear s ea ed
    refine ⟨_, rfl, fun a11 d11 H11 _ _ s ea ed => ?_⟩
    have z11 := z10.trans s
    have e11 := s _ _ e10
    have m11 : Md c H11 (((((as6 ++ [a7]) ++ [a8]) ++ [a9]) ++ [a10]) ++ [a11]) := m10.snoc s len10 (xNew ea ed)
    have len11 : (((((as6 ++ [a7]) ++ [a8]) ++ [a9]) ++ [a10]) ++ [a11]).length = 11 := by rw [List.length_append, len10]; rfl
    clear s ea ed
    refine ⟨_, rfl, fun a12 d12 H12 _ _ s ea ed => ?_⟩
    have z12 := z11.trans s
    have e12 := s _ _ e11
    have m12 : Md c H12 ((((((as6 ++ [a7]) ++ [a8]) ++ [a9]) ++ [a10]) ++ [a11]) ++ [a12]) := m11.snoc s len11 (xNew ea ed)
    have len12 : ((((((as6 ++ [a7]) ++ [a8]) ++ [a9]) ++ [a10]) ++ [a11]) ++ [a12]).length = 12 := by rw [List.length_append, len11]; rfl
    clear s ea ed
    refine ⟨by show 6 ≤ sizeLine; decide, fun q hq => ?_⟩
    refine ⟨_, q, as6.map V.ref, [V.ref a7, V.ref a8, V.ref a9, V.ref a10, V.ref a11, V.ref a12], rfl, rfl, by rw [upd_ne (ne_of_none e12 hq)]; exact e12, upd_same, by rw [List.length_map, len6]; show 12 ≤ sizeLine; decide, fun l' hl' => ?_⟩
    have zz := (z12.new (o := .lst [V.ref a7, V.ref a8, V.ref a9, V.ref a10, V.ref a11, V.ref a12]) hq).new (o := .lst (as6.map V.ref ++ [V.ref a7, V.ref a8, V.ref a9, V.ref a10, V.ref a11, V.ref a12])) hl'
    have ee : upd (upd H12 q (.lst [V.ref a7, V.ref a8, V.ref a9, V.ref a10, V.ref a11, V.ref a12])) l' (.lst (as6.map V.ref ++ [V.ref a7, V.ref a8, V.ref a9, V.ref a10, V.ref a11, V.ref a12])) l' = some (.lst (((((((as6 ++ [a7]) ++ [a8]) ++ [a9]) ++ [a10]) ++ [a11]) ++ [a12]).map V.ref)) := by rw [upd_same]; simp
    have mm := m12.same ((Same.new (fun _ _ e => e) hq : Same H12 (upd H12 q (.lst [V.ref a7, V.ref a8, V.ref a9, V.ref a10, V.ref a11, V.ref a12]))).new (o := .lst (as6.map V.ref ++ [V.ref a7, V.ref a8, V.ref a9, V.ref a10, V.ref a11, V.ref a12])) hl')
    generalize upd (upd H12 q (.lst [V.ref a7, V.ref a8, V.ref a9, V.ref a10, V.ref a11, V.ref a12])) l' (.lst (as6.map V.ref ++ [V.ref a7, V.ref a8, V.ref a9, V.ref a10, V.ref a11, V.ref a12])) = G1 at zz ee mm ⊢
    clear z12 e12 m12 hq hl' q
    have z12 := zz
    obtain ⟨as12, e12, m12, len12⟩ : ∃ as : List Addr, G1 l' = some (.lst (as.map V.ref)) ∧ Md c G1 as ∧ as.length = 12 := ⟨_, ee, mm, len12⟩
    clear zz ee mm
    refine ⟨_, rfl, ?_⟩
    refine fun a13 H13 _ s ea => ?_
    have z13 := z12.trans s
    have e13 := s _ _ e12
    have m13 : Md c H13 (as12 ++ [a13]) := m12.snoc s len12 (.inr ea)
    have len13 : (as12 ++ [a13]).length = 13 := by rw [List.length_append, len12]; rfl
    clear s ea
    refine ⟨_, rfl, fun a14 d14 H14 _ _ s ea ed => ?_⟩
    have z14 := z13.trans s
    have e14 := s _ _ e13
    have m14 : Md c H14 ((as12 ++ [a13]) ++ [a14]) := m13.snoc s len13 (xNew ea ed)
    have len14 : ((as12 ++ [a13]) ++ [a14]).length = 14 := by rw [List.length_append, len13]; rfl
    clear s ea ed
    refine fun a15 H15 _ s ea => ?_
    have z15 := z14.trans s
    have e15 := s _ _ e14
    have m15 : Md c H15 (((as12 ++ [a13]) ++ [a14]) ++ [a15]) := m14.snoc s len14 (.inr ea)
    have len15 : (((as12 ++ [a13]) ++ [a14]) ++ [a15]).length = 15 := by rw [List.length_append, len14]; rfl
    clear s ea
    refine fun a16 H16 _ s ea => ?_
    have z16 := z15.trans s
    have e16 := s _ _ e15
    have m16 : Md c H16 ((((as12 ++ [a13]) ++ [a14]) ++ [a15]) ++ [a16]) := m15.snoc s len15 (.inr ea)
    have len16 : ((((as12 ++ [a13]) ++ [a14]) ++ [a15]) ++ [a16]).length = 16 := by rw [List.length_append, len15]; rfl
    clear s ea
    refine fun a17 H17 _ s ea => ?_
    have z17 := z16.trans s
    have e17 := s _ _ e16
    have m17 : Md c H17 (((((as12 ++ [a13]) ++ [a14]) ++ [a15]) ++ [a16]) ++ [a17]) := m16.snoc s len16 (.inr ea)
    have len17 : (((((as12 ++ [a13]) ++ [a14]) ++ [a15]) ++ [a16]) ++ [a17]).length = 17 := by rw [List.length_append, len16]; rfl
    clear s ea
    refine fun a18 H18 _ s ea => ?_
    have z18 := z17.trans s
    have e18 := s _ _ e17
    have m18 : Md c H18 ((((((as12 ++ [a13]) ++ [a14]) ++ [a15]) ++ [a16]) ++ [a17]) ++ [a18]) := m17.snoc s len17 (.inr ea)
    have len18 : ((((((as12 ++ [a13]) ++ [a14]) ++ [a15]) ++ [a16]) ++ [a17]) ++ [a18]).length = 18 := by rw [List.length_append, len17]; rfl
    clear s ea
    refine ⟨by show 6 ≤ sizeLine; decide, fun q hq => ?_⟩
    refine ⟨_, q, as12.map V.ref, [V.ref a13, V.ref a14, V.ref a15, V.ref a16, V.ref a17, V.ref a18], rfl, rfl, by rw [upd_ne (ne_of_none e18 hq)]; exact e18, upd_same, by rw [List.length_map, len12]; show 18 ≤ sizeLine; decide, fun l' hl' => ?_⟩
    have zz := (z18.new (o := .lst [V.ref a13, V.ref a14, V.ref a15, V.ref a16, V.ref a17, V.ref a18]) hq).new (o := .lst (as12.map V.ref ++ [V.ref a13, V.ref a14, V.ref a15, V.ref a16, V.ref a17, V.ref a18])) hl'
    have ee : upd (upd H18 q (.lst [V.ref a13, V.ref a14, V.ref a15, V.ref a16, V.ref a17, V.ref a18])) l' (.lst (as12.map V.ref ++ [V.ref a13, V.ref a14, V.ref a15, V.ref a16, V.ref a17, V.ref a18])) l' = some (.lst (((((((as12 ++ [a13]) ++ [a14]) ++ [a15]) ++ [a16]) ++ [a17]) ++ [a18]).map V.ref)) := by rw [upd_same]; simp
    have mm := m18.same ((Same.new (fun _ _ e => e) hq : Same H18 (upd H18 q (.lst [V.ref a13, V.ref a14, V.ref a15, V.ref a16, V.ref a17, V.ref a18]))).new (o := .lst (as12.map V.ref ++ [V.ref a13, V.ref a14, V.ref a15, V.ref a16, V.ref a17, V.ref a18])) hl')
    generalize upd (upd H18 q (.lst [V.ref a13, V.ref a14, V.ref a15, V.ref a16, V.ref a17, V.ref a18])) l' (.lst (as12.map V.ref ++ [V.ref a13, V.ref a14, V.ref a15, V.ref a16, V.ref a17, V.ref a18])) = G2 at zz ee mm ⊢
    clear z18 e18 m18 hq hl' q
    have z18 := zz
    obtain ⟨as18, e18, m18, len18⟩ : ∃ as : List Addr, G2 l' = some (.lst (as.map V.ref)) ∧ Md c G2 as ∧ as.length = 18 := ⟨_, ee, mm, len18⟩
    clear zz ee mm
    refine ⟨_, rfl, ?_⟩
    refine fun a19 H19 _ s ea => ?_
    have z19 := z18.trans s
    have e19 := s _ _ e18
    have m19 : Md c H19 (as18 ++ [a19]) := m18.snoc s len18 (.inr ea)
    have len19 : (as18 ++ [a19]).length = 19 := by rw [List.length_append, len18]; rfl
    clear s ea
    refine ⟨_, rfl, fun a20 d20 H20 _ _ s ea ed => ?_⟩
    have z20 := z19.trans s
    have e20 := s _ _ e19
    have m20 : Md c H20 ((as18 ++ [a19]) ++ [a20]) := m19.snoc s len19 (xNew ea ed)
    have len20 : ((as18 ++ [a19]) ++ [a20]).length = 20 := by rw [List.length_append, len19]; rfl
    clear s ea ed
    refine ⟨_, rfl, fun a21 d21 H21 _ _ s ea ed => ?_⟩
    have z21 := z20.trans s
    have e21 := s _ _ e20
    have m21 : Md c H21 (((as18 ++ [a19]) ++ [a20]) ++ [a21]) := m20.snoc s len20 (xNew ea ed)
    have len21 : (((as18 ++ [a19]) ++ [a20]) ++ [a21]).length = 21 := by rw [List.length_append, len20]; rfl
    clear s ea ed
    refine fun a22 H22 _ s ea => ?_
    have z22 := z21.trans s
    have e22 := s _ _ e21
    have m22 : Md c H22 ((((as18 ++ [a19]) ++ [a20]) ++ [a21]) ++ [a22]) := m21.snoc s len21 (.inr ea)
    have len22 : ((((as18 ++ [a19]) ++ [a20]) ++ [a21]) ++ [a22]).length = 22 := by rw [List.length_append, len21]; rfl
    clear s ea
    refine fun a23 H23 _ s ea => ?_
    have z23 := z22.trans s
    have e23 := s _ _ e22
    have m23 : Md c H23 (((((as18 ++ [a19]) ++ [a20]) ++ [a21]) ++ [a22]) ++ [a23]) := m22.snoc s len22 (.inr ea)
    have len23 : (((((as18 ++ [a19]) ++ [a20]) ++ [a21]) ++ [a22]) ++ [a23]).length = 23 := by rw [List.length_append, len22]; rfl
    clear s ea
    refine ⟨_, rfl, _, rfl, fun a24 d24 H24 _ _ s ea ed => ?_⟩
    have z24 := z23.trans s
    have e24 := s _ _ e23
    have m24 : Md c H24 ((((((as18 ++ [a19]) ++ [a20]) ++ [a21]) ++ [a22]) ++ [a23]) ++ [a24]) := m23.snoc s len23 (xNew ea ed)
    have len24 : ((((((as18 ++ [a19]) ++ [a20]) ++ [a21]) ++ [a22]) ++ [a23]) ++ [a24]).length = 24 := by rw [List.length_append, len23]; rfl
    clear s ea ed
    refine ⟨by show 6 ≤ sizeLine; decide, fun q hq => ?_⟩
    refine ⟨_, q, as18.map V.ref, [V.ref a19, V.ref a20, V.ref a21, V.ref a22, V.ref a23, V.ref a24], rfl, rfl, by rw [upd_ne (ne_of_none e24 hq)]; exact e24, upd_same, by rw [List.length_map, len18]; show 24 ≤ sizeLine; decide, fun l' hl' => ?_⟩
    have zz := (z24.new (o := .lst [V.ref a19, V.ref a20, V.ref a21, V.ref a22, V.ref a23, V.ref a24]) hq).new (o := .lst (as18.map V.ref ++ [V.ref a19, V.ref a20, V.ref a21, V.ref a22, V.ref a23, V.ref a24])) hl'
    have ee : upd (upd H24 q (.lst [V.ref a19, V.ref a20, V.ref a21, V.ref a22, V.ref a23, V.ref a24])) l' (.lst (as18.map V.ref ++ [V.ref a19, V.ref a20, V.ref a21, V.ref a22, V.ref a23, V.ref a24])) l' = some (.lst (((((((as18 ++ [a19]) ++ [a20]) ++ [a21]) ++ [a22]) ++ [a23]) ++ [a24]).map V.ref)) := by rw [upd_same]; simp
    have mm := m24.same ((Same.new (fun _ _ e => e) hq : Same H24 (upd H24 q (.lst [V.ref a19, V.ref a20, V.ref a21, V.ref a22, V.ref a23, V.ref a24]))).new (o := .lst (as18.map V.ref ++ [V.ref a19, V.ref a20, V.ref a21, V.ref a22, V.ref a23, V.ref a24])) hl')
    generalize upd (upd H24 q (.lst [V.ref a19, V.ref a20, V.ref a21, V.ref a22, V.ref a23, V.ref a24])) l' (.lst (as18.map V.ref ++ [V.ref a19, V.ref a20, V.ref a21, V.ref a22, V.ref a23, V.ref a24])) = G3 at zz ee mm ⊢
    clear z24 e24 m24 hq hl' q
    have z24 := zz
    obtain ⟨as24, e24, m24, len24⟩ : ∃ as : List Addr, G3 l' = some (.lst (as.map V.ref)) ∧ Md c G3 as ∧ as.length = 24 := ⟨_, ee, mm, len24⟩
    clear zz ee mm
    refine ⟨_, rfl, ?_⟩
    refine ⟨_, rfl, fun a25 d25 H25 _ _ s ea ed => ?_⟩
    have z25 := z24.trans s
    have e25 := s _ _ e24
    have m25 : Md c H25 (as24 ++ [a25]) := m24.snoc s len24 (xNew ea ed)
    have len25 : (as24 ++ [a25]).length = 25 := by rw [List.length_append, len24]; rfl
    clear s ea ed
    refine ⟨_, rfl, _, rfl, fun a26 d26 H26 _ _ s ea ed => ?_⟩
    have z26 := z25.trans s
    have e26 := s _ _ e25
    have m26 : Md c H26 ((as24 ++ [a25]) ++ [a26]) := m25.snoc s len25 (xNew ea ed)
    have len26 : ((as24 ++ [a25]) ++ [a26]).length = 26 := by rw [List.length_append, len25]; rfl
    clear s ea ed
    refine ⟨_, rfl, fun a27 d27 H27 _ _ s ea ed => ?_⟩
    have z27 := z26.trans s
    have e27 := s _ _ e26
    have m27 : Md c H27 (((as24 ++ [a25]) ++ [a26]) ++ [a27]) := m26.snoc s len26 (xNew ea ed)
    have len27 : (((as24 ++ [a25]) ++ [a26]) ++ [a27]).length = 27 := by rw [List.length_append, len26]; rfl
    clear s ea ed
    refine fun a28 H28 _ s ea => ?_
    have z28 := z27.trans s
    have e28 := s _ _ e27
    have m28 : Md c H28 ((((as24 ++ [a25]) ++ [a26]) ++ [a27]) ++ [a28]) := m27.snoc s len27 (.inr ea)
    have len28 : ((((as24 ++ [a25]) ++ [a26]) ++ [a27]) ++ [a28]).length = 28 := by rw [List.length_append, len27]; rfl
    clear s ea
    refine fun a29 H29 _ s ea => ?_
    have z29 := z28.trans s
    have e29 := s _ _ e28
    have m29 : Md c H29 (((((as24 ++ [a25]) ++ [a26]) ++ [a27]) ++ [a28]) ++ [a29]) := m28.snoc s len28 (.inr ea)
    have len29 : (((((as24 ++ [a25]) ++ [a26]) ++ [a27]) ++ [a28]) ++ [a29]).length = 29 := by rw [List.length_append, len28]; rfl
    clear s ea
    refine ⟨by show 5 ≤ sizeLine; decide, fun q hq => ?_⟩
    refine ⟨_, q, as24.map V.ref, [V.ref a25, V.ref a26, V.ref a27, V.ref a28, V.ref a29], rfl, rfl, by rw [upd_ne (ne_of_none e29 hq)]; exact e29, upd_same, by rw [List.length_map, len24]; show 29 ≤ sizeLine; decide, fun l' hl' => ?_⟩
    have zz := (z29.new (o := .lst [V.ref a25, V.ref a26, V.ref a27, V.ref a28, V.ref a29]) hq).new (o := .lst (as24.map V.ref ++ [V.ref a25, V.ref a26, V.ref a27, V.ref a28, V.ref a29])) hl'
    have ee : upd (upd H29 q (.lst [V.ref a25, V.ref a26, V.ref a27, V.ref a28, V.ref a29])) l' (.lst (as24.map V.ref ++ [V.ref a25, V.ref a26, V.ref a27, V.ref a28, V.ref a29])) l' = some (.lst ((((((as24 ++ [a25]) ++ [a26]) ++ [a27]) ++ [a28]) ++ [a29]).map V.ref)) := by rw [upd_same]; simp
    have mm := m29.same ((Same.new (fun _ _ e => e) hq : Same H29 (upd H29 q (.lst [V.ref a25, V.ref a26, V.ref a27, V.ref a28, V.ref a29]))).new (o := .lst (as24.map V.ref ++ [V.ref a25, V.ref a26, V.ref a27, V.ref a28, V.ref a29])) hl')
    generalize upd (upd H29 q (.lst [V.ref a25, V.ref a26, V.ref a27, V.ref a28, V.ref a29])) l' (.lst (as24.map V.ref ++ [V.ref a25, V.ref a26, V.ref a27, V.ref a28, V.ref a29])) = G4 at zz ee mm ⊢
    clear z29 e29 m29 hq hl' q
    have z29 := zz
    obtain ⟨as29, e29, m29, len29⟩ : ∃ as : List Addr, G4 l' = some (.lst (as.map V.ref)) ∧ Md c G4 as ∧ as.length = 29 := ⟨_, ee, mm, len29⟩
    clear zz ee mm
    have get : ∀ n (x : V), (as29.map V.ref)[n]? = some x → ∃ a, x = .ref a ∧ as29[n]? = some a ∧ n < 29 := fun n x hx => by
      rw [List.getElem?_map] at hx
      cases e : as29[n]? with
      | none => rw [e] at hx; cases hx
      | some a =>
        rw [e] at hx
        have z := (List.getElem?_eq_some_iff.mp e).1
        exact ⟨a, (Option.some.inj hx).symm, rfl, by omega⟩
    refine ⟨_, rfl, l', rfl, ⟨_, SqL.of e29⟩, fun D hD => lc_list (K := K) (a := l') (xs := as29.map V.ref) (fun n H2 => Same G4 H2 ∧ H2 D = some (.lst ((List.replicate n true).map V.bl))) ⟨Same.new (fun _ _ e => e) hD, upd_same⟩ (fun n H2 _ p => p.1.seq (SqL.of e29)) ?_ ?_⟩
    · rintro n x H2 hx ⟨sS, eD⟩
      obtain ⟨a, rfl, ha, hn⟩ := get n x hx
      have xa := xat_same (m29 n a ha) sS
      refine ⟨rfl, _, rfl, a, c n, _, _, _, rfl, ClsV.own _, xa, T.Z n hn, T.subS n hn, true, rfl, _, rfl, a, c n, _, _, _, rfl, ClsV.ty _, xa, T.Z n hn, T.subV n hn, _, eD, ?_, fun b o e => by rw [upd_ne (ne_of_none e hD)]; exact sS b o e, ?_⟩
      · exact small1000 (by rw [List.length_map, List.length_replicate]; omega)
      · rw [upd_same, List.replicate_succ', List.map_append]
        rfl
    rintro H5 ⟨s5, e5⟩
    have yes : (List.replicate (as29.map V.ref).length true).all id = true := by simp
    refine ⟨D, _, rfl, SqL.of e5, _, rfl, ?_⟩
    rw [yes]
    refine iteF ?_
    have e5' := s5 _ _ e29
    have hlen : (as29.map V.ref).length = 29 := by rw [List.length_map, len29]
    refine ⟨_, rfl, l', _, rfl, .inl (SqL.of e5'), _, _, rfl, rfl, _, rfl, l', _, rfl, .inl (SqL.of e5'), ?_⟩
    rw [hlen]
    refine ⟨29, rfl, by decide, by decide, fun D2 hD2 => lc_range (lo := 0) (n := 29) (fun n H2 => Same H5 H2 ∧ H2 D2 = some (.lst ((List.replicate n true).map V.bl))) ⟨Same.new (fun _ _ e => e) hD2, upd_same⟩ ?_ ?_⟩
    · rintro i H2 hi ⟨sS, eD⟩
      obtain ⟨a, ha⟩ : ∃ a, as29[i]? = some a := ⟨_, List.getElem?_eq_getElem (by omega)⟩
      have xa := xat_same (m29 i a ha) (s5.trans sS)
      have eA := sS _ _ e5'
      refine ⟨rfl, _, rfl, _, rfl, l', _, _, .ref a, rfl, rfl, SqL.of eA, by rw [Int.zero_add]; exact atI_nat (by rw [List.getElem?_map, ha]; rfl), a, i, rfl, hi, xa, fun lk H3 s3 e3 => ?_⟩
      have small : ∀ n : Nat, n ≤ 100 → n ≤ sizeLine := fun n h => Nat.le_of_lt (small1000 (by omega))
      have r1 : (List.replicate (0 + (i : Int)).toNat [V.int 0]).flatten = (List.replicate i (0 : Int)).map V.int := by rw [Int.zero_add, Int.toNat_natCast, rep0]
      have r2 : (List.replicate (((29 : Nat) : Int) - 1 - (0 + (i : Int))).toNat [V.int 0]).flatten = (List.replicate (28 - i) (0 : Int)).map V.int := by
        rw [show (((29 : Nat) : Int) - 1 - (0 + (i : Int))).toNat = 28 - i by omega, rep0]
      refine ⟨by show 1 ≤ sizeLine; decide, fun b1 q1 => ⟨_, rfl, b1, _, _, rfl, rfl, upd_same, by omega, by omega, small _ (by show 1 * (0 + (i : Int)).toNat ≤ 100; omega), fun b2 q2 => ?_⟩⟩
      rw [r1]
      have f2 : upd (upd H3 b1 (.lst [.int 0])) b2 (.lst ((List.replicate i (0 : Int)).map V.int)) b2 = some (.lst ((List.replicate i (0 : Int)).map V.int)) := upd_same
      have t2 := ((Same.new (fun _ _ e => e) q1 : Same H3 (upd H3 b1 (.lst [.int 0]))).new (o := .lst ((List.replicate i (0 : Int)).map V.int)) q2)
      generalize upd (upd H3 b1 (.lst [.int 0])) b2 (.lst ((List.replicate i (0 : Int)).map V.int)) = J2 at f2 t2 ⊢
      refine ⟨by show 1 ≤ sizeLine; decide, fun b3 q3 => ⟨b2, b3, _, _, rfl, rfl, by rw [upd_ne (ne_of_none f2 q3)]; exact f2, upd_same, small _ (by rw [List.length_map, List.length_replicate]; show i + 1 ≤ 100; omega), fun b4 q4 => ?_⟩⟩
      have f4 : upd (upd J2 b3 (.lst [.int 1])) b4 (.lst ((List.replicate i (0 : Int)).map V.int ++ [.int 1])) b4 = some (.lst ((List.replicate i (0 : Int) ++ [1]).map V.int)) := by rw [upd_same, List.map_append]; rfl
      have t4 := t2.trans ((Same.new (fun _ _ e => e) q3 : Same J2 (upd J2 b3 (.lst [.int 1]))).new (o := .lst ((List.replicate i (0 : Int)).map V.int ++ [.int 1])) q4)
      generalize upd (upd J2 b3 (.lst [.int 1])) b4 (.lst ((List.replicate i (0 : Int)).map V.int ++ [.int 1])) = J4 at f4 t4 ⊢
      refine ⟨by show 1 ≤ sizeLine; decide, fun b5 q5 => ⟨_, rfl, _, rfl, _, _, rfl, rfl, b5, _, _, rfl, rfl, upd_same, by omega, by omega, small _ (by show 1 * ((29 : Int) - 1 - (0 + (i : Int))).toNat ≤ 100; omega), fun b6 q6 => ?_⟩⟩
      rw [r2]
      have f6 : upd (upd J4 b5 (.lst [.int 0])) b6 (.lst ((List.replicate (28 - i) (0 : Int)).map V.int)) b6 = some (.lst ((List.replicate (28 - i) (0 : Int)).map V.int)) := upd_same
      have t5 := ((Same.new (fun _ _ e => e) q5 : Same J4 (upd J4 b5 (.lst [.int 0]))).new (o := .lst ((List.replicate (28 - i) (0 : Int)).map V.int)) q6)
      have g4 := t5 _ _ f4
      have t6 := t4.trans t5
      generalize upd (upd J4 b5 (.lst [.int 0])) b6 (.lst ((List.replicate (28 - i) (0 : Int)).map V.int)) = J6 at f6 t6 g4 ⊢
      refine ⟨b4, b6, _, _, rfl, rfl, g4, f6, small _ (by rw [List.length_map, List.length_map, List.length_append, List.length_replicate, List.length_replicate]; show i + 1 + (28 - i) ≤ 100; omega), fun b7 q7 => ?_⟩
      have f7 : upd J6 b7 (.lst ((List.replicate i (0 : Int) ++ [1]).map V.int ++ (List.replicate (28 - i) (0 : Int)).map V.int)) b7 = some (.lst ((kindsOf i).map V.int)) := by rw [upd_same, kinds_eq i hi, List.map_append (l₁ := List.replicate i 0 ++ [1])]
      have t7 : Same H3 _ := t6.new (o := .lst ((List.replicate i (0 : Int) ++ [1]).map V.int ++ (List.replicate (28 - i) (0 : Int)).map V.int)) q7
      generalize upd J6 b7 (.lst ((List.replicate i (0 : Int) ++ [1]).map V.int ++ (List.replicate (28 - i) (0 : Int)).map V.int)) = J7 at f7 t7 ⊢
      have sd := PySem.W.ke_shaped_ints (kindsOf i)
      have sH := sS.trans (s3.trans t7)
      refine ⟨.list ((kindsOf i).map PyData.int), .list ((kindsOf i).map PyData.int), .lst (SqL.of (t7 _ _ e3)) (dp_ints _), .lst (SqL.of f7) (dp_ints _), sd, sd, _, t7 _ _ (s3 _ _ eD), ?_, fun b o e => by rw [upd_ne (ne_of_none e hD2)]; exact sH b o e, ?_⟩
      · exact small1000 (by rw [List.length_map, List.length_replicate]; omega)
      · rw [upd_same, List.replicate_succ', List.map_append, PySem.SeqAt.eqv_refl _ (PySem.SeqAt.canLay_of_shaped sd)]
        rfl
    · rintro H6 ⟨s6, e6⟩
      have yes2 : (List.replicate 29 true).all id = true := by decide
      refine ⟨D2, _, rfl, SqL.of e6, ?_⟩
      rw [yes2]
      exact k _ (z29.trans (s5.trans s6))
end
end K00

namespace K00
open PySem PySem.Spec PyProof.Rows L2
abbrev sLaw : Stmt := top 41
/-- the twelve values -/
structure Vals12 (H : Hp) (xs : List V) : Prop where
  ex : ∃ t1 l1 d1 t2 t3 : Addr, xs = [.non, .bl true, .int 0, .int (-3), .str "", .str "x y", .ref t1, .ref l1, .ref d1, .int 1000000000, .str "a", .ref t2] ∧
    H t1 = some (.tup [.int 1, .int 2]) ∧ H l1 = some (.lst [.str "x"]) ∧ H d1 = some (.dK []) ∧ H t2 = some (.tup [.ref t3, .int 2]) ∧ H t3 = some (.tup [.int 0, .int 1])
theorem Vals12.same {H H' : Hp} {xs : List V} (x : Vals12 H xs) (s : Same H H') : Vals12 H' xs := by
  obtain ⟨t1, l1, d1, t2, t3, e, h1, h2, h3, h4, h5⟩ := x.ex
  exact ⟨t1, l1, d1, t2, t3, e, s _ _ h1, s _ _ h2, s _ _ h3, s _ _ h4, s _ _ h5⟩
theorem Vals12.but {H H' : Hp} {xs : List V} {d c : Addr} {st r : Int} (x : Vals12 H xs) (hd : H d = some (.dK (pen c st r))) (s : SameBut d H H') : Vals12 H' xs := by
  obtain ⟨t1, l1, d1, t2, t3, e, h1, h2, h3, h4, h5⟩ := x.ex
  refine ⟨t1, l1, d1, t2, t3, e, s _ _ h1 (ne_of h1 hd (by intro z; cases z)), s _ _ h2 (ne_of h2 hd (by intro z; cases z)), s _ _ h3 (ne_of h3 hd (by intro z; cases z)), s _ _ h4 (ne_of h4 hd (by intro z; cases z)), s _ _ h5 (ne_of h5 hd (by intro z; cases z))⟩
/-- what is asked of a value: its type, and that it is equal to itself -/
def Good (K : PySem.W.Frag) (H : Hp) (v : V) : Prop := (∃ t b, TyX K H v t ∧ PySem.W.kitOne K t (.type "bool") = some b) ∧
  ((∃ e, Dp K H v e ∧ PySem.SeqAt.shaped e = true) ∨ ∃ a, v = .ref a ∧ H a = some (.dK []))
section
variable {K : PySem.W.Frag} {H : Hp} {v : V}
theorem good_of {xs : List V} (x : Vals12 H xs) (h : v ∈ xs) : Good K H v := by
  obtain ⟨t1, l1, d1, t2, t3, rfl, h1, h2, h3, h4, h5⟩ := x.ex
  simp only [List.mem_cons, List.not_mem_nil, or_false] at h
  rcases h with rfl | rfl | rfl | rfl | rfl | rfl | rfl | rfl | rfl | rfl | rfl | rfl
  · exact ⟨⟨_, false, .base .non, kit_ty (by decide +kernel)⟩, .inl ⟨_, .non, by decide +kernel⟩⟩
  · exact ⟨⟨_, true, .base (.bl _), kit_ty (by decide +kernel)⟩, .inl ⟨_, .bl _, by decide +kernel⟩⟩
  · exact ⟨⟨_, false, .base (.int _), kit_ty (by decide +kernel)⟩, .inl ⟨_, .int _, by decide +kernel⟩⟩
  · exact ⟨⟨_, false, .base (.int _), kit_ty (by decide +kernel)⟩, .inl ⟨_, .int _, by decide +kernel⟩⟩
  · exact ⟨⟨_, false, .base (.str _), kit_ty (by decide +kernel)⟩, .inl ⟨_, .str _, by decide +kernel⟩⟩
  · exact ⟨⟨_, false, .base (.str _), kit_ty (by decide +kernel)⟩, .inl ⟨_, .str _, by decide +kernel⟩⟩
  · exact ⟨⟨_, false, .base (.tup h1), kit_ty (by decide +kernel)⟩, .inl ⟨_, .tup (SqT.of h1) (.cons (.int 1) (.cons (.int 2) .nil)), by decide +kernel⟩⟩
  · exact ⟨⟨_, false, .base (.lst h2), kit_ty (by decide +kernel)⟩, .inl ⟨_, .lst (SqL.of h2) (.cons (.str "x") .nil), by decide +kernel⟩⟩
  · exact ⟨⟨_, false, .base (.dK h3), kit_ty (by decide +kernel)⟩, .inr ⟨_, rfl, h3⟩⟩
  · exact ⟨⟨_, false, .base (.int _), kit_ty (by decide +kernel)⟩, .inl ⟨_, .int _, by decide +kernel⟩⟩
  · exact ⟨⟨_, false, .base (.str _), kit_ty (by decide +kernel)⟩, .inl ⟨_, .str _, by decide +kernel⟩⟩
  · exact ⟨⟨_, false, .base (.tup h4), kit_ty (by decide +kernel)⟩, .inl ⟨_, .tup (SqT.of h4) (.cons (.tup (SqT.of h5) (.cons (.int 0) (.cons (.int 1) .nil))) (.cons (.int 2) .nil)), by decide +kernel⟩⟩
def rNe12 (K : PySem.W.Frag) : R2 := fun x y H Q => rNeD K x y H Q ∨ rNeDA x y H Q
theorem op_ne12 {X : Cx} (hu : X.A.units + 64 < cLine) : OpR X (compareOp .NotEq) (rNe12 X.K) := OpR.or (op_neD hu) (op_ne_dictA (by omega))
theorem good_ne {Q : VK} (g : Good K H v) (q : Q (.bl false) H) : rNe12 K v v H Q := by
  rcases g.2 with ⟨e, d, s⟩ | ⟨a, rfl, h⟩
  · refine .inl ⟨e, e, d, d, s, s, ?_⟩
    rw [PySem.SeqAt.eqv_refl _ (PySem.SeqAt.canLay_of_shaped s)]
    exact q
  · exact .inr ⟨a, a, [], [], rfl, rfl, h, h, rfl, (fun p z => nomatch z), q⟩
end
end K00


namespace K00
open PySem PySem.Spec PyProof.Rows L2
structure TxtL (mg : Str → Option Value) : Prop where
  range : mg "range" = none
  min : mg "min" = none
  len : mg "len" = none
  bool : mg "bool" = none
  all : mg "all" = none
def spLaw (K : PySem.W.Frag) : Sp := fun vs H Q _ => ∃ (a : Addr) (ns : List Int), vs = [.ref a] ∧ SqL K H a (ns.map V.int) ∧ ns.length ≤ 63 ∧ ∀ H', Q (.bl true) H'
section
variable {P : Program} {w : World} {K : PySem.W.Frag} {mg : Str → Option Value} {base : Heap} {c : Nat → Addr} {S : Addr}
theorem scL : FnScope ["_law_script", "_law_pen_here", "_law_values", "_law_lap", "_law_mine", "_law_yours", "_law_held", "_law_twice", "_law_due", "_law_which"] ["_law_script"] (defScope sLaw) := ⟨rfl, rfl, rfl, by decide +kernel, rfl, by decide +kernel, by decide +kernel⟩
theorem ok_law {f fN fP fA fM fD fC : Addr} {fd fdN fdP fdA fdM fdD fdC : FuncData} (F : Fun K "law" "law" sLaw f fd) (T : Errs P w K mg base c S) (B : TxtL mg)
    (FN : Fun K "_law_pen" "_law_pen" sPen fN fdN) (gN : mg "_law_pen" = some (.ref fN)) (bN : Binds K fdN ["_law_script"] []) (GN : FnOk P w K mg base CX0 1 fN fdN ["_law_script"] (spPen K))
    (FP : Fun K "_law_pick" "_law_pick" sPick fP fdP) (gP : mg "_law_pick" = some (.ref fP)) (bP : Binds K fdP ["_law_pen_here", "_law_some"] []) (GP : FnOk P w K mg base CX0 2 fP fdP ["_law_pen_here", "_law_some"] spPick)
    (FA : Fun K "_law_alone" "_law_alone" sAlone fA fdA) (gA : mg "_law_alone" = some (.ref fA)) (bA : Binds K fdA ["_law_mine"] []) (GA : FnOk P w K mg base CX0 3 fA fdA ["_law_mine"] spAlone)
    (FM : Fun K "_law_more" "_law_more" sMore fM fdM) (gM : mg "_law_more" = some (.ref fM)) (bM : Binds K fdM ["_law_mine", "_law_yours"] []) (GM : FnOk P w K mg base CX0 3 fM fdM ["_law_mine", "_law_yours"] spMore)
    (FD : Fun K "_law_apart" "_law_apart" tApart fD fdD) (gD : mg "_law_apart" = some (.ref fD)) (bD : Binds K fdD ["_law_mine", "_law_yours"] []) (GD : FnOk P w K mg base CX0 4 fD fdD ["_law_mine", "_law_yours"] spApart)
    (FC : Fun K "_law_caught" "_law_caught" sCaught fC fdC) (gC : mg "_law_caught" = some (.ref fC)) (bC : Binds K fdC ["_law_which", "_law_mine"] []) (GC : FnOk P w K mg base CX0 4 fC fdC ["_law_which", "_law_mine"] spCaught) :
    FnOk P w K mg base CX0 5 f fd ["_law_script"] (spLaw K) := by
  refine F.ok scL (fun vs H Q E h => ?_) (fun cdv A outer s H vs Q E hr h => ?_)
  · obtain ⟨a, ns, rfl, _⟩ := h
    rfl
  · obtain ⟨a, ns, rfl, hS, hlen, k⟩ := h
    have nd := scL.nd
    have hu := hu_of hr
    have hr4 : Room 4 _ := hr
    have hr3 : Room 3 _ := hr.mono (by decide)
    have hr2 : Room 2 _ := hr.mono (by decide)
    have hr1 : Room 1 _ := hr.mono (by decide)
    refine ⟨_, (pss_cons (ps_set (i := 1) nd rfl (Or.inl rfl) (pe_call GN hr1 (by rfl) gN FN.kp bN .nil pass0 (pa_cons (pv 0) pa_nil)))
      (pss_cons (ps_set (i := 2) nd rfl (Or.inl rfl) (pe_lst (pa_cons pe_non (pa_cons pe_bl (pa_cons pe_int (pa_cons (pe_un un_neg pe_int) (pa_cons pe_str (pa_cons pe_str (pa_cons (pe_tup (pa_cons pe_int (pa_cons pe_int pa_nil))) (pa_cons (pe_lst (pa_cons pe_str pa_nil)) (pa_cons pe_dnewK (pa_cons (pe_op op_pow pe_int pe_int) (pa_cons pe_str (pa_cons (pe_tup (pa_cons (pe_tup (pa_cons pe_int (pa_cons pe_int pa_nil))) (pa_cons pe_int pa_nil))) pa_nil))))))))))))))
      (pss_cons (ps_for PassesOwn.never rfl (pi_range1 (by rfl) B.range (pa_cons (pe_op op_add pe_int (pe_callB (call_min2 rfl) (by rfl) B.min (by decide +kernel) (pa_cons pe_int (pa_cons (pe_callB call_len_seq (by rfl) B.len PySem.boot_len (pa_cons (pv 0) pa_nil)) pa_nil)))) pa_nil)) (pg_name (i := 3) nd rfl (Or.inl rfl))
      (pss_cons (ps_asg (pe_tup (pa_cons (pe_call GP hr2 (by rfl) gP FP.kp bP .nil pass0 (pa_cons (pv 1) (pa_cons (pv 2) pa_nil))) (pa_cons (pe_call GP hr2 (by rfl) gP FP.kp bP .nil pass0 (pa_cons (pv 1) (pa_cons (pv 2) pa_nil))) pa_nil))) (pg_tup (by rfl) (pgs_cons (pg_name (i := 4) nd rfl (Or.inr rfl)) (pgs_cons (pg_name (i := 5) nd rfl (Or.inl rfl)) pgs_nil))))
      (pss_cons (ps_for PassesOwn.never rfl (pi_list (pe_call GA hr3 (by rfl) gA FA.kp bA .nil pass0 (pa_cons (pv 4) pa_nil))) (pg_tup (by rfl) (pgs_cons (pg_name (i := 6) nd rfl (Or.inl rfl)) (pgs_cons (pg_name (i := 7) nd rfl (Or.inl rfl)) pgs_nil))) (pss_one (ps_if (PW.pt (pw_or (pt_cmpR (op_ne12 hr.units) (pv 6) (pv 4) (nomark _)) (pw_or (pt_cmpR (op_ne12 hr.units) (pv 7) (pv 4) (nomark _)) (pw_or1 (pt_cmpR op_ne (pe_callB call_isi (by rfl) T.isi (by decide +kernel) (pa_cons (pv 6) (pa_cons (pe_bltn (v := .ty "bool") (by rfl) B.bool (by decide +kernel) rfl) pa_nil))) (pe_callB call_isi (by rfl) T.isi (by decide +kernel) (pa_cons (pv 4) (pa_cons (pe_bltn (v := .ty "bool") (by rfl) B.bool (by decide +kernel) rfl) pa_nil))) (nomark _)))))) (pss_one (ps_ret pe_bl)) pss_nil)))
      (pss_cons (ps_for PassesOwn.never rfl (pi_list (pe_call GM hr3 (by rfl) gM FM.kp bM .nil pass0 (pa_cons (pv 4) (pa_cons (pv 5) pa_nil)))) (pg_tup (by rfl) (pgs_cons (pg_name (i := 6) nd rfl (Or.inl rfl)) (pgs_cons (pg_name (i := 8) nd rfl (Or.inl rfl)) pgs_nil))) (pss_one (ps_if (PW.pt (pw_or (pt_cmpR (op_ne12 hr.units) (pv 6) (pv 8) (nomark _)) (pw_or1 (pt_cmpR op_ne (pe_callB call_isi (by rfl) T.isi (by decide +kernel) (pa_cons (pv 6) (pa_cons (pe_bltn (v := .ty "bool") (by rfl) B.bool (by decide +kernel) rfl) pa_nil))) (pe_callB call_isi (by rfl) T.isi (by decide +kernel) (pa_cons (pv 8) (pa_cons (pe_bltn (v := .ty "bool") (by rfl) B.bool (by decide +kernel) rfl) pa_nil))) (nomark _))))) (pss_one (ps_ret pe_bl)) pss_nil)))
      (pss_one (ps_if (PW.pt (pw_or (pt_not (pt_val (pe_call GD hr4 (by rfl) gD FD.kp bD .nil pass0 (pa_cons (pv 4) (pa_cons (pv 5) pa_nil))))) (pw_or1 (pt_not (pt_val (pe_callB (cr_all rfl) (by rfl) B.all (by decide +kernel) (pa_cons (pe_lc (own := [("_law_which", 9)]) (g := gName 9) (tt := tYes) rfl nd (pi_range1 (by rfl) B.range (pa_cons pe_int pa_nil)) (blkOk_by (N := ["_law_script", "_law_pen_here", "_law_values", "_law_lap", "_law_mine", "_law_yours", "_law_held", "_law_twice", "_law_due", "_law_which"]) (sc := defScope sLaw) (by decide +kernel)) (fun _ _ _ _ _ => pg_name (i := 9) nd rfl (Or.inl rfl)) (fun _ _ _ _ _ => pts_nil) (fun _ _ _ _ _ => by exact (pe_call GC hr4 (by rfl) gC FC.kp bC .nil pass0 (pa_cons (pv 9) (pa_cons (pv 4) pa_nil))))) pa_nil))))))) (pss_one (ps_ret pe_bl)) pss_nil))))))
      (pss_one (ps_ret pe_bl))))), ?_⟩
    refine ⟨_, rfl, a, ns, rfl, hS, hlen, fun d cl H1 _ _ s1 p1 => ?_⟩
    -- the twelve values
    refine ⟨_, rfl, by show 2 ≤ sizeLine; decide, fun t1 q1 => ⟨by show 1 ≤ sizeLine; decide, fun l1 q2 d1 q3 => ⟨_, _, rfl, rfl, ⟨by decide, by decide, by decide⟩, by show 2 ≤ sizeLine; decide, fun t3 q4 => ⟨by show 2 ≤ sizeLine; decide, fun t2 q5 => ⟨by show 12 ≤ sizeLine; decide, fun lv q6 => ?_⟩⟩⟩⟩⟩
    have c2 : Same (upd H1 t1 (.tup [.int 1, .int 2])) (upd (upd H1 t1 (.tup [.int 1, .int 2])) l1 (.lst [.str "x"])) := Same.new (fun _ _ e => e) q2
    have c3 : Same (upd (upd H1 t1 (.tup [.int 1, .int 2])) l1 (.lst [.str "x"])) (upd (upd (upd H1 t1 (.tup [.int 1, .int 2])) l1 (.lst [.str "x"])) d1 (.dK [])) := Same.new (fun _ _ e => e) q3
    have c4 : Same (upd (upd (upd H1 t1 (.tup [.int 1, .int 2])) l1 (.lst [.str "x"])) d1 (.dK [])) (upd (upd (upd (upd H1 t1 (.tup [.int 1, .int 2])) l1 (.lst [.str "x"])) d1 (.dK [])) t3 (.tup [.int 0, .int 1])) := Same.new (fun _ _ e => e) q4
    have c5 : Same (upd (upd (upd (upd H1 t1 (.tup [.int 1, .int 2])) l1 (.lst [.str "x"])) d1 (.dK [])) t3 (.tup [.int 0, .int 1])) (upd (upd (upd (upd (upd H1 t1 (.tup [.int 1, .int 2])) l1 (.lst [.str "x"])) d1 (.dK [])) t3 (.tup [.int 0, .int 1])) t2 (.tup [.ref t3, .int 2])) := Same.new (fun _ _ e => e) q5
    obtain ⟨xs, hxs⟩ : ∃ xs : List V, xs = [.non, .bl true, .int 0, .int (-3), .str "", .str "x y", .ref t1, .ref l1, .ref d1, .int 1000000000, .str "a", .ref t2] := ⟨_, rfl⟩
    have v5 : Vals12 (upd (upd (upd (upd (upd H1 t1 (.tup [.int 1, .int 2])) l1 (.lst [.str "x"])) d1 (.dK [])) t3 (.tup [.int 0, .int 1])) t2 (.tup [.ref t3, .int 2])) xs := ⟨t1, l1, d1, t2, t3, hxs, c5 _ _ (c4 _ _ (c3 _ _ (c2 _ _ upd_same))), c5 _ _ (c4 _ _ (c3 _ _ upd_same)), c5 _ _ (c4 _ _ upd_same), upd_same, c5 _ _ upd_same⟩
    have p5 := ((((p1.new (o := .tup [.int 1, .int 2]) q1).new (o := .lst [.str "x"]) q2).new (o := .dK []) q3).new (o := .tup [.int 0, .int 1]) q4).new (o := .tup [.ref t3, .int 2]) q5
    have a5 : Same H (upd (upd (upd (upd (upd H1 t1 (.tup [.int 1, .int 2])) l1 (.lst [.str "x"])) d1 (.dK [])) t3 (.tup [.int 0, .int 1])) t2 (.tup [.ref t3, .int 2])) := ((((s1.new q1).trans c2).trans c3).trans c4).trans c5
    have xlen : xs.length = 12 := by rw [hxs]; rfl
    have v6 := v5.same (Same.new (o := .lst xs) (fun _ _ e => e) q6)
    have p6 := p5.new (o := .lst xs) q6
    have a6 : Same H _ := a5.new (o := .lst xs) q6
    have e6 : upd (upd (upd (upd (upd (upd H1 t1 (.tup [.int 1, .int 2])) l1 (.lst [.str "x"])) d1 (.dK [])) t3 (.tup [.int 0, .int 1])) t2 (.tup [.ref t3, .int 2])) lv (.lst xs) lv = some (.lst xs) := upd_same
    have e1000 : (10 : Int) ^ (9 : Int).toNat = 1000000000 := by decide
    rw [show ([V.non, V.bl true, V.int 0, V.int (-3), V.str "", V.str "x y", V.ref t1, V.ref l1, V.ref d1, V.int ((10 : Int) ^ (9 : Int).toNat), V.str "a", V.ref t2] : List V) = xs by rw [hxs, e1000]]
    generalize upd (upd (upd (upd (upd (upd H1 t1 (.tup [.int 1, .int 2])) l1 (.lst [.str "x"])) d1 (.dK [])) t3 (.tup [.int 0, .int 1])) t2 (.tup [.ref t3, .int 2])) lv (.lst xs) = H2 at v6 p6 a6 e6 ⊢
    clear c2 c3 c4 c5 v5 p5 a5 q1 q2 q3 q4 q5 q6 hxs
    obtain ⟨N, hN, hN5⟩ : ∃ N : Nat, (2 + (if ((ns.map V.int).length : Int) < 3 then ((ns.map V.int).length : Int) else 3)) = (N : Int) ∧ N ≤ 5 := by
      by_cases q : ((ns.map V.int).length : Int) < 3
      · rw [if_pos q]
        exact ⟨2 + (ns.map V.int).length, by omega, by omega⟩
      · rw [if_neg q]
        exact ⟨5, rfl, Nat.le_refl _⟩
    refine ⟨_, rfl, a, _, rfl, .inl (a6.seq hS), _, _, rfl, _, _, rfl, rfl, ?_⟩
    refine ⟨(N : Int), congrArg (fun z => [V.int z]) hN, by omega, by omega, for_range (lo := 0) (n := (N : Int).toNat) (fun n σ H3 => ∃ (st r : Int) (v3 v4 v5 v6 v7 v8 : Option V), σ = [some (.ref a), some (.ref d), some (.ref lv), v3, v4, v5, v6, v7, v8, none] ∧
      PenAt H3 d cl st r ns ∧ 0 ≤ st ∧ st ≤ 2 * (n : Int) ∧ Vals12 H3 xs ∧ H3 lv = some (.lst xs)) ⟨0, 0, none, none, none, none, none, none, rfl, p6, by decide, by decide, v6, e6⟩ ?_ ?_⟩
    · rintro n σ H3 hn ⟨st, r, v3, v4, v5, v6', v7, v8, rfl, p3, b0, b1, x3, e3⟩
      -- the two picks
      refine ⟨_, rfl, _, rfl, d, cl, lv, st, r, ns, xs, rfl, p3, b0, by omega, hlen, e3, by omega, by omega, fun v st4 r4 H4 hv b2 b3 p4 sb4 => ?_⟩
      have x4 := x3.but p3.dc sb4
      have e4 := sb4 _ _ e3 (ne_of e3 p3.dc (by intro z; cases z))
      refine ⟨_, rfl, _, rfl, d, cl, lv, st4, r4, ns, xs, rfl, p4, b2, by omega, hlen, e4, by omega, by omega, fun u st5 r5 H5 hw b4 b5 p5 sb5 => ?_⟩
      have x5 := x4.but p4.dc sb5
      have e5 := sb5 _ _ e4 (ne_of e4 p4.dc (by intro z; cases z))
      refine ⟨by show 2 ≤ sizeLine; decide, fun t qt => ⟨t, _, rfl, SqT.of upd_same, rfl, _, _, rfl, _, _, rfl, rfl, ?_⟩⟩
      have p6' := p5.new (o := .tup [v, u]) qt
      have x6 := x5.same (Same.new (o := .tup [v, u]) (fun _ _ e => e) qt)
      have e6' : upd H5 t (.tup [v, u]) lv = some (.lst xs) := by rw [upd_ne (ne_of_none e5 qt)]; exact e5
      generalize upd H5 t (.tup [v, u]) = H6 at p6' x6 e6' ⊢
      -- for held, twice in _law_alone(mine)
      refine ⟨_, rfl, v, rfl, fun la ts H7 s7 e7 pr7 => ?_⟩
      have x7 := x6.same s7
      obtain ⟨⟨tv, bv, tyv, kbv⟩, _⟩ := id (good_of (K := K) x7 hv)
      have gv := good_of (K := K) x7 hv
      have gu := good_of (K := K) x7 hw
      obtain ⟨⟨tu, bu, tyu, kbu⟩, _⟩ := id gu
      refine ⟨la, rfl, ⟨_, SqL.of e7⟩, for_list (K := K) (a := la) (xs := ts.map V.ref) (fun m σ G => G = H7 ∧ ∃ w6 w7 : Option V, σ = [some (.ref a), some (.ref d), some (.ref lv), some (.int (0 + (n : Int))), some v, some u, w6, w7, v8, none]) ⟨rfl, _, _, rfl⟩ (fun m σ G _ p => p.1 ▸ SqL.of e7) ?_ ?_⟩
      · rintro m x σ G hx ⟨rfl, w6, w7, rfl⟩
        obtain ⟨t', rfl, ht'⟩ : ∃ t', x = .ref t' ∧ t' ∈ ts := by
          have z := List.mem_of_getElem? hx
          rw [List.mem_map] at z
          obtain ⟨t', h1, h2⟩ := z
          exact ⟨t', h2.symm, h1⟩
        refine ⟨t', _, rfl, SqT.of (pr7 t' ht'), rfl, _, _, rfl, _, _, rfl, rfl, ?_⟩
        refine ⟨_, rfl, _, rfl, good_ne gv ⟨_, rfl, ?_⟩⟩
        refine iteF ⟨_, rfl, _, rfl, good_ne gv ⟨_, rfl, ?_⟩⟩
        refine iteF ⟨_, rfl, v, .ty "bool", tv, _, bv, rfl, ClsV.ty _, tyv, kbv, _, rfl, v, .ty "bool", tv, _, bv, rfl, ClsV.ty _, tyv, kbv, rfl, _, rfl, ?_⟩
        refine iteNS rfl ?_
        exact ⟨rfl, _, _, rfl⟩
      rintro σ G ⟨rfl, w6, w7, rfl⟩
      -- for held, due in _law_more(mine, yours)
      refine ⟨_, rfl, _, rfl, v, u, rfl, fun lm ts2 H8 s8 e8 pr8 => ?_⟩
      have x8 := x7.same s8
      have gv8 := good_of (K := K) x8 hv
      have gu8 := good_of (K := K) x8 hw
      refine ⟨lm, rfl, ⟨_, SqL.of e8⟩, for_list (K := K) (a := lm) (xs := ts2.map V.ref) (fun m σ G => G = H8 ∧ ∃ w6 w8 : Option V, σ = [some (.ref a), some (.ref d), some (.ref lv), some (.int (0 + (n : Int))), some v, some u, w6, w7, w8, none]) ⟨rfl, _, _, rfl⟩ (fun m σ G _ p => p.1 ▸ SqL.of e8) ?_ ?_⟩
      · rintro m x σ G hx ⟨rfl, w6, w8, rfl⟩
        obtain ⟨t', rfl, ht'⟩ : ∃ t', x = .ref t' ∧ t' ∈ ts2 := by
          have z := List.mem_of_getElem? hx
          rw [List.mem_map] at z
          obtain ⟨t', h1, h2⟩ := z
          exact ⟨t', h2.symm, h1⟩
        obtain ⟨y, gy, ey⟩ : ∃ y, Good K G y ∧ G t' = some (.tup [y, y]) := by
          rcases pr8 t' ht' with q | q
          · exact ⟨v, gv8, q⟩
          · exact ⟨u, gu8, q⟩
        obtain ⟨⟨ty, by', tyy, kby⟩, _⟩ := id gy
        refine ⟨t', _, rfl, SqT.of ey, rfl, _, _, rfl, _, _, rfl, rfl, ?_⟩
        refine ⟨_, rfl, _, rfl, good_ne gy ⟨_, rfl, ?_⟩⟩
        refine iteF ⟨_, rfl, y, .ty "bool", ty, _, by', rfl, ClsV.ty _, tyy, kby, _, rfl, y, .ty "bool", ty, _, by', rfl, ClsV.ty _, tyy, kby, rfl, _, rfl, ?_⟩
        refine iteNS rfl ?_
        exact ⟨rfl, _, _, rfl⟩
      rintro σ G ⟨rfl, w6, w8, rfl⟩
      -- the kinds, and what is caught
      refine ⟨_, rfl, _, rfl, v, u, rfl, fun H9 s9 => ⟨_, rfl, ?_⟩⟩
      refine iteF ⟨6, rfl, by decide, by decide, fun D hD => lc_range (lo := 0) (n := 6) (fun m H2 => Same H9 H2 ∧ H2 D = some (.lst ((List.replicate m true).map V.bl))) ⟨Same.new (fun _ _ e => e) hD, upd_same⟩ ?_ ?_⟩
      · rintro i H2 hi ⟨sS, eD⟩
        refine ⟨rfl, _, rfl, _, rfl, _, v, rfl, fun H10 s10 => ⟨_, s10 _ _ eD, ?_, fun b o e => by rw [upd_ne (ne_of_none e hD)]; exact s10 _ _ (sS b o e), ?_⟩⟩
        · exact small1000 (by rw [List.length_map, List.length_replicate]; omega)
        · rw [upd_same, List.replicate_succ', List.map_append]
          rfl
      rintro H10 ⟨s10, e10⟩
      refine ⟨D, List.replicate 6 true, rfl, SqL.of e10, _, rfl, ?_⟩
      refine iteF ?_
      have all := s7.trans (s8.trans (s9.trans s10))
      exact ⟨st5, r5, _, _, _, _, _, _, rfl, ⟨all _ _ p6'.dc, all _ _ p6'.ls⟩, b4, by omega, x6.same all, all _ _ e6'⟩
    · rintro σ H3 ⟨st, r, v3, v4, v5, v6', v7, v8, rfl, _⟩
      exact k H3
end
end K00

namespace K00
open PySem PySem.Spec PyProof.Rows L2
abbrev tailVE : List Value := [.type "ValueError", .type "Exception", .type "BaseException", .type "object"]
/-- a class at C right below the one at S -/
structure At (K : PySem.W.Frag) (C S : Addr) : Prop where
  cl : ∃ cd : ClassData, PySem.W.clsIn K C = some cd ∧ cd.mro = .ref C :: .ref S :: tailVE
  ty : PySem.W.typeIn K (.ref C) = some (.type "type")
/-- what the top's own class says -/
structure AtS (K : PySem.W.Frag) (S : Addr) : Prop where
  cl : ∃ cd : ClassData, PySem.W.clsIn K S = some cd ∧ cd.mro = .ref S :: tailVE
  ty : PySem.W.typeIn K (.ref S) = some (.type "type")
section
variable {K : PySem.W.Frag} {C D S : Addr}
theorem At.sub (a : At K C S) (u : Value) : PySem.W.subIn K (.ref C) u = some ((Value.ref C :: .ref S :: tailVE).contains u) := by
  obtain ⟨cd, h1, h2⟩ := a.cl
  show PySem.W.mroIn K C u = _
  unfold PySem.W.mroIn
  rw [h1, Option.bind_some, h2]
  rfl
theorem AtS.sub (a : AtS K S) (u : Value) : PySem.W.subIn K (.ref S) u = some ((Value.ref S :: tailVE).contains u) := by
  obtain ⟨cd, h1, h2⟩ := a.cl
  show PySem.W.mroIn K S u = _
  unfold PySem.W.mroIn
  rw [h1, Option.bind_some, h2]
  rfl
theorem At.su (a : At K C S) : PySem.W.subIn K (.ref C) (.type "BaseException") = some true := by rw [a.sub]; simp
theorem AtS.su (a : AtS K S) : PySem.W.subIn K (.ref S) (.type "BaseException") = some true := by rw [a.sub]; simp
theorem At.mr (a : At K C S) : PySem.W.mroIn K C (.type "object") = some true := by
  have h := a.sub (.type "object")
  have e : (Value.ref C :: .ref S :: tailVE).contains (.type "object") = true := by simp
  rw [e] at h
  exact h
theorem kitCls_at (b : At K D S) {t : Value} {r : Bool} (h : PySem.W.subIn K t (.ref D) = some r) : PySem.W.kitCls K t (.ref D) = some r := by
  obtain ⟨cd, h1, _⟩ := b.cl
  show (if ((PySem.W.clsIn K D).isSome && PySem.W.typeIn K (.ref D) == some (.type "type")) = true then PySem.W.subIn K t (.ref D) else none) = some r
  rw [if_pos (by rw [h1, b.ty]; rfl)]
  exact h
theorem kitCls_atS (b : AtS K S) {t : Value} {r : Bool} (h : PySem.W.subIn K t (.ref S) = some r) : PySem.W.kitCls K t (.ref S) = some r := by
  obtain ⟨cd, h1, _⟩ := b.cl
  show (if ((PySem.W.clsIn K S).isSome && PySem.W.typeIn K (.ref S) == some (.type "type")) = true then PySem.W.subIn K t (.ref S) else none) = some r
  rw [if_pos (by rw [h1, b.ty]; rfl)]
  exact h
theorem kit_same : PySem.W.kitOne K (.ref C) (.ref C) = some true := by
  unfold PySem.W.kitOne
  rw [if_pos (by simp)]
theorem kit_other (a : At K C S) (b : At K D S) (h : C ≠ D) (h2 : D ≠ S) : PySem.W.kitOne K (.ref C) (.ref D) = some false := by
  unfold PySem.W.kitOne
  rw [if_neg (by simpa using h)]
  refine kitCls_at b ?_
  rw [a.sub]
  have e : (Value.ref C :: .ref S :: tailVE).contains (.ref D) = false := by simp [h.symm, h2]
  rw [e]
theorem kit_S (a : At K C S) (b : AtS K S) (h : C ≠ S) : PySem.W.kitOne K (.ref C) (.ref S) = some true := by
  unfold PySem.W.kitOne
  rw [if_neg (by simpa using h)]
  refine kitCls_atS b ?_
  rw [a.sub]
  simp
theorem kit_V (a : At K C S) : PySem.W.kitOne K (.ref C) (.type "ValueError") = some true := by
  unfold PySem.W.kitOne
  rw [if_neg (by simp)]
  show (if PySem.W.kitMeta "ValueError" = true then PySem.W.subIn K (.ref C) (.type "ValueError") else none) = some true
  rw [if_pos (by decide +kernel), a.sub]
  simp
theorem exm_S (a : At K C S) (b : AtS K S) : PySem.W.exmOne K (.ref C) (.ref S) = some true := by
  unfold PySem.W.exmOne
  rw [if_pos (by rw [b.su]; rfl)]
  refine kitCls_atS b ?_
  rw [a.sub]
  simp
end
end K00

namespace K00
open PySem PySem.Spec PyProof.Rows L2
structure Gx (K : PySem.W.Frag) : Prop where
  sp : PySem.W.specialIn K (.builtin "object.__class__") "__get__" = some (some (.builtin "getset_descriptor.__get__"))
  tk : PySem.W.takesIn K (.builtin "object.__class__") = some true
section
variable {P : Program} {w : World} {K : PySem.W.Frag} {h : Heap} {mg : Str → Option Value} {S C fI N : Addr} {Z : Prop} {nm q : Str} {bs : List Value} {sn : List Str} {sub : List Value} {ab : Bool} {col : Option Bool} {dd od an : Option Addr} {m0 m1 m2 m3 m5 : Option Value} {sl : Array (Option Value)} {oc kV dc pm cd ct : Value}
theorem at_of (xL : K.lookup C = some (excClassObj nm q C N bs (.ref S :: tailVE) true sn sub ab col dd m0 m1 m2 m3 m5 "ValueError.__new__")) : At K C S :=
  ⟨⟨_, by unfold PySem.W.clsIn; rw [xL], rfl⟩, by show (K.lookup C).map (·.cls) = _; rw [xL]; rfl⟩
theorem clsX_of (gx : Gx K) (a : At K C S) (ga : PySem.W.findIn K (.ref C) "__getattribute__" = some (some (.builtin "BaseException.__getattribute__"))) (gt : PySem.W.findIn K (.ref C) "__getattr__" = some none)
    (di : PySem.W.hasDictIn K C = true) (cl : PySem.W.findIn K (.ref C) "__class__" = some (some (.builtin "object.__class__"))) : PySem.ExV.ClsX K C := ⟨ga, gt, a.su, di, cl, gx.sp, gx.tk, a.mr⟩
theorem mk_S (xL : K.lookup S = some (excClassObj nm q S N bs tailVE true sn sub ab col dd m0 m1 m2 m3 m5 "ValueError.__new__")) : AtS K S :=
  ⟨⟨_, by unfold PySem.W.clsIn; rw [xL], rfl⟩, by show (K.lookup S).map (·.cls) = _; rw [xL]; rfl⟩
theorem mkBadValue (gx : Gx K) (X : K.In h) (G : h.Ns mainGlobals mg) (aC : PySem.W.nsIn K mainGlobals "BadValue" = some (some (.ref C)))
    (xL : K.lookup C = some (excClassObj nm q C N bs (.ref S :: tailVE) true sn sub ab col dd m0 m1 m2 m3 m5 "ValueError.__new__")) (ga : PySem.W.findIn K (.ref C) "__getattribute__" = some (some (.builtin "BaseException.__getattribute__"))) (gt : PySem.W.findIn K (.ref C) "__getattr__" = some none)
    (di : PySem.W.hasDictIn K C = true) (cl : PySem.W.findIn K (.ref C) "__class__" = some (some (.builtin "object.__class__"))) (kC : PySem.W.keepIn K (.ref C) = true)
    (sa : PySem.W.findIn K (.ref C) "__setattr__" = some (some (.builtin "object.__setattr__"))) (iC : PySem.W.findIn K (.ref C) "__init__" = some (some (.ref fI))) (tI : PySem.W.typeIn K (.ref fI) = some (.type "function"))
    (lI : K.lookup fI = some ⟨oc, od, .func (PySem.W.fnOf "__init__" "BadValue.__init__" (defArgs iBadValue) (defBody iBadValue) (defScope iBadValue) .none kV dc pm an cd ct), sl⟩) (cI : PySem.W.codeIn K cd "BadValue.__init__" = true) (kI : PySem.W.keepIn K (.ref fI) = true) (no : PySem.W.findIn K (.ref C) "value" = some none)
    (k : (∀ base, One P w K mg base C "BadValue" "value") → PySem.ExV.ClsX K C → At K C S → Z) : Z :=
  have a := at_of xL
  k (fun base => oBadValue (fun_mk (st := iBadValue) lI cI kI) ⟨⟨⟨nm, q, N, bs, _, sn, sub, ab, col, dd, m0, m1, m2, m3, m5, xL, rfl⟩, sa, a.su, a.ty, kC⟩, iC, tI⟩ (PySem.W.mg_of X G aC) (clsX_of gx a ga gt di cl) no) (clsX_of gx a ga gt di cl) a
theorem mkNoDivisor (gx : Gx K) (X : K.In h) (G : h.Ns mainGlobals mg) (aC : PySem.W.nsIn K mainGlobals "NoDivisor" = some (some (.ref C)))
    (xL : K.lookup C = some (excClassObj nm q C N bs (.ref S :: tailVE) true sn sub ab col dd m0 m1 m2 m3 m5 "ValueError.__new__")) (ga : PySem.W.findIn K (.ref C) "__getattribute__" = some (some (.builtin "BaseException.__getattribute__"))) (gt : PySem.W.findIn K (.ref C) "__getattr__" = some none)
    (di : PySem.W.hasDictIn K C = true) (cl : PySem.W.findIn K (.ref C) "__class__" = some (some (.builtin "object.__class__"))) (kC : PySem.W.keepIn K (.ref C) = true) (ex : PySem.W.excIn K C [.type "ValueError", .type "Exception", .type "BaseException", .type "object"] "ValueError.__new__" = true)
    (k : Bare K mg C "NoDivisor" → PySem.ExV.ClsX K C → At K C S → Z) : Z :=
  have a := at_of xL
  k ⟨ex, kC, PySem.W.mg_of X G aC, clsX_of gx a ga gt di cl⟩ (clsX_of gx a ga gt di cl) a
theorem mkAtNought (gx : Gx K) (X : K.In h) (G : h.Ns mainGlobals mg) (aC : PySem.W.nsIn K mainGlobals "AtNought" = some (some (.ref C)))
    (xL : K.lookup C = some (excClassObj nm q C N bs (.ref S :: tailVE) true sn sub ab col dd m0 m1 m2 m3 m5 "ValueError.__new__")) (ga : PySem.W.findIn K (.ref C) "__getattribute__" = some (some (.builtin "BaseException.__getattribute__"))) (gt : PySem.W.findIn K (.ref C) "__getattr__" = some none)
    (di : PySem.W.hasDictIn K C = true) (cl : PySem.W.findIn K (.ref C) "__class__" = some (some (.builtin "object.__class__"))) (kC : PySem.W.keepIn K (.ref C) = true) (ex : PySem.W.excIn K C [.type "ValueError", .type "Exception", .type "BaseException", .type "object"] "ValueError.__new__" = true)
    (k : Bare K mg C "AtNought" → PySem.ExV.ClsX K C → At K C S → Z) : Z :=
  have a := at_of xL
  k ⟨ex, kC, PySem.W.mg_of X G aC, clsX_of gx a ga gt di cl⟩ (clsX_of gx a ga gt di cl) a
theorem mkNotAText (gx : Gx K) (X : K.In h) (G : h.Ns mainGlobals mg) (aC : PySem.W.nsIn K mainGlobals "NotAText" = some (some (.ref C)))
    (xL : K.lookup C = some (excClassObj nm q C N bs (.ref S :: tailVE) true sn sub ab col dd m0 m1 m2 m3 m5 "ValueError.__new__")) (ga : PySem.W.findIn K (.ref C) "__getattribute__" = some (some (.builtin "BaseException.__getattribute__"))) (gt : PySem.W.findIn K (.ref C) "__getattr__" = some none)
    (di : PySem.W.hasDictIn K C = true) (cl : PySem.W.findIn K (.ref C) "__class__" = some (some (.builtin "object.__class__"))) (kC : PySem.W.keepIn K (.ref C) = true)
    (sa : PySem.W.findIn K (.ref C) "__setattr__" = some (some (.builtin "object.__setattr__"))) (iC : PySem.W.findIn K (.ref C) "__init__" = some (some (.ref fI))) (tI : PySem.W.typeIn K (.ref fI) = some (.type "function"))
    (lI : K.lookup fI = some ⟨oc, od, .func (PySem.W.fnOf "__init__" "NotAText.__init__" (defArgs iNotAText) (defBody iNotAText) (defScope iNotAText) .none kV dc pm an cd ct), sl⟩) (cI : PySem.W.codeIn K cd "NotAText.__init__" = true) (kI : PySem.W.keepIn K (.ref fI) = true) (no : PySem.W.findIn K (.ref C) "at" = some none)
    (k : (∀ base, One P w K mg base C "NotAText" "at") → PySem.ExV.ClsX K C → At K C S → Z) : Z :=
  have a := at_of xL
  k (fun base => oNotAText (fun_mk (st := iNotAText) lI cI kI) ⟨⟨⟨nm, q, N, bs, _, sn, sub, ab, col, dd, m0, m1, m2, m3, m5, xL, rfl⟩, sa, a.su, a.ty, kC⟩, iC, tI⟩ (PySem.W.mg_of X G aC) (clsX_of gx a ga gt di cl) no) (clsX_of gx a ga gt di cl) a
theorem mkNoGiver (gx : Gx K) (X : K.In h) (G : h.Ns mainGlobals mg) (aC : PySem.W.nsIn K mainGlobals "NoGiver" = some (some (.ref C)))
    (xL : K.lookup C = some (excClassObj nm q C N bs (.ref S :: tailVE) true sn sub ab col dd m0 m1 m2 m3 m5 "ValueError.__new__")) (ga : PySem.W.findIn K (.ref C) "__getattribute__" = some (some (.builtin "BaseException.__getattribute__"))) (gt : PySem.W.findIn K (.ref C) "__getattr__" = some none)
    (di : PySem.W.hasDictIn K C = true) (cl : PySem.W.findIn K (.ref C) "__class__" = some (some (.builtin "object.__class__"))) (kC : PySem.W.keepIn K (.ref C) = true)
    (sa : PySem.W.findIn K (.ref C) "__setattr__" = some (some (.builtin "object.__setattr__"))) (iC : PySem.W.findIn K (.ref C) "__init__" = some (some (.ref fI))) (tI : PySem.W.typeIn K (.ref fI) = some (.type "function"))
    (lI : K.lookup fI = some ⟨oc, od, .func (PySem.W.fnOf "__init__" "NoGiver.__init__" (defArgs iNoGiver) (defBody iNoGiver) (defScope iNoGiver) .none kV dc pm an cd ct), sl⟩) (cI : PySem.W.codeIn K cd "NoGiver.__init__" = true) (kI : PySem.W.keepIn K (.ref fI) = true) (no : PySem.W.findIn K (.ref C) "name" = some none)
    (k : (∀ base, One P w K mg base C "NoGiver" "name") → PySem.ExV.ClsX K C → At K C S → Z) : Z :=
  have a := at_of xL
  k (fun base => oNoGiver (fun_mk (st := iNoGiver) lI cI kI) ⟨⟨⟨nm, q, N, bs, _, sn, sub, ab, col, dd, m0, m1, m2, m3, m5, xL, rfl⟩, sa, a.su, a.ty, kC⟩, iC, tI⟩ (PySem.W.mg_of X G aC) (clsX_of gx a ga gt di cl) no) (clsX_of gx a ga gt di cl) a
theorem mkTwoGivers (gx : Gx K) (X : K.In h) (G : h.Ns mainGlobals mg) (aC : PySem.W.nsIn K mainGlobals "TwoGivers" = some (some (.ref C)))
    (xL : K.lookup C = some (excClassObj nm q C N bs (.ref S :: tailVE) true sn sub ab col dd m0 m1 m2 m3 m5 "ValueError.__new__")) (ga : PySem.W.findIn K (.ref C) "__getattribute__" = some (some (.builtin "BaseException.__getattribute__"))) (gt : PySem.W.findIn K (.ref C) "__getattr__" = some none)
    (di : PySem.W.hasDictIn K C = true) (cl : PySem.W.findIn K (.ref C) "__class__" = some (some (.builtin "object.__class__"))) (kC : PySem.W.keepIn K (.ref C) = true)
    (sa : PySem.W.findIn K (.ref C) "__setattr__" = some (some (.builtin "object.__setattr__"))) (iC : PySem.W.findIn K (.ref C) "__init__" = some (some (.ref fI))) (tI : PySem.W.typeIn K (.ref fI) = some (.type "function"))
    (lI : K.lookup fI = some ⟨oc, od, .func (PySem.W.fnOf "__init__" "TwoGivers.__init__" (defArgs iTwoGivers) (defBody iTwoGivers) (defScope iTwoGivers) .none kV dc pm an cd ct), sl⟩) (cI : PySem.W.codeIn K cd "TwoGivers.__init__" = true) (kI : PySem.W.keepIn K (.ref fI) = true) (no : PySem.W.findIn K (.ref C) "name" = some none)
    (k : (∀ base, One P w K mg base C "TwoGivers" "name") → PySem.ExV.ClsX K C → At K C S → Z) : Z :=
  have a := at_of xL
  k (fun base => oTwoGivers (fun_mk (st := iTwoGivers) lI cI kI) ⟨⟨⟨nm, q, N, bs, _, sn, sub, ab, col, dd, m0, m1, m2, m3, m5, xL, rfl⟩, sa, a.su, a.ty, kC⟩, iC, tI⟩ (PySem.W.mg_of X G aC) (clsX_of gx a ga gt di cl) no) (clsX_of gx a ga gt di cl) a
theorem mkUnknown (gx : Gx K) (X : K.In h) (G : h.Ns mainGlobals mg) (aC : PySem.W.nsIn K mainGlobals "Unknown" = some (some (.ref C)))
    (xL : K.lookup C = some (excClassObj nm q C N bs (.ref S :: tailVE) true sn sub ab col dd m0 m1 m2 m3 m5 "ValueError.__new__")) (ga : PySem.W.findIn K (.ref C) "__getattribute__" = some (some (.builtin "BaseException.__getattribute__"))) (gt : PySem.W.findIn K (.ref C) "__getattr__" = some none)
    (di : PySem.W.hasDictIn K C = true) (cl : PySem.W.findIn K (.ref C) "__class__" = some (some (.builtin "object.__class__"))) (kC : PySem.W.keepIn K (.ref C) = true)
    (sa : PySem.W.findIn K (.ref C) "__setattr__" = some (some (.builtin "object.__setattr__"))) (iC : PySem.W.findIn K (.ref C) "__init__" = some (some (.ref fI))) (tI : PySem.W.typeIn K (.ref fI) = some (.type "function"))
    (lI : K.lookup fI = some ⟨oc, od, .func (PySem.W.fnOf "__init__" "Unknown.__init__" (defArgs iUnknown) (defBody iUnknown) (defScope iUnknown) .none kV dc pm an cd ct), sl⟩) (cI : PySem.W.codeIn K cd "Unknown.__init__" = true) (kI : PySem.W.keepIn K (.ref fI) = true) (no : PySem.W.findIn K (.ref C) "name" = some none)
    (k : (∀ base, One P w K mg base C "Unknown" "name") → PySem.ExV.ClsX K C → At K C S → Z) : Z :=
  have a := at_of xL
  k (fun base => oUnknown (fun_mk (st := iUnknown) lI cI kI) ⟨⟨⟨nm, q, N, bs, _, sn, sub, ab, col, dd, m0, m1, m2, m3, m5, xL, rfl⟩, sa, a.su, a.ty, kC⟩, iC, tI⟩ (PySem.W.mg_of X G aC) (clsX_of gx a ga gt di cl) no) (clsX_of gx a ga gt di cl) a
theorem mkTaken (gx : Gx K) (X : K.In h) (G : h.Ns mainGlobals mg) (aC : PySem.W.nsIn K mainGlobals "Taken" = some (some (.ref C)))
    (xL : K.lookup C = some (excClassObj nm q C N bs (.ref S :: tailVE) true sn sub ab col dd m0 m1 m2 m3 m5 "ValueError.__new__")) (ga : PySem.W.findIn K (.ref C) "__getattribute__" = some (some (.builtin "BaseException.__getattribute__"))) (gt : PySem.W.findIn K (.ref C) "__getattr__" = some none)
    (di : PySem.W.hasDictIn K C = true) (cl : PySem.W.findIn K (.ref C) "__class__" = some (some (.builtin "object.__class__"))) (kC : PySem.W.keepIn K (.ref C) = true)
    (sa : PySem.W.findIn K (.ref C) "__setattr__" = some (some (.builtin "object.__setattr__"))) (iC : PySem.W.findIn K (.ref C) "__init__" = some (some (.ref fI))) (tI : PySem.W.typeIn K (.ref fI) = some (.type "function"))
    (lI : K.lookup fI = some ⟨oc, od, .func (PySem.W.fnOf "__init__" "Taken.__init__" (defArgs iTaken) (defBody iTaken) (defScope iTaken) .none kV dc pm an cd ct), sl⟩) (cI : PySem.W.codeIn K cd "Taken.__init__" = true) (kI : PySem.W.keepIn K (.ref fI) = true) (no : PySem.W.findIn K (.ref C) "name" = some none)
    (k : (∀ base, One P w K mg base C "Taken" "name") → PySem.ExV.ClsX K C → At K C S → Z) : Z :=
  have a := at_of xL
  k (fun base => oTaken (fun_mk (st := iTaken) lI cI kI) ⟨⟨⟨nm, q, N, bs, _, sn, sub, ab, col, dd, m0, m1, m2, m3, m5, xL, rfl⟩, sa, a.su, a.ty, kC⟩, iC, tI⟩ (PySem.W.mg_of X G aC) (clsX_of gx a ga gt di cl) no) (clsX_of gx a ga gt di cl) a
theorem mkApart (gx : Gx K) (X : K.In h) (G : h.Ns mainGlobals mg) (aC : PySem.W.nsIn K mainGlobals "Apart" = some (some (.ref C)))
    (xL : K.lookup C = some (excClassObj nm q C N bs (.ref S :: tailVE) true sn sub ab col dd m0 m1 m2 m3 m5 "ValueError.__new__")) (ga : PySem.W.findIn K (.ref C) "__getattribute__" = some (some (.builtin "BaseException.__getattribute__"))) (gt : PySem.W.findIn K (.ref C) "__getattr__" = some none)
    (di : PySem.W.hasDictIn K C = true) (cl : PySem.W.findIn K (.ref C) "__class__" = some (some (.builtin "object.__class__"))) (kC : PySem.W.keepIn K (.ref C) = true)
    (sa : PySem.W.findIn K (.ref C) "__setattr__" = some (some (.builtin "object.__setattr__"))) (iC : PySem.W.findIn K (.ref C) "__init__" = some (some (.ref fI))) (tI : PySem.W.typeIn K (.ref fI) = some (.type "function"))
    (lI : K.lookup fI = some ⟨oc, od, .func (PySem.W.fnOf "__init__" "Apart.__init__" (defArgs iApart) (defBody iApart) (defScope iApart) .none kV dc pm an cd ct), sl⟩) (cI : PySem.W.codeIn K cd "Apart.__init__" = true) (kI : PySem.W.keepIn K (.ref fI) = true) (no : PySem.W.findIn K (.ref C) "name" = some none)
    (k : (∀ base, One P w K mg base C "Apart" "name") → PySem.ExV.ClsX K C → At K C S → Z) : Z :=
  have a := at_of xL
  k (fun base => oApart (fun_mk (st := iApart) lI cI kI) ⟨⟨⟨nm, q, N, bs, _, sn, sub, ab, col, dd, m0, m1, m2, m3, m5, xL, rfl⟩, sa, a.su, a.ty, kC⟩, iC, tI⟩ (PySem.W.mg_of X G aC) (clsX_of gx a ga gt di cl) no) (clsX_of gx a ga gt di cl) a
theorem mkWithin (gx : Gx K) (X : K.In h) (G : h.Ns mainGlobals mg) (aC : PySem.W.nsIn K mainGlobals "Within" = some (some (.ref C)))
    (xL : K.lookup C = some (excClassObj nm q C N bs (.ref S :: tailVE) true sn sub ab col dd m0 m1 m2 m3 m5 "ValueError.__new__")) (ga : PySem.W.findIn K (.ref C) "__getattribute__" = some (some (.builtin "BaseException.__getattribute__"))) (gt : PySem.W.findIn K (.ref C) "__getattr__" = some none)
    (di : PySem.W.hasDictIn K C = true) (cl : PySem.W.findIn K (.ref C) "__class__" = some (some (.builtin "object.__class__"))) (kC : PySem.W.keepIn K (.ref C) = true)
    (sa : PySem.W.findIn K (.ref C) "__setattr__" = some (some (.builtin "object.__setattr__"))) (iC : PySem.W.findIn K (.ref C) "__init__" = some (some (.ref fI))) (tI : PySem.W.typeIn K (.ref fI) = some (.type "function"))
    (lI : K.lookup fI = some ⟨oc, od, .func (PySem.W.fnOf "__init__" "Within.__init__" (defArgs iWithin) (defBody iWithin) (defScope iWithin) .none kV dc pm an cd ct), sl⟩) (cI : PySem.W.codeIn K cd "Within.__init__" = true) (kI : PySem.W.keepIn K (.ref fI) = true) (no : PySem.W.findIn K (.ref C) "name" = some none)
    (k : (∀ base, One P w K mg base C "Within" "name") → PySem.ExV.ClsX K C → At K C S → Z) : Z :=
  have a := at_of xL
  k (fun base => oWithin (fun_mk (st := iWithin) lI cI kI) ⟨⟨⟨nm, q, N, bs, _, sn, sub, ab, col, dd, m0, m1, m2, m3, m5, xL, rfl⟩, sa, a.su, a.ty, kC⟩, iC, tI⟩ (PySem.W.mg_of X G aC) (clsX_of gx a ga gt di cl) no) (clsX_of gx a ga gt di cl) a
theorem mkUnpaced (gx : Gx K) (X : K.In h) (G : h.Ns mainGlobals mg) (aC : PySem.W.nsIn K mainGlobals "Unpaced" = some (some (.ref C)))
    (xL : K.lookup C = some (excClassObj nm q C N bs (.ref S :: tailVE) true sn sub ab col dd m0 m1 m2 m3 m5 "ValueError.__new__")) (ga : PySem.W.findIn K (.ref C) "__getattribute__" = some (some (.builtin "BaseException.__getattribute__"))) (gt : PySem.W.findIn K (.ref C) "__getattr__" = some none)
    (di : PySem.W.hasDictIn K C = true) (cl : PySem.W.findIn K (.ref C) "__class__" = some (some (.builtin "object.__class__"))) (kC : PySem.W.keepIn K (.ref C) = true)
    (sa : PySem.W.findIn K (.ref C) "__setattr__" = some (some (.builtin "object.__setattr__"))) (iC : PySem.W.findIn K (.ref C) "__init__" = some (some (.ref fI))) (tI : PySem.W.typeIn K (.ref fI) = some (.type "function"))
    (lI : K.lookup fI = some ⟨oc, od, .func (PySem.W.fnOf "__init__" "Unpaced.__init__" (defArgs iUnpaced) (defBody iUnpaced) (defScope iUnpaced) .none kV dc pm an cd ct), sl⟩) (cI : PySem.W.codeIn K cd "Unpaced.__init__" = true) (kI : PySem.W.keepIn K (.ref fI) = true) (no : PySem.W.findIn K (.ref C) "at" = some none)
    (k : (∀ base, One P w K mg base C "Unpaced" "at") → PySem.ExV.ClsX K C → At K C S → Z) : Z :=
  have a := at_of xL
  k (fun base => oUnpaced (fun_mk (st := iUnpaced) lI cI kI) ⟨⟨⟨nm, q, N, bs, _, sn, sub, ab, col, dd, m0, m1, m2, m3, m5, xL, rfl⟩, sa, a.su, a.ty, kC⟩, iC, tI⟩ (PySem.W.mg_of X G aC) (clsX_of gx a ga gt di cl) no) (clsX_of gx a ga gt di cl) a
theorem mkTooMany (gx : Gx K) (X : K.In h) (G : h.Ns mainGlobals mg) (aC : PySem.W.nsIn K mainGlobals "TooMany" = some (some (.ref C)))
    (xL : K.lookup C = some (excClassObj nm q C N bs (.ref S :: tailVE) true sn sub ab col dd m0 m1 m2 m3 m5 "ValueError.__new__")) (ga : PySem.W.findIn K (.ref C) "__getattribute__" = some (some (.builtin "BaseException.__getattribute__"))) (gt : PySem.W.findIn K (.ref C) "__getattr__" = some none)
    (di : PySem.W.hasDictIn K C = true) (cl : PySem.W.findIn K (.ref C) "__class__" = some (some (.builtin "object.__class__"))) (kC : PySem.W.keepIn K (.ref C) = true)
    (sa : PySem.W.findIn K (.ref C) "__setattr__" = some (some (.builtin "object.__setattr__"))) (iC : PySem.W.findIn K (.ref C) "__init__" = some (some (.ref fI))) (tI : PySem.W.typeIn K (.ref fI) = some (.type "function"))
    (lI : K.lookup fI = some ⟨oc, od, .func (PySem.W.fnOf "__init__" "TooMany.__init__" (defArgs iTooMany) (defBody iTooMany) (defScope iTooMany) .none kV dc pm an cd ct), sl⟩) (cI : PySem.W.codeIn K cd "TooMany.__init__" = true) (kI : PySem.W.keepIn K (.ref fI) = true) (no : PySem.W.findIn K (.ref C) "most" = some none)
    (k : (∀ base, One P w K mg base C "TooMany" "most") → PySem.ExV.ClsX K C → At K C S → Z) : Z :=
  have a := at_of xL
  k (fun base => oTooMany (fun_mk (st := iTooMany) lI cI kI) ⟨⟨⟨nm, q, N, bs, _, sn, sub, ab, col, dd, m0, m1, m2, m3, m5, xL, rfl⟩, sa, a.su, a.ty, kC⟩, iC, tI⟩ (PySem.W.mg_of X G aC) (clsX_of gx a ga gt di cl) no) (clsX_of gx a ga gt di cl) a
theorem mkStandsStill (gx : Gx K) (X : K.In h) (G : h.Ns mainGlobals mg) (aC : PySem.W.nsIn K mainGlobals "StandsStill" = some (some (.ref C)))
    (xL : K.lookup C = some (excClassObj nm q C N bs (.ref S :: tailVE) true sn sub ab col dd m0 m1 m2 m3 m5 "ValueError.__new__")) (ga : PySem.W.findIn K (.ref C) "__getattribute__" = some (some (.builtin "BaseException.__getattribute__"))) (gt : PySem.W.findIn K (.ref C) "__getattr__" = some none)
    (di : PySem.W.hasDictIn K C = true) (cl : PySem.W.findIn K (.ref C) "__class__" = some (some (.builtin "object.__class__"))) (kC : PySem.W.keepIn K (.ref C) = true) (ex : PySem.W.excIn K C [.type "ValueError", .type "Exception", .type "BaseException", .type "object"] "ValueError.__new__" = true)
    (k : Bare K mg C "StandsStill" → PySem.ExV.ClsX K C → At K C S → Z) : Z :=
  have a := at_of xL
  k ⟨ex, kC, PySem.W.mg_of X G aC, clsX_of gx a ga gt di cl⟩ (clsX_of gx a ga gt di cl) a
theorem mkCannotStep (gx : Gx K) (X : K.In h) (G : h.Ns mainGlobals mg) (aC : PySem.W.nsIn K mainGlobals "CannotStep" = some (some (.ref C)))
    (xL : K.lookup C = some (excClassObj nm q C N bs (.ref S :: tailVE) true sn sub ab col dd m0 m1 m2 m3 m5 "ValueError.__new__")) (ga : PySem.W.findIn K (.ref C) "__getattribute__" = some (some (.builtin "BaseException.__getattribute__"))) (gt : PySem.W.findIn K (.ref C) "__getattr__" = some none)
    (di : PySem.W.hasDictIn K C = true) (cl : PySem.W.findIn K (.ref C) "__class__" = some (some (.builtin "object.__class__"))) (kC : PySem.W.keepIn K (.ref C) = true)
    (sa : PySem.W.findIn K (.ref C) "__setattr__" = some (some (.builtin "object.__setattr__"))) (iC : PySem.W.findIn K (.ref C) "__init__" = some (some (.ref fI))) (tI : PySem.W.typeIn K (.ref fI) = some (.type "function"))
    (lI : K.lookup fI = some ⟨oc, od, .func (PySem.W.fnOf "__init__" "CannotStep.__init__" (defArgs iCannotStep) (defBody iCannotStep) (defScope iCannotStep) .none kV dc pm an cd ct), sl⟩) (cI : PySem.W.codeIn K cd "CannotStep.__init__" = true) (kI : PySem.W.keepIn K (.ref fI) = true) (no : PySem.W.findIn K (.ref C) "box" = some none)
    (k : (∀ base, One P w K mg base C "CannotStep" "box") → PySem.ExV.ClsX K C → At K C S → Z) : Z :=
  have a := at_of xL
  k (fun base => oCannotStep (fun_mk (st := iCannotStep) lI cI kI) ⟨⟨⟨nm, q, N, bs, _, sn, sub, ab, col, dd, m0, m1, m2, m3, m5, xL, rfl⟩, sa, a.su, a.ty, kC⟩, iC, tI⟩ (PySem.W.mg_of X G aC) (clsX_of gx a ga gt di cl) no) (clsX_of gx a ga gt di cl) a
theorem mkUnlike (gx : Gx K) (X : K.In h) (G : h.Ns mainGlobals mg) (aC : PySem.W.nsIn K mainGlobals "Unlike" = some (some (.ref C)))
    (xL : K.lookup C = some (excClassObj nm q C N bs (.ref S :: tailVE) true sn sub ab col dd m0 m1 m2 m3 m5 "ValueError.__new__")) (ga : PySem.W.findIn K (.ref C) "__getattribute__" = some (some (.builtin "BaseException.__getattribute__"))) (gt : PySem.W.findIn K (.ref C) "__getattr__" = some none)
    (di : PySem.W.hasDictIn K C = true) (cl : PySem.W.findIn K (.ref C) "__class__" = some (some (.builtin "object.__class__"))) (kC : PySem.W.keepIn K (.ref C) = true) (ex : PySem.W.excIn K C [.type "ValueError", .type "Exception", .type "BaseException", .type "object"] "ValueError.__new__" = true)
    (k : Bare K mg C "Unlike" → PySem.ExV.ClsX K C → At K C S → Z) : Z :=
  have a := at_of xL
  k ⟨ex, kC, PySem.W.mg_of X G aC, clsX_of gx a ga gt di cl⟩ (clsX_of gx a ga gt di cl) a
theorem mkSingular (gx : Gx K) (X : K.In h) (G : h.Ns mainGlobals mg) (aC : PySem.W.nsIn K mainGlobals "Singular" = some (some (.ref C)))
    (xL : K.lookup C = some (excClassObj nm q C N bs (.ref S :: tailVE) true sn sub ab col dd m0 m1 m2 m3 m5 "ValueError.__new__")) (ga : PySem.W.findIn K (.ref C) "__getattribute__" = some (some (.builtin "BaseException.__getattribute__"))) (gt : PySem.W.findIn K (.ref C) "__getattr__" = some none)
    (di : PySem.W.hasDictIn K C = true) (cl : PySem.W.findIn K (.ref C) "__class__" = some (some (.builtin "object.__class__"))) (kC : PySem.W.keepIn K (.ref C) = true) (ex : PySem.W.excIn K C [.type "ValueError", .type "Exception", .type "BaseException", .type "object"] "ValueError.__new__" = true)
    (k : Bare K mg C "Singular" → PySem.ExV.ClsX K C → At K C S → Z) : Z :=
  have a := at_of xL
  k ⟨ex, kC, PySem.W.mg_of X G aC, clsX_of gx a ga gt di cl⟩ (clsX_of gx a ga gt di cl) a
theorem mkNotSquare (gx : Gx K) (X : K.In h) (G : h.Ns mainGlobals mg) (aC : PySem.W.nsIn K mainGlobals "NotSquare" = some (some (.ref C)))
    (xL : K.lookup C = some (excClassObj nm q C N bs (.ref S :: tailVE) true sn sub ab col dd m0 m1 m2 m3 m5 "ValueError.__new__")) (ga : PySem.W.findIn K (.ref C) "__getattribute__" = some (some (.builtin "BaseException.__getattribute__"))) (gt : PySem.W.findIn K (.ref C) "__getattr__" = some none)
    (di : PySem.W.hasDictIn K C = true) (cl : PySem.W.findIn K (.ref C) "__class__" = some (some (.builtin "object.__class__"))) (kC : PySem.W.keepIn K (.ref C) = true) (ex : PySem.W.excIn K C [.type "ValueError", .type "Exception", .type "BaseException", .type "object"] "ValueError.__new__" = true)
    (k : Bare K mg C "NotSquare" → PySem.ExV.ClsX K C → At K C S → Z) : Z :=
  have a := at_of xL
  k ⟨ex, kC, PySem.W.mg_of X G aC, clsX_of gx a ga gt di cl⟩ (clsX_of gx a ga gt di cl) a
theorem mkNotUndone (gx : Gx K) (X : K.In h) (G : h.Ns mainGlobals mg) (aC : PySem.W.nsIn K mainGlobals "NotUndone" = some (some (.ref C)))
    (xL : K.lookup C = some (excClassObj nm q C N bs (.ref S :: tailVE) true sn sub ab col dd m0 m1 m2 m3 m5 "ValueError.__new__")) (ga : PySem.W.findIn K (.ref C) "__getattribute__" = some (some (.builtin "BaseException.__getattribute__"))) (gt : PySem.W.findIn K (.ref C) "__getattr__" = some none)
    (di : PySem.W.hasDictIn K C = true) (cl : PySem.W.findIn K (.ref C) "__class__" = some (some (.builtin "object.__class__"))) (kC : PySem.W.keepIn K (.ref C) = true) (ex : PySem.W.excIn K C [.type "ValueError", .type "Exception", .type "BaseException", .type "object"] "ValueError.__new__" = true)
    (k : Bare K mg C "NotUndone" → PySem.ExV.ClsX K C → At K C S → Z) : Z :=
  have a := at_of xL
  k ⟨ex, kC, PySem.W.mg_of X G aC, clsX_of gx a ga gt di cl⟩ (clsX_of gx a ga gt di cl) a
theorem mkHasLoops (gx : Gx K) (X : K.In h) (G : h.Ns mainGlobals mg) (aC : PySem.W.nsIn K mainGlobals "HasLoops" = some (some (.ref C)))
    (xL : K.lookup C = some (excClassObj nm q C N bs (.ref S :: tailVE) true sn sub ab col dd m0 m1 m2 m3 m5 "ValueError.__new__")) (ga : PySem.W.findIn K (.ref C) "__getattribute__" = some (some (.builtin "BaseException.__getattribute__"))) (gt : PySem.W.findIn K (.ref C) "__getattr__" = some none)
    (di : PySem.W.hasDictIn K C = true) (cl : PySem.W.findIn K (.ref C) "__class__" = some (some (.builtin "object.__class__"))) (kC : PySem.W.keepIn K (.ref C) = true) (ex : PySem.W.excIn K C [.type "ValueError", .type "Exception", .type "BaseException", .type "object"] "ValueError.__new__" = true)
    (k : Bare K mg C "HasLoops" → PySem.ExV.ClsX K C → At K C S → Z) : Z :=
  have a := at_of xL
  k ⟨ex, kC, PySem.W.mg_of X G aC, clsX_of gx a ga gt di cl⟩ (clsX_of gx a ga gt di cl) a
theorem mkBadCode (gx : Gx K) (X : K.In h) (G : h.Ns mainGlobals mg) (aC : PySem.W.nsIn K mainGlobals "BadCode" = some (some (.ref C)))
    (xL : K.lookup C = some (excClassObj nm q C N bs (.ref S :: tailVE) true sn sub ab col dd m0 m1 m2 m3 m5 "ValueError.__new__")) (ga : PySem.W.findIn K (.ref C) "__getattribute__" = some (some (.builtin "BaseException.__getattribute__"))) (gt : PySem.W.findIn K (.ref C) "__getattr__" = some none)
    (di : PySem.W.hasDictIn K C = true) (cl : PySem.W.findIn K (.ref C) "__class__" = some (some (.builtin "object.__class__"))) (kC : PySem.W.keepIn K (.ref C) = true)
    (sa : PySem.W.findIn K (.ref C) "__setattr__" = some (some (.builtin "object.__setattr__"))) (iC : PySem.W.findIn K (.ref C) "__init__" = some (some (.ref fI))) (tI : PySem.W.typeIn K (.ref fI) = some (.type "function"))
    (lI : K.lookup fI = some ⟨oc, od, .func (PySem.W.fnOf "__init__" "BadCode.__init__" (defArgs iBadCode) (defBody iBadCode) (defScope iBadCode) .none kV dc pm an cd ct), sl⟩) (cI : PySem.W.codeIn K cd "BadCode.__init__" = true) (kI : PySem.W.keepIn K (.ref fI) = true) (no : PySem.W.findIn K (.ref C) "at" = some none)
    (k : (∀ base, One P w K mg base C "BadCode" "at") → PySem.ExV.ClsX K C → At K C S → Z) : Z :=
  have a := at_of xL
  k (fun base => oBadCode (fun_mk (st := iBadCode) lI cI kI) ⟨⟨⟨nm, q, N, bs, _, sn, sub, ab, col, dd, m0, m1, m2, m3, m5, xL, rfl⟩, sa, a.su, a.ty, kC⟩, iC, tI⟩ (PySem.W.mg_of X G aC) (clsX_of gx a ga gt di cl) no) (clsX_of gx a ga gt di cl) a
theorem mkHasSource (gx : Gx K) (X : K.In h) (G : h.Ns mainGlobals mg) (aC : PySem.W.nsIn K mainGlobals "HasSource" = some (some (.ref C)))
    (xL : K.lookup C = some (excClassObj nm q C N bs (.ref S :: tailVE) true sn sub ab col dd m0 m1 m2 m3 m5 "ValueError.__new__")) (ga : PySem.W.findIn K (.ref C) "__getattribute__" = some (some (.builtin "BaseException.__getattribute__"))) (gt : PySem.W.findIn K (.ref C) "__getattr__" = some none)
    (di : PySem.W.hasDictIn K C = true) (cl : PySem.W.findIn K (.ref C) "__class__" = some (some (.builtin "object.__class__"))) (kC : PySem.W.keepIn K (.ref C) = true)
    (sa : PySem.W.findIn K (.ref C) "__setattr__" = some (some (.builtin "object.__setattr__"))) (iC : PySem.W.findIn K (.ref C) "__init__" = some (some (.ref fI))) (tI : PySem.W.typeIn K (.ref fI) = some (.type "function"))
    (lI : K.lookup fI = some ⟨oc, od, .func (PySem.W.fnOf "__init__" "HasSource.__init__" (defArgs iHasSource) (defBody iHasSource) (defScope iHasSource) .none kV dc pm an cd ct), sl⟩) (cI : PySem.W.codeIn K cd "HasSource.__init__" = true) (kI : PySem.W.keepIn K (.ref fI) = true) (no : PySem.W.findIn K (.ref C) "name" = some none)
    (k : (∀ base, One P w K mg base C "HasSource" "name") → PySem.ExV.ClsX K C → At K C S → Z) : Z :=
  have a := at_of xL
  k (fun base => oHasSource (fun_mk (st := iHasSource) lI cI kI) ⟨⟨⟨nm, q, N, bs, _, sn, sub, ab, col, dd, m0, m1, m2, m3, m5, xL, rfl⟩, sa, a.su, a.ty, kC⟩, iC, tI⟩ (PySem.W.mg_of X G aC) (clsX_of gx a ga gt di cl) no) (clsX_of gx a ga gt di cl) a
theorem mkNotOfNet (gx : Gx K) (X : K.In h) (G : h.Ns mainGlobals mg) (aC : PySem.W.nsIn K mainGlobals "NotOfNet" = some (some (.ref C)))
    (xL : K.lookup C = some (excClassObj nm q C N bs (.ref S :: tailVE) true sn sub ab col dd m0 m1 m2 m3 m5 "ValueError.__new__")) (ga : PySem.W.findIn K (.ref C) "__getattribute__" = some (some (.builtin "BaseException.__getattribute__"))) (gt : PySem.W.findIn K (.ref C) "__getattr__" = some none)
    (di : PySem.W.hasDictIn K C = true) (cl : PySem.W.findIn K (.ref C) "__class__" = some (some (.builtin "object.__class__"))) (kC : PySem.W.keepIn K (.ref C) = true) (ex : PySem.W.excIn K C [.type "ValueError", .type "Exception", .type "BaseException", .type "object"] "ValueError.__new__" = true)
    (k : Bare K mg C "NotOfNet" → PySem.ExV.ClsX K C → At K C S → Z) : Z :=
  have a := at_of xL
  k ⟨ex, kC, PySem.W.mg_of X G aC, clsX_of gx a ga gt di cl⟩ (clsX_of gx a ga gt di cl) a
theorem mkNotDriven (gx : Gx K) (X : K.In h) (G : h.Ns mainGlobals mg) (aC : PySem.W.nsIn K mainGlobals "NotDriven" = some (some (.ref C)))
    (xL : K.lookup C = some (excClassObj nm q C N bs (.ref S :: tailVE) true sn sub ab col dd m0 m1 m2 m3 m5 "ValueError.__new__")) (ga : PySem.W.findIn K (.ref C) "__getattribute__" = some (some (.builtin "BaseException.__getattribute__"))) (gt : PySem.W.findIn K (.ref C) "__getattr__" = some none)
    (di : PySem.W.hasDictIn K C = true) (cl : PySem.W.findIn K (.ref C) "__class__" = some (some (.builtin "object.__class__"))) (kC : PySem.W.keepIn K (.ref C) = true) (ex : PySem.W.excIn K C [.type "ValueError", .type "Exception", .type "BaseException", .type "object"] "ValueError.__new__" = true)
    (k : Bare K mg C "NotDriven" → PySem.ExV.ClsX K C → At K C S → Z) : Z :=
  have a := at_of xL
  k ⟨ex, kC, PySem.W.mg_of X G aC, clsX_of gx a ga gt di cl⟩ (clsX_of gx a ga gt di cl) a
theorem mkNotAFile (gx : Gx K) (X : K.In h) (G : h.Ns mainGlobals mg) (aC : PySem.W.nsIn K mainGlobals "NotAFile" = some (some (.ref C)))
    (xL : K.lookup C = some (excClassObj nm q C N bs (.ref S :: tailVE) true sn sub ab col dd m0 m1 m2 m3 m5 "ValueError.__new__")) (ga : PySem.W.findIn K (.ref C) "__getattribute__" = some (some (.builtin "BaseException.__getattribute__"))) (gt : PySem.W.findIn K (.ref C) "__getattr__" = some none)
    (di : PySem.W.hasDictIn K C = true) (cl : PySem.W.findIn K (.ref C) "__class__" = some (some (.builtin "object.__class__"))) (kC : PySem.W.keepIn K (.ref C) = true)
    (sa : PySem.W.findIn K (.ref C) "__setattr__" = some (some (.builtin "object.__setattr__"))) (iC : PySem.W.findIn K (.ref C) "__init__" = some (some (.ref fI))) (tI : PySem.W.typeIn K (.ref fI) = some (.type "function"))
    (lI : K.lookup fI = some ⟨oc, od, .func (PySem.W.fnOf "__init__" "NotAFile.__init__" (defArgs iNotAFile) (defBody iNotAFile) (defScope iNotAFile) .none kV dc pm an cd ct), sl⟩) (cI : PySem.W.codeIn K cd "NotAFile.__init__" = true) (kI : PySem.W.keepIn K (.ref fI) = true) (no : PySem.W.findIn K (.ref C) "line" = some none) (no2 : PySem.W.findIn K (.ref C) "at" = some none)
    (k : (∀ base, Two P w K mg base C "NotAFile" "line" "at") → PySem.ExV.ClsX K C → At K C S → Z) : Z :=
  have a := at_of xL
  k (fun base => oNotAFile (fun_mk (st := iNotAFile) lI cI kI) ⟨⟨⟨nm, q, N, bs, _, sn, sub, ab, col, dd, m0, m1, m2, m3, m5, xL, rfl⟩, sa, a.su, a.ty, kC⟩, iC, tI⟩ (PySem.W.mg_of X G aC) (clsX_of gx a ga gt di cl) no no2) (clsX_of gx a ga gt di cl) a
theorem mkBadPromise (gx : Gx K) (X : K.In h) (G : h.Ns mainGlobals mg) (aC : PySem.W.nsIn K mainGlobals "BadPromise" = some (some (.ref C)))
    (xL : K.lookup C = some (excClassObj nm q C N bs (.ref S :: tailVE) true sn sub ab col dd m0 m1 m2 m3 m5 "ValueError.__new__")) (ga : PySem.W.findIn K (.ref C) "__getattribute__" = some (some (.builtin "BaseException.__getattribute__"))) (gt : PySem.W.findIn K (.ref C) "__getattr__" = some none)
    (di : PySem.W.hasDictIn K C = true) (cl : PySem.W.findIn K (.ref C) "__class__" = some (some (.builtin "object.__class__"))) (kC : PySem.W.keepIn K (.ref C) = true)
    (sa : PySem.W.findIn K (.ref C) "__setattr__" = some (some (.builtin "object.__setattr__"))) (iC : PySem.W.findIn K (.ref C) "__init__" = some (some (.ref fI))) (tI : PySem.W.typeIn K (.ref fI) = some (.type "function"))
    (lI : K.lookup fI = some ⟨oc, od, .func (PySem.W.fnOf "__init__" "BadPromise.__init__" (defArgs iBadPromise) (defBody iBadPromise) (defScope iBadPromise) .none kV dc pm an cd ct), sl⟩) (cI : PySem.W.codeIn K cd "BadPromise.__init__" = true) (kI : PySem.W.keepIn K (.ref fI) = true) (no : PySem.W.findIn K (.ref C) "promise" = some none)
    (k : (∀ base, One P w K mg base C "BadPromise" "promise") → PySem.ExV.ClsX K C → At K C S → Z) : Z :=
  have a := at_of xL
  k (fun base => oBadPromise (fun_mk (st := iBadPromise) lI cI kI) ⟨⟨⟨nm, q, N, bs, _, sn, sub, ab, col, dd, m0, m1, m2, m3, m5, xL, rfl⟩, sa, a.su, a.ty, kC⟩, iC, tI⟩ (PySem.W.mg_of X G aC) (clsX_of gx a ga gt di cl) no) (clsX_of gx a ga gt di cl) a
theorem mkBroken (gx : Gx K) (X : K.In h) (G : h.Ns mainGlobals mg) (aC : PySem.W.nsIn K mainGlobals "Broken" = some (some (.ref C)))
    (xL : K.lookup C = some (excClassObj nm q C N bs (.ref S :: tailVE) true sn sub ab col dd m0 m1 m2 m3 m5 "ValueError.__new__")) (ga : PySem.W.findIn K (.ref C) "__getattribute__" = some (some (.builtin "BaseException.__getattribute__"))) (gt : PySem.W.findIn K (.ref C) "__getattr__" = some none)
    (di : PySem.W.hasDictIn K C = true) (cl : PySem.W.findIn K (.ref C) "__class__" = some (some (.builtin "object.__class__"))) (kC : PySem.W.keepIn K (.ref C) = true)
    (sa : PySem.W.findIn K (.ref C) "__setattr__" = some (some (.builtin "object.__setattr__"))) (iC : PySem.W.findIn K (.ref C) "__init__" = some (some (.ref fI))) (tI : PySem.W.typeIn K (.ref fI) = some (.type "function"))
    (lI : K.lookup fI = some ⟨oc, od, .func (PySem.W.fnOf "__init__" "Broken.__init__" (defArgs iBroken) (defBody iBroken) (defScope iBroken) .none kV dc pm an cd ct), sl⟩) (cI : PySem.W.codeIn K cd "Broken.__init__" = true) (kI : PySem.W.keepIn K (.ref fI) = true) (no : PySem.W.findIn K (.ref C) "promise" = some none) (no2 : PySem.W.findIn K (.ref C) "paper" = some none)
    (k : (∀ base, Two P w K mg base C "Broken" "promise" "paper") → PySem.ExV.ClsX K C → At K C S → Z) : Z :=
  have a := at_of xL
  k (fun base => oBroken (fun_mk (st := iBroken) lI cI kI) ⟨⟨⟨nm, q, N, bs, _, sn, sub, ab, col, dd, m0, m1, m2, m3, m5, xL, rfl⟩, sa, a.su, a.ty, kC⟩, iC, tI⟩ (PySem.W.mg_of X G aC) (clsX_of gx a ga gt di cl) no no2) (clsX_of gx a ga gt di cl) a
theorem mkNotMade (gx : Gx K) (X : K.In h) (G : h.Ns mainGlobals mg) (aC : PySem.W.nsIn K mainGlobals "NotMade" = some (some (.ref C)))
    (xL : K.lookup C = some (excClassObj nm q C N bs (.ref S :: tailVE) true sn sub ab col dd m0 m1 m2 m3 m5 "ValueError.__new__")) (ga : PySem.W.findIn K (.ref C) "__getattribute__" = some (some (.builtin "BaseException.__getattribute__"))) (gt : PySem.W.findIn K (.ref C) "__getattr__" = some none)
    (di : PySem.W.hasDictIn K C = true) (cl : PySem.W.findIn K (.ref C) "__class__" = some (some (.builtin "object.__class__"))) (kC : PySem.W.keepIn K (.ref C) = true)
    (sa : PySem.W.findIn K (.ref C) "__setattr__" = some (some (.builtin "object.__setattr__"))) (iC : PySem.W.findIn K (.ref C) "__init__" = some (some (.ref fI))) (tI : PySem.W.typeIn K (.ref fI) = some (.type "function"))
    (lI : K.lookup fI = some ⟨oc, od, .func (PySem.W.fnOf "__init__" "NotMade.__init__" (defArgs iNotMade) (defBody iNotMade) (defScope iNotMade) .none kV dc pm an cd ct), sl⟩) (cI : PySem.W.codeIn K cd "NotMade.__init__" = true) (kI : PySem.W.keepIn K (.ref fI) = true) (no : PySem.W.findIn K (.ref C) "promise" = some none)
    (k : (∀ base, One P w K mg base C "NotMade" "promise") → PySem.ExV.ClsX K C → At K C S → Z) : Z :=
  have a := at_of xL
  k (fun base => oNotMade (fun_mk (st := iNotMade) lI cI kI) ⟨⟨⟨nm, q, N, bs, _, sn, sub, ab, col, dd, m0, m1, m2, m3, m5, xL, rfl⟩, sa, a.su, a.ty, kC⟩, iC, tI⟩ (PySem.W.mg_of X G aC) (clsX_of gx a ga gt di cl) no) (clsX_of gx a ga gt di cl) a
theorem mkNothingToUndo (gx : Gx K) (X : K.In h) (G : h.Ns mainGlobals mg) (aC : PySem.W.nsIn K mainGlobals "NothingToUndo" = some (some (.ref C)))
    (xL : K.lookup C = some (excClassObj nm q C N bs (.ref S :: tailVE) true sn sub ab col dd m0 m1 m2 m3 m5 "ValueError.__new__")) (ga : PySem.W.findIn K (.ref C) "__getattribute__" = some (some (.builtin "BaseException.__getattribute__"))) (gt : PySem.W.findIn K (.ref C) "__getattr__" = some none)
    (di : PySem.W.hasDictIn K C = true) (cl : PySem.W.findIn K (.ref C) "__class__" = some (some (.builtin "object.__class__"))) (kC : PySem.W.keepIn K (.ref C) = true) (ex : PySem.W.excIn K C [.type "ValueError", .type "Exception", .type "BaseException", .type "object"] "ValueError.__new__" = true)
    (k : Bare K mg C "NothingToUndo" → PySem.ExV.ClsX K C → At K C S → Z) : Z :=
  have a := at_of xL
  k ⟨ex, kC, PySem.W.mg_of X G aC, clsX_of gx a ga gt di cl⟩ (clsX_of gx a ga gt di cl) a
theorem mkNothingToRedo (gx : Gx K) (X : K.In h) (G : h.Ns mainGlobals mg) (aC : PySem.W.nsIn K mainGlobals "NothingToRedo" = some (some (.ref C)))
    (xL : K.lookup C = some (excClassObj nm q C N bs (.ref S :: tailVE) true sn sub ab col dd m0 m1 m2 m3 m5 "ValueError.__new__")) (ga : PySem.W.findIn K (.ref C) "__getattribute__" = some (some (.builtin "BaseException.__getattribute__"))) (gt : PySem.W.findIn K (.ref C) "__getattr__" = some none)
    (di : PySem.W.hasDictIn K C = true) (cl : PySem.W.findIn K (.ref C) "__class__" = some (some (.builtin "object.__class__"))) (kC : PySem.W.keepIn K (.ref C) = true) (ex : PySem.W.excIn K C [.type "ValueError", .type "Exception", .type "BaseException", .type "object"] "ValueError.__new__" = true)
    (k : Bare K mg C "NothingToRedo" → PySem.ExV.ClsX K C → At K C S → Z) : Z :=
  have a := at_of xL
  k ⟨ex, kC, PySem.W.mg_of X G aC, clsX_of gx a ga gt di cl⟩ (clsX_of gx a ga gt di cl) a
/-- the classes by their number -/
def cAt (l : List Addr) (i : Nat) : Addr := l.getD i 0
theorem cAt_ne {l : List Addr} (hn : l.Nodup) {i j : Nat} (hi : i < l.length) (hj : j < l.length) (h : i ≠ j) : cAt l i ≠ cAt l j := by
  unfold cAt
  have e1 : l.getD i 0 = l[i] := by simp [List.getD, hi]
  have e2 : l.getD j 0 = l[j] := by simp [List.getD, hj]
  rw [e1, e2]
  exact fun z => h ((List.getElem_inj hn).mp z)
theorem errs_of {base : Heap} {l : List Addr} (hl : l.length = 29) (hn : l.Nodup) (hS : ∀ i, i < 29 → cAt l i ≠ S) (X : K.In h) (G : h.Ns mainGlobals mg) (aS : PySem.W.nsIn K mainGlobals "StreamError" = some (some (.ref S))) (xS : AtS K S)
    (at_ : ∀ i, i < 29 → At K (cAt l i) S) (zz : ∀ i, i < 29 → PySem.ExV.ClsX K (cAt l i))
    (e0 : One P w K mg base (cAt l 0) "BadValue" "value") (e1 : Bare K mg (cAt l 1) "NoDivisor") (e2 : Bare K mg (cAt l 2) "AtNought") (e3 : One P w K mg base (cAt l 3) "NotAText" "at") (e4 : One P w K mg base (cAt l 4) "NoGiver" "name") (e5 : One P w K mg base (cAt l 5) "TwoGivers" "name") (e6 : One P w K mg base (cAt l 6) "Unknown" "name") (e7 : One P w K mg base (cAt l 7) "Taken" "name") (e8 : One P w K mg base (cAt l 8) "Apart" "name") (e9 : One P w K mg base (cAt l 9) "Within" "name") (e10 : One P w K mg base (cAt l 10) "Unpaced" "at") (e11 : One P w K mg base (cAt l 11) "TooMany" "most") (e12 : Bare K mg (cAt l 12) "StandsStill") (e13 : One P w K mg base (cAt l 13) "CannotStep" "box") (e14 : Bare K mg (cAt l 14) "Unlike") (e15 : Bare K mg (cAt l 15) "Singular") (e16 : Bare K mg (cAt l 16) "NotSquare") (e17 : Bare K mg (cAt l 17) "NotUndone") (e18 : Bare K mg (cAt l 18) "HasLoops") (e19 : One P w K mg base (cAt l 19) "BadCode" "at") (e20 : One P w K mg base (cAt l 20) "HasSource" "name") (e21 : Bare K mg (cAt l 21) "NotOfNet") (e22 : Bare K mg (cAt l 22) "NotDriven") (e23 : Two P w K mg base (cAt l 23) "NotAFile" "line" "at") (e24 : One P w K mg base (cAt l 24) "BadPromise" "promise") (e25 : Two P w K mg base (cAt l 25) "Broken" "promise" "paper") (e26 : One P w K mg base (cAt l 26) "NotMade" "promise") (e27 : Bare K mg (cAt l 27) "NothingToUndo") (e28 : Bare K mg (cAt l 28) "NothingToRedo")
    (z1 : PySem.W.nsIn K mainGlobals "int" = some none) (z2 : PySem.W.nsIn K mainGlobals "len" = some none) (z3 : PySem.W.nsIn K mainGlobals "isinstance" = some none) (z4 : PySem.W.nsIn K mainGlobals "all" = some none) (z5 : PySem.W.nsIn K mainGlobals "range" = some none) (z6 : PySem.W.nsIn K mainGlobals "ValueError" = some none) :
    Errs P w K mg base (cAt l) S := by
  refine ⟨e0, e1, e2, e3, e4, e5, e6, e7, e8, e9, e10, e11, e12, e13, e14, e15, e16, e17, e18, e19, e20, e21, e22, e23, e24, e25, e26, e27, e28, zz, fun i j hi hj => ?_, fun i hi => kit_S (at_ i hi) xS (hS i hi), fun i hi => kit_V (at_ i hi), fun i hi => exm_S (at_ i hi) xS, fun i hi => (at_ i hi).ty, PySem.W.mg_of X G aS, PySem.W.mg_none_of X G z1, PySem.W.mg_none_of X G z2, PySem.W.mg_none_of X G z3, PySem.W.mg_none_of X G z4, PySem.W.mg_none_of X G z5, PySem.W.mg_none_of X G z6⟩
  by_cases q : i = j
  · subst q
    rw [decide_eq_true rfl]
    exact kit_same
  · rw [decide_eq_false q]
    exact kit_other (at_ i hi) (at_ j hj) (cAt_ne hn (by omega) (by omega) q) (hS j hj)
theorem all29 {p : Nat → Prop} (h0 : p 0) (h1 : p 1) (h2 : p 2) (h3 : p 3) (h4 : p 4) (h5 : p 5) (h6 : p 6) (h7 : p 7) (h8 : p 8) (h9 : p 9) (h10 : p 10) (h11 : p 11) (h12 : p 12) (h13 : p 13) (h14 : p 14) (h15 : p 15) (h16 : p 16) (h17 : p 17) (h18 : p 18) (h19 : p 19) (h20 : p 20) (h21 : p 21) (h22 : p 22) (h23 : p 23) (h24 : p 24) (h25 : p 25) (h26 : p 26) (h27 : p 27) (h28 : p 28) : ∀ i, i < 29 → p i := fun i hi => match i, hi with
  | 0, _ => h0
  | 1, _ => h1
  | 2, _ => h2
  | 3, _ => h3
  | 4, _ => h4
  | 5, _ => h5
  | 6, _ => h6
  | 7, _ => h7
  | 8, _ => h8
  | 9, _ => h9
  | 10, _ => h10
  | 11, _ => h11
  | 12, _ => h12
  | 13, _ => h13
  | 14, _ => h14
  | 15, _ => h15
  | 16, _ => h16
  | 17, _ => h17
  | 18, _ => h18
  | 19, _ => h19
  | 20, _ => h20
  | 21, _ => h21
  | 22, _ => h22
  | 23, _ => h23
  | 24, _ => h24
  | 25, _ => h25
  | 26, _ => h26
  | 27, _ => h27
  | 28, _ => h28
  | n + 29, h => absurd h (by omega)
theorem end_of {fLaw : Addr} {c : Nat → Addr} {fn : Addr} {odn ann : Option Addr} {sln : Array (Option Value)} {ocn kVn dcn pmn cdn ctn : Value} {fd : Addr} {odd and : Option Addr} {sld : Array (Option Value)} {ocd kVd dcd pmd cdd ctd : Value} {fp : Addr} {odp anp : Option Addr} {slp : Array (Option Value)} {ocp kVp dcp pmp cdp ctp : Value} {fa : Addr} {oda ana : Option Addr} {sla : Array (Option Value)} {oca kVa dca pma cda cta : Value} {fm : Addr} {odm anm : Option Addr} {slm : Array (Option Value)} {ocm kVm dcm pmm cdm ctm : Value} {fk : Addr} {odk ank : Option Addr} {slk : Array (Option Value)} {ock kVk dck pmk cdk ctk : Value} {fq : Addr} {odq anq : Option Addr} {slq : Array (Option Value)} {ocq kVq dcq pmq cdq ctq : Value} {fr : Addr} {odr anr : Option Addr} {slr : Array (Option Value)} {ocr kVr dcr pmr cdr ctr : Value} {ft : Addr} {odt ant : Option Addr} {slt : Array (Option Value)} {oct kVt dct pmt cdt ctt : Value} {fl : Addr} {odl anl : Option Addr} {sll : Array (Option Value)} {ocl kVl dcl pml cdl ctl : Value} (X : K.In h) (G : h.Ns mainGlobals mg) (hfa : mg "law" = some (.ref fLaw)) (T : ∀ base, Errs P w K mg base c S)
    (y1 : PySem.W.nsIn K mainGlobals "list" = some none) (y2 : PySem.W.nsIn K mainGlobals "min" = some none) (y3 : PySem.W.nsIn K mainGlobals "bool" = some none)
    (wan : PySem.W.nsIn K mainGlobals "_law_pen" = some (some (.ref fn))) (wln : K.lookup fn = some ⟨ocn, odn, .func (PySem.W.fnOf "_law_pen" "_law_pen" (defArgs sPen) (defBody sPen) (defScope sPen) .none kVn dcn pmn ann cdn ctn), sln⟩) (wcn : PySem.W.codeIn K cdn "_law_pen" = true) (wkn : PySem.W.keepIn K (.ref fn) = true)
    (wad : PySem.W.nsIn K mainGlobals "_law_draw" = some (some (.ref fd))) (wld : K.lookup fd = some ⟨ocd, odd, .func (PySem.W.fnOf "_law_draw" "_law_draw" (defArgs sDraw) (defBody sDraw) (defScope sDraw) .none kVd dcd pmd and cdd ctd), sld⟩) (wcd : PySem.W.codeIn K cdd "_law_draw" = true) (wkd : PySem.W.keepIn K (.ref fd) = true)
    (wap : PySem.W.nsIn K mainGlobals "_law_pick" = some (some (.ref fp))) (wlp : K.lookup fp = some ⟨ocp, odp, .func (PySem.W.fnOf "_law_pick" "_law_pick" (defArgs sPick) (defBody sPick) (defScope sPick) .none kVp dcp pmp anp cdp ctp), slp⟩) (wcp : PySem.W.codeIn K cdp "_law_pick" = true) (wkp : PySem.W.keepIn K (.ref fp) = true)
    (waa : PySem.W.nsIn K mainGlobals "_law_alone" = some (some (.ref fa))) (wla : K.lookup fa = some ⟨oca, oda, .func (PySem.W.fnOf "_law_alone" "_law_alone" (defArgs sAlone) (defBody sAlone) (defScope sAlone) .none kVa dca pma ana cda cta), sla⟩) (wca : PySem.W.codeIn K cda "_law_alone" = true) (wka : PySem.W.keepIn K (.ref fa) = true)
    (wam : PySem.W.nsIn K mainGlobals "_law_more" = some (some (.ref fm))) (wlm : K.lookup fm = some ⟨ocm, odm, .func (PySem.W.fnOf "_law_more" "_law_more" (defArgs sMore) (defBody sMore) (defScope sMore) .none kVm dcm pmm anm cdm ctm), slm⟩) (wcm : PySem.W.codeIn K cdm "_law_more" = true) (wkm : PySem.W.keepIn K (.ref fm) = true)
    (wak : PySem.W.nsIn K mainGlobals "_law_kinds" = some (some (.ref fk))) (wlk : K.lookup fk = some ⟨ock, odk, .func (PySem.W.fnOf "_law_kinds" "_law_kinds" (defArgs sKinds) (defBody sKinds) (defScope sKinds) .none kVk dck pmk ank cdk ctk), slk⟩) (wck : PySem.W.codeIn K cdk "_law_kinds" = true) (wkk : PySem.W.keepIn K (.ref fk) = true)
    (waq : PySem.W.nsIn K mainGlobals "_law_apart" = some (some (.ref fq))) (wlq : K.lookup fq = some ⟨ocq, odq, .func (PySem.W.fnOf "_law_apart" "_law_apart" (defArgs tApart) (defBody tApart) (defScope tApart) .none kVq dcq pmq anq cdq ctq), slq⟩) (wcq : PySem.W.codeIn K cdq "_law_apart" = true) (wkq : PySem.W.keepIn K (.ref fq) = true)
    (war : PySem.W.nsIn K mainGlobals "_law_raise" = some (some (.ref fr))) (wlr : K.lookup fr = some ⟨ocr, odr, .func (PySem.W.fnOf "_law_raise" "_law_raise" (defArgs sRaise) (defBody sRaise) (defScope sRaise) .none kVr dcr pmr anr cdr ctr), slr⟩) (wcr : PySem.W.codeIn K cdr "_law_raise" = true) (wkr : PySem.W.keepIn K (.ref fr) = true)
    (wat : PySem.W.nsIn K mainGlobals "_law_caught" = some (some (.ref ft))) (wlt : K.lookup ft = some ⟨oct, odt, .func (PySem.W.fnOf "_law_caught" "_law_caught" (defArgs sCaught) (defBody sCaught) (defScope sCaught) .none kVt dct pmt ant cdt ctt), slt⟩) (wct : PySem.W.codeIn K cdt "_law_caught" = true) (wkt : PySem.W.keepIn K (.ref ft) = true)
    (wal : PySem.W.nsIn K mainGlobals "law" = some (some (.ref fl))) (wll : K.lookup fl = some ⟨ocl, odl, .func (PySem.W.fnOf "law" "law" (defArgs sLaw) (defBody sLaw) (defScope sLaw) .none kVl dcl pml anl cdl ctl), sll⟩) (wcl : PySem.W.codeIn K cdl "law" = true) (wkl : PySem.W.keepIn K (.ref fl) = true) :
    ∃ fd : FuncData, (∀ (s : Shared) (v : Value), BindsTo s fd ⟨[v], []⟩ [("_law_script", v)]) ∧ ∀ base : Heap, K.In base → base.Ns mainGlobals mg → FnOk P w K mg base CX0 5 fLaw fd ["_law_script"] (spLaw K) := by
  have e := hfa.symm.trans (PySem.W.mg_of X G wal)
  cases e
  have Fn := fun_mk (st := sPen) wln wcn wkn
  have bn := Fn.binds (ps := ["_law_script"]) fun _ _ _ _ _ _ us hl => match us, hl with | [_], _ => rfl
  have Fd := fun_mk (st := sDraw) wld wcd wkd
  have bd := Fd.binds (ps := ["_law_pen_here", "_law_many"]) fun _ _ _ _ _ _ us hl => match us, hl with | [_, _], _ => rfl
  have Fp := fun_mk (st := sPick) wlp wcp wkp
  have bp := Fp.binds (ps := ["_law_pen_here", "_law_some"]) fun _ _ _ _ _ _ us hl => match us, hl with | [_, _], _ => rfl
  have Fa := fun_mk (st := sAlone) wla wca wka
  have ba := Fa.binds (ps := ["_law_mine"]) fun _ _ _ _ _ _ us hl => match us, hl with | [_], _ => rfl
  have Fm := fun_mk (st := sMore) wlm wcm wkm
  have bm := Fm.binds (ps := ["_law_mine", "_law_yours"]) fun _ _ _ _ _ _ us hl => match us, hl with | [_, _], _ => rfl
  have Fk := fun_mk (st := sKinds) wlk wck wkk
  have bk := Fk.binds (ps := ["_law_error"]) fun _ _ _ _ _ _ us hl => match us, hl with | [_], _ => rfl
  have Fq := fun_mk (st := tApart) wlq wcq wkq
  have bq := Fq.binds (ps := ["_law_mine", "_law_yours"]) fun _ _ _ _ _ _ us hl => match us, hl with | [_, _], _ => rfl
  have Fr := fun_mk (st := sRaise) wlr wcr wkr
  have br := Fr.binds (ps := ["_law_which", "_law_mine"]) fun _ _ _ _ _ _ us hl => match us, hl with | [_, _], _ => rfl
  have Ft := fun_mk (st := sCaught) wlt wct wkt
  have bt := Ft.binds (ps := ["_law_which", "_law_mine"]) fun _ _ _ _ _ _ us hl => match us, hl with | [_, _], _ => rfl
  have Fl := fun_mk (st := sLaw) wll wcl wkl
  have bl := Fl.binds (ps := ["_law_script"]) fun _ _ _ _ _ _ us hl => match us, hl with | [_], _ => rfl
  have g {n : Str} {v : Value} (a : PySem.W.nsIn K mainGlobals n = some (some v)) : mg n = some v := PySem.W.mg_of X G a
  have z {n : Str} (a : PySem.W.nsIn K mainGlobals n = some none) : mg n = none := PySem.W.mg_none_of X G a
  refine ⟨PySem.W.fnOf "law" "law" (defArgs sLaw) (defBody sLaw) (defScope sLaw) .none kVl dcl pml anl cdl ctl, fun s v => .of_eq rfl, fun base _ _ => ?_⟩
  have E := T base
  have TP : TxtP mg := ⟨E.int, E.len, z y1⟩
  exact ok_law (P := P) (w := w) (base := base) Fl E ⟨E.range, z y2, E.len, z y3, E.all⟩ Fn (g wan) bn (ok_pen Fn TP) Fp (g wap) bp (ok_pick Fp Fd (g wad) bd TP) Fa (g waa) ba (ok_alone Fa E) Fm (g wam) bm (ok_more Fm E)
    Fq (g waq) bq (ok_apart Fq Fk (g wak) bk E) Ft (g wat) bt (ok_caught Ft Fr (g war) br E)
end
end K00
open PySem PySem.W PyProof.Rows
set_option maxHeartbeats 0
open_top hd00 for PySem.Challenge.rw_allstreams_k00_errors_made_by_hand
theorem PySem.Challenge.cw_allstreams_k00_errors_made_by_hand_holds : PySem.Challenge.rw_allstreams_k00_errors_made_by_hand.Holds := by
  refine hd00 ?_
  k_fill
  refine L2.walk_of (l := PySem.Challenge.rw_allstreams_k00_errors_made_by_hand) (n := 63) (k := 5) (x := "_law_script") (CX := fun _ => L2.CX0) (sp := fun w => K00.spLaw (hd00.heap_39 w.params)) rfl (by decide) rfl ⟨rfl, by decide, by decide⟩ (fun w h Y => PySem.W.kIn_of Y) ?F (fun _ _ a ns hl _ hS => ⟨a, ns, rfl, hS, hl, fun _ => rfl⟩) fun _ _ _ _ _ z => z
  case F =>
    intro w mg fa h KX G hmg
    have gx : K00.Gx (hd00.heap_39 w.params) := by
      refine' ⟨?a, ?b⟩
      case a => k_is
      case b => k_is
    refine' K00.mkBadValue (P := PySem.Challenge.rw_allstreams_k00_errors_made_by_hand.prog) (w := w) (mg := mg) gx KX G ?aC ?xL ?ga ?gt ?di ?cl ?kC ?sa ?iC ?tI ?lI ?cI ?kI ?no ?_
    (case aC => k_is); (case xL => k_is); (case ga => k_is); (case gt => k_is); (case di => k_is); (case cl => k_is); (case kC => k_is); (case sa => k_is); (case iC => k_is); (case tI => k_is); (case lI => k_is); (case cI => k_is); (case kI => k_is); (case no => k_is)
    intro E0 Z0 A0
    refine' K00.mkNoDivisor (mg := mg) gx KX G ?aC ?xL ?ga ?gt ?di ?cl ?kC ?ex ?_
    (case aC => k_is); (case xL => k_is); (case ga => k_is); (case gt => k_is); (case di => k_is); (case cl => k_is); (case kC => k_is); (case ex => k_exc)
    intro E1 Z1 A1
    refine' K00.mkAtNought (mg := mg) gx KX G ?aC ?xL ?ga ?gt ?di ?cl ?kC ?ex ?_
    (case aC => k_is); (case xL => k_is); (case ga => k_is); (case gt => k_is); (case di => k_is); (case cl => k_is); (case kC => k_is); (case ex => k_exc)
    intro E2 Z2 A2
    refine' K00.mkNotAText (P := PySem.Challenge.rw_allstreams_k00_errors_made_by_hand.prog) (w := w) (mg := mg) gx KX G ?aC ?xL ?ga ?gt ?di ?cl ?kC ?sa ?iC ?tI ?lI ?cI ?kI ?no ?_
    (case aC => k_is); (case xL => k_is); (case ga => k_is); (case gt => k_is); (case di => k_is); (case cl => k_is); (case kC => k_is); (case sa => k_is); (case iC => k_is); (case tI => k_is); (case lI => k_is); (case cI => k_is); (case kI => k_is); (case no => k_is)
    intro E3 Z3 A3
    refine' K00.mkNoGiver (P := PySem.Challenge.rw_allstreams_k00_errors_made_by_hand.prog) (w := w) (mg := mg) gx KX G ?aC ?xL ?ga ?gt ?di ?cl ?kC ?sa ?iC ?tI ?lI ?cI ?kI ?no ?_
    (case aC => k_is); (case xL => k_is); (case ga => k_is); (case gt => k_is); (case di => k_is); (case cl => k_is); (case kC => k_is); (case sa => k_is); (case iC => k_is); (case tI => k_is); (case lI => k_is); (case cI => k_is); (case kI => k_is); (case no => k_is)
    intro E4 Z4 A4
    refine' K00.mkTwoGivers (P := PySem.Challenge.rw_allstreams_k00_errors_made_by_hand.prog) (w := w) (mg := mg) gx KX G ?aC ?xL ?ga ?gt ?di ?cl ?kC ?sa ?iC ?tI ?lI ?cI ?kI ?no ?_
    (case aC => k_is); (case xL => k_is); (case ga => k_is); (case gt => k_is); (case di => k_is); (case cl => k_is); (case kC => k_is); (case sa => k_is); (case iC => k_is); (case tI => k_is); (case lI => k_is); (case cI => k_is); (case kI => k_is); (case no => k_is)
    intro E5 Z5 A5
    refine' K00.mkUnknown (P := PySem.Challenge.rw_allstreams_k00_errors_made_by_hand.prog) (w := w) (mg := mg) gx KX G ?aC ?xL ?ga ?gt ?di ?cl ?kC ?sa ?iC ?tI ?lI ?cI ?kI ?no ?_
    (case aC => k_is); (case xL => k_is); (case ga => k_is); (case gt => k_is); (case di => k_is); (case cl => k_is); (case kC => k_is); (case sa => k_is); (case iC => k_is); (case tI => k_is); (case lI => k_is); (case cI => k_is); (case kI => k_is); (case no => k_is)
    intro E6 Z6 A6
    refine' K00.mkTaken (P := PySem.Challenge.rw_allstreams_k00_errors_made_by_hand.prog) (w := w) (mg := mg) gx KX G ?aC ?xL ?ga ?gt ?di ?cl ?kC ?sa ?iC ?tI ?lI ?cI ?kI ?no ?_
    (case aC => k_is); (case xL => k_is); (case ga => k_is); (case gt => k_is); (case di => k_is); (case cl => k_is); (case kC => k_is); (case sa => k_is); (case iC => k_is); (case tI => k_is); (case lI => k_is); (case cI => k_is); (case kI => k_is); (case no => k_is)
    intro E7 Z7 A7
    refine' K00.mkApart (P := PySem.Challenge.rw_allstreams_k00_errors_made_by_hand.prog) (w := w) (mg := mg) gx KX G ?aC ?xL ?ga ?gt ?di ?cl ?kC ?sa ?iC ?tI ?lI ?cI ?kI ?no ?_
    (case aC => k_is); (case xL => k_is); (case ga => k_is); (case gt => k_is); (case di => k_is); (case cl => k_is); (case kC => k_is); (case sa => k_is); (case iC => k_is); (case tI => k_is); (case lI => k_is); (case cI => k_is); (case kI => k_is); (case no => k_is)
    intro E8 Z8 A8
    refine' K00.mkWithin (P := PySem.Challenge.rw_allstreams_k00_errors_made_by_hand.prog) (w := w) (mg := mg) gx KX G ?aC ?xL ?ga ?gt ?di ?cl ?kC ?sa ?iC ?tI ?lI ?cI ?kI ?no ?_
    (case aC => k_is); (case xL => k_is); (case ga => k_is); (case gt => k_is); (case di => k_is); (case cl => k_is); (case kC => k_is); (case sa => k_is); (case iC => k_is); (case tI => k_is); (case lI => k_is); (case cI => k_is); (case kI => k_is); (case no => k_is)
    intro E9 Z9 A9
    refine' K00.mkUnpaced (P := PySem.Challenge.rw_allstreams_k00_errors_made_by_hand.prog) (w := w) (mg := mg) gx KX G ?aC ?xL ?ga ?gt ?di ?cl ?kC ?sa ?iC ?tI ?lI ?cI ?kI ?no ?_
    (case aC => k_is); (case xL => k_is); (case ga => k_is); (case gt => k_is); (case di => k_is); (case cl => k_is); (case kC => k_is); (case sa => k_is); (case iC => k_is); (case tI => k_is); (case lI => k_is); (case cI => k_is); (case kI => k_is); (case no => k_is)
    intro E10 Z10 A10
    refine' K00.mkTooMany (P := PySem.Challenge.rw_allstreams_k00_errors_made_by_hand.prog) (w := w) (mg := mg) gx KX G ?aC ?xL ?ga ?gt ?di ?cl ?kC ?sa ?iC ?tI ?lI ?cI ?kI ?no ?_
    (case aC => k_is); (case xL => k_is); (case ga => k_is); (case gt => k_is); (case di => k_is); (case cl => k_is); (case kC => k_is); (case sa => k_is); (case iC => k_is); (case tI => k_is); (case lI => k_is); (case cI => k_is); (case kI => k_is); (case no => k_is)
    intro E11 Z11 A11
    refine' K00.mkStandsStill (mg := mg) gx KX G ?aC ?xL ?ga ?gt ?di ?cl ?kC ?ex ?_
    (case aC => k_is); (case xL => k_is); (case ga => k_is); (case gt => k_is); (case di => k_is); (case cl => k_is); (case kC => k_is); (case ex => k_exc)
    intro E12 Z12 A12
    refine' K00.mkCannotStep (P := PySem.Challenge.rw_allstreams_k00_errors_made_by_hand.prog) (w := w) (mg := mg) gx KX G ?aC ?xL ?ga ?gt ?di ?cl ?kC ?sa ?iC ?tI ?lI ?cI ?kI ?no ?_
    (case aC => k_is); (case xL => k_is); (case ga => k_is); (case gt => k_is); (case di => k_is); (case cl => k_is); (case kC => k_is); (case sa => k_is); (case iC => k_is); (case tI => k_is); (case lI => k_is); (case cI => k_is); (case kI => k_is); (case no => k_is)
    intro E13 Z13 A13
    refine' K00.mkUnlike (mg := mg) gx KX G ?aC ?xL ?ga ?gt ?di ?cl ?kC ?ex ?_
    (case aC => k_is); (case xL => k_is); (case ga => k_is); (case gt => k_is); (case di => k_is); (case cl => k_is); (case kC => k_is); (case ex => k_exc)
    intro E14 Z14 A14
    refine' K00.mkSingular (mg := mg) gx KX G ?aC ?xL ?ga ?gt ?di ?cl ?kC ?ex ?_
    (case aC => k_is); (case xL => k_is); (case ga => k_is); (case gt => k_is); (case di => k_is); (case cl => k_is); (case kC => k_is); (case ex => k_exc)
    intro E15 Z15 A15
    refine' K00.mkNotSquare (mg := mg) gx KX G ?aC ?xL ?ga ?gt ?di ?cl ?kC ?ex ?_
    (case aC => k_is); (case xL => k_is); (case ga => k_is); (case gt => k_is); (case di => k_is); (case cl => k_is); (case kC => k_is); (case ex => k_exc)
    intro E16 Z16 A16
    refine' K00.mkNotUndone (mg := mg) gx KX G ?aC ?xL ?ga ?gt ?di ?cl ?kC ?ex ?_
    (case aC => k_is); (case xL => k_is); (case ga => k_is); (case gt => k_is); (case di => k_is); (case cl => k_is); (case kC => k_is); (case ex => k_exc)
    intro E17 Z17 A17
    refine' K00.mkHasLoops (mg := mg) gx KX G ?aC ?xL ?ga ?gt ?di ?cl ?kC ?ex ?_
    (case aC => k_is); (case xL => k_is); (case ga => k_is); (case gt => k_is); (case di => k_is); (case cl => k_is); (case kC => k_is); (case ex => k_exc)
    intro E18 Z18 A18
    refine' K00.mkBadCode (P := PySem.Challenge.rw_allstreams_k00_errors_made_by_hand.prog) (w := w) (mg := mg) gx KX G ?aC ?xL ?ga ?gt ?di ?cl ?kC ?sa ?iC ?tI ?lI ?cI ?kI ?no ?_
    (case aC => k_is); (case xL => k_is); (case ga => k_is); (case gt => k_is); (case di => k_is); (case cl => k_is); (case kC => k_is); (case sa => k_is); (case iC => k_is); (case tI => k_is); (case lI => k_is); (case cI => k_is); (case kI => k_is); (case no => k_is)
    intro E19 Z19 A19
    refine' K00.mkHasSource (P := PySem.Challenge.rw_allstreams_k00_errors_made_by_hand.prog) (w := w) (mg := mg) gx KX G ?aC ?xL ?ga ?gt ?di ?cl ?kC ?sa ?iC ?tI ?lI ?cI ?kI ?no ?_
    (case aC => k_is); (case xL => k_is); (case ga => k_is); (case gt => k_is); (case di => k_is); (case cl => k_is); (case kC => k_is); (case sa => k_is); (case iC => k_is); (case tI => k_is); (case lI => k_is); (case cI => k_is); (case kI => k_is); (case no => k_is)
    intro E20 Z20 A20
    refine' K00.mkNotOfNet (mg := mg) gx KX G ?aC ?xL ?ga ?gt ?di ?cl ?kC ?ex ?_
    (case aC => k_is); (case xL => k_is); (case ga => k_is); (case gt => k_is); (case di => k_is); (case cl => k_is); (case kC => k_is); (case ex => k_exc)
    intro E21 Z21 A21
    refine' K00.mkNotDriven (mg := mg) gx KX G ?aC ?xL ?ga ?gt ?di ?cl ?kC ?ex ?_
    (case aC => k_is); (case xL => k_is); (case ga => k_is); (case gt => k_is); (case di => k_is); (case cl => k_is); (case kC => k_is); (case ex => k_exc)
    intro E22 Z22 A22
    refine' K00.mkNotAFile (P := PySem.Challenge.rw_allstreams_k00_errors_made_by_hand.prog) (w := w) (mg := mg) gx KX G ?aC ?xL ?ga ?gt ?di ?cl ?kC ?sa ?iC ?tI ?lI ?cI ?kI ?no ?no2 ?_
    (case aC => k_is); (case xL => k_is); (case ga => k_is); (case gt => k_is); (case di => k_is); (case cl => k_is); (case kC => k_is); (case sa => k_is); (case iC => k_is); (case tI => k_is); (case lI => k_is); (case cI => k_is); (case kI => k_is); (case no => k_is); (case no2 => k_is)
    intro E23 Z23 A23
    refine' K00.mkBadPromise (P := PySem.Challenge.rw_allstreams_k00_errors_made_by_hand.prog) (w := w) (mg := mg) gx KX G ?aC ?xL ?ga ?gt ?di ?cl ?kC ?sa ?iC ?tI ?lI ?cI ?kI ?no ?_
    (case aC => k_is); (case xL => k_is); (case ga => k_is); (case gt => k_is); (case di => k_is); (case cl => k_is); (case kC => k_is); (case sa => k_is); (case iC => k_is); (case tI => k_is); (case lI => k_is); (case cI => k_is); (case kI => k_is); (case no => k_is)
    intro E24 Z24 A24
    refine' K00.mkBroken (P := PySem.Challenge.rw_allstreams_k00_errors_made_by_hand.prog) (w := w) (mg := mg) gx KX G ?aC ?xL ?ga ?gt ?di ?cl ?kC ?sa ?iC ?tI ?lI ?cI ?kI ?no ?no2 ?_
    (case aC => k_is); (case xL => k_is); (case ga => k_is); (case gt => k_is); (case di => k_is); (case cl => k_is); (case kC => k_is); (case sa => k_is); (case iC => k_is); (case tI => k_is); (case lI => k_is); (case cI => k_is); (case kI => k_is); (case no => k_is); (case no2 => k_is)
    intro E25 Z25 A25
    refine' K00.mkNotMade (P := PySem.Challenge.rw_allstreams_k00_errors_made_by_hand.prog) (w := w) (mg := mg) gx KX G ?aC ?xL ?ga ?gt ?di ?cl ?kC ?sa ?iC ?tI ?lI ?cI ?kI ?no ?_
    (case aC => k_is); (case xL => k_is); (case ga => k_is); (case gt => k_is); (case di => k_is); (case cl => k_is); (case kC => k_is); (case sa => k_is); (case iC => k_is); (case tI => k_is); (case lI => k_is); (case cI => k_is); (case kI => k_is); (case no => k_is)
    intro E26 Z26 A26
    refine' K00.mkNothingToUndo (mg := mg) gx KX G ?aC ?xL ?ga ?gt ?di ?cl ?kC ?ex ?_
    (case aC => k_is); (case xL => k_is); (case ga => k_is); (case gt => k_is); (case di => k_is); (case cl => k_is); (case kC => k_is); (case ex => k_exc)
    intro E27 Z27 A27
    refine' K00.mkNothingToRedo (mg := mg) gx KX G ?aC ?xL ?ga ?gt ?di ?cl ?kC ?ex ?_
    (case aC => k_is); (case xL => k_is); (case ga => k_is); (case gt => k_is); (case di => k_is); (case cl => k_is); (case kC => k_is); (case ex => k_exc)
    intro E28 Z28 A28
    have xS : K00.AtS (hd00.heap_39 w.params) 24 := by
      refine' K00.mk_S ?xL
      case xL => k_is
    have gl : PySem.W.nsIn (hd00.heap_39 w.params) mainGlobals "StreamError" = some (some (.ref 24)) := by k_is
    have z1 : PySem.W.nsIn (hd00.heap_39 w.params) mainGlobals "int" = some none := by k_is
    have z2 : PySem.W.nsIn (hd00.heap_39 w.params) mainGlobals "len" = some none := by k_is
    have z3 : PySem.W.nsIn (hd00.heap_39 w.params) mainGlobals "isinstance" = some none := by k_is
    have z4 : PySem.W.nsIn (hd00.heap_39 w.params) mainGlobals "all" = some none := by k_is
    have z5 : PySem.W.nsIn (hd00.heap_39 w.params) mainGlobals "range" = some none := by k_is
    have z6 : PySem.W.nsIn (hd00.heap_39 w.params) mainGlobals "ValueError" = some none := by k_is
    have T : ∀ base, K00.Errs PySem.Challenge.rw_allstreams_k00_errors_made_by_hand.prog w (hd00.heap_39 w.params) mg base (K00.cAt [44, 56, 68, 87, 106, 125, 144, 163, 182, 201, 220, 239, 251, 270, 282, 294, 306, 318, 330, 349, 368, 380, 392, 411, 430, 449, 468, 480, 492]) 24 := fun base =>
      K00.errs_of rfl (by decide) (K00.all29 (by decide) (by decide) (by decide) (by decide) (by decide) (by decide) (by decide) (by decide) (by decide) (by decide) (by decide) (by decide) (by decide) (by decide) (by decide) (by decide) (by decide) (by decide) (by decide) (by decide) (by decide) (by decide) (by decide) (by decide) (by decide) (by decide) (by decide) (by decide) (by decide)) KX G gl xS (K00.all29 A0 A1 A2 A3 A4 A5 A6 A7 A8 A9 A10 A11 A12 A13 A14 A15 A16 A17 A18 A19 A20 A21 A22 A23 A24 A25 A26 A27 A28) (K00.all29 Z0 Z1 Z2 Z3 Z4 Z5 Z6 Z7 Z8 Z9 Z10 Z11 Z12 Z13 Z14 Z15 Z16 Z17 Z18 Z19 Z20 Z21 Z22 Z23 Z24 Z25 Z26 Z27 Z28)
        (E0 base) E1 E2 (E3 base) (E4 base) (E5 base) (E6 base) (E7 base) (E8 base) (E9 base) (E10 base) (E11 base) E12 (E13 base) E14 E15 E16 E17 E18 (E19 base) (E20 base) E21 E22 (E23 base) (E24 base) (E25 base) (E26 base) E27 E28 z1 z2 z3 z4 z5 z6
    refine' K00.end_of KX G hmg T ?y1 ?y2 ?y3 ?wan ?wln ?wcn ?wkn ?wad ?wld ?wcd ?wkd ?wap ?wlp ?wcp ?wkp ?waa ?wla ?wca ?wka ?wam ?wlm ?wcm ?wkm ?wak ?wlk ?wck ?wkk ?waq ?wlq ?wcq ?wkq ?war ?wlr ?wcr ?wkr ?wat ?wlt ?wct ?wkt ?wal ?wll ?wcl ?wkl
    (case y1 => k_is); (case y2 => k_is); (case y3 => k_is)
    (case wan => k_is); (case wln => k_is); (case wcn => k_is); (case wkn => k_is); (case wad => k_is); (case wld => k_is); (case wcd => k_is); (case wkd => k_is); (case wap => k_is); (case wlp => k_is); (case wcp => k_is); (case wkp => k_is); (case waa => k_is); (case wla => k_is); (case wca => k_is); (case wka => k_is); (case wam => k_is); (case wlm => k_is); (case wcm => k_is); (case wkm => k_is); (case wak => k_is); (case wlk => k_is); (case wck => k_is); (case wkk => k_is); (case waq => k_is); (case wlq => k_is); (case wcq => k_is); (case wkq => k_is); (case war => k_is); (case wlr => k_is); (case wcr => k_is); (case wkr => k_is); (case wat => k_is); (case wlt => k_is); (case wct => k_is); (case wkt => k_is); (case wal => k_is); (case wll => k_is); (case wcl => k_is); (case wkl => k_is)
