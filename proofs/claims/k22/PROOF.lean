import PyProof.Rows.All
import Wide.All
import OpenK.AllK
import Wide.FinOn
import HandS.Head3
import HandS.HeadHook4
import HandS.HeadWalk
import HandS.Words
import HandS.WordsExc
import HandS.ForMost
import HandS.ExcInit
import HandS.Defaults
import HandS.MakeKwOnly
import HandS.ExcIs
import HandS.IsInst
import HandS.ExcValue
import KE.KOpsOwn
import PyProof.FactsAll.int_1
import PyProof.FactsAll.int_3
import PyProof.FactsAll.int_5
import PyProof.FactsAll.bool_1
import PyProof.FactsAll.bool_2
import PyProof.FactsAll.bool_3
import HandS.Head2
import HandS.Lambda
import HandS.Nested
import HandS.Comp
import HandS.TryMany
import HandS.Wide
import HandS.Gcd
import HandS.AnyAll
import HandS.ExcField
import PyProof.AttrMissHeap
import KE.KBoundM
import HandS.Exc
import KE.GoesRaise
import HandS.List
import HandS.Style
import KE.KEqSeq
import HandS.DeepEq
import PyProof.P3Eq
import HandS.More
import PySem.Challenge.RW_allstreams_k22_lanes_dealt_and_woven
set_option Elab.async false
set_option linter.all false
set_option maxRecDepth 100000
section
namespace HX
open PySem PySem.Spec PyProof.Rows L2 He
/-- an exception class of one's own, right by its object -/
def oexB (K : PySem.W.Frag) (C : Addr) : Bool := match K.lookup C with
  | some ⟨.type y, _, .cls cd, sl⟩ => y == "type" && (match cd.mro, sl.toList with
    | .ref C' :: bm, [_, _, _, _, some (.builtin n), _] => C' == C && (n == "ValueError.__new__" && (!cd.hasDel && (cd.hasDict && PySem.HandSPX.refsVE bm)))
    | _, _ => false)
  | _ => false
def eqV (a b : Option Value) : Bool := decide (a = b)
def eqB (a b : Option Bool) : Bool := decide (a = b)
def clsXB (K : PySem.W.Frag) (D : Addr) : Bool := eqO (PySem.W.findIn K (.ref D) "__getattribute__") (some (some (.builtin "BaseException.__getattribute__"))) && (eqO (PySem.W.findIn K (.ref D) "__getattr__") (some none) && (eqB (PySem.W.subIn K (.ref D) (.type "BaseException")) (some true) && (PySem.W.hasDictIn K D &&
  (eqO (PySem.W.findIn K (.ref D) "__class__") (some (some (.builtin "object.__class__"))) && (eqO (PySem.W.specialIn K (.builtin "object.__class__") "__get__") (some (some (.builtin "getset_descriptor.__get__"))) && (eqB (PySem.W.takesIn K (.builtin "object.__class__")) (some true) && eqB (PySem.W.mroIn K D (.type "object")) (some true)))))))
/-- an error with an __init__ of its own, its field f -/
def oneB (K : PySem.W.Frag) (C : Addr) (f : Str) : Bool := oexB K C && (eqO (PySem.W.findIn K (.ref C) "__setattr__") (some (some (.builtin "object.__setattr__"))) && (eqV (PySem.W.typeIn K (.ref C)) (some (.type "type")) && (PySem.W.keepIn K (.ref C) &&
  (eqO (PySem.W.findIn K (.ref C) "__init__") (some (some (.ref (ma K C "__init__")))) && (eqV (PySem.W.typeIn K (.ref (ma K C "__init__"))) (some (.type "function")) && (eqO (PySem.W.findIn K (.ref C) f) (some none) && clsXB K C))))))
/-- an error without one -/
def bareB (K : PySem.W.Frag) (C : Addr) : Bool := PySem.W.excIn K C [.type "ValueError", .type "Exception", .type "BaseException", .type "object"] "ValueError.__new__" && (PySem.W.keepIn K (.ref C) && (eqV (PySem.W.typeIn K (.ref C)) (some (.type "type")) && clsXB K C))
/-- a class right below object -/
def top1B (K : PySem.W.Frag) (C : Addr) : Bool := (match PySem.W.clsIn K C with
  | some cd => decide (cd.mro = [.ref C, .type "object"])
  | none => false) && PySem.W.selfFirst K C
/-- what isinstance asks of a class -/
def tyB (K : PySem.W.Frag) (C : Addr) : Bool := eqO (PySem.W.findIn K (.ref C) "__class__") (some (some (.builtin "object.__class__"))) && (eqO (PySem.W.specialIn K (.builtin "object.__class__") "__get__") (some (some (.builtin "getset_descriptor.__get__"))) &&
  (eqB (PySem.W.takesIn K (.builtin "object.__class__")) (some true) && (eqB (PySem.W.mroIn K C (.type "object")) (some true) && eqV (PySem.W.typeIn K (.ref C)) (some (.type "type")))))
/-- a module's name for a built-in function -/
def bltB (K : PySem.W.Frag) (x : Str) (id : String) : Bool := eqO (PySem.W.nsIn K mainGlobals x) (some (some (.builtin id)))
end HX
namespace L2
open PySem PySem.Spec PyProof.Rows
end L2
namespace K03
open PySem PySem.Spec PyProof.Rows L2
def top (i : Nat) : Stmt := PySem.Challenge.pw_allstreams_k22_lanes_dealt_and_woven.main.body.getD i (.Pass ⟨0, 0, 0, 0⟩)
end K03
end
section
set_option maxHeartbeats 4000000
namespace PySem
namespace ExV
open PySem.W PySem.Calls PyProof.Rows PySem.HandSPX
open Builtin Builtin.ObjectAttr
section
variable {M : Model} {A : Around} {E : Value → Shared → Prop} {h : Heap} {g : Array GenState} {d : Drawn} {t : Nat} {os : OsState}
variable {nm q : Str} {C N : Addr} {bs bm bmB : List Value} {hdct : Bool} {sn : List Str} {sub : List Value} {ab : Bool} {col : Option Bool} {dd : Option Addr} {k0 k1 k2 k3 k5 : Option Value} {B newId initId : String}

theorem check_new_kw (F : ExcBaseFacts B newId initId bmB) (hT : ∀ X : String, bm.contains (.type X) = bmB.contains (.type X)) {rest : List Value} {kw : List (Str × Value)} {Q : Unit → Shared → Prop}
    (hC : h.get? C = some (excClassObj nm q C N bs bm hdct sn sub ab col dd k0 k1 k2 k3 k5 newId)) (hq : Q () ⟨h, g, d, t, os⟩) : wpAny M A (checkBuiltinCall newId ⟨.ref C :: rest, kw⟩) Q E ⟨h, g, d, t, os⟩ := by
  have hcont : (Value.ref C :: bm).contains (.type B) = true := by rw [List.contains_cons, hT, F.hasB, Bool.or_true]
  have hstar := F.noStar
  simp only [checkBuiltinCall, F.newKind, F.newSplit, F.newRow]
  repeat (first | refine wpAny_loadPart_at hC ?_ | (refine wpAny_isSubtype_exc hC ?_; rw [hcont]) | refine wpAny_staticBase_exc hC ?_ | refine wpAny_madeBy_exc hC ?_ | simp only [bne_self_eq_false, Bool.false_eq_true, if_false] | wp_step)
  exact hq
end
section
variable {prog : Program} {w : World} {A : Around} {E : Value → Shared → Prop} {R : Result → Shared → Prop} {h : Heap} {g : Array GenState} {d : Drawn} {t : Nat} {os : OsState}
variable {nm q : Str} {C N : Addr} {bs bm bmB : List Value} {hdct : Bool} {sn : List Str} {sub : List Value} {ab : Bool} {col : Option Bool} {dd : Option Addr} {k0 k1 k2 k3 k5 : Option Value} {B newId initId : String}

theorem new_kw (F : ExcBaseFacts B newId initId bmB) (hT : ∀ X : String, bm.contains (.type X) = bmB.contains (.type X)) {rest : List Value} {kw : List (Str × Value)}
    (hC : h.get? C = some (excClassObj nm q C N bs bm hdct sn sub ab col dd k0 k1 k2 k3 k5 newId))
    (hq : R (.ok (.ret (.ref (h.objs.size + 1)))) ⟨(h.push { cls := .type "tuple", data := .seq rest.toArray }).push
      { cls := .ref C, data := .fields #[.ref h.objs.size, .none, .none, .none, .bool false, .none] }, g, d, t, os⟩) (hrest : rest.length ≤ sizeLine) :
    codeAny (model prog w) A (.builtin newId ⟨.ref C :: rest, kw⟩) R ⟨h, g, d, t, os⟩ := by
  have hends := F.ends
  have hcB : (Value.ref C :: bm).contains (.type B) = true := by rw [List.contains_cons, hT, F.hasB, Bool.or_true]
  have hcA : (Value.ref C :: bm).contains (.type "AttributeError") = false := by rw [List.contains_cons, hT, F.noAttr]; rfl
  have hcN : (Value.ref C :: bm).contains (.type "NameError") = false := by rw [List.contains_cons, hT, F.noName]; rfl
  refine codeAny_builtinAt F.entry ?_
  unfold Builtin.«BaseException.__new__»
  refine wpAt_bind ?_
  show wpAt _ _ _ (stack >>= _) _ _ _
  refine wpAt_bind (wpAt_stack fun p below => wpAt_of_wpAny ?_)
  wp_walk
  refine wpAt_of_wpAny ?_
  rw [F.owner]
  repeat (first | with_reducible refine wpAny_madeHere_exc F.canon hC ?_ | with_reducible refine wpAny_loadPart_at hC ?_ | (with_reducible refine wpAny_isSubtype_exc hC ?_; first | rw [hcB] | rw [hcA] | rw [hcN]) | wp_step)
  show R _ _
  rw [Heap.size_push]
  exact hq

theorem type_call_kw (F : ExcBaseFacts B newId initId bmB) (hT : ∀ X : String, bm.contains (.type X) = bmB.contains (.type X)) {rest : List Value} {kw : List (Str × Value)} {fI : Addr} {Q : Fin → Shared → Prop}
    (hC : h.get? C = some (excClassObj nm q C N bs bm hdct sn sub ab col dd k0 k1 k2 k3 k5 newId))
    (hi : W.Looks (model prog w) h (typeLookup (.ref C) "__init__") (some (.ref fI))) (hb : ∀ self, W.Looks (model prog w) h (bindSpecial (.ref fI) self) (.ref fI, [self])) (hrest : rest.length ≤ sizeLine)
    (hq : codeAny (model prog w) A (.call (.ref fI) ⟨.ref (h.objs.size + 1) :: rest, kw⟩)
      (fun r s' => match r with | .ok (.ret v) => v = .none ∧ Q (.done (.ret (.ref (h.objs.size + 1)))) s' | .ok _ => False | .error e => E e s')
      ⟨(h.push (W.kdv_tup rest)).push (excO C h.objs.size), g, d, t, os⟩) :
    wpAny (model prog w) A (Builtin.«type.__call__» ⟨.ref C :: rest, kw⟩) Q E ⟨h, g, d, t, os⟩ := by
  repeat (first | with_reducible refine wpAny_loadPart_at hC ?_ | with_reducible refine wpAny_madeBy_exc hC ?_ | wp_step)
  refine codeAny_call_builtin_code (Code.quiet_builtin _ F.quiet) (check_new_kw F hT hC ?_)
  refine new_kw F hT hC ?_ hrest
  show wpAny _ _ _ _ _ _
  have k : ∀ b o, h.get? b = some o → ((h.push (W.kdv_tup rest)).push (excO C h.objs.size)).get? b = some o := fun b o e => Heap.get?_push_of_some _ (Heap.get?_push_of_some _ e)
  have hC₁ := k _ _ hC
  have hget : ((h.push (W.kdv_tup rest)).push (excO C h.objs.size)).get? (h.objs.size + 1) = some (excO C h.objs.size) := by heap_get
  have hcC : (Value.ref C :: bm).contains (.ref C) = true := by simp
  have i1 := hi.keeps k
  have b1 := (hb (.ref (h.objs.size + 1))).keeps k
  unfold isInstance
  repeat (first | with_reducible refine wpAny_loadPart_at hget ?_ | (with_reducible refine wpAny_isSubtype_exc hC₁ ?_; rw [hcC]) | wp_step)
  show wpAny _ _ (typeLookup (.ref C) _) _ _ _
  refine i1.at ?_
  refine wpAny_holding (wpAny_bind (b1.at ?_))
  refine wpAny_bind (wpAny_call (codeAny_mono hq fun r s' z => ?_))
  rcases r with e | (v | _ | _ | _) <;> first | exact z | exact z.elim | skip
  obtain ⟨rfl, z⟩ := z
  first
    | exact wpAny_pure (wpAny_pure z)
    | (wp_walk; exact z)

theorem call_kw (F : ExcBaseFacts B newId initId bmB) (hT : ∀ X : String, bm.contains (.type X) = bmB.contains (.type X)) {rest : List Value} {kw : List (Str × Value)} {fI : Addr}
    (hC : h.get? C = some (excClassObj nm q C N bs bm hdct sn sub ab col dd k0 k1 k2 k3 k5 newId))
    (hi : W.Looks (model prog w) h (typeLookup (.ref C) "__init__") (some (.ref fI))) (hb : ∀ self, W.Looks (model prog w) h (bindSpecial (.ref fI) self) (.ref fI, [self])) (hrest : rest.length ≤ sizeLine)
    (hq : codeAny (model prog w) (A.under (.builtin "type.__call__" ⟨.ref C :: rest, kw⟩)) (.call (.ref fI) ⟨.ref (h.objs.size + 1) :: rest, kw⟩) (W.InitBack (h.objs.size + 1) R)
      ⟨(h.push (W.kdv_tup rest)).push (excO C h.objs.size), g, d, t, os⟩) :
    codeAny (model prog w) A (.call (.ref C) ⟨rest, kw⟩) R ⟨h, g, d, t, os⟩ := by
  have f1 := tc_lookup
  have f2 := tc_bind (.ref C)
  have hTy : (⟨h, g, d, t, os⟩ : Shared).TypeIs (.ref C) "type" := ⟨_, hC, rfl⟩
  refine codeAny_of_tree ?_
  show wpAny _ _ (callAny (.ref C) _) _ _ _
  repeat (any_goals (first | assumption | with_reducible refine wpAny_loadPart_at hC ?_ | wp_step))
  refine ⟨rfl, ?_⟩
  refine codeAny_call_builtin_at (Code.quiet_builtin _ (by decide +kernel)) entry_typeCall (wpAny_check_type_call_sub hC (type_call_kw F hT hC hi hb hrest ?_))
  refine codeAny_mono hq fun r s' z => ?_
  rcases r with e | (v | _ | _ | _) <;> exact z
end
end ExV
end PySem
end
section
set_option maxHeartbeats 4000000
namespace L2
open PySem PySem.Spec PyProof.Rows
/-- what is known of the class at C, of its __init__ at fI -/
structure OwnX (K : PySem.W.Frag) (C fI : Addr) : Prop where
  T : OexC K C
  iC : PySem.W.findIn K (.ref C) "__init__" = some (some (.ref fI))
  tI : PySem.W.typeIn K (.ref fI) = some (.type "function")
section
variable {X : Cx} {CX : CXT} {k n : Nat} {fI C : Addr} {fd : FuncData} {ps ks : List Str} {sp : Sp} {x : Str} {p pos : Pos} {e : Expr} {es : List Expr} {kws : List Keyword} {t tk : TA} {g : List Value → List Value → List Value} {gV : List V → List V → List V}
theorem run_mkv {pins : List (Addr × Obj)} {σ : St} {H : Hp} {s : Shared} {Q : VK} {us ws : List Value} {vs zs : List V} (O : OwnX X.K C fI)
    (F1 : FnOk X.prog X.w X.K X.mg X.base CX k fI fd ps sp) (hr : Room (k + 1) X.A) (hb : KBn X.K fd ps (n + 1) ks g gV) (hx : Passes CX X (fun _ _ _ => False)) (hn : n ≤ 1000)
    (I : Inv X pins σ H s) (r : Vals vs us) (rz : Vals zs ws) (l1 : vs.length = n) (l2 : zs.length = ks.length)
    (h : ∀ a, H a = none → sp (gV (.ref a :: vs) zs) (upd H a (exo a C none)) (fun v H3 => v = .non ∧ Q (.ref a) H3) (fun _ _ _ => False)) :
    wpAny (model X.prog X.w) X.A (call (.ref C) us (ks.zip ws)) (EP X pins σ Q) X.xe s := by
  obtain ⟨cn, cq, cN, cbs, cbm, csn, csub, cab, ccol, cdd, z0, z1, z2, z3, z5, isC, isR⟩ := O.T.cls
  obtain ⟨H0, gg, dr, tt, oo⟩ := s
  let a : Addr := H0.objs.size + 1
  let H9 : Heap := (H0.push (PySem.W.kdv_tup us)).push (PySem.HandSPX.excO C H0.objs.size)
  have up : ∀ b o, H0.get? b = some o → H9.get? b = some o := fun b o q => Heap.get?_push_of_some _ (Heap.get?_push_of_some _ q)
  have at9 : H9.get? a = some (PySem.HandSPX.excO C H0.objs.size) := by
    show ((H0.push (PySem.W.kdv_tup us)).push (PySem.HandSPX.excO C H0.objs.size)).get? (H0.objs.size + 1) = _
    heap_get
  have free : H a = none := I.hok.fresh (show H0.objs.size ≤ a from Nat.le_succ _)
  have J : Inv X pins σ (upd H a (exo a C none)) ⟨H9, gg, dr, tt, oo⟩ := I.laid (t' := tt) (a := a) (o := exo a C none) (h' := H9) up (Nat.le_succ _) (exo_ok at9)
  have rel := hb.rel (vs := V.ref a :: vs) (us := Value.ref a :: us) (.cons rfl r) rz
  have lu : us.length = n := r.length.symm.trans l1
  have small : us.length ≤ sizeLine := by rw [lu, sizeLine_eq]; omega
  have bnd := hb.to (⟨H9, gg, dr, tt, oo⟩ : Shared) (Value.ref a :: us) ws J.kIn (by rw [List.length_cons, lu]) (rz.length.symm.trans l2)
  refine wpAny_call (PySem.ExV.call_kw F.excBase_ValueError (fun Y => PySem.HandSPX.refsVE_contains Y cbm isR) (I.kIn _ _ isC) (PySem.W.looks_findIn I.kIn O.iC) (fun self => PySem.W.bind_fn I.kIn self O.tI) small
    (codeAny_mono (F1.run _ X.stack ⟨H9, gg, dr, tt, oo⟩ _ ⟨Value.ref a :: us, ks.zip ws⟩ _ _ _ (fun _ _ _ => False) (hr.make C us (ks.zip ws)) (J.env0.make C us (ks.zip ws)) bnd rel (h a free)) fun res s9 got => ?_))
  cases res with
  | error er => exact hx pins σ _ _ er s9 J got
  | ok fl =>
    cases fl with
    | ret u =>
      obtain ⟨v, H', I3, rv, ev, q3⟩ := J.after got
      subst ev
      exact ⟨rv, ⟨V.ref a, H', I3, rfl, q3⟩⟩
    | next => exact got.elim
    | brk => exact got.elim
    | cont => exact got.elim
end
end L2
end
section
set_option maxHeartbeats 4000000
namespace PySem
namespace ExV
open PySem.W PyProof.Rows
section
variable {prog : Program} {w : World} {A : Around} {E : Value → Shared → Prop} {s : Shared} {K : Frag} {x D : Addr} {ox : Obj} {od : Option Obj}
/-- what the class must say -/
structure ClsX (K : Frag) (D : Addr) : Prop where
  ga : findIn K (.ref D) "__getattribute__" = some (some (.builtin "BaseException.__getattribute__"))
  gt : findIn K (.ref D) "__getattr__" = some none
  su : subIn K (.ref D) (.type "BaseException") = some true
  di : hasDictIn K D = true
  cl : findIn K (.ref D) "__class__" = some (some (.builtin "object.__class__"))
  sp : specialIn K (.builtin "object.__class__") "__get__" = some (some (.builtin "getset_descriptor.__get__"))
  tk : takesIn K (.builtin "object.__class__") = some true
  mr : mroIn K D (.type "object") = some true
end
end ExV
end PySem
namespace L2
open PySem PySem.Spec PyProof.Rows
end L2
end
section
set_option maxHeartbeats 4000000
namespace L2
open PySem PySem.Spec PyProof.Rows
theorem Same.new {H H' : Hp} {p : Addr} {o : HO} (a : Same H H') (hp : H' p = none) : Same H (upd H' p o) := fun x u e => by
  rw [upd_ne (ne_of_none (a x u e) hp)]
  exact a x u e
/-- what an __init__ that stores its one value keeps -/
def spI1 (C : Addr) (f : Str) : Sp := fun vs H Q _ => ∃ (a : Addr) (v : V), vs = [.ref a, v] ∧ H a = some (exo a C none) ∧ ∀ dx, H dx = none → dx ≠ a → Q .non (upd (upd H dx (exd dx [(f, v)])) a (exo a C (some dx)))
/-- an error class with one field -/
structure One (P : Program) (w : World) (K : PySem.W.Frag) (mg : Str → Option Value) (base : Heap) (C : Addr) (cls f : Str) : Prop where
  ex : ∃ (fI : Addr) (fd : FuncData), OwnX K C fI ∧ FnOk P w K mg base CX0 1 fI fd ["self", f] (spI1 C f) ∧ KBn K fd ["self", f] 2 [] (fun us _ => us) (fun vs _ => vs) ∧
    KBn K fd ["self", f] 1 [f] (fun us ws => us ++ ws) (fun vs zs => vs ++ zs)
  g : mg cls = some (.ref C)
  Z : PySem.ExV.ClsX K C
  no : PySem.W.findIn K (.ref C) f = some none
/-- .. none -/
structure Bare (K : PySem.W.Frag) (mg : Str → Option Value) (C : Addr) (cls : Str) : Prop where
  q : PySem.W.excIn K C [.type "ValueError", .type "Exception", .type "BaseException", .type "object"] "ValueError.__new__" = true
  kC : PySem.W.keepIn K (.ref C) = true
  g : mg cls = some (.ref C)
  Z : PySem.ExV.ClsX K C
/-- a new error with the fields fs -/
def NewX (C : Addr) (fs : List (Str × V)) (H : Hp) (Q : VK) : Prop := ∀ (a dx : Addr) (H' : Hp), H a = none → H dx = none → Same H H' → H' a = some (exo a C (some dx)) → H' dx = some (exd dx fs) → dx ≠ a → Q (.ref a) H'
theorem NewX.one {C : Addr} {f : Str} {v : V} {H : Hp} {Q : VK} (q : NewX C [(f, v)] H Q) (a : Addr) (ha : H a = none) :
    spI1 C f [.ref a, v] (upd H a (exo a C none)) (fun u H3 => u = .non ∧ Q (.ref a) H3) (fun _ _ _ => False) :=
  ⟨a, v, rfl, upd_same, fun dx hd ne => ⟨rfl, q a dx _ ha (by rw [upd_ne ne] at hd; exact hd)
    (fun b o e => by
      have n1 := ne_of_none e ha
      have n2 : b ≠ dx := fun z => by rw [z] at e; rw [upd_ne ne, e] at hd; cases hd
      rw [upd_ne n1, upd_ne n2, upd_ne n1]; exact e) upd_same (by rw [upd_ne ne, upd_same]) ne⟩⟩
section
variable {X : Cx} {C : Addr} {cls f h : Str} {p pos : Pos} {e e2 : Expr} {te te2 : TE} {apos kp1 kp2 : Pos}
def tOneV (C : Addr) (f : Str) (te : TE) : TE := fun σ H Q => te σ H fun v H1 => NewX C [(f, v)] H1 Q
def tBareV (C : Addr) : TE := fun _ H Q => ∀ (a : Addr) (H' : Hp), H a = none → Same H H' → H' a = some (ExO (.ref C) a) → Q (.ref a) H'
variable {pins : List (Addr × Obj)} {σ : St} {H : Hp} {s : Shared} {Q : VK} {v u : V} {v' u' : Value}
theorem run_one1 (R : One X.prog X.w X.K X.mg X.base C cls f) (hr : Room 2 X.A) (I : Inv X pins σ H s) (r : RelV v v') (q : NewX C [(f, v)] H Q) : wpAny (model X.prog X.w) X.A (call (.ref C) [v'] []) (EP X pins σ Q) X.xe s := by
  obtain ⟨fI, fd, O, F, b1, _⟩ := R.ex
  exact run_mkv (us := [v']) (vs := [v]) (ws := []) (zs := []) O F hr b1 pass0 (by decide) I (.cons r .nil) .nil rfl rfl (q.one)
/-- C(e) -/
theorem pe_one1 (R : One X.prog X.w X.K X.mg X.base C cls f) (hr : Room 2 X.A) (he : PE X e te) (hg : Gl X cls := by rfl) (hdb : (cls == ("__debug__" : Str)) = false := by decide)
    (hs : starEach [e] X.env = (false, eval e X.env) :: starEach [] X.env := by rfl) : PE X (.Call (.Name cls p) [e] [] pos) (tOneV C f te) := by
  refine ⟨fun pins s σ H Q I h => wpAny_Call_Name_kw (ld_glob I hg R.g ?_ hdb)⟩
  refine PySem.W.callWith_K (h₀ := X.base) I.ok.mod.kin (let ⟨_, _, O, _⟩ := R.ex; O.T.kC) ?_ hs (by rfl)
  rw [hs]
  show wpAny _ _ (spliced ((false, eval e X.env) :: backTo pos (starEach [] X.env))) _ _ s
  exact Calls.spliced_cons (thn (he.run pins s σ H _ I h) fun w1 s1 ⟨x, H1, I1, r1, q1⟩ => Calls.spliced_nil ⟨I1.kIn, run_one1 R hr I1 r1 q1⟩)
/-- C() -/
theorem pe_bare (R : Bare X.K X.mg C cls) (hg : Gl X cls := by rfl) (hdb : (cls == ("__debug__" : Str)) = false := by decide) : PE X (.Call (.Name cls p) [] [] pos) (tBareV C) := by
  refine ⟨fun pins s σ H Q I h => wpAny_Call_Name_kw (ld_glob I hg R.g ?_ hdb)⟩
  refine PySem.W.callWith_K0 I.kIn R.kC ?_
  show wpAny _ _ (call (.ref C) []) _ _ _
  obtain ⟨bm, N, nm, qn, bs, hdct, sn, sub, ab, col, dd, k0, k1, k2, k3, k5, mN, hC, hN, hni, T⟩ := exc_obj I.kIn R.q
  obtain ⟨h0, g0, d0, t0, o0⟩ := s
  refine wpAny_call_exc_subT F.excBase_ValueError T hC hN hni (fun h' a hm => ?_) (by show 0 ≤ sizeLine; exact Nat.zero_le _)
  have hn : H a = none := I.hok.gone hm.new
  obtain ⟨t, ht, _, _⟩ := hm.there
  exact ⟨.ref a, upd H a (ExO (.ref C) a), I.laidN hm.keeps hm.new hn (exO_ok ht ⟨rfl, rfl⟩ rfl rfl rfl (show 4 < 6 by decide)), rfl, h a _ hn (Same.new (fun _ _ e => e) hn) upd_same⟩
end
end L2
end
section
set_option maxHeartbeats 4000000
namespace L2
open PySem PySem.Spec PyProof.Rows
section
variable {X : Cx}
/-- an expression that gives a new error with its dict: what is raised -/
theorem pmk_retX {e : Expr} {te : TE} (hx : X.ex = []) (he : PE X e te) :
    PMk X e (fun σ H Q => te σ H fun x H1 => ∃ (a C dx : Addr), x = .ref a ∧ H1 a = some (exo a C (some dx)) ∧ Fr0 X.H_0 a ∧ Raises X (.ref C) ∧ Q (.ref C) (some dx) (delH H1 a)) := by
  intro pins s σ H Q I h
  refine wpAny_mono (he.run pins s σ H _ I h) (fun u s1 got => ?_) fun _ _ z => z
  obtain ⟨v, H1, I1, r1, a, C, dx, rfl, ea, fr, ra, q⟩ := got
  cases (show u = Value.ref a from r1)
  obtain ⟨t1, at_⟩ := exo_at I1.hok ea
  obtain ⟨G, sub, gone, J⟩ := I1.untrack ea fr hx
  exact ⟨a, _, _, { s1 with heap := G }, delH H1 a, .ref C, some dx, rfl, J, sub, gone, at_, ⟨rfl, rfl⟩, rfl, rfl, delH_same, rfl, I1.bare, ra, q⟩
end
/-- how an __init__ with one value is called -/
theorem kb1 {K : PySem.W.Frag} {st : Stmt} {f qual : Str} {fI : Addr} {fd : FuncData} (F : Fun K "__init__" qual st fI fd)
    (h1 : ∀ (kV doc pm : Value) (an : Option Addr) (cdv ct a b : Value), bindArgs (PySem.W.fnOf "__init__" qual (defArgs st) (defBody st) (defScope st) .none kV doc pm an cdv ct) ⟨[a, b], []⟩ = pure [(("self" : Str), a), (f, b)])
    (h2 : ∀ (kV doc pm : Value) (an : Option Addr) (cdv ct a b : Value), bindArgs (PySem.W.fnOf "__init__" qual (defArgs st) (defBody st) (defScope st) .none kV doc pm an cdv ct) ⟨[a], [(f, b)]⟩ = pure [(("self" : Str), a), (f, b)]) :
    KBn K fd ["self", f] 2 [] (fun us _ => us) (fun vs _ => vs) ∧ KBn K fd ["self", f] 1 [f] (fun us ws => us ++ ws) (fun vs zs => vs ++ zs) := by
  obtain ⟨oc, od, kV, doc, pm, an, cdv, ct, osl, rfl, lk, hcd⟩ := F.ex
  refine ⟨⟨fun s us ws X l1 l2 => ?_, fun r _ => r⟩, ⟨fun s us ws X l1 l2 => ?_, fun r rz => r.append rz⟩⟩
  · match us, ws, l1, l2 with
    | [a, b], [], _, _ => exact .of_eq (h1 kV doc pm an cdv ct a b)
  · match us, ws, l1, l2 with
    | [a], [b], _, _ => exact .of_eq (h2 kV doc pm an cdv ct a b)
end L2
end
section
set_option maxHeartbeats 4000000
namespace PySem
namespace OwnB
open PySem.W PySem.Calls PyProof.Rows
section
variable {prog : Program} {w : World} {A : Around} {E : Value → Shared → Prop} {s : Shared} {K : Frag} {x C f g : Addr} {ox : Obj} {od : Option Obj} {T : String} {a : Value} {op : Operator} {Q : Value → Shared → Prop}
end
end OwnB
end PySem
end
section
set_option maxHeartbeats 4000000
namespace PySem
namespace OwnB
open PySem.W PySem.Calls PyProof.Rows
theorem no_ref (C : Addr) : ∀ l : List String, (l.map Value.type).contains (.ref C) = false
  | [] => rfl
  | a :: l => by
    rw [List.map_cons, List.contains_cons, no_ref C l]
    rfl
theorem sub_type {K : Frag} {C : Addr} {T : String} (h : (fastBuiltinMro T).isSome = true) : subIn K (.type T) (.ref C) = some false := by
  show (fastBuiltinMro T).map (·.contains (.ref C)) = some false
  unfold fastBuiltinMro at h ⊢
  cases e : fastFind? T with
  | none => rw [e] at h; cases h
  | some i => rw [Option.map_some, Option.map_some, no_ref]
end OwnB
end PySem
end
section
set_option maxHeartbeats 4000000
namespace L2
open PySem PySem.Spec PyProof.Rows
/-- a class right below object -/
structure Top1 (K : PySem.W.Frag) (C : Addr) : Prop where
  mr : ∃ cd : ClassData, PySem.W.clsIn K C = some cd ∧ cd.mro = [.ref C, .type "object"]
  sf : PySem.W.selfFirst K C = true
theorem Top1.sub {K : PySem.W.Frag} {C : Addr} (t : Top1 K C) (u : Value) : PySem.W.subIn K (.ref C) u = some (([Value.ref C, .type "object"] : List Value).contains u) := by
  obtain ⟨cd, h1, h2⟩ := t.mr
  show PySem.W.mroIn K C u = _
  unfold PySem.W.mroIn
  rw [h1, Option.bind_some, h2]
  rfl
theorem Top1.no {K : PySem.W.Frag} {C : Addr} (t : Top1 K C) {T : String} (h : T ≠ "object") : PySem.W.subIn K (.ref C) (.type T) = some false := by
  rw [t.sub]
  simp [h]
section
variable {X : Cx} {CX : CXT} {k : Nat} {f g C : Addr} {fd : FuncData} {ps : List Str} {sp : Sp} {E : XK} {op : Operator} {pins : List (Addr × Obj)} {σ : St} {H : Hp} {s : Shared}
end
end L2
end
section
set_option maxHeartbeats 4000000
namespace PySem
namespace OwnB
open PySem.W PySem.Calls PyProof.Rows
end OwnB
end PySem
namespace L2
open PySem PySem.Spec PyProof.Rows
section
variable {X : Cx} {CX : CXT} {k : Nat} {f C : Addr} {fd : FuncData} {ps : List Str} {sp : Sp} {E : XK}
end
end L2
end
section
set_option maxHeartbeats 4000000
namespace HX
open PySem PySem.Spec PyProof.Rows L2 He
theorem oexB_ok {K : PySem.W.Frag} {C : Addr} (h : oexB K C = true) : ∃ nm q N bs bm sn sub ab col dd k0 k1 k2 k3 k5, K.lookup C = some (excClassObj nm q C N bs bm true sn sub ab col dd k0 k1 k2 k3 k5 "ValueError.__new__") ∧ PySem.HandSPX.refsVE bm = true := by
  unfold oexB at h
  split at h
  · rename_i y dd cd sl look
    obtain ⟨hy, h⟩ := ba h
    obtain rfl := beq_iff_eq.mp hy
    split at h
    · rename_i C' bm k0 k1 k2 k3 n k5 e1 e2
      obtain ⟨h1, h⟩ := ba h
      obtain ⟨h2, h⟩ := ba h
      obtain ⟨h3, h⟩ := ba h
      obtain ⟨h4, h⟩ := ba h
      obtain ⟨h5, q⟩ := ba h
      obtain rfl := eq_of_beq h2
      obtain rfl := eq_of_beq h3
      obtain ⟨nm, bs, mro, N, qn, hd, sn, sub, ab, col, del⟩ := cd
      obtain ⟨l⟩ := sl
      dsimp only at e1 e2 h4 h5
      subst e1 e2 h5
      cases del
      · exact ⟨nm, qn, N, bs, bm, sn, sub, ab, col, dd, k0, k1, k2, k3, k5, look, q⟩
      · cases h4
    · cases h
  · cases h
theorem eqV_ok {a b : Option Value} (h : eqV a b = true) : a = b := of_decide_eq_true h
theorem eqB_ok {a b : Option Bool} (h : eqB a b = true) : a = b := of_decide_eq_true h
theorem clsXB_ok {K : PySem.W.Frag} {D : Addr} (h : clsXB K D = true) : PySem.ExV.ClsX K D := by
  obtain ⟨h1, h⟩ := ba h
  obtain ⟨h2, h⟩ := ba h
  obtain ⟨h3, h⟩ := ba h
  obtain ⟨h4, h⟩ := ba h
  obtain ⟨h5, h⟩ := ba h
  obtain ⟨h6, h⟩ := ba h
  obtain ⟨h7, h8⟩ := ba h
  exact ⟨eqO_ok h1, eqO_ok h2, eqB_ok h3, h4, eqO_ok h5, eqO_ok h6, eqB_ok h7, eqB_ok h8⟩
structure OneF (K : PySem.W.Frag) (C : Addr) (f : Str) : Prop where
  O : OwnX K C (ma K C "__init__")
  Z : PySem.ExV.ClsX K C
  no : PySem.W.findIn K (.ref C) f = some none
  ty : PySem.W.typeIn K (.ref C) = some (.type "type")
theorem oneB_ok {K : PySem.W.Frag} {C : Addr} {f : Str} (h : oneB K C f = true) : OneF K C f := by
  obtain ⟨h1, h⟩ := ba h
  obtain ⟨h2, h⟩ := ba h
  obtain ⟨h3, h⟩ := ba h
  obtain ⟨h4, h⟩ := ba h
  obtain ⟨h5, h⟩ := ba h
  obtain ⟨h6, h⟩ := ba h
  obtain ⟨h7, h8⟩ := ba h
  have Z := clsXB_ok h8
  exact ⟨⟨⟨oexB_ok h1, eqO_ok h2, Z.su, eqV_ok h3, h4⟩, eqO_ok h5, eqV_ok h6⟩, Z, eqO_ok h7, eqV_ok h3⟩
theorem top1B_ok {K : PySem.W.Frag} {C : Addr} (h : top1B K C = true) : Top1 K C := by
  obtain ⟨h1, h2⟩ := ba h
  cases q : PySem.W.clsIn K C with
  | none => rw [q] at h1; cases h1
  | some cd =>
    rw [q] at h1
    exact ⟨⟨cd, q, of_decide_eq_true h1⟩, h2⟩
theorem tyB_ok {K : PySem.W.Frag} {C : Addr} (h : tyB K C = true) (c : Cls K C) : (∀ (H : Hp) (a dx : Addr) (fs : List (Str × V)), H a = some (.ins C dx fs) → TyX K H (.ref a) (.ref C)) ∧ PySem.W.typeIn K (.ref C) = some (.type "type") := by
  obtain ⟨h1, h⟩ := ba h
  obtain ⟨h2, h⟩ := ba h
  obtain ⟨h3, h⟩ := ba h
  obtain ⟨h4, h5⟩ := ba h
  exact ⟨fun H a dx fs e => .base (.ins e c (eqO_ok h1) (eqO_ok h2) (eqB_ok h3) (eqB_ok h4)), eqV_ok h5⟩
theorem bltB_ok {K : PySem.W.Frag} {h : Heap} {mg : Str → Option Value} {x : Str} {id : String} (X : K.In h) (G : h.Ns mainGlobals mg) (c : bltB K x id = true) : mg x = some (.builtin id) := PySem.W.mg_of X G (eqO_ok c)
/-- a def without defaults -/
theorem funOf {K : PySem.W.Frag} {x qual : Str} {st : Stmt} {f : Addr} {fd : FuncData} (F : FunD K x qual (defArgs st) (defBody st) (defScope st) [] [] f fd) : Fun K x qual st f fd := by
  obtain ⟨oc, od, dV, kV, doc, pm, an, cdv, ct, osl, rfl, lk, hcd, hD, _⟩ := F.ex
  rcases hD with ⟨_, rfl⟩ | ⟨e, _⟩
  · exact ⟨⟨oc, od, kV, doc, pm, an, cdv, ct, osl, rfl, lk, hcd⟩, F.kp⟩
  · exact absurd rfl e
theorem code_of {K : PySem.W.Frag} {x qual : Str} {params : Arguments} {body : List Stmt} {scope : Scope} {dvs : List V} {kws : List (Str × V)} {p : Str × Option Str} {fd : FuncData} (F : FunD K x qual params body scope dvs kws (fAd K p) fd) : fd.code = .ref (codeOf K p) := by
  obtain ⟨oc, od, dV, kV, doc, pm, an, cdv, ct, osl, rfl, lk, hcd, _, _⟩ := F.ex
  obtain ⟨c, rfl⟩ := codeIn_ref hcd
  rw [codeOf_eq lk rfl]
end HX
end
section
set_option maxHeartbeats 4000000
namespace L3
open PySem PySem.Spec PyProof.Rows L2 LamX NdefX
/-- a lambda: its words, its cells -/
structure LW where
  q : Str
  params : Arguments
  body : Expr
  scope : Scope
  cl : List (Str × Addr)
/-- the object at f is the lambda w, its code object at c -/
def LamO (f : Addr) (w : LW) (c : Addr) : HO := .ext fun h => ∃ (od : Option Addr) (sl : Array (Option Value)) (pm ctv : Value), h.get? f = some (⟨.type "function", od, .func (PySem.W.kla_fn "<lambda>" w.q w.params w.body w.scope w.cl pm (.ref c) ctv), sl⟩ : Obj)
theorem lamO_at {P : Program} {w : World} {H : Hp} {h : Heap} {f c : Addr} {l : LW} (hok : HOk P w H h) (e : H f = some (LamO f l c)) :
    ∃ (od : Option Addr) (sl : Array (Option Value)) (pm ctv : Value), h.get? f = some (⟨.type "function", od, .func (PySem.W.kla_fn "<lambda>" l.q l.params l.body l.scope l.cl pm (.ref c) ctv), sl⟩ : Obj) := by
  obtain ⟨z, _, _⟩ := hok f _ e
  exact z
theorem lamO_ne {f c : Addr} {l : LW} (ps : Array Value) : LamO f l c ≠ .tbl ps := fun z => by
  unfold LamO at z
  cases z
section
variable {X : Cx} {pins : List (Addr × Obj)} {σ : L2.St} {H : Hp} {s : Shared}
/-- a lambda's object just laid behind all others is known from now on -/
theorem inv_lam {l : LW} {c : Addr} {t' : Nat} {pm ctv : Value} (I : Inv X pins σ H s) :
    Inv X pins σ (upd H s.heap.objs.size (LamO s.heap.objs.size l c)) { s with heap := s.heap.push (PySem.W.kla_obj "<lambda>" l.q l.params l.body l.scope l.cl pm c ctv), toks := t' } := by
  have got : (s.heap.push (PySem.W.kla_obj "<lambda>" l.q l.params l.body l.scope l.cl pm c ctv)).get? s.heap.objs.size = some (PySem.W.kla_obj "<lambda>" l.q l.params l.body l.scope l.cl pm c ctv) := Heap.get?_push_size _ rfl
  refine I.laid (fun b u e => Heap.get?_push_of_some _ e) (Nat.le_refl _) ⟨⟨_, _, pm, ctv, got⟩, ⟨_, got⟩, ?_⟩
  rintro h1 h2 ⟨od, sl, p, t, z⟩ st
  exact ⟨od, sl, p, t, st _ z⟩
/-- the lambda is made, and tracked -/
theorem lam_new {T : List (Addr × Str)} {c P : Addr} {params : Arguments} {body : Expr} {scope : Scope} {pos : Pos} {E : Value → Shared → Prop} {Q : Value → Shared → Prop} (I : Inv X pins σ H s) (TB : TabB X.base X.mg c P) (hcode : X.env.code = .ref c)
    (hm : (P, X.env.qual ++ "<lambda>") ∈ T) (hu : ∀ p ∈ T, p.1 = P → p.2 = X.env.qual ++ "<lambda>") (hT : Tabs T H) (hdef : defaultsOf params X.env = ([], [])) (hfree : ∀ y ∈ scope.names, y.2 = .free → ∃ c, X.env.cells.lookup y.1 = some c)
    (h : ∀ (f c' : Addr) (H1 : Hp) (s' : Shared), Inv X pins σ H1 s' → ExtN H H1 → (∀ b, H1 b = Option.none → H b = Option.none) → Tabs T H1 → H f = Option.none →
      H1 f = some (LamO f ⟨X.env.qual ++ "<lambda>", params, body, scope, cloFrom X.env.cells scope.names []⟩ c') → H1 c' = some (CodeO c' (X.env.qual ++ "<lambda>")) → Q (.ref f) s') :
    wpAny (model X.prog X.w) X.A (eval (.Lambda params body scope pos) X.env) Q E s := by
  obtain ⟨ps, hP, ht, ha⟩ := hT _ hm
  have bP := TB.bm.keeps I.bk
  have oP : s.heap.get? P = some { cls := .none, data := .fields ps } := I.hok P _ hP
  refine PySem.W.kla_eval hdef ?_
  cases hc : codeAmong pos ps.toList with
  | some cv =>
    obtain ⟨c', e, hco⟩ := ha pos cv hc
    subst e
    refine PySem.W.kla_makeFunctionHit (mg := X.mg) (c := c) (P := P) (ps := ps) (closure_ok hfree) I.ok.glob (I.mod.glob.keeps I.bk) hcode (TB.code.keeps I.bk) oP ht hc bP fun ctv h' tk hx hsz => ?_
    have I1 : Inv X pins σ H { s with heap := h', toks := tk } := I.kept hx
    have nF := I1.hok.fresh (Nat.le_refl _)
    have I2 := inv_lam (t' := tk) (l := ⟨X.env.qual ++ "<lambda>", params, body, scope, cloFrom X.env.cells scope.names []⟩) (c := c') (pm := (X.mg "__name__").getD .none) (ctv := ctv) I1
    exact h _ c' _ _ I2 (fun b o e n => (upd_ne (ne_of_none e nF)).trans e) (fun b e => upd_none e) (hT.ext fun b o e => (upd_ne (ne_of_none e nF)).trans e) nF upd_same ((upd_ne (ne_of_none hco nF)).trans hco)
  | none =>
    refine PySem.W.kla_makeFunction (mg := X.mg) (c := c) (P := P) (ps := ps) (closure_ok hfree) I.ok.glob (I.mod.glob.keeps I.bk) hcode (TB.code.keeps I.bk) oP ht hc TB.gP bP fun c' ctv h' tk hx hge hlt hrec htb => ?_
    obtain ⟨c2, oc, vs, t, e2, hoc, hd, hv⟩ := hrec
    cases e2
    have nC : H c' = Option.none := I.hok.fresh hge
    have I1 := inv_table (t' := tk) (more := #[rawInt pos.line, rawInt pos.col, .ref c']) (h' := h') I hP (fun b o hb e => hx b o hb e) htb hge ⟨oc, vs, t, hoc, hd, hv⟩
    have eL : (ps ++ #[rawInt pos.line, rawInt pos.col, .ref c']).toList = ps.toList ++ [rawInt pos.line, rawInt pos.col, .ref c'] := by simp
    have kE : ExtN H (upd (upd H P (.tbl (ps ++ #[rawInt pos.line, rawInt pos.col, .ref c']))) c' (CodeO c' (X.env.qual ++ "<lambda>"))) := fun b o e n => by
      have n1 : b ≠ P := fun z => by
        rw [z, hP] at e
        exact n ps (Option.some.inj e).symm
      rw [upd_ne (ne_of_none e nC), upd_ne n1]
      exact e
    have tC : upd (upd H P (.tbl (ps ++ #[rawInt pos.line, rawInt pos.col, .ref c']))) c' (CodeO c' (X.env.qual ++ "<lambda>")) c' = some (CodeO c' (X.env.qual ++ "<lambda>")) := upd_same
    have T1 : Tabs T (upd (upd H P (.tbl (ps ++ #[rawInt pos.line, rawInt pos.col, .ref c']))) c' (CodeO c' (X.env.qual ++ "<lambda>"))) := fun p hp => by
      by_cases hb : p.1 = P
      · rw [hu p hp hb, hb]
        refine ⟨ps ++ #[rawInt pos.line, rawInt pos.col, .ref c'], (upd_ne (ne_of_none hP nC)).trans upd_same, by rw [eL]; exact PySem.TriplesOk_snoc _ _ _ _ ht, fun p' cv hcv => ?_⟩
        rw [eL] at hcv
        rcases among_app _ ht hcv with z | z
        · obtain ⟨c0, e1, e2⟩ := ha p' cv z
          exact ⟨c0, e1, kE _ _ e2 codeO_ne⟩
        · exact ⟨c', z, tC⟩
      · obtain ⟨qs, a1, a2, a3⟩ := hT p hp
        refine ⟨qs, ?_, a2, fun p' cv hcv => ?_⟩
        · rw [upd_ne (ne_of_none a1 nC), upd_ne hb]
          exact a1
        · obtain ⟨c0, e1, e2⟩ := a3 p' cv hcv
          exact ⟨c0, e1, kE _ _ e2 codeO_ne⟩
    have nF := I1.hok.fresh (Nat.le_refl _)
    have I2 := inv_lam (t' := tk) (l := ⟨X.env.qual ++ "<lambda>", params, body, scope, cloFrom X.env.cells scope.names []⟩) (c := c') (pm := (X.mg "__name__").getD .none) (ctv := ctv) I1
    exact h _ c' _ _ I2 (fun b o e n => (upd_ne (ne_of_none (kE b o e n) nF)).trans (kE b o e n)) (fun b e => upd_none (upd_none (upd_none e))) (T1.ext fun b o e => (upd_ne (ne_of_none e nF)).trans e)
      (I.hok.fresh (Nat.le_trans hge (Nat.le_of_lt hlt))) upd_same ((upd_ne (Nat.ne_of_lt hlt)).trans tC)
end
/-- lambda: body, as a value -/
def tLamV (T : List (Addr × Str)) (l : LW) : TE := fun _ H Q => Tabs T H ∧ ∀ (f c' : Addr) (H1 : Hp), ExtN H H1 → (∀ b, H1 b = Option.none → H b = Option.none) → Tabs T H1 → H f = Option.none → H1 f = some (LamO f l c') → H1 c' = some (CodeO c' l.q) → Q (.ref f) H1
theorem pe_lam {X : Cx} {T : List (Addr × Str)} {c P : Addr} {params : Arguments} {body : Expr} {scope : Scope} {pos : Pos} (TB : TabB X.base X.mg c P) (hcode : X.env.code = .ref c) (hm : (P, X.env.qual ++ "<lambda>") ∈ T) (hu : ∀ p ∈ T, p.1 = P → p.2 = X.env.qual ++ "<lambda>")
    (L : LamS X.env.scope scope) (hdef : defaultsOf params X.env = ([], []) := by rfl) : PE X (.Lambda params body scope pos) (tLamV T ⟨X.env.qual ++ "<lambda>", params, body, scope, cloFrom X.env.cells scope.names []⟩) := by
  refine ⟨fun pins s σ H Q I h => ?_⟩
  obtain ⟨hT, h⟩ := h
  exact lam_new I TB hcode hm hu hT hdef (L.has I.ok) fun f c' H1 s' I1 eN nn T1 f0 f1 c1 => ⟨.ref f, H1, I1, rfl, h f c' H1 eN nn T1 f0 f1 c1⟩
end L3
end
section
set_option maxHeartbeats 4000000
namespace L3
open PySem PySem.Spec PyProof.Rows L2 LamX NdefX
/-- from one look to a later one, and from there on under frames that did not stand at the first -/
theorem un_then {fs fs' ex : List Addr} {H H1 H2 : Hp} {h h1 h2 : Heap} (a : Un fs ex H H1 h h1) (b : Un fs' [] H1 H2 h1 h2) (c : ∀ x ∈ fs', x ∈ fs ∨ h.get? x = none) : Un fs ex H H2 h h2 where
  keep x o e n hf hx := by
    refine b.keep x o (a.keep x o e n hf hx) (a.free x o e n hx) (fun z => ?_) (by simp)
    rcases c x z with k | k
    · exact hf k
    · rw [k] at e
      cases e
  slot x o e n hf hx := by
    obtain ⟨sl, e1⟩ := a.slot x o e n hf hx
    obtain ⟨sl2, e2⟩ := b.any e1 (a.free x o e n hx) (by simp)
    exact ⟨sl2, e2⟩
  free x o e n hx := by
    obtain ⟨o1, e1⟩ := a.there x o e hx
    exact b.free x o1 e1 (a.free x o e n hx) (by simp)
  there x o e hx := by
    obtain ⟨o1, e1⟩ := a.there x o e hx
    exact b.there x o1 e1 (by simp)
  tups x xs e := b.tups x xs (a.tups x xs e)
  frzs x o u e := b.frzs x o u (a.frzs x o u e)
  tbls x ps e := by
    obtain ⟨m1, e1⟩ := a.tbls x ps e
    obtain ⟨m2, e2⟩ := b.tbls x _ e1
    exact ⟨m1 ++ m2, by rw [e2, Array.append_assoc]⟩
/-- the frame of X stands with σ in its names, as it stood when the callee was entered -/
def Rd (X : Cx) (σ : L2.St) (outer : List Env) (s1 : Shared) (HZ : Hp) : Prop := ∃ (pins : List (Addr × Obj)) (s : Shared) (H : Hp) (ex : List Addr), Inv X pins σ H s ∧ Un (frs X.stack) ex H HZ s.heap s1.heap ∧ s.heap.objs.size ≤ s1.heap.objs.size ∧
  (∀ x c, X.env.cells.lookup x = some c → c ∉ ex) ∧ ∀ b ∈ frs outer, b ∈ frs X.stack ∨ s.heap.get? b = none
/-- within a def that was entered so -/
theorem Rd.down {X : Cx} {σ σZ : L2.St} {CXg : CXT} {N : List Str} {qual : Str} {sc : Scope} {g : Addr} {cd : Value} {A : Around} {outer : List Env} {s1 s2 : Shared} {H1 H2 : Hp} {E : XK} {pn pinsZ : List (Addr × Obj)} {xe : Value → Shared → Prop}
    (r : Rd X σ outer s1 H1) (I : Inv ((cxOf CXg X.prog X.w X.K X.mg X.base N qual sc g cd A outer s1 H1 E).tr pn xe) pinsZ σZ H2 s2) : Rd X σ (envOfC qual sc s1.heap.objs.size g cd :: outer) s2 H2 := by
  obtain ⟨pins, s, H, ex, J, un, hz, hc, ho⟩ := r
  have z2 : s1.heap.objs.size ≤ s2.heap.objs.size := I.sz
  have base : Un (frs outer) [] H1 H2 s1.heap s2.heap := I.base
  refine ⟨pins, s, H, ex, J, un_then un base ho, Nat.le_trans hz z2, hc, fun b hb => ?_⟩
  have hb2 : b = s1.heap.objs.size ∨ b ∈ frs outer := by
    have z : b ∈ s1.heap.objs.size :: frs outer := hb
    exact List.mem_cons.mp z
  rcases hb2 with rfl | hb2
  · refine .inr ?_
    cases e : s.heap.get? s1.heap.objs.size with
    | none => rfl
    | some o =>
      exact absurd (Nat.lt_of_lt_of_le (Heap.lt_size e) hz) (Nat.lt_irrefl _)
  · exact ho b hb2
/-- a def's promise, where R holds of the frames and the state at its call -/
def FnRd (P : Program) (w : World) (K : PySem.W.Frag) (mg : Str → Option Value) (base : Heap) (CX : CXT) (k : Nat) (f : Addr) (R : List Env → Shared → Hp → Prop) (sp : Sp) : Prop :=
  ∀ (A : Around) (outer : List Env) (s : Shared) (H : Hp) (us : List Value) (vs : List V) (Q : VK) (E : XK), Room k A → Env0 P w K mg base A outer s H → Vals vs us → R outer s H → sp vs H Q E →
    codeAny (model P w) A (.call (.ref f) ⟨us, []⟩) (CR CX outer P w H s Q E) s
/-- .. of a def: its body, read from the state at its entry -/
theorem fn_rd {P : Program} {w : World} {K : PySem.W.Frag} {mg : Str → Option Value} {base : Heap} {CX : CXT} {x qual : Str} {st : Stmt} {f : Addr} {fd : FuncData} {N ps : List Str} {k : Nat} {R : List Env → Shared → Hp → Prop} {sp : Sp} (F : Fun K x qual st f fd) (S : FnScope N ps (defScope st)) (hb : L2.Binds K fd ps [])
    (len : ∀ vs H Q E, sp vs H Q E → vs.length = ps.length)
    (hbody : ∀ (cdv : Value) (A : Around) (outer : List Env) (s : Shared) (H : Hp) (vs : List V) (Q : VK) (E : XK), Room k (A.deeper (envOfC qual (defScope st) s.heap.objs.size f cdv)) → R outer s H → sp vs H Q E →
      ∃ t, PSs (cxOf CX P w K mg base N qual (defScope st) f cdv A outer s H E) (defBody st) t ∧ t { nx := fun _ H' => Q .non H', rt := Q } (L2.start N vs) H) : FnRd P w K mg base CX (k + 1) f R sp := by
  obtain ⟨oc, od, kV, doc, pm, an, cdv, ct, osl, rfl, lk, hcd⟩ := F.ex
  intro A outer s H us vs Q E hr e0 r hR hs
  have hl : vs.length = ps.length := len _ _ _ _ hs
  have KX : K.In s.heap := e0.mod.kin.keeps fun b o e => (e0.bs b o e).1
  have hbind := hb s us KX (by rw [List.append_nil, ← r.length]; exact hl)
  rw [List.append_nil] at hbind
  exact run_ofS lk hcd S hr e0 hbind r hl fun hr' => hbody cdv A outer s H vs Q E hr' hR hs
section
variable {X : Cx} {CX : CXT} {k : Nat} {f : Addr} {R : List Env → Shared → Hp → Prop} {sp : Sp} {E : L2.St → XK} {x : Str} {p pos : Pos} {e : Expr} {es : List Expr} {t : TA}
/-- its call, from where R is known of every state -/
theorem pe_callRd (G : FnRd X.prog X.w X.K X.mg X.base CX k f R sp) (hr : Room k X.A) (hg : Gl X x) (hm : X.mg x = some (.ref f)) (hk : PySem.W.keepIn X.K (.ref f) = true) (hR : ∀ (pins : List (Addr × Obj)) (s : Shared) (σ : L2.St) (H : Hp), Inv X pins σ H s → R X.stack s H)
    (hx : ∀ σ, PassesAt CX X σ (E σ)) (ha : PA X (e :: es) t) (hdb : (x == ("__debug__" : Str)) = false := by decide) (he : starEach (e :: es) X.env = (false, eval e X.env) :: starEach es X.env := by rfl) (hpl : (backTo pos (starEach es X.env)).any (·.1) = false := by rfl) :
    PE X (.Call (.Name x p) (e :: es) [] pos) (tCallS sp E t) := by
  refine ⟨fun pins s σ H Q I h => wpAny_Call_Name_kw (ld_glob I hg hm ?_ hdb)⟩
  refine PySem.W.callWith_K (h₀ := X.base) I.ok.mod.kin hk (thn (ha.run pos pins s σ H _ I h) fun us s1 ⟨vs, H1, I1, r, q⟩ => ⟨I1.kIn, ?_⟩) he hpl
  refine wpAny_call (codeAny_mono (G X.A X.stack s1 H1 us vs Q (E σ) hr I1.env0 r (hR _ _ _ _ I1) q) fun r s' hq => ?_)
  cases r with
  | error e => exact hx σ pins H1 s1 e s' I1 hq
  | ok fl =>
    cases fl with
    | ret u => exact I1.after hq
    | next => exact False.elim hq
    | brk => exact False.elim hq
    | cont => exact False.elim hq
end
end L3
end
section
set_option maxHeartbeats 4000000
namespace L3
open PySem PySem.Spec PyProof.Rows L2 LamX NdefX
/-- the lambda's body is entered, its maker's frame standing as Rd says -/
theorem lam_enter {X : Cx} {σ : L2.St} {HZ : Hp} {s1 : Shared} {A : Around} {outer : List Env} {E : XK} {scope : Scope} {f c' : Addr} {h₁ : Heap} {tk : Nat} (r : Rd X σ outer s1 HZ) (L : LamS X.env.scope scope) (e0 : Env0 X.prog X.w X.K X.mg X.base A outer s1 HZ) (hd : A.handled = none)
    (hns : h₁.Ns s1.heap.objs.size fun y => ([] : List (Str × Value)).reverse.lookup y) (kp : ∀ b o, s1.heap.get? b = some o → h₁.get? b = some o) :
    Inv (lamCx X A outer s1 HZ E scope f c') [] σ HZ { s1 with heap := h₁, toks := tk } := by
  obtain ⟨pins, s, H, ex, I, un, _, hc, _⟩ := r
  have from_ : ∀ {y c}, (cloFrom X.env.cells scope.names []).lookup y = some c → X.env.cells.lookup y = some c ∧ scope.names.lookup y = scope.names.lookup y := fun {y c} e => by
    rcases cloFrom_mem (PySem.mem_of_lookup e) with hm | ⟨h1, h2⟩
    · cases hm
    · obtain ⟨c1, h3⟩ := L.has I.ok _ h1 rfl
      have h3 : X.env.cells.lookup y = some c1 := h3
      have e2 : c = c1 := by rw [h2, h3] <;> rfl
      exact ⟨by rw [h3, e2], rfl⟩
  have there : ∀ {y}, scope.names.lookup y = some .free → ∃ c, (cloFrom X.env.cells scope.names []).lookup y = some c := fun {y} hl => mem_lookup (cloFrom_has (cells := X.env.cells) (acc := []) (PySem.mem_of_lookup hl))
  have cellK : ∀ {y : Str} {c : Addr} {v : Option Value}, X.env.cells.lookup y = some c → s.heap.IsCell c v → HZ c = none ∧ h₁.IsCell c v := fun {y c v} e ⟨o, ho, hv⟩ => by
    have n := I.freeC y c e
    obtain ⟨sl, q⟩ := un.any ho n (hc y c e)
    exact ⟨un.free c o ho n (hc y c e), _, kp _ _ q, hv⟩
  exact {
    ok := {
      mod := e0.mod
      kind := L.kind
      glob := rfl
      blt := rfl
      above := Nat.le_refl _
      inj := fun y z c e1 e2 => I.ok.inj y z c (from_ e1).1 (from_ e2).1
      has := fun y hy => by
        rcases (show scope.names.lookup y = some .cell ∨ scope.names.lookup y = some .free from hy) with k | k
        · exact absurd rfl (L.own _ (PySem.mem_of_lookup k)).2
        · exact there k
      cab := fun y c z _ => by
        have z : false = true := z
        cases z
      hd := fun _ => hd
      frames := Around.frames_deeper e0.frames
      stk := .inr ⟨rfl, rfl⟩
      exf := fun b z => absurd (show b ∈ ([] : List Addr) from z) (by simp)
      bs := e0.bs
      bsz := e0.bsz
      noex := fun b _ _ z => absurd (show b ∈ ([] : List Addr) from z) (by simp)
      exfs := fun b z => absurd (show b ∈ ([] : List Addr) from z) (by simp)
      funs := e0.funs
      frf := e0.frf }
    os := rfl
    bare := e0.bare
    base := Un.kept kp
    loc := by
      refine ⟨_, hns, fun i y v e1 e2 e3 => ?_⟩
      rcases (show Vis scope y from e3) with k | k | k
      · exact absurd rfl (L.own _ (PySem.mem_of_lookup k)).1
      · exact absurd rfl (L.own _ (PySem.mem_of_lookup k)).2
      · obtain ⟨m, _, hl⟩ := I.loc
        have fr := L.free _ (PySem.mem_of_lookup k) rfl
        have vis : Vis X.env.scope y := fr.elim (fun q => .inr (.inl q)) fun q => .inr (.inr q)
        obtain ⟨u, ru, q⟩ := hl i y v e1 e2 vis
        obtain ⟨c2, h2⟩ := there k
        have h3 := (from_ h2).1
        refine ⟨u, ru, .inr ⟨.inr k, c2, h2, ?_⟩⟩
        rcases q with ⟨k', _⟩ | ⟨_, c3, h4, z⟩
        · have k' : X.env.scope.names.lookup y = some .local := k'
          rcases fr with w | w
          · rw [show X.env.scope.names.lookup y = some .cell from w] at k'
            cases k'
          · rw [show X.env.scope.names.lookup y = some .free from w] at k'
            cases k'
        · rw [h3] at h4
          cases h4
          exact (cellK h3 z).2
    cell := fun y c e => by
      obtain ⟨v, z⟩ := I.cell y c (from_ e).1
      exact ⟨v, (cellK (from_ e).1 z).2⟩
    free := e0.hok.fresh (Nat.le_refl _)
    freeC := fun y c e => by
      obtain ⟨v, z⟩ := I.cell y c (from_ e).1
      exact (cellK (from_ e).1 z).1
    pin := fun q hq => absurd (show q ∈ ([] : List (Addr × Obj)) ++ [] from hq) (by simp)
    hok := e0.hok.kept kp
    len := I.len }
end L3
end
section
set_option maxHeartbeats 4000000
namespace L3
open PySem PySem.Spec PyProof.Rows L2 LamX NdefX
/-- the words of a lambda of X -/
abbrev lwOf (X : Cx) (params : Arguments) (body : Expr) (scope : Scope) : LW := ⟨X.env.qual ++ "<lambda>", params, body, scope, cloFrom X.env.cells scope.names []⟩
/-- a(), a holding a lambda of X, in a def that was entered while X stood -/
theorem pe_deed {X : Cx} {σ : L2.St} {CXg : CXT} {Ng : List Str} {qg : Str} {sg : Scope} {g : Addr} {cdg : Value} {A : Around} {outer : List Env} {s1 : Shared} {H1 : Hp} {Eg : XK} {pn : List (Addr × Obj)} {xe : Value → Shared → Prop} {E : L2.St → XK} {k i : Nat} {a : Str}
    {params : Arguments} {body : Expr} {scope : Scope} {t : XK → TE} {p1 p2 : Pos} (rd : Rd X σ outer s1 H1) (L : LamS X.env.scope scope)
    (hbind : ∀ (q : Str) (cl : List (Str × Addr)) (pm cv ctv : Value), bindArgs (PySem.W.kla_fn "<lambda>" q params body scope cl pm cv ctv) ⟨[], []⟩ = pure [])
    (hr : Room (k + 1) (A.deeper (envOfC qg sg s1.heap.objs.size g cdg))) (hx : ∀ σZ, PassesAt (L2.CX X.prog X.w) ((cxOf CXg X.prog X.w X.K X.mg X.base Ng qg sg g cdg A outer s1 H1 Eg).tr pn xe) σZ (E σZ))
    (hbody : ∀ (A : Around) (outer : List Env) (s : Shared) (H : Hp) (E : XK) (f c' : Addr), Room k (A.deeper (lamEnv X scope s.heap.objs.size f c')) → PE (lamCx X A outer s H E scope f c') body (t E))
    (hN : Ng[i]? = some a) (hv : Vis sg a) (hd : (a == ("__debug__" : Str)) = false := by decide) (hcd : (a == ("__classdict__" : Str)) = false := by decide) :
    PE ((cxOf CXg X.prog X.w X.K X.mg X.base Ng qg sg g cdg A outer s1 H1 Eg).tr pn xe) (.Call (.Name a p1) [] [] p2)
      (fun σZ HZ Q => ∃ f c' : Addr, σZ[i]? = some (some (.ref f)) ∧ HZ f = some (LamO f (lwOf X params body scope) c') ∧ HZ c' = some (CodeO c' (X.env.qual ++ "<lambda>")) ∧ t (E σZ) σ HZ Q) := by
  refine ⟨fun pinsZ sZ σZ HZ Q IZ h => ?_⟩
  obtain ⟨f, c', hs, hf, hc, ht⟩ := h
  refine wpAny_Call_Name_kw (thn ((pe_var (pos := p1) (i := i) hN hv hd hcd).run pinsZ sZ σZ HZ (fun v H2 => v = .ref f ∧ H2 = HZ) IZ ⟨.ref f, hs, rfl, rfl⟩) fun u s2 got => ?_)
  obtain ⟨v, H2, I2, r2, ev, eH⟩ := got
  subst ev
  rw [eH] at I2
  obtain rfl : u = Value.ref f := r2
  obtain ⟨od, sl, pm, ctv, of1⟩ := lamO_at I2.hok hf
  refine PySem.W.callWith_F0 ⟨_, _, _, _, of1⟩ ?_
  have rd2 := rd.down I2
  have code : codeAny (model X.prog X.w) (A.deeper (envOfC qg sg s1.heap.objs.size g cdg)) (.call (.ref f) ⟨[], []⟩) (CR (L2.CX X.prog X.w) (envOfC qg sg s1.heap.objs.size g cdg :: outer) X.prog X.w HZ s2 Q (E σZ)) s2 := by
    refine PySem.W.kla_callFunE hr.depth of1 rfl L.co L.gen rfl (codeO_at I2.hok hc) ?_
    rw [hbind]
    refine wpAny_pure (wpAny_newFunctionEnv (fun y hy => (L.own y hy).2) (fun y hy => absurd hy (by simp)) (fun h₁ hns hsb => ⟨I2.nolimit.fresh _ hsb, ?_⟩) L.kind)
    have kp : ∀ b o, s2.heap.get? b = some o → h₁.get? b = some o := fun b o e => hsb.extBut b o (Nat.ne_of_lt (Heap.lt_size e)) (Heap.get?_push_of_some _ e)
    have J := lam_enter (E := E σZ) (f := f) (c' := c') (tk := s2.toks + ([] : List (Str × Value)).length) rd2 L I2.env0 hr.hd hns kp
    show codeAny _ _ (.expr body (lamEnv X scope s2.heap.objs.size f c')) _ _
    refine PySem.W.kla_codeExpr (wpAny_mono ((hbody _ _ s2 HZ _ f c' (hr.deeper _)).run [] _ _ HZ Q J ht) (fun v s' hq => ?_) fun e s' hq => hq)
    obtain ⟨w', H', J', rv, q⟩ := hq
    exact ⟨w', H', J'.os, J'.bare, J'.base, J'.hok, rv, q⟩
  refine wpAny_call (codeAny_mono code fun r s' hq => ?_)
  cases r with
  | error e => exact hx σZ pinsZ HZ s2 e s' I2 hq
  | ok fl =>
    cases fl with
    | ret u => exact I2.after hq
    | next => exact False.elim hq
    | brk => exact False.elim hq
    | cont => exact False.elim hq
end L3
end
section
set_option maxHeartbeats 4000000
namespace L3
open PySem PySem.Spec PyProof.Rows L2 LamX NdefX
/-- within a comprehension's block the maker's frame stands -/
theorem Rd.block {X : Cx} {σ σ' : L2.St} {pins pins' : List (Addr × Obj)} {s s' : Shared} {H H' : Hp} {scope : Scope} {fp : List Addr} {cl : List (Str × Addr)} {pn : List (Addr × Obj)} {xe : Value → Shared → Prop} (I : Inv X pins σ H s) (hc : ∀ x c, X.env.cells.lookup x = some c → c ∉ fp)
    (J : Inv ((X.blk s H scope (compEnvC scope cl s.heap.objs.size X.env) fp)) pins' σ' H' s') : Rd X σ (X.blk s H scope (compEnvC scope cl s.heap.objs.size X.env) fp).stack s' H' := by
  refine ⟨pins, s, H, fp, I, J.base, J.sz, hc, fun b hb => ?_⟩
  rcases List.mem_cons.mp (J.stkSub b hb) with z | z
  · have z : b = s.heap.objs.size := z
    exact .inr (Heap.get?_none_of_le (Nat.le_of_eq z.symm))
  · exact .inl z
section
variable {X : Cx} {elt tg iter : Expr} {ifs : List Expr} {scope : Scope} {own : List (Str × Nat)} {wi : TI} {g : TG} {tt : TT} {te : L2.St → TE}
/-- what the item's rule may use: the maker's state at the block's start -/
def ItemS (X : Cx) (scope : Scope) (elt : Expr) (te : L2.St → TE) : Prop := ∀ (pins : List (Addr × Obj)) (σ : L2.St) (s : Shared) (H : Hp) (cl : List (Str × Addr)) (fp : List Addr), Inv X pins σ H s → (∀ x c, X.env.cells.lookup x = some c → c ∉ fp) →
  PE (X.blk s H scope (compEnvC scope cl s.heap.objs.size X.env) fp) elt (te σ)
/-- the turns of such a block, from its first state on -/
theorem turns_of {σ : L2.St} {sA sB : Shared} {HA : Hp} {Q : VK} {pos : Pos} {ce : Env} {fp : List Addr} {D it : Addr} {tn : Nat → Heap → Prop} {J : It} {W : Nat → Nat → Hp → Prop} {m0 : Nat} {R : Result → Shared → Prop}
    (hc : X.calm = true) (T : Turn X.prog X.w X.K tg J fp it tn) (pg : PG (X.blk sA HA scope ce fp) tg g) (pt : PTs (X.blk sA HA scope ce fp) ifs tt) (pe : PE (X.blk sA HA scope ce fp) elt (te σ)) (start : Inv (X.blk sA HA scope ce fp) [] (wipe σ (own.map (·.2))) HA sB) (st : tn 0 sB.heap) (nf : ∀ b ∈ fp, HA b = none) (w0 : W 0 m0 HA)
    (turn : ∀ i m H, W i m H → (J.stop i H ∧ Q (.ref D) H) ∨ (J.go i H ∧ ∃ Nx : Hp → Prop, (∀ H', Nx H' → ∃ m', m' < m ∧ W (i + 1) m' H') ∧ ∀ x H', J.yld i H x H' → g x (wipe σ (own.map (·.2))) H' fun σ2 H2 => wipe σ2 (own.map (·.2)) = wipe σ (own.map (·.2)) ∧ tt σ2 H2 fun b H3 =>
      if b = true then te σ σ2 H3 fun y H4 => ∃ acc, H4 D = some (.lst acc) ∧ acc.length < sizeLine ∧ Nx (upd H4 D (.lst (acc ++ [y]))) else Nx H3))
    (fin : ∀ {σ' : L2.St} {s' : Shared} {H' : Hp}, Inv (X.blk sA HA scope ce fp) [] σ' H' s' → Q (.ref D) H' → R (.ok .next) s') :
    codeAny (model X.prog X.w) X.A (.compLoop (.ListComp elt [⟨tg, iter, ifs, 0⟩] scope pos) 0 (.ref it) (.ref D) ce) R sB := by
  have loose : ∀ {σ' : L2.St} {H' : Hp} {s' : Shared}, Inv (X.blk sA HA scope ce fp) [] σ' H' s' → (∀ b ∈ fp, H' b = none) → ∀ b ∈ fp, FpOk (X.blk sA HA scope ce fp) [] H' b := by
    intro σ' H' s' V none_ b hb
    have no_pins : ∀ q ∈ ([] : List (Addr × Obj)) ++ [], q.1 ≠ b := fun q hq => by simp at hq
    exact ⟨none_ b hb, (V.ok.exf b hb).1, V.ok.exfs b hb, .inl hb, fun x c e => (V.ok.exf b hb).2 x c e, fun q hq => no_pins q hq⟩
  refine compLoop_any (fun k sC => ∃ j HC, Inv (X.blk sA HA scope ce fp) [] (wipe σ (own.map (·.2))) HC sC ∧ tn j sC.heap ∧ (∀ b ∈ fp, HC b = none) ∧ W j k HC) ?_ m0 ⟨0, HA, start, st, nf, w0⟩
  intro k sC hC
  obtain ⟨j, HC, VC, tC, nC, wC⟩ := hC
  rcases turn j k HC wC with ⟨ends, q⟩ | ⟨goes, Nx, next, step⟩
  · refine thnF (T.done (X.blk sA HA scope ce fp) rfl rfl rfl hc j [] sC _ HC (fun _ _ => False) VC (loose VC nC) tC ends) ?_
    rintro r sD ⟨rfl, VD⟩
    exact fin VD q
  · refine thnF (T.item (X.blk sA HA scope ce fp) rfl rfl rfl hc j [] sC _ HC (fun _ _ => False) VC (loose VC nC) tC goes) ?_
    rintro r sD ⟨u, rfl, told⟩
    refine thnF told ?_
    rintro - sE ⟨x, HE, VE, rE, yE, tE, nE⟩
    refine thnF (pg.run _ sE _ HE x u _ (VE.pinned (loose VE nE) (T.obj _ _ tE)) rE (step x HE yE)) ?_
    rintro - sF ⟨σF, HF, VF, wF, qF⟩
    refine thnF (pt.run _ sF σF HF _ VF qF) ?_
    rintro ok sG ⟨HG, VG, qG⟩
    have back_ : ∀ {sZ : Shared} {HZ : Hp}, Inv (X.blk sA HA scope ce fp) ([] ++ pinsAt fp sE.heap) σF HZ sZ → Nx HZ → ∃ k', k' < k ∧ ∃ j HC, Inv (X.blk sA HA scope ce fp) [] (wipe σ (own.map (·.2))) HC sZ ∧ tn j sZ.heap ∧ (∀ b ∈ fp, HC b = none) ∧ W j k' HC := by
      intro sZ HZ VZ nx
      obtain ⟨k', less, wZ⟩ := next HZ nx
      have held_ : ∀ b ∈ fp, ∀ o, sE.heap.get? b = some o → sZ.heap.get? b = some o ∧ HZ b = none := by
        intro b hb o e
        have z := VZ.pin (b, o) (List.mem_append_right _ (List.mem_append_right _ (mem_pinsAt hb e)))
        exact ⟨z.1, z.2.1⟩
      refine ⟨k', less, j + 1, HZ, (VZ.unpinned (pins := [])).weak (by rw [← wF, wipe_length]) (fun i v e => ?_), T.keep _ _ _ tE fun b hb o e => (held_ b hb o e).1, fun b hb => ?_, wZ⟩
      · rw [← wF] at e
        exact (wipe_some e).1
      · obtain ⟨o, e, _⟩ := T.obj _ _ tE b hb
        exact (held_ b hb o e).2
    cases ok
    · simp only [Bool.false_eq_true, if_false] at qG ⊢
      exact back_ VG qG
    · simp only [if_true] at qG ⊢
      refine thnF (pe.run _ sG σF HG _ VG qG) ?_
      rintro z sH ⟨yv, HH, VH, rH, acc, eD, few, nx⟩
      exact app_ok (X := X.blk sA HA scope ce fp) VH eD few rH fun sI VI => back_ VI nx
/-- a list comprehension whose item may call what captures the maker's names -/
theorem pe_lcS {pos : Pos} (hc : X.calm = true) (hN : X.N.Nodup) (hi : PI X tg iter wi) (ok : BlkOk X.N X.env.scope scope own)
    (hg : ∀ (s : Shared) (H : Hp) (C : Addr) (cl : List (Str × Addr)) (fp : List Addr), PG (X.blk s H scope (compEnvC scope cl C X.env) fp) tg g) (ht : ∀ (s : Shared) (H : Hp) (C : Addr) (cl : List (Str × Addr)) (fp : List Addr), PTs (X.blk s H scope (compEnvC scope cl C X.env) fp) ifs tt)
    (he : ItemS X scope elt te) (hs : ∀ x, foldedSetIterable iter X.env x = pure x := by intro _; rfl) :
    PE X (.ListComp elt [⟨tg, iter, ifs, 0⟩] scope pos) (fun σ H Q => tLc wi g tt (te σ) (own.map (·.2)) σ H Q) := by
  refine ⟨fun pins s σ H Q I told => ?_⟩
  have captured : ∀ y ∈ scope.names, y.2 = .free → ∃ c, X.env.cells.lookup y.1 = some c := by
    intro y hy e
    rcases ok.free y hy e with k | k
    · exact I.ok.has _ (.inl k)
    · exact I.ok.has _ (.inr k)
  rw [eval_ListComp]
  refine wpAny_comprehension_free rfl hs (closure_ok captured) ok.kind (fun y hy e => by rw [ok.uniq y hy, e]) (thn (hi.run pins s σ H _ I told) ?_)
  intro xv sA asked
  refine thn asked ?_
  intro itv sB gotten
  obtain ⟨it, fp, tn, J, HB, rfl, VB, T, tB, free_, q⟩ := gotten
  refine wpAny_newObj_type (newEnv_comp ?_) (by show 0 ≤ sizeLine; decide)
  -- the new list
  have newD : HB sB.heap.objs.size = none := VB.hok.fresh (Nat.le_refl _)
  obtain ⟨W, ⟨m0, w0⟩, turn⟩ := q sB.heap.objs.size newD
  have VC : Inv X pins σ (upd HB sB.heap.objs.size (.lst [])) { sB with heap := sB.heap.push { cls := .type "list", data := .seq ([] : List Value).toArray } } :=
    VB.laid (t' := sB.toks) (fun b o e => Heap.get?_push_of_some _ e) (Nat.le_refl _) ⟨Nat.zero_le _, [], 0, .nil, Heap.get?_push_size _ rfl⟩
  generalize eC : ({ sB with heap := sB.heap.push { cls := .type "list", data := .seq ([] : List Value).toArray } } : Shared) = sC at VC
  have hC : sC.heap = sB.heap.push { cls := .type "list", data := .seq ([] : List Value).toArray } := by rw [← eC]
  have young : ∀ b ∈ fp, b < sB.heap.objs.size := by
    intro b hb
    obtain ⟨o, e, _⟩ := T.obj _ _ tB b hb
    exact Heap.lt_size e
  have freeC : ∀ b ∈ fp, FpOk X pins (upd HB sB.heap.objs.size (.lst [])) b ∧ b < sC.heap.objs.size := by
    intro b hb
    have less := young b hb
    refine ⟨⟨?_, (free_ b hb).2⟩, by rw [hC, Heap.size_push]; exact Nat.lt_succ_of_lt less⟩
    rw [upd_ne (Nat.ne_of_lt less)]
    exact (free_ b hb).1
  have tC : tn 0 sC.heap := T.keep _ _ _ tB fun b _ o e => by rw [hC]; exact Heap.get?_push_of_some _ e
  generalize eD : sB.heap.objs.size = D at newD w0 VC freeC turn young
  generalize eH : upd HB D (.lst []) = HC at VC w0 freeC
  have start := block_start VC ok hN freeC
  have noC : ∀ x c, X.env.cells.lookup x = some c → c ∉ fp := fun x c e hb => (freeC c hb).1.2.2.2.2.1 x c e rfl
  have item := he pins σ sC HC (cellsFrom (sC.heap.objs.size + 1) scope.names (cloFrom X.env.cells scope.names [])) fp VC noC
  have goal_ : codeAny (model X.prog X.w) X.A (.compStart (.ListComp elt [⟨tg, iter, ifs, 0⟩] scope pos) 0 (.ref it) (.ref D) (compEnvC scope (cellsFrom (sC.heap.objs.size + 1) scope.names (cloFrom X.env.cells scope.names [])) sC.heap.objs.size X.env))
      (compPost (model X.prog X.w) X.A X.xe none (EP X pins σ Q) (.ref D) sC.heap.objs.size) { sC with heap := pushCells (sC.heap.push { cls := .type "dict", data := .dict #[] }) scope.names } := by
    have tD : tn 0 (pushCells (sC.heap.push { cls := .type "dict", data := .dict #[] }) scope.names) := T.keep _ _ _ tC fun b _ o e => pushCells_keeps _ _ _ _ (Heap.get?_push_of_some _ e)
    have loop := turns_of (iter := iter) (te := te) (own := own) (pos := pos) (sB := { sC with heap := pushCells (sC.heap.push { cls := .type "dict", data := .dict #[] }) scope.names }) (R := compPost (model X.prog X.w) X.A X.xe none (EP X pins σ Q) (.ref D) sC.heap.objs.size) hc T
      (hg sC HC sC.heap.objs.size (cellsFrom (sC.heap.objs.size + 1) scope.names (cloFrom X.env.cells scope.names [])) fp) (ht sC HC sC.heap.objs.size _ fp) item start tD (fun b hb => (freeC b hb).1.1) w0 turn ?_
    · exact codeAny_compStart_list loop (T.self X.A 0 _ _ _ tD loop)
    · intro σZ sZ HZ VZ qZ
      have VX : Inv X pins σ HZ sZ := VC.call' (ch := fp) VZ.os VZ.base VZ.hok VZ.bare fun b hb => ⟨(freeC b hb).1.2.2.2.1, (freeC b hb).1.2.1, (freeC b hb).1.2.2.2.2.1, (freeC b hb).1.2.2.2.2.2⟩
      have own_ : HZ sC.heap.objs.size = none := VZ.free
      obtain ⟨m, hn, _⟩ := VZ.loc
      obtain ⟨f0, f1, f2, f3, f4, f5⟩ := VC.fpOk (H' := HZ) (Nat.le_refl _) own_
      exact ⟨m, hn, fun h'' sb => ⟨.ref D, HZ, VX.turned (t' := sZ.toks) (fun b o hb e => (sb.2 b hb).trans e) f0 f1 f3 f4 f5, rfl, qZ⟩⟩
  subst eC eD
  exact goal_
end
end L3
end
section
set_option maxHeartbeats 4000000
namespace L3
open PySem PySem.Spec PyProof.Rows L2
/-- a clause: its class, the slot of its name if it has one, its suite -/
structure Cl where
  c : Value
  at_ : Option Nat
  ts : Addr → Value → Option Addr → TS
/-- behind a suite whose exception had a name -/
def Cl.ends (l : Cl) (D : Ends) : Ends := match l.at_ with
  | none => D
  | some i => { nx := fun σ' H' => D.nx (σ'.set i none) H', rt := D.rt, bk := fun σ' H' => D.bk (σ'.set i none) H', ct := fun σ' H' => D.ct (σ'.set i none) H' }
def Cl.named (l : Cl) (σ : L2.St) (a : Addr) : L2.St := match l.at_ with
  | none => σ
  | some i => σ.set i (some (.ref a))
/-- what such clauses wish of an exception of the body -/
def wCls (K : PySem.W.Frag) (Wout : WX) (D : Ends) : List Cl → WX
  | [] => Wout
  | l :: r => fun cls d σ H => ∃ b, PySem.W.exmOne K cls l.c = some b ∧ (b = true → ∀ a, H a = none → l.ts a cls d (l.ends D) (l.named σ a) H) ∧ (b = false → wCls K Wout D r cls d σ H)
/-- the clauses' rules: with a name or without -/
inductive Cls (X : Cx) : List ExceptHandler → List Cl → Prop
  | nil : Cls X [] []
  | bare {x : Str} {c : Value} {ts : Addr → Value → Option Addr → TS} {b₀ : Stmt} {suite : List Stmt} {np pos' : Pos} {hds : List ExceptHandler} {l : List Cl} (hc : Names X x c)
      (hsu : ∀ (a : Addr) (oe : Obj) (cls : Value) (d : Option Addr) (pn : List (Addr × Obj)), Zc cls d oe → (∃ vs, oe.data = .fields vs) → PSs (X.suite a ((a, oe) :: pn)) (b₀ :: suite) (ts a cls d)) (r : Cls X hds l) :
      Cls X (.ExceptHandler (some (.Name x np)) none (b₀ :: suite) pos' :: hds) (⟨c, none, ts⟩ :: l)
  | as_ {x n : Str} {i : Nat} {c : Value} {ts : Addr → Value → Option Addr → TS} {b₀ : Stmt} {suite : List Stmt} {np pos' : Pos} {hds : List ExceptHandler} {l : List Cl} (hc : Names X x c) (hi : X.N[i]? = some n) (hl : X.env.kindOf n = some .local)
      (hsu : ∀ (a : Addr) (oe : Obj) (cls : Value) (d : Option Addr) (pn : List (Addr × Obj)), Zc cls d oe → (∃ vs, oe.data = .fields vs) → PSs (X.suite a ((a, oe) :: pn)) (b₀ :: suite) (ts a cls d)) (r : Cls X hds l) :
      Cls X (.ExceptHandler (some (.Name x np)) (some n) (b₀ :: suite) pos' :: hds) (⟨c, some i, ts⟩ :: l)
section
variable {X : Cx} {Wout : WX}
/-- a suite's end, told to the statement -/
theorem suite_ends {pins : List (Addr × Obj)} {D : Ends} {a : Addr} {oe : Obj} {f : Flow} {s : Shared} (ok : X.Ok) (h : SP (X.suite a ((a, oe) :: (X.pn ++ pins))) [] D f s) : SP X pins D f s := by
  cases f with
  | ret u =>
    obtain ⟨v, σ', H', J, r, q⟩ := h
    exact ⟨v, σ', H', J.unsuite ok, r, q⟩
  | next => obtain ⟨σ', H', J, q⟩ := h; exact ⟨σ', H', J.unsuite ok, q⟩
  | brk => obtain ⟨σ', H', J, q⟩ := h; exact ⟨σ', H', J.unsuite ok, q⟩
  | cont => obtain ⟨σ', H', J, q⟩ := h; exact ⟨σ', H', J.unsuite ok, q⟩
/-- an exception that has been caught, the state as it lies -/
structure Caught (X : Cx) (pins : List (Addr × Obj)) (σ : L2.St) (H : Hp) (sI : Shared) (B : Heap) (a : Addr) (cls : Value) (d : Option Addr) (s : Shared) : Prop where
  I : Inv X pins σ H sI
  nb : ∀ b o, sI.heap.get? b = some o → b ∉ frs X.stack → B.get? b = some o
  up : sI.heap.UpToSlots s.heap
  fl : HandSPX.FlyingZ B (X.env :: X.outer) a (Zc cls d) s.heap
  na : H a = none
  os : s.os = sI.os
  ag : AllBare s.gens
theorem Caught.on {pins : List (Addr × Obj)} {σ : L2.St} {H : Hp} {s sI : Shared} {B h : Heap} {a : Addr} {cls : Value} {d : Option Addr} (k : Caught X pins σ H sI B a cls d s) (fl : HandSPX.FlyingZ B (X.env :: X.outer) a (Zc cls d) h) (up : s.heap.UpToSlots h) :
    Caught X pins σ H sI B a cls d { s with heap := h } := ⟨k.I, k.nb, k.up.trans up, fl, k.na, k.os, k.ag⟩
theorem Caught.inv {pins : List (Addr × Obj)} {σ : L2.St} {H : Hp} {s sI : Shared} {B : Heap} {a : Addr} {cls : Value} {d : Option Addr} (k : Caught X pins σ H sI B a cls d s) : Inv X pins σ H s := k.I.landed k.nb k.fl.1 k.up k.os k.ag
theorem Caught.suite {pins : List (Addr × Obj)} {σ : L2.St} {H : Hp} {s sI : Shared} {B : Heap} {a : Addr} {cls : Value} {d : Option Addr} (k : Caught X pins σ H sI B a cls d s) (hf : X.env.frame = some X.env.locals) :
    ∃ oe vs, s.heap.get? a = some oe ∧ Zc cls d oe ∧ oe.data = .fields vs ∧ Inv (X.suite a ((a, oe) :: (X.pn ++ pins))) [] σ H s := by
  obtain ⟨oe, vs, he, hz, hd⟩ := k.fl.there
  have noFrame : a ∉ frs (X.env :: X.outer) := fun hm => by
    obtain ⟨_, o', e', plain⟩ := k.fl.2.2.1.mem hm
    rw [he] at e'
    cases e'
    exact plain _ hd
  have nL : a ≠ X.env.locals := fun z => noFrame (List.mem_filterMap.mpr ⟨X.env, List.mem_cons_self, by rw [hf, z]⟩)
  have nF : a ∉ X.fs := fun hm => by
    obtain ⟨e, q1, q2⟩ := List.mem_filterMap.mp hm
    exact noFrame (List.mem_filterMap.mpr ⟨e, List.mem_cons_of_mem _ q1, q2⟩)
  exact ⟨oe, vs, he, hz, hd, k.inv.suite he hd k.na nL nF⟩
/-- the clauses, one behind another -/
theorem clauses_go {pins : List (Addr × Obj)} {D : Ends} {σ : L2.St} {H : Hp} {sI : Shared} {B : Heap} {a : Addr} {cls : Value} {d : Option Addr} (ok : X.Ok) (hN : X.N.Nodup) (hs : X.stack = X.env :: X.outer) (hf : X.env.frame = some X.env.locals) (tk : Takes X Wout) :
    ∀ {hds : List ExceptHandler} {ls : List Cl}, Cls X hds ls → ∀ s : Shared, Caught X pins σ H sI B a cls d s → wCls X.K Wout D ls cls d σ H → wpAny (model X.prog X.w) X.A (handleBy (.ref a) X.env hds) (SP X pins D) X.xe s := by
  -- the test of a clause
  have asks : ∀ {x : Str} {c : Value} {np : Pos} {b : Bool} {s : Shared}, Names X x c → Caught X pins σ H sI B a cls d s → PySem.W.exmOne X.K cls c = some b → ∀ {Q : Value → Shared → Prop} {E : Value → Shared → Prop},
      (PySem.W.Looks (model X.prog X.w) s.heap (typeOf (.ref a)) cls → Q c s) → wpAny (model X.prog X.w) (X.A.mark (some (.ref a))) (eval (.Name x np) X.env) Q E s := by
    intro x c np b s hc k _ Q E q
    obtain ⟨oe, vs, he, hz, hd, S⟩ := k.suite hf
    have q' := q fun A' Q' E' s' kp z => wpAny_typeOf_ref (kp _ _ he) (by rw [hz.1]; exact z)
    obtain ⟨hg, hdbg, hm | ⟨hm, hv, hnn⟩⟩ := hc
    · exact ld_glob (X := X.suite a ((a, oe) :: (X.pn ++ pins))) S hg hm q' hdbg
    · exact ld_blt (X := X.suite a ((a, oe) :: (X.pn ++ pins))) S hg hm hv q' hnn hdbg
  intro hds ls hk
  induction hk with
  | nil =>
    intro s k w
    refine wpAny_handleBy_nil ?_
    obtain ⟨k1, k2, k3, oe, vs, T, oT, ts', he, hz, hd, h1, hr⟩ := id k.fl
    unfold PySem.passOn
    refine wpAny_bind (wpAny_field he hd h1 ?_)
    rw [if_neg (show ¬ ((Value.ref T == Value.none) = true) from by simp)]
    have out : wpAny (model X.prog X.w) X.A (setFlight (.ref a) X.env.frame) (fun _ sZ => wpAny (model X.prog X.w) X.A (throw (.ref a) : Sem Flow) (SP X pins D) X.xe sZ) X.xe s := by
      rw [hf]
      refine HandSPX.setFlight_upZ k.fl fun hZ held up => wpAny_throw (tk _ _ ?_)
      exact ⟨a, B, sI, pins, σ, H, cls, d, rfl, k.I, k.nb, k.up.trans up, .inr (.inr (by rw [hs]; exact held)), k.na, k.os, k.ag, w⟩
    first
      | exact wpAny_bind (wpAny_pure (wpAny_bind out))
      | exact wpAny_bind out
  | @bare x c ts b₀ suite np pos' hds2 l2 hc hsu r ih =>
    intro s k w
    obtain ⟨b, hb1, yes, no⟩ := w
    refine wpAny_handleBy_cons (codeAny_handlers_test ?_) (by intro q; cases q)
    refine asks hc k hb1 fun LT => ?_
    refine (PySem.W.exm_one (M := model X.prog X.w) k.inv.kIn LT hb1).here ?_
    cases b with
    | false => exact ih s k (no rfl)
    | true =>
      refine codeAny_handlers_suite (HandSPX.lands_againZ k.fl fun hZ fl up => ?_)
      obtain ⟨oe, vs, he, hz, hd, S⟩ := (k.on fl up).suite hf
      exact wpAny_mono ((hsu a oe cls d (X.pn ++ pins) hz ⟨_, hd⟩).run [] _ _ H _ S (yes rfl a k.na)) (fun f sZ z => suite_ends ok z) fun _ _ z => False.elim z
  | @as_ x n i c ts b₀ suite np pos' hds2 l2 hc hi hl hsu r ih =>
    intro s k w
    obtain ⟨b, hb1, yes, no⟩ := w
    refine wpAny_handleBy_cons (codeAny_handlers_test ?_) (by intro q; cases q)
    refine asks hc k hb1 fun LT => ?_
    refine (PySem.W.exm_one (M := model X.prog X.w) k.inv.kIn LT hb1).here ?_
    cases b with
    | false => exact ih s k (no rfl)
    | true =>
      refine codeAny_handlers_suite_as (HandSPX.lands_againZ k.fl fun hZ fl up => ?_)
      obtain ⟨oe, vs, he, hz, hd, S⟩ := (k.on fl up).suite hf
      refine store_ok (X := X.suite a ((a, oe) :: (X.pn ++ pins))) (v := .ref a) S hN hi (.inl hl) rfl (fun sY SY => ?_) (.inr hl)
      refine wpAny_mono ((hsu a oe cls d (X.pn ++ pins) hz ⟨_, hd⟩).run [] sY _ H _ SY (yes rfl a k.na)) (fun f sZ z => ?_) fun _ _ z => False.elim z
      have leaves : ∀ {σ6 : L2.St} {H6 : Hp} {Q : Shared → Prop}, Inv (X.suite a ((a, oe) :: (X.pn ++ pins))) [] σ6 H6 sZ → (∀ s7, Inv X pins (σ6.set i none) H6 s7 → Q s7) →
          wpAny (model X.prog X.w) X.A (do bindName X.env n .none; unbindBehindTheSuite X.env n pos') (fun _ s7 => Q s7) X.xe sZ := fun {σ6 H6 Q} S6 q => gone_ok (S6.unsuite ok) hN hi hl q
      cases f with
      | ret u =>
        obtain ⟨v6, σ6, H6, S6, r6, q6⟩ := z
        exact leaves S6 fun s7 J7 => ⟨_, _, _, J7, r6, q6⟩
      | next =>
        obtain ⟨σ6, H6, S6, q6⟩ := z
        exact leaves S6 fun s7 J7 => ⟨_, _, J7, q6⟩
      | brk =>
        obtain ⟨σ6, H6, S6, q6⟩ := z
        exact leaves S6 fun s7 J7 => ⟨_, _, J7, q6⟩
      | cont =>
        obtain ⟨σ6, H6, S6, q6⟩ := z
        exact leaves S6 fun s7 J7 => ⟨_, _, J7, q6⟩
/-- try: .. with several clauses, some with a name -/
theorem ps_tryC {body : List Stmt} {h₀ : ExceptHandler} {hds : List ExceptHandler} {l : List Cl} {pos : Pos} {tb : WX → TS} (hs : X.stack = X.env :: X.outer) (hf : X.env.frame = some X.env.locals) (hN : X.N.Nodup) (tk : Takes X Wout)
    (hb : ∀ (W : WX) (pn : List (Addr × Obj)) (xe : Value → Shared → Prop), Takes (X.tr pn xe) W → PassesOwn (model X.prog X.w) X.A X.env xe → PSs (X.tr pn xe) body (tb W))
    (hh : Cls X (h₀ :: hds) l) : PS X (.Try body (h₀ :: hds) [] [] pos) (fun D σ H => tb (wCls X.K Wout D l) D σ H) := by
  refine ⟨fun pins s σ H D I h => ?_⟩
  have ok := I.ok
  have hfr : X.A.frames = some (X.env :: X.outer) := by rw [ok.frames, hs]
  refine wpAny_Try_except ?_
  have inner := (hb (wCls X.K Wout D l) (X.pn ++ pins) (fun e s₁ => wpAny (model X.prog X.w) X.A (noteFrame e X.env) (fun _ s₂ => wpAny (model X.prog X.w) X.A (setFlight e none) (fun _ s₃ =>
    wpAny (model X.prog X.w) X.A (handleBy e X.env (h₀ :: hds)) (SP X pins D) X.xe s₃) X.xe s₂) X.xe s₁) (fun u s' xx => ?_) PassesOwn.looking).run [] s σ H D (I.toTry _) h
  · refine wpAny_mono inner (fun f sZ z => ?_) fun e sZ z => z
    cases f with
    | next =>
      obtain ⟨σ', H', J, q⟩ := z
      exact wpAny_execs_nil ⟨σ', H', J.ofTry ok, q⟩
    | ret u =>
      obtain ⟨v, σ', H', J, r, q⟩ := z
      exact ⟨v, σ', H', J.ofTry ok, r, q⟩
    | brk => obtain ⟨σ', H', J, q⟩ := z; exact ⟨σ', H', J.ofTry ok, q⟩
    | cont => obtain ⟨σ', H', J, q⟩ := z; exact ⟨σ', H', J.ofTry ok, q⟩
  · obtain ⟨a, B, sI, pins', σ', H', cls, d, rfl, J', nb, up, sky, na, os, ag, w⟩ := xx
    have J : Inv X pins σ' H' sI := J'.ofTry ok
    show wpAny (model X.prog X.w) X.A (noteFrame (.ref a) X.env) _ _ _
    refine Sky.land Zc.steady hfr hf (by rw [← hs]; exact sky) fun h3 fl3 up3 => ?_
    exact clauses_go ok hN hs hf tk hh _ ⟨J, nb, up.trans up3, fl3, na, os, ag⟩ w
end
end L3
end
section
set_option maxHeartbeats 4000000
namespace L2
open PySem PySem.Spec PyProof.Rows
/-- // by any divisor but 0 below 2 ^ 9000 -/
def CDivZ (_ j : Int) : Prop := j ≠ 0 ∧ j.natAbs.log2 < 9000
theorem op_fdivZ {X : Cx} : OpR X (binaryOp .FloorDiv) (rI CDivZ fun i j => .int (i.fdiv j)) := opI fun i j _ _ _ _ _ hc q => floordiv_int hc.1 q (.inl (PyProof.noPylong_of_log2 hc.2))
theorem passK {X : Cx} {E : XK} (tk : Takes X (fun cls d _ H => E cls d H)) : Passes (L2.CX X.prog X.w) X E := fun pins σ H s e s' I c => passAt tk σ pins H s e s' I c
/-- what is no integer: isinstance tells so -/
def NoInt (K : PySem.W.Frag) (H : Hp) (v : V) : Prop := ∃ (t : Value) (b c : Bool), TyX K H v t ∧ PySem.W.kitOne K t (.type "int") = some b ∧ PySem.W.kitOne K t (.type "bool") = some c ∧ (b && !c) = false
end L2
namespace K03
open PySem PySem.Spec PyProof.Rows L2
structure TxtR (mg : Str → Option Value) : Prop where
  int : mg "int" = none
  bool : mg "bool" = none
  isi : mg "isinstance" = none
  abs : mg "abs" = none
  str : mg "str" = none
  list : mg "list" = none
  len : mg "len" = none
  range : mg "range" = none
  min : mg "min" = none
  all : mg "all" = none
  gcd : mg "gcd" = some (.builtin "math.gcd")
/-- the classes of errors -/
structure ErrR (P : Program) (w : World) (K : PySem.W.Frag) (mg : Str → Option Value) (base : Heap) (cB cN : Addr) : Prop where
  B : One P w K mg base cB "BadValue" "value"
  N : Bare K mg cN "NoDivisor"
  tB : PySem.W.typeIn K (.ref cB) = some (.type "type")
  tN : PySem.W.typeIn K (.ref cN) = some (.type "type")
/-- BadValue(v) leaves -/
def Bad (cB : Addr) (v : V) (H : Hp) (E : XK) : Prop := ∀ (d : Addr) (H' : Hp), H d = none → Same H H' → H' d = some (exd d [("value", v)]) → E (.ref cB) (some d) H'
/-- NoDivisor() leaves -/
def NoDiv (cN : Addr) (H : Hp) (E : XK) : Prop := ∀ (H' : Hp), Same H H' → E (.ref cN) none H'
abbrev iBad : Stmt := inClass (top 4) 0
abbrev sIsInt : Stmt := top 7
def spIsInt (K : PySem.W.Frag) : Sp := fun vs H Q _ => ∃ v, vs = [v] ∧ (((∃ i, v = .int i) ∧ Q (.bl true) H) ∨ (NoInt K H v ∧ Q (.bl false) H))
theorem same_del {H H' : Hp} {a : Addr} (s : Same H H') (ha : H a = none) : Same H (delH H' a) := fun b o e => by
  rw [delH_ne (ne_of_none e ha)]
  exact s b o e
section
variable {P : Program} {w : World} {K : PySem.W.Frag} {mg : Str → Option Value} {base : Heap} {cB cN : Addr}
theorem sBad : FnScope ["self", "value"] ["self", "value"] (defScope iBad) := ⟨rfl, rfl, rfl, by decide +kernel, rfl, by decide +kernel, by decide +kernel⟩
theorem oBad {fI C : Addr} {fd : FuncData} (F : Fun K "__init__" "BadValue.__init__" iBad fI fd) (O : OwnX K C fI) (g : mg "BadValue" = some (.ref C)) (Z : PySem.ExV.ClsX K C) (no : PySem.W.findIn K (.ref C) "value" = some none) : One P w K mg base C "BadValue" "value" := by
  obtain ⟨b1, b2⟩ := kb1 (f := "value") F (fun _ _ _ _ _ _ _ _ => rfl) (fun _ _ _ _ _ _ _ _ => rfl)
  refine ⟨⟨fI, fd, O, F.ok sBad (fun vs H Q E h => ?_) (fun cdv A outer s H vs Q E hr h => ?_), b1, b2⟩, g, Z, no⟩
  · obtain ⟨a, v, rfl, _⟩ := h
    rfl
  · obtain ⟨a, v, rfl, ha, k⟩ := h
    exact ⟨_, pss_one (ps_ost (pv 0) (pv 1)), _, rfl, _, rfl, a, C, rfl, O.T, no, .inl ⟨ha, fun dx hd ne => k dx hd ne⟩⟩
theorem scIsInt : FnScope ["value"] ["value"] (defScope sIsInt) := ⟨rfl, rfl, rfl, by decide +kernel, rfl, by decide +kernel, by decide +kernel⟩
theorem ok_isInt {f : Addr} {fd : FuncData} (F : Fun K "is_integer" "is_integer" sIsInt f fd) (T : TxtR mg) : FnOk P w K mg base CX0 1 f fd ["value"] (spIsInt K) := by
  refine F.ok scIsInt (fun vs H Q E h => ?_) (fun cdv A outer s H vs Q E hr h => ?_)
  · obtain ⟨v, rfl, _⟩ := h
    rfl
  · obtain ⟨v, rfl, k⟩ := h
    refine ⟨_, pss_one (ps_ret (pe_and (pe_callB call_isi (by rfl) T.isi (by decide +kernel) (pa_cons (pv 0) (pa_cons (pe_bltn (v := .ty "int") (u := .type "int") (by rfl) T.int (by decide +kernel) rfl) pa_nil)))
      (pe_one (pe_not (pe_callB call_isi (by rfl) T.isi (by decide +kernel) (pa_cons (pv 0) (pa_cons (pe_bltn (v := .ty "bool") (u := .type "bool") (by rfl) T.bool (by decide +kernel) rfl) pa_nil))))))), ?_⟩
    rcases k with ⟨⟨i, rfl⟩, q⟩ | ⟨⟨t, b, c, ty, h1, h2, h3⟩, q⟩
    · refine ⟨_, rfl, _, .ty "int", .type "int", .type "int", true, rfl, .ty _, .base (.int i), kit_ty (by decide +kernel), true, rfl, ?_⟩
      exact ⟨_, rfl, _, .ty "bool", .type "int", .type "bool", false, rfl, .ty _, .base (.int i), kit_ty (by decide +kernel), _, rfl, q⟩
    · refine ⟨_, rfl, _, .ty "int", t, .type "int", b, rfl, .ty _, ty, h1, b, rfl, ?_⟩
      cases b with
      | false => exact q
      | true =>
        have hc : c = true := by simpa using h3
        subst hc
        exact ⟨_, rfl, _, .ty "bool", t, .type "bool", true, rfl, .ty _, ty, h2, _, rfl, q⟩
end
end K03
end
section
set_option maxHeartbeats 4000000
namespace L3
open PySem PySem.Spec PyProof.Rows L2
theorem none_same {H H' : Hp} {b : Addr} (s : Same H H') (h : H' b = none) : H b = none := by
  cases z : H b with
  | none => rfl
  | some o => rw [s _ _ z] at h; cases h
/-- e.f in an except suite, e the caught error, its dict told by exd -/
def tXe (a C : Addr) (cls : Value) (d : Option Addr) (f : Str) (te : TE) : TE := fun σ H Q => te σ H fun x H1 => x = .ref a ∧ cls = .ref C ∧ ∃ (dd : Addr) (fs : List (Str × V)) (v : V), d = some dd ∧ H1 dd = some (exd dd fs) ∧ fs.lookup f = some v ∧ Q v H1
theorem pe_xe {X : Cx} {a C : Addr} {oe : Obj} {cls : Value} {d : Option Addr} {pn : List (Addr × Obj)} {e : Expr} {te : TE} {pos : Pos} {n : Str} (Z : PySem.ExV.ClsX X.K C) (no : PySem.W.findIn X.K (.ref C) n = some none)
    (hz : Zc cls d oe) (hf : ∃ vs, oe.data = .fields vs) (he : PE (X.suite a ((a, oe) :: pn)) e te) (hb : attributeBase e n X.env (eval e X.env) = eval e X.env := by rfl) :
    PE (X.suite a ((a, oe) :: pn)) (.Attribute e n pos) (tXe a C cls d n te) := by
  refine ⟨fun pins s σ H Q I h => attr_of hb (thn (he.run pins s σ H _ I h) ?_)⟩
  rintro u s1 ⟨x, H1, I1, rx, rfl, rfl, dd, fs, v, rfl, ea, look, q⟩
  cases (show u = Value.ref a from rx)
  obtain ⟨at_, _⟩ := I1.pin (a, oe) (List.mem_append_left _ List.mem_cons_self)
  obtain ⟨vs, dat⟩ := hf
  obtain ⟨mA, hns, hr⟩ := exd_at I1.hok ea
  obtain ⟨od, ho, hl⟩ := lookIn_ns hns
  obtain ⟨u, hu, ru⟩ := RelO.some_of (v := v) (o := mA n) (by rw [← look]; exact hr n)
  have J : PySem.W.InstAt s1.heap a oe C (some od) := ⟨at_, hz.1, by unfold PySem.W.notCls; rw [dat] <;> rfl, by rw [hz.2]; exact ho⟩
  exact PySem.HandSPX.exc_get I1.kIn J Z.ga Z.gt Z.su (PySem.W.findObj_own Z.di no rfl (by rw [hl, hu])) (handed_of ru) ⟨v, H1, I1.tok _, ru, q⟩
end L3
namespace K03
open PySem PySem.Spec PyProof.Rows L2 LamX NdefX L3
/-- the error that leaves: BadValue with this value, or NoDivisor -/
def Leaves (cB cN : Addr) (r : Option V) (H : Hp) (E : XK) : Prop := match r with
  | some v => Bad cB v H E
  | none => NoDiv cN H E
/-- at f stands a lambda of X's; with X's names as σ tells it raises r -/
def DeedAt (X : Cx) (σ : L2.St) (k : Nat) (cB cN : Addr) (H : Hp) (f : Addr) (r : Option V) : Prop := ∃ (params : Arguments) (body : Expr) (scope : Scope) (t : XK → TE) (c' : Addr), LamS X.env.scope scope ∧
  (∀ (q : Str) (cl : List (Str × Addr)) (pm cv ctv : Value), bindArgs (PySem.W.kla_fn "<lambda>" q params body scope cl pm cv ctv) ⟨[], []⟩ = pure []) ∧
  (∀ (A : Around) (outer : List Env) (s : Shared) (H : Hp) (E : XK) (f c' : Addr), Room k (A.deeper (lamEnv X scope s.heap.objs.size f c')) → PE (lamCx X A outer s H E scope f c') body (t E)) ∧
  H f = some (LamO f (lwOf X params body scope) c') ∧ H c' = some (CodeO c' (X.env.qual ++ "<lambda>")) ∧ ∀ H', Same H H' → ∀ E' Q', Leaves cB cN r H' E' → t E' σ H' Q'
end K03
end
section
set_option maxHeartbeats 4000000
namespace L3
open PySem PySem.Spec PyProof.Rows L2 LamX NdefX
theorem tabs_but {T : List (Addr × Str)} {d : Addr} {H H' : Hp} {kvs : List (Key × V)} (t : Tabs T H) (hd : H d = some (.dK kvs)) (e : ∀ b o, H b = some o → b ≠ d → H' b = some o) : Tabs T H' := fun p hp => by
  obtain ⟨ps, h1, h2, h3⟩ := t p hp
  have nd : ∀ {b : Addr} {o : HO}, H b = some o → (∀ kvs, o ≠ .dK kvs) → b ≠ d := fun {b o} hb n z => by
    rw [z, hd] at hb
    exact n _ (Option.some.inj hb).symm
  refine ⟨ps, e _ _ h1 (nd h1 fun _ z => by cases z), h2, fun pos cv hc => ?_⟩
  obtain ⟨c, e1, e2⟩ := h3 pos cv hc
  exact ⟨c, e1, e _ _ e2 (nd e2 fun _ z => by unfold CodeO at z; cases z)⟩
end L3
end
section
set_option maxHeartbeats 4000000
set_option exponentiation.threshold 100000
namespace L3
open PySem PySem.Spec PyProof.Rows L2 LamX NdefX
/-- a def whose code object is known: it makes lambdas -/
theorem okC {P : Program} {w : World} {K : PySem.W.Frag} {mg : Str → Option Value} {base : Heap} {x qual : Str} {st : Stmt} {f c : Addr} {fd : FuncData} {N ps : List Str} {k : Nat} {sp : Sp} (F : Fun K x qual st f fd) (hc : fd.code = .ref c) (S : FnScope N ps (defScope st))
    (len : ∀ vs H Q E, sp vs H Q E → vs.length = ps.length)
    (hbody : ∀ (A : Around) (outer : List Env) (s : Shared) (H : Hp) (vs : List V) (Q : VK) (E : XK), Room k (A.deeper (envOfC qual (defScope st) s.heap.objs.size f (.ref c))) → sp vs H Q E →
      ∃ t, PSs (cxOf CX0 P w K mg base N qual (defScope st) f (.ref c) A outer s H E) (defBody st) t ∧ t { nx := fun _ H' => Q .non H', rt := Q } (L2.start N vs) H) : FnOk P w K mg base CX0 (k + 1) f fd ps sp := by
  obtain ⟨oc, od, kV, doc, pm, an, cdv, ct, osl, rfl, lk, hcd⟩ := F.ex
  obtain rfl : cdv = .ref c := hc
  refine ⟨len, fun A outer s H args us vs Q E hr e0 hb r hs => ?_⟩
  exact run_ofS lk hcd S hr e0 hb r (len _ _ _ _ hs) fun hr' => hbody A outer s H vs Q E hr' hs
end L3
namespace K03
open PySem PySem.Spec PyProof.Rows L2 LamX NdefX L3 TL
end K03
end
section
set_option maxHeartbeats 4000000
namespace K03
open PySem PySem.Spec PyProof.Rows L2
/-- the divisor that brings t by b to lowest terms, b's sign in it -/
def shr (t b : Int) : Int := if b < 0 then -((Nat.gcd t.natAbs b.natAbs : Nat) : Int) else ((Nat.gcd t.natAbs b.natAbs : Nat) : Int)
/-- t by b in lowest terms -/
def low (t b : Int) : Int × Int := (t.fdiv (shr t b), b.fdiv (shr t b))
theorem shr_ne {t b : Int} (h : b ≠ 0) : shr t b ≠ 0 := by
  have g : 0 < Nat.gcd t.natAbs b.natAbs := Nat.gcd_pos_of_pos_right _ (by omega)
  unfold shr
  split <;> omega
theorem shr_le {t b : Int} (h : b ≠ 0) : (shr t b).natAbs ≤ b.natAbs := by
  have g : Nat.gcd t.natAbs b.natAbs ≤ b.natAbs := Nat.gcd_le_right _ (by omega)
  unfold shr
  split <;> omega
theorem log2_le {a b n : Nat} (h : a ≤ b) (ha : 0 < a) (hb : b < 2 ^ n) (hn : 0 < n) : a.log2 < n := by
  have : a < 2 ^ n := Nat.lt_of_le_of_lt h hb
  exact (Nat.log2_lt (by omega)).mpr this
/-- a Ratio -/
def rat (C dx : Addr) (q : Int × Int) : HO := .ins C dx [("top", .int q.1), ("bottom", .int q.2)]
/-- the sizes that are dealt with -/
abbrev Sz (b : Int) : Prop := b.natAbs < 2 ^ 9000
/-- what a new Ratio is made of: the first wrong value is told -/
inductive MadeOf (K : PySem.W.Frag) (cB cN : Addr) (H : Hp) (E : XK) (x y : V) (ok : Int × Int → Prop) : Prop where
  | good (t b : Int) (hx : x = .int t) (hy : y = .int b) (h0 : b ≠ 0) (hs : Sz b) (q : ok (low t b)) : MadeOf K cB cN H E x y ok
  | top (n : NoInt K H x) (q : Bad cB x H E) : MadeOf K cB cN H E x y ok
  | bot (t : Int) (hx : x = .int t) (n : NoInt K H y) (q : Bad cB y H E) : MadeOf K cB cN H E x y ok
  | zero (t : Int) (hx : x = .int t) (hy : y = .int 0) (q : NoDiv cN H E) : MadeOf K cB cN H E x y ok
def spInit (K : PySem.W.Frag) (C cB cN : Addr) : Sp := fun vs H Q E => ∃ (a dx : Addr) (x y : V), vs = [.ref a, x, y] ∧ H a = some (.ins C dx []) ∧
  MadeOf K cB cN H E x y fun q => Q .non (upd H a (rat C dx q))
/-- the class's own facts -/
structure RatC (K : PySem.W.Frag) (mg : Str → Option Value) (C fI : Addr) : Prop where
  made : Mk K C fI
  c : Cls K C
  nT : NoAttr K C "top"
  nB : NoAttr K C "bottom"
  g : mg "Ratio" = some (.ref C)
  t1 : Top1 K C
  ty : PySem.W.typeIn K (.ref C) = some (.type "type")
abbrev sInit : Stmt := inClass (top 17) 0
theorem ne_tb : ¬ (("top" : Str) = "bottom") := by decide +kernel
theorem putTB (u v : V) : putF ("bottom" : Str) v (putF ("top" : Str) u []) = ([("top", u), ("bottom", v)] : List (Str × V)) := by simp [putF, ne_tb]
section
variable {P : Program} {w : World} {K : PySem.W.Frag} {mg : Str → Option Value} {base : Heap} {cB cN C fI : Addr}
/-- not isinstance(x, int) or isinstance(x, bool) -/
def tNoI (K : PySem.W.Frag) (i : Nat) : TT := fun σ H Q => ∃ v, σ[i]? = some (some v) ∧ (((∃ t, v = .int t) ∧ Q false H) ∨ (NoInt K H v ∧ Q true H))
theorem pt_noInt {X : Cx} (B : TxtR X.mg) {i : Nat} {x : Str} {p1 p2 p3 p4 p5 p6 p7 p8 p9 p10 : Pos} (hv : ∀ p, PE X (.Name x p) (tVar i)) (gi : Gl X "isinstance" := by rfl) (gt : Gl X "int" := by rfl) (gb : Gl X "bool" := by rfl) :
    PT X (.BoolOp .Or [.UnaryOp .Not (.Call (.Name "isinstance" p1) [.Name x p2, .Name "int" p3] [] p4) p5, .Call (.Name "isinstance" p6) [.Name x p7, .Name "bool" p8] [] p9] p10) (tNoI X.K i) := by
  have h := PW.pt (pw_or (X := X) (pos := p10) (pt_not (pos := p5) (pt_val (pe_callB (p := p1) (pos := p4) call_isi gi B.isi (by decide +kernel) (pa_cons (hv p2) (pa_cons (pe_bltn (v := .ty "int") (u := .type "int") (pos := p3) gt B.int (by decide +kernel) rfl) pa_nil)))))
      (pw_or1 (pos := p10) (pt_val (pe_callB (p := p6) (pos := p9) call_isi gi B.isi (by decide +kernel) (pa_cons (hv p7) (pa_cons (pe_bltn (v := .ty "bool") (u := .type "bool") (pos := p8) gb B.bool (by decide +kernel) rfl) pa_nil))))))
  refine ⟨fun pins s σ H Q I ⟨v, e, k⟩ => h.run pins s σ H Q I ?_⟩
  rcases k with ⟨⟨t, rfl⟩, q⟩ | ⟨⟨t, b, c, ty, h1, h2, h3⟩, q⟩
  · refine ⟨_, e, _, .ty "int", .type "int", .type "int", true, rfl, .ty _, .base (.int t), kit_ty (by decide +kernel), true, rfl, ?_⟩
    exact ⟨_, e, _, .ty "bool", .type "int", .type "bool", false, rfl, .ty _, .base (.int t), kit_ty (by decide +kernel), false, rfl, q⟩
  · refine ⟨_, e, _, .ty "int", t, .type "int", b, rfl, .ty _, ty, h1, b, rfl, ?_⟩
    cases b with
    | false => exact q
    | true =>
      have hc : c = true := by simpa using h3
      subst hc
      exact ⟨_, e, _, .ty "bool", t, .type "bool", true, rfl, .ty _, ty, h2, true, rfl, q⟩
theorem scInit : FnScope ["self", "top", "bottom", "shared"] ["self", "top", "bottom"] (defScope sInit) := ⟨rfl, rfl, rfl, by decide +kernel, rfl, by decide +kernel, by decide +kernel⟩
end
end K03
end
section
set_option maxHeartbeats 4000000
namespace PySem
namespace GetA
open PySem.W PyProof.Rows
section
variable {prog : Program} {w : World} {A : Around} {E : Value → Shared → Prop} {s : Shared} {name : Str}
end
end GetA
end PySem
end
section
set_option maxHeartbeats 4000000
namespace PySem
namespace GetA
open PySem.W PyProof.Rows
section
variable {prog : Program} {w : World} {A : Around} {E : Value → Shared → Prop} {s : Shared} {name : Str}
end
end GetA
end PySem
end
section
set_option maxHeartbeats 4000000
namespace L2
open PySem PySem.Spec PyProof.Rows
def kinds : List String := ["int", "bool", "NoneType", "str", "list", "tuple", "dict"]
/-- a new tuple, of which it is known that it has no dict: locked -/
def tTupF (t : TA) : TE := fun σ H Q => t σ H fun xs H1 => xs.length ≤ sizeLine ∧ ∀ p o, H1 p = none → o.dict = none → Q (.ref p) (upd H1 p (.frz o (.tup xs)))
theorem pe_tupF {X : Cx} {es : List Expr} {t : TA} {pos : Pos} {x1} (h : PA X es t) : PE X (.Tuple es x1 pos) (tTupF t) := by
  refine ⟨fun pins s σ H Q I hq => ?_⟩
  refine wpAny_Tuple_spliced (thn (h.run pos pins s σ H _ I hq) fun us s1 ⟨xs, H1, I1, r, z, q⟩ => ⟨by rw [← r.length]; exact z, ?_⟩)
  have hf : H1 s1.heap.objs.size = none := I1.hok.fresh (Nat.le_refl _)
  refine ⟨.ref s1.heap.objs.size, upd H1 s1.heap.objs.size (.frz { cls := .type "tuple", data := .seq us.toArray } (.tup xs)), I1.laid (t' := s1.toks) (fun b u e => Heap.get?_push_of_some _ e) (Nat.le_refl _) ?_, rfl, q _ _ hf rfl⟩
  exact ⟨Heap.get?_push_size _ rfl, z, us, r, ⟨_, Heap.get?_push_size _ rfl, rfl, _, rfl⟩⟩
/-- an object of which it is known that it has no dict -/
def NoDct (H : Hp) (x : V) : Prop := ∀ a, x = .ref a → (∃ xs, H a = some (.lst xs)) ∨ (∃ o xs, H a = some (.frz o (.tup xs)) ∧ o.dict = none) ∨ ∃ kvs, H a = some (.dK kvs)
theorem NoDct.same {H H' : Hp} {x : V} (h : NoDct H x) (s : Same H H') : NoDct H' x := fun a e => by
  rcases h a e with ⟨xs, z⟩ | ⟨o, xs, z, d⟩ | ⟨kvs, z⟩
  · exact .inl ⟨xs, s _ _ z⟩
  · exact .inr (.inl ⟨o, xs, s _ _ z, d⟩)
  · exact .inr (.inr ⟨kvs, s _ _ z⟩)
end L2
end
section
set_option maxHeartbeats 4000000
namespace L2
open PySem PySem.Spec PyProof.Rows
theorem TyOf.same {K : PySem.W.Frag} {H H' : Hp} {v : V} {t : Value} (h : TyOf K H v t) (s : Same H H') : TyOf K H' v t := by
  cases h with
  | non => exact .non
  | bl x => exact .bl x
  | int i => exact .int i
  | str x => exact .str x
  | flt x => exact .flt x
  | lst e => exact .lst (s _ _ e)
  | frz e => exact .frz (s _ _ e)
  | tup e => exact .tup (s _ _ e)
  | dK e => exact .dK (s _ _ e)
  | dT e => exact .dT (s _ _ e)
  | ins e cl ha hn htk hm => exact .ins (s _ _ e) cl ha hn htk hm
theorem TyX.same {K : PySem.W.Frag} {H H' : Hp} {v : V} {t : Value} (h : TyX K H v t) (s : Same H H') : TyX K H' v t := by
  cases h with
  | base h => exact .base (h.same s)
  | byt b => exact .byt b
  | set e => exact .set (s _ _ e)
  | kList e c => exact .kList e c
  | kTuple e c => exact .kTuple e c
  | kDict e c => exact .kDict e c
  | fTuple e => exact .fTuple (s _ _ e)
  | fDict e => exact .fDict (s _ _ e)
theorem NoInt.same {K : PySem.W.Frag} {H H' : Hp} {v : V} (h : NoInt K H v) (s : Same H H') : NoInt K H' v := by
  obtain ⟨t, b, c, h1, h2, h3, h4⟩ := h
  exact ⟨t, b, c, h1.same s, h2, h3, h4⟩
end L2
namespace K03
open PySem PySem.Spec PyProof.Rows L2
theorem Bad.same {cB : Addr} {v : V} {H H' : Hp} {E : XK} (h : Bad cB v H E) (s : Same H H') : Bad cB v H' E := fun d H'' hd s2 e => h d H'' (by
  cases q : H d with
  | none => rfl
  | some o => rw [s _ _ q] at hd; cases hd) (s.trans s2) e
theorem NoDiv.same {cN : Addr} {H H' : Hp} {E : XK} (h : NoDiv cN H E) (s : Same H H') : NoDiv cN H' E := fun H'' s2 => h H'' (s.trans s2)
theorem MadeOf.same {K : PySem.W.Frag} {cB cN : Addr} {H H' : Hp} {E : XK} {x y : V} {ok ok' : Int × Int → Prop} (h : MadeOf K cB cN H E x y ok) (s : Same H H') (o : ∀ q, ok q → ok' q) : MadeOf K cB cN H' E x y ok' := by
  cases h with
  | good t b hx hy h0 hs q => exact .good t b hx hy h0 hs (o _ q)
  | top n q => exact .top (n.same s) (q.same s)
  | bot t hx n q => exact .bot t hx (n.same s) (q.same s)
  | zero t hx hy q => exact .zero t hx hy (q.same s)
/-- a new Ratio q, all else as it was -/
def NewR (C : Addr) (H : Hp) (Q : VK) (q : Int × Int) : Prop := ∀ (a dx : Addr) (H' : Hp), H a = none → Same H H' → H' a = some (rat C dx q) → Q (.ref a) H'
/-- all that is known of the class Ratio -/
structure Rat (P : Program) (w : World) (K : PySem.W.Frag) (mg : Str → Option Value) (base : Heap) (cB cN C fI : Addr) : Prop where
  cls : RatC K mg C fI
  init : ∃ fd : FuncData, FnOk P w K mg base (L2.CX P w) 4 fI fd ["self", "top", "bottom"] (spInit K C cB cN) ∧ (∃ ds, Vals [.int 1] ds ∧ Binds K fd ["self", "top", "bottom"] ds) ∧ Binds K fd ["self", "top", "bottom"] []
  tyx : ∀ (H : Hp) (a dx : Addr) (fs : List (Str × V)), H a = some (.ins C dx fs) → TyX K H (.ref a) (.ref C)
  txt : TxtR mg
section
variable {X : Cx} {cB cN C fI : Addr} {e e2 : Expr} {te te2 : TE} {p pos : Pos} {E : XK}
def tRat1 (K : PySem.W.Frag) (C cB cN : Addr) (E : XK) (te : TE) : TE := fun σ H Q => te σ H fun v H1 => MadeOf K cB cN H1 E v (.int 1) (NewR C H1 Q)
def tRat2 (K : PySem.W.Frag) (C cB cN : Addr) (E : XK) (te te2 : TE) : TE := fun σ H Q => te σ H fun v H1 => te2 σ H1 fun u H2 => MadeOf K cB cN H2 E v u (NewR C H2 Q)
theorem init_of {K : PySem.W.Frag} {H : Hp} {Q : VK} {v u : V} {x dx : Addr} (h : MadeOf K cB cN H E v u (NewR C H Q)) (hx : H x = none) (hd : H dx = none) (ne : dx ≠ x) :
    spInit K C cB cN [.ref x, v, u] (upd (upd H dx (.own x)) x (.ins C dx [])) (fun z H2 => z = .non ∧ Q (.ref x) H2) E := by
  have s : Same H (upd (upd H dx (.own x)) x (.ins C dx [])) := Same.new (Same.new (fun _ _ z => z) hd) (by rw [upd_ne ne.symm]; exact hx)
  refine ⟨x, dx, v, u, rfl, upd_same, h.same s fun q k => ⟨rfl, ?_⟩⟩
  rw [upd_upd]
  exact k x dx _ hx (Same.new (Same.new (fun _ _ z => z) hd) (by rw [upd_ne ne.symm]; exact hx)) upd_same
/-- Ratio(e) -/
theorem pe_rat1 (R : Rat X.prog X.w X.K X.mg X.base cB cN C fI) (hr : Room 5 X.A) (hx : Passes (L2.CX X.prog X.w) X E) (he : PE X e te) (hg : Gl X "Ratio" := by rfl)
    (hs : starEach [e] X.env = (false, eval e X.env) :: starEach [] X.env := by rfl) : PE X (.Call (.Name "Ratio" p) [e] [] pos) (tRat1 X.K C cB cN E te) := by
  obtain ⟨fd, F, ⟨ds, v1, b1⟩, _⟩ := R.init
  refine ⟨fun pins s σ H Q I h => wpAny_Call_Name_kw (ld_glob I hg R.cls.g ?_ (by decide))⟩
  refine PySem.W.callWith_K (h₀ := X.base) I.ok.mod.kin R.cls.made.kp ?_ hs (by rfl)
  rw [hs]
  show wpAny _ _ (spliced ((false, eval e X.env) :: backTo pos (starEach [] X.env))) _ _ s
  refine Calls.spliced_cons (thn (he.run pins s σ H _ I h) fun w1 s1 ⟨x, H1, I1, r1, q1⟩ => Calls.spliced_nil ⟨I1.kIn, ?_⟩)
  exact run_make (vs := [x]) R.cls.made F hr b1 v1 hx I1 (.cons r1 .nil) fun a dx ha hd ne => init_of q1 ha hd ne
/-- Ratio(e, e2) -/
theorem pe_rat2 (R : Rat X.prog X.w X.K X.mg X.base cB cN C fI) (hr : Room 5 X.A) (hx : Passes (L2.CX X.prog X.w) X E) (he : PE X e te) (he2 : PE X e2 te2) (hg : Gl X "Ratio" := by rfl)
    (hs : starEach [e, e2] X.env = (false, eval e X.env) :: starEach [e2] X.env := by rfl) (hs2 : starEach [e2] X.env = (false, eval e2 X.env) :: starEach [] X.env := by rfl) : PE X (.Call (.Name "Ratio" p) [e, e2] [] pos) (tRat2 X.K C cB cN E te te2) := by
  obtain ⟨fd, F, _, b2⟩ := R.init
  refine ⟨fun pins s σ H Q I h => wpAny_Call_Name_kw (ld_glob I hg R.cls.g ?_ (by decide))⟩
  refine PySem.W.callWith_K (h₀ := X.base) I.ok.mod.kin R.cls.made.kp ?_ hs (by rw [hs2]; rfl)
  rw [hs, hs2]
  show wpAny _ _ (spliced ((false, eval e X.env) :: (false, eval e2 X.env) :: backTo pos (starEach [] X.env))) _ _ s
  refine Calls.spliced_cons (thn (he.run pins s σ H _ I h) fun w1 s1 ⟨x, H1, I1, r1, q1⟩ => ?_)
  refine Calls.spliced_cons (thn (he2.run pins s1 σ H1 _ I1 q1) fun w2 s2 ⟨y, H2, I2, r2, q2⟩ => Calls.spliced_nil ⟨I2.kIn, ?_⟩)
  exact run_make (vs := [x, y]) (dvs := []) R.cls.made F hr b2 .nil hx I2 (.cons r1 (.cons r2 .nil)) fun a dx ha hd ne => init_of q2 ha hd ne
end
end K03
end
section
set_option maxHeartbeats 4000000
namespace K03
open PySem PySem.Spec PyProof.Rows L2
/-- a thing that is neither an integer nor a Ratio -/
def Odd (K : PySem.W.Frag) (H : Hp) (v : V) : Prop := ∃ T : String, T ∈ kinds ∧ T ≠ "int" ∧ TyX K H v (.type T) ∧ NoDct H v
theorem Odd.same {K : PySem.W.Frag} {H H' : Hp} {v : V} (h : Odd K H v) (s : Same H H') : Odd K H' v := by
  obtain ⟨T, h1, h2, h3, h4⟩ := h
  exact ⟨T, h1, h2, h3.same s, h4.same s⟩
theorem kinds_int {T : String} (h : T ∈ kinds) (n : T ≠ "int") : ∃ b c : Bool, kitB T "int" = some b ∧ kitB T "bool" = some c ∧ (b && !c) = false := by
  unfold kinds at h
  simp only [List.mem_cons, List.not_mem_nil, or_false] at h
  rcases h with rfl | rfl | rfl | rfl | rfl | rfl | rfl
  · exact absurd rfl n
  all_goals first
    | exact ⟨true, true, by decide +kernel, by decide +kernel, rfl⟩
    | exact ⟨false, false, by decide +kernel, by decide +kernel, rfl⟩
theorem kinds_blt {T : String} (h : T ∈ kinds) : (fastBuiltinMro T).isSome = true := by
  unfold kinds at h
  simp only [List.mem_cons, List.not_mem_nil, or_false] at h
  rcases h with rfl | rfl | rfl | rfl | rfl | rfl | rfl <;> decide +kernel
theorem Odd.no {K : PySem.W.Frag} {H : Hp} {v : V} (h : Odd K H v) : NoInt K H v := by
  obtain ⟨T, h1, h2, h3, _⟩ := h
  obtain ⟨b, c, e1, e2, e3⟩ := kinds_int h1 h2
  exact ⟨.type T, b, c, h3, kit_ty e1, kit_ty e2, e3⟩
section
variable {K : PySem.W.Frag} {mg : Str → Option Value} {C fI : Addr}
theorem RatC.kit (R : RatC K mg C fI) {T : String} (h : (fastBuiltinMro T).isSome = true) : PySem.W.kitOne K (.type T) (.ref C) = some false := by
  obtain ⟨cd, h1, _⟩ := R.t1.mr
  unfold PySem.W.kitOne
  rw [if_neg (by simp)]
  show (if ((PySem.W.clsIn K C).isSome && PySem.W.typeIn K (.ref C) == some (.type "type")) = true then PySem.W.subIn K (.type T) (.ref C) else none) = some false
  rw [if_pos (by rw [h1, R.ty]; rfl)]
  exact PySem.OwnB.sub_type h
theorem kit_me : PySem.W.kitOne K (.ref C) (.ref C) = some true := by
  unfold PySem.W.kitOne
  rw [if_pos (by simp)]
theorem RatC.kitI (R : RatC K mg C fI) {T : String} (hm : PySem.W.kitMeta T = true) (h : T ≠ "object") : PySem.W.kitOne K (.ref C) (.type T) = some false := by
  unfold PySem.W.kitOne
  rw [if_neg (by simp)]
  show (if PySem.W.kitMeta T = true then PySem.W.subIn K (.ref C) (.type T) else none) = some false
  rw [if_pos hm]
  exact R.t1.no h
end
theorem low_one (t : Int) : low t 1 = (t, 1) := by
  have e : shr t 1 = 1 := by
    unfold shr
    rw [if_neg (by decide)]
    simp
  unfold low
  rw [e]
  simp
abbrev sAs : Stmt := top 19
/-- a Ratio, an integer that stands for one, or a thing of another kind -/
inductive Stands (K : PySem.W.Frag) (C cB : Addr) (H : Hp) (E : XK) (v : V) (old : Addr → Int × Int → Prop) (new : Int → Prop) : Prop where
  | rat (a dx : Addr) (q : Int × Int) (hv : v = .ref a) (e : H a = some (K03.rat C dx q)) (k : old a q) : Stands K C cB H E v old new
  | int (t : Int) (hv : v = .int t) (k : new t) : Stands K C cB H E v old new
  | odd (o : Odd K H v) (k : Bad cB v H E) : Stands K C cB H E v old new
def spAs (K : PySem.W.Frag) (C cB : Addr) : Sp := fun vs H Q E => ∃ v, vs = [v] ∧ Stands K C cB H E v (fun _ _ => Q v H) fun t => NewR C H Q (t, 1)
section
variable {P : Program} {w : World} {K : PySem.W.Frag} {mg : Str → Option Value} {base : Heap} {cB cN C fI TT : Addr}
theorem scAs : FnScope ["value"] ["value"] (defScope sAs) := ⟨rfl, rfl, rfl, by decide +kernel, rfl, by decide +kernel, by decide +kernel⟩
theorem ok_as {f : Addr} {fd : FuncData} (F : Fun K "as_ratio" "as_ratio" sAs f fd) (R : Rat P w K mg base cB cN C fI) (B : TxtR mg) : FnOk P w K mg base (L2.CX P w) 6 f fd ["value"] (spAs K C cB) := by
  refine F.okX scAs (fun vs H Q E h => ?_) (fun cdv A outer s H vs Q E hr h => ?_)
  · obtain ⟨v, rfl, _⟩ := h
    rfl
  · obtain ⟨v, rfl, k⟩ := h
    refine ⟨_, pss_one (ps_ret (pe_ifExp (pt_val (pe_callB call_isi (by rfl) B.isi (by decide +kernel) (pa_cons (pv 0) (pa_cons (pe_glob (v := .ref C) (by rfl) R.cls.g rfl) pa_nil)))) (pv 0) (pe_rat1 (E := E) R hr (passK (takes_of rfl rfl rfl rfl)) (pv 0)))), ?_⟩
    cases k with
    | rat a dx q hv e k =>
      subst hv
      exact ⟨_, rfl, _, .ref C, .ref C, .ref C, true, rfl, .own C, R.tyx H a dx _ e, kit_me, true, rfl, _, rfl, k⟩
    | int t hv k =>
      subst hv
      refine ⟨_, rfl, _, .ref C, .type "int", .ref C, false, rfl, .own C, .base (.int t), R.cls.kit (by decide +kernel), false, rfl, _, rfl, ?_⟩
      exact .good t 1 rfl rfl (by decide) (by decide +kernel) (by rw [low_one]; exact k)
    | odd o k =>
      obtain ⟨T, h1, h2, h3, h4⟩ := o
      refine ⟨_, rfl, _, .ref C, .type T, .ref C, false, rfl, .own C, h3, R.cls.kit (kinds_blt h1), false, rfl, _, rfl, ?_⟩
      exact .top (Odd.no ⟨T, h1, h2, h3, h4⟩) k
/-- what reads an x, put through as_ratio when it is no Ratio -/
def tAsR (K : PySem.W.Frag) (C cB : Addr) (E : XK) (i : Nat) : TE := fun σ H Q => ∃ v, σ[i]? = some (some v) ∧ spAs K C cB [v] H Q E
section
variable {X : Cx} {E : XK}
/-- x if isinstance(x, Ratio) else e, where e is told of what is no Ratio -/
theorem pe_ifR (R : Rat X.prog X.w X.K X.mg X.base cB cN C fI) {i : Nat} {x : Str} {e : Expr} {te : TE} {p1 p2 p3 p4 p5 p6 : Pos} (hv : ∀ p, PE X (.Name x p) (tVar i)) (he : PE X e te)
    (hi : ∀ σ H Q (t : Int), σ[i]? = some (some (.int t)) → NewR C H Q (t, 1) → te σ H Q) (ho : ∀ σ H Q v, σ[i]? = some (some v) → Odd X.K H v → Bad cB v H E → te σ H Q) (gi : Gl X "isinstance" := by rfl) (hg : Gl X "Ratio" := by rfl) :
    PE X (.IfExp (.Call (.Name "isinstance" p1) [.Name x p2, .Name "Ratio" p3] [] p4) (.Name x p5) e p6) (tAsR X.K C cB E i) := by
  have h := pe_ifExp (X := X) (pos := p6) (pt_val (pe_callB (p := p1) (pos := p4) call_isi gi R.txt.isi (by decide +kernel) (pa_cons (hv p2) (pa_cons (pe_glob (pos := p3) (v := .ref C) hg R.cls.g rfl) pa_nil)))) (hv p5) he
  refine ⟨fun pins s σ H Q I ⟨v, ev, w, e1, k⟩ => h.run pins s σ H Q I ?_⟩
  cases e1
  cases k with
  | rat a dx q hv e k =>
    subst hv
    exact ⟨_, ev, _, .ref C, .ref C, .ref C, true, rfl, .own C, R.tyx H a dx _ e, kit_me, true, rfl, _, ev, k⟩
  | int t hv k =>
    subst hv
    exact ⟨_, ev, _, .ref C, .type "int", .ref C, false, rfl, .own C, .base (.int t), R.cls.kit (by decide +kernel), false, rfl, hi _ _ _ _ ev k⟩
  | odd o k =>
    obtain ⟨T, h1, h2, h3, h4⟩ := o
    exact ⟨_, ev, _, .ref C, .type T, .ref C, false, rfl, .own C, h3, R.cls.kit (kinds_blt h1), false, rfl, ho _ _ _ _ ev ⟨T, h1, h2, h3, h4⟩ k⟩
/-- x if isinstance(x, Ratio) else Ratio(x) -/
theorem pe_asR (R : Rat X.prog X.w X.K X.mg X.base cB cN C fI) (hr : Room 5 X.A) (hx : Passes (L2.CX X.prog X.w) X E) {i : Nat} {x : Str} {p1 p2 p3 p4 p5 p6 p7 p8 p9 : Pos} (hv : ∀ p, PE X (.Name x p) (tVar i)) (gi : Gl X "isinstance" := by rfl) (hg : Gl X "Ratio" := by rfl) :
    PE X (.IfExp (.Call (.Name "isinstance" p1) [.Name x p2, .Name "Ratio" p3] [] p4) (.Name x p5) (.Call (.Name "Ratio" p7) [.Name x p8] [] p9) p6) (tAsR X.K C cB E i) :=
  pe_ifR R hv (pe_rat1 (E := E) R hr hx (hv p8) hg rfl) (fun σ H Q t ev k => ⟨_, ev, .good t 1 rfl rfl (by decide) (by decide +kernel) (by rw [low_one]; exact k)⟩) (fun σ H Q v ev o k => ⟨_, ev, .top o.no k⟩) gi hg
theorem pe_asRK (K : PySem.W.Frag) (R : Rat X.prog X.w K X.mg X.base cB cN C fI) (hr : Room 5 X.A) (hx : Passes (L2.CX X.prog X.w) X E) {i : Nat} {x : Str} {p1 p2 p3 p4 p5 p6 p7 p8 p9 : Pos} (hv : ∀ p, PE X (.Name x p) (tVar i)) (hK : X.K = K := by rfl) (gi : Gl X "isinstance" := by rfl) (hg : Gl X "Ratio" := by rfl) :
    PE X (.IfExp (.Call (.Name "isinstance" p1) [.Name x p2, .Name "Ratio" p3] [] p4) (.Name x p5) (.Call (.Name "Ratio" p7) [.Name x p8] [] p9) p6) (tAsR K C cB E i) := by
  subst hK
  exact pe_asR R hr hx hv gi hg
end
end
end K03
end
section
set_option maxHeartbeats 4000000
namespace L3
open PySem PySem.Spec PyProof.Rows L2 LamX NdefX
/-- a context with an air of one's own -/
abbrev airOf (Y : Cx) (xe : Value → Shared → Prop) : Cx := { Y with xe := xe }
theorem ok_air {Y : Cx} {xe : Value → Shared → Prop} (h : Y.Ok) : (airOf Y xe).Ok := ⟨h.mod, h.kind, h.glob, h.blt, h.above, h.inj, h.has, h.cab, h.hd, h.frames, h.stk, h.exf, h.bs, h.bsz, h.noex, h.exfs, h.funs, h.frf⟩
theorem inv_air {Y : Cx} {xe : Value → Shared → Prop} {pins : List (Addr × Obj)} {σ : L2.St} {H : Hp} {s : Shared} (I : Inv Y pins σ H s) : Inv (airOf Y xe) pins σ H s := ⟨ok_air I.ok, I.os, I.bare, I.base, I.loc, I.cell, I.free, I.freeC, I.pin, I.hok, I.len⟩
/-- a frame notes what is in the air -/
theorem sky_note {M : Model} {A : Around} {EE : Value → Shared → Prop} {env : Env} {outer : List Env} {L a : Addr} {Z : Obj → Prop} {B : Heap} {s : Shared} {Q : Unit → Shared → Prop} (hZ : HandSPX.Steady Z) (hfr : A.frames = some (env :: outer)) (hf : env.frame = some L)
    (x : HandSPX.FlyingZ B (env :: outer) a Z s.heap) (hQ : ∀ h', HandSPX.HeldZ B (env :: outer) a Z L h' → s.heap.UpToSlots h' → Q () { s with heap := h' }) : wpAny M A (noteFrame (.ref a) env) Q EE s := HandSPX.looks_onZ hZ hfr hf x hQ
theorem hide_none {B : Heap} {l : List Addr} {b : Addr} (h : B.get? b = none) : (PySem.W.hideAll B l).get? b = none := by
  cases q : (PySem.W.hideAll B l).get? b with
  | none => rfl
  | some o =>
    have z := PySem.W.of_hideAll l q
    rw [h] at z
    cases z
/-- a block's own object let go: the exception is held as before, over the ground without it -/
theorem held_less {B h h2 : Heap} {l : List Env} {a L C : Addr} {Z : Obj → Prop} {m m2 : Str → Option Value} (hh : HandSPX.HeldZ B l a Z L h) (hn : h.Ns C m) (sb : Heap.SameBut C h h2) (hn2 : h2.Ns C m2) : HandSPX.HeldZ (PySem.W.hideAll B [C]) l a Z L h2 := by
  obtain ⟨b1, b0, f1, oe, vs, T, oT, ts, he, hz, hd, h1, hnT, hTe, hT, hdT, h3⟩ := hh
  obtain ⟨oC, es, ep, hoC, hdC, _⟩ := hn
  have aC : a ≠ C := by
    intro z
    rw [z, hoC] at he
    cases he
    rw [hdC] at hd
    cases hd
  have TC : T ≠ C := by
    intro z
    rw [z, hoC] at hT
    cases hT
    rw [hdC] at hdT
    cases hdT
  refine ⟨?_, hide_none b0, ?_, oe, vs, T, oT, ts, (sb.2 a aC).trans he, hz, hd, h1, hide_none hnT, hTe, (sb.2 T TC).trans hT, hdT, h3⟩
  · intro b o e
    have ne : b ≠ C := by
      intro z
      rw [z, PySem.W.hideAll_none [C] (List.mem_singleton.mpr rfl)] at e
      cases e
    exact (sb.2 b ne).trans (b1 b o (PySem.W.of_hideAll _ e))
  · exact Heap.FunFrames.sameBut sb hn2 (funFrames_none f1 fun b hb => hide_none (f1.mem hb).1)
section
variable {X : Cx} {E : XK} {pins pins' : List (Addr × Obj)} {σ σ' : L2.St} {HC H' : Hp} {sC s1 s2 : Shared} {scope : Scope} {cl : List (Str × Addr)} {fp : List Addr} {xe : Value → Shared → Prop} {u : Value}
/-- what a call in the item lets out leaves the comprehension -/
theorem raise_out (hs : X.stack = X.env :: X.outer) (hf : X.env.frame = some X.env.locals) (tk : Takes X fun cls d _ H => E cls d H) (VC : Inv X pins σ HC sC) (freeC : ∀ b ∈ fp, FpOk X pins HC b)
    (J : Inv (airOf (X.blk sC HC scope (compEnvC scope cl sC.heap.objs.size X.env) fp) xe) pins' σ' H' s1) (c : CX X.prog X.w X.stack H' s1 E u s2) :
    notedBy (model X.prog X.w) X.A (compEnvC scope cl sC.heap.objs.size X.env) (CompFails (model X.prog X.w) X.A X.xe (compEnvC scope cl sC.heap.objs.size X.env)) u s2 := by
  have VX : Inv X pins σ H' s1 := VC.call' (ch := fp) J.os J.base J.hok J.bare fun b hb => ⟨(freeC b hb).2.2.2.1, (freeC b hb).2.1, (freeC b hb).2.2.2.2.1, (freeC b hb).2.2.2.2.2⟩
  have hC : H' sC.heap.objs.size = none := J.free
  obtain ⟨m, hn, _⟩ := J.loc
  have hn : s1.heap.Ns sC.heap.objs.size m := hn
  obtain ⟨f0, f1, f2, f3, f4, f5⟩ := VC.fpOk (H' := H') (Nat.le_refl _) hC
  obtain ⟨a, B, H2, cls, d, rfl, fl, hok, ub, na, os, ag, hE⟩ := c
  generalize eC : sC.heap.objs.size = C at hC hn f0 f1 f2 f3 f4 f5 J ⊢
  have notFr : C ∉ frs X.stack := by
    intro hm
    rcases List.mem_cons.mp (VX.stkSub C hm) with z | z
    · exact f1 z
    · exact f2 z
  obtain ⟨oC, es, ep, hoC, hdC, rC⟩ := hn
  have H2C : H2 C = none := ub.free C oC hoC hC
  have hn2 : s2.heap.Ns C m := ⟨oC, es, ep, fl.1 _ _ (ub.keep C oC hoC hC notFr), hdC, rC⟩
  have hfr : X.A.frames = some (X.env :: X.outer) := by rw [VX.ok.frames, hs]
  show wpAny _ _ (noteFrame (.ref a) (compEnvC scope cl C X.env)) _ _ s2
  rw [noteFrame_env (.ref a) (cenv := compEnvC scope cl C X.env) (env := X.env) rfl]
  refine sky_note Zc.steady hfr hf (by rw [hs] at fl; exact fl) ?_
  intro h1 held k1
  have hn3 := hn2.upToSlots k1
  refine ⟨m, hn3, ?_⟩
  intro h4 m4 hn4 sb
  have held4 := held_less held hn3 sb hn4
  obtain ⟨_, _, _, oe, vs, T, oT, ts, he, hz, hd, h1', r⟩ := id held4
  unfold PySem.passOn
  refine wpAny_bind (wpAny_field he hd h1' ?_)
  rw [if_neg (show ¬ ((Value.ref T == Value.none) = true) from by simp)]
  show wpAny _ _ (setFlight (.ref a) X.env.frame >>= fun _ => _) _ _ _
  rw [hf]
  refine wpAny_bind (HandSPX.setFlight_onZ held4 fun h5 held5 k5 => ?_)
  refine wpAny_throw ?_
  obtain ⟨G, g1, g2⟩ := restrict h5 fun b => ((PySem.W.hideAll B [C]).get? b).isSome || decide (b ∈ frs X.stack)
  have inG : ∀ b o, G.get? b = some o → h5.get? b = some o ∧ (((PySem.W.hideAll B [C]).get? b).isSome = true ∨ b ∈ frs X.stack) := by
    intro b o e
    cases q : (((PySem.W.hideAll B [C]).get? b).isSome || decide (b ∈ frs X.stack)) with
    | true =>
      rw [g1 b q] at e
      exact ⟨e, by simpa [Bool.or_eq_true] using q⟩
    | false =>
      rw [g2 b q] at e
      cases e
  have ofB : ∀ b o, b ≠ C → B.get? b = some o → G.get? b = some o := by
    intro b o ne e
    have e' := PySem.W.hideAll_get [C] e (by simpa using ne)
    rw [g1 b (by simp [e'])]
    exact held5.1 b o e'
  have ofF : ∀ b o, s1.heap.get? b = some o → b ∈ frs X.stack → ∃ sl, G.get? b = some { o with slots := sl } := by
    intro b o e hb
    obtain ⟨_, o', e', nofields⟩ := VX.stack.mem hb
    rw [e] at e'
    cases e'
    obtain ⟨sl, q⟩ := ub.slot b o e hb
    obtain ⟨sl2, q2⟩ := k1 b _ q nofields
    have ne : b ≠ C := fun z => notFr (z ▸ hb)
    obtain ⟨sl3, q3⟩ := k5 b { o with slots := sl2 } ((sb.2 b ne).trans q2) nofields
    exact ⟨sl3, by rw [g1 b (by simp [hb])]; exact q3⟩
  have IG : Inv X pins σ H2 { s1 with heap := G, gens := s2.gens, drawn := s2.drawn, toks := s2.toks } := by
    refine VX.call (ch := [C]) ⟨?_, fun b o e _ hb _ => ofF b o e hb, fun b o e n _ => ub.free b o e n, ?_, ub.tups, ub.frzs, ub.tbls⟩ (fun b v e => (hok b v e).stay (fun c w hc r => ofB c w ?_ r) (fun _ r => r) fun _ _ r => r) ag ?_
    · intro b o e n hb hx
      exact ofB b o (by simpa using hx) (ub.keep b o e n hb)
    · intro b o e hx
      by_cases hb : b ∈ frs X.stack
      · obtain ⟨sl, q⟩ := ofF b o e hb
        exact ⟨_, q⟩
      · obtain ⟨o', q⟩ := ub.there b o e hb
        exact ⟨o', ofB b o' (by simpa using hx) q⟩
    · intro z
      rcases hc with hc | hc
      · rw [← hc, z, H2C] at e
        cases e
      · rw [z, H2C] at hc
        cases hc
    · intro b hb
      cases (List.mem_singleton.mp hb)
      exact ⟨f3, f1, f4, f5⟩
  refine tk _ _ ⟨a, PySem.W.hideAll B [C], _, pins, σ, H2, cls, d, rfl, IG, ?_, Heap.UpToSlots.of_keeps fun b o e => (inG b o e).1, .inr (.inr (by rw [hs]; exact held5)), na, os, ag, hE⟩
  intro b o e hb
  obtain ⟨e', h⟩ := inG b o e
  rcases h with h | h
  · obtain ⟨o', q⟩ := Option.isSome_iff_exists.mp h
    have z := held5.1 b o' q
    rw [e'] at z
    cases z
    exact q
  · exact absurd h hb
end
section
variable {X : Cx} {elt tg iter : Expr} {ifs : List Expr} {scope : Scope} {own : List (Str × Nat)} {wi : TI} {g : TG} {tt : TT} {te : TE}
/-- the turns of a block whose item may raise -/
theorem turns_air {σ : L2.St} {sA sB : Shared} {HA : Hp} {Q : VK} {pos : Pos} {ce : Env} {fp : List Addr} {D it : Addr} {tn : Nat → Heap → Prop} {J : It} {W : Nat → Nat → Hp → Prop} {m0 : Nat} {R : Result → Shared → Prop} {Y : Cx}
    (eY : Y = airOf (X.blk sA HA scope ce fp) (notedBy (model X.prog X.w) X.A ce fun e s' => R (.error e) s')) (hc : X.calm = true) (T : Turn X.prog X.w X.K tg J fp it tn) (pg : PG Y tg g) (pt : PTs Y ifs tt) (pe : PE Y elt te) (start : Inv Y [] (wipe σ (own.map (·.2))) HA sB) (st : tn 0 sB.heap) (nf : ∀ b ∈ fp, HA b = none) (w0 : W 0 m0 HA)
    (turn : ∀ i m H, W i m H → (J.stop i H ∧ Q (.ref D) H) ∨ (J.go i H ∧ ∃ Nx : Hp → Prop, (∀ H', Nx H' → ∃ m', m' < m ∧ W (i + 1) m' H') ∧ ∀ x H', J.yld i H x H' → g x (wipe σ (own.map (·.2))) H' fun σ2 H2 => wipe σ2 (own.map (·.2)) = wipe σ (own.map (·.2)) ∧ tt σ2 H2 fun b H3 =>
      if b = true then te σ2 H3 fun y H4 => ∃ acc, H4 D = some (.lst acc) ∧ acc.length < sizeLine ∧ Nx (upd H4 D (.lst (acc ++ [y]))) else Nx H3))
    (fin : ∀ {σ' : L2.St} {s' : Shared} {H' : Hp}, Inv Y [] σ' H' s' → Q (.ref D) H' → R (.ok .next) s') :
    codeAny (model X.prog X.w) X.A (.compLoop (.ListComp elt [⟨tg, iter, ifs, 0⟩] scope pos) 0 (.ref it) (.ref D) ce) R sB := by
  subst eY
  generalize eY : airOf (X.blk sA HA scope ce fp) (notedBy (model X.prog X.w) X.A ce fun e s' => R (.error e) s') = Y at pg pt pe start fin
  have y1 : Y.prog = X.prog := by rw [← eY]
  have y2 : Y.w = X.w := by rw [← eY]
  have y3 : Y.K = X.K := by rw [← eY]
  have y4 : Y.calm = X.calm := by rw [← eY]
  have y5 : Y.A = X.A := by rw [← eY]
  have y6 : Y.env = ce := by rw [← eY]
  have y7 : Y.ex = fp := by rw [← eY]
  have y8 : Y.xe = notedBy (model X.prog X.w) X.A ce fun e s' => R (.error e) s' := by rw [← eY]
  have y9 : Y.pn = [] := by rw [← eY]
  have loose : ∀ {σ' : L2.St} {H' : Hp} {s' : Shared}, Inv Y [] σ' H' s' → (∀ b ∈ fp, H' b = none) → ∀ b ∈ fp, FpOk Y [] H' b := by
    intro σ' H' s' V none_ b hb
    have hb' : b ∈ Y.ex := by rw [y7]; exact hb
    exact ⟨none_ b hb, (V.ok.exf b hb').1, V.ok.exfs b hb', .inl hb', fun x c e => (V.ok.exf b hb').2 x c e, fun q hq => by rw [y9] at hq; simp at hq⟩
  refine compLoop_any (fun k sC => ∃ j HC, Inv Y [] (wipe σ (own.map (·.2))) HC sC ∧ tn j sC.heap ∧ (∀ b ∈ fp, HC b = none) ∧ W j k HC) ?_ m0 ⟨0, HA, start, st, nf, w0⟩
  intro k sC hC
  obtain ⟨j, HC, VC, tC, nC, wC⟩ := hC
  rw [← y8]
  rw [← y1, ← y2, ← y5, ← y6]
  rcases turn j k HC wC with ⟨ends, q⟩ | ⟨goes, Nx, next, step⟩
  · have td := T.done Y y1 y2 y3 (y4.trans hc) j [] sC _ HC (fun _ _ => False) VC (loose VC nC) tC ends
    rw [← y1, ← y2] at td
    refine thnF td ?_
    rintro r sD ⟨rfl, VD⟩
    exact fin VD q
  · have ti := T.item Y y1 y2 y3 (y4.trans hc) j [] sC _ HC (fun _ _ => False) VC (loose VC nC) tC goes
    rw [← y1, ← y2] at ti
    refine thnF ti ?_
    rintro r sD ⟨u, rfl, told⟩
    refine thnF told ?_
    rintro - sE ⟨x, HE, VE, rE, yE, tE, nE⟩
    refine thn (pg.run _ sE _ HE x u _ (VE.pinned (loose VE nE) (T.obj _ _ tE)) rE (step x HE yE)) ?_
    rintro - sF ⟨σF, HF, VF, wF, qF⟩
    refine thn (pt.run _ sF σF HF _ VF qF) ?_
    rintro ok sG ⟨HG, VG, qG⟩
    have back_ : ∀ {sZ : Shared} {HZ : Hp}, Inv Y ([] ++ pinsAt fp sE.heap) σF HZ sZ → Nx HZ → ∃ k', k' < k ∧ ∃ j HC, Inv Y [] (wipe σ (own.map (·.2))) HC sZ ∧ tn j sZ.heap ∧ (∀ b ∈ fp, HC b = none) ∧ W j k' HC := by
      intro sZ HZ VZ nx
      obtain ⟨k', less, wZ⟩ := next HZ nx
      have held_ : ∀ b ∈ fp, ∀ o, sE.heap.get? b = some o → sZ.heap.get? b = some o ∧ HZ b = none := by
        intro b hb o e
        have z := VZ.pin (b, o) (List.mem_append_right _ (List.mem_append_right _ (mem_pinsAt hb e)))
        exact ⟨z.1, z.2.1⟩
      refine ⟨k', less, j + 1, HZ, (VZ.unpinned (pins := [])).weak (by rw [← wF, wipe_length]) (fun i v e => ?_), T.keep _ _ _ tE fun b hb o e => (held_ b hb o e).1, fun b hb => ?_, wZ⟩
      · rw [← wF] at e
        exact (wipe_some e).1
      · obtain ⟨o, e, _⟩ := T.obj _ _ tE b hb
        exact (held_ b hb o e).2
    cases ok
    · simp only [Bool.false_eq_true, if_false] at qG ⊢
      exact back_ VG qG
    · simp only [if_true] at qG ⊢
      refine thn (pe.run _ sG σF HG _ VG qG) ?_
      rintro z sH ⟨yv, HH, VH, rH, acc, eD, few, nx⟩
      exact app_ok (X := Y) VH eD few rH fun sI VI => back_ VI nx
/-- a list comprehension whose item may raise what E tells: it leaves the def, nothing of the block is seen -/
theorem pe_lcE {E : XK} {pos : Pos} (hs : X.stack = X.env :: X.outer) (hf : X.env.frame = some X.env.locals) (tk : Takes X fun cls d _ H => E cls d H) (hc : X.calm = true) (hN : X.N.Nodup) (hi : PI X tg iter wi) (ok : BlkOk X.N X.env.scope scope own)
    (hg : ∀ (s : Shared) (H : Hp) (C : Addr) (cl : List (Str × Addr)) (fp : List Addr) (xe : Value → Shared → Prop), PG (airOf (X.blk s H scope (compEnvC scope cl C X.env) fp) xe) tg g)
    (ht : ∀ (s : Shared) (H : Hp) (C : Addr) (cl : List (Str × Addr)) (fp : List Addr) (xe : Value → Shared → Prop), PTs (airOf (X.blk s H scope (compEnvC scope cl C X.env) fp) xe) ifs tt)
    (he : ∀ (s : Shared) (H : Hp) (C : Addr) (cl : List (Str × Addr)) (fp : List Addr) (xe : Value → Shared → Prop), Passes (L2.CX X.prog X.w) (airOf (X.blk s H scope (compEnvC scope cl C X.env) fp) xe) E → PE (airOf (X.blk s H scope (compEnvC scope cl C X.env) fp) xe) elt te) (hset : ∀ x, foldedSetIterable iter X.env x = pure x := by intro _; rfl) :
    PE X (.ListComp elt [⟨tg, iter, ifs, 0⟩] scope pos) (tLc wi g tt te (own.map (·.2))) := by
  refine ⟨fun pins s σ H Q I told => ?_⟩
  have captured : ∀ y ∈ scope.names, y.2 = .free → ∃ c, X.env.cells.lookup y.1 = some c := by
    intro y hy e
    rcases ok.free y hy e with k | k
    · exact I.ok.has _ (.inl k)
    · exact I.ok.has _ (.inr k)
  rw [eval_ListComp]
  refine PySem.comprehension_at (use := none) rfl hset (closure_ok captured) ok.kind (fun y hy e => by rw [ok.uniq y hy, e]) (thn (hi.run pins s σ H _ I told) ?_)
  intro xv sA asked
  refine thn asked ?_
  intro itv sB gotten
  obtain ⟨it, fp, tn, J, HB, rfl, VB, T, tB, free_, q⟩ := gotten
  refine wpAny_newObj_type (newEnv_comp ?_) (by show 0 ≤ sizeLine; decide)
  -- the new list
  have newD : HB sB.heap.objs.size = none := VB.hok.fresh (Nat.le_refl _)
  obtain ⟨W, ⟨m0, w0⟩, turn⟩ := q sB.heap.objs.size newD
  have VC : Inv X pins σ (upd HB sB.heap.objs.size (.lst [])) { sB with heap := sB.heap.push { cls := .type "list", data := .seq ([] : List Value).toArray } } :=
    VB.laid (t' := sB.toks) (fun b o e => Heap.get?_push_of_some _ e) (Nat.le_refl _) ⟨Nat.zero_le _, [], 0, .nil, Heap.get?_push_size _ rfl⟩
  generalize eC : ({ sB with heap := sB.heap.push { cls := .type "list", data := .seq ([] : List Value).toArray } } : Shared) = sC at VC
  have hC : sC.heap = sB.heap.push { cls := .type "list", data := .seq ([] : List Value).toArray } := by rw [← eC]
  have young : ∀ b ∈ fp, b < sB.heap.objs.size := by
    intro b hb
    obtain ⟨o, e, _⟩ := T.obj _ _ tB b hb
    exact Heap.lt_size e
  have freeC : ∀ b ∈ fp, FpOk X pins (upd HB sB.heap.objs.size (.lst [])) b ∧ b < sC.heap.objs.size := by
    intro b hb
    have less := young b hb
    refine ⟨⟨?_, (free_ b hb).2⟩, by rw [hC, Heap.size_push]; exact Nat.lt_succ_of_lt less⟩
    rw [upd_ne (Nat.ne_of_lt less)]
    exact (free_ b hb).1
  have tC : tn 0 sC.heap := T.keep _ _ _ tB fun b _ o e => by rw [hC]; exact Heap.get?_push_of_some _ e
  generalize eD : sB.heap.objs.size = D at newD w0 VC freeC turn young
  generalize eH : upd HB D (.lst []) = HC at VC w0 freeC
  have start := block_start VC ok hN freeC
  have goal_ : codeAny (model X.prog X.w) X.A (.compStart (.ListComp elt [⟨tg, iter, ifs, 0⟩] scope pos) 0 (.ref it) (.ref D) (compEnvC scope (cellsFrom (sC.heap.objs.size + 1) scope.names (cloFrom X.env.cells scope.names [])) sC.heap.objs.size X.env))
      (compEnds (model X.prog X.w) X.A X.xe none (EP X pins σ Q) (.ref D) (compEnvC scope (cellsFrom (sC.heap.objs.size + 1) scope.names (cloFrom X.env.cells scope.names [])) sC.heap.objs.size X.env)) { sC with heap := pushCells (sC.heap.push { cls := .type "dict", data := .dict #[] }) scope.names } := by
    have tD : tn 0 (pushCells (sC.heap.push { cls := .type "dict", data := .dict #[] }) scope.names) := T.keep _ _ _ tC fun b _ o e => pushCells_keeps _ _ _ _ (Heap.get?_push_of_some _ e)
    have pass : ∀ xe', xe' = (notedBy (model X.prog X.w) X.A (compEnvC scope (cellsFrom (sC.heap.objs.size + 1) scope.names (cloFrom X.env.cells scope.names [])) sC.heap.objs.size X.env) (CompFails (model X.prog X.w) X.A X.xe (compEnvC scope (cellsFrom (sC.heap.objs.size + 1) scope.names (cloFrom X.env.cells scope.names [])) sC.heap.objs.size X.env))) → Passes (L2.CX X.prog X.w) (airOf (X.blk sC HC scope (compEnvC scope (cellsFrom (sC.heap.objs.size + 1) scope.names (cloFrom X.env.cells scope.names [])) sC.heap.objs.size X.env) fp) xe') E := by
      rintro xe' rfl pins' σ' H' s1 u s2 K c
      exact raise_out hs hf tk VC (fun b hb => (freeC b hb).1) K c
    have loop := turns_air (X := X) (iter := iter) (te := te) (own := own) (pos := pos) (sB := { sC with heap := pushCells (sC.heap.push { cls := .type "dict", data := .dict #[] }) scope.names }) (R := compEnds (model X.prog X.w) X.A X.xe none (EP X pins σ Q) (.ref D) (compEnvC scope (cellsFrom (sC.heap.objs.size + 1) scope.names (cloFrom X.env.cells scope.names [])) sC.heap.objs.size X.env)) rfl hc T
      (hg sC HC sC.heap.objs.size (cellsFrom (sC.heap.objs.size + 1) scope.names (cloFrom X.env.cells scope.names [])) fp _) (ht sC HC sC.heap.objs.size _ fp _) (he sC HC sC.heap.objs.size _ fp _ (pass _ rfl)) (inv_air start) tD (fun b hb => (freeC b hb).1.1) w0 turn ?_
    · exact codeAny_compStart_list loop (T.self X.A 0 _ _ _ tD loop)
    · intro σZ sZ HZ VZ qZ
      have VX : Inv X pins σ HZ sZ := VC.call' (ch := fp) VZ.os VZ.base VZ.hok VZ.bare fun b hb => ⟨(freeC b hb).1.2.2.2.1, (freeC b hb).1.2.1, (freeC b hb).1.2.2.2.2.1, (freeC b hb).1.2.2.2.2.2⟩
      have own_ : HZ sC.heap.objs.size = none := VZ.free
      obtain ⟨m, hn, _⟩ := VZ.loc
      obtain ⟨f0, f1, f2, f3, f4, f5⟩ := VC.fpOk (H' := HZ) (Nat.le_refl _) own_
      exact ⟨m, hn, fun h'' sb => ⟨.ref D, HZ, VX.turned (t' := sZ.toks) (fun b o hb e => (sb.2 b hb).trans e) f0 f1 f3 f4 f5, rfl, qZ⟩⟩
  subst eC eD
  exact goal_
end
end L3
end
section
set_option maxHeartbeats 4000000
namespace L3
open PySem PySem.Spec PyProof.Rows L2
/-- over a list or a tuple -/
theorem pi_or {X : Cx} {tg l : Expr} {w1 w2 : TI} (h1 : PI X tg l w1) (h2 : PI X tg l w2) : PI X tg l (fun σ H R => w1 σ H R ∨ w2 σ H R) :=
  ⟨fun pins s σ H R I h => h.elim (h1.run pins s σ H R I) (h2.run pins s σ H R I)⟩
theorem paired_at {α β : Type} {F : α → β → Prop} {l : List α} {m : List β} (p : Paired F l m) : ∀ {i : Nat} {a : α}, l[i]? = some a → ∃ b, m[i]? = some b ∧ F a b := by
  induction p with
  | nil => intro i a h; cases h
  | cons q _ ih =>
    intro i a h
    cases i with
    | zero => cases h; exact ⟨_, rfl, q⟩
    | succ j => exact ih h
theorem paired_len {α β : Type} {F : α → β → Prop} {l : List α} {m : List β} (p : Paired F l m) : l.length = m.length := Paired.length p
theorem same_none {H H' : Hp} {b : Addr} (s : Same H H') (h : H' b = none) : H b = none := by
  cases q : H b with
  | none => rfl
  | some o =>
    have z := s b o q
    rw [h] at z
    cases z
theorem same_rd {H H' : Hp} {a : Addr} {u : HO} (s : Same H H') (h : L2.Rd H a u) : L2.Rd H' a u := by
  rcases h with h | ⟨o, h⟩
  · exact .inl (s _ _ h)
  · exact .inr ⟨o, s _ _ h⟩
theorem same_tup {K : PySem.W.Frag} {H H' : Hp} {a : Addr} {xs : List V} (s : Same H H') (h : SqT K H a xs) : SqT K H' a xs := by
  rcases h with h | h
  · exact .inl (same_rd s h)
  · exact .inr h
theorem take_snoc {β : Type} {m : List β} {i : Nat} {b : β} (h : m[i]? = some b) : m.take (i + 1) = m.take i ++ [b] := by
  rw [List.take_succ, h]
  rfl
end L3
namespace K03
open PySem PySem.Spec PyProof.Rows L2 LamX NdefX L3
abbrev sIsList : Stmt := top 8
abbrev sNeedL : Stmt := top 11
abbrev sRList : Stmt := top 21
/-- whether a value is a list or a tuple -/
def IsLT (K : PySem.W.Frag) (H : Hp) (v : V) (b : Bool) : Prop := ∃ t, TyX K H v t ∧ PySem.W.kitAny K t [.type "list", .type "tuple"] = some b
theorem IsLT.same {K : PySem.W.Frag} {H H' : Hp} {v : V} {b : Bool} (h : IsLT K H v b) (s : Same H H') : IsLT K H' v b := by
  obtain ⟨t, h1, h2⟩ := h
  exact ⟨t, h1.same s, h2⟩
theorem kitLT {K : PySem.W.Frag} {T : String} {b1 b2 : Bool} (h1 : kitB T "list" = some b1) (h2 : kitB T "tuple" = some b2) : PySem.W.kitAny K (.type T) [.type "list", .type "tuple"] = some (b1 || b2) := by
  refine kitAny_cons (kit_ty h1) (fun e => ?_) fun e => by rw [e]; rfl
  subst e
  exact kitAny_cons (kit_ty h2) (fun e => by rw [e]; rfl) fun e => by rw [e]; rfl
/-- a value that is a list or a tuple of these -/
def SeqV (K : PySem.W.Frag) (H : Hp) (v : V) (xs : List V) : Prop := ∃ a, v = .ref a ∧ (SqL K H a xs ∨ SqT K H a xs)
theorem SeqV.isLT {K : PySem.W.Frag} {H : Hp} {v : V} {xs : List V} (h : SeqV K H v xs) : IsLT K H v true := by
  obtain ⟨a, rfl, h | h⟩ := h
  · refine ⟨.type "list", ?_, kitLT (b1 := true) (b2 := false) (by decide +kernel) (by decide +kernel)⟩
    rcases h with (h | ⟨o, h⟩) | ⟨o, its, n, h1, h2, _⟩
    · exact .base (.lst h)
    · exact .base (.frz h)
    · exact .kList h1 h2
  · refine ⟨.type "tuple", ?_, kitLT (b1 := false) (b2 := true) (by decide +kernel) (by decide +kernel)⟩
    rcases h with (h | ⟨o, h⟩) | ⟨o, its, n, h1, h2, _⟩
    · exact .base (.tup h)
    · exact .fTuple h
    · exact .kTuple h1 h2
theorem SeqV.same {K : PySem.W.Frag} {H H' : Hp} {v : V} {xs : List V} (h : SeqV K H v xs) (s : Same H H') : SeqV K H' v xs := by
  obtain ⟨a, e, h | h⟩ := h
  · exact ⟨a, e, .inl (s.seq h)⟩
  · exact ⟨a, e, .inr (same_tup s h)⟩
theorem Bad.mono {cB : Addr} {v : V} {H H' : Hp} {E : XK} (h : Bad cB v H E) (s : Same H H') : Bad cB v H' E := fun d H2 n s2 e => h d H2 (same_none s n) (s.trans s2) e
def spIsLT (K : PySem.W.Frag) : Sp := fun vs H Q _ => ∃ v b, vs = [v] ∧ IsLT K H v b ∧ ∀ H', Same H H' → Q (.bl b) H'
def spNeedL (K : PySem.W.Frag) (cB : Addr) : Sp := fun vs H Q E => ∃ v, vs = [v] ∧ ((IsLT K H v true ∧ ∀ H', Same H H' → Q v H') ∨ (IsLT K H v false ∧ Bad cB v H E))
/-- a Ratio | what stands for one: an int, a Ratio -/
def RV (C : Addr) (H : Hp) (v : V) (p : Int × Int) : Prop := ∃ a dx, v = .ref a ∧ H a = some (rat C dx p)
def Sh (C : Addr) (H : Hp) (v : V) (p : Int × Int) : Prop := (v = .int p.1 ∧ p.2 = 1) ∨ RV C H v p
theorem RV.same {C : Addr} {H H' : Hp} {v : V} {p : Int × Int} (h : RV C H v p) (s : Same H H') : RV C H' v p := by
  obtain ⟨a, dx, e, h⟩ := h
  exact ⟨a, dx, e, s _ _ h⟩
theorem Sh.same {C : Addr} {H H' : Hp} {v : V} {p : Int × Int} (h : Sh C H v p) (s : Same H H') : Sh C H' v p := h.elim .inl fun h => .inr (h.same s)
/-- a new list of Ratios -/
def NewRL (C : Addr) (H : Hp) (Q : VK) (ps : List (Int × Int)) : Prop := ∀ (l : Addr) (ws : List V) (H' : Hp), H l = none → Same H H' → H' l = some (.lst ws) → Paired (RV C H') ws ps → Q (.ref l) H'
def spRL (K : PySem.W.Frag) (C cB : Addr) : Sp := fun vs H Q E => ∃ v, vs = [v] ∧ ((IsLT K H v false ∧ Bad cB v H E) ∨
  (∃ xs ps, SeqV K H v xs ∧ xs.length ≤ sizeLine ∧ Paired (Sh C H) xs ps ∧ NewRL C H Q ps) ∨
  (∃ xs ps u rest, SeqV K H v (xs ++ u :: rest) ∧ xs.length ≤ sizeLine ∧ Paired (Sh C H) xs ps ∧ Odd K H u ∧ Bad cB u H E))
section
variable {P : Program} {w : World} {K : PySem.W.Frag} {mg : Str → Option Value} {base : Heap} {cB cN C fI : Addr}
theorem scIsList : FnScope ["value"] ["value"] (defScope sIsList) := ⟨rfl, rfl, rfl, by decide +kernel, rfl, by decide +kernel, by decide +kernel⟩
theorem ok_isLT {f : Addr} {fd : FuncData} (F : Fun K "is_list" "is_list" sIsList f fd) (B : TxtR mg) (bt : mg "tuple" = none) : FnOk P w K mg base CX0 1 f fd ["value"] (spIsLT K) := by
  refine F.ok scIsList (fun vs H Q E h => ?_) (fun cdv A outer s H vs Q E hr h => ?_)
  · obtain ⟨v, b, rfl, _⟩ := h
    rfl
  · obtain ⟨v, b, rfl, ⟨t, h1, h2⟩, k⟩ := h
    refine ⟨_, pss_one (ps_ret (pe_callB call_isiT (by rfl) B.isi (by decide +kernel) (pa_cons (pv 0) (pa_cons (pe_tup (pa_cons (pe_bltn (v := .ty "list") (u := .type "list") (by rfl) B.list (by decide +kernel) rfl) (pa_cons (pe_bltn (v := .ty "tuple") (u := .type "tuple") (by rfl) bt (by decide +kernel) rfl) pa_nil))) pa_nil)))), ?_⟩
    refine ⟨_, rfl, by show 2 ≤ sizeLine; decide, fun T nT => ?_⟩
    have z : Same H (upd H T (.tup [.ty "list", .ty "tuple"])) := Same.new (fun _ _ e => e) nT
    exact ⟨v, T, _, t, _, b, rfl, upd_same, .cons (.ty _) (.cons (.ty _) .nil), h1.same z, h2, k _ z⟩
theorem scNeedL : FnScope ["value"] ["value"] (defScope sNeedL) := ⟨rfl, rfl, rfl, by decide +kernel, rfl, by decide +kernel, by decide +kernel⟩
theorem ok_needL {f fi : Addr} {fd fdi : FuncData} (F : Fun K "need_list" "need_list" sNeedL f fd) (G : FnOk P w K mg base CX0 1 fi fdi ["value"] (spIsLT K)) (gi : mg "is_list" = some (.ref fi)) (kp : PySem.W.keepIn K (.ref fi) = true) (bi : Binds K fdi ["value"] []) (T : ErrR P w K mg base cB cN) :
    FnOk P w K mg base (L2.CX P w) 3 f fd ["value"] (spNeedL K cB) := by
  refine F.okX scNeedL (fun vs H Q E h => ?_) (fun cdv A outer s H vs Q E hr h => ?_)
  · obtain ⟨v, rfl, _⟩ := h
    rfl
  · obtain ⟨v, rfl, k⟩ := h
    have hr1 : Room 1 _ := hr.mono (by decide)
    refine ⟨_, pss_cons (ps_if (pt_not (pt_val (pe_call G hr1 (by rfl) gi kp bi .nil pass0 (pa_cons (pv 0) pa_nil)))) (pss_one (ps_raise rfl (takes_of rfl rfl rfl rfl) (pmk_retX rfl (pe_one1 T.B hr (pv 0))))) pss_nil) (pss_one (ps_ret (pv 0))), ?_⟩
    rcases k with ⟨h, q⟩ | ⟨h, q⟩
    · exact ⟨_, rfl, v, true, rfl, h, fun H' z => ⟨_, rfl, _, rfl, q H' z⟩⟩
    · refine ⟨_, rfl, v, false, rfl, h, fun H' z => ⟨_, rfl, _, rfl, ?_⟩⟩
      exact fun a dx H1 ha hd s e ed ne => ⟨a, _, dx, rfl, e, fr0_none (same_none z ha), raises_own T.B.Z.su T.tB, q dx _ (same_none z hd) (same_del (z.trans s) (same_none z ha)) (by rw [delH_ne ne]; exact ed)⟩
theorem scRList : FnScope ["values", "value"] ["values"] (defScope sRList) := ⟨rfl, rfl, rfl, by decide +kernel, rfl, by decide +kernel, by decide +kernel⟩
theorem ok_rList {f fn fa : Addr} {fd fdn fda : FuncData} (F : Fun K "ratio_list" "ratio_list" sRList f fd) (R : Rat P w K mg base cB cN C fI) (G : FnOk P w K mg base (L2.CX P w) 3 fn fdn ["value"] (spNeedL K cB)) (gn : mg "need_list" = some (.ref fn)) (kn : PySem.W.keepIn K (.ref fn) = true) (bn : Binds K fdn ["value"] [])
    (Ga : FnOk P w K mg base (L2.CX P w) 6 fa fda ["value"] (spAs K C cB)) (ga : mg "as_ratio" = some (.ref fa)) (ka : PySem.W.keepIn K (.ref fa) = true) (ba : Binds K fda ["value"] []) : FnOk P w K mg base (L2.CX P w) 7 f fd ["values"] (spRL K C cB) := by
  refine F.okX scRList (fun vs H Q E h => ?_) (fun cdv A outer s H vs Q E hr h => ?_)
  · obtain ⟨v, rfl, _⟩ := h
    rfl
  · obtain ⟨v, rfl, k⟩ := h
    have nd := scRList.nd
    have hr3 : Room 3 _ := hr.mono (by decide)
    have hr5 : Room 5 _ := hr.mono (by decide)
    refine ⟨_, pss_one (ps_ret (pe_lcE (E := E) (own := [("value", 1)]) (g := gName 1) (tt := tYes) rfl rfl (takes_of rfl rfl rfl rfl) rfl nd (pi_or (pi_list (pe_call G hr3 (by rfl) gn kn bn .nil (passK (takes_of rfl rfl rfl rfl)) (pa_cons (pv 0) pa_nil))) (pi_tup (pe_call G hr3 (by rfl) gn kn bn .nil (passK (takes_of rfl rfl rfl rfl)) (pa_cons (pv 0) pa_nil))))
      (blkOk_by (N := ["values", "value"]) (sc := defScope sRList) (by decide +kernel)) (fun _ _ _ _ _ _ => pg_name (i := 1) nd rfl (Or.inl rfl)) (fun _ _ _ _ _ _ => pts_nil) (fun _ _ _ _ _ _ hp => pe_asRK K R hr5 hp (fun _ => pv 1)))), ?_⟩
    -- one item that stands for a Ratio
    have item : ∀ (xs : List V) (ps : List (Int × Int)) (H0 : Hp) (D : Addr), xs.length ≤ sizeLine → Paired (Sh C H0) xs ps → H0 D = none → ∀ (i : Nat) (x : V) (H2 : Hp) (σ2 : L2.St), xs[i]? = some x → (Same H0 H2 ∧ ∃ ws, H2 D = some (.lst ws) ∧ Paired (RV C H2) ws (ps.take i)) →
        spAs K C cB [x] H2 (fun y H4 => ∃ acc, H4 D = some (.lst acc) ∧ acc.length < sizeLine ∧ (Same H0 (upd H4 D (.lst (acc ++ [y]))) ∧ ∃ ws, (upd H4 D (.lst (acc ++ [y]))) D = some (.lst ws) ∧ Paired (RV C (upd H4 D (.lst (acc ++ [y])))) ws (ps.take (i + 1)))) E := by
      intro xs ps H0 D few pr nD i x H2 σ2 hx p
      obtain ⟨s2, ws, hD, pw⟩ := p
      obtain ⟨b, hb, sh⟩ := paired_at pr hx
      have li : i < xs.length := (List.getElem?_eq_some_iff.mp hx).1
      have lw : ws.length = i := by
        rw [paired_len pw, List.length_take, ← paired_len pr]
        omega
      have tail : ∀ (y : V) (H4 : Hp), Same H2 H4 → RV C H4 y b → ∃ acc, H4 D = some (.lst acc) ∧ acc.length < sizeLine ∧ (Same H0 (upd H4 D (.lst (acc ++ [y]))) ∧ ∃ ws, (upd H4 D (.lst (acc ++ [y]))) D = some (.lst ws) ∧ Paired (RV C (upd H4 D (.lst (acc ++ [y])))) ws (ps.take (i + 1))) := by
        intro y H4 s4 ry
        have keep : ∀ v q, RV C H4 v q → RV C (upd H4 D (.lst (ws ++ [y]))) v q := by
          rintro v q ⟨a, dx, e, ha⟩
          refine ⟨a, dx, e, ?_⟩
          have ne : a ≠ D := fun z => by
            rw [z, s4 _ _ hD] at ha
            cases ha
          rw [upd_ne ne]
          exact ha
        refine ⟨ws, s4 _ _ hD, by omega, fun b o e => ?_, ws ++ [y], upd_same, ?_⟩
        · rw [upd_ne (ne_of_none e nD)]
          exact s4 _ _ (s2 _ _ e)
        · rw [take_snoc hb]
          exact (Paired.mapP pw fun v q h => keep v q (h.same s4)).snoc (keep y b ry)
      refine ⟨x, rfl, ?_⟩
      rcases sh with ⟨e, one⟩ | ⟨a, dx, e, ha⟩
      · refine .int b.1 e fun a dx H4 na s4 ea => tail _ _ s4 ⟨a, dx, rfl, ?_⟩
        rw [ea, ← one]
      · exact .rat a dx b e (s2 _ _ ha) (tail _ _ (fun _ _ z => z) ⟨a, dx, e, s2 _ _ ha⟩)
    rcases k with ⟨nl, q⟩ | ⟨xs, ps, ⟨a, rfl, sq⟩, few, pr, q⟩ | ⟨xs, ps, u, rest, ⟨a, rfl, sq⟩, few, pr, od, q⟩
    · exact .inl ⟨_, rfl, _, rfl, .inr ⟨nl, q⟩⟩
    · have isl : IsLT K H (.ref a) true := SeqV.isLT (xs := xs) ⟨a, rfl, sq⟩
      have fin : ∀ (H0 : Hp) (D : Addr), Same H H0 → H0 D = none → ∀ H5, (Same H0 H5 ∧ ∃ ws, H5 D = some (.lst ws) ∧ Paired (RV C H5) ws (ps.take xs.length)) → Q (.ref D) H5 := by
        rintro H0 D s0 nD H5 ⟨s5, ws, hD, pw⟩
        rw [paired_len pr, List.take_length] at pw
        exact q D ws H5 (same_none s0 nD) (s0.trans s5) hD pw
      rcases sq with sq | sq
      · refine .inl ⟨_, rfl, _, rfl, .inl ⟨isl, fun H0 s0 => ⟨a, rfl, ⟨xs, s0.seq sq⟩, fun D nD => lc_list (K := K) (a := a) (xs := xs) (fun i H2 => Same H0 H2 ∧ ∃ ws, H2 D = some (.lst ws) ∧ Paired (RV C H2) ws (ps.take i)) ⟨Same.new (fun _ _ e => e) nD, [], upd_same, .nil⟩ (fun i H2 _ p => p.1.seq (s0.seq sq)) ?_ (fin H0 D s0 nD)⟩⟩⟩
        exact fun i x H2 hx p => ⟨rfl, _, rfl, item xs ps H0 D few (Paired.mapP pr fun _ _ h => h.same s0) nD i x H2 [] hx p⟩
      · refine .inr ⟨_, rfl, _, rfl, .inl ⟨isl, fun H0 s0 => ⟨a, rfl, ⟨xs, same_tup s0 sq⟩, fun D nD => lc_tup (K := K) (a := a) (xs := xs) (fun i H2 => Same H0 H2 ∧ ∃ ws, H2 D = some (.lst ws) ∧ Paired (RV C H2) ws (ps.take i)) ⟨Same.new (fun _ _ e => e) nD, [], upd_same, .nil⟩ (fun i H2 _ p => same_tup p.1 (same_tup s0 sq)) ?_ (fin H0 D s0 nD)⟩⟩⟩
        exact fun i x H2 hx p => ⟨rfl, _, rfl, item xs ps H0 D few (Paired.mapP pr fun _ _ h => h.same s0) nD i x H2 [] hx p⟩
    · have isl : IsLT K H (.ref a) true := SeqV.isLT (xs := xs ++ u :: rest) ⟨a, rfl, sq⟩
      have step : ∀ (H0 : Hp) (D : Addr), Same H H0 → H0 D = none → ∀ i x H2, (xs ++ u :: rest)[i]? = some x → (i ≤ xs.length ∧ (Same H0 H2 ∧ ∃ ws, H2 D = some (.lst ws) ∧ Paired (RV C H2) ws (ps.take i))) →
          spAs K C cB [x] H2 (fun y H4 => ∃ acc, H4 D = some (.lst acc) ∧ acc.length < sizeLine ∧ (i + 1 ≤ xs.length ∧ (Same H0 (upd H4 D (.lst (acc ++ [y]))) ∧ ∃ ws, (upd H4 D (.lst (acc ++ [y]))) D = some (.lst ws) ∧ Paired (RV C (upd H4 D (.lst (acc ++ [y])))) ws (ps.take (i + 1))))) E := by
        rintro H0 D s0 nD i x H2 hx ⟨hi, p⟩
        by_cases lt : i < xs.length
        · rw [List.getElem?_append_left lt] at hx
          obtain ⟨x', e, st⟩ := item xs ps H0 D few (Paired.mapP pr fun _ _ h => h.same s0) nD i x H2 [] hx p
          cases e
          refine ⟨x, rfl, ?_⟩
          cases st with
          | rat a dx q hv e k =>
            obtain ⟨acc, k1, k2, k3⟩ := k
            exact .rat a dx q hv e ⟨acc, k1, k2, lt, k3⟩
          | int t hv k =>
            refine .int t hv fun a dx H' n s' e => ?_
            obtain ⟨acc, k1, k2, k3⟩ := k a dx H' n s' e
            exact ⟨acc, k1, k2, lt, k3⟩
          | odd o k => exact .odd o k
        · have e : i = xs.length := by omega
          subst e
          rw [List.getElem?_append_right (Nat.le_refl _), Nat.sub_self] at hx
          cases hx
          exact ⟨_, rfl, .odd (od.same (s0.trans p.1)) (q.mono (s0.trans p.1))⟩
      have fin : ∀ (H0 : Hp) (D : Addr) H5, ((xs ++ u :: rest).length ≤ xs.length ∧ (Same H0 H5 ∧ ∃ ws, H5 D = some (.lst ws) ∧ Paired (RV C H5) ws (ps.take (xs ++ u :: rest).length))) → Q (.ref D) H5 := fun H0 D H5 p => by
        have := p.1
        rw [List.length_append, List.length_cons] at this
        exact absurd this (by omega)
      rcases sq with sq | sq
      · refine .inl ⟨_, rfl, _, rfl, .inl ⟨isl, fun H0 s0 => ⟨a, rfl, ⟨_, s0.seq sq⟩, fun D nD => lc_list (K := K) (a := a) (xs := xs ++ u :: rest) (fun i H2 => i ≤ xs.length ∧ (Same H0 H2 ∧ ∃ ws, H2 D = some (.lst ws) ∧ Paired (RV C H2) ws (ps.take i))) ⟨Nat.zero_le _, Same.new (fun _ _ e => e) nD, [], upd_same, .nil⟩ (fun i H2 _ p => p.2.1.seq (s0.seq sq)) ?_ (fin H0 D)⟩⟩⟩
        exact fun i x H2 hx p => ⟨rfl, _, rfl, step H0 D s0 nD i x H2 hx p⟩
      · refine .inr ⟨_, rfl, _, rfl, .inl ⟨isl, fun H0 s0 => ⟨a, rfl, ⟨_, same_tup s0 sq⟩, fun D nD => lc_tup (K := K) (a := a) (xs := xs ++ u :: rest) (fun i H2 => i ≤ xs.length ∧ (Same H0 H2 ∧ ∃ ws, H2 D = some (.lst ws) ∧ Paired (RV C H2) ws (ps.take i))) ⟨Nat.zero_le _, Same.new (fun _ _ e => e) nD, [], upd_same, .nil⟩ (fun i H2 _ p => same_tup p.2.1 (same_tup s0 sq)) ?_ (fin H0 D)⟩⟩⟩
        exact fun i x H2 hx p => ⟨rfl, _, rfl, step H0 D s0 nD i x H2 hx p⟩
end
end K03
end
section
set_option maxHeartbeats 4000000
namespace L3
open PySem PySem.Spec PyProof.Rows L2
/-- the places that a slice names -/
def placesOf (n : Nat) (lo hi st : Option Int) : List Nat := sliceRange (sliceBounds lo hi st n).1 (sliceBounds lo hi st n).2.1 (sliceBounds lo hi st n).2.2
def pickG {α : Type} (xs : List α) (lo hi st : Option Int) : List α := (placesOf xs.length lo hi st).filterMap fun i => xs[i]?
theorem vals_at {xs : List V} {us : List Value} (r : Vals xs us) : ∀ i : Nat, (xs[i]? = none ∧ us[i]? = none) ∨ ∃ x u, xs[i]? = some x ∧ us[i]? = some u ∧ RelV x u := by
  induction r with
  | nil => exact fun i => .inl ⟨rfl, rfl⟩
  | cons q _ ih =>
    intro i
    cases i with
    | zero => exact .inr ⟨_, _, rfl, rfl, q⟩
    | succ j => exact ih j
theorem vals_among {xs : List V} {us : List Value} (r : Vals xs us) : ∀ l : List Nat, Vals (l.filterMap fun i => xs[i]?) (l.filterMap fun i => us[i]?)
  | [] => .nil
  | i :: l => by
    rcases vals_at r i with ⟨a, b⟩ | ⟨x, u, a, b, q⟩
    · rw [List.filterMap_cons, a, List.filterMap_cons, b]
      exact vals_among r l
    · rw [List.filterMap_cons, a, List.filterMap_cons, b]
      exact .cons q (vals_among r l)
theorem vals_pick {xs : List V} {us : List Value} (r : Vals xs us) (lo hi st : Option Int) : Vals (pickG xs lo hi st) (slicePick us.toArray lo hi st).toList := by
  have e : (slicePick us.toArray lo hi st).toList = (placesOf xs.length lo hi st).filterMap fun i => us[i]? := by
    unfold slicePick placesOf
    rw [List.size_toArray, ← r.length]
    simp
  rw [e]
  exact vals_among r _
theorem among_le {α : Type} (xs : List α) : ∀ l : List Nat, (l.filterMap fun i => xs[i]?).length ≤ l.length
  | [] => Nat.le_refl _
  | i :: l => by
    rw [List.filterMap_cons]
    cases xs[i]? with
    | none => exact Nat.le_succ_of_le (among_le xs l)
    | some x => exact Nat.succ_le_succ (among_le xs l)
section
variable {X : Cx} {e : Expr} {te : TE} {lo hi st : Option Expr} {tl tu ts : TO} {p3 pos : Pos}
/-- xs[lo:hi:step] of a list -/
def tPick (K : PySem.W.Frag) (te : TE) (tl tu ts : TO) : TE := fun σ H Q => te σ H fun x H1 => ∃ a, x = .ref a ∧ tl σ H1 fun l H2 => tu σ H2 fun u H3 => ts σ H3 fun k H4 => k ≠ some 0 ∧ ∃ xs, SqL K H4 a xs ∧ (pickG xs l u k).length ≤ sizeLine ∧ ∀ p, H4 p = none → Q (.ref p) (upd H4 p (.lst (pickG xs l u k)))
theorem pe_pick (he : PE X e te) (hl : PO X lo tl) (hu : PO X hi tu) (hs : PO X st ts) (htail : ∀ a T : Addr, subscripted (.Slice lo hi st p3) false (.ref a) (.ref T) = operate [.ref a, .ref T] (getItem (.ref a) (.ref T)) := by intro _ _; with_unfolding_all rfl) :
    PE X (.Subscript e (.Slice lo hi st p3) pos) (tPick X.K te tl tu ts) := by
  refine ⟨fun pins s σ H Q I told => ?_⟩
  refine Subscript_ (thn (he.run pins s σ H _ I told) ?_)
  rintro v sA ⟨x, HA, IA, rA, a, rfl, qA⟩
  cases (show v = Value.ref a from rA)
  refine wpAny_Slice (thn (hl.run pins sA σ HA _ IA qA) ?_)
  rintro vl sB ⟨l, HB, IB, pl, qB⟩
  refine thn (hu.run pins sB σ HB _ IB qB) ?_
  rintro vu sC ⟨u, HC, IC, pu, qC⟩
  refine thn (hs.run pins sC σ HC _ IC qC) ?_
  rintro vk sD ⟨k, HD, ID, pk, k0, xs, hx, few, q⟩
  have IE : Inv X pins σ HD { sD with heap := sD.heap.push { cls := .type "slice", data := .fields #[vl, vu, vk] } } := ID.kept (t' := sD.toks) fun b ob z => Heap.get?_push_of_some _ z
  obtain ⟨its, r, ht, hz⟩ := IE.list hx
  have same := r.length
  refine tail_any (ops := [Value.ref a, Value.ref sD.heap.objs.size]) ht.isList.typeIs PySem.slot_list_getitem.lookup ?_ (htail a _)
  refine wpAny_getItem_list_slice ht.isList (Heap.IsSliceOf.new _ vl vu vk) pl pu pk k0 ?_ (by rw [List.size_toArray]; omega)
  have picked := vals_pick r l u k
  refine ⟨.ref _, _, IE.laid (t' := sD.toks) (o := .lst (pickG xs l u k)) (fun b ob z => Heap.get?_push_of_some _ z) (Nat.le_refl _) ?_, rfl, q _ (IE.hok.fresh (Nat.le_refl _))⟩
  exact ⟨few, _, 0, picked, by
    rw [Array.toArray_toList]
    exact Heap.get?_push_size _ rfl⟩
/-- the same, the fragment named -/
theorem pe_pickK (K : PySem.W.Frag) (he : PE X e te) (hl : PO X lo tl) (hu : PO X hi tu) (hs : PO X st ts) (hK : X.K = K := by rfl) (htail : ∀ a T : Addr, subscripted (.Slice lo hi st p3) false (.ref a) (.ref T) = operate [.ref a, .ref T] (getItem (.ref a) (.ref T)) := by intro _ _; with_unfolding_all rfl) :
    PE X (.Subscript e (.Slice lo hi st p3) pos) (tPick K te tl tu ts) := by
  subst hK
  exact pe_pick he hl hu hs htail
end
/-! ### every m-th place from r on -/
theorem step_places {r m : Nat} (hm : 0 < m) (hr : r < m) : ∀ n : Nat, (List.range ((n + (m - 1) - r) / m)).map (fun k => r + m * k) = (List.range n).filter fun k => k % m == r := by
  intro n
  induction n with
  | zero =>
    have e : (0 + (m - 1) - r) / m = 0 := Nat.div_eq_of_lt (by omega)
    rw [e]
    rfl
  | succ n ih =>
    rw [List.range_succ, List.filter_append, ← ih]
    by_cases h : n % m = r
    · have e : (n + 1 + (m - 1) - r) / m = (n + (m - 1) - r) / m + 1 := by
        have d := Nat.div_add_mod n m
        have e1 : n + (m - 1) - r = m * (n / m) + (m - 1) := by omega
        have e2 : n + 1 + (m - 1) - r = m * (n / m + 1) := by rw [Nat.mul_add]; omega
        rw [e1, e2, Nat.mul_div_cancel_left _ hm, Nat.mul_add_div hm, Nat.div_eq_of_lt (by omega : m - 1 < m)]
      have e3 : r + m * ((n + (m - 1) - r) / m) = n := by
        have d := Nat.div_add_mod n m
        have e1 : n + (m - 1) - r = m * (n / m) + (m - 1) := by omega
        rw [e1, Nat.mul_add_div hm, Nat.div_eq_of_lt (by omega : m - 1 < m), Nat.add_zero]
        omega
      rw [e, List.range_succ, List.map_append, List.map_singleton, e3]
      simp [h]
    · have e : (n + 1 + (m - 1) - r) / m = (n + (m - 1) - r) / m := by
        have d := Nat.div_add_mod n m
        have l := Nat.mod_lt n hm
        by_cases lt : n % m < r
        · have e1 : n + (m - 1) - r = m * (n / m) + (n % m + (m - 1) - r) := by omega
          have e2 : n + 1 + (m - 1) - r = m * (n / m) + (n % m + 1 + (m - 1) - r) := by omega
          rw [e1, e2, Nat.mul_add_div hm, Nat.mul_add_div hm, Nat.div_eq_of_lt (by omega : n % m + (m - 1) - r < m), Nat.div_eq_of_lt (by omega : n % m + 1 + (m - 1) - r < m)]
        · have e1 : n + (m - 1) - r = m * (n / m + 1) + (n % m - 1 - r) := by rw [Nat.mul_add]; omega
          have e2 : n + 1 + (m - 1) - r = m * (n / m + 1) + (n % m - r) := by rw [Nat.mul_add]; omega
          rw [e1, e2, Nat.mul_add_div hm, Nat.mul_add_div hm, Nat.div_eq_of_lt (by omega : n % m - 1 - r < m), Nat.div_eq_of_lt (by omega : n % m - r < m)]
      rw [e]
      simp [h]
theorem places_step {r m : Nat} (hm : 0 < m) (hr : r < m) (n : Nat) : placesOf n (some (r : Int)) none (some (m : Int)) = (List.range n).filter fun k => k % m == r := by
  rw [← step_places hm hr]
  have mp : (m : Int) > 0 := by omega
  unfold placesOf
  have b : sliceBounds (some (r : Int)) none (some (m : Int)) n = (((min r n : Nat) : Int), (n : Int), (m : Int)) := by
    unfold sliceBounds
    simp only [Option.getD_some, if_pos mp, if_neg (show ¬ ((r : Int) < 0) by omega)]
    congr 1
    omega
  rw [b]
  unfold sliceRange
  dsimp only
  rw [if_pos mp]
  by_cases h : r < n
  · have e1 : min r n = r := by omega
    rw [e1, if_pos (by omega : (r : Int) < (n : Int))]
    have e2 : ((n : Int) - (r : Int) + (m : Int) - 1) / (m : Int) = (((n + (m - 1) - r) / m : Nat) : Int) := by
      rw [show (n : Int) - (r : Int) + (m : Int) - 1 = ((n + (m - 1) - r : Nat) : Int) by omega]
      rfl
    rw [e2, Int.toNat_natCast]
    apply List.map_congr_left
    intro k _
    have e3 : (r : Int) + (m : Int) * (k : Int) = ((r + m * k : Nat) : Int) := by simp
    rw [e3, Int.toNat_natCast]
  · have e1 : min r n = n := by omega
    rw [e1, if_neg (by omega : ¬ ((n : Int) < (n : Int)))]
    have e2 : (n + (m - 1) - r) / m = 0 := Nat.div_eq_of_lt (by omega)
    rw [e2]
    rfl
end L3
end
section
set_option maxHeartbeats 4000000
namespace K03
open PySem PySem.Spec PyProof.Rows L2 LamX NdefX L3
abbrev sIsW : Stmt := top 9
abbrev sNeedW : Stmt := top 10
abbrev sNeedM : Stmt := top 26
abbrev sNeedR : Stmt := top 27
abbrev sDealt : Stmt := top 28
abbrev sThin : Stmt := top 31
/-- no integer from lo to hi -/
def Off (K : PySem.W.Frag) (H : Hp) (v : V) (lo hi : Int) : Prop := NoInt K H v ∨ ∃ i : Int, v = .int i ∧ ¬ (lo ≤ i ∧ i ≤ hi)
theorem Off.same {K : PySem.W.Frag} {H H' : Hp} {v : V} {lo hi : Int} (h : Off K H v lo hi) (s : Same H H') : Off K H' v lo hi := by
  rcases h with ⟨t, b, c, h1, h2, h3, h4⟩ | h
  · exact .inl ⟨t, b, c, h1.same s, h2, h3, h4⟩
  · exact .inr h
def spIsW (K : PySem.W.Frag) : Sp := fun vs H Q _ => ∃ (v : V) (lo hi : Int), vs = [v, .int lo, .int hi] ∧ (((∃ i : Int, v = .int i ∧ lo ≤ i ∧ i ≤ hi) ∧ Q (.bl true) H) ∨ (Off K H v lo hi ∧ Q (.bl false) H))
def spNeedW (K : PySem.W.Frag) (cB : Addr) : Sp := fun vs H Q E => ∃ (v : V) (lo hi : Int), vs = [v, .int lo, .int hi] ∧ (((∃ i : Int, v = .int i ∧ lo ≤ i ∧ i ≤ hi) ∧ Q .non H) ∨ (Off K H v lo hi ∧ Bad cB v H E))
def spNeedM (K : PySem.W.Frag) (cB : Addr) : Sp := fun vs H Q E => ∃ v : V, vs = [v] ∧ (((∃ i : Int, v = .int i ∧ 2 ≤ i ∧ i ≤ 60) ∧ Q .non H) ∨ (Off K H v 2 60 ∧ Bad cB v H E))
def spNeedR (K : PySem.W.Frag) (cB : Addr) : Sp := fun vs H Q E => ∃ (v : V) (m : Int), vs = [v, .int m] ∧ (((∃ i : Int, v = .int i ∧ 0 ≤ i ∧ i ≤ m - 1) ∧ Q .non H) ∨ (Off K H v 0 (m - 1) ∧ Bad cB v H E))
/-- items that stand for these Ratios | the first thing that is wrong with items -/
def Given (K : PySem.W.Frag) (C : Addr) (H : Hp) (v : V) (ps : List (Int × Int)) : Prop := ∃ xs, SeqV K H v xs ∧ xs.length ≤ sizeLine ∧ Paired (Sh C H) xs ps
def Flawed (K : PySem.W.Frag) (C : Addr) (H : Hp) (v u : V) : Prop := (IsLT K H v false ∧ u = v) ∨ ∃ xs ps rest, SeqV K H v (xs ++ u :: rest) ∧ xs.length ≤ sizeLine ∧ Paired (Sh C H) xs ps ∧ Odd K H u
theorem spRL.good {K : PySem.W.Frag} {C cB : Addr} {H : Hp} {Q : VK} {E : XK} {v : V} {ps : List (Int × Int)} (g : Given K C H v ps) (q : NewRL C H Q ps) : spRL K C cB [v] H Q E := by
  obtain ⟨xs, h1, h2, h3⟩ := g
  exact ⟨v, rfl, .inr (.inl ⟨xs, ps, h1, h2, h3, q⟩)⟩
theorem spRL.flawed {K : PySem.W.Frag} {C cB : Addr} {H : Hp} {Q : VK} {E : XK} {v u : V} (g : Flawed K C H v u) (q : Bad cB u H E) : spRL K C cB [v] H Q E := by
  rcases g with ⟨h, rfl⟩ | ⟨xs, ps, rest, h1, h2, h3, h4⟩
  · exact ⟨_, rfl, .inl ⟨h, q⟩⟩
  · exact ⟨v, rfl, .inr (.inr ⟨xs, ps, u, rest, h1, h2, h3, h4, q⟩)⟩
/-- a list of Ratios; a new list of such lists -/
def LaneV (C : Addr) (H : Hp) (v : V) (ps : List (Int × Int)) : Prop := ∃ a xs, v = .ref a ∧ H a = some (.lst xs) ∧ Paired (RV C H) xs ps
/-- .. that is not D's own -/
def LaneN (C : Addr) (H : Hp) (D : Addr) (v : V) (ps : List (Int × Int)) : Prop := ∃ a xs, v = .ref a ∧ a ≠ D ∧ H a = some (.lst xs) ∧ Paired (RV C H) xs ps
theorem LaneN.v {C D : Addr} {H : Hp} {v : V} {ps : List (Int × Int)} (h : LaneN C H D v ps) : LaneV C H v ps := by
  obtain ⟨a, xs, e, _, r⟩ := h
  exact ⟨a, xs, e, r⟩
/-- D's list grows: what stands beside it -/
theorem rv_grow {C D : Addr} {H : Hp} {rs ys : List V} (hD : H D = some (.lst rs)) {v : V} {q : Int × Int} (h : RV C H v q) : RV C (upd H D (.lst ys)) v q := by
  obtain ⟨b, dx, rfl, hb⟩ := h
  have bD : b ≠ D := fun z => by
    rw [z, hD] at hb
    cases hb
  exact ⟨b, dx, rfl, by rw [upd_ne bD]; exact hb⟩
theorem LaneN.grow {C D : Addr} {H : Hp} {rs ys : List V} (hD : H D = some (.lst rs)) {v : V} {ps : List (Int × Int)} (h : LaneN C H D v ps) : LaneN C (upd H D (.lst ys)) D v ps := by
  obtain ⟨a, xs, e, na, ha, p⟩ := h
  exact ⟨a, xs, e, na, by rw [upd_ne na]; exact ha, Paired.mapP p fun _ _ z => rv_grow hD z⟩
theorem LaneN.same {C D : Addr} {H H' : Hp} {v : V} {ps : List (Int × Int)} (h : LaneN C H D v ps) (s : Same H H') : LaneN C H' D v ps := by
  obtain ⟨a, xs, e, na, h, p⟩ := h
  exact ⟨a, xs, e, na, s _ _ h, Paired.mapP p fun _ _ z => z.same s⟩
theorem LaneN.new {C D p : Addr} {H : Hp} {xs : List V} {ps : List (Int × Int)} (np : p ≠ D) (n : H p = none) (h : Paired (RV C H) xs ps) : LaneN C (upd H p (.lst xs)) D (.ref p) ps :=
  ⟨p, xs, rfl, np, upd_same, Paired.mapP h fun _ _ z => z.same (Same.new (fun _ _ e => e) n)⟩
theorem same_grow {D : Addr} {H H2 : Hp} {ys : List V} (nD : H D = none) (s : Same H H2) : Same H (upd H2 D (.lst ys)) := fun b o e => by
  rw [upd_ne (ne_of_none e nD)]
  exact s b o e
def NewLL (C : Addr) (H : Hp) (Q : VK) (ls : List (List (Int × Int))) : Prop := ∀ (l : Addr) (ws : List V) (H' : Hp), H l = none → Same H H' → H' l = some (.lst ws) → Paired (LaneV C H') ws ls → Q (.ref l) H'
def dealtOf (ps : List (Int × Int)) (n : Nat) : List (List (Int × Int)) := (List.range n).map fun (r : Nat) => pickG ps (some (r : Int)) none (some (n : Int))
def spDealt (K : PySem.W.Frag) (C cB : Addr) : Sp := fun vs H Q E => ∃ x m : V, vs = [x, m] ∧ ((∃ u, Flawed K C H x u ∧ Bad cB u H E) ∨ ∃ ps, Given K C H x ps ∧ ((Off K H m 2 60 ∧ Bad cB m H E) ∨ ∃ n : Nat, m = .int n ∧ 2 ≤ n ∧ n ≤ 60 ∧ NewLL C H Q (dealtOf ps n)))
def spThin (K : PySem.W.Frag) (C cB : Addr) : Sp := fun vs H Q E => ∃ x m r : V, vs = [x, m, r] ∧ ((∃ u, Flawed K C H x u ∧ Bad cB u H E) ∨ ∃ ps, Given K C H x ps ∧ ((Off K H m 2 60 ∧ Bad cB m H E) ∨ ∃ n : Nat, m = .int n ∧ 2 ≤ n ∧ n ≤ 60 ∧
  ((Off K H r 0 (n - 1) ∧ Bad cB r H E) ∨ ∃ k : Nat, r = .int k ∧ k < n ∧ NewRL C H Q (pickG ps (some (k : Int)) none (some (n : Int))))))
theorem paired_pick {α β : Type} {F : α → β → Prop} {l : List α} {m : List β} (p : Paired F l m) : ∀ is : List Nat, Paired F (is.filterMap fun i => l[i]?) (is.filterMap fun i => m[i]?)
  | [] => .nil
  | i :: is => by
    rw [List.filterMap_cons, List.filterMap_cons]
    cases q : l[i]? with
    | none =>
      have e : m[i]? = none := by
        rw [List.getElem?_eq_none_iff] at q ⊢
        rw [← paired_len p]
        exact q
      rw [e]
      exact paired_pick p is
    | some a =>
      obtain ⟨b, e, h⟩ := paired_at p q
      rw [e]
      exact .cons h (paired_pick p is)
theorem paired_pickG {α β : Type} {F : α → β → Prop} {l : List α} {m : List β} (p : Paired F l m) (lo hi st : Option Int) : Paired F (pickG l lo hi st) (pickG m lo hi st) := by
  unfold pickG
  rw [paired_len p]
  exact paired_pick p _
theorem pick_few {α : Type} {xs : List α} {r m : Nat} (hm : 0 < m) (hr : r < m) : (pickG xs (some (r : Int)) none (some (m : Int))).length ≤ xs.length := by
  unfold pickG
  refine Nat.le_trans (among_le xs _) ?_
  rw [places_step hm hr]
  exact Nat.le_trans (List.length_filter_le _ _) (by rw [List.length_range]; exact Nat.le_refl _)
section
variable {P : Program} {w : World} {K : PySem.W.Frag} {mg : Str → Option Value} {base : Heap} {cB cN C fI : Addr} {tL tM : Tok}
theorem scIsW : FnScope ["value", "low", "high"] ["value", "low", "high"] (defScope sIsW) := ⟨rfl, rfl, rfl, by decide +kernel, rfl, by decide +kernel, by decide +kernel⟩
theorem ok_isW {f fi : Addr} {fd fdi : FuncData} (F : Fun K "is_within" "is_within" sIsW f fd) (G : FnOk P w K mg base CX0 1 fi fdi ["value"] (spIsInt K)) (gi : mg "is_integer" = some (.ref fi)) (kp : PySem.W.keepIn K (.ref fi) = true) (bi : Binds K fdi ["value"] []) :
    FnOk P w K mg base CX0 2 f fd ["value", "low", "high"] (spIsW K) := by
  refine F.ok scIsW (fun vs H Q E h => ?_) (fun cdv A outer s H vs Q E hr h => ?_)
  · obtain ⟨v, lo, hi, rfl, _⟩ := h
    rfl
  · obtain ⟨v, lo, hi, rfl, k⟩ := h
    refine ⟨_, pss_one (ps_ret (pe_and (pe_call G hr (by rfl) gi kp bi .nil pass0 (pa_cons (pv 0) pa_nil)) (pe_one (pe_chain op_le op_le (pv 1) (pv 0) (pv 2))))), ?_⟩
    rcases k with ⟨⟨i, rfl, h1, h2⟩, q⟩ | ⟨⟨t, b, c, ty, h1, h2, h3⟩ | ⟨i, rfl, no⟩, q⟩
    · refine ⟨_, rfl, _, rfl, .inl ⟨⟨i, rfl⟩, true, rfl, ?_⟩⟩
      refine ⟨_, rfl, _, rfl, lo, i, rfl, rfl, _, rfl, ?_⟩
      rw [decide_eq_true h1]
      refine ⟨_, rfl, i, hi, rfl, rfl, ?_⟩
      show Q (.bl (decide (i ≤ hi))) H
      rw [decide_eq_true h2]
      exact q
    · exact ⟨_, rfl, _, rfl, .inr ⟨⟨t, b, c, ty, h1, h2, h3⟩, false, rfl, q⟩⟩
    · refine ⟨_, rfl, _, rfl, .inl ⟨⟨i, rfl⟩, true, rfl, ?_⟩⟩
      refine ⟨_, rfl, _, rfl, lo, i, rfl, rfl, _, rfl, ?_⟩
      by_cases h1 : lo ≤ i
      · rw [decide_eq_true h1]
        refine ⟨_, rfl, i, hi, rfl, rfl, ?_⟩
        show Q (.bl (decide (i ≤ hi))) H
        rw [decide_eq_false (fun h2 => no ⟨h1, h2⟩)]
        exact q
      · rw [decide_eq_false h1]
        exact q
theorem scNeedW : FnScope ["value", "low", "high"] ["value", "low", "high"] (defScope sNeedW) := ⟨rfl, rfl, rfl, by decide +kernel, rfl, by decide +kernel, by decide +kernel⟩
theorem ok_needW {f fi : Addr} {fd fdi : FuncData} (F : Fun K "need_within" "need_within" sNeedW f fd) (G : FnOk P w K mg base CX0 2 fi fdi ["value", "low", "high"] (spIsW K)) (gi : mg "is_within" = some (.ref fi)) (kp : PySem.W.keepIn K (.ref fi) = true) (bi : Binds K fdi ["value", "low", "high"] []) (T : ErrR P w K mg base cB cN) :
    FnOk P w K mg base (L2.CX P w) 3 f fd ["value", "low", "high"] (spNeedW K cB) := by
  refine F.okX scNeedW (fun vs H Q E h => ?_) (fun cdv A outer s H vs Q E hr h => ?_)
  · obtain ⟨v, lo, hi, rfl, _⟩ := h
    rfl
  · obtain ⟨v, lo, hi, rfl, k⟩ := h
    refine ⟨_, pss_one (ps_if (pt_not (pt_val (pe_call G hr (by rfl) gi kp bi .nil pass0 (pa_cons (pv 0) (pa_cons (pv 1) (pa_cons (pv 2) pa_nil)))))) (pss_one (ps_raise rfl (takes_of rfl rfl rfl rfl) (pmk_retX rfl (pe_one1 T.B hr (pv 0))))) pss_nil), ?_⟩
    rcases k with ⟨i, q⟩ | ⟨no, q⟩
    · exact ⟨_, rfl, _, rfl, _, rfl, v, lo, hi, rfl, .inl ⟨i, _, rfl, q⟩⟩
    · refine ⟨_, rfl, _, rfl, _, rfl, v, lo, hi, rfl, .inr ⟨no, _, rfl, ?_⟩⟩
      exact ⟨_, rfl, fun a dx H1 ha hd s e ed ne => ⟨a, _, dx, rfl, e, fr0_none ha, raises_own T.B.Z.su T.tB, q dx _ hd (same_del s ha) (by rw [delH_ne ne]; exact ed)⟩⟩
theorem scNeedM : FnScope ["value"] ["value"] (defScope sNeedM) := ⟨rfl, rfl, rfl, by decide +kernel, rfl, by decide +kernel, by decide +kernel⟩
theorem ok_needM {f fi : Addr} {fd fdi : FuncData} (F : Fun K "need_many" "need_many" sNeedM f fd) (G : FnOk P w K mg base (L2.CX P w) 3 fi fdi ["value", "low", "high"] (spNeedW K cB)) (gi : mg "need_within" = some (.ref fi)) (kp : PySem.W.keepIn K (.ref fi) = true) (bi : Binds K fdi ["value", "low", "high"] []) (gL : mg "LEAST" = some (.int 2 tL)) (gM : mg "MOST" = some (.int 60 tM)) :
    FnOk P w K mg base (L2.CX P w) 4 f fd ["value"] (spNeedM K cB) := by
  refine F.okX scNeedM (fun vs H Q E h => ?_) (fun cdv A outer s H vs Q E hr h => ?_)
  · obtain ⟨v, rfl, _⟩ := h
    rfl
  · obtain ⟨v, rfl, k⟩ := h
    refine ⟨_, pss_one (ps_expr (pe_call (E := E) G hr (by rfl) gi kp bi .nil (passK (takes_of rfl rfl rfl rfl)) (pa_cons (pv 0) (pa_cons (pe_glob (v := .int 2) (by rfl) gL ⟨_, rfl⟩) (pa_cons (pe_glob (v := .int 60) (by rfl) gM ⟨_, rfl⟩) pa_nil))))), ?_⟩
    exact ⟨_, rfl, v, 2, 60, rfl, k⟩
theorem scNeedR : FnScope ["value", "many"] ["value", "many"] (defScope sNeedR) := ⟨rfl, rfl, rfl, by decide +kernel, rfl, by decide +kernel, by decide +kernel⟩
theorem ok_needR {f fi : Addr} {fd fdi : FuncData} (F : Fun K "need_rest" "need_rest" sNeedR f fd) (G : FnOk P w K mg base (L2.CX P w) 3 fi fdi ["value", "low", "high"] (spNeedW K cB)) (gi : mg "need_within" = some (.ref fi)) (kp : PySem.W.keepIn K (.ref fi) = true) (bi : Binds K fdi ["value", "low", "high"] []) :
    FnOk P w K mg base (L2.CX P w) 4 f fd ["value", "many"] (spNeedR K cB) := by
  refine F.okX scNeedR (fun vs H Q E h => ?_) (fun cdv A outer s H vs Q E hr h => ?_)
  · obtain ⟨v, m, rfl, _⟩ := h
    rfl
  · obtain ⟨v, m, rfl, k⟩ := h
    refine ⟨_, pss_one (ps_expr (pe_call (E := E) G hr (by rfl) gi kp bi .nil (passK (takes_of rfl rfl rfl rfl)) (pa_cons (pv 0) (pa_cons pe_int (pa_cons (pe_op op_sub (pv 1) pe_int) pa_nil))))), ?_⟩
    exact ⟨_, rfl, _, rfl, m, 1, rfl, rfl, v, 0, m - 1, rfl, k⟩
theorem scDealt : FnScope ["items", "many", "told", "rest"] ["items", "many"] (defScope sDealt) := ⟨rfl, rfl, rfl, by decide +kernel, rfl, by decide +kernel, by decide +kernel⟩
theorem ok_dealt {f fr fm : Addr} {fd fdr fdm : FuncData} (F : Fun K "dealt" "dealt" sDealt f fd) (B : TxtR mg) (Gr : FnOk P w K mg base (L2.CX P w) 7 fr fdr ["values"] (spRL K C cB)) (gr : mg "ratio_list" = some (.ref fr)) (kr : PySem.W.keepIn K (.ref fr) = true) (br : Binds K fdr ["values"] [])
    (Gm : FnOk P w K mg base (L2.CX P w) 4 fm fdm ["value"] (spNeedM K cB)) (gm : mg "need_many" = some (.ref fm)) (km : PySem.W.keepIn K (.ref fm) = true) (bm : Binds K fdm ["value"] []) : FnOk P w K mg base (L2.CX P w) 8 f fd ["items", "many"] (spDealt K C cB) := by
  refine F.okX scDealt (fun vs H Q E h => ?_) (fun cdv A outer s H vs Q E hr h => ?_)
  · obtain ⟨x, m, rfl, _⟩ := h
    rfl
  · obtain ⟨x, m, rfl, k⟩ := h
    have nd := scDealt.nd
    have hr4 : Room 4 _ := hr.mono (by decide)
    refine ⟨_, pss_cons (ps_set (i := 2) nd rfl (Or.inr rfl) (pe_call (E := E) Gr hr (by rfl) gr kr br .nil (passK (takes_of rfl rfl rfl rfl)) (pa_cons (pv 0) pa_nil)))
      (pss_cons (ps_expr (pe_call (E := E) Gm hr4 (by rfl) gm km bm .nil (passK (takes_of rfl rfl rfl rfl)) (pa_cons (pv 1) pa_nil)))
      (pss_one (ps_ret (pe_lc (own := [("rest", 3)]) (g := gName 3) (tt := tYes) rfl nd (pi_range1 (by rfl) B.range (pa_cons (pv 1) pa_nil)) (blkOk_by (N := ["items", "many", "told", "rest"]) (sc := defScope sDealt) (by decide +kernel)) (fun _ _ _ _ _ => pg_name (i := 3) nd rfl (Or.inl rfl)) (fun _ _ _ _ _ => pts_nil)
        (fun _ _ _ _ _ => by exact (pe_pickK K (pv 2) (po_some (pv 3)) po_none (po_some (pv 1)))))))), ?_⟩
    rcases k with ⟨u, fl, q⟩ | ⟨ps, gv, k⟩
    · exact ⟨_, rfl, spRL.flawed fl q⟩
    · refine ⟨_, rfl, spRL.good gv ?_⟩
      intro l ws H1 nl s1 hl pw
      refine ⟨_, rfl, m, rfl, ?_⟩
      rcases k with ⟨no, q⟩ | ⟨n, rfl, n2, n60, q⟩
      · exact .inr ⟨no.same s1, q.mono s1⟩
      · refine .inl ⟨⟨n, rfl, by omega, by omega⟩, ?_⟩
        refine ⟨_, rfl, n, rfl, by omega, by omega, fun D nD => ?_⟩
        rw [Int.toNat_natCast]
        refine lc_range (fun i H2 => Same H1 H2 ∧ ∃ rs, H2 D = some (.lst rs) ∧ rs.length = i ∧ Paired (LaneN C H2 D) rs ((dealtOf ps n).take i)) ⟨Same.new (fun _ _ e => e) nD, [], upd_same, rfl, .nil⟩ ?_ ?_
        · rintro i H2 hi ⟨s2, rs, hD, lr, pr⟩
          have e0 : (0 : Int) + (i : Int) = (i : Int) := by omega
          have few : (pickG ws (some (i : Int)) none (some (n : Int))).length ≤ sizeLine := by
            refine Nat.le_trans (pick_few (by omega) hi) ?_
            rw [paired_len pw]
            obtain ⟨xs, _, h2, h3⟩ := gv
            rw [← paired_len h3]
            exact h2
          refine ⟨rfl, _, rfl, l, rfl, _, rfl, _, rfl, _, rfl, _, rfl, ?_, ws, SqL.of (s2 _ _ hl), ?_, fun p np => ?_⟩
          · intro z
            have z := Option.some.inj z
            omega
          · rw [e0]
            exact few
          · rw [e0]
            have nD2 : p ≠ D := fun z => by
              rw [z, hD] at np
              cases np
            have s3 : Same H2 (upd H2 p (.lst (pickG ws (some (i : Int)) none (some (n : Int))))) := Same.new (fun _ _ e => e) np
            have hD3 := s3 _ _ hD
            refine ⟨rs, hD3, ?_, same_grow nD (s2.trans s3), rs ++ [.ref p], upd_same, by rw [List.length_append, lr]; rfl, ?_⟩
            · rw [lr]
              exact Nat.lt_of_lt_of_le (Nat.lt_of_lt_of_le hi n60) (by decide)
            · have lane : LaneN C (upd H2 p (.lst (pickG ws (some (i : Int)) none (some (n : Int))))) D (.ref p) (pickG ps (some (i : Int)) none (some (n : Int))) := LaneN.new nD2 np (paired_pickG (Paired.mapP pw fun _ _ z => z.same s2) _ _ _)
              have at_ : (dealtOf ps n)[i]? = some (pickG ps (some (i : Int)) none (some (n : Int))) := by
                unfold dealtOf
                rw [List.getElem?_map, List.getElem?_range hi]
                rfl
              rw [take_snoc at_]
              exact (Paired.mapP pr fun _ _ z => (z.same s3).grow hD3).snoc (lane.grow hD3)
        · rintro H5 ⟨s5, rs, hD, lr, pr⟩
          have full : (dealtOf ps n).take n = dealtOf ps n := List.take_of_length_le (by unfold dealtOf; rw [List.length_map, List.length_range]; exact Nat.le_refl _)
          rw [full] at pr
          exact q D rs H5 (same_none s1 nD) (s1.trans s5) hD (Paired.mapP pr fun _ _ z => z.v)
theorem scThin : FnScope ["items", "many", "rest", "told"] ["items", "many", "rest"] (defScope sThin) := ⟨rfl, rfl, rfl, by decide +kernel, rfl, by decide +kernel, by decide +kernel⟩
theorem ok_thin {f fr fm fe : Addr} {fd fdr fdm fde : FuncData} (F : Fun K "thinned" "thinned" sThin f fd) (Gr : FnOk P w K mg base (L2.CX P w) 7 fr fdr ["values"] (spRL K C cB)) (gr : mg "ratio_list" = some (.ref fr)) (kr : PySem.W.keepIn K (.ref fr) = true) (br : Binds K fdr ["values"] [])
    (Gm : FnOk P w K mg base (L2.CX P w) 4 fm fdm ["value"] (spNeedM K cB)) (gm : mg "need_many" = some (.ref fm)) (km : PySem.W.keepIn K (.ref fm) = true) (bm : Binds K fdm ["value"] [])
    (Ge : FnOk P w K mg base (L2.CX P w) 4 fe fde ["value", "many"] (spNeedR K cB)) (ge : mg "need_rest" = some (.ref fe)) (ke : PySem.W.keepIn K (.ref fe) = true) (be : Binds K fde ["value", "many"] []) : FnOk P w K mg base (L2.CX P w) 8 f fd ["items", "many", "rest"] (spThin K C cB) := by
  refine F.okX scThin (fun vs H Q E h => ?_) (fun cdv A outer s H vs Q E hr h => ?_)
  · obtain ⟨x, m, r, rfl, _⟩ := h
    rfl
  · obtain ⟨x, m, r, rfl, k⟩ := h
    have nd := scThin.nd
    have hr4 : Room 4 _ := hr.mono (by decide)
    refine ⟨_, pss_cons (ps_set (i := 3) nd rfl (Or.inl rfl) (pe_call (E := E) Gr hr (by rfl) gr kr br .nil (passK (takes_of rfl rfl rfl rfl)) (pa_cons (pv 0) pa_nil)))
      (pss_cons (ps_expr (pe_call (E := E) Gm hr4 (by rfl) gm km bm .nil (passK (takes_of rfl rfl rfl rfl)) (pa_cons (pv 1) pa_nil)))
      (pss_cons (ps_expr (pe_call (E := E) Ge hr4 (by rfl) ge ke be .nil (passK (takes_of rfl rfl rfl rfl)) (pa_cons (pv 2) (pa_cons (pv 1) pa_nil))))
      (pss_one (ps_ret (pe_pickK K (pv 3) (po_some (pv 2)) po_none (po_some (pv 1))))))), ?_⟩
    rcases k with ⟨u, fl, q⟩ | ⟨ps, gv, k⟩
    · exact ⟨_, rfl, spRL.flawed fl q⟩
    · refine ⟨_, rfl, spRL.good gv ?_⟩
      intro l ws H1 nl s1 hl pw
      refine ⟨_, rfl, m, rfl, ?_⟩
      rcases k with ⟨no, q⟩ | ⟨n, rfl, n2, n60, k⟩
      · exact .inr ⟨no.same s1, q.mono s1⟩
      · refine .inl ⟨⟨n, rfl, by omega, by omega⟩, ?_⟩
        refine ⟨_, rfl, _, rfl, r, n, rfl, ?_⟩
        rcases k with ⟨no, q⟩ | ⟨j, rfl, lt, q⟩
        · exact .inr ⟨no.same s1, q.mono s1⟩
        · refine .inl ⟨⟨j, rfl, by omega, by omega⟩, ?_⟩
          refine ⟨_, rfl, l, rfl, _, rfl, _, rfl, _, rfl, _, rfl, ?_, ws, SqL.of hl, ?_, fun p np => ?_⟩
          · intro z
            have z := Option.some.inj z
            omega
          · refine Nat.le_trans (pick_few (by omega) lt) ?_
            rw [paired_len pw]
            obtain ⟨xs, _, h2, h3⟩ := gv
            rw [← paired_len h3]
            exact h2
          · have s3 : Same H1 (upd H1 p (.lst (pickG ws (some (j : Int)) none (some (n : Int))))) := Same.new (fun _ _ e => e) np
            exact q p _ _ (same_none s1 np) (s1.trans s3) upd_same (paired_pickG (Paired.mapP pw fun _ _ z => z.same s3) _ _ _)
end
end K03
end
section
set_option maxHeartbeats 4000000
namespace L3
open PySem PySem.Spec PyProof.Rows L2
/-- the first for of two, over a list -/
theorem out_list {K : PySem.W.Frag} {a : Addr} {xs : List V} {g : TG} {vs : List Nat} {σ : L2.St} {Hs : Hp} {Qd : Hp → Prop} (body : L2.St → Hp → (Hp → Prop) → Prop) (Pv : Nat → Hp → Prop) (h0 : Pv 0 Hs) (hl : ∀ i H, i ≤ xs.length → Pv i H → SqL K H a xs)
    (hs : ∀ i x H, xs[i]? = some x → Pv i H → g x (wipe σ vs) H fun σ2 H2 => wipe σ2 vs = wipe σ vs ∧ body σ2 H2 (Pv (i + 1))) (hd : ∀ H, Pv xs.length H → Qd H) :
    ∃ W : Nat → Nat → Hp → Prop, (∃ m, W 0 m Hs) ∧ ∀ i m H, W i m H → ((Itl K a).stop i H ∧ Qd H) ∨ ((Itl K a).go i H ∧ ∃ Nx : Hp → Prop, (∀ H', Nx H' → ∃ m', m' < m ∧ W (i + 1) m' H') ∧ ∀ x H', (Itl K a).yld i H x H' → g x (wipe σ vs) H' fun σ2 H2 => wipe σ2 vs = wipe σ vs ∧ body σ2 H2 Nx) := by
  refine ⟨fun i m H => m = xs.length - i ∧ i ≤ xs.length ∧ Pv i H, ⟨xs.length, (Nat.sub_zero _).symm, Nat.zero_le _, h0⟩, ?_⟩
  rintro i m H ⟨rfl, le, p⟩
  have here := hl i H le p
  rcases Nat.lt_or_ge i xs.length with lt | ge
  · refine .inr ⟨⟨xs, xs[i], here, List.getElem?_eq_getElem lt⟩, Pv (i + 1), fun H' p' => ⟨xs.length - (i + 1), by omega, rfl, lt, p'⟩, ?_⟩
    rintro x H' ⟨rfl, told⟩
    exact hs i x _ (told xs here) p
  · obtain rfl : i = xs.length := by omega
    exact .inl ⟨⟨xs, here, Nat.le_refl _⟩, hd H p⟩
/-- the second for of two, over a range -/
theorem in_range {lo : Int} {n : Nat} {g : TG} {vs : List Nat} {σ : L2.St} {Hs : Hp} {Qd : Hp → Prop} (body : L2.St → Hp → (Hp → Prop) → Prop) (Pv : Nat → Hp → Prop) (h0 : Pv 0 Hs)
    (hs : ∀ i H, i < n → Pv i H → g (.int (lo + i)) (wipe σ vs) H fun σ2 H2 => wipe σ2 vs = wipe σ vs ∧ body σ2 H2 (Pv (i + 1))) (hd : ∀ H, Pv n H → Qd H) :
    ∃ W : Nat → Nat → Hp → Prop, (∃ m, W 0 m Hs) ∧ ∀ i m H, W i m H → ((Itr lo n).stop i H ∧ Qd H) ∨ ((Itr lo n).go i H ∧ ∃ Nx : Hp → Prop, (∀ H', Nx H' → ∃ m', m' < m ∧ W (i + 1) m' H') ∧ ∀ x H', (Itr lo n).yld i H x H' → g x (wipe σ vs) H' fun σ2 H2 => wipe σ2 vs = wipe σ vs ∧ body σ2 H2 Nx) := by
  refine ⟨fun i m H => m = n - i ∧ i ≤ n ∧ Pv i H, ⟨n, (Nat.sub_zero _).symm, Nat.zero_le _, h0⟩, ?_⟩
  rintro i m H ⟨rfl, le, p⟩
  rcases Nat.lt_or_ge i n with lt | ge
  · refine .inr ⟨lt, Pv (i + 1), fun H' p' => ⟨n - (i + 1), by omega, rfl, lt, p'⟩, ?_⟩
    rintro x H' ⟨rfl, rfl⟩
    exact hs i _ lt p
  · obtain rfl : i = n := by omega
    exact .inl ⟨Nat.le_refl _, hd H p⟩
theorem yes_if {σ : L2.St} {H : Hp} {a b : Hp → Prop} (h : a H) : tYes σ H (fun c H3 => if c = true then a H3 else b H3) := by
  show (if true = true then a H else b H)
  rw [if_pos rfl]
  exact h
end L3
namespace K03
open PySem PySem.Spec PyProof.Rows L2 LamX NdefX L3
section
variable {X : Cx} {cB cN C fI : Addr} {e e2 : Expr} {te te2 : TE} {p pos : Pos} {E : XK}
theorem pe_rat1K (K : PySem.W.Frag) (R : Rat X.prog X.w K X.mg X.base cB cN C fI) (hr : Room 5 X.A) (hx : Passes (L2.CX X.prog X.w) X E) (he : PE X e te) (hK : X.K = K := by rfl) (hg : Gl X "Ratio" := by rfl)
    (hs : starEach [e] X.env = (false, eval e X.env) :: starEach [] X.env := by rfl) : PE X (.Call (.Name "Ratio" p) [e] [] pos) (tRat1 K C cB cN E te) := by
  subst hK
  exact pe_rat1 R hr hx he hg hs
end
abbrev sStr : Stmt := top 32
abbrev sHeld : Stmt := top 33
def spRows (K : PySem.W.Frag) (C cB : Addr) (row : Int × Int → Nat → List (Int × Int)) : Sp := fun vs H Q E => ∃ x m : V, vs = [x, m] ∧ ((∃ u, Flawed K C H x u ∧ Bad cB u H E) ∨ ∃ ps, Given K C H x ps ∧ ps.length * 60 ≤ sizeLine ∧ ((Off K H m 2 60 ∧ Bad cB m H E) ∨ ∃ n : Nat, m = .int n ∧ 2 ≤ n ∧ n ≤ 60 ∧ NewRL C H Q (ps.flatMap fun p => row p n)))
def rowS (p : Int × Int) (n : Nat) : List (Int × Int) := p :: List.replicate (n - 1) (0, 1)
def rowH (p : Int × Int) (n : Nat) : List (Int × Int) := List.replicate n p
theorem flat_snoc {α β : Type} {l : List α} {i : Nat} {a : α} {f : α → List β} (h : l[i]? = some a) : (l.take (i + 1)).flatMap f = (l.take i).flatMap f ++ f a := by
  rw [take_snoc h, List.flatMap_append]
  simp
theorem flat_len {α β : Type} {f : α → List β} {n : Nat} (h : ∀ a, (f a).length = n) : ∀ l : List α, (l.flatMap f).length = l.length * n
  | [] => by simp
  | a :: l => by
    rw [List.flatMap_cons, List.length_append, h a, flat_len h l, List.length_cons, Nat.succ_mul, Nat.add_comm]
section
variable {P : Program} {w : World} {K : PySem.W.Frag} {mg : Str → Option Value} {base : Heap} {cB cN C fI : Addr}
/-- the two loops: each item's row of n -/
theorem rows_two {H1 : Hp} {l D : Addr} {ws : List V} {ps : List (Int × Int)} {n : Nat} {row : Int × Int → List (Int × Int)} {te : TE} {Q : VK} (hl : H1 l = some (.lst ws)) (pw : Paired (RV C H1) ws ps) (nD : H1 D = none) (few : ps.length * n ≤ sizeLine) (hn : n < 2 ^ 62) (hrow : ∀ p, (row p).length = n)
    {x0 x2 : V} (hte : ∀ (v : V) (p q : Int × Int) (j : Nat) (H : Hp) (Kc : VK), j < n → (row p)[j]? = some q → RV C H v p → (∀ y H', Same H H' → RV C H' y q → Kc y H') → te [some x0, some (.int n), some x2, some v, some (.int (0 + j))] H Kc)
    (q : ∀ ws' H', Same H1 H' → H' D = some (.lst ws') → Paired (RV C H') ws' (ps.flatMap row) → Q (.ref D) H') :
    ∃ W : Nat → Nat → Hp → Prop, (∃ m, W 0 m (upd H1 D (.lst []))) ∧ ∀ i m H, W i m H → ((Itl K l).stop i H ∧ Q (.ref D) H) ∨ ((Itl K l).go i H ∧ ∃ Nx : Hp → Prop, (∀ H', Nx H' → ∃ m', m' < m ∧ W (i + 1) m' H') ∧ ∀ x H', (Itl K l).yld i H x H' →
      gName 3 x (wipe [some x0, some (.int n), some x2, none, none] [3, 4]) H' fun σ2 H2 => wipe σ2 [3, 4] = wipe [some x0, some (.int n), some x2, none, none] [3, 4] ∧ tYes σ2 H2 fun b H3 =>
        if b = true then iRng1 (tCons (tVar 1) tNil) σ2 H3 fun J1 H4 => ∃ W1 : Nat → Nat → Hp → Prop, (∃ m, W1 0 m H4) ∧ ∀ j k H, W1 j k H →
          (J1.stop j H ∧ Nx H) ∨ (J1.go j H ∧ ∃ Nx1 : Hp → Prop, (∀ H', Nx1 H' → ∃ k', k' < k ∧ W1 (j + 1) k' H') ∧ ∀ x H', J1.yld j H x H' → gName 4 x (wipe σ2 [4]) H' fun σ3 H5 => wipe σ3 [4] = wipe σ2 [4] ∧ tYes σ3 H5 fun b H6 =>
            if b = true then te σ3 H6 fun y H7 => ∃ acc, H7 D = some (.lst acc) ∧ acc.length < sizeLine ∧ Nx1 (upd H7 D (.lst (acc ++ [y]))) else Nx1 H6)
        else Nx H3) := by
  refine out_list (K := K) (a := l) (xs := ws) (fun σ2 H2 Nx => tYes σ2 H2 fun b H3 => if b = true then iRng1 (tCons (tVar 1) tNil) σ2 H3 fun J1 H4 => ∃ W1 : Nat → Nat → Hp → Prop, (∃ m, W1 0 m H4) ∧ ∀ j k H, W1 j k H →
          (J1.stop j H ∧ Nx H) ∨ (J1.go j H ∧ ∃ Nx1 : Hp → Prop, (∀ H', Nx1 H' → ∃ k', k' < k ∧ W1 (j + 1) k' H') ∧ ∀ x H', J1.yld j H x H' → gName 4 x (wipe σ2 [4]) H' fun σ3 H5 => wipe σ3 [4] = wipe σ2 [4] ∧ tYes σ3 H5 fun b H6 =>
            if b = true then te σ3 H6 fun y H7 => ∃ acc, H7 D = some (.lst acc) ∧ acc.length < sizeLine ∧ Nx1 (upd H7 D (.lst (acc ++ [y]))) else Nx1 H6)
        else Nx H3)
    (fun i H2 => Same H1 H2 ∧ ∃ rs, H2 D = some (.lst rs) ∧ Paired (RV C H2) rs ((ps.take i).flatMap row)) ⟨Same.new (fun _ _ e => e) nD, [], upd_same, by simp; exact .nil⟩ (fun i H2 _ p => SqL.of (p.1 _ _ hl)) ?_ ?_
  · rintro i v H2 hv ⟨s2, rs, hD, pr⟩
    obtain ⟨p, hp, rv⟩ := paired_at pw hv
    have li : i < ps.length := (List.getElem?_eq_some_iff.mp hp).1
    refine ⟨rfl, ?_⟩
    refine yes_if ?_
    refine ⟨_, rfl, n, rfl, by omega, by omega, ?_⟩
    rw [Int.toNat_natCast]
    refine in_range (fun σ3 H5 Nx1 => tYes σ3 H5 fun b H6 => if b = true then te σ3 H6 fun y H7 => ∃ acc, H7 D = some (.lst acc) ∧ acc.length < sizeLine ∧ Nx1 (upd H7 D (.lst (acc ++ [y]))) else Nx1 H6)
      (fun j H3 => Same H1 H3 ∧ ∃ rs, H3 D = some (.lst rs) ∧ Paired (RV C H3) rs ((ps.take i).flatMap row ++ (row p).take j)) ⟨s2, rs, hD, by simpa using pr⟩ ?_ ?_
    · rintro j H3 hj ⟨s3, rs3, hD3, pr3⟩
      have lj : j < (row p).length := by rw [hrow]; exact hj
      have hq : (row p)[j]? = some (row p)[j] := List.getElem?_eq_getElem lj
      refine ⟨rfl, ?_⟩
      refine yes_if ?_
      refine hte v p _ j H3 _ hj hq (rv.same s3) fun y H4 s4 ry => ?_
      have hD4 := s4 _ _ hD3
      have len : rs3.length = i * n + j := by
        rw [paired_len pr3, List.length_append, flat_len hrow, List.length_take, List.length_take, hrow]
        have e1 : min i ps.length = i := by omega
        have e2 : min j n = j := by omega
        rw [e1, e2]
      refine ⟨rs3, hD4, ?_, same_grow nD (s3.trans s4), rs3 ++ [y], upd_same, ?_⟩
      · rw [len]
        have : i * n + n ≤ ps.length * n := by
          rw [← Nat.succ_mul]
          exact Nat.mul_le_mul_right n li
        omega
      · rw [take_snoc hq, ← List.append_assoc]
        exact (Paired.mapP pr3 fun _ _ z => rv_grow hD4 (z.same s4)).snoc (rv_grow hD4 ry)
    · rintro H5 ⟨s5, rs5, hD5, pr5⟩
      refine ⟨s5, rs5, hD5, ?_⟩
      rw [flat_snoc hp]
      rwa [← hrow p, List.take_length] at pr5
  · rintro H5 ⟨s5, rs5, hD5, pr5⟩
    rw [paired_len pw, List.take_length] at pr5
    exact q rs5 H5 s5 hD5 pr5
theorem scStr2 : FnScope ["items", "many", "told", "item", "place"] ["items", "many"] (defScope sStr) := ⟨rfl, rfl, rfl, by decide +kernel, rfl, by decide +kernel, by decide +kernel⟩
theorem ok_stretched {f fr fm : Addr} {fd fdr fdm : FuncData} (F : Fun K "stretched" "stretched" sStr f fd) (B : TxtR mg) (R : Rat P w K mg base cB cN C fI) (Gr : FnOk P w K mg base (L2.CX P w) 7 fr fdr ["values"] (spRL K C cB)) (gr : mg "ratio_list" = some (.ref fr)) (kr : PySem.W.keepIn K (.ref fr) = true) (br : Binds K fdr ["values"] [])
    (Gm : FnOk P w K mg base (L2.CX P w) 4 fm fdm ["value"] (spNeedM K cB)) (gm : mg "need_many" = some (.ref fm)) (km : PySem.W.keepIn K (.ref fm) = true) (bm : Binds K fdm ["value"] []) : FnOk P w K mg base (L2.CX P w) 8 f fd ["items", "many"] (spRows K C cB rowS) := by
  refine F.okX scStr2 (fun vs H Q E h => ?_) (fun cdv A outer s H vs Q E hr h => ?_)
  · obtain ⟨x, m, rfl, _⟩ := h
    rfl
  · obtain ⟨x, m, rfl, k⟩ := h
    have nd := scStr2.nd
    have hr4 : Room 4 _ := hr.mono (by decide)
    have hr5 : Room 5 _ := hr.mono (by decide)
    refine ⟨_, pss_cons (ps_set (i := 2) nd rfl (Or.inl rfl) (pe_call (E := E) Gr hr (by rfl) gr kr br .nil (passK (takes_of rfl rfl rfl rfl)) (pa_cons (pv 0) pa_nil)))
      (pss_cons (ps_expr (pe_call (E := E) Gm hr4 (by rfl) gm km bm .nil (passK (takes_of rfl rfl rfl rfl)) (pa_cons (pv 1) pa_nil)))
      (pss_one (ps_ret (pe_lc2 (own := [("item", 3), ("place", 4)]) (vs1 := [4]) (g := gName 3) (g1 := gName 4) (tt := tYes) (tt1 := tYes) rfl nd (pi_list (pv 2)) (blkOk_by (N := ["items", "many", "told", "item", "place"]) (sc := defScope sStr) (by decide +kernel)) (by decide) (fun _ _ _ _ _ => pg_name (i := 3) nd rfl (Or.inl rfl)) (fun _ _ _ _ _ => pts_nil)
        (fun _ _ _ _ _ => pi_range1 (by rfl) B.range (pa_cons (pv 1) pa_nil)) (fun _ _ _ _ _ => pg_name (i := 4) nd rfl (Or.inl rfl)) (fun _ _ _ _ _ => pts_nil) (fun _ _ _ _ _ => by exact (pe_ifExp (pt_cmpR op_eq (pv 4) pe_int (nomark _)) (pv 3) (pe_rat1K (E := E0) K R hr5 passL pe_int))))))), ?_⟩
    rcases k with ⟨u, fl, q⟩ | ⟨ps, gv, few, k⟩
    · exact ⟨_, rfl, spRL.flawed fl q⟩
    · refine ⟨_, rfl, spRL.good gv ?_⟩
      intro l ws H1 nl s1 hl pw
      refine ⟨_, rfl, m, rfl, ?_⟩
      rcases k with ⟨no, q⟩ | ⟨n, rfl, n2, n60, q⟩
      · exact .inr ⟨no.same s1, q.mono s1⟩
      · refine .inl ⟨⟨n, rfl, by omega, by omega⟩, ?_⟩
        refine ⟨_, rfl, l, rfl, ⟨_, SqL.of hl⟩, fun D nD => ?_⟩
        refine rows_two (K := K) (row := fun p => rowS p n) hl pw nD (Nat.le_trans (Nat.mul_le_mul_left _ n60) few) (Nat.lt_of_le_of_lt n60 (by decide)) (fun p => by unfold rowS; rw [List.length_cons, List.length_replicate]; omega) (fun v p q' j H5 Kc hj hq rv kc => ?_) fun ws' H5 s5 hD pr => q D ws' H5 (same_none s1 nD) (s1.trans s5) hD pr
        refine ⟨_, rfl, rfl, _, rfl, ?_⟩
        refine ite2 (fun z => ?_) (fun z => ?_)
        · have z := of_decide_eq_true z
          injection z with z
          obtain rfl : j = 0 := by omega
          have e : p = q' := Option.some.inj hq
          exact ⟨_, rfl, kc v H5 (fun _ _ e => e) (e ▸ rv)⟩
        · have h0 : j ≠ 0 := fun e => z (decide_eq_true (by rw [e]; rfl))
          have e : q' = (0, 1) := by
            obtain ⟨i, rfl⟩ : ∃ i, j = i + 1 := ⟨j - 1, by omega⟩
            have hq : (List.replicate (n - 1) ((0 : Int), (1 : Int)))[i]? = some q' := hq
            rw [List.getElem?_replicate, if_pos (by omega)] at hq
            exact (Option.some.inj hq).symm
          subst e
          exact .good 0 1 rfl rfl (by decide) (by decide +kernel) (by rw [low_one]; exact fun a dx H6 na s6 ea => kc _ H6 s6 ⟨a, dx, rfl, ea⟩)
theorem scHeld : FnScope ["items", "many", "told", "item", "_"] ["items", "many"] (defScope sHeld) := ⟨rfl, rfl, rfl, by decide +kernel, rfl, by decide +kernel, by decide +kernel⟩
theorem ok_held {f fr fm : Addr} {fd fdr fdm : FuncData} (F : Fun K "held" "held" sHeld f fd) (B : TxtR mg) (Gr : FnOk P w K mg base (L2.CX P w) 7 fr fdr ["values"] (spRL K C cB)) (gr : mg "ratio_list" = some (.ref fr)) (kr : PySem.W.keepIn K (.ref fr) = true) (br : Binds K fdr ["values"] [])
    (Gm : FnOk P w K mg base (L2.CX P w) 4 fm fdm ["value"] (spNeedM K cB)) (gm : mg "need_many" = some (.ref fm)) (km : PySem.W.keepIn K (.ref fm) = true) (bm : Binds K fdm ["value"] []) : FnOk P w K mg base (L2.CX P w) 8 f fd ["items", "many"] (spRows K C cB rowH) := by
  refine F.okX scHeld (fun vs H Q E h => ?_) (fun cdv A outer s H vs Q E hr h => ?_)
  · obtain ⟨x, m, rfl, _⟩ := h
    rfl
  · obtain ⟨x, m, rfl, k⟩ := h
    have nd := scHeld.nd
    have hr4 : Room 4 _ := hr.mono (by decide)
    refine ⟨_, pss_cons (ps_set (i := 2) nd rfl (Or.inl rfl) (pe_call (E := E) Gr hr (by rfl) gr kr br .nil (passK (takes_of rfl rfl rfl rfl)) (pa_cons (pv 0) pa_nil)))
      (pss_cons (ps_expr (pe_call (E := E) Gm hr4 (by rfl) gm km bm .nil (passK (takes_of rfl rfl rfl rfl)) (pa_cons (pv 1) pa_nil)))
      (pss_one (ps_ret (pe_lc2 (own := [("item", 3), ("_", 4)]) (vs1 := [4]) (g := gName 3) (g1 := gName 4) (tt := tYes) (tt1 := tYes) rfl nd (pi_list (pv 2)) (blkOk_by (N := ["items", "many", "told", "item", "_"]) (sc := defScope sHeld) (by decide +kernel)) (by decide) (fun _ _ _ _ _ => pg_name (i := 3) nd rfl (Or.inl rfl)) (fun _ _ _ _ _ => pts_nil)
        (fun _ _ _ _ _ => pi_range1 (by rfl) B.range (pa_cons (pv 1) pa_nil)) (fun _ _ _ _ _ => pg_name (i := 4) nd rfl (Or.inl rfl)) (fun _ _ _ _ _ => pts_nil) (fun _ _ _ _ _ => by exact (pv 3)))))), ?_⟩
    rcases k with ⟨u, fl, q⟩ | ⟨ps, gv, few, k⟩
    · exact ⟨_, rfl, spRL.flawed fl q⟩
    · refine ⟨_, rfl, spRL.good gv ?_⟩
      intro l ws H1 nl s1 hl pw
      refine ⟨_, rfl, m, rfl, ?_⟩
      rcases k with ⟨no, q⟩ | ⟨n, rfl, n2, n60, q⟩
      · exact .inr ⟨no.same s1, q.mono s1⟩
      · refine .inl ⟨⟨n, rfl, by omega, by omega⟩, ?_⟩
        refine ⟨_, rfl, l, rfl, ⟨_, SqL.of hl⟩, fun D nD => ?_⟩
        refine rows_two (K := K) (row := fun p => rowH p n) hl pw nD (Nat.le_trans (Nat.mul_le_mul_left _ n60) few) (Nat.lt_of_le_of_lt n60 (by decide)) (fun p => by unfold rowH; rw [List.length_replicate]) (fun v p q' j H5 Kc hj hq rv kc => ?_) fun ws' H5 s5 hD pr => q D ws' H5 (same_none s1 nD) (s1.trans s5) hD pr
        unfold rowH at hq
        rw [List.getElem?_replicate, if_pos hj] at hq
        have e : p = q' := Option.some.inj hq
        exact ⟨_, rfl, kc v H5 (fun _ _ e => e) (e ▸ rv)⟩
end
end K03
end
section
set_option maxHeartbeats 4000000
namespace K03
open PySem PySem.Spec PyProof.Rows L2 LamX NdefX L3
theorem wipe_back {σ : L2.St} {j : Nat} {x : V} : wipe ((wipe σ [j]).set j (some x)) [j] = wipe σ [j] := by
  show ((σ.set j none).set j (some x)).set j none = σ.set j none
  rw [List.set_set, List.set_set]
/-- [e for x in a list or a tuple]: each item's value by a relation that D's growth leaves -/
theorem lc_map {K : PySem.W.Frag} {j : Nat} {v : V} {xs : List V} {β : Type} {bs : List β} {Rr : Addr → Hp → V → β → Prop} {σ : L2.St} {H : Hp} {te tv : TE} {Q : VK}
    (hv : ∀ R : VK, R v H → tv σ H R) (sq : SeqV K H v xs) (few : xs.length ≤ sizeLine) (hl : xs.length = bs.length)
    (same : ∀ (D : Addr) (H H' : Hp) (y : V) (b : β), Rr D H y b → Same H H' → Rr D H' y b) (grow : ∀ (D : Addr) (H : Hp) (rs ys : List V) (y : V) (b : β), H D = some (.lst rs) → Rr D H y b → Rr D (upd H D (.lst ys)) y b)
    (step : ∀ (D : Addr) (k : Nat) (x : V) (b : β) (H2 : Hp) (rs : List V) (Kc : VK), xs[k]? = some x → bs[k]? = some b → Same H H2 → H2 D = some (.lst rs) → (∀ (y : V) (H3 : Hp), Same H2 H3 → Rr D H3 y b → Kc y H3) → te ((wipe σ [j]).set j (some x)) H2 Kc)
    (fin : ∀ (D : Addr) (ws : List V) (H5 : Hp), H D = none → Same H H5 → H5 D = some (.lst ws) → Paired (Rr D H5) ws bs → Q (.ref D) H5) :
    tLc (fun σ H R => iList K tv σ H R ∨ iTup K tv σ H R) (gName j) tYes te [j] σ H Q := by
  obtain ⟨a, rfl, sq⟩ := sq
  have one : ∀ (D : Addr), H D = none → ∀ (i : Nat) (x : V) (H2 : Hp), xs[i]? = some x → (Same H H2 ∧ ∃ ws, H2 D = some (.lst ws) ∧ Paired (Rr D H2) ws (bs.take i)) →
      gName j x (wipe σ [j]) H2 fun σ2 H3 => wipe σ2 [j] = wipe σ [j] ∧ tYes σ2 H3 fun b H4 => if b = true then te σ2 H4 fun y H5 => ∃ acc, H5 D = some (.lst acc) ∧ acc.length < sizeLine ∧ (Same H (upd H5 D (.lst (acc ++ [y]))) ∧ ∃ ws, (upd H5 D (.lst (acc ++ [y]))) D = some (.lst ws) ∧ Paired (Rr D (upd H5 D (.lst (acc ++ [y])))) ws (bs.take (i + 1))) else (Same H H4 ∧ ∃ ws, H4 D = some (.lst ws) ∧ Paired (Rr D H4) ws (bs.take (i + 1))) := by
    intro D nD i x H2 hx p
    obtain ⟨s2, ws, hD, pw⟩ := p
    have li : i < xs.length := (List.getElem?_eq_some_iff.mp hx).1
    have hb : bs[i]? = some bs[i] := List.getElem?_eq_getElem (by omega)
    have lw : ws.length = i := by
      rw [paired_len pw, List.length_take]
      omega
    refine ⟨wipe_back, ?_⟩
    refine yes_if (a := fun H4 => te _ H4 _) ?_
    refine step D i x _ H2 ws _ hx hb s2 hD fun y H3 s3 ry => ?_
    have hD3 := s3 _ _ hD
    refine ⟨ws, hD3, by omega, same_grow nD (s2.trans s3), ws ++ [y], upd_same, ?_⟩
    rw [take_snoc hb]
    exact (Paired.mapP pw fun v b z => grow D H3 ws (ws ++ [y]) v b hD3 (same D H2 H3 v b z s3)).snoc (grow D H3 ws (ws ++ [y]) y _ hD3 ry)
  have last : ∀ (D : Addr), H D = none → ∀ H5, (Same H H5 ∧ ∃ ws, H5 D = some (.lst ws) ∧ Paired (Rr D H5) ws (bs.take xs.length)) → Q (.ref D) H5 := by
    rintro D nD H5 ⟨s5, ws, hD, pw⟩
    rw [hl, List.take_length] at pw
    exact fin D ws H5 nD s5 hD pw
  rcases sq with sq | sq
  · refine .inl (hv _ ⟨a, rfl, ⟨xs, sq⟩, fun D nD => ?_⟩)
    exact lc_list (K := K) (a := a) (xs := xs) (fun i H2 => Same H H2 ∧ ∃ ws, H2 D = some (.lst ws) ∧ Paired (Rr D H2) ws (bs.take i)) ⟨Same.new (fun _ _ e => e) nD, [], upd_same, .nil⟩ (fun i H2 _ p => p.1.seq sq) (one D nD) (last D nD)
  · refine .inr (hv _ ⟨a, rfl, ⟨xs, sq⟩, fun D nD => ?_⟩)
    exact lc_tup (K := K) (a := a) (xs := xs) (fun i H2 => Same H H2 ∧ ∃ ws, H2 D = some (.lst ws) ∧ Paired (Rr D H2) ws (bs.take i)) ⟨Same.new (fun _ _ e => e) nD, [], upd_same, .nil⟩ (fun i H2 _ p => same_tup p.1 sq) (one D nD) (last D nD)
/-- .. over a range -/
theorem lc_mapR {j n : Nat} {lo : Int} {β : Type} {bs : List β} {Rr : Addr → Hp → V → β → Prop} {σ : L2.St} {H : Hp} {te : TE} {Q : VK} (few : n ≤ sizeLine) (hl : n = bs.length)
    (same : ∀ (D : Addr) (H H' : Hp) (y : V) (b : β), Rr D H y b → Same H H' → Rr D H' y b) (grow : ∀ (D : Addr) (H : Hp) (rs ys : List V) (y : V) (b : β), H D = some (.lst rs) → Rr D H y b → Rr D (upd H D (.lst ys)) y b)
    (step : ∀ (D : Addr) (k : Nat) (b : β) (H2 : Hp) (rs : List V) (Kc : VK), k < n → bs[k]? = some b → Same H H2 → H2 D = some (.lst rs) → (∀ (y : V) (H3 : Hp), Same H2 H3 → Rr D H3 y b → Kc y H3) → te ((wipe σ [j]).set j (some (.int (lo + k)))) H2 Kc)
    (fin : ∀ (D : Addr) (ws : List V) (H5 : Hp), H D = none → Same H H5 → H5 D = some (.lst ws) → Paired (Rr D H5) ws bs → Q (.ref D) H5) (D : Addr) (nD : H D = none) :
    ∃ W : Nat → Nat → Hp → Prop, (∃ m, W 0 m (upd H D (.lst []))) ∧ ∀ i m H, W i m H →
      ((Itr lo n).stop i H ∧ Q (.ref D) H) ∨ ((Itr lo n).go i H ∧ ∃ Nx : Hp → Prop, (∀ H', Nx H' → ∃ m', m' < m ∧ W (i + 1) m' H') ∧ ∀ x H', (Itr lo n).yld i H x H' → gName j x (wipe σ [j]) H' fun σ2 H2 => wipe σ2 [j] = wipe σ [j] ∧ tYes σ2 H2 fun b H3 =>
        if b = true then te σ2 H3 fun y H4 => ∃ acc, H4 D = some (.lst acc) ∧ acc.length < sizeLine ∧ Nx (upd H4 D (.lst (acc ++ [y]))) else Nx H3) := by
  refine lc_range (fun i H2 => Same H H2 ∧ ∃ ws, H2 D = some (.lst ws) ∧ Paired (Rr D H2) ws (bs.take i)) ⟨Same.new (fun _ _ e => e) nD, [], upd_same, .nil⟩ ?_ ?_
  · rintro i H2 hi ⟨s2, ws, hD, pw⟩
    have hb : bs[i]? = some bs[i] := List.getElem?_eq_getElem (by omega)
    have lw : ws.length = i := by
      rw [paired_len pw, List.length_take]
      omega
    refine ⟨wipe_back, ?_⟩
    refine yes_if (a := fun H4 => te _ H4 _) ?_
    refine step D i _ H2 ws _ hi hb s2 hD fun y H3 s3 ry => ?_
    have hD3 := s3 _ _ hD
    refine ⟨ws, hD3, by omega, same_grow nD (s2.trans s3), ws ++ [y], upd_same, ?_⟩
    rw [take_snoc hb]
    exact (Paired.mapP pw fun v b z => grow D H3 ws (ws ++ [y]) v b hD3 (same D H2 H3 v b z s3)).snoc (grow D H3 ws (ws ++ [y]) y _ hD3 ry)
  · rintro H5 ⟨s5, ws, hD, pw⟩
    rw [hl, List.take_length] at pw
    exact fin D ws H5 nD s5 hD pw
/-- for x in a list or a tuple -/
theorem for_seq {K : PySem.W.Frag} {v : V} {xs : List V} {g : TG} {tb : TS} {D : Ends} {σ : L2.St} {H : Hp} {tv : TE} (hv : ∀ R : VK, R v H → tv σ H R) (sq : SeqV K H v xs) (Pv : Nat → L2.St → Hp → Prop) (h0 : Pv 0 σ H) (hsame : ∀ i σ' H', Pv i σ' H' → Same H H')
    (hs : ∀ i x σ H, xs[i]? = some x → Pv i σ H → g x σ H fun σ2 H2 => tb { D with nx := Pv (i + 1), ct := Pv (i + 1), bk := D.nx } σ2 H2) (hd : ∀ σ H, Pv xs.length σ H → D.nx σ H) : tFor (fun σ H R => iList K tv σ H R ∨ iTup K tv σ H R) g tb D σ H := by
  obtain ⟨a, rfl, sq⟩ := sq
  rcases sq with sq | sq
  · exact .inl (hv _ ⟨a, rfl, ⟨xs, sq⟩, for_list (K := K) (a := a) (xs := xs) Pv h0 (fun i σ' H' _ p => (hsame i σ' H' p).seq sq) hs hd⟩)
  · exact .inr (hv _ ⟨a, rfl, ⟨xs, sq⟩, for_tup (K := K) (a := a) (xs := xs) Pv h0 (fun i σ' H' _ p => same_tup (hsame i σ' H' p) sq) hs hd⟩)
/-- a statement by itself, what follows it by what holds between -/
theorem seq_to {t1 t2 : TS} {D : Ends} {σ : L2.St} {H : Hp} (M : L2.St → Hp → Prop) (h1 : ∀ K : L2.St → Hp → Prop, (∀ σ' H', M σ' H' → K σ' H') → t1 { nx := K, rt := D.rt, bk := D.bk, ct := D.ct } σ H) (h2 : ∀ σ' H', M σ' H' → t2 D σ' H') : tSeq t1 t2 D σ H := h1 _ h2
theorem int_list {ws : List V} {ns : List Nat} (h : Paired (fun (y : V) (n : Nat) => y = .int n) ws ns) : ws = (ns.map fun (n : Nat) => (n : Int)).map V.int := by
  induction h with
  | nil => rfl
  | cons a _ ih =>
    rw [ih, a]
    rfl
end K03
end
section
set_option maxHeartbeats 4000000
namespace K03
open PySem PySem.Spec PyProof.Rows L2 LamX NdefX L3
abbrev sIsR : Stmt := top 18
abbrev sTold : Stmt := top 30
def spIsR (K : PySem.W.Frag) (C : Addr) : Sp := fun vs H Q _ => ∃ v, vs = [v] ∧ (((∃ p, Sh C H v p) ∧ Q (.bl true) H) ∨ (Odd K H v ∧ Q (.bl false) H))
/-- of each item whether it stands for a Ratio -/
def Kind (K : PySem.W.Frag) (C : Addr) (H : Hp) (v : V) (b : Bool) : Prop := (b = true ∧ ∃ p, Sh C H v p) ∨ (b = false ∧ Odd K H v)
theorem Kind.same {K : PySem.W.Frag} {C : Addr} {H H' : Hp} {v : V} {b : Bool} (h : Kind K C H v b) (s : Same H H') : Kind K C H' v b := by
  rcases h with ⟨e, p, h⟩ | ⟨e, h⟩
  · exact .inl ⟨e, p, h.same s⟩
  · exact .inr ⟨e, h.same s⟩
def Kinds (K : PySem.W.Frag) (C : Addr) (H : Hp) (v : V) (bs : List Bool) : Prop := ∃ xs, SeqV K H v xs ∧ xs.length ≤ sizeLine ∧ Paired (Kind K C H) xs bs
theorem Given.kinds {K : PySem.W.Frag} {C : Addr} {H : Hp} {v : V} {ps : List (Int × Int)} (h : Given K C H v ps) : Kinds K C H v (ps.map fun _ => true) := by
  obtain ⟨xs, h1, h2, h3⟩ := h
  refine ⟨xs, h1, h2, ?_⟩
  clear h1 h2
  induction h3 with
  | nil => exact .nil
  | cons a _ ih => exact .cons (.inl ⟨rfl, _, a⟩) ih
theorem bl_list {ws : List V} {bs : List Bool} (h : Paired (fun (y : V) (b : Bool) => y = .bl b) ws bs) : ws = bs.map V.bl := by
  induction h with
  | nil => rfl
  | cons a _ ih =>
    rw [ih, a]
    rfl
section
variable {X : Cx} {tg l : Expr} {tl : TE}
theorem pi_listK (K : PySem.W.Frag) (hl : PE X l tl) (hK : X.K = K := by rfl) : PI X tg l (iList K tl) := by
  subst hK
  exact pi_list hl
theorem pi_tupK (K : PySem.W.Frag) (hl : PE X l tl) (hK : X.K = K := by rfl) : PI X tg l (iTup K tl) := by
  subst hK
  exact pi_tup hl
end
section
variable {P : Program} {w : World} {K : PySem.W.Frag} {mg : Str → Option Value} {base : Heap} {cB cN C fI : Addr} {tL tM : Tok}
theorem scIsR : FnScope ["value"] ["value"] (defScope sIsR) := ⟨rfl, rfl, rfl, by decide +kernel, rfl, by decide +kernel, by decide +kernel⟩
theorem ok_isR {f fi : Addr} {fd fdi : FuncData} (F : Fun K "is_ratio" "is_ratio" sIsR f fd) (B : TxtR mg) (R : Rat P w K mg base cB cN C fI) (G : FnOk P w K mg base CX0 1 fi fdi ["value"] (spIsInt K)) (gi : mg "is_integer" = some (.ref fi)) (kp : PySem.W.keepIn K (.ref fi) = true) (bi : Binds K fdi ["value"] []) :
    FnOk P w K mg base CX0 2 f fd ["value"] (spIsR K C) := by
  refine F.ok scIsR (fun vs H Q E h => ?_) (fun cdv A outer s H vs Q E hr h => ?_)
  · obtain ⟨v, rfl, _⟩ := h
    rfl
  · obtain ⟨v, rfl, k⟩ := h
    refine ⟨_, pss_one (ps_ret (pe_or (pe_callB call_isi (by rfl) B.isi (by decide +kernel) (pa_cons (pv 0) (pa_cons (pe_glob (v := .ref C) (by rfl) R.cls.g rfl) pa_nil))) (pe_one (pe_call G hr (by rfl) gi kp bi .nil pass0 (pa_cons (pv 0) pa_nil))))), ?_⟩
    rcases k with ⟨⟨p, ⟨rfl, e⟩ | ⟨a, dx, rfl, ha⟩⟩, q⟩ | ⟨⟨T, h1, h2, h3, h4⟩, q⟩
    · refine ⟨_, rfl, _, .ref C, .type "int", .ref C, false, rfl, .own C, .base (.int p.1), R.cls.kit (by decide +kernel), false, rfl, ?_⟩
      exact ⟨_, rfl, _, rfl, .inl ⟨⟨_, rfl⟩, q⟩⟩
    · exact ⟨_, rfl, _, .ref C, .ref C, .ref C, true, rfl, .own C, R.tyx H a dx _ ha, kit_me, true, rfl, q⟩
    · refine ⟨_, rfl, _, .ref C, .type T, .ref C, false, rfl, .own C, h3, R.cls.kit (kinds_blt h1), false, rfl, ?_⟩
      exact ⟨_, rfl, _, rfl, .inr ⟨Odd.no ⟨T, h1, h2, h3, h4⟩, q⟩⟩
/-- lanes: all right, of these Ratios | the first thing that is wrong -/
def Lanes (K : PySem.W.Frag) (C : Addr) (H : Hp) (v : V) (pss : List (List (Int × Int))) : Prop := ∃ ls, SeqV K H v ls ∧ ls.length ≤ sizeLine ∧ Paired (Given K C H) ls pss
def BadLane (K : PySem.W.Frag) (C : Addr) (H : Hp) (v : V) : Prop := IsLT K H v false ∨ ∃ bs, Kinds K C H v bs ∧ false ∈ bs
def spTold (K : PySem.W.Frag) (C cB : Addr) : Sp := fun vs H Q E => ∃ v, vs = [v] ∧ ((IsLT K H v false ∧ Bad cB v H E) ∨
  (∃ ls pss u rest, SeqV K H v (ls ++ u :: rest) ∧ Paired (Given K C H) ls pss ∧ BadLane K C H u ∧ Bad cB u H E) ∨
  (∃ pss, Lanes K C H v pss ∧ ((¬ (2 ≤ pss.length ∧ pss.length ≤ 60) ∧ Bad cB v H E) ∨ (2 ≤ pss.length ∧ pss.length ≤ 60 ∧ NewLL C H Q pss))))
theorem scTold : FnScope ["lists", "items", "item"] ["lists"] (defScope sTold) := ⟨rfl, rfl, rfl, by decide +kernel, rfl, by decide +kernel, by decide +kernel⟩
theorem ok_told {f fl fr fw fa : Addr} {fd fdl fdr fdw fda : FuncData} (F : Fun K "told_lists" "told_lists" sTold f fd) (B : TxtR mg) (T : ErrR P w K mg base cB cN) (Gl : FnOk P w K mg base CX0 1 fl fdl ["value"] (spIsLT K)) (gl : mg "is_list" = some (.ref fl)) (kl : PySem.W.keepIn K (.ref fl) = true) (bl : Binds K fdl ["value"] [])
    (Gr : FnOk P w K mg base CX0 2 fr fdr ["value"] (spIsR K C)) (gr : mg "is_ratio" = some (.ref fr)) (kr : PySem.W.keepIn K (.ref fr) = true) (br : Binds K fdr ["value"] [])
    (Gw : FnOk P w K mg base CX0 2 fw fdw ["value", "low", "high"] (spIsW K)) (gw : mg "is_within" = some (.ref fw)) (kw : PySem.W.keepIn K (.ref fw) = true) (bw : Binds K fdw ["value", "low", "high"] []) (gL : mg "LEAST" = some (.int 2 tL)) (gM : mg "MOST" = some (.int 60 tM))
    (Ga : FnOk P w K mg base (L2.CX P w) 6 fa fda ["value"] (spAs K C cB)) (ga : mg "as_ratio" = some (.ref fa)) (ka : PySem.W.keepIn K (.ref fa) = true) (ba : Binds K fda ["value"] []) :
    FnOk P w K mg base (L2.CX P w) 7 f fd ["lists"] (spTold K C cB) := by
  refine F.okX scTold (fun vs H Q E h => ?_) (fun cdv A outer s H vs Q E hr h => ?_)
  · obtain ⟨v, rfl, _⟩ := h
    rfl
  · obtain ⟨v, rfl, k⟩ := h
    have nd := scTold.nd
    have hr1 : Room 1 _ := hr.mono (by decide)
    have hr2 : Room 2 _ := hr.mono (by decide)
    refine ⟨_, pss_cons (ps_if (pt_not (pt_val (pe_call Gl hr1 (by rfl) gl kl bl .nil pass0 (pa_cons (pv 0) pa_nil)))) (pss_one (ps_raise rfl (takes_of rfl rfl rfl rfl) (pmk_retX rfl (pe_one1 T.B hr2 (pv 0))))) pss_nil)
      (pss_cons (ps_for (passes_of rfl) rfl (pi_or (pi_list (pv 0)) (pi_tup (pv 0))) (pg_name (i := 1) nd rfl (Or.inl rfl))
        (pss_one (ps_if (PW.pt (pw_or (pt_not (pt_val (pe_call Gl hr1 (by rfl) gl kl bl .nil pass0 (pa_cons (pv 1) pa_nil)))) (pw_or1 (pt_not (pt_val (pe_callB (cr_all rfl) (by rfl) B.all (by decide +kernel) (pa_cons (pe_lc (own := [("item", 2)]) (g := gName 2) (tt := tYes) rfl nd (pi_or (pi_list (pv 1)) (pi_tup (pv 1))) (blkOk_by (N := ["lists", "items", "item"]) (sc := defScope sTold) (by decide +kernel)) (fun _ _ _ _ _ => pg_name (i := 2) nd rfl (Or.inl rfl)) (fun _ _ _ _ _ => pts_nil) (fun _ _ _ _ _ => by exact (pe_call Gr hr2 (by rfl) gr kr br .nil pass0 (pa_cons (pv 2) pa_nil)))) pa_nil)))))))
          (pss_one (ps_raise rfl (takes_of rfl rfl rfl rfl) (pmk_retX rfl (pe_one1 T.B hr2 (pv 1))))) pss_nil)))
      (pss_cons (ps_if (pt_not (pt_val (pe_call Gw hr2 (by rfl) gw kw bw .nil pass0 (pa_cons (pe_callB call_len_seq (by rfl) B.len PySem.boot_len (pa_cons (pv 0) pa_nil)) (pa_cons (pe_glob (v := .int 2) (by rfl) gL ⟨_, rfl⟩) (pa_cons (pe_glob (v := .int 60) (by rfl) gM ⟨_, rfl⟩) pa_nil)))))) (pss_one (ps_raise rfl (takes_of rfl rfl rfl rfl) (pmk_retX rfl (pe_one1 T.B hr2 (pv 0))))) pss_nil)
      (pss_one (ps_ret (pe_lc (own := [("items", 1)]) (g := gName 1) (tt := tYes) rfl nd (pi_or (pi_list (pv 0)) (pi_tup (pv 0))) (blkOk_by (N := ["lists", "items", "item"]) (sc := defScope sTold) (by decide +kernel)) (fun _ _ _ _ _ => pg_name (i := 1) nd rfl (Or.inl rfl)) (fun _ _ _ _ _ => pts_nil)
        (fun _ _ _ _ _ => by exact (pe_lc (own := [("item", 2)]) (g := gName 2) (tt := tYes) rfl nd (pi_or (pi_listK K (pv 1)) (pi_tupK K (pv 1))) (blkOk_by (N := ["lists", "items", "item"]) (by rfl)) (fun _ _ _ _ _ => pg_name (i := 2) nd rfl (Or.inl rfl)) (fun _ _ _ _ _ => pts_nil) (fun _ _ _ _ _ => by exact (pe_call (E := E0) Ga hr (by rfl) ga ka ba .nil passL (pa_cons (pv 2) pa_nil)))))))))), ?_⟩
    -- what a lane is asked
    have asked : ∀ (u : V) (bs : List Bool) (H2 : Hp) (o0 o2 : Option V) (Kc : VK), Kinds K C H2 u bs → (∀ H3, Same H2 H3 → Kc (.bl (bs.all id)) H3) →
        tCB (rAll K) (tCons (tLc (fun σ H R => iList K (tVar 1) σ H R ∨ iTup K (tVar 1) σ H R) (gName 2) tYes (tCall (spIsR K C) [] E0 (tCons (tVar 2) tNil)) [2]) tNil) [o0, some u, o2] H2 Kc := by
      rintro u bs H2 o0 o2 Kc ⟨xs, sq, few, pr⟩ q
      dsimp only [tCB, tCons]
      refine lc_map (Rr := fun _ _ y b => y = .bl b) (fun R r => ⟨u, rfl, r⟩) sq few (paired_len pr) (fun _ _ _ _ _ h _ => h) (fun _ _ _ _ _ _ _ h => h) ?_ ?_
      · intro D i x b H3 rs Kc' hx hb s3 hD kc
        obtain ⟨b', hb', kd⟩ := paired_at pr hx
        rw [hb] at hb'
        cases hb'
        refine ⟨_, rfl, x, rfl, ?_⟩
        rcases kd with ⟨rfl, p, h⟩ | ⟨rfl, h⟩
        · exact .inl ⟨⟨p, h.same s3⟩, kc _ _ (fun _ _ e => e) rfl⟩
        · exact .inr ⟨h.same s3, kc _ _ (fun _ _ e => e) rfl⟩
      · intro D ws H5 nD s5 hD pw
        exact ⟨D, bs, rfl, SqL.of (by rw [← bl_list pw]; exact hD), q H5 s5⟩
    -- both ways through the loop as one
    have k' : (IsLT K H v false ∧ Bad cB v H E) ∨ ∃ (xs : List V) (lim : Nat), SeqV K H v xs ∧ (∀ i x, xs[i]? = some x → i ≤ lim → (i < lim ∧ ∃ ps, Given K C H x ps) ∨ (BadLane K C H x ∧ Bad cB x H E)) ∧
        (xs.length ≤ lim → ∃ pss, xs.length ≤ sizeLine ∧ Paired (Given K C H) xs pss ∧ ((¬ (2 ≤ pss.length ∧ pss.length ≤ 60) ∧ Bad cB v H E) ∨ (2 ≤ pss.length ∧ pss.length ≤ 60 ∧ NewLL C H Q pss))) := by
      rcases k with k | ⟨ls, pss, u, rest, sq, pr, bad, q⟩ | ⟨pss, ⟨ls, sq, few, pr⟩, k⟩
      · exact .inl k
      · refine .inr ⟨_, ls.length, sq, fun i x hx hi => ?_, fun h => ?_⟩
        · by_cases lt : i < ls.length
          · rw [List.getElem?_append_left lt] at hx
            obtain ⟨b, _, h⟩ := paired_at pr hx
            exact .inl ⟨lt, b, h⟩
          · obtain rfl : i = ls.length := by omega
            rw [List.getElem?_append_right (Nat.le_refl _), Nat.sub_self] at hx
            cases hx
            exact .inr ⟨bad, q⟩
        · rw [List.length_append, List.length_cons] at h
          exact absurd h (by omega)
      · refine .inr ⟨ls, ls.length, sq, fun i x hx hi => ?_, fun _ => ⟨pss, few, pr, k⟩⟩
        obtain ⟨b, _, h⟩ := paired_at pr hx
        exact .inl ⟨(List.getElem?_eq_some_iff.mp hx).1, b, h⟩
    clear k
    rcases k' with ⟨nl, q⟩ | ⟨xs, lim, sq, lap, k⟩
    · refine ⟨_, rfl, v, false, rfl, nl, fun H' z => ⟨_, rfl, _, rfl, ?_⟩⟩
      exact fun a dx H1 ha hd s e ed ne => ⟨a, _, dx, rfl, e, fr0_none (same_none z ha), raises_own T.B.Z.su T.tB, q dx _ (same_none z hd) (same_del (z.trans s) (same_none z ha)) (by rw [delH_ne ne]; exact ed)⟩
    · refine ⟨_, rfl, v, true, rfl, sq.isLT, fun H1 s1 => ⟨_, rfl, ?_⟩⟩
      refine ite2 (fun y => absurd y (by simp)) (fun _ => ?_)
      have sq1 := sq.same s1
      obtain ⟨a, rfl, sqa⟩ := id sq1
      have given1 : ∀ {H2 : Hp} {x : V} {ps : List (Int × Int)}, Same H H2 → Given K C H x ps → Given K C H2 x ps := by
        rintro H2 x ps s2 ⟨ys, h1, h2, h3⟩
        exact ⟨ys, h1.same s2, h2, Paired.mapP h3 fun _ _ z => z.same s2⟩
      refine for_seq (xs := xs) (fun R r => ⟨_, rfl, r⟩) sq1 (fun i σ H2 => i ≤ lim ∧ Same H1 H2 ∧ ∃ o1 o2, σ = [some (.ref a), o1, o2]) ⟨Nat.zero_le _, fun _ _ e => e, none, none, rfl⟩ (fun i σ H2 p => p.2.1) ?_ ?_
      · rintro i x σ H2 hx ⟨hi, s2, o1, o2, rfl⟩
        dsimp only [gName]
        have s02 := s1.trans s2
        have leave : ∀ (H4 : Hp), Same H2 H4 → Bad cB x H E → ∀ (a dx : Addr) (H5 : Hp), H4 a = none → H4 dx = none → Same H4 H5 → H5 a = some (exo a cB (some dx)) → H5 dx = some (exd dx [("value", x)]) → dx ≠ a → E (.ref cB) (some dx) (delH H5 a) := fun H4 s4 q a dx H5 ha hd s5 e ed ne =>
          q dx _ (same_none (s02.trans s4) hd) (same_del ((s02.trans s4).trans s5) (same_none (s02.trans s4) ha)) (by rw [delH_ne ne]; exact ed)
        rcases lap i x hx hi with ⟨lt, ps, gv⟩ | ⟨nl | ⟨bs, ⟨ys, h1, h2, h3⟩, fl⟩, q⟩
        · have gv := given1 s02 gv
          obtain ⟨ys, h1, h2, h3⟩ := id gv
          refine ⟨_, rfl, x, true, rfl, h1.isLT, fun H3 s3 => ⟨_, rfl, ?_⟩⟩
          refine ite2 (fun y => absurd y (by simp)) (fun _ => ?_)
          refine asked x (ps.map fun _ => true) H3 _ _ _ (Given.kinds ⟨ys, h1.same s3, h2, Paired.mapP h3 fun _ _ z => z.same s3⟩) fun H4 s4 => ⟨_, rfl, ?_⟩
          refine ite2 (fun y => absurd y (by simp)) (fun _ => ?_)
          exact ⟨lt, (s2.trans s3).trans s4, _, _, rfl⟩
        · refine ⟨_, rfl, x, false, rfl, nl.same s02, fun H3 s3 => ⟨_, rfl, ?_⟩⟩
          refine ite2 (fun _ => ?_) (fun y => absurd rfl y)
          refine ⟨_, rfl, ?_⟩
          exact fun a dx H5 ha hd s5 e ed ne => ⟨a, _, dx, rfl, e, fr0_none (same_none (s02.trans s3) ha), raises_own T.B.Z.su T.tB, leave H3 s3 q a dx H5 ha hd s5 e ed ne⟩
        · refine ⟨_, rfl, x, true, rfl, (h1.same s02).isLT, fun H3 s3 => ⟨_, rfl, ?_⟩⟩
          refine ite2 (fun y => absurd y (by simp)) (fun _ => ?_)
          refine asked x bs H3 _ _ _ ⟨ys, (h1.same s02).same s3, h2, Paired.mapP h3 fun _ _ z => (z.same s02).same s3⟩ fun H4 s4 => ⟨_, rfl, ?_⟩
          have no : bs.all id = false := by
            rw [List.all_eq_false]
            exact ⟨false, fl, by simp⟩
          rw [no]
          refine ite2 (fun _ => ?_) (fun y => absurd rfl y)
          refine ⟨_, rfl, ?_⟩
          exact fun a dx H5 ha hd s5 e ed ne => ⟨a, _, dx, rfl, e, fr0_none (same_none (s02.trans (s3.trans s4)) ha), raises_own T.B.Z.su T.tB, leave H4 (s3.trans s4) q a dx H5 ha hd s5 e ed ne⟩
      · rintro σ H2 ⟨le, s2, o1, o2, rfl⟩
        obtain ⟨pss, few, pr, k⟩ := k le
        have s02 := s1.trans s2
        have len := paired_len pr
        refine ⟨_, rfl, a, xs, rfl, (sq1.same s2).elim fun b h => by
          have e := h.1
          cases e
          exact h.2, ?_⟩
        refine ⟨_, 2, 60, rfl, ?_⟩
        rcases k with ⟨no, q⟩ | ⟨m2, m60, q⟩
        · refine .inr ⟨.inr ⟨_, rfl, by omega⟩, _, rfl, ?_⟩
          refine ite2 (fun _ => ?_) (fun y => absurd rfl y)
          refine ⟨_, rfl, ?_⟩
          exact fun b dx H5 ha hd s5 e ed ne => ⟨b, _, dx, rfl, e, fr0_none (same_none s02 ha), raises_own T.B.Z.su T.tB, q dx _ (same_none s02 hd) (same_del (s02.trans s5) (same_none s02 ha)) (by rw [delH_ne ne]; exact ed)⟩
        · refine .inl ⟨⟨_, rfl, by omega, by omega⟩, _, rfl, ?_⟩
          refine ite2 (fun y => absurd y (by simp)) (fun _ => ?_)
          refine lc_map (Rr := fun D H y ps => LaneN C H D y ps) (fun R r => ⟨_, rfl, r⟩) (sq1.same s2) few len (fun _ _ _ _ _ h z => h.same z) (fun _ _ _ _ _ _ hD h => h.grow hD) ?_ ?_
          · intro D i x ps H3 rs Kc hx hps s3 hD kc
            obtain ⟨ps', hps', gv⟩ := paired_at pr hx
            rw [hps] at hps'
            cases hps'
            obtain ⟨ys, h1, h2, h3⟩ := given1 (s02.trans s3) gv
            refine lc_map (Rr := fun _ H y p => RV C H y p) (fun R r => ⟨_, rfl, r⟩) h1 h2 (paired_len h3) (fun _ _ _ _ _ h z => h.same z) (fun _ _ _ _ _ _ hD h => rv_grow hD h) ?_ ?_
            · intro D' i' y p H4 rs' Kc' hy hp s4 hD' kc'
              obtain ⟨p', hp', sh⟩ := paired_at h3 hy
              rw [hp] at hp'
              cases hp'
              refine ⟨_, rfl, y, rfl, ?_⟩
              rcases sh with ⟨e, one⟩ | ⟨b, dx, e, hb⟩
              · refine .int p.1 e fun b dx H5 na s5 eb => kc' _ _ s5 ⟨b, dx, rfl, ?_⟩
                rw [eb, ← one]
              · exact .rat b dx p e (s4 _ _ hb) (kc' _ _ (fun _ _ e => e) ⟨b, dx, e, s4 _ _ hb⟩)
            · intro D' ws H5 nD' s5 hD' pw
              have ne : D' ≠ D := fun z => by
                rw [z, hD] at nD'
                cases nD'
              exact kc _ _ s5 ⟨D', ws, rfl, ne, hD', pw⟩
          · intro D ws H5 nD s5 hD pw
            exact q D ws H5 (same_none s02 nD) (s02.trans s5) hD (Paired.mapP pw fun _ _ z => z.v)
end
end K03
end
section
set_option maxHeartbeats 4000000
namespace K03
open PySem PySem.Spec PyProof.Rows L2 LamX NdefX L3
abbrev sWov : Stmt := top 29
def rLn (K : PySem.W.Frag) : List V → Hp → VK → Prop := fun xs H Q => ∃ p ys, xs = [.ref p] ∧ (SqL K H p ys ∨ SqT K H p ys) ∧ Q (.int ys.length) H
theorem call_lenK {X : Cx} (K : PySem.W.Frag) (hK : X.K = K := by rfl) : CallR X (.builtin "len") (rLn K) := by
  subst hK
  exact call_len_seq
theorem ix_listK {X : Cx} (K : PySem.W.Frag) (hK : X.K = K := by rfl) : IxR X (rIxL K) := by
  subst hK
  exact ix_list
/-- lane by lane: the first n of the items, turn and turn about -/
def wov (pss : List (List (Int × Int))) (n : Nat) : List (Int × Int) := (List.range n).map fun p => (pss.getD (p % pss.length) []).getD (p / pss.length) (0, 1)
/-- f is the first place of the least length s -/
structure MinAt (lens : List Nat) (s f : Nat) : Prop where
  at_ : lens[f]? = some s
  le : ∀ y ∈ lens, s ≤ y
  first : ∀ j, j < f → ∀ y, lens[j]? = some y → s < y
def spWov (K : PySem.W.Frag) (C cB : Addr) : Sp := fun vs H Q E => ∃ v, vs = [v] ∧ ((IsLT K H v false ∧ Bad cB v H E) ∨
  (∃ ls pss u rest, SeqV K H v (ls ++ u :: rest) ∧ Paired (Given K C H) ls pss ∧ BadLane K C H u ∧ Bad cB u H E) ∨
  (∃ pss, Lanes K C H v pss ∧ ((¬ (2 ≤ pss.length ∧ pss.length ≤ 60) ∧ Bad cB v H E) ∨ (2 ≤ pss.length ∧ pss.length ≤ 60 ∧ (∀ ps ∈ pss, ps.length ≤ 1000) ∧ ∀ s f, MinAt (pss.map List.length) s f → NewRL C H Q (wov pss (s * pss.length + f))))))
theorem min_at : ∀ (lens : List Nat), lens ≠ [] → ∃ s f, MinAt lens s f := by
  intro lens h
  induction lens with
  | nil => exact absurd rfl h
  | cons a l ih =>
    by_cases hl : l = []
    · subst hl
      exact ⟨a, 0, rfl, fun y hy => by simp at hy; omega, fun j hj => absurd hj (Nat.not_lt_zero _)⟩
    · obtain ⟨s, f, m⟩ := ih hl
      by_cases c : a ≤ s
      · refine ⟨a, 0, rfl, fun y hy => ?_, fun j hj => absurd hj (Nat.not_lt_zero _)⟩
        rcases List.mem_cons.mp hy with rfl | hy
        · exact Nat.le_refl _
        · exact Nat.le_trans c (m.le y hy)
      · refine ⟨s, f + 1, m.at_, fun y hy => ?_, fun j hj y hy => ?_⟩
        · rcases List.mem_cons.mp hy with rfl | hy
          · omega
          · exact m.le y hy
        · cases j with
          | zero => cases hy; omega
          | succ j => exact m.first j (by omega) y hy
/-- each place of a weave stands in its lane -/
theorem wov_at {pss : List (List (Int × Int))} {s f p : Nat} (m : MinAt (pss.map List.length) s f) (hp : p < s * pss.length + f) : ∃ ps q, pss[p % pss.length]? = some ps ∧ ps[p / pss.length]? = some q := by
  have lf : f < pss.length := by
    have := (List.getElem?_eq_some_iff.mp m.at_).1
    rwa [List.length_map] at this
  have pos : 0 < pss.length := by omega
  have hk := Nat.mod_lt p pos
  have e1 : pss[p % pss.length]? = some pss[p % pss.length] := List.getElem?_eq_getElem hk
  have e2 : (pss.map List.length)[p % pss.length]? = some (pss[p % pss.length]).length := by rw [List.getElem?_map, e1]; rfl
  have ge := m.le _ (List.mem_of_getElem? e2)
  have d := Nat.div_add_mod p pss.length
  have bound : p / pss.length < (pss[p % pss.length]).length := by
    by_cases c : p / pss.length < s
    · omega
    · have le : s * pss.length ≤ pss.length * (p / pss.length) := by
        rw [Nat.mul_comm s]
        exact Nat.mul_le_mul_left _ (by omega)
      have small : p % pss.length < f := by omega
      have eq : p / pss.length = s := by
        have : p / pss.length < s + 1 := by
          rw [Nat.div_lt_iff_lt_mul pos, Nat.succ_mul]
          omega
        omega
      have := m.first _ small _ e2
      omega
  exact ⟨_, _, e1, List.getElem?_eq_getElem bound⟩
section
variable {P : Program} {w : World} {K : PySem.W.Frag} {mg : Str → Option Value} {base : Heap} {cB cN C fI : Addr}
theorem scWov : FnScope ["lists", "told", "many", "shortest", "first", "items", "place"] ["lists"] (defScope sWov) := ⟨rfl, rfl, rfl, by decide +kernel, rfl, by decide +kernel, by decide +kernel⟩
theorem ok_woven {f ft : Addr} {fd fdt : FuncData} (F : Fun K "woven" "woven" sWov f fd) (B : TxtR mg) (Gt : FnOk P w K mg base (L2.CX P w) 7 ft fdt ["lists"] (spTold K C cB)) (gt : mg "told_lists" = some (.ref ft)) (kt : PySem.W.keepIn K (.ref ft) = true) (bt : Binds K fdt ["lists"] []) :
    FnOk P w K mg base (L2.CX P w) 8 f fd ["lists"] (spWov K C cB) := by
  refine F.okX scWov (fun vs H Q E h => ?_) (fun cdv A outer s H vs Q E hr h => ?_)
  · obtain ⟨v, rfl, _⟩ := h
    rfl
  · obtain ⟨v, rfl, k⟩ := h
    have nd := scWov.nd
    refine ⟨_, pss_cons (ps_set (i := 1) nd rfl (Or.inr rfl) (pe_call (E := E) Gt hr (by rfl) gt kt bt .nil (passK (takes_of rfl rfl rfl rfl)) (pa_cons (pv 0) pa_nil)))
      (pss_cons (ps_set (i := 2) nd rfl (Or.inr rfl) (pe_callB call_len_seq (by rfl) B.len PySem.boot_len (pa_cons (pv 1) pa_nil)))
      (pss_cons (ps_set (i := 3) nd rfl (Or.inl rfl) (pe_callB (cr_min rfl) (by rfl) B.min (by decide +kernel) (pa_cons (pe_lc (own := [("items", 5)]) (g := gName 5) (tt := tYes) rfl nd (pi_or (pi_list (pv 1)) (pi_tup (pv 1))) (blkOk_by (N := ["lists", "told", "many", "shortest", "first", "items", "place"]) (sc := defScope sWov) (by decide +kernel)) (fun _ _ _ _ _ => pg_name (i := 5) nd rfl (Or.inl rfl)) (fun _ _ _ _ _ => pts_nil) (fun _ _ _ _ _ => by exact (pe_callB (call_lenK K) (by rfl) B.len PySem.boot_len (pa_cons (pv 5) pa_nil)))) pa_nil)))
      (pss_cons (ps_set (i := 4) nd rfl (Or.inl rfl) (pe_bm PySem.F.plainAttrs_list PySem.F.slot_list_index PySem.F.type_list_index mt_index (pe_lc (own := [("items", 5)]) (g := gName 5) (tt := tYes) rfl nd (pi_or (pi_list (pv 1)) (pi_tup (pv 1))) (blkOk_by (N := ["lists", "told", "many", "shortest", "first", "items", "place"]) (sc := defScope sWov) (by decide +kernel)) (fun _ _ _ _ _ => pg_name (i := 5) nd rfl (Or.inl rfl)) (fun _ _ _ _ _ => pts_nil) (fun _ _ _ _ _ => by exact (pe_callB (call_lenK K) (by rfl) B.len PySem.boot_len (pa_cons (pv 5) pa_nil)))) (pa_cons (pv 3) pa_nil)))
      (pss_one (ps_ret (pe_lc (own := [("place", 6)]) (g := gName 6) (tt := tYes) rfl nd (pi_range1 (by rfl) B.range (pa_cons (pe_op op_add (pe_op op_mul (pv 3) (pv 2)) (pv 4)) pa_nil)) (blkOk_by (N := ["lists", "told", "many", "shortest", "first", "items", "place"]) (sc := defScope sWov) (by decide +kernel)) (fun _ _ _ _ _ => pg_name (i := 6) nd rfl (Or.inl rfl)) (fun _ _ _ _ _ => pts_nil)
        (fun _ _ _ _ _ => by exact (pe_ix (ix_listK K) (pe_ix (ix_listK K) (pv 1) (pe_op op_mod (pv 6) (pv 2)) (fun _ _ => rfl)) (pe_op op_fdiv (pv 6) (pv 2)) (fun _ _ => rfl))))))))), ?_⟩
    rcases k with h | h | ⟨pss, ln, k⟩
    · exact ⟨_, rfl, v, rfl, .inl h⟩
    · exact ⟨_, rfl, v, rfl, .inr (.inl h)⟩
    · refine ⟨_, rfl, v, rfl, .inr (.inr ⟨pss, ln, ?_⟩)⟩
      rcases k with k | ⟨m2, m60, small, q⟩
      · exact .inl k
      · refine .inr ⟨m2, m60, fun l ws H1 nl s1 hl pw => ?_⟩
        have lw := paired_len pw
        obtain ⟨s, f, mn⟩ := min_at (pss.map List.length) (fun e => by
          have z := congrArg List.length e
          rw [List.length_map] at z
          simp at z
          rw [z] at m2
          simp at m2)
        have q := q s f mn
        have lf : f < pss.length := by
          have := (List.getElem?_eq_some_iff.mp mn.at_).1
          rwa [List.length_map] at this
        have ls : s ≤ 1000 := by
          obtain ⟨ps, hps, e⟩ := List.mem_map.mp (List.mem_of_getElem? mn.at_)
          rw [← e]
          exact small ps hps
        have bound : s * pss.length ≤ 60000 := Nat.le_trans (Nat.mul_le_mul ls m60) (by decide)
        refine ⟨_, rfl, l, ws, rfl, .inl (SqL.of hl), ?_⟩
        dsimp only [gName]
        have lensP : ∀ (H2 : Hp) (o3 o4 o5 o6 : Option V) (Kc : VK), Same H1 H2 → (∀ (D : Addr) (ws' : List V) (H3 : Hp), H2 D = none → Same H2 H3 → H3 D = some (.lst ws') → Paired (fun (y : V) (n : Nat) => y = .int n) ws' (pss.map List.length) → Kc (.ref D) H3) →
            tLc (fun σ H R => iList K (tVar 1) σ H R ∨ iTup K (tVar 1) σ H R) (gName 5) tYes (tCB (rLn K) (tCons (tVar 5) tNil)) [5] [some v, some (.ref l), some (.int ws.length), o3, o4, o5, o6] H2 Kc := by
          intro H2 o3 o4 o5 o6 Kc s2 kc
          refine lc_map (xs := ws) (bs := pss.map List.length) (Rr := fun _ _ (y : V) (n : Nat) => y = .int n) (fun R r => ⟨_, rfl, r⟩) ⟨l, rfl, .inl (SqL.of (s2 _ _ hl))⟩ (Nat.le_trans (by omega : ws.length ≤ 60) (by decide)) (by rw [List.length_map]; exact lw) (fun _ _ _ _ _ h _ => h) (fun _ _ _ _ _ _ _ h => h) ?_ ?_
          · intro D i x n H3 rs Kc' hx hn s3 hD kc'
            obtain ⟨ps, hps, a, xs, rfl, ha, pa⟩ := paired_at pw hx
            rw [List.getElem?_map, hps] at hn
            cases hn
            refine ⟨_, rfl, a, xs, rfl, .inl (SqL.of (s3 _ _ (s2 _ _ ha))), kc' _ _ (fun _ _ e => e) ?_⟩
            rw [paired_len pa]
          · intro D ws' H3 nD s3 hD pw'
            exact kc D ws' H3 nD s3 hD pw'
        refine seq_to (fun σ' H2 => σ' = [some v, some (.ref l), some (.int ws.length), some (.int s), none, none, none] ∧ Same H1 H2) (fun kk hK => ?_) ?_
        · dsimp only [tAsg, tCB, tCons]
          refine lensP H1 none none none none _ (fun _ _ e => e) fun D ws' H3 nD s3 hD pw' => ?_
          refine ⟨D, (pss.map List.length).map fun (n : Nat) => (n : Int), rfl, SqL.of (by rw [← int_list pw']; exact hD), by simp; omega, fun m hm hle => ?_⟩
          have e : m = (s : Int) := by
            obtain ⟨n, hn, rfl⟩ := List.mem_map.mp hm
            have h1 := mn.le n hn
            have h2 := hle s (List.mem_map.mpr ⟨s, List.mem_of_getElem? mn.at_, rfl⟩)
            omega
          rw [e]
          exact hK _ _ ⟨rfl, s3⟩
        rintro σ' H2 ⟨rfl, s2⟩
        refine seq_to (fun σ' H3 => σ' = [some v, some (.ref l), some (.int ws.length), some (.int s), some (.int f), none, none] ∧ Same H1 H3) (fun kk hK => ?_) ?_
        · dsimp only [tAsg, tBM, tCons]
          refine lensP H2 _ _ _ _ _ s2 fun D ws' H3 nD s3 hD pw' => ?_
          refine ⟨.inl ⟨rfl, _, SqL.of hD⟩, _, rfl, D, ws', .int s, f, .int s, rfl, rfl, SqL.of hD, rfl, ?_, ?_, ?_, fun j z hj hz => ?_, hK _ _ ⟨rfl, s2.trans s3⟩⟩
          · rw [int_list pw']
            simp [flatV]
          · rw [int_list pw', List.getElem?_map, List.getElem?_map, mn.at_]
            rfl
          · simp [eqV]
          · obtain ⟨n, hn, rfl⟩ := paired_at pw' hz
            have := mn.first j hj n hn
            simp [eqV]
            omega
        rintro σ' H3 ⟨rfl, s3⟩
        refine ⟨_, rfl, _, rfl, s, ws.length, rfl, rfl, ?_, _, rfl, _, f, rfl, rfl, ((s * pss.length + f : Nat) : Int), ?_, by omega, by omega, fun D nD => ?_⟩
        · exact .inl ⟨by omega, by omega⟩
        · rw [lw]
          simp
        rw [Int.toNat_natCast]
        refine lc_mapR (bs := wov pss (s * pss.length + f)) (Rr := fun _ H y p => RV C H y p) (Nat.le_trans (by omega : s * pss.length + f ≤ 60060) (by decide)) (by unfold wov; rw [List.length_map, List.length_range]) (fun _ _ _ _ _ h z => h.same z) (fun _ _ _ _ _ _ hD h => rv_grow hD h) ?_ ?_ D nD
        · intro D p x H4 rs Kc hp hx s4 hD kc
          obtain ⟨ps, y, e1, e2⟩ := wov_at mn hp
          have ex : x = y := by
            unfold wov at hx
            rw [List.getElem?_map, List.getElem?_range hp] at hx
            have hx := Option.some.inj hx
            rw [← hx]
            dsimp only
            have g1 : pss.getD (p % pss.length) [] = ps := by
              rw [List.getD_eq_getElem?_getD, e1]
              rfl
            rw [g1, List.getD_eq_getElem?_getD, e2]
            rfl
          subst ex
          have s04 := s3.trans s4
          obtain ⟨lv, hlv, hlane⟩ : ∃ lv, ws[p % pss.length]? = some lv ∧ LaneV C H1 lv ps := by
            have lt : p % pss.length < ws.length := by rw [lw]; exact Nat.mod_lt _ (by omega)
            obtain ⟨b, hb, h⟩ := paired_at pw (List.getElem?_eq_getElem lt)
            rw [e1] at hb
            cases hb
            exact ⟨_, List.getElem?_eq_getElem lt, h⟩
          obtain ⟨a, xs, rfl, ha, pa⟩ := hlane
          obtain ⟨rv, hrv, hr⟩ : ∃ rv, xs[p / pss.length]? = some rv ∧ RV C H1 rv x := by
            have lt : p / pss.length < xs.length := by
              rw [paired_len pa]
              exact (List.getElem?_eq_some_iff.mp e2).1
            obtain ⟨b, hb, h⟩ := paired_at pa (List.getElem?_eq_getElem lt)
            rw [e2] at hb
            cases hb
            exact ⟨_, List.getElem?_eq_getElem lt, h⟩
          have z0 : (0 : Int) + (p : Int) = (p : Int) := by omega
          refine ⟨_, rfl, _, rfl, _, rfl, (p : Int), ws.length, ?_, rfl, by omega, l, ws, _, .ref a, rfl, rfl, SqL.of (s04 _ _ hl), ?_, ?_⟩
          · rw [z0]
          · show atI ws ((p % ws.length : Nat) : Int) = _
            exact atI_nat (by rw [lw]; exact hlv)
          · refine ⟨_, rfl, _, rfl, (p : Int), ws.length, ?_, rfl, ⟨by omega, by omega⟩, a, xs, _, rv, rfl, rfl, SqL.of (s04 _ _ ha), ?_, kc _ _ (fun _ _ e => e) (hr.same s04)⟩
            · rw [z0]
            · show atI xs ((p / ws.length : Nat) : Int) = _
              exact atI_nat (by rw [lw]; exact hrv)
        · intro D ws' H5 nD s5 hD pw'
          exact q D ws' H5 (same_none (s1.trans s3) nD) ((s1.trans s3).trans s5) hD pw'
end
end K03
end
section
set_option maxHeartbeats 4000000
namespace K03
open PySem PySem.Spec PyProof.Rows L2
/-- the pen: the cells' list at c, the stop s, the rest r -/
def pen (c : Addr) (s r : Int) : List (Key × V) := [(.inr "cells", .ref c), (.inr "begun", .int s), (.inr "left", .int r)]
theorem n1 : ¬ (("cells" : Str) = "begun") := by decide +kernel
theorem n2 : ¬ (("cells" : Str) = "left") := by decide +kernel
theorem n3 : ¬ (("begun" : Str) = "left") := by decide +kernel
theorem n4 : ¬ (("left" : Str) = "begun") := by decide +kernel
theorem pen_cells (c : Addr) (s r : Int) : valV (pen c s r) (.inr "cells") = some (.ref c) := valV_pos rfl
theorem pen_stop (c : Addr) (s r : Int) : valV (pen c s r) (.inr "begun") = some (.int s) := (valV_neg fun z => n1 (Sum.inr.inj z)).trans (valV_pos rfl)
theorem pen_rest (c : Addr) (s r : Int) : valV (pen c s r) (.inr "left") = some (.int r) := (valV_neg fun z => n2 (Sum.inr.inj z)).trans ((valV_neg fun z => n3 (Sum.inr.inj z)).trans (valV_pos rfl))
theorem put_stop (c : Addr) (s r z : Int) : putK (pen c s r) (.inr "begun") (.int z) = pen c z r := by
  simp [putK, pen, n1, n4]
theorem put_rest (c : Addr) (s r z : Int) : putK (pen c s r) (.inr "left") (.int z) = pen c s z := by
  simp [putK, pen, n2, n3]
theorem merge_pen (c : Addr) (s r : Int) : mergeK [] (pen c s r) = pen c s r := by
  simp [mergeK, putK, pen, n1, n2, n3]
structure PenAt (H : Hp) (d c : Addr) (s r : Int) (cells : List Int) : Prop where
  dc : H d = some (.dK (pen c s r))
  ls : H c = some (.lst (cells.map V.int))
theorem PenAt.ne {H : Hp} {d c : Addr} {s r : Int} {cells : List Int} (p : PenAt H d c s r cells) : c ≠ d := ne_of p.ls p.dc (by intro z; cases z)
theorem PenAt.set {H : Hp} {d c : Addr} {s r : Int} {cells : List Int} (p : PenAt H d c s r cells) (s' r' : Int) : PenAt (upd H d (.dK (pen c s' r'))) d c s' r' cells := ⟨upd_same, by rw [upd_ne p.ne]; exact p.ls⟩
/-- all that was tracked but at d is as it was -/
def SameBut (d : Addr) (H H' : Hp) : Prop := ∀ b o, H b = some o → b ≠ d → H' b = some o
theorem SameBut.put {d : Addr} {H H' : Hp} {o : HO} (h : SameBut d H H') : SameBut d H (upd H' d o) := fun b u e n => by rw [upd_ne n]; exact h b u e n
theorem SameBut.new {d p : Addr} {H H' : Hp} {o : HO} (h : SameBut d H H') (hp : H' p = none) : SameBut d H (upd H' p o) := fun b u e n => by
  rw [upd_ne (ne_of_none (h b u e n) hp)]
  exact h b u e n
theorem SameBut.refl {d : Addr} {H : Hp} : SameBut d H H := fun _ _ e _ => e
theorem PenAt.new {H : Hp} {d c q : Addr} {s r : Int} {cells : List Int} {o : HO} (p : PenAt H d c s r cells) (hq : H q = none) : PenAt (upd H q o) d c s r cells :=
  ⟨by rw [upd_ne (ne_of_none p.dc hq)]; exact p.dc, by rw [upd_ne (ne_of_none p.ls hq)]; exact p.ls⟩
def spDraw : Sp := fun vs H Q _ => ∃ (d c : Addr) (s r many : Int) (cells : List Int), vs = [.ref d, .int many] ∧ PenAt H d c s r cells ∧ 0 ≤ s ∧ s ≤ 100000 ∧ cells.length ≤ 63 ∧ 0 < many ∧ many < 2 ^ 30 ∧
  ∀ (n s' r' : Int) (H' : Hp), 0 ≤ n → n < many → 0 ≤ s' → s' ≤ s + 1 → PenAt H' d c s' r' cells → SameBut d H H' → Q (.int n) H'
theorem dp_ints {K : PySem.W.Frag} {H : Hp} : ∀ ns : List Int, DpAll K H (ns.map V.int) (ns.map PyData.int)
  | [] => .nil
  | n :: r => .cons (.int n) (dp_ints r)
theorem at_mod {cells : List Int} (h : 0 < cells.length) (s : Int) : ∃ x, atI (cells.map V.int) (s % ((cells.map V.int).length : Int)) = some (.int x) := by
  have a1 := Int.emod_nonneg s (show ((cells.map V.int).length : Int) ≠ 0 by rw [List.length_map]; omega)
  have a2 := Int.emod_lt_of_pos s (show (0 : Int) < ((cells.map V.int).length : Int) by rw [List.length_map]; omega)
  rw [List.length_map] at a1 a2
  rw [List.length_map, show s % (cells.length : Int) = (((s % (cells.length : Int)).toNat : Nat) : Int) by omega]
  have a3 : (s % (cells.length : Int)).toNat < cells.length := by omega
  exact ⟨cells[(s % (cells.length : Int)).toNat], atI_nat (by rw [List.getElem?_map, List.getElem?_eq_getElem a3]; rfl)⟩
theorem modb (a : Int) {m : Int} (h : 0 < m) (h2 : m < 2 ^ 64) : -(2 ^ 64) < a % m ∧ a % m < 2 ^ 64 := by
  have x := Int.emod_nonneg a (show m ≠ 0 by omega)
  have y := Int.emod_lt_of_pos a h
  omega
def spPick : Sp := fun vs H Q _ => ∃ (d c l : Addr) (s r : Int) (cells : List Int) (xs : List V), vs = [.ref d, .ref l] ∧ PenAt H d c s r cells ∧ 0 ≤ s ∧ s ≤ 100000 ∧ cells.length ≤ 63 ∧ H l = some (.lst xs) ∧ 0 < xs.length ∧ xs.length ≤ 1000 ∧
  ∀ (v : V) (s' r' : Int) (H' : Hp), v ∈ xs → 0 ≤ s' → s' ≤ s + 1 → PenAt H' d c s' r' cells → SameBut d H H' → Q v H'
/-- a pair of integers at t -/
def Pair (H : Hp) (t : Addr) (p : Int × Int) : Prop := H t = some (.tup [.int p.1, .int p.2])
/-- a new pair -/
def NewP (H : Hp) (Q : VK) (p : Int × Int) : Prop := ∀ (t : Addr) (H' : Hp), H t = none → Same H H' → Pair H' t p → Q (.ref t) H'
theorem NewP.at {H : Hp} {Q : VK} {p : Int × Int} (h : NewP H Q p) (t : Addr) (ht : H t = none) : Q (.ref t) (upd H t (.tup [.int p.1, .int p.2])) := h t _ ht (Same.new (fun _ _ e => e) ht) upd_same
def spGcd : Sp := fun vs H Q _ => ∃ a b : Int, vs = [.int a, .int b] ∧ Q (.int ((Nat.gcd a.natAbs b.natAbs : Nat) : Int)) H
def spLowest : Sp := fun vs H Q _ => ∃ a b : Int, vs = [.int a, .int b] ∧ b ≠ 0 ∧ Sz b ∧ NewP H Q (low a b)
def gcdM (σ : L2.St) (_ : Hp) : Nat := match (σ[1]? : Option (Option V)) with
  | some (some (V.int l)) => l.toNat
  | _ => 0
theorem euclid {m n : Nat} : Nat.gcd n (m % n) = Nat.gcd m n := by
  rw [Nat.gcd_comm n (m % n), ← Nat.gcd_rec, Nat.gcd_comm]

theorem abs_cast (e : Int) : (if e < 0 then -e else e) = ((e.natAbs : Nat) : Int) := by split <;> omega
end K03
end
section
set_option maxHeartbeats 4000000
namespace K03
open PySem PySem.Spec PyProof.Rows L2 LamX NdefX L3
abbrev sBegin : Stmt := top 39
abbrev sDraw2 : Stmt := top 40
abbrev sPick2 : Stmt := top 41
def spPen2 (K : PySem.W.Frag) : Sp := fun vs H Q _ => ∃ (a : Addr) (ns : List Int), vs = [.ref a] ∧ SqL K H a (ns.map V.int) ∧ ns.length ≤ 63 ∧
  ∀ (d c : Addr) (H' : Hp), H d = none → H c = none → Same H H' → PenAt H' d c 0 0 ns → Q (.ref d) H'
section
variable {P : Program} {w : World} {K : PySem.W.Frag} {mg : Str → Option Value} {base : Heap}
theorem scBegin : FnScope ["_law_script"] ["_law_script"] (defScope sBegin) := ⟨rfl, rfl, rfl, by decide +kernel, rfl, by decide +kernel, by decide +kernel⟩
theorem ok_begin {f : Addr} {fd : FuncData} (F : Fun K "_law_begin" "_law_begin" sBegin f fd) (T : TxtR mg) : FnOk P w K mg base CX0 1 f fd ["_law_script"] (spPen2 K) := by
  refine F.ok scBegin (fun vs H Q E h => ?_) (fun cdv A outer s H vs Q E hr h => ?_)
  · obtain ⟨a, ns, rfl, _⟩ := h
    rfl
  · obtain ⟨a, ns, rfl, hS, hl, k⟩ := h
    refine ⟨_, pss_one (ps_ret (pe_disp (pps_cons pe_str (pe_callTy call_list_of (by rfl) T.list (by decide +kernel) (pa_cons (pe_slice sl_list (pv 0) po_none (po_some pe_int)) pa_nil))
      (pps_cons pe_str pe_int (pps_cons pe_str pe_int pps_nil))) (by rfl) (by rfl) (fun z => by cases z) (by decide))), ?_⟩
    intro d hd
    refine ⟨_, rfl, 63, rfl, a, ns.map V.int, rfl, ?_, fun p hp => ?_⟩
    · exact Same.seq (fun b o e => by rw [upd_ne (ne_of_none e hd)]; exact e) hS
    have e1 : cutV (ns.map V.int) none (some 63) = ns.map V.int := by
      unfold cutV
      rw [HT.sIx_none, List.drop_zero, show (some (63 : Int)) = some ((63 : Nat) : Int) from rfl, HT.sIx_nat, List.length_map, Nat.sub_zero]
      exact List.take_of_length_le (by rw [List.length_map]; omega)
    rw [e1]
    have npd : p ≠ d := fun z => by rw [z, upd_same] at hp; cases hp
    have hp0 : H p = none := by rw [upd_ne npd] at hp; exact hp
    refine ⟨p, _, rfl, .inl (SqL.of upd_same), fun c hc => ?_⟩
    have ncp : c ≠ p := fun z => by rw [z, upd_same] at hc; cases hc
    have hc1 : upd H d (.dK []) c = none := by rw [upd_ne ncp] at hc; exact hc
    have ncd : c ≠ d := fun z => by rw [z, upd_same] at hc1; cases hc1
    have hc0 : H c = none := by rw [upd_ne ncd] at hc1; exact hc1
    refine ⟨by rw [upd_ne ncd.symm, upd_ne npd.symm, upd_same], pen c 0 0, rfl, by show 3 ≤ 15; decide, ?_⟩
    rw [merge_pen]
    refine k d c _ hd hc0 (fun b o e => ?_) ⟨upd_same, by rw [upd_ne ncd, upd_same]⟩
    rw [upd_ne (ne_of_none e hd), upd_ne (ne_of_none e hc0), upd_ne (ne_of_none e hp0), upd_ne (ne_of_none e hd)]
    exact e
theorem scDraw2 : FnScope ["_law_pen", "_law_span", "_law_digit", "_law_at", "_law_cell", "_law_n"] ["_law_pen", "_law_span"] (defScope sDraw2) := ⟨rfl, rfl, rfl, by decide +kernel, rfl, by decide +kernel, by decide +kernel⟩
theorem ok_draw2 {f : Addr} {fd : FuncData} (F : Fun K "_law_draw" "_law_draw" sDraw2 f fd) (T : TxtR mg) : FnOk P w K mg base CX0 1 f fd ["_law_pen", "_law_span"] spDraw := by
  refine F.ok scDraw2 (fun vs H Q E h => ?_) (fun cdv A outer s H vs Q E hr h => ?_)
  · obtain ⟨d, c, s, r, many, cells, rfl, _⟩ := h
    rfl
  · obtain ⟨d, c, st, r, many, cells, rfl, p, h0, h1, hl, hm, hm2, k⟩ := h
    have hu := hu_of hr
    have nd := scDraw2.nd
    refine ⟨_, (pss_cons (ps_if (pt_cmpR op_gt (pe_dget hu (pv 0) pe_str (fun _ _ => rfl)) pe_int (nomark _)) (pss_cons (ps_set (i := 2) nd rfl (Or.inl rfl) (pe_op op_mod (pe_callTy call_int1 (by rfl) T.int (by decide +kernel) (pa_cons (pe_dget hu (pv 0) pe_str (fun _ _ => rfl)) pa_nil)) (pv 1)))
      (pss_cons (ps_dput hu (pv 0) pe_str (pe_op op_fdiv (pe_dget hu (pv 0) pe_str (fun _ _ => rfl)) (pv 1)) rfl)
      (pss_one (ps_ret (pv 2))))) pss_nil)
      (pss_cons (ps_set (i := 3) nd rfl (Or.inl rfl) (pe_dget hu (pv 0) pe_str (fun _ _ => rfl)))
      (pss_cons (ps_dput hu (pv 0) pe_str (pe_op op_add (pv 3) pe_int) rfl)
      (pss_cons (ps_set (i := 4) nd rfl (Or.inl rfl) (pe_op op_add (pe_op op_mul pe_int (pv 3)) pe_int))
      (pss_cons (ps_if (pt_cmpR (op_neD hr.units) (pe_dget hu (pv 0) pe_str (fun _ _ => rfl)) (pe_lst pa_nil) (nomark _)) (pss_one (ps_set (i := 4) nd rfl (Or.inl rfl) (pe_ix ix_list (pe_dget hu (pv 0) pe_str (fun _ _ => rfl)) (pe_op op_mod (pe_callTy call_int1 (by rfl) T.int (by decide +kernel) (pa_cons (pv 3) pa_nil)) (pe_callB call_len_seq (by rfl) T.len PySem.boot_len (pa_cons (pe_dget hu (pv 0) pe_str (fun _ _ => rfl)) pa_nil))) (fun _ _ => rfl)))) pss_nil)
      (pss_cons (ps_if (PW.pt (pw_and (pt_cmpR op_lt (pv 3) (pe_callB call_len_seq (by rfl) T.len PySem.boot_len (pa_cons (pe_dget hu (pv 0) pe_str (fun _ _ => rfl)) pa_nil)) (nomark _)) (pw_and1 (pt_cmpR op_ge (pe_callB call_abs (by rfl) T.abs (by decide +kernel) (pa_cons (pv 4) pa_nil)) (pe_op op_pow pe_int pe_int) (nomark _)))))
          (pss_cons (ps_dput hu (pv 0) pe_str (pe_op op_fdiv (pe_op op_sub (pe_callB call_abs (by rfl) T.abs (by decide +kernel) (pa_cons (pv 4) pa_nil)) (pe_op op_pow pe_int pe_int)) (pv 1)) rfl)
          (pss_one (ps_ret (pe_op op_mod (pe_callTy call_int1 (by rfl) T.int (by decide +kernel) (pa_cons (pe_op op_sub (pe_callB call_abs (by rfl) T.abs (by decide +kernel) (pa_cons (pv 4) pa_nil)) (pe_op op_pow pe_int pe_int)) pa_nil)) (pv 1))))) pss_nil)
      (pss_cons (ps_set (i := 5) nd rfl (Or.inl rfl) (pe_op op_add (pe_op op_mul (pe_op op_mod (pe_callTy call_int1 (by rfl) T.int (by decide +kernel) (pa_cons (pv 4) pa_nil)) pe_int) pe_int) (pe_op op_mul (pe_op op_mul pe_int (pv 3)) (pv 3))))
      (pss_cons (ps_set (i := 5) nd rfl (Or.inl rfl) (pe_op op_mod (pe_callTy call_int1 (by rfl) T.int (by decide +kernel) (pa_cons (pe_op op_add (pe_op op_add (pv 5) (pe_op op_mul pe_int (pv 3))) pe_int) pa_nil)) pe_int))
      (pss_cons (ps_set (i := 5) nd rfl (Or.inl rfl) (pe_op op_mod (pe_callTy call_int1 (by rfl) T.int (by decide +kernel) (pa_cons (pe_op op_add (pe_op op_add (pe_op op_add (pe_op op_mul (pv 5) (pv 5)) (pe_op op_mul pe_int (pv 5))) (pe_op op_mul pe_int (pv 3))) pe_int) pa_nil)) pe_int))
      (pss_cons (ps_set (i := 5) nd rfl (Or.inl rfl) (pe_op op_mod (pe_callTy call_int1 (by rfl) T.int (by decide +kernel) (pa_cons (pe_op op_add (pe_op op_add (pe_op op_mul (pv 5) (pv 5)) (pe_op op_mul pe_int (pv 5))) (pv 3)) pa_nil)) pe_int))
      (pss_one (ps_ret (pe_op op_mod (pe_callTy call_int1 (by rfl) T.int (by decide +kernel) (pa_cons (pe_op op_fdiv (pe_op op_mod (pe_callTy call_int1 (by rfl) T.int (by decide +kernel) (pa_cons (pe_op op_mul (pv 5) (pe_op op_add (pv 5) pe_int)) pa_nil)) pe_int) pe_int) pa_nil)) (pv 1)))))))))))))), ?_⟩
    have gs : ∀ {H' : Hp} {s' r' : Int}, PenAt H' d c s' r' cells → DGet H' d (.str "begun") (some (.int s')) := fun {H' s' r'} q => by
      have z := DGet.k (k := (.inr "begun" : Key)) q.dc
      rw [pen_stop] at z
      exact z
    have gr : ∀ {H' : Hp} {s' r' : Int}, PenAt H' d c s' r' cells → DGet H' d (.str "left") (some (.int r')) := fun {H' s' r'} q => by
      have z := DGet.k (k := (.inr "left" : Key)) q.dc
      rw [pen_rest] at z
      exact z
    have gc : ∀ {H' : Hp} {s' r' : Int}, PenAt H' d c s' r' cells → DGet H' d (.str "cells") (some (.ref c)) := fun {H' s' r'} q => by
      have z := DGet.k (k := (.inr "cells" : Key)) q.dc
      rw [pen_cells] at z
      exact z
    have us : ∀ {H' : Hp} {s' r' : Int} (z : Int), PenAt H' d c s' r' cells → DPut H' d (.str "begun") (.int z) (upd H' d (.dK (pen c z r'))) := fun {H' s' r'} z q => by
      have y := DPut.k (k := (.inr "begun" : Key)) (v := .int z) q.dc (by show 3 < sizeLine; decide)
      rw [put_stop] at y
      exact y
    have ur : ∀ {H' : Hp} {s' r' : Int} (z : Int), PenAt H' d c s' r' cells → DPut H' d (.str "left") (.int z) (upd H' d (.dK (pen c s' z))) := fun {H' s' r'} z q => by
      have y := DPut.k (k := (.inr "left" : Key)) (v := .int z) q.dc (by show 3 < sizeLine; decide)
      rw [put_rest] at y
      exact y
    refine seq_to (fun σ' H' => σ' = [some (.ref d), some (.int many), none, none, none, none] ∧ H' = H) (fun kk hK => ?_) ?_
    · refine ⟨_, rfl, d, _, rfl, gr p, _, _, rfl, rfl, _, rfl, ?_⟩
      refine ite2 (fun _ => ?_) (fun _ => ?_)
      · refine ⟨_, rfl, d, _, rfl, gr p, .inl ⟨_, rfl, _, rfl, _, _, rfl, rfl, hm, ?_⟩⟩
        refine ⟨_, rfl, d, _, rfl, gr p, _, rfl, _, _, rfl, rfl, ⟨hm, hm2⟩, _, rfl, d, _, rfl, ur _ p, ?_⟩
        exact ⟨_, rfl, k _ _ _ _ (Int.emod_nonneg _ (by omega)) (Int.emod_lt_of_pos _ hm) h0 (by omega) (p.set _ _) SameBut.refl.put⟩
      · exact hK _ _ ⟨rfl, rfl⟩
    rintro σ' H' ⟨rfl, rfl⟩
    have p1 := p.set (st + 1) r
    refine ⟨_, rfl, d, _, rfl, gs p, _, rfl, _, _, rfl, rfl, _, rfl, d, _, rfl, us _ p, _, rfl, _, _, rfl, rfl, .inl ⟨by decide, by decide⟩, _, _, rfl, rfl, ?_⟩
    dsimp only [gName]
    refine seq_to (fun σ' H2 => ∃ x : Int, σ' = [some (.ref d), some (.int many), none, some (.int st), some (.int x), none] ∧ PenAt H2 d c (st + 1) r cells ∧ SameBut d H' H2) (fun kk hK => ?_) ?_
    · refine ⟨_, rfl, d, _, rfl, gc p1, by show 0 ≤ sizeLine; decide, fun l hn => ?_⟩
      have p2 := p1.new (o := .lst []) hn
      have sb : SameBut d H' (upd (upd H' d (.dK (pen c (st + 1) r))) l (.lst [])) := SameBut.refl.put.new hn
      have hl2 : upd (upd H' d (.dK (pen c (st + 1) r))) l (.lst []) l = some (.lst []) := upd_same
      generalize upd (upd H' d (.dK (pen c (st + 1) r))) l (.lst []) = H2 at p2 sb hl2 ⊢
      refine ⟨.list (cells.map PyData.int), .list [], .lst (SqL.of p2.ls) (dp_ints _), .lst (SqL.of hl2) .nil, PySem.W.ke_shaped_ints _, by decide +kernel, _, rfl, ?_⟩
      refine ite2 (fun nz => ?_) (fun _ => ?_)
      · have pos : 0 < cells.length := by
          cases cells with
          | nil => exact absurd nz (by decide)
          | cons _ _ => exact Nat.succ_pos _
        have l0 : (0 : Int) < ((cells.map V.int).length : Int) := by rw [List.length_map]; omega
        obtain ⟨x, hx⟩ := at_mod pos st
        refine ⟨_, rfl, d, _, rfl, gc p2, _, rfl, .inl ⟨_, rfl, _, rfl, d, _, rfl, gc p2, c, _, rfl, .inl (SqL.of p2.ls), _, _, rfl, rfl, l0, c, _, _, .int x, rfl, rfl, SqL.of p2.ls, hx, ?_⟩⟩
        exact hK _ _ ⟨x, rfl, p2, sb⟩
      · exact hK _ _ ⟨_, rfl, p2, sb⟩
    rintro σ' H2 ⟨x, rfl, p2, sb⟩
    refine seq_to (fun σ' H3 => σ' = [some (.ref d), some (.int many), none, some (.int st), some (.int x), none] ∧ H3 = H2) (fun kk hK => ?_) ?_
    · refine ⟨_, rfl, _, rfl, d, _, rfl, gc p2, c, _, rfl, .inl (SqL.of p2.ls), _, _, rfl, rfl, _, rfl, ?_⟩
      refine ite2 (fun _ => ?_) (fun _ => iteF ?_)
      · refine ⟨_, rfl, x, rfl, _, _, rfl, rfl, ⟨by decide, by decide, by decide⟩, _, _, rfl, rfl, _, rfl, ?_⟩
        refine ite2 (fun _ => ?_) (fun _ => ?_)
        · refine ⟨_, rfl, x, rfl, _, _, rfl, rfl, ⟨by decide, by decide, by decide⟩, _, _, rfl, rfl, _, rfl, _, _, rfl, rfl, ⟨hm, hm2⟩, _, rfl, d, _, rfl, ur _ p2, ?_⟩
          refine ⟨_, rfl, x, rfl, _, _, rfl, rfl, ⟨by decide, by decide, by decide⟩, _, _, rfl, rfl, .inl ⟨_, rfl, _, rfl, _, _, rfl, rfl, hm, ?_⟩⟩
          exact k _ _ _ _ (Int.emod_nonneg _ (by omega)) (Int.emod_lt_of_pos _ hm) (by omega) (Int.le_refl _) (p2.set _ _) sb.put
        · exact hK _ _ ⟨rfl, rfl⟩
      · exact hK _ _ ⟨rfl, rfl⟩
    rintro σ' H3 ⟨rfl, rfl⟩
    refine ⟨_, rfl, .inl ⟨_, rfl, _, _, rfl, rfl, (show (0 : Int) < 2147483477 by decide), _, _, rfl, rfl, .inr ⟨by decide, by decide⟩, _, rfl, _, _, rfl, rfl, .inl ⟨by decide, by decide⟩, _, rfl, _, _, rfl, rfl, .inr ⟨by omega, by omega⟩, _, _, rfl, rfl, ?_⟩⟩
    refine ⟨_, rfl, _, rfl, _, _, rfl, rfl, .inl ⟨by decide, by decide⟩, _, _, rfl, rfl, _, _, rfl, rfl, .inl ⟨_, rfl, _, _, rfl, rfl, (show (0 : Int) < 2147483423 by decide), ?_⟩⟩
    refine ⟨_, rfl, _, rfl, _, _, rfl, rfl, .inl (modb _ (by decide) (by decide)), _, rfl, _, _, rfl, rfl, .inl ⟨by decide, by decide⟩, _, _, rfl, rfl, _, rfl, _, _, rfl, rfl, .inl ⟨by decide, by decide⟩, _, _, rfl, rfl, _, _, rfl, rfl, .inl ⟨_, rfl, _, _, rfl, rfl, (show (0 : Int) < 2147483399 by decide), ?_⟩⟩
    refine ⟨_, rfl, _, rfl, _, _, rfl, rfl, .inl (modb _ (by decide) (by decide)), _, rfl, _, _, rfl, rfl, .inl ⟨by decide, by decide⟩, _, _, rfl, rfl, _, rfl, _, _, rfl, rfl, .inl ⟨_, rfl, _, _, rfl, rfl, (show (0 : Int) < 2147483353 by decide), ?_⟩⟩
    refine ⟨_, rfl, _, rfl, _, _, rfl, rfl, _, _, rfl, rfl, .inl (modb _ (by decide) (by decide)), .inl ⟨_, rfl, _, _, rfl, rfl, (show (0 : Int) < 2147483323 by decide), _, _, rfl, rfl, ⟨by decide, by decide⟩, .inl ⟨_, rfl, _, rfl, _, _, rfl, rfl, hm, ?_⟩⟩⟩
    exact k _ _ _ _ (Int.emod_nonneg _ (by omega)) (Int.emod_lt_of_pos _ hm) (by omega) (Int.le_refl _) p2 sb
end
end K03
end
section
set_option maxHeartbeats 4000000
set_option exponentiation.threshold 100000
namespace K03
open PySem PySem.Spec PyProof.Rows L2 LamX NdefX L3
abbrev sGcd2 : Stmt := top 42
abbrev sQ2 : Stmt := top 43
section
variable {P : Program} {w : World} {K : PySem.W.Frag} {mg : Str → Option Value} {base : Heap} {cB cN C fI : Addr}
theorem scPick2 : FnScope ["_law_pen", "_law_some"] ["_law_pen", "_law_some"] (defScope sPick2) := ⟨rfl, rfl, rfl, by decide +kernel, rfl, by decide +kernel, by decide +kernel⟩
theorem ok_pick2 {f fD : Addr} {fd fdD : FuncData} (F : Fun K "_law_pick" "_law_pick" sPick2 f fd) (FD : Fun K "_law_draw" "_law_draw" sDraw2 fD fdD) (gD : mg "_law_draw" = some (.ref fD)) (bD : Binds K fdD ["_law_pen", "_law_span"] []) (T : TxtR mg) :
    FnOk P w K mg base CX0 2 f fd ["_law_pen", "_law_some"] spPick := by
  have G : FnOk P w K mg base CX0 1 fD fdD ["_law_pen", "_law_span"] spDraw := ok_draw2 FD T
  refine F.ok scPick2 (fun vs H Q E h => ?_) (fun cdv A outer s H vs Q E hr h => ?_)
  · obtain ⟨d, c, l, s, r, cells, xs, rfl, _⟩ := h
    rfl
  · obtain ⟨d, c, l, st, r, cells, xs, rfl, p, h0, h1, hl, hx, hp, hm, k⟩ := h
    refine ⟨_, pss_one (ps_ret (pe_ix ix_list (pv 1) (pe_call G hr (by rfl) gD FD.kp bD .nil pass0 (pa_cons (pv 0) (pa_cons (pe_callB call_len_seq (by rfl) T.len PySem.boot_len (pa_cons (pv 1) pa_nil)) pa_nil))) (fun _ _ => rfl))), ?_⟩
    refine ⟨_, rfl, _, rfl, _, rfl, l, _, rfl, .inl (SqL.of hx), d, c, st, r, _, cells, rfl, p, h0, h1, hl, by omega, by omega, fun n s' r' H' a1 a2 a3 a4 a5 a6 => ?_⟩
    have ex : H' l = some (.lst xs) := a6 l _ hx (ne_of hx p.dc (by intro z; cases z))
    obtain ⟨j, rfl⟩ : ∃ j : Nat, n = (j : Int) := ⟨n.toNat, by omega⟩
    have hn : j < xs.length := by omega
    exact ⟨l, xs, _, xs[j], rfl, rfl, SqL.of ex, atI_nat (List.getElem?_eq_getElem hn), k _ s' r' H' (List.getElem_mem hn) a3 a4 a5 a6⟩
theorem scGcd2 : FnScope ["_law_one", "_law_other"] ["_law_one", "_law_other"] (defScope sGcd2) := ⟨rfl, rfl, rfl, by decide +kernel, rfl, by decide +kernel, by decide +kernel⟩
theorem ok_gcd2 {f : Addr} {fd : FuncData} (F : Fun K "_law_gcd" "_law_gcd" sGcd2 f fd) (T : TxtR mg) : FnOk P w K mg base CX0 1 f fd ["_law_one", "_law_other"] spGcd := by
  refine F.ok scGcd2 (fun vs H Q E h => ?_) (fun cdv A outer s H vs Q E hr h => ?_)
  · obtain ⟨a, b, rfl, _⟩ := h
    rfl
  · obtain ⟨a, b, rfl, q⟩ := h
    have nd := scGcd2.nd
    refine ⟨_, pss_cons (ps_par (i := 0) (j := 1) (by rfl) nd rfl rfl (by decide) rfl rfl (pa_cons (pe_callB call_abs (by rfl) T.abs (by decide +kernel) (pa_cons (pv 0) pa_nil)) (pa_cons (pe_callB call_abs (by rfl) T.abs (by decide +kernel) (pa_cons (pv 1) pa_nil)) pa_nil)) (by rfl))
      (pss_cons (ps_while PassesOwn.never (pt_cmpR op_gt (pv 1) pe_int (nomark _))
        (pss_one (ps_par (i := 0) (j := 1) (by rfl) nd rfl rfl (by decide) rfl rfl (pa_cons (pv 1) (pa_cons (pe_op op_mod (pe_callTy call_int1 (by rfl) T.int (by decide +kernel) (pa_cons (pv 0) pa_nil)) (pv 1)) pa_nil)) (by rfl))))
      (pss_one (ps_ret (pv 0)))), ?_⟩
    refine ⟨_, rfl, _, rfl, _, rfl, _, rfl, ?_⟩
    rw [abs_cast, abs_cast]
    refine ⟨_, _, rfl, ?_⟩
    dsimp only [tSeq]
    refine while_by (fun σ H' => H' = H ∧ ∃ m n : Nat, σ = [some (.int m), some (.int n)] ∧ Nat.gcd m n = Nat.gcd a.natAbs b.natAbs) gcdM ?_ ?_ (fun σ H Q Q' m h => by
      obtain ⟨v, h1, i, j, e1, e2, k, e3, q⟩ := h
      exact ⟨v, h1, i, j, e1, e2, k, e3, m _ _ q⟩)
    · exact ⟨rfl, a.natAbs, b.natAbs, rfl, rfl⟩
    rintro σ H' ⟨rfl, m, n, rfl, hg⟩
    refine ⟨_, rfl, _, _, rfl, rfl, _, rfl, ?_⟩
    refine ite2 (fun hn => ?_) (fun hn => ?_)
    · have hn0 : 0 < n := by
        have := of_decide_eq_true hn
        omega
      refine ⟨_, rfl, _, rfl, .inl ⟨_, rfl, _, rfl, _, _, rfl, rfl, (show (0 : Int) < (n : Int) by omega), _, _, rfl, ?_⟩⟩
      refine ⟨⟨rfl, n, m % n, ?_, by rw [euclid, hg]⟩, ?_⟩
      · show [some (V.int n), some (V.int ((m : Int) % (n : Int)))] = _
        rw [Int.natCast_emod]
      · show ((m : Int) % (n : Int)).toNat < (n : Int).toNat
        rw [← Int.natCast_emod, Int.toNat_natCast, Int.toNat_natCast]
        exact Nat.mod_lt _ hn0
    · have hn0 : n = 0 := by
        have : ¬ ((n : Int) > 0) := fun z => hn (decide_eq_true z)
        omega
      subst hn0
      rw [Nat.gcd_zero_right] at hg
      refine ⟨_, rfl, ?_⟩
      show Q (.int m) H'
      rw [hg]
      exact q
theorem scQ2 : FnScope ["_law_top", "_law_bottom", "_law_factor"] ["_law_top", "_law_bottom"] (defScope sQ2) := ⟨rfl, rfl, rfl, by decide +kernel, rfl, by decide +kernel, by decide +kernel⟩
theorem ok_q2 {f fg : Addr} {fd fdg : FuncData} (F : Fun K "_law_q" "_law_q" sQ2 f fd) (G : FnOk P w K mg base CX0 1 fg fdg ["_law_one", "_law_other"] spGcd) (gg : mg "_law_gcd" = some (.ref fg)) (kg : PySem.W.keepIn K (.ref fg) = true) (bg : Binds K fdg ["_law_one", "_law_other"] []) :
    FnOk P w K mg base CX0 2 f fd ["_law_top", "_law_bottom"] spLowest := by
  refine F.ok scQ2 (fun vs H Q E h => ?_) (fun cdv A outer s H vs Q E hr h => ?_)
  · obtain ⟨a, b, rfl, _⟩ := h
    rfl
  · obtain ⟨a, b, rfl, h0, hs, q⟩ := h
    have nd := scQ2.nd
    refine ⟨_, pss_cons (ps_set (i := 2) nd rfl (Or.inl rfl) (pe_call G hr (by rfl) gg kg bg .nil pass0 (pa_cons (pv 0) (pa_cons (pv 1) pa_nil))))
      (pss_cons (ps_if (pt_cmpR op_lt (pv 1) pe_int (nomark _)) (pss_one (ps_set (i := 2) nd rfl (Or.inl rfl) (pe_un un_neg (pv 2)))) pss_nil)
      (pss_one (ps_ret (pe_tup (pa_cons (pe_op op_fdivZ (pv 0) (pv 2)) (pa_cons (pe_op op_fdivZ (pv 1) (pv 2)) pa_nil)))))), ?_⟩
    have dv : ∀ i, CDivZ i (shr a b) := fun i => ⟨shr_ne h0, log2_le (shr_le h0) (by have := shr_ne (t := a) h0; omega) hs (by decide)⟩
    refine ⟨_, rfl, _, rfl, a, b, rfl, _, rfl, _, _, rfl, rfl, _, rfl, ?_⟩
    refine ite2 (fun hb => ?_) (fun hb => ?_)
    · have e : -((Nat.gcd a.natAbs b.natAbs : Nat) : Int) = shr a b := by
        unfold shr
        rw [if_pos (by simpa using hb)]
      refine ⟨_, rfl, _, rfl, _, rfl, _, rfl, _, _, rfl, rfl, by rw [e]; exact dv _, _, rfl, _, rfl, _, _, rfl, rfl, by rw [e]; exact dv _, by show 2 ≤ sizeLine; decide, fun t ht => ?_⟩
      rw [e]
      exact q.at t ht
    · have e : ((Nat.gcd a.natAbs b.natAbs : Nat) : Int) = shr a b := by
        unfold shr
        rw [if_neg (by simpa using hb)]
      refine ⟨_, rfl, _, rfl, _, _, rfl, rfl, by rw [e]; exact dv _, _, rfl, _, rfl, _, _, rfl, rfl, by rw [e]; exact dv _, by show 2 ≤ sizeLine; decide, fun t ht => ?_⟩
      rw [e]
      exact q.at t ht
end
end K03
end
section
set_option maxHeartbeats 4000000
namespace K03
/-- in lowest terms, the lower one from 1 on -/
structure Low (p : Int × Int) : Prop where
  pos : 0 < p.2
  co : Nat.Coprime p.1.natAbs p.2.natAbs
theorem shr_dvd_l {t b : Int} : shr t b ∣ t := by
  unfold shr
  split
  · exact Int.neg_dvd.mpr (Int.ofNat_dvd_left.mpr (Nat.gcd_dvd_left _ _))
  · exact Int.ofNat_dvd_left.mpr (Nat.gcd_dvd_left _ _)
theorem shr_dvd_r {t b : Int} : shr t b ∣ b := by
  unfold shr
  split
  · exact Int.neg_dvd.mpr (Int.ofNat_dvd_left.mpr (Nat.gcd_dvd_right _ _))
  · exact Int.ofNat_dvd_left.mpr (Nat.gcd_dvd_right _ _)
theorem shr_abs {t b : Int} : (shr t b).natAbs = Nat.gcd t.natAbs b.natAbs := by
  unfold shr
  split <;> simp
theorem low_l {t b : Int} (h : b ≠ 0) : t = shr t b * (low t b).1 := by
  show t = shr t b * t.fdiv (shr t b)
  rw [Int.fdiv_eq_ediv_of_dvd shr_dvd_l, Int.mul_ediv_cancel' shr_dvd_l]
theorem low_r {t b : Int} (h : b ≠ 0) : b = shr t b * (low t b).2 := by
  show b = shr t b * b.fdiv (shr t b)
  rw [Int.fdiv_eq_ediv_of_dvd shr_dvd_r, Int.mul_ediv_cancel' shr_dvd_r]
theorem low_pos {t b : Int} (h : b ≠ 0) : 0 < (low t b).2 := by
  have e := low_r (t := t) h
  have g : 0 < Nat.gcd t.natAbs b.natAbs := Nat.gcd_pos_of_pos_right _ (by omega)
  by_cases hb : b < 0
  · have hs : shr t b < 0 := by unfold shr; rw [if_pos hb]; omega
    refine Int.not_le.mp fun hn => ?_
    have := Int.mul_nonneg_of_nonpos_of_nonpos (Int.le_of_lt hs) hn
    omega
  · have hs : 0 < shr t b := by unfold shr; rw [if_neg hb]; omega
    refine Int.not_le.mp fun hn => ?_
    have := Int.mul_nonpos_of_nonneg_of_nonpos (Int.le_of_lt hs) hn
    omega
theorem low_low {t b : Int} (h : b ≠ 0) : Low (low t b) := by
  refine ⟨low_pos h, ?_⟩
  have g : 0 < Nat.gcd t.natAbs b.natAbs := Nat.gcd_pos_of_pos_right _ (by omega)
  have e1 : t.natAbs = Nat.gcd t.natAbs b.natAbs * (low t b).1.natAbs := by
    rw [← shr_abs, ← Int.natAbs_mul, ← low_l h]
  have e2 : b.natAbs = Nat.gcd t.natAbs b.natAbs * (low t b).2.natAbs := by
    rw [← shr_abs, ← Int.natAbs_mul, ← low_r h]
  have e3 : Nat.gcd t.natAbs b.natAbs = Nat.gcd t.natAbs b.natAbs * Nat.gcd (low t b).1.natAbs (low t b).2.natAbs := by
    rw [← Nat.gcd_mul_left, ← e1, ← e2]
  exact Nat.eq_of_mul_eq_mul_left g (by rw [← e3, Nat.mul_one])
/-- the lowest terms are told by the worth -/
theorem Low.uniq {p q : Int × Int} (hp : Low p) (hq : Low q) (h : p.1 * q.2 = q.1 * p.2) : p = q := by
  have hn : p.1.natAbs * q.2.natAbs = q.1.natAbs * p.2.natAbs := by rw [← Int.natAbs_mul, ← Int.natAbs_mul, h]
  have d1 : p.2.natAbs ∣ q.2.natAbs := (Nat.Coprime.symm hp.co).dvd_of_dvd_mul_left (by rw [hn]; exact Nat.dvd_mul_left _ _)
  have d2 : q.2.natAbs ∣ p.2.natAbs := (Nat.Coprime.symm hq.co).dvd_of_dvd_mul_left (by rw [← hn]; exact Nat.dvd_mul_left _ _)
  have e : p.2.natAbs = q.2.natAbs := Nat.dvd_antisymm d1 d2
  have e2 : p.2 = q.2 := by have := hp.pos; have := hq.pos; omega
  have e1 : p.1 = q.1 := by
    rw [e2] at h
    exact Int.eq_of_mul_eq_mul_right (by have := hq.pos; omega) h
  exact Prod.ext e1 e2
theorem low_cross {t b : Int} (h : b ≠ 0) : (low t b).1 * b = t * (low t b).2 := by
  have h1 := low_l (t := t) h
  have h2 := low_r (t := t) h
  calc (low t b).1 * b = (low t b).1 * (shr t b * (low t b).2) := by rw [← h2]
    _ = (shr t b * (low t b).1) * (low t b).2 := by rw [← Int.mul_assoc, Int.mul_comm (low t b).1]
    _ = t * (low t b).2 := by rw [← h1]
theorem low_of {t b : Int} {q : Int × Int} (h : b ≠ 0) (hq : Low q) (e : t * q.2 = q.1 * b) : low t b = q := by
  refine (low_low h).uniq hq ?_
  have c := low_cross (t := t) h
  have : (low t b).1 * q.2 * b = q.1 * (low t b).2 * b := by
    calc (low t b).1 * q.2 * b = ((low t b).1 * b) * q.2 := by rw [Int.mul_right_comm]
      _ = (t * (low t b).2) * q.2 := by rw [c]
      _ = (t * q.2) * (low t b).2 := by rw [Int.mul_right_comm]
      _ = (q.1 * b) * (low t b).2 := by rw [e]
      _ = q.1 * (low t b).2 * b := by rw [Int.mul_right_comm]
  exact Int.eq_of_mul_eq_mul_right h this
/-- what is in lowest terms stays -/
theorem low_self {p : Int × Int} (h : Low p) : low p.1 p.2 = p := low_of (by have := h.pos; omega) h (by rw [Int.mul_comm])
theorem low_abs {t b : Int} : (low t b).1.natAbs ≤ t.natAbs ∧ (low t b).2.natAbs ≤ b.natAbs := ⟨Int.natAbs_fdiv_le_natAbs _ _, Int.natAbs_fdiv_le_natAbs _ _⟩
end K03
end
section
set_option maxHeartbeats 4000000
namespace K03
open PySem PySem.Spec PyProof.Rows L2 LamX NdefX L3
abbrev sNum2 : Stmt := top 44
/-- a drawn number -/
structure NumD (p : Int × Int) : Prop where
  l : Low p
  t : p.1.natAbs ≤ 10 ^ 40
  b : p.2.natAbs ≤ 100
theorem SameBut.tr {d : Addr} {H H1 H2 : Hp} (a : SameBut d H H1) (b : SameBut d H1 H2) : SameBut d H H2 := fun x o e n => b x o (a x o e n) n
theorem SameBut.by {d : Addr} {H H1 : Hp} (a : Same H H1) : SameBut d H H1 := fun x o e _ => a x o e
theorem PenAt.to {H H' : Hp} {d c : Addr} {s r : Int} {cells : List Int} (p : PenAt H d c s r cells) (e : Same H H') : PenAt H' d c s r cells := ⟨e _ _ p.dc, e _ _ p.ls⟩
/-- nothing that is tracked is lost or given up -/
def spNum : Sp := fun vs H Q _ => ∃ (d c : Addr) (s r : Int) (cells : List Int), vs = [.ref d] ∧ PenAt H d c s r cells ∧ 0 ≤ s ∧ s + 20 ≤ 100000 ∧ cells.length ≤ 63 ∧
  ∀ (t : Addr) (p : Int × Int) (s' r' : Int) (H' : Hp), NumD p → 0 ≤ s' → s' ≤ s + 12 → PenAt H' d c s' r' cells → SameBut d H H' → Pair H' t p → Q (.ref t) H'
theorem pow10 : (10 : Int) ^ (10 : Int).toNat = 10000000000 := by decide
theorem pow9 : (10 : Int) ^ (9 : Int).toNat = 1000000000 := by decide
section
variable {P : Program} {w : World} {K : PySem.W.Frag} {mg : Str → Option Value} {base : Heap} {cB cN C fI fD fP fQ : Addr} {fdD fdP fdQ : FuncData}
theorem scNum2 : FnScope ["_law_pen", "_law_sort", "_law_top", "_law_k"] ["_law_pen"] (defScope sNum2) := ⟨rfl, rfl, rfl, by decide +kernel, rfl, by decide +kernel, by decide +kernel⟩
theorem ok_num2 {f : Addr} {fd : FuncData} (F : Fun K "_law_number" "_law_number" sNum2 f fd) (T : TxtR mg) (G : FnOk P w K mg base CX0 1 fD fdD ["_law_pen", "_law_span"] spDraw) (gD : mg "_law_draw" = some (.ref fD)) (kD : PySem.W.keepIn K (.ref fD) = true) (bD : Binds K fdD ["_law_pen", "_law_span"] [])
    (Gp : FnOk P w K mg base CX0 2 fP fdP ["_law_pen", "_law_some"] spPick) (gP : mg "_law_pick" = some (.ref fP)) (kP : PySem.W.keepIn K (.ref fP) = true) (bP : Binds K fdP ["_law_pen", "_law_some"] [])
    (Gq : FnOk P w K mg base CX0 2 fQ fdQ ["_law_top", "_law_bottom"] spLowest) (gQ : mg "_law_q" = some (.ref fQ)) (kQ : PySem.W.keepIn K (.ref fQ) = true) (bQ : Binds K fdQ ["_law_top", "_law_bottom"] []) :
    FnOk P w K mg base CX0 3 f fd ["_law_pen"] spNum := by
  refine F.ok scNum2 (fun vs H Q E h => ?_) (fun cdv A outer s H vs Q E hr h => ?_)
  · obtain ⟨d, c, s, r, cells, rfl, _⟩ := h
    rfl
  · obtain ⟨d, c, st, r, cells, rfl, p, h0, h1, hl, k⟩ := h
    have nd := scNum2.nd
    have hr1 : Room 1 _ := hr.mono (by decide)
    refine ⟨_, pss_cons (ps_set (i := 1) nd rfl (Or.inl rfl) (pe_call G hr1 (by rfl) gD kD bD .nil pass0 (pa_cons (pv 0) (pa_cons pe_int pa_nil))))
      (pss_cons (ps_if (pt_cmpR op_lt (pv 1) pe_int (nomark _)) (pss_one (ps_ret (pe_tup (pa_cons (pe_op op_sub (pe_call G hr1 (by rfl) gD kD bD .nil pass0 (pa_cons (pv 0) (pa_cons pe_int pa_nil))) pe_int) (pa_cons pe_int pa_nil))))) pss_nil)
      (pss_cons (ps_if (pt_cmpR op_lt (pv 1) pe_int (nomark _)) (pss_one (ps_ret (pe_call Gq hr (by rfl) gQ kQ bQ .nil pass0 (pa_cons (pe_op op_sub (pe_call G hr1 (by rfl) gD kD bD .nil pass0 (pa_cons (pv 0) (pa_cons pe_int pa_nil))) pe_int) (pa_cons (pe_op op_add pe_int (pe_call G hr1 (by rfl) gD kD bD .nil pass0 (pa_cons (pv 0) (pa_cons pe_int pa_nil)))) pa_nil))))) pss_nil)
      (pss_cons (ps_set (i := 2) nd rfl (Or.inl rfl) pe_int)
      (pss_cons (ps_for PassesOwn.never rfl (pi_range1 rfl T.range (pa_cons pe_int pa_nil)) (pg_name (i := 3) nd rfl (Or.inl rfl))
        (pss_one (ps_set (i := 2) nd rfl (Or.inl rfl) (pe_op op_add (pe_op op_add (pe_op op_mul (pv 2) (pe_op op_pow pe_int pe_int)) (pe_op op_mul (pe_call G hr1 (by rfl) gD kD bD .nil pass0 (pa_cons (pv 0) (pa_cons (pe_op op_pow pe_int pe_int) pa_nil))) pe_int)) (pe_call G hr1 (by rfl) gD kD bD .nil pass0 (pa_cons (pv 0) (pa_cons pe_int pa_nil)))))))
      (pss_one (ps_ret (pe_tup (pa_cons (pe_op op_mul (pv 2) (pe_call Gp hr (by rfl) gP kP bP .nil pass0 (pa_cons (pv 0) (pa_cons (pe_lst (pa_cons pe_int (pa_cons (pe_un un_neg pe_int) pa_nil))) pa_nil)))) (pa_cons pe_int pa_nil))))))))), ?_⟩
    refine ⟨_, rfl, d, c, st, r, _, cells, rfl, p, h0, by omega, hl, by decide, by decide, fun k1 s1 r1 H1 a1 a2 a3 a4 a5 a6 => ?_⟩
    refine ⟨_, rfl, _, _, rfl, rfl, _, rfl, ?_⟩
    refine ite2 (fun _ => ?_) (fun _ => ?_)
    · refine ⟨_, rfl, d, c, s1, r1, _, cells, rfl, a5, a3, by omega, hl, by decide, by decide, fun k2 s2 r2 H2 b1 b2 b3 b4 b5 b6 => ?_⟩
      refine ⟨_, _, rfl, rfl, by show 2 ≤ sizeLine; decide, fun t nt => ?_⟩
      exact k t (k2 - 6, 1) s2 r2 _ ⟨⟨by show (0 : Int) < 1; decide, Nat.coprime_one_right _⟩, Nat.le_trans (show (k2 - 6).natAbs ≤ 100 by omega) (by decide), by show (1 : Int).natAbs ≤ 100; decide⟩ b3 (by omega) (b5.new nt) ((a6.tr b6).new nt) upd_same
    refine ⟨_, rfl, _, _, rfl, rfl, _, rfl, ?_⟩
    refine ite2 (fun _ => ?_) (fun _ => ?_)
    · refine ⟨_, rfl, d, c, s1, r1, _, cells, rfl, a5, a3, by omega, hl, by decide, by decide, fun k2 s2 r2 H2 b1 b2 b3 b4 b5 b6 => ?_⟩
      refine ⟨_, _, rfl, rfl, _, rfl, d, c, s2, r2, _, cells, rfl, b5, b3, by omega, hl, by decide, by decide, fun k3 s3 r3 H3 c1 c2 c3 c4 c5 c6 => ?_⟩
      refine ⟨_, _, rfl, rfl, _, _, rfl, by omega, Nat.lt_of_le_of_lt (show (1 + k3).natAbs ≤ 100 by omega) (by decide +kernel), fun t H4 nt s4 pt => ?_⟩
      have nz : (1 : Int) + k3 ≠ 0 := by omega
      exact k t _ s3 r3 H4 ⟨low_low nz, Nat.le_trans low_abs.1 (Nat.le_trans (show (k2 - 20).natAbs ≤ 100 by omega) (by decide)), Nat.le_trans low_abs.2 (by omega)⟩ c3 (by omega) (c5.to s4) (((a6.tr b6).tr c6).tr (SameBut.by s4)) pt
    refine ⟨4, rfl, by decide, by decide, ?_⟩
    refine for_range (lo := 0) (n := 4) (fun i σ H' => ∃ (n s' r' : Int) (o : Option V), σ = [some (.ref d), some (.int k1), some (.int n), o] ∧ 0 ≤ n ∧ n < 10 ^ (10 * i) ∧ PenAt H' d c s' r' cells ∧ 0 ≤ s' ∧ s' ≤ st + 1 + 2 * i ∧ SameBut d H H') ⟨0, s1, r1, none, rfl, by decide, by decide, a5, a3, by omega, a6⟩ ?_ ?_
    · rintro i σ H' hi ⟨n, s', r', o, rfl, n0, n1, p', s0, s1', sb⟩
      refine ⟨_, rfl, _, _, rfl, rfl, ⟨by decide, by decide, by decide⟩, _, _, rfl, rfl, ?_, ?_⟩
      · rw [pow10]
        exact .inr ⟨by decide, by decide⟩
      refine ⟨_, rfl, _, _, rfl, rfl, ⟨by decide, by decide, by decide⟩, d, c, s', r', _, cells, rfl, p', s0, by omega, hl, ?_, ?_, fun k2 s2 r2 H2 b1 b2 b3 b4 b5 b6 => ?_⟩
      · rw [pow9]; decide
      · rw [pow9]; decide
      rw [pow9] at b2
      refine ⟨_, _, rfl, rfl, .inr ⟨by decide, by decide⟩, _, _, rfl, rfl, ?_⟩
      refine ⟨_, rfl, d, c, s2, r2, _, cells, rfl, b5, b3, by omega, hl, by decide, by decide, fun k3 s3 r3 H3 c1 c2 c3 c4 c5 c6 => ?_⟩
      refine ⟨_, _, rfl, rfl, ?_⟩
      refine ⟨_, s3, r3, _, rfl, ?_, ?_, c5, c3, by omega, (sb.tr b6).tr c6⟩
      · rw [pow10]
        omega
      · rw [pow10, Nat.mul_succ, Int.pow_add]
        have : (10 : Int) ^ 10 = 10000000000 := by decide
        rw [this]
        omega
    · rintro σ H' ⟨n, s', r', o, rfl, n0, n1, p', s0, s1', sb⟩
      have n1 : n < 10000000000000000000000000000000000000000 := by
        have e : (10 : Int) ^ (10 * 4) = 10000000000000000000000000000000000000000 := by decide
        rw [e] at n1
        exact n1
      refine ⟨_, rfl, _, rfl, _, rfl, by show 2 ≤ sizeLine; decide, fun l hn => ?_⟩
      have pl := p'.new (o := .lst [V.int 1, V.int (-1)]) hn
      have sbl := sb.new (o := .lst [V.int 1, V.int (-1)]) hn
      refine ⟨d, c, l, s', r', cells, [V.int 1, V.int (-1)], rfl, pl, s0, by omega, hl, upd_same, by decide, by decide, fun v s2 r2 H2 hv b3 b4 b5 b6 => ?_⟩
      have hv : v = .int 1 ∨ v = .int (-1) := by
        rcases List.mem_cons.mp hv with e | hv
        · exact .inl e
        · rcases List.mem_cons.mp hv with e | hv
          · exact .inr e
          · cases hv
      have fin : ∀ e : Int, e = 1 ∨ e = -1 → ∀ t, H2 t = none → Q (.ref t) (upd H2 t (.tup [.int (n * e), .int 1])) := by
        intro e he t nt
        refine k t (n * e, 1) s2 r2 _ ⟨⟨by show (0 : Int) < 1; decide, Nat.coprime_one_right _⟩, ?_, by show (1 : Int).natAbs ≤ 100; decide⟩ b3 (by omega) (b5.new nt) ((sbl.tr b6).new nt) upd_same
        rcases he with rfl | rfl
        · show (n * 1).natAbs ≤ 10 ^ 40
          omega
        · show (n * -1).natAbs ≤ 10 ^ 40
          omega
      rcases hv with rfl | rfl
      · exact ⟨_, _, rfl, rfl, .inr ⟨by decide, by decide⟩, by show 2 ≤ sizeLine; decide, fun t nt => fin 1 (.inl rfl) t nt⟩
      · exact ⟨_, _, rfl, rfl, .inr ⟨by decide, by decide⟩, by show 2 ≤ sizeLine; decide, fun t nt => fin (-1) (.inr rfl) t nt⟩
end
end K03
end
section
set_option maxHeartbeats 4000000
namespace K03
open PySem PySem.Spec PyProof.Rows L2
theorem lkT {u v : V} : ([("top", u), ("bottom", v)] : List (Str × V)).lookup ("top" : Str) = some u := by simp [List.lookup]
theorem lkBt {u v : V} : ([("top", u), ("bottom", v)] : List (Str × V)).lookup ("bottom" : Str) = some v := by
  have e : (("bottom" : Str) == "top") = false := by decide +kernel
  simp [List.lookup, e]
section
variable {P : Program} {w : World} {K : PySem.W.Frag} {mg : Str → Option Value} {base : Heap} {cB cN C fI fo : Addr} {fdo : FuncData}
end
end K03
end
section
set_option maxHeartbeats 4000000
namespace K03
open PySem PySem.Spec PyProof.Rows L2 LamX NdefX L3
abbrev sTld2 : Stmt := top 46
abbrev sPO : Stmt := top 47
abbrev sPOs : Stmt := top 48
abbrev sLO : Stmt := top 49
def PairV (H : Hp) (v : V) (p : Int × Int) : Prop := ∃ t, v = .ref t ∧ Pair H t p
theorem PairV.same {H H' : Hp} {v : V} {p : Int × Int} (h : PairV H v p) (s : Same H H') : PairV H' v p := by
  obtain ⟨t, e, h⟩ := h
  exact ⟨t, e, s _ _ h⟩
theorem PairV.grow {H : Hp} {D : Addr} {rs ys : List V} (hD : H D = some (.lst rs)) {v : V} {p : Int × Int} (h : PairV H v p) : PairV (upd H D (.lst ys)) v p := by
  obtain ⟨t, e, h⟩ := h
  have ne : t ≠ D := fun z => by
    have h : H t = some (.tup [.int p.1, .int p.2]) := h
    rw [z, hD] at h
    cases h
  refine ⟨t, e, ?_⟩
  show upd H D (.lst ys) t = _
  rw [upd_ne ne]
  exact h
/-- a new list of pairs -/
def NewPs (H : Hp) (Q : VK) (ps : List (Int × Int)) : Prop := ∀ (l : Addr) (ts : List V) (H' : Hp), H l = none → Same H H' → H' l = some (.lst ts) → Paired (PairV H') ts ps → Q (.ref l) H'
def spTld2 (C : Addr) : Sp := fun vs H Q _ => ∃ (t : Addr) (p : Int × Int), vs = [.ref t] ∧ Pair H t p ∧ NumD p ∧ NewR C H Q p
def spPO (C : Addr) : Sp := fun vs H Q _ => ∃ (v : V) (p : Int × Int), vs = [v] ∧ RV C H v p ∧ NewP H Q p
def spPOs (C : Addr) : Sp := fun vs H Q _ => ∃ (l : Addr) (ws : List V) (ps : List (Int × Int)), vs = [.ref l] ∧ H l = some (.lst ws) ∧ ws.length ≤ sizeLine ∧ Paired (RV C H) ws ps ∧ NewPs H Q ps
section
variable {P : Program} {w : World} {K : PySem.W.Frag} {mg : Str → Option Value} {base : Heap} {cB cN C fI : Addr}
theorem scTld2 : FnScope ["_law_pair_here"] ["_law_pair_here"] (defScope sTld2) := ⟨rfl, rfl, rfl, by decide +kernel, rfl, by decide +kernel, by decide +kernel⟩
theorem ok_tld2 {f : Addr} {fd : FuncData} (F : Fun K "_law_told" "_law_told" sTld2 f fd) (R : Rat P w K mg base cB cN C fI) : FnOk P w K mg base CX0 6 f fd ["_law_pair_here"] (spTld2 C) := by
  refine F.ok scTld2 (fun vs H Q E h => ?_) (fun cdv A outer s H vs Q E hr h => ?_)
  · obtain ⟨t, p, rfl, _⟩ := h
    rfl
  · obtain ⟨t, p, rfl, pt, nm, k⟩ := h
    refine ⟨_, pss_one (ps_ret (pe_rat2 (E := E0) R hr passL (pe_ix ix_tup (pv 0) pe_int (fun _ _ => rfl)) (pe_ix ix_tup (pv 0) pe_int (fun _ _ => rfl)))), ?_⟩
    refine ⟨_, rfl, t, _, _, _, rfl, rfl, SqT.of pt, rfl, _, rfl, t, _, _, _, rfl, rfl, SqT.of pt, rfl, ?_⟩
    refine .good p.1 p.2 rfl rfl (Int.ne_of_gt nm.l.pos) (Nat.lt_of_le_of_lt nm.b (by decide +kernel)) ?_
    rw [low_self nm.l]
    exact k
theorem scPO : FnScope ["_law_told_here"] ["_law_told_here"] (defScope sPO) := ⟨rfl, rfl, rfl, by decide +kernel, rfl, by decide +kernel, by decide +kernel⟩
theorem ok_PO {f : Addr} {fd : FuncData} (F : Fun K "_law_pair_of" "_law_pair_of" sPO f fd) (T : TxtR mg) (R : Rat P w K mg base cB cN C fI) : FnOk P w K mg base CX0 1 f fd ["_law_told_here"] (spPO C) := by
  refine F.ok scPO (fun vs H Q E h => ?_) (fun cdv A outer s H vs Q E hr h => ?_)
  · obtain ⟨v, p, rfl, _⟩ := h
    rfl
  · obtain ⟨v, p, rfl, ⟨a, dx, rfl, ha⟩, k⟩ := h
    refine ⟨_, pss_one (ps_ret (pe_ifExp (pt_val (pe_callB call_isi (by rfl) T.isi (by decide +kernel) (pa_cons (pv 0) (pa_cons (pe_glob (v := .ref C) (by rfl) R.cls.g rfl) pa_nil)))) (pe_tup (pa_cons (pe_fld (pv 0) rfl) (pa_cons (pe_fld (pv 0) rfl) pa_nil))) pe_non)), ?_⟩
    refine ⟨_, rfl, _, .ref C, .ref C, .ref C, true, rfl, .own C, R.tyx H a dx _ ha, kit_me, true, rfl, ?_⟩
    refine ⟨_, rfl, a, C, dx, _, _, rfl, ha, R.cls.c, R.cls.nT, lkT, _, rfl, a, C, dx, _, _, rfl, ha, R.cls.c, R.cls.nB, lkBt, by show 2 ≤ sizeLine; decide, fun t nt => k.at t nt⟩
theorem scPOs : FnScope ["_law_told_here", "_law_item"] ["_law_told_here"] (defScope sPOs) := ⟨rfl, rfl, rfl, by decide +kernel, rfl, by decide +kernel, by decide +kernel⟩
theorem ok_POs {f fo : Addr} {fd fdo : FuncData} (F : Fun K "_law_pairs_of" "_law_pairs_of" sPOs f fd) (T : TxtR mg) (G : FnOk P w K mg base CX0 1 fo fdo ["_law_told_here"] (spPO C)) (go : mg "_law_pair_of" = some (.ref fo)) (ko : PySem.W.keepIn K (.ref fo) = true) (bo : Binds K fdo ["_law_told_here"] []) :
    FnOk P w K mg base CX0 2 f fd ["_law_told_here"] (spPOs C) := by
  refine F.ok scPOs (fun vs H Q E h => ?_) (fun cdv A outer s H vs Q E hr h => ?_)
  · obtain ⟨l, ws, ps, rfl, _⟩ := h
    rfl
  · obtain ⟨l, ws, ps, rfl, hl, few, pw, k⟩ := h
    have nd := scPOs.nd
    refine ⟨_, pss_one (ps_ret (pe_ifExp (pt_val (pe_callB call_isi (by rfl) T.isi (by decide +kernel) (pa_cons (pv 0) (pa_cons (pe_bltn (v := .ty "list") (u := .type "list") (by rfl) T.list (by decide +kernel) rfl) pa_nil))))
      (pe_lc (own := [("_law_item", 1)]) (g := gName 1) (tt := tYes) rfl nd (pi_or (pi_list (pv 0)) (pi_tup (pv 0))) (blkOk_by (N := ["_law_told_here", "_law_item"]) (sc := defScope sPOs) (by decide +kernel)) (fun _ _ _ _ _ => pg_name (i := 1) nd rfl (Or.inl rfl)) (fun _ _ _ _ _ => pts_nil) (fun _ _ _ _ _ => by exact (pe_call G hr (by rfl) go ko bo .nil pass0 (pa_cons (pv 1) pa_nil)))) pe_non)), ?_⟩
    refine ⟨_, rfl, _, .ty "list", .type "list", .type "list", true, rfl, .ty _, .base (.lst hl), kit_ty (by decide +kernel), true, rfl, ?_⟩
    refine lc_map (Rr := fun _ H y p => PairV H y p) (fun R r => ⟨_, rfl, r⟩) ⟨l, rfl, .inl (SqL.of hl)⟩ few (paired_len pw) (fun _ _ _ _ _ h z => h.same z) (fun _ _ _ _ _ _ hD h => h.grow hD) ?_ ?_
    · intro D i x p H2 rs Kc hx hp s2 hD kc
      obtain ⟨p', hp', rv⟩ := paired_at pw hx
      rw [hp] at hp'
      cases hp'
      exact ⟨_, rfl, x, p, rfl, rv.same s2, fun t H3 nt s3 pt => kc _ _ s3 ⟨t, rfl, pt⟩⟩
    · intro D ts H5 nD s5 hD pw'
      exact k D ts H5 nD s5 hD pw'
end
end K03
end
section
set_option maxHeartbeats 4000000
namespace K03
open PySem PySem.Spec PyProof.Rows L2 LamX NdefX L3
abbrev sNums : Stmt := top 45
def spNums : Sp := fun vs H Q _ => ∃ (d c : Addr) (s r : Int) (m : Nat) (cells : List Int), vs = [.ref d, .int m] ∧ PenAt H d c s r cells ∧ 0 ≤ s ∧ m ≤ 100 ∧ s + 20 * m + 20 ≤ 100000 ∧ cells.length ≤ 63 ∧
  ∀ (l : Addr) (ts : List V) (ps : List (Int × Int)) (s' r' : Int) (H' : Hp), H l = none → ps.length = m → (∀ p ∈ ps, NumD p) → 0 ≤ s' → s' ≤ s + 12 * m → PenAt H' d c s' r' cells → SameBut d H H' → H' l = some (.lst ts) → Paired (PairV H') ts ps → Q (.ref l) H'
theorem PairV.but {d : Addr} {H H' : Hp} {c : Addr} {s r : Int} {cells : List Int} {v : V} {p : Int × Int} (h : PairV H v p) (pe : PenAt H d c s r cells) (e : SameBut d H H') : PairV H' v p := by
  obtain ⟨t, e1, h⟩ := h
  exact ⟨t, e1, e _ _ h (ne_of h pe.dc (by intro z; cases z))⟩
section
variable {P : Program} {w : World} {K : PySem.W.Frag} {mg : Str → Option Value} {base : Heap} {fN : Addr} {fdN : FuncData}
theorem scNums : FnScope ["_law_pen", "_law_many", "_law_k"] ["_law_pen", "_law_many"] (defScope sNums) := ⟨rfl, rfl, rfl, by decide +kernel, rfl, by decide +kernel, by decide +kernel⟩
theorem ok_nums {f : Addr} {fd : FuncData} (F : Fun K "_law_numbers" "_law_numbers" sNums f fd) (T : TxtR mg) (G : FnOk P w K mg base CX0 3 fN fdN ["_law_pen"] spNum) (gN : mg "_law_number" = some (.ref fN)) (kN : PySem.W.keepIn K (.ref fN) = true) (bN : Binds K fdN ["_law_pen"] []) :
    FnOk P w K mg base CX0 4 f fd ["_law_pen", "_law_many"] spNums := by
  refine F.ok scNums (fun vs H Q E h => ?_) (fun cdv A outer s H vs Q E hr h => ?_)
  · obtain ⟨d, c, s, r, m, cells, rfl, _⟩ := h
    rfl
  · obtain ⟨d, c, st, r, m, cells, rfl, p, h0, hm, h1, hl, k⟩ := h
    have nd := scNums.nd
    refine ⟨_, pss_one (ps_ret (pe_lc (own := [("_law_k", 2)]) (g := gName 2) (tt := tYes) rfl nd (pi_range1 (by rfl) T.range (pa_cons (pv 1) pa_nil)) (blkOk_by (N := ["_law_pen", "_law_many", "_law_k"]) (sc := defScope sNums) (by decide +kernel)) (fun _ _ _ _ _ => pg_name (i := 2) nd rfl (Or.inl rfl)) (fun _ _ _ _ _ => pts_nil) (fun _ _ _ _ _ => by exact (pe_call G hr (by rfl) gN kN bN .nil pass0 (pa_cons (pv 0) pa_nil))))), ?_⟩
    refine ⟨_, rfl, m, rfl, by omega, by omega, fun D nD => ?_⟩
    rw [Int.toNat_natCast]
    refine lc_range (fun i H2 => ∃ (ts : List V) (ps : List (Int × Int)) (s' r' : Int), ps.length = i ∧ (∀ p ∈ ps, NumD p) ∧ 0 ≤ s' ∧ s' ≤ st + 12 * i ∧ PenAt H2 d c s' r' cells ∧ SameBut d H H2 ∧ H2 D = some (.lst ts) ∧ Paired (PairV H2) ts ps)
      ⟨[], [], st, r, rfl, fun p hp => (List.not_mem_nil hp).elim, h0, by omega, p.new nD, SameBut.refl.new nD, upd_same, .nil⟩ ?_ ?_
    · rintro i H2 hi ⟨ts, ps, s', r', lp, all, s0, s1, p2, sb, hD, pr⟩
      refine ⟨rfl, ?_⟩
      refine yes_if (a := fun H4 => tCall spNum [] E0 (tCons (tVar 0) tNil) _ H4 _) ?_
      refine ⟨_, rfl, d, c, s', r', cells, rfl, p2, s0, by omega, hl, fun t q s2 r2 H3 nq b1 b2 b3 b4 b5 => ?_⟩
      have nDd : D ≠ d := ne_of hD p2.dc (by intro z; cases z)
      have hD3 := b4 _ _ hD nDd
      have lt : ts.length = i := by rw [paired_len pr, lp]
      have cD : c ≠ D := fun z => by
        have := p.ls
        rw [z, nD] at this
        cases this
      refine ⟨ts, hD3, by rw [lt]; exact Nat.lt_of_lt_of_le (Nat.lt_of_lt_of_le hi hm) (by decide), ts ++ [.ref t], ps ++ [q], s2, r2, by rw [List.length_append, lp]; rfl, fun x hx => ?_, b1, by omega, ⟨by rw [upd_ne nDd.symm]; exact b3.dc, by rw [upd_ne cD]; exact b3.ls⟩, fun b o e n => ?_, upd_same, ?_⟩
      · rcases List.mem_append.mp hx with hx | hx
        · exact all x hx
        · cases (List.mem_singleton.mp hx)
          exact nq
      · rw [upd_ne (ne_of_none e nD)]
        exact b4 _ _ (sb _ _ e n) n
      · exact (Paired.mapP pr fun v x z => (z.but p2 b4).grow hD3).snoc (PairV.grow hD3 ⟨t, rfl, b5⟩)
    · rintro H5 ⟨ts, ps, s', r', lp, all, s0, s1, p5, sb, hD, pr⟩
      exact k D ts ps s' r' H5 nD lp all s0 s1 p5 sb hD pr
end
end K03
end
section
set_option maxHeartbeats 4000000
namespace K03
open PySem PySem.Spec PyProof.Rows L2 LamX NdefX L3
abbrev sPair2 : Stmt := top 36
abbrev sShown : Stmt := top 35
def spPair2 (C : Addr) : Sp := fun vs H Q _ => ∃ (v : V) (p : Int × Int), vs = [v] ∧ Sh C H v p ∧ NewP H Q p
def spShown (C : Addr) : Sp := fun vs H Q _ => ∃ (d c l : Addr) (s r : Int) (cells : List Int) (ts : List V) (ps : List (Int × Int)), vs = [.ref d, .ref l] ∧ PenAt H d c s r cells ∧ 0 ≤ s ∧ s + ts.length + 20 ≤ 100000 ∧ cells.length ≤ 63 ∧ H l = some (.lst ts) ∧ Paired (PairV H) ts ps ∧ (∀ p ∈ ps, NumD p) ∧
  ∀ (o : Addr) (ws : List V) (s' r' : Int) (H' : Hp), H o = none → 0 ≤ s' → s' ≤ s + ts.length → PenAt H' d c s' r' cells → SameBut d H H' → H' o = some (.lst ws) → Paired (Sh C H') ws ps → Q (.ref o) H'
theorem Sh.but {C d : Addr} {H H' : Hp} {c : Addr} {s r : Int} {cells : List Int} {v : V} {p : Int × Int} (h : Sh C H v p) (pe : PenAt H d c s r cells) (e : SameBut d H H') : Sh C H' v p := by
  rcases h with h | ⟨a, dx, e1, ha⟩
  · exact .inl h
  · exact .inr ⟨a, dx, e1, e _ _ ha (ne_of ha pe.dc (by intro z; cases z))⟩
theorem Sh.grow {C D : Addr} {H : Hp} {rs ys : List V} (hD : H D = some (.lst rs)) {v : V} {p : Int × Int} (h : Sh C H v p) : Sh C (upd H D (.lst ys)) v p := h.elim .inl fun h => .inr (rv_grow hD h)
section
variable {P : Program} {w : World} {K : PySem.W.Frag} {mg : Str → Option Value} {base : Heap} {cB cN C fI fD fT fo : Addr} {fdD fdT fdo : FuncData}
theorem scPair2 : FnScope ["_law_item"] ["_law_item"] (defScope sPair2) := ⟨rfl, rfl, rfl, by decide +kernel, rfl, by decide +kernel, by decide +kernel⟩
theorem ok_pair2 {f : Addr} {fd : FuncData} (F : Fun K "_law_pair" "_law_pair" sPair2 f fd) (T : TxtR mg) (R : Rat P w K mg base cB cN C fI) (G : FnOk P w K mg base CX0 1 fo fdo ["_law_told_here"] (spPO C)) (go : mg "_law_pair_of" = some (.ref fo)) (ko : PySem.W.keepIn K (.ref fo) = true) (bo : Binds K fdo ["_law_told_here"] []) :
    FnOk P w K mg base CX0 2 f fd ["_law_item"] (spPair2 C) := by
  refine F.ok scPair2 (fun vs H Q E h => ?_) (fun cdv A outer s H vs Q E hr h => ?_)
  · obtain ⟨v, p, rfl, _⟩ := h
    rfl
  · obtain ⟨v, p, rfl, sh, k⟩ := h
    refine ⟨_, pss_cons (ps_if (PW.pt (pw_and (pt_val (pe_callB call_isi (by rfl) T.isi (by decide +kernel) (pa_cons (pv 0) (pa_cons (pe_bltn (v := .ty "int") (u := .type "int") (by rfl) T.int (by decide +kernel) rfl) pa_nil)))) (pw_and1 (pt_not (pt_val (pe_callB call_isi (by rfl) T.isi (by decide +kernel) (pa_cons (pv 0) (pa_cons (pe_bltn (v := .ty "bool") (u := .type "bool") (by rfl) T.bool (by decide +kernel) rfl) pa_nil))))))))
        (pss_one (ps_ret (pe_tup (pa_cons (pv 0) (pa_cons pe_int pa_nil))))) pss_nil)
      (pss_one (ps_ret (pe_call G hr (by rfl) go ko bo .nil pass0 (pa_cons (pv 0) pa_nil)))), ?_⟩
    rcases sh with ⟨rfl, one⟩ | ⟨a, dx, rfl, ha⟩
    · refine ⟨_, rfl, _, .ty "int", .type "int", .type "int", true, rfl, .ty _, .base (.int _), kit_ty (by decide +kernel), true, rfl, ?_⟩
      refine ⟨_, rfl, _, .ty "bool", .type "int", .type "bool", false, rfl, .ty _, .base (.int _), kit_ty (by decide +kernel), _, rfl, ?_⟩
      refine ⟨_, rfl, by show 2 ≤ sizeLine; decide, fun t nt => ?_⟩
      have z := k.at t nt
      rw [one] at z
      exact z
    · refine ⟨_, rfl, _, .ty "int", .ref C, .type "int", false, rfl, .ty _, R.tyx H a dx _ ha, R.cls.kitI (by decide +kernel) (by decide), false, rfl, ?_⟩
      exact ⟨_, rfl, _, p, rfl, ⟨a, dx, rfl, ha⟩, k⟩
theorem scShown : FnScope ["_law_pen", "_law_items", "_law_out", "_law_item"] ["_law_pen", "_law_items"] (defScope sShown) := ⟨rfl, rfl, rfl, by decide +kernel, rfl, by decide +kernel, by decide +kernel⟩
theorem ok_shown {f : Addr} {fd : FuncData} (F : Fun K "_law_shown" "_law_shown" sShown f fd) (T : TxtR mg) (G : FnOk P w K mg base CX0 1 fD fdD ["_law_pen", "_law_span"] spDraw) (gD : mg "_law_draw" = some (.ref fD)) (kD : PySem.W.keepIn K (.ref fD) = true) (bD : Binds K fdD ["_law_pen", "_law_span"] [])
    (Gt : FnOk P w K mg base CX0 6 fT fdT ["_law_pair_here"] (spTld2 C)) (gT : mg "_law_told" = some (.ref fT)) (kT : PySem.W.keepIn K (.ref fT) = true) (bT : Binds K fdT ["_law_pair_here"] []) : FnOk P w K mg base CX0 7 f fd ["_law_pen", "_law_items"] (spShown C) := by
  refine F.ok scShown (fun vs H Q E h => ?_) (fun cdv A outer s H vs Q E hr h => ?_)
  · obtain ⟨d, c, l, s, r, cells, ts, ps, rfl, _⟩ := h
    rfl
  · obtain ⟨d, c, l, st, r, cells, ts, ps, rfl, p, h0, h1, hl, hts, pr, all, k⟩ := h
    have nd := scShown.nd
    have hr1 : Room 1 _ := hr.mono (by decide)
    refine ⟨_, pss_cons (ps_set (i := 2) nd rfl (Or.inl rfl) (pe_lst pa_nil))
      (pss_cons (ps_for PassesOwn.never rfl (pi_list (pv 1)) (pg_name (i := 3) nd rfl (Or.inl rfl))
        (pss_one (ps_if (PW.pt (pw_and (pt_cmpR op_eq (pe_ix ix_tup (pv 3) pe_int (fun _ _ => rfl)) pe_int (nomark _)) (pw_and1 (pt_cmpR op_eq (pe_call G hr1 (by rfl) gD kD bD .nil pass0 (pa_cons (pv 0) (pa_cons pe_int pa_nil))) pe_int (nomark _)))))
          (pss_one (ps_expr (pe_bm PySem.F.plainAttrs_list PySem.F.slot_list_append PySem.F.type_list_append mt_append (pv 2) (pa_cons (pe_ix ix_tup (pv 3) pe_int (fun _ _ => rfl)) pa_nil))))
          (pss_one (ps_expr (pe_bm PySem.F.plainAttrs_list PySem.F.slot_list_append PySem.F.type_list_append mt_append (pv 2) (pa_cons (pe_call Gt hr (by rfl) gT kT bT .nil pass0 (pa_cons (pv 3) pa_nil)) pa_nil)))))))
      (pss_one (ps_ret (pv 2)))), ?_⟩
    refine ⟨by show 0 ≤ sizeLine; decide, fun D nD => ?_⟩
    dsimp only [gName]
    have cD : c ≠ D := fun z => by
      have := p.ls
      rw [z, nD] at this
      cases this
    have dD : d ≠ D := fun z => by
      have := p.dc
      rw [z, nD] at this
      cases this
    have lD : l ≠ D := fun z => by
      rw [z, nD] at hts
      cases hts
    have ld : l ≠ d := ne_of hts p.dc (by intro z; cases z)
    have grown : ∀ {H2 H3 : Hp} {x : V} {ys : List V} {s' r' : Int}, SameBut d H H2 → SameBut d H2 H3 → PenAt H3 d c s' r' cells → PenAt (upd H3 D (.lst (ys ++ [x]))) d c s' r' cells ∧ SameBut d H (upd H3 D (.lst (ys ++ [x]))) := fun sb s2 p3 =>
      ⟨⟨by rw [upd_ne dD]; exact p3.dc, by rw [upd_ne cD]; exact p3.ls⟩, fun b o e n => by
        rw [upd_ne (ne_of_none e nD)]
        exact s2 _ _ (sb _ _ e n) n⟩
    refine ⟨_, rfl, l, rfl, ⟨ts, SqL.of (by rw [upd_ne lD]; exact hts)⟩, ?_⟩
    refine for_list (K := K) (a := l) (xs := ts) (fun i σ H2 => ∃ (ws : List V) (s' r' : Int) (o : Option V), σ = [some (.ref d), some (.ref l), some (.ref D), o] ∧ 0 ≤ s' ∧ s' ≤ st + i ∧ PenAt H2 d c s' r' cells ∧ SameBut d H H2 ∧ H2 D = some (.lst ws) ∧ Paired (Sh C H2) ws (ps.take i))
      ⟨[], st, r, none, rfl, h0, by omega, p.new nD, SameBut.refl.new nD, upd_same, .nil⟩ (fun i σ H2 _ z => by
        obtain ⟨ws, s', r', o, _, _, _, _, sb, _⟩ := z
        exact SqL.of (sb _ _ hts ld)) ?_ ?_
    · rintro i x σ H2 hx ⟨ws, s', r', o, rfl, s0, s1, p2, sb, hD, pw⟩
      obtain ⟨q, hq, t, rfl, pt⟩ := paired_at pr hx
      have nq := all q (List.mem_of_getElem? hq)
      have li : i < ts.length := (List.getElem?_eq_some_iff.mp hx).1
      have lw : ws.length = i := by
        rw [paired_len pw, List.length_take, ← paired_len pr]
        omega
      have small : ws.length < sizeLine := Nat.lt_of_lt_of_le (show ws.length < 100000 by omega) (by decide)
      have pt2 : Pair H2 t q := sb _ _ pt (ne_of pt p.dc (by intro z; cases z))
      dsimp only [gName]
      -- the value put in
      have put : ∀ {H3 : Hp} {x : V} {s2 r2 : Int}, 0 ≤ s2 → s2 ≤ st + (i + 1 : Nat) → PenAt H3 d c s2 r2 cells → SameBut d H2 H3 → Sh C H3 x q →
          ∃ (ws' : List V) (s' r' : Int) (o : Option V), [some (V.ref d), some (.ref l), some (.ref D), some (.ref t)] = [some (.ref d), some (.ref l), some (.ref D), o] ∧ 0 ≤ s' ∧ s' ≤ st + (i + 1 : Nat) ∧ PenAt (upd H3 D (.lst (ws ++ [x]))) d c s' r' cells ∧ SameBut d H (upd H3 D (.lst (ws ++ [x]))) ∧ (upd H3 D (.lst (ws ++ [x]))) D = some (.lst ws') ∧ Paired (Sh C (upd H3 D (.lst (ws ++ [x])))) ws' (ps.take (i + 1)) := by
        intro H3 x s2 r2 a0 a1 p3 s23 sh
        have hD3 := s23 _ _ hD dD.symm
        obtain ⟨g1, g2⟩ := grown (x := x) (ys := ws) sb s23 p3
        refine ⟨ws ++ [x], s2, r2, _, rfl, a0, a1, g1, g2, upd_same, ?_⟩
        rw [take_snoc hq]
        exact (Paired.mapP pw fun _ _ z => (z.but p2 s23).grow hD3).snoc (Sh.grow hD3 sh)
      have told : ∀ {H3 : Hp} {s2 r2 : Int}, 0 ≤ s2 → s2 ≤ st + (i + 1 : Nat) → PenAt H3 d c s2 r2 cells → SameBut d H2 H3 → Pair H3 t q := fun _ _ _ s23 => s23 _ _ pt2 (ne_of pt2 p2.dc (by intro z; cases z))
      have other : ∀ {H3 : Hp} {s2 r2 : Int}, 0 ≤ s2 → s2 ≤ st + (i + 1 : Nat) → PenAt H3 d c s2 r2 cells → SameBut d H2 H3 → Pair H3 t q ∧ H3 D = some (.lst ws) := fun a0 a1 p3 s23 => ⟨told a0 a1 p3 s23, s23 _ _ hD dD.symm⟩
      have ratio : ∀ {H3 H4 : Hp} {a dx : Addr} {s2 r2 : Int}, 0 ≤ s2 → s2 ≤ st + (i + 1 : Nat) → PenAt H3 d c s2 r2 cells → SameBut d H2 H3 → Same H3 H4 → H4 a = some (rat C dx q) → _ := fun {H3 H4 a dx s2 r2} a0 a1 p3 s23 s34 ea => put (x := .ref a) a0 a1 (p3.to s34) (s23.tr (SameBut.by s34)) (.inr ⟨a, dx, rfl, ea⟩)
      refine ⟨_, rfl, t, _, _, _, rfl, rfl, SqT.of pt2, rfl, rfl, _, rfl, ?_⟩
      refine ite2 (fun one => ?_) (fun _ => iteF ?_)
      · have one : q.2 = 1 := by
          have z := of_decide_eq_true one
          injection z
        refine ⟨_, rfl, d, c, s', r', _, cells, rfl, p2, s0, by omega, hl, by decide, by decide, fun k1 s2 r2 H3 a1 a2 a3 a4 a5 a6 => ?_⟩
        have b1 : s2 ≤ st + (i + 1 : Nat) := by omega
        obtain ⟨pt3, hD3⟩ := other a3 b1 a5 a6
        refine ⟨rfl, _, rfl, ?_⟩
        refine ite2 (fun _ => ?_) (fun _ => ?_)
        · exact ⟨_, rfl, .inl ⟨rfl, _, SqL.of hD3⟩, _, rfl, t, _, _, _, rfl, rfl, SqT.of pt3, rfl, D, ws, .int q.1, rfl, rfl, hD3, small, put a3 b1 a5 a6 (.inl ⟨rfl, one⟩)⟩
        · exact ⟨_, rfl, .inl ⟨rfl, _, SqL.of hD3⟩, _, rfl, t, q, rfl, pt3, nq, fun a dx H4 na s4 ea => ⟨D, ws, .ref a, rfl, rfl, s4 _ _ hD3, small, ratio a3 b1 a5 a6 s4 ea⟩⟩
      · have b1 : s' ≤ st + (i + 1 : Nat) := by omega
        exact ⟨_, rfl, .inl ⟨rfl, _, SqL.of hD⟩, _, rfl, t, q, rfl, pt2, nq, fun a dx H4 na s4 ea => ⟨D, ws, .ref a, rfl, rfl, s4 _ _ hD, small, ratio s0 b1 p2 SameBut.refl s4 ea⟩⟩
    · rintro σ H5 ⟨ws, s', r', o, rfl, s0, s1, p5, sb, hD, pw⟩
      rw [paired_len pr, List.take_length] at pw
      exact ⟨_, rfl, k D ws s' r' H5 nD s0 s1 p5 sb hD pw⟩
end
end K03
end
section
set_option maxHeartbeats 4000000
namespace K03
open PySem PySem.Spec PyProof.Rows L2 LamX NdefX L3
/-- a list of pairs, not D's own -/
def PairsN (H : Hp) (D : Addr) (v : V) (ps : List (Int × Int)) : Prop := ∃ a xs, v = .ref a ∧ a ≠ D ∧ H a = some (.lst xs) ∧ Paired (PairV H) xs ps
def PairsV (H : Hp) (v : V) (ps : List (Int × Int)) : Prop := ∃ a xs, v = .ref a ∧ H a = some (.lst xs) ∧ Paired (PairV H) xs ps
theorem PairsN.v {H : Hp} {D : Addr} {v : V} {ps : List (Int × Int)} (h : PairsN H D v ps) : PairsV H v ps := by
  obtain ⟨a, xs, e, _, r⟩ := h
  exact ⟨a, xs, e, r⟩
theorem PairsN.same {H H' : Hp} {D : Addr} {v : V} {ps : List (Int × Int)} (h : PairsN H D v ps) (s : Same H H') : PairsN H' D v ps := by
  obtain ⟨a, xs, e, na, h, p⟩ := h
  exact ⟨a, xs, e, na, s _ _ h, Paired.mapP p fun _ _ z => z.same s⟩
theorem PairsN.grow {H : Hp} {D : Addr} {rs ys : List V} (hD : H D = some (.lst rs)) {v : V} {ps : List (Int × Int)} (h : PairsN H D v ps) : PairsN (upd H D (.lst ys)) D v ps := by
  obtain ⟨a, xs, e, na, ha, p⟩ := h
  exact ⟨a, xs, e, na, by rw [upd_ne na]; exact ha, Paired.mapP p fun _ _ z => z.grow hD⟩
def spLO (C : Addr) : Sp := fun vs H Q _ => ∃ (l : Addr) (ws : List V) (pss : List (List (Int × Int))), vs = [.ref l] ∧ H l = some (.lst ws) ∧ ws.length ≤ sizeLine ∧ Paired (LaneV C H) ws pss ∧ (∀ ps ∈ pss, ps.length ≤ sizeLine) ∧
  ∀ (l' : Addr) (ts : List V) (H' : Hp), H l' = none → Same H H' → H' l' = some (.lst ts) → Paired (PairsV H') ts pss → Q (.ref l') H'
section
variable {P : Program} {w : World} {K : PySem.W.Frag} {mg : Str → Option Value} {base : Heap} {C fo : Addr} {fdo : FuncData}
theorem scLO : FnScope ["_law_told_here", "_law_lane"] ["_law_told_here"] (defScope sLO) := ⟨rfl, rfl, rfl, by decide +kernel, rfl, by decide +kernel, by decide +kernel⟩
theorem ok_LO {f : Addr} {fd : FuncData} (F : Fun K "_law_lists_of" "_law_lists_of" sLO f fd) (T : TxtR mg) (G : FnOk P w K mg base CX0 2 fo fdo ["_law_told_here"] (spPOs C)) (go : mg "_law_pairs_of" = some (.ref fo)) (ko : PySem.W.keepIn K (.ref fo) = true) (bo : Binds K fdo ["_law_told_here"] []) :
    FnOk P w K mg base CX0 3 f fd ["_law_told_here"] (spLO C) := by
  refine F.ok scLO (fun vs H Q E h => ?_) (fun cdv A outer s H vs Q E hr h => ?_)
  · obtain ⟨l, ws, pss, rfl, _⟩ := h
    rfl
  · obtain ⟨l, ws, pss, rfl, hl, few, pw, sm, k⟩ := h
    have nd := scLO.nd
    refine ⟨_, pss_cons (ps_if (pt_not (pt_val (pe_callB call_isi (by rfl) T.isi (by decide +kernel) (pa_cons (pv 0) (pa_cons (pe_bltn (v := .ty "list") (u := .type "list") (by rfl) T.list (by decide +kernel) rfl) pa_nil))))) (pss_one (ps_ret pe_non)) pss_nil)
      (pss_one (ps_ret (pe_lc (own := [("_law_lane", 1)]) (g := gName 1) (tt := tYes) rfl nd (pi_or (pi_list (pv 0)) (pi_tup (pv 0))) (blkOk_by (N := ["_law_told_here", "_law_lane"]) (sc := defScope sLO) (by decide +kernel)) (fun _ _ _ _ _ => pg_name (i := 1) nd rfl (Or.inl rfl)) (fun _ _ _ _ _ => pts_nil) (fun _ _ _ _ _ => by exact (pe_call G hr (by rfl) go ko bo .nil pass0 (pa_cons (pv 1) pa_nil)))))), ?_⟩
    refine ⟨_, rfl, _, .ty "list", .type "list", .type "list", true, rfl, .ty _, .base (.lst hl), kit_ty (by decide +kernel), true, rfl, ?_⟩
    refine ite2 (fun y => absurd y (by simp)) (fun _ => ?_)
    refine lc_map (Rr := fun D H y ps => PairsN H D y ps) (fun R r => ⟨_, rfl, r⟩) ⟨l, rfl, .inl (SqL.of hl)⟩ few (paired_len pw) (fun _ _ _ _ _ h z => h.same z) (fun _ _ _ _ _ _ hD h => h.grow hD) ?_ ?_
    · intro D i x ps H2 rs Kc hx hp s2 hD kc
      obtain ⟨ps', hp', a, xs, rfl, ha, pa⟩ := paired_at pw hx
      rw [hp] at hp'
      cases hp'
      refine ⟨_, rfl, a, xs, ps, rfl, s2 _ _ ha, by rw [paired_len pa]; exact sm ps (List.mem_of_getElem? hp), Paired.mapP pa fun _ _ z => z.same s2, fun l' ts H3 nl s3 hl3 pt => kc _ _ s3 ⟨l', ts, rfl, fun z => ?_, hl3, pt⟩⟩
      rw [z, hD] at nl
      cases nl
    · intro D ts H5 nD s5 hD pw'
      exact k D ts H5 nD s5 hD (Paired.mapP pw' fun _ _ z => z.v)
end
end K03
end
section
set_option maxHeartbeats 4000000
namespace K03
open PySem PySem.Spec PyProof.Rows L2 LamX NdefX L3
abbrev sStrD : Stmt := top 52
abbrev sHeldD : Stmt := top 53
def spDueR (row : Int × Int → Nat → List (Int × Int)) : Sp := fun vs H Q _ => ∃ (l : Addr) (n : Nat) (ts : List V) (ps : List (Int × Int)), vs = [.ref l, .int n] ∧ H l = some (.lst ts) ∧ 2 ≤ n ∧ n ≤ 60 ∧ ts.length * 60 + 60 ≤ sizeLine ∧ Paired (PairV H) ts ps ∧ NewPs H Q (ps.flatMap fun p => row p n)
section
variable {P : Program} {w : World} {K : PySem.W.Frag} {mg : Str → Option Value} {base : Heap}
theorem paired_app {α β : Type} {F : α → β → Prop} {l1 l2 : List α} {m1 m2 : List β} (a : Paired F l1 m1) (b : Paired F l2 m2) : Paired F (l1 ++ l2) (m1 ++ m2) := by
  induction a with
  | nil => exact b
  | cons q _ ih => exact .cons q ih
theorem scStrD : FnScope ["_law_items", "_law_many", "_law_out", "_law_item"] ["_law_items", "_law_many"] (defScope sStrD) := ⟨rfl, rfl, rfl, by decide +kernel, rfl, by decide +kernel, by decide +kernel⟩
theorem ok_strD {f : Addr} {fd : FuncData} (F : Fun K "_law_stretched_due" "_law_stretched_due" sStrD f fd) : FnOk P w K mg base CX0 1 f fd ["_law_items", "_law_many"] (spDueR rowS) := by
  refine F.ok scStrD (fun vs H Q E h => ?_) (fun cdv A outer s H vs Q E hr h => ?_)
  · obtain ⟨l, n, ts, ps, rfl, _⟩ := h
    rfl
  · obtain ⟨l, n, ts, ps, rfl, hl, n2, n60, few, pr, k⟩ := h
    have nd := scStrD.nd
    have lts := paired_len pr
    refine ⟨_, pss_cons (ps_set (i := 2) nd rfl (Or.inl rfl) (pe_lst pa_nil))
      (pss_cons (ps_for PassesOwn.never rfl (pi_list (pv 0)) (pg_name (i := 3) nd rfl (Or.inl rfl))
        (pss_one (ps_set (i := 2) nd rfl (Or.inl rfl) (pe_op op_cat (pe_op op_cat (pv 2) (pe_lst (pa_cons (pv 3) pa_nil))) (pe_op op_rep (pe_lst (pa_cons (pe_tup (pa_cons pe_int (pa_cons pe_int pa_nil))) pa_nil)) (pe_op op_sub (pv 1) pe_int))))))
      (pss_one (ps_ret (pv 2)))), ?_⟩
    refine ⟨by show 0 ≤ sizeLine; decide, fun o0 n0 => ?_⟩
    dsimp only [gName]
    have s0 : Same H (upd H o0 (.lst [])) := Same.new (fun _ _ e => e) n0
    refine ⟨_, rfl, l, rfl, ⟨ts, SqL.of (s0 _ _ hl)⟩, ?_⟩
    refine for_list (K := K) (a := l) (xs := ts) (fun i σ H2 => ∃ (o : Addr) (ws : List V) (it : Option V), σ = [some (.ref l), some (.int n), some (.ref o), it] ∧ Same H H2 ∧ H o = none ∧ H2 o = some (.lst ws) ∧ Paired (PairV H2) ws ((ps.take i).flatMap fun p => rowS p n))
      ⟨o0, [], none, rfl, s0, n0, upd_same, by simp; exact .nil⟩ (fun i σ H2 _ z => by
        obtain ⟨_, _, _, _, s2, _⟩ := z
        exact SqL.of (s2 _ _ hl)) ?_ ?_
    · rintro i x σ H2 hx ⟨o, ws, it, rfl, s2, nO, hO, pw⟩
      obtain ⟨q, hq, t, rfl, pt⟩ := paired_at pr hx
      have li : i < ts.length := (List.getElem?_eq_some_iff.mp hx).1
      have rl : ∀ p, (rowS p n).length = n := fun p => by unfold rowS; rw [List.length_cons, List.length_replicate]; omega
      have lw : ws.length = i * n := by
        rw [paired_len pw, flat_len rl, List.length_take]
        congr 1
        omega
      have lw2 : i * n ≤ i * 60 := Nat.mul_le_mul_left _ n60
      have lw3 : i * 60 + 60 ≤ ts.length * 60 := by omega
      dsimp only [gName]
      refine ⟨_, rfl, _, rfl, by show 1 ≤ sizeLine; decide, fun a1 m1 => ?_⟩
      have s3 : Same H2 (upd H2 a1 (.lst [.ref t])) := Same.new (fun _ _ e => e) m1
      refine ⟨_, _, _, _, rfl, rfl, s3 _ _ hO, upd_same, by rw [lw]; simp; omega, fun a2 m2 => ?_⟩
      have s4 := s3.new (o := .lst (ws ++ [.ref t])) m2
      have h4 : (upd (upd H2 a1 (.lst [.ref t])) a2 (.lst (ws ++ [.ref t]))) a2 = some (.lst (ws ++ [.ref t])) := upd_same
      generalize upd (upd H2 a1 (.lst [.ref t])) a2 (.lst (ws ++ [.ref t])) = H4 at s4 h4 ⊢
      refine ⟨by show 2 ≤ sizeLine; decide, fun a3 m3 => ⟨by show 1 ≤ sizeLine; decide, fun a4 m4 => ?_⟩⟩
      have s5 := (s4.new (o := .tup [.int 0, .int 1]) m3).new (o := .lst [.ref a3]) m4
      have p5 : Pair (upd (upd H4 a3 (.tup [.int 0, .int 1])) a4 (.lst [.ref a3])) a3 (0, 1) := by
        show upd (upd H4 a3 (.tup [.int 0, .int 1])) a4 (.lst [.ref a3]) a3 = _
        have ne : a3 ≠ a4 := fun z => by
          rw [← z, upd_same] at m4
          cases m4
        rw [upd_ne ne, upd_same]
      have h5 : (upd (upd H4 a3 (.tup [.int 0, .int 1])) a4 (.lst [.ref a3])) a4 = some (.lst [.ref a3]) := upd_same
      have h4' : (upd (upd H4 a3 (.tup [.int 0, .int 1])) a4 (.lst [.ref a3])) a2 = some (.lst (ws ++ [.ref t])) := (Same.new (Same.new (fun _ _ e => e : Same H4 H4) m3) m4) _ _ h4
      generalize upd (upd H4 a3 (.tup [.int 0, .int 1])) a4 (.lst [.ref a3]) = H5 at s5 p5 h5 h4' ⊢
      have nn : ((n : Int) - 1).toNat = n - 1 := by omega
      have flat : (List.replicate (n - 1) [V.ref a3]).flatten = List.replicate (n - 1) (V.ref a3) := by simp
      refine ⟨_, rfl, _, _, rfl, rfl, a4, _, [.ref a3], rfl, rfl, h5, by omega, by omega, ?_, fun a5 m5 => ?_⟩
      · rw [nn]
        exact Nat.le_trans (show 1 * (n - 1) ≤ 60 by omega) (by decide)
      rw [nn, flat]
      have s6 := s5.new (o := .lst (List.replicate (n - 1) (V.ref a3))) m5
      have s56 : Same H5 (upd H5 a5 (.lst (List.replicate (n - 1) (V.ref a3)))) := Same.new (fun _ _ e => e) m5
      refine ⟨a2, a5, _, _, rfl, rfl, s56 _ _ h4', upd_same, by rw [List.length_append, List.length_replicate, lw]; simp; omega, fun a6 m6 => ?_⟩
      have s7 := s6.new (o := .lst (ws ++ [.ref t] ++ List.replicate (n - 1) (V.ref a3))) m6
      have s67 := s56.new (o := .lst (ws ++ [.ref t] ++ List.replicate (n - 1) (V.ref a3))) m6
      have h7 : (upd (upd H5 a5 (.lst (List.replicate (n - 1) (V.ref a3)))) a6 (.lst (ws ++ [.ref t] ++ List.replicate (n - 1) (V.ref a3)))) a6 = some (.lst (ws ++ [.ref t] ++ List.replicate (n - 1) (V.ref a3))) := upd_same
      generalize upd (upd H5 a5 (.lst (List.replicate (n - 1) (V.ref a3)))) a6 (.lst (ws ++ [.ref t] ++ List.replicate (n - 1) (V.ref a3))) = H7 at s7 s67 h7 ⊢
      have m6' : H a6 = none := same_none (s2.trans s6) m6
      refine ⟨a6, _, _, rfl, s2.trans s7, m6', h7, ?_⟩
      rw [flat_snoc hq, List.append_assoc]
      have z3 : ∀ k, Paired (PairV H7) (List.replicate k (V.ref a3)) (List.replicate k ((0 : Int), (1 : Int))) := fun k => by
        induction k with
        | zero => exact .nil
        | succ k ih => exact .cons ⟨a3, rfl, s67 _ _ p5⟩ ih
      exact paired_app (Paired.mapP pw fun _ _ z => z.same s7) (.cons ⟨t, rfl, s7 _ _ (s2 _ _ pt)⟩ (z3 (n - 1)))
    · rintro σ H5 ⟨o, ws, it, rfl, s5, nO, hO, pw⟩
      rw [lts, List.take_length] at pw
      exact ⟨_, rfl, k o ws H5 nO s5 hO pw⟩
theorem scHeldD : FnScope ["_law_items", "_law_many", "_law_out", "_law_item"] ["_law_items", "_law_many"] (defScope sHeldD) := ⟨rfl, rfl, rfl, by decide +kernel, rfl, by decide +kernel, by decide +kernel⟩
theorem ok_heldD {f : Addr} {fd : FuncData} (F : Fun K "_law_held_due" "_law_held_due" sHeldD f fd) : FnOk P w K mg base CX0 1 f fd ["_law_items", "_law_many"] (spDueR rowH) := by
  refine F.ok scHeldD (fun vs H Q E h => ?_) (fun cdv A outer s H vs Q E hr h => ?_)
  · obtain ⟨l, n, ts, ps, rfl, _⟩ := h
    rfl
  · obtain ⟨l, n, ts, ps, rfl, hl, n2, n60, few, pr, k⟩ := h
    have nd := scHeldD.nd
    have lts := paired_len pr
    refine ⟨_, pss_cons (ps_set (i := 2) nd rfl (Or.inl rfl) (pe_lst pa_nil))
      (pss_cons (ps_for PassesOwn.never rfl (pi_list (pv 0)) (pg_name (i := 3) nd rfl (Or.inl rfl))
        (pss_one (ps_set (i := 2) nd rfl (Or.inl rfl) (pe_op op_cat (pv 2) (pe_op op_rep (pe_lst (pa_cons (pv 3) pa_nil)) (pv 1))))))
      (pss_one (ps_ret (pv 2)))), ?_⟩
    refine ⟨by show 0 ≤ sizeLine; decide, fun o0 n0 => ?_⟩
    dsimp only [gName]
    have s0 : Same H (upd H o0 (.lst [])) := Same.new (fun _ _ e => e) n0
    refine ⟨_, rfl, l, rfl, ⟨ts, SqL.of (s0 _ _ hl)⟩, ?_⟩
    refine for_list (K := K) (a := l) (xs := ts) (fun i σ H2 => ∃ (o : Addr) (ws : List V) (it : Option V), σ = [some (.ref l), some (.int n), some (.ref o), it] ∧ Same H H2 ∧ H o = none ∧ H2 o = some (.lst ws) ∧ Paired (PairV H2) ws ((ps.take i).flatMap fun p => rowH p n))
      ⟨o0, [], none, rfl, s0, n0, upd_same, by simp; exact .nil⟩ (fun i σ H2 _ z => by
        obtain ⟨_, _, _, _, s2, _⟩ := z
        exact SqL.of (s2 _ _ hl)) ?_ ?_
    · rintro i x σ H2 hx ⟨o, ws, it, rfl, s2, nO, hO, pw⟩
      obtain ⟨q, hq, t, rfl, pt⟩ := paired_at pr hx
      have li : i < ts.length := (List.getElem?_eq_some_iff.mp hx).1
      have rl : ∀ p, (rowH p n).length = n := fun p => by unfold rowH; rw [List.length_replicate]
      have lw : ws.length = i * n := by
        rw [paired_len pw, flat_len rl, List.length_take]
        congr 1
        omega
      have lw2 : i * n ≤ i * 60 := Nat.mul_le_mul_left _ n60
      have lw3 : i * 60 + 60 ≤ ts.length * 60 := by omega
      dsimp only [gName]
      refine ⟨_, rfl, _, rfl, by show 1 ≤ sizeLine; decide, fun a4 m4 => ?_⟩
      have s5 : Same H2 (upd H2 a4 (.lst [.ref t])) := Same.new (fun _ _ e => e) m4
      have flat : (List.replicate n [V.ref t]).flatten = List.replicate n (V.ref t) := by simp
      refine ⟨_, rfl, a4, _, [.ref t], rfl, rfl, upd_same, by omega, by omega, ?_, fun a5 m5 => ?_⟩
      · rw [Int.toNat_natCast]
        exact Nat.le_trans (show 1 * n ≤ 60 by omega) (by decide)
      rw [Int.toNat_natCast, flat]
      have s6 := s5.new (o := .lst (List.replicate n (V.ref t))) m5
      refine ⟨_, _, _, _, rfl, rfl, s6 _ _ hO, upd_same, by rw [List.length_replicate, lw]; omega, fun a6 m6 => ?_⟩
      have s7 := s6.new (o := .lst (ws ++ List.replicate n (V.ref t))) m6
      refine ⟨a6, _, _, rfl, s2.trans s7, same_none (s2.trans s6) m6, upd_same, ?_⟩
      rw [flat_snoc hq]
      have z3 : ∀ k, Paired (PairV (upd (upd (upd H2 a4 (.lst [.ref t])) a5 (.lst (List.replicate n (V.ref t)))) a6 (.lst (ws ++ List.replicate n (V.ref t))))) (List.replicate k (V.ref t)) (List.replicate k q) := fun k => by
        induction k with
        | zero => exact .nil
        | succ k ih => exact .cons ⟨t, rfl, s7 _ _ (s2 _ _ pt)⟩ ih
      exact paired_app (Paired.mapP pw fun _ _ z => z.same s7) (z3 n)
    · rintro σ H5 ⟨o, ws, it, rfl, s5, nO, hO, pw⟩
      rw [lts, List.take_length] at pw
      exact ⟨_, rfl, k o ws H5 nO s5 hO pw⟩
end
end K03
end
section
set_option maxHeartbeats 4000000
namespace K03
open PySem PySem.Spec PyProof.Rows L2 LamX NdefX L3
abbrev sWovD : Stmt := top 51
def spWovD : Sp := fun vs H Q _ => ∃ (l : Addr) (ws : List V) (pss : List (List (Int × Int))) (s f : Nat), vs = [.ref l] ∧ H l = some (.lst ws) ∧ Paired (PairsV H) ws pss ∧ 2 ≤ pss.length ∧ pss.length ≤ 60 ∧ (∀ ps ∈ pss, ps.length ≤ 1000) ∧ MinAt (pss.map List.length) s f ∧ NewPs H Q (wov pss (s * pss.length + f))
def endsOf (pss : List (List (Int × Int))) : List Nat := (List.range pss.length).map fun k => pss.length * (pss.getD k []).length + k
theorem ends_min {pss : List (List (Int × Int))} {s f : Nat} (m : MinAt (pss.map List.length) s f) : s * pss.length + f ∈ endsOf pss ∧ ∀ y ∈ endsOf pss, s * pss.length + f ≤ y := by
  have lf : f < pss.length := by
    have := (List.getElem?_eq_some_iff.mp m.at_).1
    rwa [List.length_map] at this
  have at_ : ∀ k, k < pss.length → (pss.map List.length)[k]? = some (pss.getD k []).length := by
    intro k hk
    rw [List.getElem?_map, List.getD_eq_getElem?_getD, List.getElem?_eq_getElem hk]
    rfl
  constructor
  · refine List.mem_map.mpr ⟨f, List.mem_range.mpr lf, ?_⟩
    have e := at_ f lf
    rw [m.at_] at e
    have e := Option.some.inj e
    rw [← e, Nat.mul_comm]
  · intro y hy
    obtain ⟨k, hk, rfl⟩ := List.mem_map.mp hy
    have hk := List.mem_range.mp hk
    have e := at_ k hk
    by_cases c : k < f
    · have := m.first k c _ e
      have le : pss.length * (s + 1) ≤ pss.length * (pss.getD k []).length := Nat.mul_le_mul_left _ this
      rw [Nat.mul_succ, Nat.mul_comm _ s] at le
      omega
    · have := m.le _ (List.mem_of_getElem? e)
      have le : pss.length * s ≤ pss.length * (pss.getD k []).length := Nat.mul_le_mul_left _ this
      rw [Nat.mul_comm _ s] at le
      omega
/-- lc_mapR as a reading -/
theorem lc_mapT {j n : Nat} {β : Type} {bs : List β} {Rr : Addr → Hp → V → β → Prop} {σ : L2.St} {H : Hp} {te : TE} {ta : TA} {Q : VK} (hr : ∀ R : It → Hp → Prop, R (Itr 0 n) H → iRng1 ta σ H R) (few : n ≤ sizeLine) (hl : n = bs.length)
    (same : ∀ (D : Addr) (H H' : Hp) (y : V) (b : β), Rr D H y b → Same H H' → Rr D H' y b) (grow : ∀ (D : Addr) (H : Hp) (rs ys : List V) (y : V) (b : β), H D = some (.lst rs) → Rr D H y b → Rr D (upd H D (.lst ys)) y b)
    (step : ∀ (D : Addr) (k : Nat) (b : β) (H2 : Hp) (rs : List V) (Kc : VK), k < n → bs[k]? = some b → Same H H2 → H2 D = some (.lst rs) → (∀ (y : V) (H3 : Hp), Same H2 H3 → Rr D H3 y b → Kc y H3) → te ((wipe σ [j]).set j (some (.int (0 + k)))) H2 Kc)
    (fin : ∀ (D : Addr) (ws : List V) (H5 : Hp), H D = none → Same H H5 → H5 D = some (.lst ws) → Paired (Rr D H5) ws bs → Q (.ref D) H5) : tLc (iRng1 ta) (gName j) tYes te [j] σ H Q :=
  hr _ fun D nD => lc_mapR few hl same grow step fin D nD
section
variable {P : Program} {w : World} {K : PySem.W.Frag} {mg : Str → Option Value} {base : Heap}
theorem scWovD : FnScope ["_law_lists", "_law_many", "_law_ends", "_law_lane", "_law_place"] ["_law_lists"] (defScope sWovD) := ⟨rfl, rfl, rfl, by decide +kernel, rfl, by decide +kernel, by decide +kernel⟩
theorem ok_wovD {f' : Addr} {fd : FuncData} (F : Fun K "_law_woven_due" "_law_woven_due" sWovD f' fd) (T : TxtR mg) : FnOk P w K mg base CX0 1 f' fd ["_law_lists"] spWovD := by
  refine F.ok scWovD (fun vs H Q E h => ?_) (fun cdv A outer s0 H vs Q E hr h => ?_)
  · obtain ⟨l, ws, pss, s, f, rfl, _⟩ := h
    rfl
  · obtain ⟨l, ws, pss, s, f, rfl, hl, pw, m2, m60, small, mn, k⟩ := h
    have nd := scWovD.nd
    have lw := paired_len pw
    refine ⟨_, pss_cons (ps_set (i := 1) nd rfl (Or.inr rfl) (pe_callB call_len_seq (by rfl) T.len PySem.boot_len (pa_cons (pv 0) pa_nil)))
      (pss_cons (ps_set (i := 2) nd rfl (Or.inl rfl) (pe_callB (cr_min rfl) (by rfl) T.min (by decide +kernel) (pa_cons (pe_lc (own := [("_law_lane", 3)]) (g := gName 3) (tt := tYes) rfl nd (pi_range1 (by rfl) T.range (pa_cons (pv 1) pa_nil)) (blkOk_by (N := ["_law_lists", "_law_many", "_law_ends", "_law_lane", "_law_place"]) (sc := defScope sWovD) (by decide +kernel)) (fun _ _ _ _ _ => pg_name (i := 3) nd rfl (Or.inl rfl)) (fun _ _ _ _ _ => pts_nil)
          (fun _ _ _ _ _ => by exact (pe_op op_add (pe_op op_mul (pv 1) (pe_callB (call_lenK K) (by rfl) T.len PySem.boot_len (pa_cons (pe_ix (ix_listK K) (pv 0) (pv 3) (fun _ _ => rfl)) pa_nil))) (pv 3)))) pa_nil)))
      (pss_one (ps_ret (pe_lc (own := [("_law_place", 4)]) (g := gName 4) (tt := tYes) rfl nd (pi_range1 (by rfl) T.range (pa_cons (pv 2) pa_nil)) (blkOk_by (N := ["_law_lists", "_law_many", "_law_ends", "_law_lane", "_law_place"]) (sc := defScope sWovD) (by decide +kernel)) (fun _ _ _ _ _ => pg_name (i := 4) nd rfl (Or.inl rfl)) (fun _ _ _ _ _ => pts_nil)
          (fun _ _ _ _ _ => by exact (pe_ix (ix_listK K) (pe_ix (ix_listK K) (pv 0) (pe_op op_mod (pe_callTy call_int1 (by rfl) T.int (by decide +kernel) (pa_cons (pv 4) pa_nil)) (pv 1)) (fun _ _ => rfl)) (pe_op op_fdiv (pv 4) (pv 1)) (fun _ _ => rfl))))))), ?_⟩
    have ls : s ≤ 1000 := by
      obtain ⟨ps, hps, e⟩ := List.mem_map.mp (List.mem_of_getElem? mn.at_)
      rw [← e]
      exact small ps hps
    have bound : s * pss.length ≤ 60000 := Nat.le_trans (Nat.mul_le_mul ls m60) (by decide)
    have lf : f < pss.length := by
      have := (List.getElem?_eq_some_iff.mp mn.at_).1
      rwa [List.length_map] at this
    refine ⟨_, rfl, l, ws, rfl, .inl (SqL.of hl), ?_⟩
    dsimp only [gName]
    refine seq_to (fun σ' H2 => σ' = [some (.ref l), some (.int ws.length), some (.int ((s * pss.length + f : Nat) : Int)), none, none] ∧ Same H H2) (fun kk hK => ?_) ?_
    · dsimp only [tAsg, tCB, tCons]
      refine lc_mapT (n := ws.length) (bs := endsOf pss) (Rr := fun _ _ (y : V) (n : Nat) => y = .int n) (fun R r => ⟨_, rfl, _, rfl, by omega, by omega, by rw [Int.toNat_natCast]; exact r⟩) (Nat.le_trans (by omega : ws.length ≤ 60) (by decide)) (by unfold endsOf; rw [List.length_map, List.length_range]; exact lw) (fun _ _ _ _ _ h _ => h) (fun _ _ _ _ _ _ _ h => h) ?_ ?_
      · intro D j n H2 rs Kc hj hn s2 hD kc
        have z0 : (0 : Int) + (j : Int) = (j : Int) := by omega
        obtain ⟨ps, e1, a, xs, ea, ha, pa⟩ := paired_at pw (List.getElem?_eq_getElem hj)
        have gd : pss.getD j [] = ps := by
          rw [List.getD_eq_getElem?_getD, e1]
          rfl
        have en : n = pss.length * ps.length + j := by
          unfold endsOf at hn
          rw [List.getElem?_map, List.getElem?_range (by omega)] at hn
          have hn := Option.some.inj hn
          rw [← hn]
          dsimp only
          rw [gd]
        refine ⟨_, rfl, _, rfl, _, rfl, l, ws, _, _, rfl, rfl, SqL.of (s2 _ _ hl), by rw [z0]; exact atI_nat (List.getElem?_eq_getElem hj), ?_⟩
        refine ⟨a, xs, by rw [ea], .inl (SqL.of (s2 _ _ ha)), _, _, rfl, rfl, .inl ⟨by omega, by omega⟩, _, rfl, _, _, rfl, rfl, kc _ _ (fun _ _ e => e) ?_⟩
        rw [en, paired_len pa, z0, lw]
        simp
      · intro D ws' H3 nD s3 hD pw'
        obtain ⟨e1, e2⟩ := ends_min mn
        refine ⟨D, (endsOf pss).map fun (n : Nat) => (n : Int), rfl, SqL.of (by rw [← int_list pw']; exact hD), by unfold endsOf; simp; omega, fun x hx hle => ?_⟩
        have e : x = ((s * pss.length + f : Nat) : Int) := by
          obtain ⟨n, hn, rfl⟩ := List.mem_map.mp hx
          have h1 := e2 n hn
          have h2 := hle _ (List.mem_map.mpr ⟨_, e1, rfl⟩)
          omega
        rw [e]
        exact hK _ _ ⟨rfl, s3⟩
    rintro σ' H3 ⟨rfl, s3⟩
    refine lc_mapT (n := s * pss.length + f) (bs := wov pss (s * pss.length + f)) (Rr := fun _ H y p => PairV H y p) (fun R r => ⟨_, rfl, _, rfl, by omega, by omega, by rw [Int.toNat_natCast]; exact r⟩) (Nat.le_trans (by omega : s * pss.length + f ≤ 60060) (by decide)) (by unfold wov; rw [List.length_map, List.length_range]) (fun _ _ _ _ _ h z => h.same z) (fun _ _ _ _ _ _ hD h => h.grow hD) ?_ ?_
    · intro D p x H4 rs Kc hp hx s4 hD kc
      obtain ⟨ps, y, e1, e2⟩ := wov_at mn hp
      have ex : x = y := by
        unfold wov at hx
        rw [List.getElem?_map, List.getElem?_range hp] at hx
        have hx := Option.some.inj hx
        rw [← hx]
        dsimp only
        have g1 : pss.getD (p % pss.length) [] = ps := by
          rw [List.getD_eq_getElem?_getD, e1]
          rfl
        rw [g1, List.getD_eq_getElem?_getD, e2]
        rfl
      subst ex
      have s04 := s3.trans s4
      obtain ⟨lv, hlv, hlane⟩ : ∃ lv, ws[p % pss.length]? = some lv ∧ PairsV H lv ps := by
        have lt : p % pss.length < ws.length := by rw [lw]; exact Nat.mod_lt _ (by omega)
        obtain ⟨b, hb, h⟩ := paired_at pw (List.getElem?_eq_getElem lt)
        rw [e1] at hb
        cases hb
        exact ⟨_, List.getElem?_eq_getElem lt, h⟩
      obtain ⟨a, xs, rfl, ha, pa⟩ := hlane
      obtain ⟨rv, hrv, hr'⟩ : ∃ rv, xs[p / pss.length]? = some rv ∧ PairV H rv x := by
        have lt : p / pss.length < xs.length := by
          rw [paired_len pa]
          exact (List.getElem?_eq_some_iff.mp e2).1
        obtain ⟨b, hb, h⟩ := paired_at pa (List.getElem?_eq_getElem lt)
        rw [e2] at hb
        cases hb
        exact ⟨_, List.getElem?_eq_getElem lt, h⟩
      have z0 : (0 : Int) + (p : Int) = (p : Int) := by omega
      refine ⟨_, rfl, _, rfl, .inl ⟨(p : Int), ?_, _, rfl, (p : Int), ws.length, rfl, rfl, by omega, l, ws, _, .ref a, rfl, rfl, SqL.of (s04 _ _ hl), ?_, ?_⟩⟩
      · rw [z0]
      · show atI ws ((p % ws.length : Nat) : Int) = _
        exact atI_nat (by rw [lw]; exact hlv)
      · refine ⟨_, rfl, _, rfl, (p : Int), ws.length, ?_, rfl, ⟨by omega, by omega⟩, a, xs, _, rv, rfl, rfl, SqL.of (s04 _ _ ha), ?_, kc _ _ (fun _ _ e => e) (hr'.same s04)⟩
        · rw [z0]
        · show atI xs ((p / ws.length : Nat) : Int) = _
          exact atI_nat (by rw [lw]; exact hrv)
    · intro D ts H5 nD s5 hD pw'
      exact k D ts H5 (same_none s3 nD) (s3.trans s5) hD pw'
end
end K03
end
section
set_option maxHeartbeats 4000000
namespace K03
open PySem PySem.Spec PyProof.Rows L2 LamX NdefX L3
/-- [e for x in range(n) if c]: f tells for each place what is kept of it -/
theorem lc_filtT {j n : Nat} {β : Type} {f : Nat → Option β} {Rr : Addr → Hp → V → β → Prop} {σ : L2.St} {H : Hp} {tt : TT} {te : TE} {ta : TA} {Q : VK} (hr : ∀ R : It → Hp → Prop, R (Itr 0 n) H → iRng1 ta σ H R) (few : n ≤ sizeLine)
    (same : ∀ (D : Addr) (H H' : Hp) (y : V) (b : β), Rr D H y b → Same H H' → Rr D H' y b) (grow : ∀ (D : Addr) (H : Hp) (rs ys : List V) (y : V) (b : β), H D = some (.lst rs) → Rr D H y b → Rr D (upd H D (.lst ys)) y b)
    (step : ∀ (D : Addr) (k : Nat) (H2 : Hp) (rs : List V) (Kc : VK) (Kn : Hp → Prop), k < n → Same H H2 → H2 D = some (.lst rs) → (∀ (y : V) (b : β) (H3 : Hp), f k = some b → Same H2 H3 → Rr D H3 y b → Kc y H3) → (∀ H3, f k = none → Same H2 H3 → Kn H3) →
      tt ((wipe σ [j]).set j (some (.int (0 + k)))) H2 fun c H3 => if c = true then te ((wipe σ [j]).set j (some (.int (0 + k)))) H3 Kc else Kn H3)
    (fin : ∀ (D : Addr) (ws : List V) (H5 : Hp), H D = none → Same H H5 → H5 D = some (.lst ws) → Paired (Rr D H5) ws ((List.range n).filterMap f) → Q (.ref D) H5) : tLc (iRng1 ta) (gName j) tt te [j] σ H Q := by
  refine hr _ fun D nD => ?_
  refine lc_range (fun i H2 => Same H H2 ∧ ∃ ws, H2 D = some (.lst ws) ∧ ws.length ≤ i ∧ Paired (Rr D H2) ws ((List.range i).filterMap f)) ⟨Same.new (fun _ _ e => e) nD, [], upd_same, Nat.le_refl _, .nil⟩ ?_ ?_
  · rintro i H2 hi ⟨s2, ws, hD, lw, pw⟩
    refine ⟨wipe_back, ?_⟩
    refine step D i H2 ws _ _ hi s2 hD (fun y b H3 e s3 ry => ?_) (fun H3 e s3 => ?_)
    · have hD3 := s3 _ _ hD
      refine ⟨ws, hD3, by omega, same_grow nD (s2.trans s3), ws ++ [y], upd_same, by rw [List.length_append, List.length_singleton]; omega, ?_⟩
      rw [List.range_succ, List.filterMap_append]
      have e1 : List.filterMap f [i] = [b] := by simp [e]
      rw [e1]
      exact (Paired.mapP pw fun v b z => grow D H3 ws (ws ++ [y]) v b hD3 (same D H2 H3 v b z s3)).snoc (grow D H3 ws (ws ++ [y]) y _ hD3 ry)
    · refine ⟨s2.trans s3, ws, s3 _ _ hD, by omega, ?_⟩
      rw [List.range_succ, List.filterMap_append]
      have e1 : List.filterMap f [i] = [] := by simp [e]
      rw [e1, List.append_nil]
      exact Paired.mapP pw fun v b z => same D H2 H3 v b z s3
  · rintro H5 ⟨s5, ws, hD, _, pw⟩
    exact fin D ws H5 nD s5 hD pw
/-- [e for x in a list] -/
theorem lc_mapL {K : PySem.W.Frag} {j : Nat} {a : Addr} {xs : List V} {β : Type} {bs : List β} {Rr : Addr → Hp → V → β → Prop} {σ : L2.St} {H : Hp} {te tv : TE} {Q : VK}
    (hv : ∀ R : VK, R (.ref a) H → tv σ H R) (sq : SqL K H a xs) (few : xs.length ≤ sizeLine) (hl : xs.length = bs.length)
    (same : ∀ (D : Addr) (H H' : Hp) (y : V) (b : β), Rr D H y b → Same H H' → Rr D H' y b) (grow : ∀ (D : Addr) (H : Hp) (rs ys : List V) (y : V) (b : β), H D = some (.lst rs) → Rr D H y b → Rr D (upd H D (.lst ys)) y b)
    (step : ∀ (D : Addr) (k : Nat) (x : V) (b : β) (H2 : Hp) (rs : List V) (Kc : VK), xs[k]? = some x → bs[k]? = some b → Same H H2 → H2 D = some (.lst rs) → (∀ (y : V) (H3 : Hp), Same H2 H3 → Rr D H3 y b → Kc y H3) → te ((wipe σ [j]).set j (some x)) H2 Kc)
    (fin : ∀ (D : Addr) (ws : List V) (H5 : Hp), H D = none → Same H H5 → H5 D = some (.lst ws) → Paired (Rr D H5) ws bs → Q (.ref D) H5) :
    tLc (iList K tv) (gName j) tYes te [j] σ H Q := by
  refine hv _ ⟨a, rfl, ⟨xs, sq⟩, fun D nD => ?_⟩
  refine lc_list (K := K) (a := a) (xs := xs) (fun i H2 => Same H H2 ∧ ∃ ws, H2 D = some (.lst ws) ∧ Paired (Rr D H2) ws (bs.take i)) ⟨Same.new (fun _ _ e => e) nD, [], upd_same, .nil⟩ (fun i H2 _ p => p.1.seq sq) ?_ ?_
  · rintro i x H2 hx ⟨s2, ws, hD, pw⟩
    have li : i < xs.length := (List.getElem?_eq_some_iff.mp hx).1
    have hb : bs[i]? = some bs[i] := List.getElem?_eq_getElem (by omega)
    have lw : ws.length = i := by
      rw [paired_len pw, List.length_take]
      omega
    refine ⟨wipe_back, ?_⟩
    refine yes_if (a := fun H4 => te _ H4 _) ?_
    refine step D i x _ H2 ws _ hx hb s2 hD fun y H3 s3 ry => ?_
    have hD3 := s3 _ _ hD
    refine ⟨ws, hD3, by omega, same_grow nD (s2.trans s3), ws ++ [y], upd_same, ?_⟩
    rw [take_snoc hb]
    exact (Paired.mapP pw fun v b z => grow D H3 ws (ws ++ [y]) v b hD3 (same D H2 H3 v b z s3)).snoc (grow D H3 ws (ws ++ [y]) y _ hD3 ry)
  · rintro H5 ⟨s5, ws, hD, pw⟩
    rw [hl, List.take_length] at pw
    exact fin D ws H5 nD s5 hD pw
abbrev sDueD : Stmt := top 50
/-- a new list of lists of pairs -/
def NewPss (H : Hp) (Q : VK) (pss : List (List (Int × Int))) : Prop := ∀ (l : Addr) (ts : List V) (H' : Hp), H l = none → Same H H' → H' l = some (.lst ts) → Paired (PairsV H') ts pss → Q (.ref l) H'
def spDueD : Sp := fun vs H Q _ => ∃ (l : Addr) (n : Nat) (ts : List V) (ps : List (Int × Int)), vs = [.ref l, .int n] ∧ H l = some (.lst ts) ∧ 2 ≤ n ∧ n ≤ 60 ∧ ts.length ≤ sizeLine ∧ Paired (PairV H) ts ps ∧ NewPss H Q (dealtOf ps n)
def keep (ps : List (Int × Int)) (n r k : Nat) : Option (Int × Int) := if k % n == r then ps[k]? else none
theorem keep_pick {ps : List (Int × Int)} {n r : Nat} (hn : 0 < n) (hr : r < n) : (List.range ps.length).filterMap (keep ps n r) = pickG ps (some (r : Int)) none (some (n : Int)) := by
  unfold pickG
  rw [places_step hn hr, List.filterMap_filter]
  rfl
section
variable {P : Program} {w : World} {K : PySem.W.Frag} {mg : Str → Option Value} {base : Heap}
theorem scDueD : FnScope ["_law_items", "_law_many", "_law_lane", "_law_k"] ["_law_items", "_law_many"] (defScope sDueD) := ⟨rfl, rfl, rfl, by decide +kernel, rfl, by decide +kernel, by decide +kernel⟩
theorem ok_dueD {f' : Addr} {fd : FuncData} (F : Fun K "_law_dealt_due" "_law_dealt_due" sDueD f' fd) (T : TxtR mg) : FnOk P w K mg base CX0 1 f' fd ["_law_items", "_law_many"] spDueD := by
  refine F.ok scDueD (fun vs H Q E h => ?_) (fun cdv A outer s0 H vs Q E hr h => ?_)
  · obtain ⟨l, n, ts, ps, rfl, _⟩ := h
    rfl
  · obtain ⟨l, n, ts, ps, rfl, hl, n2, n60, few, pr, k⟩ := h
    have nd := scDueD.nd
    have lts := paired_len pr
    refine ⟨_, pss_one (ps_ret (pe_lc (own := [("_law_lane", 2)]) (g := gName 2) (tt := tYes) rfl nd (pi_range1 (by rfl) T.range (pa_cons (pv 1) pa_nil)) (blkOk_by (N := ["_law_items", "_law_many", "_law_lane", "_law_k"]) (sc := defScope sDueD) (by decide +kernel)) (fun _ _ _ _ _ => pg_name (i := 2) nd rfl (Or.inr rfl)) (fun _ _ _ _ _ => pts_nil)
        (fun _ _ _ _ _ => by exact (pe_lc (own := [("_law_k", 3)]) (g := gName 3) rfl nd (pi_range1 (by rfl) T.range (pa_cons (pe_callB (call_lenK K) (by rfl) T.len PySem.boot_len (pa_cons (pv 0) pa_nil)) pa_nil)) (blkOk_by (N := ["_law_items", "_law_many", "_law_lane", "_law_k"]) (by rfl)) (fun _ _ _ _ _ => pg_name (i := 3) nd rfl (Or.inl rfl))
          (fun _ _ _ _ _ => by exact (pts_one (pt_cmpR op_eq (pe_op op_mod (pe_callTy call_int1 (by rfl) T.int (by decide +kernel) (pa_cons (pv 3) pa_nil)) (pv 1)) (pv 2) (nomark _)))) (fun _ _ _ _ _ => by exact (pe_ix (ix_listK K) (pv 0) (pv 3) (fun _ _ => rfl))))))), ?_⟩
    refine lc_mapT (n := n) (bs := dealtOf ps n) (Rr := fun D H y qs => PairsN H D y qs) (fun R r => ⟨_, rfl, n, rfl, by omega, by omega, by rw [Int.toNat_natCast]; exact r⟩) (Nat.le_trans n60 (by decide)) (by unfold dealtOf; rw [List.length_map, List.length_range]) (fun _ _ _ _ _ h z => h.same z) (fun _ _ _ _ _ _ hD h => h.grow hD) ?_ ?_
    · intro D i qs H2 rs Kc hi hq s2 hD kc
      have z0 : (0 : Int) + (i : Int) = (i : Int) := by omega
      have eq : qs = pickG ps (some (i : Int)) none (some (n : Int)) := by
        unfold dealtOf at hq
        rw [List.getElem?_map, List.getElem?_range hi] at hq
        exact (Option.some.inj hq).symm
      refine lc_filtT (n := ts.length) (f := keep ps n i) (Rr := fun _ H y p => PairV H y p) (fun R r => ⟨_, rfl, l, ts, rfl, .inl (SqL.of (s2 _ _ hl)), _, rfl, by omega, by unfold sizeLine at few; omega, by rw [Int.toNat_natCast]; exact r⟩) few (fun _ _ _ _ _ h z => h.same z) (fun _ _ _ _ _ _ hD h => h.grow hD) ?_ ?_
      · intro D2 j H3 rs2 Kc2 Kn hj s3 hD2 kc2 kn
        have z1 : (0 : Int) + (j : Int) = (j : Int) := by omega
        have s03 := s2.trans s3
        refine ⟨_, rfl, .inl ⟨(j : Int), by rw [z1], _, rfl, (j : Int), n, rfl, rfl, by omega, _, rfl, rfl, _, rfl, ?_⟩⟩
        have hk : keep ps n i j = if (j % n == i) then ps[j]? else none := rfl
        have same_b : decide ((fun i j => V.int (i % j)) (j : Int) (n : Int) = V.int (0 + (i : Int))) = (j % n == i) := by
          rw [Bool.eq_iff_iff]
          simp
          omega
        rw [same_b]
        refine ite2 (fun y => ?_) (fun y => ?_)
        · rw [y] at hk
          have hj' : j < ps.length := by omega
          obtain ⟨b, hb, t, et, ht⟩ := paired_at pr (List.getElem?_eq_getElem hj)
          refine ⟨_, rfl, _, rfl, l, ts, _, _, rfl, rfl, SqL.of (s03 _ _ hl), by rw [z1]; exact atI_nat (List.getElem?_eq_getElem hj), ?_⟩
          exact kc2 _ b _ (by rw [hk]; exact hb) (fun _ _ e => e) ⟨t, et, s03 _ _ ht⟩
        · rw [show (j % n == i) = false by simpa using y] at hk
          exact kn _ hk (fun _ _ e => e)
      · intro D2 ws H5 nD2 s5 hD5 pw
        rw [lts, keep_pick (by omega) hi] at pw
        have sr := s5 _ _ hD
        exact kc _ _ s5 ⟨D2, ws, rfl, fun z => (by rw [z, hD] at nD2; cases nD2), hD5, by rw [eq]; exact pw⟩
    · intro D ws H5 nD s5 hD pw
      exact k D ws H5 nD s5 hD (Paired.mapP pw fun _ _ z => z.v)
end
end K03
end
section
set_option maxHeartbeats 4000000
namespace K03
open PySem PySem.Spec PyProof.Rows L2 LamX NdefX L3
abbrev sFault2 : Stmt := top 37
abbrev sIsRef : Stmt := top 38
def spFault2 (X : Cx) (σ : L2.St) (k : Nat) (cB cN : Addr) : Sp := fun vs H Q _ => ∃ (f : Addr) (v : V), vs = [.ref f] ∧ DeedAt X σ k cB cN H f (some v) ∧ ∀ (p : Addr) (H' : Hp), H p = none → Same H H' → H' p = some (.lst [v]) → Q (.ref p) H'
/-- what is asked whether it is a bool, and what is equal to itself -/
def ThingB (K : PySem.W.Frag) (H : Hp) (v : V) : Prop := (flatB v = true ∨ ∃ a, v = .ref a) ∧ ∃ (t : Value) (b : Bool), TyX K H v t ∧ PySem.W.kitOne K t (.type "bool") = some b
theorem ThingB.same {K : PySem.W.Frag} {H H' : Hp} {v : V} (h : ThingB K H v) (s : Same H H') : ThingB K H' v := by
  obtain ⟨f, t, b, h1, h2⟩ := h
  exact ⟨f, t, b, h1.same s, h2⟩
def spIsRef (K : PySem.W.Frag) (X : Cx) (σ : L2.St) (k : Nat) (cB cN : Addr) : Sp := fun vs H Q _ => ∃ (f : Addr) (v : V), vs = [.ref f, v] ∧ ThingB K H v ∧ DeedAt X σ k cB cN H f (some v) ∧ ∀ H', Same H H' → Q (.bl true) H'
section
variable {P : Program} {w : World} {K : PySem.W.Frag} {mg : Str → Option Value} {base : Heap} {cB cN : Addr}
theorem scFault2 : FnScope ["_law_deed", "_law_found", "e"] ["_law_deed"] (defScope sFault2) := ⟨rfl, rfl, rfl, by decide +kernel, rfl, by decide +kernel, by decide +kernel⟩
theorem ok_fault2 {f : Addr} {fd : FuncData} {X : Cx} {σ : L2.St} {k : Nat} (F : Fun K "_law_fault" "_law_fault" sFault2 f fd) (hb : L2.Binds K fd ["_law_deed"] []) (T : ErrR P w K mg base cB cN) (M : PySem.W.exmOne K (.ref cB) (.ref cB) = some true) (eP : X.prog = P) (ew : X.w = w) (eK : X.K = K) (em : X.mg = mg) (eb : X.base = base) :
    FnRd P w K mg base CX0 (k + 2) f (Rd X σ) (spFault2 X σ k cB cN) := by
  subst eP ew eK em eb
  refine fn_rd F scFault2 hb (fun vs H Q E h => ?_) (fun cdv A outer s H vs Q E hr rd h => ?_)
  · obtain ⟨f, v, rfl, _⟩ := h
    rfl
  · obtain ⟨f, v, rfl, deed, q⟩ := h
    obtain ⟨params, body, scope, t, c', L, hbind, hbody, hf, hc, ht⟩ := id deed
    have nd := scFault2.nd
    refine ⟨_, pss_cons (ps_set (i := 1) nd rfl (Or.inl rfl) (pe_lst pa_nil))
      (pss_cons (ps_tryC (Wout := fun _ _ _ _ => False) rfl rfl nd takes_none5 (fun W pn xe tk _ => pss_one (ps_expr (pe_deed (pn := pn) (xe := xe) (E := fun σZ => WE W σZ) rd L hbind hr (fun σZ => passAt tk σZ) hbody (i := 0) rfl (.inl rfl))))
        (.as_ ⟨by rfl, by decide, .inl T.B.g⟩ (i := 2) rfl rfl (fun a oe cls d pn hz hf => pss_one (ps_set (i := 1) nd rfl (Or.inl rfl) (pe_lst (pa_cons (pe_xe T.B.Z T.B.no hz hf (pv 2)) pa_nil)))) .nil))
      (pss_one (ps_ret (pv 1)))), ?_⟩
    refine ⟨by show 0 ≤ sizeLine; decide, fun p0 n0 => ?_⟩
    have s0 : Same H (upd H p0 (.lst [])) := Same.new (fun _ _ e => e) n0
    generalize upd H p0 (.lst []) = H0 at s0 ⊢
    refine ⟨f, c', rfl, s0 _ _ hf, s0 _ _ hc, ht H0 s0 _ _ ?_⟩
    intro d H1 nd1 s1 ed
    refine ⟨true, M, fun _ a na => ?_, fun z => nomatch z⟩
    refine ⟨_, rfl, rfl, rfl, d, _, v, rfl, ed, by simp [List.lookup], by show 1 ≤ sizeLine; decide, fun p1 n1 => ?_⟩
    exact ⟨_, rfl, q p1 _ (none_same (s0.trans s1) n1) ((s0.trans s1).new n1) upd_same⟩
theorem scIsRef : FnScope ["_law_deed", "_law_value", "_law_found", "_law_x"] ["_law_deed", "_law_value"] (defScope sIsRef) := ⟨rfl, rfl, rfl, by decide +kernel, rfl, by decide +kernel, by decide +kernel⟩
theorem ok_isRef {f fF : Addr} {fd : FuncData} {X : Cx} {σ : L2.St} {k : Nat} (F : Fun K "_law_is_refused" "_law_is_refused" sIsRef f fd) (hb : L2.Binds K fd ["_law_deed", "_law_value"] []) (hk : 1 ≤ k) (T : TxtR mg)
    (GF : FnRd P w K mg base CX0 (k + 2) fF (Rd X σ) (spFault2 X σ k cB cN)) (gF : mg "_law_fault" = some (.ref fF)) (kF : PySem.W.keepIn K (.ref fF) = true)
    (eP : X.prog = P) (ew : X.w = w) (eK : X.K = K) (em : X.mg = mg) (eb : X.base = base) : FnRd P w K mg base CX0 (k + 3) f (Rd X σ) (spIsRef K X σ k cB cN) := by
  subst eP ew eK em eb
  refine fn_rd F scIsRef hb (fun vs H Q E h => ?_) (fun cdv A outer s H vs Q E hr rd h => ?_)
  · obtain ⟨f, v, rfl, _⟩ := h
    rfl
  · obtain ⟨f, v, rfl, th, deed, q⟩ := h
    have nd := scIsRef.nd
    have hr2 : Room 2 _ := hr.mono (by omega)
    refine ⟨_, pss_cons (ps_set (i := 2) nd rfl (Or.inl rfl) (pe_callRd (E := fun _ => E0) GF hr (by rfl) gF kF (fun pins s σ H I => rd.down (CXg := CX0) (E := E) (pn := []) (xe := _) I) (fun σ pins H s e s2 I c => pass0 pins σ H s e s2 I c) (pa_cons (pv 0) pa_nil)))
      (pss_one (ps_ret (pe_and (pe_cmpR (show OpR _ (compareOp .Eq) (rEqV X.K) from op_eqV hr2.units) (pv 2) (pe_lst (pa_cons (pv 1) pa_nil)) (nomark _)) (pe_one (pe_cmpR (show OpR _ (compareOp .Eq) (rEqV X.K) from op_eqV hr2.units)
        (pe_lc (own := [("_law_x", 3)]) (g := gName 3) (tt := tYes) rfl nd (pi_list (pv 2)) (blkOk_by (N := ["_law_deed", "_law_value", "_law_found", "_law_x"]) (sc := defScope sIsRef) (by decide +kernel)) (fun _ _ _ _ _ => pg_name (i := 3) nd rfl (Or.inl rfl)) (fun _ _ _ _ _ => pts_nil)
          (fun _ _ _ _ _ => by exact (pe_callB (show CallR _ (.builtin "isinstance") (rIsi X.K) from call_isi) (by rfl) T.isi (by decide +kernel) (pa_cons (pv 3) (pa_cons (pe_bltn (v := .ty "bool") (u := .type "bool") (by rfl) T.bool (by decide +kernel) rfl) pa_nil)))))
        (pe_lst (pa_cons (pe_callB (show CallR _ (.builtin "isinstance") (rIsi X.K) from call_isi) (by rfl) T.isi (by decide +kernel) (pa_cons (pv 1) (pa_cons (pe_bltn (v := .ty "bool") (u := .type "bool") (by rfl) T.bool (by decide +kernel) rfl) pa_nil))) pa_nil)) (nomark _)))))), ?_⟩
    refine ⟨_, rfl, f, v, rfl, deed, fun p H1 np s1 ep => ?_⟩
    obtain ⟨hfl, t, b, ht, hb'⟩ := th.same s1
    refine ⟨_, rfl, _, rfl, by show 1 ≤ sizeLine; decide, fun l1 n1 => ?_⟩
    have sl := Same.new (o := .lst [v]) (fun _ _ e => e : Same H1 H1) n1
    have ep1 := sl _ _ ep
    refine ⟨1, by decide, .inl ⟨p, l1, [v], [v], rfl, rfl, SqL.of ep1, SqL.of upd_same, .cons ?_ .nil⟩, ?_⟩
    · rcases hfl with e | ⟨a, e⟩
      · exact .inl ⟨rfl, e⟩
      · exact .inr (.inl ⟨a, e, e⟩)
    refine ⟨_, rfl, ?_⟩
    rw [if_pos rfl]
    refine lc_mapL (bs := [b]) (Rr := fun _ _ y b => y = .bl b) (fun R r => ⟨_, rfl, r⟩) (SqL.of ep1) (by show 1 ≤ sizeLine; decide) rfl (fun _ _ _ _ _ h _ => h) (fun _ _ _ _ _ _ _ h => h) ?_ ?_
    · intro D i x b' H2 rs Kc hx hbi s2 hD kc
      cases i with
      | succ i => simp at hx
      | zero =>
        cases hx
        cases hbi
        exact ⟨_, rfl, v, .ty "bool", t, .type "bool", b, rfl, .ty _, ht.same (sl.trans s2), hb', kc _ _ (fun _ _ e => e) rfl⟩
    · intro D ws H5 nD s5 hD pw
      have eD : H5 D = some (.lst [.bl b]) := by
        rw [hD, bl_list pw]
        rfl
      refine ⟨_, rfl, v, .ty "bool", t, .type "bool", b, rfl, .ty _, ht.same (sl.trans s5), hb', ?_⟩
      refine ⟨by show 1 ≤ sizeLine; decide, fun l2 n2 => ?_⟩
      have s6 := Same.new (o := .lst [.bl b]) (fun _ _ e => e : Same H5 H5) n2
      refine ⟨1, by decide, .inl ⟨D, l2, [.bl b], [.bl b], rfl, rfl, SqL.of (s6 _ _ eD), SqL.of upd_same, .cons (.inl ⟨rfl, rfl⟩) .nil⟩, ?_⟩
      exact q _ (((s1.trans sl).trans s5).trans s6)
end
end K03
end
section
set_option maxHeartbeats 4000000
namespace L3
open PySem PySem.Spec PyProof.Rows L2
section
variable {X : Cx} {CX : CXT} {k n : Nat} {f : Addr} {fd : FuncData} {ps ks : List Str} {sp : Sp} {E : XK} {x : Str} {p pos : Pos} {e : Expr} {es : List Expr} {kws : List Keyword} {t tk : TA} {g : List Value → List Value → List Value} {gV : List V → List V → List V}
/-- f(k = v, ..) -/
theorem pe_callN0 (F : FnOk X.prog X.w X.K X.mg X.base CX k f fd ps sp) (hr : Room k X.A) (hg : Gl X x) (hm : X.mg x = some (.ref f)) (hk : PySem.W.keepIn X.K (.ref f) = true) (hb : KBn X.K fd ps 0 ks g gV) (hx : Passes CX X E)
    (hkw : PK X kws tk) (hall : (backToKw pos (keywordEach kws X.env)).all (·.1.isSome) = true := by rfl) (hks : (backToKw pos (keywordEach kws X.env)).filterMap (·.1) = ks := by rfl)
    (hdb : (x == ("__debug__" : Str)) = false := by decide) (hpl : ((backTo pos (starEach [] X.env)).any (·.1) || (backToKw pos (keywordEach kws X.env)).any (·.1.isNone)) = false := by rfl) :
    PE X (.Call (.Name x p) [] kws pos) (tCallN 0 ks.length sp gV E tNil tk) := by
  refine ⟨fun pins s σ H Q I h => ?_⟩
  refine wpAny_Call_Name_kw (ld_glob I hg hm ?_ hdb)
  refine PySem.W.callWith_KW0 (h₀ := X.base) I.ok.mod.kin hk hall ?_ hpl
  refine thn (hkw.run pos pins s σ H _ I h) fun ws s2 ⟨zs, H2, I2, rz, l1, l2, q2⟩ => ⟨I2.kIn, ?_⟩
  rw [hks]
  exact run_fnN (us := []) (vs := []) F hr hb hx I2 .nil rz rfl l2 q2
end
/-- no defaults: what is told by keywords -/
theorem kbN {K : PySem.W.Frag} {x qual : Str} {params : Arguments} {body : List Stmt} {scope : Scope} {kws : List (Str × V)} {f : Addr} {fd : FuncData} {ps : List Str} (F : FunD K x qual params body scope [] kws f fd) (n : Nat) (ks : List Str) (g : {α : Type} → List α → List α → List α)
    (hrel : ∀ {vs zs : List V} {us ws : List Value}, Vals vs us → Vals zs ws → Vals (g vs zs) (g us ws))
    (h : ∀ (kV doc pm : Value) (an : Option Addr) (cdv ct : Value) (us ws : List Value), us.length = n → ws.length = ks.length → bindArgs (PySem.W.fnOf x qual params body scope .none kV doc pm an cdv ct) ⟨us, ks.zip ws⟩ = pure (ps.zip (g us ws))) : KBn K fd ps n ks (fun us ws => g us ws) (fun vs zs => g vs zs) := by
  obtain ⟨oc, od, dV, kV, doc, pm, an, cdv, ct, osl, rfl, lk, hcd, hD, hK⟩ := F.ex
  rcases hD with ⟨_, rfl⟩ | ⟨e, _⟩
  · exact ⟨fun s us ws X l1 l2 => .of_eq (h kV doc pm an cdv ct us ws l1 l2), fun r1 r2 => hrel r1 r2⟩
  · exact absurd rfl e
end L3
end
section
set_option maxHeartbeats 4000000
namespace K03
open PySem PySem.Spec PyProof.Rows L2 LamX NdefX L3
theorem filterMap_some {α β : Type} {f : α → Option β} {g : α → β} : ∀ {l : List α}, (∀ x ∈ l, f x = some (g x)) → l.filterMap f = l.map g
  | [], _ => rfl
  | x :: l, h => by
    rw [List.filterMap_cons, h x List.mem_cons_self, List.map_cons, filterMap_some fun y hy => h y (List.mem_cons_of_mem _ hy)]
theorem pick_eq {ps : List (Int × Int)} {n r : Nat} (hn : 0 < n) (hr : r < n) : pickG ps (some (r : Int)) none (some (n : Int)) = (List.range ((ps.length + (n - 1) - r) / n)).map fun k => ps.getD (r + n * k) (0, 1) := by
  unfold pickG
  rw [places_step hn hr, ← step_places hn hr, List.filterMap_map]
  refine filterMap_some fun k hk => ?_
  have hk := List.mem_range.mp hk
  have h1 : (k + 1) * n ≤ ps.length + (n - 1) - r := (Nat.le_div_iff_mul_le hn).mp hk
  rw [Nat.succ_mul, Nat.mul_comm] at h1
  have h2 : r + n * k < ps.length := by omega
  show ps[r + n * k]? = _
  rw [List.getElem?_eq_getElem h2, List.getD_eq_getElem?_getD, List.getElem?_eq_getElem h2]
  rfl
theorem deal_len {ps : List (Int × Int)} {n r : Nat} (hn : 0 < n) (hr : r < n) : ((dealtOf ps n).map List.length)[r]? = some ((ps.length + (n - 1) - r) / n) := by
  unfold dealtOf
  rw [List.getElem?_map, List.getElem?_map, List.getElem?_range hr]
  show some (pickG ps (some (r : Int)) none (some (n : Int))).length = _
  rw [pick_eq hn hr, List.length_map, List.length_range]
theorem deal_size (ps : List (Int × Int)) (n : Nat) : (dealtOf ps n).length = n := by
  unfold dealtOf
  rw [List.length_map, List.length_range]
theorem deal_min {ps : List (Int × Int)} {n s f : Nat} (hn : 0 < n) (m : MinAt ((dealtOf ps n).map List.length) s f) : s * n + f = ps.length := by
  have lf : f < n := by
    have := (List.getElem?_eq_some_iff.mp m.at_).1
    rwa [List.length_map, deal_size] at this
  have e1 := m.at_
  rw [deal_len hn lf] at e1
  have e1 := Option.some.inj e1
  have last := deal_len (ps := ps) hn (show n - 1 < n by omega)
  have le := m.le _ (List.mem_of_getElem? last)
  rw [show ps.length + (n - 1) - (n - 1) = ps.length by omega] at le
  have dv := Nat.div_add_mod ps.length n
  have mt := Nat.mod_lt ps.length hn
  have es : s = ps.length / n := by
    refine Nat.le_antisymm le ?_
    rw [← e1]
    exact Nat.div_le_div_right (by omega)
  have ft : ps.length % n ≤ f := by
    have h1 : (ps.length + (n - 1) - f) / n < s + 1 := by omega
    rw [Nat.div_lt_iff_lt_mul hn, Nat.succ_mul, es, Nat.mul_comm] at h1
    omega
  have tf : ¬ ps.length % n < f := fun h => by
    have h1 := m.first _ h _ (deal_len hn (by omega))
    have h2 : (ps.length + (n - 1) - ps.length % n) / n < s + 1 := by
      rw [Nat.div_lt_iff_lt_mul hn, Nat.succ_mul, es, Nat.mul_comm]
      omega
    omega
  have : f = ps.length % n := by omega
  rw [es, Nat.mul_comm, this]
  exact dv
/-- what is dealt is woven again -/
theorem wov_deal {ps : List (Int × Int)} {n s f : Nat} (hn : 0 < n) (m : MinAt ((dealtOf ps n).map List.length) s f) : wov (dealtOf ps n) (s * (dealtOf ps n).length + f) = ps := by
  rw [deal_size, deal_min hn m]
  unfold wov
  rw [deal_size]
  refine List.ext_getElem? fun p => ?_
  rw [List.getElem?_map]
  by_cases h : p < ps.length
  · rw [List.getElem?_range h, List.getElem?_eq_getElem h]
    have pr := Nat.mod_lt p hn
    show some (((dealtOf ps n).getD (p % n) []).getD (p / n) (0, 1)) = _
    have e1 : (dealtOf ps n).getD (p % n) [] = pickG ps (some ((p % n : Nat) : Int)) none (some (n : Int)) := by
      unfold dealtOf
      rw [List.getD_eq_getElem?_getD, List.getElem?_map, List.getElem?_range pr]
      rfl
    rw [e1, pick_eq hn pr, List.getD_eq_getElem?_getD, List.getElem?_map]
    have dv := Nat.div_add_mod p n
    have lt : p / n < (ps.length + (n - 1) - p % n) / n := by
      refine (Nat.le_div_iff_mul_le hn).mpr ?_
      rw [Nat.succ_mul, Nat.mul_comm]
      omega
    rw [List.getElem?_range lt]
    show some (ps.getD (p % n + n * (p / n)) (0, 1)) = _
    rw [show p % n + n * (p / n) = p by omega, List.getD_eq_getElem?_getD, List.getElem?_eq_getElem h]
    rfl
  · rw [List.getElem?_eq_none (by rw [List.length_range]; omega), List.getElem?_eq_none (by omega)]
    rfl
theorem deal_short {ps : List (Int × Int)} {n : Nat} : ∀ qs ∈ dealtOf ps n, qs.length ≤ ps.length := by
  intro qs hq
  unfold dealtOf at hq
  obtain ⟨r, hr, rfl⟩ := List.mem_map.mp hq
  have hr := List.mem_range.mp hr
  rw [pick_eq (by omega) hr, List.length_map, List.length_range]
  exact Nat.le_trans (Nat.div_le_div_right (show ps.length + (n - 1) - r ≤ ps.length + (n - 1) by omega)) (by
    have : (ps.length + (n - 1)) / n < ps.length + 1 := by
      rw [Nat.div_lt_iff_lt_mul (by omega), Nat.succ_mul]
      have : ps.length * 1 ≤ ps.length * n := Nat.mul_le_mul_left _ (by omega)
      omega
    omega)
/-! pairs as data -/
def dP (p : Int × Int) : PyData := .tuple [.int p.1, .int p.2]
def dPs (ps : List (Int × Int)) : PyData := .list (ps.map dP)
def dPss (pss : List (List (Int × Int))) : PyData := .list (pss.map dPs)
theorem lay_P : ∀ ps : List (Int × Int), PyData.canLayAll0 (ps.map dP) = true
  | [] => rfl
  | p :: r => by
    rw [List.map_cons, PyData.canLayAll0, lay_P r]
    simp [dP, PyData.canLayAll0, PyData.canLay0]
theorem dep_P : ∀ ps : List (Int × Int), PyData.depthAll (ps.map dP) ≤ 1
  | [] => Nat.zero_le _
  | p :: r => by
    have := dep_P r
    have e : PyData.depth (dP p) ≤ 1 := by simp [dP, PyData.depthAll, PyData.depth]
    rw [List.map_cons, PyData.depthAll]
    omega
theorem lay_Ps (ps : List (Int × Int)) : PyData.canLay0 (dPs ps) = true := by simp [dPs, PyData.canLay0, lay_P]
theorem dep_Ps (ps : List (Int × Int)) : PyData.depth (dPs ps) ≤ 2 := by
  have := dep_P ps
  simp [dPs, PyData.depth]
  omega
theorem lay_Pss : ∀ pss : List (List (Int × Int)), PyData.canLayAll0 (pss.map dPs) = true
  | [] => rfl
  | p :: r => by rw [List.map_cons, PyData.canLayAll0, lay_Pss r, lay_Ps]; rfl
theorem dep_Pss : ∀ pss : List (List (Int × Int)), PyData.depthAll (pss.map dPs) ≤ 2
  | [] => Nat.zero_le _
  | p :: r => by
    have := dep_Pss r
    have := dep_Ps p
    rw [List.map_cons, PyData.depthAll]
    omega
theorem sh_Ps (ps : List (Int × Int)) : SeqAt.shaped (dPs ps) = true := by
  have := dep_Ps ps
  unfold SeqAt.shaped
  rw [lay_Ps, decide_eq_true (show (dPs ps).depth ≤ 64 by omega)]
  rfl
theorem lay_PSS (pss : List (List (Int × Int))) : PyData.canLay0 (dPss pss) = true := by simp [dPss, PyData.canLay0, lay_Pss]
theorem sh_Pss (pss : List (List (Int × Int))) : SeqAt.shaped (dPss pss) = true := by
  have := dep_Pss pss
  have e : (dPss pss).depth ≤ 64 := by
    simp [dPss, PyData.depth]
    omega
  unfold SeqAt.shaped
  rw [lay_PSS, decide_eq_true e]
  rfl
theorem dp_P {K : PySem.W.Frag} {H : Hp} {v : V} {p : Int × Int} (h : PairV H v p) : Dp K H v (dP p) := by
  obtain ⟨t, rfl, ht⟩ := h
  exact .tup (SqT.of ht) (.cons (.int _) (.cons (.int _) .nil))
theorem dp_Ps {K : PySem.W.Frag} {H : Hp} : ∀ {ts : List V} {ps : List (Int × Int)}, Paired (PairV H) ts ps → DpAll K H ts (ps.map dP)
  | _, _, .nil => .nil
  | _, _, .cons a r => .cons (dp_P a) (dp_Ps r)
theorem dp_PsV {K : PySem.W.Frag} {H : Hp} {v : V} {ps : List (Int × Int)} (h : PairsV H v ps) : Dp K H v (dPs ps) := by
  obtain ⟨a, xs, rfl, ha, p⟩ := h
  exact .lst (SqL.of ha) (dp_Ps p)
theorem dp_Pss {K : PySem.W.Frag} {H : Hp} : ∀ {ts : List V} {pss : List (List (Int × Int))}, Paired (PairsV H) ts pss → DpAll K H ts (pss.map dPs)
  | _, _, .nil => .nil
  | _, _, .cons a r => .cons (dp_PsV a) (dp_Pss r)
theorem eq_Ps (ps : List (Int × Int)) : PyData.eqv (dPs ps) (dPs ps) = true := SeqAt.eqv_refl _ (lay_Ps ps)
theorem eq_Pss (pss : List (List (Int × Int))) : PyData.eqv (dPss pss) (dPss pss) = true := SeqAt.eqv_refl _ (lay_PSS pss)
end K03
end
section
set_option maxHeartbeats 4000000
namespace L3
open PySem PySem.Spec PyProof.Rows L2 K03
/-- a def of the text that keeps its promise, and stands under its name -/
structure Dfn (P : Program) (w : World) (K : PySem.W.Frag) (mg : Str → Option Value) (base : Heap) (CX : CXT) (k : Nat) (x : Str) (ps : List Str) (sp : Sp) : Prop where
  ex : ∃ f fd, FnOk P w K mg base CX k f fd ps sp ∧ mg x = some (.ref f) ∧ PySem.W.keepIn K (.ref f) = true ∧ Binds K fd ps []
section
variable {X : Cx} {CX : CXT} {k j : Nat} {ps : List Str} {sp : Sp} {E : XK} {x : Str} {p pos : Pos} {e : Expr} {es : List Expr} {t : TA}
/-- f(e, ..), f a def that raises nothing -/
theorem dc (h : Dfn X.prog X.w X.K X.mg X.base CX0 k x ps sp) (hr : Room j X.A) (hj : k ≤ j) (ha : PA X (e :: es) t) (hg : Gl X x := by rfl) (hdb : (x == ("__debug__" : Str)) = false := by decide)
    (he : starEach (e :: es) X.env = (false, eval e X.env) :: starEach es X.env := by rfl) (hpl : (backTo pos (starEach es X.env)).any (·.1) = false := by rfl) : PE X (.Call (.Name x p) (e :: es) [] pos) (tCall sp [] E0 t) := by
  obtain ⟨f, fd, G, g, kp, b⟩ := h.ex
  exact pe_call G (hr.mono hj) hg g kp b .nil pass0 ha hdb he hpl
/-- .. one that may raise, here it does not -/
theorem dcL (h : Dfn X.prog X.w X.K X.mg X.base (L2.CX X.prog X.w) k x ps sp) (hr : Room j X.A) (hj : k ≤ j) (ha : PA X (e :: es) t) (hg : Gl X x := by rfl) (hdb : (x == ("__debug__" : Str)) = false := by decide)
    (he : starEach (e :: es) X.env = (false, eval e X.env) :: starEach es X.env := by rfl) (hpl : (backTo pos (starEach es X.env)).any (·.1) = false := by rfl) : PE X (.Call (.Name x p) (e :: es) [] pos) (tCall sp [] E0 t) := by
  obtain ⟨f, fd, G, g, kp, b⟩ := h.ex
  exact pe_call (E := E0) G (hr.mono hj) hg g kp b .nil passL ha hdb he hpl
/-- .. one that may raise, its errors leave the def -/
theorem dcE (h : Dfn X.prog X.w X.K X.mg X.base (L2.CX X.prog X.w) k x ps sp) (hr : Room j X.A) (hj : k ≤ j) (hx : Passes (L2.CX X.prog X.w) X E) (ha : PA X (e :: es) t) (hg : Gl X x := by rfl) (hdb : (x == ("__debug__" : Str)) = false := by decide)
    (he : starEach (e :: es) X.env = (false, eval e X.env) :: starEach es X.env := by rfl) (hpl : (backTo pos (starEach es X.env)).any (·.1) = false := by rfl) : PE X (.Call (.Name x p) (e :: es) [] pos) (tCall sp [] E t) := by
  obtain ⟨f, fd, G, g, kp, b⟩ := h.ex
  exact pe_call (E := E) G (hr.mono hj) hg g kp b .nil hx ha hdb he hpl
end
end L3
end
section
set_option maxHeartbeats 4000000
namespace K03
open PySem PySem.Spec PyProof.Rows L2 LamX NdefX L3
abbrev sPlain : Stmt := top 54
/-- what stays but the pen -/
def spPlain : Sp := fun vs H Q _ => ∃ (d c l : Addr) (s r : Int) (cells : List Int) (n : Nat) (ts : List V) (ps : List (Int × Int)), vs = [.ref d, .ref l, .int n] ∧ PenAt H d c s r cells ∧ 0 ≤ s ∧ s + ts.length + 40 ≤ 100000 ∧ cells.length ≤ 63 ∧ H l = some (.lst ts) ∧ Paired (PairV H) ts ps ∧ (∀ p ∈ ps, NumD p) ∧ 2 ≤ n ∧ n ≤ 60 ∧ ts.length ≤ 100 ∧
  ∀ (s' r' : Int) (H' : Hp), 0 ≤ s' → s' ≤ s + ts.length + 1 → PenAt H' d c s' r' cells → SameBut d H H' → Q (.bl true) H'
/-- what the program gives, as the law's calls wish -/
structure LaneD (P : Program) (w : World) (K : PySem.W.Frag) (mg : Str → Option Value) (base : Heap) (C cB : Addr) : Prop where
  dealt : Dfn P w K mg base (L2.CX P w) 8 "dealt" ["items", "many"] (spDealt K C cB)
  thin : Dfn P w K mg base (L2.CX P w) 8 "thinned" ["items", "many", "rest"] (spThin K C cB)
  woven : Dfn P w K mg base (L2.CX P w) 8 "woven" ["lists"] (spWov K C cB)
  str : Dfn P w K mg base (L2.CX P w) 8 "stretched" ["items", "many"] (spRows K C cB rowS)
  held : Dfn P w K mg base (L2.CX P w) 8 "held" ["items", "many"] (spRows K C cB rowH)
  heldK : ∃ f fd, FnOk P w K mg base (L2.CX P w) 8 f fd ["items", "many"] (spRows K C cB rowH) ∧ mg "held" = some (.ref f) ∧ PySem.W.keepIn K (.ref f) = true ∧ KBn K fd ["items", "many"] 0 ["items", "many"] (fun _ ws => ws) (fun _ zs => zs) ∧ KBn K fd ["items", "many"] 1 ["many"] (fun us ws => us ++ ws) (fun vs zs => vs ++ zs)
theorem PairsV.same {H H' : Hp} {v : V} {ps : List (Int × Int)} (h : PairsV H v ps) (s : Same H H') : PairsV H' v ps := by
  obtain ⟨a, xs, e, ha, p⟩ := h
  exact ⟨a, xs, e, s _ _ ha, Paired.mapP p fun _ _ z => z.same s⟩
theorem paired_all {α β : Type} {F G : α → β → Prop} {l : List α} {m : List β} (p : Paired F l m) (h : ∀ a b, a ∈ l → b ∈ m → F a b → G a b) : Paired G l m := by
  induction p with
  | nil => exact .nil
  | cons x _ ih => exact .cons (h _ _ List.mem_cons_self List.mem_cons_self x) (ih fun a b ha hb => h a b (List.mem_cons_of_mem _ ha) (List.mem_cons_of_mem _ hb))
section
variable {P : Program} {w : World} {K : PySem.W.Frag} {mg : Str → Option Value} {base : Heap} {cB cN C fI : Addr}
theorem scPlain : FnScope ["_law_pen", "_law_items", "_law_many", "_law_given", "_law_rest", "_law_due", "_law_lanes", "_law_item"] ["_law_pen", "_law_items", "_law_many"] (defScope sPlain) := ⟨rfl, rfl, rfl, by decide +kernel, rfl, by decide +kernel, by decide +kernel⟩
theorem ok_plain {f : Addr} {fd : FuncData} (F : Fun K "_law_plain_right" "_law_plain_right" sPlain f fd) (T : TxtR mg) (bt : mg "tuple" = none) (L : LaneD P w K mg base C cB)
    (hS : Dfn P w K mg base CX0 7 "_law_shown" ["_law_pen", "_law_items"] (spShown C)) (hD : Dfn P w K mg base CX0 1 "_law_draw" ["_law_pen", "_law_span"] spDraw) (hDD : Dfn P w K mg base CX0 1 "_law_dealt_due" ["_law_items", "_law_many"] spDueD)
    (hLO : Dfn P w K mg base CX0 3 "_law_lists_of" ["_law_told_here"] (spLO C)) (hPO : Dfn P w K mg base CX0 2 "_law_pairs_of" ["_law_told_here"] (spPOs C)) (hSD : Dfn P w K mg base CX0 1 "_law_stretched_due" ["_law_items", "_law_many"] (spDueR rowS)) (hHD : Dfn P w K mg base CX0 1 "_law_held_due" ["_law_items", "_law_many"] (spDueR rowH))
    (hPr : Dfn P w K mg base CX0 2 "_law_pair" ["_law_item"] (spPair2 C)) :
    FnOk P w K mg base CX0 9 f fd ["_law_pen", "_law_items", "_law_many"] spPlain := by
  obtain ⟨fh, fdh, Gh, gh, kh, bh, bh1⟩ := L.heldK
  refine F.ok scPlain (fun vs H Q E h => ?_) (fun cdv A outer s H vs Q E hr h => ?_)
  · obtain ⟨d, c, l, s, r, cells, n, ts, ps, rfl, _⟩ := h
    rfl
  · obtain ⟨d, c, l, st, r, cells, n, ts, ps, rfl, pen, h0, h1, hcl, hl, pr, all, n2, n60, few, k⟩ := h
    have nd := scPlain.nd
    have hu := hr.units
    refine ⟨_, pss_cons (ps_par3 (i := 3) (j := 4) (l := 5) (by rfl) nd rfl rfl rfl (by decide) (by decide) (by decide) rfl rfl rfl (pa_cons (dc hS hr (by decide) (pa_cons (pv 0) (pa_cons (pv 1) pa_nil))) (pa_cons (dc hD hr (by decide) (pa_cons (pv 0) (pa_cons (pv 2) pa_nil))) (pa_cons (dc hDD hr (by decide) (pa_cons (pv 1) (pa_cons (pv 2) pa_nil))) pa_nil))) (by rfl))
      (pss_cons (ps_set (i := 6) nd rfl (Or.inl rfl) (dcL L.dealt hr (by decide) (pa_cons (pv 3) (pa_cons (pv 2) pa_nil))))
      (pss_cons (ps_if (PW.pt (pw_or (pt_cmpR (op_neD hu) (dc hLO hr (by decide) (pa_cons (pv 6) pa_nil)) (pv 5) (nomark _)) (pw_or1 (pt_cmpR (op_neD hu) (dc hPO hr (by decide) (pa_cons (dcL L.thin hr (by decide) (pa_cons (pe_callTy call_tuple_of (by rfl) bt (by decide +kernel) (pa_cons (pv 3) pa_nil)) (pa_cons (pv 2) (pa_cons (pv 4) pa_nil)))) pa_nil)) (pe_ix ix_list (pv 5) (pv 4) (fun _ _ => rfl)) (nomark _))))) (pss_one (ps_ret pe_bl)) pss_nil)
      (pss_cons (ps_if (PW.pt (pw_or (pt_cmpR (op_neD hu) (dc hPO hr (by decide) (pa_cons (dcL L.woven hr (by decide) (pa_cons (pv 6) pa_nil)) pa_nil)) (pv 1) (nomark _)) (pw_or1 (pt_cmpR (op_neD hu) (dc hPO hr (by decide) (pa_cons (dcL L.woven hr (by decide) (pa_cons (pe_callTy call_tuple_of (by rfl) bt (by decide +kernel) (pa_cons (pv 6) pa_nil)) pa_nil)) pa_nil)) (pv 1) (nomark _))))) (pss_one (ps_ret pe_bl)) pss_nil)
      (pss_cons (ps_if (pt_cmpR (op_neD hu) (dc hPO hr (by decide) (pa_cons (dcL L.str hr (by decide) (pa_cons (pv 3) (pa_cons (pv 2) pa_nil))) pa_nil)) (dc hSD hr (by decide) (pa_cons (pv 1) (pa_cons (pv 2) pa_nil))) (nomark _)) (pss_one (ps_ret pe_bl)) pss_nil)
      (pss_cons (ps_if (pt_cmpR (op_neD hu) (dc hPO hr (by decide) (pa_cons (pe_callN0 (E := E0) Gh hr (by rfl) gh kh bh passL (pk_cons (pv 3) (pk_cons (pv 2) pk_nil))) pa_nil)) (dc hHD hr (by decide) (pa_cons (pv 1) (pa_cons (pv 2) pa_nil))) (nomark _)) (pss_one (ps_ret pe_bl)) pss_nil)
      (pss_one (ps_ret (pe_cmpR (op_eqD hu) (pe_lc (own := [("_law_item", 7)]) (g := gName 7) (tt := tYes) rfl nd (pi_list (pv 3)) (blkOk_by (N := ["_law_pen", "_law_items", "_law_many", "_law_given", "_law_rest", "_law_due", "_law_lanes", "_law_item"]) (sc := defScope sPlain) (by decide +kernel)) (fun _ _ _ _ _ => pg_name (i := 7) nd rfl (Or.inl rfl)) (fun _ _ _ _ _ => pts_nil)
          (fun _ _ _ _ _ => by exact (dc hPr hr (by decide) (pa_cons (pv 7) pa_nil)))) (pv 1) (nomark _))))))))), ?_⟩
    have lts := paired_len pr
    have hdk := pen.dc
    refine seq_to (fun σ' G => ∃ (g due : Addr) (m : Nat) (s' r' : Int) (ws dts : List V), σ' = [some (.ref d), some (.ref l), some (.int n), some (.ref g), some (.int m), some (.ref due), none, none] ∧ m < n ∧ 0 ≤ s' ∧ s' ≤ st + ts.length + 1 ∧ PenAt G d c s' r' cells ∧ SameBut d H G ∧ G l = some (.lst ts) ∧ Paired (PairV G) ts ps ∧ G g = some (.lst ws) ∧ Paired (Sh C G) ws ps ∧ G due = some (.lst dts) ∧ Paired (PairsV G) dts (dealtOf ps n)) (fun kk hK => ?_) ?_
    · refine ⟨_, rfl, _, rfl, d, c, l, st, r, cells, ts, ps, rfl, pen, h0, by omega, hcl, hl, pr, all, fun g ws s1 r1 H1 ng a1 a2 pen1 b1 hg sh1 => ?_⟩
      refine ⟨_, rfl, _, rfl, d, c, s1, r1, n, cells, rfl, pen1, a1, by omega, hcl, by omega, by omega, fun m s2 r2 H2 m0 m1 a3 a4 pen2 b2 => ?_⟩
      have b12 : SameBut d H H2 := b1.tr b2
      have ngd : g ≠ d := (ne_of_none hdk ng).symm
      have nld : l ≠ d := ne_of hl hdk (by intro z; cases z)
      refine ⟨_, rfl, _, rfl, l, n, ts, ps, rfl, b12 _ _ hl nld, n2, n60, Nat.le_trans few (by decide), Paired.mapP pr fun _ _ z => z.but pen b12, fun due dts H3 nd3 s3 hd3 pd => ?_⟩
      obtain ⟨j, rfl⟩ : ∃ j : Nat, m = (j : Int) := ⟨m.toNat, by omega⟩
      refine ⟨_, _, _, rfl, hK _ _ ⟨g, due, j, s2, r2, ws, dts, rfl, by omega, a3, by omega, pen2.to s3, b12.tr (SameBut.by s3), s3 _ _ (b12 _ _ hl nld), Paired.mapP pr fun _ _ z => (z.but pen b12).same s3, s3 _ _ (b2 _ _ hg ngd), Paired.mapP sh1 fun _ _ z => (z.but pen1 b2).same s3, hd3, pd⟩⟩
    rintro σ' G ⟨g, due, m, s', r', ws, dts, rfl, hm, a0, a1, penG, sb, hlG, prG, hg, shw, hdue, pdue⟩
    clear pr hl pen hdk
    have lws := paired_len shw
    have givenG : ∀ {G2 : Hp}, Same G G2 → Given K C G2 (.ref g) ps := fun s2 => ⟨ws, ⟨g, rfl, .inl (SqL.of (s2 _ _ hg))⟩, Nat.le_trans (by omega : ws.length ≤ 100) (by decide), Paired.mapP shw fun _ _ z => z.same s2⟩
    refine seq_to (fun σ' G2 => ∃ (la : Addr) (lns : List V), σ' = [some (.ref d), some (.ref l), some (.int n), some (.ref g), some (.int m), some (.ref due), some (.ref la), none] ∧ Same G G2 ∧ G2 la = some (.lst lns) ∧ Paired (LaneV C G2) lns (dealtOf ps n)) (fun kk hK => ?_) ?_
    · refine ⟨_, rfl, _, rfl, _, _, rfl, .inr ⟨ps, givenG (fun _ _ e => e), .inr ⟨n, rfl, n2, n60, fun la lns G2 nla s2 hla pla => ?_⟩⟩⟩
      exact hK _ _ ⟨la, lns, rfl, s2, hla, pla⟩
    rintro σ' G2 ⟨la, lns, rfl, s2, hla, pla⟩
    have s02 : ∀ {G3 : Hp}, Same G2 G3 → Same G G3 := fun z => s2.trans z
    have few' : ∀ {k : Nat}, k ≤ 6100 → k ≤ sizeLine := fun z => Nat.le_trans z (by decide)
    have tupG : ∀ {G3 : Hp} {tp : Addr}, Same G2 G3 → G3 tp = none → Same G2 (upd G3 tp (.tup ws)) ∧ Given K C (upd G3 tp (.tup ws)) (.ref tp) ps := fun {G3 tp} s3 nt => by
      have s4 : Same G3 (upd G3 tp (.tup ws)) := Same.new (fun _ _ e => e) nt
      exact ⟨s3.trans s4, ws, ⟨tp, rfl, .inr (SqT.of upd_same)⟩, few' (by omega), Paired.mapP shw fun _ _ z => z.same ((s02 s3).trans s4)⟩
    -- what is dealt, what is thinned
    refine seq_to (fun σ' G3 => σ' = [some (.ref d), some (.ref l), some (.int n), some (.ref g), some (.int m), some (.ref due), some (.ref la), none] ∧ Same G2 G3) (fun kk hK => ?_) ?_
    · refine ⟨_, rfl, la, lns, dealtOf ps n, rfl, hla, few' (by rw [paired_len pla, deal_size]; omega), pla, fun qs hq => few' (Nat.le_trans (deal_short qs hq) (by omega)), fun l1 t1 G3 n1 s3 e1 p1 => ?_⟩
      refine ⟨_, rfl, dPss _, dPss _, .lst (SqL.of e1) (dp_Pss p1), .lst (SqL.of (s02 s3 _ _ hdue)) (dp_Pss (Paired.mapP pdue fun _ _ z => z.same (s02 s3))), sh_Pss _, sh_Pss _, _, rfl, ?_⟩
      rw [eq_Pss]
      refine ite2 (fun y => absurd y (by simp)) (fun _ => ?_)
      refine ⟨_, rfl, g, ws, rfl, .inl ⟨SqL.of (s02 s3 _ _ hg), fun tp ntp => ?_⟩⟩
      obtain ⟨s4, gv⟩ := tupG s3 ntp
      refine ⟨_, rfl, _, rfl, _, _, _, rfl, .inr ⟨ps, gv, .inr ⟨n, rfl, n2, n60, .inr ⟨m, rfl, hm, fun lt wt H4 n4 s5 e4 p4 => ?_⟩⟩⟩⟩
      have at_ : (dealtOf ps n)[m]? = some (pickG ps (some (m : Int)) none (some (n : Int))) := by
        unfold dealtOf
        rw [List.getElem?_map, List.getElem?_range hm]
        rfl
      have short := deal_short _ (List.mem_of_getElem? at_)
      refine ⟨lt, wt, _, rfl, e4, few' (by rw [paired_len p4]; omega), p4, fun l5 t5 H5 n5 s6 e5 p5 => ?_⟩
      have s06 := s02 ((s4.trans s5).trans s6)
      obtain ⟨dv, hdv, pv⟩ : ∃ dv, dts[m]? = some dv ∧ PairsV G dv (pickG ps (some (m : Int)) none (some (n : Int))) := by
        have lt : m < dts.length := by rw [paired_len pdue, deal_size]; exact hm
        obtain ⟨b, hb, h⟩ := paired_at pdue (List.getElem?_eq_getElem lt)
        rw [at_] at hb
        cases hb
        exact ⟨_, List.getElem?_eq_getElem lt, h⟩
      refine ⟨_, rfl, _, rfl, due, dts, _, dv, rfl, rfl, SqL.of (s06 _ _ hdue), atI_nat hdv, dPs _, dPs _, .lst (SqL.of e5) (dp_Ps p5), dp_PsV (pv.same s06), sh_Ps _, sh_Ps _, _, rfl, ?_⟩
      rw [eq_Ps]
      refine ite2 (fun y => absurd y (by simp)) (fun _ => ?_)
      exact hK _ _ ⟨rfl, (s4.trans s5).trans s6⟩
    rintro σ' G3 ⟨rfl, s3⟩
    have lanes : ∀ {v : V} {G4 : Hp}, Same G2 G4 → SeqV K G4 v lns → Lanes K C G4 v (dealtOf ps n) := fun {v G4} s4 sq => ⟨lns, sq, few' (by rw [paired_len pla, deal_size]; omega), by
      refine paired_all pla fun lv qs hlv hq z => ?_
      obtain ⟨a, xs, rfl, ha, p⟩ := z
      exact ⟨xs, ⟨a, rfl, .inl (SqL.of (s4 _ _ ha))⟩, few' (by rw [paired_len p]; exact Nat.le_trans (deal_short qs hq) (by omega)), Paired.mapP p fun _ _ y => .inr (y.same s4)⟩⟩
    have wovs : ∀ {v : V} {G4 : Hp} {Q' : VK} {E' : XK}, Same G2 G4 → SeqV K G4 v lns → NewRL C G4 Q' ps → spWov K C cB [v] G4 Q' E' := fun {v G4 Q' E'} s4 sq q => ⟨v, rfl, .inr (.inr ⟨dealtOf ps n, lanes s4 sq, .inr ⟨by rw [deal_size]; exact n2, by rw [deal_size]; exact n60, fun qs hq => Nat.le_trans (deal_short qs hq) (by omega), fun s f mn => by
      rw [wov_deal (by omega) mn]
      exact q⟩⟩)⟩
    -- woven again
    refine seq_to (fun σ' G4 => σ' = [some (.ref d), some (.ref l), some (.int n), some (.ref g), some (.int m), some (.ref due), some (.ref la), none] ∧ Same G2 G4) (fun kk hK => ?_) ?_
    · refine ⟨_, rfl, wovs s3 ⟨la, rfl, .inl (SqL.of (s3 _ _ hla))⟩ fun lt wt H4 n4 s4 e4 p4 => ?_⟩
      refine ⟨lt, wt, _, rfl, e4, few' (by rw [paired_len p4]; omega), p4, fun l5 t5 H5 n5 s5 e5 p5 => ?_⟩
      have z5 := (s3.trans s4).trans s5
      refine ⟨_, rfl, dPs _, dPs _, .lst (SqL.of e5) (dp_Ps p5), .lst (SqL.of (s02 z5 _ _ hlG)) (dp_Ps (Paired.mapP prG fun _ _ y => y.same (s02 z5))), sh_Ps _, sh_Ps _, _, rfl, ?_⟩
      rw [eq_Ps]
      refine ite2 (fun y => absurd y (by simp)) (fun _ => ?_)
      refine ⟨_, rfl, la, lns, rfl, .inl ⟨SqL.of (z5 _ _ hla), fun tp ntp => ?_⟩⟩
      have z6 : Same G2 (upd H5 tp (.tup lns)) := z5.new ntp
      refine wovs z6 ⟨tp, rfl, .inr (SqT.of upd_same)⟩ fun lt wt H7 n7 s7 e7 p7 => ?_
      refine ⟨lt, wt, _, rfl, e7, few' (by rw [paired_len p7]; omega), p7, fun l8 t8 H8 n8 s8 e8 p8 => ?_⟩
      have z8 := (z6.trans s7).trans s8
      refine ⟨_, rfl, dPs _, dPs _, .lst (SqL.of e8) (dp_Ps p8), .lst (SqL.of (s02 z8 _ _ hlG)) (dp_Ps (Paired.mapP prG fun _ _ y => y.same (s02 z8))), sh_Ps _, sh_Ps _, _, rfl, ?_⟩
      rw [eq_Ps]
      refine ite2 (fun y => absurd y (by simp)) (fun _ => ?_)
      exact hK _ _ ⟨rfl, z8⟩
    rintro σ' G4 ⟨rfl, z4⟩
    have lenS : (ps.flatMap fun p => rowS p n).length = ps.length * n := flat_len (fun p => by unfold rowS; rw [List.length_cons, List.length_replicate]; omega) ps
    have lenH : (ps.flatMap fun p => rowH p n).length = ps.length * n := flat_len (fun p => by unfold rowH; rw [List.length_replicate]) ps
    have lenN : ps.length * n ≤ 6000 := Nat.le_trans (Nat.mul_le_mul (show ps.length ≤ 100 by omega) n60) (by decide)
    have rows : ps.length * 60 ≤ sizeLine := few' (by omega)
    have duel : ts.length * 60 + 60 ≤ sizeLine := few' (by omega)
    clear s3 wovs lanes tupG
    -- stretched
    refine seq_to (fun σ' G5 => σ' = [some (.ref d), some (.ref l), some (.int n), some (.ref g), some (.int m), some (.ref due), some (.ref la), none] ∧ Same G2 G5) (fun kk hK => ?_) ?_
    · refine ⟨_, rfl, _, rfl, _, _, rfl, .inr ⟨ps, givenG (s02 z4), rows, .inr ⟨n, rfl, n2, n60, fun lt wt H5 n5 s5 e5 p5 => ?_⟩⟩⟩
      refine ⟨lt, wt, _, rfl, e5, few' (by rw [paired_len p5, lenS]; omega), p5, fun l6 t6 H6 n6 s6 e6 p6 => ?_⟩
      have z6 := (z4.trans s5).trans s6
      refine ⟨_, rfl, _, rfl, l, n, ts, ps, rfl, s02 z6 _ _ hlG, n2, n60, duel, Paired.mapP prG fun _ _ y => y.same (s02 z6), fun l7 t7 H7 n7 s7 e7 p7 => ?_⟩
      have z7 := z6.trans s7
      refine ⟨dPs _, dPs _, .lst (SqL.of (s7 _ _ e6)) (dp_Ps (Paired.mapP p6 fun _ _ y => y.same s7)), .lst (SqL.of e7) (dp_Ps p7), sh_Ps _, sh_Ps _, _, rfl, ?_⟩
      rw [eq_Ps]
      refine ite2 (fun y => absurd y (by simp)) (fun _ => ?_)
      exact hK _ _ ⟨rfl, z7⟩
    rintro σ' G5 ⟨rfl, z5⟩
    clear z4
    -- held
    refine seq_to (fun σ' G6 => σ' = [some (.ref d), some (.ref l), some (.int n), some (.ref g), some (.int m), some (.ref due), some (.ref la), none] ∧ Same G2 G6) (fun kk hK => ?_) ?_
    · refine ⟨_, rfl, _, rfl, rfl, rfl, _, _, rfl, .inr ⟨ps, givenG (s02 z5), rows, .inr ⟨n, rfl, n2, n60, fun lt wt H5 n5 s5 e5 p5 => ?_⟩⟩⟩
      refine ⟨lt, wt, _, rfl, e5, few' (by rw [paired_len p5, lenH]; omega), p5, fun l6 t6 H6 n6 s6 e6 p6 => ?_⟩
      have z6 := (z5.trans s5).trans s6
      refine ⟨_, rfl, _, rfl, l, n, ts, ps, rfl, s02 z6 _ _ hlG, n2, n60, duel, Paired.mapP prG fun _ _ y => y.same (s02 z6), fun l7 t7 H7 n7 s7 e7 p7 => ?_⟩
      have z7 := z6.trans s7
      refine ⟨dPs _, dPs _, .lst (SqL.of (s7 _ _ e6)) (dp_Ps (Paired.mapP p6 fun _ _ y => y.same s7)), .lst (SqL.of e7) (dp_Ps p7), sh_Ps _, sh_Ps _, _, rfl, ?_⟩
      rw [eq_Ps]
      refine ite2 (fun y => absurd y (by simp)) (fun _ => ?_)
      exact hK _ _ ⟨rfl, z7⟩
    rintro σ' G6 ⟨rfl, z6⟩
    have z06 := s02 z6
    dsimp only [tRet, tOp]
    refine lc_mapL (bs := ps) (Rr := fun _ H y p => PairV H y p) (fun R r => ⟨_, rfl, r⟩) (SqL.of (z06 _ _ hg)) (few' (by omega)) lws (fun _ _ _ _ _ h z => h.same z) (fun _ _ _ _ _ _ hD h => h.grow hD) ?_ ?_
    · intro D i x p H7 rs Kc hx hp s7 hD kc
      obtain ⟨p', hp', sh⟩ := paired_at shw hx
      rw [hp] at hp'
      cases hp'
      exact ⟨_, rfl, x, p, rfl, sh.same (z06.trans s7), fun t H8 nt s8 et => kc _ _ s8 ⟨t, rfl, et⟩⟩
    · intro D xs H7 nD s7 hD p7
      have z7 := z06.trans s7
      refine ⟨_, rfl, dPs _, dPs _, .lst (SqL.of hD) (dp_Ps p7), .lst (SqL.of (z7 _ _ hlG)) (dp_Ps (Paired.mapP prG fun _ _ y => y.same z7)), sh_Ps _, sh_Ps _, ?_⟩
      rw [eq_Ps]
      exact k s' r' _ a0 a1 (penG.to z7) (sb.tr (SameBut.by z7))
end
end K03
end
section
set_option maxHeartbeats 4000000
namespace K03
open PySem PySem.Spec PyProof.Rows L2 LamX NdefX L3
abbrev sWovR : Stmt := top 55
def spWovR : Sp := fun vs H Q _ => ∃ (d c : Addr) (s r : Int) (cells : List Int), vs = [.ref d] ∧ PenAt H d c s r cells ∧ 0 ≤ s ∧ s + 2000 ≤ 100000 ∧ cells.length ≤ 63 ∧
  ∀ (s' r' : Int) (H' : Hp), 0 ≤ s' → s' ≤ s + 1000 → PenAt H' d c s' r' cells → SameBut d H H' → Q (.bl true) H'
/-- what stands and is not the pen stays -/
theorem SameBut.keep {d c : Addr} {H H' : Hp} {s r : Int} {cells : List Int} (pe : PenAt H d c s r cells) (e : SameBut d H H') {a : Addr} {o : HO} (h : H a = some o) (n : ∀ x, o ≠ .dK x) : H' a = some o := e _ _ h (ne_of h pe.dc (n _))
theorem PairsN.but {d c D : Addr} {H H' : Hp} {s r : Int} {cells : List Int} {v : V} {ps : List (Int × Int)} (h : PairsN H D v ps) (pe : PenAt H d c s r cells) (e : SameBut d H H') : PairsN H' D v ps := by
  obtain ⟨a, xs, e1, n, ha, p⟩ := h
  exact ⟨a, xs, e1, n, e.keep pe ha (fun _ z => by cases z), Paired.mapP p fun _ _ z => z.but pe e⟩
/-- a shown lane, not the list at D -/
def GivN (C : Addr) (H : Hp) (D : Addr) (v : V) (ps : List (Int × Int)) : Prop := ∃ a ws, v = .ref a ∧ a ≠ D ∧ H a = some (.lst ws) ∧ Paired (Sh C H) ws ps
theorem GivN.but {C d c D : Addr} {H H' : Hp} {s r : Int} {cells : List Int} {v : V} {ps : List (Int × Int)} (h : GivN C H D v ps) (pe : PenAt H d c s r cells) (e : SameBut d H H') : GivN C H' D v ps := by
  obtain ⟨a, xs, e1, n, ha, p⟩ := h
  exact ⟨a, xs, e1, n, e.keep pe ha (fun _ z => by cases z), Paired.mapP p fun _ _ z => z.but pe e⟩
theorem GivN.grow {C D : Addr} {H : Hp} {rs ys : List V} (hD : H D = some (.lst rs)) {v : V} {ps : List (Int × Int)} (h : GivN C H D v ps) : GivN C (upd H D (.lst ys)) D v ps := by
  obtain ⟨a, xs, e1, n, ha, p⟩ := h
  exact ⟨a, xs, e1, n, by rw [upd_ne n]; exact ha, Paired.mapP p fun _ _ z => z.grow hD⟩
theorem GivN.given {K : PySem.W.Frag} {C D : Addr} {H : Hp} {v : V} {ps : List (Int × Int)} (h : GivN C H D v ps) (l : ps.length ≤ sizeLine) : Given K C H v ps := by
  obtain ⟨a, xs, e1, n, ha, p⟩ := h
  exact ⟨xs, ⟨a, e1, .inl (SqL.of ha)⟩, by rw [paired_len p]; exact l, p⟩
theorem max_nat (j : Int) (h : j ≤ 6) : ∃ m : Nat, (if j > 0 then j else 0) = (m : Int) ∧ m ≤ 6 := by
  by_cases c : j > 0
  · exact ⟨j.toNat, by rw [if_pos c]; omega, by omega⟩
  · exact ⟨0, by rw [if_neg c]; rfl, by omega⟩
section
variable {P : Program} {w : World} {K : PySem.W.Frag} {mg : Str → Option Value} {base : Heap} {cB cN C fI : Addr}
theorem scWovR : FnScope ["_law_pen", "_law_lists", "_law_most", "_law_k", "_law_given", "_law_lane", "_law_item"] ["_law_pen"] (defScope sWovR) := ⟨rfl, rfl, rfl, by decide +kernel, rfl, by decide +kernel, by decide +kernel⟩
theorem ok_wovR {f : Addr} {fd : FuncData} (F : Fun K "_law_woven_right" "_law_woven_right" sWovR f fd) (T : TxtR mg) (bm : mg "max" = none) (L : LaneD P w K mg base C cB)
    (hS : Dfn P w K mg base CX0 7 "_law_shown" ["_law_pen", "_law_items"] (spShown C)) (hD : Dfn P w K mg base CX0 1 "_law_draw" ["_law_pen", "_law_span"] spDraw) (hN : Dfn P w K mg base CX0 4 "_law_numbers" ["_law_pen", "_law_many"] spNums)
    (hPO : Dfn P w K mg base CX0 2 "_law_pairs_of" ["_law_told_here"] (spPOs C)) (hWD : Dfn P w K mg base CX0 1 "_law_woven_due" ["_law_lists"] spWovD)
    (hPr : Dfn P w K mg base CX0 2 "_law_pair" ["_law_item"] (spPair2 C)) :
    FnOk P w K mg base CX0 9 f fd ["_law_pen"] spWovR := by
  refine F.ok scWovR (fun vs H Q E h => ?_) (fun cdv A outer s H vs Q E hr h => ?_)
  · obtain ⟨d, c, s, r, cells, rfl, _⟩ := h
    rfl
  · obtain ⟨d, c, st, r, cells, rfl, pen, h0, h1, hcl, k⟩ := h
    have nd := scWovR.nd
    have hu := hr.units
    refine ⟨_, pss_cons (ps_par (i := 1) (j := 2) (by rfl) nd rfl rfl (by decide) rfl rfl (pa_cons (pe_lst pa_nil) (pa_cons (pe_op op_add pe_int (dc hD hr (by decide) (pa_cons (pv 0) (pa_cons pe_int pa_nil)))) pa_nil)) (by rfl))
      (pss_cons (ps_for PassesOwn.never rfl (pi_range1 (by rfl) T.range (pa_cons (pe_op op_add pe_int (dc hD hr (by decide) (pa_cons (pv 0) (pa_cons pe_int pa_nil)))) pa_nil)) (pg_name (i := 3) nd rfl (Or.inl rfl))
        (pss_one (ps_expr (pe_bm PySem.F.plainAttrs_list PySem.F.slot_list_append PySem.F.type_list_append mt_append (pv 1) (pa_cons (dc hN hr (by decide) (pa_cons (pv 0) (pa_cons (pe_callB (call_max2 rfl) (by rfl) bm (by decide +kernel) (pa_cons pe_int (pa_cons (pe_op op_sub (pv 2) (dc hD hr (by decide) (pa_cons (pv 0) (pa_cons pe_int pa_nil)))) pa_nil))) pa_nil))) pa_nil)))))
      (pss_cons (ps_setLc (i := 4) (own := [("_law_lane", 5)]) (g := gName 5) (tt := tYes) rfl nd rfl rfl (sw_true rfl rfl rfl (by decide +kernel)) (pi_list (pv 1)) (blkOk_by (N := ["_law_pen", "_law_lists", "_law_most", "_law_k", "_law_given", "_law_lane", "_law_item"]) (sc := defScope sWovR) (by decide +kernel)) (fun _ _ _ _ _ => pg_name (i := 5) nd rfl (Or.inl rfl)) (fun _ _ _ _ _ => pts_nil)
          (fun _ _ _ _ _ => by exact (dc hS hr (by decide) (pa_cons (pv 0) (pa_cons (pv 5) pa_nil)))))
      (pss_cons (ps_if (pt_cmpR (op_neD hu) (dc hPO hr (by decide) (pa_cons (dcL L.woven hr (by decide) (pa_cons (pv 4) pa_nil)) pa_nil)) (dc hWD hr (by decide) (pa_cons (pv 1) pa_nil)) (nomark _)) (pss_one (ps_ret pe_bl)) pss_nil)
      (pss_one (ps_ret (pe_cmpR (op_eqD hu) (pe_lc (own := [("_law_lane", 5)]) (g := gName 5) (tt := tYes) rfl nd (pi_list (pv 4)) (blkOk_by (N := ["_law_pen", "_law_lists", "_law_most", "_law_k", "_law_given", "_law_lane", "_law_item"]) (sc := defScope sWovR) (by decide +kernel)) (fun _ _ _ _ _ => pg_name (i := 5) nd rfl (Or.inl rfl)) (fun _ _ _ _ _ => pts_nil)
          (fun _ _ _ _ _ => by exact (pe_lc (own := [("_law_item", 6)]) (g := gName 6) (tt := tYes) rfl nd (pi_listK K (pv 5)) (blkOk_by (N := ["_law_pen", "_law_lists", "_law_most", "_law_k", "_law_given", "_law_lane", "_law_item"]) (by rfl)) (fun _ _ _ _ _ => pg_name (i := 6) nd rfl (Or.inl rfl)) (fun _ _ _ _ _ => pts_nil)
            (fun _ _ _ _ _ => by exact (dc hPr hr (by decide) (pa_cons (pv 6) pa_nil)))))) (pv 1) (nomark _))))))), ?_⟩
    have hdk := pen.dc
    refine seq_to (fun σ' G => ∃ (li : Addr) (mo s' r' : Int), σ' = [some (.ref d), some (.ref li), some (.int mo), none, none, none, none] ∧ 1 ≤ mo ∧ mo ≤ 6 ∧ 0 ≤ s' ∧ s' ≤ st + 1 ∧ PenAt G d c s' r' cells ∧ SameBut d H G ∧ H li = none ∧ G li = some (.lst [])) (fun kk hK => ?_) ?_
    · refine ⟨by show 0 ≤ sizeLine; decide, fun li nli => ?_⟩
      have p1 := pen.new (o := .lst []) nli
      have b1 := SameBut.refl.new (d := d) (o := .lst []) nli
      refine ⟨_, rfl, d, c, st, r, 6, cells, rfl, p1, h0, by omega, hcl, by decide, by decide, fun x s1 r1 H1 x0 x1 a0 a1 p2 b2 => ?_⟩
      refine ⟨_, _, rfl, rfl, _, _, rfl, hK _ _ ⟨li, 1 + x, s1, r1, rfl, by omega, by omega, a0, a1, p2, b1.tr b2, nli, b2.keep p1 upd_same fun _ z => by cases z⟩⟩
    rintro σ' G ⟨li, mo, s1, r1, rfl, mo1, mo6, a0, a1, penG, sbG, nli, hli⟩
    have lid : li ≠ d := fun z => by rw [z, hdk] at nli; cases nli
    have lic : li ≠ c := fun z => by rw [z, pen.ls] at nli; cases nli
    refine seq_to (fun σ' G2 => ∃ (ls : List V) (pss : List (List (Int × Int))) (it : Option V) (s' r' : Int), σ' = [some (.ref d), some (.ref li), some (.int mo), it, none, none, none] ∧ 2 ≤ pss.length ∧ pss.length ≤ 5 ∧ (∀ ps ∈ pss, ps.length ≤ 6 ∧ ∀ p ∈ ps, NumD p) ∧ 0 ≤ s' ∧ s' ≤ st + 500 ∧ PenAt G2 d c s' r' cells ∧ SameBut d H G2 ∧ G2 li = some (.lst ls) ∧ Paired (PairsN G2 li) ls pss) (fun kk hK => ?_) ?_
    · refine ⟨_, rfl, d, c, s1, r1, 4, cells, rfl, penG, a0, by omega, hcl, by decide, by decide, fun x s2 r2 H2 x0 x1 a2 a3 p2 b2 => ?_⟩
      obtain ⟨x, rfl⟩ : ∃ j : Nat, x = (j : Int) := ⟨x.toNat, by omega⟩
      refine ⟨_, _, rfl, rfl, ((2 + x : Nat) : Int), by simp, by omega, by omega, ?_⟩
      rw [Int.toNat_natCast]
      refine for_range (lo := 0) (n := 2 + x) (fun i σ G2 => ∃ (ls : List V) (pss : List (List (Int × Int))) (it : Option V) (s' r' : Int), σ = [some (.ref d), some (.ref li), some (.int mo), it, none, none, none] ∧ pss.length = i ∧ (∀ ps ∈ pss, ps.length ≤ 6 ∧ ∀ p ∈ ps, NumD p) ∧ 0 ≤ s' ∧ s' ≤ st + 2 + 80 * i ∧ PenAt G2 d c s' r' cells ∧ SameBut d H G2 ∧ G2 li = some (.lst ls) ∧ Paired (PairsN G2 li) ls pss)
        ⟨[], [], none, s2, r2, rfl, rfl, fun _ h => (List.not_mem_nil h).elim, a2, by omega, p2, sbG.tr b2, b2.keep penG hli (fun _ z => by cases z), .nil⟩ ?_ ?_
      · rintro i σ G2 hi ⟨ls, pss, it, s', r', rfl, lp, sm, c0, c1, p3, sb3, hl3, pr3⟩
        dsimp only [gName]
        have ll := paired_len pr3
        refine ⟨_, rfl, .inl ⟨rfl, _, SqL.of hl3⟩, _, rfl, _, rfl, _, rfl, d, c, s', r', 3, cells, rfl, p3, c0, by omega, hcl, by decide, by decide, fun y s4 r4 H4 y0 y1 c2 c3 p4 b4 => ?_⟩
        obtain ⟨m, em, m6⟩ := max_nat (mo - y) (by omega)
        refine ⟨_, _, rfl, rfl, _, _, rfl, ?_⟩
        rw [em]
        refine ⟨d, c, s4, r4, m, cells, rfl, p4, c2, by omega, by omega, hcl, fun na ts ps s5 r5 H5 nn lps nd5 c4 c5 p5 b5 hna pna => ?_⟩
        have hl4 := b4.keep p3 hl3 (fun _ z => by cases z)
        have hl5 := b5.keep p4 hl4 (fun _ z => by cases z)
        have nali : na ≠ li := fun z => by rw [z, hl4] at nn; cases nn
        refine ⟨li, ls, .ref na, rfl, rfl, hl5, Nat.lt_of_lt_of_le (show ls.length < 6 by omega) (by decide), ?_⟩
        refine ⟨ls ++ [.ref na], pss ++ [ps], _, s5, r5, rfl, by rw [List.length_append, lp]; rfl, fun qs hq => ?_, c4, by omega, ⟨by rw [upd_ne lid.symm]; exact p5.dc, by rw [upd_ne lic.symm]; exact p5.ls⟩, fun b o e n => ?_, upd_same, ?_⟩
        · rcases List.mem_append.mp hq with hq | hq
          · exact sm qs hq
          · cases List.mem_singleton.mp hq
            exact ⟨by omega, nd5⟩
        · rw [upd_ne (ne_of_none e nli)]
          exact b5 _ _ (b4 _ _ (sb3 _ _ e n) n) n
        · exact (Paired.mapP pr3 fun _ _ z => ((z.but p3 b4).but p4 b5).grow hl5).snoc (PairsN.grow hl5 ⟨na, ts, rfl, nali, hna, pna⟩)
      · rintro σ G2 ⟨ls, pss, it, s', r', rfl, lp, sm, c0, c1, p3, sb3, hl3, pr3⟩
        exact hK _ _ ⟨ls, pss, it, s', r', rfl, by omega, by omega, sm, c0, by omega, p3, sb3, hl3, pr3⟩
    rintro σ' G2 ⟨ls, pss, it, s2, r2, rfl, l2, l5, sm, c0, c1, pen2, sb2, hl2, pr2⟩
    have hdk2 : ∀ {b : Addr} {o : HO}, G2 b = some o → (∀ x, o ≠ .dK x) → b ≠ d := fun e n => ne_of e pen2.dc (n _)
    have ll := paired_len pr2
    have few' : ∀ {k : Nat}, k ≤ 6100 → k ≤ sizeLine := fun z => Nat.le_trans z (by decide)
    -- what is shown of each lane
    refine seq_to (fun σ' G3 => ∃ (gi : Addr) (gs : List V) (s' r' : Int), σ' = [some (.ref d), some (.ref li), some (.int mo), it, some (.ref gi), none, none] ∧ 0 ≤ s' ∧ s' ≤ st + 600 ∧ PenAt G3 d c s' r' cells ∧ SameBut d G2 G3 ∧ G3 gi = some (.lst gs) ∧ Paired (GivN C G3 gi) gs pss) (fun kk hK => ?_) ?_
    · dsimp only [tAsg]
      refine ⟨_, rfl, li, rfl, ⟨ls, SqL.of hl2⟩, fun D nD => ?_⟩
      have Dd : D ≠ d := fun z => by rw [z, pen2.dc] at nD; cases nD
      have Dc : D ≠ c := fun z => by rw [z, pen2.ls] at nD; cases nD
      refine lc_list (K := K) (a := li) (xs := ls) (fun i G3 => ∃ (gs : List V) (s' r' : Int), 0 ≤ s' ∧ s' ≤ st + 500 + 10 * i ∧ PenAt G3 d c s' r' cells ∧ SameBut d G2 G3 ∧ G3 D = some (.lst gs) ∧ Paired (GivN C G3 D) gs (pss.take i))
        ⟨[], s2, r2, c0, by omega, pen2.new nD, SameBut.refl.new nD, upd_same, .nil⟩ (fun i G3 _ z => by
          obtain ⟨gs, s', r', _, _, _, sb, _⟩ := z
          exact SqL.of (sb.keep pen2 hl2 (fun _ z => by cases z))) ?_ ?_
      · rintro i x G3 hx ⟨gs, s', r', e0, e1, p3, sb3, hD, pg⟩
        have li' : i < ls.length := (List.getElem?_eq_some_iff.mp hx).1
        obtain ⟨ps, hps, a, ts, rfl, na, ha, pa⟩ := paired_at pr2 hx
        obtain ⟨lp, nds⟩ := sm ps (List.mem_of_getElem? hps)
        have lgs : gs.length = i := by rw [paired_len pg, List.length_take]; omega
        refine ⟨rfl, ?_⟩
        refine yes_if (a := fun H4 => tCall (spShown C) [] E0 (tCons (tVar 0) (tCons (tVar 5) tNil)) _ H4 _) ?_
        refine ⟨_, rfl, _, rfl, d, c, a, s', r', cells, ts, ps, rfl, p3, e0, by rw [paired_len pa]; omega, hcl, sb3.keep pen2 ha (fun _ z => by cases z), Paired.mapP pa fun _ _ z => z.but pen2 sb3, nds, fun o ws s4 r4 H4 no e2 e3 p4 b4 ho po => ?_⟩
        have hD4 := b4.keep p3 hD (fun _ z => by cases z)
        have oD : o ≠ D := fun z => by rw [z, hD] at no; cases no
        have ltl := paired_len pa
        refine ⟨gs, hD4, Nat.lt_of_lt_of_le (show gs.length < 6 by omega) (by decide), gs ++ [.ref o], s4, r4, e2, by omega, ⟨by rw [upd_ne Dd.symm]; exact p4.dc, by rw [upd_ne Dc.symm]; exact p4.ls⟩, fun b u e n => ?_, upd_same, ?_⟩
        · rw [upd_ne (ne_of_none e nD)]
          exact b4 _ _ (sb3 _ _ e n) n
        · rw [take_snoc hps]
          exact (Paired.mapP pg fun _ _ z => (z.but p3 b4).grow hD4).snoc (GivN.grow hD4 ⟨o, ws, rfl, oD, ho, po⟩)
      · rintro G3 ⟨gs, s', r', e0, e1, p3, sb3, hD, pg⟩
        rw [ll, List.take_length] at pg
        exact hK _ _ ⟨D, gs, s', r', rfl, e0, by omega, p3, sb3, hD, pg⟩
    rintro σ' G3 ⟨gi, gs, s3, r3, rfl, c2, c3, pen3, b3, hgi, pgs⟩
    have hl3 := b3.keep pen2 hl2 (fun _ z => by cases z)
    have pr3 : Paired (PairsV G3) ls pss := Paired.mapP pr2 fun _ _ z => (z.but pen2 b3).v
    have lg := paired_len pgs
    have sh6 : ∀ ps ∈ pss, ps.length ≤ sizeLine := fun ps h => few' (Nat.le_trans (sm ps h).1 (by decide))
    -- woven
    refine seq_to (fun σ' G4 => σ' = [some (.ref d), some (.ref li), some (.int mo), it, some (.ref gi), none, none] ∧ Same G3 G4) (fun kk hK => ?_) ?_
    · refine ⟨_, rfl, _, rfl, .inr (.inr ⟨pss, ⟨gs, ⟨gi, rfl, .inl (SqL.of hgi)⟩, few' (by omega), paired_all pgs fun v ps _ hp z => z.given (sh6 ps hp)⟩, .inr ⟨l2, by omega, fun ps h => Nat.le_trans (sm ps h).1 (by decide), fun s0 f0 mn => ?_⟩⟩)⟩
      intro lt wt H5 n5 s5 e5 p5
      have lw : (wov pss (s0 * pss.length + f0)).length ≤ 6100 := by
        unfold wov
        rw [List.length_map, List.length_range]
        obtain ⟨ps, hps, e⟩ := List.mem_map.mp (List.mem_of_getElem? mn.at_)
        have lf := (List.getElem?_eq_some_iff.mp mn.at_).1
        rw [List.length_map] at lf
        have h6 := (sm ps hps).1
        have : s0 * pss.length ≤ 6 * 5 := Nat.mul_le_mul (by omega) l5
        omega
      refine ⟨lt, wt, _, rfl, e5, few' (by rw [paired_len p5]; exact lw), p5, fun l6 t6 H6 n6 s6 e6 p6 => ?_⟩
      have z6 := s5.trans s6
      refine ⟨_, rfl, li, ls, pss, s0, f0, rfl, z6 _ _ hl3, Paired.mapP pr3 fun _ _ y => y.same z6, l2, by omega, fun ps h => Nat.le_trans (sm ps h).1 (by decide), mn, fun l7 t7 H7 n7 s7 e7 p7 => ?_⟩
      refine ⟨dPs _, dPs _, .lst (SqL.of (s7 _ _ e6)) (dp_Ps (Paired.mapP p6 fun _ _ y => y.same s7)), .lst (SqL.of e7) (dp_Ps p7), sh_Ps _, sh_Ps _, _, rfl, ?_⟩
      rw [eq_Ps]
      refine ite2 (fun y => absurd y (by simp)) (fun _ => ?_)
      exact hK _ _ ⟨rfl, z6.trans s7⟩
    rintro σ' G4 ⟨rfl, s4⟩
    dsimp only [tRet, tOp]
    refine lc_mapL (bs := pss) (Rr := fun D H y ps => PairsN H D y ps) (fun R r => ⟨_, rfl, r⟩) (SqL.of (s4 _ _ hgi)) (few' (by omega)) lg (fun _ _ _ _ _ h z => h.same z) (fun _ _ _ _ _ _ hD h => h.grow hD) ?_ ?_
    · intro D i x ps H7 rs Kc hx hp s7 hD kc
      obtain ⟨p', hp', a, ws, rfl, na, ha, pa⟩ := paired_at pgs hx
      rw [hp] at hp'
      cases hp'
      have z7 := s4.trans s7
      refine lc_mapL (bs := ps) (Rr := fun _ H y p => PairV H y p) (fun R r => ⟨_, rfl, r⟩) (SqL.of (z7 _ _ ha)) (by rw [paired_len pa]; exact sh6 ps (List.mem_of_getElem? hp)) (paired_len pa) (fun _ _ _ _ _ h z => h.same z) (fun _ _ _ _ _ _ hD h => h.grow hD) ?_ ?_
      · intro D2 j y q H8 rs2 Kc2 hy hq s8 hD2 kc2
        obtain ⟨q', hq', shq⟩ := paired_at pa hy
        rw [hq] at hq'
        cases hq'
        exact ⟨_, rfl, y, q, rfl, shq.same (z7.trans s8), fun t H9 nt s9 et => kc2 _ _ s9 ⟨t, rfl, et⟩⟩
      · intro D2 xs H8 nD2 s8 hD2 p8
        exact kc _ _ s8 ⟨D2, xs, rfl, fun z => (by rw [z, hD] at nD2; cases nD2), hD2, p8⟩
    · intro D xs H7 nD s7 hD p7
      have z7 := s4.trans s7
      refine ⟨_, rfl, dPss _, dPss _, .lst (SqL.of hD) (dp_Pss (Paired.mapP p7 fun _ _ z => z.v)), .lst (SqL.of (z7 _ _ hl3)) (dp_Pss (Paired.mapP pr3 fun _ _ y => y.same z7)), sh_Pss _, sh_Pss _, ?_⟩
      rw [eq_Pss]
      exact k s3 r3 _ c2 (by omega) (pen3.to z7) ((sb2.tr b3).tr (SameBut.by z7))
end
end K03
end
section
set_option maxHeartbeats 4000000
namespace K03
open PySem PySem.Spec PyProof.Rows L2 LamX NdefX L3 TL
/-- a thing of another kind, as the law has it -/
inductive OddE (H : Hp) : V → Prop
  | non : OddE H .non
  | bl (b : Bool) : OddE H (.bl b)
  | str (z : Str) (s : SeqAt.shaped (.str z) = true) : OddE H (.str z)
  | lst {a : Addr} (ns : List Int) (e : H a = some (.lst (ns.map V.int))) (q : PyData.eqv (.list (ns.map PyData.int)) (.list (ns.map PyData.int)) = true) : OddE H (.ref a)
  | tup {a : Addr} {o : Obj} (ns : List Int) (e : H a = some (.frz o (.tup (ns.map V.int)))) (d : o.dict = none) (q : PyData.eqv (.tuple (ns.map PyData.int)) (.tuple (ns.map PyData.int)) = true) (s : SeqAt.shaped (.tuple (ns.map PyData.int)) = true) : OddE H (.ref a)
  | dic {a : Addr} (e : H a = some (.dK [])) : OddE H (.ref a)
theorem OddE.same {H H' : Hp} {v : V} (h : OddE H v) (s : Same H H') : OddE H' v := by
  cases h with
  | non => exact .non
  | bl b => exact .bl b
  | str z y => exact .str z y
  | lst ns e q => exact .lst ns (s _ _ e) q
  | tup ns e d q z => exact .tup ns (s _ _ e) d q z
  | dic e => exact .dic (s _ _ e)
theorem OddE.odd {K : PySem.W.Frag} {H : Hp} {v : V} (h : OddE H v) : Odd K H v := by
  cases h with
  | non => exact ⟨"NoneType", by decide +kernel, by decide, .base .non, fun _ z => nomatch z⟩
  | bl b => exact ⟨"bool", by decide +kernel, by decide, .base (.bl b), fun _ z => nomatch z⟩
  | str z _ => exact ⟨"str", by decide +kernel, by decide, .base (.str z), fun _ z => nomatch z⟩
  | lst ns e q => exact ⟨"list", by decide +kernel, by decide, .base (.lst e), fun _ z => by cases z; exact .inl ⟨_, e⟩⟩
  | tup ns e d q z => exact ⟨"tuple", by decide +kernel, by decide, .fTuple e, fun _ z => by cases z; exact .inr (.inl ⟨_, _, e, d⟩)⟩
  | dic e => exact ⟨"dict", by decide +kernel, by decide, .base (.dK e), fun _ z => by cases z; exact .inr (.inr ⟨_, e⟩)⟩
theorem OddE.but {H H' : Hp} {v : V} {d : Addr} (h : OddE H v) (e : ∀ b o, H b = some o → (∀ ps, o ≠ .tbl ps) → b ≠ d → H' b = some o) (hd : ∀ a, v = .ref a → a ≠ d) : OddE H' v := by
  cases h with
  | non => exact .non
  | bl b => exact .bl b
  | str z y => exact .str z y
  | lst ns x q => exact .lst ns (e _ _ x (fun _ z => by cases z) (hd _ rfl)) q
  | tup ns x dd q z => exact .tup ns (e _ _ x (fun _ z => by cases z) (hd _ rfl)) dd q z
  | dic x => exact .dic (e _ _ x (fun _ z => by cases z) (hd _ rfl))
end K03
end
section
set_option maxHeartbeats 8000000
namespace K03
open PySem PySem.Spec PyProof.Rows L2 LamX NdefX L3 TL
abbrev sRefR2 : Stmt := top 56
abbrev qRef2 : Str := "_law_refused_right.<locals>.<lambda>"
def spRefR2 (T : List (Addr × Str)) : Sp := fun vs H Q _ => ∃ (d c l : Addr) (s r : Int) (cells : List Int) (n : Nat) (ts : List V) (ps : List (Int × Int)), vs = [.ref d, .ref l, .int n] ∧ PenAt H d c s r cells ∧ 0 ≤ s ∧ s + ts.length + 40 ≤ 100000 ∧ cells.length ≤ 63 ∧ H l = some (.lst ts) ∧ Paired (PairV H) ts ps ∧ (∀ p ∈ ps, NumD p) ∧ 2 ≤ n ∧ n ≤ 60 ∧ ts.length ≤ 100 ∧ Tabs T H ∧ ∀ H', Q (.bl true) H'
/-- a value that stands nowhere -/
inductive Flat : V → Prop
  | int (i : Int) : Flat (.int i)
  | non : Flat .non
  | bl (b : Bool) : Flat (.bl b)
  | str (z : Str) : Flat (.str z)
theorem Flat.isLT {K : PySem.W.Frag} {H : Hp} {v : V} (h : Flat v) : IsLT K H v false := by
  cases h with
  | int i => exact ⟨.type "int", .base (.int i), kitLT (b1 := false) (b2 := false) (by decide +kernel) (by decide +kernel)⟩
  | non => exact ⟨.type "NoneType", .base .non, kitLT (b1 := false) (b2 := false) (by decide +kernel) (by decide +kernel)⟩
  | bl b => exact ⟨.type "bool", .base (.bl b), kitLT (b1 := false) (b2 := false) (by decide +kernel) (by decide +kernel)⟩
  | str z => exact ⟨.type "str", .base (.str z), kitLT (b1 := false) (b2 := false) (by decide +kernel) (by decide +kernel)⟩
theorem Flat.thing {K : PySem.W.Frag} {H : Hp} {v : V} (h : Flat v) : ThingB K H v := by
  cases h with
  | int i => exact ⟨.inl rfl, .type "int", false, .base (.int i), kit_ty (by decide +kernel)⟩
  | non => exact ⟨.inl rfl, .type "NoneType", false, .base .non, kit_ty (by decide +kernel)⟩
  | bl b => exact ⟨.inl rfl, .type "bool", true, .base (.bl b), kit_ty (by decide +kernel)⟩
  | str z => exact ⟨.inl rfl, .type "str", false, .base (.str z), kit_ty (by decide +kernel)⟩
theorem Flat.off {K : PySem.W.Frag} {H : Hp} {v : V} {lo hi : Int} (h : Flat v) (n : ∀ i, v = .int i → ¬ (lo ≤ i ∧ i ≤ hi)) : Off K H v lo hi := by
  cases h with
  | int i => exact .inr ⟨i, rfl, n i rfl⟩
  | non => exact .inl ⟨.type "NoneType", false, false, .base .non, kit_ty (by decide +kernel), kit_ty (by decide +kernel), rfl⟩
  | bl b => exact .inl ⟨.type "bool", true, true, .base (.bl b), kit_ty (by decide +kernel), kit_ty (by decide +kernel), rfl⟩
  | str z => exact .inl ⟨.type "str", false, false, .base (.str z), kit_ty (by decide +kernel), kit_ty (by decide +kernel), rfl⟩
theorem OddE.ext {H H' : Hp} {v : V} (h : OddE H v) (x : ExtN H H') : OddE H' v := by
  cases h with
  | non => exact .non
  | bl b => exact .bl b
  | str z y => exact .str z y
  | lst ns e q => exact .lst ns (x _ _ e (fun _ z => by cases z)) q
  | tup ns e d q z => exact .tup ns (x _ _ e (fun _ z => by cases z)) d q z
  | dic e => exact .dic (x _ _ e (fun _ z => by cases z))
theorem OddE.thing {K : PySem.W.Frag} {H : Hp} {v : V} (h : OddE H v) : ThingB K H v := by
  cases h with
  | non => exact Flat.non.thing
  | bl b => exact (Flat.bl b).thing
  | str z y => exact (Flat.str z).thing
  | lst ns e q => exact ⟨.inr ⟨_, rfl⟩, .type "list", false, .base (.lst e), kit_ty (by decide +kernel)⟩
  | tup ns e d q z => exact ⟨.inr ⟨_, rfl⟩, .type "tuple", false, .fTuple e, kit_ty (by decide +kernel)⟩
  | dic e => exact ⟨.inr ⟨_, rfl⟩, .type "dict", false, .base (.dK e), kit_ty (by decide +kernel)⟩
theorem Sh.ext {C : Addr} {H H' : Hp} {v : V} {p : Int × Int} (h : Sh C H v p) (x : ExtN H H') : Sh C H' v p := by
  rcases h with h | ⟨a, dx, e1, ha⟩
  · exact .inl h
  · exact .inr ⟨a, dx, e1, x _ _ ha (fun _ z => by cases z)⟩
theorem ExtN.by {H H' : Hp} (s : Same H H') : ExtN H H' := fun b o e _ => s b o e
theorem ExtN.tr {H H1 H2 : Hp} (a : ExtN H H1) (b : ExtN H1 H2) : ExtN H H2 := fun c o e n => b c o (a c o e n) n
/-- a lambda that raises, whatever stands beside what G has -/
def DeedN (X : Cx) (σ : L2.St) (k : Nat) (cB : Addr) (G H : Hp) (f : Addr) (v : V) : Prop := ∃ (params : Arguments) (body : Expr) (scope : Scope) (t : XK → TE) (c' : Addr), LamS X.env.scope scope ∧
  (∀ (q : Str) (cl : List (Str × Addr)) (pm cv ctv : Value), bindArgs (PySem.W.kla_fn "<lambda>" q params body scope cl pm cv ctv) ⟨[], []⟩ = pure []) ∧
  (∀ (A : Around) (outer : List Env) (s : Shared) (H : Hp) (E : XK) (f c' : Addr), Room k (A.deeper (lamEnv X scope s.heap.objs.size f c')) → PE (lamCx X A outer s H E scope f c') body (t E)) ∧
  H f = some (LamO f (lwOf X params body scope) c') ∧ H c' = some (CodeO c' (X.env.qual ++ "<lambda>")) ∧ ∀ H', ExtN G H' → ∀ E' Q', Bad cB v H' E' → t E' σ H' Q'
theorem DeedN.on {X : Cx} {σ : L2.St} {k : Nat} {cB : Addr} {G H H' : Hp} {f : Addr} {v : V} (h : DeedN X σ k cB G H f v) (x : ∀ b o, H b = some o → (∀ ps, o ≠ .tbl ps) → (∀ ys, o ≠ .lst ys) → H' b = some o) : DeedN X σ k cB G H' f v := by
  obtain ⟨p, b, sc, t, c', h1, h2, h3, h4, h5, h6⟩ := h
  exact ⟨p, b, sc, t, c', h1, h2, h3, x _ _ h4 lamO_ne (fun _ z => by unfold LamO at z; cases z), x _ _ h5 codeO_ne (fun _ z => by unfold CodeO at z; cases z), h6⟩
theorem DeedN.at {X : Cx} {σ : L2.St} {k : Nat} {cB cN : Addr} {G H : Hp} {f : Addr} {v : V} (h : DeedN X σ k cB G H f v) (e : ExtN G H) : DeedAt X σ k cB cN H f (some v) := by
  obtain ⟨p, b, sc, t, c', h1, h2, h3, h4, h5, h6⟩ := h
  exact ⟨p, b, sc, t, c', h1, h2, h3, h4, h5, fun H2 s2 => h6 H2 (ExtN.tr e (ExtN.by s2))⟩
theorem DeedN.mk {X : Cx} {σ : L2.St} {k : Nat} {cB : Addr} {G H : Hp} {f c' : Addr} {v : V} {params : Arguments} {body : Expr} {scope : Scope} {t : XK → TE} (L : LamS X.env.scope scope) (hb : ∀ (q : Str) (cl : List (Str × Addr)) (pm cv ctv : Value), bindArgs (PySem.W.kla_fn "<lambda>" q params body scope cl pm cv ctv) ⟨[], []⟩ = pure [])
    (hbody : ∀ (A : Around) (outer : List Env) (s : Shared) (H : Hp) (E : XK) (f c' : Addr), Room k (A.deeper (lamEnv X scope s.heap.objs.size f c')) → PE (lamCx X A outer s H E scope f c') body (t E))
    (hf : H f = some (LamO f (lwOf X params body scope) c')) (hc : H c' = some (CodeO c' (X.env.qual ++ "<lambda>"))) (ht : ∀ H', ExtN G H' → ∀ E' Q', Bad cB v H' E' → t E' σ H' Q') : DeedN X σ k cB G H f v := ⟨params, body, scope, t, c', L, hb, hbody, hf, hc, ht⟩
/-- what a row tells of its value -/
def ThingK (H : Hp) (v : V) : Prop := Flat v ∨ OddE H v ∨ ∃ a ys, v = .ref a ∧ H a = some (.lst ys)
theorem ThingK.ext {H H' : Hp} {v : V} (h : ThingK H v) (x : ExtN H H') : ThingK H' v := by
  rcases h with h | h | ⟨a, ys, e, ha⟩
  · exact .inl h
  · exact .inr (.inl (h.ext x))
  · exact .inr (.inr ⟨a, ys, e, x _ _ ha (fun _ z => by cases z)⟩)
theorem ThingK.thing {K : PySem.W.Frag} {H : Hp} {v : V} (h : ThingK H v) : ThingB K H v := by
  rcases h with h | h | ⟨a, ys, e, ha⟩
  · exact h.thing
  · exact h.thing
  · subst e
    exact ⟨.inr ⟨_, rfl⟩, .type "list", false, .base (.lst ha), kit_ty (by decide +kernel)⟩
/-- the rows so far -/
def RowOk (X : Cx) (σ : L2.St) (k : Nat) (cB : Addr) (G0 G : Hp) (x : V) : Prop := ∃ t f v, x = .ref t ∧ G t = some (.tup [.ref f, v]) ∧ DeedN X σ k cB G0 G f v ∧ ThingK G0 v
def RowsAt (X : Cx) (σ : L2.St) (k : Nat) (cB : Addr) (G0 G : Hp) (ri : Addr) (m : Nat) : Prop := ExtN G0 G ∧ ∃ rs : List V, G ri = some (.lst rs) ∧ rs.length ≤ m ∧ ∀ x ∈ rs, RowOk X σ k cB G0 G x
theorem RowOk.on {X : Cx} {σ : L2.St} {k : Nat} {cB : Addr} {G0 G H' : Hp} {x : V} (h : RowOk X σ k cB G0 G x) (e : ∀ b o, G b = some o → (∀ ps, o ≠ .tbl ps) → (∀ ys, o ≠ .lst ys) → H' b = some o) : RowOk X σ k cB G0 H' x := by
  obtain ⟨t, f, v, e1, ht, hd, hv⟩ := h
  exact ⟨t, f, v, e1, e _ _ ht (fun _ z => by cases z) (fun _ z => by cases z), hd.on e, hv⟩
/-- one row more -/
theorem RowsAt.add {X : Cx} {σ : L2.St} {k : Nat} {cB : Addr} {G0 G G1 : Hp} {ri t f : Addr} {v : V} {m : Nat} {rs : List V} (hri : G0 ri = none) (e0 : ExtN G0 G) (hr : G ri = some (.lst rs)) (hl : rs.length ≤ m) (hx : ∀ x ∈ rs, RowOk X σ k cB G0 G x)
    (e : ExtN G G1) (nt : G1 t = none) (dd : DeedN X σ k cB G0 G1 f v) (th : ThingK G0 v) : (upd G1 t (.tup [.ref f, v])) ri = some (.lst rs) ∧ RowsAt X σ k cB G0 (upd (upd G1 t (.tup [.ref f, v])) ri (.lst (rs ++ [.ref t]))) ri (m + 1) := by
  have s1 : Same G1 (upd G1 t (.tup [.ref f, v])) := Same.new (fun _ _ e => e) nt
  have hr1 : G1 ri = some (.lst rs) := e _ _ hr (fun _ z => by cases z)
  have hr2 := s1 _ _ hr1
  have tri : t ≠ ri := fun z => by rw [z, hr1] at nt; cases nt
  have go : ∀ {H2 : Hp}, H2 ri = some (.lst rs) → ∀ b o, H2 b = some o → (∀ ys, o ≠ .lst ys) → (upd H2 ri (.lst (rs ++ [.ref t]))) b = some o := fun h2 b o hb n => by
    have : b ≠ ri := fun z => by
      rw [z, h2] at hb
      exact n _ (Option.some.inj hb).symm
    rw [upd_ne this]
    exact hb
  refine ⟨hr2, fun b o hb n => ?_, rs ++ [.ref t], upd_same, by rw [List.length_append, List.length_singleton]; omega, fun x hm => ?_⟩
  · rw [upd_ne (ne_of_none hb hri)]
    exact s1 _ _ (e _ _ (e0 _ _ hb n) n)
  · rcases List.mem_append.mp hm with hm | hm
    · exact (hx x hm).on fun b o hb n1 n2 => go hr2 b o (s1 _ _ (e _ _ hb n1)) n2
    · cases List.mem_singleton.mp hm
      exact ⟨t, f, v, rfl, go hr2 _ _ upd_same (fun _ z => by cases z), dd.on fun b o hb n1 n2 => go hr2 b o (s1 _ _ hb) n2, th⟩
/-- what the rows speak of -/
structure FactR (C : Addr) (H : Hp) (ps : List (Int × Int)) (gi wi ai : Addr) (odd : V) (ws : List V) (m : Nat) : Prop where
  g : H gi = some (.lst ws)
  sh : Paired (Sh C H) ws ps
  od : OddE H odd
  w : H wi = some (.lst (ws.take m ++ odd :: (ws.drop m ++ [.non])))
  a : H ai = some (.lst [.ref gi])
theorem FactR.ext {C : Addr} {H H' : Hp} {ps : List (Int × Int)} {gi wi ai : Addr} {odd : V} {ws : List V} {m : Nat} (F : FactR C H ps gi wi ai odd ws m) (x : ExtN H H') : FactR C H' ps gi wi ai odd ws m :=
  ⟨x _ _ F.g (fun _ z => by cases z), Paired.mapP F.sh fun _ _ z => z.ext x, F.od.ext x, x _ _ F.w (fun _ z => by cases z), x _ _ F.a (fun _ z => by cases z)⟩
theorem paired_take {α β : Type} {F : α → β → Prop} {l : List α} {m : List β} (p : Paired F l m) : ∀ n, Paired F (l.take n) (m.take n) := by
  induction p with
  | nil => intro n; rw [List.take_nil, List.take_nil]; exact .nil
  | cons a _ ih =>
    intro n
    cases n with
    | zero => exact .nil
    | succ n => exact .cons a (ih n)
theorem paired_drop {α β : Type} {F : α → β → Prop} {l : List α} {m : List β} (p : Paired F l m) : ∀ n, Paired F (l.drop n) (m.drop n) := by
  induction p with
  | nil => intro n; rw [List.drop_nil, List.drop_nil]; exact .nil
  | cons a r ih =>
    intro n
    cases n with
    | zero => exact .cons a r
    | succ n => exact ih n
section
variable {K : PySem.W.Frag} {C : Addr} {H : Hp} {ps : List (Int × Int)} {gi wi ai : Addr} {odd : V} {ws : List V} {m : Nat}
theorem FactR.given (F : FactR C H ps gi wi ai odd ws m) (l : ps.length ≤ 100) : Given K C H (.ref gi) ps := ⟨ws, ⟨gi, rfl, .inl (SqL.of F.g)⟩, by rw [paired_len F.sh]; exact Nat.le_trans l (by decide), F.sh⟩
theorem FactR.flawed (F : FactR C H ps gi wi ai odd ws m) (l : ps.length ≤ 100) : Flawed K C H (.ref wi) odd := .inr ⟨ws.take m, ps.take m, ws.drop m ++ [.non], ⟨wi, rfl, .inl (SqL.of F.w)⟩, by
  rw [List.length_take, paired_len F.sh]
  exact Nat.le_trans (show min m ps.length ≤ 100 by omega) (by decide), paired_take F.sh m, F.od.odd⟩
theorem FactR.badLane (F : FactR C H ps gi wi ai odd ws m) (l : ps.length ≤ 100) : BadLane K C H (.ref wi) := by
  refine .inr ⟨(ps.take m).map (fun _ => true) ++ false :: ((ps.drop m).map (fun _ => true) ++ [false]), ⟨_, ⟨wi, rfl, .inl (SqL.of F.w)⟩, ?_, ?_⟩, by simp⟩
  · have := paired_len F.sh
    rw [List.length_append, List.length_cons, List.length_append, List.length_take, List.length_drop, List.length_singleton]
    exact Nat.le_trans (show _ ≤ 300 by omega) (by decide)
  · have all : ∀ {xs : List V} {qs : List (Int × Int)}, Paired (Sh C H) xs qs → Paired (Kind K C H) xs (qs.map fun _ => true) := by
      intro xs qs p
      induction p with
      | nil => exact .nil
      | cons a _ ih => exact .cons (.inl ⟨rfl, _, a⟩) ih
    exact paired_app (all (paired_take F.sh m)) (.cons (.inr ⟨rfl, F.od.odd⟩) (paired_app (all (paired_drop F.sh m)) (.cons (.inr ⟨rfl, OddE.non.odd⟩) .nil)))
end
theorem OddE.kind {K : PySem.W.Frag} {H : Hp} {v : V} (h : OddE H v) : ∃ b, ∀ H', ExtN H H' → IsLT K H' v b := by
  cases h with
  | non => exact ⟨_, fun _ _ => Flat.non.isLT⟩
  | bl b => exact ⟨_, fun _ _ => (Flat.bl b).isLT⟩
  | str z y => exact ⟨_, fun _ _ => (Flat.str z).isLT⟩
  | lst ns e q => exact ⟨true, fun H' x => ⟨.type "list", .base (.lst (x _ _ e (fun _ z => by cases z))), kitLT (b1 := true) (b2 := false) (by decide +kernel) (by decide +kernel)⟩⟩
  | tup ns e d q z => exact ⟨true, fun H' x => ⟨.type "tuple", .fTuple (x _ _ e (fun _ z => by cases z)), kitLT (b1 := false) (b2 := true) (by decide +kernel) (by decide +kernel)⟩⟩
  | dic e => exact ⟨false, fun H' x => ⟨.type "dict", .base (.dK (x _ _ e (fun _ z => by cases z))), kitLT (b1 := false) (b2 := false) (by decide +kernel) (by decide +kernel)⟩⟩
theorem tabs_lst {T : List (Addr × Str)} {H : Hp} {d : Addr} {xs ys : List V} (t : Tabs T H) (hd : H d = some (.lst xs)) : Tabs T (upd H d (.lst ys)) := fun p hp => by
  obtain ⟨ps, h1, h2, h3⟩ := t p hp
  have nd : ∀ {b : Addr} {o : HO}, H b = some o → (∀ zs, o ≠ .lst zs) → b ≠ d := fun {b o} hb n z => by
    rw [z, hd] at hb
    exact n _ (Option.some.inj hb).symm
  refine ⟨ps, by rw [upd_ne (nd h1 fun _ z => by cases z)]; exact h1, h2, fun pos cv hc => ?_⟩
  obtain ⟨c, e1, e2⟩ := h3 pos cv hc
  exact ⟨c, e1, by rw [upd_ne (nd e2 fun _ z => by unfold CodeO at z; cases z)]; exact e2⟩
section
variable {P : Program} {w : World} {K : PySem.W.Frag} {mg : Str → Option Value} {base : Heap} {cB cN C fI fF fR cc PP : Addr} {fdF fdR : FuncData} {T : List (Addr × Str)}
theorem scRefR2 : FnScope ["_law_pen", "_law_items", "_law_many", "_law_given", "_law_odd", "_law_bad", "_law_out", "_law_at", "_law_wrong", "_law_alone", "_law_rows", "_law_deed", "_law_value"] ["_law_pen", "_law_items", "_law_many"] (defScope sRefR2) := ⟨rfl, rfl, rfl, by decide +kernel, rfl, by decide +kernel, by decide +kernel⟩
theorem ok_refR2 {f : Addr} {fd : FuncData} (F : Fun K "_law_refused_right" "_law_refused_right" sRefR2 f fd) (hcode : fd.code = .ref cc) (B : TxtR mg) (bt : mg "tuple" = none) (TB : TabB base mg cc PP) (hm : (PP, qRef2) ∈ T) (hu : ∀ p ∈ T, p.1 = PP → p.2 = qRef2)
    (L : LaneD P w K mg base C cB) (ER : ErrR P w K mg base cB cN) (MR : PySem.W.exmOne K (.ref cB) (.ref cB) = some true)
    (FF : Fun K "_law_fault" "_law_fault" sFault2 fF fdF) (gF : mg "_law_fault" = some (.ref fF)) (bF : L2.Binds K fdF ["_law_deed"] [])
    (FR : Fun K "_law_is_refused" "_law_is_refused" sIsRef fR fdR) (gR : mg "_law_is_refused" = some (.ref fR)) (bR : L2.Binds K fdR ["_law_deed", "_law_value"] [])
    (hS : Dfn P w K mg base CX0 7 "_law_shown" ["_law_pen", "_law_items"] (spShown C)) (hD : Dfn P w K mg base CX0 1 "_law_draw" ["_law_pen", "_law_span"] spDraw) (hPk : Dfn P w K mg base CX0 2 "_law_pick" ["_law_pen", "_law_some"] spPick) :
    FnOk P w K mg base CX0 12 f fd ["_law_pen", "_law_items", "_law_many"] (spRefR2 T) := by
  obtain ⟨fh, fdh, Gh, gh, kh, bh, bh1⟩ := L.heldK
  refine okC F hcode scRefR2 (fun vs H Q E h => ?_) (fun A outer s H vs Q E hr h => ?_)
  · obtain ⟨d, c, l, s, r, cells, n, ts, ps, rfl, _⟩ := h
    rfl
  · obtain ⟨d, c, l, st, r, cells, n, ts, ps, rfl, pen, h0, h1, hcl, hl, pr, all, n2, n60, few, hT, k⟩ := h
    have nd := scRefR2.nd
    have GF := fun σ => ok_fault2 (X := (cxOf CX0 P w K mg base ["_law_pen", "_law_items", "_law_many", "_law_given", "_law_odd", "_law_bad", "_law_out", "_law_at", "_law_wrong", "_law_alone", "_law_rows", "_law_deed", "_law_value"] "_law_refused_right" (defScope sRefR2) f (.ref cc) A outer s H E)) (σ := σ) (k := 8) FF bF ER MR rfl rfl rfl rfl rfl
    have GR := fun σ => ok_isRef (X := (cxOf CX0 P w K mg base ["_law_pen", "_law_items", "_law_many", "_law_given", "_law_odd", "_law_bad", "_law_out", "_law_at", "_law_wrong", "_law_alone", "_law_rows", "_law_deed", "_law_value"] "_law_refused_right" (defScope sRefR2) f (.ref cc) A outer s H E)) (cB := cB) (cN := cN) (σ := σ) (k := 8) FR bR (by decide) B (GF σ) gF FF.kp rfl rfl rfl rfl rfl
    refine ⟨_, pss_cons (ps_asg (pe_tup (pa_cons (dc hS hr (by decide) (pa_cons (pv 0) (pa_cons (pv 1) pa_nil))) (pa_cons (dc hPk hr (by decide) (pa_cons (pv 0) (pa_cons (pe_lst (pa_cons pe_non (pa_cons pe_bl (pa_cons pe_str (pa_cons (pe_tupF (pa_cons pe_int (pa_cons pe_int pa_nil))) (pa_cons (pe_lst (pa_cons pe_int pa_nil)) (pa_cons pe_bl pa_nil))))))) pa_nil))) pa_nil))) (pg_tup (by rfl) (pgs_cons (pg_name (i := 3) nd rfl (Or.inr rfl)) (pgs_cons (pg_name (i := 4) nd rfl (Or.inr rfl)) pgs_nil))))
      (pss_cons (ps_set (i := 5) nd rfl (Or.inr rfl) (dc hPk hr (by decide) (pa_cons (pv 0) (pa_cons (pe_lst (pa_cons pe_int (pa_cons pe_int (pa_cons (pe_un un_neg pe_int) (pa_cons pe_int (pa_cons pe_bl (pa_cons pe_non (pa_cons pe_str (pa_cons (pe_op op_pow pe_int pe_int) pa_nil))))))))) pa_nil))))
      (pss_cons (ps_set (i := 6) nd rfl (Or.inr rfl) (dc hPk hr (by decide) (pa_cons (pv 0) (pa_cons (pe_lst (pa_cons (pe_un un_neg pe_int) (pa_cons (pv 2) (pa_cons pe_bl (pa_cons pe_non (pa_cons pe_str (pa_cons (pe_op op_pow pe_int pe_int) pa_nil))))))) pa_nil))))
      (pss_cons (ps_set (i := 7) nd rfl (Or.inl rfl) (dc hD hr (by decide) (pa_cons (pv 0) (pa_cons (pe_op op_add (pe_callB call_len_seq (by rfl) B.len PySem.boot_len (pa_cons (pv 3) pa_nil)) pe_int) pa_nil))))
      (pss_cons (ps_asg (pe_tup (pa_cons (pe_op op_cat (pe_op op_cat (pe_op op_cat (pe_slice sl_list (pv 3) po_none (po_some (pv 7))) (pe_lst (pa_cons (pv 4) pa_nil))) (pe_slice sl_list (pv 3) (po_some (pv 7)) po_none)) (pe_lst (pa_cons pe_non pa_nil))) (pa_cons (pe_lst (pa_cons (pv 3) pa_nil)) pa_nil))) (pg_tup (by rfl) (pgs_cons (pg_name (i := 8) nd rfl (Or.inr rfl)) (pgs_cons (pg_name (i := 9) nd rfl (Or.inr rfl)) pgs_nil))))
      (pss_cons (ps_set (i := 10) nd rfl (Or.inl rfl) (pe_lst (pa_cons (pe_tup (pa_cons (pe_lam (T := T) TB rfl hm hu (lamS_by (sc := defScope sRefR2) (by decide +kernel))) (pa_cons (pv 4) pa_nil))) pa_nil)))
      (pss_cons (ps_expr (pe_bm PySem.F.plainAttrs_list PySem.F.slot_list_append PySem.F.type_list_append mt_append (pv 10) (pa_cons (pe_tup (pa_cons (pe_lam (T := T) TB rfl hm hu (lamS_by (sc := defScope sRefR2) (by decide +kernel))) (pa_cons (pv 5) pa_nil))) pa_nil)))
      (pss_cons (ps_expr (pe_bm PySem.F.plainAttrs_list PySem.F.slot_list_append PySem.F.type_list_append mt_append (pv 10) (pa_cons (pe_tup (pa_cons (pe_lam (T := T) TB rfl hm hu (lamS_by (sc := defScope sRefR2) (by decide +kernel))) (pa_cons (pv 6) pa_nil))) pa_nil)))
      (pss_cons (ps_expr (pe_bm PySem.F.plainAttrs_list PySem.F.slot_list_append PySem.F.type_list_append mt_append (pv 10) (pa_cons (pe_tup (pa_cons (pe_lam (T := T) TB rfl hm hu (lamS_by (sc := defScope sRefR2) (by decide +kernel))) (pa_cons (pv 5) pa_nil))) pa_nil)))
      (pss_cons (ps_expr (pe_bm PySem.F.plainAttrs_list PySem.F.slot_list_append PySem.F.type_list_append mt_append (pv 10) (pa_cons (pe_tup (pa_cons (pe_lam (T := T) TB rfl hm hu (lamS_by (sc := defScope sRefR2) (by decide +kernel))) (pa_cons (pv 5) pa_nil))) pa_nil)))
      (pss_cons (ps_expr (pe_bm PySem.F.plainAttrs_list PySem.F.slot_list_append PySem.F.type_list_append mt_append (pv 10) (pa_cons (pe_tup (pa_cons (pe_lam (T := T) TB rfl hm hu (lamS_by (sc := defScope sRefR2) (by decide +kernel))) (pa_cons (pv 4) pa_nil))) pa_nil)))
      (pss_cons (ps_expr (pe_bm PySem.F.plainAttrs_list PySem.F.slot_list_append PySem.F.type_list_append mt_append (pv 10) (pa_cons (pe_tup (pa_cons (pe_lam (T := T) TB rfl hm hu (lamS_by (sc := defScope sRefR2) (by decide +kernel))) (pa_cons (pv 5) pa_nil))) pa_nil)))
      (pss_cons (ps_expr (pe_bm PySem.F.plainAttrs_list PySem.F.slot_list_append PySem.F.type_list_append mt_append (pv 10) (pa_cons (pe_tup (pa_cons (pe_lam (T := T) TB rfl hm hu (lamS_by (sc := defScope sRefR2) (by decide +kernel))) (pa_cons (pv 8) pa_nil))) pa_nil)))
      (pss_cons (ps_expr (pe_bm PySem.F.plainAttrs_list PySem.F.slot_list_append PySem.F.type_list_append mt_append (pv 10) (pa_cons (pe_tup (pa_cons (pe_lam (T := T) TB rfl hm hu (lamS_by (sc := defScope sRefR2) (by decide +kernel))) (pa_cons (pv 9) pa_nil))) pa_nil)))
      (pss_cons (ps_expr (pe_bm PySem.F.plainAttrs_list PySem.F.slot_list_append PySem.F.type_list_append mt_append (pv 10) (pa_cons (pe_tup (pa_cons (pe_lam (T := T) TB rfl hm hu (lamS_by (sc := defScope sRefR2) (by decide +kernel))) (pa_cons (pv 5) pa_nil))) pa_nil)))
      (pss_cons (ps_if (pt_not (pt_val (pe_callB call_isiT (by rfl) B.isi (by decide +kernel) (pa_cons (pv 4) (pa_cons (pe_tup (pa_cons (pe_bltn (v := .ty "list") (u := .type "list") (by rfl) B.list (by decide +kernel) rfl) (pa_cons (pe_bltn (v := .ty "tuple") (u := .type "tuple") (by rfl) bt (by decide +kernel) rfl) pa_nil))) pa_nil))))) (pss_cons (ps_expr (pe_bm PySem.F.plainAttrs_list PySem.F.slot_list_append PySem.F.type_list_append mt_append (pv 10) (pa_cons (pe_tup (pa_cons (pe_lam (T := T) TB rfl hm hu (lamS_by (sc := defScope sRefR2) (by decide +kernel))) (pa_cons (pv 4) pa_nil))) pa_nil))) (pss_one (ps_expr (pe_bm PySem.F.plainAttrs_list PySem.F.slot_list_append PySem.F.type_list_append mt_append (pv 10) (pa_cons (pe_tup (pa_cons (pe_lam (T := T) TB rfl hm hu (lamS_by (sc := defScope sRefR2) (by decide +kernel))) (pa_cons (pv 4) pa_nil))) pa_nil))))) pss_nil)
      (pss_one (ps_ret (pe_callB (cr_all rfl) (by rfl) B.all (by decide +kernel) (pa_cons (pe_lcS (own := [("_law_deed", 11), ("_law_value", 12)]) (g := gTup K 2 (gCons (gName 11) (gCons (gName 12) gNil))) (tt := tYes) rfl nd (pi_list (pv 10)) (blkOk_by (N := ["_law_pen", "_law_items", "_law_many", "_law_given", "_law_odd", "_law_bad", "_law_out", "_law_at", "_law_wrong", "_law_alone", "_law_rows", "_law_deed", "_law_value"]) (sc := defScope sRefR2) (by decide +kernel)) (fun _ _ _ _ _ => pg_tup (by rfl) (pgs_cons (pg_name (i := 11) nd rfl (Or.inl rfl)) (pgs_cons (pg_name (i := 12) nd rfl (Or.inl rfl)) pgs_nil))) (fun _ _ _ _ _ => pts_nil) (fun pins σ s H cl fp I hc => by exact (pe_callRd (E := fun _ => E0) (GR σ) hr (by rfl) gR FR.kp (fun pins' s' σ' H' J' => Rd.block (pn := []) (xe := fun _ _ => False) I hc J') (fun σ2 pins2 H2 s2 e2 s3 I2 c2 => pass0 pins2 σ2 H2 s2 e2 s3 I2 c2) (pa_cons (pv 11) (pa_cons (pv 12) pa_nil))))) pa_nil))))))))))))))))))), ?_⟩
    have hdk := pen.dc
    have lts := paired_len pr
    have l100 : ps.length ≤ 100 := by omega
    have rows60 : ps.length * 60 ≤ sizeLine := Nat.le_trans (show ps.length * 60 ≤ 6000 by omega) (by decide)
    -- what is given, and a thing of another kind
    refine seq_to (fun σ' G => ∃ (gi : Addr) (odd : V) (ws : List V) (s' r' : Int), σ' = [some (.ref d), some (.ref l), some (.int n), some (.ref gi), some odd, none, none, none, none, none, none, none, none] ∧ 0 ≤ s' ∧ s' ≤ st + ts.length + 1 ∧ PenAt G d c s' r' cells ∧ Tabs T G ∧ G gi = some (.lst ws) ∧ Paired (Sh C G) ws ps ∧ OddE G odd ∧ (∀ a, odd = .ref a → a ≠ d)) (fun kk hK => ?_) ?_
    · refine ⟨_, rfl, _, rfl, d, c, l, st, r, cells, ts, ps, rfl, pen, h0, by omega, hcl, hl, pr, all, fun gi ws s1 r1 H1 ng a1 a2 pen1 b1 hg sh1 => ?_⟩
      refine ⟨_, rfl, by show 2 ≤ sizeLine; decide, fun t1 ob1 nt1 dt1 => ?_⟩
      have z1 := Same.new (o := .frz ob1 (.tup [.int 1, .int 2])) (fun _ _ e => e : Same H1 H1) nt1
      have o1 : OddE (upd H1 t1 (.frz ob1 (.tup [.int 1, .int 2]))) (.ref t1) := .tup [1, 2] upd_same dt1 (by decide +kernel) (by decide +kernel)
      have m1 : t1 ≠ d := (ne_of_none pen1.dc nt1).symm
      clear nt1
      generalize upd H1 t1 (.frz ob1 (.tup [.int 1, .int 2])) = G1 at z1 o1 ⊢
      refine ⟨by show 1 ≤ sizeLine; decide, fun l2 nl2 => ?_⟩
      have z2 := Same.new (o := .lst [.int 3]) (fun _ _ e => e : Same G1 G1) nl2
      have o2 : OddE (upd G1 l2 (.lst [.int 3])) (.ref l2) := .lst [3] upd_same (by decide +kernel)
      have m2 : l2 ≠ d := (ne_of_none (z1 _ _ pen1.dc) nl2).symm
      have o1 := o1.same z2
      have z12 := z1.trans z2
      clear nl2 z2 z1
      generalize upd G1 l2 (.lst [.int 3]) = G2 at z12 o1 o2 ⊢
      refine ⟨by show 6 ≤ sizeLine; decide, fun ol nol => ?_⟩
      have z3 := Same.new (o := .lst [.non, .bl true, .str "1", .ref t1, .ref l2, .bl false]) (fun _ _ e => e : Same G2 G2) nol
      have hol : (upd G2 ol (.lst [.non, .bl true, .str "1", .ref t1, .ref l2, .bl false])) ol = some (.lst [.non, .bl true, .str "1", .ref t1, .ref l2, .bl false]) := upd_same
      have o1 := o1.same z3
      have o2 := o2.same z3
      have z := z12.trans z3
      clear nol z3 z12
      generalize upd G2 ol (.lst [.non, .bl true, .str "1", .ref t1, .ref l2, .bl false]) = G3 at z o1 o2 hol ⊢
      refine ⟨d, c, ol, s1, r1, cells, _, rfl, pen1.to z, a1, by omega, hcl, hol, by show 0 < 6; decide, by show 6 ≤ 1000; decide, fun odd s2 r2 H2 hv a3 a4 pen2 b2 => ?_⟩
      have both : OddE G3 odd ∧ ∀ a, odd = .ref a → a ≠ d := by
        simp only [List.mem_cons, List.not_mem_nil, or_false] at hv
        rcases hv with rfl | rfl | rfl | rfl | rfl | rfl
        · exact ⟨.non, fun _ y => nomatch y⟩
        · exact ⟨.bl _, fun _ y => nomatch y⟩
        · exact ⟨.str _ (by decide +kernel), fun _ y => nomatch y⟩
        · exact ⟨o1, fun _ y => by cases y; exact m1⟩
        · exact ⟨o2, fun _ y => by cases y; exact m2⟩
        · exact ⟨.bl _, fun _ y => nomatch y⟩
      have b13 : SameBut d H H2 := (b1.tr (SameBut.by z)).tr b2
      have ngd : gi ≠ d := (ne_of_none hdk ng).symm
      refine ⟨by show 2 ≤ sizeLine; decide, fun tt ntt => ?_⟩
      have zt := Same.new (o := .tup [.ref gi, odd]) (fun _ _ e => e : Same H2 H2) ntt
      refine ⟨tt, _, rfl, SqT.of upd_same, rfl, _, _, rfl, _, _, rfl, rfl, ?_⟩
      refine hK _ _ ⟨gi, odd, ws, s2, r2, rfl, a3, by omega, pen2.to zt, (tabs_but hT hdk (fun b o e n => b13 _ _ e n)).ext zt, zt _ _ (b2 _ _ (z _ _ hg) ngd), Paired.mapP sh1 fun _ _ y => (((y.same z).but (pen1.to z) b2).same zt), (both.1.but (fun b o e _ n => b2 _ _ e n) both.2).same zt, both.2⟩
    rintro σ' G ⟨gi, odd, ws, s1, r1, rfl, a0, a1, pen1, T1, hg, shG, oG, nodd⟩
    clear hT hl pr all pen hdk
    have hdk1 := pen1.dc
    have p30 : (10 : Int) ^ (30 : Int).toNat = 1000000000000000000000000000000 := by decide
    -- a number that is none
    refine seq_to (fun σ' G2 => ∃ (bad : V) (s' r' : Int), σ' = [some (.ref d), some (.ref l), some (.int n), some (.ref gi), some odd, some bad, none, none, none, none, none, none, none] ∧ 0 ≤ s' ∧ s' ≤ st + ts.length + 2 ∧ PenAt G2 d c s' r' cells ∧ SameBut d G G2 ∧ Flat bad ∧ ∀ i, bad = .int i → ¬ (2 ≤ i ∧ i ≤ 60)) (fun kk hK => ?_) ?_
    · refine ⟨_, rfl, _, rfl, _, _, rfl, rfl, ⟨by decide, by decide, by decide⟩, by show 8 ≤ sizeLine; decide, fun ol nol => ?_⟩
      dsimp only
      rw [p30]
      have zl := Same.new (o := .lst [.int 1, .int 0, .int (-2), .int 61, .bl true, .non, .str "2", .int 1000000000000000000000000000000]) (fun _ _ e => e : Same G G) nol
      refine ⟨d, c, ol, s1, r1, cells, _, rfl, pen1.to zl, a0, by omega, hcl, upd_same, by show 0 < 8; decide, by show 8 ≤ 1000; decide, fun bad s2 r2 H2 hv a3 a4 pen2 b2 => ?_⟩
      refine hK _ _ ⟨bad, s2, r2, rfl, a3, by omega, pen2, (SameBut.by zl).tr b2, ?_⟩
      simp only [List.mem_cons, List.not_mem_nil, or_false] at hv
      rcases hv with rfl | rfl | rfl | rfl | rfl | rfl | rfl | rfl
      all_goals first
        | exact ⟨.int _, fun i e => by cases e; decide⟩
        | exact ⟨.bl _, fun i e => by cases e⟩
        | exact ⟨.non, fun i e => by cases e⟩
        | exact ⟨.str _, fun i e => by cases e⟩
    rintro σ' G2 ⟨bad, s2, r2, rfl, a2, a3, pen2, b12, fB, nB⟩
    -- a rest that is none
    refine seq_to (fun σ' G3 => ∃ (out : V) (s' r' : Int), σ' = [some (.ref d), some (.ref l), some (.int n), some (.ref gi), some odd, some bad, some out, none, none, none, none, none, none] ∧ 0 ≤ s' ∧ s' ≤ st + ts.length + 3 ∧ PenAt G3 d c s' r' cells ∧ SameBut d G G3 ∧ Flat out ∧ ∀ i, out = .int i → ¬ (0 ≤ i ∧ i ≤ (n : Int) - 1)) (fun kk hK => ?_) ?_
    · refine ⟨_, rfl, _, rfl, _, rfl, _, _, rfl, rfl, ⟨by decide, by decide, by decide⟩, by show 6 ≤ sizeLine; decide, fun ol nol => ?_⟩
      dsimp only
      rw [p30]
      have zl := Same.new (o := .lst [.int (-1), .int n, .bl true, .non, .str "0", .int 1000000000000000000000000000000]) (fun _ _ e => e : Same G2 G2) nol
      refine ⟨d, c, ol, s2, r2, cells, _, rfl, pen2.to zl, a2, by omega, hcl, upd_same, by show 0 < 6; decide, by show 6 ≤ 1000; decide, fun out s3 r3 H3 hv a5 a6 pen3 b3 => ?_⟩
      refine hK _ _ ⟨out, s3, r3, rfl, a5, by omega, pen3, (b12.tr (SameBut.by zl)).tr b3, ?_⟩
      simp only [List.mem_cons, List.not_mem_nil, or_false] at hv
      rcases hv with rfl | rfl | rfl | rfl | rfl | rfl
      all_goals first
        | exact ⟨.int _, fun i e => by cases e; omega⟩
        | exact ⟨.bl _, fun i e => by cases e⟩
        | exact ⟨.non, fun i e => by cases e⟩
        | exact ⟨.str _, fun i e => by cases e⟩
    rintro σ' G3 ⟨out, s3, r3, rfl, a4, a5, pen3, b13, fO, nO⟩
    clear b12 pen2
    have ngd : gi ≠ d := ne_of hg hdk1 (by intro z; cases z)
    have hg3 := b13 _ _ hg ngd
    have lws : ws.length = ps.length := paired_len shG
    -- a place
    refine seq_to (fun σ' G4 => ∃ (m : Nat) (s' r' : Int), σ' = [some (.ref d), some (.ref l), some (.int n), some (.ref gi), some odd, some bad, some out, some (.int m), none, none, none, none, none] ∧ m ≤ ws.length ∧ SameBut d G G4) (fun kk hK => ?_) ?_
    · refine ⟨_, rfl, _, rfl, gi, ws, rfl, .inl (SqL.of hg3), _, _, rfl, rfl, d, c, s3, r3, _, cells, rfl, pen3, a4, by omega, hcl, by omega, by omega, fun m s4 r4 H4 m0 m1 a6 a7 pen4 b4 => ?_⟩
      obtain ⟨j, rfl⟩ : ∃ j : Nat, m = (j : Int) := ⟨m.toNat, by omega⟩
      exact hK _ _ ⟨j, s4, r4, rfl, by omega, b13.tr b4⟩
    rintro σ' G4 ⟨m, s4, r4, rfl, hm4, b14⟩
    have hg4 := b14 _ _ hg ngd
    have sh4 : Paired (Sh C G4) ws ps := Paired.mapP shG fun _ _ y => y.but pen1 b14
    have o4 : OddE G4 odd := oG.but (fun b o e _ n => b14 _ _ e n) nodd
    have T4 : Tabs T G4 := tabs_but T1 hdk1 (fun b o e n => b14 _ _ e n)
    clear b13 b14 pen3 hg3 pen1 T1 hg shG oG nodd hdk1
    -- the lists that are wrong
    refine seq_to (fun σ' G5 => ∃ (wi ai : Addr), σ' = [some (.ref d), some (.ref l), some (.int n), some (.ref gi), some odd, some bad, some out, some (.int m), some (.ref wi), some (.ref ai), none, none, none] ∧ Tabs T G5 ∧ FactR C G5 ps gi wi ai odd ws m) (fun kk hK => ?_) ?_
    · have cT : cutV ws none (some (m : Int)) = ws.take m := by
        unfold cutV
        rw [HT.sIx_none, List.drop_zero, HT.sIx_nat, Nat.sub_zero, show min m ws.length = m by omega]
      have cD : cutV ws (some (m : Int)) none = ws.drop m := by
        unfold cutV
        rw [HT.sIx_nat, show min m ws.length = m by omega, HT.sIx_none]
        exact List.take_of_length_le (by rw [List.length_drop]; omega)
      have lt : (ws.take m).length ≤ 100 := by rw [List.length_take]; omega
      have ld : (ws.drop m).length ≤ 100 := by rw [List.length_drop]; omega
      have big : ∀ {k : Nat}, k ≤ 1000 → k ≤ sizeLine := fun z => Nat.le_trans z (by decide)
      refine ⟨_, rfl, _, rfl, _, rfl, gi, ws, rfl, SqL.of hg4, fun p1 n1 => ?_⟩
      rw [cT]
      have z1 := Same.new (o := .lst (ws.take m)) (fun _ _ e => e : Same G4 G4) n1
      have e1 : upd G4 p1 (.lst (ws.take m)) p1 = some (.lst (ws.take m)) := upd_same
      generalize upd G4 p1 (.lst (ws.take m)) = J1 at z1 e1 ⊢
      refine ⟨_, rfl, by show 1 ≤ sizeLine; decide, fun p2 n2 => ?_⟩
      have z2 := Same.new (o := .lst [odd]) (fun _ _ e => e : Same J1 J1) n2
      refine ⟨p1, p2, _, _, rfl, rfl, z2 _ _ e1, upd_same, big (by simp; omega), fun p3 n3 => ?_⟩
      have z3 := (z1.trans z2).new (o := .lst (ws.take m ++ [odd])) n3
      have e3 : upd (upd J1 p2 (.lst [odd])) p3 (.lst (ws.take m ++ [odd])) p3 = some (.lst (ws.take m ++ [odd])) := upd_same
      generalize upd (upd J1 p2 (.lst [odd])) p3 (.lst (ws.take m ++ [odd])) = J3 at z3 e3 ⊢
      refine ⟨_, rfl, _, rfl, _, rfl, gi, ws, rfl, SqL.of (z3 _ _ hg4), fun p4 n4 => ?_⟩
      rw [cD]
      have z4 := Same.new (o := .lst (ws.drop m)) (fun _ _ e => e : Same J3 J3) n4
      refine ⟨p3, p4, _, _, rfl, rfl, z4 _ _ e3, upd_same, big (by simp; omega), fun p5 n5 => ?_⟩
      have z5 := (z3.trans z4).new (o := .lst (ws.take m ++ [odd] ++ ws.drop m)) n5
      have e5 : upd (upd J3 p4 (.lst (ws.drop m))) p5 (.lst (ws.take m ++ [odd] ++ ws.drop m)) p5 = some (.lst (ws.take m ++ [odd] ++ ws.drop m)) := upd_same
      generalize upd (upd J3 p4 (.lst (ws.drop m))) p5 (.lst (ws.take m ++ [odd] ++ ws.drop m)) = J5 at z5 e5 ⊢
      refine ⟨by show 1 ≤ sizeLine; decide, fun p6 n6 => ?_⟩
      have z6 := Same.new (o := .lst [.non]) (fun _ _ e => e : Same J5 J5) n6
      refine ⟨p5, p6, _, _, rfl, rfl, z6 _ _ e5, upd_same, big (by simp; omega), fun wi n7 => ?_⟩
      have z7 := (z5.trans z6).new (o := .lst (ws.take m ++ [odd] ++ ws.drop m ++ [.non])) n7
      have e7 : upd (upd J5 p6 (.lst [.non])) wi (.lst (ws.take m ++ [odd] ++ ws.drop m ++ [.non])) wi = some (.lst (ws.take m ++ [odd] ++ ws.drop m ++ [.non])) := upd_same
      generalize upd (upd J5 p6 (.lst [.non])) wi (.lst (ws.take m ++ [odd] ++ ws.drop m ++ [.non])) = J7 at z7 e7 ⊢
      refine ⟨_, rfl, by show 1 ≤ sizeLine; decide, fun ai n8 => ?_⟩
      have z8 := Same.new (o := .lst [.ref gi]) (fun _ _ e => e : Same J7 J7) n8
      have e8 : upd J7 ai (.lst [.ref gi]) ai = some (.lst [.ref gi]) := upd_same
      have e7 := z8 _ _ e7
      generalize upd J7 ai (.lst [.ref gi]) = J8 at z8 e8 e7 ⊢
      refine ⟨by show 2 ≤ sizeLine; decide, fun tt ntt => ?_⟩
      have z9 := Same.new (o := .tup [.ref wi, .ref ai]) (fun _ _ e => e : Same J8 J8) ntt
      have z := (z7.trans z8).trans z9
      refine ⟨tt, _, rfl, SqT.of upd_same, rfl, _, _, rfl, _, _, rfl, rfl, ?_⟩
      refine hK _ _ ⟨wi, ai, rfl, T4.ext z, z _ _ hg4, Paired.mapP sh4 fun _ _ y => y.same z, o4.same z, ?_, z9 _ _ e8⟩
      rw [z9 _ _ e7]
      simp
    rintro σ' G5 ⟨wi, ai, rfl, T5, F5⟩
    clear hg4 sh4 o4 T4
    have offB : ∀ {H' : Hp}, Off K H' bad 2 60 := fB.off nB
    have offO : ∀ {H' : Hp}, Off K H' out 0 ((n : Int) - 1) := fO.off nO
    obtain ⟨lb, lo⟩ := F5.od.kind (K := K)
    -- the first row
    refine seq_to (fun σ' G => ∃ ri : Addr, σ' = [some (.ref d), some (.ref l), some (.int n), some (.ref gi), some odd, some bad, some out, some (.int m), some (.ref wi), some (.ref ai), some (.ref ri), none, none] ∧ G5 ri = none ∧ Tabs T G ∧ RowsAt (cxOf CX0 P w K mg base ["_law_pen", "_law_items", "_law_many", "_law_given", "_law_odd", "_law_bad", "_law_out", "_law_at", "_law_wrong", "_law_alone", "_law_rows", "_law_deed", "_law_value"] "_law_refused_right" (defScope sRefR2) f (.ref cc) A outer s H E) [some (.ref d), some (.ref l), some (.int n), some (.ref gi), some odd, some bad, some out, some (.int m), some (.ref wi), some (.ref ai), some (.ref ri), none, none] 8 cB G5 G ri 1) (fun kk hK => ?_) ?_
    · refine ⟨T5, fun f1 c1 G1 e1 n1 T1 nf1 hf1 hc1 => ⟨_, rfl, by show 2 ≤ sizeLine; decide, fun t nt => ⟨by show 1 ≤ sizeLine; decide, fun ri nri => ?_⟩⟩⟩
      have s1 := Same.new (o := .tup [.ref f1, odd]) (fun _ _ e => e : Same G1 G1) nt
      have s2 := s1.new (o := .lst [.ref t]) nri
      have nri5 : G5 ri = none := n1 _ (same_none s1 nri)
      have ht : upd (upd G1 t (.tup [.ref f1, odd])) ri (.lst [.ref t]) t = some (.tup [.ref f1, odd]) := (Same.new (fun _ _ e => e : Same _ _) nri) _ _ upd_same
      refine hK _ _ ⟨ri, rfl, nri5, T1.ext s2, ExtN.tr e1 (ExtN.by s2), [.ref t], upd_same, Nat.le_refl _, fun x hx => ?_⟩
      cases List.mem_singleton.mp hx
      exact ⟨t, f1, odd, rfl, ht, (DeedN.mk (lamS_by (sc := defScope sRefR2) (by decide +kernel)) (fun _ _ _ _ _ => rfl) (fun A outer s H E f c' hr => dcE L.dealt hr (by decide) (passK (takes_of rfl rfl rfl rfl)) (pa_cons (pv 8) (pa_cons (pv 5) pa_nil))) (s2 _ _ hf1) (s2 _ _ hc1) (fun H' hx E' Q' lv => by
        have F := F5.ext hx
        exact ⟨_, rfl, _, rfl, _, _, rfl, .inl ⟨_, F.flawed l100, lv⟩⟩)), .inr (.inl F5.od)⟩
    rintro σ' G ⟨ri, rfl, hri0, TG, e0, rs, hrs, ls, hx⟩
    refine seq_to (fun σ' G => σ' = [some (.ref d), some (.ref l), some (.int n), some (.ref gi), some odd, some bad, some out, some (.int m), some (.ref wi), some (.ref ai), some (.ref ri), none, none] ∧ Tabs T G ∧ RowsAt (cxOf CX0 P w K mg base ["_law_pen", "_law_items", "_law_many", "_law_given", "_law_odd", "_law_bad", "_law_out", "_law_at", "_law_wrong", "_law_alone", "_law_rows", "_law_deed", "_law_value"] "_law_refused_right" (defScope sRefR2) f (.ref cc) A outer s H E) [some (.ref d), some (.ref l), some (.int n), some (.ref gi), some odd, some bad, some out, some (.int m), some (.ref wi), some (.ref ai), some (.ref ri), none, none] 8 cB G5 G ri 2) (fun kk hK => ?_) ?_
    · refine ⟨_, rfl, .inl ⟨rfl, rs, SqL.of hrs⟩, TG, fun f1 c1 G1 e1 n1 T1 nf1 hf1 hc1 => ⟨_, rfl, by show 2 ≤ sizeLine; decide, fun t nt => ?_⟩⟩
      obtain ⟨hr2, ra⟩ := RowsAt.add (v := bad) (t := t) (f := f1) hri0 e0 hrs ls hx e1 nt (DeedN.mk (lamS_by (sc := defScope sRefR2) (by decide +kernel)) (fun _ _ _ _ _ => rfl) (fun A outer s H E f c' hr => dcE L.dealt hr (by decide) (passK (takes_of rfl rfl rfl rfl)) (pa_cons (pv 3) (pa_cons (pv 5) pa_nil))) hf1 hc1 (fun H' hx E' Q' lv => by
        have F := F5.ext hx
        exact ⟨_, rfl, _, rfl, _, _, rfl, .inr ⟨ps, F.given l100, .inl ⟨offB, lv⟩⟩⟩)) (.inl fB)
      exact ⟨ri, rs, .ref t, rfl, rfl, hr2, Nat.lt_of_lt_of_le (show rs.length < 100 by omega) (by decide), hK _ _ ⟨rfl, tabs_lst (T1.ext (Same.new (fun _ _ e => e) nt)) hr2, ra⟩⟩
    clear TG e0 hrs ls hx rs G
    rintro σ' G ⟨rfl, TG, e0, rs, hrs, ls, hx⟩
    refine seq_to (fun σ' G => σ' = [some (.ref d), some (.ref l), some (.int n), some (.ref gi), some odd, some bad, some out, some (.int m), some (.ref wi), some (.ref ai), some (.ref ri), none, none] ∧ Tabs T G ∧ RowsAt (cxOf CX0 P w K mg base ["_law_pen", "_law_items", "_law_many", "_law_given", "_law_odd", "_law_bad", "_law_out", "_law_at", "_law_wrong", "_law_alone", "_law_rows", "_law_deed", "_law_value"] "_law_refused_right" (defScope sRefR2) f (.ref cc) A outer s H E) [some (.ref d), some (.ref l), some (.int n), some (.ref gi), some odd, some bad, some out, some (.int m), some (.ref wi), some (.ref ai), some (.ref ri), none, none] 8 cB G5 G ri 3) (fun kk hK => ?_) ?_
    · refine ⟨_, rfl, .inl ⟨rfl, rs, SqL.of hrs⟩, TG, fun f1 c1 G1 e1 n1 T1 nf1 hf1 hc1 => ⟨_, rfl, by show 2 ≤ sizeLine; decide, fun t nt => ?_⟩⟩
      obtain ⟨hr2, ra⟩ := RowsAt.add (v := out) (t := t) (f := f1) hri0 e0 hrs ls hx e1 nt (DeedN.mk (lamS_by (sc := defScope sRefR2) (by decide +kernel)) (fun _ _ _ _ _ => rfl) (fun A outer s H E f c' hr => dcE L.thin hr (by decide) (passK (takes_of rfl rfl rfl rfl)) (pa_cons (pv 3) (pa_cons (pv 2) (pa_cons (pv 6) pa_nil)))) hf1 hc1 (fun H' hx E' Q' lv => by
        have F := F5.ext hx
        exact ⟨_, rfl, _, rfl, _, rfl, _, _, _, rfl, .inr ⟨ps, F.given l100, .inr ⟨n, rfl, n2, n60, .inl ⟨offO, lv⟩⟩⟩⟩)) (.inl fO)
      exact ⟨ri, rs, .ref t, rfl, rfl, hr2, Nat.lt_of_lt_of_le (show rs.length < 100 by omega) (by decide), hK _ _ ⟨rfl, tabs_lst (T1.ext (Same.new (fun _ _ e => e) nt)) hr2, ra⟩⟩
    clear TG e0 hrs ls hx rs G
    rintro σ' G ⟨rfl, TG, e0, rs, hrs, ls, hx⟩
    refine seq_to (fun σ' G => σ' = [some (.ref d), some (.ref l), some (.int n), some (.ref gi), some odd, some bad, some out, some (.int m), some (.ref wi), some (.ref ai), some (.ref ri), none, none] ∧ Tabs T G ∧ RowsAt (cxOf CX0 P w K mg base ["_law_pen", "_law_items", "_law_many", "_law_given", "_law_odd", "_law_bad", "_law_out", "_law_at", "_law_wrong", "_law_alone", "_law_rows", "_law_deed", "_law_value"] "_law_refused_right" (defScope sRefR2) f (.ref cc) A outer s H E) [some (.ref d), some (.ref l), some (.int n), some (.ref gi), some odd, some bad, some out, some (.int m), some (.ref wi), some (.ref ai), some (.ref ri), none, none] 8 cB G5 G ri 4) (fun kk hK => ?_) ?_
    · refine ⟨_, rfl, .inl ⟨rfl, rs, SqL.of hrs⟩, TG, fun f1 c1 G1 e1 n1 T1 nf1 hf1 hc1 => ⟨_, rfl, by show 2 ≤ sizeLine; decide, fun t nt => ?_⟩⟩
      obtain ⟨hr2, ra⟩ := RowsAt.add (v := bad) (t := t) (f := f1) hri0 e0 hrs ls hx e1 nt (DeedN.mk (lamS_by (sc := defScope sRefR2) (by decide +kernel)) (fun _ _ _ _ _ => rfl) (fun A outer s H E f c' hr => dcE L.thin hr (by decide) (passK (takes_of rfl rfl rfl rfl)) (pa_cons (pv 3) (pa_cons (pv 5) (pa_cons (pv 6) pa_nil)))) hf1 hc1 (fun H' hx E' Q' lv => by
        have F := F5.ext hx
        exact ⟨_, rfl, _, rfl, _, rfl, _, _, _, rfl, .inr ⟨ps, F.given l100, .inl ⟨offB, lv⟩⟩⟩)) (.inl fB)
      exact ⟨ri, rs, .ref t, rfl, rfl, hr2, Nat.lt_of_lt_of_le (show rs.length < 100 by omega) (by decide), hK _ _ ⟨rfl, tabs_lst (T1.ext (Same.new (fun _ _ e => e) nt)) hr2, ra⟩⟩
    clear TG e0 hrs ls hx rs G
    rintro σ' G ⟨rfl, TG, e0, rs, hrs, ls, hx⟩
    refine seq_to (fun σ' G => σ' = [some (.ref d), some (.ref l), some (.int n), some (.ref gi), some odd, some bad, some out, some (.int m), some (.ref wi), some (.ref ai), some (.ref ri), none, none] ∧ Tabs T G ∧ RowsAt (cxOf CX0 P w K mg base ["_law_pen", "_law_items", "_law_many", "_law_given", "_law_odd", "_law_bad", "_law_out", "_law_at", "_law_wrong", "_law_alone", "_law_rows", "_law_deed", "_law_value"] "_law_refused_right" (defScope sRefR2) f (.ref cc) A outer s H E) [some (.ref d), some (.ref l), some (.int n), some (.ref gi), some odd, some bad, some out, some (.int m), some (.ref wi), some (.ref ai), some (.ref ri), none, none] 8 cB G5 G ri 5) (fun kk hK => ?_) ?_
    · refine ⟨_, rfl, .inl ⟨rfl, rs, SqL.of hrs⟩, TG, fun f1 c1 G1 e1 n1 T1 nf1 hf1 hc1 => ⟨_, rfl, by show 2 ≤ sizeLine; decide, fun t nt => ?_⟩⟩
      obtain ⟨hr2, ra⟩ := RowsAt.add (v := bad) (t := t) (f := f1) hri0 e0 hrs ls hx e1 nt (DeedN.mk (lamS_by (sc := defScope sRefR2) (by decide +kernel)) (fun _ _ _ _ _ => rfl) (fun A outer s H E f c' hr => dcE L.str hr (by decide) (passK (takes_of rfl rfl rfl rfl)) (pa_cons (pv 3) (pa_cons (pv 5) pa_nil))) hf1 hc1 (fun H' hx E' Q' lv => by
        have F := F5.ext hx
        exact ⟨_, rfl, _, rfl, _, _, rfl, .inr ⟨ps, F.given l100, rows60, .inl ⟨offB, lv⟩⟩⟩)) (.inl fB)
      exact ⟨ri, rs, .ref t, rfl, rfl, hr2, Nat.lt_of_lt_of_le (show rs.length < 100 by omega) (by decide), hK _ _ ⟨rfl, tabs_lst (T1.ext (Same.new (fun _ _ e => e) nt)) hr2, ra⟩⟩
    clear TG e0 hrs ls hx rs G
    rintro σ' G ⟨rfl, TG, e0, rs, hrs, ls, hx⟩
    refine seq_to (fun σ' G => σ' = [some (.ref d), some (.ref l), some (.int n), some (.ref gi), some odd, some bad, some out, some (.int m), some (.ref wi), some (.ref ai), some (.ref ri), none, none] ∧ Tabs T G ∧ RowsAt (cxOf CX0 P w K mg base ["_law_pen", "_law_items", "_law_many", "_law_given", "_law_odd", "_law_bad", "_law_out", "_law_at", "_law_wrong", "_law_alone", "_law_rows", "_law_deed", "_law_value"] "_law_refused_right" (defScope sRefR2) f (.ref cc) A outer s H E) [some (.ref d), some (.ref l), some (.int n), some (.ref gi), some odd, some bad, some out, some (.int m), some (.ref wi), some (.ref ai), some (.ref ri), none, none] 8 cB G5 G ri 6) (fun kk hK => ?_) ?_
    · refine ⟨_, rfl, .inl ⟨rfl, rs, SqL.of hrs⟩, TG, fun f1 c1 G1 e1 n1 T1 nf1 hf1 hc1 => ⟨_, rfl, by show 2 ≤ sizeLine; decide, fun t nt => ?_⟩⟩
      obtain ⟨hr2, ra⟩ := RowsAt.add (v := odd) (t := t) (f := f1) hri0 e0 hrs ls hx e1 nt (DeedN.mk (lamS_by (sc := defScope sRefR2) (by decide +kernel)) (fun _ _ _ _ _ => rfl) (fun A outer s H E f c' hr => dcE L.held hr (by decide) (passK (takes_of rfl rfl rfl rfl)) (pa_cons (pv 8) (pa_cons (pv 2) pa_nil))) hf1 hc1 (fun H' hx E' Q' lv => by
        have F := F5.ext hx
        exact ⟨_, rfl, _, rfl, _, _, rfl, .inl ⟨_, F.flawed l100, lv⟩⟩)) (.inr (.inl F5.od))
      exact ⟨ri, rs, .ref t, rfl, rfl, hr2, Nat.lt_of_lt_of_le (show rs.length < 100 by omega) (by decide), hK _ _ ⟨rfl, tabs_lst (T1.ext (Same.new (fun _ _ e => e) nt)) hr2, ra⟩⟩
    clear TG e0 hrs ls hx rs G
    rintro σ' G ⟨rfl, TG, e0, rs, hrs, ls, hx⟩
    refine seq_to (fun σ' G => σ' = [some (.ref d), some (.ref l), some (.int n), some (.ref gi), some odd, some bad, some out, some (.int m), some (.ref wi), some (.ref ai), some (.ref ri), none, none] ∧ Tabs T G ∧ RowsAt (cxOf CX0 P w K mg base ["_law_pen", "_law_items", "_law_many", "_law_given", "_law_odd", "_law_bad", "_law_out", "_law_at", "_law_wrong", "_law_alone", "_law_rows", "_law_deed", "_law_value"] "_law_refused_right" (defScope sRefR2) f (.ref cc) A outer s H E) [some (.ref d), some (.ref l), some (.int n), some (.ref gi), some odd, some bad, some out, some (.int m), some (.ref wi), some (.ref ai), some (.ref ri), none, none] 8 cB G5 G ri 7) (fun kk hK => ?_) ?_
    · refine ⟨_, rfl, .inl ⟨rfl, rs, SqL.of hrs⟩, TG, fun f1 c1 G1 e1 n1 T1 nf1 hf1 hc1 => ⟨_, rfl, by show 2 ≤ sizeLine; decide, fun t nt => ?_⟩⟩
      obtain ⟨hr2, ra⟩ := RowsAt.add (v := bad) (t := t) (f := f1) hri0 e0 hrs ls hx e1 nt (DeedN.mk (lamS_by (sc := defScope sRefR2) (by decide +kernel)) (fun _ _ _ _ _ => rfl) (fun A outer s H E f c' hr => pe_callN (E := E) Gh (hr.mono (by decide)) (by rfl) gh kh bh1 (passK (takes_of rfl rfl rfl rfl)) (pa_cons (pv 3) pa_nil) (pk_cons (pv 5) pk_nil)) hf1 hc1 (fun H' hx E' Q' lv => by
        have F := F5.ext hx
        exact ⟨_, rfl, _, rfl, rfl, rfl, _, _, rfl, .inr ⟨ps, F.given l100, rows60, .inl ⟨offB, lv⟩⟩⟩)) (.inl fB)
      exact ⟨ri, rs, .ref t, rfl, rfl, hr2, Nat.lt_of_lt_of_le (show rs.length < 100 by omega) (by decide), hK _ _ ⟨rfl, tabs_lst (T1.ext (Same.new (fun _ _ e => e) nt)) hr2, ra⟩⟩
    clear TG e0 hrs ls hx rs G
    rintro σ' G ⟨rfl, TG, e0, rs, hrs, ls, hx⟩
    refine seq_to (fun σ' G => σ' = [some (.ref d), some (.ref l), some (.int n), some (.ref gi), some odd, some bad, some out, some (.int m), some (.ref wi), some (.ref ai), some (.ref ri), none, none] ∧ Tabs T G ∧ RowsAt (cxOf CX0 P w K mg base ["_law_pen", "_law_items", "_law_many", "_law_given", "_law_odd", "_law_bad", "_law_out", "_law_at", "_law_wrong", "_law_alone", "_law_rows", "_law_deed", "_law_value"] "_law_refused_right" (defScope sRefR2) f (.ref cc) A outer s H E) [some (.ref d), some (.ref l), some (.int n), some (.ref gi), some odd, some bad, some out, some (.int m), some (.ref wi), some (.ref ai), some (.ref ri), none, none] 8 cB G5 G ri 8) (fun kk hK => ?_) ?_
    · refine ⟨_, rfl, .inl ⟨rfl, rs, SqL.of hrs⟩, TG, fun f1 c1 G1 e1 n1 T1 nf1 hf1 hc1 => ⟨_, rfl, by show 2 ≤ sizeLine; decide, fun t nt => ?_⟩⟩
      obtain ⟨hr2, ra⟩ := RowsAt.add (v := (.ref wi)) (t := t) (f := f1) hri0 e0 hrs ls hx e1 nt (DeedN.mk (lamS_by (sc := defScope sRefR2) (by decide +kernel)) (fun _ _ _ _ _ => rfl) (fun A outer s H E f c' hr => dcE L.woven hr (by decide) (passK (takes_of rfl rfl rfl rfl)) (pa_cons (pe_lst (pa_cons (pv 3) (pa_cons (pv 8) (pa_cons (pv 3) pa_nil)))) pa_nil)) hf1 hc1 (fun H' hx E' Q' lv => by
        have F := F5.ext hx
        refine ⟨_, rfl, _, rfl, _, rfl, by show 3 ≤ sizeLine; decide, fun p np => ?_⟩
        have sp : Same H' (upd H' p (.lst [.ref gi, .ref wi, .ref gi])) := Same.new (fun _ _ e => e) np
        have F := F.ext (ExtN.by sp)
        exact ⟨_, rfl, .inr (.inl ⟨[.ref gi], [ps], .ref wi, [.ref gi], ⟨p, rfl, .inl (SqL.of upd_same)⟩, .cons (F.given l100) .nil, F.badLane l100, lv.mono sp⟩)⟩)) (.inr (.inr ⟨_, _, rfl, F5.w⟩))
      exact ⟨ri, rs, .ref t, rfl, rfl, hr2, Nat.lt_of_lt_of_le (show rs.length < 100 by omega) (by decide), hK _ _ ⟨rfl, tabs_lst (T1.ext (Same.new (fun _ _ e => e) nt)) hr2, ra⟩⟩
    clear TG e0 hrs ls hx rs G
    rintro σ' G ⟨rfl, TG, e0, rs, hrs, ls, hx⟩
    refine seq_to (fun σ' G => σ' = [some (.ref d), some (.ref l), some (.int n), some (.ref gi), some odd, some bad, some out, some (.int m), some (.ref wi), some (.ref ai), some (.ref ri), none, none] ∧ Tabs T G ∧ RowsAt (cxOf CX0 P w K mg base ["_law_pen", "_law_items", "_law_many", "_law_given", "_law_odd", "_law_bad", "_law_out", "_law_at", "_law_wrong", "_law_alone", "_law_rows", "_law_deed", "_law_value"] "_law_refused_right" (defScope sRefR2) f (.ref cc) A outer s H E) [some (.ref d), some (.ref l), some (.int n), some (.ref gi), some odd, some bad, some out, some (.int m), some (.ref wi), some (.ref ai), some (.ref ri), none, none] 8 cB G5 G ri 9) (fun kk hK => ?_) ?_
    · refine ⟨_, rfl, .inl ⟨rfl, rs, SqL.of hrs⟩, TG, fun f1 c1 G1 e1 n1 T1 nf1 hf1 hc1 => ⟨_, rfl, by show 2 ≤ sizeLine; decide, fun t nt => ?_⟩⟩
      obtain ⟨hr2, ra⟩ := RowsAt.add (v := (.ref ai)) (t := t) (f := f1) hri0 e0 hrs ls hx e1 nt (DeedN.mk (lamS_by (sc := defScope sRefR2) (by decide +kernel)) (fun _ _ _ _ _ => rfl) (fun A outer s H E f c' hr => dcE L.woven hr (by decide) (passK (takes_of rfl rfl rfl rfl)) (pa_cons (pv 9) pa_nil)) hf1 hc1 (fun H' hx E' Q' lv => by
        have F := F5.ext hx
        exact ⟨_, rfl, _, rfl, .inr (.inr ⟨[ps], ⟨[.ref gi], ⟨ai, rfl, .inl (SqL.of F.a)⟩, by show 1 ≤ sizeLine; decide, .cons (F.given l100) .nil⟩, .inl ⟨by simp, lv⟩⟩)⟩)) (.inr (.inr ⟨_, _, rfl, F5.a⟩))
      exact ⟨ri, rs, .ref t, rfl, rfl, hr2, Nat.lt_of_lt_of_le (show rs.length < 100 by omega) (by decide), hK _ _ ⟨rfl, tabs_lst (T1.ext (Same.new (fun _ _ e => e) nt)) hr2, ra⟩⟩
    clear TG e0 hrs ls hx rs G
    rintro σ' G ⟨rfl, TG, e0, rs, hrs, ls, hx⟩
    refine seq_to (fun σ' G => σ' = [some (.ref d), some (.ref l), some (.int n), some (.ref gi), some odd, some bad, some out, some (.int m), some (.ref wi), some (.ref ai), some (.ref ri), none, none] ∧ Tabs T G ∧ RowsAt (cxOf CX0 P w K mg base ["_law_pen", "_law_items", "_law_many", "_law_given", "_law_odd", "_law_bad", "_law_out", "_law_at", "_law_wrong", "_law_alone", "_law_rows", "_law_deed", "_law_value"] "_law_refused_right" (defScope sRefR2) f (.ref cc) A outer s H E) [some (.ref d), some (.ref l), some (.int n), some (.ref gi), some odd, some bad, some out, some (.int m), some (.ref wi), some (.ref ai), some (.ref ri), none, none] 8 cB G5 G ri 10) (fun kk hK => ?_) ?_
    · refine ⟨_, rfl, .inl ⟨rfl, rs, SqL.of hrs⟩, TG, fun f1 c1 G1 e1 n1 T1 nf1 hf1 hc1 => ⟨_, rfl, by show 2 ≤ sizeLine; decide, fun t nt => ?_⟩⟩
      obtain ⟨hr2, ra⟩ := RowsAt.add (v := bad) (t := t) (f := f1) hri0 e0 hrs ls hx e1 nt (DeedN.mk (lamS_by (sc := defScope sRefR2) (by decide +kernel)) (fun _ _ _ _ _ => rfl) (fun A outer s H E f c' hr => dcE L.woven hr (by decide) (passK (takes_of rfl rfl rfl rfl)) (pa_cons (pv 5) pa_nil)) hf1 hc1 (fun H' hx E' Q' lv => by
        have F := F5.ext hx
        exact ⟨_, rfl, _, rfl, .inl ⟨fB.isLT, lv⟩⟩)) (.inl fB)
      exact ⟨ri, rs, .ref t, rfl, rfl, hr2, Nat.lt_of_lt_of_le (show rs.length < 100 by omega) (by decide), hK _ _ ⟨rfl, tabs_lst (T1.ext (Same.new (fun _ _ e => e) nt)) hr2, ra⟩⟩
    clear TG e0 hrs ls hx rs G
    rintro σ' G ⟨rfl, TG, e0, rs, hrs, ls, hx⟩
    -- two rows more, if the other thing is no list
    refine seq_to (fun σ' G => σ' = [some (.ref d), some (.ref l), some (.int n), some (.ref gi), some odd, some bad, some out, some (.int m), some (.ref wi), some (.ref ai), some (.ref ri), none, none] ∧ ∃ mm, mm ≤ 12 ∧ RowsAt (cxOf CX0 P w K mg base ["_law_pen", "_law_items", "_law_many", "_law_given", "_law_odd", "_law_bad", "_law_out", "_law_at", "_law_wrong", "_law_alone", "_law_rows", "_law_deed", "_law_value"] "_law_refused_right" (defScope sRefR2) f (.ref cc) A outer s H E) [some (.ref d), some (.ref l), some (.int n), some (.ref gi), some odd, some bad, some out, some (.int m), some (.ref wi), some (.ref ai), some (.ref ri), none, none] 8 cB G5 G ri mm) (fun kk hK => ?_) ?_
    · refine ⟨_, rfl, by show 2 ≤ sizeLine; decide, fun tp ntp => ?_⟩
      have zt : Same G (upd G tp (.tup [.ty "list", .ty "tuple"])) := Same.new (fun _ _ e => e) ntp
      obtain ⟨t0, ht0, hk0⟩ := lo _ (ExtN.tr e0 (ExtN.by zt))
      refine ⟨odd, tp, _, t0, _, lb, rfl, upd_same, .cons (.ty _) (.cons (.ty _) .nil), ht0, hk0, _, rfl, ?_⟩
      have TG := TG.ext zt
      have e0 := ExtN.tr e0 (ExtN.by zt)
      have hrs := zt _ _ hrs
      have hx := fun x hm => (hx x hm).on (fun b o hb _ _ => zt b o hb)
      clear ntp ht0
      generalize upd G tp (.tup [.ty "list", .ty "tuple"]) = G at TG e0 hrs hx ⊢
      clear zt
      refine ite2 (fun no => ?_) (fun _ => hK _ _ ⟨rfl, 10, by decide, e0, rs, hrs, ls, hx⟩)
      have lbf : lb = false := by simpa using no
      subst lbf
      refine seq_to (fun σ' G => σ' = [some (.ref d), some (.ref l), some (.int n), some (.ref gi), some odd, some bad, some out, some (.int m), some (.ref wi), some (.ref ai), some (.ref ri), none, none] ∧ Tabs T G ∧ RowsAt (cxOf CX0 P w K mg base ["_law_pen", "_law_items", "_law_many", "_law_given", "_law_odd", "_law_bad", "_law_out", "_law_at", "_law_wrong", "_law_alone", "_law_rows", "_law_deed", "_law_value"] "_law_refused_right" (defScope sRefR2) f (.ref cc) A outer s H E) [some (.ref d), some (.ref l), some (.int n), some (.ref gi), some odd, some bad, some out, some (.int m), some (.ref wi), some (.ref ai), some (.ref ri), none, none] 8 cB G5 G ri 11) (fun kk hK => ?_) ?_
      · refine ⟨_, rfl, .inl ⟨rfl, rs, SqL.of hrs⟩, TG, fun f1 c1 G1 e1 n1 T1 nf1 hf1 hc1 => ⟨_, rfl, by show 2 ≤ sizeLine; decide, fun t nt => ?_⟩⟩
        obtain ⟨hr2, ra⟩ := RowsAt.add (v := odd) (t := t) (f := f1) hri0 e0 hrs ls hx e1 nt (DeedN.mk (lamS_by (sc := defScope sRefR2) (by decide +kernel)) (fun _ _ _ _ _ => rfl) (fun A outer s H E f c' hr => dcE L.str hr (by decide) (passK (takes_of rfl rfl rfl rfl)) (pa_cons (pv 4) (pa_cons (pv 2) pa_nil))) hf1 hc1 (fun H' hx E' Q' lv => by
          have F := F5.ext hx
          exact ⟨_, rfl, _, rfl, _, _, rfl, .inl ⟨_, .inl ⟨lo _ hx, rfl⟩, lv⟩⟩)) (.inr (.inl F5.od))
        exact ⟨ri, rs, .ref t, rfl, rfl, hr2, Nat.lt_of_lt_of_le (show rs.length < 100 by omega) (by decide), hK _ _ ⟨rfl, tabs_lst (T1.ext (Same.new (fun _ _ e => e) nt)) hr2, ra⟩⟩
      rintro σ' G ⟨rfl, TG, e0, rs, hrs, ls, hx⟩
      refine ⟨_, rfl, .inl ⟨rfl, rs, SqL.of hrs⟩, TG, fun f1 c1 G1 e1 n1 T1 nf1 hf1 hc1 => ⟨_, rfl, by show 2 ≤ sizeLine; decide, fun t nt => ?_⟩⟩
      obtain ⟨hr2, ra⟩ := RowsAt.add (v := odd) (t := t) (f := f1) hri0 e0 hrs ls hx e1 nt (DeedN.mk (lamS_by (sc := defScope sRefR2) (by decide +kernel)) (fun _ _ _ _ _ => rfl) (fun A outer s H E f c' hr => dcE L.woven hr (by decide) (passK (takes_of rfl rfl rfl rfl)) (pa_cons (pe_lst (pa_cons (pv 3) (pa_cons (pv 4) pa_nil))) pa_nil)) hf1 hc1 (fun H' hx E' Q' lv => by
        have F := F5.ext hx
        refine ⟨_, rfl, _, rfl, by show 2 ≤ sizeLine; decide, fun p np => ?_⟩
        have sp : Same H' (upd H' p (.lst [.ref gi, odd])) := Same.new (fun _ _ e => e) np
        have F := F.ext (ExtN.by sp)
        exact ⟨_, rfl, .inr (.inl ⟨[.ref gi], [ps], odd, [], ⟨p, rfl, .inl (SqL.of upd_same)⟩, .cons (F.given l100) .nil, .inl ((lo _ hx).same sp), lv.mono sp⟩)⟩)) (.inr (.inl F5.od))
      exact ⟨ri, rs, .ref t, rfl, rfl, hr2, Nat.lt_of_lt_of_le (show rs.length < 100 by omega) (by decide), hK _ _ ⟨rfl, 12, by decide, ra⟩⟩
    clear TG e0 hrs ls hx rs G
    rintro σ' G ⟨rfl, m12, hm12, e0, rs, hrs, ls, hx⟩
    -- each row raises what it tells
    refine ⟨_, rfl, ri, rfl, ⟨rs, SqL.of hrs⟩, fun D nD => ?_⟩
    refine lc_list (K := K) (a := ri) (xs := rs) (fun i H2 => Same G H2 ∧ H2 D = some (.lst ((List.replicate i true).map V.bl))) ⟨Same.new (fun _ _ e => e) nD, upd_same⟩ (fun i H2 _ p => p.1.seq (SqL.of hrs)) ?_ ?_
    · rintro i x H2 hxi ⟨s2, hD⟩
      have hi : i < rs.length := (List.getElem?_eq_some_iff.mp hxi).1
      obtain ⟨t, f1, v, rfl, ht, dd, th⟩ := hx x (List.mem_of_getElem? hxi)
      refine ⟨t, _, rfl, SqT.of (s2 _ _ ht), rfl, _, _, rfl, _, _, rfl, rfl, ?_⟩
      refine ⟨rfl, ?_⟩
      refine yes_if ?_
      have e2 := ExtN.tr e0 (ExtN.by s2)
      refine ⟨_, rfl, _, rfl, f1, v, rfl, (th.ext e2).thing, (dd.on fun b o hb _ _ => s2 b o hb).at e2, fun H3 s3 => ⟨_, s3 _ _ hD, ?_, same_grow nD (s2.trans s3), ?_⟩⟩
      · rw [List.length_map, List.length_replicate]
        exact Nat.lt_of_lt_of_le (show i < 100 by omega) (by decide)
      · rw [upd_same, List.replicate_succ', List.map_append]
        rfl
    · rintro H5 ⟨s5, hD⟩
      refine ⟨D, List.replicate rs.length true, rfl, SqL.of hD, ?_⟩
      rw [show (List.replicate rs.length true).all id = true by simp]
      exact k H5
end
end K03
end
section
set_option maxHeartbeats 4000000
namespace K03
open PySem PySem.Spec PyProof.Rows L2 LamX NdefX L3
abbrev sLaw2 : Stmt := top 57
def spLaw2 (K : PySem.W.Frag) (T : List (Addr × Str)) : Sp := fun vs H Q _ => ∃ (a : Addr) (ns : List Int), vs = [.ref a] ∧ SqL K H a (ns.map V.int) ∧ ns.length ≤ 63 ∧ Tabs T H ∧ ∀ H', Q (.bl true) H'
theorem paired_rep {α β : Type} {F : α → β → Prop} {l : List α} {m : List β} (p : Paired F l m) : ∀ k, Paired F (List.replicate k l).flatten (List.replicate k m).flatten
  | 0 => .nil
  | k + 1 => by
    rw [List.replicate_succ, List.replicate_succ, List.flatten_cons, List.flatten_cons]
    exact paired_app p (paired_rep p k)
section
variable {P : Program} {w : World} {K : PySem.W.Frag} {mg : Str → Option Value} {base : Heap} {cB cN C fI : Addr} {T : List (Addr × Str)}
theorem scLaw2 : FnScope ["_law_script", "_law_pen", "_law_many", "_law_items"] ["_law_script"] (defScope sLaw2) := ⟨rfl, rfl, rfl, by decide +kernel, rfl, by decide +kernel, by decide +kernel⟩
theorem ok_law2 {f : Addr} {fd : FuncData} (F : Fun K "law" "law" sLaw2 f fd)
    (hB : Dfn P w K mg base CX0 1 "_law_begin" ["_law_script"] (spPen2 K)) (hD : Dfn P w K mg base CX0 1 "_law_draw" ["_law_pen", "_law_span"] spDraw) (hN : Dfn P w K mg base CX0 4 "_law_numbers" ["_law_pen", "_law_many"] spNums)
    (hP : Dfn P w K mg base CX0 9 "_law_plain_right" ["_law_pen", "_law_items", "_law_many"] spPlain) (hW : Dfn P w K mg base CX0 9 "_law_woven_right" ["_law_pen"] spWovR) (hR : Dfn P w K mg base CX0 12 "_law_refused_right" ["_law_pen", "_law_items", "_law_many"] (spRefR2 T)) :
    FnOk P w K mg base CX0 13 f fd ["_law_script"] (spLaw2 K T) := by
  refine F.ok scLaw2 (fun vs H Q E h => ?_) (fun cdv A outer s H vs Q E hr h => ?_)
  · obtain ⟨a, ns, rfl, _⟩ := h
    rfl
  · obtain ⟨a, ns, rfl, hS, hl, hT, k⟩ := h
    have nd := scLaw2.nd
    refine ⟨_, pss_cons (ps_set (i := 1) nd rfl (Or.inl rfl) (dc hB hr (by decide) (pa_cons (pv 0) pa_nil)))
      (pss_cons (ps_set (i := 2) nd rfl (Or.inl rfl) (pe_ifExp (pt_cmpR op_gt (dc hD hr (by decide) (pa_cons (pv 1) (pa_cons pe_int pa_nil))) pe_int (nomark _)) (pe_op op_add pe_int (dc hD hr (by decide) (pa_cons (pv 1) (pa_cons pe_int pa_nil)))) (pe_op op_add pe_int (dc hD hr (by decide) (pa_cons (pv 1) (pa_cons pe_int pa_nil))))))
      (pss_cons (ps_set (i := 3) nd rfl (Or.inl rfl) (dc hN hr (by decide) (pa_cons (pv 1) (pa_cons (dc hD hr (by decide) (pa_cons (pv 1) (pa_cons pe_int pa_nil))) pa_nil))))
      (pss_cons (ps_if (pt_cmpR op_eq (dc hD hr (by decide) (pa_cons (pv 1) (pa_cons pe_int pa_nil))) pe_int (nomark _)) (pss_one (ps_set (i := 3) nd rfl (Or.inl rfl) (pe_op op_rep (pv 3) (pe_op op_add pe_int (dc hD hr (by decide) (pa_cons (pv 1) (pa_cons pe_int pa_nil))))))) pss_nil)
      (pss_cons (ps_if (PW.pt (pw_or (pt_not (pt_val (dc hP hr (by decide) (pa_cons (pv 1) (pa_cons (pv 3) (pa_cons (pv 2) pa_nil)))))) (pw_or1 (pt_not (pt_val (dc hW hr (by decide) (pa_cons (pv 1) pa_nil))))))) (pss_one (ps_ret pe_bl)) pss_nil)
      (pss_one (ps_ret (dc hR hr (by decide) (pa_cons (pv 1) (pa_cons (pv 3) (pa_cons (pv 2) pa_nil)))))))))), ?_⟩
    refine ⟨_, rfl, a, ns, rfl, hS, hl, fun d c H1 nd1 nc1 s1 pen1 => ?_⟩
    have T1 := hT.ext s1
    dsimp only [gName]
    refine seq_to (fun σ' G => ∃ (n : Nat) (s' r' : Int), σ' = [some (.ref a), some (.ref d), some (.int n), none] ∧ 2 ≤ n ∧ n ≤ 60 ∧ 0 ≤ s' ∧ s' ≤ 2 ∧ PenAt G d c s' r' ns ∧ Tabs T G) (fun kk hK => ?_) ?_
    · have put : ∀ {x s' r' : Int} {G : Hp}, 0 ≤ x → x < 59 → 0 ≤ s' → s' ≤ 2 → PenAt G d c s' r' ns → Tabs T G → kk [some (.ref a), some (.ref d), some (.int (2 + x)), none] G := fun {x s' r' G} x0 x1 a0 a1 p t => hK _ _ ⟨(2 + x).toNat, s', r', by rw [show (((2 + x).toNat : Nat) : Int) = 2 + x by omega], by omega, by omega, a0, a1, p, t⟩
      refine ⟨_, rfl, d, c, 0, 0, 5, ns, rfl, pen1, by decide, by decide, hl, by decide, by decide, fun x s2 r2 H2 x0 x1 a0 a1 p2 b2 => ?_⟩
      refine ⟨_, _, rfl, rfl, _, rfl, ?_⟩
      have T2 := tabs_but T1 pen1.dc (fun b o e n => b2 _ _ e n)
      refine ite2 (fun _ => ?_) (fun _ => ?_)
      · exact ⟨_, rfl, d, c, s2, r2, 4, ns, rfl, p2, a0, by omega, hl, by decide, by decide, fun y s3 r3 H3 y0 y1 a2 a3 p3 b3 => ⟨_, _, rfl, rfl, put y0 (by omega) a2 (by omega) p3 (tabs_but T2 p2.dc (fun b o e n => b3 _ _ e n))⟩⟩
      · exact ⟨_, rfl, d, c, s2, r2, 59, ns, rfl, p2, a0, by omega, hl, by decide, by decide, fun y s3 r3 H3 y0 y1 a2 a3 p3 b3 => ⟨_, _, rfl, rfl, put y0 (by omega) a2 (by omega) p3 (tabs_but T2 p2.dc (fun b o e n => b3 _ _ e n))⟩⟩
    rintro σ' G ⟨n, s2, r2, rfl, n2, n60, a0, a1, pen2, T2⟩
    refine seq_to (fun σ' G => ∃ (l : Addr) (ts : List V) (ps : List (Int × Int)) (s' r' : Int), σ' = [some (.ref a), some (.ref d), some (.int n), some (.ref l)] ∧ G l = some (.lst ts) ∧ Paired (PairV G) ts ps ∧ ps.length ≤ 12 ∧ (∀ p ∈ ps, NumD p) ∧ 0 ≤ s' ∧ s' ≤ 200 ∧ PenAt G d c s' r' ns ∧ Tabs T G) (fun kk hK => ?_) ?_
    · refine ⟨_, rfl, _, rfl, d, c, s2, r2, 13, ns, rfl, pen2, a0, by omega, hl, by decide, by decide, fun x s3 r3 H3 x0 x1 a2 a3 p3 b3 => ?_⟩
      obtain ⟨m, rfl⟩ : ∃ j : Nat, x = (j : Int) := ⟨x.toNat, by omega⟩
      have T3 := tabs_but T2 pen2.dc (fun b o e n => b3 _ _ e n)
      refine ⟨d, c, s3, r3, m, ns, rfl, p3, a2, by omega, by omega, hl, fun l ts ps s4 r4 H4 nl lps nd4 a4 a5 p4 b4 hl4 pr4 => ?_⟩
      exact hK _ _ ⟨l, ts, ps, s4, r4, rfl, hl4, pr4, by omega, nd4, a4, by omega, p4, tabs_but T3 p3.dc (fun b o e n => b4 _ _ e n)⟩
    rintro σ' G2 ⟨l, ts, ps, s3, r3, rfl, hl3, pr3, lps, nd3, a2, a3, pen3, T3⟩
    refine seq_to (fun σ' G => ∃ (l : Addr) (ts : List V) (ps : List (Int × Int)) (s' r' : Int), σ' = [some (.ref a), some (.ref d), some (.int n), some (.ref l)] ∧ G l = some (.lst ts) ∧ Paired (PairV G) ts ps ∧ ts.length ≤ 100 ∧ (∀ p ∈ ps, NumD p) ∧ 0 ≤ s' ∧ s' ≤ 300 ∧ PenAt G d c s' r' ns ∧ Tabs T G) (fun kk hK => ?_) ?_
    · refine ⟨_, rfl, d, c, s3, r3, 4, ns, rfl, pen3, a2, by omega, hl, by decide, by decide, fun x s4 r4 H4 x0 x1 a4 a5 p4 b4 => ?_⟩
      have T4 := tabs_but T3 pen3.dc (fun b o e n => b4 _ _ e n)
      have hl4 := b4.keep pen3 hl3 (fun _ z => by cases z)
      have pr4 : Paired (PairV H4) ts ps := Paired.mapP pr3 fun _ _ z => z.but pen3 b4
      have lts := paired_len pr4
      refine ⟨rfl, _, rfl, ?_⟩
      refine ite2 (fun _ => ?_) (fun _ => ?_)
      · refine ⟨_, rfl, _, rfl, d, c, s4, r4, 6, ns, rfl, p4, a4, by omega, hl, by decide, by decide, fun y s5 r5 H5 y0 y1 a6 a7 p5 b5 => ?_⟩
        have T5 := tabs_but T4 p4.dc (fun b o e n => b5 _ _ e n)
        have hl5 := b5.keep p4 hl4 (fun _ z => by cases z)
        have pr5 : Paired (PairV H5) ts ps := Paired.mapP pr4 fun _ _ z => z.but p4 b5
        have bound : ts.length * (1 + y).toNat ≤ 72 := Nat.le_trans (Nat.mul_le_mul (show ts.length ≤ 12 by omega) (show (1 + y).toNat ≤ 6 by omega)) (by decide)
        refine ⟨_, _, rfl, rfl, l, _, ts, rfl, rfl, hl5, by omega, by omega, Nat.le_trans bound (by decide), fun l2 nl2 => ?_⟩
        have z := Same.new (o := .lst (List.replicate (1 + y).toNat ts).flatten) (fun _ _ e => e : Same H5 H5) nl2
        refine hK _ _ ⟨l2, _, (List.replicate (1 + y).toNat ps).flatten, s5, r5, rfl, upd_same, Paired.mapP (paired_rep pr5 _) fun _ _ y => y.same z, ?_, fun p hp => ?_, a6, by omega, p5.to z, T5.ext z⟩
        · have e : (List.replicate (1 + y).toNat ts).flatten.length = (1 + y).toNat * ts.length := by simp
          rw [e, Nat.mul_comm]
          omega
        · obtain ⟨q, hq, hp⟩ := List.mem_flatten.mp hp
          rw [List.mem_replicate] at hq
          exact nd3 p (hq.2 ▸ hp)
      · exact hK _ _ ⟨l, ts, ps, s4, r4, rfl, hl4, pr4, by omega, nd3, a4, by omega, p4, T4⟩
    rintro σ' G3 ⟨l2, ts2, ps2, s4, r4, rfl, hl4, pr4, lts, nd4, a4, a5, pen4, T4⟩
    refine seq_to (fun σ' G => ∃ (s' r' : Int), σ' = [some (.ref a), some (.ref d), some (.int n), some (.ref l2)] ∧ G l2 = some (.lst ts2) ∧ Paired (PairV G) ts2 ps2 ∧ 0 ≤ s' ∧ s' ≤ 3000 ∧ PenAt G d c s' r' ns ∧ Tabs T G) (fun kk hK => ?_) ?_
    · refine ⟨_, rfl, _, rfl, _, rfl, d, c, l2, s4, r4, ns, n, ts2, ps2, rfl, pen4, a4, by omega, hl, hl4, pr4, nd4, n2, n60, lts, fun s5 r5 H5 a6 a7 p5 b5 => ?_⟩
      have T5 := tabs_but T4 pen4.dc (fun b o e n => b5 _ _ e n)
      refine ⟨_, rfl, ?_⟩
      refine ite2 (fun y => absurd y (by simp)) (fun _ => ?_)
      refine ⟨_, rfl, d, c, s5, r5, ns, rfl, p5, a6, by omega, hl, fun s6 r6 H6 a8 a9 p6 b6 => ?_⟩
      refine ⟨_, rfl, ?_⟩
      refine ite2 (fun y => absurd y (by simp)) (fun _ => ?_)
      have b := b5.tr b6
      exact hK _ _ ⟨s6, r6, rfl, b.keep pen4 hl4 (fun _ z => by cases z), Paired.mapP pr4 fun _ _ z => z.but pen4 b, a8, by omega, p6, tabs_but T5 p5.dc (fun b o e n => b6 _ _ e n)⟩
    rintro σ' G4 ⟨s5, r5, rfl, hl5, pr5, a6, a7, pen5, T5⟩
    exact ⟨_, rfl, _, rfl, _, rfl, d, c, l2, s5, r5, ns, n, ts2, ps2, rfl, pen5, a6, by omega, hl, hl5, pr5, nd4, n2, n60, lts, T5, fun H' => k H'⟩
end
end K03
end
section
set_option maxHeartbeats 4000000
namespace K03
open PySem PySem.Spec PyProof.Rows L2
section
variable {P : Program} {w : World} {K : PySem.W.Frag} {mg : Str → Option Value} {base : Heap} {cB cN C fI : Addr}
theorem ok_init0 {fd : FuncData} (F : FunD K "__init__" "Ratio.__init__" (defArgs sInit) (defBody sInit) (defScope sInit) [.int 1] [] fI fd) (T : ErrR P w K mg base cB cN) (R : RatC K mg C fI) (B : TxtR mg) : FnOk P w K mg base (L2.CX P w) 4 fI fd ["self", "top", "bottom"] (spInit K C cB cN) := by
  refine F.ok (CX := L2.CX P w) scInit (fun vs H Q E h => ?_) (fun cdv A outer s H vs Q E hr h => ?_)
  · obtain ⟨a, dx, x, y, rfl, _⟩ := h
    rfl
  · obtain ⟨a, dx, x, y, rfl, ha, k⟩ := h
    have nd := scInit.nd
    have hr2 : Room 2 _ := hr.mono (by decide)
    refine ⟨_, pss_cons (ps_if (pt_noInt B (fun _ => pv 1)) (pss_one (ps_raise rfl (takes_of rfl rfl rfl rfl) (pmk_retX rfl (pe_one1 T.B hr2 (pv 1))))) pss_nil)
      (pss_cons (ps_if (pt_noInt B (fun _ => pv 2)) (pss_one (ps_raise rfl (takes_of rfl rfl rfl rfl) (pmk_retX rfl (pe_one1 T.B hr2 (pv 2))))) pss_nil)
      (pss_cons (ps_set (i := 3) nd rfl (Or.inl rfl) (pe_callBfun cr_gcd (by rfl) B.gcd (pa_cons (pv 1) (pa_cons (pv 2) pa_nil))))
      (pss_cons (ps_if (pt_cmpR op_lt (pv 2) pe_int (nomark _)) (pss_one (ps_set (i := 3) nd rfl (Or.inl rfl) (pe_un un_neg (pv 3)))) pss_nil)
      (pss_cons (ps_if (PW.pt (pw_or (pt_cmpR op_eq (pv 3) pe_int (nomark _)) (pw_or1 (pt_cmpR op_eq (pv 2) pe_int (nomark _))))) (pss_one (ps_raise rfl (takes_of rfl rfl rfl rfl) (pmk_ret rfl (pe_bare T.N)))) pss_nil)
      (pss_one (ps_if (pt_cmpR op_eq (pv 3) pe_int (nomark _)) (pss_cons (ps_fld (pv 0) (pv 1) rfl) (pss_one (ps_fld (pv 0) (pv 2) rfl)))
        (pss_cons (ps_fld (pv 0) (pe_op op_fdivZ (pv 1) (pv 3)) rfl)
          (pss_one (ps_fld (pv 0) (pe_op op_fdivZ (pv 2) (pv 3)) rfl))))))))), ?_⟩
    cases k with
    | top n q => exact ⟨_, rfl, .inr ⟨n, _, rfl, fun a' dx' H1 ha' hd s e ed ne => ⟨a', _, dx', rfl, e, fr0_none ha', raises_own T.B.Z.su T.tB, q dx' _ hd (same_del s ha') (by rw [delH_ne ne]; exact ed)⟩⟩⟩
    | bot t hx n q =>
      subst hx
      exact ⟨_, rfl, .inl ⟨⟨t, rfl⟩, _, rfl, .inr ⟨n, _, rfl, fun a' dx' H1 ha' hd s e ed ne => ⟨a', _, dx', rfl, e, fr0_none ha', raises_own T.B.Z.su T.tB, q dx' _ hd (same_del s ha') (by rw [delH_ne ne]; exact ed)⟩⟩⟩⟩
    | zero t hx hy q =>
      subst hx hy
      refine ⟨_, rfl, .inl ⟨⟨t, rfl⟩, _, rfl, .inl ⟨⟨0, rfl⟩, _, rfl, _, rfl, t, 0, rfl, _, rfl, _, _, rfl, rfl, _, rfl, ?_⟩⟩⟩
      show ite _ _ _; rw [if_neg (by decide)]
      refine ⟨_, rfl, rfl, _, rfl, ?_⟩
      refine ite2 (fun hb => ?_) (fun hb => ?_)
      · show ite _ _ _; rw [if_pos rfl]
        exact fun a' H1 ha' s e => ⟨a', _, rfl, e, fr0_none ha', raises_own T.N.Z.su T.tN, q _ (same_del s ha')⟩
      · refine ⟨_, rfl, rfl, _, rfl, ?_⟩
        show ite _ _ _; rw [if_pos (by decide)]
        exact fun a' H1 ha' s e => ⟨a', _, rfl, e, fr0_none ha', raises_own T.N.Z.su T.tN, q _ (same_del s ha')⟩
    | good t b hx hy h0 hs q =>
      subst hx hy
      refine ⟨_, rfl, .inl ⟨⟨t, rfl⟩, _, rfl, .inl ⟨⟨b, rfl⟩, _, rfl, _, rfl, t, b, rfl, _, rfl, _, _, rfl, rfl, _, rfl, ?_⟩⟩⟩
      have dv : ∀ i, CDivZ i (shr t b) := fun i => ⟨shr_ne h0, log2_le (shr_le h0) (by have := shr_ne (t := t) h0; omega) hs (by decide)⟩
      have l1 : shr t b = 1 → low t b = (t, b) := fun e => by unfold low; rw [e]; simp
      refine ite2 (fun hb => ?_) (fun hb => ?_)
      · have e : -((Nat.gcd t.natAbs b.natAbs : Nat) : Int) = shr t b := by
          unfold shr
          rw [if_pos (by simpa using hb)]
        have ne0 := shr_ne (t := t) h0
        rw [← e] at ne0
        refine ⟨_, rfl, _, rfl, ?_⟩
        refine ⟨_, rfl, rfl, _, rfl, ?_⟩
        show ite _ _ _; rw [if_neg (by simpa using ne0)]
        refine ⟨_, rfl, rfl, _, rfl, ?_⟩
        show ite _ _ _; rw [if_neg (by simpa using h0)]
        refine ⟨_, rfl, rfl, _, rfl, ?_⟩
        refine ite2 (fun h1 => ?_) (fun h1 => ?_)
        · refine ⟨_, rfl, _, rfl, a, C, dx, [], rfl, ha, R.c, R.nT, by decide, ?_⟩
          refine ⟨_, rfl, _, rfl, a, C, dx, _, rfl, upd_same, R.c, R.nB, (by show (1 : Nat) < 1000; decide), ?_⟩
          rw [upd_upd, putTB]
          rw [l1 (by rw [← e]; simpa using h1)] at q
          exact q
        · refine ⟨_, rfl, _, rfl, _, _, rfl, rfl, by rw [e]; exact dv _, _, rfl, a, C, dx, [], rfl, ha, R.c, R.nT, by decide, ?_⟩
          refine ⟨_, rfl, _, rfl, _, _, rfl, rfl, by rw [e]; exact dv _, _, rfl, a, C, dx, _, rfl, upd_same, R.c, R.nB, (by show (1 : Nat) < 1000; decide), ?_⟩
          rw [e, upd_upd, putTB]
          exact q
      · have e : ((Nat.gcd t.natAbs b.natAbs : Nat) : Int) = shr t b := by
          unfold shr
          rw [if_neg (by simpa using hb)]
        have ne0 := shr_ne (t := t) h0
        rw [← e] at ne0
        refine ⟨_, rfl, rfl, _, rfl, ?_⟩
        show ite _ _ _; rw [if_neg (by simpa using ne0)]
        refine ⟨_, rfl, rfl, _, rfl, ?_⟩
        show ite _ _ _; rw [if_neg (by simpa using h0)]
        refine ⟨_, rfl, rfl, _, rfl, ?_⟩
        refine ite2 (fun h1 => ?_) (fun h1 => ?_)
        · refine ⟨_, rfl, _, rfl, a, C, dx, [], rfl, ha, R.c, R.nT, by decide, ?_⟩
          refine ⟨_, rfl, _, rfl, a, C, dx, _, rfl, upd_same, R.c, R.nB, (by show (1 : Nat) < 1000; decide), ?_⟩
          rw [upd_upd, putTB]
          rw [l1 (by rw [← e]; simpa using h1)] at q
          exact q
        · refine ⟨_, rfl, _, rfl, _, _, rfl, rfl, by rw [e]; exact dv _, _, rfl, a, C, dx, [], rfl, ha, R.c, R.nT, by decide, ?_⟩
          refine ⟨_, rfl, _, rfl, _, _, rfl, rfl, by rw [e]; exact dv _, _, rfl, a, C, dx, _, rfl, upd_same, R.c, R.nB, (by show (1 : Nat) < 1000; decide), ?_⟩
          rw [e, upd_upd, putTB]
          exact q
end
theorem mk_rat0 {P : Program} {w : World} {K : PySem.W.Frag} {mg : Str → Option Value} {base : Heap} {fI cB cN C : Addr} {fd : FuncData} (F : FunD K "__init__" "Ratio.__init__" (defArgs sInit) (defBody sInit) (defScope sInit) [.int 1] [] fI fd) (T : ErrR P w K mg base cB cN) (R : RatC K mg C fI) (B : TxtR mg) (ty : ∀ (H : Hp) (a dx : Addr) (fs : List (Str × V)), H a = some (.ins C dx fs) → TyX K H (.ref a) (.ref C)) : Rat P w K mg base cB cN C fI := by
  refine ⟨R, ⟨fd, ok_init0 F T R B, F.binds1 2 0 (by simp) rfl (fun T kV doc pm an cdv ct us its h1 h2 => ?_), ?_⟩, ty, B⟩
  · match us, its, h1, h2 with
    | [a, b], [c], _, _ => exact ⟨_, rfl, rfl⟩
  · obtain ⟨ds, h1, h2⟩ := F.binds1 (ps := ["self", "top", "bottom"]) 3 1 (by simp) rfl (fun T kV doc pm an cdv ct us its h1 h2 => by
      match us, its, h1, h2 with
      | [a, b, c], [e], _, _ => exact ⟨_, rfl, rfl⟩)
    have h1 : Vals [] ds := h1
    cases h1
    exact h2
end K03
end
section
set_option maxHeartbeats 0
set_option exponentiation.threshold 100000
namespace K03
open PySem PySem.Spec PyProof.Rows L2 LamX NdefX L3 TL HX
open He (ga ma)
def D_is_integer : He.DefD := ⟨("is_integer", none), "is_integer", "is_integer", defArgs sIsInt, defBody sIsInt, defScope sIsInt, [], []⟩
def D_is_list : He.DefD := ⟨("is_list", none), "is_list", "is_list", defArgs sIsList, defBody sIsList, defScope sIsList, [], []⟩
def D_is_within : He.DefD := ⟨("is_within", none), "is_within", "is_within", defArgs sIsW, defBody sIsW, defScope sIsW, [], []⟩
def D_need_within : He.DefD := ⟨("need_within", none), "need_within", "need_within", defArgs sNeedW, defBody sNeedW, defScope sNeedW, [], []⟩
def D_need_list : He.DefD := ⟨("need_list", none), "need_list", "need_list", defArgs sNeedL, defBody sNeedL, defScope sNeedL, [], []⟩
def D_is_ratio : He.DefD := ⟨("is_ratio", none), "is_ratio", "is_ratio", defArgs sIsR, defBody sIsR, defScope sIsR, [], []⟩
def D_as_ratio : He.DefD := ⟨("as_ratio", none), "as_ratio", "as_ratio", defArgs sAs, defBody sAs, defScope sAs, [], []⟩
def D_ratio_list : He.DefD := ⟨("ratio_list", none), "ratio_list", "ratio_list", defArgs sRList, defBody sRList, defScope sRList, [], []⟩
def D_need_many : He.DefD := ⟨("need_many", none), "need_many", "need_many", defArgs sNeedM, defBody sNeedM, defScope sNeedM, [], []⟩
def D_need_rest : He.DefD := ⟨("need_rest", none), "need_rest", "need_rest", defArgs sNeedR, defBody sNeedR, defScope sNeedR, [], []⟩
def D_dealt : He.DefD := ⟨("dealt", none), "dealt", "dealt", defArgs sDealt, defBody sDealt, defScope sDealt, [], []⟩
def D_woven : He.DefD := ⟨("woven", none), "woven", "woven", defArgs sWov, defBody sWov, defScope sWov, [], []⟩
def D_told_lists : He.DefD := ⟨("told_lists", none), "told_lists", "told_lists", defArgs sTold, defBody sTold, defScope sTold, [], []⟩
def D_thinned : He.DefD := ⟨("thinned", none), "thinned", "thinned", defArgs sThin, defBody sThin, defScope sThin, [], []⟩
def D_stretched : He.DefD := ⟨("stretched", none), "stretched", "stretched", defArgs sStr, defBody sStr, defScope sStr, [], []⟩
def D_held : He.DefD := ⟨("held", none), "held", "held", defArgs sHeld, defBody sHeld, defScope sHeld, [], []⟩
def D__law_shown : He.DefD := ⟨("_law_shown", none), "_law_shown", "_law_shown", defArgs sShown, defBody sShown, defScope sShown, [], []⟩
def D__law_pair : He.DefD := ⟨("_law_pair", none), "_law_pair", "_law_pair", defArgs sPair2, defBody sPair2, defScope sPair2, [], []⟩
def D__law_fault : He.DefD := ⟨("_law_fault", none), "_law_fault", "_law_fault", defArgs sFault2, defBody sFault2, defScope sFault2, [], []⟩
def D__law_is_refused : He.DefD := ⟨("_law_is_refused", none), "_law_is_refused", "_law_is_refused", defArgs sIsRef, defBody sIsRef, defScope sIsRef, [], []⟩
def D__law_begin : He.DefD := ⟨("_law_begin", none), "_law_begin", "_law_begin", defArgs sBegin, defBody sBegin, defScope sBegin, [], []⟩
def D__law_draw : He.DefD := ⟨("_law_draw", none), "_law_draw", "_law_draw", defArgs sDraw2, defBody sDraw2, defScope sDraw2, [], []⟩
def D__law_pick : He.DefD := ⟨("_law_pick", none), "_law_pick", "_law_pick", defArgs sPick2, defBody sPick2, defScope sPick2, [], []⟩
def D__law_gcd : He.DefD := ⟨("_law_gcd", none), "_law_gcd", "_law_gcd", defArgs sGcd2, defBody sGcd2, defScope sGcd2, [], []⟩
def D__law_q : He.DefD := ⟨("_law_q", none), "_law_q", "_law_q", defArgs sQ2, defBody sQ2, defScope sQ2, [], []⟩
def D__law_number : He.DefD := ⟨("_law_number", none), "_law_number", "_law_number", defArgs sNum2, defBody sNum2, defScope sNum2, [], []⟩
def D__law_numbers : He.DefD := ⟨("_law_numbers", none), "_law_numbers", "_law_numbers", defArgs sNums, defBody sNums, defScope sNums, [], []⟩
def D__law_told : He.DefD := ⟨("_law_told", none), "_law_told", "_law_told", defArgs sTld2, defBody sTld2, defScope sTld2, [], []⟩
def D__law_pair_of : He.DefD := ⟨("_law_pair_of", none), "_law_pair_of", "_law_pair_of", defArgs sPO, defBody sPO, defScope sPO, [], []⟩
def D__law_pairs_of : He.DefD := ⟨("_law_pairs_of", none), "_law_pairs_of", "_law_pairs_of", defArgs sPOs, defBody sPOs, defScope sPOs, [], []⟩
def D__law_lists_of : He.DefD := ⟨("_law_lists_of", none), "_law_lists_of", "_law_lists_of", defArgs sLO, defBody sLO, defScope sLO, [], []⟩
def D__law_dealt_due : He.DefD := ⟨("_law_dealt_due", none), "_law_dealt_due", "_law_dealt_due", defArgs sDueD, defBody sDueD, defScope sDueD, [], []⟩
def D__law_woven_due : He.DefD := ⟨("_law_woven_due", none), "_law_woven_due", "_law_woven_due", defArgs sWovD, defBody sWovD, defScope sWovD, [], []⟩
def D__law_stretched_due : He.DefD := ⟨("_law_stretched_due", none), "_law_stretched_due", "_law_stretched_due", defArgs sStrD, defBody sStrD, defScope sStrD, [], []⟩
def D__law_held_due : He.DefD := ⟨("_law_held_due", none), "_law_held_due", "_law_held_due", defArgs sHeldD, defBody sHeldD, defScope sHeldD, [], []⟩
def D__law_plain_right : He.DefD := ⟨("_law_plain_right", none), "_law_plain_right", "_law_plain_right", defArgs sPlain, defBody sPlain, defScope sPlain, [], []⟩
def D__law_woven_right : He.DefD := ⟨("_law_woven_right", none), "_law_woven_right", "_law_woven_right", defArgs sWovR, defBody sWovR, defScope sWovR, [], []⟩
def D__law_refused_right : He.DefD := ⟨("_law_refused_right", none), "_law_refused_right", "_law_refused_right", defArgs sRefR2, defBody sRefR2, defScope sRefR2, [], []⟩
def D_law : He.DefD := ⟨("law", none), "law", "law", defArgs sLaw2, defBody sLaw2, defScope sLaw2, [], []⟩
def D_BadValue___init__ : He.DefD := ⟨("BadValue", some "__init__"), "__init__", "BadValue.__init__", defArgs iBad, defBody iBad, defScope iBad, [], []⟩
def D_Ratio___init__ : He.DefD := ⟨("Ratio", some "__init__"), "__init__", "Ratio.__init__", defArgs sInit, defBody sInit, defScope sInit, [.int 1], []⟩
def fn : List He.DefD := [D_is_integer, D_is_list, D_is_within, D_need_within, D_need_list, D_is_ratio, D_as_ratio, D_ratio_list, D_need_many, D_need_rest, D_dealt, D_woven, D_told_lists, D_thinned, D_stretched, D_held, D__law_shown, D__law_pair, D__law_fault, D__law_is_refused, D__law_begin, D__law_draw, D__law_pick, D__law_gcd, D__law_q, D__law_number, D__law_numbers, D__law_told, D__law_pair_of, D__law_pairs_of, D__law_lists_of, D__law_dealt_due, D__law_woven_due, D__law_stretched_due, D__law_held_due, D__law_plain_right, D__law_woven_right, D__law_refused_right, D_law, D_BadValue___init__, D_Ratio___init__]
def fa0 : List He.Fa := [.glo "is_integer", .glo "is_list", .glo "is_within", .glo "need_within", .glo "need_list", .glo "is_ratio", .glo "as_ratio", .glo "ratio_list", .glo "need_many", .glo "need_rest", .glo "dealt", .glo "woven"]
def fa1 : List He.Fa := [.glo "told_lists", .glo "thinned", .glo "stretched", .glo "held", .glo "_law_shown", .glo "_law_pair", .glo "_law_fault", .glo "_law_is_refused", .glo "_law_begin", .glo "_law_draw", .glo "_law_pick", .glo "_law_gcd"]
def fa2 : List He.Fa := [.glo "_law_q", .glo "_law_number", .glo "_law_numbers", .glo "_law_told", .glo "_law_pair_of", .glo "_law_pairs_of", .glo "_law_lists_of", .glo "_law_dealt_due", .glo "_law_woven_due", .glo "_law_stretched_due", .glo "_law_held_due", .glo "_law_plain_right"]
def fa3 : List He.Fa := [.glo "_law_woven_right", .glo "_law_refused_right", .glo "law", .glo "BadValue", .glo "NoDivisor", .glo "Ratio", .free "int", .free "bool", .free "isinstance", .free "abs", .free "str", .free "list"]
def fa4 : List He.Fa := [.free "len", .free "range", .free "min", .free "all", .free "max", .free "tuple", .int "LEAST" 2, .int "MOST" 60, .cls "Ratio", .noat "Ratio" "top", .noat "Ratio" "bottom", .mkr "Ratio"]
def fa5 : List He.Fa := [.exm "BadValue" "BadValue" true]
def fa : List He.Fa := fa0 ++ (fa1 ++ (fa2 ++ (fa3 ++ (fa4 ++ (fa5)))))
def pRef : He.Defn := ("_law_refused_right", none)
def tf : List He.Defn := [pRef]
def exB (K : PySem.W.Frag) : Bool := oneB K (ga K "BadValue") "value" && (bareB K (ga K "NoDivisor") && (top1B K (ga K "Ratio") && (tyB K (ga K "Ratio") && bltB K "gcd" "math.gcd")))
def names0 : List Str := ["_wall", "StreamError", "BadValue", "NoDivisor", "is_integer", "is_list", "is_within", "need_within", "need_list", "Mark", "looks_after", "GROUP"]
def names1 : List Str := ["Ratio", "is_ratio", "as_ratio", "operand", "ratio_list", "whole_text", "LEAST", "MOST", "need_many", "need_rest", "dealt", "woven"]
def names2 : List Str := ["told_lists", "thinned", "stretched", "held", "_law_shown", "_law_pair", "_law_fault", "_law_is_refused", "_law_begin", "_law_draw", "_law_pick", "_law_gcd"]
def names3 : List Str := ["_law_q", "_law_number", "_law_numbers", "_law_told", "_law_pair_of", "_law_pairs_of", "_law_lists_of", "_law_dealt_due", "_law_woven_due", "_law_stretched_due", "_law_held_due", "_law_plain_right"]
def names4 : List Str := ["_law_woven_right", "_law_refused_right", "law"]
def names : List Str := names0 ++ (names1 ++ (names2 ++ (names3 ++ (names4))))
abbrev R : PySem.W.OpenRow := PySem.W.OpenLaw.row PySem.Challenge.rw_allstreams_k22_lanes_dealt_and_woven
abbrev hk : PySem.W.Hook := He.hookX 4 fa fn [] tf exB
def ob (s : PySem.W.SharedT) : He.AlX := He.obsX 4 fa fn [] tf exB (HandSHeadRun.getT s)
theorem ob_eq (s : PySem.W.SharedT) : ob s = hk.obs s.abs := He.obsX_eq (HandSHeadRun.getT_eq s)
theorem run (w : World) : HandSHeadRun.RunEqI R (PySem.W.view R.prog [0, 57]) hk ob 20000 names w := by
  unfold HandSHeadRun.RunEqI
  kernel_rfl
abbrev FnP (K : PySem.W.Frag) (x : Str) (st : Stmt) (fd : FuncData) : Prop := FunD K x x (defArgs st) (defBody st) (defScope st) [] [] (ga K x) fd
abbrev MthP (K : PySem.W.Frag) (C m q : Str) (st : Stmt) (ds : List V) (fd : FuncData) : Prop := FunD K m q (defArgs st) (defBody st) (defScope st) ds [] (ma K (ga K C) m) fd
theorem facts {w : World} {K : PySem.W.Frag} {h : Heap} {mg : Str → Option Value} {f : Addr} (X : K.In h) (G : h.Ns mainGlobals mg) (hfa : mg ("law" : Str) = some (.ref f)) (c : He.SaysX fa fn [] tf exB w h K) : LawAtS PySem.Challenge.rw_allstreams_k22_lanes_dealt_and_woven w K CX0 13 63 "_law_script" mg f h := by
  obtain ⟨dis_integer, Fis_integer⟩ : ∃ fd, FnP K "is_integer" sIsInt fd := c.t.d.def_ 0 (d := D_is_integer) rfl
  have gis_integer : mg "is_integer" = some (.ref (ga K "is_integer")) := He.glo_ok X G (c.t.d.fact 0 (f := .glo "is_integer") rfl)
  have bis_integer : Binds K dis_integer ["value"] [] := Fis_integer.bindsN (ps := ["value"]) fun _ _ _ _ _ _ us hl => match us, hl with | [_], _ => rfl
  obtain ⟨dis_list, Fis_list⟩ : ∃ fd, FnP K "is_list" sIsList fd := c.t.d.def_ 1 (d := D_is_list) rfl
  have gis_list : mg "is_list" = some (.ref (ga K "is_list")) := He.glo_ok X G (c.t.d.fact 1 (f := .glo "is_list") rfl)
  have bis_list : Binds K dis_list ["value"] [] := Fis_list.bindsN (ps := ["value"]) fun _ _ _ _ _ _ us hl => match us, hl with | [_], _ => rfl
  obtain ⟨dis_within, Fis_within⟩ : ∃ fd, FnP K "is_within" sIsW fd := c.t.d.def_ 2 (d := D_is_within) rfl
  have gis_within : mg "is_within" = some (.ref (ga K "is_within")) := He.glo_ok X G (c.t.d.fact 2 (f := .glo "is_within") rfl)
  have bis_within : Binds K dis_within ["value", "low", "high"] [] := Fis_within.bindsN (ps := ["value", "low", "high"]) fun _ _ _ _ _ _ us hl => match us, hl with | [_, _, _], _ => rfl
  obtain ⟨dneed_within, Fneed_within⟩ : ∃ fd, FnP K "need_within" sNeedW fd := c.t.d.def_ 3 (d := D_need_within) rfl
  have gneed_within : mg "need_within" = some (.ref (ga K "need_within")) := He.glo_ok X G (c.t.d.fact 3 (f := .glo "need_within") rfl)
  have bneed_within : Binds K dneed_within ["value", "low", "high"] [] := Fneed_within.bindsN (ps := ["value", "low", "high"]) fun _ _ _ _ _ _ us hl => match us, hl with | [_, _, _], _ => rfl
  obtain ⟨dneed_list, Fneed_list⟩ : ∃ fd, FnP K "need_list" sNeedL fd := c.t.d.def_ 4 (d := D_need_list) rfl
  have gneed_list : mg "need_list" = some (.ref (ga K "need_list")) := He.glo_ok X G (c.t.d.fact 4 (f := .glo "need_list") rfl)
  have bneed_list : Binds K dneed_list ["value"] [] := Fneed_list.bindsN (ps := ["value"]) fun _ _ _ _ _ _ us hl => match us, hl with | [_], _ => rfl
  obtain ⟨dis_ratio, Fis_ratio⟩ : ∃ fd, FnP K "is_ratio" sIsR fd := c.t.d.def_ 5 (d := D_is_ratio) rfl
  have gis_ratio : mg "is_ratio" = some (.ref (ga K "is_ratio")) := He.glo_ok X G (c.t.d.fact 5 (f := .glo "is_ratio") rfl)
  have bis_ratio : Binds K dis_ratio ["value"] [] := Fis_ratio.bindsN (ps := ["value"]) fun _ _ _ _ _ _ us hl => match us, hl with | [_], _ => rfl
  obtain ⟨das_ratio, Fas_ratio⟩ : ∃ fd, FnP K "as_ratio" sAs fd := c.t.d.def_ 6 (d := D_as_ratio) rfl
  have gas_ratio : mg "as_ratio" = some (.ref (ga K "as_ratio")) := He.glo_ok X G (c.t.d.fact 6 (f := .glo "as_ratio") rfl)
  have bas_ratio : Binds K das_ratio ["value"] [] := Fas_ratio.bindsN (ps := ["value"]) fun _ _ _ _ _ _ us hl => match us, hl with | [_], _ => rfl
  obtain ⟨dratio_list, Fratio_list⟩ : ∃ fd, FnP K "ratio_list" sRList fd := c.t.d.def_ 7 (d := D_ratio_list) rfl
  have gratio_list : mg "ratio_list" = some (.ref (ga K "ratio_list")) := He.glo_ok X G (c.t.d.fact 7 (f := .glo "ratio_list") rfl)
  have bratio_list : Binds K dratio_list ["values"] [] := Fratio_list.bindsN (ps := ["values"]) fun _ _ _ _ _ _ us hl => match us, hl with | [_], _ => rfl
  obtain ⟨dneed_many, Fneed_many⟩ : ∃ fd, FnP K "need_many" sNeedM fd := c.t.d.def_ 8 (d := D_need_many) rfl
  have gneed_many : mg "need_many" = some (.ref (ga K "need_many")) := He.glo_ok X G (c.t.d.fact 8 (f := .glo "need_many") rfl)
  have bneed_many : Binds K dneed_many ["value"] [] := Fneed_many.bindsN (ps := ["value"]) fun _ _ _ _ _ _ us hl => match us, hl with | [_], _ => rfl
  obtain ⟨dneed_rest, Fneed_rest⟩ : ∃ fd, FnP K "need_rest" sNeedR fd := c.t.d.def_ 9 (d := D_need_rest) rfl
  have gneed_rest : mg "need_rest" = some (.ref (ga K "need_rest")) := He.glo_ok X G (c.t.d.fact 9 (f := .glo "need_rest") rfl)
  have bneed_rest : Binds K dneed_rest ["value", "many"] [] := Fneed_rest.bindsN (ps := ["value", "many"]) fun _ _ _ _ _ _ us hl => match us, hl with | [_, _], _ => rfl
  obtain ⟨ddealt, Fdealt⟩ : ∃ fd, FnP K "dealt" sDealt fd := c.t.d.def_ 10 (d := D_dealt) rfl
  have gdealt : mg "dealt" = some (.ref (ga K "dealt")) := He.glo_ok X G (c.t.d.fact 10 (f := .glo "dealt") rfl)
  have bdealt : Binds K ddealt ["items", "many"] [] := Fdealt.bindsN (ps := ["items", "many"]) fun _ _ _ _ _ _ us hl => match us, hl with | [_, _], _ => rfl
  obtain ⟨dwoven, Fwoven⟩ : ∃ fd, FnP K "woven" sWov fd := c.t.d.def_ 11 (d := D_woven) rfl
  have gwoven : mg "woven" = some (.ref (ga K "woven")) := He.glo_ok X G (c.t.d.fact 11 (f := .glo "woven") rfl)
  have bwoven : Binds K dwoven ["lists"] [] := Fwoven.bindsN (ps := ["lists"]) fun _ _ _ _ _ _ us hl => match us, hl with | [_], _ => rfl
  obtain ⟨dtold_lists, Ftold_lists⟩ : ∃ fd, FnP K "told_lists" sTold fd := c.t.d.def_ 12 (d := D_told_lists) rfl
  have gtold_lists : mg "told_lists" = some (.ref (ga K "told_lists")) := He.glo_ok X G (c.t.d.fact 12 (f := .glo "told_lists") rfl)
  have btold_lists : Binds K dtold_lists ["lists"] [] := Ftold_lists.bindsN (ps := ["lists"]) fun _ _ _ _ _ _ us hl => match us, hl with | [_], _ => rfl
  obtain ⟨dthinned, Fthinned⟩ : ∃ fd, FnP K "thinned" sThin fd := c.t.d.def_ 13 (d := D_thinned) rfl
  have gthinned : mg "thinned" = some (.ref (ga K "thinned")) := He.glo_ok X G (c.t.d.fact 13 (f := .glo "thinned") rfl)
  have bthinned : Binds K dthinned ["items", "many", "rest"] [] := Fthinned.bindsN (ps := ["items", "many", "rest"]) fun _ _ _ _ _ _ us hl => match us, hl with | [_, _, _], _ => rfl
  obtain ⟨dstretched, Fstretched⟩ : ∃ fd, FnP K "stretched" sStr fd := c.t.d.def_ 14 (d := D_stretched) rfl
  have gstretched : mg "stretched" = some (.ref (ga K "stretched")) := He.glo_ok X G (c.t.d.fact 14 (f := .glo "stretched") rfl)
  have bstretched : Binds K dstretched ["items", "many"] [] := Fstretched.bindsN (ps := ["items", "many"]) fun _ _ _ _ _ _ us hl => match us, hl with | [_, _], _ => rfl
  obtain ⟨dheld, Fheld⟩ : ∃ fd, FnP K "held" sHeld fd := c.t.d.def_ 15 (d := D_held) rfl
  have gheld : mg "held" = some (.ref (ga K "held")) := He.glo_ok X G (c.t.d.fact 15 (f := .glo "held") rfl)
  have bheld : Binds K dheld ["items", "many"] [] := Fheld.bindsN (ps := ["items", "many"]) fun _ _ _ _ _ _ us hl => match us, hl with | [_, _], _ => rfl
  obtain ⟨d_law_shown, F_law_shown⟩ : ∃ fd, FnP K "_law_shown" sShown fd := c.t.d.def_ 16 (d := D__law_shown) rfl
  have g_law_shown : mg "_law_shown" = some (.ref (ga K "_law_shown")) := He.glo_ok X G (c.t.d.fact 16 (f := .glo "_law_shown") rfl)
  have b_law_shown : Binds K d_law_shown ["_law_pen", "_law_items"] [] := F_law_shown.bindsN (ps := ["_law_pen", "_law_items"]) fun _ _ _ _ _ _ us hl => match us, hl with | [_, _], _ => rfl
  obtain ⟨d_law_pair, F_law_pair⟩ : ∃ fd, FnP K "_law_pair" sPair2 fd := c.t.d.def_ 17 (d := D__law_pair) rfl
  have g_law_pair : mg "_law_pair" = some (.ref (ga K "_law_pair")) := He.glo_ok X G (c.t.d.fact 17 (f := .glo "_law_pair") rfl)
  have b_law_pair : Binds K d_law_pair ["_law_item"] [] := F_law_pair.bindsN (ps := ["_law_item"]) fun _ _ _ _ _ _ us hl => match us, hl with | [_], _ => rfl
  obtain ⟨d_law_fault, F_law_fault⟩ : ∃ fd, FnP K "_law_fault" sFault2 fd := c.t.d.def_ 18 (d := D__law_fault) rfl
  have g_law_fault : mg "_law_fault" = some (.ref (ga K "_law_fault")) := He.glo_ok X G (c.t.d.fact 18 (f := .glo "_law_fault") rfl)
  have b_law_fault : Binds K d_law_fault ["_law_deed"] [] := F_law_fault.bindsN (ps := ["_law_deed"]) fun _ _ _ _ _ _ us hl => match us, hl with | [_], _ => rfl
  obtain ⟨d_law_is_refused, F_law_is_refused⟩ : ∃ fd, FnP K "_law_is_refused" sIsRef fd := c.t.d.def_ 19 (d := D__law_is_refused) rfl
  have g_law_is_refused : mg "_law_is_refused" = some (.ref (ga K "_law_is_refused")) := He.glo_ok X G (c.t.d.fact 19 (f := .glo "_law_is_refused") rfl)
  have b_law_is_refused : Binds K d_law_is_refused ["_law_deed", "_law_value"] [] := F_law_is_refused.bindsN (ps := ["_law_deed", "_law_value"]) fun _ _ _ _ _ _ us hl => match us, hl with | [_, _], _ => rfl
  obtain ⟨d_law_begin, F_law_begin⟩ : ∃ fd, FnP K "_law_begin" sBegin fd := c.t.d.def_ 20 (d := D__law_begin) rfl
  have g_law_begin : mg "_law_begin" = some (.ref (ga K "_law_begin")) := He.glo_ok X G (c.t.d.fact 20 (f := .glo "_law_begin") rfl)
  have b_law_begin : Binds K d_law_begin ["_law_script"] [] := F_law_begin.bindsN (ps := ["_law_script"]) fun _ _ _ _ _ _ us hl => match us, hl with | [_], _ => rfl
  obtain ⟨d_law_draw, F_law_draw⟩ : ∃ fd, FnP K "_law_draw" sDraw2 fd := c.t.d.def_ 21 (d := D__law_draw) rfl
  have g_law_draw : mg "_law_draw" = some (.ref (ga K "_law_draw")) := He.glo_ok X G (c.t.d.fact 21 (f := .glo "_law_draw") rfl)
  have b_law_draw : Binds K d_law_draw ["_law_pen", "_law_span"] [] := F_law_draw.bindsN (ps := ["_law_pen", "_law_span"]) fun _ _ _ _ _ _ us hl => match us, hl with | [_, _], _ => rfl
  obtain ⟨d_law_pick, F_law_pick⟩ : ∃ fd, FnP K "_law_pick" sPick2 fd := c.t.d.def_ 22 (d := D__law_pick) rfl
  have g_law_pick : mg "_law_pick" = some (.ref (ga K "_law_pick")) := He.glo_ok X G (c.t.d.fact 22 (f := .glo "_law_pick") rfl)
  have b_law_pick : Binds K d_law_pick ["_law_pen", "_law_some"] [] := F_law_pick.bindsN (ps := ["_law_pen", "_law_some"]) fun _ _ _ _ _ _ us hl => match us, hl with | [_, _], _ => rfl
  obtain ⟨d_law_gcd, F_law_gcd⟩ : ∃ fd, FnP K "_law_gcd" sGcd2 fd := c.t.d.def_ 23 (d := D__law_gcd) rfl
  have g_law_gcd : mg "_law_gcd" = some (.ref (ga K "_law_gcd")) := He.glo_ok X G (c.t.d.fact 23 (f := .glo "_law_gcd") rfl)
  have b_law_gcd : Binds K d_law_gcd ["_law_one", "_law_other"] [] := F_law_gcd.bindsN (ps := ["_law_one", "_law_other"]) fun _ _ _ _ _ _ us hl => match us, hl with | [_, _], _ => rfl
  obtain ⟨d_law_q, F_law_q⟩ : ∃ fd, FnP K "_law_q" sQ2 fd := c.t.d.def_ 24 (d := D__law_q) rfl
  have g_law_q : mg "_law_q" = some (.ref (ga K "_law_q")) := He.glo_ok X G (c.t.d.fact 24 (f := .glo "_law_q") rfl)
  have b_law_q : Binds K d_law_q ["_law_top", "_law_bottom"] [] := F_law_q.bindsN (ps := ["_law_top", "_law_bottom"]) fun _ _ _ _ _ _ us hl => match us, hl with | [_, _], _ => rfl
  obtain ⟨d_law_number, F_law_number⟩ : ∃ fd, FnP K "_law_number" sNum2 fd := c.t.d.def_ 25 (d := D__law_number) rfl
  have g_law_number : mg "_law_number" = some (.ref (ga K "_law_number")) := He.glo_ok X G (c.t.d.fact 25 (f := .glo "_law_number") rfl)
  have b_law_number : Binds K d_law_number ["_law_pen"] [] := F_law_number.bindsN (ps := ["_law_pen"]) fun _ _ _ _ _ _ us hl => match us, hl with | [_], _ => rfl
  obtain ⟨d_law_numbers, F_law_numbers⟩ : ∃ fd, FnP K "_law_numbers" sNums fd := c.t.d.def_ 26 (d := D__law_numbers) rfl
  have g_law_numbers : mg "_law_numbers" = some (.ref (ga K "_law_numbers")) := He.glo_ok X G (c.t.d.fact 26 (f := .glo "_law_numbers") rfl)
  have b_law_numbers : Binds K d_law_numbers ["_law_pen", "_law_many"] [] := F_law_numbers.bindsN (ps := ["_law_pen", "_law_many"]) fun _ _ _ _ _ _ us hl => match us, hl with | [_, _], _ => rfl
  obtain ⟨d_law_told, F_law_told⟩ : ∃ fd, FnP K "_law_told" sTld2 fd := c.t.d.def_ 27 (d := D__law_told) rfl
  have g_law_told : mg "_law_told" = some (.ref (ga K "_law_told")) := He.glo_ok X G (c.t.d.fact 27 (f := .glo "_law_told") rfl)
  have b_law_told : Binds K d_law_told ["_law_pair_here"] [] := F_law_told.bindsN (ps := ["_law_pair_here"]) fun _ _ _ _ _ _ us hl => match us, hl with | [_], _ => rfl
  obtain ⟨d_law_pair_of, F_law_pair_of⟩ : ∃ fd, FnP K "_law_pair_of" sPO fd := c.t.d.def_ 28 (d := D__law_pair_of) rfl
  have g_law_pair_of : mg "_law_pair_of" = some (.ref (ga K "_law_pair_of")) := He.glo_ok X G (c.t.d.fact 28 (f := .glo "_law_pair_of") rfl)
  have b_law_pair_of : Binds K d_law_pair_of ["_law_told_here"] [] := F_law_pair_of.bindsN (ps := ["_law_told_here"]) fun _ _ _ _ _ _ us hl => match us, hl with | [_], _ => rfl
  obtain ⟨d_law_pairs_of, F_law_pairs_of⟩ : ∃ fd, FnP K "_law_pairs_of" sPOs fd := c.t.d.def_ 29 (d := D__law_pairs_of) rfl
  have g_law_pairs_of : mg "_law_pairs_of" = some (.ref (ga K "_law_pairs_of")) := He.glo_ok X G (c.t.d.fact 29 (f := .glo "_law_pairs_of") rfl)
  have b_law_pairs_of : Binds K d_law_pairs_of ["_law_told_here"] [] := F_law_pairs_of.bindsN (ps := ["_law_told_here"]) fun _ _ _ _ _ _ us hl => match us, hl with | [_], _ => rfl
  obtain ⟨d_law_lists_of, F_law_lists_of⟩ : ∃ fd, FnP K "_law_lists_of" sLO fd := c.t.d.def_ 30 (d := D__law_lists_of) rfl
  have g_law_lists_of : mg "_law_lists_of" = some (.ref (ga K "_law_lists_of")) := He.glo_ok X G (c.t.d.fact 30 (f := .glo "_law_lists_of") rfl)
  have b_law_lists_of : Binds K d_law_lists_of ["_law_told_here"] [] := F_law_lists_of.bindsN (ps := ["_law_told_here"]) fun _ _ _ _ _ _ us hl => match us, hl with | [_], _ => rfl
  obtain ⟨d_law_dealt_due, F_law_dealt_due⟩ : ∃ fd, FnP K "_law_dealt_due" sDueD fd := c.t.d.def_ 31 (d := D__law_dealt_due) rfl
  have g_law_dealt_due : mg "_law_dealt_due" = some (.ref (ga K "_law_dealt_due")) := He.glo_ok X G (c.t.d.fact 31 (f := .glo "_law_dealt_due") rfl)
  have b_law_dealt_due : Binds K d_law_dealt_due ["_law_items", "_law_many"] [] := F_law_dealt_due.bindsN (ps := ["_law_items", "_law_many"]) fun _ _ _ _ _ _ us hl => match us, hl with | [_, _], _ => rfl
  obtain ⟨d_law_woven_due, F_law_woven_due⟩ : ∃ fd, FnP K "_law_woven_due" sWovD fd := c.t.d.def_ 32 (d := D__law_woven_due) rfl
  have g_law_woven_due : mg "_law_woven_due" = some (.ref (ga K "_law_woven_due")) := He.glo_ok X G (c.t.d.fact 32 (f := .glo "_law_woven_due") rfl)
  have b_law_woven_due : Binds K d_law_woven_due ["_law_lists"] [] := F_law_woven_due.bindsN (ps := ["_law_lists"]) fun _ _ _ _ _ _ us hl => match us, hl with | [_], _ => rfl
  obtain ⟨d_law_stretched_due, F_law_stretched_due⟩ : ∃ fd, FnP K "_law_stretched_due" sStrD fd := c.t.d.def_ 33 (d := D__law_stretched_due) rfl
  have g_law_stretched_due : mg "_law_stretched_due" = some (.ref (ga K "_law_stretched_due")) := He.glo_ok X G (c.t.d.fact 33 (f := .glo "_law_stretched_due") rfl)
  have b_law_stretched_due : Binds K d_law_stretched_due ["_law_items", "_law_many"] [] := F_law_stretched_due.bindsN (ps := ["_law_items", "_law_many"]) fun _ _ _ _ _ _ us hl => match us, hl with | [_, _], _ => rfl
  obtain ⟨d_law_held_due, F_law_held_due⟩ : ∃ fd, FnP K "_law_held_due" sHeldD fd := c.t.d.def_ 34 (d := D__law_held_due) rfl
  have g_law_held_due : mg "_law_held_due" = some (.ref (ga K "_law_held_due")) := He.glo_ok X G (c.t.d.fact 34 (f := .glo "_law_held_due") rfl)
  have b_law_held_due : Binds K d_law_held_due ["_law_items", "_law_many"] [] := F_law_held_due.bindsN (ps := ["_law_items", "_law_many"]) fun _ _ _ _ _ _ us hl => match us, hl with | [_, _], _ => rfl
  obtain ⟨d_law_plain_right, F_law_plain_right⟩ : ∃ fd, FnP K "_law_plain_right" sPlain fd := c.t.d.def_ 35 (d := D__law_plain_right) rfl
  have g_law_plain_right : mg "_law_plain_right" = some (.ref (ga K "_law_plain_right")) := He.glo_ok X G (c.t.d.fact 35 (f := .glo "_law_plain_right") rfl)
  have b_law_plain_right : Binds K d_law_plain_right ["_law_pen", "_law_items", "_law_many"] [] := F_law_plain_right.bindsN (ps := ["_law_pen", "_law_items", "_law_many"]) fun _ _ _ _ _ _ us hl => match us, hl with | [_, _, _], _ => rfl
  obtain ⟨d_law_woven_right, F_law_woven_right⟩ : ∃ fd, FnP K "_law_woven_right" sWovR fd := c.t.d.def_ 36 (d := D__law_woven_right) rfl
  have g_law_woven_right : mg "_law_woven_right" = some (.ref (ga K "_law_woven_right")) := He.glo_ok X G (c.t.d.fact 36 (f := .glo "_law_woven_right") rfl)
  have b_law_woven_right : Binds K d_law_woven_right ["_law_pen"] [] := F_law_woven_right.bindsN (ps := ["_law_pen"]) fun _ _ _ _ _ _ us hl => match us, hl with | [_], _ => rfl
  obtain ⟨d_law_refused_right, F_law_refused_right⟩ : ∃ fd, FnP K "_law_refused_right" sRefR2 fd := c.t.d.def_ 37 (d := D__law_refused_right) rfl
  have g_law_refused_right : mg "_law_refused_right" = some (.ref (ga K "_law_refused_right")) := He.glo_ok X G (c.t.d.fact 37 (f := .glo "_law_refused_right") rfl)
  have b_law_refused_right : Binds K d_law_refused_right ["_law_pen", "_law_items", "_law_many"] [] := F_law_refused_right.bindsN (ps := ["_law_pen", "_law_items", "_law_many"]) fun _ _ _ _ _ _ us hl => match us, hl with | [_, _, _], _ => rfl
  obtain ⟨dlaw, Flaw⟩ : ∃ fd, FnP K "law" sLaw2 fd := c.t.d.def_ 38 (d := D_law) rfl
  have glaw : mg "law" = some (.ref (ga K "law")) := He.glo_ok X G (c.t.d.fact 38 (f := .glo "law") rfl)
  have blaw : Binds K dlaw ["_law_script"] [] := Flaw.bindsN (ps := ["_law_script"]) fun _ _ _ _ _ _ us hl => match us, hl with | [_], _ => rfl
  obtain ⟨dBadValue___init__, FBadValue___init__⟩ : ∃ fd, MthP K "BadValue" "__init__" "BadValue.__init__" iBad [] fd := c.t.d.def_ 39 (d := D_BadValue___init__) rfl
  obtain ⟨dRatio___init__, FRatio___init__⟩ : ∃ fd, MthP K "Ratio" "__init__" "Ratio.__init__" sInit [.int 1] fd := c.t.d.def_ 40 (d := D_Ratio___init__) rfl
  obtain ⟨x1, y⟩ := He.ba c.more
  obtain ⟨x2, y⟩ := He.ba y
  obtain ⟨x3, y⟩ := He.ba y
  obtain ⟨x4, x7⟩ := He.ba y
  have cR : Cls K (ga K "Ratio") := He.cls_ok (c.t.d.fact 56 (f := .cls "Ratio") rfl)
  obtain ⟨tyR, tR⟩ := tyB_ok x4 cR
  have O1 := oneB_ok x1
  obtain ⟨n1, y⟩ := He.ba x2
  obtain ⟨n2, y⟩ := He.ba y
  obtain ⟨n3, n4⟩ := He.ba y
  have gBadValue : mg "BadValue" = some (.ref (ga K "BadValue")) := He.glo_ok X G (c.t.d.fact 39 (f := .glo "BadValue") rfl)
  have gNoDivisor : mg "NoDivisor" = some (.ref (ga K "NoDivisor")) := He.glo_ok X G (c.t.d.fact 40 (f := .glo "NoDivisor") rfl)
  have gRatio : mg "Ratio" = some (.ref (ga K "Ratio")) := He.glo_ok X G (c.t.d.fact 41 (f := .glo "Ratio") rfl)
  have fint : mg "int" = none := He.free_ok X G (c.t.d.fact 42 (f := .free "int") rfl)
  have fbool : mg "bool" = none := He.free_ok X G (c.t.d.fact 43 (f := .free "bool") rfl)
  have fisinstance : mg "isinstance" = none := He.free_ok X G (c.t.d.fact 44 (f := .free "isinstance") rfl)
  have fabs : mg "abs" = none := He.free_ok X G (c.t.d.fact 45 (f := .free "abs") rfl)
  have fstr : mg "str" = none := He.free_ok X G (c.t.d.fact 46 (f := .free "str") rfl)
  have flist : mg "list" = none := He.free_ok X G (c.t.d.fact 47 (f := .free "list") rfl)
  have flen : mg "len" = none := He.free_ok X G (c.t.d.fact 48 (f := .free "len") rfl)
  have frange : mg "range" = none := He.free_ok X G (c.t.d.fact 49 (f := .free "range") rfl)
  have fmin : mg "min" = none := He.free_ok X G (c.t.d.fact 50 (f := .free "min") rfl)
  have fall : mg "all" = none := He.free_ok X G (c.t.d.fact 51 (f := .free "all") rfl)
  have fmax : mg "max" = none := He.free_ok X G (c.t.d.fact 52 (f := .free "max") rfl)
  have ftuple : mg "tuple" = none := He.free_ok X G (c.t.d.fact 53 (f := .free "tuple") rfl)
  have TX : TxtR mg := ⟨fint, fbool, fisinstance, fabs, fstr, flist, flen, frange, fmin, fall, bltB_ok X G x7⟩
  obtain ⟨tL, gL⟩ := He.int_ok X G (c.t.d.fact 54 (f := .int "LEAST" 2) rfl)
  obtain ⟨tM, gM⟩ := He.int_ok X G (c.t.d.fact 55 (f := .int "MOST" 60) rfl)
  have RC : RatC K mg (ga K "Ratio") (ma K (ga K "Ratio") "__init__") := ⟨He.mkr_ok (c.t.d.fact 59 (f := .mkr "Ratio") rfl), cR, He.noat_ok (c.t.d.fact 57 (f := .noat "Ratio" "top") rfl), He.noat_ok (c.t.d.fact 58 (f := .noat "Ratio" "bottom") rfl), gRatio, top1B_ok x3, tR⟩
  have XB : PySem.W.exmOne K (.ref (ga K "BadValue")) (.ref (ga K "BadValue")) = some true := He.exm_ok (c.t.d.fact 60 (f := .exm "BadValue" "BadValue" true) rfl)
  have e := hfa.symm.trans glaw
  cases e
  have cRef := code_of (p := pRef) F_law_refused_right
  have ms2 : pRef ∈ tf := List.mem_cons_self
  have both : ∀ {Pr : Addr × Addr → Prop}, Pr (He.cT K pRef) → ∀ p ∈ [He.cT K pRef], Pr p := fun v p hp => by
    rcases List.mem_cons.mp hp with rfl | hp
    · exact v
    · cases hp
  refine ⟨dlaw, [He.cT K pRef], spLaw2 K [((He.cT K pRef).2, qRef2)], both (c.empty _ ms2), both (c.out _ ms2), both (PySem.W.codeHd_of_K X (c.hd _ ms2)), fun s v => FunD.bindsA (ps := ["_law_script"]) Flaw (fun _ _ _ _ _ _ us hl => match us, hl with | [_], _ => rfl) s [v] rfl, fun H a ns hl _ ht hS => ⟨a, ns, rfl, hS, hl, fun p hp => ?_, fun _ => rfl⟩, fun base KB NB TB => ?_⟩
  · rcases List.mem_cons.mp hp with rfl | hp
    · exact TabS.nil (ht _ List.mem_cons_self)
    · cases hp
  have TR : TabB base mg (He.codeOf K pRef) (He.cT K pRef).2 := TB _ List.mem_cons_self
  have ER : ErrR PySem.Challenge.rw_allstreams_k22_lanes_dealt_and_woven.prog w K mg base (ga K "BadValue") (ga K "NoDivisor") := ⟨oBad (funOf FBadValue___init__) O1.O gBadValue O1.Z O1.no, ⟨n1, n2, gNoDivisor, clsXB_ok n4⟩, O1.ty, eqV_ok n3⟩
  have Gis_integer := ok_isInt (P := PySem.Challenge.rw_allstreams_k22_lanes_dealt_and_woven.prog) (w := w) (base := base) (funOf Fis_integer) TX
  have RT : Rat PySem.Challenge.rw_allstreams_k22_lanes_dealt_and_woven.prog w K mg base (ga K "BadValue") (ga K "NoDivisor") (ga K "Ratio") (ma K (ga K "Ratio") "__init__") := mk_rat0 FRatio___init__ ER RC TX tyR
  have Gas_ratio := ok_as (funOf Fas_ratio) RT TX
  have Gis_list := ok_isLT (P := PySem.Challenge.rw_allstreams_k22_lanes_dealt_and_woven.prog) (w := w) (base := base) (funOf Fis_list) TX ftuple
  have Gneed_list := ok_needL (funOf Fneed_list) Gis_list gis_list Fis_list.kp bis_list ER
  have Gratio_list := ok_rList (funOf Fratio_list) RT Gneed_list gneed_list Fneed_list.kp bneed_list Gas_ratio gas_ratio Fas_ratio.kp bas_ratio
  have Gis_within := ok_isW (funOf Fis_within) Gis_integer gis_integer Fis_integer.kp bis_integer
  have Gneed_within := ok_needW (funOf Fneed_within) Gis_within gis_within Fis_within.kp bis_within ER
  have Gneed_many := ok_needM (funOf Fneed_many) Gneed_within gneed_within Fneed_within.kp bneed_within gL gM
  have Gneed_rest := ok_needR (funOf Fneed_rest) Gneed_within gneed_within Fneed_within.kp bneed_within
  have Gdealt := ok_dealt (funOf Fdealt) TX Gratio_list gratio_list Fratio_list.kp bratio_list Gneed_many gneed_many Fneed_many.kp bneed_many
  have Gthinned := ok_thin (funOf Fthinned) Gratio_list gratio_list Fratio_list.kp bratio_list Gneed_many gneed_many Fneed_many.kp bneed_many Gneed_rest gneed_rest Fneed_rest.kp bneed_rest
  have Gstretched := ok_stretched (funOf Fstretched) TX RT Gratio_list gratio_list Fratio_list.kp bratio_list Gneed_many gneed_many Fneed_many.kp bneed_many
  have Gheld := ok_held (funOf Fheld) TX Gratio_list gratio_list Fratio_list.kp bratio_list Gneed_many gneed_many Fneed_many.kp bneed_many
  have Gis_ratio := ok_isR (funOf Fis_ratio) TX RT Gis_integer gis_integer Fis_integer.kp bis_integer
  have Gtold_lists := ok_told (funOf Ftold_lists) TX ER Gis_list gis_list Fis_list.kp bis_list Gis_ratio gis_ratio Fis_ratio.kp bis_ratio Gis_within gis_within Fis_within.kp bis_within gL gM Gas_ratio gas_ratio Fas_ratio.kp bas_ratio
  have Gwoven := ok_woven (funOf Fwoven) TX Gtold_lists gtold_lists Ftold_lists.kp btold_lists
  have kb0 : KBn K dheld ["items", "many"] 0 ["items", "many"] (fun _ ws => ws) (fun _ zs => zs) := kbN (ps := ["items", "many"]) Fheld 0 ["items", "many"] (fun _ ws => ws) (fun _ h => h) (fun _ _ _ _ _ _ us ws h1 h2 => match us, ws, h1, h2 with | [], [_, _], _, _ => rfl)
  have kb1 : KBn K dheld ["items", "many"] 1 ["many"] (fun us ws => us ++ ws) (fun vs zs => vs ++ zs) := kbN (ps := ["items", "many"]) Fheld 1 ["many"] (fun us ws => us ++ ws) (fun a b => a.append b) (fun _ _ _ _ _ _ us ws h1 h2 => match us, ws, h1, h2 with | [_], [_], _, _ => rfl)
  have LD : LaneD PySem.Challenge.rw_allstreams_k22_lanes_dealt_and_woven.prog w K mg base (ga K "Ratio") (ga K "BadValue") := ⟨⟨⟨_, _, Gdealt, gdealt, Fdealt.kp, bdealt⟩⟩, ⟨⟨_, _, Gthinned, gthinned, Fthinned.kp, bthinned⟩⟩, ⟨⟨_, _, Gwoven, gwoven, Fwoven.kp, bwoven⟩⟩, ⟨⟨_, _, Gstretched, gstretched, Fstretched.kp, bstretched⟩⟩, ⟨⟨_, _, Gheld, gheld, Fheld.kp, bheld⟩⟩, ⟨_, _, Gheld, gheld, Fheld.kp, kb0, kb1⟩⟩
  have G_law_begin := ok_begin (P := PySem.Challenge.rw_allstreams_k22_lanes_dealt_and_woven.prog) (w := w) (base := base) (funOf F_law_begin) TX
  have G_law_draw := ok_draw2 (P := PySem.Challenge.rw_allstreams_k22_lanes_dealt_and_woven.prog) (w := w) (base := base) (funOf F_law_draw) TX
  have G_law_pick := ok_pick2 (P := PySem.Challenge.rw_allstreams_k22_lanes_dealt_and_woven.prog) (w := w) (base := base) (funOf F_law_pick) (funOf F_law_draw) g_law_draw b_law_draw TX
  have G_law_gcd := ok_gcd2 (P := PySem.Challenge.rw_allstreams_k22_lanes_dealt_and_woven.prog) (w := w) (base := base) (funOf F_law_gcd) TX
  have G_law_q := ok_q2 (funOf F_law_q) G_law_gcd g_law_gcd F_law_gcd.kp b_law_gcd
  have G_law_number := ok_num2 (funOf F_law_number) TX G_law_draw g_law_draw F_law_draw.kp b_law_draw G_law_pick g_law_pick F_law_pick.kp b_law_pick G_law_q g_law_q F_law_q.kp b_law_q
  have G_law_numbers := ok_nums (funOf F_law_numbers) TX G_law_number g_law_number F_law_number.kp b_law_number
  have G_law_told := ok_tld2 (funOf F_law_told) RT
  have G_law_pair_of := ok_PO (funOf F_law_pair_of) TX RT
  have G_law_pairs_of := ok_POs (funOf F_law_pairs_of) TX G_law_pair_of g_law_pair_of F_law_pair_of.kp b_law_pair_of
  have G_law_lists_of := ok_LO (funOf F_law_lists_of) TX G_law_pairs_of g_law_pairs_of F_law_pairs_of.kp b_law_pairs_of
  have G_law_pair := ok_pair2 (funOf F_law_pair) TX RT G_law_pair_of g_law_pair_of F_law_pair_of.kp b_law_pair_of
  have G_law_shown := ok_shown (funOf F_law_shown) TX G_law_draw g_law_draw F_law_draw.kp b_law_draw G_law_told g_law_told F_law_told.kp b_law_told
  have G_law_dealt_due := ok_dueD (P := PySem.Challenge.rw_allstreams_k22_lanes_dealt_and_woven.prog) (w := w) (base := base) (funOf F_law_dealt_due) TX
  have G_law_woven_due := ok_wovD (P := PySem.Challenge.rw_allstreams_k22_lanes_dealt_and_woven.prog) (w := w) (base := base) (funOf F_law_woven_due) TX
  have G_law_stretched_due := ok_strD (P := PySem.Challenge.rw_allstreams_k22_lanes_dealt_and_woven.prog) (w := w) (mg := mg) (base := base) (funOf F_law_stretched_due)
  have G_law_held_due := ok_heldD (P := PySem.Challenge.rw_allstreams_k22_lanes_dealt_and_woven.prog) (w := w) (mg := mg) (base := base) (funOf F_law_held_due)
  have G_law_plain_right := ok_plain (funOf F_law_plain_right) TX ftuple LD ⟨⟨_, _, G_law_shown, g_law_shown, F_law_shown.kp, b_law_shown⟩⟩ ⟨⟨_, _, G_law_draw, g_law_draw, F_law_draw.kp, b_law_draw⟩⟩ ⟨⟨_, _, G_law_dealt_due, g_law_dealt_due, F_law_dealt_due.kp, b_law_dealt_due⟩⟩ ⟨⟨_, _, G_law_lists_of, g_law_lists_of, F_law_lists_of.kp, b_law_lists_of⟩⟩ ⟨⟨_, _, G_law_pairs_of, g_law_pairs_of, F_law_pairs_of.kp, b_law_pairs_of⟩⟩ ⟨⟨_, _, G_law_stretched_due, g_law_stretched_due, F_law_stretched_due.kp, b_law_stretched_due⟩⟩ ⟨⟨_, _, G_law_held_due, g_law_held_due, F_law_held_due.kp, b_law_held_due⟩⟩ ⟨⟨_, _, G_law_pair, g_law_pair, F_law_pair.kp, b_law_pair⟩⟩
  have G_law_woven_right := ok_wovR (funOf F_law_woven_right) TX fmax LD ⟨⟨_, _, G_law_shown, g_law_shown, F_law_shown.kp, b_law_shown⟩⟩ ⟨⟨_, _, G_law_draw, g_law_draw, F_law_draw.kp, b_law_draw⟩⟩ ⟨⟨_, _, G_law_numbers, g_law_numbers, F_law_numbers.kp, b_law_numbers⟩⟩ ⟨⟨_, _, G_law_pairs_of, g_law_pairs_of, F_law_pairs_of.kp, b_law_pairs_of⟩⟩ ⟨⟨_, _, G_law_woven_due, g_law_woven_due, F_law_woven_due.kp, b_law_woven_due⟩⟩ ⟨⟨_, _, G_law_pair, g_law_pair, F_law_pair.kp, b_law_pair⟩⟩
  have hm2 : ((He.cT K pRef).2, qRef2) ∈ [((He.cT K pRef).2, qRef2)] := List.mem_cons_self
  have hu2 : ∀ p ∈ [((He.cT K pRef).2, qRef2)], p.1 = (He.cT K pRef).2 → p.2 = qRef2 := fun p hp e => by
    rcases List.mem_cons.mp hp with rfl | hp
    · rfl
    · cases hp
  have G_law_refused_right := ok_refR2 (funOf F_law_refused_right) cRef TX ftuple TR hm2 hu2 LD ER XB (funOf F_law_fault) g_law_fault b_law_fault (funOf F_law_is_refused) g_law_is_refused b_law_is_refused ⟨⟨_, _, G_law_shown, g_law_shown, F_law_shown.kp, b_law_shown⟩⟩ ⟨⟨_, _, G_law_draw, g_law_draw, F_law_draw.kp, b_law_draw⟩⟩ ⟨⟨_, _, G_law_pick, g_law_pick, F_law_pick.kp, b_law_pick⟩⟩
  exact ok_law2 (funOf Flaw) ⟨⟨_, _, G_law_begin, g_law_begin, F_law_begin.kp, b_law_begin⟩⟩ ⟨⟨_, _, G_law_draw, g_law_draw, F_law_draw.kp, b_law_draw⟩⟩ ⟨⟨_, _, G_law_numbers, g_law_numbers, F_law_numbers.kp, b_law_numbers⟩⟩ ⟨⟨_, _, G_law_plain_right, g_law_plain_right, F_law_plain_right.kp, b_law_plain_right⟩⟩ ⟨⟨_, _, G_law_woven_right, g_law_woven_right, F_law_woven_right.kp, b_law_woven_right⟩⟩ ⟨⟨_, _, G_law_refused_right, g_law_refused_right, F_law_refused_right.kp, b_law_refused_right⟩⟩
end K03
end
section
set_option maxHeartbeats 0
open PySem PySem.W PySem.Calls PyProof.Rows
theorem PySem.Challenge.cw_allstreams_k22_lanes_dealt_and_woven_holds : PySem.Challenge.rw_allstreams_k22_lanes_dealt_and_woven.Holds := by
  w_on; o_law
  refine HandSHeadRun.head_imp (r := OpenLaw.row PySem.Challenge.rw_allstreams_k22_lanes_dealt_and_woven) (q := view (OpenLaw.row PySem.Challenge.rw_allstreams_k22_lanes_dealt_and_woven).prog [0, 57]) (H := K03.hk) (ob := K03.ob) (M := 20000) (loose := K03.names) (d := HandSHeadRun.topDef (OpenLaw.row PySem.Challenge.rw_allstreams_k22_lanes_dealt_and_woven).prog 57) (kwd := []) K03.ob_eq
    K03.run (by kernel_rfl) (by kernel_rfl) (by kernel_rfl) (by rfl) (by first | assumption | decide +kernel) (by decide +kernel) ⟨rfl, rfl, rfl, rfl, rfl, by decide +kernel⟩ ?hw ?hc
  case hw => w_witness2
  case hc =>
    refine LamX.walk_ofTsE (l := PySem.Challenge.rw_allstreams_k22_lanes_dealt_and_woven) (n := 63) (k := 13) (x := "_law_script") (CX := fun _ => L2.CX0) rfl (by decide) (by kernel_rfl) ⟨rfl, by decide, by decide⟩ ?F (fun _ _ _ _ _ z => z)
    intro w mg fa h Y G hmg0
    obtain ⟨K, KX, c⟩ := Y
    have hmg : mg ("law" : PySem.Str) = some (.ref fa) := by
      have e : (HandSHeadRun.topDef (OpenLaw.row PySem.Challenge.rw_allstreams_k22_lanes_dealt_and_woven).prog 57).name = ("law" : PySem.Str) := by kernel_rfl
      rw [← e]
      exact hmg0
    exact ⟨K, KX, K03.facts KX G hmg c⟩
end
