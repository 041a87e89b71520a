import PyProof.Rows.All
import Wide.All
import OpenK.AllK
import Wide.FinOn
import HandS.ForMost
import HandS.ExcInit
import HandS.Defaults
import HandS.MakeKwOnly
import HandS.ExcIs
import HandS.IsInst
import HandS.ExcValue
import KE.KOpsOwn
import PyProof.FactsAll.int_1
import PyProof.FactsAll.int_3
import PyProof.FactsAll.int_5
import PyProof.FactsAll.bool_1
import PyProof.FactsAll.bool_2
import PyProof.FactsAll.bool_3
import HandS.HeadHook4
import HandS.HeadWalk
import HandS.Head2
import HandS.Wide
import HandS.Gcd
import HandS.WordsExc
import HandS.Comp
import HandS.AnyAll
import PyProof.AttrMissHeap
import KE.KBoundM
import KE.KEqSeq
import HandS.Text
import HandS.Style
import HandS.StrMore
import HandS.FStr
import PyProof.Rows.StrDigitsNeg
import PyProof.Rows.ReprOcc
import HandS.SlotsOwn
import KE.KCallOwn
import HandS.Lambda
import HandS.Nested
import HandS.TryMany
import HandS.ExcField
import HandS.More
import HandS.Head3
import PySem.Challenge.RW_allstreams_k03_ratios
set_option Elab.async false
set_option linter.all false
set_option maxRecDepth 100000
section
set_option maxHeartbeats 4000000
namespace PySem
namespace ExV
open PySem.W PySem.Calls PyProof.Rows PySem.HandSPX
open Builtin Builtin.ObjectAttr
section
variable {M : Model} {A : Around} {E : Value → Shared → Prop} {h : Heap} {g : Array GenState} {d : Drawn} {t : Nat} {os : OsState}
variable {nm q : Str} {C N : Addr} {bs bm bmB : List Value} {hdct : Bool} {sn : List Str} {sub : List Value} {ab : Bool} {col : Option Bool} {dd : Option Addr} {k0 k1 k2 k3 k5 : Option Value} {B newId initId : String}

theorem check_new_kw (F : ExcBaseFacts B newId initId bmB) (hT : ∀ X : String, bm.contains (.type X) = bmB.contains (.type X)) {rest : List Value} {kw : List (Str × Value)} {Q : Unit → Shared → Prop}
    (hC : h.get? C = some (excClassObj nm q C N bs bm hdct sn sub ab col dd k0 k1 k2 k3 k5 newId)) (hq : Q () ⟨h, g, d, t, os⟩) : wpAny M A (checkBuiltinCall newId ⟨.ref C :: rest, kw⟩) Q E ⟨h, g, d, t, os⟩ := by
  have hcont : (Value.ref C :: bm).contains (.type B) = true := by rw [List.contains_cons, hT, F.hasB, Bool.or_true]
  have hstar := F.noStar
  simp only [checkBuiltinCall, F.newKind, F.newSplit, F.newRow]
  repeat (first | refine wpAny_loadPart_at hC ?_ | (refine wpAny_isSubtype_exc hC ?_; rw [hcont]) | refine wpAny_staticBase_exc hC ?_ | refine wpAny_madeBy_exc hC ?_ | simp only [bne_self_eq_false, Bool.false_eq_true, if_false] | wp_step)
  exact hq
end
section
variable {prog : Program} {w : World} {A : Around} {E : Value → Shared → Prop} {R : Result → Shared → Prop} {h : Heap} {g : Array GenState} {d : Drawn} {t : Nat} {os : OsState}
variable {nm q : Str} {C N : Addr} {bs bm bmB : List Value} {hdct : Bool} {sn : List Str} {sub : List Value} {ab : Bool} {col : Option Bool} {dd : Option Addr} {k0 k1 k2 k3 k5 : Option Value} {B newId initId : String}

theorem new_kw (F : ExcBaseFacts B newId initId bmB) (hT : ∀ X : String, bm.contains (.type X) = bmB.contains (.type X)) {rest : List Value} {kw : List (Str × Value)}
    (hC : h.get? C = some (excClassObj nm q C N bs bm hdct sn sub ab col dd k0 k1 k2 k3 k5 newId))
    (hq : R (.ok (.ret (.ref (h.objs.size + 1)))) ⟨(h.push { cls := .type "tuple", data := .seq rest.toArray }).push
      { cls := .ref C, data := .fields #[.ref h.objs.size, .none, .none, .none, .bool false, .none] }, g, d, t, os⟩) (hrest : rest.length ≤ sizeLine) :
    codeAny (model prog w) A (.builtin newId ⟨.ref C :: rest, kw⟩) R ⟨h, g, d, t, os⟩ := by
  have hends := F.ends
  have hcB : (Value.ref C :: bm).contains (.type B) = true := by rw [List.contains_cons, hT, F.hasB, Bool.or_true]
  have hcA : (Value.ref C :: bm).contains (.type "AttributeError") = false := by rw [List.contains_cons, hT, F.noAttr]; rfl
  have hcN : (Value.ref C :: bm).contains (.type "NameError") = false := by rw [List.contains_cons, hT, F.noName]; rfl
  refine codeAny_builtinAt F.entry ?_
  unfold Builtin.«BaseException.__new__»
  refine wpAt_bind ?_
  show wpAt _ _ _ (stack >>= _) _ _ _
  refine wpAt_bind (wpAt_stack fun p below => wpAt_of_wpAny ?_)
  wp_walk
  refine wpAt_of_wpAny ?_
  rw [F.owner]
  repeat (first | with_reducible refine wpAny_madeHere_exc F.canon hC ?_ | with_reducible refine wpAny_loadPart_at hC ?_ | (with_reducible refine wpAny_isSubtype_exc hC ?_; first | rw [hcB] | rw [hcA] | rw [hcN]) | wp_step)
  show R _ _
  rw [Heap.size_push]
  exact hq

theorem type_call_kw (F : ExcBaseFacts B newId initId bmB) (hT : ∀ X : String, bm.contains (.type X) = bmB.contains (.type X)) {rest : List Value} {kw : List (Str × Value)} {fI : Addr} {Q : Fin → Shared → Prop}
    (hC : h.get? C = some (excClassObj nm q C N bs bm hdct sn sub ab col dd k0 k1 k2 k3 k5 newId))
    (hi : W.Looks (model prog w) h (typeLookup (.ref C) "__init__") (some (.ref fI))) (hb : ∀ self, W.Looks (model prog w) h (bindSpecial (.ref fI) self) (.ref fI, [self])) (hrest : rest.length ≤ sizeLine)
    (hq : codeAny (model prog w) A (.call (.ref fI) ⟨.ref (h.objs.size + 1) :: rest, kw⟩)
      (fun r s' => match r with | .ok (.ret v) => v = .none ∧ Q (.done (.ret (.ref (h.objs.size + 1)))) s' | .ok _ => False | .error e => E e s')
      ⟨(h.push (W.kdv_tup rest)).push (excO C h.objs.size), g, d, t, os⟩) :
    wpAny (model prog w) A (Builtin.«type.__call__» ⟨.ref C :: rest, kw⟩) Q E ⟨h, g, d, t, os⟩ := by
  repeat (first | with_reducible refine wpAny_loadPart_at hC ?_ | with_reducible refine wpAny_madeBy_exc hC ?_ | wp_step)
  refine codeAny_call_builtin_code (Code.quiet_builtin _ F.quiet) (check_new_kw F hT hC ?_)
  refine new_kw F hT hC ?_ hrest
  show wpAny _ _ _ _ _ _
  have k : ∀ b o, h.get? b = some o → ((h.push (W.kdv_tup rest)).push (excO C h.objs.size)).get? b = some o := fun b o e => Heap.get?_push_of_some _ (Heap.get?_push_of_some _ e)
  have hC₁ := k _ _ hC
  have hget : ((h.push (W.kdv_tup rest)).push (excO C h.objs.size)).get? (h.objs.size + 1) = some (excO C h.objs.size) := by heap_get
  have hcC : (Value.ref C :: bm).contains (.ref C) = true := by simp
  have i1 := hi.keeps k
  have b1 := (hb (.ref (h.objs.size + 1))).keeps k
  unfold isInstance
  repeat (first | with_reducible refine wpAny_loadPart_at hget ?_ | (with_reducible refine wpAny_isSubtype_exc hC₁ ?_; rw [hcC]) | wp_step)
  show wpAny _ _ (typeLookup (.ref C) _) _ _ _
  refine i1.at ?_
  refine wpAny_holding (wpAny_bind (b1.at ?_))
  refine wpAny_bind (wpAny_call (codeAny_mono hq fun r s' z => ?_))
  rcases r with e | (v | _ | _ | _) <;> first | exact z | exact z.elim | skip
  obtain ⟨rfl, z⟩ := z
  first
    | exact wpAny_pure (wpAny_pure z)
    | (wp_walk; exact z)

theorem call_kw (F : ExcBaseFacts B newId initId bmB) (hT : ∀ X : String, bm.contains (.type X) = bmB.contains (.type X)) {rest : List Value} {kw : List (Str × Value)} {fI : Addr}
    (hC : h.get? C = some (excClassObj nm q C N bs bm hdct sn sub ab col dd k0 k1 k2 k3 k5 newId))
    (hi : W.Looks (model prog w) h (typeLookup (.ref C) "__init__") (some (.ref fI))) (hb : ∀ self, W.Looks (model prog w) h (bindSpecial (.ref fI) self) (.ref fI, [self])) (hrest : rest.length ≤ sizeLine)
    (hq : codeAny (model prog w) (A.under (.builtin "type.__call__" ⟨.ref C :: rest, kw⟩)) (.call (.ref fI) ⟨.ref (h.objs.size + 1) :: rest, kw⟩) (W.InitBack (h.objs.size + 1) R)
      ⟨(h.push (W.kdv_tup rest)).push (excO C h.objs.size), g, d, t, os⟩) :
    codeAny (model prog w) A (.call (.ref C) ⟨rest, kw⟩) R ⟨h, g, d, t, os⟩ := by
  have f1 := tc_lookup
  have f2 := tc_bind (.ref C)
  have hTy : (⟨h, g, d, t, os⟩ : Shared).TypeIs (.ref C) "type" := ⟨_, hC, rfl⟩
  refine codeAny_of_tree ?_
  show wpAny _ _ (callAny (.ref C) _) _ _ _
  repeat (any_goals (first | assumption | with_reducible refine wpAny_loadPart_at hC ?_ | wp_step))
  refine ⟨rfl, ?_⟩
  refine codeAny_call_builtin_at (Code.quiet_builtin _ (by decide +kernel)) entry_typeCall (wpAny_check_type_call_sub hC (type_call_kw F hT hC hi hb hrest ?_))
  refine codeAny_mono hq fun r s' z => ?_
  rcases r with e | (v | _ | _ | _) <;> exact z
end
end ExV
end PySem
end
section
set_option maxHeartbeats 4000000
namespace L2
open PySem PySem.Spec PyProof.Rows
/-- what is known of the class at C, of its __init__ at fI -/
structure OwnX (K : PySem.W.Frag) (C fI : Addr) : Prop where
  T : OexC K C
  iC : PySem.W.findIn K (.ref C) "__init__" = some (some (.ref fI))
  tI : PySem.W.typeIn K (.ref fI) = some (.type "function")
section
variable {X : Cx} {CX : CXT} {k n : Nat} {fI C : Addr} {fd : FuncData} {ps ks : List Str} {sp : Sp} {x : Str} {p pos : Pos} {e : Expr} {es : List Expr} {kws : List Keyword} {t tk : TA} {g : List Value → List Value → List Value} {gV : List V → List V → List V}
theorem run_mkv {pins : List (Addr × Obj)} {σ : St} {H : Hp} {s : Shared} {Q : VK} {us ws : List Value} {vs zs : List V} (O : OwnX X.K C fI)
    (F1 : FnOk X.prog X.w X.K X.mg X.base CX k fI fd ps sp) (hr : Room (k + 1) X.A) (hb : KBn X.K fd ps (n + 1) ks g gV) (hx : Passes CX X (fun _ _ _ => False)) (hn : n ≤ 1000)
    (I : Inv X pins σ H s) (r : Vals vs us) (rz : Vals zs ws) (l1 : vs.length = n) (l2 : zs.length = ks.length)
    (h : ∀ a, H a = none → sp (gV (.ref a :: vs) zs) (upd H a (exo a C none)) (fun v H3 => v = .non ∧ Q (.ref a) H3) (fun _ _ _ => False)) :
    wpAny (model X.prog X.w) X.A (call (.ref C) us (ks.zip ws)) (EP X pins σ Q) X.xe s := by
  obtain ⟨cn, cq, cN, cbs, cbm, csn, csub, cab, ccol, cdd, z0, z1, z2, z3, z5, isC, isR⟩ := O.T.cls
  obtain ⟨H0, gg, dr, tt, oo⟩ := s
  let a : Addr := H0.objs.size + 1
  let H9 : Heap := (H0.push (PySem.W.kdv_tup us)).push (PySem.HandSPX.excO C H0.objs.size)
  have up : ∀ b o, H0.get? b = some o → H9.get? b = some o := fun b o q => Heap.get?_push_of_some _ (Heap.get?_push_of_some _ q)
  have at9 : H9.get? a = some (PySem.HandSPX.excO C H0.objs.size) := by
    show ((H0.push (PySem.W.kdv_tup us)).push (PySem.HandSPX.excO C H0.objs.size)).get? (H0.objs.size + 1) = _
    heap_get
  have free : H a = none := I.hok.fresh (show H0.objs.size ≤ a from Nat.le_succ _)
  have J : Inv X pins σ (upd H a (exo a C none)) ⟨H9, gg, dr, tt, oo⟩ := I.laid (t' := tt) (a := a) (o := exo a C none) (h' := H9) up (Nat.le_succ _) (exo_ok at9)
  have rel := hb.rel (vs := V.ref a :: vs) (us := Value.ref a :: us) (.cons rfl r) rz
  have lu : us.length = n := r.length.symm.trans l1
  have small : us.length ≤ sizeLine := by rw [lu, sizeLine_eq]; omega
  have bnd := hb.to (⟨H9, gg, dr, tt, oo⟩ : Shared) (Value.ref a :: us) ws J.kIn (by rw [List.length_cons, lu]) (rz.length.symm.trans l2)
  refine wpAny_call (PySem.ExV.call_kw F.excBase_ValueError (fun Y => PySem.HandSPX.refsVE_contains Y cbm isR) (I.kIn _ _ isC) (PySem.W.looks_findIn I.kIn O.iC) (fun self => PySem.W.bind_fn I.kIn self O.tI) small
    (codeAny_mono (F1.run _ X.stack ⟨H9, gg, dr, tt, oo⟩ _ ⟨Value.ref a :: us, ks.zip ws⟩ _ _ _ (fun _ _ _ => False) (hr.make C us (ks.zip ws)) (J.env0.make C us (ks.zip ws)) bnd rel (h a free)) fun res s9 got => ?_))
  cases res with
  | error er => exact hx pins σ _ _ er s9 J got
  | ok fl =>
    cases fl with
    | ret u =>
      obtain ⟨v, H', I3, rv, ev, q3⟩ := J.after got
      subst ev
      exact ⟨rv, ⟨V.ref a, H', I3, rfl, q3⟩⟩
    | next => exact got.elim
    | brk => exact got.elim
    | cont => exact got.elim
end
end L2
end
section
set_option maxHeartbeats 4000000
namespace PySem
namespace ExV
open PySem.W PyProof.Rows
section
variable {prog : Program} {w : World} {A : Around} {E : Value → Shared → Prop} {s : Shared} {K : Frag} {x D : Addr} {ox : Obj} {od : Option Obj}
/-- what the class must say -/
structure ClsX (K : Frag) (D : Addr) : Prop where
  ga : findIn K (.ref D) "__getattribute__" = some (some (.builtin "BaseException.__getattribute__"))
  gt : findIn K (.ref D) "__getattr__" = some none
  su : subIn K (.ref D) (.type "BaseException") = some true
  di : hasDictIn K D = true
  cl : findIn K (.ref D) "__class__" = some (some (.builtin "object.__class__"))
  sp : specialIn K (.builtin "object.__class__") "__get__" = some (some (.builtin "getset_descriptor.__get__"))
  tk : takesIn K (.builtin "object.__class__") = some true
  mr : mroIn K D (.type "object") = some true
end
end ExV
end PySem
namespace L2
open PySem PySem.Spec PyProof.Rows
end L2
end
section
set_option maxHeartbeats 4000000
namespace L2
open PySem PySem.Spec PyProof.Rows
theorem Same.new {H H' : Hp} {p : Addr} {o : HO} (a : Same H H') (hp : H' p = none) : Same H (upd H' p o) := fun x u e => by
  rw [upd_ne (ne_of_none (a x u e) hp)]
  exact a x u e
/-- what an __init__ that stores its one value keeps -/
def spI1 (C : Addr) (f : Str) : Sp := fun vs H Q _ => ∃ (a : Addr) (v : V), vs = [.ref a, v] ∧ H a = some (exo a C none) ∧ ∀ dx, H dx = none → dx ≠ a → Q .non (upd (upd H dx (exd dx [(f, v)])) a (exo a C (some dx)))
/-- an error class with one field -/
structure One (P : Program) (w : World) (K : PySem.W.Frag) (mg : Str → Option Value) (base : Heap) (C : Addr) (cls f : Str) : Prop where
  ex : ∃ (fI : Addr) (fd : FuncData), OwnX K C fI ∧ FnOk P w K mg base CX0 1 fI fd ["self", f] (spI1 C f) ∧ KBn K fd ["self", f] 2 [] (fun us _ => us) (fun vs _ => vs) ∧
    KBn K fd ["self", f] 1 [f] (fun us ws => us ++ ws) (fun vs zs => vs ++ zs)
  g : mg cls = some (.ref C)
  Z : PySem.ExV.ClsX K C
  no : PySem.W.findIn K (.ref C) f = some none
/-- .. none -/
structure Bare (K : PySem.W.Frag) (mg : Str → Option Value) (C : Addr) (cls : Str) : Prop where
  q : PySem.W.excIn K C [.type "ValueError", .type "Exception", .type "BaseException", .type "object"] "ValueError.__new__" = true
  kC : PySem.W.keepIn K (.ref C) = true
  g : mg cls = some (.ref C)
  Z : PySem.ExV.ClsX K C
/-- a new error with the fields fs -/
def NewX (C : Addr) (fs : List (Str × V)) (H : Hp) (Q : VK) : Prop := ∀ (a dx : Addr) (H' : Hp), H a = none → H dx = none → Same H H' → H' a = some (exo a C (some dx)) → H' dx = some (exd dx fs) → dx ≠ a → Q (.ref a) H'
theorem NewX.one {C : Addr} {f : Str} {v : V} {H : Hp} {Q : VK} (q : NewX C [(f, v)] H Q) (a : Addr) (ha : H a = none) :
    spI1 C f [.ref a, v] (upd H a (exo a C none)) (fun u H3 => u = .non ∧ Q (.ref a) H3) (fun _ _ _ => False) :=
  ⟨a, v, rfl, upd_same, fun dx hd ne => ⟨rfl, q a dx _ ha (by rw [upd_ne ne] at hd; exact hd)
    (fun b o e => by
      have n1 := ne_of_none e ha
      have n2 : b ≠ dx := fun z => by rw [z] at e; rw [upd_ne ne, e] at hd; cases hd
      rw [upd_ne n1, upd_ne n2, upd_ne n1]; exact e) upd_same (by rw [upd_ne ne, upd_same]) ne⟩⟩
section
variable {X : Cx} {C : Addr} {cls f h : Str} {p pos : Pos} {e e2 : Expr} {te te2 : TE} {apos kp1 kp2 : Pos}
def tOneV (C : Addr) (f : Str) (te : TE) : TE := fun σ H Q => te σ H fun v H1 => NewX C [(f, v)] H1 Q
def tBareV (C : Addr) : TE := fun _ H Q => ∀ (a : Addr) (H' : Hp), H a = none → Same H H' → H' a = some (ExO (.ref C) a) → Q (.ref a) H'
variable {pins : List (Addr × Obj)} {σ : St} {H : Hp} {s : Shared} {Q : VK} {v u : V} {v' u' : Value}
theorem run_one1 (R : One X.prog X.w X.K X.mg X.base C cls f) (hr : Room 2 X.A) (I : Inv X pins σ H s) (r : RelV v v') (q : NewX C [(f, v)] H Q) : wpAny (model X.prog X.w) X.A (call (.ref C) [v'] []) (EP X pins σ Q) X.xe s := by
  obtain ⟨fI, fd, O, F, b1, _⟩ := R.ex
  exact run_mkv (us := [v']) (vs := [v]) (ws := []) (zs := []) O F hr b1 pass0 (by decide) I (.cons r .nil) .nil rfl rfl (q.one)
/-- C(e) -/
theorem pe_one1 (R : One X.prog X.w X.K X.mg X.base C cls f) (hr : Room 2 X.A) (he : PE X e te) (hg : Gl X cls := by rfl) (hdb : (cls == ("__debug__" : Str)) = false := by decide)
    (hs : starEach [e] X.env = (false, eval e X.env) :: starEach [] X.env := by rfl) : PE X (.Call (.Name cls p) [e] [] pos) (tOneV C f te) := by
  refine ⟨fun pins s σ H Q I h => wpAny_Call_Name_kw (ld_glob I hg R.g ?_ hdb)⟩
  refine PySem.W.callWith_K (h₀ := X.base) I.ok.mod.kin (let ⟨_, _, O, _⟩ := R.ex; O.T.kC) ?_ hs (by rfl)
  rw [hs]
  show wpAny _ _ (spliced ((false, eval e X.env) :: backTo pos (starEach [] X.env))) _ _ s
  exact Calls.spliced_cons (thn (he.run pins s σ H _ I h) fun w1 s1 ⟨x, H1, I1, r1, q1⟩ => Calls.spliced_nil ⟨I1.kIn, run_one1 R hr I1 r1 q1⟩)
/-- C() -/
theorem pe_bare (R : Bare X.K X.mg C cls) (hg : Gl X cls := by rfl) (hdb : (cls == ("__debug__" : Str)) = false := by decide) : PE X (.Call (.Name cls p) [] [] pos) (tBareV C) := by
  refine ⟨fun pins s σ H Q I h => wpAny_Call_Name_kw (ld_glob I hg R.g ?_ hdb)⟩
  refine PySem.W.callWith_K0 I.kIn R.kC ?_
  show wpAny _ _ (call (.ref C) []) _ _ _
  obtain ⟨bm, N, nm, qn, bs, hdct, sn, sub, ab, col, dd, k0, k1, k2, k3, k5, mN, hC, hN, hni, T⟩ := exc_obj I.kIn R.q
  obtain ⟨h0, g0, d0, t0, o0⟩ := s
  refine wpAny_call_exc_subT F.excBase_ValueError T hC hN hni (fun h' a hm => ?_) (by show 0 ≤ sizeLine; exact Nat.zero_le _)
  have hn : H a = none := I.hok.gone hm.new
  obtain ⟨t, ht, _, _⟩ := hm.there
  exact ⟨.ref a, upd H a (ExO (.ref C) a), I.laidN hm.keeps hm.new hn (exO_ok ht ⟨rfl, rfl⟩ rfl rfl rfl (show 4 < 6 by decide)), rfl, h a _ hn (Same.new (fun _ _ e => e) hn) upd_same⟩
end
end L2
end
section
set_option maxHeartbeats 4000000
namespace L2
open PySem PySem.Spec PyProof.Rows
section
variable {X : Cx}
/-- an expression that gives a new error with its dict: what is raised -/
theorem pmk_retX {e : Expr} {te : TE} (hx : X.ex = []) (he : PE X e te) :
    PMk X e (fun σ H Q => te σ H fun x H1 => ∃ (a C dx : Addr), x = .ref a ∧ H1 a = some (exo a C (some dx)) ∧ Fr0 X.H_0 a ∧ Raises X (.ref C) ∧ Q (.ref C) (some dx) (delH H1 a)) := by
  intro pins s σ H Q I h
  refine wpAny_mono (he.run pins s σ H _ I h) (fun u s1 got => ?_) fun _ _ z => z
  obtain ⟨v, H1, I1, r1, a, C, dx, rfl, ea, fr, ra, q⟩ := got
  cases (show u = Value.ref a from r1)
  obtain ⟨t1, at_⟩ := exo_at I1.hok ea
  obtain ⟨G, sub, gone, J⟩ := I1.untrack ea fr hx
  exact ⟨a, _, _, { s1 with heap := G }, delH H1 a, .ref C, some dx, rfl, J, sub, gone, at_, ⟨rfl, rfl⟩, rfl, rfl, delH_same, rfl, I1.bare, ra, q⟩
end
/-- how an __init__ with one value is called -/
theorem kb1 {K : PySem.W.Frag} {st : Stmt} {f qual : Str} {fI : Addr} {fd : FuncData} (F : Fun K "__init__" qual st fI fd)
    (h1 : ∀ (kV doc pm : Value) (an : Option Addr) (cdv ct a b : Value), bindArgs (PySem.W.fnOf "__init__" qual (defArgs st) (defBody st) (defScope st) .none kV doc pm an cdv ct) ⟨[a, b], []⟩ = pure [(("self" : Str), a), (f, b)])
    (h2 : ∀ (kV doc pm : Value) (an : Option Addr) (cdv ct a b : Value), bindArgs (PySem.W.fnOf "__init__" qual (defArgs st) (defBody st) (defScope st) .none kV doc pm an cdv ct) ⟨[a], [(f, b)]⟩ = pure [(("self" : Str), a), (f, b)]) :
    KBn K fd ["self", f] 2 [] (fun us _ => us) (fun vs _ => vs) ∧ KBn K fd ["self", f] 1 [f] (fun us ws => us ++ ws) (fun vs zs => vs ++ zs) := by
  obtain ⟨oc, od, kV, doc, pm, an, cdv, ct, osl, rfl, lk, hcd⟩ := F.ex
  refine ⟨⟨fun s us ws X l1 l2 => ?_, fun r _ => r⟩, ⟨fun s us ws X l1 l2 => ?_, fun r rz => r.append rz⟩⟩
  · match us, ws, l1, l2 with
    | [a, b], [], _, _ => exact .of_eq (h1 kV doc pm an cdv ct a b)
  · match us, ws, l1, l2 with
    | [a], [b], _, _ => exact .of_eq (h2 kV doc pm an cdv ct a b)
end L2
end
section
set_option maxHeartbeats 4000000
namespace PySem
namespace OwnB
open PySem.W PySem.Calls PyProof.Rows
section
variable {prog : Program} {w : World} {A : Around} {E : Value → Shared → Prop} {s : Shared} {K : Frag} {x C f g : Addr} {ox : Obj} {od : Option Obj} {T : String} {a : Value} {op : Operator} {Q : Value → Shared → Prop}
/-- x op a: the class of x has the operator, a is of a built-in type -/
theorem left_own {fo ro rc : Option Value} (X : K.In s.heap) (I : InstAt s.heap x ox C od) (ha : Looks (model prog w) s.heap (typeOf a) (.type T)) (hc : selfFirst K C = true)
    (hs : findIn K (.ref C) (PySem.dunder op.info.2) = some (some (.ref f))) (hf : isFn K (.ref f) = true) (hr : findIn K (.ref C) (dunderR op.info.2) = some rc) (hp : rc = none ∨ ∃ g : Addr, rc = some (.ref g))
    (h1 : findIn K (.type T) (PySem.dunder op.info.2) = some fo) (h2 : findIn K (.type T) (dunderR op.info.2) = some ro) (hsub : subIn K (.type T) (.ref C) = some false)
    (h : wpAny (model prog w) A (call (.ref f) [.ref x, a]) (W.CmpBack Q) E s) : wpAny (model prog w) A (binaryOp op (.ref x) a) Q E s := by
  obtain ⟨cd, rest, hcd, hm⟩ := ksp_first hc
  rcases hi : op.info with ⟨sym, nm'⟩
  rw [hi] at hs hr h1 h2
  dsimp only at hs hr h1 h2
  have one := ksp_try X I hs hf h
  obtain ⟨hh, g9, d9, tt, os⟩ := s
  have y1 : Looks (model prog w) hh (typeOf (.ref x)) (.ref C) := I.type
  have y2 : Looks (model prog w) hh (typeOf a) (.type T) := ha
  have y3 : Looks (model prog w) hh (fillsNumberSlot (.ref C) nm') true := fills_K X hcd hm hs
  have y4 : Looks (model prog w) hh (fillsNumberSlot (.type T) nm') ((fo.isSome && !isSeqSlot fo) || (ro.isSome && !isSeqSlot ro)) := ksp_fillsT X h1 h2
  have y5 : Looks (model prog w) hh (isSubtype (.type T) (.ref C)) false := looks_subIn X hsub
  have y6 : Looks (model prog w) hh (numberSlotInPython (.ref C) nm') true := ksp_inPy X hs hr hp
  have y7 : Looks (model prog w) hh (numberSlotInPython (.type T) nm') false := Looks.of_pure rfl
  have y8 : Looks (model prog w) hh (typeLookup (.type T) (dunderR nm')) ro := looks_findIn X h2
  generalize ((fo.isSome && !isSeqSlot fo) || (ro.isSome && !isSeqSlot ro)) = right at y4
  have ne : (Value.ref C == Value.type T) = false := Bool.eq_false_iff.mpr fun q => by cases beq_iff_eq.mp q
  simp only [binaryOp, hi]
  refine wpAny_holding (wpAny_bind ?_)
  unfold binaryOp1
  refine wpAny_bind (y1.at (wpAny_bind (y2.at (wpAny_bind (y3.at ?_)))))
  simp only [ne, Bool.false_eq_true, if_false]
  cases right <;>
  · ksp_lk
    refine wpAny_mono one (fun r s' hr' => ?_) fun _ _ e => e
    obtain ⟨v, rfl, hq⟩ := hr'
    ksp_lk
    exact hq
/-- a op x: a is of a built-in type, whose operator (if it has one for numbers) declines -/
theorem right_own {fo ro : Option Value} (X : K.In s.heap) (I : InstAt s.heap x ox C od) (ha : Looks (model prog w) s.heap (typeOf a) (.type T)) (hc : selfFirst K C = true)
    (hs : findIn K (.ref C) (PySem.dunder op.info.2) = some (some (.ref f))) (hr : findIn K (.ref C) (dunderR op.info.2) = some (some (.ref g))) (hg : isFn K (.ref g) = true)
    (h1 : findIn K (.type T) (PySem.dunder op.info.2) = some fo) (h2 : findIn K (.type T) (dunderR op.info.2) = some ro) (hsub : subIn K (.ref C) (.type T) = some false)
    (dec : ((fo.isSome && !isSeqSlot fo) || (ro.isSome && !isSeqSlot ro)) = true → ∀ Q' : Option Value → Shared → Prop, Q' none s → wpAny (model prog w) A (tryMethod a (PySem.dunder op.info.2) (.ref x)) Q' E s)
    (h : wpAny (model prog w) A (call (.ref g) [.ref x, a]) (W.CmpBack Q) E s) : wpAny (model prog w) A (binaryOp op a (.ref x)) Q E s := by
  obtain ⟨cd, rest, hcd, hm⟩ := ksp_first hc
  rcases hi : op.info with ⟨sym, nm'⟩
  rw [hi] at hs hr h1 h2 dec
  dsimp only at hs hr h1 h2 dec
  have one := ksp_try X I hr hg h
  obtain ⟨hh, g9, d9, tt, os⟩ := s
  have y1 : Looks (model prog w) hh (typeOf (.ref x)) (.ref C) := I.type
  have y2 : Looks (model prog w) hh (typeOf a) (.type T) := ha
  have y3 : Looks (model prog w) hh (fillsNumberSlot (.ref C) nm') true := fills_K X hcd hm hs
  have y4 : Looks (model prog w) hh (fillsNumberSlot (.type T) nm') ((fo.isSome && !isSeqSlot fo) || (ro.isSome && !isSeqSlot ro)) := ksp_fillsT X h1 h2
  have y5 : Looks (model prog w) hh (isSubtype (.ref C) (.type T)) false := looks_subIn X hsub
  have y7 : Looks (model prog w) hh (numberSlotInPython (.type T) nm') false := Looks.of_pure rfl
  generalize ((fo.isSome && !isSeqSlot fo) || (ro.isSome && !isSeqSlot ro)) = left at y4 dec
  have ne : (Value.type T == Value.ref C) = false := Bool.eq_false_iff.mpr fun q => by cases beq_iff_eq.mp q
  simp only [binaryOp, hi]
  refine wpAny_holding (wpAny_bind ?_)
  unfold binaryOp1
  refine wpAny_bind (y2.at (wpAny_bind (y1.at (wpAny_bind (y4.at ?_)))))
  simp only [ne, Bool.false_eq_true, if_false]
  cases left with
  | false =>
    ksp_lk
    refine wpAny_mono one (fun r s' hr' => ?_) fun _ _ e => e
    obtain ⟨v, rfl, hq⟩ := hr'
    ksp_lk
    exact hq
  | true =>
    ksp_lk
    refine dec rfl _ ?_
    ksp_lk
    refine wpAny_mono one (fun r s' hr' => ?_) fun _ _ e => e
    obtain ⟨v, rfl, hq⟩ := hr'
    ksp_lk
    exact hq
end
end OwnB
end PySem
end
section
set_option maxHeartbeats 4000000
namespace PySem
namespace OwnB
open PySem.W PySem.Calls PyProof.Rows
theorem no_ref (C : Addr) : ∀ l : List String, (l.map Value.type).contains (.ref C) = false
  | [] => rfl
  | a :: l => by
    rw [List.map_cons, List.contains_cons, no_ref C l]
    rfl
theorem sub_type {K : Frag} {C : Addr} {T : String} (h : (fastBuiltinMro T).isSome = true) : subIn K (.type T) (.ref C) = some false := by
  show (fastBuiltinMro T).map (·.contains (.ref C)) = some false
  unfold fastBuiltinMro at h ⊢
  cases e : fastFind? T with
  | none => rw [e] at h; cases h
  | some i => rw [Option.map_some, Option.map_some, no_ref]
theorem look_type {K : Frag} {T : String} (n : Str) (h : (fastBuiltinMro T).isSome = true) : ∃ fo, findIn K (.type T) n = some fo := by
  show ∃ fo, fastLookup T n = some fo
  unfold fastLookup
  cases e : fastBuiltinMro T with
  | none => rw [e] at h; cases h
  | some l => exact ⟨_, rfl⟩
/-- an int's own operator declines an instance -/
theorem int_declines {prog : Program} {w : World} {A : Around} {E : Value → Shared → Prop} {s : Shared} {x C : Addr} {ox : Obj} {od : Option Obj} {a : Value} {T id : String} {name : Str} {nm2 : String} {fn : Int → Int → Sem Fin}
    (I : InstAt s.heap x ox C od) (hd : ∀ v, ox.data ≠ .prim v) (sl : Slot T name id) (hT : s.TypeIs a T) (he : entryFor table id = some (Builtin.Int.intBinary nm2 fn)) (ha : argsOk id ⟨[a, .ref x], []⟩)
    (hi : ∃ i, asInt? a = pure (some i)) (Q : Option Value → Shared → Prop) (q : Q none s) :
    wpAny (model prog w) A (tryMethod a name (.ref x)) Q E s := by
  unfold tryMethod
  refine wpAny_bind (wpAny_callSpecial?_slot hT sl (wpAny_call_entry sl hT he ?_ ha))
  unfold Builtin.Int.intBinary
  refine wpAny_bind (wpAny_of_eq (a := (a, [Value.ref x])) (by first | rfl | (simp only [slotArgs]; rfl)) ?_)
  obtain ⟨i, hi⟩ := hi
  unfold Builtin.Int.intOfSelf
  dsimp only
  rw [hi]
  refine wpAny_bind (wpAny_bind (wpAny_pure (wpAny_pure ?_)))
  dsimp only [List.headD]
  unfold asInt?
  refine wpAny_bind (wpAny_bind (wpAny_load I.at_ ?_))
  obtain ⟨oc, odd, dat, sl'⟩ := ox
  cases dat <;> first | (exact absurd rfl (hd _)) | exact wpAny_pure (wpAny_bind (wpAny_rule (wpAny_pure ⟨_, rfl, wpAny_pure q⟩)))
end OwnB
end PySem
end
section
set_option maxHeartbeats 4000000
namespace L2
open PySem PySem.Spec PyProof.Rows
/-- a class right below object -/
structure Top1 (K : PySem.W.Frag) (C : Addr) : Prop where
  mr : ∃ cd : ClassData, PySem.W.clsIn K C = some cd ∧ cd.mro = [.ref C, .type "object"]
  sf : PySem.W.selfFirst K C = true
theorem Top1.sub {K : PySem.W.Frag} {C : Addr} (t : Top1 K C) (u : Value) : PySem.W.subIn K (.ref C) u = some (([Value.ref C, .type "object"] : List Value).contains u) := by
  obtain ⟨cd, h1, h2⟩ := t.mr
  show PySem.W.mroIn K C u = _
  unfold PySem.W.mroIn
  rw [h1, Option.bind_some, h2]
  rfl
theorem Top1.no {K : PySem.W.Frag} {C : Addr} (t : Top1 K C) {T : String} (h : T ≠ "object") : PySem.W.subIn K (.ref C) (.type T) = some false := by
  rw [t.sub]
  simp [h]
/-- its operator: the def f, the other way round g -/
structure OpC (K : PySem.W.Frag) (C f g : Addr) (op : Operator) : Prop where
  hs : PySem.W.findIn K (.ref C) (PySem.dunder op.info.2) = some (some (.ref f))
  hf : PySem.W.isFn K (.ref f) = true
  hr : PySem.W.findIn K (.ref C) (PySem.dunderR op.info.2) = some (some (.ref g))
  hg : PySem.W.isFn K (.ref g) = true
/-- a built-in type without such an operator for numbers -/
def numFree (T nm : String) : Bool := (fastBuiltinMro T).isSome && (match fastLookup T (PySem.dunder nm), fastLookup T (PySem.dunderR nm) with
  | some fo, some ro => !((fo.isSome && !isSeqSlot fo) || (ro.isSome && !isSeqSlot ro))
  | _, _ => false)
/-- a value of a built-in type -/
inductive Blt (K : PySem.W.Frag) (H : Hp) (nm : String) : V → Prop where
  | int (i : Int) : Blt K H nm (.int i)
  | bl (b : Bool) : Blt K H nm (.bl b)
  | free {x : V} {T : String} (h : TyX K H x (.type T)) (n : numFree T nm = true) (o : T ≠ "object") : Blt K H nm x
def rOwnL (K : PySem.W.Frag) (C : Addr) (nm : String) (sp : Sp) (E : XK) : R2 := fun x y H Q => ∃ (a dx : Addr) (fs : List (Str × V)), x = .ref a ∧ H a = some (.ins C dx fs) ∧
  ((∃ (b dy : Addr) (gs : List (Str × V)), y = .ref b ∧ H b = some (.ins C dy gs)) ∨ Blt K H nm y) ∧ sp [x, y] H Q E
def rOwnR (K : PySem.W.Frag) (C : Addr) (nm : String) (sp : Sp) (E : XK) : R2 := fun x y H Q => ∃ (b dx : Addr) (fs : List (Str × V)), y = .ref b ∧ H b = some (.ins C dx fs) ∧ Blt K H nm x ∧ sp [y, x] H Q E
section
variable {X : Cx} {CX : CXT} {k : Nat} {f g C : Addr} {fd : FuncData} {ps : List Str} {sp : Sp} {E : XK} {op : Operator} {pins : List (Addr × Obj)} {σ : St} {H : Hp} {s : Shared}
theorem inst_ins (I : Inv X pins σ H s) {a dx : Addr} {fs : List (Str × V)} (e : H a = some (.ins C dx fs)) : ∃ od : Obj, PySem.W.InstAt s.heap a (PySem.W.instObj C dx) C (some od) := by
  obtain ⟨mA, O, _⟩ := ins_get I.hok e
  obtain ⟨od, J, _⟩ := O.look
  exact ⟨od, J⟩
theorem back {Q : VK} {α : Type} {t : Sem Value} (h : wpAny (model X.prog X.w) X.A t (EP X pins σ Q) X.xe s) : wpAny (model X.prog X.w) X.A t (PySem.W.CmpBack (EP X pins σ Q)) X.xe s :=
  thn h fun u s1 ⟨v, H1, I1, r, q⟩ => by
    have z : EP X pins σ Q u s1 := ⟨v, H1, I1, r, q⟩
    cases v with
    | non => cases (show u = Value.none from r); exact z
    | bl b => cases (show u = Value.bool b from r); exact z
    | int i => obtain ⟨t, rfl⟩ := (show ∃ t, u = Value.int i t from r); exact z
    | str i => obtain ⟨t, rfl⟩ := (show ∃ t, u = Value.str i t from r); exact z
    | byt i => obtain ⟨t, rfl⟩ := (show ∃ t, u = Value.bytes i t from r); exact z
    | flt i => obtain ⟨t, rfl⟩ := (show ∃ t, u = Value.float i t from r); exact z
    | ref i => cases (show u = Value.ref i from r); exact z
    | ty i => cases (show u = Value.type i from r); exact z
theorem blt_look (I : Inv X pins σ H s) {nm : String} {y : V} {u : Value} (r : RelV y u) (b : Blt X.K H nm y) : ∃ T, PySem.W.Looks (model X.prog X.w) s.heap (typeOf u) (.type T) ∧ (fastBuiltinMro T).isSome = true ∧ T ≠ "object" := by
  cases b with
  | int i =>
    obtain ⟨t, rfl⟩ := (show ∃ t, u = Value.int i t from r)
    exact ⟨"int", PySem.W.Looks.of_pure rfl, by decide +kernel, by decide⟩
  | bl b =>
    cases (show u = Value.bool b from r)
    exact ⟨"bool", PySem.W.Looks.of_pure rfl, by decide +kernel, by decide⟩
  | @free x T h n o =>
    obtain ⟨P, Z, p, _⟩ := kit_of I r h
    unfold numFree at n
    exact ⟨T, Z.ty _ _ I.kIn p, (Bool.and_eq_true_iff.mp n).1, o⟩
theorem op_ownL (t : Top1 X.K C) (O : OpC X.K C f g op) (F : FnOk X.prog X.w X.K X.mg X.base CX k f fd ps sp) (hr : Room k X.A) (hb : Binds X.K fd ps []) (hx : Passes CX X E) : OpR X (binaryOp op) (rOwnL X.K C op.info.2 sp E) := by
  intro pins s σ H x y v u Q I rx ry h
  obtain ⟨a, dx, fs, rfl, ea, hy, q⟩ := h
  cases (show v = Value.ref a from rx)
  obtain ⟨od, J⟩ := inst_ins I ea
  have go : wpAny (model X.prog X.w) X.A (call (.ref f) [.ref a, u]) (PySem.W.CmpBack (EP X pins σ Q)) X.xe s :=
    back (α := Unit) (run_fn (vs := [.ref a, y]) (dvs := []) F hr hb .nil hx I (.cons rfl (.cons ry .nil)) (by rw [List.append_nil]; exact q))
  obtain ⟨m, fr⟩ := I.fr
  rcases hy with ⟨b, dy, gs, rfl, eb⟩ | hy
  · cases (show u = Value.ref b from ry)
    obtain ⟨od2, J2⟩ := inst_ins I eb
    exact PySem.W.binop_K fr I.ok.mod.kin J J2.type t.sf O.hs O.hf go
  · obtain ⟨T, L, hT, hno⟩ := blt_look I ry hy
    obtain ⟨fo, h1⟩ := PySem.OwnB.look_type (K := X.K) (PySem.dunder op.info.2) hT
    obtain ⟨ro, h2⟩ := PySem.OwnB.look_type (K := X.K) (PySem.dunderR op.info.2) hT
    exact PySem.OwnB.left_own I.kIn J L t.sf O.hs O.hf O.hr (.inr ⟨_, rfl⟩) h1 h2 (PySem.OwnB.sub_type hT) go
/-- how an int's or a bool's own operator declines -/
structure NumDec (op : Operator) (id nm : String) : Prop where
  i : Slot "int" (PySem.dunder op.info.2) id
  b : Slot "bool" (PySem.dunder op.info.2) id
  e : ∃ fn, entryFor table id = some (Builtin.Int.intBinary nm fn)
  a : ∀ x y : Value, argsOk id ⟨[x, y], []⟩
theorem dec_add : NumDec .Add "int.__add__" "__add__" := ⟨PySem.F.slot_int_add, PySem.F.slot_bool_add, ⟨_, PySem.F.entry_int_add⟩, PySem.F.args_int_add_2⟩
theorem dec_sub : NumDec .Sub "int.__sub__" "__sub__" := ⟨PySem.F.slot_int_sub, PySem.F.slot_bool_sub, ⟨_, PySem.F.entry_int_sub⟩, PySem.F.args_int_sub_2⟩
theorem dec_mul : NumDec .Mult "int.__mul__" "__mul__" := ⟨PySem.F.slot_int_mul, PySem.F.slot_bool_mul, ⟨_, PySem.F.entry_int_mul⟩, fun x y => by unfold argsOk; kernel_rfl⟩
theorem op_ownR {id nm : String} (dc : NumDec op id nm) (t : Top1 X.K C) (O : OpC X.K C f g op) (F : FnOk X.prog X.w X.K X.mg X.base CX k g fd ps sp) (hr : Room k X.A) (hb : Binds X.K fd ps []) (hx : Passes CX X E) :
    OpR X (binaryOp op) (rOwnR X.K C op.info.2 sp E) := by
  intro pins s σ H x y v u Q I rx ry h
  obtain ⟨b, dx, fs, rfl, eb, hxb, q⟩ := h
  cases (show u = Value.ref b from ry)
  obtain ⟨od, J⟩ := inst_ins I eb
  have go : wpAny (model X.prog X.w) X.A (call (.ref g) [.ref b, v]) (PySem.W.CmpBack (EP X pins σ Q)) X.xe s :=
    back (α := Unit) (run_fn (vs := [.ref b, x]) (dvs := []) F hr hb .nil hx I (.cons rfl (.cons rx .nil)) (by rw [List.append_nil]; exact q))
  obtain ⟨T, L, hT, hno⟩ := blt_look I rx hxb
  have nodata : ∀ w, (PySem.W.instObj C dx).data ≠ .prim w := fun w z => by cases z
  obtain ⟨fn, dce⟩ := dc.e
  cases hxb with
  | int i =>
    obtain ⟨t', rfl⟩ := (show ∃ t, v = Value.int i t from rx)
    obtain ⟨fo, h1⟩ := PySem.OwnB.look_type (K := X.K) (T := "int") (PySem.dunder op.info.2) (by decide +kernel)
    obtain ⟨ro, h2⟩ := PySem.OwnB.look_type (K := X.K) (T := "int") (PySem.dunderR op.info.2) (by decide +kernel)
    exact PySem.OwnB.right_own I.kIn J (PySem.W.Looks.of_pure rfl) t.sf O.hs O.hr O.hg h1 h2 (t.no (by decide)) (fun _ Q' q' => PySem.OwnB.int_declines J nodata dc.i (typeIs_int s i t') dce (dc.a _ _) ⟨i, rfl⟩ Q' q') go
  | bl c =>
    cases (show v = Value.bool c from rx)
    obtain ⟨fo, h1⟩ := PySem.OwnB.look_type (K := X.K) (T := "bool") (PySem.dunder op.info.2) (by decide +kernel)
    obtain ⟨ro, h2⟩ := PySem.OwnB.look_type (K := X.K) (T := "bool") (PySem.dunderR op.info.2) (by decide +kernel)
    exact PySem.OwnB.right_own I.kIn J (PySem.W.Looks.of_pure rfl) t.sf O.hs O.hr O.hg h1 h2 (t.no (by decide)) (fun _ Q' q' => PySem.OwnB.int_declines J nodata dc.b (show s.TypeIs (.bool c) "bool" from rfl) dce (dc.a _ _) ⟨_, rfl⟩ Q' q') go
  | @free _ T' h n o =>
    obtain ⟨P, Z, p, _⟩ := kit_of I rx h
    have L' := Z.ty (model X.prog X.w) _ I.kIn p
    unfold numFree at n
    obtain ⟨n1, n2⟩ := Bool.and_eq_true_iff.mp n
    obtain ⟨fo, h1⟩ := PySem.OwnB.look_type (K := X.K) (PySem.dunder op.info.2) n1
    obtain ⟨ro, h2⟩ := PySem.OwnB.look_type (K := X.K) (PySem.dunderR op.info.2) n1
    refine PySem.OwnB.right_own I.kIn J L' t.sf O.hs O.hr O.hg h1 h2 (t.no o) (fun z => ?_) go
    have e1 : fastLookup T' (PySem.dunder op.info.2) = some fo := h1
    have e2 : fastLookup T' (PySem.dunderR op.info.2) = some ro := h2
    rw [e1, e2] at n2
    dsimp only at n2
    rw [z] at n2
    cases n2
/-- -x -/
theorem un_own (hs : PySem.W.findIn X.K (.ref C) "__neg__" = some (some (.ref f))) (hf : PySem.W.isFn X.K (.ref f) = true) (F : FnOk X.prog X.w X.K X.mg X.base CX k f fd ps sp) (hr : Room k X.A) (hb : Binds X.K fd ps []) (hx : Passes CX X E) :
    UnR X (unaryOp .USub) (fun x H Q => ∃ (a dx : Addr) (fs : List (Str × V)), x = .ref a ∧ H a = some (.ins C dx fs) ∧ sp [x] H Q E) := by
  intro pins s σ H x v Q I rx h
  obtain ⟨a, dx, fs, rfl, ea, q⟩ := h
  cases (show v = Value.ref a from rx)
  obtain ⟨od, J⟩ := inst_ins I ea
  obtain ⟨m, fr⟩ := I.fr
  exact PySem.W.ksp_neg fr I.ok.mod.kin J hs hf (run_fn (vs := [.ref a]) (dvs := []) F hr hb .nil hx I (.cons rfl .nil) (by rw [List.append_nil]; exact q))
end
end L2
end
section
set_option maxHeartbeats 4000000
namespace PySem
namespace OwnB
open PySem.W PySem.Calls PyProof.Rows
/-- n == x, x an instance whose class has an __eq__: an int declines -/
theorem eq_right {prog : Program} {w : World} {A : Around} {E : Value → Shared → Prop} {s : Shared} {K : Frag} {x C f : Addr} {ox : Obj} {od : Option Obj} {i : Int} {t : Tok} {Q : Value → Shared → Prop} (hu : A.units < cLine)
    (X : K.In s.heap) (I : InstAt s.heap x ox C od) (hd : ∀ v, ox.data ≠ .prim v) (hs : findIn K (.ref C) "__eq__" = some (some (.ref f))) (hf : isFn K (.ref f) = true) (hsub : subIn K (.ref C) (.type "int") = some false)
    (h : wpAny (model prog w) A (call (.ref f) [.ref x, .int i t]) (W.CmpBack Q) E s) : wpAny (model prog w) A (compareOp .Eq (.int i t) (.ref x)) Q E s := by
  have two : wpAny (model prog w) A (tryCompare (.ref x) "__eq__" (.int i t)) (fun r s' => ∃ v, r = some v ∧ Q v s') E s := by
    unfold tryCompare
    refine wpAny_bind (ifBound_K X I hs hf (wpAny_mono h (fun v s' hv => ?_) fun _ _ e => e))
    cases v <;> first | exact hv.elim | exact wpAny_pure ⟨_, rfl, hv⟩
  show wpAny _ _ (richCompare .Eq (.int i t) (.ref x)) _ _ _
  unfold richCompare
  refine wpAny_holding (wpAny_bind (wpAny_cRoomFor hu ?_))
  have o1 : oneThing? .Eq (Value.int i t) (.ref x) = none := rfl
  rw [o1]
  have ne : (Value.type "int" != Value.ref C) = true := rfl
  dsimp only
  refine wpAny_bind ((Looks.of_pure (M := model prog w) (h := s.heap) (show typeOf (.int i t) = pure (.type "int") from rfl)).here (wpAny_bind (I.type.here ?_)))
  rw [if_pos ne]
  refine wpAny_bind ((looks_subIn X hsub).here ?_)
  simp only [Bool.false_eq_true, if_false]
  refine wpAny_bind ?_
  unfold tryCompare
  refine wpAny_bind (wpAny_callSpecialIfBound?_slot (typeIs_int s i t) slot_int_eq (wpAny_call_entry slot_int_eq (typeIs_int s i t) entry_int_eq ?_ (args_int_eq _ _)))
  show wpAny _ _ (Builtin.Int.intBinary "__eq__" _ _ _) _ _ _
  unfold Builtin.Int.intBinary
  refine wpAny_bind (wpAny_of_eq (a := (Value.int i t, [Value.ref x])) (by first | rfl | (simp only [slotArgs]; rfl)) ?_)
  unfold Builtin.Int.intOfSelf
  dsimp only
  refine wpAny_bind (wpAny_bind (wpAny_pure (wpAny_pure ?_)))
  dsimp only [List.headD]
  unfold asInt?
  refine wpAny_bind (wpAny_bind (wpAny_load I.at_ ?_))
  have fin : wpAny (model prog w) A (do
      let r ← tryCompare (.ref x) "__eq__" (.int i t)
      match r with
      | some v => pure v
      | none => pure Value.none) Q E s := wpAny_bind (wpAny_mono two (fun r s' hr => by obtain ⟨v, rfl, q⟩ := hr; exact wpAny_pure q) fun _ _ e => e)
  obtain ⟨oc, odd, dat, sl'⟩ := ox
  cases dat <;> first | (exact absurd rfl (hd _)) | (refine wpAny_pure (wpAny_bind (wpAny_rule (wpAny_pure ⟨_, rfl, wpAny_pure ?_⟩))); simp only [Bool.not_false, if_true]; refine wpAny_bind (wpAny_mono two (fun r s' hr => ?_) fun _ _ e => e); obtain ⟨v, rfl, q⟩ := hr; exact wpAny_pure q)
end OwnB
end PySem
namespace L2
open PySem PySem.Spec PyProof.Rows
section
variable {X : Cx} {CX : CXT} {k : Nat} {f C : Addr} {fd : FuncData} {ps : List Str} {sp : Sp} {E : XK}
/-- what stands right of an own == : another one, or a value of a built-in type -/
inductive AnyT (K : PySem.W.Frag) (H : Hp) (C : Addr) : V → Prop where
  | ins {b dx : Addr} {fs : List (Str × V)} (e : H b = some (.ins C dx fs)) : AnyT K H C (.ref b)
  | blt {x : V} {T : String} (h : TyX K H x (.type T)) (n : (fastBuiltinMro T).isSome = true) : AnyT K H C x
theorem op_eqOwn (hu : X.A.units < cLine) (hs : PySem.W.findIn X.K (.ref C) "__eq__" = some (some (.ref f))) (hf : PySem.W.isFn X.K (.ref f) = true) (F : FnOk X.prog X.w X.K X.mg X.base CX k f fd ps sp) (hr : Room k X.A) (hb : Binds X.K fd ps []) (hx : Passes CX X E) :
    OpR X (compareOp .Eq) (fun x y H Q => ∃ (a dx : Addr) (fs : List (Str × V)), x = .ref a ∧ H a = some (.ins C dx fs) ∧ AnyT X.K H C y ∧ sp [x, y] H Q E) := by
  intro pins s σ H x y v u Q I rx ry h
  obtain ⟨a, dx, fs, rfl, ea, hy, q⟩ := h
  cases (show v = Value.ref a from rx)
  obtain ⟨od, J⟩ := inst_ins I ea
  have go : wpAny (model X.prog X.w) X.A (call (.ref f) [.ref a, u]) (PySem.W.CmpBack (EP X pins σ Q)) X.xe s :=
    back (α := Unit) (run_fn (vs := [.ref a, y]) (dvs := []) F hr hb .nil hx I (.cons rfl (.cons ry .nil)) (by rw [List.append_nil]; exact q))
  obtain ⟨m, fr⟩ := I.fr
  show wpAny _ _ (richCompare .Eq (.ref a) u) _ _ _
  cases hy with
  | @ins b dy gs e =>
    cases (show u = Value.ref b from ry)
    obtain ⟨od2, J2⟩ := inst_ins I e
    exact PySem.W.cmp_K hu fr I.ok.mod.kin J J2.type (by unfold PySem.W.notFirst; simp) hs hf go
  | @blt _ T h n =>
    obtain ⟨P, Z, p, _⟩ := kit_of I ry h
    refine PySem.W.cmp_K hu fr I.ok.mod.kin J (Z.ty _ _ I.kIn p) ?_ hs hf go
    unfold PySem.W.notFirst
    rw [PySem.OwnB.sub_type n]
    simp
theorem op_eqOwnR (hu : X.A.units < cLine) (t : Top1 X.K C) (hs : PySem.W.findIn X.K (.ref C) "__eq__" = some (some (.ref f))) (hf : PySem.W.isFn X.K (.ref f) = true) (F : FnOk X.prog X.w X.K X.mg X.base CX k f fd ps sp) (hr : Room k X.A) (hb : Binds X.K fd ps []) (hx : Passes CX X E) :
    OpR X (compareOp .Eq) (fun x y H Q => ∃ (i : Int) (a dx : Addr) (fs : List (Str × V)), x = .int i ∧ y = .ref a ∧ H a = some (.ins C dx fs) ∧ sp [y, x] H Q E) := by
  intro pins s σ H x y v u Q I rx ry h
  obtain ⟨i, a, dx, fs, rfl, rfl, ea, q⟩ := h
  cases (show u = Value.ref a from ry)
  obtain ⟨t', rfl⟩ := (show ∃ t, v = Value.int i t from rx)
  obtain ⟨od, J⟩ := inst_ins I ea
  have go : wpAny (model X.prog X.w) X.A (call (.ref f) [.ref a, .int i t']) (PySem.W.CmpBack (EP X pins σ Q)) X.xe s :=
    back (α := Unit) (run_fn (vs := [.ref a, .int i]) (dvs := []) F hr hb .nil hx I (.cons rfl (.cons rx .nil)) (by rw [List.append_nil]; exact q))
  exact PySem.OwnB.eq_right hu I.kIn J (fun w z => by cases z) hs hf (t.no (by decide)) go
end
end L2
end
section
set_option maxHeartbeats 4000000
namespace HX
open PySem PySem.Spec PyProof.Rows L2 He
/-- an exception class of one's own, right by its object -/
def oexB (K : PySem.W.Frag) (C : Addr) : Bool := match K.lookup C with
  | some ⟨.type y, _, .cls cd, sl⟩ => y == "type" && (match cd.mro, sl.toList with
    | .ref C' :: bm, [_, _, _, _, some (.builtin n), _] => C' == C && (n == "ValueError.__new__" && (!cd.hasDel && (cd.hasDict && PySem.HandSPX.refsVE bm)))
    | _, _ => false)
  | _ => false
theorem oexB_ok {K : PySem.W.Frag} {C : Addr} (h : oexB K C = true) : ∃ nm q N bs bm sn sub ab col dd k0 k1 k2 k3 k5, K.lookup C = some (excClassObj nm q C N bs bm true sn sub ab col dd k0 k1 k2 k3 k5 "ValueError.__new__") ∧ PySem.HandSPX.refsVE bm = true := by
  unfold oexB at h
  split at h
  · rename_i y dd cd sl look
    obtain ⟨hy, h⟩ := ba h
    obtain rfl := beq_iff_eq.mp hy
    split at h
    · rename_i C' bm k0 k1 k2 k3 n k5 e1 e2
      obtain ⟨h1, h⟩ := ba h
      obtain ⟨h2, h⟩ := ba h
      obtain ⟨h3, h⟩ := ba h
      obtain ⟨h4, h⟩ := ba h
      obtain ⟨h5, q⟩ := ba h
      obtain rfl := eq_of_beq h2
      obtain rfl := eq_of_beq h3
      obtain ⟨nm, bs, mro, N, qn, hd, sn, sub, ab, col, del⟩ := cd
      obtain ⟨l⟩ := sl
      dsimp only at e1 e2 h4 h5
      subst e1 e2 h5
      cases del
      · exact ⟨nm, qn, N, bs, bm, sn, sub, ab, col, dd, k0, k1, k2, k3, k5, look, q⟩
      · cases h4
    · cases h
  · cases h
def eqV (a b : Option Value) : Bool := decide (a = b)
theorem eqV_ok {a b : Option Value} (h : eqV a b = true) : a = b := of_decide_eq_true h
def eqB (a b : Option Bool) : Bool := decide (a = b)
theorem eqB_ok {a b : Option Bool} (h : eqB a b = true) : a = b := of_decide_eq_true h
def clsXB (K : PySem.W.Frag) (D : Addr) : Bool := eqO (PySem.W.findIn K (.ref D) "__getattribute__") (some (some (.builtin "BaseException.__getattribute__"))) && (eqO (PySem.W.findIn K (.ref D) "__getattr__") (some none) && (eqB (PySem.W.subIn K (.ref D) (.type "BaseException")) (some true) && (PySem.W.hasDictIn K D &&
  (eqO (PySem.W.findIn K (.ref D) "__class__") (some (some (.builtin "object.__class__"))) && (eqO (PySem.W.specialIn K (.builtin "object.__class__") "__get__") (some (some (.builtin "getset_descriptor.__get__"))) && (eqB (PySem.W.takesIn K (.builtin "object.__class__")) (some true) && eqB (PySem.W.mroIn K D (.type "object")) (some true)))))))
theorem clsXB_ok {K : PySem.W.Frag} {D : Addr} (h : clsXB K D = true) : PySem.ExV.ClsX K D := by
  obtain ⟨h1, h⟩ := ba h
  obtain ⟨h2, h⟩ := ba h
  obtain ⟨h3, h⟩ := ba h
  obtain ⟨h4, h⟩ := ba h
  obtain ⟨h5, h⟩ := ba h
  obtain ⟨h6, h⟩ := ba h
  obtain ⟨h7, h8⟩ := ba h
  exact ⟨eqO_ok h1, eqO_ok h2, eqB_ok h3, h4, eqO_ok h5, eqO_ok h6, eqB_ok h7, eqB_ok h8⟩
/-- an error with an __init__ of its own, its field f -/
def oneB (K : PySem.W.Frag) (C : Addr) (f : Str) : Bool := oexB K C && (eqO (PySem.W.findIn K (.ref C) "__setattr__") (some (some (.builtin "object.__setattr__"))) && (eqV (PySem.W.typeIn K (.ref C)) (some (.type "type")) && (PySem.W.keepIn K (.ref C) &&
  (eqO (PySem.W.findIn K (.ref C) "__init__") (some (some (.ref (ma K C "__init__")))) && (eqV (PySem.W.typeIn K (.ref (ma K C "__init__"))) (some (.type "function")) && (eqO (PySem.W.findIn K (.ref C) f) (some none) && clsXB K C))))))
structure OneF (K : PySem.W.Frag) (C : Addr) (f : Str) : Prop where
  O : OwnX K C (ma K C "__init__")
  Z : PySem.ExV.ClsX K C
  no : PySem.W.findIn K (.ref C) f = some none
  ty : PySem.W.typeIn K (.ref C) = some (.type "type")
theorem oneB_ok {K : PySem.W.Frag} {C : Addr} {f : Str} (h : oneB K C f = true) : OneF K C f := by
  obtain ⟨h1, h⟩ := ba h
  obtain ⟨h2, h⟩ := ba h
  obtain ⟨h3, h⟩ := ba h
  obtain ⟨h4, h⟩ := ba h
  obtain ⟨h5, h⟩ := ba h
  obtain ⟨h6, h⟩ := ba h
  obtain ⟨h7, h8⟩ := ba h
  have Z := clsXB_ok h8
  exact ⟨⟨⟨oexB_ok h1, eqO_ok h2, Z.su, eqV_ok h3, h4⟩, eqO_ok h5, eqV_ok h6⟩, Z, eqO_ok h7, eqV_ok h3⟩
/-- an error without one -/
def bareB (K : PySem.W.Frag) (C : Addr) : Bool := PySem.W.excIn K C [.type "ValueError", .type "Exception", .type "BaseException", .type "object"] "ValueError.__new__" && (PySem.W.keepIn K (.ref C) && (eqV (PySem.W.typeIn K (.ref C)) (some (.type "type")) && clsXB K C))
/-- a class right below object -/
def top1B (K : PySem.W.Frag) (C : Addr) : Bool := (match PySem.W.clsIn K C with
  | some cd => decide (cd.mro = [.ref C, .type "object"])
  | none => false) && PySem.W.selfFirst K C
theorem top1B_ok {K : PySem.W.Frag} {C : Addr} (h : top1B K C = true) : Top1 K C := by
  obtain ⟨h1, h2⟩ := ba h
  cases q : PySem.W.clsIn K C with
  | none => rw [q] at h1; cases h1
  | some cd =>
    rw [q] at h1
    exact ⟨⟨cd, q, of_decide_eq_true h1⟩, h2⟩
/-- what isinstance asks of a class -/
def tyB (K : PySem.W.Frag) (C : Addr) : Bool := eqO (PySem.W.findIn K (.ref C) "__class__") (some (some (.builtin "object.__class__"))) && (eqO (PySem.W.specialIn K (.builtin "object.__class__") "__get__") (some (some (.builtin "getset_descriptor.__get__"))) &&
  (eqB (PySem.W.takesIn K (.builtin "object.__class__")) (some true) && (eqB (PySem.W.mroIn K C (.type "object")) (some true) && eqV (PySem.W.typeIn K (.ref C)) (some (.type "type")))))
theorem tyB_ok {K : PySem.W.Frag} {C : Addr} (h : tyB K C = true) (c : Cls K C) : (∀ (H : Hp) (a dx : Addr) (fs : List (Str × V)), H a = some (.ins C dx fs) → TyX K H (.ref a) (.ref C)) ∧ PySem.W.typeIn K (.ref C) = some (.type "type") := by
  obtain ⟨h1, h⟩ := ba h
  obtain ⟨h2, h⟩ := ba h
  obtain ⟨h3, h⟩ := ba h
  obtain ⟨h4, h5⟩ := ba h
  exact ⟨fun H a dx fs e => .base (.ins e c (eqO_ok h1) (eqO_ok h2) (eqB_ok h3) (eqB_ok h4)), eqV_ok h5⟩
/-- a module's name for a built-in function -/
def bltB (K : PySem.W.Frag) (x : Str) (id : String) : Bool := eqO (PySem.W.nsIn K mainGlobals x) (some (some (.builtin id)))
theorem bltB_ok {K : PySem.W.Frag} {h : Heap} {mg : Str → Option Value} {x : Str} {id : String} (X : K.In h) (G : h.Ns mainGlobals mg) (c : bltB K x id = true) : mg x = some (.builtin id) := PySem.W.mg_of X G (eqO_ok c)
/-- a def without defaults -/
theorem funOf {K : PySem.W.Frag} {x qual : Str} {st : Stmt} {f : Addr} {fd : FuncData} (F : FunD K x qual (defArgs st) (defBody st) (defScope st) [] [] f fd) : Fun K x qual st f fd := by
  obtain ⟨oc, od, dV, kV, doc, pm, an, cdv, ct, osl, rfl, lk, hcd, hD, _⟩ := F.ex
  rcases hD with ⟨_, rfl⟩ | ⟨e, _⟩
  · exact ⟨⟨oc, od, kV, doc, pm, an, cdv, ct, osl, rfl, lk, hcd⟩, F.kp⟩
  · exact absurd rfl e
theorem code_of {K : PySem.W.Frag} {x qual : Str} {params : Arguments} {body : List Stmt} {scope : Scope} {dvs : List V} {kws : List (Str × V)} {p : Str × Option Str} {fd : FuncData} (F : FunD K x qual params body scope dvs kws (fAd K p) fd) : fd.code = .ref (codeOf K p) := by
  obtain ⟨oc, od, dV, kV, doc, pm, an, cdv, ct, osl, rfl, lk, hcd, _, _⟩ := F.ex
  obtain ⟨c, rfl⟩ := codeIn_ref hcd
  rw [codeOf_eq lk rfl]
end HX
end
section
set_option maxHeartbeats 4000000
namespace L2
open PySem PySem.Spec PyProof.Rows
/-- // by any divisor but 0 below 2 ^ 9000 -/
def CDivZ (_ j : Int) : Prop := j ≠ 0 ∧ j.natAbs.log2 < 9000
theorem op_fdivZ {X : Cx} : OpR X (binaryOp .FloorDiv) (rI CDivZ fun i j => .int (i.fdiv j)) := opI fun i j _ _ _ _ _ hc q => floordiv_int hc.1 q (.inl (PyProof.noPylong_of_log2 hc.2))
theorem passK {X : Cx} {E : XK} (tk : Takes X (fun cls d _ H => E cls d H)) : Passes (L2.CX X.prog X.w) X E := fun pins σ H s e s' I c => passAt tk σ pins H s e s' I c
/-- what is no integer: isinstance tells so -/
def NoInt (K : PySem.W.Frag) (H : Hp) (v : V) : Prop := ∃ (t : Value) (b c : Bool), TyX K H v t ∧ PySem.W.kitOne K t (.type "int") = some b ∧ PySem.W.kitOne K t (.type "bool") = some c ∧ (b && !c) = false
end L2
namespace K03
open PySem PySem.Spec PyProof.Rows L2
def top (i : Nat) : Stmt := PySem.Challenge.pw_allstreams_k03_ratios.main.body.getD i (.Pass ⟨0, 0, 0, 0⟩)
structure TxtR (mg : Str → Option Value) : Prop where
  int : mg "int" = none
  bool : mg "bool" = none
  isi : mg "isinstance" = none
  abs : mg "abs" = none
  str : mg "str" = none
  list : mg "list" = none
  len : mg "len" = none
  range : mg "range" = none
  min : mg "min" = none
  all : mg "all" = none
  gcd : mg "gcd" = some (.builtin "math.gcd")
/-- the classes of errors -/
structure ErrR (P : Program) (w : World) (K : PySem.W.Frag) (mg : Str → Option Value) (base : Heap) (cB cN : Addr) : Prop where
  B : One P w K mg base cB "BadValue" "value"
  N : Bare K mg cN "NoDivisor"
  tB : PySem.W.typeIn K (.ref cB) = some (.type "type")
  tN : PySem.W.typeIn K (.ref cN) = some (.type "type")
/-- BadValue(v) leaves -/
def Bad (cB : Addr) (v : V) (H : Hp) (E : XK) : Prop := ∀ (d : Addr) (H' : Hp), H d = none → Same H H' → H' d = some (exd d [("value", v)]) → E (.ref cB) (some d) H'
/-- NoDivisor() leaves -/
def NoDiv (cN : Addr) (H : Hp) (E : XK) : Prop := ∀ (H' : Hp), Same H H' → E (.ref cN) none H'
abbrev iBad : Stmt := inClass (top 3) 0
abbrev sIsInt : Stmt := top 6
abbrev sNeed : Stmt := top 7
def spIsInt (K : PySem.W.Frag) : Sp := fun vs H Q _ => ∃ v, vs = [v] ∧ (((∃ i, v = .int i) ∧ Q (.bl true) H) ∨ (NoInt K H v ∧ Q (.bl false) H))
def spNeed (K : PySem.W.Frag) (cB : Addr) : Sp := fun vs H Q E => ∃ v, vs = [v] ∧ (((∃ i, v = .int i) ∧ Q .non H) ∨ (NoInt K H v ∧ Bad cB v H E))
theorem same_del {H H' : Hp} {a : Addr} (s : Same H H') (ha : H a = none) : Same H (delH H' a) := fun b o e => by
  rw [delH_ne (ne_of_none e ha)]
  exact s b o e
section
variable {P : Program} {w : World} {K : PySem.W.Frag} {mg : Str → Option Value} {base : Heap} {cB cN : Addr}
theorem sBad : FnScope ["self", "value"] ["self", "value"] (defScope iBad) := ⟨rfl, rfl, rfl, by decide +kernel, rfl, by decide +kernel, by decide +kernel⟩
theorem oBad {fI C : Addr} {fd : FuncData} (F : Fun K "__init__" "BadValue.__init__" iBad fI fd) (O : OwnX K C fI) (g : mg "BadValue" = some (.ref C)) (Z : PySem.ExV.ClsX K C) (no : PySem.W.findIn K (.ref C) "value" = some none) : One P w K mg base C "BadValue" "value" := by
  obtain ⟨b1, b2⟩ := kb1 (f := "value") F (fun _ _ _ _ _ _ _ _ => rfl) (fun _ _ _ _ _ _ _ _ => rfl)
  refine ⟨⟨fI, fd, O, F.ok sBad (fun vs H Q E h => ?_) (fun cdv A outer s H vs Q E hr h => ?_), b1, b2⟩, g, Z, no⟩
  · obtain ⟨a, v, rfl, _⟩ := h
    rfl
  · obtain ⟨a, v, rfl, ha, k⟩ := h
    exact ⟨_, pss_one (ps_ost (pv 0) (pv 1)), _, rfl, _, rfl, a, C, rfl, O.T, no, .inl ⟨ha, fun dx hd ne => k dx hd ne⟩⟩
theorem scIsInt : FnScope ["value"] ["value"] (defScope sIsInt) := ⟨rfl, rfl, rfl, by decide +kernel, rfl, by decide +kernel, by decide +kernel⟩
theorem ok_isInt {f : Addr} {fd : FuncData} (F : Fun K "is_integer" "is_integer" sIsInt f fd) (T : TxtR mg) : FnOk P w K mg base CX0 1 f fd ["value"] (spIsInt K) := by
  refine F.ok scIsInt (fun vs H Q E h => ?_) (fun cdv A outer s H vs Q E hr h => ?_)
  · obtain ⟨v, rfl, _⟩ := h
    rfl
  · obtain ⟨v, rfl, k⟩ := h
    refine ⟨_, pss_one (ps_ret (pe_and (pe_callB call_isi (by rfl) T.isi (by decide +kernel) (pa_cons (pv 0) (pa_cons (pe_bltn (v := .ty "int") (u := .type "int") (by rfl) T.int (by decide +kernel) rfl) pa_nil)))
      (pe_one (pe_not (pe_callB call_isi (by rfl) T.isi (by decide +kernel) (pa_cons (pv 0) (pa_cons (pe_bltn (v := .ty "bool") (u := .type "bool") (by rfl) T.bool (by decide +kernel) rfl) pa_nil))))))), ?_⟩
    rcases k with ⟨⟨i, rfl⟩, q⟩ | ⟨⟨t, b, c, ty, h1, h2, h3⟩, q⟩
    · refine ⟨_, rfl, _, .ty "int", .type "int", .type "int", true, rfl, .ty _, .base (.int i), kit_ty (by decide +kernel), true, rfl, ?_⟩
      exact ⟨_, rfl, _, .ty "bool", .type "int", .type "bool", false, rfl, .ty _, .base (.int i), kit_ty (by decide +kernel), _, rfl, q⟩
    · refine ⟨_, rfl, _, .ty "int", t, .type "int", b, rfl, .ty _, ty, h1, b, rfl, ?_⟩
      cases b with
      | false => exact q
      | true =>
        have hc : c = true := by simpa using h3
        subst hc
        exact ⟨_, rfl, _, .ty "bool", t, .type "bool", true, rfl, .ty _, ty, h2, _, rfl, q⟩
theorem scNeed : FnScope ["value"] ["value"] (defScope sNeed) := ⟨rfl, rfl, rfl, by decide +kernel, rfl, by decide +kernel, by decide +kernel⟩
theorem ok_need {f fi : Addr} {fd fdi : FuncData} (F : Fun K "need_integer" "need_integer" sNeed f fd) (G : FnOk P w K mg base CX0 1 fi fdi ["value"] (spIsInt K)) (gi : mg "is_integer" = some (.ref fi)) (kp : PySem.W.keepIn K (.ref fi) = true) (bi : Binds K fdi ["value"] []) (T : ErrR P w K mg base cB cN) :
    FnOk P w K mg base (L2.CX P w) 3 f fd ["value"] (spNeed K cB) := by
  refine F.okX scNeed (fun vs H Q E h => ?_) (fun cdv A outer s H vs Q E hr h => ?_)
  · obtain ⟨v, rfl, _⟩ := h
    rfl
  · obtain ⟨v, rfl, k⟩ := h
    have hr1 : Room 1 _ := hr.mono (by decide)
    refine ⟨_, pss_one (ps_if (pt_not (pt_val (pe_call G hr1 (by rfl) gi kp bi .nil pass0 (pa_cons (pv 0) pa_nil)))) (pss_one (ps_raise rfl (takes_of rfl rfl rfl rfl) (pmk_retX rfl (pe_one1 T.B hr (pv 0))))) pss_nil), ?_⟩
    rcases k with ⟨⟨i, rfl⟩, q⟩ | ⟨no, q⟩
    · exact ⟨_, rfl, _, rfl, .inl ⟨⟨i, rfl⟩, _, rfl, q⟩⟩
    · refine ⟨_, rfl, _, rfl, .inr ⟨no, _, rfl, ?_⟩⟩
      exact ⟨_, rfl, fun a dx H1 ha hd s e ed ne => ⟨a, _, dx, rfl, e, fr0_none ha, raises_own T.B.Z.su T.tB, q dx _ hd (same_del s ha) (by rw [delH_ne ne]; exact ed)⟩⟩
end
end K03
end
section
set_option maxHeartbeats 4000000
namespace K03
open PySem PySem.Spec PyProof.Rows L2
/-- the divisor that brings t by b to lowest terms, b's sign in it -/
def shr (t b : Int) : Int := if b < 0 then -((Nat.gcd t.natAbs b.natAbs : Nat) : Int) else ((Nat.gcd t.natAbs b.natAbs : Nat) : Int)
/-- t by b in lowest terms -/
def low (t b : Int) : Int × Int := (t.fdiv (shr t b), b.fdiv (shr t b))
theorem shr_ne {t b : Int} (h : b ≠ 0) : shr t b ≠ 0 := by
  have g : 0 < Nat.gcd t.natAbs b.natAbs := Nat.gcd_pos_of_pos_right _ (by omega)
  unfold shr
  split <;> omega
theorem shr_le {t b : Int} (h : b ≠ 0) : (shr t b).natAbs ≤ b.natAbs := by
  have g : Nat.gcd t.natAbs b.natAbs ≤ b.natAbs := Nat.gcd_le_right _ (by omega)
  unfold shr
  split <;> omega
theorem log2_le {a b n : Nat} (h : a ≤ b) (ha : 0 < a) (hb : b < 2 ^ n) (hn : 0 < n) : a.log2 < n := by
  have : a < 2 ^ n := Nat.lt_of_le_of_lt h hb
  exact (Nat.log2_lt (by omega)).mpr this
/-- a Ratio -/
def rat (C dx : Addr) (q : Int × Int) : HO := .ins C dx [("top", .int q.1), ("bottom", .int q.2)]
/-- the sizes that are dealt with -/
abbrev Sz (b : Int) : Prop := b.natAbs < 2 ^ 9000
/-- what a new Ratio is made of: the first wrong value is told -/
inductive MadeOf (K : PySem.W.Frag) (cB cN : Addr) (H : Hp) (E : XK) (x y : V) (ok : Int × Int → Prop) : Prop where
  | good (t b : Int) (hx : x = .int t) (hy : y = .int b) (h0 : b ≠ 0) (hs : Sz b) (q : ok (low t b)) : MadeOf K cB cN H E x y ok
  | top (n : NoInt K H x) (q : Bad cB x H E) : MadeOf K cB cN H E x y ok
  | bot (t : Int) (hx : x = .int t) (n : NoInt K H y) (q : Bad cB y H E) : MadeOf K cB cN H E x y ok
  | zero (t : Int) (hx : x = .int t) (hy : y = .int 0) (q : NoDiv cN H E) : MadeOf K cB cN H E x y ok
def spInit (K : PySem.W.Frag) (C cB cN : Addr) : Sp := fun vs H Q E => ∃ (a dx : Addr) (x y : V), vs = [.ref a, x, y] ∧ H a = some (.ins C dx []) ∧
  MadeOf K cB cN H E x y fun q => Q .non (upd H a (rat C dx q))
/-- the class's own facts -/
structure RatC (K : PySem.W.Frag) (mg : Str → Option Value) (C fI : Addr) : Prop where
  made : Mk K C fI
  c : Cls K C
  nT : NoAttr K C "top"
  nB : NoAttr K C "bottom"
  g : mg "Ratio" = some (.ref C)
  t1 : Top1 K C
  ty : PySem.W.typeIn K (.ref C) = some (.type "type")
abbrev sInit : Stmt := inClass (top 15) 0
theorem ne_tb : ¬ (("top" : Str) = "bottom") := by decide +kernel
theorem putTB (u v : V) : putF ("bottom" : Str) v (putF ("top" : Str) u []) = ([("top", u), ("bottom", v)] : List (Str × V)) := by simp [putF, ne_tb]
section
variable {P : Program} {w : World} {K : PySem.W.Frag} {mg : Str → Option Value} {base : Heap} {cB cN C fI : Addr}
/-- not isinstance(x, int) or isinstance(x, bool) -/
def tNoI (K : PySem.W.Frag) (i : Nat) : TT := fun σ H Q => ∃ v, σ[i]? = some (some v) ∧ (((∃ t, v = .int t) ∧ Q false H) ∨ (NoInt K H v ∧ Q true H))
theorem pt_noInt {X : Cx} (B : TxtR X.mg) {i : Nat} {x : Str} {p1 p2 p3 p4 p5 p6 p7 p8 p9 p10 : Pos} (hv : ∀ p, PE X (.Name x p) (tVar i)) (gi : Gl X "isinstance" := by rfl) (gt : Gl X "int" := by rfl) (gb : Gl X "bool" := by rfl) :
    PT X (.BoolOp .Or [.UnaryOp .Not (.Call (.Name "isinstance" p1) [.Name x p2, .Name "int" p3] [] p4) p5, .Call (.Name "isinstance" p6) [.Name x p7, .Name "bool" p8] [] p9] p10) (tNoI X.K i) := by
  have h := PW.pt (pw_or (X := X) (pos := p10) (pt_not (pos := p5) (pt_val (pe_callB (p := p1) (pos := p4) call_isi gi B.isi (by decide +kernel) (pa_cons (hv p2) (pa_cons (pe_bltn (v := .ty "int") (u := .type "int") (pos := p3) gt B.int (by decide +kernel) rfl) pa_nil)))))
      (pw_or1 (pos := p10) (pt_val (pe_callB (p := p6) (pos := p9) call_isi gi B.isi (by decide +kernel) (pa_cons (hv p7) (pa_cons (pe_bltn (v := .ty "bool") (u := .type "bool") (pos := p8) gb B.bool (by decide +kernel) rfl) pa_nil))))))
  refine ⟨fun pins s σ H Q I ⟨v, e, k⟩ => h.run pins s σ H Q I ?_⟩
  rcases k with ⟨⟨t, rfl⟩, q⟩ | ⟨⟨t, b, c, ty, h1, h2, h3⟩, q⟩
  · refine ⟨_, e, _, .ty "int", .type "int", .type "int", true, rfl, .ty _, .base (.int t), kit_ty (by decide +kernel), true, rfl, ?_⟩
    exact ⟨_, e, _, .ty "bool", .type "int", .type "bool", false, rfl, .ty _, .base (.int t), kit_ty (by decide +kernel), false, rfl, q⟩
  · refine ⟨_, e, _, .ty "int", t, .type "int", b, rfl, .ty _, ty, h1, b, rfl, ?_⟩
    cases b with
    | false => exact q
    | true =>
      have hc : c = true := by simpa using h3
      subst hc
      exact ⟨_, e, _, .ty "bool", t, .type "bool", true, rfl, .ty _, ty, h2, true, rfl, q⟩
theorem scInit : FnScope ["self", "top", "bottom", "shared"] ["self", "top", "bottom"] (defScope sInit) := ⟨rfl, rfl, rfl, by decide +kernel, rfl, by decide +kernel, by decide +kernel⟩
theorem ok_init {fn : Addr} {fd fdn : FuncData} (F : FunD K "__init__" "Ratio.__init__" (defArgs sInit) (defBody sInit) (defScope sInit) [.int 1] [] fI fd) (G : FnOk P w K mg base (L2.CX P w) 3 fn fdn ["value"] (spNeed K cB)) (gn : mg "need_integer" = some (.ref fn)) (kp : PySem.W.keepIn K (.ref fn) = true)
    (bn : Binds K fdn ["value"] []) (T : ErrR P w K mg base cB cN) (R : RatC K mg C fI) (B : TxtR mg) : FnOk P w K mg base (L2.CX P w) 4 fI fd ["self", "top", "bottom"] (spInit K C cB cN) := by
  refine F.ok (CX := L2.CX P w) scInit (fun vs H Q E h => ?_) (fun cdv A outer s H vs Q E hr h => ?_)
  · obtain ⟨a, dx, x, y, rfl, _⟩ := h
    rfl
  · obtain ⟨a, dx, x, y, rfl, ha, k⟩ := h
    have nd := scInit.nd
    have hr2 : Room 2 _ := hr.mono (by decide)
    refine ⟨_, pss_cons (ps_if (pt_noInt B (fun _ => pv 1)) (pss_one (ps_raise rfl (takes_of rfl rfl rfl rfl) (pmk_retX rfl (pe_one1 T.B hr2 (pv 1))))) pss_nil)
      (pss_cons (ps_if (pt_noInt B (fun _ => pv 2)) (pss_one (ps_raise rfl (takes_of rfl rfl rfl rfl) (pmk_retX rfl (pe_one1 T.B hr2 (pv 2))))) pss_nil)
      (pss_cons (ps_set (i := 3) nd rfl (Or.inl rfl) (pe_callBfun cr_gcd (by rfl) B.gcd (pa_cons (pv 1) (pa_cons (pv 2) pa_nil))))
      (pss_cons (ps_if (pt_cmpR op_lt (pv 2) pe_int (nomark _)) (pss_one (ps_set (i := 3) nd rfl (Or.inl rfl) (pe_un un_neg (pv 3)))) pss_nil)
      (pss_cons (ps_if (PW.pt (pw_or (pt_cmpR op_eq (pv 3) pe_int (nomark _)) (pw_or1 (pt_cmpR op_eq (pv 2) pe_int (nomark _))))) (pss_one (ps_raise rfl (takes_of rfl rfl rfl rfl) (pmk_ret rfl (pe_bare T.N)))) pss_nil)
      (pss_one (ps_if (pt_cmpR op_eq (pv 3) pe_int (nomark _)) (pss_cons (ps_fld (pv 0) (pv 1) rfl) (pss_one (ps_fld (pv 0) (pv 2) rfl)))
        (pss_cons (ps_fld (pv 0) (pe_op op_fdivZ (pv 1) (pv 3)) rfl)
          (pss_one (ps_fld (pv 0) (pe_op op_fdivZ (pv 2) (pv 3)) rfl))))))))), ?_⟩
    cases k with
    | top n q => exact ⟨_, rfl, .inr ⟨n, _, rfl, fun a' dx' H1 ha' hd s e ed ne => ⟨a', _, dx', rfl, e, fr0_none ha', raises_own T.B.Z.su T.tB, q dx' _ hd (same_del s ha') (by rw [delH_ne ne]; exact ed)⟩⟩⟩
    | bot t hx n q =>
      subst hx
      exact ⟨_, rfl, .inl ⟨⟨t, rfl⟩, _, rfl, .inr ⟨n, _, rfl, fun a' dx' H1 ha' hd s e ed ne => ⟨a', _, dx', rfl, e, fr0_none ha', raises_own T.B.Z.su T.tB, q dx' _ hd (same_del s ha') (by rw [delH_ne ne]; exact ed)⟩⟩⟩⟩
    | zero t hx hy q =>
      subst hx hy
      refine ⟨_, rfl, .inl ⟨⟨t, rfl⟩, _, rfl, .inl ⟨⟨0, rfl⟩, _, rfl, _, rfl, t, 0, rfl, _, rfl, _, _, rfl, rfl, _, rfl, ?_⟩⟩⟩
      show ite _ _ _; rw [if_neg (by decide)]
      refine ⟨_, rfl, rfl, _, rfl, ?_⟩
      refine ite2 (fun hb => ?_) (fun hb => ?_)
      · show ite _ _ _; rw [if_pos rfl]
        exact fun a' H1 ha' s e => ⟨a', _, rfl, e, fr0_none ha', raises_own T.N.Z.su T.tN, q _ (same_del s ha')⟩
      · refine ⟨_, rfl, rfl, _, rfl, ?_⟩
        show ite _ _ _; rw [if_pos (by decide)]
        exact fun a' H1 ha' s e => ⟨a', _, rfl, e, fr0_none ha', raises_own T.N.Z.su T.tN, q _ (same_del s ha')⟩
    | good t b hx hy h0 hs q =>
      subst hx hy
      refine ⟨_, rfl, .inl ⟨⟨t, rfl⟩, _, rfl, .inl ⟨⟨b, rfl⟩, _, rfl, _, rfl, t, b, rfl, _, rfl, _, _, rfl, rfl, _, rfl, ?_⟩⟩⟩
      have dv : ∀ i, CDivZ i (shr t b) := fun i => ⟨shr_ne h0, log2_le (shr_le h0) (by have := shr_ne (t := t) h0; omega) hs (by decide)⟩
      have l1 : shr t b = 1 → low t b = (t, b) := fun e => by unfold low; rw [e]; simp
      refine ite2 (fun hb => ?_) (fun hb => ?_)
      · have e : -((Nat.gcd t.natAbs b.natAbs : Nat) : Int) = shr t b := by
          unfold shr
          rw [if_pos (by simpa using hb)]
        have ne0 := shr_ne (t := t) h0
        rw [← e] at ne0
        refine ⟨_, rfl, _, rfl, ?_⟩
        refine ⟨_, rfl, rfl, _, rfl, ?_⟩
        show ite _ _ _; rw [if_neg (by simpa using ne0)]
        refine ⟨_, rfl, rfl, _, rfl, ?_⟩
        show ite _ _ _; rw [if_neg (by simpa using h0)]
        refine ⟨_, rfl, rfl, _, rfl, ?_⟩
        refine ite2 (fun h1 => ?_) (fun h1 => ?_)
        · refine ⟨_, rfl, _, rfl, a, C, dx, [], rfl, ha, R.c, R.nT, by decide, ?_⟩
          refine ⟨_, rfl, _, rfl, a, C, dx, _, rfl, upd_same, R.c, R.nB, (by show (1 : Nat) < 1000; decide), ?_⟩
          rw [upd_upd, putTB]
          rw [l1 (by rw [← e]; simpa using h1)] at q
          exact q
        · refine ⟨_, rfl, _, rfl, _, _, rfl, rfl, by rw [e]; exact dv _, _, rfl, a, C, dx, [], rfl, ha, R.c, R.nT, by decide, ?_⟩
          refine ⟨_, rfl, _, rfl, _, _, rfl, rfl, by rw [e]; exact dv _, _, rfl, a, C, dx, _, rfl, upd_same, R.c, R.nB, (by show (1 : Nat) < 1000; decide), ?_⟩
          rw [e, upd_upd, putTB]
          exact q
      · have e : ((Nat.gcd t.natAbs b.natAbs : Nat) : Int) = shr t b := by
          unfold shr
          rw [if_neg (by simpa using hb)]
        have ne0 := shr_ne (t := t) h0
        rw [← e] at ne0
        refine ⟨_, rfl, rfl, _, rfl, ?_⟩
        show ite _ _ _; rw [if_neg (by simpa using ne0)]
        refine ⟨_, rfl, rfl, _, rfl, ?_⟩
        show ite _ _ _; rw [if_neg (by simpa using h0)]
        refine ⟨_, rfl, rfl, _, rfl, ?_⟩
        refine ite2 (fun h1 => ?_) (fun h1 => ?_)
        · refine ⟨_, rfl, _, rfl, a, C, dx, [], rfl, ha, R.c, R.nT, by decide, ?_⟩
          refine ⟨_, rfl, _, rfl, a, C, dx, _, rfl, upd_same, R.c, R.nB, (by show (1 : Nat) < 1000; decide), ?_⟩
          rw [upd_upd, putTB]
          rw [l1 (by rw [← e]; simpa using h1)] at q
          exact q
        · refine ⟨_, rfl, _, rfl, _, _, rfl, rfl, by rw [e]; exact dv _, _, rfl, a, C, dx, [], rfl, ha, R.c, R.nT, by decide, ?_⟩
          refine ⟨_, rfl, _, rfl, _, _, rfl, rfl, by rw [e]; exact dv _, _, rfl, a, C, dx, _, rfl, upd_same, R.c, R.nB, (by show (1 : Nat) < 1000; decide), ?_⟩
          rw [e, upd_upd, putTB]
          exact q
end
end K03
end
section
set_option maxHeartbeats 4000000
namespace PySem
namespace GetA
open PySem.W PyProof.Rows
section
variable {prog : Program} {w : World} {A : Around} {E : Value → Shared → Prop} {s : Shared} {name : Str}
theorem miss_int {i : Int} {t u : Tok} {Q : Option Value → Shared → Prop} (hmiss : typeLookup (.type "int") name = pure none) (hsz : name.length + 100 ≤ sizeLine) (hA : A.handled = none)
    (h : ∀ h' tk, (∀ b ob, s.heap.get? b = some ob → h'.get? b = some ob) → Q none { s with heap := h', toks := tk }) : wpAny (model prog w) A (getAttrBy? (.int i t) (.str name u)) Q E s := by
  obtain ⟨hp, g, d, tk, os⟩ := s
  have hT : ∀ s' : Shared, s'.TypeIs (.int i t) "int" := fun _ => rfl
  have f1 := sub_AttributeError
  have f3 := PySem.F.slot_int_getattribute.lookup
  have f4 := PySem.F.slot_int_getattribute.bind (.int i t)
  have f5 := am_int_getattr_none
  unfold getAttrBy? getAttrBy
  repeat (any_goals (first | assumption | exact hT _ | ((with_reducible show wpAny _ _ (call (Value.builtin "int.__getattribute__") _ _) _ _ _); refine call_meets PySem.F.slot_int_getattribute (hT _) am_entry_int_getattribute (PySem.F.args_int_getattribute_2 _ _) (meets_getattribute_miss_int i t name _ hmiss hsz) ⟨hA, fun h' tk' e hx' => ?_⟩) | wp_step))
  obtain ⟨t', u', he⟩ := hx'.there
  show wpAny _ _ (getattributeRaised _ _ _ _ _ _ _) _ _ _
  unfold getattributeRaised
  repeat (any_goals (first | assumption | wp_step))
  all_goals first | exact h _ _ hx'.keeps | (dsimp only; repeat (any_goals (first | assumption | exact h _ _ hx'.keeps | wp_step)))
theorem miss_bool {c : Bool} {u : Tok} {Q : Option Value → Shared → Prop} (hmiss : typeLookup (.type "bool") name = pure none) (hsz : name.length + 100 ≤ sizeLine) (hA : A.handled = none)
    (h : ∀ h' tk, (∀ b ob, s.heap.get? b = some ob → h'.get? b = some ob) → Q none { s with heap := h', toks := tk }) : wpAny (model prog w) A (getAttrBy? (.bool c) (.str name u)) Q E s := by
  obtain ⟨hp, g, d, tk, os⟩ := s
  have hT : ∀ s' : Shared, s'.TypeIs (.bool c) "bool" := fun _ => rfl
  have f1 := sub_AttributeError
  have f3 := PySem.F.slot_bool_getattribute.lookup
  have f4 := PySem.F.slot_bool_getattribute.bind (.bool c)
  have f5 := am_bool_getattr_none
  unfold getAttrBy? getAttrBy
  repeat (any_goals (first | assumption | exact hT _ | ((with_reducible show wpAny _ _ (call (Value.builtin "int.__getattribute__") _ _) _ _ _); refine call_meets PySem.F.slot_bool_getattribute (hT _) am_entry_int_getattribute (PySem.F.args_int_getattribute_2 _ _) (meets_getattribute_miss_bool c name _ hmiss hsz) ⟨hA, fun h' tk' e hx' => ?_⟩) | wp_step))
  obtain ⟨t', u', he⟩ := hx'.there
  show wpAny _ _ (getattributeRaised _ _ _ _ _ _ _) _ _ _
  unfold getattributeRaised
  repeat (any_goals (first | assumption | wp_step))
  all_goals first | exact h _ _ hx'.keeps | (dsimp only; repeat (any_goals (first | assumption | exact h _ _ hx'.keeps | wp_step)))
theorem miss_str {x : Str} {t u : Tok} {Q : Option Value → Shared → Prop} (hmiss : typeLookup (.type "str") name = pure none) (hsz : name.length + 100 ≤ sizeLine) (hA : A.handled = none)
    (h : ∀ h' tk, (∀ b ob, s.heap.get? b = some ob → h'.get? b = some ob) → Q none { s with heap := h', toks := tk }) : wpAny (model prog w) A (getAttrBy? (.str x t) (.str name u)) Q E s := by
  obtain ⟨hp, g, d, tk, os⟩ := s
  have hT : ∀ s' : Shared, s'.TypeIs (.str x t) "str" := fun _ => rfl
  have f1 := sub_AttributeError
  have f3 := PySem.F.slot_str_getattribute.lookup
  have f4 := PySem.F.slot_str_getattribute.bind (.str x t)
  have f5 := am_str_getattr_none
  unfold getAttrBy? getAttrBy
  repeat (any_goals (first | assumption | exact hT _ | ((with_reducible show wpAny _ _ (call (Value.builtin "object.__getattribute__") _ _) _ _ _); refine call_meets PySem.F.slot_str_getattribute (hT _) PySem.F.entry_object_getattribute (PySem.F.args_object_getattribute_2 _ _) (meets_getattribute_miss_str x t name _ hmiss hsz) ⟨hA, fun h' tk' e hx' => ?_⟩) | wp_step))
  obtain ⟨t', u', he⟩ := hx'.there
  show wpAny _ _ (getattributeRaised _ _ _ _ _ _ _) _ _ _
  unfold getattributeRaised
  repeat (any_goals (first | assumption | wp_step))
  all_goals first | exact h _ _ hx'.keeps | (dsimp only; repeat (any_goals (first | assumption | exact h _ _ hx'.keeps | wp_step)))
theorem miss_none {u : Tok} {Q : Option Value → Shared → Prop} (hmiss : typeLookup (.type "NoneType") name = pure none) (hsz : name.length + 100 ≤ sizeLine) (hA : A.handled = none)
    (h : ∀ h' tk, (∀ b ob, s.heap.get? b = some ob → h'.get? b = some ob) → Q none { s with heap := h', toks := tk }) : wpAny (model prog w) A (getAttrBy? .none (.str name u)) Q E s := by
  obtain ⟨hp, g, d, tk, os⟩ := s
  have hT : ∀ s' : Shared, s'.TypeIs .none "NoneType" := fun _ => rfl
  have f1 := sub_AttributeError
  have f3 := PySem.F.slot_NoneType_getattribute.lookup
  have f4 := PySem.F.slot_NoneType_getattribute.bind .none
  have f5 := am_none_getattr_none
  unfold getAttrBy? getAttrBy
  repeat (any_goals (first | assumption | exact hT _ | ((with_reducible show wpAny _ _ (call (Value.builtin "object.__getattribute__") _ _) _ _ _); refine call_meets PySem.F.slot_NoneType_getattribute (hT _) PySem.F.entry_object_getattribute (PySem.F.args_object_getattribute_2 _ _) (meets_getattribute_miss_none name _ hmiss hsz) ⟨hA, fun h' tk' e hx' => ?_⟩) | wp_step))
  obtain ⟨t', u', he⟩ := hx'.there
  show wpAny _ _ (getattributeRaised _ _ _ _ _ _ _) _ _ _
  unfold getattributeRaised
  repeat (any_goals (first | assumption | wp_step))
  all_goals first | exact h _ _ hx'.keeps | (dsimp only; repeat (any_goals (first | assumption | exact h _ _ hx'.keeps | wp_step)))
theorem miss_list {a : Addr} {o : Obj} {xs : Array Value} {k : Nat} {u : Tok} {Q : Option Value → Shared → Prop} (hx : s.heap.get? a = some o) (hc : o.cls = .type "list") (hdat : o.data = .seq xs k) (hd : o.dict = none) (hmiss : typeLookup (.type "list") name = pure none) (hname : (["__module__", "__name__", "__qualname__", "__doc__", "__annotations__"] : List Str).contains name = false) (hsz : name.length + 100 ≤ sizeLine) (hA : A.handled = none)
    (h : ∀ h' tk, (∀ b ob, s.heap.get? b = some ob → h'.get? b = some ob) → Q none { s with heap := h', toks := tk }) : wpAny (model prog w) A (getAttrBy? (.ref a) (.str name u)) Q E s := by
  obtain ⟨c, dct, dat, sl⟩ := o
  simp only at hc hdat hd
  subst hc hdat hd
  obtain ⟨hp, g, d, tk, os⟩ := s
  have hT : ∀ tk', (⟨hp, g, d, tk', os⟩ : Shared).TypeIs (.ref a) "list" := fun _ => ⟨_, hx, rfl⟩
  have f1 := sub_AttributeError
  have f3 := PySem.F.slot_list_getattribute.lookup
  have f4 := PySem.F.slot_list_getattribute.bind (.ref a)
  have f5 := am_list_getattr_none
  unfold getAttrBy? getAttrBy
  repeat (any_goals (first | assumption | exact hT _ | ((with_reducible show wpAny _ _ (call (Value.builtin "list.__getattribute__") _ _) _ _ _); refine call_meets PySem.F.slot_list_getattribute (hT _) am_entry_list_getattribute (PySem.F.args_list_getattribute_2 _ _) (meets_getattribute_miss_list a xs k sl name _ hmiss hname hsz) ⟨hx, hA, fun h' tk' e hx' => ?_⟩) | wp_step))
  obtain ⟨t', u', he⟩ := hx'.there
  show wpAny _ _ (getattributeRaised _ _ _ _ _ _ _) _ _ _
  unfold getattributeRaised
  repeat (any_goals (first | assumption | wp_step))
  all_goals first | exact h _ _ hx'.keeps | (dsimp only; repeat (any_goals (first | assumption | exact h _ _ hx'.keeps | wp_step)))
theorem miss_tuple {a : Addr} {o : Obj} {xs : Array Value} {k : Nat} {u : Tok} {Q : Option Value → Shared → Prop} (hx : s.heap.get? a = some o) (hc : o.cls = .type "tuple") (hdat : o.data = .seq xs k) (hd : o.dict = none) (hmiss : typeLookup (.type "tuple") name = pure none) (hname : (["__module__", "__name__", "__qualname__", "__doc__", "__annotations__"] : List Str).contains name = false) (hsz : name.length + 100 ≤ sizeLine) (hA : A.handled = none)
    (h : ∀ h' tk, (∀ b ob, s.heap.get? b = some ob → h'.get? b = some ob) → Q none { s with heap := h', toks := tk }) : wpAny (model prog w) A (getAttrBy? (.ref a) (.str name u)) Q E s := by
  obtain ⟨c, dct, dat, sl⟩ := o
  simp only at hc hdat hd
  subst hc hdat hd
  obtain ⟨hp, g, d, tk, os⟩ := s
  have hT : ∀ tk', (⟨hp, g, d, tk', os⟩ : Shared).TypeIs (.ref a) "tuple" := fun _ => ⟨_, hx, rfl⟩
  have f1 := sub_AttributeError
  have f3 := PySem.F.slot_tuple_getattribute.lookup
  have f4 := PySem.F.slot_tuple_getattribute.bind (.ref a)
  have f5 := am_tuple_getattr_none
  unfold getAttrBy? getAttrBy
  repeat (any_goals (first | assumption | exact hT _ | ((with_reducible show wpAny _ _ (call (Value.builtin "tuple.__getattribute__") _ _) _ _ _); refine call_meets PySem.F.slot_tuple_getattribute (hT _) am_entry_tuple_getattribute (PySem.F.args_tuple_getattribute_2 _ _) (meets_getattribute_miss_tuple a xs k sl name _ hmiss hname hsz) ⟨hx, hA, fun h' tk' e hx' => ?_⟩) | wp_step))
  obtain ⟨t', u', he⟩ := hx'.there
  show wpAny _ _ (getattributeRaised _ _ _ _ _ _ _) _ _ _
  unfold getattributeRaised
  repeat (any_goals (first | assumption | wp_step))
  all_goals first | exact h _ _ hx'.keeps | (dsimp only; repeat (any_goals (first | assumption | exact h _ _ hx'.keeps | wp_step)))
theorem miss_dict {a : Addr} {o : Obj} {xs : Array DictEntry} {k : Nat} {u : Tok} {Q : Option Value → Shared → Prop} (hx : s.heap.get? a = some o) (hc : o.cls = .type "dict") (hdat : o.data = .dict xs k) (hd : o.dict = none) (hmiss : typeLookup (.type "dict") name = pure none) (hname : (["__module__", "__name__", "__qualname__", "__doc__", "__annotations__"] : List Str).contains name = false) (hsz : name.length + 100 ≤ sizeLine) (hA : A.handled = none)
    (h : ∀ h' tk, (∀ b ob, s.heap.get? b = some ob → h'.get? b = some ob) → Q none { s with heap := h', toks := tk }) : wpAny (model prog w) A (getAttrBy? (.ref a) (.str name u)) Q E s := by
  obtain ⟨c, dct, dat, sl⟩ := o
  simp only at hc hdat hd
  subst hc hdat hd
  obtain ⟨hp, g, d, tk, os⟩ := s
  have hT : ∀ tk', (⟨hp, g, d, tk', os⟩ : Shared).TypeIs (.ref a) "dict" := fun _ => ⟨_, hx, rfl⟩
  have f1 := sub_AttributeError
  have f3 := PySem.F.slot_dict_getattribute.lookup
  have f4 := PySem.F.slot_dict_getattribute.bind (.ref a)
  have f5 := am_dict_getattr_none
  unfold getAttrBy? getAttrBy
  repeat (any_goals (first | assumption | exact hT _ | ((with_reducible show wpAny _ _ (call (Value.builtin "dict.__getattribute__") _ _) _ _ _); refine call_meets PySem.F.slot_dict_getattribute (hT _) am_entry_dict_getattribute (PySem.F.args_dict_getattribute_2 _ _) (meets_getattribute_miss_dict a xs k sl name _ hmiss hname hsz) ⟨hx, hA, fun h' tk' e hx' => ?_⟩) | wp_step))
  obtain ⟨t', u', he⟩ := hx'.there
  show wpAny _ _ (getattributeRaised _ _ _ _ _ _ _) _ _ _
  unfold getattributeRaised
  repeat (any_goals (first | assumption | wp_step))
  all_goals first | exact h _ _ hx'.keeps | (dsimp only; repeat (any_goals (first | assumption | exact h _ _ hx'.keeps | wp_step)))
end
end GetA
end PySem
end
section
set_option maxHeartbeats 4000000
namespace PySem
namespace GetA
open PySem.W PyProof.Rows
theorem args3 (a b c : Value) : argsOk "getattr" ⟨[a, b, c], []⟩ := by unfold argsOk; kernel_rfl
section
variable {prog : Program} {w : World} {A : Around} {E : Value → Shared → Prop} {s : Shared} {name : Str}
/-- getattr(x, name, d) where the look-up finds nothing -/
theorem getattr3_prim {o v : Value} {u : Tok} {Q : Value → Shared → Prop} (hr : ∀ a, o ≠ .ref a) (h : wpAny (model prog w) A.in1 (getAttrBy? o (.str ("mark" : Str) u)) (fun r s' => r = none ∧ Q v s') E s) : wpAny (model prog w) A (call (.builtin "getattr") [o, .str ("mark" : Str) u, v]) Q E s := by
  refine Calls.call_function_entry KB.kind_getattr KB.plain_getattr KB.entry_getattr (args3 _ _ _) ?_
  unfold Builtin.«getattr»
  refine wpAny_bind (wpAny_of_eq (a := [o, .str ("mark" : Str) u, v]) (by first | rfl | kernel_rfl) ?_)
  dsimp only
  refine wpAny_bind (wpAny_of_eq (a := ()) (by first | rfl | kernel_rfl) ?_)
  refine wpAny_bind (wpAny_of_eq (a := none) (by first | rfl | kernel_rfl) ?_)
  dsimp only
  refine wpAny_bind (wpAny_of_eq (a := 0) (by cases o <;> first | rfl | (exact absurd rfl (hr _))) ?_)
  rw [if_neg (by decide)]
  refine wpAny_bind (wpAny_mono h (fun r s' hq => ?_) fun _ _ e => e)
  obtain ⟨rfl, q⟩ := hq
  exact wpAny_pure ⟨_, rfl, q⟩
theorem getattr3_ref {a : Addr} {T : String} {v : Value} {u : Tok} {Q : Value → Shared → Prop} (hT : s.TypeIs (.ref a) T) (hm : isSubtype (.type T) (.type "module") = pure false)
   (h : wpAny (model prog w) A.in1 (getAttrBy? (.ref a) (.str ("mark" : Str) u)) (fun r s' => r = none ∧ Q v s') E s) : wpAny (model prog w) A (call (.builtin "getattr") [.ref a, .str ("mark" : Str) u, v]) Q E s := by
  refine Calls.call_function_entry KB.kind_getattr KB.plain_getattr KB.entry_getattr (args3 _ _ _) ?_
  unfold Builtin.«getattr»
  refine wpAny_bind (wpAny_of_eq (a := [.ref a, .str ("mark" : Str) u, v]) (by first | rfl | kernel_rfl) ?_)
  dsimp only
  refine wpAny_bind (wpAny_of_eq (a := ()) (by first | rfl | kernel_rfl) ?_)
  refine wpAny_bind (wpAny_of_eq (a := none) (by first | rfl | kernel_rfl) ?_)
  dsimp only
  have z : wpAny (model prog w) A.in1 (isInstance (.ref a) (.type "module")) (fun r s' => r = false ∧ s' = s) E s := by
    obtain ⟨hp, g, d, tk, os⟩ := s
    repeat (any_goals (first | assumption | exact ⟨rfl, rfl⟩ | wp_step))
  refine wpAny_bind (wpAny_mono (Q := fun r s' => r = 0 ∧ s' = s) ?_ (fun r s' hq => ?_) fun _ _ e => e)
  · refine wpAny_bind (wpAny_of_eq (a := some ("mark" : Str)) (by first | rfl | kernel_rfl) ?_)
    refine wpAny_bind (wpAny_mono z (fun r s' hq => ?_) fun _ _ e => e)
    obtain ⟨rfl, rfl⟩ := hq
    exact wpAny_pure ⟨rfl, rfl⟩
  · obtain ⟨rfl, rfl⟩ := hq
    rw [if_neg (by decide)]
    refine wpAny_bind (wpAny_mono h (fun r s' hq => ?_) fun _ _ e => e)
    obtain ⟨rfl, q⟩ := hq
    exact wpAny_pure ⟨_, rfl, q⟩
end
end GetA
end PySem
end
section
set_option maxHeartbeats 4000000
namespace L2
open PySem PySem.Spec PyProof.Rows
def kinds : List String := ["int", "bool", "NoneType", "str", "list", "tuple", "dict"]
/-- a new tuple, of which it is known that it has no dict: locked -/
def tTupF (t : TA) : TE := fun σ H Q => t σ H fun xs H1 => xs.length ≤ sizeLine ∧ ∀ p o, H1 p = none → o.dict = none → Q (.ref p) (upd H1 p (.frz o (.tup xs)))
theorem pe_tupF {X : Cx} {es : List Expr} {t : TA} {pos : Pos} {x1} (h : PA X es t) : PE X (.Tuple es x1 pos) (tTupF t) := by
  refine ⟨fun pins s σ H Q I hq => ?_⟩
  refine wpAny_Tuple_spliced (thn (h.run pos pins s σ H _ I hq) fun us s1 ⟨xs, H1, I1, r, z, q⟩ => ⟨by rw [← r.length]; exact z, ?_⟩)
  have hf : H1 s1.heap.objs.size = none := I1.hok.fresh (Nat.le_refl _)
  refine ⟨.ref s1.heap.objs.size, upd H1 s1.heap.objs.size (.frz { cls := .type "tuple", data := .seq us.toArray } (.tup xs)), I1.laid (t' := s1.toks) (fun b u e => Heap.get?_push_of_some _ e) (Nat.le_refl _) ?_, rfl, q _ _ hf rfl⟩
  exact ⟨Heap.get?_push_size _ rfl, z, us, r, ⟨_, Heap.get?_push_size _ rfl, rfl, _, rfl⟩⟩
/-- an object of which it is known that it has no dict -/
def NoDct (H : Hp) (x : V) : Prop := ∀ a, x = .ref a → (∃ xs, H a = some (.lst xs)) ∨ (∃ o xs, H a = some (.frz o (.tup xs)) ∧ o.dict = none) ∨ ∃ kvs, H a = some (.dK kvs)
theorem sub_mod_list : isSubtype (.type "list") (.type "module") = pure false := by rw [isSubtype_type]; kernel_rfl
theorem sub_mod_tuple : isSubtype (.type "tuple") (.type "module") = pure false := by rw [isSubtype_type]; kernel_rfl
theorem sub_mod_dict : isSubtype (.type "dict") (.type "module") = pure false := by rw [isSubtype_type]; kernel_rfl
theorem mark_miss {T : String} (h : T ∈ kinds) : typeLookup (.type T) ("mark" : Str) = pure none := by
  unfold kinds at h
  simp only [List.mem_cons, List.not_mem_nil, or_false] at h
  rcases h with rfl | rfl | rfl | rfl | rfl | rfl | rfl <;> exact am_miss_of_fast (by decide +kernel)
theorem mark_sz : ("mark" : Str).length + 100 ≤ sizeLine := by decide +kernel
theorem mark_no : (["__module__", "__name__", "__qualname__", "__doc__", "__annotations__"] : List Str).contains "mark" = false := by decide +kernel
/-- getattr(x, "mark", v), x of a built-in type without that attribute -/
def rGetM (K : PySem.W.Frag) : List V → Hp → VK → Prop := fun vs H Q => ∃ (x v : V) (T : String), vs = [x, .str "mark", v] ∧ T ∈ kinds ∧ TyX K H x (.type T) ∧ NoDct H x ∧ Q v H
theorem call_getM {X : Cx} (hc : X.calm = true) : CallR X (.builtin "getattr") (rGetM X.K) := by
  intro pins s σ H xs us Q I r h
  obtain ⟨x, v, T, rfl, hT, ty, nd, q⟩ := h
  match us, r with
  | [u1, u2, u3], .cons r1 (.cons r2 (.cons r3 .nil)) =>
  obtain ⟨tk, rfl⟩ := (show ∃ t, u2 = Value.str "mark" t from r2)
  have hh : X.A.in1.handled = none := I.ok.hd hc
  have fin : ∀ h' tk', (∀ b ob, s.heap.get? b = some ob → h'.get? b = some ob) → (fun (r : Option Value) s' => r = none ∧ EP X pins σ Q u3 s') none { s with heap := h', toks := tk' } := fun h' tk' k => ⟨rfl, v, H, I.kept k, r3, q⟩
  have ms := mark_miss hT
  cases ty with
  | base b =>
    cases b with
    | non => cases (show u1 = Value.none from r1); exact PySem.GetA.getattr3_prim (fun _ z => nomatch z) (PySem.GetA.miss_none ms mark_sz hh fin)
    | bl y => cases (show u1 = Value.bool y from r1); exact PySem.GetA.getattr3_prim (fun _ z => nomatch z) (PySem.GetA.miss_bool ms mark_sz hh fin)
    | int i => obtain ⟨t, rfl⟩ := (show ∃ t, u1 = Value.int i t from r1); exact PySem.GetA.getattr3_prim (fun _ z => nomatch z) (PySem.GetA.miss_int ms mark_sz hh fin)
    | str y => obtain ⟨t, rfl⟩ := (show ∃ t, u1 = Value.str y t from r1); exact PySem.GetA.getattr3_prim (fun _ z => nomatch z) (PySem.GetA.miss_str ms mark_sz hh fin)
    | flt y => exact absurd hT (by decide +kernel)
    | @lst a xs ea =>
      cases (show u1 = Value.ref a from r1)
      obtain ⟨_, _, n, _, h1⟩ := (show ObjOk X.prog X.w H s.heap a (.lst xs) from I.hok a _ ea)
      exact PySem.GetA.getattr3_ref ⟨_, h1, rfl⟩ sub_mod_list (PySem.GetA.miss_list h1 rfl rfl rfl ms mark_no mark_sz hh fin)
    | @frz a ob xs ea =>
      rcases nd a rfl with ⟨_, z⟩ | ⟨_, _, z, _⟩ | ⟨_, z⟩ <;> rw [ea] at z <;> cases z
    | @tup a xs ea =>
      rcases nd a rfl with ⟨_, z⟩ | ⟨_, _, z, _⟩ | ⟨_, z⟩ <;> rw [ea] at z <;> cases z
    | @dK a kvs ea =>
      cases (show u1 = Value.ref a from r1)
      obtain ⟨_, _, vs, _, o, es, ep, h1, h2, h3, _⟩ := (show ObjOk X.prog X.w H s.heap a (.dK kvs) from I.hok a _ ea)
      exact PySem.GetA.getattr3_ref ⟨_, h1, h2.1⟩ sub_mod_dict (PySem.GetA.miss_dict h1 h2.1 h3 h2.2.1 ms mark_no mark_sz hh fin)
    | @dT a kvs ea =>
      rcases nd a rfl with ⟨_, z⟩ | ⟨_, _, z, _⟩ | ⟨_, z⟩ <;> rw [ea] at z <;> cases z
  | byt y => exact absurd hT (by decide +kernel)
  | @set a S n ea => exact absurd hT (by decide +kernel)
  | @kList a o e c =>
    cases (show u1 = Value.ref a from r1)
    rcases nd a rfl with ⟨xs, z⟩ | ⟨ob, _, z, d⟩ | ⟨_, z⟩
    · obtain ⟨_, _, n, _, h1⟩ := (show ObjOk X.prog X.w H s.heap a (.lst xs) from I.hok a _ z)
      exact PySem.GetA.getattr3_ref ⟨_, h1, rfl⟩ sub_mod_list (PySem.GetA.miss_list h1 rfl rfl rfl ms mark_no mark_sz hh fin)
    · obtain ⟨_, _, _, _, o', h1, h2, _⟩ := (show ObjOk X.prog X.w H s.heap a (.frz ob (.tup _)) from I.hok a _ z)
      have k1 := I.kIn a o e
      rw [h1] at k1
      cases k1
      rw [c] at h2
      exact absurd (Value.type.inj h2) (by decide)
    · obtain ⟨_, _, vs, _, o', es, ep, h1, h2, h3, _⟩ := (show ObjOk X.prog X.w H s.heap a (.dK _) from I.hok a _ z)
      have k1 := I.kIn a o e
      rw [h1] at k1
      cases k1
      have h4 := h2.1
      rw [c] at h4
      exact absurd (Value.type.inj h4) (by decide)
  | @kTuple a o e c =>
    cases (show u1 = Value.ref a from r1)
    rcases nd a rfl with ⟨xs, z⟩ | ⟨ob, xs, z, d⟩ | ⟨_, z⟩
    · obtain ⟨_, _, n, _, h1⟩ := (show ObjOk X.prog X.w H s.heap a (.lst xs) from I.hok a _ z)
      have k1 := I.kIn a o e
      rw [h1] at k1
      cases k1
      exact absurd (Value.type.inj c) (by decide)
    · obtain ⟨h0, _, _, _, o', h1, h2, n, h3⟩ := (show ObjOk X.prog X.w H s.heap a (.frz ob (.tup xs)) from I.hok a _ z)
      have d' : o'.dict = none := by
        rw [h0] at h1
        cases h1
        exact d
      exact PySem.GetA.getattr3_ref ⟨_, h1, h2⟩ sub_mod_tuple (PySem.GetA.miss_tuple h1 h2 h3 d' ms mark_no mark_sz hh fin)
    · obtain ⟨_, _, vs, _, o', es, ep, h1, h2, h3, _⟩ := (show ObjOk X.prog X.w H s.heap a (.dK _) from I.hok a _ z)
      have k1 := I.kIn a o e
      rw [h1] at k1
      cases k1
      have h4 := h2.1
      rw [c] at h4
      exact absurd (Value.type.inj h4) (by decide)
  | @kDict a o e c =>
    cases (show u1 = Value.ref a from r1)
    rcases nd a rfl with ⟨xs, z⟩ | ⟨ob, xs, z, d⟩ | ⟨_, z⟩
    · obtain ⟨_, _, n, _, h1⟩ := (show ObjOk X.prog X.w H s.heap a (.lst xs) from I.hok a _ z)
      have k1 := I.kIn a o e
      rw [h1] at k1
      cases k1
      exact absurd (Value.type.inj c) (by decide)
    · obtain ⟨_, _, _, _, o', h1, h2, _⟩ := (show ObjOk X.prog X.w H s.heap a (.frz ob (.tup _)) from I.hok a _ z)
      have k1 := I.kIn a o e
      rw [h1] at k1
      cases k1
      rw [c] at h2
      exact absurd (Value.type.inj h2) (by decide)
    · obtain ⟨_, _, vs, _, o', es, ep, h1, h2, h3, _⟩ := (show ObjOk X.prog X.w H s.heap a (.dK _) from I.hok a _ z)
      exact PySem.GetA.getattr3_ref ⟨_, h1, h2.1⟩ sub_mod_dict (PySem.GetA.miss_dict h1 h2.1 h3 h2.2.1 ms mark_no mark_sz hh fin)
  | @fTuple a ob xs ea =>
    cases (show u1 = Value.ref a from r1)
    rcases nd a rfl with ⟨_, z⟩ | ⟨_, _, z, d⟩ | ⟨_, z⟩ <;> rw [ea] at z <;> cases z
    obtain ⟨h0, _, _, _, o', h1, h2, n, h3⟩ := (show ObjOk X.prog X.w H s.heap a (.frz ob (.tup xs)) from I.hok a _ ea)
    have d' : o'.dict = none := by
      rw [h0] at h1
      cases h1
      exact d
    exact PySem.GetA.getattr3_ref ⟨_, h1, h2⟩ sub_mod_tuple (PySem.GetA.miss_tuple h1 h2 h3 d' ms mark_no mark_sz hh fin)
  | @fDict a ob kvs ea =>
    rcases nd a rfl with ⟨_, z⟩ | ⟨_, _, z, _⟩ | ⟨_, z⟩ <;> rw [ea] at z <;> cases z
end L2
end
section
set_option maxHeartbeats 4000000
namespace L2
open PySem PySem.Spec PyProof.Rows
theorem TyOf.same {K : PySem.W.Frag} {H H' : Hp} {v : V} {t : Value} (h : TyOf K H v t) (s : Same H H') : TyOf K H' v t := by
  cases h with
  | non => exact .non
  | bl x => exact .bl x
  | int i => exact .int i
  | str x => exact .str x
  | flt x => exact .flt x
  | lst e => exact .lst (s _ _ e)
  | frz e => exact .frz (s _ _ e)
  | tup e => exact .tup (s _ _ e)
  | dK e => exact .dK (s _ _ e)
  | dT e => exact .dT (s _ _ e)
  | ins e cl ha hn htk hm => exact .ins (s _ _ e) cl ha hn htk hm
theorem TyX.same {K : PySem.W.Frag} {H H' : Hp} {v : V} {t : Value} (h : TyX K H v t) (s : Same H H') : TyX K H' v t := by
  cases h with
  | base h => exact .base (h.same s)
  | byt b => exact .byt b
  | set e => exact .set (s _ _ e)
  | kList e c => exact .kList e c
  | kTuple e c => exact .kTuple e c
  | kDict e c => exact .kDict e c
  | fTuple e => exact .fTuple (s _ _ e)
  | fDict e => exact .fDict (s _ _ e)
theorem NoInt.same {K : PySem.W.Frag} {H H' : Hp} {v : V} (h : NoInt K H v) (s : Same H H') : NoInt K H' v := by
  obtain ⟨t, b, c, h1, h2, h3, h4⟩ := h
  exact ⟨t, b, c, h1.same s, h2, h3, h4⟩
end L2
namespace K03
open PySem PySem.Spec PyProof.Rows L2
theorem Bad.same {cB : Addr} {v : V} {H H' : Hp} {E : XK} (h : Bad cB v H E) (s : Same H H') : Bad cB v H' E := fun d H'' hd s2 e => h d H'' (by
  cases q : H d with
  | none => rfl
  | some o => rw [s _ _ q] at hd; cases hd) (s.trans s2) e
theorem NoDiv.same {cN : Addr} {H H' : Hp} {E : XK} (h : NoDiv cN H E) (s : Same H H') : NoDiv cN H' E := fun H'' s2 => h H'' (s.trans s2)
theorem MadeOf.same {K : PySem.W.Frag} {cB cN : Addr} {H H' : Hp} {E : XK} {x y : V} {ok ok' : Int × Int → Prop} (h : MadeOf K cB cN H E x y ok) (s : Same H H') (o : ∀ q, ok q → ok' q) : MadeOf K cB cN H' E x y ok' := by
  cases h with
  | good t b hx hy h0 hs q => exact .good t b hx hy h0 hs (o _ q)
  | top n q => exact .top (n.same s) (q.same s)
  | bot t hx n q => exact .bot t hx (n.same s) (q.same s)
  | zero t hx hy q => exact .zero t hx hy (q.same s)
/-- a new Ratio q, all else as it was -/
def NewR (C : Addr) (H : Hp) (Q : VK) (q : Int × Int) : Prop := ∀ (a dx : Addr) (H' : Hp), H a = none → Same H H' → H' a = some (rat C dx q) → Q (.ref a) H'
/-- all that is known of the class Ratio -/
structure Rat (P : Program) (w : World) (K : PySem.W.Frag) (mg : Str → Option Value) (base : Heap) (cB cN C fI : Addr) : Prop where
  cls : RatC K mg C fI
  init : ∃ fd : FuncData, FnOk P w K mg base (L2.CX P w) 4 fI fd ["self", "top", "bottom"] (spInit K C cB cN) ∧ (∃ ds, Vals [.int 1] ds ∧ Binds K fd ["self", "top", "bottom"] ds) ∧ Binds K fd ["self", "top", "bottom"] []
  tyx : ∀ (H : Hp) (a dx : Addr) (fs : List (Str × V)), H a = some (.ins C dx fs) → TyX K H (.ref a) (.ref C)
  txt : TxtR mg
theorem mk_rat {P : Program} {w : World} {K : PySem.W.Frag} {mg : Str → Option Value} {base : Heap} {fI fn cB cN C : Addr} {fd fdn : FuncData} (F : FunD K "__init__" "Ratio.__init__" (defArgs sInit) (defBody sInit) (defScope sInit) [.int 1] [] fI fd) (G : FnOk P w K mg base (L2.CX P w) 3 fn fdn ["value"] (spNeed K cB)) (gn : mg "need_integer" = some (.ref fn)) (kp : PySem.W.keepIn K (.ref fn) = true)
    (bn : Binds K fdn ["value"] []) (T : ErrR P w K mg base cB cN) (R : RatC K mg C fI) (B : TxtR mg) (ty : ∀ (H : Hp) (a dx : Addr) (fs : List (Str × V)), H a = some (.ins C dx fs) → TyX K H (.ref a) (.ref C)) : Rat P w K mg base cB cN C fI := by
  refine ⟨R, ⟨fd, ok_init F G gn kp bn T R B, F.binds1 2 0 (by simp) rfl (fun T kV doc pm an cdv ct us its h1 h2 => ?_), ?_⟩, ty, B⟩
  · match us, its, h1, h2 with
    | [a, b], [c], _, _ => exact ⟨_, rfl, rfl⟩
  · obtain ⟨ds, h1, h2⟩ := F.binds1 (ps := ["self", "top", "bottom"]) 3 1 (by simp) rfl (fun T kV doc pm an cdv ct us its h1 h2 => by
      match us, its, h1, h2 with
      | [a, b, c], [e], _, _ => exact ⟨_, rfl, rfl⟩)
    have h1 : Vals [] ds := h1
    cases h1
    exact h2
section
variable {X : Cx} {cB cN C fI : Addr} {e e2 : Expr} {te te2 : TE} {p pos : Pos} {E : XK}
def tRat1 (K : PySem.W.Frag) (C cB cN : Addr) (E : XK) (te : TE) : TE := fun σ H Q => te σ H fun v H1 => MadeOf K cB cN H1 E v (.int 1) (NewR C H1 Q)
def tRat2 (K : PySem.W.Frag) (C cB cN : Addr) (E : XK) (te te2 : TE) : TE := fun σ H Q => te σ H fun v H1 => te2 σ H1 fun u H2 => MadeOf K cB cN H2 E v u (NewR C H2 Q)
theorem init_of {K : PySem.W.Frag} {H : Hp} {Q : VK} {v u : V} {x dx : Addr} (h : MadeOf K cB cN H E v u (NewR C H Q)) (hx : H x = none) (hd : H dx = none) (ne : dx ≠ x) :
    spInit K C cB cN [.ref x, v, u] (upd (upd H dx (.own x)) x (.ins C dx [])) (fun z H2 => z = .non ∧ Q (.ref x) H2) E := by
  have s : Same H (upd (upd H dx (.own x)) x (.ins C dx [])) := Same.new (Same.new (fun _ _ z => z) hd) (by rw [upd_ne ne.symm]; exact hx)
  refine ⟨x, dx, v, u, rfl, upd_same, h.same s fun q k => ⟨rfl, ?_⟩⟩
  rw [upd_upd]
  exact k x dx _ hx (Same.new (Same.new (fun _ _ z => z) hd) (by rw [upd_ne ne.symm]; exact hx)) upd_same
/-- Ratio(e) -/
theorem pe_rat1 (R : Rat X.prog X.w X.K X.mg X.base cB cN C fI) (hr : Room 5 X.A) (hx : Passes (L2.CX X.prog X.w) X E) (he : PE X e te) (hg : Gl X "Ratio" := by rfl)
    (hs : starEach [e] X.env = (false, eval e X.env) :: starEach [] X.env := by rfl) : PE X (.Call (.Name "Ratio" p) [e] [] pos) (tRat1 X.K C cB cN E te) := by
  obtain ⟨fd, F, ⟨ds, v1, b1⟩, _⟩ := R.init
  refine ⟨fun pins s σ H Q I h => wpAny_Call_Name_kw (ld_glob I hg R.cls.g ?_ (by decide))⟩
  refine PySem.W.callWith_K (h₀ := X.base) I.ok.mod.kin R.cls.made.kp ?_ hs (by rfl)
  rw [hs]
  show wpAny _ _ (spliced ((false, eval e X.env) :: backTo pos (starEach [] X.env))) _ _ s
  refine Calls.spliced_cons (thn (he.run pins s σ H _ I h) fun w1 s1 ⟨x, H1, I1, r1, q1⟩ => Calls.spliced_nil ⟨I1.kIn, ?_⟩)
  exact run_make (vs := [x]) R.cls.made F hr b1 v1 hx I1 (.cons r1 .nil) fun a dx ha hd ne => init_of q1 ha hd ne
/-- Ratio(e, e2) -/
theorem pe_rat2 (R : Rat X.prog X.w X.K X.mg X.base cB cN C fI) (hr : Room 5 X.A) (hx : Passes (L2.CX X.prog X.w) X E) (he : PE X e te) (he2 : PE X e2 te2) (hg : Gl X "Ratio" := by rfl)
    (hs : starEach [e, e2] X.env = (false, eval e X.env) :: starEach [e2] X.env := by rfl) (hs2 : starEach [e2] X.env = (false, eval e2 X.env) :: starEach [] X.env := by rfl) : PE X (.Call (.Name "Ratio" p) [e, e2] [] pos) (tRat2 X.K C cB cN E te te2) := by
  obtain ⟨fd, F, _, b2⟩ := R.init
  refine ⟨fun pins s σ H Q I h => wpAny_Call_Name_kw (ld_glob I hg R.cls.g ?_ (by decide))⟩
  refine PySem.W.callWith_K (h₀ := X.base) I.ok.mod.kin R.cls.made.kp ?_ hs (by rw [hs2]; rfl)
  rw [hs, hs2]
  show wpAny _ _ (spliced ((false, eval e X.env) :: (false, eval e2 X.env) :: backTo pos (starEach [] X.env))) _ _ s
  refine Calls.spliced_cons (thn (he.run pins s σ H _ I h) fun w1 s1 ⟨x, H1, I1, r1, q1⟩ => ?_)
  refine Calls.spliced_cons (thn (he2.run pins s1 σ H1 _ I1 q1) fun w2 s2 ⟨y, H2, I2, r2, q2⟩ => Calls.spliced_nil ⟨I2.kIn, ?_⟩)
  exact run_make (vs := [x, y]) (dvs := []) R.cls.made F hr b2 .nil hx I2 (.cons r1 (.cons r2 .nil)) fun a dx ha hd ne => init_of q2 ha hd ne
end
end K03
end
section
set_option maxHeartbeats 4000000
namespace K03
open PySem PySem.Spec PyProof.Rows L2
/-- a thing that is neither an integer nor a Ratio -/
def Odd (K : PySem.W.Frag) (H : Hp) (v : V) : Prop := ∃ T : String, T ∈ kinds ∧ T ≠ "int" ∧ TyX K H v (.type T) ∧ NoDct H v
theorem kinds_int {T : String} (h : T ∈ kinds) (n : T ≠ "int") : ∃ b c : Bool, kitB T "int" = some b ∧ kitB T "bool" = some c ∧ (b && !c) = false := by
  unfold kinds at h
  simp only [List.mem_cons, List.not_mem_nil, or_false] at h
  rcases h with rfl | rfl | rfl | rfl | rfl | rfl | rfl
  · exact absurd rfl n
  all_goals first
    | exact ⟨true, true, by decide +kernel, by decide +kernel, rfl⟩
    | exact ⟨false, false, by decide +kernel, by decide +kernel, rfl⟩
theorem kinds_blt {T : String} (h : T ∈ kinds) : (fastBuiltinMro T).isSome = true := by
  unfold kinds at h
  simp only [List.mem_cons, List.not_mem_nil, or_false] at h
  rcases h with rfl | rfl | rfl | rfl | rfl | rfl | rfl <;> decide +kernel
theorem Odd.no {K : PySem.W.Frag} {H : Hp} {v : V} (h : Odd K H v) : NoInt K H v := by
  obtain ⟨T, h1, h2, h3, _⟩ := h
  obtain ⟨b, c, e1, e2, e3⟩ := kinds_int h1 h2
  exact ⟨.type T, b, c, h3, kit_ty e1, kit_ty e2, e3⟩
section
variable {K : PySem.W.Frag} {mg : Str → Option Value} {C fI : Addr}
theorem RatC.kit (R : RatC K mg C fI) {T : String} (h : (fastBuiltinMro T).isSome = true) : PySem.W.kitOne K (.type T) (.ref C) = some false := by
  obtain ⟨cd, h1, _⟩ := R.t1.mr
  unfold PySem.W.kitOne
  rw [if_neg (by simp)]
  show (if ((PySem.W.clsIn K C).isSome && PySem.W.typeIn K (.ref C) == some (.type "type")) = true then PySem.W.subIn K (.type T) (.ref C) else none) = some false
  rw [if_pos (by rw [h1, R.ty]; rfl)]
  exact PySem.OwnB.sub_type h
theorem kit_me : PySem.W.kitOne K (.ref C) (.ref C) = some true := by
  unfold PySem.W.kitOne
  rw [if_pos (by simp)]
theorem RatC.kitI (R : RatC K mg C fI) {T : String} (hm : PySem.W.kitMeta T = true) (h : T ≠ "object") : PySem.W.kitOne K (.ref C) (.type T) = some false := by
  unfold PySem.W.kitOne
  rw [if_neg (by simp)]
  show (if PySem.W.kitMeta T = true then PySem.W.subIn K (.ref C) (.type T) else none) = some false
  rw [if_pos hm]
  exact R.t1.no h
end
/-- a Ratio is no integer -/
theorem Rat.no {P : Program} {w : World} {K : PySem.W.Frag} {mg : Str → Option Value} {base : Heap} {cB cN C fI : Addr} (R : Rat P w K mg base cB cN C fI) {H : Hp} {a dx : Addr} {fs : List (Str × V)} (e : H a = some (.ins C dx fs)) : NoInt K H (.ref a) :=
  ⟨.ref C, false, false, R.tyx H a dx fs e, R.cls.kitI (by decide +kernel) (by decide), R.cls.kitI (by decide +kernel) (by decide), rfl⟩
theorem low_one (t : Int) : low t 1 = (t, 1) := by
  have e : shr t 1 = 1 := by
    unfold shr
    rw [if_neg (by decide)]
    simp
  unfold low
  rw [e]
  simp
abbrev sLooks : Stmt := top 10
abbrev sAs : Stmt := top 16
abbrev sOpd : Stmt := top 17
def spLooks (K : PySem.W.Frag) : Sp := fun vs H Q _ => ∃ (v : V) (z : Str) (T : String), vs = [v, .str z] ∧ T ∈ kinds ∧ TyX K H v (.type T) ∧ NoDct H v ∧ Q (.bl false) H
/-- the class Mark -/
structure MarkC (K : PySem.W.Frag) (mg : Str → Option Value) (CM : Addr) : Prop where
  g : mg "Mark" = some (.ref CM)
  ga : mg "getattr" = none
  t1 : Top1 K CM
  ty : PySem.W.typeIn K (.ref CM) = some (.type "type")
/-- a Ratio, an integer that stands for one, or a thing of another kind -/
inductive Stands (K : PySem.W.Frag) (C cB : Addr) (H : Hp) (E : XK) (v : V) (old : Addr → Int × Int → Prop) (new : Int → Prop) : Prop where
  | rat (a dx : Addr) (q : Int × Int) (hv : v = .ref a) (e : H a = some (K03.rat C dx q)) (k : old a q) : Stands K C cB H E v old new
  | int (t : Int) (hv : v = .int t) (k : new t) : Stands K C cB H E v old new
  | odd (o : Odd K H v) (k : Bad cB v H E) : Stands K C cB H E v old new
def spAs (K : PySem.W.Frag) (C cB : Addr) : Sp := fun vs H Q E => ∃ v, vs = [v] ∧ Stands K C cB H E v (fun _ _ => Q v H) fun t => NewR C H Q (t, 1)
theorem MarkC.kit {K : PySem.W.Frag} {mg : Str → Option Value} {CM : Addr} (R : MarkC K mg CM) {T : String} (h : (fastBuiltinMro T).isSome = true) : PySem.W.kitOne K (.type T) (.ref CM) = some false := by
  obtain ⟨cd, h1, _⟩ := R.t1.mr
  unfold PySem.W.kitOne
  rw [if_neg (by simp)]
  show (if ((PySem.W.clsIn K CM).isSome && PySem.W.typeIn K (.ref CM) == some (.type "type")) = true then PySem.W.subIn K (.type T) (.ref CM) else none) = some false
  rw [if_pos (by rw [h1, R.ty]; rfl)]
  exact PySem.OwnB.sub_type h
section
variable {P : Program} {w : World} {K : PySem.W.Frag} {mg : Str → Option Value} {base : Heap} {cB cN C fI TT : Addr}
theorem scLooks : FnScope ["value", "below", "mark"] ["value", "below"] (defScope sLooks) := ⟨rfl, rfl, rfl, by decide +kernel, rfl, by decide +kernel, by decide +kernel⟩
theorem ok_looks {f CM : Addr} {fd : FuncData} (F : Fun K "looks_after" "looks_after" sLooks f fd) (M : MarkC K mg CM) (B : TxtR mg) : FnOk P w K mg base CX0 1 f fd ["value", "below"] (spLooks K) := by
  refine F.ok scLooks (fun vs H Q E h => ?_) (fun cdv A outer s H vs Q E hr h => ?_)
  · obtain ⟨v, z, T, rfl, _⟩ := h
    rfl
  · obtain ⟨v, z, T, rfl, hT, ty, nd, q⟩ := h
    have n2 := scLooks.nd
    refine ⟨_, pss_cons (ps_set (i := 2) n2 rfl (Or.inl rfl) (pe_callB (call_getM rfl) (by rfl) M.ga (by decide +kernel) (pa_cons (pv 0) (pa_cons pe_str (pa_cons pe_non pa_nil)))))
      (pss_one (ps_ret (pe_and (pe_callB call_isi (by rfl) B.isi (by decide +kernel) (pa_cons (pv 2) (pa_cons (pe_glob (v := .ref CM) (by rfl) M.g rfl) pa_nil)))
        (pe_one (pe_cmpR op_in_seq (pv 1) (pe_fld (pv 2) rfl) (by rfl)))))), ?_⟩
    refine ⟨_, rfl, v, .non, T, rfl, hT, ty, nd, ?_⟩
    exact ⟨_, rfl, _, .ref CM, .type "NoneType", .ref CM, false, rfl, .own CM, .base .non, M.kit (by decide +kernel), false, rfl, q⟩
theorem scAs : FnScope ["value"] ["value"] (defScope sAs) := ⟨rfl, rfl, rfl, by decide +kernel, rfl, by decide +kernel, by decide +kernel⟩
theorem ok_as {f : Addr} {fd : FuncData} (F : Fun K "as_ratio" "as_ratio" sAs f fd) (R : Rat P w K mg base cB cN C fI) (B : TxtR mg) : FnOk P w K mg base (L2.CX P w) 6 f fd ["value"] (spAs K C cB) := by
  refine F.okX scAs (fun vs H Q E h => ?_) (fun cdv A outer s H vs Q E hr h => ?_)
  · obtain ⟨v, rfl, _⟩ := h
    rfl
  · obtain ⟨v, rfl, k⟩ := h
    refine ⟨_, pss_one (ps_ret (pe_ifExp (pt_val (pe_callB call_isi (by rfl) B.isi (by decide +kernel) (pa_cons (pv 0) (pa_cons (pe_glob (v := .ref C) (by rfl) R.cls.g rfl) pa_nil)))) (pv 0) (pe_rat1 (E := E) R hr (passK (takes_of rfl rfl rfl rfl)) (pv 0)))), ?_⟩
    cases k with
    | rat a dx q hv e k =>
      subst hv
      exact ⟨_, rfl, _, .ref C, .ref C, .ref C, true, rfl, .own C, R.tyx H a dx _ e, kit_me, true, rfl, _, rfl, k⟩
    | int t hv k =>
      subst hv
      refine ⟨_, rfl, _, .ref C, .type "int", .ref C, false, rfl, .own C, .base (.int t), R.cls.kit (by decide +kernel), false, rfl, _, rfl, ?_⟩
      exact .good t 1 rfl rfl (by decide) (by decide +kernel) (by rw [low_one]; exact k)
    | odd o k =>
      obtain ⟨T, h1, h2, h3, h4⟩ := o
      refine ⟨_, rfl, _, .ref C, .type T, .ref C, false, rfl, .own C, h3, R.cls.kit (kinds_blt h1), false, rfl, _, rfl, ?_⟩
      exact .top (Odd.no ⟨T, h1, h2, h3, h4⟩) k
/-- what reads an x, put through as_ratio when it is no Ratio -/
def tAsR (K : PySem.W.Frag) (C cB : Addr) (E : XK) (i : Nat) : TE := fun σ H Q => ∃ v, σ[i]? = some (some v) ∧ spAs K C cB [v] H Q E
section
variable {X : Cx} {E : XK}
/-- x if isinstance(x, Ratio) else e, where e is told of what is no Ratio -/
theorem pe_ifR (R : Rat X.prog X.w X.K X.mg X.base cB cN C fI) {i : Nat} {x : Str} {e : Expr} {te : TE} {p1 p2 p3 p4 p5 p6 : Pos} (hv : ∀ p, PE X (.Name x p) (tVar i)) (he : PE X e te)
    (hi : ∀ σ H Q (t : Int), σ[i]? = some (some (.int t)) → NewR C H Q (t, 1) → te σ H Q) (ho : ∀ σ H Q v, σ[i]? = some (some v) → Odd X.K H v → Bad cB v H E → te σ H Q) (gi : Gl X "isinstance" := by rfl) (hg : Gl X "Ratio" := by rfl) :
    PE X (.IfExp (.Call (.Name "isinstance" p1) [.Name x p2, .Name "Ratio" p3] [] p4) (.Name x p5) e p6) (tAsR X.K C cB E i) := by
  have h := pe_ifExp (X := X) (pos := p6) (pt_val (pe_callB (p := p1) (pos := p4) call_isi gi R.txt.isi (by decide +kernel) (pa_cons (hv p2) (pa_cons (pe_glob (pos := p3) (v := .ref C) hg R.cls.g rfl) pa_nil)))) (hv p5) he
  refine ⟨fun pins s σ H Q I ⟨v, ev, w, e1, k⟩ => h.run pins s σ H Q I ?_⟩
  cases e1
  cases k with
  | rat a dx q hv e k =>
    subst hv
    exact ⟨_, ev, _, .ref C, .ref C, .ref C, true, rfl, .own C, R.tyx H a dx _ e, kit_me, true, rfl, _, ev, k⟩
  | int t hv k =>
    subst hv
    exact ⟨_, ev, _, .ref C, .type "int", .ref C, false, rfl, .own C, .base (.int t), R.cls.kit (by decide +kernel), false, rfl, hi _ _ _ _ ev k⟩
  | odd o k =>
    obtain ⟨T, h1, h2, h3, h4⟩ := o
    exact ⟨_, ev, _, .ref C, .type T, .ref C, false, rfl, .own C, h3, R.cls.kit (kinds_blt h1), false, rfl, ho _ _ _ _ ev ⟨T, h1, h2, h3, h4⟩ k⟩
end
theorem scOpd : FnScope ["other"] ["other"] (defScope sOpd) := ⟨rfl, rfl, rfl, by decide +kernel, rfl, by decide +kernel, by decide +kernel⟩
/-- operand of what is no Ratio -/
def spOpd (K : PySem.W.Frag) (C cB : Addr) : Sp := fun vs H Q E => ∃ v, vs = [v] ∧ ((∃ t, v = .int t ∧ NewR C H Q (t, 1)) ∨ (Odd K H v ∧ Bad cB v H E))
theorem ok_opd {f fc fa : Addr} {fd fdc fda : FuncData} (F : Fun K "operand" "operand" sOpd f fd) (R : Rat P w K mg base cB cN C fI) (B : TxtR mg) (Gc : FnOk P w K mg base CX0 1 fc fdc ["value", "below"] (spLooks K)) (gc : mg "looks_after" = some (.ref fc)) (kc : PySem.W.keepIn K (.ref fc) = true) (bc : Binds K fdc ["value", "below"] [])
    (Ga : FnOk P w K mg base (L2.CX P w) 6 fa fda ["value"] (spAs K C cB)) (ga : mg "as_ratio" = some (.ref fa)) (ka : PySem.W.keepIn K (.ref fa) = true) (ba : Binds K fda ["value"] []) : FnOk P w K mg base (L2.CX P w) 7 f fd ["other"] (spOpd K C cB) := by
  refine F.okX scOpd (fun vs H Q E h => ?_) (fun cdv A outer s H vs Q E hr h => ?_)
  · obtain ⟨v, rfl, _⟩ := h
    rfl
  · obtain ⟨v, rfl, k⟩ := h
    have hr1 : Room 1 _ := hr.mono (by decide)
    refine ⟨_, pss_cons (ps_if (pt_val (pe_call Gc hr1 (by rfl) gc kc bc .nil pass0 (pa_cons (pv 0) (pa_cons pe_str pa_nil)))) (pss_one (ps_ret pe_non)) pss_nil)
      (pss_one (ps_ret (pe_call (E := E) Ga hr (by rfl) ga ka ba .nil (passK (takes_of rfl rfl rfl rfl)) (pa_cons (pv 0) pa_nil)))), ?_⟩
    rcases k with ⟨t, rfl, k⟩ | ⟨⟨T, h1, h2, h3, h4⟩, k⟩
    · refine ⟨_, rfl, _, _, "int", rfl, by decide +kernel, .base (.int t), (fun _ z => nomatch z), false, rfl, ?_⟩
      exact ⟨_, rfl, _, rfl, .int t rfl k⟩
    · refine ⟨_, rfl, _, _, T, rfl, h1, h3, h4, false, rfl, ?_⟩
      exact ⟨_, rfl, _, rfl, .odd ⟨T, h1, h2, h3, h4⟩ k⟩
/-- x if isinstance(x, Ratio) else operand(x) -/
theorem pe_opR {X : Cx} {E : XK} {f : Addr} {fd : FuncData} (R : Rat X.prog X.w X.K X.mg X.base cB cN C fI) (G : FnOk X.prog X.w X.K X.mg X.base (L2.CX X.prog X.w) 7 f fd ["other"] (spOpd X.K C cB)) (g : X.mg "operand" = some (.ref f)) (kp : PySem.W.keepIn X.K (.ref f) = true) (bo : Binds X.K fd ["other"] []) (hr : Room 7 X.A) (hx : Passes (L2.CX X.prog X.w) X E) {i : Nat} {x : Str} {p1 p2 p3 p4 p5 p6 p7 p8 p9 : Pos}
    (hv : ∀ p, PE X (.Name x p) (tVar i)) (gi : Gl X "isinstance" := by rfl) (hg : Gl X "Ratio" := by rfl) (ho : Gl X "operand" := by rfl) :
    PE X (.IfExp (.Call (.Name "isinstance" p1) [.Name x p2, .Name "Ratio" p3] [] p4) (.Name x p5) (.Call (.Name "operand" p7) [.Name x p8] [] p9) p6) (tAsR X.K C cB E i) :=
  pe_ifR R hv (pe_call (E := E) G hr ho g kp bo .nil hx (pa_cons (hv p8) pa_nil)) (fun σ H Q t ev k => ⟨_, ev, _, rfl, .inl ⟨t, rfl, k⟩⟩) (fun σ H Q v ev o k => ⟨_, ev, _, rfl, .inr ⟨o, k⟩⟩) gi hg
end
end K03
end
section
set_option maxHeartbeats 4000000
namespace K03
open PySem PySem.Spec PyProof.Rows L2
/-- the pairs that are dealt with -/
structure Fit (p : Int × Int) : Prop where
  t : p.1.natAbs < 2 ^ 4000
  pos : 0 < p.2
  b : p.2.natAbs < 2 ^ 4000
def padd (p q : Int × Int) : Int × Int := low (p.1 * q.2 + q.1 * p.2) (p.2 * q.2)
def psub (p q : Int × Int) : Int × Int := low (p.1 * q.2 - q.1 * p.2) (p.2 * q.2)
def pmul (p q : Int × Int) : Int × Int := low (p.1 * q.1) (p.2 * q.2)
theorem lkT {u v : V} : ([("top", u), ("bottom", v)] : List (Str × V)).lookup ("top" : Str) = some u := by simp [List.lookup]
theorem lkBt {u v : V} : ([("top", u), ("bottom", v)] : List (Str × V)).lookup ("bottom" : Str) = some v := by
  have e : (("bottom" : Str) == "top") = false := by decide +kernel
  simp [List.lookup, e]
theorem NewR.same {C : Addr} {H H' : Hp} {Q : VK} {q : Int × Int} (h : NewR C H Q q) (s : Same H H') : NewR C H' Q q := fun a dx H'' ha s2 e => h a dx H'' (by
  cases z : H a with
  | none => rfl
  | some o => rw [s _ _ z] at ha; cases ha) (s.trans s2) e
theorem as_of {K : PySem.W.Frag} {C cB : Addr} {H : Hp} {E : XK} {v : V} {Q0 : VK} {ok : Int × Int → Prop} (k : Stands K C cB H E v (fun _ q => ok q) fun t => ok (t, 1))
    (c : ∀ (b dy : Addr) (q : Int × Int) (H1 : Hp), Same H H1 → H1 b = some (rat C dy q) → ok q → Q0 (.ref b) H1) : spAs K C cB [v] H Q0 E := by
  refine ⟨v, rfl, ?_⟩
  cases k with
  | rat a dx q hv e k => exact .rat a dx q hv e (by rw [hv]; exact c a dx q H (fun _ _ z => z) e k)
  | int t hv k => exact .int t hv fun a dx H' ha s e => c a dx _ H' s e k
  | odd o k => exact .odd o k
theorem sz_mul {i j : Int} (hi : i.natAbs < 2 ^ 4000) (hj : j.natAbs < 2 ^ 4000) : CMulW i j := wide_mul hi hj (by decide) (by decide) (by decide)
theorem sz_mulB {i j : Int} (hi : i.natAbs < 2 ^ 4000) (hj : j.natAbs < 2 ^ 4000) : Sz (i * j) :=
  Nat.lt_of_lt_of_le (wide_lt hi hj) (Nat.pow_le_pow_right (by decide) (by decide))
abbrev sAdd : Stmt := inClass (top 15) 2
abbrev sRadd : Stmt := inClass (top 15) 3
abbrev sSub : Stmt := inClass (top 15) 4
abbrev sRsub : Stmt := inClass (top 15) 5
abbrev sMul : Stmt := inClass (top 15) 6
abbrev sRmul : Stmt := inClass (top 15) 7
abbrev sNeg : Stmt := inClass (top 15) 8
def spBin (K : PySem.W.Frag) (C cB : Addr) (f : Int × Int → Int × Int → Int × Int) : Sp := fun vs H Q E => ∃ (a dx : Addr) (v : V) (p : Int × Int), vs = [.ref a, v] ∧ H a = some (rat C dx p) ∧ Fit p ∧
  Stands K C cB H E v (fun _ q => Fit q ∧ NewR C H Q (f p q)) fun t => Fit (t, 1) ∧ NewR C H Q (f p (t, 1))
section
variable {P : Program} {w : World} {K : PySem.W.Frag} {mg : Str → Option Value} {base : Heap} {cB cN C fI fo : Addr} {fdo : FuncData}
theorem scAdd : FnScope ["self", "other", "right"] ["self", "other"] (defScope sAdd) := ⟨rfl, rfl, rfl, by decide +kernel, rfl, by decide +kernel, by decide +kernel⟩
theorem ok_add {f : Addr} {fd : FuncData} (F : Fun K "__add__" "Ratio.__add__" sAdd f fd) (R : Rat P w K mg base cB cN C fI) (Go : FnOk P w K mg base (L2.CX P w) 7 fo fdo ["other"] (spOpd K C cB)) (go : mg "operand" = some (.ref fo)) (ko : PySem.W.keepIn K (.ref fo) = true) (bo : Binds K fdo ["other"] []) :
    FnOk P w K mg base (L2.CX P w) 8 f fd ["self", "other"] (spBin K C cB padd) := by
  refine F.okX scAdd (fun vs H Q E h => ?_) (fun cdv A outer s H vs Q E hr h => ?_)
  · obtain ⟨a, dx, v, p, rfl, _⟩ := h
    rfl
  · obtain ⟨a, dx, v, p, rfl, ha, fp, k⟩ := h
    have nd := scAdd.nd
    have hr5 : Room 5 _ := hr.mono (by decide)
    refine ⟨_, pss_cons (ps_set (i := 2) nd rfl (Or.inl rfl) (pe_opR (E := E) R Go go ko bo hr (passK (takes_of rfl rfl rfl rfl)) (fun _ => pv 1)))
      (pss_cons (ps_if (pt_cmpR op_isN (pv 2) pe_non (nomark _)) (pss_one ps_never) pss_nil)
      (pss_one (ps_ret (pe_rat2 (E := E) R hr5 (passK (takes_of rfl rfl rfl rfl)) (pe_op op_add (pe_op op_mulW (pe_fld (pv 0) rfl) (pe_fld (pv 2) rfl)) (pe_op op_mulW (pe_fld (pv 2) rfl) (pe_fld (pv 0) rfl))) (pe_op op_mulW (pe_fld (pv 0) rfl) (pe_fld (pv 2) rfl)))))), ?_⟩
    refine ⟨_, rfl, as_of k fun b dy q H1 s1 e ⟨fq, q1⟩ => ?_⟩
    refine ⟨_, rfl, rfl, _, rfl, ?_⟩
    show ite _ _ _
    rw [if_neg (by simp)]
    refine ⟨_, rfl, a, C, dx, _, _, rfl, s1 _ _ ha, R.cls.c, R.cls.nT, lkT, _, rfl, b, C, dy, _, _, rfl, e, R.cls.c, R.cls.nB, lkBt, _, _, rfl, rfl, sz_mul fp.t fq.b, ?_⟩
    refine ⟨_, rfl, b, C, dy, _, _, rfl, e, R.cls.c, R.cls.nT, lkT, _, rfl, a, C, dx, _, _, rfl, s1 _ _ ha, R.cls.c, R.cls.nB, lkBt, _, _, rfl, rfl, sz_mul fq.t fp.b, _, _, rfl, rfl, ?_⟩
    refine ⟨_, rfl, a, C, dx, _, _, rfl, s1 _ _ ha, R.cls.c, R.cls.nB, lkBt, _, rfl, b, C, dy, _, _, rfl, e, R.cls.c, R.cls.nB, lkBt, _, _, rfl, rfl, sz_mul fp.b fq.b, ?_⟩
    exact .good _ _ rfl rfl (Int.ne_of_gt (Int.mul_pos fp.pos fq.pos)) (sz_mulB fp.b fq.b) (q1.same s1)
theorem scSub : FnScope ["self", "other", "right"] ["self", "other"] (defScope sSub) := ⟨rfl, rfl, rfl, by decide +kernel, rfl, by decide +kernel, by decide +kernel⟩
theorem ok_sub {f : Addr} {fd : FuncData} (F : Fun K "__sub__" "Ratio.__sub__" sSub f fd) (R : Rat P w K mg base cB cN C fI) (Go : FnOk P w K mg base (L2.CX P w) 7 fo fdo ["other"] (spOpd K C cB)) (go : mg "operand" = some (.ref fo)) (ko : PySem.W.keepIn K (.ref fo) = true) (bo : Binds K fdo ["other"] []) :
    FnOk P w K mg base (L2.CX P w) 8 f fd ["self", "other"] (spBin K C cB psub) := by
  refine F.okX scSub (fun vs H Q E h => ?_) (fun cdv A outer s H vs Q E hr h => ?_)
  · obtain ⟨a, dx, v, p, rfl, _⟩ := h
    rfl
  · obtain ⟨a, dx, v, p, rfl, ha, fp, k⟩ := h
    have nd := scSub.nd
    have hr5 : Room 5 _ := hr.mono (by decide)
    refine ⟨_, pss_cons (ps_set (i := 2) nd rfl (Or.inl rfl) (pe_opR (E := E) R Go go ko bo hr (passK (takes_of rfl rfl rfl rfl)) (fun _ => pv 1)))
      (pss_cons (ps_if (pt_cmpR op_isN (pv 2) pe_non (nomark _)) (pss_one ps_never) pss_nil)
      (pss_one (ps_ret (pe_rat2 (E := E) R hr5 (passK (takes_of rfl rfl rfl rfl)) (pe_op op_sub (pe_op op_mulW (pe_fld (pv 0) rfl) (pe_fld (pv 2) rfl)) (pe_op op_mulW (pe_fld (pv 2) rfl) (pe_fld (pv 0) rfl))) (pe_op op_mulW (pe_fld (pv 0) rfl) (pe_fld (pv 2) rfl)))))), ?_⟩
    refine ⟨_, rfl, as_of k fun b dy q H1 s1 e ⟨fq, q1⟩ => ?_⟩
    refine ⟨_, rfl, rfl, _, rfl, ?_⟩
    show ite _ _ _
    rw [if_neg (by simp)]
    refine ⟨_, rfl, a, C, dx, _, _, rfl, s1 _ _ ha, R.cls.c, R.cls.nT, lkT, _, rfl, b, C, dy, _, _, rfl, e, R.cls.c, R.cls.nB, lkBt, _, _, rfl, rfl, sz_mul fp.t fq.b, ?_⟩
    refine ⟨_, rfl, b, C, dy, _, _, rfl, e, R.cls.c, R.cls.nT, lkT, _, rfl, a, C, dx, _, _, rfl, s1 _ _ ha, R.cls.c, R.cls.nB, lkBt, _, _, rfl, rfl, sz_mul fq.t fp.b, _, _, rfl, rfl, ?_⟩
    refine ⟨_, rfl, a, C, dx, _, _, rfl, s1 _ _ ha, R.cls.c, R.cls.nB, lkBt, _, rfl, b, C, dy, _, _, rfl, e, R.cls.c, R.cls.nB, lkBt, _, _, rfl, rfl, sz_mul fp.b fq.b, ?_⟩
    exact .good _ _ rfl rfl (Int.ne_of_gt (Int.mul_pos fp.pos fq.pos)) (sz_mulB fp.b fq.b) (q1.same s1)
theorem scMul : FnScope ["self", "other", "right"] ["self", "other"] (defScope sMul) := ⟨rfl, rfl, rfl, by decide +kernel, rfl, by decide +kernel, by decide +kernel⟩
theorem ok_mul {f : Addr} {fd : FuncData} (F : Fun K "__mul__" "Ratio.__mul__" sMul f fd) (R : Rat P w K mg base cB cN C fI) (Go : FnOk P w K mg base (L2.CX P w) 7 fo fdo ["other"] (spOpd K C cB)) (go : mg "operand" = some (.ref fo)) (ko : PySem.W.keepIn K (.ref fo) = true) (bo : Binds K fdo ["other"] []) :
    FnOk P w K mg base (L2.CX P w) 8 f fd ["self", "other"] (spBin K C cB pmul) := by
  refine F.okX scMul (fun vs H Q E h => ?_) (fun cdv A outer s H vs Q E hr h => ?_)
  · obtain ⟨a, dx, v, p, rfl, _⟩ := h
    rfl
  · obtain ⟨a, dx, v, p, rfl, ha, fp, k⟩ := h
    have nd := scMul.nd
    have hr5 : Room 5 _ := hr.mono (by decide)
    refine ⟨_, pss_cons (ps_set (i := 2) nd rfl (Or.inl rfl) (pe_opR (E := E) R Go go ko bo hr (passK (takes_of rfl rfl rfl rfl)) (fun _ => pv 1)))
      (pss_cons (ps_if (pt_cmpR op_isN (pv 2) pe_non (nomark _)) (pss_one ps_never) pss_nil)
      (pss_one (ps_ret (pe_rat2 (E := E) R hr5 (passK (takes_of rfl rfl rfl rfl)) (pe_op op_mulW (pe_fld (pv 0) rfl) (pe_fld (pv 2) rfl)) (pe_op op_mulW (pe_fld (pv 0) rfl) (pe_fld (pv 2) rfl)))))), ?_⟩
    refine ⟨_, rfl, as_of k fun b dy q H1 s1 e ⟨fq, q1⟩ => ?_⟩
    refine ⟨_, rfl, rfl, _, rfl, ?_⟩
    show ite _ _ _
    rw [if_neg (by simp)]
    refine ⟨_, rfl, a, C, dx, _, _, rfl, s1 _ _ ha, R.cls.c, R.cls.nT, lkT, _, rfl, b, C, dy, _, _, rfl, e, R.cls.c, R.cls.nT, lkT, _, _, rfl, rfl, sz_mul fp.t fq.t, ?_⟩
    refine ⟨_, rfl, a, C, dx, _, _, rfl, s1 _ _ ha, R.cls.c, R.cls.nB, lkBt, _, rfl, b, C, dy, _, _, rfl, e, R.cls.c, R.cls.nB, lkBt, _, _, rfl, rfl, sz_mul fp.b fq.b, ?_⟩
    exact .good _ _ rfl rfl (Int.ne_of_gt (Int.mul_pos fp.pos fq.pos)) (sz_mulB fp.b fq.b) (q1.same s1)
end
end K03
end
section
set_option maxHeartbeats 4000000
namespace L2
open PySem PySem.Spec PyProof.Rows
theorem sub_bools {prog : Program} {w : World} {A : Around} {E : Value → Shared → Prop} {s : Shared} {a b : Bool} {Q : Value → Shared → Prop} (h : Q (.int (b2i a - b2i b) s.toks) { s with toks := s.toks + 1 }) :
    wpAny (model prog w) A (binaryOp .Sub (.bool a) (.bool b)) Q E s := by
  refine wpAny_binaryOp_same (op := .Sub) (T := "bool") rfl rfl PySem.F.fills_bool_sub PySem.F.slot_bool_sub ?_
  refine wpAny_call_entry PySem.F.slot_bool_sub (show s.TypeIs (.bool a) "bool" from rfl) PySem.F.entry_int_sub ?_ (PySem.F.args_int_sub_2 _ _)
  show wpAny _ _ (do ret (← mkInt (b2i a - b2i b))) _ _ s
  exact wpAny_ret_mkInt ⟨by simp, h⟩
theorem op_sub_bb {X : Cx} : OpR X (binaryOp .Sub) (fun x y H Q => ∃ i k, x = .bl i ∧ y = .bl k ∧ Q (.int (b2i i - b2i k)) H) := by
  intro pins s σ H x y v u Q I rx ry h
  obtain ⟨i, k, rfl, rfl, q⟩ := h
  cases rx
  cases ry
  exact sub_bools ⟨.int (b2i i - b2i k), H, I.tok _, ⟨_, rfl⟩, q⟩
end L2
end
section
set_option maxHeartbeats 4000000
namespace K03
open PySem PySem.Spec PyProof.Rows L2
abbrev sEq : Stmt := inClass (top 15) 1
abbrev sInv : Stmt := inClass (top 15) 10
abbrev sSign : Stmt := inClass (top 15) 12
abbrev sSize : Stmt := inClass (top 15) 13
abbrev sFloor : Stmt := inClass (top 15) 14
abbrev sComp : Stmt := inClass (top 15) 15
/-- an operator, told of its right one -/
def spRbin (K : PySem.W.Frag) (C cB : Addr) (f : Int × Int → Int × Int → Int × Int) : Sp := fun vs H Q E => ∃ (a dx : Addr) (v : V) (p : Int × Int), vs = [.ref a, v] ∧ H a = some (rat C dx p) ∧ Fit p ∧
  Stands K C cB H E v (fun _ q => Fit q ∧ NewR C H Q (f q p)) fun t => Fit (t, 1) ∧ NewR C H Q (f (t, 1) p)
def spNeg (C : Addr) : Sp := fun vs H Q E => ∃ (a dx : Addr) (p : Int × Int), vs = [.ref a] ∧ H a = some (rat C dx p) ∧ Fit p ∧ NewR C H Q (low (-p.1) p.2)
def spInv (C cN : Addr) : Sp := fun vs H Q E => ∃ (a dx : Addr) (p : Int × Int), vs = [.ref a] ∧ H a = some (rat C dx p) ∧ Fit p ∧ (p.1 ≠ 0 → NewR C H Q (low p.2 p.1)) ∧ (p.1 = 0 → NoDiv cN H E)
def sgn (i : Int) : Int := b2i (decide (i > 0)) - b2i (decide (i < 0))
def spSign (C : Addr) : Sp := fun vs H Q E => ∃ (a dx : Addr) (p : Int × Int), vs = [.ref a] ∧ H a = some (rat C dx p) ∧ Q (.int (sgn p.1)) H
def spSize (C : Addr) : Sp := fun vs H Q E => ∃ (a dx : Addr) (p : Int × Int), vs = [.ref a] ∧ H a = some (rat C dx p) ∧ Fit p ∧ NewR C H Q (low (if p.1 < 0 then -p.1 else p.1) p.2)
def spFloor (C : Addr) : Sp := fun vs H Q E => ∃ (a dx : Addr) (p : Int × Int), vs = [.ref a] ∧ H a = some (rat C dx p) ∧ Fit p ∧ Q (.int (p.1.fdiv p.2)) H
def spComp (K : PySem.W.Frag) (C cB : Addr) : Sp := fun vs H Q E => ∃ (a dx : Addr) (v : V) (p : Int × Int), vs = [.ref a, v] ∧ H a = some (rat C dx p) ∧ Fit p ∧
  Stands K C cB H E v (fun _ q => Fit q ∧ ∀ H', Same H H' → Q (.int (sgn (psub p q).1)) H') fun t => Fit (t, 1) ∧ ∀ H', Same H H' → Q (.int (sgn (psub p (t, 1)).1)) H'
/-- equal to another Ratio; to a thing of a built-in type it isn't -/
def spEq (K : PySem.W.Frag) (C : Addr) : Sp := fun vs H Q E => ∃ (a dx : Addr) (v : V) (p : Int × Int), vs = [.ref a, v] ∧ H a = some (rat C dx p) ∧
  ((∃ (b dy : Addr) (q : Int × Int), v = .ref b ∧ H b = some (rat C dy q) ∧ Q (.bl (decide (p = q))) H) ∨ ((∃ T : String, T ∈ kinds ∧ TyX K H v (.type T)) ∧ Q (.bl false) H))
theorem lkN {u v : V} : ([("top", u), ("bottom", v)] : List (Str × V)).lookup ("sign" : Str) = none := by
  have e : (("sign" : Str) == "top") = false := by decide +kernel
  have e2 : (("sign" : Str) == "bottom") = false := by decide +kernel
  simp [List.lookup, e, e2]
theorem fit_sz {b : Int} (h : b.natAbs < 2 ^ 4000) : Sz b := Nat.lt_of_lt_of_le h (Nat.pow_le_pow_right (by decide) (by decide))
section
variable {P : Program} {w : World} {K : PySem.W.Frag} {mg : Str → Option Value} {base : Heap} {cB cN C fI fo fa fb : Addr} {fdo fda fdb : FuncData}
theorem scRadd : FnScope ["self", "other"] ["self", "other"] (defScope sRadd) := ⟨rfl, rfl, rfl, by decide +kernel, rfl, by decide +kernel, by decide +kernel⟩
theorem ok_radd {f : Addr} {fd : FuncData} (F : Fun K "__radd__" "Ratio.__radd__" sRadd f fd) (R : Rat P w K mg base cB cN C fI) (Ga : FnOk P w K mg base (L2.CX P w) 6 fa fda ["value"] (spAs K C cB)) (ga : mg "as_ratio" = some (.ref fa)) (ka : PySem.W.keepIn K (.ref fa) = true) (ba : Binds K fda ["value"] [])
    (O : OpC K C fb f .Add) (Gb : FnOk P w K mg base (L2.CX P w) 8 fb fdb ["self", "other"] (spBin K C cB padd)) (bb : Binds K fdb ["self", "other"] []) : FnOk P w K mg base (L2.CX P w) 9 f fd ["self", "other"] (spRbin K C cB padd) := by
  refine F.okX scRadd (fun vs H Q E h => ?_) (fun cdv A outer s H vs Q E hr h => ?_)
  · obtain ⟨a, dx, v, p, rfl, _⟩ := h
    rfl
  · obtain ⟨a, dx, v, p, rfl, ha, fp, k⟩ := h
    have hr6 : Room 6 _ := hr.mono (by decide)
    refine ⟨_, pss_one (ps_ret (pe_op (op_ownL (E := E) R.cls.t1 O Gb hr bb (passK (takes_of rfl rfl rfl rfl))) (pe_call (E := E) Ga hr6 (by rfl) ga ka ba .nil (passK (takes_of rfl rfl rfl rfl)) (pa_cons (pv 1) pa_nil)) (pv 0))), ?_⟩
    refine ⟨_, rfl, ?_⟩
    dsimp only [tNil, List.cons_append, List.nil_append]
    refine as_of k fun b dy q H1 s1 e ⟨fq, q1⟩ => ?_
    exact ⟨_, rfl, b, dy, _, rfl, e, .inl ⟨a, dx, _, rfl, s1 _ _ ha⟩, b, dy, _, q, rfl, e, fq, .rat a dx p rfl (s1 _ _ ha) ⟨fp, q1.same s1⟩⟩
theorem scRsub : FnScope ["self", "other"] ["self", "other"] (defScope sRsub) := ⟨rfl, rfl, rfl, by decide +kernel, rfl, by decide +kernel, by decide +kernel⟩
theorem ok_rsub {f : Addr} {fd : FuncData} (F : Fun K "__rsub__" "Ratio.__rsub__" sRsub f fd) (R : Rat P w K mg base cB cN C fI) (Ga : FnOk P w K mg base (L2.CX P w) 6 fa fda ["value"] (spAs K C cB)) (ga : mg "as_ratio" = some (.ref fa)) (ka : PySem.W.keepIn K (.ref fa) = true) (ba : Binds K fda ["value"] [])
    (O : OpC K C fb f .Sub) (Gb : FnOk P w K mg base (L2.CX P w) 8 fb fdb ["self", "other"] (spBin K C cB psub)) (bb : Binds K fdb ["self", "other"] []) : FnOk P w K mg base (L2.CX P w) 9 f fd ["self", "other"] (spRbin K C cB psub) := by
  refine F.okX scRsub (fun vs H Q E h => ?_) (fun cdv A outer s H vs Q E hr h => ?_)
  · obtain ⟨a, dx, v, p, rfl, _⟩ := h
    rfl
  · obtain ⟨a, dx, v, p, rfl, ha, fp, k⟩ := h
    have hr6 : Room 6 _ := hr.mono (by decide)
    refine ⟨_, pss_one (ps_ret (pe_op (op_ownL (E := E) R.cls.t1 O Gb hr bb (passK (takes_of rfl rfl rfl rfl))) (pe_call (E := E) Ga hr6 (by rfl) ga ka ba .nil (passK (takes_of rfl rfl rfl rfl)) (pa_cons (pv 1) pa_nil)) (pv 0))), ?_⟩
    refine ⟨_, rfl, ?_⟩
    dsimp only [tNil, List.cons_append, List.nil_append]
    refine as_of k fun b dy q H1 s1 e ⟨fq, q1⟩ => ?_
    exact ⟨_, rfl, b, dy, _, rfl, e, .inl ⟨a, dx, _, rfl, s1 _ _ ha⟩, b, dy, _, q, rfl, e, fq, .rat a dx p rfl (s1 _ _ ha) ⟨fp, q1.same s1⟩⟩
theorem scRmul : FnScope ["self", "other"] ["self", "other"] (defScope sRmul) := ⟨rfl, rfl, rfl, by decide +kernel, rfl, by decide +kernel, by decide +kernel⟩
theorem ok_rmul {f : Addr} {fd : FuncData} (F : Fun K "__rmul__" "Ratio.__rmul__" sRmul f fd) (R : Rat P w K mg base cB cN C fI) (Ga : FnOk P w K mg base (L2.CX P w) 6 fa fda ["value"] (spAs K C cB)) (ga : mg "as_ratio" = some (.ref fa)) (ka : PySem.W.keepIn K (.ref fa) = true) (ba : Binds K fda ["value"] [])
    (O : OpC K C fb f .Mult) (Gb : FnOk P w K mg base (L2.CX P w) 8 fb fdb ["self", "other"] (spBin K C cB pmul)) (bb : Binds K fdb ["self", "other"] []) : FnOk P w K mg base (L2.CX P w) 9 f fd ["self", "other"] (spRbin K C cB pmul) := by
  refine F.okX scRmul (fun vs H Q E h => ?_) (fun cdv A outer s H vs Q E hr h => ?_)
  · obtain ⟨a, dx, v, p, rfl, _⟩ := h
    rfl
  · obtain ⟨a, dx, v, p, rfl, ha, fp, k⟩ := h
    have hr6 : Room 6 _ := hr.mono (by decide)
    refine ⟨_, pss_one (ps_ret (pe_op (op_ownL (E := E) R.cls.t1 O Gb hr bb (passK (takes_of rfl rfl rfl rfl))) (pe_call (E := E) Ga hr6 (by rfl) ga ka ba .nil (passK (takes_of rfl rfl rfl rfl)) (pa_cons (pv 1) pa_nil)) (pv 0))), ?_⟩
    refine ⟨_, rfl, ?_⟩
    dsimp only [tNil, List.cons_append, List.nil_append]
    refine as_of k fun b dy q H1 s1 e ⟨fq, q1⟩ => ?_
    exact ⟨_, rfl, b, dy, _, rfl, e, .inl ⟨a, dx, _, rfl, s1 _ _ ha⟩, b, dy, _, q, rfl, e, fq, .rat a dx p rfl (s1 _ _ ha) ⟨fp, q1.same s1⟩⟩
theorem scNeg : FnScope ["self"] ["self"] (defScope sNeg) := ⟨rfl, rfl, rfl, by decide +kernel, rfl, by decide +kernel, by decide +kernel⟩
theorem ok_neg {f : Addr} {fd : FuncData} (F : Fun K "__neg__" "Ratio.__neg__" sNeg f fd) (R : Rat P w K mg base cB cN C fI) : FnOk P w K mg base (L2.CX P w) 6 f fd ["self"] (spNeg C) := by
  refine F.okX scNeg (fun vs H Q E h => ?_) (fun cdv A outer s H vs Q E hr h => ?_)
  · obtain ⟨a, dx, p, rfl, _⟩ := h
    rfl
  · obtain ⟨a, dx, p, rfl, ha, fp, q⟩ := h
    refine ⟨_, pss_one (ps_ret (pe_rat2 (E := E) R hr (passK (takes_of rfl rfl rfl rfl)) (pe_un un_neg (pe_fld (pv 0) rfl)) (pe_fld (pv 0) rfl))), ?_⟩
    refine ⟨_, rfl, a, C, dx, _, _, rfl, ha, R.cls.c, R.cls.nT, lkT, _, rfl, _, rfl, a, C, dx, _, _, rfl, ha, R.cls.c, R.cls.nB, lkBt, ?_⟩
    exact .good _ _ rfl rfl (Int.ne_of_gt fp.pos) (fit_sz fp.b) q
theorem scInv : FnScope ["self"] ["self"] (defScope sInv) := ⟨rfl, rfl, rfl, by decide +kernel, rfl, by decide +kernel, by decide +kernel⟩
theorem ok_inv {f : Addr} {fd : FuncData} (F : Fun K "inverse" "Ratio.inverse" sInv f fd) (R : Rat P w K mg base cB cN C fI) : FnOk P w K mg base (L2.CX P w) 6 f fd ["self"] (spInv C cN) := by
  refine F.okX scInv (fun vs H Q E h => ?_) (fun cdv A outer s H vs Q E hr h => ?_)
  · obtain ⟨a, dx, p, rfl, _⟩ := h
    rfl
  · obtain ⟨a, dx, p, rfl, ha, fp, q1, q2⟩ := h
    refine ⟨_, pss_one (ps_ret (pe_rat2 (E := E) R hr (passK (takes_of rfl rfl rfl rfl)) (pe_fld (pv 0) rfl) (pe_fld (pv 0) rfl))), ?_⟩
    refine ⟨_, rfl, a, C, dx, _, _, rfl, ha, R.cls.c, R.cls.nB, lkBt, _, rfl, a, C, dx, _, _, rfl, ha, R.cls.c, R.cls.nT, lkT, ?_⟩
    by_cases h0 : p.1 = 0
    · exact .zero _ rfl (by rw [h0]) (q2 h0)
    · exact .good _ _ rfl rfl h0 (fit_sz fp.t) (q1 h0)
theorem scSign : FnScope ["self"] ["self"] (defScope sSign) := ⟨rfl, rfl, rfl, by decide +kernel, rfl, by decide +kernel, by decide +kernel⟩
theorem ok_sign {f : Addr} {fd : FuncData} (F : Fun K "sign" "Ratio.sign" sSign f fd) (R : Rat P w K mg base cB cN C fI) : FnOk P w K mg base CX0 1 f fd ["self"] (spSign C) := by
  refine F.ok scSign (fun vs H Q E h => ?_) (fun cdv A outer s H vs Q E hr h => ?_)
  · obtain ⟨a, dx, p, rfl, _⟩ := h
    rfl
  · obtain ⟨a, dx, p, rfl, ha, q⟩ := h
    refine ⟨_, pss_one (ps_ret (pe_op op_sub_bb (pe_cmpR op_gt (pe_fld (pv 0) rfl) pe_int (nomark _)) (pe_cmpR op_lt (pe_fld (pv 0) rfl) pe_int (nomark _)))), ?_⟩
    refine ⟨_, rfl, a, C, dx, _, _, rfl, ha, R.cls.c, R.cls.nT, lkT, _, _, rfl, rfl, ?_⟩
    refine ⟨_, rfl, a, C, dx, _, _, rfl, ha, R.cls.c, R.cls.nT, lkT, _, _, rfl, rfl, ?_⟩
    exact ⟨_, _, rfl, rfl, q⟩
theorem scSize : FnScope ["self"] ["self"] (defScope sSize) := ⟨rfl, rfl, rfl, by decide +kernel, rfl, by decide +kernel, by decide +kernel⟩
theorem ok_size {f : Addr} {fd : FuncData} (F : Fun K "size" "Ratio.size" sSize f fd) (R : Rat P w K mg base cB cN C fI) (B : TxtR mg) : FnOk P w K mg base (L2.CX P w) 6 f fd ["self"] (spSize C) := by
  refine F.okX scSize (fun vs H Q E h => ?_) (fun cdv A outer s H vs Q E hr h => ?_)
  · obtain ⟨a, dx, p, rfl, _⟩ := h
    rfl
  · obtain ⟨a, dx, p, rfl, ha, fp, q⟩ := h
    refine ⟨_, pss_one (ps_ret (pe_rat2 (E := E) R hr (passK (takes_of rfl rfl rfl rfl)) (pe_callB call_abs (by rfl) B.abs (by decide +kernel) (pa_cons (pe_fld (pv 0) rfl) pa_nil)) (pe_fld (pv 0) rfl))), ?_⟩
    refine ⟨_, rfl, a, C, dx, _, _, rfl, ha, R.cls.c, R.cls.nT, lkT, _, rfl, _, rfl, a, C, dx, _, _, rfl, ha, R.cls.c, R.cls.nB, lkBt, ?_⟩
    exact .good _ _ rfl rfl (Int.ne_of_gt fp.pos) (fit_sz fp.b) q
theorem scFloor : FnScope ["self"] ["self"] (defScope sFloor) := ⟨rfl, rfl, rfl, by decide +kernel, rfl, by decide +kernel, by decide +kernel⟩
theorem ok_floor {f : Addr} {fd : FuncData} (F : Fun K "floor" "Ratio.floor" sFloor f fd) (R : Rat P w K mg base cB cN C fI) : FnOk P w K mg base CX0 1 f fd ["self"] (spFloor C) := by
  refine F.ok scFloor (fun vs H Q E h => ?_) (fun cdv A outer s H vs Q E hr h => ?_)
  · obtain ⟨a, dx, p, rfl, _⟩ := h
    rfl
  · obtain ⟨a, dx, p, rfl, ha, fp, q⟩ := h
    refine ⟨_, pss_one (ps_ret (pe_op op_fdivZ (pe_fld (pv 0) rfl) (pe_fld (pv 0) rfl))), ?_⟩
    refine ⟨_, rfl, a, C, dx, _, _, rfl, ha, R.cls.c, R.cls.nT, lkT, _, rfl, a, C, dx, _, _, rfl, ha, R.cls.c, R.cls.nB, lkBt, _, _, rfl, rfl, ⟨Int.ne_of_gt fp.pos, ?_⟩, q⟩
    exact log2_le (Nat.le_refl _) (by have := fp.pos; omega) (fit_sz fp.b) (by decide)
theorem scComp : FnScope ["self", "other", "right"] ["self", "other"] (defScope sComp) := ⟨rfl, rfl, rfl, by decide +kernel, rfl, by decide +kernel, by decide +kernel⟩
theorem ok_comp {f fs fr' : Addr} {fd fds : FuncData} (F : Fun K "compare" "Ratio.compare" sComp f fd) (R : Rat P w K mg base cB cN C fI) (Ga : FnOk P w K mg base (L2.CX P w) 6 fa fda ["value"] (spAs K C cB)) (ga : mg "as_ratio" = some (.ref fa)) (ka : PySem.W.keepIn K (.ref fa) = true) (ba : Binds K fda ["value"] [])
    (O : OpC K C fb fr' .Sub) (Gb : FnOk P w K mg base (L2.CX P w) 8 fb fdb ["self", "other"] (spBin K C cB psub)) (bb : Binds K fdb ["self", "other"] []) (M : Meth K C "sign" fs) (Gs : FnOk P w K mg base CX0 1 fs fds ["self"] (spSign C)) (bs : Binds K fds ["self"] []) :
    FnOk P w K mg base (L2.CX P w) 9 f fd ["self", "other"] (spComp K C cB) := by
  refine F.okX scComp (fun vs H Q E h => ?_) (fun cdv A outer s H vs Q E hr h => ?_)
  · obtain ⟨a, dx, v, p, rfl, _⟩ := h
    rfl
  · obtain ⟨a, dx, v, p, rfl, ha, fp, k⟩ := h
    have nd := scComp.nd
    have hr6 : Room 6 _ := hr.mono (by decide)
    have hr1 : Room 1 _ := hr.mono (by decide)
    refine ⟨_, pss_cons (ps_set (i := 2) nd rfl (Or.inl rfl) (pe_call (E := E) Ga hr6 (by rfl) ga ka ba .nil (passK (takes_of rfl rfl rfl rfl)) (pa_cons (pv 1) pa_nil)))
      (pss_one (ps_ret (pe_meth0 (pe_op (op_ownL (E := E) R.cls.t1 O Gb hr bb (passK (takes_of rfl rfl rfl rfl))) (pv 0) (pv 2)) R.cls.c M Gs hr1 bs .nil pass0))), ?_⟩
    refine ⟨_, rfl, as_of k fun b dy q H1 s1 e ⟨fq, q1⟩ => ?_⟩
    refine ⟨_, rfl, _, rfl, a, dx, _, rfl, s1 _ _ ha, .inl ⟨b, dy, _, rfl, e⟩, a, dx, _, p, rfl, s1 _ _ ha, fp, .rat b dy q rfl e ⟨fq, fun r dr H2 hr2 s2 er => ?_⟩⟩
    exact ⟨r, dr, _, rfl, er, lkN, r, dr, _, rfl, er, q1 H2 (s1.trans s2)⟩
theorem scEq : FnScope ["self", "other"] ["self", "other"] (defScope sEq) := ⟨rfl, rfl, rfl, by decide +kernel, rfl, by decide +kernel, by decide +kernel⟩
theorem ok_eq {f : Addr} {fd : FuncData} (F : Fun K "__eq__" "Ratio.__eq__" sEq f fd) (R : Rat P w K mg base cB cN C fI) (B : TxtR mg) : FnOk P w K mg base CX0 1 f fd ["self", "other"] (spEq K C) := by
  refine F.ok scEq (fun vs H Q E h => ?_) (fun cdv A outer s H vs Q E hr h => ?_)
  · obtain ⟨a, dx, v, p, rfl, _⟩ := h
    rfl
  · obtain ⟨a, dx, v, p, rfl, ha, k⟩ := h
    refine ⟨_, pss_one (ps_ret (pe_and (pe_callB call_isi (by rfl) B.isi (by decide +kernel) (pa_cons (pv 1) (pa_cons (pe_glob (v := .ref C) (by rfl) R.cls.g rfl) pa_nil)))
      (pe_and (pe_cmpR op_eq (pe_fld (pv 0) rfl) (pe_fld (pv 1) rfl) (nomark _)) (pe_one (pe_cmpR op_eq (pe_fld (pv 0) rfl) (pe_fld (pv 1) rfl) (nomark _)))))), ?_⟩
    rcases k with ⟨b, dy, q, rfl, e, k⟩ | ⟨⟨T, hT, ty⟩, k⟩
    · refine ⟨_, rfl, _, .ref C, .ref C, .ref C, true, rfl, .own C, R.tyx H b dy _ e, kit_me, true, rfl, ?_⟩
      refine ⟨_, rfl, a, C, dx, _, _, rfl, ha, R.cls.c, R.cls.nT, lkT, _, rfl, b, C, dy, _, _, rfl, e, R.cls.c, R.cls.nT, lkT, rfl, _, rfl, ?_⟩
      have hd : ∀ i j : Int, decide (V.int i = V.int j) = decide (i = j) := fun i j => by simp
      by_cases h1 : p.1 = q.1
      · have e1 : decide (V.int p.1 = V.int q.1) = true := by rw [hd]; simpa using h1
        show ite _ _ _
        rw [if_pos e1]
        refine ⟨_, rfl, a, C, dx, _, _, rfl, ha, R.cls.c, R.cls.nB, lkBt, _, rfl, b, C, dy, _, _, rfl, e, R.cls.c, R.cls.nB, lkBt, rfl, ?_⟩
        have e2 : decide (V.int p.2 = V.int q.2) = decide (p = q) := by
          rw [hd]
          have : (p = q) ↔ (p.2 = q.2) := ⟨fun z => by rw [z], fun z => Prod.ext h1 z⟩
          simp [this]
        show Q (V.bl (decide (V.int p.2 = V.int q.2))) H
        rw [e2]
        exact k
      · have e1 : decide (V.int p.1 = V.int q.1) = false := by rw [hd]; simpa using h1
        show ite _ _ _
        rw [if_neg (by rw [e1]; decide)]
        have e2 : decide (p = q) = false := by
          have : p ≠ q := fun z => h1 (by rw [z])
          simpa using this
        rw [e2] at k
        exact k
    · exact ⟨_, rfl, _, .ref C, .type T, .ref C, false, rfl, .own C, ty, R.cls.kit (kinds_blt hT), false, rfl, k⟩
end
end K03
end
section
set_option maxHeartbeats 4000000
namespace K03
/-- in lowest terms, the lower one from 1 on -/
structure Low (p : Int × Int) : Prop where
  pos : 0 < p.2
  co : Nat.Coprime p.1.natAbs p.2.natAbs
theorem shr_dvd_l {t b : Int} : shr t b ∣ t := by
  unfold shr
  split
  · exact Int.neg_dvd.mpr (Int.ofNat_dvd_left.mpr (Nat.gcd_dvd_left _ _))
  · exact Int.ofNat_dvd_left.mpr (Nat.gcd_dvd_left _ _)
theorem shr_dvd_r {t b : Int} : shr t b ∣ b := by
  unfold shr
  split
  · exact Int.neg_dvd.mpr (Int.ofNat_dvd_left.mpr (Nat.gcd_dvd_right _ _))
  · exact Int.ofNat_dvd_left.mpr (Nat.gcd_dvd_right _ _)
theorem shr_abs {t b : Int} : (shr t b).natAbs = Nat.gcd t.natAbs b.natAbs := by
  unfold shr
  split <;> simp
theorem low_l {t b : Int} (h : b ≠ 0) : t = shr t b * (low t b).1 := by
  show t = shr t b * t.fdiv (shr t b)
  rw [Int.fdiv_eq_ediv_of_dvd shr_dvd_l, Int.mul_ediv_cancel' shr_dvd_l]
theorem low_r {t b : Int} (h : b ≠ 0) : b = shr t b * (low t b).2 := by
  show b = shr t b * b.fdiv (shr t b)
  rw [Int.fdiv_eq_ediv_of_dvd shr_dvd_r, Int.mul_ediv_cancel' shr_dvd_r]
theorem low_pos {t b : Int} (h : b ≠ 0) : 0 < (low t b).2 := by
  have e := low_r (t := t) h
  have g : 0 < Nat.gcd t.natAbs b.natAbs := Nat.gcd_pos_of_pos_right _ (by omega)
  by_cases hb : b < 0
  · have hs : shr t b < 0 := by unfold shr; rw [if_pos hb]; omega
    refine Int.not_le.mp fun hn => ?_
    have := Int.mul_nonneg_of_nonpos_of_nonpos (Int.le_of_lt hs) hn
    omega
  · have hs : 0 < shr t b := by unfold shr; rw [if_neg hb]; omega
    refine Int.not_le.mp fun hn => ?_
    have := Int.mul_nonpos_of_nonneg_of_nonpos (Int.le_of_lt hs) hn
    omega
theorem low_low {t b : Int} (h : b ≠ 0) : Low (low t b) := by
  refine ⟨low_pos h, ?_⟩
  have g : 0 < Nat.gcd t.natAbs b.natAbs := Nat.gcd_pos_of_pos_right _ (by omega)
  have e1 : t.natAbs = Nat.gcd t.natAbs b.natAbs * (low t b).1.natAbs := by
    rw [← shr_abs, ← Int.natAbs_mul, ← low_l h]
  have e2 : b.natAbs = Nat.gcd t.natAbs b.natAbs * (low t b).2.natAbs := by
    rw [← shr_abs, ← Int.natAbs_mul, ← low_r h]
  have e3 : Nat.gcd t.natAbs b.natAbs = Nat.gcd t.natAbs b.natAbs * Nat.gcd (low t b).1.natAbs (low t b).2.natAbs := by
    rw [← Nat.gcd_mul_left, ← e1, ← e2]
  exact Nat.eq_of_mul_eq_mul_left g (by rw [← e3, Nat.mul_one])
/-- the lowest terms are told by the worth -/
theorem Low.uniq {p q : Int × Int} (hp : Low p) (hq : Low q) (h : p.1 * q.2 = q.1 * p.2) : p = q := by
  have hn : p.1.natAbs * q.2.natAbs = q.1.natAbs * p.2.natAbs := by rw [← Int.natAbs_mul, ← Int.natAbs_mul, h]
  have d1 : p.2.natAbs ∣ q.2.natAbs := (Nat.Coprime.symm hp.co).dvd_of_dvd_mul_left (by rw [hn]; exact Nat.dvd_mul_left _ _)
  have d2 : q.2.natAbs ∣ p.2.natAbs := (Nat.Coprime.symm hq.co).dvd_of_dvd_mul_left (by rw [← hn]; exact Nat.dvd_mul_left _ _)
  have e : p.2.natAbs = q.2.natAbs := Nat.dvd_antisymm d1 d2
  have e2 : p.2 = q.2 := by have := hp.pos; have := hq.pos; omega
  have e1 : p.1 = q.1 := by
    rw [e2] at h
    exact Int.eq_of_mul_eq_mul_right (by have := hq.pos; omega) h
  exact Prod.ext e1 e2
theorem low_cross {t b : Int} (h : b ≠ 0) : (low t b).1 * b = t * (low t b).2 := by
  have h1 := low_l (t := t) h
  have h2 := low_r (t := t) h
  calc (low t b).1 * b = (low t b).1 * (shr t b * (low t b).2) := by rw [← h2]
    _ = (shr t b * (low t b).1) * (low t b).2 := by rw [← Int.mul_assoc, Int.mul_comm (low t b).1]
    _ = t * (low t b).2 := by rw [← h1]
theorem low_of {t b : Int} {q : Int × Int} (h : b ≠ 0) (hq : Low q) (e : t * q.2 = q.1 * b) : low t b = q := by
  refine (low_low h).uniq hq ?_
  have c := low_cross (t := t) h
  have : (low t b).1 * q.2 * b = q.1 * (low t b).2 * b := by
    calc (low t b).1 * q.2 * b = ((low t b).1 * b) * q.2 := by rw [Int.mul_right_comm]
      _ = (t * (low t b).2) * q.2 := by rw [c]
      _ = (t * q.2) * (low t b).2 := by rw [Int.mul_right_comm]
      _ = (q.1 * b) * (low t b).2 := by rw [e]
      _ = q.1 * (low t b).2 * b := by rw [Int.mul_right_comm]
  exact Int.eq_of_mul_eq_mul_right h this
/-- what is in lowest terms stays -/
theorem low_self {p : Int × Int} (h : Low p) : low p.1 p.2 = p := low_of (by have := h.pos; omega) h (by rw [Int.mul_comm])
/-- times a factor -/
theorem low_times {p : Int × Int} (h : Low p) {f : Int} (hf : f ≠ 0) : low (p.1 * f) (p.2 * f) = p :=
  low_of (Int.mul_ne_zero (by have := h.pos; omega) hf) h (by rw [Int.mul_right_comm, Int.mul_assoc])
theorem low_abs {t b : Int} : (low t b).1.natAbs ≤ t.natAbs ∧ (low t b).2.natAbs ≤ b.natAbs := ⟨Int.natAbs_fdiv_le_natAbs _ _, Int.natAbs_fdiv_le_natAbs _ _⟩
end K03
end
section
set_option maxHeartbeats 4000000
namespace K03
open PySem PySem.Spec PyProof.Rows L2
/-- the pen: the cells' list at c, the stop s, the rest r -/
def pen (c : Addr) (s r : Int) : List (Key × V) := [(.inr "cells", .ref c), (.inr "begun", .int s), (.inr "left", .int r)]
theorem n1 : ¬ (("cells" : Str) = "begun") := by decide +kernel
theorem n2 : ¬ (("cells" : Str) = "left") := by decide +kernel
theorem n3 : ¬ (("begun" : Str) = "left") := by decide +kernel
theorem n4 : ¬ (("left" : Str) = "begun") := by decide +kernel
theorem pen_cells (c : Addr) (s r : Int) : valV (pen c s r) (.inr "cells") = some (.ref c) := valV_pos rfl
theorem pen_stop (c : Addr) (s r : Int) : valV (pen c s r) (.inr "begun") = some (.int s) := (valV_neg fun z => n1 (Sum.inr.inj z)).trans (valV_pos rfl)
theorem pen_rest (c : Addr) (s r : Int) : valV (pen c s r) (.inr "left") = some (.int r) := (valV_neg fun z => n2 (Sum.inr.inj z)).trans ((valV_neg fun z => n3 (Sum.inr.inj z)).trans (valV_pos rfl))
theorem put_stop (c : Addr) (s r z : Int) : putK (pen c s r) (.inr "begun") (.int z) = pen c z r := by
  simp [putK, pen, n1, n4]
theorem put_rest (c : Addr) (s r z : Int) : putK (pen c s r) (.inr "left") (.int z) = pen c s z := by
  simp [putK, pen, n2, n3]
theorem merge_pen (c : Addr) (s r : Int) : mergeK [] (pen c s r) = pen c s r := by
  simp [mergeK, putK, pen, n1, n2, n3]
structure PenAt (H : Hp) (d c : Addr) (s r : Int) (cells : List Int) : Prop where
  dc : H d = some (.dK (pen c s r))
  ls : H c = some (.lst (cells.map V.int))
theorem PenAt.ne {H : Hp} {d c : Addr} {s r : Int} {cells : List Int} (p : PenAt H d c s r cells) : c ≠ d := ne_of p.ls p.dc (by intro z; cases z)
theorem PenAt.set {H : Hp} {d c : Addr} {s r : Int} {cells : List Int} (p : PenAt H d c s r cells) (s' r' : Int) : PenAt (upd H d (.dK (pen c s' r'))) d c s' r' cells := ⟨upd_same, by rw [upd_ne p.ne]; exact p.ls⟩
/-- all that was tracked but at d is as it was -/
def SameBut (d : Addr) (H H' : Hp) : Prop := ∀ b o, H b = some o → b ≠ d → H' b = some o
theorem SameBut.put {d : Addr} {H H' : Hp} {o : HO} (h : SameBut d H H') : SameBut d H (upd H' d o) := fun b u e n => by rw [upd_ne n]; exact h b u e n
theorem SameBut.new {d p : Addr} {H H' : Hp} {o : HO} (h : SameBut d H H') (hp : H' p = none) : SameBut d H (upd H' p o) := fun b u e n => by
  rw [upd_ne (ne_of_none (h b u e n) hp)]
  exact h b u e n
theorem SameBut.refl {d : Addr} {H : Hp} : SameBut d H H := fun _ _ e _ => e
theorem PenAt.new {H : Hp} {d c q : Addr} {s r : Int} {cells : List Int} {o : HO} (p : PenAt H d c s r cells) (hq : H q = none) : PenAt (upd H q o) d c s r cells :=
  ⟨by rw [upd_ne (ne_of_none p.dc hq)]; exact p.dc, by rw [upd_ne (ne_of_none p.ls hq)]; exact p.ls⟩
def spPen (K : PySem.W.Frag) : Sp := fun vs H Q _ => ∃ (a : Addr) (ns : List Int), vs = [.ref a] ∧ SqL K H a (ns.map V.int) ∧ ns.length ≤ 63 ∧
  ∀ (d c : Addr) (H' : Hp), H d = none → H c = none → Same H H' → PenAt H' d c 0 0 ns → Q (.ref d) H'
def spDraw : Sp := fun vs H Q _ => ∃ (d c : Addr) (s r many : Int) (cells : List Int), vs = [.ref d, .int many] ∧ PenAt H d c s r cells ∧ 0 ≤ s ∧ s ≤ 100000 ∧ cells.length ≤ 63 ∧ 0 < many ∧ many < 2 ^ 30 ∧
  ∀ (n s' r' : Int) (H' : Hp), 0 ≤ n → n < many → 0 ≤ s' → s' ≤ s + 1 → PenAt H' d c s' r' cells → SameBut d H H' → Q (.int n) H'
theorem dp_ints {K : PySem.W.Frag} {H : Hp} : ∀ ns : List Int, DpAll K H (ns.map V.int) (ns.map PyData.int)
  | [] => .nil
  | n :: r => .cons (.int n) (dp_ints r)
theorem at_mod {cells : List Int} (h : 0 < cells.length) (s : Int) : ∃ x, atI (cells.map V.int) (s % ((cells.map V.int).length : Int)) = some (.int x) := by
  have a1 := Int.emod_nonneg s (show ((cells.map V.int).length : Int) ≠ 0 by rw [List.length_map]; omega)
  have a2 := Int.emod_lt_of_pos s (show (0 : Int) < ((cells.map V.int).length : Int) by rw [List.length_map]; omega)
  rw [List.length_map] at a1 a2
  rw [List.length_map, show s % (cells.length : Int) = (((s % (cells.length : Int)).toNat : Nat) : Int) by omega]
  have a3 : (s % (cells.length : Int)).toNat < cells.length := by omega
  exact ⟨cells[(s % (cells.length : Int)).toNat], atI_nat (by rw [List.getElem?_map, List.getElem?_eq_getElem a3]; rfl)⟩
theorem modb (a : Int) {m : Int} (h : 0 < m) (h2 : m < 2 ^ 64) : -(2 ^ 64) < a % m ∧ a % m < 2 ^ 64 := by
  have x := Int.emod_nonneg a (show m ≠ 0 by omega)
  have y := Int.emod_lt_of_pos a h
  omega
def spPick : Sp := fun vs H Q _ => ∃ (d c l : Addr) (s r : Int) (cells : List Int) (xs : List V), vs = [.ref d, .ref l] ∧ PenAt H d c s r cells ∧ 0 ≤ s ∧ s ≤ 100000 ∧ cells.length ≤ 63 ∧ H l = some (.lst xs) ∧ 0 < xs.length ∧ xs.length ≤ 1000 ∧
  ∀ (v : V) (s' r' : Int) (H' : Hp), v ∈ xs → 0 ≤ s' → s' ≤ s + 1 → PenAt H' d c s' r' cells → SameBut d H H' → Q v H'
/-- a pair of integers at t -/
def Pair (H : Hp) (t : Addr) (p : Int × Int) : Prop := H t = some (.tup [.int p.1, .int p.2])
/-- a new pair -/
def NewP (H : Hp) (Q : VK) (p : Int × Int) : Prop := ∀ (t : Addr) (H' : Hp), H t = none → Same H H' → Pair H' t p → Q (.ref t) H'
theorem NewP.at {H : Hp} {Q : VK} {p : Int × Int} (h : NewP H Q p) (t : Addr) (ht : H t = none) : Q (.ref t) (upd H t (.tup [.int p.1, .int p.2])) := h t _ ht (Same.new (fun _ _ e => e) ht) upd_same
def spWide : Sp := fun vs H Q _ => ∃ (d c : Addr) (s r : Int) (m : Nat) (cells : List Int), vs = [.ref d, .int m] ∧ PenAt H d c s r cells ∧ 0 ≤ s ∧ s + m ≤ 100000 ∧ cells.length ≤ 63 ∧ m ≤ 100 ∧
  ∀ (n s' r' : Int) (H' : Hp), 0 ≤ n → n < 10 ^ (7 * m) → 0 ≤ s' → s' ≤ s + m → PenAt H' d c s' r' cells → SameBut d H H' → Q (.int n) H'
def spGcd : Sp := fun vs H Q _ => ∃ a b : Int, vs = [.int a, .int b] ∧ Q (.int ((Nat.gcd a.natAbs b.natAbs : Nat) : Int)) H
def spLowest : Sp := fun vs H Q _ => ∃ a b : Int, vs = [.int a, .int b] ∧ b ≠ 0 ∧ Sz b ∧ NewP H Q (low a b)
def spMinus : Sp := fun vs H Q _ => ∃ (t : Addr) (p : Int × Int), vs = [.ref t] ∧ Pair H t p ∧ NewP H Q (-p.1, p.2)
def spTurn : Sp := fun vs H Q _ => ∃ (t : Addr) (p : Int × Int), vs = [.ref t] ∧ Pair H t p ∧ p.1 ≠ 0 ∧ Sz p.1 ∧ NewP H Q (low p.2 p.1)
def gcdM (σ : L2.St) (_ : Hp) : Nat := match (σ[1]? : Option (Option V)) with
  | some (some (V.int l)) => l.toNat
  | _ => 0
theorem euclid {m n : Nat} : Nat.gcd n (m % n) = Nat.gcd m n := by
  rw [Nat.gcd_comm n (m % n), ← Nat.gcd_rec, Nat.gcd_comm]

theorem abs_cast (e : Int) : (if e < 0 then -e else e) = ((e.natAbs : Nat) : Int) := by split <;> omega
end K03
end
section
set_option maxHeartbeats 4000000
set_option exponentiation.threshold 100000
namespace K03
open PySem PySem.Spec PyProof.Rows L2
abbrev sPowd : Stmt := top 12
abbrev sPower : Stmt := inClass (top 15) 11
/-- b to the power of n: b below 2 ^ k, k * n not above 9000 -/
def spPowd : Sp := fun vs H Q _ => ∃ (b : Int) (n k : Nat), vs = [.int b, .int n, .int 1] ∧ b.natAbs < 2 ^ k ∧ 0 < k ∧ k * n ≤ 9000 ∧ Q (.int (b ^ n)) H
theorem pow_lt {b : Int} {k : Nat} (h : b.natAbs < 2 ^ k) : ∀ r : Nat, (b ^ r).natAbs < 2 ^ (k * r + 1)
  | 0 => by simp
  | r + 1 => by
    rw [Int.pow_succ, Int.natAbs_mul, Nat.mul_succ, show k * r + k + 1 = (k * r + 1) + k from by omega, Nat.pow_add]
    exact Nat.mul_lt_mul'' (pow_lt h r) h
theorem and_one {l : Nat} : Builtin.bitAnd (l : Int) 1 = ((l % 2 : Nat) : Int) := by
  have h := Bits.bitAnd_mask (x := (l : Int)) 1 (by omega)
  simpa using h
def PowI (b : Int) (n : Nat) (H0 : Hp) (σ : L2.St) (H : Hp) : Prop := H = H0 ∧ ∃ (B R : Int) (r i l : Nat), σ = [some (.int B), some (.int n), some (.int 1), some (.int R), some (.int l)] ∧ R = b ^ r ∧ (l ≠ 0 → B = b ^ (2 ^ i)) ∧ r + l * 2 ^ i = n
def powM (σ : L2.St) (_ : Hp) : Nat := match (σ[4]? : Option (Option V)) with
  | some (some (V.int l)) => l.toNat
  | _ => 0
theorem pow_arith {r l i n : Nat} (h : r + l * 2 ^ i = n) : r + (l % 2) * 2 ^ i + (l / 2) * 2 ^ (i + 1) = n := by
  have e := Nat.div_add_mod l 2
  have : l * 2 ^ i = (2 * (l / 2) + l % 2) * 2 ^ i := by rw [e]
  rw [← h, this, Nat.pow_succ, Nat.add_mul]
  have : l / 2 * (2 ^ i * 2) = 2 * (l / 2) * 2 ^ i := by
    rw [Nat.mul_comm (2 ^ i) 2, ← Nat.mul_assoc, Nat.mul_comm (l / 2) 2]
  omega
section
variable {P : Program} {w : World} {K : PySem.W.Frag} {mg : Str → Option Value} {base : Heap} {cB cN C fI fo fa fb : Addr} {fdo fda fdb : FuncData}
theorem scPowd : FnScope ["base", "exponent", "one", "result", "left"] ["base", "exponent", "one"] (defScope sPowd) := ⟨rfl, rfl, rfl, by decide +kernel, rfl, by decide +kernel, by decide +kernel⟩
theorem ok_powd {f : Addr} {fd : FuncData} (F : Fun K "powered" "powered" sPowd f fd) : FnOk P w K mg base CX0 1 f fd ["base", "exponent", "one"] spPowd := by
  refine F.ok scPowd (fun vs H Q E h => ?_) (fun cdv A outer s H vs Q E hr h => ?_)
  · obtain ⟨b, n, k, rfl, _⟩ := h
    rfl
  · obtain ⟨b, n, k, rfl, hb, hk, hn, q⟩ := h
    have nd := scPowd.nd
    refine ⟨_, pss_cons (ps_set (i := 3) nd rfl (Or.inl rfl) (pv 2)) (pss_cons (ps_set (i := 4) nd rfl (Or.inl rfl) (pv 1))
      (pss_cons (ps_while PassesOwn.never (pt_truth (pv 4) (by intro _; rfl))
        (pss_cons (ps_if (pt_truth (pe_op op_and (pv 4) pe_int) (by intro _; rfl)) (pss_one (ps_set (i := 3) nd rfl (Or.inl rfl) (pe_op op_mulW (pv 3) (pv 0)))) pss_nil)
        (pss_cons (ps_set (i := 4) nd rfl (Or.inl rfl) (pe_op op_fdiv (pv 4) pe_int))
        (pss_one (ps_if (pt_truth (pv 4) (by intro _; rfl)) (pss_one (ps_set (i := 0) nd rfl (Or.inl rfl) (pe_op op_mulW (pv 0) (pv 0)))) pss_nil)))))
      (pss_one (ps_ret (pv 3))))), ?_⟩
    refine ⟨_, rfl, _, rfl, ?_⟩
    dsimp only [gName, tSeq]
    refine while_by (PowI b n H) powM ?_ ?_ (fun σ H Q Q' m h => by
      obtain ⟨v, h1, k, h2, q⟩ := h
      exact ⟨v, h1, k, h2, m _ _ q⟩)
    · exact ⟨rfl, b, 1, 0, 0, n, by rfl, by simp, fun _ => by show b = b ^ 1; rw [Int.pow_succ, Int.pow_zero, Int.one_mul], by simp⟩
    rintro σ H' ⟨rfl, B, R, r, i, l, rfl, rfl, hB, e⟩
    refine ⟨_, rfl, _, rfl, ?_⟩
    by_cases h0 : l = 0
    · subst h0
      have er : r = n := by omega
      subst er
      exact ⟨_, rfl, q⟩
    · have eb : ((l : Int) != 0) = true := by simpa using h0
      show ite _ _ _
      rw [if_pos eb]
      obtain rfl := hB h0
      have hp : 0 < 2 ^ i := Nat.two_pow_pos i
      have hl : 2 ^ i ≤ l * 2 ^ i := Nat.le_mul_of_pos_left _ (by omega)
      have kn : k * r + k * 2 ^ i ≤ 9000 := by
        rw [← Nat.mul_add]
        exact Nat.le_trans (Nat.mul_le_mul_left k (by omega)) hn
      have bd : ∀ m, k * m ≤ 9000 → (b ^ m).natAbs < 2 ^ (k * m + 1) := fun m _ => pow_lt hb m
      have m1 : CMulW (b ^ r) (b ^ 2 ^ i) := wide_mul (pow_lt hb r) (pow_lt hb (2 ^ i)) (by omega) (by omega) (by omega)
      have half : (l : Int) / 2 = ((l / 2 : Nat) : Int) := by omega
      refine ⟨_, rfl, _, _, rfl, rfl, (((l % 2 : Nat) : Int) != 0), (by show TruV _ (.int (Builtin.bitAnd (l : Int) 1)) _ _; rw [and_one]; rfl), ?_⟩
      have ar := pow_arith e
      by_cases hod : l % 2 = 0
      · have e1 : ((((l % 2 : Nat) : Int)) != 0) = false := by simp [hod]
        show ite _ _ _
        rw [if_neg (by rw [e1]; decide)]
        refine ⟨_, rfl, _, _, rfl, rfl, ⟨by decide, by decide⟩, _, rfl, _, rfl, ?_⟩
        by_cases h2 : l / 2 = 0
        · have e2 : (((l : Int) / 2) != 0) = false := by rw [half]; simp [h2]
          show ite _ _ _
          rw [if_neg (by rw [e2]; decide)]
          exact ⟨⟨rfl, _, _, r, i + 1, l / 2, by rw [← half]; rfl, rfl, fun z => absurd h2 z, by rw [hod] at ar; omega⟩, by show ((l : Int) / 2).toNat < (l : Int).toNat; omega⟩
        · have e2 : (((l : Int) / 2) != 0) = true := by rw [half]; exact bne_iff_ne.mpr (by omega)
          show ite _ _ _
          rw [if_pos e2]
          have h2l : 2 * 2 ^ i ≤ l * 2 ^ i := Nat.mul_le_mul_right _ (by omega)
          have kn2 : k * 2 ^ i + k * 2 ^ i ≤ 9000 := by
            rw [← Nat.mul_add]
            exact Nat.le_trans (Nat.mul_le_mul_left k (by omega)) hn
          refine ⟨_, rfl, _, rfl, _, _, rfl, rfl, wide_mul (pow_lt hb (2 ^ i)) (pow_lt hb (2 ^ i)) (by omega) (by omega) (by omega), ?_⟩
          exact ⟨⟨rfl, _, _, r, i + 1, l / 2, by rw [← half]; rfl, rfl, fun _ => by rw [← Int.pow_add]; congr 1; rw [Nat.pow_succ]; omega, by rw [hod] at ar; omega⟩, by show ((l : Int) / 2).toNat < (l : Int).toNat; omega⟩
      · have e1 : ((((l % 2 : Nat) : Int)) != 0) = true := bne_iff_ne.mpr (by omega)
        have h1 : l % 2 = 1 := by omega
        show ite _ _ _
        rw [if_pos e1]
        refine ⟨_, rfl, _, rfl, _, _, rfl, rfl, m1, ?_⟩
        refine ⟨_, rfl, _, _, rfl, rfl, ⟨by decide, by decide⟩, _, rfl, _, rfl, ?_⟩
        by_cases h2 : l / 2 = 0
        · have e2 : (((l : Int) / 2) != 0) = false := by rw [half]; simp [h2]
          show ite _ _ _
          rw [if_neg (by rw [e2]; decide)]
          exact ⟨⟨rfl, _, _, (r + 2 ^ i), i + 1, l / 2, by rw [← half]; rfl, (by rw [← Int.pow_add]), fun z => absurd h2 z, by rw [h1, Nat.one_mul] at ar; exact ar⟩, by show ((l : Int) / 2).toNat < (l : Int).toNat; omega⟩
        · have e2 : (((l : Int) / 2) != 0) = true := by rw [half]; exact bne_iff_ne.mpr (by omega)
          show ite _ _ _
          rw [if_pos e2]
          have h2l : 2 * 2 ^ i ≤ l * 2 ^ i := Nat.mul_le_mul_right _ (by omega)
          have kn2 : k * 2 ^ i + k * 2 ^ i ≤ 9000 := by
            rw [← Nat.mul_add]
            exact Nat.le_trans (Nat.mul_le_mul_left k (by omega)) hn
          refine ⟨_, rfl, _, rfl, _, _, rfl, rfl, wide_mul (pow_lt hb (2 ^ i)) (pow_lt hb (2 ^ i)) (by omega) (by omega) (by omega), ?_⟩
          exact ⟨⟨rfl, _, _, (r + 2 ^ i), i + 1, l / 2, by rw [← half]; rfl, (by rw [← Int.pow_add]), fun _ => by rw [← Int.pow_add]; congr 1; rw [Nat.pow_succ]; omega, by rw [h1, Nat.one_mul] at ar; exact ar⟩, by show ((l : Int) / 2).toNat < (l : Int).toNat; omega⟩
/-- p to the power of e (not below 0) -/
def ppow (p : Int × Int) (n : Nat) : Int × Int := low (p.1 ^ n) (p.2 ^ n)
/-- power: the exponent is no integer, or it is one and small enough -/
def spPower (K : PySem.W.Frag) (C cB cN : Addr) : Sp := fun vs H Q E => ∃ (a dx : Addr) (v : V) (p : Int × Int), vs = [.ref a, v] ∧ H a = some (rat C dx p) ∧ Fit p ∧
  ((NoInt K H v ∧ Bad cB v H E) ∨ ∃ (e : Int) (k : Nat), v = .int e ∧ 0 < k ∧ k * e.natAbs ≤ 8999 ∧ p.1.natAbs < 2 ^ k ∧ p.2.natAbs < 2 ^ k ∧
    ((0 ≤ e ∧ NewR C H Q (ppow p e.natAbs)) ∨ (e < 0 ∧ p.1 ≠ 0 ∧ NewR C H Q (ppow (low p.2 p.1) e.natAbs)) ∨ (e < 0 ∧ p.1 = 0 ∧ NoDiv cN H E)))
theorem scPower : FnScope ["self", "exponent", "base", "many"] ["self", "exponent"] (defScope sPower) := ⟨rfl, rfl, rfl, by decide +kernel, rfl, by decide +kernel, by decide +kernel⟩
theorem lkI {u v : V} : ([("top", u), ("bottom", v)] : List (Str × V)).lookup ("inverse" : Str) = none := by
  have e : (("inverse" : Str) == "top") = false := by decide +kernel
  have e2 : (("inverse" : Str) == "bottom") = false := by decide +kernel
  simp [List.lookup, e, e2]
theorem pow_sz {b : Int} {k n : Nat} (h : b.natAbs < 2 ^ k) (hn : k * n ≤ 8999) : Sz (b ^ n) := Nat.lt_of_lt_of_le (pow_lt h n) (Nat.pow_le_pow_right (by decide) (by omega))
theorem ok_power {f fn fp' fv : Addr} {fd fdn fdp fdv : FuncData} (F : Fun K "power" "Ratio.power" sPower f fd) (R : Rat P w K mg base cB cN C fI) (B : TxtR mg) (G : FnOk P w K mg base (L2.CX P w) 3 fn fdn ["value"] (spNeed K cB)) (gn : mg "need_integer" = some (.ref fn)) (kp : PySem.W.keepIn K (.ref fn) = true) (bn : Binds K fdn ["value"] [])
    (Gp : FnOk P w K mg base CX0 1 fp' fdp ["base", "exponent", "one"] spPowd) (gp : mg "powered" = some (.ref fp')) (kpp : PySem.W.keepIn K (.ref fp') = true) (bp : Binds K fdp ["base", "exponent", "one"] []) (M : Meth K C "inverse" fv) (Gv : FnOk P w K mg base (L2.CX P w) 6 fv fdv ["self"] (spInv C cN)) (bv : Binds K fdv ["self"] []) :
    FnOk P w K mg base (L2.CX P w) 7 f fd ["self", "exponent"] (spPower K C cB cN) := by
  refine F.okX scPower (fun vs H Q E h => ?_) (fun cdv A outer s H vs Q E hr h => ?_)
  · obtain ⟨a, dx, v, p, rfl, _⟩ := h
    rfl
  · obtain ⟨a, dx, v, p, rfl, ha, fp, k⟩ := h
    have nd := scPower.nd
    have hr3 : Room 3 _ := hr.mono (by decide)
    have hr1 : Room 1 _ := hr.mono (by decide)
    have hr5 : Room 5 _ := hr.mono (by decide)
    refine ⟨_, pss_cons (ps_expr (pe_callS G hr3 (by rfl) gn kp bn (fun σ => passAt (takes_of rfl rfl rfl rfl) σ) (pa_cons (pv 1) pa_nil)))
      (pss_cons (ps_set (i := 2) nd rfl (Or.inl rfl) (pe_ifExp (pt_cmpR op_lt (pv 1) pe_int (nomark _)) (pe_meth0 (E := E) (pv 0) R.cls.c M Gv hr bv .nil (passK (takes_of rfl rfl rfl rfl))) (pv 0)))
      (pss_cons (ps_set (i := 3) nd rfl (Or.inl rfl) (pe_callB call_abs (by rfl) B.abs (by decide +kernel) (pa_cons (pv 1) pa_nil)))
      (pss_one (ps_ret (pe_rat2 (E := E) R hr5 (passK (takes_of rfl rfl rfl rfl))
        (pe_call Gp hr1 (by rfl) gp kpp bp .nil pass0 (pa_cons (pe_fld (pv 2) rfl) (pa_cons (pv 3) (pa_cons pe_int pa_nil))))
        (pe_call Gp hr1 (by rfl) gp kpp bp .nil pass0 (pa_cons (pe_fld (pv 2) rfl) (pa_cons (pv 3) (pa_cons pe_int pa_nil))))))))), ?_⟩
    rcases k with ⟨n, q⟩ | ⟨e, k, rfl, hk, hke, h1, h2, q⟩
    · exact ⟨_, rfl, _, rfl, .inr ⟨n, q⟩⟩
    · refine ⟨_, rfl, _, rfl, .inl ⟨⟨e, rfl⟩, _, rfl, _, _, rfl, rfl, _, rfl, ?_⟩⟩
      have fin : ∀ (b db : Addr) (r : Int × Int) (H1 : Hp) (Q2 : VK), H1 b = some (rat C db r) → r.1.natAbs < 2 ^ k → r.2.natAbs < 2 ^ k → 0 < r.2 → NewR C H1 Q2 (ppow r e.natAbs) → True := fun _ _ _ _ _ _ _ _ _ _ => trivial
      rcases q with ⟨he, q⟩ | ⟨he, hz, q⟩ | ⟨he, hz, q⟩
      · show ite _ _ _
        rw [if_neg (by simpa using he)]
        refine ⟨_, rfl, _, rfl, _, rfl, ?_⟩
        rw [abs_cast]
        refine ⟨_, rfl, a, C, dx, _, _, rfl, ha, R.cls.c, R.cls.nT, lkT, _, rfl, p.1, e.natAbs, k, rfl, h1, hk, by omega, ?_⟩
        refine ⟨_, rfl, a, C, dx, _, _, rfl, ha, R.cls.c, R.cls.nB, lkBt, _, rfl, p.2, e.natAbs, k, rfl, h2, hk, by omega, ?_⟩
        exact .good _ _ rfl rfl (Int.ne_of_gt (Int.pow_pos fp.pos)) (pow_sz h2 hke) q
      · show ite _ _ _
        rw [if_pos (by simpa using he)]
        refine ⟨_, rfl, a, dx, _, rfl, ha, lkI, a, dx, p, rfl, ha, fp, fun _ => ?_, fun z => absurd z hz⟩
        intro b db H1 hb s1 eb
        have b1 := low_abs (t := p.2) (b := p.1)
        refine ⟨_, rfl, _, rfl, ?_⟩
        rw [abs_cast]
        refine ⟨_, rfl, b, C, db, _, _, rfl, eb, R.cls.c, R.cls.nT, lkT, _, rfl, _, e.natAbs, k, rfl, Nat.lt_of_le_of_lt b1.1 h2, hk, by omega, ?_⟩
        refine ⟨_, rfl, b, C, db, _, _, rfl, eb, R.cls.c, R.cls.nB, lkBt, _, rfl, _, e.natAbs, k, rfl, Nat.lt_of_le_of_lt b1.2 h1, hk, by omega, ?_⟩
        exact .good _ _ rfl rfl (Int.ne_of_gt (Int.pow_pos (low_pos hz))) (pow_sz (Nat.lt_of_le_of_lt b1.2 h1) hke) (q.same s1)
      · show ite _ _ _
        rw [if_pos (by simpa using he)]
        exact ⟨_, rfl, a, dx, _, rfl, ha, lkI, a, dx, p, rfl, ha, fp, fun z => absurd hz z, fun _ => q⟩
end
end K03
end
section
set_option maxHeartbeats 4000000
namespace L2
open PySem PySem.Spec PyProof.Rows TL
/-- the last k signs of a number, noughts ahead -/
def padk : Nat → Nat → List Nat
  | 0, _ => []
  | k + 1, r => padk k (r / 10) ++ [48 + r % 10]
theorem numL_cut : ∀ (k n : Nat), 10 ^ k ≤ n → numL n = numL (n / 10 ^ k) ++ padk k (n % 10 ^ k)
  | 0, n, _ => by simp [padk]
  | k + 1, n, h => by
    have h10 : 10 ≤ n := Nat.le_trans (by rw [Nat.pow_succ]; exact Nat.le_mul_of_pos_left _ (Nat.pow_pos (by decide))) h
    have e : 10 ^ (k + 1) = 10 * 10 ^ k := by rw [Nat.pow_succ, Nat.mul_comm]
    have hk : 10 ^ k ≤ n / 10 := by
      rw [e] at h
      exact (Nat.le_div_iff_mul_le (by decide)).mpr (by rw [Nat.mul_comm]; exact h)
    rw [numL_step h10, numL_cut k (n / 10) hk, e, Nat.div_div_eq_div_mul, List.append_assoc]
    show _ = _ ++ (padk k (n % (10 * 10 ^ k) / 10) ++ [48 + n % (10 * 10 ^ k) % 10])
    rw [Nat.mod_mul_right_div_self, Nat.mod_mul_right_mod]
theorem padk_zero : ∀ k, padk k 0 = List.replicate k 48
  | 0 => rfl
  | k + 1 => by
    show padk k (0 / 10) ++ [48 + 0 % 10] = _
    rw [Nat.zero_div, padk_zero k, List.replicate_succ']
theorem padk_eq : ∀ (k r : Nat), r < 10 ^ (k + 1) → padk (k + 1) r = List.replicate (k + 1 - (numL r).length) 48 ++ numL r
  | 0, r, h => by
    have h' : r < 10 := by simpa using h
    rw [numL_lt h']
    show [] ++ [48 + r % 10] = List.replicate (0 + 1 - 1) 48 ++ [48 + r]
    rw [Nat.mod_eq_of_lt h']
    rfl
  | k + 1, r, h => by
    by_cases h' : r < 10
    · rw [numL_lt h']
      show padk (k + 1) (r / 10) ++ [48 + r % 10] = _
      rw [Nat.mod_eq_of_lt h', Nat.div_eq_of_lt h', padk_zero]
      rfl
    · have h2 : r / 10 < 10 ^ (k + 1) := (Nat.div_lt_iff_lt_mul (by decide)).mpr (by rw [← Nat.pow_succ]; exact h)
      show padk (k + 1) (r / 10) ++ [48 + r % 10] = _
      rw [padk_eq k _ h2, numL_step (n := r) (by omega), List.length_append, List.append_assoc]
      rw [show k + 1 + 1 - ((numL (r / 10)).length + [48 + r % 10].length) = k + 1 - (numL (r / 10)).length from by simp only [List.length_cons, List.length_nil]; omega]
theorem padk_len : ∀ k r, (padk k r).length = k
  | 0, _ => rfl
  | k + 1, r => by
    show (padk k (r / 10) ++ [48 + r % 10]).length = _
    rw [List.length_append, padk_len k]
    rfl
/-- str(r).zfill(k) -/
theorem zfill_num {k r : Nat} (h : r < 10 ^ (k + 1)) : tl (Txt.zfill (Str.ofString (toString ((r : Nat) : Int))) ((k + 1 : Nat) : Int)) = padk (k + 1) r := by
  have hl : (Str.ofString (toString ((r : Nat) : Int))).length = (numL r).length := by rw [len_tl, tl_num]
  have hle : (numL r).length ≤ k + 1 := numL_len (by omega) h
  rw [padk_eq k r h]
  unfold Txt.zfill
  split
  · rename_i q
    rw [tl_num, show k + 1 - (numL r).length = 0 from by omega]
    rfl
  · rename_i q
    rw [hl, Int.toNat_natCast]
    unfold zfilled
    have hd : ∀ c ∈ numL r, 48 ≤ c ∧ c ≤ 57 := numL_digits r
    have e0 : (Str.ofString (toString ((r : Nat) : Int))).cps.toList = numL r := tl_num r
    split
    · rename_i e
      have : (43 : Nat) ∈ numL r := by
        rw [← e0]
        exact Array.mem_toList_iff.mpr (Array.mem_of_getElem? e)
      have := hd _ this
      omega
    · rename_i e
      have : (45 : Nat) ∈ numL r := by
        rw [← e0]
        exact Array.mem_toList_iff.mpr (Array.mem_of_getElem? e)
      have := hd _ this
      omega
    · show (Array.replicate _ 48 ++ (Str.ofString (toString ((r : Nat) : Int))).cps ++ Array.replicate 0 48).toList = _
      rw [Array.toList_append, Array.toList_append, e0, Array.toList_replicate, Array.toList_replicate, List.replicate_zero, List.append_nil]
theorem joinL_nil : ∀ ps : List (List Nat), joinL [] ps = ps.flatten
  | [] => rfl
  | [p] => by simp [joinL]
  | p :: q :: r => by
    show p ++ ([] ++ joinL [] (q :: r)) = _
    rw [joinL_nil (q :: r)]
    simp
theorem tl_neg {n : Int} (h : n < 0) : tl (Str.ofString (toString n)) = 45 :: numL n.natAbs := by
  rw [toString_neg h, show (0 : Int) - n = ((n.natAbs : Nat) : Int) from by omega, ← tl_num]
  show (Str.ofString _).cps.toList = _
  rw [signs_ofString, show tl (Str.ofString (toString ((n.natAbs : Nat) : Int))) = (Str.ofString (toString ((n.natAbs : Nat) : Int))).cps.toList from rfl, signs_ofString]
  simp
end L2
end
section
set_option maxHeartbeats 4000000
set_option exponentiation.threshold 100000
namespace K03
open PySem PySem.Spec PyProof.Rows L2 TL
abbrev sText : Stmt := top 18
abbrev sStr : Stmt := inClass (top 15) 9
abbrev numT (i : Int) : Str := Str.ofString (toString i)
def spText : Sp := fun vs H Q _ => ∃ n : Int, vs = [.int n] ∧ n.natAbs < 10 ^ 1260 ∧ ∀ H', Same H H' → Q (.str (numT n)) H'
/-- the loop: what is left, and the groups behind it -/
def TextI (n : Int) (H0 : Hp) (l : Addr) (σ : L2.St) (H : Hp) : Prop := ∃ (m j : Nat) (gs : List Str), σ = [some (.int n), some (.int m), some (.ref l), none] ∧ Same H0 H ∧ H l = some (.lst (gs.map V.str)) ∧ H0 l = none ∧
  numL n.natAbs = numL m ++ (gs.reverse.map tl).flatten ∧ m < 10 ^ (60 * j) ∧ j + gs.length = 21 ∧ 1 ≤ j ∧ ∀ g ∈ gs, g.length = 60
def textM (σ : L2.St) (_ : Hp) : Nat := match (σ[1]? : Option (Option V)) with
  | some (some (V.int l)) => l.toNat
  | _ => 0
theorem tenI : (10 : Int) ^ 60 = ((10 ^ 60 : Nat) : Int) := by decide
theorem log2_small {n k : Nat} (h : n < 2 ^ k) (hk : 0 < k) : n.log2 < k := by
  by_cases h0 : n = 0
  · subst h0; simpa using hk
  · exact (Nat.log2_lt h0).mpr h
theorem sum60 : ∀ gs : List Str, (∀ g ∈ gs, g.length = 60) → (gs.map (·.length)).sum = 60 * gs.length
  | [], _ => rfl
  | g :: r, h => by
    rw [List.map_cons, List.sum_cons, h g (List.mem_cons_self ..), sum60 r fun x hx => h x (List.mem_cons_of_mem _ hx), List.length_cons]
    omega
section
variable {P : Program} {w : World} {K : PySem.W.Frag} {mg : Str → Option Value} {base : Heap} {cB cN C fI fo fa fb : Addr} {fdo fda fdb : FuncData} {tG : Tok}
theorem scText : FnScope ["number", "rest", "groups", "sign"] ["number"] (defScope sText) := ⟨rfl, rfl, rfl, by decide +kernel, rfl, by decide +kernel, by decide +kernel⟩
theorem ok_text {f : Addr} {fd : FuncData} (F : Fun K "whole_text" "whole_text" sText f fd) (B : TxtR mg) (gG : mg "GROUP" = some (.int (10 ^ 60) tG)) : FnOk P w K mg base CX0 1 f fd ["number"] spText := by
  refine F.ok scText (fun vs H Q E h => ?_) (fun cdv A outer s H vs Q E hr h => ?_)
  · obtain ⟨n, rfl, _⟩ := h
    rfl
  · obtain ⟨n, rfl, hn, q⟩ := h
    have nd := scText.nd
    refine ⟨_, pss_cons (ps_set (i := 1) nd rfl (Or.inl rfl) (pe_callB call_abs (by rfl) B.abs (by decide +kernel) (pa_cons (pv 0) pa_nil)))
      (pss_cons (ps_set (i := 2) nd rfl (Or.inl rfl) (pe_lst pa_nil))
      (pss_cons (ps_while PassesOwn.never (pt_cmpR op_ge (pv 1) (pe_glob (v := .int (10 ^ 60)) (by rfl) gG ⟨_, rfl⟩) (nomark _))
        (pss_cons (ps_expr (pe_bm PySem.F.plainAttrs_list PySem.F.slot_list_append PySem.F.type_list_append mt_append (pv 2) (pa_cons
            (pe_bm PySem.F.plainAttrs_str PySem.F.slot_str_zfill PySem.F.type_str_zfill mt_zfill (pe_callTy call_str_int (by rfl) B.str (by decide +kernel) (pa_cons (pe_op op_mod (pv 1) (pe_glob (v := .int (10 ^ 60)) (by rfl) gG ⟨_, rfl⟩)) pa_nil)) (pa_cons pe_int pa_nil)) pa_nil)))
        (pss_one (ps_set (i := 1) nd rfl (Or.inl rfl) (pe_op op_fdivW (pv 1) (pe_glob (v := .int (10 ^ 60)) (by rfl) gG ⟨_, rfl⟩))))))
      (pss_cons (ps_expr (pe_bm PySem.F.plainAttrs_list PySem.F.slot_list_append PySem.F.type_list_append mt_append (pv 2) (pa_cons
            (pe_callTy call_str_int (by rfl) B.str (by decide +kernel) (pa_cons (pv 1) pa_nil)) pa_nil)))
      (pss_cons (ps_set (i := 3) nd rfl (Or.inl rfl) (pe_ifExp (pt_cmpR op_lt (pv 0) pe_int (nomark _)) pe_str pe_str))
      (pss_one (ps_ret (pe_op op_add_str (pv 3) (pe_join pe_str (pe_revL (pv 2)))))))))), ?_⟩
    refine ⟨_, rfl, _, rfl, ?_⟩
    rw [abs_cast]
    refine ⟨by show 0 ≤ sizeLine; decide, fun l hl => ?_⟩
    dsimp only [gName, tSeq]
    refine while_by (TextI n H l) textM ?_ ?_ (fun σ H Q Q' m h => by
      obtain ⟨v, h1, i, j, e1, e2, k, e3, q⟩ := h
      exact ⟨v, h1, i, j, e1, e2, k, e3, m _ _ q⟩)
    · exact ⟨n.natAbs, 21, [], rfl, Same.new (fun _ _ e => e) hl, upd_same, hl, by simp, hn, rfl, by decide, fun _ h => nomatch h⟩
    rintro σ H' ⟨m, j, gs, rfl, s1, el, hl0, en, hm, hj, hj1, hg⟩
    refine ⟨_, rfl, _, _, rfl, rfl, _, rfl, ?_⟩
    show ite _ _ _
    by_cases hb : (10 : Nat) ^ 60 ≤ m
    · have eb : decide ((m : Int) ≥ 10 ^ 60) = true := by
        rw [tenI]
        exact decide_eq_true (Int.ofNat_le.mpr hb)
      rw [if_pos eb]
      have er : (m : Int) % 10 ^ 60 = ((m % 10 ^ 60 : Nat) : Int) := by
        rw [tenI, Int.natCast_emod]
      have ed : (m : Int) / 10 ^ 60 = ((m / 10 ^ 60 : Nat) : Int) := by
        rw [tenI, Int.natCast_ediv]
      have hr60 : m % 10 ^ 60 < 10 ^ 60 := Nat.mod_lt _ (Nat.pow_pos (by decide))
      have j2 : 2 ≤ j := by
        refine Nat.not_lt.mp fun z => ?_
        have : j = 1 := by omega
        subst this
        exact absurd hm (Nat.not_lt.mpr (by simpa using hb))
      refine ⟨_, rfl, .inl ⟨rfl, _, SqL.of el⟩, _, rfl, _, _, rfl, rfl, (by show (0 : Int) < 10 ^ 60; decide), ?_⟩
      refine ⟨_, rfl, ?_, ?_⟩
      · show ((m : Int) % 10 ^ 60).natAbs.log2 < 1920
        rw [er]
        exact log2_small (Nat.lt_trans hr60 (by decide)) (by decide)
      · have ez : tl (Txt.zfill (Str.ofString (toString (((m % 10 ^ 60 : Nat)) : Int))) 60) = padk 60 (m % 10 ^ 60) := zfill_num (k := 59) hr60
        refine ⟨rfl, _, 60, rfl, rfl, by rfl, l, _, _, rfl, rfl, el, ?_, ?_⟩
        · rw [List.length_map]
          exact Nat.lt_of_lt_of_le (show gs.length < 22 by omega) (by decide)
        · refine ⟨_, rfl, _, _, rfl, rfl, ⟨by show (0 : Int) < 10 ^ 60; decide, by decide +kernel⟩, ?_⟩
          have hm2 : m / 10 ^ 60 < 10 ^ (60 * (j - 1)) := by
            refine (Nat.div_lt_iff_lt_mul (Nat.pow_pos (by decide))).mpr ?_
            rw [← Nat.pow_add, show 60 * (j - 1) + 60 = 60 * j from by omega]
            exact hm
          refine ⟨⟨m / 10 ^ 60, j - 1, gs ++ [Txt.zfill (Str.ofString (toString (((m % 10 ^ 60 : Nat)) : Int))) 60], ?_, fun b o e => ?_, ?_, hl0, ?_, hm2, ?_, by omega, ?_⟩, ?_⟩
          · rw [← ed]
            rfl
          · rw [upd_ne (ne_of_none e hl0)]
            exact s1 _ _ e
          · show upd H' l _ l = _
            rw [upd_same, List.map_append, ← er]
            rfl
          · rw [List.reverse_append, List.map_append, List.flatten_append, ← List.append_assoc, en, numL_cut 60 m hb]
            show _ = numL (m / 10 ^ 60) ++ ([tl (Txt.zfill (Str.ofString (toString (((m % 10 ^ 60 : Nat)) : Int))) 60)]).flatten ++ _
            rw [ez]
            simp
          · rw [List.length_append]
            show j - 1 + (gs.length + 1) = 21
            omega
          · intro g hgm
            rcases List.mem_append.mp hgm with h | h
            · exact hg g h
            · rw [List.mem_singleton.mp h, len_tl, ez, padk_len]
          · show ((m : Int) / 10 ^ 60).toNat < (m : Int).toNat
            rw [ed, Int.toNat_natCast, Int.toNat_natCast]
            exact Nat.div_lt_self (by have := Nat.pow_pos (n := 60) (show 0 < 10 by decide); omega) (by decide)
    · have eb : decide ((m : Int) ≥ 10 ^ 60) = false := by
        rw [tenI]
        exact decide_eq_false fun z => hb (Int.ofNat_le.mp z)
      rw [if_neg (by rw [eb]; decide)]
      have hm60 : m < 10 ^ 60 := Nat.not_le.mp hb
      have hlm : (numL m).length ≤ 60 := numL_len (by decide) hm60
      refine ⟨_, rfl, .inl ⟨rfl, _, SqL.of el⟩, _, rfl, _, rfl, ?_, ?_⟩
      · show ((m : Int)).natAbs.log2 < 1920
        rw [Int.natAbs_natCast]
        exact log2_small (Nat.lt_trans hm60 (by decide)) (by decide)
      refine ⟨l, _, _, rfl, rfl, el, ?_, ?_⟩
      · rw [List.length_map]
        exact Nat.lt_of_lt_of_le (show gs.length < 22 by omega) (by decide)
      have ep : tl (Txt.join Str.empty (gs ++ [numT (m : Int)]).reverse) = numL n.natAbs := by
        rw [join_eq, tl_join, show tl Str.empty = [] from rfl, joinL_nil, List.reverse_append, List.map_append, en, List.flatten_append]
        show ([tl (numT (m : Int))]).flatten ++ _ = _
        rw [show tl (numT (m : Int)) = numL m from tl_num m]
        simp
      have lenp : (Txt.join Str.empty (gs ++ [numT (m : Int)]).reverse).length ≤ 2000 := by
        rw [len_tl, ep]
        have := numL_len (n := n.natAbs) (k := 1260) (by decide) hn
        omega
      have sums : (((gs ++ [numT (m : Int)]).reverse).map (·.length)).sum ≤ 2000 := by
        rw [List.map_reverse, List.sum_reverse, List.map_append, List.sum_append, sum60 gs hg]
        show 60 * gs.length + ((numT (m : Int)).length + 0) ≤ 2000
        rw [len_tl, show tl (numT (m : Int)) = numL m from tl_num m]
        omega
      have fin : ∀ H2 : Hp, Same H H2 → Q (.str (numT n)) H2 := q
      have sm : Same H (upd H' l (.lst (gs.map V.str ++ [.str (numT (m : Int))]))) := fun b o e => by
        rw [upd_ne (ne_of_none e hl0)]
        exact s1 _ _ e
      refine ⟨_, rfl, _, _, rfl, rfl, _, rfl, ?_⟩
      refine ite2 (fun hneg => ?_) (fun hneg => ?_)
      · have hn0 : n < 0 := of_decide_eq_true hneg
        refine ⟨_, rfl, ⟨_, rfl⟩, _, rfl, l, _, rfl, SqL.of upd_same, fun p hp => ?_⟩
        refine ⟨_, p, (gs ++ [numT (m : Int)]).reverse, rfl, rfl, .inl (SqL.of (by rw [upd_same, List.map_reverse, List.map_append]; rfl)), ?_, ?_⟩
        · show _ + _ * (0 : Nat) ≤ _
          omega
        refine ⟨_, _, rfl, rfl, Nat.le_trans (Nat.add_le_add (show _ ≤ 1 from Nat.le_refl 1) lenp) (by decide), ?_⟩
        have et : (Str.ofString "-" ++ Txt.join Str.empty (gs ++ [numT (m : Int)]).reverse) = numT n := ext_tl (by rw [tl_append, ep, show tl (numT n) = _ from tl_neg hn0]; rfl)
        have := fin _ (sm.new (o := .lst (gs.map V.str ++ [V.str (numT (m : Int))]).reverse) hp)
        rw [← et] at this
        exact this
      · have hn0 : ¬ n < 0 := fun z => hneg (decide_eq_true z)
        refine ⟨_, rfl, ⟨_, rfl⟩, _, rfl, l, _, rfl, SqL.of upd_same, fun p hp => ?_⟩
        refine ⟨_, p, (gs ++ [numT (m : Int)]).reverse, rfl, rfl, .inl (SqL.of (by rw [upd_same, List.map_reverse, List.map_append]; rfl)), ?_, ?_⟩
        · show _ + _ * (0 : Nat) ≤ _
          omega
        refine ⟨_, _, rfl, rfl, Nat.le_trans (Nat.add_le_add (show _ ≤ 1 from Nat.zero_le 1) lenp) (by decide), ?_⟩
        have et : (Str.ofString "" ++ Txt.join Str.empty (gs ++ [numT (m : Int)]).reverse) = numT n := ext_tl (by
          have : tl (numT n) = numL n.natAbs := by
            have e0 : n = ((n.natAbs : Nat) : Int) := by omega
            rw [e0, Int.natAbs_natCast]
            exact tl_num _
          rw [tl_append, ep, this]
          rfl)
        have := fin _ (sm.new (o := .lst (gs.map V.str ++ [V.str (numT (m : Int))]).reverse) hp)
        rw [← et] at this
        exact this
end
end K03
end
section
set_option maxHeartbeats 4000000
set_option exponentiation.threshold 100000
namespace L2
open PySem PySem.Spec PyProof.Rows
/-- str(x) of an instance -/
theorem call_strOwn {X : Cx} {CX : CXT} {C g : Addr} {n : Nat} {sp : Sp} {E : XK} (hs : PySem.W.findIn X.K (.ref C) "__str__" = some (some (.ref g))) (hf : PySem.W.isFn X.K (.ref g) = true) (F : FnR X.prog X.w X.K X.mg X.base CX n g sp) (hr : Room (n + 2) X.A) (hx : Passes CX X E) :
    CallR X (.type "str") (fun xs H Q => ∃ (a dx : Addr) (fs : List (Str × V)), xs = [.ref a] ∧ H a = some (.ins C dx fs) ∧ sp [.ref a] H (fun z H' => ∃ i : Str, z = .str i ∧ Q z H') E) := by
  intro pins s σ H xs us Q I r h
  obtain ⟨a, dx, fs, rfl, ea, q⟩ := h
  obtain ⟨u, rfl, ru⟩ := r.one
  cases (show u = Value.ref a from ru)
  obtain ⟨od, J⟩ := inst_ins I ea
  have hr2 : Room n X.A.in1.in1 := (show Room (n + 1) X.A.in1 from Room.in1 hr).in1
  refine PySem.W.kso_call hr2.units0 I.kIn J hs hf (wpAny_mono (wpAny_call (SlX.run_at (us := [.ref a]) (ws := [.ref a]) F hr2 I.env0.in1.in1 hx I (.cons rfl .nil) q)) (fun w s' z => ?_) fun _ _ x => x)
  obtain ⟨z', H', I', rz, i, ei, qz⟩ := z
  subst ei
  obtain ⟨t, e⟩ := (show ∃ t, w = Value.str i t from rz)
  cases e
  exact ⟨.str i, H', I', ⟨t, rfl⟩, qz⟩
end L2
namespace K03
open PySem PySem.Spec PyProof.Rows L2 TL
/-- the text of a pair -/
def ratT (p : Int × Int) : Str := if p.2 = 1 then numT p.1 else numT p.1 ++ "/" ++ numT p.2
def spStr (C : Addr) : Sp := fun vs H Q E => ∃ (a dx : Addr) (p : Int × Int), vs = [.ref a] ∧ H a = some (rat C dx p) ∧ Fit p ∧ ∀ H', Same H H' → Q (.str (ratT p)) H'
theorem emp (x : Str) : Str.empty ++ x = x := ext_tl (by rw [tl_append]; rfl)
theorem fit_dig {i : Int} (h : i.natAbs < 2 ^ 4000) : i.natAbs < 10 ^ 1260 := Nat.lt_of_lt_of_le h (by decide +kernel)
theorem numT_len {i : Int} (h : i.natAbs < 10 ^ 1260) : (numT i).length ≤ 1261 := by
  by_cases hn : i < 0
  · rw [len_tl, tl_neg hn, List.length_cons]
    have := numL_len (n := i.natAbs) (k := 1260) (by decide) h
    omega
  · have e : i = ((i.natAbs : Nat) : Int) := by omega
    have := numL_len (n := i.natAbs) (k := 1260) (by decide) h
    rw [e, len_tl, show tl (numT ((i.natAbs : Nat) : Int)) = numL i.natAbs from tl_num _]
    omega
section
variable {P : Program} {w : World} {K : PySem.W.Frag} {mg : Str → Option Value} {base : Heap} {cB cN C fI fo fa fb : Addr} {fdo fda fdb : FuncData}
theorem scStr : FnScope ["self", "top"] ["self"] (defScope sStr) := ⟨rfl, rfl, rfl, by decide +kernel, rfl, by decide +kernel, by decide +kernel⟩
theorem ok_str {f ft : Addr} {fd fdt : FuncData} (F : Fun K "__str__" "Ratio.__str__" sStr f fd) (R : Rat P w K mg base cB cN C fI) (G : FnOk P w K mg base CX0 1 ft fdt ["number"] spText) (gt : mg "whole_text" = some (.ref ft)) (kt : PySem.W.keepIn K (.ref ft) = true) (bt : Binds K fdt ["number"] []) : FnOk P w K mg base CX0 2 f fd ["self"] (spStr C) := by
  refine F.ok scStr (fun vs H Q E h => ?_) (fun cdv A outer s H vs Q E hr h => ?_)
  · obtain ⟨a, dx, p, rfl, _⟩ := h
    rfl
  · obtain ⟨a, dx, p, rfl, ha, fp, q⟩ := h
    have nd := scStr.nd
    refine ⟨_, pss_cons (ps_set (i := 1) nd rfl (Or.inl rfl) (pe_call G hr (by rfl) gt kt bt .nil pass0 (pa_cons (pe_fld (pv 0) rfl) pa_nil)))
      (pss_cons (ps_if (pt_cmpR op_eq (pe_fld (pv 0) rfl) pe_int (nomark _)) (pss_one (ps_ret (pe_joined1 (pe_fmt (pv 1))))) pss_nil)
      (pss_one (ps_ret (pe_joined (.cons (pe_fmt (pv 1)) (.cons pe_str (.cons (pe_fmt (pe_call G hr (by rfl) gt kt bt .nil pass0 (pa_cons (pe_fld (pv 0) rfl) pa_nil))) .nil))))))), ?_⟩
    refine ⟨_, rfl, a, C, dx, _, _, rfl, ha, R.cls.c, R.cls.nT, lkT, p.1, rfl, fit_dig fp.t, fun H1 s1 => ?_⟩
    refine ⟨_, rfl, a, C, dx, _, _, rfl, s1 _ _ ha, R.cls.c, R.cls.nB, lkBt, rfl, _, rfl, ?_⟩
    have hd : decide (V.int p.2 = V.int 1) = decide (p.2 = 1) := by simp
    have l1 := numT_len (fit_dig fp.t)
    have l2 := numT_len (fit_dig fp.b)
    have sl : (3000 : Nat) ≤ sizeLine := by decide
    show ite _ _ _
    by_cases h1 : p.2 = 1
    · rw [if_pos (by rw [hd]; exact decide_eq_true h1)]
      refine ⟨_, rfl, .inl ⟨_, rfl, by omega, ?_⟩⟩
      have := q H1 s1
      unfold ratT at this
      rw [if_pos h1] at this
      exact this
    · rw [if_neg (by rw [hd, decide_eq_false h1]; decide)]
      refine ⟨_, rfl, .inl ⟨_, rfl, by omega, _, rfl, ?_, ?_⟩⟩
      · rw [emp]
        omega
      refine ⟨_, rfl, ?_, ?_⟩
      · rw [emp, len_tl, tl_append, List.length_append, ← len_tl, ← len_tl]
        show (numT p.1).length + 1 ≤ sizeLine
        omega
      refine ⟨_, rfl, a, C, dx, _, _, rfl, s1 _ _ ha, R.cls.c, R.cls.nB, lkBt, p.2, rfl, fit_dig fp.b, fun H2 s2 => ?_⟩
      refine .inl ⟨_, rfl, by omega, _, rfl, ?_, ?_⟩
      · rw [emp, len_tl, tl_append, tl_append, List.length_append, List.length_append, ← len_tl, ← len_tl, ← len_tl]
        show (numT p.1).length + 1 + (numT p.2).length ≤ sizeLine
        omega
      have := q H2 (s1.trans s2)
      unfold ratT at this
      rw [if_neg h1] at this
      show Q (.str (Str.empty ++ numT p.1 ++ "/" ++ numT p.2)) H2
      rw [emp]
      exact this
end
end K03
end
section
set_option maxHeartbeats 4000000
namespace K03
open PySem PySem.Spec PyProof.Rows L2
abbrev sPen : Stmt := top 20
abbrev sDraw : Stmt := top 21
abbrev sPick : Stmt := top 22
section
variable {P : Program} {w : World} {K : PySem.W.Frag} {mg : Str → Option Value} {base : Heap}
theorem scPen : FnScope ["_law_script"] ["_law_script"] (defScope sPen) := ⟨rfl, rfl, rfl, by decide +kernel, rfl, by decide +kernel, by decide +kernel⟩
theorem ok_pen {f : Addr} {fd : FuncData} (F : Fun K "_law_pen" "_law_pen" sPen f fd) (T : TxtR mg) : FnOk P w K mg base CX0 1 f fd ["_law_script"] (spPen K) := by
  refine F.ok scPen (fun vs H Q E h => ?_) (fun cdv A outer s H vs Q E hr h => ?_)
  · obtain ⟨a, ns, rfl, _⟩ := h
    rfl
  · obtain ⟨a, ns, rfl, hS, hl, k⟩ := h
    refine ⟨_, pss_one (ps_ret (pe_disp (pps_cons pe_str (pe_callTy call_list_of (by rfl) T.list (by decide +kernel) (pa_cons (pe_slice sl_list (pv 0) po_none (po_some pe_int)) pa_nil))
      (pps_cons pe_str pe_int (pps_cons pe_str pe_int pps_nil))) (by rfl) (by rfl) (fun z => by cases z) (by decide))), ?_⟩
    intro d hd
    refine ⟨_, rfl, 63, rfl, a, ns.map V.int, rfl, ?_, fun p hp => ?_⟩
    · exact Same.seq (fun b o e => by rw [upd_ne (ne_of_none e hd)]; exact e) hS
    have e1 : cutV (ns.map V.int) none (some 63) = ns.map V.int := by
      unfold cutV
      rw [HT.sIx_none, List.drop_zero, show (some (63 : Int)) = some ((63 : Nat) : Int) from rfl, HT.sIx_nat, List.length_map, Nat.sub_zero]
      exact List.take_of_length_le (by rw [List.length_map]; omega)
    rw [e1]
    have npd : p ≠ d := fun z => by rw [z, upd_same] at hp; cases hp
    have hp0 : H p = none := by rw [upd_ne npd] at hp; exact hp
    refine ⟨p, _, rfl, .inl (SqL.of upd_same), fun c hc => ?_⟩
    have ncp : c ≠ p := fun z => by rw [z, upd_same] at hc; cases hc
    have hc1 : upd H d (.dK []) c = none := by rw [upd_ne ncp] at hc; exact hc
    have ncd : c ≠ d := fun z => by rw [z, upd_same] at hc1; cases hc1
    have hc0 : H c = none := by rw [upd_ne ncd] at hc1; exact hc1
    refine ⟨by rw [upd_ne ncd.symm, upd_ne npd.symm, upd_same], pen c 0 0, rfl, by show 3 ≤ 15; decide, ?_⟩
    rw [merge_pen]
    refine k d c _ hd hc0 (fun b o e => ?_) ⟨upd_same, by rw [upd_ne ncd, upd_same]⟩
    rw [upd_ne (ne_of_none e hd), upd_ne (ne_of_none e hc0), upd_ne (ne_of_none e hp0), upd_ne (ne_of_none e hd)]
    exact e

theorem scDraw : FnScope ["_law_pen_here", "_law_many", "_law_digit", "_law_begun", "_law_cell", "_law_blend"] ["_law_pen_here", "_law_many"] (defScope sDraw) := ⟨rfl, rfl, rfl, by decide +kernel, rfl, by decide +kernel, by decide +kernel⟩
theorem ok_draw {f : Addr} {fd : FuncData} (F : Fun K "_law_draw" "_law_draw" sDraw f fd) (T : TxtR mg) : FnOk P w K mg base CX0 1 f fd ["_law_pen_here", "_law_many"] spDraw := by
  refine F.ok scDraw (fun vs H Q E h => ?_) (fun cdv A outer s H vs Q E hr h => ?_)
  · obtain ⟨d, c, s, r, many, cells, rfl, _⟩ := h
    rfl
  · obtain ⟨d, c, st, r, many, cells, rfl, p, h0, h1, hl, hm, hm2, k⟩ := h
    have hu := hu_of hr
    have nd := scDraw.nd
    refine ⟨_, (pss_cons (ps_if (pt_cmpR op_ge (pe_dget hu (pv 0) pe_str (fun _ _ => rfl)) (pv 1) (nomark _)) (pss_cons (ps_set (i := 2) nd rfl (Or.inl rfl) (pe_op op_mod (pe_callTy call_int1 (by rfl) T.int (by decide +kernel) (pa_cons (pe_dget hu (pv 0) pe_str (fun _ _ => rfl)) pa_nil)) (pv 1)))
      (pss_cons (ps_dput hu (pv 0) pe_str (pe_op op_fdiv (pe_dget hu (pv 0) pe_str (fun _ _ => rfl)) (pv 1)) rfl)
      (pss_one (ps_ret (pv 2))))) pss_nil)
      (pss_cons (ps_set (i := 3) nd rfl (Or.inl rfl) (pe_dget hu (pv 0) pe_str (fun _ _ => rfl)))
      (pss_cons (ps_dput hu (pv 0) pe_str (pe_op op_add (pv 3) pe_int) rfl)
      (pss_cons (ps_set (i := 4) nd rfl (Or.inl rfl) (pe_op op_add (pe_op op_mul pe_int (pv 3)) pe_int))
      (pss_cons (ps_if (pt_cmpR (op_neD hr.units) (pe_dget hu (pv 0) pe_str (fun _ _ => rfl)) (pe_lst pa_nil) (nomark _)) (pss_one (ps_set (i := 4) nd rfl (Or.inl rfl) (pe_ix ix_list (pe_dget hu (pv 0) pe_str (fun _ _ => rfl)) (pe_op op_mod (pe_callTy call_int1 (by rfl) T.int (by decide +kernel) (pa_cons (pv 3) pa_nil)) (pe_callB call_len_seq (by rfl) T.len PySem.boot_len (pa_cons (pe_dget hu (pv 0) pe_str (fun _ _ => rfl)) pa_nil))) (fun _ _ => rfl)))) pss_nil)
      (pss_cons (ps_if (PW.pt (pw_and (pt_cmpR op_lt (pv 3) (pe_callB call_len_seq (by rfl) T.len PySem.boot_len (pa_cons (pe_dget hu (pv 0) pe_str (fun _ _ => rfl)) pa_nil)) (nomark _)) (pw_and1 (pt_cmpR op_ge (pv 4) (pe_op op_pow pe_int pe_int) (nomark _))))) (pss_cons (ps_dput hu (pv 0) pe_str (pe_op op_fdiv (pe_op op_sub (pv 4) (pe_op op_pow pe_int pe_int)) (pv 1)) rfl)
      (pss_one (ps_ret (pe_op op_mod (pe_callTy call_int1 (by rfl) T.int (by decide +kernel) (pa_cons (pe_op op_sub (pv 4) (pe_op op_pow pe_int pe_int)) pa_nil)) (pv 1))))) pss_nil)
      (pss_cons (ps_set (i := 5) nd rfl (Or.inl rfl) (pe_op op_add (pe_op op_mul (pe_op op_mod (pe_callTy call_int1 (by rfl) T.int (by decide +kernel) (pa_cons (pv 4) pa_nil)) pe_int) pe_int) (pe_op op_mul (pe_op op_mul pe_int (pv 3)) (pv 3))))
      (pss_cons (ps_set (i := 5) nd rfl (Or.inl rfl) (pe_op op_mod (pe_callTy call_int1 (by rfl) T.int (by decide +kernel) (pa_cons (pe_op op_add (pe_op op_add (pv 5) (pe_op op_mul pe_int (pv 3))) pe_int) pa_nil)) pe_int))
      (pss_cons (ps_set (i := 5) nd rfl (Or.inl rfl) (pe_op op_mod (pe_callTy call_int1 (by rfl) T.int (by decide +kernel) (pa_cons (pe_op op_mul (pv 5) (pe_op op_add (pv 5) pe_int)) pa_nil)) pe_int))
      (pss_one (ps_ret (pe_op op_mod (pe_callTy call_int1 (by rfl) T.int (by decide +kernel) (pa_cons (pe_op op_fdiv (pe_op op_mod (pe_callTy call_int1 (by rfl) T.int (by decide +kernel) (pa_cons (pe_op op_add (pe_op op_mul (pv 5) (pv 5)) (pe_op op_mul pe_int (pv 5))) pa_nil)) pe_int) pe_int) pa_nil)) (pv 1))))))))))))), ?_⟩
    have gs : ∀ {H' : Hp} {s' r' : Int}, PenAt H' d c s' r' cells → DGet H' d (.str "begun") (some (.int s')) := fun {H' s' r'} q => by
      have z := DGet.k (k := (.inr "begun" : Key)) q.dc
      rw [pen_stop] at z
      exact z
    have gr : ∀ {H' : Hp} {s' r' : Int}, PenAt H' d c s' r' cells → DGet H' d (.str "left") (some (.int r')) := fun {H' s' r'} q => by
      have z := DGet.k (k := (.inr "left" : Key)) q.dc
      rw [pen_rest] at z
      exact z
    have gc : ∀ {H' : Hp} {s' r' : Int}, PenAt H' d c s' r' cells → DGet H' d (.str "cells") (some (.ref c)) := fun {H' s' r'} q => by
      have z := DGet.k (k := (.inr "cells" : Key)) q.dc
      rw [pen_cells] at z
      exact z
    have us : ∀ {H' : Hp} {s' r' : Int} (z : Int), PenAt H' d c s' r' cells → DPut H' d (.str "begun") (.int z) (upd H' d (.dK (pen c z r'))) := fun {H' s' r'} z q => by
      have y := DPut.k (k := (.inr "begun" : Key)) (v := .int z) q.dc (by show 3 < sizeLine; decide)
      rw [put_stop] at y
      exact y
    have ur : ∀ {H' : Hp} {s' r' : Int} (z : Int), PenAt H' d c s' r' cells → DPut H' d (.str "left") (.int z) (upd H' d (.dK (pen c s' z))) := fun {H' s' r'} z q => by
      have y := DPut.k (k := (.inr "left" : Key)) (v := .int z) q.dc (by show 3 < sizeLine; decide)
      rw [put_rest] at y
      exact y
    -- if pen["left"] >= many
    refine ⟨_, rfl, d, _, rfl, gr p, _, rfl, _, _, rfl, rfl, _, rfl, ?_⟩
    refine ite2 (fun _ => ?_) (fun _ => ?_)
    · refine ⟨_, rfl, d, _, rfl, gr p, .inl ⟨_, rfl, _, rfl, _, _, rfl, rfl, hm, ?_⟩⟩
      refine ⟨_, rfl, d, _, rfl, gr p, _, rfl, _, _, rfl, rfl, ⟨hm, hm2⟩, _, rfl, d, _, rfl, ur _ p, ?_⟩
      exact ⟨_, rfl, k _ _ _ _ (Int.emod_nonneg _ (by omega)) (Int.emod_lt_of_pos _ hm) h0 (by omega) (p.set _ _) SameBut.refl.put⟩
    -- stop, cell
    have p1 := p.set (st + 1) r
    have frs : ∀ {H1 : Hp} {b : Addr}, H1 b = none → ∀ {a : Addr} {o : HO}, H1 a = some o → a ≠ b := fun h1 _ _ h2 => ne_of_none h2 h1
    refine ⟨_, rfl, d, _, rfl, gs p, _, rfl, _, _, rfl, rfl, _, rfl, d, _, rfl, us _ p, _, rfl, _, _, rfl, rfl, .inl ⟨by decide, by decide⟩, _, _, rfl, rfl, ?_⟩
    refine ⟨_, rfl, d, _, rfl, gc p1, by show 0 ≤ sizeLine; decide, fun l hn => ?_⟩
    have p2 := p1.new (o := .lst []) hn
    have sb : SameBut d H (upd (upd H d (.dK (pen c (st + 1) r))) l (.lst [])) := SameBut.refl.put.new hn
    have hl2 : upd (upd H d (.dK (pen c (st + 1) r))) l (.lst []) l = some (.lst []) := upd_same
    generalize upd (upd H d (.dK (pen c (st + 1) r))) l (.lst []) = H2 at p2 sb hl2 ⊢
    refine ⟨.list (cells.map PyData.int), .list [], .lst (SqL.of p2.ls) (dp_ints _), .lst (SqL.of hl2) .nil, PySem.W.ke_shaped_ints _, by decide +kernel, _, rfl, ?_⟩
    -- cell = cells[stop % len(cells)]
    refine ite2 (fun nz => ?_) (fun _ => ?_)
    · have pos : 0 < cells.length := by
        cases cells with
        | nil => exact absurd nz (by decide)
        | cons _ _ => exact Nat.succ_pos _
      have l0 : (0 : Int) < ((cells.map V.int).length : Int) := by rw [List.length_map]; omega
      obtain ⟨x, hx⟩ := at_mod pos st
      refine ⟨_, rfl, d, _, rfl, gc p2, _, rfl, .inl ⟨_, rfl, _, rfl, d, _, rfl, gc p2, c, _, rfl, .inl (SqL.of p2.ls), _, _, rfl, rfl, l0, c, _, _, .int x, rfl, rfl, SqL.of p2.ls, hx, ?_⟩⟩
      refine ⟨_, rfl, _, rfl, d, _, rfl, gc p2, c, _, rfl, .inl (SqL.of p2.ls), _, _, rfl, rfl, _, rfl, ?_⟩
      refine ite2 (fun _ => ?_) (fun _ => iteF ?_)
      · refine ⟨_, rfl, _, _, rfl, rfl, ⟨by decide, by decide, by decide⟩, _, _, rfl, rfl, _, rfl, ?_⟩
        refine ite2 (fun _ => ?_) (fun _ => ?_)
        · refine ⟨_, rfl, _, _, rfl, rfl, ⟨by decide, by decide, by decide⟩, _, _, rfl, rfl, _, rfl, _, _, rfl, rfl, ⟨hm, hm2⟩, _, rfl, d, _, rfl, ur _ p2, ?_⟩
          refine ⟨_, rfl, _, _, rfl, rfl, ⟨by decide, by decide, by decide⟩, _, _, rfl, rfl, .inl ⟨_, rfl, _, rfl, _, _, rfl, rfl, hm, ?_⟩⟩
          exact k _ _ _ _ (Int.emod_nonneg _ (by omega)) (Int.emod_lt_of_pos _ hm) (by omega) (Int.le_refl _) (p2.set _ _) sb.put
        · refine ⟨_, rfl, .inl ⟨_, rfl, _, _, rfl, rfl, (show (0 : Int) < 2147481209 by decide), _, _, rfl, rfl, .inr ⟨by decide, by decide⟩, _, rfl, _, _, rfl, rfl, .inl ⟨by decide, by decide⟩, _, rfl, _, _, rfl, rfl, .inr ⟨by omega, by omega⟩, _, _, rfl, rfl, ?_⟩⟩
          refine ⟨_, rfl, _, rfl, _, _, rfl, rfl, .inl ⟨by decide, by decide⟩, _, _, rfl, rfl, _, _, rfl, rfl, .inl ⟨_, rfl, _, _, rfl, rfl, (show (0 : Int) < 2147481247 by decide), ?_⟩⟩
          refine ⟨_, rfl, _, rfl, _, _, rfl, rfl, _, _, rfl, rfl, .inl (modb _ (by decide) (by decide)), .inl ⟨_, rfl, _, _, rfl, rfl, (show (0 : Int) < 2147481263 by decide), ?_⟩⟩
          refine ⟨_, rfl, _, rfl, _, _, rfl, rfl, .inl (modb _ (by decide) (by decide)), _, rfl, _, _, rfl, rfl, .inl ⟨by decide, by decide⟩, _, _, rfl, rfl, .inl ⟨_, rfl, _, _, rfl, rfl, (show (0 : Int) < 2147481283 by decide), _, _, rfl, rfl, ⟨by decide, by decide⟩, .inl ⟨_, rfl, _, rfl, _, _, rfl, rfl, hm, ?_⟩⟩⟩
          exact k _ _ _ _ (Int.emod_nonneg _ (by omega)) (Int.emod_lt_of_pos _ hm) (by omega) (Int.le_refl _) p2 sb
      · refine ⟨_, rfl, .inl ⟨_, rfl, _, _, rfl, rfl, (show (0 : Int) < 2147481209 by decide), _, _, rfl, rfl, .inr ⟨by decide, by decide⟩, _, rfl, _, _, rfl, rfl, .inl ⟨by decide, by decide⟩, _, rfl, _, _, rfl, rfl, .inr ⟨by omega, by omega⟩, _, _, rfl, rfl, ?_⟩⟩
        refine ⟨_, rfl, _, rfl, _, _, rfl, rfl, .inl ⟨by decide, by decide⟩, _, _, rfl, rfl, _, _, rfl, rfl, .inl ⟨_, rfl, _, _, rfl, rfl, (show (0 : Int) < 2147481247 by decide), ?_⟩⟩
        refine ⟨_, rfl, _, rfl, _, _, rfl, rfl, _, _, rfl, rfl, .inl (modb _ (by decide) (by decide)), .inl ⟨_, rfl, _, _, rfl, rfl, (show (0 : Int) < 2147481263 by decide), ?_⟩⟩
        refine ⟨_, rfl, _, rfl, _, _, rfl, rfl, .inl (modb _ (by decide) (by decide)), _, rfl, _, _, rfl, rfl, .inl ⟨by decide, by decide⟩, _, _, rfl, rfl, .inl ⟨_, rfl, _, _, rfl, rfl, (show (0 : Int) < 2147481283 by decide), _, _, rfl, rfl, ⟨by decide, by decide⟩, .inl ⟨_, rfl, _, rfl, _, _, rfl, rfl, hm, ?_⟩⟩⟩
        exact k _ _ _ _ (Int.emod_nonneg _ (by omega)) (Int.emod_lt_of_pos _ hm) (by omega) (Int.le_refl _) p2 sb
    · refine ⟨_, rfl, _, rfl, d, _, rfl, gc p2, c, _, rfl, .inl (SqL.of p2.ls), _, _, rfl, rfl, _, rfl, ?_⟩
      refine ite2 (fun _ => ?_) (fun _ => iteF ?_)
      · refine ⟨_, rfl, _, _, rfl, rfl, ⟨by decide, by decide, by decide⟩, _, _, rfl, rfl, _, rfl, ?_⟩
        refine ite2 (fun _ => ?_) (fun _ => ?_)
        · refine ⟨_, rfl, _, _, rfl, rfl, ⟨by decide, by decide, by decide⟩, _, _, rfl, rfl, _, rfl, _, _, rfl, rfl, ⟨hm, hm2⟩, _, rfl, d, _, rfl, ur _ p2, ?_⟩
          refine ⟨_, rfl, _, _, rfl, rfl, ⟨by decide, by decide, by decide⟩, _, _, rfl, rfl, .inl ⟨_, rfl, _, rfl, _, _, rfl, rfl, hm, ?_⟩⟩
          exact k _ _ _ _ (Int.emod_nonneg _ (by omega)) (Int.emod_lt_of_pos _ hm) (by omega) (Int.le_refl _) (p2.set _ _) sb.put
        · refine ⟨_, rfl, .inl ⟨_, rfl, _, _, rfl, rfl, (show (0 : Int) < 2147481209 by decide), _, _, rfl, rfl, .inr ⟨by decide, by decide⟩, _, rfl, _, _, rfl, rfl, .inl ⟨by decide, by decide⟩, _, rfl, _, _, rfl, rfl, .inr ⟨by omega, by omega⟩, _, _, rfl, rfl, ?_⟩⟩
          refine ⟨_, rfl, _, rfl, _, _, rfl, rfl, .inl ⟨by decide, by decide⟩, _, _, rfl, rfl, _, _, rfl, rfl, .inl ⟨_, rfl, _, _, rfl, rfl, (show (0 : Int) < 2147481247 by decide), ?_⟩⟩
          refine ⟨_, rfl, _, rfl, _, _, rfl, rfl, _, _, rfl, rfl, .inl (modb _ (by decide) (by decide)), .inl ⟨_, rfl, _, _, rfl, rfl, (show (0 : Int) < 2147481263 by decide), ?_⟩⟩
          refine ⟨_, rfl, _, rfl, _, _, rfl, rfl, .inl (modb _ (by decide) (by decide)), _, rfl, _, _, rfl, rfl, .inl ⟨by decide, by decide⟩, _, _, rfl, rfl, .inl ⟨_, rfl, _, _, rfl, rfl, (show (0 : Int) < 2147481283 by decide), _, _, rfl, rfl, ⟨by decide, by decide⟩, .inl ⟨_, rfl, _, rfl, _, _, rfl, rfl, hm, ?_⟩⟩⟩
          exact k _ _ _ _ (Int.emod_nonneg _ (by omega)) (Int.emod_lt_of_pos _ hm) (by omega) (Int.le_refl _) p2 sb
      · refine ⟨_, rfl, .inl ⟨_, rfl, _, _, rfl, rfl, (show (0 : Int) < 2147481209 by decide), _, _, rfl, rfl, .inr ⟨by decide, by decide⟩, _, rfl, _, _, rfl, rfl, .inl ⟨by decide, by decide⟩, _, rfl, _, _, rfl, rfl, .inr ⟨by omega, by omega⟩, _, _, rfl, rfl, ?_⟩⟩
        refine ⟨_, rfl, _, rfl, _, _, rfl, rfl, .inl ⟨by decide, by decide⟩, _, _, rfl, rfl, _, _, rfl, rfl, .inl ⟨_, rfl, _, _, rfl, rfl, (show (0 : Int) < 2147481247 by decide), ?_⟩⟩
        refine ⟨_, rfl, _, rfl, _, _, rfl, rfl, _, _, rfl, rfl, .inl (modb _ (by decide) (by decide)), .inl ⟨_, rfl, _, _, rfl, rfl, (show (0 : Int) < 2147481263 by decide), ?_⟩⟩
        refine ⟨_, rfl, _, rfl, _, _, rfl, rfl, .inl (modb _ (by decide) (by decide)), _, rfl, _, _, rfl, rfl, .inl ⟨by decide, by decide⟩, _, _, rfl, rfl, .inl ⟨_, rfl, _, _, rfl, rfl, (show (0 : Int) < 2147481283 by decide), _, _, rfl, rfl, ⟨by decide, by decide⟩, .inl ⟨_, rfl, _, rfl, _, _, rfl, rfl, hm, ?_⟩⟩⟩
        exact k _ _ _ _ (Int.emod_nonneg _ (by omega)) (Int.emod_lt_of_pos _ hm) (by omega) (Int.le_refl _) p2 sb
end
end K03
end
section
set_option maxHeartbeats 4000000
set_option exponentiation.threshold 100000
namespace K03
open PySem PySem.Spec PyProof.Rows L2
abbrev sWide : Stmt := top 23
abbrev sGcd : Stmt := top 24
abbrev sLowest : Stmt := top 25
abbrev sPlus : Stmt := top 26
abbrev sMinus : Stmt := top 27
abbrev sTimes : Stmt := top 28
abbrev sTurn : Stmt := top 29
def spPlus : Sp := fun vs H Q _ => ∃ (t u : Addr) (p q : Int × Int), vs = [.ref t, .ref u] ∧ Pair H t p ∧ Pair H u q ∧ Fit p ∧ Fit q ∧ NewP H Q (padd p q)
def spTimes : Sp := fun vs H Q _ => ∃ (t u : Addr) (p q : Int × Int), vs = [.ref t, .ref u] ∧ Pair H t p ∧ Pair H u q ∧ Fit p ∧ Fit q ∧ NewP H Q (pmul p q)
section
variable {P : Program} {w : World} {K : PySem.W.Frag} {mg : Str → Option Value} {base : Heap} {cB cN C fI : Addr}
theorem scPick : FnScope ["_law_pen_here", "_law_some"] ["_law_pen_here", "_law_some"] (defScope sPick) := ⟨rfl, rfl, rfl, by decide +kernel, rfl, by decide +kernel, by decide +kernel⟩
theorem ok_pick {f fD : Addr} {fd fdD : FuncData} (F : Fun K "_law_pick" "_law_pick" sPick f fd) (FD : Fun K "_law_draw" "_law_draw" sDraw fD fdD) (gD : mg "_law_draw" = some (.ref fD)) (bD : Binds K fdD ["_law_pen_here", "_law_many"] []) (T : TxtR mg) :
    FnOk P w K mg base CX0 2 f fd ["_law_pen_here", "_law_some"] spPick := by
  have G : FnOk P w K mg base CX0 1 fD fdD ["_law_pen_here", "_law_many"] spDraw := ok_draw FD T
  refine F.ok scPick (fun vs H Q E h => ?_) (fun cdv A outer s H vs Q E hr h => ?_)
  · obtain ⟨d, c, l, s, r, cells, xs, rfl, _⟩ := h
    rfl
  · obtain ⟨d, c, l, st, r, cells, xs, rfl, p, h0, h1, hl, hx, hp, hm, k⟩ := h
    refine ⟨_, pss_one (ps_ret (pe_ix ix_list (pv 1) (pe_call G hr (by rfl) gD FD.kp bD .nil pass0 (pa_cons (pv 0) (pa_cons (pe_callB call_len_seq (by rfl) T.len PySem.boot_len (pa_cons (pv 1) pa_nil)) pa_nil))) (fun _ _ => rfl))), ?_⟩
    refine ⟨_, rfl, _, rfl, _, rfl, l, _, rfl, .inl (SqL.of hx), d, c, st, r, _, cells, rfl, p, h0, h1, hl, by omega, by omega, fun n s' r' H' a1 a2 a3 a4 a5 a6 => ?_⟩
    have ex : H' l = some (.lst xs) := a6 l _ hx (ne_of hx p.dc (by intro z; cases z))
    obtain ⟨j, rfl⟩ : ∃ j : Nat, n = (j : Int) := ⟨n.toNat, by omega⟩
    have hn : j < xs.length := by omega
    exact ⟨l, xs, _, xs[j], rfl, rfl, SqL.of ex, atI_nat (List.getElem?_eq_getElem hn), k _ s' r' H' (List.getElem_mem hn) a3 a4 a5 a6⟩
theorem scGcd : FnScope ["_law_one", "_law_other"] ["_law_one", "_law_other"] (defScope sGcd) := ⟨rfl, rfl, rfl, by decide +kernel, rfl, by decide +kernel, by decide +kernel⟩
theorem ok_gcd {f : Addr} {fd : FuncData} (F : Fun K "_law_gcd" "_law_gcd" sGcd f fd) (T : TxtR mg) : FnOk P w K mg base CX0 1 f fd ["_law_one", "_law_other"] spGcd := by
  refine F.ok scGcd (fun vs H Q E h => ?_) (fun cdv A outer s H vs Q E hr h => ?_)
  · obtain ⟨a, b, rfl, _⟩ := h
    rfl
  · obtain ⟨a, b, rfl, q⟩ := h
    have nd := scGcd.nd
    refine ⟨_, pss_cons (ps_par (i := 0) (j := 1) (by rfl) nd rfl rfl (by decide) rfl rfl (pa_cons (pe_callB call_abs (by rfl) T.abs (by decide +kernel) (pa_cons (pv 0) pa_nil)) (pa_cons (pe_callB call_abs (by rfl) T.abs (by decide +kernel) (pa_cons (pv 1) pa_nil)) pa_nil)) (by rfl))
      (pss_cons (ps_while PassesOwn.never (pt_cmpR op_gt (pv 1) pe_int (nomark _))
        (pss_one (ps_par (i := 0) (j := 1) (by rfl) nd rfl rfl (by decide) rfl rfl (pa_cons (pv 1) (pa_cons (pe_op op_mod (pe_callTy call_int1 (by rfl) T.int (by decide +kernel) (pa_cons (pv 0) pa_nil)) (pv 1)) pa_nil)) (by rfl))))
      (pss_one (ps_ret (pv 0)))), ?_⟩
    refine ⟨_, rfl, _, rfl, _, rfl, _, rfl, ?_⟩
    rw [abs_cast, abs_cast]
    refine ⟨_, _, rfl, ?_⟩
    dsimp only [tSeq]
    refine while_by (fun σ H' => H' = H ∧ ∃ m n : Nat, σ = [some (.int m), some (.int n)] ∧ Nat.gcd m n = Nat.gcd a.natAbs b.natAbs) gcdM ?_ ?_ (fun σ H Q Q' m h => by
      obtain ⟨v, h1, i, j, e1, e2, k, e3, q⟩ := h
      exact ⟨v, h1, i, j, e1, e2, k, e3, m _ _ q⟩)
    · exact ⟨rfl, a.natAbs, b.natAbs, rfl, rfl⟩
    rintro σ H' ⟨rfl, m, n, rfl, hg⟩
    refine ⟨_, rfl, _, _, rfl, rfl, _, rfl, ?_⟩
    refine ite2 (fun hn => ?_) (fun hn => ?_)
    · have hn0 : 0 < n := by
        have := of_decide_eq_true hn
        omega
      refine ⟨_, rfl, _, rfl, .inl ⟨_, rfl, _, rfl, _, _, rfl, rfl, (show (0 : Int) < (n : Int) by omega), _, _, rfl, ?_⟩⟩
      refine ⟨⟨rfl, n, m % n, ?_, by rw [euclid, hg]⟩, ?_⟩
      · show [some (V.int n), some (V.int ((m : Int) % (n : Int)))] = _
        rw [Int.natCast_emod]
      · show ((m : Int) % (n : Int)).toNat < (n : Int).toNat
        rw [← Int.natCast_emod, Int.toNat_natCast, Int.toNat_natCast]
        exact Nat.mod_lt _ hn0
    · have hn0 : n = 0 := by
        have : ¬ ((n : Int) > 0) := fun z => hn (decide_eq_true z)
        omega
      subst hn0
      rw [Nat.gcd_zero_right] at hg
      refine ⟨_, rfl, ?_⟩
      show Q (.int m) H'
      rw [hg]
      exact q
theorem scLowest : FnScope ["_law_above", "_law_below", "_law_factor_here"] ["_law_above", "_law_below"] (defScope sLowest) := ⟨rfl, rfl, rfl, by decide +kernel, rfl, by decide +kernel, by decide +kernel⟩
theorem ok_lowest {f fg : Addr} {fd fdg : FuncData} (F : Fun K "_law_lowest" "_law_lowest" sLowest f fd) (G : FnOk P w K mg base CX0 1 fg fdg ["_law_one", "_law_other"] spGcd) (gg : mg "_law_gcd" = some (.ref fg)) (kg : PySem.W.keepIn K (.ref fg) = true) (bg : Binds K fdg ["_law_one", "_law_other"] []) :
    FnOk P w K mg base CX0 2 f fd ["_law_above", "_law_below"] spLowest := by
  refine F.ok scLowest (fun vs H Q E h => ?_) (fun cdv A outer s H vs Q E hr h => ?_)
  · obtain ⟨a, b, rfl, _⟩ := h
    rfl
  · obtain ⟨a, b, rfl, h0, hs, q⟩ := h
    have nd := scLowest.nd
    refine ⟨_, pss_cons (ps_set (i := 2) nd rfl (Or.inl rfl) (pe_call G hr (by rfl) gg kg bg .nil pass0 (pa_cons (pv 0) (pa_cons (pv 1) pa_nil))))
      (pss_cons (ps_if (pt_cmpR op_lt (pv 1) pe_int (nomark _)) (pss_one (ps_set (i := 2) nd rfl (Or.inl rfl) (pe_un un_neg (pv 2)))) pss_nil)
      (pss_one (ps_ret (pe_tup (pa_cons (pe_op op_fdivZ (pv 0) (pv 2)) (pa_cons (pe_op op_fdivZ (pv 1) (pv 2)) pa_nil)))))), ?_⟩
    have dv : ∀ i, CDivZ i (shr a b) := fun i => ⟨shr_ne h0, log2_le (shr_le h0) (by have := shr_ne (t := a) h0; omega) hs (by decide)⟩
    refine ⟨_, rfl, _, rfl, a, b, rfl, _, rfl, _, _, rfl, rfl, _, rfl, ?_⟩
    refine ite2 (fun hb => ?_) (fun hb => ?_)
    · have e : -((Nat.gcd a.natAbs b.natAbs : Nat) : Int) = shr a b := by
        unfold shr
        rw [if_pos (by simpa using hb)]
      refine ⟨_, rfl, _, rfl, _, rfl, _, rfl, _, _, rfl, rfl, by rw [e]; exact dv _, _, rfl, _, rfl, _, _, rfl, rfl, by rw [e]; exact dv _, by show 2 ≤ sizeLine; decide, fun t ht => ?_⟩
      rw [e]
      exact q.at t ht
    · have e : ((Nat.gcd a.natAbs b.natAbs : Nat) : Int) = shr a b := by
        unfold shr
        rw [if_neg (by simpa using hb)]
      refine ⟨_, rfl, _, rfl, _, _, rfl, rfl, by rw [e]; exact dv _, _, rfl, _, rfl, _, _, rfl, rfl, by rw [e]; exact dv _, by show 2 ≤ sizeLine; decide, fun t ht => ?_⟩
      rw [e]
      exact q.at t ht
theorem scMinus : FnScope ["_law_one"] ["_law_one"] (defScope sMinus) := ⟨rfl, rfl, rfl, by decide +kernel, rfl, by decide +kernel, by decide +kernel⟩
theorem ok_minus {f : Addr} {fd : FuncData} (F : Fun K "_law_minus" "_law_minus" sMinus f fd) : FnOk P w K mg base CX0 1 f fd ["_law_one"] spMinus := by
  refine F.ok scMinus (fun vs H Q E h => ?_) (fun cdv A outer s H vs Q E hr h => ?_)
  · obtain ⟨t, p, rfl, _⟩ := h
    rfl
  · obtain ⟨t, p, rfl, hp, q⟩ := h
    refine ⟨_, pss_one (ps_ret (pe_tup (pa_cons (pe_un un_neg (pe_ix ix_tup (pv 0) pe_int (fun _ _ => rfl))) (pa_cons (pe_ix ix_tup (pv 0) pe_int (fun _ _ => rfl)) pa_nil)))), ?_⟩
    exact ⟨_, rfl, t, _, _, _, rfl, rfl, SqT.of hp, rfl, _, rfl, _, rfl, t, _, _, _, rfl, rfl, SqT.of hp, rfl, by show 2 ≤ sizeLine; decide, fun u hu => q.at u hu⟩
theorem scPlus : FnScope ["_law_one", "_law_other"] ["_law_one", "_law_other"] (defScope sPlus) := ⟨rfl, rfl, rfl, by decide +kernel, rfl, by decide +kernel, by decide +kernel⟩
theorem ok_plus {f fl : Addr} {fd fdl : FuncData} (F : Fun K "_law_plus" "_law_plus" sPlus f fd) (G : FnOk P w K mg base CX0 2 fl fdl ["_law_above", "_law_below"] spLowest) (gl : mg "_law_lowest" = some (.ref fl)) (kl : PySem.W.keepIn K (.ref fl) = true) (bl : Binds K fdl ["_law_above", "_law_below"] []) :
    FnOk P w K mg base CX0 3 f fd ["_law_one", "_law_other"] spPlus := by
  refine F.ok scPlus (fun vs H Q E h => ?_) (fun cdv A outer s H vs Q E hr h => ?_)
  · obtain ⟨t, u, p, q, rfl, _⟩ := h
    rfl
  · obtain ⟨t, u, p, q, rfl, hp, hq, fp, fq, k⟩ := h
    refine ⟨_, pss_one (ps_ret (pe_call G hr (by rfl) gl kl bl .nil pass0 (pa_cons (pe_op op_add (pe_op op_mulW (pe_ix ix_tup (pv 0) pe_int (fun _ _ => rfl)) (pe_ix ix_tup (pv 1) pe_int (fun _ _ => rfl))) (pe_op op_mulW (pe_ix ix_tup (pv 1) pe_int (fun _ _ => rfl)) (pe_ix ix_tup (pv 0) pe_int (fun _ _ => rfl)))) (pa_cons (pe_op op_mulW (pe_ix ix_tup (pv 0) pe_int (fun _ _ => rfl)) (pe_ix ix_tup (pv 1) pe_int (fun _ _ => rfl))) pa_nil)))), ?_⟩
    refine ⟨_, rfl, t, _, _, _, rfl, rfl, SqT.of hp, rfl, _, rfl, u, _, _, _, rfl, rfl, SqT.of hq, rfl, _, _, rfl, rfl, sz_mul fp.t fq.b, ?_⟩
    refine ⟨_, rfl, u, _, _, _, rfl, rfl, SqT.of hq, rfl, _, rfl, t, _, _, _, rfl, rfl, SqT.of hp, rfl, _, _, rfl, rfl, sz_mul fq.t fp.b, _, _, rfl, rfl, ?_⟩
    refine ⟨_, rfl, t, _, _, _, rfl, rfl, SqT.of hp, rfl, _, rfl, u, _, _, _, rfl, rfl, SqT.of hq, rfl, _, _, rfl, rfl, sz_mul fp.b fq.b, ?_⟩
    exact ⟨_, _, rfl, Int.ne_of_gt (Int.mul_pos fp.pos fq.pos), sz_mulB fp.b fq.b, k⟩
theorem scTimes : FnScope ["_law_one", "_law_other"] ["_law_one", "_law_other"] (defScope sTimes) := ⟨rfl, rfl, rfl, by decide +kernel, rfl, by decide +kernel, by decide +kernel⟩
theorem ok_times {f fl : Addr} {fd fdl : FuncData} (F : Fun K "_law_times" "_law_times" sTimes f fd) (G : FnOk P w K mg base CX0 2 fl fdl ["_law_above", "_law_below"] spLowest) (gl : mg "_law_lowest" = some (.ref fl)) (kl : PySem.W.keepIn K (.ref fl) = true) (bl : Binds K fdl ["_law_above", "_law_below"] []) :
    FnOk P w K mg base CX0 3 f fd ["_law_one", "_law_other"] spTimes := by
  refine F.ok scTimes (fun vs H Q E h => ?_) (fun cdv A outer s H vs Q E hr h => ?_)
  · obtain ⟨t, u, p, q, rfl, _⟩ := h
    rfl
  · obtain ⟨t, u, p, q, rfl, hp, hq, fp, fq, k⟩ := h
    refine ⟨_, pss_one (ps_ret (pe_call G hr (by rfl) gl kl bl .nil pass0 (pa_cons (pe_op op_mulW (pe_ix ix_tup (pv 0) pe_int (fun _ _ => rfl)) (pe_ix ix_tup (pv 1) pe_int (fun _ _ => rfl))) (pa_cons (pe_op op_mulW (pe_ix ix_tup (pv 0) pe_int (fun _ _ => rfl)) (pe_ix ix_tup (pv 1) pe_int (fun _ _ => rfl))) pa_nil)))), ?_⟩
    refine ⟨_, rfl, t, _, _, _, rfl, rfl, SqT.of hp, rfl, _, rfl, u, _, _, _, rfl, rfl, SqT.of hq, rfl, _, _, rfl, rfl, sz_mul fp.t fq.t, ?_⟩
    refine ⟨_, rfl, t, _, _, _, rfl, rfl, SqT.of hp, rfl, _, rfl, u, _, _, _, rfl, rfl, SqT.of hq, rfl, _, _, rfl, rfl, sz_mul fp.b fq.b, ?_⟩
    exact ⟨_, _, rfl, Int.ne_of_gt (Int.mul_pos fp.pos fq.pos), sz_mulB fp.b fq.b, k⟩
theorem scTurn : FnScope ["_law_one"] ["_law_one"] (defScope sTurn) := ⟨rfl, rfl, rfl, by decide +kernel, rfl, by decide +kernel, by decide +kernel⟩
theorem ok_turn {f fl : Addr} {fd fdl : FuncData} (F : Fun K "_law_turn" "_law_turn" sTurn f fd) (G : FnOk P w K mg base CX0 2 fl fdl ["_law_above", "_law_below"] spLowest) (gl : mg "_law_lowest" = some (.ref fl)) (kl : PySem.W.keepIn K (.ref fl) = true) (bl : Binds K fdl ["_law_above", "_law_below"] []) :
    FnOk P w K mg base CX0 3 f fd ["_law_one"] spTurn := by
  refine F.ok scTurn (fun vs H Q E h => ?_) (fun cdv A outer s H vs Q E hr h => ?_)
  · obtain ⟨t, p, rfl, _⟩ := h
    rfl
  · obtain ⟨t, p, rfl, hp, h0, hs, k⟩ := h
    refine ⟨_, pss_one (ps_ret (pe_call G hr (by rfl) gl kl bl .nil pass0 (pa_cons (pe_ix ix_tup (pv 0) pe_int (fun _ _ => rfl)) (pa_cons (pe_ix ix_tup (pv 0) pe_int (fun _ _ => rfl)) pa_nil)))), ?_⟩
    exact ⟨_, rfl, t, _, _, _, rfl, rfl, SqT.of hp, rfl, _, rfl, t, _, _, _, rfl, rfl, SqT.of hp, rfl, _, _, rfl, h0, hs, k⟩
end
end K03
end
section
set_option maxHeartbeats 4000000
set_option exponentiation.threshold 100000
namespace K03
open PySem PySem.Spec PyProof.Rows L2
abbrev sWhole : Stmt := top 35
abbrev sFactor : Stmt := top 36
theorem SameBut.trans {d : Addr} {H H1 H2 : Hp} (a : SameBut d H H1) (b : SameBut d H1 H2) : SameBut d H H2 := fun x o e n => b x o (a x o e n) n
theorem SameBut.of {d : Addr} {H H1 : Hp} (a : Same H H1) : SameBut d H H1 := fun x o e _ => a x o e
def spWhole : Sp := fun vs H Q _ => ∃ (d c : Addr) (s r : Int) (cells : List Int), vs = [.ref d] ∧ PenAt H d c s r cells ∧ 0 ≤ s ∧ s + 100 ≤ 100000 ∧ cells.length ≤ 63 ∧
  ∀ (v s' r' : Int) (H' : Hp), v.natAbs ≤ 10 ^ 84 → 0 ≤ s' → s' ≤ s + 20 → PenAt H' d c s' r' cells → SameBut d H H' → Q (.int v) H'
def spFactor : Sp := fun vs H Q _ => ∃ (d c : Addr) (s r : Int) (cells : List Int), vs = [.ref d] ∧ PenAt H d c s r cells ∧ 0 ≤ s ∧ s + 200 ≤ 100000 ∧ cells.length ≤ 63 ∧
  ∀ (v s' r' : Int) (H' : Hp), v.natAbs ≤ 10 ^ 84 → v ≠ 0 → 0 ≤ s' → s' ≤ s + 30 → PenAt H' d c s' r' cells → SameBut d H H' → Q (.int v) H'
theorem pow7 : (10 : Int) ^ (7 : Int).toNat = 10000000 := by decide
section
variable {P : Program} {w : World} {K : PySem.W.Frag} {mg : Str → Option Value} {base : Heap} {cB cN C fI fD : Addr} {fdD : FuncData}
theorem scWide : FnScope ["_law_pen_here", "_law_pieces", "_law_out", "_law_k"] ["_law_pen_here", "_law_pieces"] (defScope sWide) := ⟨rfl, rfl, rfl, by decide +kernel, rfl, by decide +kernel, by decide +kernel⟩
theorem ok_wide {f : Addr} {fd : FuncData} (F : Fun K "_law_wide" "_law_wide" sWide f fd) (T : TxtR mg) (G : FnOk P w K mg base CX0 1 fD fdD ["_law_pen_here", "_law_many"] spDraw) (gD : mg "_law_draw" = some (.ref fD)) (kD : PySem.W.keepIn K (.ref fD) = true) (bD : Binds K fdD ["_law_pen_here", "_law_many"] []) :
    FnOk P w K mg base CX0 2 f fd ["_law_pen_here", "_law_pieces"] spWide := by
  refine F.ok scWide (fun vs H Q E h => ?_) (fun cdv A outer s H vs Q E hr h => ?_)
  · obtain ⟨d, c, s, r, m, cells, rfl, _⟩ := h
    rfl
  · obtain ⟨d, c, st, r, m, cells, rfl, p, h0, h1, hl, hm, q⟩ := h
    have nd := scWide.nd
    refine ⟨_, pss_cons (ps_set (i := 2) nd rfl (Or.inl rfl) pe_int)
      (pss_cons (ps_for PassesOwn.never rfl (pi_range1 rfl T.range (pa_cons (pv 1) pa_nil)) (pg_name (i := 3) nd rfl (Or.inl rfl))
        (pss_one (ps_set (i := 2) nd rfl (Or.inl rfl) (pe_op op_add (pe_op op_mulW (pv 2) (pe_op op_pow pe_int pe_int)) (pe_call G hr (by rfl) gD kD bD .nil pass0 (pa_cons (pv 0) (pa_cons (pe_op op_pow pe_int pe_int) pa_nil)))))))
      (pss_one (ps_ret (pv 2)))), ?_⟩
    refine ⟨_, rfl, m, rfl, by omega, by omega, ?_⟩
    refine for_range (lo := 0) (n := m) (fun i σ H' => ∃ (n s' r' : Int) (o : Option V), σ = [some (.ref d), some (.int m), some (.int n), o] ∧ 0 ≤ n ∧ n < 10 ^ (7 * i) ∧ PenAt H' d c s' r' cells ∧ 0 ≤ s' ∧ s' ≤ st + i ∧ SameBut d H H') ⟨0, st, r, none, rfl, by decide, by decide, p, h0, by omega, SameBut.refl⟩ ?_ ?_
    · rintro i σ H' hi ⟨n, s', r', o, rfl, n0, n1, p', s0, s1, sb⟩
      have hb : n.natAbs < 2 ^ 2400 := by
        have e1 : (10 : Int) ^ (7 * i) = ((10 ^ (7 * i) : Nat) : Int) := by simp
        have e2 : (10 : Nat) ^ (7 * i) ≤ 10 ^ 700 := Nat.pow_le_pow_right (by decide) (by omega)
        have e3 : (10 : Nat) ^ 700 ≤ 2 ^ 2400 := by decide +kernel
        rw [e1] at n1
        omega
      refine ⟨_, rfl, _, _, rfl, rfl, ⟨by decide, by decide, by decide⟩, _, _, rfl, rfl, ?_, ?_⟩
      · rw [pow7]
        exact wide_mul (a := 2400) (b := 24) hb (by decide) (by decide) (by decide) (by decide)
      refine ⟨_, rfl, _, _, rfl, rfl, ⟨by decide, by decide, by decide⟩, d, c, s', r', _, cells, rfl, p', s0, by omega, hl, ?_, ?_, fun k s2 r2 H2 a1 a2 a3 a4 a5 a6 => ?_⟩
      · rw [pow7]; decide
      · rw [pow7]; decide
      rw [pow7] at a2
      refine ⟨_, _, rfl, rfl, ?_⟩
      refine ⟨_, s2, r2, _, rfl, ?_, ?_, a5, a3, by omega, sb.trans a6⟩
      · rw [pow7]
        omega
      · rw [pow7, Nat.mul_succ, Int.pow_add]
        have : (10 : Int) ^ 7 = 10000000 := by decide
        rw [this]
        omega
    · rintro σ H' ⟨n, s', r', o, rfl, n0, n1, p', s0, s1, sb⟩
      exact ⟨_, rfl, q n s' r' H' n0 n1 s0 s1 p' sb⟩
end
end K03
end
section
set_option maxHeartbeats 4000000
set_option exponentiation.threshold 100000
namespace K03
open PySem PySem.Spec PyProof.Rows L2
section
variable {P : Program} {w : World} {K : PySem.W.Frag} {mg : Str → Option Value} {base : Heap} {cB cN C fI fD fW : Addr} {fdD fdW : FuncData}
theorem scWhole : FnScope ["_law_pen_here", "_law_sort", "_law_sign_here", "_law_near", "_law_k"] ["_law_pen_here"] (defScope sWhole) := ⟨rfl, rfl, rfl, by decide +kernel, rfl, by decide +kernel, by decide +kernel⟩
theorem sgn_b {k : Int} (h0 : 0 ≤ k) (h1 : k < 2) : -(2 ^ 64) < 1 - 2 * k ∧ 1 - 2 * k < 2 ^ 64 ∧ (1 - 2 * k = 1 ∨ 1 - 2 * k = -1) := by
  have : k = 0 ∨ k = 1 := by omega
  rcases this with rfl | rfl <;> decide
theorem sgn_mul {e x : Int} {n : Nat} (h : e = 1 ∨ e = -1) (hx : x.natAbs ≤ n) : (e * x).natAbs ≤ n := by
  rcases h with rfl | rfl
  · rw [Int.one_mul]; exact hx
  · rw [show (-1 : Int) * x = -x from by omega, Int.natAbs_neg]; exact hx
theorem ok_whole {f : Addr} {fd : FuncData} (F : Fun K "_law_whole" "_law_whole" sWhole f fd) (T : TxtR mg) (G : FnOk P w K mg base CX0 1 fD fdD ["_law_pen_here", "_law_many"] spDraw) (gD : mg "_law_draw" = some (.ref fD)) (kD : PySem.W.keepIn K (.ref fD) = true) (bD : Binds K fdD ["_law_pen_here", "_law_many"] [])
    (GW : FnOk P w K mg base CX0 2 fW fdW ["_law_pen_here", "_law_pieces"] spWide) (gW : mg "_law_wide" = some (.ref fW)) (kW : PySem.W.keepIn K (.ref fW) = true) (bW : Binds K fdW ["_law_pen_here", "_law_pieces"] []) :
    FnOk P w K mg base CX0 3 f fd ["_law_pen_here"] spWhole := by
  refine F.ok scWhole (fun vs H Q E h => ?_) (fun cdv A outer s H vs Q E hr h => ?_)
  · obtain ⟨d, c, s, r, cells, rfl, _⟩ := h
    rfl
  · obtain ⟨d, c, st, r, cells, rfl, p, h0, h1, hl, q⟩ := h
    have nd := scWhole.nd
    have hr1 : Room 1 _ := hr.mono (by decide)
    refine ⟨_, pss_cons (ps_set (i := 1) nd rfl (Or.inl rfl) (pe_call G hr1 (by rfl) gD kD bD .nil pass0 (pa_cons (pv 0) (pa_cons pe_int pa_nil))))
      (pss_cons (ps_if (pt_cmpR op_lt (pv 1) pe_int (nomark _)) (pss_one (ps_ret (pe_ix ix_list (pe_lst (pa_cons pe_int (pa_cons pe_int (pa_cons (pe_un un_neg pe_int) pa_nil)))) (pv 1) (fun _ _ => rfl)))) pss_nil)
      (pss_cons (ps_set (i := 2) nd rfl (Or.inl rfl) (pe_op op_sub pe_int (pe_op op_mul pe_int (pe_call G hr1 (by rfl) gD kD bD .nil pass0 (pa_cons (pv 0) (pa_cons pe_int pa_nil))))))
      (pss_cons (ps_if (pt_cmpR op_lt (pv 1) pe_int (nomark _)) (pss_one (ps_ret (pe_op op_mul (pv 2) (pe_call G hr1 (by rfl) gD kD bD .nil pass0 (pa_cons (pv 0) (pa_cons pe_int pa_nil)))))) pss_nil)
      (pss_cons (ps_if (pt_cmpR op_eq (pv 1) pe_int (nomark _))
        (pss_cons (ps_set (i := 3) nd rfl (Or.inl rfl) pe_int)
        (pss_cons (ps_for PassesOwn.never rfl (pi_range1 rfl T.range (pa_cons (pe_call G hr1 (by rfl) gD kD bD .nil pass0 (pa_cons (pv 0) (pa_cons pe_int pa_nil))) pa_nil)) (pg_name (i := 4) nd rfl (Or.inl rfl))
          (pss_one (ps_set (i := 3) nd rfl (Or.inl rfl) (pe_op op_mulW (pv 3) pe_int))))
        (pss_one (ps_ret (pe_op op_mul (pv 2) (pe_op op_sub (pe_op op_add (pv 3) (pe_call G hr1 (by rfl) gD kD bD .nil pass0 (pa_cons (pv 0) (pa_cons pe_int pa_nil)))) pe_int)))))) pss_nil)
      (pss_one (ps_ret (pe_op op_mul (pv 2) (pe_call GW hr (by rfl) gW kW bW .nil pass0 (pa_cons (pv 0) (pa_cons (pe_op op_add pe_int (pe_call G hr1 (by rfl) gD kD bD .nil pass0 (pa_cons (pv 0) (pa_cons pe_int pa_nil)))) pa_nil)))))))))), ?_⟩
    refine ⟨_, rfl, d, c, st, r, _, cells, rfl, p, h0, by omega, hl, by decide, by decide, fun k1 s1 r1 H1 a1 a2 a3 a4 a5 a6 => ?_⟩
    refine ⟨_, rfl, _, _, rfl, rfl, _, rfl, ?_⟩
    refine ite2 (fun hlt => ?_) (fun hlt => ?_)
    · have hk : k1 < 3 := of_decide_eq_true hlt
      refine ⟨_, rfl, by show 3 ≤ sizeLine; decide, fun l hn => ?_⟩
      refine ⟨_, rfl, l, [V.int 0, V.int 1, V.int (-1)], k1, ?_⟩
      have e : k1 = 0 ∨ k1 = 1 ∨ k1 = 2 := by omega
      have pl := a5.new (o := .lst [V.int 0, V.int 1, V.int (-1)]) hn
      have sb := a6.new (o := .lst [V.int 0, V.int 1, V.int (-1)]) hn
      rcases e with rfl | rfl | rfl
      · exact ⟨.int 0, rfl, rfl, SqL.of upd_same, rfl, q _ _ _ _ (by decide) a3 (by omega) pl sb⟩
      · exact ⟨.int 1, rfl, rfl, SqL.of upd_same, rfl, q _ _ _ _ (by decide) a3 (by omega) pl sb⟩
      · exact ⟨.int (-1), rfl, rfl, SqL.of upd_same, rfl, q _ _ _ _ (by decide) a3 (by omega) pl sb⟩
    refine ⟨_, rfl, d, c, s1, r1, _, cells, rfl, a5, a3, by omega, hl, by decide, by decide, fun k2 s2 r2 H2 b1 b2 b3 b4 b5 b6 => ?_⟩
    obtain ⟨g1, g2, g3⟩ := sgn_b b1 b2
    refine ⟨_, _, rfl, rfl, .inl ⟨by decide, by decide⟩, _, _, rfl, rfl, ?_⟩
    have sb2 := a6.trans b6
    refine ⟨_, rfl, _, _, rfl, rfl, _, rfl, ?_⟩
    refine ite2 (fun hlt => ?_) (fun hlt => ?_)
    · refine ⟨_, rfl, _, rfl, d, c, s2, r2, _, cells, rfl, b5, b3, by omega, hl, by decide, by decide, fun k3 s3 r3 H3 c1 c2 c3 c4 c5 c6 => ?_⟩
      exact ⟨_, _, rfl, rfl, .inl ⟨g1, g2⟩, q _ s3 r3 H3 (sgn_mul g3 (Nat.le_trans (show k3.natAbs ≤ 14 by omega) (by decide))) c3 (by omega) c5 (sb2.trans c6)⟩
    refine ⟨_, rfl, rfl, _, rfl, ?_⟩
    refine ite2 (fun heq => ?_) (fun heq => ?_)
    · refine ⟨_, rfl, d, c, s2, r2, _, cells, rfl, b5, b3, by omega, hl, by decide, by decide, fun k3 s3 r3 H3 c1 c2 c3 c4 c5 c6 => ?_⟩
      refine ⟨k3, rfl, by omega, by omega, ?_⟩
      refine for_range (lo := 0) (n := k3.toNat) (fun i σ H' => H' = H3 ∧ ∃ o : Option V, σ = [some (.ref d), some (.int k1), some (.int (1 - 2 * k2)), some (.int (((10 ^ i : Nat)) : Int)), o]) ⟨rfl, none, rfl⟩ ?_ ?_
      · rintro i σ H' hi ⟨rfl, o, rfl⟩
        have hb : ((((10 ^ i : Nat)) : Int)).natAbs < 2 ^ 240 := by
          rw [Int.natAbs_natCast]
          exact Nat.lt_of_le_of_lt (Nat.pow_le_pow_right (by decide) (show i ≤ 60 by omega)) (by decide +kernel)
        refine ⟨_, rfl, _, _, rfl, rfl, wide_mul (a := 240) (b := 4) hb (by decide) (by decide) (by decide) (by decide), ?_⟩
        refine ⟨rfl, some (.int ((0 : Int) + i)), ?_⟩
        rw [Nat.pow_succ, Int.natCast_mul]
        rfl
      · rintro σ H' ⟨rfl, o, rfl⟩
        refine ⟨_, rfl, _, rfl, _, rfl, d, c, s3, r3, _, cells, rfl, c5, c3, by omega, hl, by decide, by decide, fun k4 s4 r4 H4 d1 d2 d3 d4 d5 d6 => ?_⟩
        refine ⟨_, _, rfl, rfl, _, _, rfl, rfl, _, _, rfl, rfl, .inl ⟨g1, g2⟩, ?_⟩
        refine q _ s4 r4 H4 (sgn_mul g3 ?_) d3 (by omega) d5 ((sb2.trans c6).trans d6)
        have e3 : (10 : Nat) ^ k3.toNat ≤ 10 ^ 60 := Nat.pow_le_pow_right (by decide) (by omega)
        have e4 : (10 : Nat) ^ 60 + 2 ≤ 10 ^ 84 := by decide
        generalize (10 : Nat) ^ k3.toNat = TT at e3 ⊢
        omega
    · refine ⟨_, rfl, _, rfl, _, rfl, d, c, s2, r2, _, cells, rfl, b5, b3, by omega, hl, by decide, by decide, fun k3 s3 r3 H3 c1 c2 c3 c4 c5 c6 => ?_⟩
      refine ⟨_, _, rfl, rfl, ?_⟩
      have ek : (1 : Int) + k3 = (((1 + k3).toNat : Nat) : Int) := by omega
      refine ⟨d, c, s3, r3, (1 + k3).toNat, cells, (by show [V.ref d, V.int (1 + k3)] = _; rw [← ek]), c5, c3, by omega, hl, by omega, fun k4 s4 r4 H4 d1 d2 d3 d4 d5 d6 => ?_⟩
      refine ⟨_, _, rfl, rfl, .inl ⟨g1, g2⟩, q _ s4 r4 H4 (sgn_mul g3 ?_) d3 (by omega) d5 ((sb2.trans c6).trans d6)⟩
      have e1 : (10 : Int) ^ (7 * (1 + k3).toNat) = ((10 ^ (7 * (1 + k3).toNat) : Nat) : Int) := by simp
      have e2' : (10 : Nat) ^ (7 * (1 + k3).toNat) ≤ 10 ^ 84 := Nat.pow_le_pow_right (by decide) (by omega)
      rw [e1] at d2
      omega
end
end K03
end
section
set_option maxHeartbeats 4000000
set_option exponentiation.threshold 100000
namespace K03
open PySem PySem.Spec PyProof.Rows L2
abbrev sInt : Stmt := top 30
abbrev sIs : Stmt := top 31
abbrev sPowered : Stmt := top 38
abbrev sSgn : Stmt := top 40
def spInt : Sp := fun vs H Q _ => ∃ i j : Int, vs = [.int i, .int j] ∧ Q (.bl (decide (i = j))) H
def spIs (C : Addr) : Sp := fun vs H Q _ => ∃ (a dx t : Addr) (p q : Int × Int), vs = [.ref a, .ref t] ∧ H a = some (rat C dx p) ∧ Pair H t q ∧ Q (.bl (decide (p = q))) H
def spSgn : Sp := fun vs H Q _ => ∃ i : Int, vs = [.int i] ∧ Q (.int (sgn i)) H
/-- p to the power of n, part by part -/
def pw (p : Int × Int) (n : Nat) : Int × Int := (p.1 ^ n, p.2 ^ n)
theorem Low.pw {p : Int × Int} (h : Low p) (n : Nat) : Low (pw p n) := by
  refine ⟨Int.pow_pos h.pos, ?_⟩
  show Nat.Coprime (p.1 ^ n).natAbs (p.2 ^ n).natAbs
  rw [Int.natAbs_pow, Int.natAbs_pow]
  exact Nat.Coprime.pow n n h.co
theorem pmul_pw {p : Int × Int} (h : Low p) (n : Nat) : pmul (K03.pw p n) p = K03.pw p (n + 1) := by
  have e := low_self (h.pw (n + 1))
  show low (p.1 ^ n * p.1) (p.2 ^ n * p.2) = _
  rw [← Int.pow_succ, ← Int.pow_succ]
  exact e
theorem ppow_pw {p : Int × Int} (h : Low p) (n : Nat) : ppow p n = K03.pw p n := low_self (h.pw n)
theorem fit_pw {p : Int × Int} (h : Low p) {k n : Nat} (h1 : p.1.natAbs < 2 ^ k) (h2 : p.2.natAbs < 2 ^ k) (hk : k * n ≤ 3999) : Fit (K03.pw p n) :=
  ⟨Nat.lt_of_lt_of_le (pow_lt h1 n) (Nat.pow_le_pow_right (by decide) (by omega)), (h.pw n).pos, Nat.lt_of_lt_of_le (pow_lt h2 n) (Nat.pow_le_pow_right (by decide) (by omega))⟩
def spPowered : Sp := fun vs H Q _ => ∃ (t : Addr) (e : Int) (p : Int × Int) (k : Nat), vs = [.ref t, .int e] ∧ Pair H t p ∧ Low p ∧ p.1.natAbs < 2 ^ k ∧ p.2.natAbs < 2 ^ k ∧ 0 < k ∧ k * e.natAbs ≤ 3999 ∧ k ≤ 3999 ∧
  (e < 0 → p.1 ≠ 0) ∧ NewP H Q (K03.pw (if e < 0 then low p.2 p.1 else p) e.natAbs)
section
variable {P : Program} {w : World} {K : PySem.W.Frag} {mg : Str → Option Value} {base : Heap} {cB cN C fI fD fW fP : Addr} {fdD fdW fdP : FuncData}
theorem scFactor : FnScope ["_law_pen_here", "_law_found"] ["_law_pen_here"] (defScope sFactor) := ⟨rfl, rfl, rfl, by decide +kernel, rfl, by decide +kernel, by decide +kernel⟩
theorem ok_factor {f : Addr} {fd : FuncData} (F : Fun K "_law_factor" "_law_factor" sFactor f fd) (G : FnOk P w K mg base CX0 3 fW fdW ["_law_pen_here"] spWhole) (gW : mg "_law_whole" = some (.ref fW)) (kW : PySem.W.keepIn K (.ref fW) = true) (bW : Binds K fdW ["_law_pen_here"] [])
    (GP : FnOk P w K mg base CX0 2 fP fdP ["_law_pen_here", "_law_some"] spPick) (gP : mg "_law_pick" = some (.ref fP)) (kP : PySem.W.keepIn K (.ref fP) = true) (bP : Binds K fdP ["_law_pen_here", "_law_some"] []) : FnOk P w K mg base CX0 4 f fd ["_law_pen_here"] spFactor := by
  refine F.ok scFactor (fun vs H Q E h => ?_) (fun cdv A outer s H vs Q E hr h => ?_)
  · obtain ⟨d, c, s, r, cells, rfl, _⟩ := h
    rfl
  · obtain ⟨d, c, st, r, cells, rfl, p, h0, h1, hl, q⟩ := h
    have nd := scFactor.nd
    have hr2 : Room 2 _ := hr.mono (by decide)
    refine ⟨_, pss_cons (ps_set (i := 1) nd rfl (Or.inl rfl) (pe_call G hr (by rfl) gW kW bW .nil pass0 (pa_cons (pv 0) pa_nil)))
      (pss_one (ps_ret (pe_ifExp (pt_cmpR op_ne (pv 1) pe_int (nomark _)) (pv 1)
        (pe_call GP hr2 (by rfl) gP kP bP .nil pass0 (pa_cons (pv 0) (pa_cons (pe_lst (pa_cons (pe_un un_neg pe_int) (pa_cons (pe_un un_neg pe_int) (pa_cons pe_int (pa_cons pe_int pa_nil))))) pa_nil)))))), ?_⟩
    refine ⟨_, rfl, d, c, st, r, cells, rfl, p, h0, by omega, hl, fun v s1 r1 H1 a1 a2 a3 a4 a5 => ?_⟩
    refine ⟨_, rfl, rfl, _, rfl, ?_⟩
    refine ite2 (fun hz => ?_) (fun hz => ?_)
    · refine ⟨_, rfl, q v s1 r1 H1 a1 (fun z => ?_) a2 (by omega) a4 a5⟩
      subst z
      exact absurd hz (by decide)
    · refine ⟨_, rfl, _, rfl, _, rfl, by show 4 ≤ sizeLine; decide, fun l hn => ?_⟩
      refine ⟨d, c, l, s1, r1, cells, [V.int (-6), V.int (-1), V.int 2, V.int 15], rfl, a4.new hn, a2, by omega, hl, upd_same, by decide, by decide, fun v s2 r2 H2 b1 b2 b3 b4 b5 => ?_⟩
      have sb := (a5.new (o := .lst [V.int (-6), V.int (-1), V.int 2, V.int 15]) hn).trans b5
      simp only [List.mem_cons, List.not_mem_nil, or_false] at b1
      rcases b1 with rfl | rfl | rfl | rfl <;> exact q _ s2 r2 H2 (by decide) (by decide) b2 (by omega) b4 sb
theorem scInt : FnScope ["_law_told", "_law_due"] ["_law_told", "_law_due"] (defScope sInt) := ⟨rfl, rfl, rfl, by decide +kernel, rfl, by decide +kernel, by decide +kernel⟩
theorem ok_int {f : Addr} {fd : FuncData} (F : Fun K "_law_int" "_law_int" sInt f fd) (T : TxtR mg) : FnOk P w K mg base CX0 1 f fd ["_law_told", "_law_due"] spInt := by
  refine F.ok scInt (fun vs H Q E h => ?_) (fun cdv A outer s H vs Q E hr h => ?_)
  · obtain ⟨i, j, rfl, _⟩ := h
    rfl
  · obtain ⟨i, j, rfl, q⟩ := h
    refine ⟨_, pss_one (ps_ret (pe_and (pe_callB call_isi (by rfl) T.isi (by decide +kernel) (pa_cons (pv 0) (pa_cons (pe_bltn (v := .ty "int") (u := .type "int") (by rfl) T.int (by decide +kernel) rfl) pa_nil)))
      (pe_and (pe_not (pe_callB call_isi (by rfl) T.isi (by decide +kernel) (pa_cons (pv 0) (pa_cons (pe_bltn (v := .ty "bool") (u := .type "bool") (by rfl) T.bool (by decide +kernel) rfl) pa_nil))))
      (pe_one (pe_cmpR op_eq (pv 0) (pv 1) (nomark _)))))), ?_⟩
    refine ⟨_, rfl, _, .ty "int", .type "int", .type "int", true, rfl, .ty _, .base (.int i), kit_ty (by decide +kernel), true, rfl, ?_⟩
    refine ⟨_, rfl, _, .ty "bool", .type "int", .type "bool", false, rfl, .ty _, .base (.int i), kit_ty (by decide +kernel), _, rfl, _, rfl, ?_⟩
    refine ⟨_, rfl, _, rfl, rfl, ?_⟩
    have hd : decide (V.int i = V.int j) = decide (i = j) := by simp
    show Q (.bl (decide (V.int i = V.int j))) H
    rw [hd]
    exact q
theorem scIs : FnScope ["_law_told", "_law_due"] ["_law_told", "_law_due"] (defScope sIs) := ⟨rfl, rfl, rfl, by decide +kernel, rfl, by decide +kernel, by decide +kernel⟩
theorem ok_is {f fi : Addr} {fd fdi : FuncData} (F : Fun K "_law_is" "_law_is" sIs f fd) (T : TxtR mg) (R : Rat P w K mg base cB cN C fI) (G : FnOk P w K mg base CX0 1 fi fdi ["_law_told", "_law_due"] spInt) (gi : mg "_law_int" = some (.ref fi)) (ki : PySem.W.keepIn K (.ref fi) = true) (bi : Binds K fdi ["_law_told", "_law_due"] []) :
    FnOk P w K mg base CX0 2 f fd ["_law_told", "_law_due"] (spIs C) := by
  refine F.ok scIs (fun vs H Q E h => ?_) (fun cdv A outer s H vs Q E hr h => ?_)
  · obtain ⟨a, dx, t, p, q, rfl, _⟩ := h
    rfl
  · obtain ⟨a, dx, t, p, q, rfl, ha, ht, k⟩ := h
    refine ⟨_, pss_one (ps_ret (pe_and (pe_callB call_isi (by rfl) T.isi (by decide +kernel) (pa_cons (pv 0) (pa_cons (pe_glob (v := .ref C) (by rfl) R.cls.g rfl) pa_nil)))
      (pe_and (pe_call G hr (by rfl) gi ki bi .nil pass0 (pa_cons (pe_fld (pv 0) rfl) (pa_cons (pe_ix ix_tup (pv 1) pe_int (fun _ _ => rfl)) pa_nil)))
      (pe_one (pe_call G hr (by rfl) gi ki bi .nil pass0 (pa_cons (pe_fld (pv 0) rfl) (pa_cons (pe_ix ix_tup (pv 1) pe_int (fun _ _ => rfl)) pa_nil))))))), ?_⟩
    refine ⟨_, rfl, _, .ref C, .ref C, .ref C, true, rfl, .own C, R.tyx H a dx _ ha, kit_me, true, rfl, ?_⟩
    refine ⟨_, rfl, a, C, dx, _, _, rfl, ha, R.cls.c, R.cls.nT, lkT, _, rfl, t, _, _, _, rfl, rfl, SqT.of ht, rfl, p.1, q.1, rfl, _, rfl, ?_⟩
    refine ite2 (fun h1 => ?_) (fun h1 => ?_)
    · have e1 : p.1 = q.1 := of_decide_eq_true h1
      refine ⟨_, rfl, a, C, dx, _, _, rfl, ha, R.cls.c, R.cls.nB, lkBt, _, rfl, t, _, _, _, rfl, rfl, SqT.of ht, rfl, p.2, q.2, rfl, ?_⟩
      have e2 : decide (p.2 = q.2) = decide (p = q) := by
        have : (p = q) ↔ (p.2 = q.2) := ⟨fun z => by rw [z], fun z => Prod.ext e1 z⟩
        simp [this]
      show Q (.bl (decide (p.2 = q.2))) H
      rw [e2]
      exact k
    · have e1 : ¬ p.1 = q.1 := fun z => h1 (decide_eq_true z)
      have e2 : decide (p = q) = false := decide_eq_false fun z => e1 (by rw [z])
      rw [e2] at k
      exact k
theorem scSgn : FnScope ["_law_number"] ["_law_number"] (defScope sSgn) := ⟨rfl, rfl, rfl, by decide +kernel, rfl, by decide +kernel, by decide +kernel⟩
theorem ok_sgn {f : Addr} {fd : FuncData} (F : Fun K "_law_sign" "_law_sign" sSgn f fd) (T : TxtR mg) : FnOk P w K mg base CX0 1 f fd ["_law_number"] spSgn := by
  refine F.ok scSgn (fun vs H Q E h => ?_) (fun cdv A outer s H vs Q E hr h => ?_)
  · obtain ⟨i, rfl, _⟩ := h
    rfl
  · obtain ⟨i, rfl, q⟩ := h
    refine ⟨_, pss_one (ps_ret (pe_op op_sub (pe_callTy call_int1 (by rfl) T.int (by decide +kernel) (pa_cons (pe_cmpR op_gt (pv 0) pe_int (nomark _)) pa_nil)) (pe_callTy call_int1 (by rfl) T.int (by decide +kernel) (pa_cons (pe_cmpR op_lt (pv 0) pe_int (nomark _)) pa_nil)))), ?_⟩
    refine ⟨_, rfl, _, _, rfl, rfl, .inr ⟨_, rfl, ?_⟩⟩
    refine ⟨_, rfl, _, _, rfl, rfl, .inr ⟨_, rfl, ?_⟩⟩
    exact ⟨_, _, rfl, rfl, q⟩
theorem scPowered : FnScope ["_law_one", "_law_many", "_law_base", "_law_found", "_law_k"] ["_law_one", "_law_many"] (defScope sPowered) := ⟨rfl, rfl, rfl, by decide +kernel, rfl, by decide +kernel, by decide +kernel⟩
end
end K03
end
section
set_option maxHeartbeats 4000000
set_option exponentiation.threshold 100000
namespace K03
open PySem PySem.Spec PyProof.Rows L2
theorem NewP.got {H H1 H' : Hp} {Q : VK} {p : Int × Int} (h : NewP H Q p) {v : Addr} (s : Same H H1) (hv : H v = none) (s' : Same H1 H') (pv : Pair H' v p) : Q (.ref v) H' := h v H' hv (s.trans s') pv
theorem none_of {H H' : Hp} {b : Addr} (s : Same H H') (h : H' b = none) : H b = none := by
  cases z : H b with
  | none => rfl
  | some o => rw [s _ _ z] at h; cases h
section
variable {P : Program} {w : World} {K : PySem.W.Frag} {mg : Str → Option Value} {base : Heap} {cB cN C fI fD fW fP : Addr} {fdD fdW fdP : FuncData}
theorem ok_powered {f fT fM : Addr} {fd fdT fdM : FuncData} (F : Fun K "_law_powered" "_law_powered" sPowered f fd) (T : TxtR mg) (GT : FnOk P w K mg base CX0 3 fT fdT ["_law_one"] spTurn) (gT : mg "_law_turn" = some (.ref fT)) (kT : PySem.W.keepIn K (.ref fT) = true) (bT : Binds K fdT ["_law_one"] [])
    (GM : FnOk P w K mg base CX0 3 fM fdM ["_law_one", "_law_other"] spTimes) (gM : mg "_law_times" = some (.ref fM)) (kM : PySem.W.keepIn K (.ref fM) = true) (bM : Binds K fdM ["_law_one", "_law_other"] []) : FnOk P w K mg base CX0 4 f fd ["_law_one", "_law_many"] spPowered := by
  refine F.ok scPowered (fun vs H Q E h => ?_) (fun cdv A outer s H vs Q E hr h => ?_)
  · obtain ⟨t, e, p, k, rfl, _⟩ := h
    rfl
  · obtain ⟨t, e, p, k, rfl, hp, hl, b1, b2, hk, hke, hk2, hz, q⟩ := h
    have nd := scPowered.nd
    refine ⟨_, pss_cons (ps_set (i := 2) nd rfl (Or.inl rfl) (pe_ifExp (pt_cmpR op_lt (pv 1) pe_int (nomark _)) (pe_call GT hr (by rfl) gT kT bT .nil pass0 (pa_cons (pv 0) pa_nil)) (pv 0)))
      (pss_cons (ps_set (i := 3) nd rfl (Or.inl rfl) (pe_tup (pa_cons pe_int (pa_cons pe_int pa_nil))))
      (pss_cons (ps_for PassesOwn.never rfl (pi_range1 rfl T.range (pa_cons (pe_callB call_abs (by rfl) T.abs (by decide +kernel) (pa_cons (pv 1) pa_nil)) pa_nil)) (pg_name (i := 4) nd rfl (Or.inl rfl))
        (pss_one (ps_set (i := 3) nd rfl (Or.inl rfl) (pe_call GM hr (by rfl) gM kM bM .nil pass0 (pa_cons (pv 3) (pa_cons (pv 2) pa_nil))))))
      (pss_one (ps_ret (pv 3))))), ?_⟩
    refine ⟨_, rfl, _, _, rfl, rfl, _, rfl, ?_⟩
    have en : e.natAbs ≤ 3999 := Nat.le_trans (Nat.le_mul_of_pos_left _ hk) hke
    have m1 : (1 : Int).natAbs < 2 ^ 4000 := Nat.one_lt_two_pow (by decide)
    have z0 : ∀ b : Int × Int, K03.pw b 0 = (1, 1) := fun b => by simp [K03.pw]
    refine ite2 (fun hneg => ?_) (fun hneg => ?_)
    · have he : e < 0 := of_decide_eq_true hneg
      rw [if_pos he] at q
      have h0 := hz he
      have ab := low_abs (t := p.2) (b := p.1)
      refine ⟨_, rfl, t, p, rfl, hp, h0, Nat.lt_of_lt_of_le b1 (Nat.pow_le_pow_right (by decide) (by omega)), fun u H1 hu s1 pu => ?_⟩
      refine ⟨by show 2 ≤ sizeLine; decide, fun g hg => ?_⟩
      refine ⟨_, rfl, _, rfl, ?_⟩
      rw [abs_cast]
      have ll := low_low (t := p.2) h0
      refine ⟨_, rfl, by omega, by omega, ?_⟩
      refine for_range (lo := 0) (n := e.natAbs) (fun i σ H' => ∃ (v : Addr) (o : Option V), σ = [some (.ref t), some (.int e), some (.ref u), some (.ref v), o] ∧ Same H1 H' ∧ H v = none ∧ Pair H' v (K03.pw (low p.2 p.1) i)) ⟨g, none, rfl, Same.new (fun _ _ z => z) hg, none_of s1 hg, (by rw [z0]; exact upd_same)⟩ ?_ ?_
      · rintro i σ H' hi ⟨v, o, rfl, s', nv, pv'⟩
        refine ⟨_, rfl, _, rfl, v, u, _, _, rfl, pv', s' _ _ pu, fit_pw ll (Nat.lt_of_le_of_lt ab.1 b2) (Nat.lt_of_le_of_lt ab.2 b1) (Nat.le_trans (Nat.mul_le_mul_left k (Nat.le_of_lt hi)) hke), (⟨Nat.lt_of_lt_of_le (Nat.lt_of_le_of_lt ab.1 b2) (Nat.pow_le_pow_right (by decide) (by omega)), ll.pos, Nat.lt_of_lt_of_le (Nat.lt_of_le_of_lt ab.2 b1) (Nat.pow_le_pow_right (by decide) (by omega))⟩), fun v2 H2 h2 s2 p2 => ?_⟩
        rw [pmul_pw ll] at p2
        exact ⟨v2, _, rfl, s'.trans s2, none_of (s1.trans s') h2, p2⟩
      · rintro σ H' ⟨v, o, rfl, s', nv, pv'⟩
        exact ⟨_, rfl, q.got s1 nv s' pv'⟩
    · have he : ¬ e < 0 := fun z => hneg (decide_eq_true z)
      rw [if_neg he] at q
      refine ⟨_, rfl, by show 2 ≤ sizeLine; decide, fun g hg => ?_⟩
      refine ⟨_, rfl, _, rfl, ?_⟩
      rw [abs_cast]
      refine ⟨_, rfl, by omega, by omega, ?_⟩
      refine for_range (lo := 0) (n := e.natAbs) (fun i σ H' => ∃ (v : Addr) (o : Option V), σ = [some (.ref t), some (.int e), some (.ref t), some (.ref v), o] ∧ Same H H' ∧ H v = none ∧ Pair H' v (K03.pw p i)) ⟨g, none, rfl, Same.new (fun _ _ z => z) hg, hg, (by rw [z0]; exact upd_same)⟩ ?_ ?_
      · rintro i σ H' hi ⟨v, o, rfl, s', nv, pv'⟩
        refine ⟨_, rfl, _, rfl, v, t, _, _, rfl, pv', s' _ _ hp, fit_pw hl b1 b2 (Nat.le_trans (Nat.mul_le_mul_left k (Nat.le_of_lt hi)) hke), (⟨Nat.lt_of_lt_of_le b1 (Nat.pow_le_pow_right (by decide) (by omega)), hl.pos, Nat.lt_of_lt_of_le b2 (Nat.pow_le_pow_right (by decide) (by omega))⟩), fun v2 H2 h2 s2 p2 => ?_⟩
        rw [pmul_pw hl] at p2
        exact ⟨v2, _, rfl, s'.trans s2, none_of s' h2, p2⟩
      · rintro σ H' ⟨v, o, rfl, s', nv, pv'⟩
        exact ⟨_, rfl, q.got (fun _ _ z => z) nv s' pv'⟩
end
end K03
end
section
set_option maxHeartbeats 4000000
set_option exponentiation.threshold 100000
namespace K03
open PySem PySem.Spec PyProof.Rows L2
abbrev sBeside : Stmt := top 37
/-- a pair as it is drawn -/
structure Drawn0 (n : Nat) (p : Int × Int) : Prop where
  l : Low p
  t : p.1.natAbs ≤ n
  b : p.2.natAbs ≤ n
def big1 : Nat := 10 ^ 84 + 1
def big2 : Nat := 10 ^ 170
def spBeside : Sp := fun vs H Q _ => ∃ (d c t : Addr) (s r : Int) (cells : List Int) (p : Int × Int), vs = [.ref d, .ref t] ∧ PenAt H d c s r cells ∧ 0 ≤ s ∧ s + 200 ≤ 100000 ∧ cells.length ≤ 63 ∧ Pair H t p ∧ Drawn0 big1 p ∧
  ∀ (u : Addr) (q : Int × Int) (s' r' : Int) (H' : Hp), Drawn0 big2 q → 0 ≤ s' → s' ≤ s + 50 → PenAt H' d c s' r' cells → SameBut d H H' → Pair H' u q → Q (.ref u) H'
theorem b84 : (10 : Nat) ^ 84 + 1 < 2 ^ 9000 := by decide +kernel
theorem big1_le : big1 ≤ big2 := by decide
theorem sz84 {v : Int} (h : v.natAbs ≤ 10 ^ 84) : Sz (1 + ((v.natAbs : Nat) : Int)) := Nat.lt_of_le_of_lt (show (1 + ((v.natAbs : Nat) : Int)).natAbs ≤ 10 ^ 84 + 1 by omega) b84
theorem drawn_low {a b : Int} {n : Nat} (h0 : b ≠ 0) (ha : a.natAbs ≤ n) (hb : b.natAbs ≤ n) : Drawn0 n (low a b) := ⟨low_low h0, Nat.le_trans low_abs.1 ha, Nat.le_trans low_abs.2 hb⟩
theorem PenAt.same {H H' : Hp} {d c : Addr} {s r : Int} {cells : List Int} (p : PenAt H d c s r cells) (e : Same H H') : PenAt H' d c s r cells := ⟨e _ _ p.dc, e _ _ p.ls⟩
theorem Pair.but {d : Addr} {H H' : Hp} {t c : Addr} {s r : Int} {cells : List Int} {p : Int × Int} (h : Pair H t p) (pe : PenAt H d c s r cells) (e : SameBut d H H') : Pair H' t p := e _ _ h (ne_of h pe.dc (by intro z; cases z))
section
variable {P : Program} {w : World} {K : PySem.W.Frag} {mg : Str → Option Value} {base : Heap} {fD fW fL fM fT : Addr} {fdD fdW fdL fdM fdT : FuncData}
theorem scBeside : FnScope ["_law_pen_here", "_law_one", "_law_way", "_law_far"] ["_law_pen_here", "_law_one"] (defScope sBeside) := ⟨rfl, rfl, rfl, by decide +kernel, rfl, by decide +kernel, by decide +kernel⟩
theorem ok_beside {f : Addr} {fd : FuncData} (F : Fun K "_law_beside" "_law_beside" sBeside f fd) (T : TxtR mg) (G : FnOk P w K mg base CX0 1 fD fdD ["_law_pen_here", "_law_many"] spDraw) (gD : mg "_law_draw" = some (.ref fD)) (kD : PySem.W.keepIn K (.ref fD) = true) (bD : Binds K fdD ["_law_pen_here", "_law_many"] [])
    (GW : FnOk P w K mg base CX0 3 fW fdW ["_law_pen_here"] spWhole) (gW : mg "_law_whole" = some (.ref fW)) (kW : PySem.W.keepIn K (.ref fW) = true) (bW : Binds K fdW ["_law_pen_here"] [])
    (GL : FnOk P w K mg base CX0 2 fL fdL ["_law_above", "_law_below"] spLowest) (gL : mg "_law_lowest" = some (.ref fL)) (kL : PySem.W.keepIn K (.ref fL) = true) (bL : Binds K fdL ["_law_above", "_law_below"] [])
    (GM : FnOk P w K mg base CX0 1 fM fdM ["_law_one"] spMinus) (gM : mg "_law_minus" = some (.ref fM)) (kM : PySem.W.keepIn K (.ref fM) = true) (bM : Binds K fdM ["_law_one"] [])
    (GT : FnOk P w K mg base CX0 3 fT fdT ["_law_one"] spTurn) (gT : mg "_law_turn" = some (.ref fT)) (kT : PySem.W.keepIn K (.ref fT) = true) (bT : Binds K fdT ["_law_one"] []) : FnOk P w K mg base CX0 4 f fd ["_law_pen_here", "_law_one"] spBeside := by
  refine F.ok scBeside (fun vs H Q E h => ?_) (fun cdv A outer s H vs Q E hr h => ?_)
  · obtain ⟨d, c, t, s, r, cells, p, rfl, _⟩ := h
    rfl
  · obtain ⟨d, c, t, st, r, cells, p, rfl, pn, h0, h1, hl, hp, dp, q⟩ := h
    have nd := scBeside.nd
    have hr1 : Room 1 _ := hr.mono (by decide)
    have hr2 : Room 2 _ := hr.mono (by decide)
    refine ⟨_, pss_cons (ps_set (i := 2) nd rfl (Or.inl rfl) (pe_call G hr1 (by rfl) gD kD bD .nil pass0 (pa_cons (pv 0) (pa_cons pe_int pa_nil))))
      (pss_cons (ps_if (pt_cmpR op_lt (pv 2) pe_int (nomark _)) (pss_one (ps_ret (pe_call GL hr2 (by rfl) gL kL bL .nil pass0 (pa_cons (pe_call GW hr (by rfl) gW kW bW .nil pass0 (pa_cons (pv 0) pa_nil))
          (pa_cons (pe_op op_add pe_int (pe_callB call_abs (by rfl) T.abs (by decide +kernel) (pa_cons (pe_call GW hr (by rfl) gW kW bW .nil pass0 (pa_cons (pv 0) pa_nil)) pa_nil))) pa_nil))))) pss_nil)
      (pss_cons (ps_if (pt_cmpR op_eq (pv 2) pe_int (nomark _)) (pss_one (ps_ret (pv 1))) pss_nil)
      (pss_cons (ps_if (pt_cmpR op_eq (pv 2) pe_int (nomark _)) (pss_one (ps_ret (pe_call GM hr1 (by rfl) gM kM bM .nil pass0 (pa_cons (pv 1) pa_nil)))) pss_nil)
      (pss_cons (ps_if (PW.pt (pw_and (pt_cmpR op_eq (pv 2) pe_int (nomark _)) (pw_and1 (pt_cmpR op_ne (pe_ix ix_tup (pv 1) pe_int (fun _ _ => rfl)) pe_int (nomark _))))) (pss_one (ps_ret (pe_call GT hr (by rfl) gT kT bT .nil pass0 (pa_cons (pv 1) pa_nil)))) pss_nil)
      (pss_cons (ps_if (pt_cmpR op_eq (pv 2) pe_int (nomark _)) (pss_one (ps_ret (pe_tup (pa_cons (pe_call GW hr (by rfl) gW kW bW .nil pass0 (pa_cons (pv 0) pa_nil)) (pa_cons pe_int pa_nil))))) pss_nil)
      (pss_cons (ps_set (i := 3) nd rfl (Or.inl rfl) (pe_op op_add pe_int (pe_callB call_abs (by rfl) T.abs (by decide +kernel) (pa_cons (pe_call GW hr (by rfl) gW kW bW .nil pass0 (pa_cons (pv 0) pa_nil)) pa_nil))))
      (pss_one (ps_ret (pe_call GL hr2 (by rfl) gL kL bL .nil pass0 (pa_cons (pe_op op_sub (pe_op op_add (pe_op op_mulW (pe_ix ix_tup (pv 1) pe_int (fun _ _ => rfl)) (pv 3)) (pe_call G hr1 (by rfl) gD kD bD .nil pass0 (pa_cons (pv 0) (pa_cons pe_int pa_nil)))) pe_int)
          (pa_cons (pe_op op_mulW (pe_ix ix_tup (pv 1) pe_int (fun _ _ => rfl)) (pv 3)) pa_nil))))))))))), ?_⟩
    have B1 : big1 = 10 ^ 84 + 1 := rfl
    have B2 : (10 ^ 84 + 1) * (10 ^ 84 + 1) + 2 ≤ big2 := by decide
    refine ⟨_, rfl, d, c, st, r, _, cells, rfl, pn, h0, by omega, hl, by decide, by decide, fun k s1 r1 H1 a1 a2 a3 a4 a5 a6 => ?_⟩
    have hp1 : Pair H1 t p := hp.but pn a6
    refine ⟨_, rfl, _, _, rfl, rfl, _, rfl, ?_⟩
    refine ite2 (fun _ => ?_) (fun _ => ?_)
    · refine ⟨_, rfl, d, c, s1, r1, cells, rfl, a5, a3, by omega, hl, fun v s2 r2 H2 b1 b2 b3 b4 b5 => ?_⟩
      refine ⟨_, rfl, d, c, s2, r2, cells, rfl, b4, b2, by omega, hl, fun u s3 r3 H3 c1 c2 c3 c4 c5 => ?_⟩
      refine ⟨_, rfl, ?_⟩
      rw [abs_cast]
      refine ⟨_, _, rfl, rfl, v, _, rfl, by show (1 : Int) + ((u.natAbs : Nat) : Int) ≠ 0; omega, sz84 c1, fun g H4 hg s4 pg => ?_⟩
      exact q g _ s3 r3 H4 (drawn_low (by show (1 : Int) + ((u.natAbs : Nat) : Int) ≠ 0; omega) (by omega) (by show (1 + ((u.natAbs : Nat) : Int)).natAbs ≤ big2; omega)) c2 (by omega) (c4.same s4) ((a6.trans b5).trans (c5.trans (SameBut.of s4))) pg
    refine ⟨_, rfl, rfl, _, rfl, ?_⟩
    refine ite2 (fun _ => ?_) (fun _ => ?_)
    · exact ⟨_, rfl, q t p s1 r1 H1 ⟨dp.l, Nat.le_trans dp.t big1_le, Nat.le_trans dp.b big1_le⟩ a3 (by omega) a5 a6 hp1⟩
    refine ⟨_, rfl, rfl, _, rfl, ?_⟩
    refine ite2 (fun _ => ?_) (fun _ => ?_)
    · refine ⟨_, rfl, t, p, rfl, hp1, fun g H2 hg s2 pg => ?_⟩
      refine q g (-p.1, p.2) s1 r1 H2 ⟨⟨dp.l.pos, ?_⟩, ?_, Nat.le_trans dp.b big1_le⟩ a3 (by omega) (a5.same s2) (a6.trans (SameBut.of s2)) pg
      · show Nat.Coprime (-p.1).natAbs p.2.natAbs
        rw [Int.natAbs_neg]
        exact dp.l.co
      · show (-p.1).natAbs ≤ big2
        rw [Int.natAbs_neg]
        exact Nat.le_trans dp.t big1_le
    refine ⟨_, rfl, rfl, _, rfl, ?_⟩
    refine ite2 (fun _ => ?_) (fun _ => iteF ?_)
    · refine ⟨_, rfl, t, _, _, _, rfl, rfl, SqT.of hp1, rfl, rfl, _, rfl, ?_⟩
      refine ite2 (fun hz => ?_) (fun hz => ?_)
      · have h0' : p.1 ≠ 0 := fun z => by
          rw [z] at hz
          exact absurd hz (by decide)
        refine ⟨_, rfl, t, p, rfl, hp1, h0', Nat.lt_of_le_of_lt dp.t b84, fun g H2 hg s2 pg => ?_⟩
        exact q g _ s1 r1 H2 (drawn_low h0' (Nat.le_trans dp.b big1_le) (Nat.le_trans dp.t big1_le)) a3 (by omega) (a5.same s2) (a6.trans (SameBut.of s2)) pg
      · refine ⟨_, rfl, rfl, _, rfl, ?_⟩
        refine ite2 (fun _ => ?_) (fun _ => ?_)
        · refine ⟨_, rfl, d, c, s1, r1, cells, rfl, a5, a3, by omega, hl, fun v s2 r2 H2 b1 b2 b3 b4 b5 => ⟨by show 2 ≤ sizeLine; decide, fun g hg => ?_⟩⟩
          exact q g (v, 1) s2 r2 _ ⟨⟨by show (0 : Int) < 1; decide, Nat.coprime_one_right _⟩, Nat.le_trans b1 (by decide), by show (1 : Int).natAbs ≤ big2; decide⟩ b2 (by omega) (b4.new hg) ((a6.trans b5).new hg) upd_same
        refine ⟨_, rfl, d, c, s1, r1, cells, rfl, a5, a3, by omega, hl, fun v s2 r2 H2 b1 b2 b3 b4 b5 => ?_⟩
        refine ⟨_, rfl, ?_⟩
        rw [abs_cast]
        have hf : (1 + ((v.natAbs : Nat) : Int)).natAbs ≤ 10 ^ 84 + 1 := by omega
        have hf0 : (1 + ((v.natAbs : Nat) : Int)) ≠ 0 := by omega
        have hp2 : Pair H2 t p := hp1.but a5 b5
        have lim : (10 : Nat) ^ 84 + 1 < 2 ^ 4000 := by decide +kernel
        have m1 : (p.1 * (1 + ((v.natAbs : Nat) : Int))).natAbs ≤ (10 ^ 84 + 1) * (10 ^ 84 + 1) := by rw [Int.natAbs_mul]; exact Nat.mul_le_mul dp.t hf
        have m2 : (p.2 * (1 + ((v.natAbs : Nat) : Int))).natAbs ≤ (10 ^ 84 + 1) * (10 ^ 84 + 1) := by rw [Int.natAbs_mul]; exact Nat.mul_le_mul dp.b hf
        refine ⟨_, _, rfl, rfl, ?_⟩
        refine ⟨_, rfl, t, _, _, _, rfl, rfl, SqT.of hp2, rfl, _, rfl, _, _, rfl, rfl, sz_mul (Nat.lt_of_le_of_lt dp.t lim) (Nat.lt_of_le_of_lt hf lim), ?_⟩
        refine ⟨_, rfl, d, c, s2, r2, _, cells, rfl, b4, b2, by omega, hl, by decide, by decide, fun k2 s3 r3 H3 c1 c2 c3 c4 c5 c6 => ?_⟩
        refine ⟨_, _, rfl, rfl, _, _, rfl, rfl, ?_⟩
        have hp3 : Pair H3 t p := hp2.but b4 c6
        refine ⟨_, rfl, t, _, _, _, rfl, rfl, SqT.of hp3, rfl, _, rfl, _, _, rfl, rfl, sz_mul (Nat.lt_of_le_of_lt dp.b lim) (Nat.lt_of_le_of_lt hf lim), ?_⟩
        have nz : p.2 * (1 + ((v.natAbs : Nat) : Int)) ≠ 0 := Int.mul_ne_zero (Int.ne_of_gt dp.l.pos) hf0
        have lim2 : (10 ^ 84 + 1) * (10 ^ 84 + 1) < 2 ^ 9000 := by decide +kernel
        refine ⟨_, _, rfl, nz, Nat.lt_of_le_of_lt m2 lim2, fun g H4 hg s4 pg => ?_⟩
        exact q g _ s3 r3 H4 (drawn_low nz (Nat.le_trans (show (p.1 * (1 + ((v.natAbs : Nat) : Int)) + k2 - 1).natAbs ≤ (10 ^ 84 + 1) * (10 ^ 84 + 1) + 2 by omega) B2) (Nat.le_trans m2 (Nat.le_trans (Nat.le_add_right _ _) B2))) c3 (by omega) (c5.same s4) (((a6.trans b5).trans c6).trans (SameBut.of s4)) pg
    · refine ⟨_, rfl, rfl, _, rfl, ?_⟩
      refine ite2 (fun _ => ?_) (fun _ => ?_)
      · refine ⟨_, rfl, d, c, s1, r1, cells, rfl, a5, a3, by omega, hl, fun v s2 r2 H2 b1 b2 b3 b4 b5 => ⟨by show 2 ≤ sizeLine; decide, fun g hg => ?_⟩⟩
        exact q g (v, 1) s2 r2 _ ⟨⟨by show (0 : Int) < 1; decide, Nat.coprime_one_right _⟩, Nat.le_trans b1 (by decide), by show (1 : Int).natAbs ≤ big2; decide⟩ b2 (by omega) (b4.new hg) ((a6.trans b5).new hg) upd_same
      refine ⟨_, rfl, d, c, s1, r1, cells, rfl, a5, a3, by omega, hl, fun v s2 r2 H2 b1 b2 b3 b4 b5 => ?_⟩
      refine ⟨_, rfl, ?_⟩
      rw [abs_cast]
      have hf : (1 + ((v.natAbs : Nat) : Int)).natAbs ≤ 10 ^ 84 + 1 := by omega
      have hf0 : (1 + ((v.natAbs : Nat) : Int)) ≠ 0 := by omega
      have hp2 : Pair H2 t p := hp1.but a5 b5
      have lim : (10 : Nat) ^ 84 + 1 < 2 ^ 4000 := by decide +kernel
      have m1 : (p.1 * (1 + ((v.natAbs : Nat) : Int))).natAbs ≤ (10 ^ 84 + 1) * (10 ^ 84 + 1) := by rw [Int.natAbs_mul]; exact Nat.mul_le_mul dp.t hf
      have m2 : (p.2 * (1 + ((v.natAbs : Nat) : Int))).natAbs ≤ (10 ^ 84 + 1) * (10 ^ 84 + 1) := by rw [Int.natAbs_mul]; exact Nat.mul_le_mul dp.b hf
      refine ⟨_, _, rfl, rfl, ?_⟩
      refine ⟨_, rfl, t, _, _, _, rfl, rfl, SqT.of hp2, rfl, _, rfl, _, _, rfl, rfl, sz_mul (Nat.lt_of_le_of_lt dp.t lim) (Nat.lt_of_le_of_lt hf lim), ?_⟩
      refine ⟨_, rfl, d, c, s2, r2, _, cells, rfl, b4, b2, by omega, hl, by decide, by decide, fun k2 s3 r3 H3 c1 c2 c3 c4 c5 c6 => ?_⟩
      refine ⟨_, _, rfl, rfl, _, _, rfl, rfl, ?_⟩
      have hp3 : Pair H3 t p := hp2.but b4 c6
      refine ⟨_, rfl, t, _, _, _, rfl, rfl, SqT.of hp3, rfl, _, rfl, _, _, rfl, rfl, sz_mul (Nat.lt_of_le_of_lt dp.b lim) (Nat.lt_of_le_of_lt hf lim), ?_⟩
      have nz : p.2 * (1 + ((v.natAbs : Nat) : Int)) ≠ 0 := Int.mul_ne_zero (Int.ne_of_gt dp.l.pos) hf0
      have lim2 : (10 ^ 84 + 1) * (10 ^ 84 + 1) < 2 ^ 9000 := by decide +kernel
      refine ⟨_, _, rfl, nz, Nat.lt_of_le_of_lt m2 lim2, fun g H4 hg s4 pg => ?_⟩
      exact q g _ s3 r3 H4 (drawn_low nz (Nat.le_trans (show (p.1 * (1 + ((v.natAbs : Nat) : Int)) + k2 - 1).natAbs ≤ (10 ^ 84 + 1) * (10 ^ 84 + 1) + 2 by omega) B2) (Nat.le_trans m2 (Nat.le_trans (Nat.le_add_right _ _) B2))) c3 (by omega) (c5.same s4) (((a6.trans b5).trans c6).trans (SameBut.of s4)) pg
end
end K03
end
section
set_option maxHeartbeats 4000000
set_option exponentiation.threshold 100000
namespace K03
open PySem PySem.Spec PyProof.Rows L2
/-- a block by what holds between -/
theorem seq_by {t1 t2 : TS} {D : Ends} {σ : L2.St} {H : Hp} (M : L2.St → Hp → Prop) (h1 : ∀ K : L2.St → Hp → Prop, (∀ σ' H', M σ' H' → K σ' H') → t1 { nx := K, rt := D.rt, bk := D.bk, ct := D.ct } σ H) (h2 : ∀ σ' H', M σ' H' → t2 D σ' H') : tSeq t1 t2 D σ H := h1 _ h2
abbrev sSums : Stmt := top 39
theorem psub_eq (p q : Int × Int) : padd p (-q.1, q.2) = psub p q := by
  show low (p.1 * q.2 + -q.1 * p.2) (p.2 * q.2) = low (p.1 * q.2 - q.1 * p.2) (p.2 * q.2)
  rw [Int.neg_mul, Int.sub_eq_add_neg]
theorem padd_comm (p q : Int × Int) : padd p q = padd q p := by
  show low (p.1 * q.2 + q.1 * p.2) (p.2 * q.2) = low (q.1 * p.2 + p.1 * q.2) (q.2 * p.2)
  rw [Int.add_comm, Int.mul_comm p.2]
theorem pmul_comm (p q : Int × Int) : pmul p q = pmul q p := by
  show low (p.1 * q.1) (p.2 * q.2) = low (q.1 * p.1) (q.2 * p.2)
  rw [Int.mul_comm p.1, Int.mul_comm p.2]
theorem Fit.neg {p : Int × Int} (h : Fit p) : Fit (-p.1, p.2) := ⟨by show (-p.1).natAbs < _; rw [Int.natAbs_neg]; exact h.t, h.pos, h.b⟩
theorem Low.neg {p : Int × Int} (h : Low p) : Low (-p.1, p.2) := ⟨h.pos, by show Nat.Coprime (-p.1).natAbs _; rw [Int.natAbs_neg]; exact h.co⟩
theorem Low.abs {p : Int × Int} (h : Low p) : Low (if p.1 < 0 then -p.1 else p.1, p.2) := by
  split
  · exact h.neg
  · exact h
theorem Pair.same2 {H H' : Hp} {t : Addr} {p : Int × Int} (h : Pair H t p) (s : Same H H') : Pair H' t p := s _ _ h
theorem lkZ {u v : V} : ([("top", u), ("bottom", v)] : List (Str × V)).lookup ("size" : Str) = none := by
  have e : (("size" : Str) == "top") = false := by decide +kernel
  have e2 : (("size" : Str) == "bottom") = false := by decide +kernel
  simp [List.lookup, e, e2]
def RowOk (C : Addr) (H : Hp) (t : Addr) : Prop := ∃ (a dx u : Addr) (r : Int × Int), H t = some (.tup [.ref a, .ref u]) ∧ H a = some (rat C dx r) ∧ Pair H u r
theorem RowOk.same {C : Addr} {H H' : Hp} {t : Addr} (h : RowOk C H t) (s : Same H H') : RowOk C H' t := by
  obtain ⟨a, dx, u, r, h1, h2, h3⟩ := h
  exact ⟨a, dx, u, r, s _ _ h1, s _ _ h2, s _ _ h3⟩
theorem RowOk.new {C : Addr} {H1 H2 : Hp} {a dx u t : Addr} {r r' : Int × Int} (e : H1 a = some (rat C dx r)) (s : Same H1 H2) (pu : Pair H2 u r') (er : r = r') (ht : H2 t = none) : RowOk C (upd H2 t (.tup [.ref a, .ref u])) t := by
  subst er
  exact ⟨a, dx, u, r, upd_same, by rw [upd_ne (ne_of_none (s _ _ e) ht)]; exact s _ _ e, by unfold Pair; rw [upd_ne (ne_of_none pu ht)]; exact pu⟩
def RowsOk (C : Addr) (H : Hp) (l : Addr) (n : Nat) : Prop := ∃ ts : List Addr, H l = some (.lst (ts.map V.ref)) ∧ ts.length = n ∧ ∀ t ∈ ts, RowOk C H t
theorem RowsOk.same {C : Addr} {H H' : Hp} {l : Addr} {n : Nat} (h : RowsOk C H l n) (s : Same H H') : RowsOk C H' l n := by
  obtain ⟨ts, h1, h2, h3⟩ := h
  exact ⟨ts, s _ _ h1, h2, fun t m => (h3 t m).same s⟩
def spSums (C : Addr) : Sp := fun vs H Q _ => ∃ (a da b db t u : Addr) (w : Int) (p q : Int × Int), vs = [.ref a, .ref b, .int w, .ref t, .ref u] ∧ H a = some (rat C da p) ∧ H b = some (rat C db q) ∧ Pair H t p ∧ Pair H u q ∧ Fit p ∧ Fit q ∧ Low p ∧ Low q ∧ Fit (w, 1) ∧
  ∀ H', Same H H' → Q (.bl true) H'
/-- the class's operators, as they stand -/
structure OpsR (P : Program) (w : World) (K : PySem.W.Frag) (mg : Str → Option Value) (base : Heap) (cB cN C : Addr) : Prop where
  add : ∃ f g fd gd, OpC K C f g .Add ∧ FnOk P w K mg base (L2.CX P w) 8 f fd ["self", "other"] (spBin K C cB padd) ∧ Binds K fd ["self", "other"] [] ∧ FnOk P w K mg base (L2.CX P w) 9 g gd ["self", "other"] (spRbin K C cB padd) ∧ Binds K gd ["self", "other"] []
  sub : ∃ f g fd gd, OpC K C f g .Sub ∧ FnOk P w K mg base (L2.CX P w) 8 f fd ["self", "other"] (spBin K C cB psub) ∧ Binds K fd ["self", "other"] [] ∧ FnOk P w K mg base (L2.CX P w) 9 g gd ["self", "other"] (spRbin K C cB psub) ∧ Binds K gd ["self", "other"] []
  mul : ∃ f g fd gd, OpC K C f g .Mult ∧ FnOk P w K mg base (L2.CX P w) 8 f fd ["self", "other"] (spBin K C cB pmul) ∧ Binds K fd ["self", "other"] [] ∧ FnOk P w K mg base (L2.CX P w) 9 g gd ["self", "other"] (spRbin K C cB pmul) ∧ Binds K gd ["self", "other"] []
  neg : ∃ f fd, PySem.W.findIn K (.ref C) "__neg__" = some (some (.ref f)) ∧ PySem.W.isFn K (.ref f) = true ∧ FnOk P w K mg base (L2.CX P w) 6 f fd ["self"] (spNeg C) ∧ Binds K fd ["self"] []
  size : ∃ f fd, Meth K C "size" f ∧ FnOk P w K mg base (L2.CX P w) 6 f fd ["self"] (spSize C) ∧ Binds K fd ["self"] []
section
variable {P : Program} {w : World} {K : PySem.W.Frag} {mg : Str → Option Value} {base : Heap} {cB cN C fI fP fM fT fS : Addr} {fdP fdM fdT fdS : FuncData}
theorem scSums : FnScope ["_law_first", "_law_second", "_law_whole_here", "_law_one", "_law_other", "_law_less", "_law_beside_here", "_law_rows", "_law_told", "_law_due"] ["_law_first", "_law_second", "_law_whole_here", "_law_one", "_law_other"] (defScope sSums) := ⟨rfl, rfl, rfl, by decide +kernel, rfl, by decide +kernel, by decide +kernel⟩
theorem ok_sums {f : Addr} {fd : FuncData} (F : Fun K "_law_sums_right" "_law_sums_right" sSums f fd) (T : TxtR mg) (R : Rat P w K mg base cB cN C fI) (O : OpsR P w K mg base cB cN C)
    (Pl : FnOk P w K mg base CX0 3 fP fdP ["_law_one", "_law_other"] spPlus) (gP : mg "_law_plus" = some (.ref fP)) (kP : PySem.W.keepIn K (.ref fP) = true) (bP : Binds K fdP ["_law_one", "_law_other"] [])
    (M : FnOk P w K mg base CX0 3 fM fdM ["_law_one", "_law_other"] spTimes) (gM : mg "_law_times" = some (.ref fM)) (kM : PySem.W.keepIn K (.ref fM) = true) (bM : Binds K fdM ["_law_one", "_law_other"] [])
    (Mi : FnOk P w K mg base CX0 1 fT fdT ["_law_one"] spMinus) (gT : mg "_law_minus" = some (.ref fT)) (kT : PySem.W.keepIn K (.ref fT) = true) (bT : Binds K fdT ["_law_one"] [])
    (S : FnOk P w K mg base CX0 2 fS fdS ["_law_told", "_law_due"] (spIs C)) (gS : mg "_law_is" = some (.ref fS)) (kS : PySem.W.keepIn K (.ref fS) = true) (bS : Binds K fdS ["_law_told", "_law_due"] []) :
    FnOk P w K mg base CX0 10 f fd ["_law_first", "_law_second", "_law_whole_here", "_law_one", "_law_other"] (spSums C) := by
  obtain ⟨fa, ga, fda, gda, Oa, Fa, ba, Ga, ca⟩ := O.add
  obtain ⟨fs, gs, fds, gds, Os, Fs, bs, Gs, cs⟩ := O.sub
  obtain ⟨fm, gm, fdm, gdm, Om, Fm, bm, Gm, cm⟩ := O.mul
  obtain ⟨fn, fdn, hn1, hn2, Fn, bn⟩ := O.neg
  obtain ⟨fz, fdz, Mz, Fz, bz⟩ := O.size
  refine F.ok scSums (fun vs H Q E h => ?_) (fun cdv A outer s H vs Q E hr h => ?_)
  · obtain ⟨a, da, b, db, t, u, w, p, q, rfl, _⟩ := h
    rfl
  · obtain ⟨a, da, b, db, t, u, wh, p, q, rfl, ha, hb, ht, hu, fp, fq, lp, lq, fw, k⟩ := h
    have nd := scSums.nd
    have hr8 : Room 8 _ := hr.mono (by decide)
    have hr6 : Room 6 _ := hr.mono (by decide)
    have hrPx : Room 3 _ := hr.mono (by decide)
    have hrMx : Room 3 _ := hr.mono (by decide)
    have hrTx : Room 1 _ := hr.mono (by decide)
    have hrSx : Room 2 _ := hr.mono (by decide)
    refine ⟨_, (pss_cons (ps_par (i := 5) (j := 6) (by rfl) nd rfl rfl (by decide) rfl rfl (pa_cons (pe_call Mi hrTx (by rfl) gT kT bT .nil pass0 (pa_cons (pv 4) pa_nil)) (pa_cons (pe_tup (pa_cons (pv 2) (pa_cons pe_int pa_nil))) pa_nil)) (by rfl))
      (pss_cons (ps_set (i := 7) nd rfl (Or.inl rfl) (pe_lst (pa_cons (pe_tup (pa_cons (pe_op (op_ownL (E := E0) R.cls.t1 Oa Fa hr8 ba passL) (pv 0) (pv 1)) (pa_cons (pe_call Pl hrPx (by rfl) gP kP bP .nil pass0 (pa_cons (pv 3) (pa_cons (pv 4) pa_nil))) pa_nil))) (pa_cons (pe_tup (pa_cons (pe_op (op_ownL (E := E0) R.cls.t1 Os Fs hr8 bs passL) (pv 0) (pv 1)) (pa_cons (pe_call Pl hrPx (by rfl) gP kP bP .nil pass0 (pa_cons (pv 3) (pa_cons (pv 5) pa_nil))) pa_nil))) pa_nil))))
      (pss_cons (ps_set (i := 7) nd rfl (Or.inl rfl) (pe_op op_cat (pv 7) (pe_lst (pa_cons (pe_tup (pa_cons (pe_op (op_ownL (E := E0) R.cls.t1 Os Fs hr8 bs passL) (pv 1) (pv 0)) (pa_cons (pe_call Pl hrPx (by rfl) gP kP bP .nil pass0 (pa_cons (pv 4) (pa_cons (pe_call Mi hrTx (by rfl) gT kT bT .nil pass0 (pa_cons (pv 3) pa_nil)) pa_nil))) pa_nil))) (pa_cons (pe_tup (pa_cons (pe_op (op_ownL (E := E0) R.cls.t1 Om Fm hr8 bm passL) (pv 0) (pv 1)) (pa_cons (pe_call M hrMx (by rfl) gM kM bM .nil pass0 (pa_cons (pv 3) (pa_cons (pv 4) pa_nil))) pa_nil))) pa_nil)))))
      (pss_cons (ps_set (i := 7) nd rfl (Or.inl rfl) (pe_op op_cat (pv 7) (pe_lst (pa_cons (pe_tup (pa_cons (pe_op (op_ownL (E := E0) R.cls.t1 Oa Fa hr8 ba passL) (pv 0) (pv 2)) (pa_cons (pe_call Pl hrPx (by rfl) gP kP bP .nil pass0 (pa_cons (pv 3) (pa_cons (pv 6) pa_nil))) pa_nil))) (pa_cons (pe_tup (pa_cons (pe_op (op_ownR (E := E0) dec_add R.cls.t1 Oa Ga hr ca passL) (pv 2) (pv 0)) (pa_cons (pe_call Pl hrPx (by rfl) gP kP bP .nil pass0 (pa_cons (pv 3) (pa_cons (pv 6) pa_nil))) pa_nil))) pa_nil)))))
      (pss_cons (ps_set (i := 7) nd rfl (Or.inl rfl) (pe_op op_cat (pv 7) (pe_lst (pa_cons (pe_tup (pa_cons (pe_op (op_ownL (E := E0) R.cls.t1 Os Fs hr8 bs passL) (pv 0) (pv 2)) (pa_cons (pe_call Pl hrPx (by rfl) gP kP bP .nil pass0 (pa_cons (pv 3) (pa_cons (pe_tup (pa_cons (pe_un un_neg (pv 2)) (pa_cons pe_int pa_nil))) pa_nil))) pa_nil))) (pa_cons (pe_tup (pa_cons (pe_op (op_ownR (E := E0) dec_sub R.cls.t1 Os Gs hr cs passL) (pv 2) (pv 0)) (pa_cons (pe_call Pl hrPx (by rfl) gP kP bP .nil pass0 (pa_cons (pv 6) (pa_cons (pe_call Mi hrTx (by rfl) gT kT bT .nil pass0 (pa_cons (pv 3) pa_nil)) pa_nil))) pa_nil))) pa_nil)))))
      (pss_cons (ps_set (i := 7) nd rfl (Or.inl rfl) (pe_op op_cat (pv 7) (pe_lst (pa_cons (pe_tup (pa_cons (pe_op (op_ownL (E := E0) R.cls.t1 Om Fm hr8 bm passL) (pv 0) (pv 2)) (pa_cons (pe_call M hrMx (by rfl) gM kM bM .nil pass0 (pa_cons (pv 3) (pa_cons (pv 6) pa_nil))) pa_nil))) (pa_cons (pe_tup (pa_cons (pe_op (op_ownR (E := E0) dec_mul R.cls.t1 Om Gm hr cm passL) (pv 2) (pv 0)) (pa_cons (pe_call M hrMx (by rfl) gM kM bM .nil pass0 (pa_cons (pv 3) (pa_cons (pv 6) pa_nil))) pa_nil))) pa_nil)))))
      (pss_cons (ps_set (i := 7) nd rfl (Or.inl rfl) (pe_op op_cat (pv 7) (pe_lst (pa_cons (pe_tup (pa_cons (pe_un (un_own (E := E0) hn1 hn2 Fn hr6 bn passL) (pv 0)) (pa_cons (pe_call Mi hrTx (by rfl) gT kT bT .nil pass0 (pa_cons (pv 3) pa_nil)) pa_nil))) (pa_cons (pe_tup (pa_cons (pe_meth0 (E := E0) (pv 0) R.cls.c Mz Fz hr6 bz .nil passL) (pa_cons (pe_tup (pa_cons (pe_callB call_abs (by rfl) T.abs (by decide +kernel) (pa_cons (pe_ix ix_tup (pv 3) pe_int (fun _ _ => rfl)) pa_nil)) (pa_cons (pe_ix ix_tup (pv 3) pe_int (fun _ _ => rfl)) pa_nil))) pa_nil))) (pa_cons (pe_tup (pa_cons (pv 0) (pa_cons (pv 3) pa_nil))) (pa_cons (pe_tup (pa_cons (pv 1) (pa_cons (pv 4) pa_nil))) pa_nil)))))))
      (pss_one (ps_ret (pe_callB (cr_all rfl) (by rfl) T.all (by decide +kernel) (pa_cons (pe_lc (own := [("_law_told", 8), ("_law_due", 9)]) (g := gTup K 2 (gCons (gName 8) (gCons (gName 9) gNil))) (tt := tYes) rfl nd (pi_list (pv 7)) (blkOk_by (N := ["_law_first", "_law_second", "_law_whole_here", "_law_one", "_law_other", "_law_less", "_law_beside_here", "_law_rows", "_law_told", "_law_due"]) (sc := defScope sSums) (by decide +kernel)) (fun _ _ _ _ _ => pg_tup (by rfl) (pgs_cons (pg_name (i := 8) nd rfl (Or.inl rfl)) (pgs_cons (pg_name (i := 9) nd rfl (Or.inl rfl)) pgs_nil))) (fun _ _ _ _ _ => pts_nil) (fun _ _ _ _ _ => by exact (pe_call S hrSx (by rfl) gS kS bS .nil pass0 (pa_cons (pv 8) (pa_cons (pv 9) pa_nil))))) pa_nil))))))))))), ?_⟩
    refine seq_by (fun σ' G => ∃ u5 u6, σ' = [some (.ref a), some (.ref b), some (.int wh), some (.ref t), some (.ref u), some (.ref u5), some (.ref u6), none, none, none] ∧ Same H G ∧ Pair G u5 (-q.1, q.2) ∧ Pair G u6 (wh, 1)) (fun kk hK => ?_) ?_
    · refine ⟨_, rfl, u, q, rfl, hu, fun u5 H1 n5 s5 p5 => ⟨_, rfl, by show 2 ≤ sizeLine; decide, fun u6 n6 => ⟨_, _, rfl, ?_⟩⟩⟩
      have z : Same H (upd H1 u6 (.tup [.int wh, .int 1])) := s5.new n6
      have q5 : Pair (upd H1 u6 (.tup [.int wh, .int 1])) u5 (-q.1, q.2) := (Same.new (fun _ _ e => e) n6) _ _ p5
      have q6 : Pair (upd H1 u6 (.tup [.int wh, .int 1])) u6 (wh, 1) := upd_same
      clear s5 n5 p5 n6
      generalize upd H1 u6 (.tup [.int wh, .int 1]) = J at z q5 q6 ⊢
      exact hK _ _ ⟨u5, u6, rfl, z, q5, q6⟩
    rintro σ' J ⟨u5, u6, rfl, z, q5, q6⟩
    refine seq_by (fun σ' G => ∃ m, σ' = [some (.ref a), some (.ref b), some (.int wh), some (.ref t), some (.ref u), some (.ref u5), some (.ref u6), some (.ref m), none, none] ∧ Same H G ∧ Pair G u5 (-q.1, q.2) ∧ Pair G u6 (wh, 1) ∧ RowsOk C G m 2) (fun kk hK => ?_) ?_
    · refine ⟨_, rfl, _, rfl, a, da, _, rfl, z _ _ ha, .inl ⟨b, db, _, rfl, z _ _ hb⟩, a, da, _, p, rfl, z _ _ ha, fp, .rat b db q rfl (z _ _ hb) ⟨fq, fun x1 d1 G nx sx ex => ?_⟩⟩
      have zz := z.trans sx
      have ss := sx
      refine ⟨_, rfl, _, rfl, t, u, _, _, rfl, (zz _ _ ht), (zz _ _ hu), fp, fq, fun y1 K' ny sy py => ?_⟩
      refine ⟨by show 2 ≤ sizeLine; decide, fun t1 nt => ?_⟩
      have st : Same J (upd K' t1 (.tup [.ref x1, .ref y1])) := (sx.trans sy).new nt
      have r1 : RowOk C (upd K' t1 (.tup [.ref x1, .ref y1])) t1 := RowOk.new ex sy py (rfl) nt
      have q5 := q5.same2 st
      have q6 := q6.same2 st
      have z := z.trans st
      clear ex nx sx sy py ny nt st zz ss
      generalize upd K' t1 (.tup [.ref x1, .ref y1]) = J at z q5 q6 r1   ⊢
      refine ⟨_, rfl, _, rfl, a, da, _, rfl, z _ _ ha, .inl ⟨b, db, _, rfl, z _ _ hb⟩, a, da, _, p, rfl, z _ _ ha, fp, .rat b db q rfl (z _ _ hb) ⟨fq, fun x2 d2 G nx sx ex => ?_⟩⟩
      have zz := z.trans sx
      have ss := sx
      refine ⟨_, rfl, _, rfl, t, u5, _, _, rfl, (zz _ _ ht), (q5.same2 ss), fp, fq.neg, fun y2 K' ny sy py => ?_⟩
      refine ⟨by show 2 ≤ sizeLine; decide, fun t2 nt => ?_⟩
      have st : Same J (upd K' t2 (.tup [.ref x2, .ref y2])) := (sx.trans sy).new nt
      have r2 : RowOk C (upd K' t2 (.tup [.ref x2, .ref y2])) t2 := RowOk.new ex sy py ((psub_eq p q).symm) nt
      have q5 := q5.same2 st
      have q6 := q6.same2 st
      have r1 := r1.same st
      have z := z.trans st
      clear ex nx sx sy py ny nt st zz ss
      generalize upd K' t2 (.tup [.ref x2, .ref y2]) = J at z q5 q6 r1 r2   ⊢
      refine ⟨by show 2 ≤ sizeLine; decide, fun l2 nl => ?_⟩
      have st : Same J (upd J l2 (.lst [.ref t1, .ref t2])) := Same.new (fun _ _ e => e) nl
      have rn : RowsOk C (upd J l2 (.lst [.ref t1, .ref t2])) l2 2 := by
        refine ⟨[t1, t2], upd_same, rfl, fun x hx => ?_⟩
        simp only [List.mem_cons, List.not_mem_nil, or_false] at hx
        rcases hx with rfl | rfl
        · exact r1.same st
        · exact r2.same st
      have q5 := q5.same2 st
      have q6 := q6.same2 st
      have z := z.trans st
      clear st nl r1 r2
      have rw := rn
      clear rn
      generalize upd J l2 (.lst [.ref t1, .ref t2]) = J at z q5 q6  rw  ⊢
      exact hK _ _ ⟨_, rfl, z, q5, q6, rw⟩
    rintro σ' J ⟨m14, rfl, z, q5, q6, rw⟩
    refine seq_by (fun σ' G => ∃ m, σ' = [some (.ref a), some (.ref b), some (.int wh), some (.ref t), some (.ref u), some (.ref u5), some (.ref u6), some (.ref m), none, none] ∧ Same H G ∧ Pair G u5 (-q.1, q.2) ∧ Pair G u6 (wh, 1) ∧ RowsOk C G m 4) (fun kk hK => ?_) ?_
    · refine ⟨_, rfl, ?_⟩
      refine ⟨_, rfl, _, rfl, b, db, _, rfl, z _ _ hb, .inl ⟨a, da, _, rfl, z _ _ ha⟩, b, db, _, q, rfl, z _ _ hb, fq, .rat a da p rfl (z _ _ ha) ⟨fp, fun x3 d3 G nx sx ex => ?_⟩⟩
      have zz := z.trans sx
      have ss := sx
      refine ⟨_, rfl, _, rfl, t, p, rfl, zz _ _ ht, fun v3 L nv sv pv' => ?_⟩
      have zz := zz.trans sv
      have ss := sx.trans sv
      refine ⟨u, v3, _, _, rfl, (zz _ _ hu), pv', fq, fp.neg, fun y3 K' ny sy py => ?_⟩
      have sy := sv.trans sy
      clear nv sv pv'
      refine ⟨by show 2 ≤ sizeLine; decide, fun t3 nt => ?_⟩
      have st : Same J (upd K' t3 (.tup [.ref x3, .ref y3])) := (sx.trans sy).new nt
      have r3 : RowOk C (upd K' t3 (.tup [.ref x3, .ref y3])) t3 := RowOk.new ex sy py ((psub_eq q p).symm) nt
      have q5 := q5.same2 st
      have q6 := q6.same2 st
      have rw := rw.same st
      have z := z.trans st
      clear ex nx sx sy py ny nt st zz ss
      generalize upd K' t3 (.tup [.ref x3, .ref y3]) = J at z q5 q6 r3 rw  ⊢
      refine ⟨_, rfl, _, rfl, a, da, _, rfl, z _ _ ha, .inl ⟨b, db, _, rfl, z _ _ hb⟩, a, da, _, p, rfl, z _ _ ha, fp, .rat b db q rfl (z _ _ hb) ⟨fq, fun x4 d4 G nx sx ex => ?_⟩⟩
      have zz := z.trans sx
      have ss := sx
      refine ⟨_, rfl, _, rfl, t, u, _, _, rfl, (zz _ _ ht), (zz _ _ hu), fp, fq, fun y4 K' ny sy py => ?_⟩
      refine ⟨by show 2 ≤ sizeLine; decide, fun t4 nt => ?_⟩
      have st : Same J (upd K' t4 (.tup [.ref x4, .ref y4])) := (sx.trans sy).new nt
      have r4 : RowOk C (upd K' t4 (.tup [.ref x4, .ref y4])) t4 := RowOk.new ex sy py (rfl) nt
      have q5 := q5.same2 st
      have q6 := q6.same2 st
      have r3 := r3.same st
      have rw := rw.same st
      have z := z.trans st
      clear ex nx sx sy py ny nt st zz ss
      generalize upd K' t4 (.tup [.ref x4, .ref y4]) = J at z q5 q6 r3 r4 rw  ⊢
      refine ⟨by show 2 ≤ sizeLine; decide, fun l4 nl => ?_⟩
      have st : Same J (upd J l4 (.lst [.ref t3, .ref t4])) := Same.new (fun _ _ e => e) nl
      have rn : RowsOk C (upd J l4 (.lst [.ref t3, .ref t4])) l4 2 := by
        refine ⟨[t3, t4], upd_same, rfl, fun x hx => ?_⟩
        simp only [List.mem_cons, List.not_mem_nil, or_false] at hx
        rcases hx with rfl | rfl
        · exact r3.same st
        · exact r4.same st
      have q5 := q5.same2 st
      have q6 := q6.same2 st
      have rw := rw.same st
      have z := z.trans st
      clear st nl r3 r4
      generalize upd J l4 (.lst [.ref t3, .ref t4]) = J at z q5 q6  rw rn ⊢
      obtain ⟨as, ae, al, aq⟩ := rw
      obtain ⟨bs, be, bl, bq⟩ := rn
      refine ⟨_, _, _, _, rfl, rfl, ae, be, by rw [List.length_map, List.length_map, al, bl]; decide, fun m4 nm => ?_⟩
      have st : Same J (upd J m4 (.lst (as.map V.ref ++ bs.map V.ref))) := Same.new (fun _ _ e => e) nm
      have rw : RowsOk C (upd J m4 (.lst (as.map V.ref ++ bs.map V.ref))) m4 4 := ⟨as ++ bs, by rw [upd_same, List.map_append], by rw [List.length_append, al, bl], fun x hx => (List.mem_append.mp hx).elim (fun h => (aq x h).same st) (fun h => (bq x h).same st)⟩
      have q5 := q5.same2 st
      have q6 := q6.same2 st
      have z := z.trans st
      clear st nm ae al aq be bl bq
      generalize upd J m4 (.lst (as.map V.ref ++ bs.map V.ref)) = J at z q5 q6  rw  ⊢
      exact hK _ _ ⟨_, rfl, z, q5, q6, rw⟩
    rintro σ' J ⟨m14, rfl, z, q5, q6, rw⟩
    refine seq_by (fun σ' G => ∃ m, σ' = [some (.ref a), some (.ref b), some (.int wh), some (.ref t), some (.ref u), some (.ref u5), some (.ref u6), some (.ref m), none, none] ∧ Same H G ∧ Pair G u5 (-q.1, q.2) ∧ Pair G u6 (wh, 1) ∧ RowsOk C G m 6) (fun kk hK => ?_) ?_
    · refine ⟨_, rfl, ?_⟩
      refine ⟨_, rfl, _, rfl, a, da, _, rfl, z _ _ ha, .inr (.int wh), a, da, _, p, rfl, z _ _ ha, fp, .int wh rfl ⟨fw, fun x5 d5 G nx sx ex => ?_⟩⟩
      have zz := z.trans sx
      have ss := sx
      refine ⟨_, rfl, _, rfl, t, u6, _, _, rfl, (zz _ _ ht), (q6.same2 ss), fp, fw, fun y5 K' ny sy py => ?_⟩
      refine ⟨by show 2 ≤ sizeLine; decide, fun t5 nt => ?_⟩
      have st : Same J (upd K' t5 (.tup [.ref x5, .ref y5])) := (sx.trans sy).new nt
      have r5 : RowOk C (upd K' t5 (.tup [.ref x5, .ref y5])) t5 := RowOk.new ex sy py (rfl) nt
      have q5 := q5.same2 st
      have q6 := q6.same2 st
      have rw := rw.same st
      have z := z.trans st
      clear ex nx sx sy py ny nt st zz ss
      generalize upd K' t5 (.tup [.ref x5, .ref y5]) = J at z q5 q6 r5 rw  ⊢
      refine ⟨_, rfl, _, rfl, a, da, _, rfl, z _ _ ha, .int wh, a, da, _, p, rfl, z _ _ ha, fp, .int wh rfl ⟨fw, fun x6 d6 G nx sx ex => ?_⟩⟩
      have zz := z.trans sx
      have ss := sx
      refine ⟨_, rfl, _, rfl, t, u6, _, _, rfl, (zz _ _ ht), (q6.same2 ss), fp, fw, fun y6 K' ny sy py => ?_⟩
      refine ⟨by show 2 ≤ sizeLine; decide, fun t6 nt => ?_⟩
      have st : Same J (upd K' t6 (.tup [.ref x6, .ref y6])) := (sx.trans sy).new nt
      have r6 : RowOk C (upd K' t6 (.tup [.ref x6, .ref y6])) t6 := RowOk.new ex sy py (padd_comm (wh, 1) p) nt
      have q5 := q5.same2 st
      have q6 := q6.same2 st
      have r5 := r5.same st
      have rw := rw.same st
      have z := z.trans st
      clear ex nx sx sy py ny nt st zz ss
      generalize upd K' t6 (.tup [.ref x6, .ref y6]) = J at z q5 q6 r5 r6 rw  ⊢
      refine ⟨by show 2 ≤ sizeLine; decide, fun l6 nl => ?_⟩
      have st : Same J (upd J l6 (.lst [.ref t5, .ref t6])) := Same.new (fun _ _ e => e) nl
      have rn : RowsOk C (upd J l6 (.lst [.ref t5, .ref t6])) l6 2 := by
        refine ⟨[t5, t6], upd_same, rfl, fun x hx => ?_⟩
        simp only [List.mem_cons, List.not_mem_nil, or_false] at hx
        rcases hx with rfl | rfl
        · exact r5.same st
        · exact r6.same st
      have q5 := q5.same2 st
      have q6 := q6.same2 st
      have rw := rw.same st
      have z := z.trans st
      clear st nl r5 r6
      generalize upd J l6 (.lst [.ref t5, .ref t6]) = J at z q5 q6  rw rn ⊢
      obtain ⟨as, ae, al, aq⟩ := rw
      obtain ⟨bs, be, bl, bq⟩ := rn
      refine ⟨_, _, _, _, rfl, rfl, ae, be, by rw [List.length_map, List.length_map, al, bl]; decide, fun m6 nm => ?_⟩
      have st : Same J (upd J m6 (.lst (as.map V.ref ++ bs.map V.ref))) := Same.new (fun _ _ e => e) nm
      have rw : RowsOk C (upd J m6 (.lst (as.map V.ref ++ bs.map V.ref))) m6 6 := ⟨as ++ bs, by rw [upd_same, List.map_append], by rw [List.length_append, al, bl], fun x hx => (List.mem_append.mp hx).elim (fun h => (aq x h).same st) (fun h => (bq x h).same st)⟩
      have q5 := q5.same2 st
      have q6 := q6.same2 st
      have z := z.trans st
      clear st nm ae al aq be bl bq
      generalize upd J m6 (.lst (as.map V.ref ++ bs.map V.ref)) = J at z q5 q6  rw  ⊢
      exact hK _ _ ⟨_, rfl, z, q5, q6, rw⟩
    rintro σ' J ⟨m14, rfl, z, q5, q6, rw⟩
    refine seq_by (fun σ' G => ∃ m, σ' = [some (.ref a), some (.ref b), some (.int wh), some (.ref t), some (.ref u), some (.ref u5), some (.ref u6), some (.ref m), none, none] ∧ Same H G ∧ Pair G u5 (-q.1, q.2) ∧ Pair G u6 (wh, 1) ∧ RowsOk C G m 8) (fun kk hK => ?_) ?_
    · refine ⟨_, rfl, ?_⟩
      refine ⟨_, rfl, _, rfl, a, da, _, rfl, z _ _ ha, .inr (.int wh), a, da, _, p, rfl, z _ _ ha, fp, .int wh rfl ⟨fw, fun x7 d7 G nx sx ex => ?_⟩⟩
      have zz := z.trans sx
      have ss := sx
      refine ⟨_, rfl, _, rfl, _, rfl, by show 2 ≤ sizeLine; decide, fun v7 nv => ?_⟩
      have sv : Same G (upd G v7 (.tup [.int (-wh), .int 1])) := Same.new (fun _ _ e => e) nv
      refine ⟨t, v7, p, (-wh, 1), rfl, sv _ _ (zz _ _ ht), upd_same, fp, fw.neg, fun y7 K' ny sy py => ?_⟩
      have sy := sv.trans sy
      clear nv sv
      refine ⟨by show 2 ≤ sizeLine; decide, fun t7 nt => ?_⟩
      have st : Same J (upd K' t7 (.tup [.ref x7, .ref y7])) := (sx.trans sy).new nt
      have r7 : RowOk C (upd K' t7 (.tup [.ref x7, .ref y7])) t7 := RowOk.new ex sy py ((psub_eq p (wh, 1)).symm) nt
      have q5 := q5.same2 st
      have q6 := q6.same2 st
      have rw := rw.same st
      have z := z.trans st
      clear ex nx sx sy py ny nt st zz ss
      generalize upd K' t7 (.tup [.ref x7, .ref y7]) = J at z q5 q6 r7 rw  ⊢
      refine ⟨_, rfl, _, rfl, a, da, _, rfl, z _ _ ha, .int wh, a, da, _, p, rfl, z _ _ ha, fp, .int wh rfl ⟨fw, fun x8 d8 G nx sx ex => ?_⟩⟩
      have zz := z.trans sx
      have ss := sx
      refine ⟨_, rfl, _, rfl, t, p, rfl, zz _ _ ht, fun v8 L nv sv pv' => ?_⟩
      have zz := zz.trans sv
      have ss := sx.trans sv
      refine ⟨u6, v8, _, _, rfl, (q6.same2 ss), pv', fw, fp.neg, fun y8 K' ny sy py => ?_⟩
      have sy := sv.trans sy
      clear nv sv pv'
      refine ⟨by show 2 ≤ sizeLine; decide, fun t8 nt => ?_⟩
      have st : Same J (upd K' t8 (.tup [.ref x8, .ref y8])) := (sx.trans sy).new nt
      have r8 : RowOk C (upd K' t8 (.tup [.ref x8, .ref y8])) t8 := RowOk.new ex sy py ((psub_eq (wh, 1) p).symm) nt
      have q5 := q5.same2 st
      have q6 := q6.same2 st
      have r7 := r7.same st
      have rw := rw.same st
      have z := z.trans st
      clear ex nx sx sy py ny nt st zz ss
      generalize upd K' t8 (.tup [.ref x8, .ref y8]) = J at z q5 q6 r7 r8 rw  ⊢
      refine ⟨by show 2 ≤ sizeLine; decide, fun l8 nl => ?_⟩
      have st : Same J (upd J l8 (.lst [.ref t7, .ref t8])) := Same.new (fun _ _ e => e) nl
      have rn : RowsOk C (upd J l8 (.lst [.ref t7, .ref t8])) l8 2 := by
        refine ⟨[t7, t8], upd_same, rfl, fun x hx => ?_⟩
        simp only [List.mem_cons, List.not_mem_nil, or_false] at hx
        rcases hx with rfl | rfl
        · exact r7.same st
        · exact r8.same st
      have q5 := q5.same2 st
      have q6 := q6.same2 st
      have rw := rw.same st
      have z := z.trans st
      clear st nl r7 r8
      generalize upd J l8 (.lst [.ref t7, .ref t8]) = J at z q5 q6  rw rn ⊢
      obtain ⟨as, ae, al, aq⟩ := rw
      obtain ⟨bs, be, bl, bq⟩ := rn
      refine ⟨_, _, _, _, rfl, rfl, ae, be, by rw [List.length_map, List.length_map, al, bl]; decide, fun m8 nm => ?_⟩
      have st : Same J (upd J m8 (.lst (as.map V.ref ++ bs.map V.ref))) := Same.new (fun _ _ e => e) nm
      have rw : RowsOk C (upd J m8 (.lst (as.map V.ref ++ bs.map V.ref))) m8 8 := ⟨as ++ bs, by rw [upd_same, List.map_append], by rw [List.length_append, al, bl], fun x hx => (List.mem_append.mp hx).elim (fun h => (aq x h).same st) (fun h => (bq x h).same st)⟩
      have q5 := q5.same2 st
      have q6 := q6.same2 st
      have z := z.trans st
      clear st nm ae al aq be bl bq
      generalize upd J m8 (.lst (as.map V.ref ++ bs.map V.ref)) = J at z q5 q6  rw  ⊢
      exact hK _ _ ⟨_, rfl, z, q5, q6, rw⟩
    rintro σ' J ⟨m14, rfl, z, q5, q6, rw⟩
    refine seq_by (fun σ' G => ∃ m, σ' = [some (.ref a), some (.ref b), some (.int wh), some (.ref t), some (.ref u), some (.ref u5), some (.ref u6), some (.ref m), none, none] ∧ Same H G ∧ Pair G u5 (-q.1, q.2) ∧ Pair G u6 (wh, 1) ∧ RowsOk C G m 10) (fun kk hK => ?_) ?_
    · refine ⟨_, rfl, ?_⟩
      refine ⟨_, rfl, _, rfl, a, da, _, rfl, z _ _ ha, .inr (.int wh), a, da, _, p, rfl, z _ _ ha, fp, .int wh rfl ⟨fw, fun x9 d9 G nx sx ex => ?_⟩⟩
      have zz := z.trans sx
      have ss := sx
      refine ⟨_, rfl, _, rfl, t, u6, _, _, rfl, (zz _ _ ht), (q6.same2 ss), fp, fw, fun y9 K' ny sy py => ?_⟩
      refine ⟨by show 2 ≤ sizeLine; decide, fun t9 nt => ?_⟩
      have st : Same J (upd K' t9 (.tup [.ref x9, .ref y9])) := (sx.trans sy).new nt
      have r9 : RowOk C (upd K' t9 (.tup [.ref x9, .ref y9])) t9 := RowOk.new ex sy py (rfl) nt
      have q5 := q5.same2 st
      have q6 := q6.same2 st
      have rw := rw.same st
      have z := z.trans st
      clear ex nx sx sy py ny nt st zz ss
      generalize upd K' t9 (.tup [.ref x9, .ref y9]) = J at z q5 q6 r9 rw  ⊢
      refine ⟨_, rfl, _, rfl, a, da, _, rfl, z _ _ ha, .int wh, a, da, _, p, rfl, z _ _ ha, fp, .int wh rfl ⟨fw, fun x10 d10 G nx sx ex => ?_⟩⟩
      have zz := z.trans sx
      have ss := sx
      refine ⟨_, rfl, _, rfl, t, u6, _, _, rfl, (zz _ _ ht), (q6.same2 ss), fp, fw, fun y10 K' ny sy py => ?_⟩
      refine ⟨by show 2 ≤ sizeLine; decide, fun t10 nt => ?_⟩
      have st : Same J (upd K' t10 (.tup [.ref x10, .ref y10])) := (sx.trans sy).new nt
      have r10 : RowOk C (upd K' t10 (.tup [.ref x10, .ref y10])) t10 := RowOk.new ex sy py (pmul_comm (wh, 1) p) nt
      have q5 := q5.same2 st
      have q6 := q6.same2 st
      have r9 := r9.same st
      have rw := rw.same st
      have z := z.trans st
      clear ex nx sx sy py ny nt st zz ss
      generalize upd K' t10 (.tup [.ref x10, .ref y10]) = J at z q5 q6 r9 r10 rw  ⊢
      refine ⟨by show 2 ≤ sizeLine; decide, fun l10 nl => ?_⟩
      have st : Same J (upd J l10 (.lst [.ref t9, .ref t10])) := Same.new (fun _ _ e => e) nl
      have rn : RowsOk C (upd J l10 (.lst [.ref t9, .ref t10])) l10 2 := by
        refine ⟨[t9, t10], upd_same, rfl, fun x hx => ?_⟩
        simp only [List.mem_cons, List.not_mem_nil, or_false] at hx
        rcases hx with rfl | rfl
        · exact r9.same st
        · exact r10.same st
      have q5 := q5.same2 st
      have q6 := q6.same2 st
      have rw := rw.same st
      have z := z.trans st
      clear st nl r9 r10
      generalize upd J l10 (.lst [.ref t9, .ref t10]) = J at z q5 q6  rw rn ⊢
      obtain ⟨as, ae, al, aq⟩ := rw
      obtain ⟨bs, be, bl, bq⟩ := rn
      refine ⟨_, _, _, _, rfl, rfl, ae, be, by rw [List.length_map, List.length_map, al, bl]; decide, fun m10 nm => ?_⟩
      have st : Same J (upd J m10 (.lst (as.map V.ref ++ bs.map V.ref))) := Same.new (fun _ _ e => e) nm
      have rw : RowsOk C (upd J m10 (.lst (as.map V.ref ++ bs.map V.ref))) m10 10 := ⟨as ++ bs, by rw [upd_same, List.map_append], by rw [List.length_append, al, bl], fun x hx => (List.mem_append.mp hx).elim (fun h => (aq x h).same st) (fun h => (bq x h).same st)⟩
      have q5 := q5.same2 st
      have q6 := q6.same2 st
      have z := z.trans st
      clear st nm ae al aq be bl bq
      generalize upd J m10 (.lst (as.map V.ref ++ bs.map V.ref)) = J at z q5 q6  rw  ⊢
      exact hK _ _ ⟨_, rfl, z, q5, q6, rw⟩
    rintro σ' J ⟨m14, rfl, z, q5, q6, rw⟩
    refine seq_by (fun σ' G => ∃ m, σ' = [some (.ref a), some (.ref b), some (.int wh), some (.ref t), some (.ref u), some (.ref u5), some (.ref u6), some (.ref m), none, none] ∧ Same H G ∧ Pair G u5 (-q.1, q.2) ∧ Pair G u6 (wh, 1) ∧ RowsOk C G m 14) (fun kk hK => ?_) ?_
    · refine ⟨_, rfl, ?_⟩
      refine ⟨_, rfl, a, da, _, rfl, z _ _ ha, a, da, p, rfl, z _ _ ha, fp, fun x11 d11 G nx sx ex => ?_⟩
      have zz := z.trans sx
      have ss := sx
      refine ⟨_, rfl, t, p, rfl, zz _ _ ht, fun y11 K' ny sy py => ?_⟩
      refine ⟨by show 2 ≤ sizeLine; decide, fun t11 nt => ?_⟩
      have st : Same J (upd K' t11 (.tup [.ref x11, .ref y11])) := (sx.trans sy).new nt
      have r11 : RowOk C (upd K' t11 (.tup [.ref x11, .ref y11])) t11 := RowOk.new ex sy py (low_self lp.neg) nt
      have q5 := q5.same2 st
      have q6 := q6.same2 st
      have rw := rw.same st
      have z := z.trans st
      clear ex nx sx sy py ny nt st zz ss
      generalize upd K' t11 (.tup [.ref x11, .ref y11]) = J at z q5 q6 r11 rw  ⊢
      refine ⟨_, rfl, a, da, _, rfl, z _ _ ha, lkZ, a, da, p, rfl, z _ _ ha, fp, fun x12 d12 G nx sx ex => ?_⟩
      have zz := z.trans sx
      have ss := sx
      refine ⟨_, rfl, t, _, _, _, rfl, rfl, SqT.of (zz _ _ ht), rfl, _, rfl, _, rfl, t, _, _, _, rfl, rfl, SqT.of (zz _ _ ht), rfl, by show 2 ≤ sizeLine; decide, fun y12 ny => ?_⟩
      have sy : Same G (upd G y12 (.tup [.int (if p.1 < 0 then -p.1 else p.1), .int p.2])) := Same.new (fun _ _ e => e) ny
      have py : Pair (upd G y12 (.tup [.int (if p.1 < 0 then -p.1 else p.1), .int p.2])) y12 (if p.1 < 0 then -p.1 else p.1, p.2) := upd_same
      generalize upd G y12 (.tup [.int (if p.1 < 0 then -p.1 else p.1), .int p.2]) = K' at sy py ⊢
      refine ⟨by show 2 ≤ sizeLine; decide, fun t12 nt => ?_⟩
      have st : Same J (upd K' t12 (.tup [.ref x12, .ref y12])) := (sx.trans sy).new nt
      have r12 : RowOk C (upd K' t12 (.tup [.ref x12, .ref y12])) t12 := RowOk.new ex sy py (low_self lp.abs) nt
      have q5 := q5.same2 st
      have q6 := q6.same2 st
      have r11 := r11.same st
      have rw := rw.same st
      have z := z.trans st
      clear ex nx sx sy py ny nt st zz ss
      generalize upd K' t12 (.tup [.ref x12, .ref y12]) = J at z q5 q6 r11 r12 rw  ⊢
      refine ⟨_, rfl, _, rfl, by show 2 ≤ sizeLine; decide, fun t13 nt => ?_⟩
      have st : Same J (upd J t13 (.tup [.ref a, .ref t])) := Same.new (fun _ _ e => e) nt
      have r13 : RowOk C (upd J t13 (.tup [.ref a, .ref t])) t13 := RowOk.new (z _ _ ha) (fun _ _ e => e) (z _ _ ht) rfl nt
      have q5 := q5.same2 st
      have q6 := q6.same2 st
      have r11 := r11.same st
      have r12 := r12.same st
      have rw := rw.same st
      have z := z.trans st
      clear st nt
      generalize upd J t13 (.tup [.ref a, .ref t]) = J at z q5 q6 r11 r12 r13 rw  ⊢
      refine ⟨_, rfl, _, rfl, by show 2 ≤ sizeLine; decide, fun t14 nt => ?_⟩
      have st : Same J (upd J t14 (.tup [.ref b, .ref u])) := Same.new (fun _ _ e => e) nt
      have r14 : RowOk C (upd J t14 (.tup [.ref b, .ref u])) t14 := RowOk.new (z _ _ hb) (fun _ _ e => e) (z _ _ hu) rfl nt
      have q5 := q5.same2 st
      have q6 := q6.same2 st
      have r11 := r11.same st
      have r12 := r12.same st
      have r13 := r13.same st
      have rw := rw.same st
      have z := z.trans st
      clear st nt
      generalize upd J t14 (.tup [.ref b, .ref u]) = J at z q5 q6 r11 r12 r13 r14 rw  ⊢
      refine ⟨by show 4 ≤ sizeLine; decide, fun l14 nl => ?_⟩
      have st : Same J (upd J l14 (.lst [.ref t11, .ref t12, .ref t13, .ref t14])) := Same.new (fun _ _ e => e) nl
      have rn : RowsOk C (upd J l14 (.lst [.ref t11, .ref t12, .ref t13, .ref t14])) l14 4 := by
        refine ⟨[t11, t12, t13, t14], upd_same, rfl, fun x hx => ?_⟩
        simp only [List.mem_cons, List.not_mem_nil, or_false] at hx
        rcases hx with rfl | rfl | rfl | rfl
        · exact r11.same st
        · exact r12.same st
        · exact r13.same st
        · exact r14.same st
      have q5 := q5.same2 st
      have q6 := q6.same2 st
      have rw := rw.same st
      have z := z.trans st
      clear st nl r11 r12 r13 r14
      generalize upd J l14 (.lst [.ref t11, .ref t12, .ref t13, .ref t14]) = J at z q5 q6  rw rn ⊢
      obtain ⟨as, ae, al, aq⟩ := rw
      obtain ⟨bs, be, bl, bq⟩ := rn
      refine ⟨_, _, _, _, rfl, rfl, ae, be, by rw [List.length_map, List.length_map, al, bl]; decide, fun m14 nm => ?_⟩
      have st : Same J (upd J m14 (.lst (as.map V.ref ++ bs.map V.ref))) := Same.new (fun _ _ e => e) nm
      have rw : RowsOk C (upd J m14 (.lst (as.map V.ref ++ bs.map V.ref))) m14 14 := ⟨as ++ bs, by rw [upd_same, List.map_append], by rw [List.length_append, al, bl], fun x hx => (List.mem_append.mp hx).elim (fun h => (aq x h).same st) (fun h => (bq x h).same st)⟩
      have q5 := q5.same2 st
      have q6 := q6.same2 st
      have z := z.trans st
      clear st nm ae al aq be bl bq
      generalize upd J m14 (.lst (as.map V.ref ++ bs.map V.ref)) = J at z q5 q6  rw  ⊢
      exact hK _ _ ⟨_, rfl, z, q5, q6, rw⟩
    rintro σ' J ⟨m14, rfl, z, q5, q6, rw⟩
    obtain ⟨ts, e, el, er⟩ := rw
    refine ⟨_, rfl, m14, rfl, ⟨_, SqL.of e⟩, fun D hD => lc_list (K := K) (a := m14) (xs := ts.map V.ref) (fun n H2 => Same J H2 ∧ H2 D = some (.lst ((List.replicate n true).map V.bl))) ⟨Same.new (fun _ _ e => e) hD, upd_same⟩ (fun n H2 _ p => p.1.seq (SqL.of e)) ?_ ?_⟩
    · rintro n x H2 hx ⟨sS, eD⟩
      have hn : n < 14 := by
        have := (List.getElem?_eq_some_iff.mp hx).1
        rw [List.length_map, el] at this
        exact this
      rw [List.getElem?_map] at hx
      obtain ⟨t0, ht0, rfl⟩ := Option.map_eq_some_iff.mp hx
      obtain ⟨a1, dx1, u1, r1, h1, h2, h3⟩ := (er t0 (List.mem_of_getElem? ht0)).same sS
      refine ⟨t0, _, rfl, SqT.of h1, rfl, _, _, rfl, _, _, rfl, rfl, ?_⟩
      refine ⟨rfl, _, rfl, _, rfl, a1, dx1, u1, r1, r1, rfl, h2, h3, _, eD, ?_, fun b o q => by rw [upd_ne (ne_of_none q hD)]; exact sS b o q, ?_⟩
      · rw [List.length_map, List.length_replicate]
        exact Nat.lt_of_lt_of_le hn (by decide)
      · rw [upd_same, List.replicate_succ', List.map_append, decide_eq_true rfl]
        rfl
    · rintro H5 ⟨s5, e5⟩
      have yes : (List.replicate (ts.map V.ref).length true).all id = true := by simp
      refine ⟨D, _, rfl, SqL.of e5, ?_⟩
      show Q (.bl ((List.replicate (ts.map V.ref).length true).all id)) H5
      rw [yes]
      exact k H5 (z.trans s5)
end
end K03
end
section
set_option maxHeartbeats 4000000
namespace L3
open PySem PySem.Spec PyProof.Rows L2 LamX NdefX
/-- a lambda: its words, its cells -/
structure LW where
  q : Str
  params : Arguments
  body : Expr
  scope : Scope
  cl : List (Str × Addr)
/-- the object at f is the lambda w, its code object at c -/
def LamO (f : Addr) (w : LW) (c : Addr) : HO := .ext fun h => ∃ (od : Option Addr) (sl : Array (Option Value)) (pm ctv : Value), h.get? f = some (⟨.type "function", od, .func (PySem.W.kla_fn "<lambda>" w.q w.params w.body w.scope w.cl pm (.ref c) ctv), sl⟩ : Obj)
theorem lamO_at {P : Program} {w : World} {H : Hp} {h : Heap} {f c : Addr} {l : LW} (hok : HOk P w H h) (e : H f = some (LamO f l c)) :
    ∃ (od : Option Addr) (sl : Array (Option Value)) (pm ctv : Value), h.get? f = some (⟨.type "function", od, .func (PySem.W.kla_fn "<lambda>" l.q l.params l.body l.scope l.cl pm (.ref c) ctv), sl⟩ : Obj) := by
  obtain ⟨z, _, _⟩ := hok f _ e
  exact z
theorem lamO_ne {f c : Addr} {l : LW} (ps : Array Value) : LamO f l c ≠ .tbl ps := fun z => by
  unfold LamO at z
  cases z
section
variable {X : Cx} {pins : List (Addr × Obj)} {σ : L2.St} {H : Hp} {s : Shared}
/-- a lambda's object just laid behind all others is known from now on -/
theorem inv_lam {l : LW} {c : Addr} {t' : Nat} {pm ctv : Value} (I : Inv X pins σ H s) :
    Inv X pins σ (upd H s.heap.objs.size (LamO s.heap.objs.size l c)) { s with heap := s.heap.push (PySem.W.kla_obj "<lambda>" l.q l.params l.body l.scope l.cl pm c ctv), toks := t' } := by
  have got : (s.heap.push (PySem.W.kla_obj "<lambda>" l.q l.params l.body l.scope l.cl pm c ctv)).get? s.heap.objs.size = some (PySem.W.kla_obj "<lambda>" l.q l.params l.body l.scope l.cl pm c ctv) := Heap.get?_push_size _ rfl
  refine I.laid (fun b u e => Heap.get?_push_of_some _ e) (Nat.le_refl _) ⟨⟨_, _, pm, ctv, got⟩, ⟨_, got⟩, ?_⟩
  rintro h1 h2 ⟨od, sl, p, t, z⟩ st
  exact ⟨od, sl, p, t, st _ z⟩
/-- the lambda is made, and tracked -/
theorem lam_new {T : List (Addr × Str)} {c P : Addr} {params : Arguments} {body : Expr} {scope : Scope} {pos : Pos} {E : Value → Shared → Prop} {Q : Value → Shared → Prop} (I : Inv X pins σ H s) (TB : TabB X.base X.mg c P) (hcode : X.env.code = .ref c)
    (hm : (P, X.env.qual ++ "<lambda>") ∈ T) (hu : ∀ p ∈ T, p.1 = P → p.2 = X.env.qual ++ "<lambda>") (hT : Tabs T H) (hdef : defaultsOf params X.env = ([], [])) (hfree : ∀ y ∈ scope.names, y.2 = .free → ∃ c, X.env.cells.lookup y.1 = some c)
    (h : ∀ (f c' : Addr) (H1 : Hp) (s' : Shared), Inv X pins σ H1 s' → ExtN H H1 → (∀ b, H1 b = Option.none → H b = Option.none) → Tabs T H1 → H f = Option.none →
      H1 f = some (LamO f ⟨X.env.qual ++ "<lambda>", params, body, scope, cloFrom X.env.cells scope.names []⟩ c') → H1 c' = some (CodeO c' (X.env.qual ++ "<lambda>")) → Q (.ref f) s') :
    wpAny (model X.prog X.w) X.A (eval (.Lambda params body scope pos) X.env) Q E s := by
  obtain ⟨ps, hP, ht, ha⟩ := hT _ hm
  have bP := TB.bm.keeps I.bk
  have oP : s.heap.get? P = some { cls := .none, data := .fields ps } := I.hok P _ hP
  refine PySem.W.kla_eval hdef ?_
  cases hc : codeAmong pos ps.toList with
  | some cv =>
    obtain ⟨c', e, hco⟩ := ha pos cv hc
    subst e
    refine PySem.W.kla_makeFunctionHit (mg := X.mg) (c := c) (P := P) (ps := ps) (closure_ok hfree) I.ok.glob (I.mod.glob.keeps I.bk) hcode (TB.code.keeps I.bk) oP ht hc bP fun ctv h' tk hx hsz => ?_
    have I1 : Inv X pins σ H { s with heap := h', toks := tk } := I.kept hx
    have nF := I1.hok.fresh (Nat.le_refl _)
    have I2 := inv_lam (t' := tk) (l := ⟨X.env.qual ++ "<lambda>", params, body, scope, cloFrom X.env.cells scope.names []⟩) (c := c') (pm := (X.mg "__name__").getD .none) (ctv := ctv) I1
    exact h _ c' _ _ I2 (fun b o e n => (upd_ne (ne_of_none e nF)).trans e) (fun b e => upd_none e) (hT.ext fun b o e => (upd_ne (ne_of_none e nF)).trans e) nF upd_same ((upd_ne (ne_of_none hco nF)).trans hco)
  | none =>
    refine PySem.W.kla_makeFunction (mg := X.mg) (c := c) (P := P) (ps := ps) (closure_ok hfree) I.ok.glob (I.mod.glob.keeps I.bk) hcode (TB.code.keeps I.bk) oP ht hc TB.gP bP fun c' ctv h' tk hx hge hlt hrec htb => ?_
    obtain ⟨c2, oc, vs, t, e2, hoc, hd, hv⟩ := hrec
    cases e2
    have nC : H c' = Option.none := I.hok.fresh hge
    have I1 := inv_table (t' := tk) (more := #[rawInt pos.line, rawInt pos.col, .ref c']) (h' := h') I hP (fun b o hb e => hx b o hb e) htb hge ⟨oc, vs, t, hoc, hd, hv⟩
    have eL : (ps ++ #[rawInt pos.line, rawInt pos.col, .ref c']).toList = ps.toList ++ [rawInt pos.line, rawInt pos.col, .ref c'] := by simp
    have kE : ExtN H (upd (upd H P (.tbl (ps ++ #[rawInt pos.line, rawInt pos.col, .ref c']))) c' (CodeO c' (X.env.qual ++ "<lambda>"))) := fun b o e n => by
      have n1 : b ≠ P := fun z => by
        rw [z, hP] at e
        exact n ps (Option.some.inj e).symm
      rw [upd_ne (ne_of_none e nC), upd_ne n1]
      exact e
    have tC : upd (upd H P (.tbl (ps ++ #[rawInt pos.line, rawInt pos.col, .ref c']))) c' (CodeO c' (X.env.qual ++ "<lambda>")) c' = some (CodeO c' (X.env.qual ++ "<lambda>")) := upd_same
    have T1 : Tabs T (upd (upd H P (.tbl (ps ++ #[rawInt pos.line, rawInt pos.col, .ref c']))) c' (CodeO c' (X.env.qual ++ "<lambda>"))) := fun p hp => by
      by_cases hb : p.1 = P
      · rw [hu p hp hb, hb]
        refine ⟨ps ++ #[rawInt pos.line, rawInt pos.col, .ref c'], (upd_ne (ne_of_none hP nC)).trans upd_same, by rw [eL]; exact PySem.TriplesOk_snoc _ _ _ _ ht, fun p' cv hcv => ?_⟩
        rw [eL] at hcv
        rcases among_app _ ht hcv with z | z
        · obtain ⟨c0, e1, e2⟩ := ha p' cv z
          exact ⟨c0, e1, kE _ _ e2 codeO_ne⟩
        · exact ⟨c', z, tC⟩
      · obtain ⟨qs, a1, a2, a3⟩ := hT p hp
        refine ⟨qs, ?_, a2, fun p' cv hcv => ?_⟩
        · rw [upd_ne (ne_of_none a1 nC), upd_ne hb]
          exact a1
        · obtain ⟨c0, e1, e2⟩ := a3 p' cv hcv
          exact ⟨c0, e1, kE _ _ e2 codeO_ne⟩
    have nF := I1.hok.fresh (Nat.le_refl _)
    have I2 := inv_lam (t' := tk) (l := ⟨X.env.qual ++ "<lambda>", params, body, scope, cloFrom X.env.cells scope.names []⟩) (c := c') (pm := (X.mg "__name__").getD .none) (ctv := ctv) I1
    exact h _ c' _ _ I2 (fun b o e n => (upd_ne (ne_of_none (kE b o e n) nF)).trans (kE b o e n)) (fun b e => upd_none (upd_none (upd_none e))) (T1.ext fun b o e => (upd_ne (ne_of_none e nF)).trans e)
      (I.hok.fresh (Nat.le_trans hge (Nat.le_of_lt hlt))) upd_same ((upd_ne (Nat.ne_of_lt hlt)).trans tC)
end
/-- lambda: body, as a value -/
def tLamV (T : List (Addr × Str)) (l : LW) : TE := fun _ H Q => Tabs T H ∧ ∀ (f c' : Addr) (H1 : Hp), ExtN H H1 → (∀ b, H1 b = Option.none → H b = Option.none) → Tabs T H1 → H f = Option.none → H1 f = some (LamO f l c') → H1 c' = some (CodeO c' l.q) → Q (.ref f) H1
theorem pe_lam {X : Cx} {T : List (Addr × Str)} {c P : Addr} {params : Arguments} {body : Expr} {scope : Scope} {pos : Pos} (TB : TabB X.base X.mg c P) (hcode : X.env.code = .ref c) (hm : (P, X.env.qual ++ "<lambda>") ∈ T) (hu : ∀ p ∈ T, p.1 = P → p.2 = X.env.qual ++ "<lambda>")
    (L : LamS X.env.scope scope) (hdef : defaultsOf params X.env = ([], []) := by rfl) : PE X (.Lambda params body scope pos) (tLamV T ⟨X.env.qual ++ "<lambda>", params, body, scope, cloFrom X.env.cells scope.names []⟩) := by
  refine ⟨fun pins s σ H Q I h => ?_⟩
  obtain ⟨hT, h⟩ := h
  exact lam_new I TB hcode hm hu hT hdef (L.has I.ok) fun f c' H1 s' I1 eN nn T1 f0 f1 c1 => ⟨.ref f, H1, I1, rfl, h f c' H1 eN nn T1 f0 f1 c1⟩
end L3
end
section
set_option maxHeartbeats 4000000
namespace L3
open PySem PySem.Spec PyProof.Rows L2 LamX NdefX
/-- from one look to a later one, and from there on under frames that did not stand at the first -/
theorem un_then {fs fs' ex : List Addr} {H H1 H2 : Hp} {h h1 h2 : Heap} (a : Un fs ex H H1 h h1) (b : Un fs' [] H1 H2 h1 h2) (c : ∀ x ∈ fs', x ∈ fs ∨ h.get? x = none) : Un fs ex H H2 h h2 where
  keep x o e n hf hx := by
    refine b.keep x o (a.keep x o e n hf hx) (a.free x o e n hx) (fun z => ?_) (by simp)
    rcases c x z with k | k
    · exact hf k
    · rw [k] at e
      cases e
  slot x o e n hf hx := by
    obtain ⟨sl, e1⟩ := a.slot x o e n hf hx
    obtain ⟨sl2, e2⟩ := b.any e1 (a.free x o e n hx) (by simp)
    exact ⟨sl2, e2⟩
  free x o e n hx := by
    obtain ⟨o1, e1⟩ := a.there x o e hx
    exact b.free x o1 e1 (a.free x o e n hx) (by simp)
  there x o e hx := by
    obtain ⟨o1, e1⟩ := a.there x o e hx
    exact b.there x o1 e1 (by simp)
  tups x xs e := b.tups x xs (a.tups x xs e)
  frzs x o u e := b.frzs x o u (a.frzs x o u e)
  tbls x ps e := by
    obtain ⟨m1, e1⟩ := a.tbls x ps e
    obtain ⟨m2, e2⟩ := b.tbls x _ e1
    exact ⟨m1 ++ m2, by rw [e2, Array.append_assoc]⟩
/-- the frame of X stands with σ in its names, as it stood when the callee was entered -/
def Rd (X : Cx) (σ : L2.St) (outer : List Env) (s1 : Shared) (HZ : Hp) : Prop := ∃ (pins : List (Addr × Obj)) (s : Shared) (H : Hp) (ex : List Addr), Inv X pins σ H s ∧ Un (frs X.stack) ex H HZ s.heap s1.heap ∧ s.heap.objs.size ≤ s1.heap.objs.size ∧
  (∀ x c, X.env.cells.lookup x = some c → c ∉ ex) ∧ ∀ b ∈ frs outer, b ∈ frs X.stack ∨ s.heap.get? b = none
theorem Rd.start {X : Cx} {pins : List (Addr × Obj)} {σ : L2.St} {H : Hp} {s : Shared} (I : Inv X pins σ H s) : Rd X σ X.stack s H := ⟨pins, s, H, [], I, Un.refl, Nat.le_refl _, fun _ _ _ h => by simp at h, fun b h => .inl h⟩
/-- within a def that was entered so -/
theorem Rd.down {X : Cx} {σ σZ : L2.St} {CXg : CXT} {N : List Str} {qual : Str} {sc : Scope} {g : Addr} {cd : Value} {A : Around} {outer : List Env} {s1 s2 : Shared} {H1 H2 : Hp} {E : XK} {pn pinsZ : List (Addr × Obj)} {xe : Value → Shared → Prop}
    (r : Rd X σ outer s1 H1) (I : Inv ((cxOf CXg X.prog X.w X.K X.mg X.base N qual sc g cd A outer s1 H1 E).tr pn xe) pinsZ σZ H2 s2) : Rd X σ (envOfC qual sc s1.heap.objs.size g cd :: outer) s2 H2 := by
  obtain ⟨pins, s, H, ex, J, un, hz, hc, ho⟩ := r
  have z2 : s1.heap.objs.size ≤ s2.heap.objs.size := I.sz
  have base : Un (frs outer) [] H1 H2 s1.heap s2.heap := I.base
  refine ⟨pins, s, H, ex, J, un_then un base ho, Nat.le_trans hz z2, hc, fun b hb => ?_⟩
  have hb2 : b = s1.heap.objs.size ∨ b ∈ frs outer := by
    have z : b ∈ s1.heap.objs.size :: frs outer := hb
    exact List.mem_cons.mp z
  rcases hb2 with rfl | hb2
  · refine .inr ?_
    cases e : s.heap.get? s1.heap.objs.size with
    | none => rfl
    | some o =>
      exact absurd (Nat.lt_of_lt_of_le (Heap.lt_size e) hz) (Nat.lt_irrefl _)
  · exact ho b hb2
/-- a def's promise, where R holds of the frames and the state at its call -/
def FnRd (P : Program) (w : World) (K : PySem.W.Frag) (mg : Str → Option Value) (base : Heap) (CX : CXT) (k : Nat) (f : Addr) (R : List Env → Shared → Hp → Prop) (sp : Sp) : Prop :=
  ∀ (A : Around) (outer : List Env) (s : Shared) (H : Hp) (us : List Value) (vs : List V) (Q : VK) (E : XK), Room k A → Env0 P w K mg base A outer s H → Vals vs us → R outer s H → sp vs H Q E →
    codeAny (model P w) A (.call (.ref f) ⟨us, []⟩) (CR CX outer P w H s Q E) s
/-- .. of a def: its body, read from the state at its entry -/
theorem fn_rd {P : Program} {w : World} {K : PySem.W.Frag} {mg : Str → Option Value} {base : Heap} {CX : CXT} {x qual : Str} {st : Stmt} {f : Addr} {fd : FuncData} {N ps : List Str} {k : Nat} {R : List Env → Shared → Hp → Prop} {sp : Sp} (F : Fun K x qual st f fd) (S : FnScope N ps (defScope st)) (hb : L2.Binds K fd ps [])
    (len : ∀ vs H Q E, sp vs H Q E → vs.length = ps.length)
    (hbody : ∀ (cdv : Value) (A : Around) (outer : List Env) (s : Shared) (H : Hp) (vs : List V) (Q : VK) (E : XK), Room k (A.deeper (envOfC qual (defScope st) s.heap.objs.size f cdv)) → R outer s H → sp vs H Q E →
      ∃ t, PSs (cxOf CX P w K mg base N qual (defScope st) f cdv A outer s H E) (defBody st) t ∧ t { nx := fun _ H' => Q .non H', rt := Q } (L2.start N vs) H) : FnRd P w K mg base CX (k + 1) f R sp := by
  obtain ⟨oc, od, kV, doc, pm, an, cdv, ct, osl, rfl, lk, hcd⟩ := F.ex
  intro A outer s H us vs Q E hr e0 r hR hs
  have hl : vs.length = ps.length := len _ _ _ _ hs
  have KX : K.In s.heap := e0.mod.kin.keeps fun b o e => (e0.bs b o e).1
  have hbind := hb s us KX (by rw [List.append_nil, ← r.length]; exact hl)
  rw [List.append_nil] at hbind
  exact run_ofS lk hcd S hr e0 hbind r hl fun hr' => hbody cdv A outer s H vs Q E hr' hR hs
section
variable {X : Cx} {CX : CXT} {k : Nat} {f : Addr} {R : List Env → Shared → Hp → Prop} {sp : Sp} {E : L2.St → XK} {x : Str} {p pos : Pos} {e : Expr} {es : List Expr} {t : TA}
/-- its call, from where R is known of every state -/
theorem pe_callRd (G : FnRd X.prog X.w X.K X.mg X.base CX k f R sp) (hr : Room k X.A) (hg : Gl X x) (hm : X.mg x = some (.ref f)) (hk : PySem.W.keepIn X.K (.ref f) = true) (hR : ∀ (pins : List (Addr × Obj)) (s : Shared) (σ : L2.St) (H : Hp), Inv X pins σ H s → R X.stack s H)
    (hx : ∀ σ, PassesAt CX X σ (E σ)) (ha : PA X (e :: es) t) (hdb : (x == ("__debug__" : Str)) = false := by decide) (he : starEach (e :: es) X.env = (false, eval e X.env) :: starEach es X.env := by rfl) (hpl : (backTo pos (starEach es X.env)).any (·.1) = false := by rfl) :
    PE X (.Call (.Name x p) (e :: es) [] pos) (tCallS sp E t) := by
  refine ⟨fun pins s σ H Q I h => wpAny_Call_Name_kw (ld_glob I hg hm ?_ hdb)⟩
  refine PySem.W.callWith_K (h₀ := X.base) I.ok.mod.kin hk (thn (ha.run pos pins s σ H _ I h) fun us s1 ⟨vs, H1, I1, r, q⟩ => ⟨I1.kIn, ?_⟩) he hpl
  refine wpAny_call (codeAny_mono (G X.A X.stack s1 H1 us vs Q (E σ) hr I1.env0 r (hR _ _ _ _ I1) q) fun r s' hq => ?_)
  cases r with
  | error e => exact hx σ pins H1 s1 e s' I1 hq
  | ok fl =>
    cases fl with
    | ret u => exact I1.after hq
    | next => exact False.elim hq
    | brk => exact False.elim hq
    | cont => exact False.elim hq
end
end L3
end
section
set_option maxHeartbeats 4000000
namespace L3
open PySem PySem.Spec PyProof.Rows L2 LamX NdefX
/-- the lambda's body is entered, its maker's frame standing as Rd says -/
theorem lam_enter {X : Cx} {σ : L2.St} {HZ : Hp} {s1 : Shared} {A : Around} {outer : List Env} {E : XK} {scope : Scope} {f c' : Addr} {h₁ : Heap} {tk : Nat} (r : Rd X σ outer s1 HZ) (L : LamS X.env.scope scope) (e0 : Env0 X.prog X.w X.K X.mg X.base A outer s1 HZ) (hd : A.handled = none)
    (hns : h₁.Ns s1.heap.objs.size fun y => ([] : List (Str × Value)).reverse.lookup y) (kp : ∀ b o, s1.heap.get? b = some o → h₁.get? b = some o) :
    Inv (lamCx X A outer s1 HZ E scope f c') [] σ HZ { s1 with heap := h₁, toks := tk } := by
  obtain ⟨pins, s, H, ex, I, un, _, hc, _⟩ := r
  have from_ : ∀ {y c}, (cloFrom X.env.cells scope.names []).lookup y = some c → X.env.cells.lookup y = some c ∧ scope.names.lookup y = scope.names.lookup y := fun {y c} e => by
    rcases cloFrom_mem (PySem.mem_of_lookup e) with hm | ⟨h1, h2⟩
    · cases hm
    · obtain ⟨c1, h3⟩ := L.has I.ok _ h1 rfl
      have h3 : X.env.cells.lookup y = some c1 := h3
      have e2 : c = c1 := by rw [h2, h3] <;> rfl
      exact ⟨by rw [h3, e2], rfl⟩
  have there : ∀ {y}, scope.names.lookup y = some .free → ∃ c, (cloFrom X.env.cells scope.names []).lookup y = some c := fun {y} hl => mem_lookup (cloFrom_has (cells := X.env.cells) (acc := []) (PySem.mem_of_lookup hl))
  have cellK : ∀ {y : Str} {c : Addr} {v : Option Value}, X.env.cells.lookup y = some c → s.heap.IsCell c v → HZ c = none ∧ h₁.IsCell c v := fun {y c v} e ⟨o, ho, hv⟩ => by
    have n := I.freeC y c e
    obtain ⟨sl, q⟩ := un.any ho n (hc y c e)
    exact ⟨un.free c o ho n (hc y c e), _, kp _ _ q, hv⟩
  exact {
    ok := {
      mod := e0.mod
      kind := L.kind
      glob := rfl
      blt := rfl
      above := Nat.le_refl _
      inj := fun y z c e1 e2 => I.ok.inj y z c (from_ e1).1 (from_ e2).1
      has := fun y hy => by
        rcases (show scope.names.lookup y = some .cell ∨ scope.names.lookup y = some .free from hy) with k | k
        · exact absurd rfl (L.own _ (PySem.mem_of_lookup k)).2
        · exact there k
      cab := fun y c z _ => by
        have z : false = true := z
        cases z
      hd := fun _ => hd
      frames := Around.frames_deeper e0.frames
      stk := .inr ⟨rfl, rfl⟩
      exf := fun b z => absurd (show b ∈ ([] : List Addr) from z) (by simp)
      bs := e0.bs
      bsz := e0.bsz
      noex := fun b _ _ z => absurd (show b ∈ ([] : List Addr) from z) (by simp)
      exfs := fun b z => absurd (show b ∈ ([] : List Addr) from z) (by simp)
      funs := e0.funs
      frf := e0.frf }
    os := rfl
    bare := e0.bare
    base := Un.kept kp
    loc := by
      refine ⟨_, hns, fun i y v e1 e2 e3 => ?_⟩
      rcases (show Vis scope y from e3) with k | k | k
      · exact absurd rfl (L.own _ (PySem.mem_of_lookup k)).1
      · exact absurd rfl (L.own _ (PySem.mem_of_lookup k)).2
      · obtain ⟨m, _, hl⟩ := I.loc
        have fr := L.free _ (PySem.mem_of_lookup k) rfl
        have vis : Vis X.env.scope y := fr.elim (fun q => .inr (.inl q)) fun q => .inr (.inr q)
        obtain ⟨u, ru, q⟩ := hl i y v e1 e2 vis
        obtain ⟨c2, h2⟩ := there k
        have h3 := (from_ h2).1
        refine ⟨u, ru, .inr ⟨.inr k, c2, h2, ?_⟩⟩
        rcases q with ⟨k', _⟩ | ⟨_, c3, h4, z⟩
        · have k' : X.env.scope.names.lookup y = some .local := k'
          rcases fr with w | w
          · rw [show X.env.scope.names.lookup y = some .cell from w] at k'
            cases k'
          · rw [show X.env.scope.names.lookup y = some .free from w] at k'
            cases k'
        · rw [h3] at h4
          cases h4
          exact (cellK h3 z).2
    cell := fun y c e => by
      obtain ⟨v, z⟩ := I.cell y c (from_ e).1
      exact ⟨v, (cellK (from_ e).1 z).2⟩
    free := e0.hok.fresh (Nat.le_refl _)
    freeC := fun y c e => by
      obtain ⟨v, z⟩ := I.cell y c (from_ e).1
      exact (cellK (from_ e).1 z).1
    pin := fun q hq => absurd (show q ∈ ([] : List (Addr × Obj)) ++ [] from hq) (by simp)
    hok := e0.hok.kept kp
    len := I.len }
end L3
end
section
set_option maxHeartbeats 4000000
namespace L3
open PySem PySem.Spec PyProof.Rows L2 LamX NdefX
/-- the words of a lambda of X -/
abbrev lwOf (X : Cx) (params : Arguments) (body : Expr) (scope : Scope) : LW := ⟨X.env.qual ++ "<lambda>", params, body, scope, cloFrom X.env.cells scope.names []⟩
/-- a(), a holding a lambda of X, in a def that was entered while X stood -/
theorem pe_deed {X : Cx} {σ : L2.St} {CXg : CXT} {Ng : List Str} {qg : Str} {sg : Scope} {g : Addr} {cdg : Value} {A : Around} {outer : List Env} {s1 : Shared} {H1 : Hp} {Eg : XK} {pn : List (Addr × Obj)} {xe : Value → Shared → Prop} {E : L2.St → XK} {k i : Nat} {a : Str}
    {params : Arguments} {body : Expr} {scope : Scope} {t : XK → TE} {p1 p2 : Pos} (rd : Rd X σ outer s1 H1) (L : LamS X.env.scope scope)
    (hbind : ∀ (q : Str) (cl : List (Str × Addr)) (pm cv ctv : Value), bindArgs (PySem.W.kla_fn "<lambda>" q params body scope cl pm cv ctv) ⟨[], []⟩ = pure [])
    (hr : Room (k + 1) (A.deeper (envOfC qg sg s1.heap.objs.size g cdg))) (hx : ∀ σZ, PassesAt (L2.CX X.prog X.w) ((cxOf CXg X.prog X.w X.K X.mg X.base Ng qg sg g cdg A outer s1 H1 Eg).tr pn xe) σZ (E σZ))
    (hbody : ∀ (A : Around) (outer : List Env) (s : Shared) (H : Hp) (E : XK) (f c' : Addr), Room k (A.deeper (lamEnv X scope s.heap.objs.size f c')) → PE (lamCx X A outer s H E scope f c') body (t E))
    (hN : Ng[i]? = some a) (hv : Vis sg a) (hd : (a == ("__debug__" : Str)) = false := by decide) (hcd : (a == ("__classdict__" : Str)) = false := by decide) :
    PE ((cxOf CXg X.prog X.w X.K X.mg X.base Ng qg sg g cdg A outer s1 H1 Eg).tr pn xe) (.Call (.Name a p1) [] [] p2)
      (fun σZ HZ Q => ∃ f c' : Addr, σZ[i]? = some (some (.ref f)) ∧ HZ f = some (LamO f (lwOf X params body scope) c') ∧ HZ c' = some (CodeO c' (X.env.qual ++ "<lambda>")) ∧ t (E σZ) σ HZ Q) := by
  refine ⟨fun pinsZ sZ σZ HZ Q IZ h => ?_⟩
  obtain ⟨f, c', hs, hf, hc, ht⟩ := h
  refine wpAny_Call_Name_kw (thn ((pe_var (pos := p1) (i := i) hN hv hd hcd).run pinsZ sZ σZ HZ (fun v H2 => v = .ref f ∧ H2 = HZ) IZ ⟨.ref f, hs, rfl, rfl⟩) fun u s2 got => ?_)
  obtain ⟨v, H2, I2, r2, ev, eH⟩ := got
  subst ev
  rw [eH] at I2
  obtain rfl : u = Value.ref f := r2
  obtain ⟨od, sl, pm, ctv, of1⟩ := lamO_at I2.hok hf
  refine PySem.W.callWith_F0 ⟨_, _, _, _, of1⟩ ?_
  have rd2 := rd.down I2
  have code : codeAny (model X.prog X.w) (A.deeper (envOfC qg sg s1.heap.objs.size g cdg)) (.call (.ref f) ⟨[], []⟩) (CR (L2.CX X.prog X.w) (envOfC qg sg s1.heap.objs.size g cdg :: outer) X.prog X.w HZ s2 Q (E σZ)) s2 := by
    refine PySem.W.kla_callFunE hr.depth of1 rfl L.co L.gen rfl (codeO_at I2.hok hc) ?_
    rw [hbind]
    refine wpAny_pure (wpAny_newFunctionEnv (fun y hy => (L.own y hy).2) (fun y hy => absurd hy (by simp)) (fun h₁ hns hsb => ⟨I2.nolimit.fresh _ hsb, ?_⟩) L.kind)
    have kp : ∀ b o, s2.heap.get? b = some o → h₁.get? b = some o := fun b o e => hsb.extBut b o (Nat.ne_of_lt (Heap.lt_size e)) (Heap.get?_push_of_some _ e)
    have J := lam_enter (E := E σZ) (f := f) (c' := c') (tk := s2.toks + ([] : List (Str × Value)).length) rd2 L I2.env0 hr.hd hns kp
    show codeAny _ _ (.expr body (lamEnv X scope s2.heap.objs.size f c')) _ _
    refine PySem.W.kla_codeExpr (wpAny_mono ((hbody _ _ s2 HZ _ f c' (hr.deeper _)).run [] _ _ HZ Q J ht) (fun v s' hq => ?_) fun e s' hq => hq)
    obtain ⟨w', H', J', rv, q⟩ := hq
    exact ⟨w', H', J'.os, J'.bare, J'.base, J'.hok, rv, q⟩
  refine wpAny_call (codeAny_mono code fun r s' hq => ?_)
  cases r with
  | error e => exact hx σZ pinsZ HZ s2 e s' I2 hq
  | ok fl =>
    cases fl with
    | ret u => exact I2.after hq
    | next => exact False.elim hq
    | brk => exact False.elim hq
    | cont => exact False.elim hq
end L3
end
section
set_option maxHeartbeats 4000000
namespace L3
open PySem PySem.Spec PyProof.Rows L2 LamX NdefX
/-- within a comprehension's block the maker's frame stands -/
theorem Rd.block {X : Cx} {σ σ' : L2.St} {pins pins' : List (Addr × Obj)} {s s' : Shared} {H H' : Hp} {scope : Scope} {fp : List Addr} {cl : List (Str × Addr)} {pn : List (Addr × Obj)} {xe : Value → Shared → Prop} (I : Inv X pins σ H s) (hc : ∀ x c, X.env.cells.lookup x = some c → c ∉ fp)
    (J : Inv ((X.blk s H scope (compEnvC scope cl s.heap.objs.size X.env) fp)) pins' σ' H' s') : Rd X σ (X.blk s H scope (compEnvC scope cl s.heap.objs.size X.env) fp).stack s' H' := by
  refine ⟨pins, s, H, fp, I, J.base, J.sz, hc, fun b hb => ?_⟩
  rcases List.mem_cons.mp (J.stkSub b hb) with z | z
  · have z : b = s.heap.objs.size := z
    exact .inr (Heap.get?_none_of_le (Nat.le_of_eq z.symm))
  · exact .inl z
section
variable {X : Cx} {elt tg iter : Expr} {ifs : List Expr} {scope : Scope} {own : List (Str × Nat)} {wi : TI} {g : TG} {tt : TT} {te : L2.St → TE}
/-- what the item's rule may use: the maker's state at the block's start -/
def ItemS (X : Cx) (scope : Scope) (elt : Expr) (te : L2.St → TE) : Prop := ∀ (pins : List (Addr × Obj)) (σ : L2.St) (s : Shared) (H : Hp) (cl : List (Str × Addr)) (fp : List Addr), Inv X pins σ H s → (∀ x c, X.env.cells.lookup x = some c → c ∉ fp) →
  PE (X.blk s H scope (compEnvC scope cl s.heap.objs.size X.env) fp) elt (te σ)
/-- the turns of such a block, from its first state on -/
theorem turns_of {σ : L2.St} {sA sB : Shared} {HA : Hp} {Q : VK} {pos : Pos} {ce : Env} {fp : List Addr} {D it : Addr} {tn : Nat → Heap → Prop} {J : It} {W : Nat → Nat → Hp → Prop} {m0 : Nat} {R : Result → Shared → Prop}
    (hc : X.calm = true) (T : Turn X.prog X.w X.K tg J fp it tn) (pg : PG (X.blk sA HA scope ce fp) tg g) (pt : PTs (X.blk sA HA scope ce fp) ifs tt) (pe : PE (X.blk sA HA scope ce fp) elt (te σ)) (start : Inv (X.blk sA HA scope ce fp) [] (wipe σ (own.map (·.2))) HA sB) (st : tn 0 sB.heap) (nf : ∀ b ∈ fp, HA b = none) (w0 : W 0 m0 HA)
    (turn : ∀ i m H, W i m H → (J.stop i H ∧ Q (.ref D) H) ∨ (J.go i H ∧ ∃ Nx : Hp → Prop, (∀ H', Nx H' → ∃ m', m' < m ∧ W (i + 1) m' H') ∧ ∀ x H', J.yld i H x H' → g x (wipe σ (own.map (·.2))) H' fun σ2 H2 => wipe σ2 (own.map (·.2)) = wipe σ (own.map (·.2)) ∧ tt σ2 H2 fun b H3 =>
      if b = true then te σ σ2 H3 fun y H4 => ∃ acc, H4 D = some (.lst acc) ∧ acc.length < sizeLine ∧ Nx (upd H4 D (.lst (acc ++ [y]))) else Nx H3))
    (fin : ∀ {σ' : L2.St} {s' : Shared} {H' : Hp}, Inv (X.blk sA HA scope ce fp) [] σ' H' s' → Q (.ref D) H' → R (.ok .next) s') :
    codeAny (model X.prog X.w) X.A (.compLoop (.ListComp elt [⟨tg, iter, ifs, 0⟩] scope pos) 0 (.ref it) (.ref D) ce) R sB := by
  have loose : ∀ {σ' : L2.St} {H' : Hp} {s' : Shared}, Inv (X.blk sA HA scope ce fp) [] σ' H' s' → (∀ b ∈ fp, H' b = none) → ∀ b ∈ fp, FpOk (X.blk sA HA scope ce fp) [] H' b := by
    intro σ' H' s' V none_ b hb
    have no_pins : ∀ q ∈ ([] : List (Addr × Obj)) ++ [], q.1 ≠ b := fun q hq => by simp at hq
    exact ⟨none_ b hb, (V.ok.exf b hb).1, V.ok.exfs b hb, .inl hb, fun x c e => (V.ok.exf b hb).2 x c e, fun q hq => no_pins q hq⟩
  refine compLoop_any (fun k sC => ∃ j HC, Inv (X.blk sA HA scope ce fp) [] (wipe σ (own.map (·.2))) HC sC ∧ tn j sC.heap ∧ (∀ b ∈ fp, HC b = none) ∧ W j k HC) ?_ m0 ⟨0, HA, start, st, nf, w0⟩
  intro k sC hC
  obtain ⟨j, HC, VC, tC, nC, wC⟩ := hC
  rcases turn j k HC wC with ⟨ends, q⟩ | ⟨goes, Nx, next, step⟩
  · refine thnF (T.done (X.blk sA HA scope ce fp) rfl rfl rfl hc j [] sC _ HC (fun _ _ => False) VC (loose VC nC) tC ends) ?_
    rintro r sD ⟨rfl, VD⟩
    exact fin VD q
  · refine thnF (T.item (X.blk sA HA scope ce fp) rfl rfl rfl hc j [] sC _ HC (fun _ _ => False) VC (loose VC nC) tC goes) ?_
    rintro r sD ⟨u, rfl, told⟩
    refine thnF told ?_
    rintro - sE ⟨x, HE, VE, rE, yE, tE, nE⟩
    refine thnF (pg.run _ sE _ HE x u _ (VE.pinned (loose VE nE) (T.obj _ _ tE)) rE (step x HE yE)) ?_
    rintro - sF ⟨σF, HF, VF, wF, qF⟩
    refine thnF (pt.run _ sF σF HF _ VF qF) ?_
    rintro ok sG ⟨HG, VG, qG⟩
    have back_ : ∀ {sZ : Shared} {HZ : Hp}, Inv (X.blk sA HA scope ce fp) ([] ++ pinsAt fp sE.heap) σF HZ sZ → Nx HZ → ∃ k', k' < k ∧ ∃ j HC, Inv (X.blk sA HA scope ce fp) [] (wipe σ (own.map (·.2))) HC sZ ∧ tn j sZ.heap ∧ (∀ b ∈ fp, HC b = none) ∧ W j k' HC := by
      intro sZ HZ VZ nx
      obtain ⟨k', less, wZ⟩ := next HZ nx
      have held_ : ∀ b ∈ fp, ∀ o, sE.heap.get? b = some o → sZ.heap.get? b = some o ∧ HZ b = none := by
        intro b hb o e
        have z := VZ.pin (b, o) (List.mem_append_right _ (List.mem_append_right _ (mem_pinsAt hb e)))
        exact ⟨z.1, z.2.1⟩
      refine ⟨k', less, j + 1, HZ, (VZ.unpinned (pins := [])).weak (by rw [← wF, wipe_length]) (fun i v e => ?_), T.keep _ _ _ tE fun b hb o e => (held_ b hb o e).1, fun b hb => ?_, wZ⟩
      · rw [← wF] at e
        exact (wipe_some e).1
      · obtain ⟨o, e, _⟩ := T.obj _ _ tE b hb
        exact (held_ b hb o e).2
    cases ok
    · simp only [Bool.false_eq_true, if_false] at qG ⊢
      exact back_ VG qG
    · simp only [if_true] at qG ⊢
      refine thnF (pe.run _ sG σF HG _ VG qG) ?_
      rintro z sH ⟨yv, HH, VH, rH, acc, eD, few, nx⟩
      exact app_ok (X := X.blk sA HA scope ce fp) VH eD few rH fun sI VI => back_ VI nx
/-- a list comprehension whose item may call what captures the maker's names -/
theorem pe_lcS {pos : Pos} (hc : X.calm = true) (hN : X.N.Nodup) (hi : PI X tg iter wi) (ok : BlkOk X.N X.env.scope scope own)
    (hg : ∀ (s : Shared) (H : Hp) (C : Addr) (cl : List (Str × Addr)) (fp : List Addr), PG (X.blk s H scope (compEnvC scope cl C X.env) fp) tg g) (ht : ∀ (s : Shared) (H : Hp) (C : Addr) (cl : List (Str × Addr)) (fp : List Addr), PTs (X.blk s H scope (compEnvC scope cl C X.env) fp) ifs tt)
    (he : ItemS X scope elt te) (hs : ∀ x, foldedSetIterable iter X.env x = pure x := by intro _; rfl) :
    PE X (.ListComp elt [⟨tg, iter, ifs, 0⟩] scope pos) (fun σ H Q => tLc wi g tt (te σ) (own.map (·.2)) σ H Q) := by
  refine ⟨fun pins s σ H Q I told => ?_⟩
  have captured : ∀ y ∈ scope.names, y.2 = .free → ∃ c, X.env.cells.lookup y.1 = some c := by
    intro y hy e
    rcases ok.free y hy e with k | k
    · exact I.ok.has _ (.inl k)
    · exact I.ok.has _ (.inr k)
  rw [eval_ListComp]
  refine wpAny_comprehension_free rfl hs (closure_ok captured) ok.kind (fun y hy e => by rw [ok.uniq y hy, e]) (thn (hi.run pins s σ H _ I told) ?_)
  intro xv sA asked
  refine thn asked ?_
  intro itv sB gotten
  obtain ⟨it, fp, tn, J, HB, rfl, VB, T, tB, free_, q⟩ := gotten
  refine wpAny_newObj_type (newEnv_comp ?_) (by show 0 ≤ sizeLine; decide)
  -- the new list
  have newD : HB sB.heap.objs.size = none := VB.hok.fresh (Nat.le_refl _)
  obtain ⟨W, ⟨m0, w0⟩, turn⟩ := q sB.heap.objs.size newD
  have VC : Inv X pins σ (upd HB sB.heap.objs.size (.lst [])) { sB with heap := sB.heap.push { cls := .type "list", data := .seq ([] : List Value).toArray } } :=
    VB.laid (t' := sB.toks) (fun b o e => Heap.get?_push_of_some _ e) (Nat.le_refl _) ⟨Nat.zero_le _, [], 0, .nil, Heap.get?_push_size _ rfl⟩
  generalize eC : ({ sB with heap := sB.heap.push { cls := .type "list", data := .seq ([] : List Value).toArray } } : Shared) = sC at VC
  have hC : sC.heap = sB.heap.push { cls := .type "list", data := .seq ([] : List Value).toArray } := by rw [← eC]
  have young : ∀ b ∈ fp, b < sB.heap.objs.size := by
    intro b hb
    obtain ⟨o, e, _⟩ := T.obj _ _ tB b hb
    exact Heap.lt_size e
  have freeC : ∀ b ∈ fp, FpOk X pins (upd HB sB.heap.objs.size (.lst [])) b ∧ b < sC.heap.objs.size := by
    intro b hb
    have less := young b hb
    refine ⟨⟨?_, (free_ b hb).2⟩, by rw [hC, Heap.size_push]; exact Nat.lt_succ_of_lt less⟩
    rw [upd_ne (Nat.ne_of_lt less)]
    exact (free_ b hb).1
  have tC : tn 0 sC.heap := T.keep _ _ _ tB fun b _ o e => by rw [hC]; exact Heap.get?_push_of_some _ e
  generalize eD : sB.heap.objs.size = D at newD w0 VC freeC turn young
  generalize eH : upd HB D (.lst []) = HC at VC w0 freeC
  have start := block_start VC ok hN freeC
  have noC : ∀ x c, X.env.cells.lookup x = some c → c ∉ fp := fun x c e hb => (freeC c hb).1.2.2.2.2.1 x c e rfl
  have item := he pins σ sC HC (cellsFrom (sC.heap.objs.size + 1) scope.names (cloFrom X.env.cells scope.names [])) fp VC noC
  have goal_ : codeAny (model X.prog X.w) X.A (.compStart (.ListComp elt [⟨tg, iter, ifs, 0⟩] scope pos) 0 (.ref it) (.ref D) (compEnvC scope (cellsFrom (sC.heap.objs.size + 1) scope.names (cloFrom X.env.cells scope.names [])) sC.heap.objs.size X.env))
      (compPost (model X.prog X.w) X.A X.xe none (EP X pins σ Q) (.ref D) sC.heap.objs.size) { sC with heap := pushCells (sC.heap.push { cls := .type "dict", data := .dict #[] }) scope.names } := by
    have tD : tn 0 (pushCells (sC.heap.push { cls := .type "dict", data := .dict #[] }) scope.names) := T.keep _ _ _ tC fun b _ o e => pushCells_keeps _ _ _ _ (Heap.get?_push_of_some _ e)
    have loop := turns_of (iter := iter) (te := te) (own := own) (pos := pos) (sB := { sC with heap := pushCells (sC.heap.push { cls := .type "dict", data := .dict #[] }) scope.names }) (R := compPost (model X.prog X.w) X.A X.xe none (EP X pins σ Q) (.ref D) sC.heap.objs.size) hc T
      (hg sC HC sC.heap.objs.size (cellsFrom (sC.heap.objs.size + 1) scope.names (cloFrom X.env.cells scope.names [])) fp) (ht sC HC sC.heap.objs.size _ fp) item start tD (fun b hb => (freeC b hb).1.1) w0 turn ?_
    · exact codeAny_compStart_list loop (T.self X.A 0 _ _ _ tD loop)
    · intro σZ sZ HZ VZ qZ
      have VX : Inv X pins σ HZ sZ := VC.call' (ch := fp) VZ.os VZ.base VZ.hok VZ.bare fun b hb => ⟨(freeC b hb).1.2.2.2.1, (freeC b hb).1.2.1, (freeC b hb).1.2.2.2.2.1, (freeC b hb).1.2.2.2.2.2⟩
      have own_ : HZ sC.heap.objs.size = none := VZ.free
      obtain ⟨m, hn, _⟩ := VZ.loc
      obtain ⟨f0, f1, f2, f3, f4, f5⟩ := VC.fpOk (H' := HZ) (Nat.le_refl _) own_
      exact ⟨m, hn, fun h'' sb => ⟨.ref D, HZ, VX.turned (t' := sZ.toks) (fun b o hb e => (sb.2 b hb).trans e) f0 f1 f3 f4 f5, rfl, qZ⟩⟩
  subst eC eD
  exact goal_
end
end L3
end
section
set_option maxHeartbeats 4000000
namespace L3
open PySem PySem.Spec PyProof.Rows L2
/-- a clause: its class, the slot of its name if it has one, its suite -/
structure Cl where
  c : Value
  at_ : Option Nat
  ts : Addr → Value → Option Addr → TS
/-- behind a suite whose exception had a name -/
def Cl.ends (l : Cl) (D : Ends) : Ends := match l.at_ with
  | none => D
  | some i => { nx := fun σ' H' => D.nx (σ'.set i none) H', rt := D.rt, bk := fun σ' H' => D.bk (σ'.set i none) H', ct := fun σ' H' => D.ct (σ'.set i none) H' }
def Cl.named (l : Cl) (σ : L2.St) (a : Addr) : L2.St := match l.at_ with
  | none => σ
  | some i => σ.set i (some (.ref a))
/-- what such clauses wish of an exception of the body -/
def wCls (K : PySem.W.Frag) (Wout : WX) (D : Ends) : List Cl → WX
  | [] => Wout
  | l :: r => fun cls d σ H => ∃ b, PySem.W.exmOne K cls l.c = some b ∧ (b = true → ∀ a, H a = none → l.ts a cls d (l.ends D) (l.named σ a) H) ∧ (b = false → wCls K Wout D r cls d σ H)
/-- the clauses' rules: with a name or without -/
inductive Cls (X : Cx) : List ExceptHandler → List Cl → Prop
  | nil : Cls X [] []
  | bare {x : Str} {c : Value} {ts : Addr → Value → Option Addr → TS} {b₀ : Stmt} {suite : List Stmt} {np pos' : Pos} {hds : List ExceptHandler} {l : List Cl} (hc : Names X x c)
      (hsu : ∀ (a : Addr) (oe : Obj) (cls : Value) (d : Option Addr) (pn : List (Addr × Obj)), Zc cls d oe → (∃ vs, oe.data = .fields vs) → PSs (X.suite a ((a, oe) :: pn)) (b₀ :: suite) (ts a cls d)) (r : Cls X hds l) :
      Cls X (.ExceptHandler (some (.Name x np)) none (b₀ :: suite) pos' :: hds) (⟨c, none, ts⟩ :: l)
  | as_ {x n : Str} {i : Nat} {c : Value} {ts : Addr → Value → Option Addr → TS} {b₀ : Stmt} {suite : List Stmt} {np pos' : Pos} {hds : List ExceptHandler} {l : List Cl} (hc : Names X x c) (hi : X.N[i]? = some n) (hl : X.env.kindOf n = some .local)
      (hsu : ∀ (a : Addr) (oe : Obj) (cls : Value) (d : Option Addr) (pn : List (Addr × Obj)), Zc cls d oe → (∃ vs, oe.data = .fields vs) → PSs (X.suite a ((a, oe) :: pn)) (b₀ :: suite) (ts a cls d)) (r : Cls X hds l) :
      Cls X (.ExceptHandler (some (.Name x np)) (some n) (b₀ :: suite) pos' :: hds) (⟨c, some i, ts⟩ :: l)
section
variable {X : Cx} {Wout : WX}
/-- a suite's end, told to the statement -/
theorem suite_ends {pins : List (Addr × Obj)} {D : Ends} {a : Addr} {oe : Obj} {f : Flow} {s : Shared} (ok : X.Ok) (h : SP (X.suite a ((a, oe) :: (X.pn ++ pins))) [] D f s) : SP X pins D f s := by
  cases f with
  | ret u =>
    obtain ⟨v, σ', H', J, r, q⟩ := h
    exact ⟨v, σ', H', J.unsuite ok, r, q⟩
  | next => obtain ⟨σ', H', J, q⟩ := h; exact ⟨σ', H', J.unsuite ok, q⟩
  | brk => obtain ⟨σ', H', J, q⟩ := h; exact ⟨σ', H', J.unsuite ok, q⟩
  | cont => obtain ⟨σ', H', J, q⟩ := h; exact ⟨σ', H', J.unsuite ok, q⟩
/-- an exception that has been caught, the state as it lies -/
structure Caught (X : Cx) (pins : List (Addr × Obj)) (σ : L2.St) (H : Hp) (sI : Shared) (B : Heap) (a : Addr) (cls : Value) (d : Option Addr) (s : Shared) : Prop where
  I : Inv X pins σ H sI
  nb : ∀ b o, sI.heap.get? b = some o → b ∉ frs X.stack → B.get? b = some o
  up : sI.heap.UpToSlots s.heap
  fl : HandSPX.FlyingZ B (X.env :: X.outer) a (Zc cls d) s.heap
  na : H a = none
  os : s.os = sI.os
  ag : AllBare s.gens
theorem Caught.on {pins : List (Addr × Obj)} {σ : L2.St} {H : Hp} {s sI : Shared} {B h : Heap} {a : Addr} {cls : Value} {d : Option Addr} (k : Caught X pins σ H sI B a cls d s) (fl : HandSPX.FlyingZ B (X.env :: X.outer) a (Zc cls d) h) (up : s.heap.UpToSlots h) :
    Caught X pins σ H sI B a cls d { s with heap := h } := ⟨k.I, k.nb, k.up.trans up, fl, k.na, k.os, k.ag⟩
theorem Caught.inv {pins : List (Addr × Obj)} {σ : L2.St} {H : Hp} {s sI : Shared} {B : Heap} {a : Addr} {cls : Value} {d : Option Addr} (k : Caught X pins σ H sI B a cls d s) : Inv X pins σ H s := k.I.landed k.nb k.fl.1 k.up k.os k.ag
theorem Caught.suite {pins : List (Addr × Obj)} {σ : L2.St} {H : Hp} {s sI : Shared} {B : Heap} {a : Addr} {cls : Value} {d : Option Addr} (k : Caught X pins σ H sI B a cls d s) (hf : X.env.frame = some X.env.locals) :
    ∃ oe vs, s.heap.get? a = some oe ∧ Zc cls d oe ∧ oe.data = .fields vs ∧ Inv (X.suite a ((a, oe) :: (X.pn ++ pins))) [] σ H s := by
  obtain ⟨oe, vs, he, hz, hd⟩ := k.fl.there
  have noFrame : a ∉ frs (X.env :: X.outer) := fun hm => by
    obtain ⟨_, o', e', plain⟩ := k.fl.2.2.1.mem hm
    rw [he] at e'
    cases e'
    exact plain _ hd
  have nL : a ≠ X.env.locals := fun z => noFrame (List.mem_filterMap.mpr ⟨X.env, List.mem_cons_self, by rw [hf, z]⟩)
  have nF : a ∉ X.fs := fun hm => by
    obtain ⟨e, q1, q2⟩ := List.mem_filterMap.mp hm
    exact noFrame (List.mem_filterMap.mpr ⟨e, List.mem_cons_of_mem _ q1, q2⟩)
  exact ⟨oe, vs, he, hz, hd, k.inv.suite he hd k.na nL nF⟩
/-- the clauses, one behind another -/
theorem clauses_go {pins : List (Addr × Obj)} {D : Ends} {σ : L2.St} {H : Hp} {sI : Shared} {B : Heap} {a : Addr} {cls : Value} {d : Option Addr} (ok : X.Ok) (hN : X.N.Nodup) (hs : X.stack = X.env :: X.outer) (hf : X.env.frame = some X.env.locals) (tk : Takes X Wout) :
    ∀ {hds : List ExceptHandler} {ls : List Cl}, Cls X hds ls → ∀ s : Shared, Caught X pins σ H sI B a cls d s → wCls X.K Wout D ls cls d σ H → wpAny (model X.prog X.w) X.A (handleBy (.ref a) X.env hds) (SP X pins D) X.xe s := by
  -- the test of a clause
  have asks : ∀ {x : Str} {c : Value} {np : Pos} {b : Bool} {s : Shared}, Names X x c → Caught X pins σ H sI B a cls d s → PySem.W.exmOne X.K cls c = some b → ∀ {Q : Value → Shared → Prop} {E : Value → Shared → Prop},
      (PySem.W.Looks (model X.prog X.w) s.heap (typeOf (.ref a)) cls → Q c s) → wpAny (model X.prog X.w) (X.A.mark (some (.ref a))) (eval (.Name x np) X.env) Q E s := by
    intro x c np b s hc k _ Q E q
    obtain ⟨oe, vs, he, hz, hd, S⟩ := k.suite hf
    have q' := q fun A' Q' E' s' kp z => wpAny_typeOf_ref (kp _ _ he) (by rw [hz.1]; exact z)
    obtain ⟨hg, hdbg, hm | ⟨hm, hv, hnn⟩⟩ := hc
    · exact ld_glob (X := X.suite a ((a, oe) :: (X.pn ++ pins))) S hg hm q' hdbg
    · exact ld_blt (X := X.suite a ((a, oe) :: (X.pn ++ pins))) S hg hm hv q' hnn hdbg
  intro hds ls hk
  induction hk with
  | nil =>
    intro s k w
    refine wpAny_handleBy_nil ?_
    obtain ⟨k1, k2, k3, oe, vs, T, oT, ts', he, hz, hd, h1, hr⟩ := id k.fl
    unfold PySem.passOn
    refine wpAny_bind (wpAny_field he hd h1 ?_)
    rw [if_neg (show ¬ ((Value.ref T == Value.none) = true) from by simp)]
    have out : wpAny (model X.prog X.w) X.A (setFlight (.ref a) X.env.frame) (fun _ sZ => wpAny (model X.prog X.w) X.A (throw (.ref a) : Sem Flow) (SP X pins D) X.xe sZ) X.xe s := by
      rw [hf]
      refine HandSPX.setFlight_upZ k.fl fun hZ held up => wpAny_throw (tk _ _ ?_)
      exact ⟨a, B, sI, pins, σ, H, cls, d, rfl, k.I, k.nb, k.up.trans up, .inr (.inr (by rw [hs]; exact held)), k.na, k.os, k.ag, w⟩
    first
      | exact wpAny_bind (wpAny_pure (wpAny_bind out))
      | exact wpAny_bind out
  | @bare x c ts b₀ suite np pos' hds2 l2 hc hsu r ih =>
    intro s k w
    obtain ⟨b, hb1, yes, no⟩ := w
    refine wpAny_handleBy_cons (codeAny_handlers_test ?_) (by intro q; cases q)
    refine asks hc k hb1 fun LT => ?_
    refine (PySem.W.exm_one (M := model X.prog X.w) k.inv.kIn LT hb1).here ?_
    cases b with
    | false => exact ih s k (no rfl)
    | true =>
      refine codeAny_handlers_suite (HandSPX.lands_againZ k.fl fun hZ fl up => ?_)
      obtain ⟨oe, vs, he, hz, hd, S⟩ := (k.on fl up).suite hf
      exact wpAny_mono ((hsu a oe cls d (X.pn ++ pins) hz ⟨_, hd⟩).run [] _ _ H _ S (yes rfl a k.na)) (fun f sZ z => suite_ends ok z) fun _ _ z => False.elim z
  | @as_ x n i c ts b₀ suite np pos' hds2 l2 hc hi hl hsu r ih =>
    intro s k w
    obtain ⟨b, hb1, yes, no⟩ := w
    refine wpAny_handleBy_cons (codeAny_handlers_test ?_) (by intro q; cases q)
    refine asks hc k hb1 fun LT => ?_
    refine (PySem.W.exm_one (M := model X.prog X.w) k.inv.kIn LT hb1).here ?_
    cases b with
    | false => exact ih s k (no rfl)
    | true =>
      refine codeAny_handlers_suite_as (HandSPX.lands_againZ k.fl fun hZ fl up => ?_)
      obtain ⟨oe, vs, he, hz, hd, S⟩ := (k.on fl up).suite hf
      refine store_ok (X := X.suite a ((a, oe) :: (X.pn ++ pins))) (v := .ref a) S hN hi (.inl hl) rfl (fun sY SY => ?_) (.inr hl)
      refine wpAny_mono ((hsu a oe cls d (X.pn ++ pins) hz ⟨_, hd⟩).run [] sY _ H _ SY (yes rfl a k.na)) (fun f sZ z => ?_) fun _ _ z => False.elim z
      have leaves : ∀ {σ6 : L2.St} {H6 : Hp} {Q : Shared → Prop}, Inv (X.suite a ((a, oe) :: (X.pn ++ pins))) [] σ6 H6 sZ → (∀ s7, Inv X pins (σ6.set i none) H6 s7 → Q s7) →
          wpAny (model X.prog X.w) X.A (do bindName X.env n .none; unbindBehindTheSuite X.env n pos') (fun _ s7 => Q s7) X.xe sZ := fun {σ6 H6 Q} S6 q => gone_ok (S6.unsuite ok) hN hi hl q
      cases f with
      | ret u =>
        obtain ⟨v6, σ6, H6, S6, r6, q6⟩ := z
        exact leaves S6 fun s7 J7 => ⟨_, _, _, J7, r6, q6⟩
      | next =>
        obtain ⟨σ6, H6, S6, q6⟩ := z
        exact leaves S6 fun s7 J7 => ⟨_, _, J7, q6⟩
      | brk =>
        obtain ⟨σ6, H6, S6, q6⟩ := z
        exact leaves S6 fun s7 J7 => ⟨_, _, J7, q6⟩
      | cont =>
        obtain ⟨σ6, H6, S6, q6⟩ := z
        exact leaves S6 fun s7 J7 => ⟨_, _, J7, q6⟩
/-- try: .. with several clauses, some with a name -/
theorem ps_tryC {body : List Stmt} {h₀ : ExceptHandler} {hds : List ExceptHandler} {l : List Cl} {pos : Pos} {tb : WX → TS} (hs : X.stack = X.env :: X.outer) (hf : X.env.frame = some X.env.locals) (hN : X.N.Nodup) (tk : Takes X Wout)
    (hb : ∀ (W : WX) (pn : List (Addr × Obj)) (xe : Value → Shared → Prop), Takes (X.tr pn xe) W → PassesOwn (model X.prog X.w) X.A X.env xe → PSs (X.tr pn xe) body (tb W))
    (hh : Cls X (h₀ :: hds) l) : PS X (.Try body (h₀ :: hds) [] [] pos) (fun D σ H => tb (wCls X.K Wout D l) D σ H) := by
  refine ⟨fun pins s σ H D I h => ?_⟩
  have ok := I.ok
  have hfr : X.A.frames = some (X.env :: X.outer) := by rw [ok.frames, hs]
  refine wpAny_Try_except ?_
  have inner := (hb (wCls X.K Wout D l) (X.pn ++ pins) (fun e s₁ => wpAny (model X.prog X.w) X.A (noteFrame e X.env) (fun _ s₂ => wpAny (model X.prog X.w) X.A (setFlight e none) (fun _ s₃ =>
    wpAny (model X.prog X.w) X.A (handleBy e X.env (h₀ :: hds)) (SP X pins D) X.xe s₃) X.xe s₂) X.xe s₁) (fun u s' xx => ?_) PassesOwn.looking).run [] s σ H D (I.toTry _) h
  · refine wpAny_mono inner (fun f sZ z => ?_) fun e sZ z => z
    cases f with
    | next =>
      obtain ⟨σ', H', J, q⟩ := z
      exact wpAny_execs_nil ⟨σ', H', J.ofTry ok, q⟩
    | ret u =>
      obtain ⟨v, σ', H', J, r, q⟩ := z
      exact ⟨v, σ', H', J.ofTry ok, r, q⟩
    | brk => obtain ⟨σ', H', J, q⟩ := z; exact ⟨σ', H', J.ofTry ok, q⟩
    | cont => obtain ⟨σ', H', J, q⟩ := z; exact ⟨σ', H', J.ofTry ok, q⟩
  · obtain ⟨a, B, sI, pins', σ', H', cls, d, rfl, J', nb, up, sky, na, os, ag, w⟩ := xx
    have J : Inv X pins σ' H' sI := J'.ofTry ok
    show wpAny (model X.prog X.w) X.A (noteFrame (.ref a) X.env) _ _ _
    refine Sky.land Zc.steady hfr hf (by rw [← hs]; exact sky) fun h3 fl3 up3 => ?_
    exact clauses_go ok hN hs hf tk hh _ ⟨J, nb, up.trans up3, fl3, na, os, ag⟩ w
end
end L3
end
section
set_option maxHeartbeats 4000000
namespace L3
open PySem PySem.Spec PyProof.Rows L2
theorem none_same {H H' : Hp} {b : Addr} (s : Same H H') (h : H' b = none) : H b = none := by
  cases z : H b with
  | none => rfl
  | some o => rw [s _ _ z] at h; cases h
/-- e.f in an except suite, e the caught error, its dict told by exd -/
def tXe (a C : Addr) (cls : Value) (d : Option Addr) (f : Str) (te : TE) : TE := fun σ H Q => te σ H fun x H1 => x = .ref a ∧ cls = .ref C ∧ ∃ (dd : Addr) (fs : List (Str × V)) (v : V), d = some dd ∧ H1 dd = some (exd dd fs) ∧ fs.lookup f = some v ∧ Q v H1
theorem pe_xe {X : Cx} {a C : Addr} {oe : Obj} {cls : Value} {d : Option Addr} {pn : List (Addr × Obj)} {e : Expr} {te : TE} {pos : Pos} {n : Str} (Z : PySem.ExV.ClsX X.K C) (no : PySem.W.findIn X.K (.ref C) n = some none)
    (hz : Zc cls d oe) (hf : ∃ vs, oe.data = .fields vs) (he : PE (X.suite a ((a, oe) :: pn)) e te) (hb : attributeBase e n X.env (eval e X.env) = eval e X.env := by rfl) :
    PE (X.suite a ((a, oe) :: pn)) (.Attribute e n pos) (tXe a C cls d n te) := by
  refine ⟨fun pins s σ H Q I h => attr_of hb (thn (he.run pins s σ H _ I h) ?_)⟩
  rintro u s1 ⟨x, H1, I1, rx, rfl, rfl, dd, fs, v, rfl, ea, look, q⟩
  cases (show u = Value.ref a from rx)
  obtain ⟨at_, _⟩ := I1.pin (a, oe) (List.mem_append_left _ List.mem_cons_self)
  obtain ⟨vs, dat⟩ := hf
  obtain ⟨mA, hns, hr⟩ := exd_at I1.hok ea
  obtain ⟨od, ho, hl⟩ := lookIn_ns hns
  obtain ⟨u, hu, ru⟩ := RelO.some_of (v := v) (o := mA n) (by rw [← look]; exact hr n)
  have J : PySem.W.InstAt s1.heap a oe C (some od) := ⟨at_, hz.1, by unfold PySem.W.notCls; rw [dat] <;> rfl, by rw [hz.2]; exact ho⟩
  exact PySem.HandSPX.exc_get I1.kIn J Z.ga Z.gt Z.su (PySem.W.findObj_own Z.di no rfl (by rw [hl, hu])) (handed_of ru) ⟨v, H1, I1.tok _, ru, q⟩
end L3
namespace K03
open PySem PySem.Spec PyProof.Rows L2 LamX NdefX L3
/-- the error that leaves: BadValue with this value, or NoDivisor -/
def Leaves (cB cN : Addr) (r : Option V) (H : Hp) (E : XK) : Prop := match r with
  | some v => Bad cB v H E
  | none => NoDiv cN H E
/-- at f stands a lambda of X's; with X's names as σ tells it raises r -/
def DeedAt (X : Cx) (σ : L2.St) (k : Nat) (cB cN : Addr) (H : Hp) (f : Addr) (r : Option V) : Prop := ∃ (params : Arguments) (body : Expr) (scope : Scope) (t : XK → TE) (c' : Addr), LamS X.env.scope scope ∧
  (∀ (q : Str) (cl : List (Str × Addr)) (pm cv ctv : Value), bindArgs (PySem.W.kla_fn "<lambda>" q params body scope cl pm cv ctv) ⟨[], []⟩ = pure []) ∧
  (∀ (A : Around) (outer : List Env) (s : Shared) (H : Hp) (E : XK) (f c' : Addr), Room k (A.deeper (lamEnv X scope s.heap.objs.size f c')) → PE (lamCx X A outer s H E scope f c') body (t E)) ∧
  H f = some (LamO f (lwOf X params body scope) c') ∧ H c' = some (CodeO c' (X.env.qual ++ "<lambda>")) ∧ ∀ H', Same H H' → ∀ E' Q', Leaves cB cN r H' E' → t E' σ H' Q'
theorem DeedAt.same {X : Cx} {σ : L2.St} {k : Nat} {cB cN : Addr} {H H' : Hp} {f : Addr} {r : Option V} (h : DeedAt X σ k cB cN H f r) (s : Same H H') : DeedAt X σ k cB cN H' f r := by
  obtain ⟨p, b, sc, t, c', h1, h2, h3, h4, h5, h6⟩ := h
  exact ⟨p, b, sc, t, c', h1, h2, h3, s _ _ h4, s _ _ h5, fun H2 s2 => h6 H2 (s.trans s2)⟩
def told (r : Option V) : List V := match r with
  | some v => [.str "value", v]
  | none => [.str "divisor", .non]
/-- the errors' classes, as clauses ask of them -/
structure ExmR (K : PySem.W.Frag) (cB cN : Addr) : Prop where
  bb : PySem.W.exmOne K (.ref cB) (.ref cB) = some true
  nb : PySem.W.exmOne K (.ref cN) (.ref cB) = some false
  nn : PySem.W.exmOne K (.ref cN) (.ref cN) = some true
end K03
end
section
set_option maxHeartbeats 4000000
namespace K03
open PySem PySem.Spec PyProof.Rows L2 LamX NdefX L3
abbrev sFault : Stmt := top 33
def spFault (X : Cx) (σ : L2.St) (k : Nat) (cB cN : Addr) : Sp := fun vs H Q _ => ∃ (f : Addr) (r : Option V), vs = [.ref f] ∧ DeedAt X σ k cB cN H f r ∧ ∀ (p : Addr) (H' : Hp), H p = none → Same H H' → H' p = some (.tup (told r)) → Q (.ref p) H'
section
variable {P : Program} {w : World} {K : PySem.W.Frag} {mg : Str → Option Value} {base : Heap} {cB cN : Addr}
theorem scFault : FnScope ["_law_deed", "_law_told", "e"] ["_law_deed"] (defScope sFault) := ⟨rfl, rfl, rfl, by decide +kernel, rfl, by decide +kernel, by decide +kernel⟩
theorem ok_fault {f : Addr} {fd : FuncData} {X : Cx} {σ : L2.St} {k : Nat} (F : Fun K "_law_fault" "_law_fault" sFault f fd) (hb : L2.Binds K fd ["_law_deed"] []) (T : ErrR P w K mg base cB cN) (M : ExmR K cB cN) (eP : X.prog = P) (ew : X.w = w) (eK : X.K = K) (em : X.mg = mg) (eb : X.base = base) :
    FnRd P w K mg base CX0 (k + 2) f (Rd X σ) (spFault X σ k cB cN) := by
  subst eP ew eK em eb
  refine fn_rd F scFault hb (fun vs H Q E h => ?_) (fun cdv A outer s H vs Q E hr rd h => ?_)
  · obtain ⟨f, r, rfl, _⟩ := h
    rfl
  · obtain ⟨f, r, rfl, deed, q⟩ := h
    obtain ⟨params, body, scope, t, c', L, hbind, hbody, hf, hc, ht⟩ := id deed
    have nd := scFault.nd
    refine ⟨_, pss_cons (ps_set (i := 1) nd rfl (Or.inl rfl) (pe_tup (pa_cons pe_str (pa_cons pe_non pa_nil))))
      (pss_cons (ps_tryC (Wout := fun _ _ _ _ => False) rfl rfl nd takes_none5 (fun W pn xe tk _ => pss_one (ps_expr (pe_deed (pn := pn) (xe := xe) (E := fun σZ => WE W σZ) rd L hbind hr (fun σZ => passAt tk σZ) hbody (i := 0) rfl (.inl rfl))))
        (.as_ ⟨by rfl, by decide, .inl T.B.g⟩ (i := 2) rfl rfl (fun a oe cls d pn hz hf => pss_one (ps_set (i := 1) nd rfl (Or.inl rfl) (pe_tup (pa_cons pe_str (pa_cons (pe_xe T.B.Z T.B.no hz hf (pv 2)) pa_nil)))))
        (.bare ⟨by rfl, by decide, .inl T.N.g⟩ (fun a oe cls d pn hz hf => pss_one (ps_set (i := 1) nd rfl (Or.inl rfl) (pe_tup (pa_cons pe_str (pa_cons pe_non pa_nil))))) .nil)))
      (pss_one (ps_ret (pv 1)))), ?_⟩
    refine ⟨by show 2 ≤ sizeLine; decide, fun p0 n0 => ?_⟩
    have s0 : Same H (upd H p0 (.tup [.str "none", .non])) := Same.new (fun _ _ e => e) n0
    generalize upd H p0 (.tup [.str "none", .non]) = H0 at s0 ⊢
    refine ⟨f, c', rfl, s0 _ _ hf, s0 _ _ hc, ht H0 s0 _ _ ?_⟩
    cases r with
    | some v =>
      intro d H1 nd1 s1 ed
      refine ⟨true, M.bb, fun _ a na => ?_, fun z => nomatch z⟩
      refine ⟨_, rfl, rfl, rfl, d, _, v, rfl, ed, by simp [List.lookup], by show 2 ≤ sizeLine; decide, fun p1 n1 => ?_⟩
      exact ⟨_, rfl, q p1 _ (none_same (s0.trans s1) n1) ((s0.trans s1).new n1) upd_same⟩
    | none =>
      intro H1 s1
      refine ⟨false, M.nb, (fun z => nomatch z), fun _ => ⟨true, M.nn, fun _ a na => ?_, fun z => nomatch z⟩⟩
      refine ⟨by show 2 ≤ sizeLine; decide, fun p1 n1 => ?_⟩
      exact ⟨_, rfl, q p1 _ (none_same (s0.trans s1) n1) ((s0.trans s1).new n1) upd_same⟩
end
end K03
end
section
set_option maxHeartbeats 4000000
namespace L3
open PySem PySem.Spec PyProof.Rows L2 LamX NdefX
/-- a call of a def whose promise is told of the caller's own slots -/
theorem pe_callRdS {X : Cx} {CX : CXT} {k : Nat} {f : Addr} {R : L2.St → List Env → Shared → Hp → Prop} {sp : L2.St → Sp} {E : L2.St → XK} {x : Str} {p pos : Pos} {e : Expr} {es : List Expr} {t : TA} (G : ∀ σ, FnRd X.prog X.w X.K X.mg X.base CX k f (R σ) (sp σ)) (hr : Room k X.A) (hg : Gl X x) (hm : X.mg x = some (.ref f)) (hk : PySem.W.keepIn X.K (.ref f) = true)
    (hR : ∀ (pins : List (Addr × Obj)) (s : Shared) (σ : L2.St) (H : Hp), Inv X pins σ H s → R σ X.stack s H) (hx : ∀ σ, PassesAt CX X σ (E σ)) (ha : PA X (e :: es) t) (hdb : (x == ("__debug__" : Str)) = false := by decide)
    (he : starEach (e :: es) X.env = (false, eval e X.env) :: starEach es X.env := by rfl) (hpl : (backTo pos (starEach es X.env)).any (·.1) = false := by rfl) :
    PE X (.Call (.Name x p) (e :: es) [] pos) (fun σ H Q => tCallS (sp σ) E t σ H Q) := by
  refine ⟨fun pins s σ H Q I h => wpAny_Call_Name_kw (ld_glob I hg hm ?_ hdb)⟩
  refine PySem.W.callWith_K (h₀ := X.base) I.ok.mod.kin hk (thn (ha.run pos pins s σ H _ I h) fun us s1 got => ⟨got.choose_spec.choose_spec.1.kIn, ?_⟩) he hpl
  obtain ⟨vs, H1, I1, r, q⟩ := got
  refine wpAny_call (codeAny_mono (G σ X.A X.stack s1 H1 us vs Q (E σ) hr I1.env0 r (hR _ _ _ _ I1) q) fun z s' hq => ?_)
  cases z with
  | error e => exact hx σ pins H1 s1 e s' I1 hq
  | ok fl =>
    cases fl with
    | ret u => exact I1.after hq
    | next => exact False.elim hq
    | brk => exact False.elim hq
    | cont => exact False.elim hq
/-- a lambda that stands: at f its object, at c its code object -/
structure LamAt (H : Hp) (f c : Addr) (l : LW) : Prop where
  hf : H f = some (LamO f l c)
  hc : H c = some (CodeO c l.q)
theorem LamAt.ext {H H' : Hp} {f c : Addr} {l : LW} (a : LamAt H f c l) (e : ExtN H H') : LamAt H' f c l := ⟨e _ _ a.hf lamO_ne, e _ _ a.hc codeO_ne⟩
theorem LamAt.same {H H' : Hp} {f c : Addr} {l : LW} (a : LamAt H f c l) (s : Same H H') : LamAt H' f c l := ⟨s _ _ a.hf, s _ _ a.hc⟩
/-- all but tables and the object at d as it was -/
structure ButT (T : List (Addr × Str)) (d : Addr) (H H' : Hp) : Prop where
  e : ∀ b o, H b = some o → (∀ ps, o ≠ .tbl ps) → b ≠ d → H' b = some o
  t : Tabs T H'
theorem tabs_but {T : List (Addr × Str)} {d : Addr} {H H' : Hp} {kvs : List (Key × V)} (t : Tabs T H) (hd : H d = some (.dK kvs)) (e : ∀ b o, H b = some o → b ≠ d → H' b = some o) : Tabs T H' := fun p hp => by
  obtain ⟨ps, h1, h2, h3⟩ := t p hp
  have nd : ∀ {b : Addr} {o : HO}, H b = some o → (∀ kvs, o ≠ .dK kvs) → b ≠ d := fun {b o} hb n z => by
    rw [z, hd] at hb
    exact n _ (Option.some.inj hb).symm
  refine ⟨ps, e _ _ h1 (nd h1 fun _ z => by cases z), h2, fun pos cv hc => ?_⟩
  obtain ⟨c, e1, e2⟩ := h3 pos cv hc
  exact ⟨c, e1, e _ _ e2 (nd e2 fun _ z => by unfold CodeO at z; cases z)⟩
end L3
end
section
set_option maxHeartbeats 4000000
set_option exponentiation.threshold 100000
namespace L3
open PySem PySem.Spec PyProof.Rows L2 LamX NdefX
/-- a def whose code object is known: it makes lambdas -/
theorem okC {P : Program} {w : World} {K : PySem.W.Frag} {mg : Str → Option Value} {base : Heap} {x qual : Str} {st : Stmt} {f c : Addr} {fd : FuncData} {N ps : List Str} {k : Nat} {sp : Sp} (F : Fun K x qual st f fd) (hc : fd.code = .ref c) (S : FnScope N ps (defScope st))
    (len : ∀ vs H Q E, sp vs H Q E → vs.length = ps.length)
    (hbody : ∀ (A : Around) (outer : List Env) (s : Shared) (H : Hp) (vs : List V) (Q : VK) (E : XK), Room k (A.deeper (envOfC qual (defScope st) s.heap.objs.size f (.ref c))) → sp vs H Q E →
      ∃ t, PSs (cxOf CX0 P w K mg base N qual (defScope st) f (.ref c) A outer s H E) (defBody st) t ∧ t { nx := fun _ H' => Q .non H', rt := Q } (L2.start N vs) H) : FnOk P w K mg base CX0 (k + 1) f fd ps sp := by
  obtain ⟨oc, od, kV, doc, pm, an, cdv, ct, osl, rfl, lk, hcd⟩ := F.ex
  obtain rfl : cdv = .ref c := hc
  refine ⟨len, fun A outer s H args us vs Q E hr e0 hb r hs => ?_⟩
  exact run_ofS lk hcd S hr e0 hb r (len _ _ _ _ hs) fun hr' => hbody A outer s H vs Q E hr' hs
/-- what a def that makes lambdas leaves: all but tables as it was, new things beside it -/
structure Left (T : List (Addr × Str)) (H H' : Hp) : Prop where
  e : ExtN H H'
  n : ∀ b, H' b = none → H b = none
  t : Tabs T H'
theorem Left.trans {T : List (Addr × Str)} {H H1 H2 : Hp} (a : Left T H H1) (b : Left T H1 H2) : Left T H H2 := ⟨a.e.trans b.e, fun c h => a.n c (b.n c h), b.t⟩
theorem Left.same {T : List (Addr × Str)} {H H1 : Hp} (t : Tabs T H) (s : Same H H1) : Left T H H1 := ⟨fun b o e _ => s b o e, fun b h => none_same s h, t.ext s⟩
theorem Left.rat {T : List (Addr × Str)} {H H' : Hp} (l : Left T H H') {a C dx : Addr} {fs : List (Str × V)} (e : H a = some (.ins C dx fs)) : H' a = some (.ins C dx fs) := l.e _ _ e fun ps z => by cases z
theorem Left.tup {T : List (Addr × Str)} {H H' : Hp} (l : Left T H H') {a : Addr} {xs : List V} (e : H a = some (.tup xs)) : H' a = some (.tup xs) := l.e _ _ e fun ps z => by cases z
end L3
namespace K03
open PySem PySem.Spec PyProof.Rows L2 LamX NdefX L3 TL
theorem DeedAt.mk {X : Cx} {σ : L2.St} {k : Nat} {cB cN : Addr} {H : Hp} {f c' : Addr} {r : Option V} {params : Arguments} {body : Expr} {scope : Scope} {t : XK → TE} (L : LamS X.env.scope scope) (hb : ∀ (q : Str) (cl : List (Str × Addr)) (pm cv ctv : Value), bindArgs (PySem.W.kla_fn "<lambda>" q params body scope cl pm cv ctv) ⟨[], []⟩ = pure [])
    (hbody : ∀ (A : Around) (outer : List Env) (s : Shared) (H : Hp) (E : XK) (f c' : Addr), Room k (A.deeper (lamEnv X scope s.heap.objs.size f c')) → PE (lamCx X A outer s H E scope f c') body (t E))
    (hf : H f = some (LamO f (lwOf X params body scope) c')) (hc : H c' = some (CodeO c' (X.env.qual ++ "<lambda>"))) (ht : ∀ H', Same H H' → ∀ E' Q', Leaves cB cN r H' E' → t E' σ H' Q') : DeedAt X σ k cB cN H f r := ⟨params, body, scope, t, c', L, hb, hbody, hf, hc, ht⟩
end K03
end
section
set_option maxHeartbeats 4000000
namespace K03
open PySem PySem.Spec PyProof.Rows L2 LamX NdefX L3 TL
/-- a thing of another kind, as the law has it -/
inductive OddE (H : Hp) : V → Prop
  | non : OddE H .non
  | bl (b : Bool) : OddE H (.bl b)
  | str (z : Str) (s : SeqAt.shaped (.str z) = true) : OddE H (.str z)
  | lst {a : Addr} (ns : List Int) (e : H a = some (.lst (ns.map V.int))) (q : PyData.eqv (.list (ns.map PyData.int)) (.list (ns.map PyData.int)) = true) : OddE H (.ref a)
  | tup {a : Addr} {o : Obj} (ns : List Int) (e : H a = some (.frz o (.tup (ns.map V.int)))) (d : o.dict = none) (q : PyData.eqv (.tuple (ns.map PyData.int)) (.tuple (ns.map PyData.int)) = true) (s : SeqAt.shaped (.tuple (ns.map PyData.int)) = true) : OddE H (.ref a)
  | dic {a : Addr} (e : H a = some (.dK [])) : OddE H (.ref a)
theorem OddE.same {H H' : Hp} {v : V} (h : OddE H v) (s : Same H H') : OddE H' v := by
  cases h with
  | non => exact .non
  | bl b => exact .bl b
  | str z y => exact .str z y
  | lst ns e q => exact .lst ns (s _ _ e) q
  | tup ns e d q z => exact .tup ns (s _ _ e) d q z
  | dic e => exact .dic (s _ _ e)
theorem OddE.odd {K : PySem.W.Frag} {H : Hp} {v : V} (h : OddE H v) : Odd K H v := by
  cases h with
  | non => exact ⟨"NoneType", by decide +kernel, by decide, .base .non, fun _ z => nomatch z⟩
  | bl b => exact ⟨"bool", by decide +kernel, by decide, .base (.bl b), fun _ z => nomatch z⟩
  | str z _ => exact ⟨"str", by decide +kernel, by decide, .base (.str z), fun _ z => nomatch z⟩
  | lst ns e q => exact ⟨"list", by decide +kernel, by decide, .base (.lst e), fun _ z => by cases z; exact .inl ⟨_, e⟩⟩
  | tup ns e d q z => exact ⟨"tuple", by decide +kernel, by decide, .fTuple e, fun _ z => by cases z; exact .inr (.inl ⟨_, _, e, d⟩)⟩
  | dic e => exact ⟨"dict", by decide +kernel, by decide, .base (.dK e), fun _ z => by cases z; exact .inr (.inr ⟨_, e⟩)⟩
theorem dp_all {K : PySem.W.Frag} {H : Hp} : ∀ ns : List Int, DpAll K H (ns.map V.int) (ns.map PyData.int)
  | [] => .nil
  | n :: r => .cons (.int n) (dp_all r)
theorem kinds_kit {T : String} (h : T ∈ kinds) : (∃ b, kitB T "bool" = some b) ∧ ∃ b, kitB T "list" = some b := by
  unfold kinds at h
  simp only [List.mem_cons, List.not_mem_nil, or_false] at h
  rcases h with rfl | rfl | rfl | rfl | rfl | rfl | rfl <;> first
    | exact ⟨⟨true, by decide +kernel⟩, ⟨false, by decide +kernel⟩⟩
    | exact ⟨⟨false, by decide +kernel⟩, ⟨true, by decide +kernel⟩⟩
    | exact ⟨⟨false, by decide +kernel⟩, ⟨false, by decide +kernel⟩⟩
theorem OddE.but {H H' : Hp} {v : V} {d : Addr} (h : OddE H v) (e : ∀ b o, H b = some o → (∀ ps, o ≠ .tbl ps) → b ≠ d → H' b = some o) (hd : ∀ a, v = .ref a → a ≠ d) : OddE H' v := by
  cases h with
  | non => exact .non
  | bl b => exact .bl b
  | str z y => exact .str z y
  | lst ns x q => exact .lst ns (e _ _ x (fun _ z => by cases z) (hd _ rfl)) q
  | tup ns x dd q z => exact .tup ns (e _ _ x (fun _ z => by cases z) (hd _ rfl)) dd q z
  | dic x => exact .dic (e _ _ x (fun _ z => by cases z) (hd _ rfl))
end K03
end
section
set_option maxHeartbeats 4000000
namespace K03
open PySem PySem.Spec PyProof.Rows L2 LamX NdefX L3
abbrev sAlike : Stmt := top 32
abbrev sRefd : Stmt := top 34
/-- what a refusal tells: a thing of another kind, or a Ratio -/
def Thing (C : Addr) (H : Hp) (v : V) : Prop := OddE H v ∨ ∃ (a dx : Addr) (q : Int × Int), v = .ref a ∧ H a = some (rat C dx q)
theorem Thing.same {C : Addr} {H H' : Hp} {v : V} (h : Thing C H v) (s : Same H H') : Thing C H' v := by
  rcases h with h | ⟨a, dx, q, e, h⟩
  · exact .inl (h.same s)
  · exact .inr ⟨a, dx, q, e, s _ _ h⟩
def spAlike (C : Addr) : Sp := fun vs H Q _ => ∃ v, vs = [v, v] ∧ Thing C H v ∧ Q (.bl true) H
/-- the class's own == -/
structure EqR (P : Program) (w : World) (K : PySem.W.Frag) (mg : Str → Option Value) (base : Heap) (C : Addr) : Prop where
  ex : ∃ (f : Addr) (fd : FuncData), PySem.W.findIn K (.ref C) "__eq__" = some (some (.ref f)) ∧ PySem.W.isFn K (.ref f) = true ∧ FnOk P w K mg base CX0 1 f fd ["self", "other"] (spEq K C) ∧ Binds K fd ["self", "other"] []
section
variable {P : Program} {w : World} {K : PySem.W.Frag} {mg : Str → Option Value} {base : Heap} {cB cN C fI : Addr}
theorem scAlike : FnScope ["_law_told", "_law_due"] ["_law_told", "_law_due"] (defScope sAlike) := ⟨rfl, rfl, rfl, by decide +kernel, rfl, by decide +kernel, by decide +kernel⟩
theorem ok_alike {f : Addr} {fd : FuncData} (F : Fun K "_law_alike" "_law_alike" sAlike f fd) (T : TxtR mg) (R : Rat P w K mg base cB cN C fI) (EQ : EqR P w K mg base C) : FnOk P w K mg base CX0 2 f fd ["_law_told", "_law_due"] (spAlike C) := by
  obtain ⟨fe, fde, he1, he2, Fe, be⟩ := EQ.ex
  refine F.ok scAlike (fun vs H Q E h => ?_) (fun cdv A outer s H vs Q E hr h => ?_)
  · obtain ⟨v, rfl, _⟩ := h
    rfl
  · obtain ⟨v, rfl, th, q⟩ := h
    have hr1 : Room 1 _ := hr.mono (by decide)
    have hu := hu_of hr1
    refine ⟨_, pss_cons (ps_if (PW.pt (pw_or (pt_cmpR op_ne (pe_callB call_isi (by rfl) T.isi (by decide +kernel) (pa_cons (pv 0) (pa_cons (pe_bltn (v := .ty "bool") (u := .type "bool") (by rfl) T.bool (by decide +kernel) rfl) pa_nil))) (pe_callB call_isi (by rfl) T.isi (by decide +kernel) (pa_cons (pv 1) (pa_cons (pe_bltn (v := .ty "bool") (u := .type "bool") (by rfl) T.bool (by decide +kernel) rfl) pa_nil))) (nomark _))
      (pw_or1 (pt_cmpR op_ne (pe_callB call_isi (by rfl) T.isi (by decide +kernel) (pa_cons (pv 0) (pa_cons (pe_bltn (v := .ty "list") (u := .type "list") (by rfl) T.list (by decide +kernel) rfl) pa_nil))) (pe_callB call_isi (by rfl) T.isi (by decide +kernel) (pa_cons (pv 1) (pa_cons (pe_bltn (v := .ty "list") (u := .type "list") (by rfl) T.list (by decide +kernel) rfl) pa_nil))) (nomark _))))) (pss_one (ps_ret pe_bl)) pss_nil)
      (pss_one (ps_ret (pe_cmpR (OpR.or (op_eqD hr1.units) (OpR.or (op_eq_dict (Nat.lt_of_succ_lt hu)) (op_eqOwn (E := E0) (Nat.lt_of_succ_lt hu) he1 he2 Fe hr1 be pass0))) (pv 0) (pv 1) (nomark _)))), ?_⟩
    -- the type, and what isinstance tells of it
    have ty : ∃ (t : Value) (b c : Bool), TyX K H v t ∧ PySem.W.kitOne K t (.type "bool") = some b ∧ PySem.W.kitOne K t (.type "list") = some c := by
      rcases th with o | ⟨a, dx, p, rfl, e⟩
      · obtain ⟨T', h1, h2, h3, _⟩ := o.odd (K := K)
        obtain ⟨⟨b, e1⟩, ⟨c, e2⟩⟩ := kinds_kit h1
        exact ⟨_, b, c, h3, kit_ty e1, kit_ty e2⟩
      · exact ⟨.ref C, false, false, R.tyx H a dx _ e, R.cls.kitI (by decide +kernel) (by decide), R.cls.kitI (by decide +kernel) (by decide)⟩
    obtain ⟨t, b, c, ty, kb, kc⟩ := ty
    refine ⟨_, rfl, _, .ty "bool", t, .type "bool", b, rfl, .ty _, ty, kb, ?_⟩
    refine ⟨_, rfl, _, .ty "bool", t, .type "bool", b, rfl, .ty _, ty, kb, rfl, _, rfl, ?_⟩
    have nb : decide (V.bl b = V.bl b) = true := decide_eq_true rfl
    refine ite2 (fun z => absurd z (by simp)) (fun _ => ?_)
    refine ⟨_, rfl, _, .ty "list", t, .type "list", c, rfl, .ty _, ty, kc, ?_⟩
    refine ⟨_, rfl, _, .ty "list", t, .type "list", c, rfl, .ty _, ty, kc, rfl, _, rfl, ?_⟩
    refine ite2 (fun z => absurd z (by simp)) (fun _ => ?_)
    refine ⟨_, rfl, _, rfl, ?_⟩
    rcases th with o | ⟨a, dx, p, rfl, e⟩
    · cases o with
      | non => exact .inl ⟨.none, .none, .non, .non, rfl, rfl, q⟩
      | bl b => exact .inl ⟨.bool b, .bool b, .bl b, .bl b, rfl, rfl, by cases b <;> exact q⟩
      | str z sh =>
        refine .inl ⟨.str z, .str z, .str z, .str z, sh, sh, ?_⟩
        have e : PyData.eqv (.str z) (.str z) = true := by simp [PyData.eqv]
        rw [e]
        exact q
      | lst ns e y => exact .inl ⟨_, _, .lst (SqL.of e) (dp_all ns), .lst (SqL.of e) (dp_all ns), PySem.W.ke_shaped_ints _, PySem.W.ke_shaped_ints _, by rw [y]; exact q⟩
      | tup ns e d y z => exact .inl ⟨_, _, .tup (.inl (.inr ⟨_, e⟩)) (dp_all ns), .tup (.inl (.inr ⟨_, e⟩)) (dp_all ns), z, z, by rw [y]; exact q⟩
      | dic e => exact .inr (.inl ⟨_, _, [], rfl, rfl, e, e, .nil, (fun _ h => by simp at h), q⟩)
    · refine .inr (.inr ⟨a, dx, _, rfl, e, .ins e, a, dx, _, p, rfl, e, .inl ⟨a, dx, p, rfl, e, ?_⟩⟩)
      rw [decide_eq_true rfl]
      exact q
theorem scRefd : FnScope ["_law_deed", "_law_value", "_law_kind", "_law_told"] ["_law_deed", "_law_value"] (defScope sRefd) := ⟨rfl, rfl, rfl, by decide +kernel, rfl, by decide +kernel, by decide +kernel⟩
/-- the deed raises BadValue with this thing -/
def spRefd (X : Cx) (σ : L2.St) (k : Nat) (C cB cN : Addr) : Sp := fun vs H Q _ => ∃ (f : Addr) (v : V), vs = [.ref f, v] ∧ Thing C H v ∧ DeedAt X σ k cB cN H f (some v) ∧ ∀ H', Same H H' → Q (.bl true) H'
theorem ok_refd {f fF fA : Addr} {fd fdA : FuncData} {X : Cx} {σ : L2.St} {k : Nat} (F : Fun K "_law_refused" "_law_refused" sRefd f fd) (hb : L2.Binds K fd ["_law_deed", "_law_value"] []) (hk : 1 ≤ k)
    (GF : FnRd P w K mg base CX0 (k + 2) fF (Rd X σ) (spFault X σ k cB cN)) (gF : mg "_law_fault" = some (.ref fF)) (kF : PySem.W.keepIn K (.ref fF) = true)
    (GA : FnOk P w K mg base CX0 2 fA fdA ["_law_told", "_law_due"] (spAlike C)) (gA : mg "_law_alike" = some (.ref fA)) (kA : PySem.W.keepIn K (.ref fA) = true) (bA : Binds K fdA ["_law_told", "_law_due"] [])
    (eP : X.prog = P) (ew : X.w = w) (eK : X.K = K) (em : X.mg = mg) (eb : X.base = base) : FnRd P w K mg base CX0 (k + 3) f (Rd X σ) (spRefd X σ k C cB cN) := by
  subst eP ew eK em eb
  refine fn_rd F scRefd hb (fun vs H Q E h => ?_) (fun cdv A outer s H vs Q E hr rd h => ?_)
  · obtain ⟨f, v, rfl, _⟩ := h
    rfl
  · obtain ⟨f, v, rfl, th, deed, q⟩ := h
    have nd := scRefd.nd
    have hr2 : Room 2 _ := hr.mono (by omega)
    refine ⟨_, pss_cons (ps_asg (pe_callRd (E := fun _ => E0) GF hr (by rfl) gF kF (fun pins s σ H I => rd.down (CXg := CX0) (E := E) (pn := []) (xe := _) I) (fun σ pins H s e s2 I c => pass0 pins σ H s e s2 I c) (pa_cons (pv 0) pa_nil)) (pg_tup (by rfl) (pgs_cons (pg_name (i := 2) nd rfl (Or.inl rfl)) (pgs_cons (pg_name (i := 3) nd rfl (Or.inl rfl)) pgs_nil))))
      (pss_one (ps_ret (pe_and (pe_cmpR op_eq (pv 2) pe_str (nomark _)) (pe_one (pe_call GA hr2 (by rfl) gA kA bA .nil pass0 (pa_cons (pv 3) (pa_cons (pv 1) pa_nil))))))), ?_⟩
    refine ⟨_, rfl, f, some v, rfl, deed, fun p H1 np s1 ep => ?_⟩
    refine ⟨p, _, rfl, SqT.of ep, rfl, _, _, rfl, _, _, rfl, rfl, ?_⟩
    refine ⟨_, rfl, rfl, _, rfl, ?_⟩
    refine ⟨_, rfl, _, rfl, v, rfl, th.same s1, q H1 s1⟩
end
end K03
end
section
set_option maxHeartbeats 4000000
set_option exponentiation.threshold 100000
namespace K03
open PySem PySem.Spec PyProof.Rows L2 LamX NdefX L3 TL
theorem sgn_low {t b : Int} (h : 0 < b) : sgn (low t b).1 = sgn t := by
  have e := low_l (t := t) (b := b) (by omega)
  have hs : 0 < shr t b := by
    have g : 0 < Nat.gcd t.natAbs b.natAbs := Nat.gcd_pos_of_pos_right _ (by omega)
    unfold shr
    rw [if_neg (by omega)]
    omega
  have iff1 : (low t b).1 > 0 ↔ t > 0 := by
    constructor
    · intro z
      rw [e]
      exact Int.mul_pos hs z
    · intro z
      refine Int.not_le.mp fun n => ?_
      have := Int.mul_nonpos_of_nonneg_of_nonpos (Int.le_of_lt hs) n
      omega
  have iff2 : (low t b).1 < 0 ↔ t < 0 := by
    constructor
    · intro z
      rw [e]
      exact Int.mul_neg_of_pos_of_neg hs z
    · intro z
      refine Int.not_le.mp fun n => ?_
      have := Int.mul_nonneg (Int.le_of_lt hs) n
      omega
  unfold sgn
  rw [decide_eq_decide.mpr iff1, decide_eq_decide.mpr iff2]
theorem sgn_neg (i : Int) : sgn (-i) = -sgn i := by
  unfold sgn
  have e1 : decide (-i > 0) = decide (i < 0) := decide_eq_decide.mpr (by omega)
  have e2 : decide (-i < 0) = decide (i > 0) := decide_eq_decide.mpr (by omega)
  rw [e1, e2]
  omega
theorem eqv_pair (p q : Int × Int) : PyData.eqv (.tuple [.int p.1, .int p.2]) (.tuple [.int q.1, .int q.2]) = decide (p = q) := by
  obtain ⟨a, b⟩ := p
  obtain ⟨c, d⟩ := q
  simp [PyData.eqv, PyData.eqvAll, Prod.mk.injEq, Bool.beq_eq_decide_eq]
theorem lkF {u v : V} : ([("top", u), ("bottom", v)] : List (Str × V)).lookup ("floor" : Str) = none := by
  have e : (("floor" : Str) == "top") = false := by decide +kernel
  have e2 : (("floor" : Str) == "bottom") = false := by decide +kernel
  simp [List.lookup, e, e2]
theorem lkC {u v : V} : ([("top", u), ("bottom", v)] : List (Str × V)).lookup ("compare" : Str) = none := by
  have e : (("compare" : Str) == "top") = false := by decide +kernel
  have e2 : (("compare" : Str) == "bottom") = false := by decide +kernel
  simp [List.lookup, e, e2]
def RowI (H : Hp) (t : Addr) : Prop := ∃ i : Int, H t = some (.tup [.int i, .int i])
theorem RowI.same {H H' : Hp} {t : Addr} (h : RowI H t) (s : Same H H') : RowI H' t := by
  obtain ⟨i, h⟩ := h
  exact ⟨i, s _ _ h⟩
abbrev sOrder : Stmt := top 41
/-- sizes that can be told in a text -/
structure Sm (p : Int × Int) : Prop where
  t : p.1.natAbs < 2 ^ 1000
  b : p.2.natAbs < 2 ^ 1000
theorem Sm.fit {p : Int × Int} (h : Sm p) (l : Low p) : Fit p := ⟨Nat.lt_of_lt_of_le h.t (Nat.pow_le_pow_right (by decide) (by decide)), l.pos, Nat.lt_of_lt_of_le h.b (Nat.pow_le_pow_right (by decide) (by decide))⟩
def spOrder (C : Addr) : Sp := fun vs H Q _ => ∃ (a da b db t u : Addr) (w : Int) (p q : Int × Int), vs = [.ref a, .ref b, .int w, .ref t, .ref u] ∧ H a = some (rat C da p) ∧ H b = some (rat C db q) ∧ Pair H t p ∧ Pair H u q ∧ Sm p ∧ Fit q ∧ Low p ∧ Low q ∧ Fit (w, 1) ∧
  ∀ H', Same H H' → Q (.bl true) H'
/-- the class's further methods -/
structure MoreR (P : Program) (w : World) (K : PySem.W.Frag) (mg : Str → Option Value) (base : Heap) (cB cN C : Addr) : Prop where
  sign : ∃ f fd, Meth K C "sign" f ∧ FnOk P w K mg base CX0 1 f fd ["self"] (spSign C) ∧ Binds K fd ["self"] []
  floor : ∃ f fd, Meth K C "floor" f ∧ FnOk P w K mg base CX0 1 f fd ["self"] (spFloor C) ∧ Binds K fd ["self"] []
  comp : ∃ f fd, Meth K C "compare" f ∧ FnOk P w K mg base (L2.CX P w) 9 f fd ["self", "other"] (spComp K C cB) ∧ Binds K fd ["self", "other"] []
  str : ∃ f, PySem.W.findIn K (.ref C) "__str__" = some (some (.ref f)) ∧ PySem.W.isFn K (.ref f) = true ∧ FnR P w K mg base CX0 2 f (spStr C)
section
variable {P : Program} {w : World} {K : PySem.W.Frag} {mg : Str → Option Value} {base : Heap} {cB cN C fI fS fJ : Addr} {fdS fdJ : FuncData}
theorem scOrder : FnScope ["_law_first", "_law_second", "_law_whole_here", "_law_one", "_law_other", "_law_order", "_law_beside_here", "_law_rows", "_law_told", "_law_due"] ["_law_first", "_law_second", "_law_whole_here", "_law_one", "_law_other"] (defScope sOrder) := ⟨rfl, rfl, rfl, by decide +kernel, rfl, by decide +kernel, by decide +kernel⟩
theorem ok_order {f : Addr} {fd : FuncData} (F : Fun K "_law_order_right" "_law_order_right" sOrder f fd) (T : TxtR mg) (R : Rat P w K mg base cB cN C fI) (EQ : EqR P w K mg base C) (MO : MoreR P w K mg base cB cN C)
    (S : FnOk P w K mg base CX0 1 fS fdS ["_law_number"] spSgn) (gS : mg "_law_sign" = some (.ref fS)) (kS : PySem.W.keepIn K (.ref fS) = true) (bS : Binds K fdS ["_law_number"] [])
    (J : FnOk P w K mg base CX0 1 fJ fdJ ["_law_told", "_law_due"] spInt) (gJ : mg "_law_int" = some (.ref fJ)) (kJ : PySem.W.keepIn K (.ref fJ) = true) (bJ : Binds K fdJ ["_law_told", "_law_due"] []) :
    FnOk P w K mg base CX0 10 f fd ["_law_first", "_law_second", "_law_whole_here", "_law_one", "_law_other"] (spOrder C) := by
  obtain ⟨fe, fde, he1, he2, Fe, be⟩ := EQ.ex
  obtain ⟨fs, fds, Ms, Fs, bs⟩ := MO.sign
  obtain ⟨ff, fdf, Mf, Ff, bf⟩ := MO.floor
  obtain ⟨fc, fdc, Mc, Fc, bc⟩ := MO.comp
  obtain ⟨ft, ht1, ht2, Ft⟩ := MO.str
  refine F.ok scOrder (fun vs H Q E h => ?_) (fun cdv A outer s H vs Q E hr h => ?_)
  · obtain ⟨a, da, b, db, t, u, w, p, q, rfl, _⟩ := h
    rfl
  · obtain ⟨a, da, b, db, t, u, wh, p, q, rfl, ha, hb, ht, hu, mp, fq, lp, lq, fw, k⟩ := h
    have fp := mp.fit lp
    have nd := scOrder.nd
    have hr1 : Room 1 _ := hr.mono (by decide)
    have hr4 : Room 4 _ := hr.mono (by decide)
    have hr5 : Room 5 _ := hr.mono (by decide)
    have hU := Nat.lt_of_succ_lt (hu_of hr1)
    have rowS : ∀ (J H1 : Hp) (x : Addr) (i j : Int), i = j → J x = none → RowI (upd J x (.tup [.int i, .int j])) x := fun J H1 x i j e _ => ⟨i, by rw [← e]; exact upd_same⟩
    refine ⟨_, pss_cons (ps_set (i := 5) nd rfl (Or.inl rfl) (pe_call S hr1 (by rfl) gS kS bS .nil pass0 (pa_cons (pe_op op_sub (pe_op op_mulW (pe_ix ix_tup (pv 3) pe_int (fun _ _ => rfl)) (pe_ix ix_tup (pv 4) pe_int (fun _ _ => rfl))) (pe_op op_mulW (pe_ix ix_tup (pv 4) pe_int (fun _ _ => rfl)) (pe_ix ix_tup (pv 3) pe_int (fun _ _ => rfl)))) pa_nil)))
      (pss_cons (ps_set (i := 6) nd rfl (Or.inl rfl) (pe_call S hr1 (by rfl) gS kS bS .nil pass0 (pa_cons (pe_op op_sub (pe_ix ix_tup (pv 3) pe_int (fun _ _ => rfl)) (pe_op op_mulW (pv 2) (pe_ix ix_tup (pv 3) pe_int (fun _ _ => rfl)))) pa_nil)))
      (pss_cons (ps_set (i := 7) nd rfl (Or.inl rfl) (pe_lst (pa_cons (pe_tup (pa_cons (pe_meth0 (pv 0) R.cls.c Ms Fs hr1 bs .nil pass0) (pa_cons (pe_call S hr1 (by rfl) gS kS bS .nil pass0 (pa_cons (pe_ix ix_tup (pv 3) pe_int (fun _ _ => rfl)) pa_nil)) pa_nil)))
        (pa_cons (pe_tup (pa_cons (pe_meth0 (pv 0) R.cls.c Mf Ff hr1 bf .nil pass0) (pa_cons (pe_op op_fdivZ (pe_ix ix_tup (pv 3) pe_int (fun _ _ => rfl)) (pe_ix ix_tup (pv 3) pe_int (fun _ _ => rfl))) pa_nil)))
        (pa_cons (pe_tup (pa_cons (pe_meth (E := E0) (pv 0) R.cls.c Mc Fc hr bc .nil passL (pa_cons (pv 1) pa_nil)) (pa_cons (pv 5) pa_nil))) pa_nil)))))
      (pss_cons (ps_set (i := 7) nd rfl (Or.inl rfl) (pe_op op_cat (pv 7) (pe_lst (pa_cons (pe_tup (pa_cons (pe_meth (E := E0) (pv 1) R.cls.c Mc Fc hr bc .nil passL (pa_cons (pv 0) pa_nil)) (pa_cons (pe_un un_neg (pv 5)) pa_nil)))
        (pa_cons (pe_tup (pa_cons (pe_meth (E := E0) (pv 0) R.cls.c Mc Fc hr bc .nil passL (pa_cons (pv 2) pa_nil)) (pa_cons (pv 6) pa_nil)))
        (pa_cons (pe_tup (pa_cons (pe_meth (E := E0) (pv 0) R.cls.c Mc Fc hr bc .nil passL (pa_cons (pv 0) pa_nil)) (pa_cons pe_int pa_nil))) pa_nil))))))
      (pss_cons (ps_if (pt_not (pt_val (pe_callB (cr_all rfl) (by rfl) T.all (by decide +kernel) (pa_cons (pe_lc (own := [("_law_told", 8), ("_law_due", 9)]) (g := gTup K 2 (gCons (gName 8) (gCons (gName 9) gNil))) (tt := tYes) rfl nd (pi_list (pv 7)) (blkOk_by (N := ["_law_first", "_law_second", "_law_whole_here", "_law_one", "_law_other", "_law_order", "_law_beside_here", "_law_rows", "_law_told", "_law_due"]) (sc := defScope sOrder) (by decide +kernel)) (fun _ _ _ _ _ => pg_tup (by rfl) (pgs_cons (pg_name (i := 8) nd rfl (Or.inl rfl)) (pgs_cons (pg_name (i := 9) nd rfl (Or.inl rfl)) pgs_nil))) (fun _ _ _ _ _ => pts_nil) (fun _ _ _ _ _ => by exact (pe_call J hr1 (by rfl) gJ kJ bJ .nil pass0 (pa_cons (pv 8) (pa_cons (pv 9) pa_nil))))) pa_nil)))) (pss_one (ps_ret pe_bl)) pss_nil)
      (pss_cons (ps_if (PW.pt (pw_or (pt_cmpR op_ne (pe_cmpR (op_eqOwn (E := E0) hU he1 he2 Fe hr1 be pass0) (pv 0) (pv 1) (nomark _)) (pe_cmpR (op_eqD hr1.units) (pv 3) (pv 4) (nomark _)) (nomark _))
        (pw_or1 (pt_not (pt_cmpR (op_eqOwn (E := E0) hU he1 he2 Fe hr1 be pass0) (pv 0) (pe_rat2 (E := E0) R hr5 passL (pe_ix ix_tup (pv 3) pe_int (fun _ _ => rfl)) (pe_ix ix_tup (pv 3) pe_int (fun _ _ => rfl))) (nomark _)))))) (pss_one (ps_ret pe_bl)) pss_nil)
      (pss_cons (ps_if (PW.pt (pw_or (pt_cmpR (op_eqOwn (E := E0) hU he1 he2 Fe hr1 be pass0) (pv 0) (pe_ix ix_tup (pv 3) pe_int (fun _ _ => rfl)) (nomark _)) (pw_or (pt_cmpR (op_eqOwnR (E := E0) hU R.cls.t1 he1 he2 Fe hr1 be pass0) (pe_ix ix_tup (pv 3) pe_int (fun _ _ => rfl)) (pv 0) (nomark _)) (pw_or (pt_cmpR (op_eqOwn (E := E0) hU he1 he2 Fe hr1 be pass0) (pv 0) (pv 3) (nomark _))
        (pw_or (pt_cmpR (op_eqOwn (E := E0) hU he1 he2 Fe hr1 be pass0) (pv 0) pe_str (nomark _)) (pw_or1 (pt_cmpR (op_eqOwn (E := E0) hU he1 he2 Fe hr1 be pass0) (pv 0) (pe_callTy (call_strOwn (E := E0) ht1 ht2 Ft hr4 pass0) (by rfl) T.str (by decide +kernel) (pa_cons (pv 0) pa_nil)) (nomark _)))))))) (pss_one (ps_ret pe_bl)) pss_nil)
      (pss_one (ps_ret (pe_cmpR op_eq (pe_callTy (call_strOwn (E := E0) ht1 ht2 Ft hr4 pass0) (by rfl) T.str (by decide +kernel) (pa_cons (pv 0) pa_nil)) (pe_ifExp (pt_cmpR op_eq (pe_ix ix_tup (pv 3) pe_int (fun _ _ => rfl)) pe_int (nomark _)) (pe_joined1 (pe_fmt (pe_ix ix_tup (pv 3) pe_int (fun _ _ => rfl)))) (pe_joined (.cons (pe_fmt (pe_ix ix_tup (pv 3) pe_int (fun _ _ => rfl))) (.cons pe_str (.cons (pe_fmt (pe_ix ix_tup (pv 3) pe_int (fun _ _ => rfl))) .nil))))) (nomark _)))))))))), ?_⟩
    refine ⟨_, rfl, t, _, _, _, rfl, rfl, SqT.of ht, rfl, _, rfl, u, _, _, _, rfl, rfl, SqT.of hu, rfl, p.1, q.2, rfl, rfl, sz_mul fp.t fq.b, ?_⟩
    refine ⟨_, rfl, u, _, _, _, rfl, rfl, SqT.of hu, rfl, _, rfl, t, _, _, _, rfl, rfl, SqT.of ht, rfl, q.1, p.2, rfl, rfl, sz_mul fq.t fp.b, _, _, rfl, rfl, _, rfl, ?_⟩
    refine ⟨_, rfl, t, _, _, _, rfl, rfl, SqT.of ht, rfl, _, rfl, _, rfl, t, _, _, _, rfl, rfl, SqT.of ht, rfl, wh, p.2, rfl, rfl, sz_mul fw.t fp.b, _, _, rfl, rfl, _, rfl, ?_⟩
    dsimp only [gName]
    -- the first three rows
    refine seq_by (fun σ' G => ∃ l1 t1 t2 t3, σ' = [some (.ref a), some (.ref b), some (.int wh), some (.ref t), some (.ref u), some (.int (sgn (p.1 * q.2 - q.1 * p.2))), some (.int (sgn (p.1 - wh * p.2))), some (.ref l1), none, none] ∧ Same H G ∧ RowI G t1 ∧ RowI G t2 ∧ RowI G t3 ∧ G l1 = some (.lst [.ref t1, .ref t2, .ref t3])) (fun kk hK => ?_) ?_
    · refine ⟨_, rfl, a, da, _, rfl, ha, lkN, a, da, p, rfl, ha, ?_⟩
      refine ⟨_, rfl, t, _, _, _, rfl, rfl, SqT.of ht, rfl, _, rfl, ?_⟩
      refine ⟨by show 2 ≤ sizeLine; decide, fun t1 n1 => ?_⟩
      have z := Same.new (o := .tup [.int (sgn p.1), .int (sgn p.1)]) (fun _ _ e => e : Same H H) n1
      have r1 : RowI (upd H t1 (.tup [.int (sgn p.1), .int (sgn p.1)])) t1 := ⟨_, upd_same⟩
      clear n1
      generalize upd H t1 (.tup [.int (sgn p.1), .int (sgn p.1)]) = G at z r1 ⊢
      refine ⟨_, rfl, a, da, _, rfl, z _ _ ha, lkF, a, da, p, rfl, z _ _ ha, fp, ?_⟩
      refine ⟨_, rfl, t, _, _, _, rfl, rfl, SqT.of (z _ _ ht), rfl, _, rfl, t, _, _, _, rfl, rfl, SqT.of (z _ _ ht), rfl, p.1, p.2, rfl, rfl, ⟨Int.ne_of_gt fp.pos, log2_le (Nat.le_refl _) (by have := fp.pos; omega) (fit_sz fp.b) (by decide)⟩, ?_⟩
      refine ⟨by show 2 ≤ sizeLine; decide, fun t2 n2 => ?_⟩
      have st := Same.new (o := .tup [.int (p.1.fdiv p.2), .int (p.1.fdiv p.2)]) (fun _ _ e => e : Same G G) n2
      have r2 : RowI (upd G t2 (.tup [.int (p.1.fdiv p.2), .int (p.1.fdiv p.2)])) t2 := ⟨_, upd_same⟩
      have r1 := r1.same st
      have z := z.trans st
      clear st n2
      generalize upd G t2 (.tup [.int (p.1.fdiv p.2), .int (p.1.fdiv p.2)]) = G at z r1 r2 ⊢
      refine ⟨_, rfl, a, da, _, rfl, z _ _ ha, lkC, _, rfl, a, da, _, p, rfl, z _ _ ha, fp, .rat b db q rfl (z _ _ hb) ⟨fq, fun G1 s1 => ?_⟩⟩
      rw [show sgn (psub p q).1 = sgn (p.1 * q.2 - q.1 * p.2) from sgn_low (Int.mul_pos fp.pos fq.pos)]
      refine ⟨_, rfl, ?_⟩
      refine ⟨by show 2 ≤ sizeLine; decide, fun t3 n3 => ?_⟩
      have st := s1.new (o := .tup [.int (sgn (p.1 * q.2 - q.1 * p.2)), .int (sgn (p.1 * q.2 - q.1 * p.2))]) n3
      have r3 : RowI (upd G1 t3 (.tup [.int (sgn (p.1 * q.2 - q.1 * p.2)), .int (sgn (p.1 * q.2 - q.1 * p.2))])) t3 := ⟨_, upd_same⟩
      have r1 := r1.same st
      have r2 := r2.same st
      have z := z.trans st
      clear st n3 s1
      generalize upd G1 t3 (.tup [.int (sgn (p.1 * q.2 - q.1 * p.2)), .int (sgn (p.1 * q.2 - q.1 * p.2))]) = G at z r1 r2 r3 ⊢
      refine ⟨by show 3 ≤ sizeLine; decide, fun l1 nl => ?_⟩
      have st := Same.new (o := .lst [.ref t1, .ref t2, .ref t3]) (fun _ _ e => e : Same G G) nl
      exact hK _ _ ⟨l1, t1, t2, t3, rfl, z.trans st, r1.same st, r2.same st, r3.same st, upd_same⟩
    rintro σ' G ⟨l1, t1, t2, t3, rfl, z, r1, r2, r3, e1⟩
    -- the next three
    refine seq_by (fun σ' G => ∃ (m : Addr) (ts : List Addr), σ' = [some (.ref a), some (.ref b), some (.int wh), some (.ref t), some (.ref u), some (.int (sgn (p.1 * q.2 - q.1 * p.2))), some (.int (sgn (p.1 - wh * p.2))), some (.ref m), none, none] ∧ Same H G ∧ G m = some (.lst (ts.map V.ref)) ∧ ts.length = 6 ∧ ∀ x ∈ ts, RowI G x) (fun kk hK => ?_) ?_
    · refine ⟨_, rfl, ?_⟩
      refine ⟨_, rfl, b, db, _, rfl, z _ _ hb, lkC, _, rfl, b, db, _, q, rfl, z _ _ hb, fq, .rat a da p rfl (z _ _ ha) ⟨fp, fun G1 s1 => ?_⟩⟩
      have e4 : sgn (psub q p).1 = -sgn (p.1 * q.2 - q.1 * p.2) := by
        rw [show sgn (psub q p).1 = sgn (q.1 * p.2 - p.1 * q.2) from sgn_low (Int.mul_pos fq.pos fp.pos), ← sgn_neg]
        congr 1
        omega
      rw [show sgn (psub q p).1 = -sgn (p.1 * q.2 - q.1 * p.2) from e4]
      refine ⟨_, rfl, _, rfl, ?_⟩
      refine ⟨by show 2 ≤ sizeLine; decide, fun t4 n4 => ?_⟩
      have st := s1.new (o := .tup [.int (-sgn (p.1 * q.2 - q.1 * p.2)), .int (-sgn (p.1 * q.2 - q.1 * p.2))]) n4
      have r4 : RowI (upd G1 t4 (.tup [.int (-sgn (p.1 * q.2 - q.1 * p.2)), .int (-sgn (p.1 * q.2 - q.1 * p.2))])) t4 := ⟨_, upd_same⟩
      have r1 := r1.same st
      have r2 := r2.same st
      have r3 := r3.same st
      have e1 := st _ _ e1
      have z := z.trans st
      clear st n4 s1
      generalize upd G1 t4 (.tup [.int (-sgn (p.1 * q.2 - q.1 * p.2)), .int (-sgn (p.1 * q.2 - q.1 * p.2))]) = G at z r1 r2 r3 r4 e1 ⊢
      refine ⟨_, rfl, a, da, _, rfl, z _ _ ha, lkC, _, rfl, a, da, _, p, rfl, z _ _ ha, fp, .int wh rfl ⟨fw, fun G1 s1 => ?_⟩⟩
      have e5 : sgn (psub p (wh, 1)).1 = sgn (p.1 - wh * p.2) := by
        rw [show sgn (psub p (wh, 1)).1 = sgn (p.1 * 1 - wh * p.2) from sgn_low (by show 0 < p.2 * 1; have := fp.pos; omega), Int.mul_one]
      rw [show sgn (psub p (wh, 1)).1 = sgn (p.1 - wh * p.2) from e5]
      refine ⟨_, rfl, ?_⟩
      refine ⟨by show 2 ≤ sizeLine; decide, fun t5 n5 => ?_⟩
      have st := s1.new (o := .tup [.int (sgn (p.1 - wh * p.2)), .int (sgn (p.1 - wh * p.2))]) n5
      have r5 : RowI (upd G1 t5 (.tup [.int (sgn (p.1 - wh * p.2)), .int (sgn (p.1 - wh * p.2))])) t5 := ⟨_, upd_same⟩
      have r1 := r1.same st
      have r2 := r2.same st
      have r3 := r3.same st
      have r4 := r4.same st
      have e1 := st _ _ e1
      have z := z.trans st
      clear st n5 s1
      generalize upd G1 t5 (.tup [.int (sgn (p.1 - wh * p.2)), .int (sgn (p.1 - wh * p.2))]) = G at z r1 r2 r3 r4 r5 e1 ⊢
      refine ⟨_, rfl, a, da, _, rfl, z _ _ ha, lkC, _, rfl, a, da, _, p, rfl, z _ _ ha, fp, .rat a da p rfl (z _ _ ha) ⟨fp, fun G1 s1 => ?_⟩⟩
      have e6 : sgn (psub p p).1 = 0 := by
        rw [show sgn (psub p p).1 = sgn (p.1 * p.2 - p.1 * p.2) from sgn_low (Int.mul_pos fp.pos fp.pos), Int.sub_self]
        rfl
      rw [e6]
      refine ⟨by show 2 ≤ sizeLine; decide, fun t6 n6 => ?_⟩
      have st := s1.new (o := .tup [.int 0, .int 0]) n6
      have r6 : RowI (upd G1 t6 (.tup [.int 0, .int 0])) t6 := ⟨_, upd_same⟩
      have r1 := r1.same st
      have r2 := r2.same st
      have r3 := r3.same st
      have r4 := r4.same st
      have r5 := r5.same st
      have e1 := st _ _ e1
      have z := z.trans st
      clear st n6 s1
      generalize upd G1 t6 (.tup [.int 0, .int 0]) = G at z r1 r2 r3 r4 r5 r6 e1 ⊢
      refine ⟨by show 3 ≤ sizeLine; decide, fun l2 nl => ?_⟩
      have st := Same.new (o := .lst [.ref t4, .ref t5, .ref t6]) (fun _ _ e => e : Same G G) nl
      have e2 : upd G l2 (.lst [.ref t4, .ref t5, .ref t6]) l2 = some (.lst [.ref t4, .ref t5, .ref t6]) := upd_same
      have e1 := st _ _ e1
      have r1 := r1.same st
      have r2 := r2.same st
      have r3 := r3.same st
      have r4 := r4.same st
      have r5 := r5.same st
      have r6 := r6.same st
      have z := z.trans st
      clear st nl
      generalize upd G l2 (.lst [.ref t4, .ref t5, .ref t6]) = G at z r1 r2 r3 r4 r5 r6 e1 e2 ⊢
      refine ⟨_, _, _, _, rfl, rfl, e1, e2, by show 3 + 3 ≤ sizeLine; decide, fun m nm => ?_⟩
      have st := Same.new (o := .lst ([.ref t1, .ref t2, .ref t3] ++ [.ref t4, .ref t5, .ref t6])) (fun _ _ e => e : Same G G) nm
      have em : upd G m (.lst ([.ref t1, .ref t2, .ref t3] ++ [.ref t4, .ref t5, .ref t6])) m = some (.lst ([t1, t2, t3, t4, t5, t6].map V.ref)) := upd_same
      have rs : ∀ x ∈ [t1, t2, t3, t4, t5, t6], RowI (upd G m (.lst ([.ref t1, .ref t2, .ref t3] ++ [.ref t4, .ref t5, .ref t6]))) x := fun x hx => by
        simp only [List.mem_cons, List.not_mem_nil, or_false] at hx
        rcases hx with rfl | rfl | rfl | rfl | rfl | rfl
        · exact r1.same st
        · exact r2.same st
        · exact r3.same st
        · exact r4.same st
        · exact r5.same st
        · exact r6.same st
      exact hK _ _ ⟨m, [t1, t2, t3, t4, t5, t6], rfl, z.trans st, em, rfl, rs⟩
    clear r1 r2 r3 e1 z
    rintro σ' G ⟨m, ts, rfl, z, em, tl6, rs⟩
    refine seq_by (fun σ' G' => σ' = [some (.ref a), some (.ref b), some (.int wh), some (.ref t), some (.ref u), some (.int (sgn (p.1 * q.2 - q.1 * p.2))), some (.int (sgn (p.1 - wh * p.2))), some (.ref m), none, none] ∧ Same H G') (fun kk hK => ?_) ?_
    · refine ⟨_, rfl, m, rfl, ⟨_, SqL.of em⟩, fun D hD => lc_list (K := K) (a := m) (xs := ts.map V.ref) (fun n H2 => Same G H2 ∧ H2 D = some (.lst ((List.replicate n true).map V.bl))) ⟨Same.new (fun _ _ e => e) hD, upd_same⟩ (fun n H2 _ p => p.1.seq (SqL.of em)) ?_ ?_⟩
      · rintro n x H2 hx ⟨sS, eD⟩
        have hn : n < 6 := by
          have := (List.getElem?_eq_some_iff.mp hx).1
          rw [List.length_map, tl6] at this
          exact this
        rw [List.getElem?_map] at hx
        obtain ⟨t0, ht0, rfl⟩ := Option.map_eq_some_iff.mp hx
        obtain ⟨i, h1⟩ := (rs t0 (List.mem_of_getElem? ht0)).same sS
        refine ⟨t0, _, rfl, SqT.of h1, rfl, _, _, rfl, _, _, rfl, rfl, ?_⟩
        refine ⟨rfl, _, rfl, _, rfl, i, i, rfl, _, eD, ?_, fun b o q => by rw [upd_ne (ne_of_none q hD)]; exact sS b o q, ?_⟩
        · rw [List.length_map, List.length_replicate]
          exact Nat.lt_of_lt_of_le hn (by decide)
        · rw [upd_same, List.replicate_succ', List.map_append, decide_eq_true rfl]
          rfl
      rintro H5 ⟨s5, eD5⟩
      have yes : (List.replicate (ts.map V.ref).length true).all id = true := by simp
      refine ⟨D, _, rfl, SqL.of eD5, _, rfl, ?_⟩
      rw [yes]
      refine ite2 (fun q => absurd q (by decide)) (fun _ => ?_)
      exact hK _ _ ⟨rfl, z.trans s5⟩
    clear z em rs
    rintro σ' G ⟨rfl, z⟩
    have hd : ∀ i j : Int, decide (V.int i = V.int j) = decide (i = j) := fun i j => by simp
    have sh : ∀ r : Int × Int, SeqAt.shaped (.tuple [.int r.1, .int r.2]) = true := fun r => by rfl
    have pD : ∀ {x : Addr} {r : Int × Int}, Pair G x r → Dp K G (.ref x) (.tuple [.int r.1, .int r.2]) := fun {x r} e => .tup (SqT.of e) (.cons (.int _) (.cons (.int _) .nil))
    -- equality
    refine seq_by (fun σ' G' => σ' = [some (.ref a), some (.ref b), some (.int wh), some (.ref t), some (.ref u), some (.int (sgn (p.1 * q.2 - q.1 * p.2))), some (.int (sgn (p.1 - wh * p.2))), some (.ref m), none, none] ∧ Same H G') (fun kk hK => ?_) ?_
    · refine ⟨_, rfl, _, rfl, a, da, _, rfl, z _ _ ha, .ins (z _ _ hb), a, da, _, p, rfl, z _ _ ha, .inl ⟨b, db, q, rfl, z _ _ hb, ?_⟩⟩
      refine ⟨_, rfl, _, rfl, _, _, pD (z _ _ ht), pD (z _ _ hu), sh p, sh q, ?_⟩
      rw [eqv_pair]
      refine ⟨rfl, _, rfl, ?_⟩
      refine ite2 (fun y => absurd y (by simp)) (fun _ => ?_)
      refine ⟨_, rfl, _, rfl, t, _, _, _, rfl, rfl, SqT.of (z _ _ ht), rfl, _, rfl, t, _, _, _, rfl, rfl, SqT.of (z _ _ ht), rfl, ?_⟩
      refine .good _ _ rfl rfl (Int.ne_of_gt fp.pos) (fit_sz fp.b) ?_
      rw [low_self lp]
      intro c dc G1 nc s1 ec
      refine ⟨a, da, _, rfl, s1 _ _ (z _ _ ha), .ins ec, a, da, _, p, rfl, s1 _ _ (z _ _ ha), .inl ⟨c, dc, p, rfl, ec, ?_⟩⟩
      refine ⟨_, rfl, ?_⟩
      refine ite2 (fun y => absurd y (by simp)) (fun _ => ?_)
      exact hK _ _ ⟨rfl, z.trans s1⟩
    clear z sh pD
    rintro σ' G ⟨rfl, z⟩
    refine seq_by (fun σ' G' => σ' = [some (.ref a), some (.ref b), some (.int wh), some (.ref t), some (.ref u), some (.int (sgn (p.1 * q.2 - q.1 * p.2))), some (.int (sgn (p.1 - wh * p.2))), some (.ref m), none, none] ∧ Same H G') (fun kk hK => ?_) ?_
    · have no : ∀ {T' : String} {v : V} {G' : Hp}, T' ∈ kinds → TyX K G' v (.type T') → Same H G' → ∀ {Q' : VK}, Q' (.bl false) G' → spEq K C [.ref a, v] G' Q' E0 := by
        intro T' v G' h1 h2 s1 Q' q'
        exact ⟨a, da, _, p, rfl, s1 _ _ ha, .inr ⟨⟨_, h1, h2⟩, q'⟩⟩
      refine ⟨_, rfl, _, rfl, t, _, _, _, rfl, rfl, SqT.of (z _ _ ht), rfl, a, da, _, rfl, z _ _ ha, .blt (.base (.int _)) (by decide +kernel), no (by decide +kernel) (.base (.int _)) z ⟨_, rfl, ?_⟩⟩
      refine ite2 (fun y => absurd y (by simp)) (fun _ => ?_)
      refine ⟨_, rfl, t, _, _, _, rfl, rfl, SqT.of (z _ _ ht), rfl, _, rfl, _, a, da, _, rfl, rfl, z _ _ ha, no (by decide +kernel) (.base (.int _)) z ⟨_, rfl, ?_⟩⟩
      refine ite2 (fun y => absurd y (by simp)) (fun _ => ?_)
      refine ⟨_, rfl, _, rfl, a, da, _, rfl, z _ _ ha, .blt (.base (.tup (z _ _ ht))) (by decide +kernel), no (by decide +kernel) (.base (.tup (z _ _ ht))) z ⟨_, rfl, ?_⟩⟩
      refine ite2 (fun y => absurd y (by simp)) (fun _ => ?_)
      refine ⟨_, rfl, a, da, _, rfl, z _ _ ha, .blt (.base (.str _)) (by decide +kernel), no (by decide +kernel) (.base (.str _)) z ⟨_, rfl, ?_⟩⟩
      refine ite2 (fun y => absurd y (by simp)) (fun _ => ?_)
      refine ⟨_, rfl, _, rfl, a, da, _, rfl, z _ _ ha, a, da, p, rfl, z _ _ ha, fp, fun G1 s1 => ⟨_, rfl, ?_⟩⟩
      refine ⟨a, da, _, rfl, s1 _ _ (z _ _ ha), .blt (.base (.str _)) (by decide +kernel), no (by decide +kernel) (.base (.str _)) (z.trans s1) ⟨_, rfl, ?_⟩⟩
      refine ite2 (fun y => absurd y (by simp)) (fun _ => ?_)
      exact hK _ _ ⟨rfl, z.trans s1⟩
    clear z
    rintro σ' G ⟨rfl, z⟩
    have lg : ∀ i : Int, i.natAbs < 2 ^ 1000 → i.natAbs.log2 < 1920 := fun i h => log2_small (Nat.lt_of_lt_of_le h (Nat.pow_le_pow_right (by decide) (by decide))) (by decide)
    refine ⟨_, rfl, a, da, _, rfl, z _ _ ha, a, da, p, rfl, z _ _ ha, fp, fun G1 s1 => ⟨_, rfl, ?_⟩⟩
    have z := z.trans s1
    clear s1
    refine ⟨_, rfl, t, _, _, _, rfl, rfl, SqT.of (z _ _ ht), rfl, rfl, _, rfl, ?_⟩
    rw [hd]
    have l1 := numT_len (fit_dig fp.t)
    have l2 := numT_len (fit_dig fp.b)
    have sl : (3000 : Nat) ≤ sizeLine := by decide
    refine ite2 (fun y => ?_) (fun y => ?_)
    · have h1 : p.2 = 1 := of_decide_eq_true y
      refine ⟨_, rfl, t, _, _, _, rfl, rfl, SqT.of (z _ _ ht), rfl, .inr ⟨_, rfl, lg _ mp.t, rfl, ?_⟩⟩
      show Q (.bl (decide (V.str (ratT p) = V.str (numT p.1)))) G1
      have e : ratT p = numT p.1 := by
        unfold ratT
        rw [if_pos h1]
      rw [e, decide_eq_true rfl]
      exact k _ z
    · have h1 : ¬ p.2 = 1 := fun h => y (decide_eq_true h)
      refine ⟨_, rfl, t, _, _, _, rfl, rfl, SqT.of (z _ _ ht), rfl, .inr ⟨_, rfl, lg _ mp.t, _, rfl, ?_, ?_⟩⟩
      · rw [emp]
        exact Nat.le_trans l1 (by omega)
      refine ⟨_, rfl, ?_, ?_⟩
      · rw [emp, len_tl, tl_append, List.length_append, ← len_tl, ← len_tl]
        show (numT p.1).length + 1 ≤ sizeLine
        omega
      refine ⟨_, rfl, t, _, _, _, rfl, rfl, SqT.of (z _ _ ht), rfl, .inr ⟨_, rfl, lg _ mp.b, _, rfl, ?_, ?_⟩⟩
      · rw [emp, len_tl, tl_append, tl_append, List.length_append, List.length_append, ← len_tl, ← len_tl, ← len_tl]
        show (numT p.1).length + 1 + (numT p.2).length ≤ sizeLine
        omega
      refine ⟨rfl, ?_⟩
      show Q (.bl (decide (V.str (ratT p) = V.str (Str.empty ++ numT p.1 ++ "/" ++ numT p.2)))) G1
      have e : ratT p = Str.empty ++ numT p.1 ++ "/" ++ numT p.2 := by
        unfold ratT
        rw [if_neg h1, emp]
      rw [e, decide_eq_true rfl]
      exact k _ z
end
end K03
end
section
set_option maxHeartbeats 4000000
set_option exponentiation.threshold 100000
namespace K03
open PySem PySem.Spec PyProof.Rows L2 LamX NdefX L3 TL
abbrev sPowR : Stmt := top 42
abbrev qPow : Str := "_law_powers_right.<locals>.<lambda>"
abbrev qRef : Str := "_law_refusals_right.<locals>.<lambda>"
def spPowR (C : Addr) (T : List (Addr × Str)) : Sp := fun vs H Q _ => ∃ (a da t : Addr) (e : Int) (p : Int × Int), vs = [.ref a, .ref t, .int e] ∧ H a = some (rat C da p) ∧ Pair H t p ∧ p.1.natAbs < 2 ^ 300 ∧ p.2.natAbs < 2 ^ 300 ∧ Low p ∧ e.natAbs ≤ 9 ∧ Tabs T H ∧
  ∀ H', Left T H H' → Q (.bl true) H'
/-- the class's powers -/
structure PowR (P : Program) (w : World) (K : PySem.W.Frag) (mg : Str → Option Value) (base : Heap) (cB cN C : Addr) : Prop where
  inv : ∃ f fd, Meth K C "inverse" f ∧ FnOk P w K mg base (L2.CX P w) 6 f fd ["self"] (spInv C cN) ∧ Binds K fd ["self"] []
  pow : ∃ f fd, Meth K C "power" f ∧ FnOk P w K mg base (L2.CX P w) 7 f fd ["self", "exponent"] (spPower K C cB cN) ∧ Binds K fd ["self", "exponent"] []
theorem lkP {u v : V} : ([("top", u), ("bottom", v)] : List (Str × V)).lookup ("power" : Str) = none := by
  have e : (("power" : Str) == "top") = false := by decide +kernel
  have e2 : (("power" : Str) == "bottom") = false := by decide +kernel
  simp [List.lookup, e, e2]
section
variable {P : Program} {w : World} {K : PySem.W.Frag} {mg : Str → Option Value} {base : Heap} {cB cN C fI fF fS fJ fT cc PP : Addr} {fdF fdS fdJ fdT : FuncData} {T : List (Addr × Str)}
theorem scPowR : FnScope ["_law_first", "_law_one", "_law_many", "_law_deeds", "_law_deed"] ["_law_first", "_law_one", "_law_many"] (defScope sPowR) := ⟨rfl, rfl, rfl, by decide +kernel, rfl, by decide +kernel, by decide +kernel⟩
theorem ok_powR {f : Addr} {fd : FuncData} (F : Fun K "_law_powers_right" "_law_powers_right" sPowR f fd) (hcode : fd.code = .ref cc) (B : TxtR mg) (TB : TabB base mg cc PP) (hm : (PP, qPow) ∈ T) (hu : ∀ p ∈ T, p.1 = PP → p.2 = qPow)
    (R : Rat P w K mg base cB cN C fI) (PR : PowR P w K mg base cB cN C) (ER : ErrR P w K mg base cB cN) (MR : ExmR K cB cN)
    (FF : Fun K "_law_fault" "_law_fault" sFault fF fdF) (gF : mg "_law_fault" = some (.ref fF)) (bF : L2.Binds K fdF ["_law_deed"] [])
    (S : FnOk P w K mg base CX0 2 fS fdS ["_law_told", "_law_due"] (spIs C)) (gS : mg "_law_is" = some (.ref fS)) (kS : PySem.W.keepIn K (.ref fS) = true) (bS : Binds K fdS ["_law_told", "_law_due"] [])
    (J : FnOk P w K mg base CX0 4 fJ fdJ ["_law_one", "_law_many"] spPowered) (gJ : mg "_law_powered" = some (.ref fJ)) (kJ : PySem.W.keepIn K (.ref fJ) = true) (bJ : Binds K fdJ ["_law_one", "_law_many"] [])
    (GT : FnOk P w K mg base CX0 3 fT fdT ["_law_one"] spTurn) (gT : mg "_law_turn" = some (.ref fT)) (kT : PySem.W.keepIn K (.ref fT) = true) (bT : Binds K fdT ["_law_one"] []) :
    FnOk P w K mg base CX0 12 f fd ["_law_first", "_law_one", "_law_many"] (spPowR C T) := by
  obtain ⟨fi, fdi, Mi, Fi, bi⟩ := PR.inv
  obtain ⟨fp, fdp, Mp, Fp, bp⟩ := PR.pow
  refine okC F hcode scPowR (fun vs H Q E h => ?_) (fun A outer s H vs Q E hr h => ?_)
  · obtain ⟨a, da, t, e, p, rfl, _⟩ := h
    rfl
  · obtain ⟨a, da, t, e, p, rfl, ha, ht, h1, h2, lp, he, hT, k⟩ := h
    have nd := scPowR.nd
    have hr2 : Room 2 _ := hr.mono (by decide)
    have hr3 : Room 3 _ := hr.mono (by decide)
    have hr4 : Room 4 _ := hr.mono (by decide)
    have hr6 : Room 6 _ := hr.mono (by decide)
    have hr7 : Room 7 _ := hr.mono (by decide)
    have GF := fun σ => ok_fault (X := cxOf CX0 P w K mg base ["_law_first", "_law_one", "_law_many", "_law_deeds", "_law_deed"] "_law_powers_right" (defScope sPowR) f (.ref cc) A outer s H E) (σ := σ) (k := 9) FF bF ER MR rfl rfl rfl rfl rfl
    refine ⟨_, pss_cons (ps_if (PW.pt (pw_or (pt_not (pt_val (pe_call S hr2 (by rfl) gS kS bS .nil pass0 (pa_cons (pe_meth (E := E0) (pv 0) R.cls.c Mp Fp hr7 bp .nil passL (pa_cons pe_int pa_nil)) (pa_cons (pe_tup (pa_cons pe_int (pa_cons pe_int pa_nil))) pa_nil)))))
        (pw_or1 (pt_not (pt_val (pe_call S hr2 (by rfl) gS kS bS .nil pass0 (pa_cons (pe_meth (E := E0) (pv 0) R.cls.c Mp Fp hr7 bp .nil passL (pa_cons (pe_callB call_abs (by rfl) B.abs (by decide +kernel) (pa_cons (pv 2) pa_nil)) pa_nil)) (pa_cons (pe_call J hr4 (by rfl) gJ kJ bJ .nil pass0 (pa_cons (pv 1) (pa_cons (pe_callB call_abs (by rfl) B.abs (by decide +kernel) (pa_cons (pv 2) pa_nil)) pa_nil))) pa_nil)))))))) (pss_one (ps_ret pe_bl)) pss_nil)
      (pss_cons (ps_if (pt_cmpR op_eq (pe_ix ix_tup (pv 1) pe_int (fun _ _ => rfl)) pe_int (nomark _))
        (pss_cons (ps_set (i := 3) nd rfl (Or.inl rfl) (pe_lst (pa_cons (pe_lam (T := T) TB rfl hm hu (lamS_by (sc := defScope sPowR) (by decide +kernel))) (pa_cons (pe_lam (T := T) TB rfl hm hu (lamS_by (sc := defScope sPowR) (by decide +kernel))) pa_nil))))
        (pss_one (ps_ret (pe_callB (cr_all rfl) (by rfl) B.all (by decide +kernel) (pa_cons (pe_lcS (own := [("_law_deed", 4)]) (g := gName 4) (tt := tYes) rfl nd (pi_list (pv 3)) (blkOk_by (N := ["_law_first", "_law_one", "_law_many", "_law_deeds", "_law_deed"]) (sc := defScope sPowR) (by decide +kernel)) (fun _ _ _ _ _ => pg_name (i := 4) nd rfl (Or.inl rfl)) (fun _ _ _ _ _ => pts_nil)
          (fun pins σ s H cl fp I hc => by exact (pe_cmpR (show OpR _ (compareOp .Eq) (rEqD K) from op_eqD hr2.units) (pe_callRd (E := fun _ => E0) (GF σ) hr (by rfl) gF FF.kp (fun pins' s' σ' H' J' => Rd.block (pn := []) (xe := fun _ _ => False) I hc J') (fun σ2 pins2 H2 s2 e2 s3 I2 c2 => pass0 pins2 σ2 H2 s2 e2 s3 I2 c2) (pa_cons (pv 4) pa_nil)) (pe_tup (pa_cons pe_str (pa_cons pe_non pa_nil))) (nomark _)))) pa_nil))))) pss_nil)
      (pss_one (ps_ret (pe_and (pe_call S hr2 (by rfl) gS kS bS .nil pass0 (pa_cons (pe_meth (E := E0) (pv 0) R.cls.c Mp Fp hr7 bp .nil passL (pa_cons (pv 2) pa_nil)) (pa_cons (pe_call J hr4 (by rfl) gJ kJ bJ .nil pass0 (pa_cons (pv 1) (pa_cons (pv 2) pa_nil))) pa_nil)))
        (pe_one (pe_call S hr2 (by rfl) gS kS bS .nil pass0 (pa_cons (pe_meth0 (E := E0) (pv 0) R.cls.c Mi Fi hr6 bi .nil passL) (pa_cons (pe_call GT hr3 (by rfl) gT kT bT .nil pass0 (pa_cons (pv 1) pa_nil)) pa_nil)))))))), ?_⟩
    have fp : Fit p := ⟨Nat.lt_of_lt_of_le h1 (Nat.pow_le_pow_right (by decide) (by decide)), lp.pos, Nat.lt_of_lt_of_le h2 (Nat.pow_le_pow_right (by decide) (by decide))⟩
    have eab : (((e.natAbs : Nat) : Int)).natAbs = e.natAbs := Int.natAbs_natCast _
    have hd : ∀ i j : Int, decide (V.int i = V.int j) = decide (i = j) := fun i j => by simp
    -- the powers from 0 on
    refine seq_by (fun σ' G => σ' = [some (.ref a), some (.ref t), some (.int e), none, none] ∧ Same H G) (fun kk hK => ?_) ?_
    · refine ⟨_, rfl, a, da, _, rfl, ha, lkP, a, da, .int 0, p, rfl, ha, fp, .inr ⟨0, 300, rfl, by decide, by decide, h1, h2, .inl ⟨by decide, fun x dx G1 nx s1 ex => ?_⟩⟩⟩
      refine ⟨by show 2 ≤ sizeLine; decide, fun t1 n1 => ?_⟩
      have z := s1.new (o := .tup [.int 1, .int 1]) n1
      refine ⟨x, dx, t1, _, (1, 1), rfl, (Same.new (fun _ _ e => e) n1) _ _ ex, upd_same, _, rfl, ?_⟩
      have e0 : ppow p (Int.natAbs 0) = (1, 1) := by
        rw [ppow_pw lp]
        show (p.1 ^ 0, p.2 ^ 0) = (1, 1)
        simp
      rw [decide_eq_true e0]
      refine ite2 (fun y => absurd y (by simp)) (fun _ => ?_)
      clear ex nx s1
      generalize upd G1 t1 (.tup [.int 1, .int 1]) = G at z ⊢
      refine ⟨_, rfl, a, da, _, rfl, z _ _ ha, lkP, _, rfl, _, rfl, ?_⟩
      rw [abs_cast]
      refine ⟨a, da, _, p, rfl, z _ _ ha, fp, .inr ⟨_, 300, rfl, by decide, by rw [eab]; omega, h1, h2, .inl ⟨by omega, fun x dx G1 nx s1 ex => ?_⟩⟩⟩
      refine ⟨_, rfl, _, rfl, _, rfl, ?_⟩
      rw [abs_cast]
      refine ⟨t, _, p, 300, rfl, s1 _ _ (z _ _ ht), lp, h1, h2, by decide, by rw [eab]; omega, by decide, (fun y => by omega), fun y G2 ny s2 py => ?_⟩
      refine ⟨x, dx, y, _, _, rfl, s2 _ _ ex, py, _, rfl, ?_⟩
      rw [if_neg (by omega), ppow_pw lp, decide_eq_true rfl]
      refine ite2 (fun y => absurd y (by simp)) (fun _ => ?_)
      exact hK _ _ ⟨rfl, (z.trans s1).trans s2⟩
    rintro σ' G ⟨rfl, z⟩
    -- 0 has no powers below 0
    refine seq_by (fun σ' G => σ' = [some (.ref a), some (.ref t), some (.int e), none, none] ∧ Same H G ∧ p.1 ≠ 0) (fun kk hK => ?_) ?_
    · refine ⟨_, rfl, t, _, _, _, rfl, rfl, SqT.of (z _ _ ht), rfl, rfl, _, rfl, ?_⟩
      rw [hd]
      refine ite2 (fun y => ?_) (fun y => hK _ _ ⟨rfl, z, fun y' => y (decide_eq_true y')⟩)
      have h0 : p.1 = 0 := of_decide_eq_true y
      refine ⟨hT.ext z, fun f1 c1 G1 e1 n1 T1 nf1 hf1 hc1 => ⟨T1, fun f2 c2 G2 e2 n2 T2 nf2 hf2 hc2 => ⟨by show 2 ≤ sizeLine; decide, fun l nl => ?_⟩⟩⟩
      have L0 : Left T H G := Left.same hT z
      have L2' : Left T H G2 := (L0.trans ⟨e1, n1, T1⟩).trans ⟨e2, n2, T2⟩
      have sl : Same G2 (upd G2 l (.lst [.ref f1, .ref f2])) := Same.new (fun _ _ e => e) nl
      have L3' := L2'.trans (Left.same T2 sl)
      have el : upd G2 l (.lst [.ref f1, .ref f2]) l = some (.lst ([f1, f2].map V.ref)) := upd_same
      have F1 : upd G2 l (.lst [.ref f1, .ref f2]) f1 = _ := sl _ _ (e2 _ _ hf1 (lamO_ne))
      have C1 : upd G2 l (.lst [.ref f1, .ref f2]) c1 = _ := sl _ _ (e2 _ _ hc1 codeO_ne)
      have F2 : upd G2 l (.lst [.ref f1, .ref f2]) f2 = _ := sl _ _ hf2
      have C2 : upd G2 l (.lst [.ref f1, .ref f2]) c2 = _ := sl _ _ hc2
      clear sl e1 n1 e2 n2 hf1 hc1 hf2 hc2 nl L0 L2'
      generalize upd G2 l (.lst [.ref f1, .ref f2]) = G3 at L3' el F1 C1 F2 C2 ⊢
      have D1 : DeedAt (cxOf CX0 P w K mg base ["_law_first", "_law_one", "_law_many", "_law_deeds", "_law_deed"] "_law_powers_right" (defScope sPowR) f (.ref cc) A outer s H E) [some (.ref a), some (.ref t), some (.int e), some (.ref l), none] 9 cB cN G3 f1 none := by
        refine DeedAt.mk (lamS_by (sc := defScope sPowR) (by decide +kernel)) (fun _ _ _ _ _ => rfl) (fun A outer s H E f c' hr => pe_meth0 (E := E) (pv 0) R.cls.c Mi Fi (hr.mono (by decide)) bi .nil (passK (takes_of rfl rfl rfl rfl))) F1 C1 ?_
        exact fun H' s' E' Q' lv => ⟨_, rfl, a, da, _, rfl, s' _ _ (L3'.rat ha), lkI, a, da, p, rfl, s' _ _ (L3'.rat ha), fp, (fun y => absurd h0 y), fun _ => lv⟩
      have D2 : DeedAt (cxOf CX0 P w K mg base ["_law_first", "_law_one", "_law_many", "_law_deeds", "_law_deed"] "_law_powers_right" (defScope sPowR) f (.ref cc) A outer s H E) [some (.ref a), some (.ref t), some (.int e), some (.ref l), none] 9 cB cN G3 f2 none := by
        refine DeedAt.mk (lamS_by (sc := defScope sPowR) (by decide +kernel)) (fun _ _ _ _ _ => rfl) (fun A outer s H E f c' hr => pe_meth (E := E) (pv 0) R.cls.c Mp Fp (hr.mono (by decide)) bp .nil (passK (takes_of rfl rfl rfl rfl)) (pa_cons (pe_op op_sub (pe_un un_neg pe_int) (pe_callB call_abs (by rfl) B.abs (by decide +kernel) (pa_cons (pv 2) pa_nil))) pa_nil)) F2 C2 ?_
        intro H' s' E' Q' lv
        refine ⟨_, rfl, a, da, _, rfl, s' _ _ (L3'.rat ha), lkP, _, rfl, _, rfl, _, rfl, ?_⟩
        rw [abs_cast]
        refine ⟨_, _, rfl, rfl, a, da, _, p, rfl, s' _ _ (L3'.rat ha), fp, .inr ⟨_, 300, rfl, by decide, ?_, h1, h2, .inr (.inr ⟨by omega, h0, lv⟩)⟩⟩
        omega
      refine ⟨_, rfl, l, rfl, ⟨_, SqL.of el⟩, fun D hD => lc_list (K := K) (a := l) (xs := [f1, f2].map V.ref) (fun n H2 => Same G3 H2 ∧ H2 D = some (.lst ((List.replicate n true).map V.bl))) ⟨Same.new (fun _ _ e => e) hD, upd_same⟩ (fun n H2 _ p => p.1.seq (SqL.of el)) ?_ ?_⟩
      · rintro n x H2 hx ⟨sS, eD⟩
        have hn : n < 2 := (List.getElem?_eq_some_iff.mp hx).1
        have hx2 : ∃ fz, x = .ref fz ∧ DeedAt (cxOf CX0 P w K mg base ["_law_first", "_law_one", "_law_many", "_law_deeds", "_law_deed"] "_law_powers_right" (defScope sPowR) f (.ref cc) A outer s H E) [some (.ref a), some (.ref t), some (.int e), some (.ref l), none] 9 cB cN G3 fz none := by
          match n, hn, hx with
          | 0, _, hx => exact ⟨f1, (Option.some.inj hx).symm, D1⟩
          | 1, _, hx => exact ⟨f2, (Option.some.inj hx).symm, D2⟩
        obtain ⟨fz, rfl, dz⟩ := hx2
        refine ⟨rfl, _, rfl, fz, none, rfl, dz.same sS, fun q H3 nq s3 eq => ?_⟩
        refine ⟨by show 2 ≤ sizeLine; decide, fun r nr => ?_⟩
        have s4 := s3.new (o := .tup [.str "divisor", .non]) nr
        have rq : upd H3 r (.tup [.str "divisor", .non]) q = some (.tup [.str "divisor", .non]) := (Same.new (fun _ _ e => e) nr) _ _ eq
        refine ⟨.tuple [.str "divisor", .none], .tuple [.str "divisor", .none], .tup (SqT.of rq) (.cons (.str _) (.cons .non .nil)), .tup (SqT.of upd_same) (.cons (.str _) (.cons .non .nil)), by decide +kernel, by decide +kernel, ?_⟩
        have yes : PyData.eqv (.tuple [.str "divisor", .none]) (.tuple [.str "divisor", .none]) = true := by decide +kernel
        rw [yes]
        have s5 := sS.trans s4
        refine ⟨_, s4 _ _ eD, ?_, fun b o q => by rw [upd_ne (ne_of_none q hD)]; exact s5 b o q, ?_⟩
        · rw [List.length_map, List.length_replicate]
          exact Nat.lt_of_lt_of_le hn (by decide)
        · rw [upd_same, List.replicate_succ', List.map_append]
          rfl
      rintro H5 ⟨s5, eD5⟩
      have yes : (List.replicate ([f1, f2].map V.ref).length true).all id = true := by simp
      refine ⟨D, _, rfl, SqL.of eD5, ?_⟩
      rw [yes]
      exact k _ (L3'.trans (Left.same L3'.t s5))
    rintro σ' G ⟨rfl, z, h0⟩
    by_cases hneg : e < 0
    · have lw := low_low (t := p.2) h0
      refine ⟨_, rfl, a, da, _, rfl, z _ _ ha, lkP, _, rfl, a, da, _, p, rfl, z _ _ ha, fp, .inr ⟨e, 300, rfl, by decide, by omega, h1, h2, .inr (.inl ⟨hneg, h0, fun x dx G1 nx s1 ex => ?_⟩)⟩⟩
      refine ⟨_, rfl, _, rfl, t, e, p, 300, rfl, s1 _ _ (z _ _ ht), lp, h1, h2, by decide, by omega, by decide, (fun _ => h0), fun y G2 ny s2 py => ?_⟩
      refine ⟨x, dx, y, _, _, rfl, s2 _ _ ex, py, _, rfl, ?_⟩
      rw [if_pos hneg, ppow_pw lw, decide_eq_true rfl]
      have z := (z.trans s1).trans s2
      clear ex nx s1 ny s2 py
      refine ⟨_, rfl, a, da, _, rfl, z _ _ ha, lkI, a, da, p, rfl, z _ _ ha, fp, fun _ => fun x dx G3 nx s3 ex => ?_, fun y => absurd y h0⟩
      refine ⟨_, rfl, t, p, rfl, s3 _ _ (z _ _ ht), h0, fit_sz fp.t, fun y G4 ny s4 py => ?_⟩
      refine ⟨x, dx, y, _, _, rfl, s4 _ _ ex, py, ?_⟩
      rw [decide_eq_true rfl]
      exact k _ (Left.same hT ((z.trans s3).trans s4))
    · refine ⟨_, rfl, a, da, _, rfl, z _ _ ha, lkP, _, rfl, a, da, _, p, rfl, z _ _ ha, fp, .inr ⟨e, 300, rfl, by decide, by omega, h1, h2, .inl ⟨by omega, fun x dx G1 nx s1 ex => ?_⟩⟩⟩
      refine ⟨_, rfl, _, rfl, t, e, p, 300, rfl, s1 _ _ (z _ _ ht), lp, h1, h2, by decide, by omega, by decide, (fun _ => h0), fun y G2 ny s2 py => ?_⟩
      refine ⟨x, dx, y, _, _, rfl, s2 _ _ ex, py, _, rfl, ?_⟩
      rw [if_neg hneg, ppow_pw lp, decide_eq_true rfl]
      have z := (z.trans s1).trans s2
      clear ex nx s1 ny s2 py
      refine ⟨_, rfl, a, da, _, rfl, z _ _ ha, lkI, a, da, p, rfl, z _ _ ha, fp, fun _ => fun x dx G3 nx s3 ex => ?_, fun y => absurd y h0⟩
      refine ⟨_, rfl, t, p, rfl, s3 _ _ (z _ _ ht), h0, fit_sz fp.t, fun y G4 ny s4 py => ?_⟩
      refine ⟨x, dx, y, _, _, rfl, s4 _ _ ex, py, ?_⟩
      rw [decide_eq_true rfl]
      exact k _ (Left.same hT ((z.trans s3).trans s4))
end
end K03
end
section
set_option maxHeartbeats 8000000
set_option exponentiation.threshold 100000
namespace K03
open PySem PySem.Spec PyProof.Rows L2 LamX NdefX L3 TL
abbrev sRefR : Stmt := top 43
def spRefR (C : Addr) (T : List (Addr × Str)) : Sp := fun vs H Q _ => ∃ (d c a da : Addr) (wh st r : Int) (p : Int × Int) (cells : List Int), vs = [.ref d, .ref a, .int wh] ∧ PenAt H d c st r cells ∧ 0 ≤ st ∧ st + 2 ≤ 100000 ∧ cells.length ≤ 63 ∧ H a = some (rat C da p) ∧ Fit p ∧ Fit (wh, 1) ∧ Tabs T H ∧
  ∀ (s' r' : Int) (H' : Hp), 0 ≤ s' → s' ≤ st + 2 → PenAt H' d c s' r' cells → ButT T d H H' → Q (.bl true) H'
theorem OddE.blt {K : PySem.W.Frag} {H : Hp} {v : V} {nm : String} (hn : nm = "add" ∨ nm = "sub" ∨ nm = "mul") (h : OddE H v) : Blt K H nm v := by
  cases h with
  | bl b => exact .bl b
  | non => rcases hn with rfl | rfl | rfl <;> exact .free (T := "NoneType") (.base .non) (by decide +kernel) (by decide)
  | str z _ => rcases hn with rfl | rfl | rfl <;> exact .free (T := "str") (.base (.str z)) (by decide +kernel) (by decide)
  | lst ns e q => rcases hn with rfl | rfl | rfl <;> exact .free (T := "list") (.base (.lst e)) (by decide +kernel) (by decide)
  | tup ns e d q z => rcases hn with rfl | rfl | rfl <;> exact .free (T := "tuple") (.fTuple e) (by decide +kernel) (by decide)
  | dic e => rcases hn with rfl | rfl | rfl <;> exact .free (T := "dict") (.base (.dK e)) (by decide +kernel) (by decide)
section
variable {P : Program} {w : World} {K : PySem.W.Frag} {mg : Str → Option Value} {base : Heap} {cB cN C fI fF fA fR fP cc PP : Addr} {fdF fdA fdR fdP : FuncData} {T : List (Addr × Str)}
theorem scRefR : FnScope ["_law_pen_here", "_law_first", "_law_whole_here", "_law_some", "_law_deeds", "_law_more", "_law_odd", "_law_deed"] ["_law_pen_here", "_law_first", "_law_whole_here"] (defScope sRefR) := ⟨rfl, rfl, rfl, by decide +kernel, rfl, by decide +kernel, by decide +kernel⟩
theorem ok_refR {f : Addr} {fd : FuncData} (F : Fun K "_law_refusals_right" "_law_refusals_right" sRefR f fd) (hcode : fd.code = .ref cc) (B : TxtR mg) (TB : TabB base mg cc PP) (hm : (PP, qRef) ∈ T) (hu : ∀ p ∈ T, p.1 = PP → p.2 = qRef)
    (R : Rat P w K mg base cB cN C fI) (O : OpsR P w K mg base cB cN C) (MO : MoreR P w K mg base cB cN C) (PR : PowR P w K mg base cB cN C) (ER : ErrR P w K mg base cB cN) (MR : ExmR K cB cN)
    (FF : Fun K "_law_fault" "_law_fault" sFault fF fdF) (gF : mg "_law_fault" = some (.ref fF)) (bF : L2.Binds K fdF ["_law_deed"] [])
    (FR : Fun K "_law_refused" "_law_refused" sRefd fR fdR) (gR : mg "_law_refused" = some (.ref fR)) (bR : L2.Binds K fdR ["_law_deed", "_law_value"] [])
    (GA : FnOk P w K mg base CX0 2 fA fdA ["_law_told", "_law_due"] (spAlike C)) (gA : mg "_law_alike" = some (.ref fA)) (kA : PySem.W.keepIn K (.ref fA) = true) (bA : Binds K fdA ["_law_told", "_law_due"] [])
    (GP : FnOk P w K mg base CX0 2 fP fdP ["_law_pen_here", "_law_some"] spPick) (gP : mg "_law_pick" = some (.ref fP)) (kP : PySem.W.keepIn K (.ref fP) = true) (bP : Binds K fdP ["_law_pen_here", "_law_some"] []) :
    FnOk P w K mg base CX0 13 f fd ["_law_pen_here", "_law_first", "_law_whole_here"] (spRefR C T) := by
  obtain ⟨fa, ga, fda, gda, Oa, Fa, ba, Ga, ca⟩ := O.add
  obtain ⟨fs, gs, fds, gds, Os, Fs, bs, Gs, cs⟩ := O.sub
  obtain ⟨fm, gm, fdm, gdm, Om, Fm, bm, Gm, cm⟩ := O.mul
  obtain ⟨fp_, fdp, Mp, Fp, bp⟩ := PR.pow
  obtain ⟨fc, fdc, Mc, Fc, bc⟩ := MO.comp
  refine okC F hcode scRefR (fun vs H Q E h => ?_) (fun A outer s H vs Q E hr h => ?_)
  · obtain ⟨d, c, a, da, wh, st, r, p, cells, rfl, _⟩ := h
    rfl
  · obtain ⟨d, c, a, da, wh, st, r, p, cells, rfl, hpen, hs0, hs1, hcl, ha, fp, fw, hT, k⟩ := h
    have nd := scRefR.nd
    have hr2 : Room 2 _ := hr.mono (by decide)
    have hr11 : Room 11 _ := hr.mono (by decide)
    have GF := fun σ => ok_fault (X := (cxOf CX0 P w K mg base ["_law_pen_here", "_law_first", "_law_whole_here", "_law_some", "_law_deeds", "_law_more", "_law_odd", "_law_deed"] "_law_refusals_right" (defScope sRefR) f (.ref cc) A outer s H E)) (σ := σ) (k := 9) FF bF ER MR rfl rfl rfl rfl rfl
    have GR := fun σ => ok_refd (X := (cxOf CX0 P w K mg base ["_law_pen_here", "_law_first", "_law_whole_here", "_law_some", "_law_deeds", "_law_more", "_law_odd", "_law_deed"] "_law_refusals_right" (defScope sRefR) f (.ref cc) A outer s H E)) (C := C) (σ := σ) (k := 9) FR bR (by decide) (GF σ) gF FF.kp GA gA kA bA rfl rfl rfl rfl rfl
    refine ⟨_, pss_cons (ps_set (i := 3) nd rfl (Or.inl rfl) (pe_lst (pa_cons pe_non (pa_cons pe_bl (pa_cons pe_bl (pa_cons pe_str (pa_cons pe_str (pa_cons (pe_lst (pa_cons pe_int pa_nil)) (pa_cons (pe_tupF (pa_cons pe_int (pa_cons pe_int pa_nil))) (pa_cons pe_dnewK (pa_cons (pe_lst pa_nil) (pa_cons (pe_tupF pa_nil) pa_nil))))))))))))
      (pss_cons (ps_asg (pe_tup (pa_cons (pe_call GP hr2 (by rfl) gP kP bP .nil pass0 (pa_cons (pv 0) (pa_cons (pv 3) pa_nil))) (pa_cons (pe_call GP hr2 (by rfl) gP kP bP .nil pass0 (pa_cons (pv 0) (pa_cons (pv 3) pa_nil))) pa_nil))) (pg_tup (by rfl) (pgs_cons (pg_name (i := 6) nd rfl (Or.inr rfl)) (pgs_cons (pg_name (i := 5) nd rfl (Or.inr rfl)) pgs_nil))))
      (pss_cons (ps_set (i := 4) nd rfl (Or.inl rfl) (pe_lst (pa_cons (pe_lam (T := T) TB rfl hm hu (lamS_by (sc := defScope sRefR) (by decide +kernel))) (pa_cons (pe_lam (T := T) TB rfl hm hu (lamS_by (sc := defScope sRefR) (by decide +kernel))) (pa_cons (pe_lam (T := T) TB rfl hm hu (lamS_by (sc := defScope sRefR) (by decide +kernel))) (pa_cons (pe_lam (T := T) TB rfl hm hu (lamS_by (sc := defScope sRefR) (by decide +kernel))) (pa_cons (pe_lam (T := T) TB rfl hm hu (lamS_by (sc := defScope sRefR) (by decide +kernel))) (pa_cons (pe_lam (T := T) TB rfl hm hu (lamS_by (sc := defScope sRefR) (by decide +kernel))) (pa_cons (pe_lam (T := T) TB rfl hm hu (lamS_by (sc := defScope sRefR) (by decide +kernel))) (pa_cons (pe_lam (T := T) TB rfl hm hu (lamS_by (sc := defScope sRefR) (by decide +kernel))) (pa_cons (pe_lam (T := T) TB rfl hm hu (lamS_by (sc := defScope sRefR) (by decide +kernel))) (pa_cons (pe_lam (T := T) TB rfl hm hu (lamS_by (sc := defScope sRefR) (by decide +kernel))) (pa_cons (pe_lam (T := T) TB rfl hm hu (lamS_by (sc := defScope sRefR) (by decide +kernel))) (pa_cons (pe_lam (T := T) TB rfl hm hu (lamS_by (sc := defScope sRefR) (by decide +kernel))) (pa_cons (pe_lam (T := T) TB rfl hm hu (lamS_by (sc := defScope sRefR) (by decide +kernel))) pa_nil)))))))))))))))
      (pss_cons (ps_if (pt_not (pt_val (pe_callB (cr_all rfl) (by rfl) B.all (by decide +kernel) (pa_cons (pe_lcS (own := [("_law_deed", 7)]) (g := gName 7) (tt := tYes) rfl nd (pi_list (pv 4)) (blkOk_by (N := ["_law_pen_here", "_law_first", "_law_whole_here", "_law_some", "_law_deeds", "_law_more", "_law_odd", "_law_deed"]) (sc := defScope sRefR) (by decide +kernel)) (fun _ _ _ _ _ => pg_name (i := 7) nd rfl (Or.inl rfl)) (fun _ _ _ _ _ => pts_nil)
          (fun pins σ s H cl fp I hc => by exact (pe_callRd (E := fun _ => E0) (GR σ) hr (by rfl) gR FR.kp (fun pins' s' σ' H' J' => Rd.block (pn := []) (xe := fun _ _ => False) I hc J') (fun σ2 pins2 H2 s2 e2 s3 I2 c2 => pass0 pins2 σ2 H2 s2 e2 s3 I2 c2) (pa_cons (pv 7) (pa_cons (pv 6) pa_nil))))) pa_nil)))) (pss_one (ps_ret pe_bl)) pss_nil)
      (pss_cons (ps_set (i := 4) nd rfl (Or.inl rfl) (pe_lst (pa_cons (pe_lam (T := T) TB rfl hm hu (lamS_by (sc := defScope sRefR) (by decide +kernel))) (pa_cons (pe_lam (T := T) TB rfl hm hu (lamS_by (sc := defScope sRefR) (by decide +kernel))) (pa_cons (pe_lam (T := T) TB rfl hm hu (lamS_by (sc := defScope sRefR) (by decide +kernel))) pa_nil)))))
      (pss_cons (ps_if (pt_not (pt_val (pe_callB (cr_all rfl) (by rfl) B.all (by decide +kernel) (pa_cons (pe_lcS (own := [("_law_deed", 7)]) (g := gName 7) (tt := tYes) rfl nd (pi_list (pv 4)) (blkOk_by (N := ["_law_pen_here", "_law_first", "_law_whole_here", "_law_some", "_law_deeds", "_law_more", "_law_odd", "_law_deed"]) (sc := defScope sRefR) (by decide +kernel)) (fun _ _ _ _ _ => pg_name (i := 7) nd rfl (Or.inl rfl)) (fun _ _ _ _ _ => pts_nil)
          (fun pins σ s H cl fp I hc => by exact (pe_callRd (E := fun _ => E0) (GR σ) hr (by rfl) gR FR.kp (fun pins' s' σ' H' J' => Rd.block (pn := []) (xe := fun _ _ => False) I hc J') (fun σ2 pins2 H2 s2 e2 s3 I2 c2 => pass0 pins2 σ2 H2 s2 e2 s3 I2 c2) (pa_cons (pv 7) (pa_cons (pv 1) pa_nil))))) pa_nil)))) (pss_one (ps_ret pe_bl)) pss_nil)
      (pss_one (ps_ret (pe_cmpR (op_eqD hr2.units) (pe_callRdS (E := fun _ => E0) GF hr11 (by rfl) gF FF.kp (fun pins s σ H I => Rd.start I) (fun σ2 pins2 H2 s2 e2 s3 I2 c2 => pass0 pins2 σ2 H2 s2 e2 s3 I2 c2) (pa_cons (pe_lam (T := T) TB rfl hm hu (lamS_by (sc := defScope sRefR) (by decide +kernel))) pa_nil)) (pe_tup (pa_cons pe_str (pa_cons pe_non pa_nil))) (nomark _))))))))), ?_⟩
    have hdk : H d = some (.dK (pen c st r)) := hpen.dc
    have nad : a ≠ d := ne_of ha hdk (by intro z; cases z)
    -- the things of other kinds
    refine seq_by (fun σ' G => ∃ (l : Addr) (xs : List V), σ' = [some (.ref d), some (.ref a), some (.int wh), some (.ref l), none, none, none, none] ∧ Same H G ∧ l ≠ d ∧ G l = some (.lst xs) ∧ xs.length = 10 ∧ ∀ v ∈ xs, OddE G v ∧ ∀ b, v = .ref b → b ≠ d) (fun kk hK => ?_) ?_
    · refine ⟨by show 1 ≤ sizeLine; decide, fun l1 n1 => ?_⟩
      have z : Same H (upd H l1 (.lst [.int 1])) := Same.new (fun _ _ e => e) n1
      have o1 : OddE (upd H l1 (.lst [.int 1])) (.ref l1) := .lst [1] upd_same (by decide +kernel)
      have m1 : l1 ≠ d := (ne_of_none hdk n1).symm
      clear n1
      generalize upd H l1 (.lst [.int 1]) = G at z o1 ⊢
      refine ⟨by show 2 ≤ sizeLine; decide, fun t1 ob1 n2 d1 => ?_⟩
      have s2 := Same.new (o := .frz ob1 (.tup [.int 1, .int 2])) (fun _ _ e => e : Same G G) n2
      have o2 : OddE (upd G t1 (.frz ob1 (.tup [.int 1, .int 2]))) (.ref t1) := .tup [1, 2] upd_same d1 (by decide +kernel) (by decide +kernel)
      have m2 : t1 ≠ d := (ne_of_none (z _ _ hdk) n2).symm
      have o1 := o1.same s2
      have z := z.trans s2
      clear n2 s2
      generalize upd G t1 (.frz ob1 (.tup [.int 1, .int 2])) = G at z o1 o2 ⊢
      intro dd n3
      have s3 := Same.new (o := .dK []) (fun _ _ e => e : Same G G) n3
      have o3 : OddE (upd G dd (.dK [])) (.ref dd) := .dic upd_same
      have m3 : dd ≠ d := (ne_of_none (z _ _ hdk) n3).symm
      have o1 := o1.same s3
      have o2 := o2.same s3
      have z := z.trans s3
      clear n3 s3
      generalize upd G dd (.dK []) = G at z o1 o2 o3 ⊢
      refine ⟨by show 0 ≤ sizeLine; decide, fun l2 n4 => ?_⟩
      have s4 := Same.new (o := .lst []) (fun _ _ e => e : Same G G) n4
      have o4 : OddE (upd G l2 (.lst [])) (.ref l2) := .lst [] upd_same (by decide +kernel)
      have m4 : l2 ≠ d := (ne_of_none (z _ _ hdk) n4).symm
      have o1 := o1.same s4
      have o2 := o2.same s4
      have o3 := o3.same s4
      have z := z.trans s4
      clear n4 s4
      generalize upd G l2 (.lst []) = G at z o1 o2 o3 o4 ⊢
      refine ⟨by show 0 ≤ sizeLine; decide, fun t2 ob2 n5 d2 => ?_⟩
      have s5 := Same.new (o := .frz ob2 (.tup [])) (fun _ _ e => e : Same G G) n5
      have o5 : OddE (upd G t2 (.frz ob2 (.tup []))) (.ref t2) := .tup [] upd_same d2 (by decide +kernel) (by decide +kernel)
      have m5 : t2 ≠ d := (ne_of_none (z _ _ hdk) n5).symm
      have o1 := o1.same s5
      have o2 := o2.same s5
      have o3 := o3.same s5
      have o4 := o4.same s5
      have z := z.trans s5
      clear n5 s5
      generalize upd G t2 (.frz ob2 (.tup [])) = G at z o1 o2 o3 o4 o5 ⊢
      refine ⟨by show 10 ≤ sizeLine; decide, fun l n6 => ?_⟩
      have s6 := Same.new (o := .lst [.non, .bl true, .bl false, .str "1", .str "", .ref l1, .ref t1, .ref dd, .ref l2, .ref t2]) (fun _ _ e => e : Same G G) n6
      refine hK _ _ ⟨l, _, rfl, z.trans s6, (ne_of_none (z _ _ hdk) n6).symm, upd_same, rfl, fun v hv => ?_⟩
      simp only [List.mem_cons, List.not_mem_nil, or_false] at hv
      rcases hv with rfl | rfl | rfl | rfl | rfl | rfl | rfl | rfl | rfl | rfl
      · exact ⟨.non, fun _ y => nomatch y⟩
      · exact ⟨.bl _, fun _ y => nomatch y⟩
      · exact ⟨.bl _, fun _ y => nomatch y⟩
      · exact ⟨.str _ (by decide +kernel), fun _ y => nomatch y⟩
      · exact ⟨.str _ (by decide +kernel), fun _ y => nomatch y⟩
      · exact ⟨o1.same s6, fun _ y => by cases y; exact m1⟩
      · exact ⟨o2.same s6, fun _ y => by cases y; exact m2⟩
      · exact ⟨o3.same s6, fun _ y => by cases y; exact m3⟩
      · exact ⟨o4.same s6, fun _ y => by cases y; exact m4⟩
      · exact ⟨o5.same s6, fun _ y => by cases y; exact m5⟩
    rintro σ' G ⟨l, xs, rfl, z, nld, el, lx, ox⟩
    have pG : PenAt G d c st r cells := ⟨z _ _ hpen.dc, z _ _ hpen.ls⟩
    -- two of them
    refine seq_by (fun σ' G => ∃ (v u : V) (s' r' : Int), σ' = [some (.ref d), some (.ref a), some (.int wh), some (.ref l), none, some u, some v, none] ∧ PenAt G d c s' r' cells ∧ 0 ≤ s' ∧ s' ≤ st + 2 ∧ OddE G v ∧ (∀ b, v = .ref b → b ≠ d) ∧ ButT T d H G) (fun kk hK => ?_) ?_
    · refine ⟨_, rfl, _, rfl, d, c, l, st, r, cells, xs, rfl, pG, hs0, by omega, hcl, el, by omega, by omega, fun v s1 r1 H1 hv a1 a2 p1 b1 => ?_⟩
      refine ⟨_, rfl, _, rfl, d, c, l, s1, r1, cells, xs, rfl, p1, a1, by omega, hcl, b1 _ _ el nld, by omega, by omega, fun u s2 r2 H2 hu a3 a4 p2 b2 => ?_⟩
      have b12 : SameBut d G H2 := fun b o e n => b2 _ _ (b1 _ _ e n) n
      refine ⟨by show 2 ≤ sizeLine; decide, fun tt ntt => ?_⟩
      have st' := Same.new (o := .tup [v, u]) (fun _ _ e => e : Same H2 H2) ntt
      refine ⟨tt, _, rfl, SqT.of upd_same, rfl, _, _, rfl, _, _, rfl, rfl, ?_⟩
      refine hK _ _ ⟨v, u, s2, r2, rfl, ⟨st' _ _ p2.dc, st' _ _ p2.ls⟩, a3, by omega, ?_, (ox v hv).2, ⟨fun b o e _ n => st' _ _ (b12 _ _ (z _ _ e) n), (tabs_but (hT.ext z) pG.dc b12).ext st'⟩⟩
      exact ((ox v hv).1.but (fun b o e _ n => b12 _ _ e n) (ox v hv).2).same st'
    rintro σ' G ⟨v, u, s1, r1, rfl, pG', lo, hi, og, ngd, bt⟩
    clear pG el lx ox z
    have fit01 : Fit (low 0 1) := by
      rw [low_one]
      exact ⟨by decide, by decide, Nat.one_lt_two_pow (by decide)⟩
    refine seq_by (fun σ' G => ∃ (l4 : Addr) (fs : List Addr), σ' = [some (.ref d), some (.ref a), some (.int wh), some (.ref l), some (.ref l4), some u, some v, none] ∧ PenAt G d c s1 r1 cells ∧ OddE G v ∧ ButT T d H G ∧ G l4 = some (.lst (fs.map V.ref)) ∧ fs.length = 13 ∧ ∀ fz ∈ fs, DeedAt (cxOf CX0 P w K mg base ["_law_pen_here", "_law_first", "_law_whole_here", "_law_some", "_law_deeds", "_law_more", "_law_odd", "_law_deed"] "_law_refusals_right" (defScope sRefR) f (.ref cc) A outer s H E) [some (.ref d), some (.ref a), some (.int wh), some (.ref l), some (.ref l4), some u, some v, none] 9 cB cN G fz (some v)) (fun kk hK => ?_) ?_
    · have L0 : Left T G G := Left.same bt.t (fun _ _ e => e)
      refine ⟨bt.t, fun f1 c1 G1 e1 n1 T1 nf1 hf1 hc1 => ?_⟩
      have A1 : LamAt G1 f1 c1 _ := ⟨hf1, hc1⟩
      have L1 : Left T G G1 := L0.trans ⟨e1, n1, T1⟩
      clear hf1 hc1 e1 n1 nf1 L0
      refine ⟨T1, fun f2 c2 G2 e2 n2 T2 nf2 hf2 hc2 => ?_⟩
      have A2 : LamAt G2 f2 c2 _ := ⟨hf2, hc2⟩
      have A1 := A1.ext e2
      have L2 : Left T G G2 := L1.trans ⟨e2, n2, T2⟩
      clear hf2 hc2 e2 n2 nf2 L1
      refine ⟨T2, fun f3 c3 G3 e3 n3 T3 nf3 hf3 hc3 => ?_⟩
      have A3 : LamAt G3 f3 c3 _ := ⟨hf3, hc3⟩
      have A1 := A1.ext e3
      have A2 := A2.ext e3
      have L3 : Left T G G3 := L2.trans ⟨e3, n3, T3⟩
      clear hf3 hc3 e3 n3 nf3 L2
      refine ⟨T3, fun f4 c4 G4 e4 n4 T4 nf4 hf4 hc4 => ?_⟩
      have A4 : LamAt G4 f4 c4 _ := ⟨hf4, hc4⟩
      have A1 := A1.ext e4
      have A2 := A2.ext e4
      have A3 := A3.ext e4
      have L4 : Left T G G4 := L3.trans ⟨e4, n4, T4⟩
      clear hf4 hc4 e4 n4 nf4 L3
      refine ⟨T4, fun f5 c5 G5 e5 n5 T5 nf5 hf5 hc5 => ?_⟩
      have A5 : LamAt G5 f5 c5 _ := ⟨hf5, hc5⟩
      have A1 := A1.ext e5
      have A2 := A2.ext e5
      have A3 := A3.ext e5
      have A4 := A4.ext e5
      have L5 : Left T G G5 := L4.trans ⟨e5, n5, T5⟩
      clear hf5 hc5 e5 n5 nf5 L4
      refine ⟨T5, fun f6 c6 G6 e6 n6 T6 nf6 hf6 hc6 => ?_⟩
      have A6 : LamAt G6 f6 c6 _ := ⟨hf6, hc6⟩
      have A1 := A1.ext e6
      have A2 := A2.ext e6
      have A3 := A3.ext e6
      have A4 := A4.ext e6
      have A5 := A5.ext e6
      have L6 : Left T G G6 := L5.trans ⟨e6, n6, T6⟩
      clear hf6 hc6 e6 n6 nf6 L5
      refine ⟨T6, fun f7 c7 G7 e7 n7 T7 nf7 hf7 hc7 => ?_⟩
      have A7 : LamAt G7 f7 c7 _ := ⟨hf7, hc7⟩
      have A1 := A1.ext e7
      have A2 := A2.ext e7
      have A3 := A3.ext e7
      have A4 := A4.ext e7
      have A5 := A5.ext e7
      have A6 := A6.ext e7
      have L7 : Left T G G7 := L6.trans ⟨e7, n7, T7⟩
      clear hf7 hc7 e7 n7 nf7 L6
      refine ⟨T7, fun f8 c8 G8 e8 n8 T8 nf8 hf8 hc8 => ?_⟩
      have A8 : LamAt G8 f8 c8 _ := ⟨hf8, hc8⟩
      have A1 := A1.ext e8
      have A2 := A2.ext e8
      have A3 := A3.ext e8
      have A4 := A4.ext e8
      have A5 := A5.ext e8
      have A6 := A6.ext e8
      have A7 := A7.ext e8
      have L8 : Left T G G8 := L7.trans ⟨e8, n8, T8⟩
      clear hf8 hc8 e8 n8 nf8 L7
      refine ⟨T8, fun f9 c9 G9 e9 n9 T9 nf9 hf9 hc9 => ?_⟩
      have A9 : LamAt G9 f9 c9 _ := ⟨hf9, hc9⟩
      have A1 := A1.ext e9
      have A2 := A2.ext e9
      have A3 := A3.ext e9
      have A4 := A4.ext e9
      have A5 := A5.ext e9
      have A6 := A6.ext e9
      have A7 := A7.ext e9
      have A8 := A8.ext e9
      have L9 : Left T G G9 := L8.trans ⟨e9, n9, T9⟩
      clear hf9 hc9 e9 n9 nf9 L8
      refine ⟨T9, fun f10 c10 G10 e10 n10 T10 nf10 hf10 hc10 => ?_⟩
      have A10 : LamAt G10 f10 c10 _ := ⟨hf10, hc10⟩
      have A1 := A1.ext e10
      have A2 := A2.ext e10
      have A3 := A3.ext e10
      have A4 := A4.ext e10
      have A5 := A5.ext e10
      have A6 := A6.ext e10
      have A7 := A7.ext e10
      have A8 := A8.ext e10
      have A9 := A9.ext e10
      have L10 : Left T G G10 := L9.trans ⟨e10, n10, T10⟩
      clear hf10 hc10 e10 n10 nf10 L9
      refine ⟨T10, fun f11 c11 G11 e11 n11 T11 nf11 hf11 hc11 => ?_⟩
      have A11 : LamAt G11 f11 c11 _ := ⟨hf11, hc11⟩
      have A1 := A1.ext e11
      have A2 := A2.ext e11
      have A3 := A3.ext e11
      have A4 := A4.ext e11
      have A5 := A5.ext e11
      have A6 := A6.ext e11
      have A7 := A7.ext e11
      have A8 := A8.ext e11
      have A9 := A9.ext e11
      have A10 := A10.ext e11
      have L11 : Left T G G11 := L10.trans ⟨e11, n11, T11⟩
      clear hf11 hc11 e11 n11 nf11 L10
      refine ⟨T11, fun f12 c12 G12 e12 n12 T12 nf12 hf12 hc12 => ?_⟩
      have A12 : LamAt G12 f12 c12 _ := ⟨hf12, hc12⟩
      have A1 := A1.ext e12
      have A2 := A2.ext e12
      have A3 := A3.ext e12
      have A4 := A4.ext e12
      have A5 := A5.ext e12
      have A6 := A6.ext e12
      have A7 := A7.ext e12
      have A8 := A8.ext e12
      have A9 := A9.ext e12
      have A10 := A10.ext e12
      have A11 := A11.ext e12
      have L12 : Left T G G12 := L11.trans ⟨e12, n12, T12⟩
      clear hf12 hc12 e12 n12 nf12 L11
      refine ⟨T12, fun f13 c13 G13 e13 n13 T13 nf13 hf13 hc13 => ?_⟩
      have A13 : LamAt G13 f13 c13 _ := ⟨hf13, hc13⟩
      have A1 := A1.ext e13
      have A2 := A2.ext e13
      have A3 := A3.ext e13
      have A4 := A4.ext e13
      have A5 := A5.ext e13
      have A6 := A6.ext e13
      have A7 := A7.ext e13
      have A8 := A8.ext e13
      have A9 := A9.ext e13
      have A10 := A10.ext e13
      have A11 := A11.ext e13
      have A12 := A12.ext e13
      have L13 : Left T G G13 := L12.trans ⟨e13, n13, T13⟩
      clear hf13 hc13 e13 n13 nf13 L12
      refine ⟨by show 13 ≤ sizeLine; decide, fun l4 nl => ?_⟩
      have sl := Same.new (o := .lst [.ref f1, .ref f2, .ref f3, .ref f4, .ref f5, .ref f6, .ref f7, .ref f8, .ref f9, .ref f10, .ref f11, .ref f12, .ref f13]) (fun _ _ e => e : Same G13 G13) nl
      have LL := L13.trans (Left.same T13 sl)
      have el4 : upd G13 l4 (.lst [.ref f1, .ref f2, .ref f3, .ref f4, .ref f5, .ref f6, .ref f7, .ref f8, .ref f9, .ref f10, .ref f11, .ref f12, .ref f13]) l4 = some (.lst ([f1, f2, f3, f4, f5, f6, f7, f8, f9, f10, f11, f12, f13].map V.ref)) := upd_same
      have A1 := A1.same sl
      have A2 := A2.same sl
      have A3 := A3.same sl
      have A4 := A4.same sl
      have A5 := A5.same sl
      have A6 := A6.same sl
      have A7 := A7.same sl
      have A8 := A8.same sl
      have A9 := A9.same sl
      have A10 := A10.same sl
      have A11 := A11.same sl
      have A12 := A12.same sl
      have A13 := A13.same sl
      clear sl nl L13
      generalize upd G13 l4 (.lst [.ref f1, .ref f2, .ref f3, .ref f4, .ref f5, .ref f6, .ref f7, .ref f8, .ref f9, .ref f10, .ref f11, .ref f12, .ref f13]) = J at LL el4 A1 A2 A3 A4 A5 A6 A7 A8 A9 A10 A11 A12 A13 ⊢
      have oJ : OddE J v := og.but (fun b o e n _ => LL.e b o e n) ngd
      have aJ : J a = some (rat C da p) := LL.rat (bt.e _ _ ha (fun _ y => by first | cases y | (unfold rat at y; cases y)) nad)
      refine hK _ _ ⟨l4, [f1, f2, f3, f4, f5, f6, f7, f8, f9, f10, f11, f12, f13], rfl, ⟨LL.e _ _ pG'.dc (fun _ y => by cases y), LL.e _ _ pG'.ls (fun _ y => by cases y)⟩, oJ, ⟨fun b o e n m => LL.e _ _ (bt.e _ _ e n m) n, LL.t⟩, el4, rfl, fun fz hz => ?_⟩
      simp only [List.mem_cons, List.not_mem_nil, or_false] at hz
      rcases hz with rfl | rfl | rfl | rfl | rfl | rfl | rfl | rfl | rfl | rfl | rfl | rfl | rfl
      · refine DeedAt.mk (lamS_by (sc := defScope sRefR) (by decide +kernel)) (fun _ _ _ _ _ => rfl) (fun A outer s H E f c' hr => (show PE _ _ (tRat1 K C cB cN E _) from pe_rat1 (E := E) R (hr.mono (by decide)) (passK (takes_of rfl rfl rfl rfl)) (pv 6))) A1.hf A1.hc ?_
        intro H' s' E' Q' lv
        have ra := s' _ _ aJ
        have ov := oJ.same s'
        have no := ov.odd.no (K := K)
        exact ⟨_, rfl, .top no lv⟩
      · refine DeedAt.mk (lamS_by (sc := defScope sRefR) (by decide +kernel)) (fun _ _ _ _ _ => rfl) (fun A outer s H E f c' hr => (show PE _ _ (tRat2 K C cB cN E _ _) from pe_rat2 (E := E) R (hr.mono (by decide)) (passK (takes_of rfl rfl rfl rfl)) (pv 6) (pv 5))) A2.hf A2.hc ?_
        intro H' s' E' Q' lv
        have ra := s' _ _ aJ
        have ov := oJ.same s'
        have no := ov.odd.no (K := K)
        exact ⟨_, rfl, _, rfl, .top no lv⟩
      · refine DeedAt.mk (lamS_by (sc := defScope sRefR) (by decide +kernel)) (fun _ _ _ _ _ => rfl) (fun A outer s H E f c' hr => (show PE _ _ (tRat2 K C cB cN E _ _) from pe_rat2 (E := E) R (hr.mono (by decide)) (passK (takes_of rfl rfl rfl rfl)) (pv 6) pe_int)) A3.hf A3.hc ?_
        intro H' s' E' Q' lv
        have ra := s' _ _ aJ
        have ov := oJ.same s'
        have no := ov.odd.no (K := K)
        exact ⟨_, rfl, .top no lv⟩
      · refine DeedAt.mk (lamS_by (sc := defScope sRefR) (by decide +kernel)) (fun _ _ _ _ _ => rfl) (fun A outer s H E f c' hr => (show PE _ _ (tRat2 K C cB cN E _ _) from pe_rat2 (E := E) R (hr.mono (by decide)) (passK (takes_of rfl rfl rfl rfl)) (pv 2) (pv 6))) A4.hf A4.hc ?_
        intro H' s' E' Q' lv
        have ra := s' _ _ aJ
        have ov := oJ.same s'
        have no := ov.odd.no (K := K)
        exact ⟨_, rfl, _, rfl, .bot wh rfl no lv⟩
      · refine DeedAt.mk (lamS_by (sc := defScope sRefR) (by decide +kernel)) (fun _ _ _ _ _ => rfl) (fun A outer s H E f c' hr => pe_meth (E := E) (pv 1) R.cls.c Mp Fp (hr.mono (by decide)) bp .nil (passK (takes_of rfl rfl rfl rfl)) (pa_cons (pv 6) pa_nil)) A5.hf A5.hc ?_
        intro H' s' E' Q' lv
        have ra := s' _ _ aJ
        have ov := oJ.same s'
        have no := ov.odd.no (K := K)
        exact ⟨_, rfl, a, da, _, rfl, ra, lkP, _, rfl, a, da, v, p, rfl, ra, fp, .inl ⟨no, lv⟩⟩
      · refine DeedAt.mk (lamS_by (sc := defScope sRefR) (by decide +kernel)) (fun _ _ _ _ _ => rfl) (fun A outer s H E f c' hr => pe_meth (E := E) (show PE _ _ (tRat1 K C cB cN E _) from pe_rat1 (E := E) R (hr.mono (by decide)) (passK (takes_of rfl rfl rfl rfl)) pe_int) R.cls.c Mp Fp (hr.mono (by decide)) bp .nil (passK (takes_of rfl rfl rfl rfl)) (pa_cons (pv 6) pa_nil)) A6.hf A6.hc ?_
        intro H' s' E' Q' lv
        have ra := s' _ _ aJ
        have ov := oJ.same s'
        have no := ov.odd.no (K := K)
        exact .good 0 1 rfl rfl (by decide) (by decide +kernel) fun x dx H1 nx s1 ex => ⟨x, dx, _, rfl, ex, lkP, _, rfl, x, dx, v, low 0 1, rfl, ex, fit01, .inl ⟨no.same s1, Bad.same lv s1⟩⟩
      · refine DeedAt.mk (lamS_by (sc := defScope sRefR) (by decide +kernel)) (fun _ _ _ _ _ => rfl) (fun A outer s H E f c' hr => pe_meth (E := E) (pv 1) R.cls.c Mc Fc (hr.mono (by decide)) bc .nil (passK (takes_of rfl rfl rfl rfl)) (pa_cons (pv 6) pa_nil)) A7.hf A7.hc ?_
        intro H' s' E' Q' lv
        have ra := s' _ _ aJ
        have ov := oJ.same s'
        have no := ov.odd.no (K := K)
        exact ⟨_, rfl, a, da, _, rfl, ra, lkC, _, rfl, a, da, v, p, rfl, ra, fp, .odd ov.odd lv⟩
      · refine DeedAt.mk (lamS_by (sc := defScope sRefR) (by decide +kernel)) (fun _ _ _ _ _ => rfl) (fun A outer s H E f c' hr => pe_op (show OpR _ (binaryOp .Add) (rOwnL K C _ (spBin K C cB padd) E) from op_ownL (E := E) R.cls.t1 Oa Fa (hr.mono (by decide)) ba (passK (takes_of rfl rfl rfl rfl))) (pv 1) (pv 6)) A8.hf A8.hc ?_
        intro H' s' E' Q' lv
        have ra := s' _ _ aJ
        have ov := oJ.same s'
        have no := ov.odd.no (K := K)
        exact ⟨_, rfl, _, rfl, a, da, _, rfl, ra, .inr (ov.blt (.inl rfl)), a, da, v, p, rfl, ra, fp, .odd ov.odd lv⟩
      · refine DeedAt.mk (lamS_by (sc := defScope sRefR) (by decide +kernel)) (fun _ _ _ _ _ => rfl) (fun A outer s H E f c' hr => pe_op (show OpR _ (binaryOp .Sub) (rOwnL K C _ (spBin K C cB psub) E) from op_ownL (E := E) R.cls.t1 Os Fs (hr.mono (by decide)) bs (passK (takes_of rfl rfl rfl rfl))) (pv 1) (pv 6)) A9.hf A9.hc ?_
        intro H' s' E' Q' lv
        have ra := s' _ _ aJ
        have ov := oJ.same s'
        have no := ov.odd.no (K := K)
        exact ⟨_, rfl, _, rfl, a, da, _, rfl, ra, .inr (ov.blt (.inr (.inl rfl))), a, da, v, p, rfl, ra, fp, .odd ov.odd lv⟩
      · refine DeedAt.mk (lamS_by (sc := defScope sRefR) (by decide +kernel)) (fun _ _ _ _ _ => rfl) (fun A outer s H E f c' hr => pe_op (show OpR _ (binaryOp .Mult) (rOwnL K C _ (spBin K C cB pmul) E) from op_ownL (E := E) R.cls.t1 Om Fm (hr.mono (by decide)) bm (passK (takes_of rfl rfl rfl rfl))) (pv 1) (pv 6)) A10.hf A10.hc ?_
        intro H' s' E' Q' lv
        have ra := s' _ _ aJ
        have ov := oJ.same s'
        have no := ov.odd.no (K := K)
        exact ⟨_, rfl, _, rfl, a, da, _, rfl, ra, .inr (ov.blt (.inr (.inr rfl))), a, da, v, p, rfl, ra, fp, .odd ov.odd lv⟩
      · refine DeedAt.mk (lamS_by (sc := defScope sRefR) (by decide +kernel)) (fun _ _ _ _ _ => rfl) (fun A outer s H E f c' hr => pe_op (show OpR _ (binaryOp .Add) (rOwnR K C _ (spRbin K C cB padd) E) from op_ownR (E := E) dec_add R.cls.t1 Oa Ga (hr.mono (by decide)) ca (passK (takes_of rfl rfl rfl rfl))) (pv 6) (pv 1)) A11.hf A11.hc ?_
        intro H' s' E' Q' lv
        have ra := s' _ _ aJ
        have ov := oJ.same s'
        have no := ov.odd.no (K := K)
        exact ⟨_, rfl, _, rfl, a, da, _, rfl, ra, ov.blt (.inl rfl), a, da, v, p, rfl, ra, fp, .odd ov.odd lv⟩
      · refine DeedAt.mk (lamS_by (sc := defScope sRefR) (by decide +kernel)) (fun _ _ _ _ _ => rfl) (fun A outer s H E f c' hr => pe_op (show OpR _ (binaryOp .Sub) (rOwnR K C _ (spRbin K C cB psub) E) from op_ownR (E := E) dec_sub R.cls.t1 Os Gs (hr.mono (by decide)) cs (passK (takes_of rfl rfl rfl rfl))) (pv 6) (pv 1)) A12.hf A12.hc ?_
        intro H' s' E' Q' lv
        have ra := s' _ _ aJ
        have ov := oJ.same s'
        have no := ov.odd.no (K := K)
        exact ⟨_, rfl, _, rfl, a, da, _, rfl, ra, ov.blt (.inr (.inl rfl)), a, da, v, p, rfl, ra, fp, .odd ov.odd lv⟩
      · refine DeedAt.mk (lamS_by (sc := defScope sRefR) (by decide +kernel)) (fun _ _ _ _ _ => rfl) (fun A outer s H E f c' hr => pe_op (show OpR _ (binaryOp .Mult) (rOwnR K C _ (spRbin K C cB pmul) E) from op_ownR (E := E) dec_mul R.cls.t1 Om Gm (hr.mono (by decide)) cm (passK (takes_of rfl rfl rfl rfl))) (pv 6) (pv 1)) A13.hf A13.hc ?_
        intro H' s' E' Q' lv
        have ra := s' _ _ aJ
        have ov := oJ.same s'
        have no := ov.odd.no (K := K)
        exact ⟨_, rfl, _, rfl, a, da, _, rfl, ra, ov.blt (.inr (.inr rfl)), a, da, v, p, rfl, ra, fp, .odd ov.odd lv⟩
    rintro σ' G ⟨l4, fs, rfl, pG', og, bt, el4, lf, df⟩
    refine seq_by (fun σ' G => σ' = [some (.ref d), some (.ref a), some (.int wh), some (.ref l), some (.ref l4), some u, some v, none] ∧ PenAt G d c s1 r1 cells ∧ OddE G v ∧ ButT T d H G) (fun kk hK => ?_) ?_
    · have aG : G a = some (rat C da p) := bt.e _ _ ha (fun _ y => by first | cases y | (unfold rat at y; cases y)) nad
      refine ⟨_, rfl, l4, rfl, ⟨_, SqL.of el4⟩, fun D hD => lc_list (K := K) (a := l4) (xs := fs.map V.ref) (fun n H2 => Same G H2 ∧ H2 D = some (.lst ((List.replicate n true).map V.bl))) ⟨Same.new (fun _ _ e => e) hD, upd_same⟩ (fun n H2 _ p => p.1.seq (SqL.of el4)) ?_ ?_⟩
      · rintro n x H2 hx ⟨sS, eD⟩
        have hn : n < 13 := by
          have := (List.getElem?_eq_some_iff.mp hx).1
          rw [List.length_map, lf] at this
          exact this
        rw [List.getElem?_map] at hx
        obtain ⟨fz, hz, rfl⟩ := Option.map_eq_some_iff.mp hx
        have dz := (df fz (List.mem_of_getElem? hz)).same sS
        refine ⟨rfl, _, rfl, _, rfl, fz, _, rfl, .inl (og.same sS), dz, fun H3 s3 => ?_⟩
        have s5 := sS.trans s3
        refine ⟨_, s3 _ _ eD, ?_, fun b o q => by rw [upd_ne (ne_of_none q hD)]; exact s5 b o q, ?_⟩
        · rw [List.length_map, List.length_replicate]
          exact Nat.lt_of_lt_of_le hn (by decide)
        · rw [upd_same, List.replicate_succ', List.map_append]
          rfl
      rintro H5 ⟨s5, eD5⟩
      have yes : (List.replicate (fs.map V.ref).length true).all id = true := by simp
      refine ⟨D, _, rfl, SqL.of eD5, _, rfl, ?_⟩
      rw [yes]
      refine ite2 (fun y => absurd y (by decide)) (fun _ => ?_)
      exact hK _ _ ⟨rfl, ⟨s5 _ _ pG'.dc, s5 _ _ pG'.ls⟩, og.same s5, ⟨fun b o e n m => s5 _ _ (bt.e _ _ e n m), bt.t.ext s5⟩⟩
    rintro σ' G ⟨rfl, pG', og, bt⟩
    clear el4 lf df
    refine seq_by (fun σ' G => ∃ (l4 : Addr) (fs : List Addr), σ' = [some (.ref d), some (.ref a), some (.int wh), some (.ref l), some (.ref l4), some u, some v, none] ∧ PenAt G d c s1 r1 cells ∧ OddE G v ∧ ButT T d H G ∧ G l4 = some (.lst (fs.map V.ref)) ∧ fs.length = 3 ∧ ∀ fz ∈ fs, DeedAt (cxOf CX0 P w K mg base ["_law_pen_here", "_law_first", "_law_whole_here", "_law_some", "_law_deeds", "_law_more", "_law_odd", "_law_deed"] "_law_refusals_right" (defScope sRefR) f (.ref cc) A outer s H E) [some (.ref d), some (.ref a), some (.int wh), some (.ref l), some (.ref l4), some u, some v, none] 9 cB cN G fz (some (V.ref a))) (fun kk hK => ?_) ?_
    · have L0 : Left T G G := Left.same bt.t (fun _ _ e => e)
      refine ⟨bt.t, fun f1 c1 G1 e1 n1 T1 nf1 hf1 hc1 => ?_⟩
      have A1 : LamAt G1 f1 c1 _ := ⟨hf1, hc1⟩
      have L1 : Left T G G1 := L0.trans ⟨e1, n1, T1⟩
      clear hf1 hc1 e1 n1 nf1 L0
      refine ⟨T1, fun f2 c2 G2 e2 n2 T2 nf2 hf2 hc2 => ?_⟩
      have A2 : LamAt G2 f2 c2 _ := ⟨hf2, hc2⟩
      have A1 := A1.ext e2
      have L2 : Left T G G2 := L1.trans ⟨e2, n2, T2⟩
      clear hf2 hc2 e2 n2 nf2 L1
      refine ⟨T2, fun f3 c3 G3 e3 n3 T3 nf3 hf3 hc3 => ?_⟩
      have A3 : LamAt G3 f3 c3 _ := ⟨hf3, hc3⟩
      have A1 := A1.ext e3
      have A2 := A2.ext e3
      have L3 : Left T G G3 := L2.trans ⟨e3, n3, T3⟩
      clear hf3 hc3 e3 n3 nf3 L2
      refine ⟨by show 3 ≤ sizeLine; decide, fun l4 nl => ?_⟩
      have sl := Same.new (o := .lst [.ref f1, .ref f2, .ref f3]) (fun _ _ e => e : Same G3 G3) nl
      have LL := L3.trans (Left.same T3 sl)
      have el4 : upd G3 l4 (.lst [.ref f1, .ref f2, .ref f3]) l4 = some (.lst ([f1, f2, f3].map V.ref)) := upd_same
      have A1 := A1.same sl
      have A2 := A2.same sl
      have A3 := A3.same sl
      clear sl nl L3
      generalize upd G3 l4 (.lst [.ref f1, .ref f2, .ref f3]) = J at LL el4 A1 A2 A3 ⊢
      have oJ : OddE J v := og.but (fun b o e n _ => LL.e b o e n) ngd
      have aJ : J a = some (rat C da p) := LL.rat (bt.e _ _ ha (fun _ y => by first | cases y | (unfold rat at y; cases y)) nad)
      refine hK _ _ ⟨l4, [f1, f2, f3], rfl, ⟨LL.e _ _ pG'.dc (fun _ y => by cases y), LL.e _ _ pG'.ls (fun _ y => by cases y)⟩, oJ, ⟨fun b o e n m => LL.e _ _ (bt.e _ _ e n m) n, LL.t⟩, el4, rfl, fun fz hz => ?_⟩
      simp only [List.mem_cons, List.not_mem_nil, or_false] at hz
      rcases hz with rfl | rfl | rfl
      · refine DeedAt.mk (lamS_by (sc := defScope sRefR) (by decide +kernel)) (fun _ _ _ _ _ => rfl) (fun A outer s H E f c' hr => (show PE _ _ (tRat2 K C cB cN E _ _) from pe_rat2 (E := E) R (hr.mono (by decide)) (passK (takes_of rfl rfl rfl rfl)) (pv 1) pe_int)) A1.hf A1.hc ?_
        intro H' s' E' Q' lv
        have ra := s' _ _ aJ
        have ov := oJ.same s'
        have no := ov.odd.no (K := K)
        exact ⟨_, rfl, .top (R.no ra) lv⟩
      · refine DeedAt.mk (lamS_by (sc := defScope sRefR) (by decide +kernel)) (fun _ _ _ _ _ => rfl) (fun A outer s H E f c' hr => (show PE _ _ (tRat2 K C cB cN E _ _) from pe_rat2 (E := E) R (hr.mono (by decide)) (passK (takes_of rfl rfl rfl rfl)) (pv 2) (pv 1))) A2.hf A2.hc ?_
        intro H' s' E' Q' lv
        have ra := s' _ _ aJ
        have ov := oJ.same s'
        have no := ov.odd.no (K := K)
        exact ⟨_, rfl, _, rfl, .bot wh rfl (R.no ra) lv⟩
      · refine DeedAt.mk (lamS_by (sc := defScope sRefR) (by decide +kernel)) (fun _ _ _ _ _ => rfl) (fun A outer s H E f c' hr => pe_meth (E := E) (pv 1) R.cls.c Mp Fp (hr.mono (by decide)) bp .nil (passK (takes_of rfl rfl rfl rfl)) (pa_cons (pv 1) pa_nil)) A3.hf A3.hc ?_
        intro H' s' E' Q' lv
        have ra := s' _ _ aJ
        have ov := oJ.same s'
        have no := ov.odd.no (K := K)
        exact ⟨_, rfl, a, da, _, rfl, ra, lkP, _, rfl, a, da, _, p, rfl, ra, fp, .inl ⟨R.no ra, lv⟩⟩
    rintro σ' G ⟨l4, fs, rfl, pG', og, bt, el4, lf, df⟩
    refine seq_by (fun σ' G => σ' = [some (.ref d), some (.ref a), some (.int wh), some (.ref l), some (.ref l4), some u, some v, none] ∧ PenAt G d c s1 r1 cells ∧ OddE G v ∧ ButT T d H G) (fun kk hK => ?_) ?_
    · have aG : G a = some (rat C da p) := bt.e _ _ ha (fun _ y => by first | cases y | (unfold rat at y; cases y)) nad
      refine ⟨_, rfl, l4, rfl, ⟨_, SqL.of el4⟩, fun D hD => lc_list (K := K) (a := l4) (xs := fs.map V.ref) (fun n H2 => Same G H2 ∧ H2 D = some (.lst ((List.replicate n true).map V.bl))) ⟨Same.new (fun _ _ e => e) hD, upd_same⟩ (fun n H2 _ p => p.1.seq (SqL.of el4)) ?_ ?_⟩
      · rintro n x H2 hx ⟨sS, eD⟩
        have hn : n < 3 := by
          have := (List.getElem?_eq_some_iff.mp hx).1
          rw [List.length_map, lf] at this
          exact this
        rw [List.getElem?_map] at hx
        obtain ⟨fz, hz, rfl⟩ := Option.map_eq_some_iff.mp hx
        have dz := (df fz (List.mem_of_getElem? hz)).same sS
        refine ⟨rfl, _, rfl, _, rfl, fz, _, rfl, .inr ⟨a, da, p, rfl, sS _ _ aG⟩, dz, fun H3 s3 => ?_⟩
        have s5 := sS.trans s3
        refine ⟨_, s3 _ _ eD, ?_, fun b o q => by rw [upd_ne (ne_of_none q hD)]; exact s5 b o q, ?_⟩
        · rw [List.length_map, List.length_replicate]
          exact Nat.lt_of_lt_of_le hn (by decide)
        · rw [upd_same, List.replicate_succ', List.map_append]
          rfl
      rintro H5 ⟨s5, eD5⟩
      have yes : (List.replicate (fs.map V.ref).length true).all id = true := by simp
      refine ⟨D, _, rfl, SqL.of eD5, _, rfl, ?_⟩
      rw [yes]
      refine ite2 (fun y => absurd y (by decide)) (fun _ => ?_)
      exact hK _ _ ⟨rfl, ⟨s5 _ _ pG'.dc, s5 _ _ pG'.ls⟩, og.same s5, ⟨fun b o e n m => s5 _ _ (bt.e _ _ e n m), bt.t.ext s5⟩⟩
    rintro σ' G ⟨rfl, pG', og, bt⟩
    clear el4 lf df
    refine ⟨bt.t, fun f1 c1 G1 e1 n1 T1 nf1 hf1 hc1 => ?_⟩
    have L1 : Left T G G1 := ⟨e1, n1, T1⟩
    have A1 : LamAt G1 f1 c1 _ := ⟨hf1, hc1⟩
    refine ⟨f1, none, rfl, ?_, fun q H3 nq s3 eq => ?_⟩
    · refine DeedAt.mk (lamS_by (sc := defScope sRefR) (by decide +kernel)) (fun _ _ _ _ _ => rfl) (fun A outer s H E f c' hr => (show PE _ _ (tRat2 K C cB cN E _ _) from pe_rat2 (E := E) R (hr.mono (by decide)) (passK (takes_of rfl rfl rfl rfl)) (pv 2) pe_int)) A1.hf A1.hc ?_
      intro H' s' E' Q' lv
      exact ⟨_, rfl, .zero wh rfl rfl lv⟩
    refine ⟨by show 2 ≤ sizeLine; decide, fun x nx => ?_⟩
    have s4 := s3.new (o := .tup [.str "divisor", .non]) nx
    have rq : upd H3 x (.tup [.str "divisor", .non]) q = some (.tup [.str "divisor", .non]) := (Same.new (fun _ _ e => e) nx) _ _ eq
    refine ⟨.tuple [.str "divisor", .none], .tuple [.str "divisor", .none], .tup (SqT.of rq) (.cons (.str _) (.cons .non .nil)), .tup (SqT.of upd_same) (.cons (.str _) (.cons .non .nil)), by decide +kernel, by decide +kernel, ?_⟩
    have yes : PyData.eqv (.tuple [.str "divisor", .none]) (.tuple [.str "divisor", .none]) = true := by decide +kernel
    rw [yes]
    have LL := L1.trans (Left.same T1 s4)
    exact k s1 r1 _ lo hi ⟨LL.e _ _ pG'.dc (fun _ y => by cases y), LL.e _ _ pG'.ls (fun _ y => by cases y)⟩ ⟨fun b o e n m => LL.e _ _ (bt.e _ _ e n m) n, LL.t⟩
end
end K03
end
section
set_option maxHeartbeats 8000000
set_option exponentiation.threshold 100000
namespace K03
open PySem PySem.Spec PyProof.Rows L2 LamX NdefX L3 TL
abbrev sLaw : Stmt := top 44
def spLaw (K : PySem.W.Frag) (T : List (Addr × Str)) : Sp := fun vs H Q _ => ∃ (a : Addr) (ns : List Int), vs = [.ref a] ∧ SqL K H a (ns.map V.int) ∧ ns.length ≤ 63 ∧ Tabs T H ∧ ∀ H', Q (.bl true) H'
theorem sm_of {n : Nat} {p : Int × Int} (h : Drawn0 n p) (hn : n < 2 ^ 1000) : Sm p := ⟨Nat.lt_of_le_of_lt h.t hn, Nat.lt_of_le_of_lt h.b hn⟩
/-- the laps' state: the pen, the tables -/
structure LapI (T : List (Addr × Str)) (d c : Addr) (cells : List Int) (n : Nat) (H : Hp) : Prop where
  pen : ∃ s r : Int, PenAt H d c s r cells ∧ 0 ≤ s ∧ s ≤ 2000 * n
  tab : Tabs T H
section
variable {P : Program} {w : World} {K : PySem.W.Frag} {mg : Str → Option Value} {base : Heap} {cB cN C fI f1 f2 f3 f4 f5 f6 f7 f8 f9 f10 f11 : Addr} {d1 d2 d3 d4 d5 d6 d7 d8 d9 d10 d11 : FuncData} {T : List (Addr × Str)}
theorem scLaw : FnScope ["_law_script", "_law_pen_here", "_law_lap", "_law_many", "_law_one", "_law_other", "_law_whole_here", "_law_factor_here", "_law_far", "_law_first", "_law_second"] ["_law_script"] (defScope sLaw) := ⟨rfl, rfl, rfl, by decide +kernel, rfl, by decide +kernel, by decide +kernel⟩
theorem ok_law {f : Addr} {fd : FuncData} (F : Fun K "law" "law" sLaw f fd) (B : TxtR mg) (R : Rat P w K mg base cB cN C fI)
    (G1 : FnOk P w K mg base CX0 1 f1 d1 ["_law_script"] (spPen K)) (g1 : mg "_law_pen" = some (.ref f1)) (k1 : PySem.W.keepIn K (.ref f1) = true) (b1 : Binds K d1 ["_law_script"] [])
    (G2 : FnOk P w K mg base CX0 1 f2 d2 ["_law_pen_here", "_law_many"] spDraw) (g2 : mg "_law_draw" = some (.ref f2)) (k2 : PySem.W.keepIn K (.ref f2) = true) (b2 : Binds K d2 ["_law_pen_here", "_law_many"] [])
    (G3 : FnOk P w K mg base CX0 2 f3 d3 ["_law_above", "_law_below"] spLowest) (g3 : mg "_law_lowest" = some (.ref f3)) (k3 : PySem.W.keepIn K (.ref f3) = true) (b3 : Binds K d3 ["_law_above", "_law_below"] [])
    (G4 : FnOk P w K mg base CX0 3 f4 d4 ["_law_pen_here"] spWhole) (g4 : mg "_law_whole" = some (.ref f4)) (k4 : PySem.W.keepIn K (.ref f4) = true) (b4 : Binds K d4 ["_law_pen_here"] [])
    (G5 : FnOk P w K mg base CX0 4 f5 d5 ["_law_pen_here", "_law_one"] spBeside) (g5 : mg "_law_beside" = some (.ref f5)) (k5 : PySem.W.keepIn K (.ref f5) = true) (b5 : Binds K d5 ["_law_pen_here", "_law_one"] [])
    (G6 : FnOk P w K mg base CX0 4 f6 d6 ["_law_pen_here"] spFactor) (g6 : mg "_law_factor" = some (.ref f6)) (k6 : PySem.W.keepIn K (.ref f6) = true) (b6 : Binds K d6 ["_law_pen_here"] [])
    (G7 : FnOk P w K mg base CX0 2 f7 d7 ["_law_told", "_law_due"] (spIs C)) (g7 : mg "_law_is" = some (.ref f7)) (k7 : PySem.W.keepIn K (.ref f7) = true) (b7 : Binds K d7 ["_law_told", "_law_due"] [])
    (G8 : FnOk P w K mg base CX0 10 f8 d8 ["_law_first", "_law_second", "_law_whole_here", "_law_one", "_law_other"] (spSums C)) (g8 : mg "_law_sums_right" = some (.ref f8)) (k8 : PySem.W.keepIn K (.ref f8) = true) (b8 : Binds K d8 ["_law_first", "_law_second", "_law_whole_here", "_law_one", "_law_other"] [])
    (G9 : FnOk P w K mg base CX0 10 f9 d9 ["_law_first", "_law_second", "_law_whole_here", "_law_one", "_law_other"] (spOrder C)) (g9 : mg "_law_order_right" = some (.ref f9)) (k9 : PySem.W.keepIn K (.ref f9) = true) (b9 : Binds K d9 ["_law_first", "_law_second", "_law_whole_here", "_law_one", "_law_other"] [])
    (G10 : FnOk P w K mg base CX0 12 f10 d10 ["_law_first", "_law_one", "_law_many"] (spPowR C T)) (g10 : mg "_law_powers_right" = some (.ref f10)) (k10 : PySem.W.keepIn K (.ref f10) = true) (b10 : Binds K d10 ["_law_first", "_law_one", "_law_many"] [])
    (G11 : FnOk P w K mg base CX0 13 f11 d11 ["_law_pen_here", "_law_first", "_law_whole_here"] (spRefR C T)) (g11 : mg "_law_refusals_right" = some (.ref f11)) (k11 : PySem.W.keepIn K (.ref f11) = true) (b11 : Binds K d11 ["_law_pen_here", "_law_first", "_law_whole_here"] []) :
    FnOk P w K mg base CX0 14 f fd ["_law_script"] (spLaw K T) := by
  refine F.ok scLaw (fun vs H Q E h => ?_) (fun cdv A outer s H vs Q E hr h => ?_)
  · obtain ⟨a, ns, rfl, _⟩ := h
    rfl
  · obtain ⟨a, ns, rfl, hS, hl, hT, k⟩ := h
    have nd := scLaw.nd
    have q1 : Room 1 _ := hr.mono (by decide)
    have q2 : Room 2 _ := hr.mono (by decide)
    have q3 : Room 3 _ := hr.mono (by decide)
    have q4 : Room 4 _ := hr.mono (by decide)
    have q5 : Room 5 _ := hr.mono (by decide)
    have q10 : Room 10 _ := hr.mono (by decide)
    have q12 : Room 12 _ := hr.mono (by decide)
    refine ⟨_, pss_cons (ps_set (i := 1) nd rfl (Or.inl rfl) (pe_call G1 q1 (by rfl) g1 k1 b1 .nil pass0 (pa_cons (pv 0) pa_nil)))
      (pss_cons (ps_for PassesOwn.never rfl (pi_range1 rfl B.range (pa_cons (pe_op op_add pe_int (pe_callB (call_min2 rfl) (by rfl) B.min (by decide +kernel) (pa_cons pe_int (pa_cons (pe_callB call_len_seq (by rfl) B.len PySem.boot_len (pa_cons (pv 0) pa_nil)) pa_nil)))) pa_nil)) (pg_name (i := 2) nd rfl (Or.inl rfl))
        (pss_cons (ps_set (i := 3) nd rfl (Or.inl rfl) (pe_op op_sub (pe_call G2 q1 (by rfl) g2 k2 b2 .nil pass0 (pa_cons (pv 1) (pa_cons pe_int pa_nil))) pe_int))
        (pss_cons (ps_set (i := 4) nd rfl (Or.inl rfl) (pe_call G3 q2 (by rfl) g3 k3 b3 .nil pass0 (pa_cons (pe_call G4 q3 (by rfl) g4 k4 b4 .nil pass0 (pa_cons (pv 1) pa_nil)) (pa_cons (pe_op op_add pe_int (pe_callB call_abs (by rfl) B.abs (by decide +kernel) (pa_cons (pe_call G4 q3 (by rfl) g4 k4 b4 .nil pass0 (pa_cons (pv 1) pa_nil)) pa_nil))) pa_nil))))
        (pss_cons (ps_set (i := 5) nd rfl (Or.inl rfl) (pe_call G5 q4 (by rfl) g5 k5 b5 .nil pass0 (pa_cons (pv 1) (pa_cons (pv 4) pa_nil))))
        (pss_cons (ps_par3 (i := 6) (j := 7) (l := 8) (by rfl) nd rfl rfl rfl (by decide) (by decide) (by decide) rfl rfl rfl (pa_cons (pe_call G4 q3 (by rfl) g4 k4 b4 .nil pass0 (pa_cons (pv 1) pa_nil)) (pa_cons (pe_call G6 q4 (by rfl) g6 k6 b6 .nil pass0 (pa_cons (pv 1) pa_nil)) (pa_cons (pe_call G6 q4 (by rfl) g6 k6 b6 .nil pass0 (pa_cons (pv 1) pa_nil)) pa_nil))) (by rfl))
        (pss_cons (ps_set (i := 9) nd rfl (Or.inl rfl) (pe_rat2 (E := E0) R q5 passL (pe_op op_mulW (pe_ix ix_tup (pv 4) pe_int (fun _ _ => rfl)) (pv 7)) (pe_op op_mulW (pe_ix ix_tup (pv 4) pe_int (fun _ _ => rfl)) (pv 7))))
        (pss_cons (ps_set (i := 10) nd rfl (Or.inl rfl) (pe_rat2 (E := E0) R q5 passL (pe_op op_mulW (pe_ix ix_tup (pv 5) pe_int (fun _ _ => rfl)) (pv 8)) (pe_op op_mulW (pe_ix ix_tup (pv 5) pe_int (fun _ _ => rfl)) (pv 8))))
        (pss_cons (ps_if (PW.pt (pw_or (pt_not (pt_val (pe_call G7 q2 (by rfl) g7 k7 b7 .nil pass0 (pa_cons (pe_rat1 (E := E0) R q5 passL (pv 6)) (pa_cons (pe_tup (pa_cons (pv 6) (pa_cons pe_int pa_nil))) pa_nil))))) (pw_or1 (pt_not (pt_val (pe_call G8 q10 (by rfl) g8 k8 b8 .nil pass0 (pa_cons (pv 9) (pa_cons (pv 10) (pa_cons (pv 6) (pa_cons (pv 4) (pa_cons (pv 5) pa_nil)))))))))))
            (pss_one (ps_ret pe_bl)) pss_nil)
        (pss_cons (ps_if (PW.pt (pw_or (pt_not (pt_val (pe_call G9 q10 (by rfl) g9 k9 b9 .nil pass0 (pa_cons (pv 9) (pa_cons (pv 10) (pa_cons (pv 6) (pa_cons (pv 4) (pa_cons (pv 5) pa_nil)))))))) (pw_or1 (pt_not (pt_val (pe_call G10 q12 (by rfl) g10 k10 b10 .nil pass0 (pa_cons (pv 9) (pa_cons (pv 4) (pa_cons (pv 3) pa_nil)))))))))
            (pss_one (ps_ret pe_bl)) pss_nil)
        (pss_one (ps_if (PW.pt (pw_or (pt_not (pt_val (pe_call G11 hr (by rfl) g11 k11 b11 .nil pass0 (pa_cons (pv 1) (pa_cons (pv 9) (pa_cons (pv 6) pa_nil)))))) (pw_or (pt_not (pt_val (pe_call G7 q2 (by rfl) g7 k7 b7 .nil pass0 (pa_cons (pv 9) (pa_cons (pv 4) pa_nil))))) (pw_or1 (pt_not (pt_val (pe_call G7 q2 (by rfl) g7 k7 b7 .nil pass0 (pa_cons (pv 10) (pa_cons (pv 5) pa_nil)))))))))
            (pss_one (ps_ret pe_bl)) pss_nil)))))))))))
      (pss_one (ps_ret pe_bl))), ?_⟩
    have N84 : (10 : Nat) ^ 84 < 2 ^ 4000 := by decide +kernel
    have e1 : big1 = 10 ^ 84 + 1 := rfl
    have m1 : big1 < 2 ^ 1000 := by decide +kernel
    have m3 : big1 < 2 ^ 300 := by decide +kernel
    have m2 : big2 < 2 ^ 1000 := by decide +kernel
    have fitw : ∀ v : Int, v.natAbs ≤ 10 ^ 84 → Fit (v, 1) := fun v h => ⟨Nat.lt_of_le_of_lt h N84, by show (0 : Int) < 1; decide, Nat.one_lt_two_pow (by decide)⟩
    refine seq_by (fun σ' G => ∃ d c, σ' = [some (.ref a), some (.ref d), none, none, none, none, none, none, none, none, none] ∧ Same H G ∧ PenAt G d c 0 0 ns) (fun kk hK => ?_) ?_
    · exact ⟨_, rfl, a, ns, rfl, hS, hl, fun d c H1 _ _ s1 pn => hK _ _ ⟨d, c, rfl, s1, pn⟩⟩
    rintro σ' G ⟨d, c, rfl, z, pn⟩
    have len : ∀ L : Nat, ∃ m : Nat, (2 : Int) + (if ((L : Nat) : Int) < 3 then ((L : Nat) : Int) else 3) = (m : Int) ∧ m ≤ 5 := fun L => by
      by_cases h : L < 3
      · exact ⟨2 + L, by rw [if_pos (by omega)]; omega, by omega⟩
      · exact ⟨5, by rw [if_neg (by omega)]; rfl, by omega⟩
    obtain ⟨m, em, hm⟩ := len (ns.map V.int).length
    refine ⟨_, rfl, a, _, rfl, .inl (z.seq hS), _, _, rfl, _, _, rfl, rfl, ?_⟩
    refine ⟨_, congrArg (fun z => [V.int z]) em, by omega, by omega, ?_⟩
    refine for_range (lo := 0) (n := m) (fun i σ H' => ∃ o2 o3 o4 o5 o6 o7 o8 o9 o10 : Option V, σ = [some (.ref a), some (.ref d), o2, o3, o4, o5, o6, o7, o8, o9, o10] ∧ LapI T d c ns i H') ⟨none, none, none, none, none, none, none, none, none, rfl, ⟨0, 0, pn, by omega, by omega⟩, hT.ext z⟩ ?_ (fun σ H' _ => k H')
    clear z em pn
    rintro i σ H0 hi ⟨o2, o3, o4, o5, o6, o7, o8, o9, o10, rfl, ⟨s0, r0, pn, lo, hi0⟩, hT⟩
    dsimp only [gName]
    -- many
    refine seq_by (fun σ' G => ∃ (lap : V) (mn s r : Int), σ' = [some (.ref a), some (.ref d), some lap, some (.int mn), o4, o5, o6, o7, o8, o9, o10] ∧ mn.natAbs ≤ 9 ∧ PenAt G d c s r ns ∧ 0 ≤ s ∧ s ≤ s0 + 1 ∧ Tabs T G) (fun kk hK => ?_) ?_
    · refine ⟨_, rfl, d, c, s0, r0, 19, ns, rfl, pn, lo, by omega, hl, by decide, by decide, fun n s1 r1 H1 n0 n1 a1 a2 p1 b1 => ⟨_, _, rfl, rfl, ?_⟩⟩
      exact hK _ _ ⟨_, _, s1, r1, rfl, by omega, p1, a1, a2, tabs_but hT pn.dc b1⟩
    clear pn hT
    rintro σ' G ⟨lap, mn, s1, r1, rfl, hmn, pn, lo1, hi1, hT⟩
    -- one
    refine seq_by (fun σ' G => ∃ (t : Addr) (p : Int × Int) (s r : Int), σ' = [some (.ref a), some (.ref d), some lap, some (.int mn), some (.ref t), o5, o6, o7, o8, o9, o10] ∧ Drawn0 big1 p ∧ Pair G t p ∧ PenAt G d c s r ns ∧ 0 ≤ s ∧ s ≤ s0 + 50 ∧ Tabs T G) (fun kk hK => ?_) ?_
    · refine ⟨_, rfl, d, c, s1, r1, ns, rfl, pn, lo1, by omega, hl, fun v s2 r2 H2 hv a1 a2 p2 b2 => ?_⟩
      refine ⟨_, rfl, d, c, s2, r2, ns, rfl, p2, a1, by omega, hl, fun v2 s3 r3 H3 hv2 a3 a4 p3 b3 => ?_⟩
      refine ⟨_, rfl, _, _, rfl, rfl, ?_⟩
      rw [abs_cast]
      refine ⟨_, _, rfl, by omega, sz84 hv2, fun t H4 nt s4 pt => ?_⟩
      have hT := (tabs_but (tabs_but hT pn.dc b2) p2.dc b3).ext s4
      exact hK _ _ ⟨t, _, s3, r3, rfl, drawn_low (by omega) (by omega) (by omega), pt, p3.same s4, a3, by omega, hT⟩
    clear pn hT
    rintro σ' G ⟨t, p, s1, r1, rfl, dp, pt, pn, lo1, hi1, hT⟩
    -- other
    refine seq_by (fun σ' G => ∃ (u : Addr) (q : Int × Int) (s r : Int), σ' = [some (.ref a), some (.ref d), some lap, some (.int mn), some (.ref t), some (.ref u), o6, o7, o8, o9, o10] ∧ Drawn0 big2 q ∧ Pair G t p ∧ Pair G u q ∧ PenAt G d c s r ns ∧ 0 ≤ s ∧ s ≤ s0 + 100 ∧ Tabs T G) (fun kk hK => ?_) ?_
    · refine ⟨_, rfl, _, rfl, d, c, t, s1, r1, ns, p, rfl, pn, lo1, by omega, hl, pt, dp, fun u q s2 r2 H2 dq a1 a2 p2 b2 pu => ?_⟩
      exact hK _ _ ⟨u, q, s2, r2, rfl, dq, pt.but pn b2, pu, p2, a1, by omega, tabs_but hT pn.dc b2⟩
    clear pn hT pt
    rintro σ' G ⟨u, q, s1, r1, rfl, dq, pt, pu, pn, lo1, hi1, hT⟩
    -- the three numbers
    refine seq_by (fun σ' G => ∃ (wh fa fb s r : Int), σ' = [some (.ref a), some (.ref d), some lap, some (.int mn), some (.ref t), some (.ref u), some (.int wh), some (.int fa), some (.int fb), o9, o10] ∧ wh.natAbs ≤ 10 ^ 84 ∧ fa.natAbs ≤ 10 ^ 84 ∧ fa ≠ 0 ∧ fb.natAbs ≤ 10 ^ 84 ∧ fb ≠ 0 ∧ Pair G t p ∧ Pair G u q ∧ PenAt G d c s r ns ∧ 0 ≤ s ∧ s ≤ s0 + 200 ∧ Tabs T G) (fun kk hK => ?_) ?_
    · refine ⟨_, rfl, d, c, s1, r1, ns, rfl, pn, lo1, by omega, hl, fun wh s2 r2 H2 hw a1 a2 p2 b2 => ?_⟩
      refine ⟨_, rfl, d, c, s2, r2, ns, rfl, p2, a1, by omega, hl, fun fa s3 r3 H3 hfa fa0 a3 a4 p3 b3 => ?_⟩
      refine ⟨_, rfl, d, c, s3, r3, ns, rfl, p3, a3, by omega, hl, fun fb s4 r4 H4 hfb fb0 a5 a6 p4 b4 => ?_⟩
      refine ⟨_, _, _, rfl, ?_⟩
      exact hK _ _ ⟨wh, fa, fb, s4, r4, rfl, hw, hfa, fa0, hfb, fb0, ((pt.but pn b2).but p2 b3).but p3 b4, ((pu.but pn b2).but p2 b3).but p3 b4, p4, a5, by omega, tabs_but (tabs_but (tabs_but hT pn.dc b2) p2.dc b3) p3.dc b4⟩
    clear pn hT pt pu
    rintro σ' G ⟨wh, fa, fb, s1, r1, rfl, hw, hfa, fa0, hfb, fb0, pt, pu, pn, lo1, hi1, hT⟩
    have mp := sm_of dp m1
    have mq := sm_of dq m2
    have fp := mp.fit dp.l
    have fq := mq.fit dq.l
    have fw := fitw wh hw
    have la : fa.natAbs < 2 ^ 4000 := Nat.lt_of_le_of_lt hfa N84
    have lb : fb.natAbs < 2 ^ 4000 := Nat.lt_of_le_of_lt hfb N84
    -- the two Ratios
    refine seq_by (fun σ' G => ∃ (x dx : Addr), σ' = [some (.ref a), some (.ref d), some lap, some (.int mn), some (.ref t), some (.ref u), some (.int wh), some (.int fa), some (.int fb), some (.ref x), o10] ∧ G x = some (rat C dx p) ∧ Pair G t p ∧ Pair G u q ∧ PenAt G d c s1 r1 ns ∧ Tabs T G) (fun kk hK => ?_) ?_
    · refine ⟨_, rfl, t, _, _, _, rfl, rfl, SqT.of pt, rfl, _, rfl, p.1, fa, rfl, rfl, sz_mul fp.t la, ?_⟩
      refine ⟨_, rfl, t, _, _, _, rfl, rfl, SqT.of pt, rfl, _, rfl, p.2, fa, rfl, rfl, sz_mul fp.b la, ?_⟩
      refine .good _ _ rfl rfl (Int.mul_ne_zero (Int.ne_of_gt fp.pos) fa0) (sz_mulB fp.b la) fun x dx H1 nx sx ex => ?_
      rw [low_times dp.l fa0] at ex
      exact hK _ _ ⟨x, dx, rfl, ex, sx _ _ pt, sx _ _ pu, pn.same sx, hT.ext sx⟩
    clear pn hT pt pu
    rintro σ' G ⟨x, dx, rfl, ex, pt, pu, pn, hT⟩
    refine seq_by (fun σ' G => ∃ (y dy : Addr), σ' = [some (.ref a), some (.ref d), some lap, some (.int mn), some (.ref t), some (.ref u), some (.int wh), some (.int fa), some (.int fb), some (.ref x), some (.ref y)] ∧ G x = some (rat C dx p) ∧ G y = some (rat C dy q) ∧ Pair G t p ∧ Pair G u q ∧ PenAt G d c s1 r1 ns ∧ Tabs T G) (fun kk hK => ?_) ?_
    · refine ⟨_, rfl, u, _, _, _, rfl, rfl, SqT.of pu, rfl, _, rfl, q.1, fb, rfl, rfl, sz_mul fq.t lb, ?_⟩
      refine ⟨_, rfl, u, _, _, _, rfl, rfl, SqT.of pu, rfl, _, rfl, q.2, fb, rfl, rfl, sz_mul fq.b lb, ?_⟩
      refine .good _ _ rfl rfl (Int.mul_ne_zero (Int.ne_of_gt fq.pos) fb0) (sz_mulB fq.b lb) fun y dy H1 ny sy ey => ?_
      rw [low_times dq.l fb0] at ey
      exact hK _ _ ⟨y, dy, rfl, sy _ _ ex, ey, sy _ _ pt, sy _ _ pu, pn.same sy, hT.ext sy⟩
    clear pn hT pt pu ex
    rintro σ' G ⟨y, dy, rfl, ex, ey, pt, pu, pn, hT⟩
    -- Ratio(whole), the sums
    refine seq_by (fun σ' G' => σ' = [some (.ref a), some (.ref d), some lap, some (.int mn), some (.ref t), some (.ref u), some (.int wh), some (.int fa), some (.int fb), some (.ref x), some (.ref y)] ∧ Same G G') (fun kk hK => ?_) ?_
    · refine ⟨_, rfl, .good wh 1 rfl rfl (by decide) (by decide +kernel) fun x2 dx2 G1 nx sx e2 => ?_⟩
      rw [low_one] at e2
      refine ⟨_, rfl, by show 2 ≤ sizeLine; decide, fun tt nt => ?_⟩
      have st := Same.new (o := .tup [.int wh, .int 1]) (fun _ _ e => e : Same G1 G1) nt
      have z := sx.trans st
      refine ⟨x2, dx2, tt, _, (wh, 1), rfl, st _ _ e2, upd_same, _, rfl, ?_⟩
      rw [decide_eq_true rfl]
      refine ite2 (fun y => absurd y (by simp)) (fun _ => ?_)
      refine ⟨_, rfl, _, rfl, _, rfl, _, rfl, _, rfl, x, dx, y, dy, t, u, wh, p, q, rfl, z _ _ ex, z _ _ ey, z _ _ pt, z _ _ pu, fp, fq, dp.l, dq.l, fw, fun H' s' => ⟨_, rfl, ?_⟩⟩
      refine ite2 (fun y => absurd y (by simp)) (fun _ => ?_)
      exact hK _ _ ⟨rfl, z.trans s'⟩
    rintro σ' G1 ⟨rfl, z⟩
    have ex := z _ _ ex
    have ey := z _ _ ey
    have pt : Pair G1 t p := z _ _ pt
    have pu : Pair G1 u q := z _ _ pu
    have pn := pn.same z
    have hT := hT.ext z
    clear z
    -- order, powers
    refine seq_by (fun σ' G' => σ' = [some (.ref a), some (.ref d), some lap, some (.int mn), some (.ref t), some (.ref u), some (.int wh), some (.int fa), some (.int fb), some (.ref x), some (.ref y)] ∧ Left T G1 G') (fun kk hK => ?_) ?_
    · refine ⟨_, rfl, _, rfl, _, rfl, _, rfl, _, rfl, x, dx, y, dy, t, u, wh, p, q, rfl, ex, ey, pt, pu, mp, fq, dp.l, dq.l, fw, fun H2 z => ⟨_, rfl, ?_⟩⟩
      refine ite2 (fun y => absurd y (by simp)) (fun _ => ?_)
      refine ⟨_, rfl, _, rfl, _, rfl, x, dx, t, mn, p, rfl, z _ _ ex, z _ _ pt, Nat.lt_of_le_of_lt dp.t m3, Nat.lt_of_le_of_lt dp.b m3, dp.l, hmn, hT.ext z, fun H' l' => ⟨_, rfl, ?_⟩⟩
      refine ite2 (fun y => absurd y (by simp)) (fun _ => ?_)
      exact hK _ _ ⟨rfl, (Left.same hT z).trans l'⟩
    rintro σ' G2 ⟨rfl, L⟩
    have ex := L.rat ex
    have ey := L.rat ey
    have pt : Pair G2 t p := L.tup pt
    have pu : Pair G2 u q := L.tup pu
    have pn : PenAt G2 d c s1 r1 ns := ⟨L.e _ _ pn.dc (fun _ y => by cases y), L.e _ _ pn.ls (fun _ y => by cases y)⟩
    have hT := L.t
    have nx : x ≠ d := ne_of ex pn.dc (by intro z; cases z)
    have ny : y ≠ d := ne_of ey pn.dc (by intro z; cases z)
    have nt : t ≠ d := ne_of pt pn.dc (by intro z; cases z)
    have nu : u ≠ d := ne_of pu pn.dc (by intro z; cases z)
    clear L
    -- refusals, and the two as they were
    refine ⟨_, rfl, _, rfl, _, rfl, d, c, x, dx, wh, s1, r1, p, ns, rfl, pn, lo1, by omega, hl, ex, fp, fw, hT, fun s2 r2 H' lo2 hi2 pn2 bt => ⟨_, rfl, ?_⟩⟩
    have ex' : H' x = some (rat C dx p) := bt.e _ _ ex (fun _ y => by first | cases y | (unfold rat at y; cases y)) nx
    have ey' : H' y = some (rat C dy q) := bt.e _ _ ey (fun _ y => by first | cases y | (unfold rat at y; cases y)) ny
    have pt' : Pair H' t p := bt.e _ _ pt (fun _ y => by cases y) nt
    have pu' : Pair H' u q := bt.e _ _ pu (fun _ y => by cases y) nu
    refine ite2 (fun y => absurd y (by simp)) (fun _ => ?_)
    refine ⟨_, rfl, _, rfl, x, dx, t, p, p, rfl, ex', pt', _, rfl, ?_⟩
    rw [decide_eq_true rfl]
    refine ite2 (fun y => absurd y (by simp)) (fun _ => ?_)
    refine ⟨_, rfl, _, rfl, y, dy, u, q, q, rfl, ey', pu', _, rfl, ?_⟩
    rw [decide_eq_true rfl]
    refine ite2 (fun y => absurd y (by simp)) (fun _ => ?_)
    exact ⟨_, _, _, _, _, _, _, _, _, rfl, ⟨s2, r2, pn2, lo2, by omega⟩, bt.t⟩
end
end K03
end
section
set_option maxHeartbeats 0
set_option exponentiation.threshold 100000
namespace K03
open PySem PySem.Spec PyProof.Rows L2 LamX NdefX L3 TL HX
open He (ga ma)
def D_is_integer : He.DefD := ⟨("is_integer", none), "is_integer", "is_integer", defArgs sIsInt, defBody sIsInt, defScope sIsInt, [], []⟩
def D_need_integer : He.DefD := ⟨("need_integer", none), "need_integer", "need_integer", defArgs sNeed, defBody sNeed, defScope sNeed, [], []⟩
def D_looks_after : He.DefD := ⟨("looks_after", none), "looks_after", "looks_after", defArgs sLooks, defBody sLooks, defScope sLooks, [], []⟩
def D_powered : He.DefD := ⟨("powered", none), "powered", "powered", defArgs sPowd, defBody sPowd, defScope sPowd, [], []⟩
def D_as_ratio : He.DefD := ⟨("as_ratio", none), "as_ratio", "as_ratio", defArgs sAs, defBody sAs, defScope sAs, [], []⟩
def D_operand : He.DefD := ⟨("operand", none), "operand", "operand", defArgs sOpd, defBody sOpd, defScope sOpd, [], []⟩
def D_whole_text : He.DefD := ⟨("whole_text", none), "whole_text", "whole_text", defArgs sText, defBody sText, defScope sText, [], []⟩
def D__law_pen : He.DefD := ⟨("_law_pen", none), "_law_pen", "_law_pen", defArgs sPen, defBody sPen, defScope sPen, [], []⟩
def D__law_draw : He.DefD := ⟨("_law_draw", none), "_law_draw", "_law_draw", defArgs sDraw, defBody sDraw, defScope sDraw, [], []⟩
def D__law_pick : He.DefD := ⟨("_law_pick", none), "_law_pick", "_law_pick", defArgs sPick, defBody sPick, defScope sPick, [], []⟩
def D__law_wide : He.DefD := ⟨("_law_wide", none), "_law_wide", "_law_wide", defArgs sWide, defBody sWide, defScope sWide, [], []⟩
def D__law_gcd : He.DefD := ⟨("_law_gcd", none), "_law_gcd", "_law_gcd", defArgs sGcd, defBody sGcd, defScope sGcd, [], []⟩
def D__law_lowest : He.DefD := ⟨("_law_lowest", none), "_law_lowest", "_law_lowest", defArgs sLowest, defBody sLowest, defScope sLowest, [], []⟩
def D__law_plus : He.DefD := ⟨("_law_plus", none), "_law_plus", "_law_plus", defArgs sPlus, defBody sPlus, defScope sPlus, [], []⟩
def D__law_minus : He.DefD := ⟨("_law_minus", none), "_law_minus", "_law_minus", defArgs sMinus, defBody sMinus, defScope sMinus, [], []⟩
def D__law_times : He.DefD := ⟨("_law_times", none), "_law_times", "_law_times", defArgs sTimes, defBody sTimes, defScope sTimes, [], []⟩
def D__law_turn : He.DefD := ⟨("_law_turn", none), "_law_turn", "_law_turn", defArgs sTurn, defBody sTurn, defScope sTurn, [], []⟩
def D__law_int : He.DefD := ⟨("_law_int", none), "_law_int", "_law_int", defArgs sInt, defBody sInt, defScope sInt, [], []⟩
def D__law_is : He.DefD := ⟨("_law_is", none), "_law_is", "_law_is", defArgs sIs, defBody sIs, defScope sIs, [], []⟩
def D__law_alike : He.DefD := ⟨("_law_alike", none), "_law_alike", "_law_alike", defArgs sAlike, defBody sAlike, defScope sAlike, [], []⟩
def D__law_fault : He.DefD := ⟨("_law_fault", none), "_law_fault", "_law_fault", defArgs sFault, defBody sFault, defScope sFault, [], []⟩
def D__law_refused : He.DefD := ⟨("_law_refused", none), "_law_refused", "_law_refused", defArgs sRefd, defBody sRefd, defScope sRefd, [], []⟩
def D__law_whole : He.DefD := ⟨("_law_whole", none), "_law_whole", "_law_whole", defArgs sWhole, defBody sWhole, defScope sWhole, [], []⟩
def D__law_factor : He.DefD := ⟨("_law_factor", none), "_law_factor", "_law_factor", defArgs sFactor, defBody sFactor, defScope sFactor, [], []⟩
def D__law_beside : He.DefD := ⟨("_law_beside", none), "_law_beside", "_law_beside", defArgs sBeside, defBody sBeside, defScope sBeside, [], []⟩
def D__law_powered : He.DefD := ⟨("_law_powered", none), "_law_powered", "_law_powered", defArgs sPowered, defBody sPowered, defScope sPowered, [], []⟩
def D__law_sums_right : He.DefD := ⟨("_law_sums_right", none), "_law_sums_right", "_law_sums_right", defArgs sSums, defBody sSums, defScope sSums, [], []⟩
def D__law_sign : He.DefD := ⟨("_law_sign", none), "_law_sign", "_law_sign", defArgs sSgn, defBody sSgn, defScope sSgn, [], []⟩
def D__law_order_right : He.DefD := ⟨("_law_order_right", none), "_law_order_right", "_law_order_right", defArgs sOrder, defBody sOrder, defScope sOrder, [], []⟩
def D__law_powers_right : He.DefD := ⟨("_law_powers_right", none), "_law_powers_right", "_law_powers_right", defArgs sPowR, defBody sPowR, defScope sPowR, [], []⟩
def D__law_refusals_right : He.DefD := ⟨("_law_refusals_right", none), "_law_refusals_right", "_law_refusals_right", defArgs sRefR, defBody sRefR, defScope sRefR, [], []⟩
def D_law : He.DefD := ⟨("law", none), "law", "law", defArgs sLaw, defBody sLaw, defScope sLaw, [], []⟩
def D_BadValue___init__ : He.DefD := ⟨("BadValue", some "__init__"), "__init__", "BadValue.__init__", defArgs iBad, defBody iBad, defScope iBad, [], []⟩
def D_Ratio___init__ : He.DefD := ⟨("Ratio", some "__init__"), "__init__", "Ratio.__init__", defArgs sInit, defBody sInit, defScope sInit, [.int 1], []⟩
def D_Ratio___add__ : He.DefD := ⟨("Ratio", some "__add__"), "__add__", "Ratio.__add__", defArgs sAdd, defBody sAdd, defScope sAdd, [], []⟩
def D_Ratio___radd__ : He.DefD := ⟨("Ratio", some "__radd__"), "__radd__", "Ratio.__radd__", defArgs sRadd, defBody sRadd, defScope sRadd, [], []⟩
def D_Ratio___sub__ : He.DefD := ⟨("Ratio", some "__sub__"), "__sub__", "Ratio.__sub__", defArgs sSub, defBody sSub, defScope sSub, [], []⟩
def D_Ratio___rsub__ : He.DefD := ⟨("Ratio", some "__rsub__"), "__rsub__", "Ratio.__rsub__", defArgs sRsub, defBody sRsub, defScope sRsub, [], []⟩
def D_Ratio___mul__ : He.DefD := ⟨("Ratio", some "__mul__"), "__mul__", "Ratio.__mul__", defArgs sMul, defBody sMul, defScope sMul, [], []⟩
def D_Ratio___rmul__ : He.DefD := ⟨("Ratio", some "__rmul__"), "__rmul__", "Ratio.__rmul__", defArgs sRmul, defBody sRmul, defScope sRmul, [], []⟩
def D_Ratio___neg__ : He.DefD := ⟨("Ratio", some "__neg__"), "__neg__", "Ratio.__neg__", defArgs sNeg, defBody sNeg, defScope sNeg, [], []⟩
def D_Ratio_inverse : He.DefD := ⟨("Ratio", some "inverse"), "inverse", "Ratio.inverse", defArgs sInv, defBody sInv, defScope sInv, [], []⟩
def D_Ratio_sign : He.DefD := ⟨("Ratio", some "sign"), "sign", "Ratio.sign", defArgs sSign, defBody sSign, defScope sSign, [], []⟩
def D_Ratio_size : He.DefD := ⟨("Ratio", some "size"), "size", "Ratio.size", defArgs sSize, defBody sSize, defScope sSize, [], []⟩
def D_Ratio_floor : He.DefD := ⟨("Ratio", some "floor"), "floor", "Ratio.floor", defArgs sFloor, defBody sFloor, defScope sFloor, [], []⟩
def D_Ratio_compare : He.DefD := ⟨("Ratio", some "compare"), "compare", "Ratio.compare", defArgs sComp, defBody sComp, defScope sComp, [], []⟩
def D_Ratio_power : He.DefD := ⟨("Ratio", some "power"), "power", "Ratio.power", defArgs sPower, defBody sPower, defScope sPower, [], []⟩
def D_Ratio___eq__ : He.DefD := ⟨("Ratio", some "__eq__"), "__eq__", "Ratio.__eq__", defArgs sEq, defBody sEq, defScope sEq, [], []⟩
def D_Ratio___str__ : He.DefD := ⟨("Ratio", some "__str__"), "__str__", "Ratio.__str__", defArgs sStr, defBody sStr, defScope sStr, [], []⟩
def fn : List He.DefD := [D_is_integer, D_need_integer, D_looks_after, D_powered, D_as_ratio, D_operand, D_whole_text, D__law_pen, D__law_draw, D__law_pick, D__law_wide, D__law_gcd, D__law_lowest, D__law_plus, D__law_minus, D__law_times, D__law_turn, D__law_int, D__law_is, D__law_alike, D__law_fault, D__law_refused, D__law_whole, D__law_factor, D__law_beside, D__law_powered, D__law_sums_right, D__law_sign, D__law_order_right, D__law_powers_right, D__law_refusals_right, D_law, D_BadValue___init__, D_Ratio___init__, D_Ratio___add__, D_Ratio___radd__, D_Ratio___sub__, D_Ratio___rsub__, D_Ratio___mul__, D_Ratio___rmul__, D_Ratio___neg__, D_Ratio_inverse, D_Ratio_sign, D_Ratio_size, D_Ratio_floor, D_Ratio_compare, D_Ratio_power, D_Ratio___eq__, D_Ratio___str__]
def fa0 : List He.Fa := [.glo "is_integer", .glo "need_integer", .glo "looks_after", .glo "powered", .glo "as_ratio", .glo "operand", .glo "whole_text", .glo "_law_pen", .glo "_law_draw", .glo "_law_pick", .glo "_law_wide", .glo "_law_gcd"]
def fa1 : List He.Fa := [.glo "_law_lowest", .glo "_law_plus", .glo "_law_minus", .glo "_law_times", .glo "_law_turn", .glo "_law_int", .glo "_law_is", .glo "_law_alike", .glo "_law_fault", .glo "_law_refused", .glo "_law_whole", .glo "_law_factor"]
def fa2 : List He.Fa := [.glo "_law_beside", .glo "_law_powered", .glo "_law_sums_right", .glo "_law_sign", .glo "_law_order_right", .glo "_law_powers_right", .glo "_law_refusals_right", .glo "law", .glo "BadValue", .glo "NoDivisor", .glo "Mark", .glo "Ratio"]
def fa3 : List He.Fa := [.free "int", .free "bool", .free "isinstance", .free "abs", .free "str", .free "list", .free "len", .free "range", .free "min", .free "all", .free "getattr", .int "GROUP" (10 ^ 60)]
def fa4 : List He.Fa := [.cls "Ratio", .noat "Ratio" "top", .noat "Ratio" "bottom", .mkr "Ratio", .meth "Ratio" "__add__", .meth "Ratio" "__radd__", .meth "Ratio" "__sub__", .meth "Ratio" "__rsub__", .meth "Ratio" "__mul__", .meth "Ratio" "__rmul__", .meth "Ratio" "__neg__", .meth "Ratio" "inverse"]
def fa5 : List He.Fa := [.meth "Ratio" "sign", .meth "Ratio" "size", .meth "Ratio" "floor", .meth "Ratio" "compare", .meth "Ratio" "power", .meth "Ratio" "__eq__", .meth "Ratio" "__str__", .exm "BadValue" "BadValue" true, .exm "NoDivisor" "BadValue" false, .exm "NoDivisor" "NoDivisor" true]
def fa : List He.Fa := fa0 ++ (fa1 ++ (fa2 ++ (fa3 ++ (fa4 ++ (fa5)))))
def pPow : He.Defn := ("_law_powers_right", none)
def pRef : He.Defn := ("_law_refusals_right", none)
def tf : List He.Defn := [pPow, pRef]
def exB (K : PySem.W.Frag) : Bool := oneB K (ga K "BadValue") "value" && (bareB K (ga K "NoDivisor") && (top1B K (ga K "Ratio") && (tyB K (ga K "Ratio") && (top1B K (ga K "Mark") && (eqV (PySem.W.typeIn K (.ref (ga K "Mark"))) (some (.type "type")) && (bltB K "gcd" "math.gcd" && !Nat.beq (He.cT K pPow).2 (He.cT K pRef).2))))))
def names0 : List Str := ["StreamError", "BadValue", "NoDivisor", "is_integer", "need_integer", "Mark", "looks_after", "powered", "GROUP", "Ratio", "as_ratio", "operand"]
def names1 : List Str := ["whole_text", "_law_pen", "_law_draw", "_law_pick", "_law_wide", "_law_gcd", "_law_lowest", "_law_plus", "_law_minus", "_law_times", "_law_turn", "_law_int"]
def names2 : List Str := ["_law_is", "_law_alike", "_law_fault", "_law_refused", "_law_whole", "_law_factor", "_law_beside", "_law_powered", "_law_sums_right", "_law_sign", "_law_order_right", "_law_powers_right"]
def names3 : List Str := ["_law_refusals_right"]
def names : List Str := names0 ++ (names1 ++ (names2 ++ (names3)))
abbrev R : PySem.W.OpenRow := PySem.W.OpenLaw.row PySem.Challenge.rw_allstreams_k03_ratios
abbrev hk : PySem.W.Hook := He.hookX 4 fa fn [] tf exB
def ob (s : PySem.W.SharedT) : He.AlX := He.obsX 4 fa fn [] tf exB (HandSHeadRun.getT s)
theorem ob_eq (s : PySem.W.SharedT) : ob s = hk.obs s.abs := He.obsX_eq (HandSHeadRun.getT_eq s)
theorem run (w : World) : HandSHeadRun.RunEqI R (PySem.W.view R.prog [0, 44]) hk ob 20000 names w := by
  unfold HandSHeadRun.RunEqI
  kernel_rfl
abbrev FnP (K : PySem.W.Frag) (x : Str) (st : Stmt) (fd : FuncData) : Prop := FunD K x x (defArgs st) (defBody st) (defScope st) [] [] (ga K x) fd
abbrev MthP (K : PySem.W.Frag) (C m q : Str) (st : Stmt) (ds : List V) (fd : FuncData) : Prop := FunD K m q (defArgs st) (defBody st) (defScope st) ds [] (ma K (ga K C) m) fd
theorem facts {w : World} {K : PySem.W.Frag} {h : Heap} {mg : Str → Option Value} {f : Addr} (X : K.In h) (G : h.Ns mainGlobals mg) (hfa : mg ("law" : Str) = some (.ref f)) (c : He.SaysX fa fn [] tf exB w h K) : LawAtS PySem.Challenge.rw_allstreams_k03_ratios w K CX0 14 63 "_law_script" mg f h := by
  obtain ⟨dis_integer, Fis_integer⟩ : ∃ fd, FnP K "is_integer" sIsInt fd := c.t.d.def_ 0 (d := D_is_integer) rfl
  have gis_integer : mg "is_integer" = some (.ref (ga K "is_integer")) := He.glo_ok X G (c.t.d.fact 0 (f := .glo "is_integer") rfl)
  have bis_integer : Binds K dis_integer ["value"] [] := Fis_integer.bindsN (ps := ["value"]) fun _ _ _ _ _ _ us hl => match us, hl with | [_], _ => rfl
  obtain ⟨dneed_integer, Fneed_integer⟩ : ∃ fd, FnP K "need_integer" sNeed fd := c.t.d.def_ 1 (d := D_need_integer) rfl
  have gneed_integer : mg "need_integer" = some (.ref (ga K "need_integer")) := He.glo_ok X G (c.t.d.fact 1 (f := .glo "need_integer") rfl)
  have bneed_integer : Binds K dneed_integer ["value"] [] := Fneed_integer.bindsN (ps := ["value"]) fun _ _ _ _ _ _ us hl => match us, hl with | [_], _ => rfl
  obtain ⟨dlooks_after, Flooks_after⟩ : ∃ fd, FnP K "looks_after" sLooks fd := c.t.d.def_ 2 (d := D_looks_after) rfl
  have glooks_after : mg "looks_after" = some (.ref (ga K "looks_after")) := He.glo_ok X G (c.t.d.fact 2 (f := .glo "looks_after") rfl)
  have blooks_after : Binds K dlooks_after ["value", "below"] [] := Flooks_after.bindsN (ps := ["value", "below"]) fun _ _ _ _ _ _ us hl => match us, hl with | [_, _], _ => rfl
  obtain ⟨dpowered, Fpowered⟩ : ∃ fd, FnP K "powered" sPowd fd := c.t.d.def_ 3 (d := D_powered) rfl
  have gpowered : mg "powered" = some (.ref (ga K "powered")) := He.glo_ok X G (c.t.d.fact 3 (f := .glo "powered") rfl)
  have bpowered : Binds K dpowered ["base", "exponent", "one"] [] := Fpowered.bindsN (ps := ["base", "exponent", "one"]) fun _ _ _ _ _ _ us hl => match us, hl with | [_, _, _], _ => rfl
  obtain ⟨das_ratio, Fas_ratio⟩ : ∃ fd, FnP K "as_ratio" sAs fd := c.t.d.def_ 4 (d := D_as_ratio) rfl
  have gas_ratio : mg "as_ratio" = some (.ref (ga K "as_ratio")) := He.glo_ok X G (c.t.d.fact 4 (f := .glo "as_ratio") rfl)
  have bas_ratio : Binds K das_ratio ["value"] [] := Fas_ratio.bindsN (ps := ["value"]) fun _ _ _ _ _ _ us hl => match us, hl with | [_], _ => rfl
  obtain ⟨doperand, Foperand⟩ : ∃ fd, FnP K "operand" sOpd fd := c.t.d.def_ 5 (d := D_operand) rfl
  have goperand : mg "operand" = some (.ref (ga K "operand")) := He.glo_ok X G (c.t.d.fact 5 (f := .glo "operand") rfl)
  have boperand : Binds K doperand ["other"] [] := Foperand.bindsN (ps := ["other"]) fun _ _ _ _ _ _ us hl => match us, hl with | [_], _ => rfl
  obtain ⟨dwhole_text, Fwhole_text⟩ : ∃ fd, FnP K "whole_text" sText fd := c.t.d.def_ 6 (d := D_whole_text) rfl
  have gwhole_text : mg "whole_text" = some (.ref (ga K "whole_text")) := He.glo_ok X G (c.t.d.fact 6 (f := .glo "whole_text") rfl)
  have bwhole_text : Binds K dwhole_text ["number"] [] := Fwhole_text.bindsN (ps := ["number"]) fun _ _ _ _ _ _ us hl => match us, hl with | [_], _ => rfl
  obtain ⟨d_law_pen, F_law_pen⟩ : ∃ fd, FnP K "_law_pen" sPen fd := c.t.d.def_ 7 (d := D__law_pen) rfl
  have g_law_pen : mg "_law_pen" = some (.ref (ga K "_law_pen")) := He.glo_ok X G (c.t.d.fact 7 (f := .glo "_law_pen") rfl)
  have b_law_pen : Binds K d_law_pen ["_law_script"] [] := F_law_pen.bindsN (ps := ["_law_script"]) fun _ _ _ _ _ _ us hl => match us, hl with | [_], _ => rfl
  obtain ⟨d_law_draw, F_law_draw⟩ : ∃ fd, FnP K "_law_draw" sDraw fd := c.t.d.def_ 8 (d := D__law_draw) rfl
  have g_law_draw : mg "_law_draw" = some (.ref (ga K "_law_draw")) := He.glo_ok X G (c.t.d.fact 8 (f := .glo "_law_draw") rfl)
  have b_law_draw : Binds K d_law_draw ["_law_pen_here", "_law_many"] [] := F_law_draw.bindsN (ps := ["_law_pen_here", "_law_many"]) fun _ _ _ _ _ _ us hl => match us, hl with | [_, _], _ => rfl
  obtain ⟨d_law_pick, F_law_pick⟩ : ∃ fd, FnP K "_law_pick" sPick fd := c.t.d.def_ 9 (d := D__law_pick) rfl
  have g_law_pick : mg "_law_pick" = some (.ref (ga K "_law_pick")) := He.glo_ok X G (c.t.d.fact 9 (f := .glo "_law_pick") rfl)
  have b_law_pick : Binds K d_law_pick ["_law_pen_here", "_law_some"] [] := F_law_pick.bindsN (ps := ["_law_pen_here", "_law_some"]) fun _ _ _ _ _ _ us hl => match us, hl with | [_, _], _ => rfl
  obtain ⟨d_law_wide, F_law_wide⟩ : ∃ fd, FnP K "_law_wide" sWide fd := c.t.d.def_ 10 (d := D__law_wide) rfl
  have g_law_wide : mg "_law_wide" = some (.ref (ga K "_law_wide")) := He.glo_ok X G (c.t.d.fact 10 (f := .glo "_law_wide") rfl)
  have b_law_wide : Binds K d_law_wide ["_law_pen_here", "_law_pieces"] [] := F_law_wide.bindsN (ps := ["_law_pen_here", "_law_pieces"]) fun _ _ _ _ _ _ us hl => match us, hl with | [_, _], _ => rfl
  obtain ⟨d_law_gcd, F_law_gcd⟩ : ∃ fd, FnP K "_law_gcd" sGcd fd := c.t.d.def_ 11 (d := D__law_gcd) rfl
  have g_law_gcd : mg "_law_gcd" = some (.ref (ga K "_law_gcd")) := He.glo_ok X G (c.t.d.fact 11 (f := .glo "_law_gcd") rfl)
  have b_law_gcd : Binds K d_law_gcd ["_law_one", "_law_other"] [] := F_law_gcd.bindsN (ps := ["_law_one", "_law_other"]) fun _ _ _ _ _ _ us hl => match us, hl with | [_, _], _ => rfl
  obtain ⟨d_law_lowest, F_law_lowest⟩ : ∃ fd, FnP K "_law_lowest" sLowest fd := c.t.d.def_ 12 (d := D__law_lowest) rfl
  have g_law_lowest : mg "_law_lowest" = some (.ref (ga K "_law_lowest")) := He.glo_ok X G (c.t.d.fact 12 (f := .glo "_law_lowest") rfl)
  have b_law_lowest : Binds K d_law_lowest ["_law_above", "_law_below"] [] := F_law_lowest.bindsN (ps := ["_law_above", "_law_below"]) fun _ _ _ _ _ _ us hl => match us, hl with | [_, _], _ => rfl
  obtain ⟨d_law_plus, F_law_plus⟩ : ∃ fd, FnP K "_law_plus" sPlus fd := c.t.d.def_ 13 (d := D__law_plus) rfl
  have g_law_plus : mg "_law_plus" = some (.ref (ga K "_law_plus")) := He.glo_ok X G (c.t.d.fact 13 (f := .glo "_law_plus") rfl)
  have b_law_plus : Binds K d_law_plus ["_law_one", "_law_other"] [] := F_law_plus.bindsN (ps := ["_law_one", "_law_other"]) fun _ _ _ _ _ _ us hl => match us, hl with | [_, _], _ => rfl
  obtain ⟨d_law_minus, F_law_minus⟩ : ∃ fd, FnP K "_law_minus" sMinus fd := c.t.d.def_ 14 (d := D__law_minus) rfl
  have g_law_minus : mg "_law_minus" = some (.ref (ga K "_law_minus")) := He.glo_ok X G (c.t.d.fact 14 (f := .glo "_law_minus") rfl)
  have b_law_minus : Binds K d_law_minus ["_law_one"] [] := F_law_minus.bindsN (ps := ["_law_one"]) fun _ _ _ _ _ _ us hl => match us, hl with | [_], _ => rfl
  obtain ⟨d_law_times, F_law_times⟩ : ∃ fd, FnP K "_law_times" sTimes fd := c.t.d.def_ 15 (d := D__law_times) rfl
  have g_law_times : mg "_law_times" = some (.ref (ga K "_law_times")) := He.glo_ok X G (c.t.d.fact 15 (f := .glo "_law_times") rfl)
  have b_law_times : Binds K d_law_times ["_law_one", "_law_other"] [] := F_law_times.bindsN (ps := ["_law_one", "_law_other"]) fun _ _ _ _ _ _ us hl => match us, hl with | [_, _], _ => rfl
  obtain ⟨d_law_turn, F_law_turn⟩ : ∃ fd, FnP K "_law_turn" sTurn fd := c.t.d.def_ 16 (d := D__law_turn) rfl
  have g_law_turn : mg "_law_turn" = some (.ref (ga K "_law_turn")) := He.glo_ok X G (c.t.d.fact 16 (f := .glo "_law_turn") rfl)
  have b_law_turn : Binds K d_law_turn ["_law_one"] [] := F_law_turn.bindsN (ps := ["_law_one"]) fun _ _ _ _ _ _ us hl => match us, hl with | [_], _ => rfl
  obtain ⟨d_law_int, F_law_int⟩ : ∃ fd, FnP K "_law_int" sInt fd := c.t.d.def_ 17 (d := D__law_int) rfl
  have g_law_int : mg "_law_int" = some (.ref (ga K "_law_int")) := He.glo_ok X G (c.t.d.fact 17 (f := .glo "_law_int") rfl)
  have b_law_int : Binds K d_law_int ["_law_told", "_law_due"] [] := F_law_int.bindsN (ps := ["_law_told", "_law_due"]) fun _ _ _ _ _ _ us hl => match us, hl with | [_, _], _ => rfl
  obtain ⟨d_law_is, F_law_is⟩ : ∃ fd, FnP K "_law_is" sIs fd := c.t.d.def_ 18 (d := D__law_is) rfl
  have g_law_is : mg "_law_is" = some (.ref (ga K "_law_is")) := He.glo_ok X G (c.t.d.fact 18 (f := .glo "_law_is") rfl)
  have b_law_is : Binds K d_law_is ["_law_told", "_law_due"] [] := F_law_is.bindsN (ps := ["_law_told", "_law_due"]) fun _ _ _ _ _ _ us hl => match us, hl with | [_, _], _ => rfl
  obtain ⟨d_law_alike, F_law_alike⟩ : ∃ fd, FnP K "_law_alike" sAlike fd := c.t.d.def_ 19 (d := D__law_alike) rfl
  have g_law_alike : mg "_law_alike" = some (.ref (ga K "_law_alike")) := He.glo_ok X G (c.t.d.fact 19 (f := .glo "_law_alike") rfl)
  have b_law_alike : Binds K d_law_alike ["_law_told", "_law_due"] [] := F_law_alike.bindsN (ps := ["_law_told", "_law_due"]) fun _ _ _ _ _ _ us hl => match us, hl with | [_, _], _ => rfl
  obtain ⟨d_law_fault, F_law_fault⟩ : ∃ fd, FnP K "_law_fault" sFault fd := c.t.d.def_ 20 (d := D__law_fault) rfl
  have g_law_fault : mg "_law_fault" = some (.ref (ga K "_law_fault")) := He.glo_ok X G (c.t.d.fact 20 (f := .glo "_law_fault") rfl)
  have b_law_fault : Binds K d_law_fault ["_law_deed"] [] := F_law_fault.bindsN (ps := ["_law_deed"]) fun _ _ _ _ _ _ us hl => match us, hl with | [_], _ => rfl
  obtain ⟨d_law_refused, F_law_refused⟩ : ∃ fd, FnP K "_law_refused" sRefd fd := c.t.d.def_ 21 (d := D__law_refused) rfl
  have g_law_refused : mg "_law_refused" = some (.ref (ga K "_law_refused")) := He.glo_ok X G (c.t.d.fact 21 (f := .glo "_law_refused") rfl)
  have b_law_refused : Binds K d_law_refused ["_law_deed", "_law_value"] [] := F_law_refused.bindsN (ps := ["_law_deed", "_law_value"]) fun _ _ _ _ _ _ us hl => match us, hl with | [_, _], _ => rfl
  obtain ⟨d_law_whole, F_law_whole⟩ : ∃ fd, FnP K "_law_whole" sWhole fd := c.t.d.def_ 22 (d := D__law_whole) rfl
  have g_law_whole : mg "_law_whole" = some (.ref (ga K "_law_whole")) := He.glo_ok X G (c.t.d.fact 22 (f := .glo "_law_whole") rfl)
  have b_law_whole : Binds K d_law_whole ["_law_pen_here"] [] := F_law_whole.bindsN (ps := ["_law_pen_here"]) fun _ _ _ _ _ _ us hl => match us, hl with | [_], _ => rfl
  obtain ⟨d_law_factor, F_law_factor⟩ : ∃ fd, FnP K "_law_factor" sFactor fd := c.t.d.def_ 23 (d := D__law_factor) rfl
  have g_law_factor : mg "_law_factor" = some (.ref (ga K "_law_factor")) := He.glo_ok X G (c.t.d.fact 23 (f := .glo "_law_factor") rfl)
  have b_law_factor : Binds K d_law_factor ["_law_pen_here"] [] := F_law_factor.bindsN (ps := ["_law_pen_here"]) fun _ _ _ _ _ _ us hl => match us, hl with | [_], _ => rfl
  obtain ⟨d_law_beside, F_law_beside⟩ : ∃ fd, FnP K "_law_beside" sBeside fd := c.t.d.def_ 24 (d := D__law_beside) rfl
  have g_law_beside : mg "_law_beside" = some (.ref (ga K "_law_beside")) := He.glo_ok X G (c.t.d.fact 24 (f := .glo "_law_beside") rfl)
  have b_law_beside : Binds K d_law_beside ["_law_pen_here", "_law_one"] [] := F_law_beside.bindsN (ps := ["_law_pen_here", "_law_one"]) fun _ _ _ _ _ _ us hl => match us, hl with | [_, _], _ => rfl
  obtain ⟨d_law_powered, F_law_powered⟩ : ∃ fd, FnP K "_law_powered" sPowered fd := c.t.d.def_ 25 (d := D__law_powered) rfl
  have g_law_powered : mg "_law_powered" = some (.ref (ga K "_law_powered")) := He.glo_ok X G (c.t.d.fact 25 (f := .glo "_law_powered") rfl)
  have b_law_powered : Binds K d_law_powered ["_law_one", "_law_many"] [] := F_law_powered.bindsN (ps := ["_law_one", "_law_many"]) fun _ _ _ _ _ _ us hl => match us, hl with | [_, _], _ => rfl
  obtain ⟨d_law_sums_right, F_law_sums_right⟩ : ∃ fd, FnP K "_law_sums_right" sSums fd := c.t.d.def_ 26 (d := D__law_sums_right) rfl
  have g_law_sums_right : mg "_law_sums_right" = some (.ref (ga K "_law_sums_right")) := He.glo_ok X G (c.t.d.fact 26 (f := .glo "_law_sums_right") rfl)
  have b_law_sums_right : Binds K d_law_sums_right ["_law_first", "_law_second", "_law_whole_here", "_law_one", "_law_other"] [] := F_law_sums_right.bindsN (ps := ["_law_first", "_law_second", "_law_whole_here", "_law_one", "_law_other"]) fun _ _ _ _ _ _ us hl => match us, hl with | [_, _, _, _, _], _ => rfl
  obtain ⟨d_law_sign, F_law_sign⟩ : ∃ fd, FnP K "_law_sign" sSgn fd := c.t.d.def_ 27 (d := D__law_sign) rfl
  have g_law_sign : mg "_law_sign" = some (.ref (ga K "_law_sign")) := He.glo_ok X G (c.t.d.fact 27 (f := .glo "_law_sign") rfl)
  have b_law_sign : Binds K d_law_sign ["_law_number"] [] := F_law_sign.bindsN (ps := ["_law_number"]) fun _ _ _ _ _ _ us hl => match us, hl with | [_], _ => rfl
  obtain ⟨d_law_order_right, F_law_order_right⟩ : ∃ fd, FnP K "_law_order_right" sOrder fd := c.t.d.def_ 28 (d := D__law_order_right) rfl
  have g_law_order_right : mg "_law_order_right" = some (.ref (ga K "_law_order_right")) := He.glo_ok X G (c.t.d.fact 28 (f := .glo "_law_order_right") rfl)
  have b_law_order_right : Binds K d_law_order_right ["_law_first", "_law_second", "_law_whole_here", "_law_one", "_law_other"] [] := F_law_order_right.bindsN (ps := ["_law_first", "_law_second", "_law_whole_here", "_law_one", "_law_other"]) fun _ _ _ _ _ _ us hl => match us, hl with | [_, _, _, _, _], _ => rfl
  obtain ⟨d_law_powers_right, F_law_powers_right⟩ : ∃ fd, FnP K "_law_powers_right" sPowR fd := c.t.d.def_ 29 (d := D__law_powers_right) rfl
  have g_law_powers_right : mg "_law_powers_right" = some (.ref (ga K "_law_powers_right")) := He.glo_ok X G (c.t.d.fact 29 (f := .glo "_law_powers_right") rfl)
  have b_law_powers_right : Binds K d_law_powers_right ["_law_first", "_law_one", "_law_many"] [] := F_law_powers_right.bindsN (ps := ["_law_first", "_law_one", "_law_many"]) fun _ _ _ _ _ _ us hl => match us, hl with | [_, _, _], _ => rfl
  obtain ⟨d_law_refusals_right, F_law_refusals_right⟩ : ∃ fd, FnP K "_law_refusals_right" sRefR fd := c.t.d.def_ 30 (d := D__law_refusals_right) rfl
  have g_law_refusals_right : mg "_law_refusals_right" = some (.ref (ga K "_law_refusals_right")) := He.glo_ok X G (c.t.d.fact 30 (f := .glo "_law_refusals_right") rfl)
  have b_law_refusals_right : Binds K d_law_refusals_right ["_law_pen_here", "_law_first", "_law_whole_here"] [] := F_law_refusals_right.bindsN (ps := ["_law_pen_here", "_law_first", "_law_whole_here"]) fun _ _ _ _ _ _ us hl => match us, hl with | [_, _, _], _ => rfl
  obtain ⟨dlaw, Flaw⟩ : ∃ fd, FnP K "law" sLaw fd := c.t.d.def_ 31 (d := D_law) rfl
  have glaw : mg "law" = some (.ref (ga K "law")) := He.glo_ok X G (c.t.d.fact 31 (f := .glo "law") rfl)
  have blaw : Binds K dlaw ["_law_script"] [] := Flaw.bindsN (ps := ["_law_script"]) fun _ _ _ _ _ _ us hl => match us, hl with | [_], _ => rfl
  obtain ⟨dBadValue___init__, FBadValue___init__⟩ : ∃ fd, MthP K "BadValue" "__init__" "BadValue.__init__" iBad [] fd := c.t.d.def_ 32 (d := D_BadValue___init__) rfl
  obtain ⟨dRatio___init__, FRatio___init__⟩ : ∃ fd, MthP K "Ratio" "__init__" "Ratio.__init__" sInit [.int 1] fd := c.t.d.def_ 33 (d := D_Ratio___init__) rfl
  obtain ⟨dRatio___add__, FRatio___add__⟩ : ∃ fd, MthP K "Ratio" "__add__" "Ratio.__add__" sAdd [] fd := c.t.d.def_ 34 (d := D_Ratio___add__) rfl
  have MRatio___add__ : Meth K (ga K "Ratio") "__add__" (ma K (ga K "Ratio") "__add__") := He.meth_ok (c.t.d.fact 52 (f := .meth "Ratio" "__add__") rfl)
  have bRatio___add__ : Binds K dRatio___add__ ["self", "other"] [] := FRatio___add__.bindsN (ps := ["self", "other"]) fun _ _ _ _ _ _ us hl => match us, hl with | [_, _], _ => rfl
  obtain ⟨dRatio___radd__, FRatio___radd__⟩ : ∃ fd, MthP K "Ratio" "__radd__" "Ratio.__radd__" sRadd [] fd := c.t.d.def_ 35 (d := D_Ratio___radd__) rfl
  have MRatio___radd__ : Meth K (ga K "Ratio") "__radd__" (ma K (ga K "Ratio") "__radd__") := He.meth_ok (c.t.d.fact 53 (f := .meth "Ratio" "__radd__") rfl)
  have bRatio___radd__ : Binds K dRatio___radd__ ["self", "other"] [] := FRatio___radd__.bindsN (ps := ["self", "other"]) fun _ _ _ _ _ _ us hl => match us, hl with | [_, _], _ => rfl
  obtain ⟨dRatio___sub__, FRatio___sub__⟩ : ∃ fd, MthP K "Ratio" "__sub__" "Ratio.__sub__" sSub [] fd := c.t.d.def_ 36 (d := D_Ratio___sub__) rfl
  have MRatio___sub__ : Meth K (ga K "Ratio") "__sub__" (ma K (ga K "Ratio") "__sub__") := He.meth_ok (c.t.d.fact 54 (f := .meth "Ratio" "__sub__") rfl)
  have bRatio___sub__ : Binds K dRatio___sub__ ["self", "other"] [] := FRatio___sub__.bindsN (ps := ["self", "other"]) fun _ _ _ _ _ _ us hl => match us, hl with | [_, _], _ => rfl
  obtain ⟨dRatio___rsub__, FRatio___rsub__⟩ : ∃ fd, MthP K "Ratio" "__rsub__" "Ratio.__rsub__" sRsub [] fd := c.t.d.def_ 37 (d := D_Ratio___rsub__) rfl
  have MRatio___rsub__ : Meth K (ga K "Ratio") "__rsub__" (ma K (ga K "Ratio") "__rsub__") := He.meth_ok (c.t.d.fact 55 (f := .meth "Ratio" "__rsub__") rfl)
  have bRatio___rsub__ : Binds K dRatio___rsub__ ["self", "other"] [] := FRatio___rsub__.bindsN (ps := ["self", "other"]) fun _ _ _ _ _ _ us hl => match us, hl with | [_, _], _ => rfl
  obtain ⟨dRatio___mul__, FRatio___mul__⟩ : ∃ fd, MthP K "Ratio" "__mul__" "Ratio.__mul__" sMul [] fd := c.t.d.def_ 38 (d := D_Ratio___mul__) rfl
  have MRatio___mul__ : Meth K (ga K "Ratio") "__mul__" (ma K (ga K "Ratio") "__mul__") := He.meth_ok (c.t.d.fact 56 (f := .meth "Ratio" "__mul__") rfl)
  have bRatio___mul__ : Binds K dRatio___mul__ ["self", "other"] [] := FRatio___mul__.bindsN (ps := ["self", "other"]) fun _ _ _ _ _ _ us hl => match us, hl with | [_, _], _ => rfl
  obtain ⟨dRatio___rmul__, FRatio___rmul__⟩ : ∃ fd, MthP K "Ratio" "__rmul__" "Ratio.__rmul__" sRmul [] fd := c.t.d.def_ 39 (d := D_Ratio___rmul__) rfl
  have MRatio___rmul__ : Meth K (ga K "Ratio") "__rmul__" (ma K (ga K "Ratio") "__rmul__") := He.meth_ok (c.t.d.fact 57 (f := .meth "Ratio" "__rmul__") rfl)
  have bRatio___rmul__ : Binds K dRatio___rmul__ ["self", "other"] [] := FRatio___rmul__.bindsN (ps := ["self", "other"]) fun _ _ _ _ _ _ us hl => match us, hl with | [_, _], _ => rfl
  obtain ⟨dRatio___neg__, FRatio___neg__⟩ : ∃ fd, MthP K "Ratio" "__neg__" "Ratio.__neg__" sNeg [] fd := c.t.d.def_ 40 (d := D_Ratio___neg__) rfl
  have MRatio___neg__ : Meth K (ga K "Ratio") "__neg__" (ma K (ga K "Ratio") "__neg__") := He.meth_ok (c.t.d.fact 58 (f := .meth "Ratio" "__neg__") rfl)
  have bRatio___neg__ : Binds K dRatio___neg__ ["self"] [] := FRatio___neg__.bindsN (ps := ["self"]) fun _ _ _ _ _ _ us hl => match us, hl with | [_], _ => rfl
  obtain ⟨dRatio_inverse, FRatio_inverse⟩ : ∃ fd, MthP K "Ratio" "inverse" "Ratio.inverse" sInv [] fd := c.t.d.def_ 41 (d := D_Ratio_inverse) rfl
  have MRatio_inverse : Meth K (ga K "Ratio") "inverse" (ma K (ga K "Ratio") "inverse") := He.meth_ok (c.t.d.fact 59 (f := .meth "Ratio" "inverse") rfl)
  have bRatio_inverse : Binds K dRatio_inverse ["self"] [] := FRatio_inverse.bindsN (ps := ["self"]) fun _ _ _ _ _ _ us hl => match us, hl with | [_], _ => rfl
  obtain ⟨dRatio_sign, FRatio_sign⟩ : ∃ fd, MthP K "Ratio" "sign" "Ratio.sign" sSign [] fd := c.t.d.def_ 42 (d := D_Ratio_sign) rfl
  have MRatio_sign : Meth K (ga K "Ratio") "sign" (ma K (ga K "Ratio") "sign") := He.meth_ok (c.t.d.fact 60 (f := .meth "Ratio" "sign") rfl)
  have bRatio_sign : Binds K dRatio_sign ["self"] [] := FRatio_sign.bindsN (ps := ["self"]) fun _ _ _ _ _ _ us hl => match us, hl with | [_], _ => rfl
  obtain ⟨dRatio_size, FRatio_size⟩ : ∃ fd, MthP K "Ratio" "size" "Ratio.size" sSize [] fd := c.t.d.def_ 43 (d := D_Ratio_size) rfl
  have MRatio_size : Meth K (ga K "Ratio") "size" (ma K (ga K "Ratio") "size") := He.meth_ok (c.t.d.fact 61 (f := .meth "Ratio" "size") rfl)
  have bRatio_size : Binds K dRatio_size ["self"] [] := FRatio_size.bindsN (ps := ["self"]) fun _ _ _ _ _ _ us hl => match us, hl with | [_], _ => rfl
  obtain ⟨dRatio_floor, FRatio_floor⟩ : ∃ fd, MthP K "Ratio" "floor" "Ratio.floor" sFloor [] fd := c.t.d.def_ 44 (d := D_Ratio_floor) rfl
  have MRatio_floor : Meth K (ga K "Ratio") "floor" (ma K (ga K "Ratio") "floor") := He.meth_ok (c.t.d.fact 62 (f := .meth "Ratio" "floor") rfl)
  have bRatio_floor : Binds K dRatio_floor ["self"] [] := FRatio_floor.bindsN (ps := ["self"]) fun _ _ _ _ _ _ us hl => match us, hl with | [_], _ => rfl
  obtain ⟨dRatio_compare, FRatio_compare⟩ : ∃ fd, MthP K "Ratio" "compare" "Ratio.compare" sComp [] fd := c.t.d.def_ 45 (d := D_Ratio_compare) rfl
  have MRatio_compare : Meth K (ga K "Ratio") "compare" (ma K (ga K "Ratio") "compare") := He.meth_ok (c.t.d.fact 63 (f := .meth "Ratio" "compare") rfl)
  have bRatio_compare : Binds K dRatio_compare ["self", "other"] [] := FRatio_compare.bindsN (ps := ["self", "other"]) fun _ _ _ _ _ _ us hl => match us, hl with | [_, _], _ => rfl
  obtain ⟨dRatio_power, FRatio_power⟩ : ∃ fd, MthP K "Ratio" "power" "Ratio.power" sPower [] fd := c.t.d.def_ 46 (d := D_Ratio_power) rfl
  have MRatio_power : Meth K (ga K "Ratio") "power" (ma K (ga K "Ratio") "power") := He.meth_ok (c.t.d.fact 64 (f := .meth "Ratio" "power") rfl)
  have bRatio_power : Binds K dRatio_power ["self", "exponent"] [] := FRatio_power.bindsN (ps := ["self", "exponent"]) fun _ _ _ _ _ _ us hl => match us, hl with | [_, _], _ => rfl
  obtain ⟨dRatio___eq__, FRatio___eq__⟩ : ∃ fd, MthP K "Ratio" "__eq__" "Ratio.__eq__" sEq [] fd := c.t.d.def_ 47 (d := D_Ratio___eq__) rfl
  have MRatio___eq__ : Meth K (ga K "Ratio") "__eq__" (ma K (ga K "Ratio") "__eq__") := He.meth_ok (c.t.d.fact 65 (f := .meth "Ratio" "__eq__") rfl)
  have bRatio___eq__ : Binds K dRatio___eq__ ["self", "other"] [] := FRatio___eq__.bindsN (ps := ["self", "other"]) fun _ _ _ _ _ _ us hl => match us, hl with | [_, _], _ => rfl
  obtain ⟨dRatio___str__, FRatio___str__⟩ : ∃ fd, MthP K "Ratio" "__str__" "Ratio.__str__" sStr [] fd := c.t.d.def_ 48 (d := D_Ratio___str__) rfl
  have MRatio___str__ : Meth K (ga K "Ratio") "__str__" (ma K (ga K "Ratio") "__str__") := He.meth_ok (c.t.d.fact 66 (f := .meth "Ratio" "__str__") rfl)
  have bRatio___str__ : Binds K dRatio___str__ ["self"] [] := FRatio___str__.bindsN (ps := ["self"]) fun _ _ _ _ _ _ us hl => match us, hl with | [_], _ => rfl
  obtain ⟨x1, y⟩ := He.ba c.more
  obtain ⟨x2, y⟩ := He.ba y
  obtain ⟨x3, y⟩ := He.ba y
  obtain ⟨x4, y⟩ := He.ba y
  obtain ⟨x5, y⟩ := He.ba y
  obtain ⟨x6, y⟩ := He.ba y
  obtain ⟨x7, x8⟩ := He.ba y
  have cR : Cls K (ga K "Ratio") := He.cls_ok (c.t.d.fact 48 (f := .cls "Ratio") rfl)
  obtain ⟨tyR, tR⟩ := tyB_ok x4 cR
  have O1 := oneB_ok x1
  obtain ⟨n1, y⟩ := He.ba x2
  obtain ⟨n2, y⟩ := He.ba y
  obtain ⟨n3, n4⟩ := He.ba y
  have gBadValue : mg "BadValue" = some (.ref (ga K "BadValue")) := He.glo_ok X G (c.t.d.fact 32 (f := .glo "BadValue") rfl)
  have gNoDivisor : mg "NoDivisor" = some (.ref (ga K "NoDivisor")) := He.glo_ok X G (c.t.d.fact 33 (f := .glo "NoDivisor") rfl)
  have gMark : mg "Mark" = some (.ref (ga K "Mark")) := He.glo_ok X G (c.t.d.fact 34 (f := .glo "Mark") rfl)
  have gRatio : mg "Ratio" = some (.ref (ga K "Ratio")) := He.glo_ok X G (c.t.d.fact 35 (f := .glo "Ratio") rfl)
  have fint : mg "int" = none := He.free_ok X G (c.t.d.fact 36 (f := .free "int") rfl)
  have fbool : mg "bool" = none := He.free_ok X G (c.t.d.fact 37 (f := .free "bool") rfl)
  have fisinstance : mg "isinstance" = none := He.free_ok X G (c.t.d.fact 38 (f := .free "isinstance") rfl)
  have fabs : mg "abs" = none := He.free_ok X G (c.t.d.fact 39 (f := .free "abs") rfl)
  have fstr : mg "str" = none := He.free_ok X G (c.t.d.fact 40 (f := .free "str") rfl)
  have flist : mg "list" = none := He.free_ok X G (c.t.d.fact 41 (f := .free "list") rfl)
  have flen : mg "len" = none := He.free_ok X G (c.t.d.fact 42 (f := .free "len") rfl)
  have frange : mg "range" = none := He.free_ok X G (c.t.d.fact 43 (f := .free "range") rfl)
  have fmin : mg "min" = none := He.free_ok X G (c.t.d.fact 44 (f := .free "min") rfl)
  have fall : mg "all" = none := He.free_ok X G (c.t.d.fact 45 (f := .free "all") rfl)
  have fgetattr : mg "getattr" = none := He.free_ok X G (c.t.d.fact 46 (f := .free "getattr") rfl)
  have TX : TxtR mg := ⟨fint, fbool, fisinstance, fabs, fstr, flist, flen, frange, fmin, fall, bltB_ok X G x7⟩
  obtain ⟨tG, gG⟩ := He.int_ok X G (c.t.d.fact 47 (f := .int "GROUP" (10 ^ 60)) rfl)
  have MK : MarkC K mg (ga K "Mark") := ⟨gMark, fgetattr, top1B_ok x5, eqV_ok x6⟩
  have RC : RatC K mg (ga K "Ratio") (ma K (ga K "Ratio") "__init__") := ⟨He.mkr_ok (c.t.d.fact 51 (f := .mkr "Ratio") rfl), cR, He.noat_ok (c.t.d.fact 49 (f := .noat "Ratio" "top") rfl), He.noat_ok (c.t.d.fact 50 (f := .noat "Ratio" "bottom") rfl), gRatio, top1B_ok x3, tR⟩
  have XM : ExmR K (ga K "BadValue") (ga K "NoDivisor") := ⟨He.exm_ok (c.t.d.fact 67 (f := .exm "BadValue" "BadValue" true) rfl), He.exm_ok (c.t.d.fact 68 (f := .exm "NoDivisor" "BadValue" false) rfl), He.exm_ok (c.t.d.fact 69 (f := .exm "NoDivisor" "NoDivisor" true) rfl)⟩
  have e := hfa.symm.trans glaw
  cases e
  have cPow := code_of (p := pPow) F_law_powers_right
  have cRef := code_of (p := pRef) F_law_refusals_right
  have neT : (He.cT K pPow).2 ≠ (He.cT K pRef).2 := fun z => by
    rw [z, Nat.beq_refl] at x8
    cases x8
  have ms1 : pPow ∈ tf := List.mem_cons_self
  have ms2 : pRef ∈ tf := List.mem_cons_of_mem _ List.mem_cons_self
  have both : ∀ {Pr : Addr × Addr → Prop}, Pr (He.cT K pPow) → Pr (He.cT K pRef) → ∀ p ∈ [He.cT K pPow, He.cT K pRef], Pr p := fun u v p hp => by
    rcases List.mem_cons.mp hp with rfl | hp
    · exact u
    · rcases List.mem_cons.mp hp with rfl | hp
      · exact v
      · cases hp
  refine ⟨dlaw, [He.cT K pPow, He.cT K pRef], spLaw K [((He.cT K pPow).2, qPow), ((He.cT K pRef).2, qRef)], both (c.empty _ ms1) (c.empty _ ms2), both (c.out _ ms1) (c.out _ ms2), both (PySem.W.codeHd_of_K X (c.hd _ ms1)) (PySem.W.codeHd_of_K X (c.hd _ ms2)), fun s v => FunD.bindsA (ps := ["_law_script"]) Flaw (fun _ _ _ _ _ _ us hl => match us, hl with | [_], _ => rfl) s [v] rfl, fun H a ns hl _ ht hS => ⟨a, ns, rfl, hS, hl, fun p hp => ?_, fun _ => rfl⟩, fun base KB NB TB => ?_⟩
  · rcases List.mem_cons.mp hp with rfl | hp
    · exact TabS.nil (ht _ List.mem_cons_self)
    · rcases List.mem_cons.mp hp with rfl | hp
      · exact TabS.nil (ht _ (List.mem_cons_of_mem _ List.mem_cons_self))
      · cases hp
  have TP : TabB base mg (He.codeOf K pPow) (He.cT K pPow).2 := TB _ List.mem_cons_self
  have TR : TabB base mg (He.codeOf K pRef) (He.cT K pRef).2 := TB _ (List.mem_cons_of_mem _ List.mem_cons_self)
  have ER : ErrR PySem.Challenge.rw_allstreams_k03_ratios.prog w K mg base (ga K "BadValue") (ga K "NoDivisor") := ⟨oBad (funOf FBadValue___init__) O1.O gBadValue O1.Z O1.no, ⟨n1, n2, gNoDivisor, clsXB_ok n4⟩, O1.ty, eqV_ok n3⟩
  have Gis_integer := ok_isInt (P := PySem.Challenge.rw_allstreams_k03_ratios.prog) (w := w) (base := base) (funOf Fis_integer) TX
  have Gneed_integer := ok_need (funOf Fneed_integer) Gis_integer gis_integer Fis_integer.kp bis_integer ER
  have RT : Rat PySem.Challenge.rw_allstreams_k03_ratios.prog w K mg base (ga K "BadValue") (ga K "NoDivisor") (ga K "Ratio") (ma K (ga K "Ratio") "__init__") := mk_rat FRatio___init__ Gneed_integer gneed_integer Fneed_integer.kp bneed_integer ER RC TX tyR
  have Glooks_after := ok_looks (P := PySem.Challenge.rw_allstreams_k03_ratios.prog) (w := w) (base := base) (funOf Flooks_after) MK TX
  have Gas_ratio := ok_as (funOf Fas_ratio) RT TX
  have Goperand := ok_opd (funOf Foperand) RT TX Glooks_after glooks_after Flooks_after.kp blooks_after Gas_ratio gas_ratio Fas_ratio.kp bas_ratio
  have GRatio___add__ := ok_add (funOf FRatio___add__) RT Goperand goperand Foperand.kp boperand
  have Oadd : OpC K (ga K "Ratio") (ma K (ga K "Ratio") "__add__") (ma K (ga K "Ratio") "__radd__") .Add := ⟨MRatio___add__.at_, MRatio___add__.fn, MRatio___radd__.at_, MRatio___radd__.fn⟩
  have GRatio___radd__ := ok_radd (funOf FRatio___radd__) RT Gas_ratio gas_ratio Fas_ratio.kp bas_ratio Oadd GRatio___add__ bRatio___add__
  have GRatio___sub__ := ok_sub (funOf FRatio___sub__) RT Goperand goperand Foperand.kp boperand
  have Osub : OpC K (ga K "Ratio") (ma K (ga K "Ratio") "__sub__") (ma K (ga K "Ratio") "__rsub__") .Sub := ⟨MRatio___sub__.at_, MRatio___sub__.fn, MRatio___rsub__.at_, MRatio___rsub__.fn⟩
  have GRatio___rsub__ := ok_rsub (funOf FRatio___rsub__) RT Gas_ratio gas_ratio Fas_ratio.kp bas_ratio Osub GRatio___sub__ bRatio___sub__
  have GRatio___mul__ := ok_mul (funOf FRatio___mul__) RT Goperand goperand Foperand.kp boperand
  have Omul : OpC K (ga K "Ratio") (ma K (ga K "Ratio") "__mul__") (ma K (ga K "Ratio") "__rmul__") .Mult := ⟨MRatio___mul__.at_, MRatio___mul__.fn, MRatio___rmul__.at_, MRatio___rmul__.fn⟩
  have GRatio___rmul__ := ok_rmul (funOf FRatio___rmul__) RT Gas_ratio gas_ratio Fas_ratio.kp bas_ratio Omul GRatio___mul__ bRatio___mul__
  have GRatio___neg__ := ok_neg (funOf FRatio___neg__) RT
  have GRatio_inverse := ok_inv (funOf FRatio_inverse) RT
  have GRatio_sign := ok_sign (funOf FRatio_sign) RT
  have GRatio_size := ok_size (funOf FRatio_size) RT TX
  have GRatio_floor := ok_floor (funOf FRatio_floor) RT
  have GRatio_compare := ok_comp (funOf FRatio_compare) RT Gas_ratio gas_ratio Fas_ratio.kp bas_ratio Osub GRatio___sub__ bRatio___sub__ MRatio_sign GRatio_sign bRatio_sign
  have GRatio___eq__ := ok_eq (funOf FRatio___eq__) RT TX
  have Gpowered := ok_powd (P := PySem.Challenge.rw_allstreams_k03_ratios.prog) (w := w) (mg := mg) (base := base) (funOf Fpowered)
  have GRatio_power := ok_power (funOf FRatio_power) RT TX Gneed_integer gneed_integer Fneed_integer.kp bneed_integer Gpowered gpowered Fpowered.kp bpowered MRatio_inverse GRatio_inverse bRatio_inverse
  have Gwhole_text := ok_text (P := PySem.Challenge.rw_allstreams_k03_ratios.prog) (w := w) (base := base) (funOf Fwhole_text) TX gG
  have GRatio___str__ := ok_str (funOf FRatio___str__) RT Gwhole_text gwhole_text Fwhole_text.kp bwhole_text
  have OP : OpsR PySem.Challenge.rw_allstreams_k03_ratios.prog w K mg base (ga K "BadValue") (ga K "NoDivisor") (ga K "Ratio") := ⟨⟨_, _, _, _, Oadd, GRatio___add__, bRatio___add__, GRatio___radd__, bRatio___radd__⟩, ⟨_, _, _, _, Osub, GRatio___sub__, bRatio___sub__, GRatio___rsub__, bRatio___rsub__⟩, ⟨_, _, _, _, Omul, GRatio___mul__, bRatio___mul__, GRatio___rmul__, bRatio___rmul__⟩, ⟨_, _, MRatio___neg__.at_, MRatio___neg__.fn, GRatio___neg__, bRatio___neg__⟩, ⟨_, _, MRatio_size, GRatio_size, bRatio_size⟩⟩
  have MO : MoreR PySem.Challenge.rw_allstreams_k03_ratios.prog w K mg base (ga K "BadValue") (ga K "NoDivisor") (ga K "Ratio") := ⟨⟨_, _, MRatio_sign, GRatio_sign, bRatio_sign⟩, ⟨_, _, MRatio_floor, GRatio_floor, bRatio_floor⟩, ⟨_, _, MRatio_compare, GRatio_compare, bRatio_compare⟩, ⟨_, MRatio___str__.at_, MRatio___str__.fn, (GRatio___str__.raw bRatio___str__ .nil).imp fun vs H Q E z => by rw [List.append_nil]; exact z⟩⟩
  have EQ : EqR PySem.Challenge.rw_allstreams_k03_ratios.prog w K mg base (ga K "Ratio") := ⟨⟨_, _, MRatio___eq__.at_, MRatio___eq__.fn, GRatio___eq__, bRatio___eq__⟩⟩
  have PR : PowR PySem.Challenge.rw_allstreams_k03_ratios.prog w K mg base (ga K "BadValue") (ga K "NoDivisor") (ga K "Ratio") := ⟨⟨_, _, MRatio_inverse, GRatio_inverse, bRatio_inverse⟩, ⟨_, _, MRatio_power, GRatio_power, bRatio_power⟩⟩
  have G_law_pen := ok_pen (P := PySem.Challenge.rw_allstreams_k03_ratios.prog) (w := w) (base := base) (funOf F_law_pen) TX
  have G_law_draw := ok_draw (P := PySem.Challenge.rw_allstreams_k03_ratios.prog) (w := w) (base := base) (funOf F_law_draw) TX
  have G_law_pick := ok_pick (P := PySem.Challenge.rw_allstreams_k03_ratios.prog) (w := w) (base := base) (funOf F_law_pick) (funOf F_law_draw) g_law_draw b_law_draw TX
  have G_law_wide := ok_wide (funOf F_law_wide) TX G_law_draw g_law_draw F_law_draw.kp b_law_draw
  have G_law_gcd := ok_gcd (P := PySem.Challenge.rw_allstreams_k03_ratios.prog) (w := w) (base := base) (funOf F_law_gcd) TX
  have G_law_lowest := ok_lowest (funOf F_law_lowest) G_law_gcd g_law_gcd F_law_gcd.kp b_law_gcd
  have G_law_plus := ok_plus (funOf F_law_plus) G_law_lowest g_law_lowest F_law_lowest.kp b_law_lowest
  have G_law_minus := ok_minus (P := PySem.Challenge.rw_allstreams_k03_ratios.prog) (w := w) (mg := mg) (base := base) (funOf F_law_minus)
  have G_law_times := ok_times (funOf F_law_times) G_law_lowest g_law_lowest F_law_lowest.kp b_law_lowest
  have G_law_turn := ok_turn (funOf F_law_turn) G_law_lowest g_law_lowest F_law_lowest.kp b_law_lowest
  have G_law_int := ok_int (P := PySem.Challenge.rw_allstreams_k03_ratios.prog) (w := w) (base := base) (funOf F_law_int) TX
  have G_law_is := ok_is (funOf F_law_is) TX RT G_law_int g_law_int F_law_int.kp b_law_int
  have G_law_alike := ok_alike (funOf F_law_alike) TX RT EQ
  have G_law_whole := ok_whole (funOf F_law_whole) TX G_law_draw g_law_draw F_law_draw.kp b_law_draw G_law_wide g_law_wide F_law_wide.kp b_law_wide
  have G_law_factor := ok_factor (funOf F_law_factor) G_law_whole g_law_whole F_law_whole.kp b_law_whole G_law_pick g_law_pick F_law_pick.kp b_law_pick
  have G_law_beside := ok_beside (funOf F_law_beside) TX G_law_draw g_law_draw F_law_draw.kp b_law_draw G_law_whole g_law_whole F_law_whole.kp b_law_whole G_law_lowest g_law_lowest F_law_lowest.kp b_law_lowest G_law_minus g_law_minus F_law_minus.kp b_law_minus G_law_turn g_law_turn F_law_turn.kp b_law_turn
  have G_law_powered := ok_powered (funOf F_law_powered) TX G_law_turn g_law_turn F_law_turn.kp b_law_turn G_law_times g_law_times F_law_times.kp b_law_times
  have G_law_sums_right := ok_sums (funOf F_law_sums_right) TX RT OP G_law_plus g_law_plus F_law_plus.kp b_law_plus G_law_times g_law_times F_law_times.kp b_law_times G_law_minus g_law_minus F_law_minus.kp b_law_minus G_law_is g_law_is F_law_is.kp b_law_is
  have G_law_sign := ok_sgn (P := PySem.Challenge.rw_allstreams_k03_ratios.prog) (w := w) (base := base) (funOf F_law_sign) TX
  have G_law_order_right := ok_order (funOf F_law_order_right) TX RT EQ MO G_law_sign g_law_sign F_law_sign.kp b_law_sign G_law_int g_law_int F_law_int.kp b_law_int
  have hm1 : ((He.cT K pPow).2, qPow) ∈ [((He.cT K pPow).2, qPow), ((He.cT K pRef).2, qRef)] := List.mem_cons_self
  have hm2 : ((He.cT K pRef).2, qRef) ∈ [((He.cT K pPow).2, qPow), ((He.cT K pRef).2, qRef)] := List.mem_cons_of_mem _ List.mem_cons_self
  have hu1 : ∀ p ∈ [((He.cT K pPow).2, qPow), ((He.cT K pRef).2, qRef)], p.1 = (He.cT K pPow).2 → p.2 = qPow := fun p hp e => by
    rcases List.mem_cons.mp hp with rfl | hp
    · rfl
    · rcases List.mem_cons.mp hp with rfl | hp
      · exact absurd e.symm neT
      · cases hp
  have hu2 : ∀ p ∈ [((He.cT K pPow).2, qPow), ((He.cT K pRef).2, qRef)], p.1 = (He.cT K pRef).2 → p.2 = qRef := fun p hp e => by
    rcases List.mem_cons.mp hp with rfl | hp
    · exact absurd e neT
    · rcases List.mem_cons.mp hp with rfl | hp
      · rfl
      · cases hp
  have G_law_powers_right := ok_powR (funOf F_law_powers_right) cPow TX TP hm1 hu1 RT PR ER XM (funOf F_law_fault) g_law_fault b_law_fault G_law_is g_law_is F_law_is.kp b_law_is G_law_powered g_law_powered F_law_powered.kp b_law_powered G_law_turn g_law_turn F_law_turn.kp b_law_turn
  have G_law_refusals_right := ok_refR (funOf F_law_refusals_right) cRef TX TR hm2 hu2 RT OP MO PR ER XM (funOf F_law_fault) g_law_fault b_law_fault (funOf F_law_refused) g_law_refused b_law_refused G_law_alike g_law_alike F_law_alike.kp b_law_alike G_law_pick g_law_pick F_law_pick.kp b_law_pick
  exact ok_law (funOf Flaw) TX RT G_law_pen g_law_pen F_law_pen.kp b_law_pen G_law_draw g_law_draw F_law_draw.kp b_law_draw G_law_lowest g_law_lowest F_law_lowest.kp b_law_lowest G_law_whole g_law_whole F_law_whole.kp b_law_whole G_law_beside g_law_beside F_law_beside.kp b_law_beside G_law_factor g_law_factor F_law_factor.kp b_law_factor G_law_is g_law_is F_law_is.kp b_law_is G_law_sums_right g_law_sums_right F_law_sums_right.kp b_law_sums_right G_law_order_right g_law_order_right F_law_order_right.kp b_law_order_right G_law_powers_right g_law_powers_right F_law_powers_right.kp b_law_powers_right G_law_refusals_right g_law_refusals_right F_law_refusals_right.kp b_law_refusals_right
end K03
end
section
set_option maxHeartbeats 0
open PySem PySem.W PySem.Calls PyProof.Rows
theorem PySem.Challenge.cw_allstreams_k03_ratios_holds : PySem.Challenge.rw_allstreams_k03_ratios.Holds := by
  w_on; o_law
  refine HandSHeadRun.head_imp (r := OpenLaw.row PySem.Challenge.rw_allstreams_k03_ratios) (q := view (OpenLaw.row PySem.Challenge.rw_allstreams_k03_ratios).prog [0, 44]) (H := K03.hk) (ob := K03.ob) (M := 20000) (loose := K03.names) (d := HandSHeadRun.topDef (OpenLaw.row PySem.Challenge.rw_allstreams_k03_ratios).prog 44) (kwd := []) K03.ob_eq
    K03.run (by kernel_rfl) (by kernel_rfl) (by kernel_rfl) (by rfl) (by first | assumption | decide +kernel) (by decide +kernel) ⟨rfl, rfl, rfl, rfl, rfl, by decide +kernel⟩ ?hw ?hc
  case hw => w_witness2
  case hc =>
    refine LamX.walk_ofTsE (l := PySem.Challenge.rw_allstreams_k03_ratios) (n := 63) (k := 14) (x := "_law_script") (CX := fun _ => L2.CX0) rfl (by decide) (by kernel_rfl) ⟨rfl, by decide, by decide⟩ ?F (fun _ _ _ _ _ z => z)
    intro w mg fa h Y G hmg0
    obtain ⟨K, KX, c⟩ := Y
    have hmg : mg ("law" : PySem.Str) = some (.ref fa) := by
      have e : (HandSHeadRun.topDef (OpenLaw.row PySem.Challenge.rw_allstreams_k03_ratios).prog 44).name = ("law" : PySem.Str) := by kernel_rfl
      rw [← e]
      exact hmg0
    exact ⟨K, KX, K03.facts KX G hmg c⟩
end
