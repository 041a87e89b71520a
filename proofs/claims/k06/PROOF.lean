import PyProof.Rows.All
import Wide.All
import OpenK.AllK
import Wide.FinOn
import HandS.Head3
import HandS.HeadHook4
import HandS.HeadWalk
import HandS.Words
import HandS.WordsExc
import HandS.ForMost
import HandS.ExcInit
import HandS.Defaults
import HandS.MakeKwOnly
import HandS.ExcIs
import HandS.IsInst
import HandS.ExcValue
import KE.KOpsOwn
import PyProof.FactsAll.int_1
import PyProof.FactsAll.int_3
import PyProof.FactsAll.int_5
import PyProof.FactsAll.bool_1
import PyProof.FactsAll.bool_2
import PyProof.FactsAll.bool_3
import HandS.Wide
import HandS.Gcd
import HandS.Comp
import HandS.AnyAll
import PyProof.AttrMissHeap
import KE.KBoundM
import HandS.List
import HandS.Style
import HandS.Lambda
import HandS.Nested
import HandS.Exc
import KE.GoesRaise
import KE.KEqSeq
import HandS.Walk
import OpenK.KNot
import OpenK.KMake
import HandS.Zip
import HandS.TupAny
import HandS.Star
import HandS.Text
import HandS.StrMore
import HandS.FStr
import PyProof.Rows.StrDigitsNeg
import PyProof.Rows.ReprOcc
import HandS.SlotsOwn
import KE.KCallOwn
import HandS.TryMany
import HandS.ExcField
import HandS.More
import HandS.OwnEq
import HandS.Head2
import PySem.Challenge.RW_allstreams_k06_whole_divisions
set_option Elab.async false
set_option linter.all false
set_option maxRecDepth 100000
section
namespace HX
open PySem PySem.Spec PyProof.Rows L2 He
/-- an exception class of one's own, right by its object -/
def oexB (K : PySem.W.Frag) (C : Addr) : Bool := match K.lookup C with
  | some ⟨.type y, _, .cls cd, sl⟩ => y == "type" && (match cd.mro, sl.toList with
    | .ref C' :: bm, [_, _, _, _, some (.builtin n), _] => C' == C && (n == "ValueError.__new__" && (!cd.hasDel && (cd.hasDict && PySem.HandSPX.refsVE bm)))
    | _, _ => false)
  | _ => false
def eqV (a b : Option Value) : Bool := decide (a = b)
def eqB (a b : Option Bool) : Bool := decide (a = b)
def clsXB (K : PySem.W.Frag) (D : Addr) : Bool := eqO (PySem.W.findIn K (.ref D) "__getattribute__") (some (some (.builtin "BaseException.__getattribute__"))) && (eqO (PySem.W.findIn K (.ref D) "__getattr__") (some none) && (eqB (PySem.W.subIn K (.ref D) (.type "BaseException")) (some true) && (PySem.W.hasDictIn K D &&
  (eqO (PySem.W.findIn K (.ref D) "__class__") (some (some (.builtin "object.__class__"))) && (eqO (PySem.W.specialIn K (.builtin "object.__class__") "__get__") (some (some (.builtin "getset_descriptor.__get__"))) && (eqB (PySem.W.takesIn K (.builtin "object.__class__")) (some true) && eqB (PySem.W.mroIn K D (.type "object")) (some true)))))))
/-- an error with an __init__ of its own, its field f -/
def oneB (K : PySem.W.Frag) (C : Addr) (f : Str) : Bool := oexB K C && (eqO (PySem.W.findIn K (.ref C) "__setattr__") (some (some (.builtin "object.__setattr__"))) && (eqV (PySem.W.typeIn K (.ref C)) (some (.type "type")) && (PySem.W.keepIn K (.ref C) &&
  (eqO (PySem.W.findIn K (.ref C) "__init__") (some (some (.ref (ma K C "__init__")))) && (eqV (PySem.W.typeIn K (.ref (ma K C "__init__"))) (some (.type "function")) && (eqO (PySem.W.findIn K (.ref C) f) (some none) && clsXB K C))))))
/-- an error without one -/
def bareB (K : PySem.W.Frag) (C : Addr) : Bool := PySem.W.excIn K C [.type "ValueError", .type "Exception", .type "BaseException", .type "object"] "ValueError.__new__" && (PySem.W.keepIn K (.ref C) && (eqV (PySem.W.typeIn K (.ref C)) (some (.type "type")) && clsXB K C))
/-- a class right below object -/
def top1B (K : PySem.W.Frag) (C : Addr) : Bool := (match PySem.W.clsIn K C with
  | some cd => decide (cd.mro = [.ref C, .type "object"])
  | none => false) && PySem.W.selfFirst K C
/-- what isinstance asks of a class -/
def tyB (K : PySem.W.Frag) (C : Addr) : Bool := eqO (PySem.W.findIn K (.ref C) "__class__") (some (some (.builtin "object.__class__"))) && (eqO (PySem.W.specialIn K (.builtin "object.__class__") "__get__") (some (some (.builtin "getset_descriptor.__get__"))) &&
  (eqB (PySem.W.takesIn K (.builtin "object.__class__")) (some true) && (eqB (PySem.W.mroIn K C (.type "object")) (some true) && eqV (PySem.W.typeIn K (.ref C)) (some (.type "type")))))
/-- a module's name for a built-in function -/
def bltB (K : PySem.W.Frag) (x : Str) (id : String) : Bool := eqO (PySem.W.nsIn K mainGlobals x) (some (some (.builtin id)))
/-- a piece of what is told of a head -/
structure Pc where
  fa : List He.Fa
  fn : List He.DefD
  tf : List He.Defn
  ex : PySem.W.Frag → Bool
def obP (p : Pc) (g : Addr → Option Obj) : He.AlX := He.obsX 4 p.fa p.fn [] p.tf p.ex g
def vlP (p : Pc) (w : World) : He.AlX := He.valX p.fn [] w
/-- all pieces of one head -/
def hookL (ps : List Pc) : PySem.W.Hook where
  α := List He.AlX
  obs := fun s => ps.map fun p => obP p s.heap.get?
  val := fun w => ps.map fun p => vlP p w
  says := fun w h => ∃ K : PySem.W.Frag, K.In h ∧ ∀ p ∈ ps, He.SaysX p.fa p.fn [] p.tf p.ex w h K
  of := fun _ _ e => ⟨_, He.frT_in, fun p hp => He.saysX_of (List.map_inj_left.mp e p hp)⟩
  keeps := fun _ _ _ ⟨K, hK, c⟩ k => ⟨K, PySem.W.Frag.In.keeps hK k, fun p hp => ⟨(c p hp).t, (c p hp).more, (c p hp).hd, (c p hp).out, fun q hq => k _ _ ((c p hp).empty q hq)⟩⟩
def obL (ps : List Pc) (s : PySem.W.SharedT) : List He.AlX := ps.map fun p => obP p (HandSHeadRun.getT s)
theorem obL_eq (ps : List Pc) (s : PySem.W.SharedT) : obL ps s = (hookL ps).obs s.abs := by
  have e : HandSHeadRun.getT s = s.abs.heap.get? := funext (HandSHeadRun.getT_eq s)
  show (ps.map fun p => obP p (HandSHeadRun.getT s)) = ps.map fun p => obP p s.abs.heap.get?
  rw [e]
/-- the run tells this piece -/
def RunP (r : PySem.W.OpenRow) (M : Nat) (p : Pc) (w : World) : Prop :=
  (HandSHeadRun.wholeF (fun q => HandSHeadRun.stepQ (HandSHeadRun.denQ HandSHeadRun.tabQ) q w) HandSHeadRun.fenceQ M r.prog).map (fun x => obP p (HandSHeadRun.getT x.2)) = some (vlP p w)
/-- the run is well looked at -/
def RunS (r : PySem.W.OpenRow) (q : Program) (M : Nat) (loose : List Str) (w : World) : Prop :=
  (HandSHeadRun.wholeF (fun p => HandSHeadRun.stepQ (HandSHeadRun.denQ HandSHeadRun.tabQ) p w) HandSHeadRun.fenceQ M r.prog).map (fun x => (HandSHeadRun.looksF r.prog x.1.heap x.2.abs, HandSHeadRun.seenQ q loose (PySem.importedModules r.prog.main.body) (fun s => PySem.W.xlAt q [] s && PySem.W.recOk r.toRowW.records s) x.2.abs)) = some (true, PySem.W.openGood q loose)
theorem run_all {r : PySem.W.OpenRow} {q : Program} {M : Nat} {loose : List Str} {w : World} {ps : List Pc} (a : RunS r q M loose w) (b : ∀ p ∈ ps, RunP r M p w) : HandSHeadRun.RunEqI r q (hookL ps) (obL ps) M loose w := by
  obtain ⟨x, hx, e⟩ := Option.map_eq_some_iff.mp a
  refine Option.map_eq_some_iff.mpr ⟨x, hx, ?_⟩
  obtain ⟨e1, e2⟩ := Prod.mk.inj e
  refine Prod.ext e1 (Prod.ext e2 ?_)
  show (ps.map fun p => obP p (HandSHeadRun.getT x.2)) = ps.map fun p => vlP p w
  refine List.map_inj_left.mpr fun p hp => ?_
  obtain ⟨y, hy, e3⟩ := Option.map_eq_some_iff.mp (b p hp)
  rw [hx] at hy
  cases hy
  exact e3
end HX
namespace L2
open PySem PySem.Spec PyProof.Rows
end L2
namespace K03
open PySem PySem.Spec PyProof.Rows L2
def top (i : Nat) : Stmt := PySem.Challenge.pw_allstreams_k06_whole_divisions.main.body.getD i (.Pass ⟨0, 0, 0, 0⟩)
end K03
end
section
set_option maxHeartbeats 0
namespace K03
open PySem PySem.Spec PyProof.Rows L2 HX
open He (ga ma)
def D_is_integer : He.DefD := ⟨("is_integer", none), "is_integer", "is_integer", defArgs (top 7), defBody (top 7), defScope (top 7), [], []⟩
def D_need_integer : He.DefD := ⟨("need_integer", none), "need_integer", "need_integer", defArgs (top 10), defBody (top 10), defScope (top 10), [], []⟩
def D_is_list : He.DefD := ⟨("is_list", none), "is_list", "is_list", defArgs (top 9), defBody (top 9), defScope (top 9), [], []⟩
def D_need_list : He.DefD := ⟨("need_list", none), "need_list", "need_list", defArgs (top 12), defBody (top 12), defScope (top 12), [], []⟩
def D_looks_after : He.DefD := ⟨("looks_after", none), "looks_after", "looks_after", defArgs (top 25), defBody (top 25), defScope (top 25), [], []⟩
def D_as_ratio : He.DefD := ⟨("as_ratio", none), "as_ratio", "as_ratio", defArgs (top 31), defBody (top 31), defScope (top 31), [], []⟩
def D_operand : He.DefD := ⟨("operand", none), "operand", "operand", defArgs (top 32), defBody (top 32), defScope (top 32), [], []⟩
def D_ratio_list : He.DefD := ⟨("ratio_list", none), "ratio_list", "ratio_list", defArgs (top 33), defBody (top 33), defScope (top 33), [], []⟩
def D_shared_bottom : He.DefD := ⟨("shared_bottom", none), "shared_bottom", "shared_bottom", defArgs (top 14), defBody (top 14), defScope (top 14), [], []⟩
def D_whole_parts : He.DefD := ⟨("whole_parts", none), "whole_parts", "whole_parts", defArgs (top 15), defBody (top 15), defScope (top 15), [], []⟩
def D_divided_parts : He.DefD := ⟨("divided_parts", none), "divided_parts", "divided_parts", defArgs (top 22), defBody (top 22), defScope (top 22), [], []⟩
def D_poly_by : He.DefD := ⟨("poly_by", none), "poly_by", "poly_by", defArgs (top 37), defBody (top 37), defScope (top 37), [], []⟩
def D_quotient_and_rest : He.DefD := ⟨("quotient_and_rest", none), "quotient_and_rest", "quotient_and_rest", defArgs (top 38), defBody (top 38), defScope (top 38), [], []⟩
def D_as_poly : He.DefD := ⟨("as_poly", none), "as_poly", "as_poly", defArgs (top 39), defBody (top 39), defScope (top 39), [], []⟩
def D_need_poly : He.DefD := ⟨("need_poly", none), "need_poly", "need_poly", defArgs (top 40), defBody (top 40), defScope (top 40), [], []⟩
def D__law_pen : He.DefD := ⟨("_law_pen", none), "_law_pen", "_law_pen", defArgs (top 42), defBody (top 42), defScope (top 42), [], []⟩
def D__law_draw : He.DefD := ⟨("_law_draw", none), "_law_draw", "_law_draw", defArgs (top 43), defBody (top 43), defScope (top 43), [], []⟩
def D__law_pick : He.DefD := ⟨("_law_pick", none), "_law_pick", "_law_pick", defArgs (top 44), defBody (top 44), defScope (top 44), [], []⟩
def D__law_wide : He.DefD := ⟨("_law_wide", none), "_law_wide", "_law_wide", defArgs (top 45), defBody (top 45), defScope (top 45), [], []⟩
def D__law_gcd : He.DefD := ⟨("_law_gcd", none), "_law_gcd", "_law_gcd", defArgs (top 46), defBody (top 46), defScope (top 46), [], []⟩
def D__law_lowest : He.DefD := ⟨("_law_lowest", none), "_law_lowest", "_law_lowest", defArgs (top 47), defBody (top 47), defScope (top 47), [], []⟩
def D__law_plus : He.DefD := ⟨("_law_plus", none), "_law_plus", "_law_plus", defArgs (top 48), defBody (top 48), defScope (top 48), [], []⟩
def D__law_times : He.DefD := ⟨("_law_times", none), "_law_times", "_law_times", defArgs (top 50), defBody (top 50), defScope (top 50), [], []⟩
def D__law_int : He.DefD := ⟨("_law_int", none), "_law_int", "_law_int", defArgs (top 52), defBody (top 52), defScope (top 52), [], []⟩
def D__law_is : He.DefD := ⟨("_law_is", none), "_law_is", "_law_is", defArgs (top 53), defBody (top 53), defScope (top 53), [], []⟩
def D__law_alike : He.DefD := ⟨("_law_alike", none), "_law_alike", "_law_alike", defArgs (top 54), defBody (top 54), defScope (top 54), [], []⟩
def D__law_fault : He.DefD := ⟨("_law_fault", none), "_law_fault", "_law_fault", defArgs (top 55), defBody (top 55), defScope (top 55), [], []⟩
def D__law_refused : He.DefD := ⟨("_law_refused", none), "_law_refused", "_law_refused", defArgs (top 56), defBody (top 56), defScope (top 56), [], []⟩
def D__law_few : He.DefD := ⟨("_law_few", none), "_law_few", "_law_few", defArgs (top 57), defBody (top 57), defScope (top 57), [], []⟩
def D__law_real : He.DefD := ⟨("_law_real", none), "_law_real", "_law_real", defArgs (top 58), defBody (top 58), defScope (top 58), [], []⟩
def D__law_some : He.DefD := ⟨("_law_some", none), "_law_some", "_law_some", defArgs (top 59), defBody (top 59), defScope (top 59), [], []⟩
def D__law_told : He.DefD := ⟨("_law_told", none), "_law_told", "_law_told", defArgs (top 60), defBody (top 60), defScope (top 60), [], []⟩
def D__law_trim : He.DefD := ⟨("_law_trim", none), "_law_trim", "_law_trim", defArgs (top 61), defBody (top 61), defScope (top 61), [], []⟩
def D__law_at : He.DefD := ⟨("_law_at", none), "_law_at", "_law_at", defArgs (top 62), defBody (top 62), defScope (top 62), [], []⟩
def D__law_add : He.DefD := ⟨("_law_add", none), "_law_add", "_law_add", defArgs (top 63), defBody (top 63), defScope (top 63), [], []⟩
def D__law_scaled : He.DefD := ⟨("_law_scaled", none), "_law_scaled", "_law_scaled", defArgs (top 64), defBody (top 64), defScope (top 64), [], []⟩
def D__law_mul : He.DefD := ⟨("_law_mul", none), "_law_mul", "_law_mul", defArgs (top 66), defBody (top 66), defScope (top 66), [], []⟩
def D__law_poly_is : He.DefD := ⟨("_law_poly_is", none), "_law_poly_is", "_law_poly_is", defArgs (top 67), defBody (top 67), defScope (top 67), [], []⟩
def D__law_poly : He.DefD := ⟨("_law_poly", none), "_law_poly", "_law_poly", defArgs (top 68), defBody (top 68), defScope (top 68), [], []⟩
def D__law_divisor : He.DefD := ⟨("_law_divisor", none), "_law_divisor", "_law_divisor", defArgs (top 69), defBody (top 69), defScope (top 69), [], []⟩
def D__law_pair_is : He.DefD := ⟨("_law_pair_is", none), "_law_pair_is", "_law_pair_is", defArgs (top 70), defBody (top 70), defScope (top 70), [], []⟩
def D__law_one_right : He.DefD := ⟨("_law_one_right", none), "_law_one_right", "_law_one_right", defArgs (top 71), defBody (top 71), defScope (top 71), [], []⟩
def D__law_digits_right : He.DefD := ⟨("_law_digits_right", none), "_law_digits_right", "_law_digits_right", defArgs (top 72), defBody (top 72), defScope (top 72), [], []⟩
def D__law_refusals_right : He.DefD := ⟨("_law_refusals_right", none), "_law_refusals_right", "_law_refusals_right", defArgs (top 73), defBody (top 73), defScope (top 73), [], []⟩
def D_law : He.DefD := ⟨("law", none), "law", "law", defArgs (top 74), defBody (top 74), defScope (top 74), [], []⟩
def D_BadValue___init__ : He.DefD := ⟨("BadValue", some "__init__"), "__init__", "BadValue.__init__", defArgs (inClass (top 4) 0), defBody (inClass (top 4) 0), defScope (inClass (top 4) 0), [], []⟩
def D_Ratio___init__ : He.DefD := ⟨("Ratio", some "__init__"), "__init__", "Ratio.__init__", defArgs (inClass (top 30) 0), defBody (inClass (top 30) 0), defScope (inClass (top 30) 0), [.int 1], []⟩
def D_Ratio___add__ : He.DefD := ⟨("Ratio", some "__add__"), "__add__", "Ratio.__add__", defArgs (inClass (top 30) 2), defBody (inClass (top 30) 2), defScope (inClass (top 30) 2), [], []⟩
def D_Ratio___neg__ : He.DefD := ⟨("Ratio", some "__neg__"), "__neg__", "Ratio.__neg__", defArgs (inClass (top 30) 8), defBody (inClass (top 30) 8), defScope (inClass (top 30) 8), [], []⟩
def D_Ratio___eq__ : He.DefD := ⟨("Ratio", some "__eq__"), "__eq__", "Ratio.__eq__", defArgs (inClass (top 30) 1), defBody (inClass (top 30) 1), defScope (inClass (top 30) 1), [], []⟩
def D_Mark___init__ : He.DefD := ⟨("Mark", some "__init__"), "__init__", "Mark.__init__", defArgs (inClass (top 24) 0), defBody (inClass (top 24) 0), defScope (inClass (top 24) 0), [], []⟩
def D_Poly___init__ : He.DefD := ⟨("Poly", some "__init__"), "__init__", "Poly.__init__", defArgs (inClass (top 36) 0), defBody (inClass (top 36) 0), defScope (inClass (top 36) 0), [], []⟩
def D_Poly___add__ : He.DefD := ⟨("Poly", some "__add__"), "__add__", "Poly.__add__", defArgs (inClass (top 36) 2), defBody (inClass (top 36) 2), defScope (inClass (top 36) 2), [], []⟩
def D_Poly___sub__ : He.DefD := ⟨("Poly", some "__sub__"), "__sub__", "Poly.__sub__", defArgs (inClass (top 36) 4), defBody (inClass (top 36) 4), defScope (inClass (top 36) 4), [], []⟩
def D_Poly___neg__ : He.DefD := ⟨("Poly", some "__neg__"), "__neg__", "Poly.__neg__", defArgs (inClass (top 36) 8), defBody (inClass (top 36) 8), defScope (inClass (top 36) 8), [], []⟩
def D_Poly_divided : He.DefD := ⟨("Poly", some "divided"), "divided", "Poly.divided", defArgs (inClass (top 36) 18), defBody (inClass (top 36) 18), defScope (inClass (top 36) 18), [], []⟩
def fnA : List He.DefD := [D_is_integer, D_need_integer, D_is_list, D_need_list, D_looks_after, D_as_ratio, D_operand, D_ratio_list, D_shared_bottom, D_whole_parts, D_divided_parts, D_poly_by, D_quotient_and_rest, D_as_poly, D_need_poly, D__law_pen, D__law_draw, D__law_pick, D__law_wide, D__law_gcd, D__law_lowest, D__law_plus, D__law_times, D__law_int, D__law_is, D__law_alike, D__law_fault, D__law_refused]
def fnB : List He.DefD := [D__law_few, D__law_real, D__law_some, D__law_told, D__law_trim, D__law_at, D__law_add, D__law_scaled, D__law_mul, D__law_poly_is, D__law_poly, D__law_divisor, D__law_pair_is, D__law_one_right, D__law_digits_right, D__law_refusals_right, D_law, D_BadValue___init__, D_Ratio___init__, D_Ratio___add__, D_Ratio___neg__, D_Ratio___eq__, D_Mark___init__, D_Poly___init__, D_Poly___add__, D_Poly___sub__, D_Poly___neg__, D_Poly_divided]
def fa0 : List He.Fa := [.glo "is_integer", .glo "need_integer", .glo "is_list", .glo "need_list", .glo "looks_after", .glo "as_ratio", .glo "operand", .glo "ratio_list", .glo "shared_bottom", .glo "whole_parts", .glo "divided_parts", .glo "poly_by"]
def fa1 : List He.Fa := [.glo "quotient_and_rest", .glo "as_poly", .glo "need_poly", .glo "_law_pen", .glo "_law_draw", .glo "_law_pick", .glo "_law_wide", .glo "_law_gcd", .glo "_law_lowest", .glo "_law_plus", .glo "_law_times", .glo "_law_int"]
def fa2 : List He.Fa := [.glo "_law_is", .glo "_law_alike", .glo "_law_fault", .glo "_law_refused", .glo "_law_few", .glo "_law_real", .glo "_law_some", .glo "_law_told", .glo "_law_trim", .glo "_law_at", .glo "_law_add", .glo "_law_scaled"]
def fa3 : List He.Fa := [.glo "_law_mul", .glo "_law_poly_is", .glo "_law_poly", .glo "_law_divisor", .glo "_law_pair_is", .glo "_law_one_right", .glo "_law_digits_right", .glo "_law_refusals_right", .glo "law", .glo "BadValue", .glo "NoDivisor", .glo "Ratio"]
def fa4 : List He.Fa := [.glo "Poly", .glo "Mark", .free "int", .free "bool", .free "isinstance", .free "abs", .free "str", .free "list", .free "len", .free "range", .free "min", .free "all"]
def fa5 : List He.Fa := [.free "max", .free "tuple", .free "getattr", .free "zip", .free "enumerate", .cls "Ratio", .noat "Ratio" "top", .noat "Ratio" "bottom", .mkr "Ratio", .cls "Poly", .noat "Poly" "parts", .noat "Poly" "mark"]
def fa6 : List He.Fa := [.mkr "Poly", .cls "Mark", .noat "Mark" "below", .mkr "Mark", .meth "Ratio" "__add__", .meth "Ratio" "__radd__", .meth "Ratio" "__neg__", .meth "Ratio" "__eq__", .meth "Poly" "__add__", .meth "Poly" "__radd__", .meth "Poly" "__sub__", .meth "Poly" "__rsub__"]
def fa7 : List He.Fa := [.meth "Poly" "__neg__", .meth "Poly" "divided", .exm "BadValue" "BadValue" true, .exm "NoDivisor" "BadValue" false, .exm "NoDivisor" "NoDivisor" true]
def fa : List He.Fa := fa0 ++ (fa1 ++ (fa2 ++ (fa3 ++ (fa4 ++ (fa5 ++ (fa6 ++ (fa7)))))))
def pRef : He.Defn := ("_law_refusals_right", none)
def tf : List He.Defn := [pRef]
def exB (K : PySem.W.Frag) : Bool := oneB K (ga K "BadValue") "value" && (bareB K (ga K "NoDivisor") && (top1B K (ga K "Ratio") && (tyB K (ga K "Ratio") && (bltB K "gcd" "math.gcd" && (bltB K "lcm" "math.lcm" && (top1B K (ga K "Mark") && (tyB K (ga K "Mark") && (top1B K (ga K "Poly") && (tyB K (ga K "Poly") && !Nat.beq (ga K "Ratio") (ga K "Poly"))))))))))
def names0 : List Str := ["_wall", "StreamError", "BadValue", "NoDivisor", "is_integer", "is_whole", "is_list", "need_integer", "need_whole", "need_list", "shared_bottom", "whole_parts"]
def names1 : List Str := ["shortened", "norm", "greatest", "packed", "unpacked", "multiplied", "divided_parts", "Mark", "looks_after", "powered", "GROUP", "Ratio"]
def names2 : List Str := ["as_ratio", "operand", "ratio_list", "whole_text", "Poly", "poly_by", "quotient_and_rest", "as_poly", "need_poly", "_law_pen", "_law_draw", "_law_pick"]
def names3 : List Str := ["_law_wide", "_law_gcd", "_law_lowest", "_law_plus", "_law_minus", "_law_times", "_law_turn", "_law_int", "_law_is", "_law_alike", "_law_fault", "_law_refused"]
def names4 : List Str := ["_law_few", "_law_real", "_law_some", "_law_told", "_law_trim", "_law_at", "_law_add", "_law_scaled", "_law_less", "_law_mul", "_law_poly_is", "_law_poly"]
def names5 : List Str := ["_law_divisor", "_law_pair_is", "_law_one_right", "_law_digits_right", "_law_refusals_right", "law"]
def names : List Str := names0 ++ (names1 ++ (names2 ++ (names3 ++ (names4 ++ (names5)))))
abbrev R : PySem.W.OpenRow := PySem.W.OpenLaw.row PySem.Challenge.rw_allstreams_k06_whole_divisions
def pcA : Pc := ⟨fa, [], tf, exB⟩
def pcB : Pc := ⟨[], fnA, [], fun _ => true⟩
def pcC : Pc := ⟨[], fnB, [], fun _ => true⟩
def pcs : List Pc := [pcA, pcB, pcC]
abbrev hk : PySem.W.Hook := hookL pcs
abbrev ob (s : PySem.W.SharedT) : List He.AlX := obL pcs s
theorem ob_eq (s : PySem.W.SharedT) : ob s = hk.obs s.abs := obL_eq pcs s
theorem runS (w : World) : RunS R (PySem.W.view R.prog [0, 74]) 20000 names w := by
  unfold RunS
  kernel_rfl
theorem runA (w : World) : RunP R 20000 pcA w := by
  unfold RunP
  kernel_rfl
theorem runB (w : World) : RunP R 20000 pcB w := by
  unfold RunP
  kernel_rfl
theorem runC (w : World) : RunP R 20000 pcC w := by
  unfold RunP
  kernel_rfl
theorem run (w : World) : HandSHeadRun.RunEqI R (PySem.W.view R.prog [0, 74]) hk ob 20000 names w := by
  refine run_all (runS w) fun p hp => ?_
  rcases List.mem_cons.mp hp with rfl | hp
  · exact runA w
  · rcases List.mem_cons.mp hp with rfl | hp
    · exact runB w
    · rcases List.mem_cons.mp hp with rfl | hp
      · exact runC w
      · cases hp
end K03
end
section
set_option maxHeartbeats 4000000
namespace PySem
namespace ExV
open PySem.W PySem.Calls PyProof.Rows PySem.HandSPX
open Builtin Builtin.ObjectAttr
section
variable {M : Model} {A : Around} {E : Value → Shared → Prop} {h : Heap} {g : Array GenState} {d : Drawn} {t : Nat} {os : OsState}
variable {nm q : Str} {C N : Addr} {bs bm bmB : List Value} {hdct : Bool} {sn : List Str} {sub : List Value} {ab : Bool} {col : Option Bool} {dd : Option Addr} {k0 k1 k2 k3 k5 : Option Value} {B newId initId : String}

theorem check_new_kw (F : ExcBaseFacts B newId initId bmB) (hT : ∀ X : String, bm.contains (.type X) = bmB.contains (.type X)) {rest : List Value} {kw : List (Str × Value)} {Q : Unit → Shared → Prop}
    (hC : h.get? C = some (excClassObj nm q C N bs bm hdct sn sub ab col dd k0 k1 k2 k3 k5 newId)) (hq : Q () ⟨h, g, d, t, os⟩) : wpAny M A (checkBuiltinCall newId ⟨.ref C :: rest, kw⟩) Q E ⟨h, g, d, t, os⟩ := by
  have hcont : (Value.ref C :: bm).contains (.type B) = true := by rw [List.contains_cons, hT, F.hasB, Bool.or_true]
  have hstar := F.noStar
  simp only [checkBuiltinCall, F.newKind, F.newSplit, F.newRow]
  repeat (first | refine wpAny_loadPart_at hC ?_ | (refine wpAny_isSubtype_exc hC ?_; rw [hcont]) | refine wpAny_staticBase_exc hC ?_ | refine wpAny_madeBy_exc hC ?_ | simp only [bne_self_eq_false, Bool.false_eq_true, if_false] | wp_step)
  exact hq
end
section
variable {prog : Program} {w : World} {A : Around} {E : Value → Shared → Prop} {R : Result → Shared → Prop} {h : Heap} {g : Array GenState} {d : Drawn} {t : Nat} {os : OsState}
variable {nm q : Str} {C N : Addr} {bs bm bmB : List Value} {hdct : Bool} {sn : List Str} {sub : List Value} {ab : Bool} {col : Option Bool} {dd : Option Addr} {k0 k1 k2 k3 k5 : Option Value} {B newId initId : String}

theorem new_kw (F : ExcBaseFacts B newId initId bmB) (hT : ∀ X : String, bm.contains (.type X) = bmB.contains (.type X)) {rest : List Value} {kw : List (Str × Value)}
    (hC : h.get? C = some (excClassObj nm q C N bs bm hdct sn sub ab col dd k0 k1 k2 k3 k5 newId))
    (hq : R (.ok (.ret (.ref (h.objs.size + 1)))) ⟨(h.push { cls := .type "tuple", data := .seq rest.toArray }).push
      { cls := .ref C, data := .fields #[.ref h.objs.size, .none, .none, .none, .bool false, .none] }, g, d, t, os⟩) (hrest : rest.length ≤ sizeLine) :
    codeAny (model prog w) A (.builtin newId ⟨.ref C :: rest, kw⟩) R ⟨h, g, d, t, os⟩ := by
  have hends := F.ends
  have hcB : (Value.ref C :: bm).contains (.type B) = true := by rw [List.contains_cons, hT, F.hasB, Bool.or_true]
  have hcA : (Value.ref C :: bm).contains (.type "AttributeError") = false := by rw [List.contains_cons, hT, F.noAttr]; rfl
  have hcN : (Value.ref C :: bm).contains (.type "NameError") = false := by rw [List.contains_cons, hT, F.noName]; rfl
  refine codeAny_builtinAt F.entry ?_
  unfold Builtin.«BaseException.__new__»
  refine wpAt_bind ?_
  show wpAt _ _ _ (stack >>= _) _ _ _
  refine wpAt_bind (wpAt_stack fun p below => wpAt_of_wpAny ?_)
  wp_walk
  refine wpAt_of_wpAny ?_
  rw [F.owner]
  repeat (first | with_reducible refine wpAny_madeHere_exc F.canon hC ?_ | with_reducible refine wpAny_loadPart_at hC ?_ | (with_reducible refine wpAny_isSubtype_exc hC ?_; first | rw [hcB] | rw [hcA] | rw [hcN]) | wp_step)
  show R _ _
  rw [Heap.size_push]
  exact hq

theorem type_call_kw (F : ExcBaseFacts B newId initId bmB) (hT : ∀ X : String, bm.contains (.type X) = bmB.contains (.type X)) {rest : List Value} {kw : List (Str × Value)} {fI : Addr} {Q : Fin → Shared → Prop}
    (hC : h.get? C = some (excClassObj nm q C N bs bm hdct sn sub ab col dd k0 k1 k2 k3 k5 newId))
    (hi : W.Looks (model prog w) h (typeLookup (.ref C) "__init__") (some (.ref fI))) (hb : ∀ self, W.Looks (model prog w) h (bindSpecial (.ref fI) self) (.ref fI, [self])) (hrest : rest.length ≤ sizeLine)
    (hq : codeAny (model prog w) A (.call (.ref fI) ⟨.ref (h.objs.size + 1) :: rest, kw⟩)
      (fun r s' => match r with | .ok (.ret v) => v = .none ∧ Q (.done (.ret (.ref (h.objs.size + 1)))) s' | .ok _ => False | .error e => E e s')
      ⟨(h.push (W.kdv_tup rest)).push (excO C h.objs.size), g, d, t, os⟩) :
    wpAny (model prog w) A (Builtin.«type.__call__» ⟨.ref C :: rest, kw⟩) Q E ⟨h, g, d, t, os⟩ := by
  repeat (first | with_reducible refine wpAny_loadPart_at hC ?_ | with_reducible refine wpAny_madeBy_exc hC ?_ | wp_step)
  refine codeAny_call_builtin_code (Code.quiet_builtin _ F.quiet) (check_new_kw F hT hC ?_)
  refine new_kw F hT hC ?_ hrest
  show wpAny _ _ _ _ _ _
  have k : ∀ b o, h.get? b = some o → ((h.push (W.kdv_tup rest)).push (excO C h.objs.size)).get? b = some o := fun b o e => Heap.get?_push_of_some _ (Heap.get?_push_of_some _ e)
  have hC₁ := k _ _ hC
  have hget : ((h.push (W.kdv_tup rest)).push (excO C h.objs.size)).get? (h.objs.size + 1) = some (excO C h.objs.size) := by heap_get
  have hcC : (Value.ref C :: bm).contains (.ref C) = true := by simp
  have i1 := hi.keeps k
  have b1 := (hb (.ref (h.objs.size + 1))).keeps k
  unfold isInstance
  repeat (first | with_reducible refine wpAny_loadPart_at hget ?_ | (with_reducible refine wpAny_isSubtype_exc hC₁ ?_; rw [hcC]) | wp_step)
  show wpAny _ _ (typeLookup (.ref C) _) _ _ _
  refine i1.at ?_
  refine wpAny_holding (wpAny_bind (b1.at ?_))
  refine wpAny_bind (wpAny_call (codeAny_mono hq fun r s' z => ?_))
  rcases r with e | (v | _ | _ | _) <;> first | exact z | exact z.elim | skip
  obtain ⟨rfl, z⟩ := z
  first
    | exact wpAny_pure (wpAny_pure z)
    | (wp_walk; exact z)

theorem call_kw (F : ExcBaseFacts B newId initId bmB) (hT : ∀ X : String, bm.contains (.type X) = bmB.contains (.type X)) {rest : List Value} {kw : List (Str × Value)} {fI : Addr}
    (hC : h.get? C = some (excClassObj nm q C N bs bm hdct sn sub ab col dd k0 k1 k2 k3 k5 newId))
    (hi : W.Looks (model prog w) h (typeLookup (.ref C) "__init__") (some (.ref fI))) (hb : ∀ self, W.Looks (model prog w) h (bindSpecial (.ref fI) self) (.ref fI, [self])) (hrest : rest.length ≤ sizeLine)
    (hq : codeAny (model prog w) (A.under (.builtin "type.__call__" ⟨.ref C :: rest, kw⟩)) (.call (.ref fI) ⟨.ref (h.objs.size + 1) :: rest, kw⟩) (W.InitBack (h.objs.size + 1) R)
      ⟨(h.push (W.kdv_tup rest)).push (excO C h.objs.size), g, d, t, os⟩) :
    codeAny (model prog w) A (.call (.ref C) ⟨rest, kw⟩) R ⟨h, g, d, t, os⟩ := by
  have f1 := tc_lookup
  have f2 := tc_bind (.ref C)
  have hTy : (⟨h, g, d, t, os⟩ : Shared).TypeIs (.ref C) "type" := ⟨_, hC, rfl⟩
  refine codeAny_of_tree ?_
  show wpAny _ _ (callAny (.ref C) _) _ _ _
  repeat (any_goals (first | assumption | with_reducible refine wpAny_loadPart_at hC ?_ | wp_step))
  refine ⟨rfl, ?_⟩
  refine codeAny_call_builtin_at (Code.quiet_builtin _ (by decide +kernel)) entry_typeCall (wpAny_check_type_call_sub hC (type_call_kw F hT hC hi hb hrest ?_))
  refine codeAny_mono hq fun r s' z => ?_
  rcases r with e | (v | _ | _ | _) <;> exact z
end
end ExV
end PySem
end
section
set_option maxHeartbeats 4000000
namespace L2
open PySem PySem.Spec PyProof.Rows
/-- what is known of the class at C, of its __init__ at fI -/
structure OwnX (K : PySem.W.Frag) (C fI : Addr) : Prop where
  T : OexC K C
  iC : PySem.W.findIn K (.ref C) "__init__" = some (some (.ref fI))
  tI : PySem.W.typeIn K (.ref fI) = some (.type "function")
section
variable {X : Cx} {CX : CXT} {k n : Nat} {fI C : Addr} {fd : FuncData} {ps ks : List Str} {sp : Sp} {x : Str} {p pos : Pos} {e : Expr} {es : List Expr} {kws : List Keyword} {t tk : TA} {g : List Value → List Value → List Value} {gV : List V → List V → List V}
theorem run_mkv {pins : List (Addr × Obj)} {σ : St} {H : Hp} {s : Shared} {Q : VK} {us ws : List Value} {vs zs : List V} (O : OwnX X.K C fI)
    (F1 : FnOk X.prog X.w X.K X.mg X.base CX k fI fd ps sp) (hr : Room (k + 1) X.A) (hb : KBn X.K fd ps (n + 1) ks g gV) (hx : Passes CX X (fun _ _ _ => False)) (hn : n ≤ 1000)
    (I : Inv X pins σ H s) (r : Vals vs us) (rz : Vals zs ws) (l1 : vs.length = n) (l2 : zs.length = ks.length)
    (h : ∀ a, H a = none → sp (gV (.ref a :: vs) zs) (upd H a (exo a C none)) (fun v H3 => v = .non ∧ Q (.ref a) H3) (fun _ _ _ => False)) :
    wpAny (model X.prog X.w) X.A (call (.ref C) us (ks.zip ws)) (EP X pins σ Q) X.xe s := by
  obtain ⟨cn, cq, cN, cbs, cbm, csn, csub, cab, ccol, cdd, z0, z1, z2, z3, z5, isC, isR⟩ := O.T.cls
  obtain ⟨H0, gg, dr, tt, oo⟩ := s
  let a : Addr := H0.objs.size + 1
  let H9 : Heap := (H0.push (PySem.W.kdv_tup us)).push (PySem.HandSPX.excO C H0.objs.size)
  have up : ∀ b o, H0.get? b = some o → H9.get? b = some o := fun b o q => Heap.get?_push_of_some _ (Heap.get?_push_of_some _ q)
  have at9 : H9.get? a = some (PySem.HandSPX.excO C H0.objs.size) := by
    show ((H0.push (PySem.W.kdv_tup us)).push (PySem.HandSPX.excO C H0.objs.size)).get? (H0.objs.size + 1) = _
    heap_get
  have free : H a = none := I.hok.fresh (show H0.objs.size ≤ a from Nat.le_succ _)
  have J : Inv X pins σ (upd H a (exo a C none)) ⟨H9, gg, dr, tt, oo⟩ := I.laid (t' := tt) (a := a) (o := exo a C none) (h' := H9) up (Nat.le_succ _) (exo_ok at9)
  have rel := hb.rel (vs := V.ref a :: vs) (us := Value.ref a :: us) (.cons rfl r) rz
  have lu : us.length = n := r.length.symm.trans l1
  have small : us.length ≤ sizeLine := by rw [lu, sizeLine_eq]; omega
  have bnd := hb.to (⟨H9, gg, dr, tt, oo⟩ : Shared) (Value.ref a :: us) ws J.kIn (by rw [List.length_cons, lu]) (rz.length.symm.trans l2)
  refine wpAny_call (PySem.ExV.call_kw F.excBase_ValueError (fun Y => PySem.HandSPX.refsVE_contains Y cbm isR) (I.kIn _ _ isC) (PySem.W.looks_findIn I.kIn O.iC) (fun self => PySem.W.bind_fn I.kIn self O.tI) small
    (codeAny_mono (F1.run _ X.stack ⟨H9, gg, dr, tt, oo⟩ _ ⟨Value.ref a :: us, ks.zip ws⟩ _ _ _ (fun _ _ _ => False) (hr.make C us (ks.zip ws)) (J.env0.make C us (ks.zip ws)) bnd rel (h a free)) fun res s9 got => ?_))
  cases res with
  | error er => exact hx pins σ _ _ er s9 J got
  | ok fl =>
    cases fl with
    | ret u =>
      obtain ⟨v, H', I3, rv, ev, q3⟩ := J.after got
      subst ev
      exact ⟨rv, ⟨V.ref a, H', I3, rfl, q3⟩⟩
    | next => exact got.elim
    | brk => exact got.elim
    | cont => exact got.elim
end
end L2
end
section
set_option maxHeartbeats 4000000
namespace PySem
namespace ExV
open PySem.W PyProof.Rows
section
variable {prog : Program} {w : World} {A : Around} {E : Value → Shared → Prop} {s : Shared} {K : Frag} {x D : Addr} {ox : Obj} {od : Option Obj}
/-- what the class must say -/
structure ClsX (K : Frag) (D : Addr) : Prop where
  ga : findIn K (.ref D) "__getattribute__" = some (some (.builtin "BaseException.__getattribute__"))
  gt : findIn K (.ref D) "__getattr__" = some none
  su : subIn K (.ref D) (.type "BaseException") = some true
  di : hasDictIn K D = true
  cl : findIn K (.ref D) "__class__" = some (some (.builtin "object.__class__"))
  sp : specialIn K (.builtin "object.__class__") "__get__" = some (some (.builtin "getset_descriptor.__get__"))
  tk : takesIn K (.builtin "object.__class__") = some true
  mr : mroIn K D (.type "object") = some true
end
end ExV
end PySem
namespace L2
open PySem PySem.Spec PyProof.Rows
end L2
end
section
set_option maxHeartbeats 4000000
namespace L2
open PySem PySem.Spec PyProof.Rows
theorem Same.new {H H' : Hp} {p : Addr} {o : HO} (a : Same H H') (hp : H' p = none) : Same H (upd H' p o) := fun x u e => by
  rw [upd_ne (ne_of_none (a x u e) hp)]
  exact a x u e
/-- what an __init__ that stores its one value keeps -/
def spI1 (C : Addr) (f : Str) : Sp := fun vs H Q _ => ∃ (a : Addr) (v : V), vs = [.ref a, v] ∧ H a = some (exo a C none) ∧ ∀ dx, H dx = none → dx ≠ a → Q .non (upd (upd H dx (exd dx [(f, v)])) a (exo a C (some dx)))
/-- an error class with one field -/
structure One (P : Program) (w : World) (K : PySem.W.Frag) (mg : Str → Option Value) (base : Heap) (C : Addr) (cls f : Str) : Prop where
  ex : ∃ (fI : Addr) (fd : FuncData), OwnX K C fI ∧ FnOk P w K mg base CX0 1 fI fd ["self", f] (spI1 C f) ∧ KBn K fd ["self", f] 2 [] (fun us _ => us) (fun vs _ => vs) ∧
    KBn K fd ["self", f] 1 [f] (fun us ws => us ++ ws) (fun vs zs => vs ++ zs)
  g : mg cls = some (.ref C)
  Z : PySem.ExV.ClsX K C
  no : PySem.W.findIn K (.ref C) f = some none
/-- .. none -/
structure Bare (K : PySem.W.Frag) (mg : Str → Option Value) (C : Addr) (cls : Str) : Prop where
  q : PySem.W.excIn K C [.type "ValueError", .type "Exception", .type "BaseException", .type "object"] "ValueError.__new__" = true
  kC : PySem.W.keepIn K (.ref C) = true
  g : mg cls = some (.ref C)
  Z : PySem.ExV.ClsX K C
/-- a new error with the fields fs -/
def NewX (C : Addr) (fs : List (Str × V)) (H : Hp) (Q : VK) : Prop := ∀ (a dx : Addr) (H' : Hp), H a = none → H dx = none → Same H H' → H' a = some (exo a C (some dx)) → H' dx = some (exd dx fs) → dx ≠ a → Q (.ref a) H'
theorem NewX.one {C : Addr} {f : Str} {v : V} {H : Hp} {Q : VK} (q : NewX C [(f, v)] H Q) (a : Addr) (ha : H a = none) :
    spI1 C f [.ref a, v] (upd H a (exo a C none)) (fun u H3 => u = .non ∧ Q (.ref a) H3) (fun _ _ _ => False) :=
  ⟨a, v, rfl, upd_same, fun dx hd ne => ⟨rfl, q a dx _ ha (by rw [upd_ne ne] at hd; exact hd)
    (fun b o e => by
      have n1 := ne_of_none e ha
      have n2 : b ≠ dx := fun z => by rw [z] at e; rw [upd_ne ne, e] at hd; cases hd
      rw [upd_ne n1, upd_ne n2, upd_ne n1]; exact e) upd_same (by rw [upd_ne ne, upd_same]) ne⟩⟩
section
variable {X : Cx} {C : Addr} {cls f h : Str} {p pos : Pos} {e e2 : Expr} {te te2 : TE} {apos kp1 kp2 : Pos}
def tOneV (C : Addr) (f : Str) (te : TE) : TE := fun σ H Q => te σ H fun v H1 => NewX C [(f, v)] H1 Q
def tBareV (C : Addr) : TE := fun _ H Q => ∀ (a : Addr) (H' : Hp), H a = none → Same H H' → H' a = some (ExO (.ref C) a) → Q (.ref a) H'
variable {pins : List (Addr × Obj)} {σ : St} {H : Hp} {s : Shared} {Q : VK} {v u : V} {v' u' : Value}
theorem run_one1 (R : One X.prog X.w X.K X.mg X.base C cls f) (hr : Room 2 X.A) (I : Inv X pins σ H s) (r : RelV v v') (q : NewX C [(f, v)] H Q) : wpAny (model X.prog X.w) X.A (call (.ref C) [v'] []) (EP X pins σ Q) X.xe s := by
  obtain ⟨fI, fd, O, F, b1, _⟩ := R.ex
  exact run_mkv (us := [v']) (vs := [v]) (ws := []) (zs := []) O F hr b1 pass0 (by decide) I (.cons r .nil) .nil rfl rfl (q.one)
/-- C(e) -/
theorem pe_one1 (R : One X.prog X.w X.K X.mg X.base C cls f) (hr : Room 2 X.A) (he : PE X e te) (hg : Gl X cls := by rfl) (hdb : (cls == ("__debug__" : Str)) = false := by decide)
    (hs : starEach [e] X.env = (false, eval e X.env) :: starEach [] X.env := by rfl) : PE X (.Call (.Name cls p) [e] [] pos) (tOneV C f te) := by
  refine ⟨fun pins s σ H Q I h => wpAny_Call_Name_kw (ld_glob I hg R.g ?_ hdb)⟩
  refine PySem.W.callWith_K (h₀ := X.base) I.ok.mod.kin (let ⟨_, _, O, _⟩ := R.ex; O.T.kC) ?_ hs (by rfl)
  rw [hs]
  show wpAny _ _ (spliced ((false, eval e X.env) :: backTo pos (starEach [] X.env))) _ _ s
  exact Calls.spliced_cons (thn (he.run pins s σ H _ I h) fun w1 s1 ⟨x, H1, I1, r1, q1⟩ => Calls.spliced_nil ⟨I1.kIn, run_one1 R hr I1 r1 q1⟩)
/-- C() -/
theorem pe_bare (R : Bare X.K X.mg C cls) (hg : Gl X cls := by rfl) (hdb : (cls == ("__debug__" : Str)) = false := by decide) : PE X (.Call (.Name cls p) [] [] pos) (tBareV C) := by
  refine ⟨fun pins s σ H Q I h => wpAny_Call_Name_kw (ld_glob I hg R.g ?_ hdb)⟩
  refine PySem.W.callWith_K0 I.kIn R.kC ?_
  show wpAny _ _ (call (.ref C) []) _ _ _
  obtain ⟨bm, N, nm, qn, bs, hdct, sn, sub, ab, col, dd, k0, k1, k2, k3, k5, mN, hC, hN, hni, T⟩ := exc_obj I.kIn R.q
  obtain ⟨h0, g0, d0, t0, o0⟩ := s
  refine wpAny_call_exc_subT F.excBase_ValueError T hC hN hni (fun h' a hm => ?_) (by show 0 ≤ sizeLine; exact Nat.zero_le _)
  have hn : H a = none := I.hok.gone hm.new
  obtain ⟨t, ht, _, _⟩ := hm.there
  exact ⟨.ref a, upd H a (ExO (.ref C) a), I.laidN hm.keeps hm.new hn (exO_ok ht ⟨rfl, rfl⟩ rfl rfl rfl (show 4 < 6 by decide)), rfl, h a _ hn (Same.new (fun _ _ e => e) hn) upd_same⟩
end
end L2
end
section
set_option maxHeartbeats 4000000
namespace L2
open PySem PySem.Spec PyProof.Rows
section
variable {X : Cx}
/-- an expression that gives a new error with its dict: what is raised -/
theorem pmk_retX {e : Expr} {te : TE} (hx : X.ex = []) (he : PE X e te) :
    PMk X e (fun σ H Q => te σ H fun x H1 => ∃ (a C dx : Addr), x = .ref a ∧ H1 a = some (exo a C (some dx)) ∧ Fr0 X.H_0 a ∧ Raises X (.ref C) ∧ Q (.ref C) (some dx) (delH H1 a)) := by
  intro pins s σ H Q I h
  refine wpAny_mono (he.run pins s σ H _ I h) (fun u s1 got => ?_) fun _ _ z => z
  obtain ⟨v, H1, I1, r1, a, C, dx, rfl, ea, fr, ra, q⟩ := got
  cases (show u = Value.ref a from r1)
  obtain ⟨t1, at_⟩ := exo_at I1.hok ea
  obtain ⟨G, sub, gone, J⟩ := I1.untrack ea fr hx
  exact ⟨a, _, _, { s1 with heap := G }, delH H1 a, .ref C, some dx, rfl, J, sub, gone, at_, ⟨rfl, rfl⟩, rfl, rfl, delH_same, rfl, I1.bare, ra, q⟩
end
/-- how an __init__ with one value is called -/
theorem kb1 {K : PySem.W.Frag} {st : Stmt} {f qual : Str} {fI : Addr} {fd : FuncData} (F : Fun K "__init__" qual st fI fd)
    (h1 : ∀ (kV doc pm : Value) (an : Option Addr) (cdv ct a b : Value), bindArgs (PySem.W.fnOf "__init__" qual (defArgs st) (defBody st) (defScope st) .none kV doc pm an cdv ct) ⟨[a, b], []⟩ = pure [(("self" : Str), a), (f, b)])
    (h2 : ∀ (kV doc pm : Value) (an : Option Addr) (cdv ct a b : Value), bindArgs (PySem.W.fnOf "__init__" qual (defArgs st) (defBody st) (defScope st) .none kV doc pm an cdv ct) ⟨[a], [(f, b)]⟩ = pure [(("self" : Str), a), (f, b)]) :
    KBn K fd ["self", f] 2 [] (fun us _ => us) (fun vs _ => vs) ∧ KBn K fd ["self", f] 1 [f] (fun us ws => us ++ ws) (fun vs zs => vs ++ zs) := by
  obtain ⟨oc, od, kV, doc, pm, an, cdv, ct, osl, rfl, lk, hcd⟩ := F.ex
  refine ⟨⟨fun s us ws X l1 l2 => ?_, fun r _ => r⟩, ⟨fun s us ws X l1 l2 => ?_, fun r rz => r.append rz⟩⟩
  · match us, ws, l1, l2 with
    | [a, b], [], _, _ => exact .of_eq (h1 kV doc pm an cdv ct a b)
  · match us, ws, l1, l2 with
    | [a], [b], _, _ => exact .of_eq (h2 kV doc pm an cdv ct a b)
end L2
end
section
set_option maxHeartbeats 4000000
namespace PySem
namespace OwnB
open PySem.W PySem.Calls PyProof.Rows
section
variable {prog : Program} {w : World} {A : Around} {E : Value → Shared → Prop} {s : Shared} {K : Frag} {x C f g : Addr} {ox : Obj} {od : Option Obj} {T : String} {a : Value} {op : Operator} {Q : Value → Shared → Prop}
/-- x op a: the class of x has the operator, a is of a built-in type -/
theorem left_own {fo ro rc : Option Value} (X : K.In s.heap) (I : InstAt s.heap x ox C od) (ha : Looks (model prog w) s.heap (typeOf a) (.type T)) (hc : selfFirst K C = true)
    (hs : findIn K (.ref C) (PySem.dunder op.info.2) = some (some (.ref f))) (hf : isFn K (.ref f) = true) (hr : findIn K (.ref C) (dunderR op.info.2) = some rc) (hp : rc = none ∨ ∃ g : Addr, rc = some (.ref g))
    (h1 : findIn K (.type T) (PySem.dunder op.info.2) = some fo) (h2 : findIn K (.type T) (dunderR op.info.2) = some ro) (hsub : subIn K (.type T) (.ref C) = some false)
    (h : wpAny (model prog w) A (call (.ref f) [.ref x, a]) (W.CmpBack Q) E s) : wpAny (model prog w) A (binaryOp op (.ref x) a) Q E s := by
  obtain ⟨cd, rest, hcd, hm⟩ := ksp_first hc
  rcases hi : op.info with ⟨sym, nm'⟩
  rw [hi] at hs hr h1 h2
  dsimp only at hs hr h1 h2
  have one := ksp_try X I hs hf h
  obtain ⟨hh, g9, d9, tt, os⟩ := s
  have y1 : Looks (model prog w) hh (typeOf (.ref x)) (.ref C) := I.type
  have y2 : Looks (model prog w) hh (typeOf a) (.type T) := ha
  have y3 : Looks (model prog w) hh (fillsNumberSlot (.ref C) nm') true := fills_K X hcd hm hs
  have y4 : Looks (model prog w) hh (fillsNumberSlot (.type T) nm') ((fo.isSome && !isSeqSlot fo) || (ro.isSome && !isSeqSlot ro)) := ksp_fillsT X h1 h2
  have y5 : Looks (model prog w) hh (isSubtype (.type T) (.ref C)) false := looks_subIn X hsub
  have y6 : Looks (model prog w) hh (numberSlotInPython (.ref C) nm') true := ksp_inPy X hs hr hp
  have y7 : Looks (model prog w) hh (numberSlotInPython (.type T) nm') false := Looks.of_pure rfl
  have y8 : Looks (model prog w) hh (typeLookup (.type T) (dunderR nm')) ro := looks_findIn X h2
  generalize ((fo.isSome && !isSeqSlot fo) || (ro.isSome && !isSeqSlot ro)) = right at y4
  have ne : (Value.ref C == Value.type T) = false := Bool.eq_false_iff.mpr fun q => by cases beq_iff_eq.mp q
  simp only [binaryOp, hi]
  refine wpAny_holding (wpAny_bind ?_)
  unfold binaryOp1
  refine wpAny_bind (y1.at (wpAny_bind (y2.at (wpAny_bind (y3.at ?_)))))
  simp only [ne, Bool.false_eq_true, if_false]
  cases right <;>
  · ksp_lk
    refine wpAny_mono one (fun r s' hr' => ?_) fun _ _ e => e
    obtain ⟨v, rfl, hq⟩ := hr'
    ksp_lk
    exact hq
end
end OwnB
end PySem
end
section
set_option maxHeartbeats 4000000
namespace PySem
namespace OwnB
open PySem.W PySem.Calls PyProof.Rows
theorem no_ref (C : Addr) : ∀ l : List String, (l.map Value.type).contains (.ref C) = false
  | [] => rfl
  | a :: l => by
    rw [List.map_cons, List.contains_cons, no_ref C l]
    rfl
theorem sub_type {K : Frag} {C : Addr} {T : String} (h : (fastBuiltinMro T).isSome = true) : subIn K (.type T) (.ref C) = some false := by
  show (fastBuiltinMro T).map (·.contains (.ref C)) = some false
  unfold fastBuiltinMro at h ⊢
  cases e : fastFind? T with
  | none => rw [e] at h; cases h
  | some i => rw [Option.map_some, Option.map_some, no_ref]
theorem look_type {K : Frag} {T : String} (n : Str) (h : (fastBuiltinMro T).isSome = true) : ∃ fo, findIn K (.type T) n = some fo := by
  show ∃ fo, fastLookup T n = some fo
  unfold fastLookup
  cases e : fastBuiltinMro T with
  | none => rw [e] at h; cases h
  | some l => exact ⟨_, rfl⟩
end OwnB
end PySem
end
section
set_option maxHeartbeats 4000000
namespace L2
open PySem PySem.Spec PyProof.Rows
/-- a class right below object -/
structure Top1 (K : PySem.W.Frag) (C : Addr) : Prop where
  mr : ∃ cd : ClassData, PySem.W.clsIn K C = some cd ∧ cd.mro = [.ref C, .type "object"]
  sf : PySem.W.selfFirst K C = true
theorem Top1.sub {K : PySem.W.Frag} {C : Addr} (t : Top1 K C) (u : Value) : PySem.W.subIn K (.ref C) u = some (([Value.ref C, .type "object"] : List Value).contains u) := by
  obtain ⟨cd, h1, h2⟩ := t.mr
  show PySem.W.mroIn K C u = _
  unfold PySem.W.mroIn
  rw [h1, Option.bind_some, h2]
  rfl
theorem Top1.no {K : PySem.W.Frag} {C : Addr} (t : Top1 K C) {T : String} (h : T ≠ "object") : PySem.W.subIn K (.ref C) (.type T) = some false := by
  rw [t.sub]
  simp [h]
/-- its operator: the def f, the other way round g -/
structure OpC (K : PySem.W.Frag) (C f g : Addr) (op : Operator) : Prop where
  hs : PySem.W.findIn K (.ref C) (PySem.dunder op.info.2) = some (some (.ref f))
  hf : PySem.W.isFn K (.ref f) = true
  hr : PySem.W.findIn K (.ref C) (PySem.dunderR op.info.2) = some (some (.ref g))
  hg : PySem.W.isFn K (.ref g) = true
/-- a built-in type without such an operator for numbers -/
def numFree (T nm : String) : Bool := (fastBuiltinMro T).isSome && (match fastLookup T (PySem.dunder nm), fastLookup T (PySem.dunderR nm) with
  | some fo, some ro => !((fo.isSome && !isSeqSlot fo) || (ro.isSome && !isSeqSlot ro))
  | _, _ => false)
/-- a value of a built-in type -/
inductive Blt (K : PySem.W.Frag) (H : Hp) (nm : String) : V → Prop where
  | int (i : Int) : Blt K H nm (.int i)
  | bl (b : Bool) : Blt K H nm (.bl b)
  | free {x : V} {T : String} (h : TyX K H x (.type T)) (n : numFree T nm = true) (o : T ≠ "object") : Blt K H nm x
def rOwnL (K : PySem.W.Frag) (C : Addr) (nm : String) (sp : Sp) (E : XK) : R2 := fun x y H Q => ∃ (a dx : Addr) (fs : List (Str × V)), x = .ref a ∧ H a = some (.ins C dx fs) ∧
  ((∃ (b dy : Addr) (gs : List (Str × V)), y = .ref b ∧ H b = some (.ins C dy gs)) ∨ Blt K H nm y) ∧ sp [x, y] H Q E
section
variable {X : Cx} {CX : CXT} {k : Nat} {f g C : Addr} {fd : FuncData} {ps : List Str} {sp : Sp} {E : XK} {op : Operator} {pins : List (Addr × Obj)} {σ : St} {H : Hp} {s : Shared}
theorem inst_ins (I : Inv X pins σ H s) {a dx : Addr} {fs : List (Str × V)} (e : H a = some (.ins C dx fs)) : ∃ od : Obj, PySem.W.InstAt s.heap a (PySem.W.instObj C dx) C (some od) := by
  obtain ⟨mA, O, _⟩ := ins_get I.hok e
  obtain ⟨od, J, _⟩ := O.look
  exact ⟨od, J⟩
theorem back {Q : VK} {α : Type} {t : Sem Value} (h : wpAny (model X.prog X.w) X.A t (EP X pins σ Q) X.xe s) : wpAny (model X.prog X.w) X.A t (PySem.W.CmpBack (EP X pins σ Q)) X.xe s :=
  thn h fun u s1 ⟨v, H1, I1, r, q⟩ => by
    have z : EP X pins σ Q u s1 := ⟨v, H1, I1, r, q⟩
    cases v with
    | non => cases (show u = Value.none from r); exact z
    | bl b => cases (show u = Value.bool b from r); exact z
    | int i => obtain ⟨t, rfl⟩ := (show ∃ t, u = Value.int i t from r); exact z
    | str i => obtain ⟨t, rfl⟩ := (show ∃ t, u = Value.str i t from r); exact z
    | byt i => obtain ⟨t, rfl⟩ := (show ∃ t, u = Value.bytes i t from r); exact z
    | flt i => obtain ⟨t, rfl⟩ := (show ∃ t, u = Value.float i t from r); exact z
    | ref i => cases (show u = Value.ref i from r); exact z
    | ty i => cases (show u = Value.type i from r); exact z
theorem blt_look (I : Inv X pins σ H s) {nm : String} {y : V} {u : Value} (r : RelV y u) (b : Blt X.K H nm y) : ∃ T, PySem.W.Looks (model X.prog X.w) s.heap (typeOf u) (.type T) ∧ (fastBuiltinMro T).isSome = true ∧ T ≠ "object" := by
  cases b with
  | int i =>
    obtain ⟨t, rfl⟩ := (show ∃ t, u = Value.int i t from r)
    exact ⟨"int", PySem.W.Looks.of_pure rfl, by decide +kernel, by decide⟩
  | bl b =>
    cases (show u = Value.bool b from r)
    exact ⟨"bool", PySem.W.Looks.of_pure rfl, by decide +kernel, by decide⟩
  | @free x T h n o =>
    obtain ⟨P, Z, p, _⟩ := kit_of I r h
    unfold numFree at n
    exact ⟨T, Z.ty _ _ I.kIn p, (Bool.and_eq_true_iff.mp n).1, o⟩
theorem op_ownL (t : Top1 X.K C) (O : OpC X.K C f g op) (F : FnOk X.prog X.w X.K X.mg X.base CX k f fd ps sp) (hr : Room k X.A) (hb : Binds X.K fd ps []) (hx : Passes CX X E) : OpR X (binaryOp op) (rOwnL X.K C op.info.2 sp E) := by
  intro pins s σ H x y v u Q I rx ry h
  obtain ⟨a, dx, fs, rfl, ea, hy, q⟩ := h
  cases (show v = Value.ref a from rx)
  obtain ⟨od, J⟩ := inst_ins I ea
  have go : wpAny (model X.prog X.w) X.A (call (.ref f) [.ref a, u]) (PySem.W.CmpBack (EP X pins σ Q)) X.xe s :=
    back (α := Unit) (run_fn (vs := [.ref a, y]) (dvs := []) F hr hb .nil hx I (.cons rfl (.cons ry .nil)) (by rw [List.append_nil]; exact q))
  obtain ⟨m, fr⟩ := I.fr
  rcases hy with ⟨b, dy, gs, rfl, eb⟩ | hy
  · cases (show u = Value.ref b from ry)
    obtain ⟨od2, J2⟩ := inst_ins I eb
    exact PySem.W.binop_K fr I.ok.mod.kin J J2.type t.sf O.hs O.hf go
  · obtain ⟨T, L, hT, hno⟩ := blt_look I ry hy
    obtain ⟨fo, h1⟩ := PySem.OwnB.look_type (K := X.K) (PySem.dunder op.info.2) hT
    obtain ⟨ro, h2⟩ := PySem.OwnB.look_type (K := X.K) (PySem.dunderR op.info.2) hT
    exact PySem.OwnB.left_own I.kIn J L t.sf O.hs O.hf O.hr (.inr ⟨_, rfl⟩) h1 h2 (PySem.OwnB.sub_type hT) go
/-- -x -/
theorem un_own (hs : PySem.W.findIn X.K (.ref C) "__neg__" = some (some (.ref f))) (hf : PySem.W.isFn X.K (.ref f) = true) (F : FnOk X.prog X.w X.K X.mg X.base CX k f fd ps sp) (hr : Room k X.A) (hb : Binds X.K fd ps []) (hx : Passes CX X E) :
    UnR X (unaryOp .USub) (fun x H Q => ∃ (a dx : Addr) (fs : List (Str × V)), x = .ref a ∧ H a = some (.ins C dx fs) ∧ sp [x] H Q E) := by
  intro pins s σ H x v Q I rx h
  obtain ⟨a, dx, fs, rfl, ea, q⟩ := h
  cases (show v = Value.ref a from rx)
  obtain ⟨od, J⟩ := inst_ins I ea
  obtain ⟨m, fr⟩ := I.fr
  exact PySem.W.ksp_neg fr I.ok.mod.kin J hs hf (run_fn (vs := [.ref a]) (dvs := []) F hr hb .nil hx I (.cons rfl .nil) (by rw [List.append_nil]; exact q))
end
end L2
end
section
set_option maxHeartbeats 4000000
namespace PySem
namespace OwnB
open PySem.W PySem.Calls PyProof.Rows
end OwnB
end PySem
namespace L2
open PySem PySem.Spec PyProof.Rows
section
variable {X : Cx} {CX : CXT} {k : Nat} {f C : Addr} {fd : FuncData} {ps : List Str} {sp : Sp} {E : XK}
/-- what stands right of an own == : another one, or a value of a built-in type -/
inductive AnyT (K : PySem.W.Frag) (H : Hp) (C : Addr) : V → Prop where
  | ins {b dx : Addr} {fs : List (Str × V)} (e : H b = some (.ins C dx fs)) : AnyT K H C (.ref b)
  | blt {x : V} {T : String} (h : TyX K H x (.type T)) (n : (fastBuiltinMro T).isSome = true) : AnyT K H C x
theorem op_eqOwn (hu : X.A.units < cLine) (hs : PySem.W.findIn X.K (.ref C) "__eq__" = some (some (.ref f))) (hf : PySem.W.isFn X.K (.ref f) = true) (F : FnOk X.prog X.w X.K X.mg X.base CX k f fd ps sp) (hr : Room k X.A) (hb : Binds X.K fd ps []) (hx : Passes CX X E) :
    OpR X (compareOp .Eq) (fun x y H Q => ∃ (a dx : Addr) (fs : List (Str × V)), x = .ref a ∧ H a = some (.ins C dx fs) ∧ AnyT X.K H C y ∧ sp [x, y] H Q E) := by
  intro pins s σ H x y v u Q I rx ry h
  obtain ⟨a, dx, fs, rfl, ea, hy, q⟩ := h
  cases (show v = Value.ref a from rx)
  obtain ⟨od, J⟩ := inst_ins I ea
  have go : wpAny (model X.prog X.w) X.A (call (.ref f) [.ref a, u]) (PySem.W.CmpBack (EP X pins σ Q)) X.xe s :=
    back (α := Unit) (run_fn (vs := [.ref a, y]) (dvs := []) F hr hb .nil hx I (.cons rfl (.cons ry .nil)) (by rw [List.append_nil]; exact q))
  obtain ⟨m, fr⟩ := I.fr
  show wpAny _ _ (richCompare .Eq (.ref a) u) _ _ _
  cases hy with
  | @ins b dy gs e =>
    cases (show u = Value.ref b from ry)
    obtain ⟨od2, J2⟩ := inst_ins I e
    exact PySem.W.cmp_K hu fr I.ok.mod.kin J J2.type (by unfold PySem.W.notFirst; simp) hs hf go
  | @blt _ T h n =>
    obtain ⟨P, Z, p, _⟩ := kit_of I ry h
    refine PySem.W.cmp_K hu fr I.ok.mod.kin J (Z.ty _ _ I.kIn p) ?_ hs hf go
    unfold PySem.W.notFirst
    rw [PySem.OwnB.sub_type n]
    simp
end
end L2
end
section
set_option maxHeartbeats 4000000
namespace L2
open PySem PySem.Spec PyProof.Rows
/-- // by any divisor but 0 below 2 ^ 9000 -/
def CDivZ (_ j : Int) : Prop := j ≠ 0 ∧ j.natAbs.log2 < 9000
theorem op_fdivZ {X : Cx} : OpR X (binaryOp .FloorDiv) (rI CDivZ fun i j => .int (i.fdiv j)) := opI fun i j _ _ _ _ _ hc q => floordiv_int hc.1 q (.inl (PyProof.noPylong_of_log2 hc.2))
theorem passK {X : Cx} {E : XK} (tk : Takes X (fun cls d _ H => E cls d H)) : Passes (L2.CX X.prog X.w) X E := fun pins σ H s e s' I c => passAt tk σ pins H s e s' I c
/-- what is no integer: isinstance tells so -/
def NoInt (K : PySem.W.Frag) (H : Hp) (v : V) : Prop := ∃ (t : Value) (b c : Bool), TyX K H v t ∧ PySem.W.kitOne K t (.type "int") = some b ∧ PySem.W.kitOne K t (.type "bool") = some c ∧ (b && !c) = false
end L2
namespace K03
open PySem PySem.Spec PyProof.Rows L2
structure TxtR (mg : Str → Option Value) : Prop where
  int : mg "int" = none
  bool : mg "bool" = none
  isi : mg "isinstance" = none
  abs : mg "abs" = none
  str : mg "str" = none
  list : mg "list" = none
  len : mg "len" = none
  range : mg "range" = none
  min : mg "min" = none
  all : mg "all" = none
  gcd : mg "gcd" = some (.builtin "math.gcd")
/-- the classes of errors -/
structure ErrR (P : Program) (w : World) (K : PySem.W.Frag) (mg : Str → Option Value) (base : Heap) (cB cN : Addr) : Prop where
  B : One P w K mg base cB "BadValue" "value"
  N : Bare K mg cN "NoDivisor"
  tB : PySem.W.typeIn K (.ref cB) = some (.type "type")
  tN : PySem.W.typeIn K (.ref cN) = some (.type "type")
/-- BadValue(v) leaves -/
def Bad (cB : Addr) (v : V) (H : Hp) (E : XK) : Prop := ∀ (d : Addr) (H' : Hp), H d = none → Same H H' → H' d = some (exd d [("value", v)]) → E (.ref cB) (some d) H'
/-- NoDivisor() leaves -/
def NoDiv (cN : Addr) (H : Hp) (E : XK) : Prop := ∀ (H' : Hp), Same H H' → E (.ref cN) none H'
abbrev iBad : Stmt := inClass (top 4) 0
abbrev sIsInt : Stmt := top 7
abbrev sNeed : Stmt := top 10
def spIsInt (K : PySem.W.Frag) : Sp := fun vs H Q _ => ∃ v, vs = [v] ∧ (((∃ i, v = .int i) ∧ Q (.bl true) H) ∨ (NoInt K H v ∧ Q (.bl false) H))
def spNeed (K : PySem.W.Frag) (cB : Addr) : Sp := fun vs H Q E => ∃ v, vs = [v] ∧ (((∃ i, v = .int i) ∧ Q .non H) ∨ (NoInt K H v ∧ Bad cB v H E))
theorem same_del {H H' : Hp} {a : Addr} (s : Same H H') (ha : H a = none) : Same H (delH H' a) := fun b o e => by
  rw [delH_ne (ne_of_none e ha)]
  exact s b o e
section
variable {P : Program} {w : World} {K : PySem.W.Frag} {mg : Str → Option Value} {base : Heap} {cB cN : Addr}
theorem sBad : FnScope ["self", "value"] ["self", "value"] (defScope iBad) := ⟨rfl, rfl, rfl, by decide +kernel, rfl, by decide +kernel, by decide +kernel⟩
theorem oBad {fI C : Addr} {fd : FuncData} (F : Fun K "__init__" "BadValue.__init__" iBad fI fd) (O : OwnX K C fI) (g : mg "BadValue" = some (.ref C)) (Z : PySem.ExV.ClsX K C) (no : PySem.W.findIn K (.ref C) "value" = some none) : One P w K mg base C "BadValue" "value" := by
  obtain ⟨b1, b2⟩ := kb1 (f := "value") F (fun _ _ _ _ _ _ _ _ => rfl) (fun _ _ _ _ _ _ _ _ => rfl)
  refine ⟨⟨fI, fd, O, F.ok sBad (fun vs H Q E h => ?_) (fun cdv A outer s H vs Q E hr h => ?_), b1, b2⟩, g, Z, no⟩
  · obtain ⟨a, v, rfl, _⟩ := h
    rfl
  · obtain ⟨a, v, rfl, ha, k⟩ := h
    exact ⟨_, pss_one (ps_ost (pv 0) (pv 1)), _, rfl, _, rfl, a, C, rfl, O.T, no, .inl ⟨ha, fun dx hd ne => k dx hd ne⟩⟩
theorem scIsInt : FnScope ["value"] ["value"] (defScope sIsInt) := ⟨rfl, rfl, rfl, by decide +kernel, rfl, by decide +kernel, by decide +kernel⟩
theorem ok_isInt {f : Addr} {fd : FuncData} (F : Fun K "is_integer" "is_integer" sIsInt f fd) (T : TxtR mg) : FnOk P w K mg base CX0 1 f fd ["value"] (spIsInt K) := by
  refine F.ok scIsInt (fun vs H Q E h => ?_) (fun cdv A outer s H vs Q E hr h => ?_)
  · obtain ⟨v, rfl, _⟩ := h
    rfl
  · obtain ⟨v, rfl, k⟩ := h
    refine ⟨_, pss_one (ps_ret (pe_and (pe_callB call_isi (by rfl) T.isi (by decide +kernel) (pa_cons (pv 0) (pa_cons (pe_bltn (v := .ty "int") (u := .type "int") (by rfl) T.int (by decide +kernel) rfl) pa_nil)))
      (pe_one (pe_not (pe_callB call_isi (by rfl) T.isi (by decide +kernel) (pa_cons (pv 0) (pa_cons (pe_bltn (v := .ty "bool") (u := .type "bool") (by rfl) T.bool (by decide +kernel) rfl) pa_nil))))))), ?_⟩
    rcases k with ⟨⟨i, rfl⟩, q⟩ | ⟨⟨t, b, c, ty, h1, h2, h3⟩, q⟩
    · refine ⟨_, rfl, _, .ty "int", .type "int", .type "int", true, rfl, .ty _, .base (.int i), kit_ty (by decide +kernel), true, rfl, ?_⟩
      exact ⟨_, rfl, _, .ty "bool", .type "int", .type "bool", false, rfl, .ty _, .base (.int i), kit_ty (by decide +kernel), _, rfl, q⟩
    · refine ⟨_, rfl, _, .ty "int", t, .type "int", b, rfl, .ty _, ty, h1, b, rfl, ?_⟩
      cases b with
      | false => exact q
      | true =>
        have hc : c = true := by simpa using h3
        subst hc
        exact ⟨_, rfl, _, .ty "bool", t, .type "bool", true, rfl, .ty _, ty, h2, _, rfl, q⟩
theorem scNeed : FnScope ["value"] ["value"] (defScope sNeed) := ⟨rfl, rfl, rfl, by decide +kernel, rfl, by decide +kernel, by decide +kernel⟩
theorem ok_need {f fi : Addr} {fd fdi : FuncData} (F : Fun K "need_integer" "need_integer" sNeed f fd) (G : FnOk P w K mg base CX0 1 fi fdi ["value"] (spIsInt K)) (gi : mg "is_integer" = some (.ref fi)) (kp : PySem.W.keepIn K (.ref fi) = true) (bi : Binds K fdi ["value"] []) (T : ErrR P w K mg base cB cN) :
    FnOk P w K mg base (L2.CX P w) 3 f fd ["value"] (spNeed K cB) := by
  refine F.okX scNeed (fun vs H Q E h => ?_) (fun cdv A outer s H vs Q E hr h => ?_)
  · obtain ⟨v, rfl, _⟩ := h
    rfl
  · obtain ⟨v, rfl, k⟩ := h
    have hr1 : Room 1 _ := hr.mono (by decide)
    refine ⟨_, pss_one (ps_if (pt_not (pt_val (pe_call G hr1 (by rfl) gi kp bi .nil pass0 (pa_cons (pv 0) pa_nil)))) (pss_one (ps_raise rfl (takes_of rfl rfl rfl rfl) (pmk_retX rfl (pe_one1 T.B hr (pv 0))))) pss_nil), ?_⟩
    rcases k with ⟨⟨i, rfl⟩, q⟩ | ⟨no, q⟩
    · exact ⟨_, rfl, _, rfl, .inl ⟨⟨i, rfl⟩, _, rfl, q⟩⟩
    · refine ⟨_, rfl, _, rfl, .inr ⟨no, _, rfl, ?_⟩⟩
      exact ⟨_, rfl, fun a dx H1 ha hd s e ed ne => ⟨a, _, dx, rfl, e, fr0_none ha, raises_own T.B.Z.su T.tB, q dx _ hd (same_del s ha) (by rw [delH_ne ne]; exact ed)⟩⟩
end
end K03
end
section
set_option maxHeartbeats 4000000
namespace K03
open PySem PySem.Spec PyProof.Rows L2
/-- the divisor that brings t by b to lowest terms, b's sign in it -/
def shr (t b : Int) : Int := if b < 0 then -((Nat.gcd t.natAbs b.natAbs : Nat) : Int) else ((Nat.gcd t.natAbs b.natAbs : Nat) : Int)
/-- t by b in lowest terms -/
def low (t b : Int) : Int × Int := (t.fdiv (shr t b), b.fdiv (shr t b))
theorem shr_ne {t b : Int} (h : b ≠ 0) : shr t b ≠ 0 := by
  have g : 0 < Nat.gcd t.natAbs b.natAbs := Nat.gcd_pos_of_pos_right _ (by omega)
  unfold shr
  split <;> omega
theorem shr_le {t b : Int} (h : b ≠ 0) : (shr t b).natAbs ≤ b.natAbs := by
  have g : Nat.gcd t.natAbs b.natAbs ≤ b.natAbs := Nat.gcd_le_right _ (by omega)
  unfold shr
  split <;> omega
theorem log2_le {a b n : Nat} (h : a ≤ b) (ha : 0 < a) (hb : b < 2 ^ n) (hn : 0 < n) : a.log2 < n := by
  have : a < 2 ^ n := Nat.lt_of_le_of_lt h hb
  exact (Nat.log2_lt (by omega)).mpr this
/-- a Ratio -/
def rat (C dx : Addr) (q : Int × Int) : HO := .ins C dx [("top", .int q.1), ("bottom", .int q.2)]
/-- the sizes that are dealt with -/
abbrev Sz (b : Int) : Prop := b.natAbs < 2 ^ 9000
/-- what a new Ratio is made of: the first wrong value is told -/
inductive MadeOf (K : PySem.W.Frag) (cB cN : Addr) (H : Hp) (E : XK) (x y : V) (ok : Int × Int → Prop) : Prop where
  | good (t b : Int) (hx : x = .int t) (hy : y = .int b) (h0 : b ≠ 0) (hs : Sz b) (q : ok (low t b)) : MadeOf K cB cN H E x y ok
  | top (n : NoInt K H x) (q : Bad cB x H E) : MadeOf K cB cN H E x y ok
  | bot (t : Int) (hx : x = .int t) (n : NoInt K H y) (q : Bad cB y H E) : MadeOf K cB cN H E x y ok
  | zero (t : Int) (hx : x = .int t) (hy : y = .int 0) (q : NoDiv cN H E) : MadeOf K cB cN H E x y ok
def spInit (K : PySem.W.Frag) (C cB cN : Addr) : Sp := fun vs H Q E => ∃ (a dx : Addr) (x y : V), vs = [.ref a, x, y] ∧ H a = some (.ins C dx []) ∧
  MadeOf K cB cN H E x y fun q => Q .non (upd H a (rat C dx q))
/-- the class's own facts -/
structure RatC (K : PySem.W.Frag) (mg : Str → Option Value) (C fI : Addr) : Prop where
  made : Mk K C fI
  c : Cls K C
  nT : NoAttr K C "top"
  nB : NoAttr K C "bottom"
  g : mg "Ratio" = some (.ref C)
  t1 : Top1 K C
  ty : PySem.W.typeIn K (.ref C) = some (.type "type")
abbrev sInit : Stmt := inClass (top 30) 0
theorem ne_tb : ¬ (("top" : Str) = "bottom") := by decide +kernel
theorem putTB (u v : V) : putF ("bottom" : Str) v (putF ("top" : Str) u []) = ([("top", u), ("bottom", v)] : List (Str × V)) := by simp [putF, ne_tb]
section
variable {P : Program} {w : World} {K : PySem.W.Frag} {mg : Str → Option Value} {base : Heap} {cB cN C fI : Addr}
/-- not isinstance(x, int) or isinstance(x, bool) -/
def tNoI (K : PySem.W.Frag) (i : Nat) : TT := fun σ H Q => ∃ v, σ[i]? = some (some v) ∧ (((∃ t, v = .int t) ∧ Q false H) ∨ (NoInt K H v ∧ Q true H))
theorem pt_noInt {X : Cx} (B : TxtR X.mg) {i : Nat} {x : Str} {p1 p2 p3 p4 p5 p6 p7 p8 p9 p10 : Pos} (hv : ∀ p, PE X (.Name x p) (tVar i)) (gi : Gl X "isinstance" := by rfl) (gt : Gl X "int" := by rfl) (gb : Gl X "bool" := by rfl) :
    PT X (.BoolOp .Or [.UnaryOp .Not (.Call (.Name "isinstance" p1) [.Name x p2, .Name "int" p3] [] p4) p5, .Call (.Name "isinstance" p6) [.Name x p7, .Name "bool" p8] [] p9] p10) (tNoI X.K i) := by
  have h := PW.pt (pw_or (X := X) (pos := p10) (pt_not (pos := p5) (pt_val (pe_callB (p := p1) (pos := p4) call_isi gi B.isi (by decide +kernel) (pa_cons (hv p2) (pa_cons (pe_bltn (v := .ty "int") (u := .type "int") (pos := p3) gt B.int (by decide +kernel) rfl) pa_nil)))))
      (pw_or1 (pos := p10) (pt_val (pe_callB (p := p6) (pos := p9) call_isi gi B.isi (by decide +kernel) (pa_cons (hv p7) (pa_cons (pe_bltn (v := .ty "bool") (u := .type "bool") (pos := p8) gb B.bool (by decide +kernel) rfl) pa_nil))))))
  refine ⟨fun pins s σ H Q I ⟨v, e, k⟩ => h.run pins s σ H Q I ?_⟩
  rcases k with ⟨⟨t, rfl⟩, q⟩ | ⟨⟨t, b, c, ty, h1, h2, h3⟩, q⟩
  · refine ⟨_, e, _, .ty "int", .type "int", .type "int", true, rfl, .ty _, .base (.int t), kit_ty (by decide +kernel), true, rfl, ?_⟩
    exact ⟨_, e, _, .ty "bool", .type "int", .type "bool", false, rfl, .ty _, .base (.int t), kit_ty (by decide +kernel), false, rfl, q⟩
  · refine ⟨_, e, _, .ty "int", t, .type "int", b, rfl, .ty _, ty, h1, b, rfl, ?_⟩
    cases b with
    | false => exact q
    | true =>
      have hc : c = true := by simpa using h3
      subst hc
      exact ⟨_, e, _, .ty "bool", t, .type "bool", true, rfl, .ty _, ty, h2, true, rfl, q⟩
theorem scInit : FnScope ["self", "top", "bottom", "shared"] ["self", "top", "bottom"] (defScope sInit) := ⟨rfl, rfl, rfl, by decide +kernel, rfl, by decide +kernel, by decide +kernel⟩
theorem ok_init {fn : Addr} {fd fdn : FuncData} (F : FunD K "__init__" "Ratio.__init__" (defArgs sInit) (defBody sInit) (defScope sInit) [.int 1] [] fI fd) (G : FnOk P w K mg base (L2.CX P w) 3 fn fdn ["value"] (spNeed K cB)) (gn : mg "need_integer" = some (.ref fn)) (kp : PySem.W.keepIn K (.ref fn) = true)
    (bn : Binds K fdn ["value"] []) (T : ErrR P w K mg base cB cN) (R : RatC K mg C fI) (B : TxtR mg) : FnOk P w K mg base (L2.CX P w) 4 fI fd ["self", "top", "bottom"] (spInit K C cB cN) := by
  refine F.ok (CX := L2.CX P w) scInit (fun vs H Q E h => ?_) (fun cdv A outer s H vs Q E hr h => ?_)
  · obtain ⟨a, dx, x, y, rfl, _⟩ := h
    rfl
  · obtain ⟨a, dx, x, y, rfl, ha, k⟩ := h
    have nd := scInit.nd
    have hr2 : Room 2 _ := hr.mono (by decide)
    refine ⟨_, pss_cons (ps_if (pt_noInt B (fun _ => pv 1)) (pss_one (ps_raise rfl (takes_of rfl rfl rfl rfl) (pmk_retX rfl (pe_one1 T.B hr2 (pv 1))))) pss_nil)
      (pss_cons (ps_if (pt_noInt B (fun _ => pv 2)) (pss_one (ps_raise rfl (takes_of rfl rfl rfl rfl) (pmk_retX rfl (pe_one1 T.B hr2 (pv 2))))) pss_nil)
      (pss_cons (ps_set (i := 3) nd rfl (Or.inl rfl) (pe_callBfun cr_gcd (by rfl) B.gcd (pa_cons (pv 1) (pa_cons (pv 2) pa_nil))))
      (pss_cons (ps_if (pt_cmpR op_lt (pv 2) pe_int (nomark _)) (pss_one (ps_set (i := 3) nd rfl (Or.inl rfl) (pe_un un_neg (pv 3)))) pss_nil)
      (pss_cons (ps_if (PW.pt (pw_or (pt_cmpR op_eq (pv 3) pe_int (nomark _)) (pw_or1 (pt_cmpR op_eq (pv 2) pe_int (nomark _))))) (pss_one (ps_raise rfl (takes_of rfl rfl rfl rfl) (pmk_ret rfl (pe_bare T.N)))) pss_nil)
      (pss_one (ps_if (pt_cmpR op_eq (pv 3) pe_int (nomark _)) (pss_cons (ps_fld (pv 0) (pv 1) rfl) (pss_one (ps_fld (pv 0) (pv 2) rfl)))
        (pss_cons (ps_fld (pv 0) (pe_op op_fdivZ (pv 1) (pv 3)) rfl)
          (pss_one (ps_fld (pv 0) (pe_op op_fdivZ (pv 2) (pv 3)) rfl))))))))), ?_⟩
    cases k with
    | top n q => exact ⟨_, rfl, .inr ⟨n, _, rfl, fun a' dx' H1 ha' hd s e ed ne => ⟨a', _, dx', rfl, e, fr0_none ha', raises_own T.B.Z.su T.tB, q dx' _ hd (same_del s ha') (by rw [delH_ne ne]; exact ed)⟩⟩⟩
    | bot t hx n q =>
      subst hx
      exact ⟨_, rfl, .inl ⟨⟨t, rfl⟩, _, rfl, .inr ⟨n, _, rfl, fun a' dx' H1 ha' hd s e ed ne => ⟨a', _, dx', rfl, e, fr0_none ha', raises_own T.B.Z.su T.tB, q dx' _ hd (same_del s ha') (by rw [delH_ne ne]; exact ed)⟩⟩⟩⟩
    | zero t hx hy q =>
      subst hx hy
      refine ⟨_, rfl, .inl ⟨⟨t, rfl⟩, _, rfl, .inl ⟨⟨0, rfl⟩, _, rfl, _, rfl, t, 0, rfl, _, rfl, _, _, rfl, rfl, _, rfl, ?_⟩⟩⟩
      show ite _ _ _; rw [if_neg (by decide)]
      refine ⟨_, rfl, rfl, _, rfl, ?_⟩
      refine ite2 (fun hb => ?_) (fun hb => ?_)
      · show ite _ _ _; rw [if_pos rfl]
        exact fun a' H1 ha' s e => ⟨a', _, rfl, e, fr0_none ha', raises_own T.N.Z.su T.tN, q _ (same_del s ha')⟩
      · refine ⟨_, rfl, rfl, _, rfl, ?_⟩
        show ite _ _ _; rw [if_pos (by decide)]
        exact fun a' H1 ha' s e => ⟨a', _, rfl, e, fr0_none ha', raises_own T.N.Z.su T.tN, q _ (same_del s ha')⟩
    | good t b hx hy h0 hs q =>
      subst hx hy
      refine ⟨_, rfl, .inl ⟨⟨t, rfl⟩, _, rfl, .inl ⟨⟨b, rfl⟩, _, rfl, _, rfl, t, b, rfl, _, rfl, _, _, rfl, rfl, _, rfl, ?_⟩⟩⟩
      have dv : ∀ i, CDivZ i (shr t b) := fun i => ⟨shr_ne h0, log2_le (shr_le h0) (by have := shr_ne (t := t) h0; omega) hs (by decide)⟩
      have l1 : shr t b = 1 → low t b = (t, b) := fun e => by unfold low; rw [e]; simp
      refine ite2 (fun hb => ?_) (fun hb => ?_)
      · have e : -((Nat.gcd t.natAbs b.natAbs : Nat) : Int) = shr t b := by
          unfold shr
          rw [if_pos (by simpa using hb)]
        have ne0 := shr_ne (t := t) h0
        rw [← e] at ne0
        refine ⟨_, rfl, _, rfl, ?_⟩
        refine ⟨_, rfl, rfl, _, rfl, ?_⟩
        show ite _ _ _; rw [if_neg (by simpa using ne0)]
        refine ⟨_, rfl, rfl, _, rfl, ?_⟩
        show ite _ _ _; rw [if_neg (by simpa using h0)]
        refine ⟨_, rfl, rfl, _, rfl, ?_⟩
        refine ite2 (fun h1 => ?_) (fun h1 => ?_)
        · refine ⟨_, rfl, _, rfl, a, C, dx, [], rfl, ha, R.c, R.nT, by decide, ?_⟩
          refine ⟨_, rfl, _, rfl, a, C, dx, _, rfl, upd_same, R.c, R.nB, (by show (1 : Nat) < 1000; decide), ?_⟩
          rw [upd_upd, putTB]
          rw [l1 (by rw [← e]; simpa using h1)] at q
          exact q
        · refine ⟨_, rfl, _, rfl, _, _, rfl, rfl, by rw [e]; exact dv _, _, rfl, a, C, dx, [], rfl, ha, R.c, R.nT, by decide, ?_⟩
          refine ⟨_, rfl, _, rfl, _, _, rfl, rfl, by rw [e]; exact dv _, _, rfl, a, C, dx, _, rfl, upd_same, R.c, R.nB, (by show (1 : Nat) < 1000; decide), ?_⟩
          rw [e, upd_upd, putTB]
          exact q
      · have e : ((Nat.gcd t.natAbs b.natAbs : Nat) : Int) = shr t b := by
          unfold shr
          rw [if_neg (by simpa using hb)]
        have ne0 := shr_ne (t := t) h0
        rw [← e] at ne0
        refine ⟨_, rfl, rfl, _, rfl, ?_⟩
        show ite _ _ _; rw [if_neg (by simpa using ne0)]
        refine ⟨_, rfl, rfl, _, rfl, ?_⟩
        show ite _ _ _; rw [if_neg (by simpa using h0)]
        refine ⟨_, rfl, rfl, _, rfl, ?_⟩
        refine ite2 (fun h1 => ?_) (fun h1 => ?_)
        · refine ⟨_, rfl, _, rfl, a, C, dx, [], rfl, ha, R.c, R.nT, by decide, ?_⟩
          refine ⟨_, rfl, _, rfl, a, C, dx, _, rfl, upd_same, R.c, R.nB, (by show (1 : Nat) < 1000; decide), ?_⟩
          rw [upd_upd, putTB]
          rw [l1 (by rw [← e]; simpa using h1)] at q
          exact q
        · refine ⟨_, rfl, _, rfl, _, _, rfl, rfl, by rw [e]; exact dv _, _, rfl, a, C, dx, [], rfl, ha, R.c, R.nT, by decide, ?_⟩
          refine ⟨_, rfl, _, rfl, _, _, rfl, rfl, by rw [e]; exact dv _, _, rfl, a, C, dx, _, rfl, upd_same, R.c, R.nB, (by show (1 : Nat) < 1000; decide), ?_⟩
          rw [e, upd_upd, putTB]
          exact q
end
end K03
end
section
set_option maxHeartbeats 4000000
namespace PySem
namespace GetA
open PySem.W PyProof.Rows
section
variable {prog : Program} {w : World} {A : Around} {E : Value → Shared → Prop} {s : Shared} {name : Str}
theorem miss_int {i : Int} {t u : Tok} {Q : Option Value → Shared → Prop} (hmiss : typeLookup (.type "int") name = pure none) (hsz : name.length + 100 ≤ sizeLine) (hA : A.handled = none)
    (h : ∀ h' tk, (∀ b ob, s.heap.get? b = some ob → h'.get? b = some ob) → Q none { s with heap := h', toks := tk }) : wpAny (model prog w) A (getAttrBy? (.int i t) (.str name u)) Q E s := by
  obtain ⟨hp, g, d, tk, os⟩ := s
  have hT : ∀ s' : Shared, s'.TypeIs (.int i t) "int" := fun _ => rfl
  have f1 := sub_AttributeError
  have f3 := PySem.F.slot_int_getattribute.lookup
  have f4 := PySem.F.slot_int_getattribute.bind (.int i t)
  have f5 := am_int_getattr_none
  unfold getAttrBy? getAttrBy
  repeat (any_goals (first | assumption | exact hT _ | ((with_reducible show wpAny _ _ (call (Value.builtin "int.__getattribute__") _ _) _ _ _); refine call_meets PySem.F.slot_int_getattribute (hT _) am_entry_int_getattribute (PySem.F.args_int_getattribute_2 _ _) (meets_getattribute_miss_int i t name _ hmiss hsz) ⟨hA, fun h' tk' e hx' => ?_⟩) | wp_step))
  obtain ⟨t', u', he⟩ := hx'.there
  show wpAny _ _ (getattributeRaised _ _ _ _ _ _ _) _ _ _
  unfold getattributeRaised
  repeat (any_goals (first | assumption | wp_step))
  all_goals first | exact h _ _ hx'.keeps | (dsimp only; repeat (any_goals (first | assumption | exact h _ _ hx'.keeps | wp_step)))
theorem miss_bool {c : Bool} {u : Tok} {Q : Option Value → Shared → Prop} (hmiss : typeLookup (.type "bool") name = pure none) (hsz : name.length + 100 ≤ sizeLine) (hA : A.handled = none)
    (h : ∀ h' tk, (∀ b ob, s.heap.get? b = some ob → h'.get? b = some ob) → Q none { s with heap := h', toks := tk }) : wpAny (model prog w) A (getAttrBy? (.bool c) (.str name u)) Q E s := by
  obtain ⟨hp, g, d, tk, os⟩ := s
  have hT : ∀ s' : Shared, s'.TypeIs (.bool c) "bool" := fun _ => rfl
  have f1 := sub_AttributeError
  have f3 := PySem.F.slot_bool_getattribute.lookup
  have f4 := PySem.F.slot_bool_getattribute.bind (.bool c)
  have f5 := am_bool_getattr_none
  unfold getAttrBy? getAttrBy
  repeat (any_goals (first | assumption | exact hT _ | ((with_reducible show wpAny _ _ (call (Value.builtin "int.__getattribute__") _ _) _ _ _); refine call_meets PySem.F.slot_bool_getattribute (hT _) am_entry_int_getattribute (PySem.F.args_int_getattribute_2 _ _) (meets_getattribute_miss_bool c name _ hmiss hsz) ⟨hA, fun h' tk' e hx' => ?_⟩) | wp_step))
  obtain ⟨t', u', he⟩ := hx'.there
  show wpAny _ _ (getattributeRaised _ _ _ _ _ _ _) _ _ _
  unfold getattributeRaised
  repeat (any_goals (first | assumption | wp_step))
  all_goals first | exact h _ _ hx'.keeps | (dsimp only; repeat (any_goals (first | assumption | exact h _ _ hx'.keeps | wp_step)))
theorem miss_str {x : Str} {t u : Tok} {Q : Option Value → Shared → Prop} (hmiss : typeLookup (.type "str") name = pure none) (hsz : name.length + 100 ≤ sizeLine) (hA : A.handled = none)
    (h : ∀ h' tk, (∀ b ob, s.heap.get? b = some ob → h'.get? b = some ob) → Q none { s with heap := h', toks := tk }) : wpAny (model prog w) A (getAttrBy? (.str x t) (.str name u)) Q E s := by
  obtain ⟨hp, g, d, tk, os⟩ := s
  have hT : ∀ s' : Shared, s'.TypeIs (.str x t) "str" := fun _ => rfl
  have f1 := sub_AttributeError
  have f3 := PySem.F.slot_str_getattribute.lookup
  have f4 := PySem.F.slot_str_getattribute.bind (.str x t)
  have f5 := am_str_getattr_none
  unfold getAttrBy? getAttrBy
  repeat (any_goals (first | assumption | exact hT _ | ((with_reducible show wpAny _ _ (call (Value.builtin "object.__getattribute__") _ _) _ _ _); refine call_meets PySem.F.slot_str_getattribute (hT _) PySem.F.entry_object_getattribute (PySem.F.args_object_getattribute_2 _ _) (meets_getattribute_miss_str x t name _ hmiss hsz) ⟨hA, fun h' tk' e hx' => ?_⟩) | wp_step))
  obtain ⟨t', u', he⟩ := hx'.there
  show wpAny _ _ (getattributeRaised _ _ _ _ _ _ _) _ _ _
  unfold getattributeRaised
  repeat (any_goals (first | assumption | wp_step))
  all_goals first | exact h _ _ hx'.keeps | (dsimp only; repeat (any_goals (first | assumption | exact h _ _ hx'.keeps | wp_step)))
theorem miss_none {u : Tok} {Q : Option Value → Shared → Prop} (hmiss : typeLookup (.type "NoneType") name = pure none) (hsz : name.length + 100 ≤ sizeLine) (hA : A.handled = none)
    (h : ∀ h' tk, (∀ b ob, s.heap.get? b = some ob → h'.get? b = some ob) → Q none { s with heap := h', toks := tk }) : wpAny (model prog w) A (getAttrBy? .none (.str name u)) Q E s := by
  obtain ⟨hp, g, d, tk, os⟩ := s
  have hT : ∀ s' : Shared, s'.TypeIs .none "NoneType" := fun _ => rfl
  have f1 := sub_AttributeError
  have f3 := PySem.F.slot_NoneType_getattribute.lookup
  have f4 := PySem.F.slot_NoneType_getattribute.bind .none
  have f5 := am_none_getattr_none
  unfold getAttrBy? getAttrBy
  repeat (any_goals (first | assumption | exact hT _ | ((with_reducible show wpAny _ _ (call (Value.builtin "object.__getattribute__") _ _) _ _ _); refine call_meets PySem.F.slot_NoneType_getattribute (hT _) PySem.F.entry_object_getattribute (PySem.F.args_object_getattribute_2 _ _) (meets_getattribute_miss_none name _ hmiss hsz) ⟨hA, fun h' tk' e hx' => ?_⟩) | wp_step))
  obtain ⟨t', u', he⟩ := hx'.there
  show wpAny _ _ (getattributeRaised _ _ _ _ _ _ _) _ _ _
  unfold getattributeRaised
  repeat (any_goals (first | assumption | wp_step))
  all_goals first | exact h _ _ hx'.keeps | (dsimp only; repeat (any_goals (first | assumption | exact h _ _ hx'.keeps | wp_step)))
theorem miss_list {a : Addr} {o : Obj} {xs : Array Value} {k : Nat} {u : Tok} {Q : Option Value → Shared → Prop} (hx : s.heap.get? a = some o) (hc : o.cls = .type "list") (hdat : o.data = .seq xs k) (hd : o.dict = none) (hmiss : typeLookup (.type "list") name = pure none) (hname : (["__module__", "__name__", "__qualname__", "__doc__", "__annotations__"] : List Str).contains name = false) (hsz : name.length + 100 ≤ sizeLine) (hA : A.handled = none)
    (h : ∀ h' tk, (∀ b ob, s.heap.get? b = some ob → h'.get? b = some ob) → Q none { s with heap := h', toks := tk }) : wpAny (model prog w) A (getAttrBy? (.ref a) (.str name u)) Q E s := by
  obtain ⟨c, dct, dat, sl⟩ := o
  simp only at hc hdat hd
  subst hc hdat hd
  obtain ⟨hp, g, d, tk, os⟩ := s
  have hT : ∀ tk', (⟨hp, g, d, tk', os⟩ : Shared).TypeIs (.ref a) "list" := fun _ => ⟨_, hx, rfl⟩
  have f1 := sub_AttributeError
  have f3 := PySem.F.slot_list_getattribute.lookup
  have f4 := PySem.F.slot_list_getattribute.bind (.ref a)
  have f5 := am_list_getattr_none
  unfold getAttrBy? getAttrBy
  repeat (any_goals (first | assumption | exact hT _ | ((with_reducible show wpAny _ _ (call (Value.builtin "list.__getattribute__") _ _) _ _ _); refine call_meets PySem.F.slot_list_getattribute (hT _) am_entry_list_getattribute (PySem.F.args_list_getattribute_2 _ _) (meets_getattribute_miss_list a xs k sl name _ hmiss hname hsz) ⟨hx, hA, fun h' tk' e hx' => ?_⟩) | wp_step))
  obtain ⟨t', u', he⟩ := hx'.there
  show wpAny _ _ (getattributeRaised _ _ _ _ _ _ _) _ _ _
  unfold getattributeRaised
  repeat (any_goals (first | assumption | wp_step))
  all_goals first | exact h _ _ hx'.keeps | (dsimp only; repeat (any_goals (first | assumption | exact h _ _ hx'.keeps | wp_step)))
theorem miss_tuple {a : Addr} {o : Obj} {xs : Array Value} {k : Nat} {u : Tok} {Q : Option Value → Shared → Prop} (hx : s.heap.get? a = some o) (hc : o.cls = .type "tuple") (hdat : o.data = .seq xs k) (hd : o.dict = none) (hmiss : typeLookup (.type "tuple") name = pure none) (hname : (["__module__", "__name__", "__qualname__", "__doc__", "__annotations__"] : List Str).contains name = false) (hsz : name.length + 100 ≤ sizeLine) (hA : A.handled = none)
    (h : ∀ h' tk, (∀ b ob, s.heap.get? b = some ob → h'.get? b = some ob) → Q none { s with heap := h', toks := tk }) : wpAny (model prog w) A (getAttrBy? (.ref a) (.str name u)) Q E s := by
  obtain ⟨c, dct, dat, sl⟩ := o
  simp only at hc hdat hd
  subst hc hdat hd
  obtain ⟨hp, g, d, tk, os⟩ := s
  have hT : ∀ tk', (⟨hp, g, d, tk', os⟩ : Shared).TypeIs (.ref a) "tuple" := fun _ => ⟨_, hx, rfl⟩
  have f1 := sub_AttributeError
  have f3 := PySem.F.slot_tuple_getattribute.lookup
  have f4 := PySem.F.slot_tuple_getattribute.bind (.ref a)
  have f5 := am_tuple_getattr_none
  unfold getAttrBy? getAttrBy
  repeat (any_goals (first | assumption | exact hT _ | ((with_reducible show wpAny _ _ (call (Value.builtin "tuple.__getattribute__") _ _) _ _ _); refine call_meets PySem.F.slot_tuple_getattribute (hT _) am_entry_tuple_getattribute (PySem.F.args_tuple_getattribute_2 _ _) (meets_getattribute_miss_tuple a xs k sl name _ hmiss hname hsz) ⟨hx, hA, fun h' tk' e hx' => ?_⟩) | wp_step))
  obtain ⟨t', u', he⟩ := hx'.there
  show wpAny _ _ (getattributeRaised _ _ _ _ _ _ _) _ _ _
  unfold getattributeRaised
  repeat (any_goals (first | assumption | wp_step))
  all_goals first | exact h _ _ hx'.keeps | (dsimp only; repeat (any_goals (first | assumption | exact h _ _ hx'.keeps | wp_step)))
theorem miss_dict {a : Addr} {o : Obj} {xs : Array DictEntry} {k : Nat} {u : Tok} {Q : Option Value → Shared → Prop} (hx : s.heap.get? a = some o) (hc : o.cls = .type "dict") (hdat : o.data = .dict xs k) (hd : o.dict = none) (hmiss : typeLookup (.type "dict") name = pure none) (hname : (["__module__", "__name__", "__qualname__", "__doc__", "__annotations__"] : List Str).contains name = false) (hsz : name.length + 100 ≤ sizeLine) (hA : A.handled = none)
    (h : ∀ h' tk, (∀ b ob, s.heap.get? b = some ob → h'.get? b = some ob) → Q none { s with heap := h', toks := tk }) : wpAny (model prog w) A (getAttrBy? (.ref a) (.str name u)) Q E s := by
  obtain ⟨c, dct, dat, sl⟩ := o
  simp only at hc hdat hd
  subst hc hdat hd
  obtain ⟨hp, g, d, tk, os⟩ := s
  have hT : ∀ tk', (⟨hp, g, d, tk', os⟩ : Shared).TypeIs (.ref a) "dict" := fun _ => ⟨_, hx, rfl⟩
  have f1 := sub_AttributeError
  have f3 := PySem.F.slot_dict_getattribute.lookup
  have f4 := PySem.F.slot_dict_getattribute.bind (.ref a)
  have f5 := am_dict_getattr_none
  unfold getAttrBy? getAttrBy
  repeat (any_goals (first | assumption | exact hT _ | ((with_reducible show wpAny _ _ (call (Value.builtin "dict.__getattribute__") _ _) _ _ _); refine call_meets PySem.F.slot_dict_getattribute (hT _) am_entry_dict_getattribute (PySem.F.args_dict_getattribute_2 _ _) (meets_getattribute_miss_dict a xs k sl name _ hmiss hname hsz) ⟨hx, hA, fun h' tk' e hx' => ?_⟩) | wp_step))
  obtain ⟨t', u', he⟩ := hx'.there
  show wpAny _ _ (getattributeRaised _ _ _ _ _ _ _) _ _ _
  unfold getattributeRaised
  repeat (any_goals (first | assumption | wp_step))
  all_goals first | exact h _ _ hx'.keeps | (dsimp only; repeat (any_goals (first | assumption | exact h _ _ hx'.keeps | wp_step)))
end
end GetA
end PySem
end
section
set_option maxHeartbeats 4000000
namespace PySem
namespace GetA
open PySem.W PyProof.Rows
theorem args3 (a b c : Value) : argsOk "getattr" ⟨[a, b, c], []⟩ := by unfold argsOk; kernel_rfl
section
variable {prog : Program} {w : World} {A : Around} {E : Value → Shared → Prop} {s : Shared} {name : Str}
/-- getattr(x, name, d) where the look-up finds nothing -/
theorem getattr3_prim {o v : Value} {u : Tok} {Q : Value → Shared → Prop} (hr : ∀ a, o ≠ .ref a) (h : wpAny (model prog w) A.in1 (getAttrBy? o (.str ("mark" : Str) u)) (fun r s' => r = none ∧ Q v s') E s) : wpAny (model prog w) A (call (.builtin "getattr") [o, .str ("mark" : Str) u, v]) Q E s := by
  refine Calls.call_function_entry KB.kind_getattr KB.plain_getattr KB.entry_getattr (args3 _ _ _) ?_
  unfold Builtin.«getattr»
  refine wpAny_bind (wpAny_of_eq (a := [o, .str ("mark" : Str) u, v]) (by first | rfl | kernel_rfl) ?_)
  dsimp only
  refine wpAny_bind (wpAny_of_eq (a := ()) (by first | rfl | kernel_rfl) ?_)
  refine wpAny_bind (wpAny_of_eq (a := none) (by first | rfl | kernel_rfl) ?_)
  dsimp only
  refine wpAny_bind (wpAny_of_eq (a := 0) (by cases o <;> first | rfl | (exact absurd rfl (hr _))) ?_)
  rw [if_neg (by decide)]
  refine wpAny_bind (wpAny_mono h (fun r s' hq => ?_) fun _ _ e => e)
  obtain ⟨rfl, q⟩ := hq
  exact wpAny_pure ⟨_, rfl, q⟩
theorem getattr3_ref {a : Addr} {T : String} {v : Value} {u : Tok} {Q : Value → Shared → Prop} (hT : s.TypeIs (.ref a) T) (hm : isSubtype (.type T) (.type "module") = pure false)
   (h : wpAny (model prog w) A.in1 (getAttrBy? (.ref a) (.str ("mark" : Str) u)) (fun r s' => r = none ∧ Q v s') E s) : wpAny (model prog w) A (call (.builtin "getattr") [.ref a, .str ("mark" : Str) u, v]) Q E s := by
  refine Calls.call_function_entry KB.kind_getattr KB.plain_getattr KB.entry_getattr (args3 _ _ _) ?_
  unfold Builtin.«getattr»
  refine wpAny_bind (wpAny_of_eq (a := [.ref a, .str ("mark" : Str) u, v]) (by first | rfl | kernel_rfl) ?_)
  dsimp only
  refine wpAny_bind (wpAny_of_eq (a := ()) (by first | rfl | kernel_rfl) ?_)
  refine wpAny_bind (wpAny_of_eq (a := none) (by first | rfl | kernel_rfl) ?_)
  dsimp only
  have z : wpAny (model prog w) A.in1 (isInstance (.ref a) (.type "module")) (fun r s' => r = false ∧ s' = s) E s := by
    obtain ⟨hp, g, d, tk, os⟩ := s
    repeat (any_goals (first | assumption | exact ⟨rfl, rfl⟩ | wp_step))
  refine wpAny_bind (wpAny_mono (Q := fun r s' => r = 0 ∧ s' = s) ?_ (fun r s' hq => ?_) fun _ _ e => e)
  · refine wpAny_bind (wpAny_of_eq (a := some ("mark" : Str)) (by first | rfl | kernel_rfl) ?_)
    refine wpAny_bind (wpAny_mono z (fun r s' hq => ?_) fun _ _ e => e)
    obtain ⟨rfl, rfl⟩ := hq
    exact wpAny_pure ⟨rfl, rfl⟩
  · obtain ⟨rfl, rfl⟩ := hq
    rw [if_neg (by decide)]
    refine wpAny_bind (wpAny_mono h (fun r s' hq => ?_) fun _ _ e => e)
    obtain ⟨rfl, q⟩ := hq
    exact wpAny_pure ⟨_, rfl, q⟩
end
end GetA
end PySem
end
section
set_option maxHeartbeats 4000000
namespace L2
open PySem PySem.Spec PyProof.Rows
def kinds : List String := ["int", "bool", "NoneType", "str", "list", "tuple", "dict"]
/-- a new tuple, of which it is known that it has no dict: locked -/
def tTupF (t : TA) : TE := fun σ H Q => t σ H fun xs H1 => xs.length ≤ sizeLine ∧ ∀ p o, H1 p = none → o.dict = none → Q (.ref p) (upd H1 p (.frz o (.tup xs)))
theorem pe_tupF {X : Cx} {es : List Expr} {t : TA} {pos : Pos} {x1} (h : PA X es t) : PE X (.Tuple es x1 pos) (tTupF t) := by
  refine ⟨fun pins s σ H Q I hq => ?_⟩
  refine wpAny_Tuple_spliced (thn (h.run pos pins s σ H _ I hq) fun us s1 ⟨xs, H1, I1, r, z, q⟩ => ⟨by rw [← r.length]; exact z, ?_⟩)
  have hf : H1 s1.heap.objs.size = none := I1.hok.fresh (Nat.le_refl _)
  refine ⟨.ref s1.heap.objs.size, upd H1 s1.heap.objs.size (.frz { cls := .type "tuple", data := .seq us.toArray } (.tup xs)), I1.laid (t' := s1.toks) (fun b u e => Heap.get?_push_of_some _ e) (Nat.le_refl _) ?_, rfl, q _ _ hf rfl⟩
  exact ⟨Heap.get?_push_size _ rfl, z, us, r, ⟨_, Heap.get?_push_size _ rfl, rfl, _, rfl⟩⟩
/-- an object of which it is known that it has no dict -/
def NoDct (H : Hp) (x : V) : Prop := ∀ a, x = .ref a → (∃ xs, H a = some (.lst xs)) ∨ (∃ o xs, H a = some (.frz o (.tup xs)) ∧ o.dict = none) ∨ ∃ kvs, H a = some (.dK kvs)
theorem NoDct.same {H H' : Hp} {x : V} (h : NoDct H x) (s : Same H H') : NoDct H' x := fun a e => by
  rcases h a e with ⟨xs, z⟩ | ⟨o, xs, z, d⟩ | ⟨kvs, z⟩
  · exact .inl ⟨xs, s _ _ z⟩
  · exact .inr (.inl ⟨o, xs, s _ _ z, d⟩)
  · exact .inr (.inr ⟨kvs, s _ _ z⟩)
theorem sub_mod_list : isSubtype (.type "list") (.type "module") = pure false := by rw [isSubtype_type]; kernel_rfl
theorem sub_mod_tuple : isSubtype (.type "tuple") (.type "module") = pure false := by rw [isSubtype_type]; kernel_rfl
theorem sub_mod_dict : isSubtype (.type "dict") (.type "module") = pure false := by rw [isSubtype_type]; kernel_rfl
theorem mark_miss {T : String} (h : T ∈ kinds) : typeLookup (.type T) ("mark" : Str) = pure none := by
  unfold kinds at h
  simp only [List.mem_cons, List.not_mem_nil, or_false] at h
  rcases h with rfl | rfl | rfl | rfl | rfl | rfl | rfl <;> exact am_miss_of_fast (by decide +kernel)
theorem mark_sz : ("mark" : Str).length + 100 ≤ sizeLine := by decide +kernel
theorem mark_no : (["__module__", "__name__", "__qualname__", "__doc__", "__annotations__"] : List Str).contains "mark" = false := by decide +kernel
/-- getattr(x, "mark", v), x of a built-in type without that attribute -/
def rGetM (K : PySem.W.Frag) : List V → Hp → VK → Prop := fun vs H Q => ∃ (x v : V) (T : String), vs = [x, .str "mark", v] ∧ T ∈ kinds ∧ TyX K H x (.type T) ∧ NoDct H x ∧ Q v H
theorem call_getM {X : Cx} (hc : X.calm = true) : CallR X (.builtin "getattr") (rGetM X.K) := by
  intro pins s σ H xs us Q I r h
  obtain ⟨x, v, T, rfl, hT, ty, nd, q⟩ := h
  match us, r with
  | [u1, u2, u3], .cons r1 (.cons r2 (.cons r3 .nil)) =>
  obtain ⟨tk, rfl⟩ := (show ∃ t, u2 = Value.str "mark" t from r2)
  have hh : X.A.in1.handled = none := I.ok.hd hc
  have fin : ∀ h' tk', (∀ b ob, s.heap.get? b = some ob → h'.get? b = some ob) → (fun (r : Option Value) s' => r = none ∧ EP X pins σ Q u3 s') none { s with heap := h', toks := tk' } := fun h' tk' k => ⟨rfl, v, H, I.kept k, r3, q⟩
  have ms := mark_miss hT
  cases ty with
  | base b =>
    cases b with
    | non => cases (show u1 = Value.none from r1); exact PySem.GetA.getattr3_prim (fun _ z => nomatch z) (PySem.GetA.miss_none ms mark_sz hh fin)
    | bl y => cases (show u1 = Value.bool y from r1); exact PySem.GetA.getattr3_prim (fun _ z => nomatch z) (PySem.GetA.miss_bool ms mark_sz hh fin)
    | int i => obtain ⟨t, rfl⟩ := (show ∃ t, u1 = Value.int i t from r1); exact PySem.GetA.getattr3_prim (fun _ z => nomatch z) (PySem.GetA.miss_int ms mark_sz hh fin)
    | str y => obtain ⟨t, rfl⟩ := (show ∃ t, u1 = Value.str y t from r1); exact PySem.GetA.getattr3_prim (fun _ z => nomatch z) (PySem.GetA.miss_str ms mark_sz hh fin)
    | flt y => exact absurd hT (by decide +kernel)
    | @lst a xs ea =>
      cases (show u1 = Value.ref a from r1)
      obtain ⟨_, _, n, _, h1⟩ := (show ObjOk X.prog X.w H s.heap a (.lst xs) from I.hok a _ ea)
      exact PySem.GetA.getattr3_ref ⟨_, h1, rfl⟩ sub_mod_list (PySem.GetA.miss_list h1 rfl rfl rfl ms mark_no mark_sz hh fin)
    | @frz a ob xs ea =>
      rcases nd a rfl with ⟨_, z⟩ | ⟨_, _, z, _⟩ | ⟨_, z⟩ <;> rw [ea] at z <;> cases z
    | @tup a xs ea =>
      rcases nd a rfl with ⟨_, z⟩ | ⟨_, _, z, _⟩ | ⟨_, z⟩ <;> rw [ea] at z <;> cases z
    | @dK a kvs ea =>
      cases (show u1 = Value.ref a from r1)
      obtain ⟨_, _, vs, _, o, es, ep, h1, h2, h3, _⟩ := (show ObjOk X.prog X.w H s.heap a (.dK kvs) from I.hok a _ ea)
      exact PySem.GetA.getattr3_ref ⟨_, h1, h2.1⟩ sub_mod_dict (PySem.GetA.miss_dict h1 h2.1 h3 h2.2.1 ms mark_no mark_sz hh fin)
    | @dT a kvs ea =>
      rcases nd a rfl with ⟨_, z⟩ | ⟨_, _, z, _⟩ | ⟨_, z⟩ <;> rw [ea] at z <;> cases z
  | byt y => exact absurd hT (by decide +kernel)
  | @set a S n ea => exact absurd hT (by decide +kernel)
  | @kList a o e c =>
    cases (show u1 = Value.ref a from r1)
    rcases nd a rfl with ⟨xs, z⟩ | ⟨ob, _, z, d⟩ | ⟨_, z⟩
    · obtain ⟨_, _, n, _, h1⟩ := (show ObjOk X.prog X.w H s.heap a (.lst xs) from I.hok a _ z)
      exact PySem.GetA.getattr3_ref ⟨_, h1, rfl⟩ sub_mod_list (PySem.GetA.miss_list h1 rfl rfl rfl ms mark_no mark_sz hh fin)
    · obtain ⟨_, _, _, _, o', h1, h2, _⟩ := (show ObjOk X.prog X.w H s.heap a (.frz ob (.tup _)) from I.hok a _ z)
      have k1 := I.kIn a o e
      rw [h1] at k1
      cases k1
      rw [c] at h2
      exact absurd (Value.type.inj h2) (by decide)
    · obtain ⟨_, _, vs, _, o', es, ep, h1, h2, h3, _⟩ := (show ObjOk X.prog X.w H s.heap a (.dK _) from I.hok a _ z)
      have k1 := I.kIn a o e
      rw [h1] at k1
      cases k1
      have h4 := h2.1
      rw [c] at h4
      exact absurd (Value.type.inj h4) (by decide)
  | @kTuple a o e c =>
    cases (show u1 = Value.ref a from r1)
    rcases nd a rfl with ⟨xs, z⟩ | ⟨ob, xs, z, d⟩ | ⟨_, z⟩
    · obtain ⟨_, _, n, _, h1⟩ := (show ObjOk X.prog X.w H s.heap a (.lst xs) from I.hok a _ z)
      have k1 := I.kIn a o e
      rw [h1] at k1
      cases k1
      exact absurd (Value.type.inj c) (by decide)
    · obtain ⟨h0, _, _, _, o', h1, h2, n, h3⟩ := (show ObjOk X.prog X.w H s.heap a (.frz ob (.tup xs)) from I.hok a _ z)
      have d' : o'.dict = none := by
        rw [h0] at h1
        cases h1
        exact d
      exact PySem.GetA.getattr3_ref ⟨_, h1, h2⟩ sub_mod_tuple (PySem.GetA.miss_tuple h1 h2 h3 d' ms mark_no mark_sz hh fin)
    · obtain ⟨_, _, vs, _, o', es, ep, h1, h2, h3, _⟩ := (show ObjOk X.prog X.w H s.heap a (.dK _) from I.hok a _ z)
      have k1 := I.kIn a o e
      rw [h1] at k1
      cases k1
      have h4 := h2.1
      rw [c] at h4
      exact absurd (Value.type.inj h4) (by decide)
  | @kDict a o e c =>
    cases (show u1 = Value.ref a from r1)
    rcases nd a rfl with ⟨xs, z⟩ | ⟨ob, xs, z, d⟩ | ⟨_, z⟩
    · obtain ⟨_, _, n, _, h1⟩ := (show ObjOk X.prog X.w H s.heap a (.lst xs) from I.hok a _ z)
      have k1 := I.kIn a o e
      rw [h1] at k1
      cases k1
      exact absurd (Value.type.inj c) (by decide)
    · obtain ⟨_, _, _, _, o', h1, h2, _⟩ := (show ObjOk X.prog X.w H s.heap a (.frz ob (.tup _)) from I.hok a _ z)
      have k1 := I.kIn a o e
      rw [h1] at k1
      cases k1
      rw [c] at h2
      exact absurd (Value.type.inj h2) (by decide)
    · obtain ⟨_, _, vs, _, o', es, ep, h1, h2, h3, _⟩ := (show ObjOk X.prog X.w H s.heap a (.dK _) from I.hok a _ z)
      exact PySem.GetA.getattr3_ref ⟨_, h1, h2.1⟩ sub_mod_dict (PySem.GetA.miss_dict h1 h2.1 h3 h2.2.1 ms mark_no mark_sz hh fin)
  | @fTuple a ob xs ea =>
    cases (show u1 = Value.ref a from r1)
    rcases nd a rfl with ⟨_, z⟩ | ⟨_, _, z, d⟩ | ⟨_, z⟩ <;> rw [ea] at z <;> cases z
    obtain ⟨h0, _, _, _, o', h1, h2, n, h3⟩ := (show ObjOk X.prog X.w H s.heap a (.frz ob (.tup xs)) from I.hok a _ ea)
    have d' : o'.dict = none := by
      rw [h0] at h1
      cases h1
      exact d
    exact PySem.GetA.getattr3_ref ⟨_, h1, h2⟩ sub_mod_tuple (PySem.GetA.miss_tuple h1 h2 h3 d' ms mark_no mark_sz hh fin)
  | @fDict a ob kvs ea =>
    rcases nd a rfl with ⟨_, z⟩ | ⟨_, _, z, _⟩ | ⟨_, z⟩ <;> rw [ea] at z <;> cases z
end L2
end
section
set_option maxHeartbeats 4000000
namespace L2
open PySem PySem.Spec PyProof.Rows
theorem TyOf.same {K : PySem.W.Frag} {H H' : Hp} {v : V} {t : Value} (h : TyOf K H v t) (s : Same H H') : TyOf K H' v t := by
  cases h with
  | non => exact .non
  | bl x => exact .bl x
  | int i => exact .int i
  | str x => exact .str x
  | flt x => exact .flt x
  | lst e => exact .lst (s _ _ e)
  | frz e => exact .frz (s _ _ e)
  | tup e => exact .tup (s _ _ e)
  | dK e => exact .dK (s _ _ e)
  | dT e => exact .dT (s _ _ e)
  | ins e cl ha hn htk hm => exact .ins (s _ _ e) cl ha hn htk hm
theorem TyX.same {K : PySem.W.Frag} {H H' : Hp} {v : V} {t : Value} (h : TyX K H v t) (s : Same H H') : TyX K H' v t := by
  cases h with
  | base h => exact .base (h.same s)
  | byt b => exact .byt b
  | set e => exact .set (s _ _ e)
  | kList e c => exact .kList e c
  | kTuple e c => exact .kTuple e c
  | kDict e c => exact .kDict e c
  | fTuple e => exact .fTuple (s _ _ e)
  | fDict e => exact .fDict (s _ _ e)
theorem NoInt.same {K : PySem.W.Frag} {H H' : Hp} {v : V} (h : NoInt K H v) (s : Same H H') : NoInt K H' v := by
  obtain ⟨t, b, c, h1, h2, h3, h4⟩ := h
  exact ⟨t, b, c, h1.same s, h2, h3, h4⟩
end L2
namespace K03
open PySem PySem.Spec PyProof.Rows L2
theorem Bad.same {cB : Addr} {v : V} {H H' : Hp} {E : XK} (h : Bad cB v H E) (s : Same H H') : Bad cB v H' E := fun d H'' hd s2 e => h d H'' (by
  cases q : H d with
  | none => rfl
  | some o => rw [s _ _ q] at hd; cases hd) (s.trans s2) e
theorem NoDiv.same {cN : Addr} {H H' : Hp} {E : XK} (h : NoDiv cN H E) (s : Same H H') : NoDiv cN H' E := fun H'' s2 => h H'' (s.trans s2)
theorem MadeOf.same {K : PySem.W.Frag} {cB cN : Addr} {H H' : Hp} {E : XK} {x y : V} {ok ok' : Int × Int → Prop} (h : MadeOf K cB cN H E x y ok) (s : Same H H') (o : ∀ q, ok q → ok' q) : MadeOf K cB cN H' E x y ok' := by
  cases h with
  | good t b hx hy h0 hs q => exact .good t b hx hy h0 hs (o _ q)
  | top n q => exact .top (n.same s) (q.same s)
  | bot t hx n q => exact .bot t hx (n.same s) (q.same s)
  | zero t hx hy q => exact .zero t hx hy (q.same s)
/-- a new Ratio q, all else as it was -/
def NewR (C : Addr) (H : Hp) (Q : VK) (q : Int × Int) : Prop := ∀ (a dx : Addr) (H' : Hp), H a = none → Same H H' → H' a = some (rat C dx q) → Q (.ref a) H'
/-- all that is known of the class Ratio -/
structure Rat (P : Program) (w : World) (K : PySem.W.Frag) (mg : Str → Option Value) (base : Heap) (cB cN C fI : Addr) : Prop where
  cls : RatC K mg C fI
  init : ∃ fd : FuncData, FnOk P w K mg base (L2.CX P w) 4 fI fd ["self", "top", "bottom"] (spInit K C cB cN) ∧ (∃ ds, Vals [.int 1] ds ∧ Binds K fd ["self", "top", "bottom"] ds) ∧ Binds K fd ["self", "top", "bottom"] []
  tyx : ∀ (H : Hp) (a dx : Addr) (fs : List (Str × V)), H a = some (.ins C dx fs) → TyX K H (.ref a) (.ref C)
  txt : TxtR mg
theorem mk_rat {P : Program} {w : World} {K : PySem.W.Frag} {mg : Str → Option Value} {base : Heap} {fI fn cB cN C : Addr} {fd fdn : FuncData} (F : FunD K "__init__" "Ratio.__init__" (defArgs sInit) (defBody sInit) (defScope sInit) [.int 1] [] fI fd) (G : FnOk P w K mg base (L2.CX P w) 3 fn fdn ["value"] (spNeed K cB)) (gn : mg "need_integer" = some (.ref fn)) (kp : PySem.W.keepIn K (.ref fn) = true)
    (bn : Binds K fdn ["value"] []) (T : ErrR P w K mg base cB cN) (R : RatC K mg C fI) (B : TxtR mg) (ty : ∀ (H : Hp) (a dx : Addr) (fs : List (Str × V)), H a = some (.ins C dx fs) → TyX K H (.ref a) (.ref C)) : Rat P w K mg base cB cN C fI := by
  refine ⟨R, ⟨fd, ok_init F G gn kp bn T R B, F.binds1 2 0 (by simp) rfl (fun T kV doc pm an cdv ct us its h1 h2 => ?_), ?_⟩, ty, B⟩
  · match us, its, h1, h2 with
    | [a, b], [c], _, _ => exact ⟨_, rfl, rfl⟩
  · obtain ⟨ds, h1, h2⟩ := F.binds1 (ps := ["self", "top", "bottom"]) 3 1 (by simp) rfl (fun T kV doc pm an cdv ct us its h1 h2 => by
      match us, its, h1, h2 with
      | [a, b, c], [e], _, _ => exact ⟨_, rfl, rfl⟩)
    have h1 : Vals [] ds := h1
    cases h1
    exact h2
section
variable {X : Cx} {cB cN C fI : Addr} {e e2 : Expr} {te te2 : TE} {p pos : Pos} {E : XK}
def tRat1 (K : PySem.W.Frag) (C cB cN : Addr) (E : XK) (te : TE) : TE := fun σ H Q => te σ H fun v H1 => MadeOf K cB cN H1 E v (.int 1) (NewR C H1 Q)
def tRat2 (K : PySem.W.Frag) (C cB cN : Addr) (E : XK) (te te2 : TE) : TE := fun σ H Q => te σ H fun v H1 => te2 σ H1 fun u H2 => MadeOf K cB cN H2 E v u (NewR C H2 Q)
theorem init_of {K : PySem.W.Frag} {H : Hp} {Q : VK} {v u : V} {x dx : Addr} (h : MadeOf K cB cN H E v u (NewR C H Q)) (hx : H x = none) (hd : H dx = none) (ne : dx ≠ x) :
    spInit K C cB cN [.ref x, v, u] (upd (upd H dx (.own x)) x (.ins C dx [])) (fun z H2 => z = .non ∧ Q (.ref x) H2) E := by
  have s : Same H (upd (upd H dx (.own x)) x (.ins C dx [])) := Same.new (Same.new (fun _ _ z => z) hd) (by rw [upd_ne ne.symm]; exact hx)
  refine ⟨x, dx, v, u, rfl, upd_same, h.same s fun q k => ⟨rfl, ?_⟩⟩
  rw [upd_upd]
  exact k x dx _ hx (Same.new (Same.new (fun _ _ z => z) hd) (by rw [upd_ne ne.symm]; exact hx)) upd_same
/-- Ratio(e) -/
theorem pe_rat1 (R : Rat X.prog X.w X.K X.mg X.base cB cN C fI) (hr : Room 5 X.A) (hx : Passes (L2.CX X.prog X.w) X E) (he : PE X e te) (hg : Gl X "Ratio" := by rfl)
    (hs : starEach [e] X.env = (false, eval e X.env) :: starEach [] X.env := by rfl) : PE X (.Call (.Name "Ratio" p) [e] [] pos) (tRat1 X.K C cB cN E te) := by
  obtain ⟨fd, F, ⟨ds, v1, b1⟩, _⟩ := R.init
  refine ⟨fun pins s σ H Q I h => wpAny_Call_Name_kw (ld_glob I hg R.cls.g ?_ (by decide))⟩
  refine PySem.W.callWith_K (h₀ := X.base) I.ok.mod.kin R.cls.made.kp ?_ hs (by rfl)
  rw [hs]
  show wpAny _ _ (spliced ((false, eval e X.env) :: backTo pos (starEach [] X.env))) _ _ s
  refine Calls.spliced_cons (thn (he.run pins s σ H _ I h) fun w1 s1 ⟨x, H1, I1, r1, q1⟩ => Calls.spliced_nil ⟨I1.kIn, ?_⟩)
  exact run_make (vs := [x]) R.cls.made F hr b1 v1 hx I1 (.cons r1 .nil) fun a dx ha hd ne => init_of q1 ha hd ne
/-- Ratio(e, e2) -/
theorem pe_rat2 (R : Rat X.prog X.w X.K X.mg X.base cB cN C fI) (hr : Room 5 X.A) (hx : Passes (L2.CX X.prog X.w) X E) (he : PE X e te) (he2 : PE X e2 te2) (hg : Gl X "Ratio" := by rfl)
    (hs : starEach [e, e2] X.env = (false, eval e X.env) :: starEach [e2] X.env := by rfl) (hs2 : starEach [e2] X.env = (false, eval e2 X.env) :: starEach [] X.env := by rfl) : PE X (.Call (.Name "Ratio" p) [e, e2] [] pos) (tRat2 X.K C cB cN E te te2) := by
  obtain ⟨fd, F, _, b2⟩ := R.init
  refine ⟨fun pins s σ H Q I h => wpAny_Call_Name_kw (ld_glob I hg R.cls.g ?_ (by decide))⟩
  refine PySem.W.callWith_K (h₀ := X.base) I.ok.mod.kin R.cls.made.kp ?_ hs (by rw [hs2]; rfl)
  rw [hs, hs2]
  show wpAny _ _ (spliced ((false, eval e X.env) :: (false, eval e2 X.env) :: backTo pos (starEach [] X.env))) _ _ s
  refine Calls.spliced_cons (thn (he.run pins s σ H _ I h) fun w1 s1 ⟨x, H1, I1, r1, q1⟩ => ?_)
  refine Calls.spliced_cons (thn (he2.run pins s1 σ H1 _ I1 q1) fun w2 s2 ⟨y, H2, I2, r2, q2⟩ => Calls.spliced_nil ⟨I2.kIn, ?_⟩)
  exact run_make (vs := [x, y]) (dvs := []) R.cls.made F hr b2 .nil hx I2 (.cons r1 (.cons r2 .nil)) fun a dx ha hd ne => init_of q2 ha hd ne
end
end K03
end
section
set_option maxHeartbeats 4000000
namespace K03
open PySem PySem.Spec PyProof.Rows L2
/-- a thing that is neither an integer nor a Ratio -/
def Odd (K : PySem.W.Frag) (H : Hp) (v : V) : Prop := ∃ T : String, T ∈ kinds ∧ T ≠ "int" ∧ TyX K H v (.type T) ∧ NoDct H v
theorem Odd.same {K : PySem.W.Frag} {H H' : Hp} {v : V} (h : Odd K H v) (s : Same H H') : Odd K H' v := by
  obtain ⟨T, h1, h2, h3, h4⟩ := h
  exact ⟨T, h1, h2, h3.same s, h4.same s⟩
theorem kinds_int {T : String} (h : T ∈ kinds) (n : T ≠ "int") : ∃ b c : Bool, kitB T "int" = some b ∧ kitB T "bool" = some c ∧ (b && !c) = false := by
  unfold kinds at h
  simp only [List.mem_cons, List.not_mem_nil, or_false] at h
  rcases h with rfl | rfl | rfl | rfl | rfl | rfl | rfl
  · exact absurd rfl n
  all_goals first
    | exact ⟨true, true, by decide +kernel, by decide +kernel, rfl⟩
    | exact ⟨false, false, by decide +kernel, by decide +kernel, rfl⟩
theorem kinds_blt {T : String} (h : T ∈ kinds) : (fastBuiltinMro T).isSome = true := by
  unfold kinds at h
  simp only [List.mem_cons, List.not_mem_nil, or_false] at h
  rcases h with rfl | rfl | rfl | rfl | rfl | rfl | rfl <;> decide +kernel
theorem Odd.no {K : PySem.W.Frag} {H : Hp} {v : V} (h : Odd K H v) : NoInt K H v := by
  obtain ⟨T, h1, h2, h3, _⟩ := h
  obtain ⟨b, c, e1, e2, e3⟩ := kinds_int h1 h2
  exact ⟨.type T, b, c, h3, kit_ty e1, kit_ty e2, e3⟩
section
variable {K : PySem.W.Frag} {mg : Str → Option Value} {C fI : Addr}
theorem RatC.kit (R : RatC K mg C fI) {T : String} (h : (fastBuiltinMro T).isSome = true) : PySem.W.kitOne K (.type T) (.ref C) = some false := by
  obtain ⟨cd, h1, _⟩ := R.t1.mr
  unfold PySem.W.kitOne
  rw [if_neg (by simp)]
  show (if ((PySem.W.clsIn K C).isSome && PySem.W.typeIn K (.ref C) == some (.type "type")) = true then PySem.W.subIn K (.type T) (.ref C) else none) = some false
  rw [if_pos (by rw [h1, R.ty]; rfl)]
  exact PySem.OwnB.sub_type h
theorem kit_me : PySem.W.kitOne K (.ref C) (.ref C) = some true := by
  unfold PySem.W.kitOne
  rw [if_pos (by simp)]
theorem RatC.kitI (R : RatC K mg C fI) {T : String} (hm : PySem.W.kitMeta T = true) (h : T ≠ "object") : PySem.W.kitOne K (.ref C) (.type T) = some false := by
  unfold PySem.W.kitOne
  rw [if_neg (by simp)]
  show (if PySem.W.kitMeta T = true then PySem.W.subIn K (.ref C) (.type T) else none) = some false
  rw [if_pos hm]
  exact R.t1.no h
end
theorem low_one (t : Int) : low t 1 = (t, 1) := by
  have e : shr t 1 = 1 := by
    unfold shr
    rw [if_neg (by decide)]
    simp
  unfold low
  rw [e]
  simp
abbrev sLooks : Stmt := top 25
abbrev sAs : Stmt := top 31
abbrev sOpd : Stmt := top 32
def spLooks (K : PySem.W.Frag) : Sp := fun vs H Q _ => ∃ (v : V) (z : Str) (T : String), vs = [v, .str z] ∧ T ∈ kinds ∧ TyX K H v (.type T) ∧ NoDct H v ∧ Q (.bl false) H
/-- the class Mark -/
structure MarkC (K : PySem.W.Frag) (mg : Str → Option Value) (CM : Addr) : Prop where
  g : mg "Mark" = some (.ref CM)
  ga : mg "getattr" = none
  t1 : Top1 K CM
  ty : PySem.W.typeIn K (.ref CM) = some (.type "type")
/-- a Ratio, an integer that stands for one, or a thing of another kind -/
inductive Stands (K : PySem.W.Frag) (C cB : Addr) (H : Hp) (E : XK) (v : V) (old : Addr → Int × Int → Prop) (new : Int → Prop) : Prop where
  | rat (a dx : Addr) (q : Int × Int) (hv : v = .ref a) (e : H a = some (K03.rat C dx q)) (k : old a q) : Stands K C cB H E v old new
  | int (t : Int) (hv : v = .int t) (k : new t) : Stands K C cB H E v old new
  | odd (o : Odd K H v) (k : Bad cB v H E) : Stands K C cB H E v old new
def spAs (K : PySem.W.Frag) (C cB : Addr) : Sp := fun vs H Q E => ∃ v, vs = [v] ∧ Stands K C cB H E v (fun _ _ => Q v H) fun t => NewR C H Q (t, 1)
theorem MarkC.kit {K : PySem.W.Frag} {mg : Str → Option Value} {CM : Addr} (R : MarkC K mg CM) {T : String} (h : (fastBuiltinMro T).isSome = true) : PySem.W.kitOne K (.type T) (.ref CM) = some false := by
  obtain ⟨cd, h1, _⟩ := R.t1.mr
  unfold PySem.W.kitOne
  rw [if_neg (by simp)]
  show (if ((PySem.W.clsIn K CM).isSome && PySem.W.typeIn K (.ref CM) == some (.type "type")) = true then PySem.W.subIn K (.type T) (.ref CM) else none) = some false
  rw [if_pos (by rw [h1, R.ty]; rfl)]
  exact PySem.OwnB.sub_type h
section
variable {P : Program} {w : World} {K : PySem.W.Frag} {mg : Str → Option Value} {base : Heap} {cB cN C fI TT : Addr}
theorem scLooks : FnScope ["value", "below", "mark"] ["value", "below"] (defScope sLooks) := ⟨rfl, rfl, rfl, by decide +kernel, rfl, by decide +kernel, by decide +kernel⟩
theorem ok_looks {f CM : Addr} {fd : FuncData} (F : Fun K "looks_after" "looks_after" sLooks f fd) (M : MarkC K mg CM) (B : TxtR mg) : FnOk P w K mg base CX0 1 f fd ["value", "below"] (spLooks K) := by
  refine F.ok scLooks (fun vs H Q E h => ?_) (fun cdv A outer s H vs Q E hr h => ?_)
  · obtain ⟨v, z, T, rfl, _⟩ := h
    rfl
  · obtain ⟨v, z, T, rfl, hT, ty, nd, q⟩ := h
    have n2 := scLooks.nd
    refine ⟨_, pss_cons (ps_set (i := 2) n2 rfl (Or.inl rfl) (pe_callB (call_getM rfl) (by rfl) M.ga (by decide +kernel) (pa_cons (pv 0) (pa_cons pe_str (pa_cons pe_non pa_nil)))))
      (pss_one (ps_ret (pe_and (pe_callB call_isi (by rfl) B.isi (by decide +kernel) (pa_cons (pv 2) (pa_cons (pe_glob (v := .ref CM) (by rfl) M.g rfl) pa_nil)))
        (pe_one (pe_cmpR op_in_seq (pv 1) (pe_fld (pv 2) rfl) (by rfl)))))), ?_⟩
    refine ⟨_, rfl, v, .non, T, rfl, hT, ty, nd, ?_⟩
    exact ⟨_, rfl, _, .ref CM, .type "NoneType", .ref CM, false, rfl, .own CM, .base .non, M.kit (by decide +kernel), false, rfl, q⟩
theorem scAs : FnScope ["value"] ["value"] (defScope sAs) := ⟨rfl, rfl, rfl, by decide +kernel, rfl, by decide +kernel, by decide +kernel⟩
theorem ok_as {f : Addr} {fd : FuncData} (F : Fun K "as_ratio" "as_ratio" sAs f fd) (R : Rat P w K mg base cB cN C fI) (B : TxtR mg) : FnOk P w K mg base (L2.CX P w) 6 f fd ["value"] (spAs K C cB) := by
  refine F.okX scAs (fun vs H Q E h => ?_) (fun cdv A outer s H vs Q E hr h => ?_)
  · obtain ⟨v, rfl, _⟩ := h
    rfl
  · obtain ⟨v, rfl, k⟩ := h
    refine ⟨_, pss_one (ps_ret (pe_ifExp (pt_val (pe_callB call_isi (by rfl) B.isi (by decide +kernel) (pa_cons (pv 0) (pa_cons (pe_glob (v := .ref C) (by rfl) R.cls.g rfl) pa_nil)))) (pv 0) (pe_rat1 (E := E) R hr (passK (takes_of rfl rfl rfl rfl)) (pv 0)))), ?_⟩
    cases k with
    | rat a dx q hv e k =>
      subst hv
      exact ⟨_, rfl, _, .ref C, .ref C, .ref C, true, rfl, .own C, R.tyx H a dx _ e, kit_me, true, rfl, _, rfl, k⟩
    | int t hv k =>
      subst hv
      refine ⟨_, rfl, _, .ref C, .type "int", .ref C, false, rfl, .own C, .base (.int t), R.cls.kit (by decide +kernel), false, rfl, _, rfl, ?_⟩
      exact .good t 1 rfl rfl (by decide) (by decide +kernel) (by rw [low_one]; exact k)
    | odd o k =>
      obtain ⟨T, h1, h2, h3, h4⟩ := o
      refine ⟨_, rfl, _, .ref C, .type T, .ref C, false, rfl, .own C, h3, R.cls.kit (kinds_blt h1), false, rfl, _, rfl, ?_⟩
      exact .top (Odd.no ⟨T, h1, h2, h3, h4⟩) k
/-- what reads an x, put through as_ratio when it is no Ratio -/
def tAsR (K : PySem.W.Frag) (C cB : Addr) (E : XK) (i : Nat) : TE := fun σ H Q => ∃ v, σ[i]? = some (some v) ∧ spAs K C cB [v] H Q E
section
variable {X : Cx} {E : XK}
/-- x if isinstance(x, Ratio) else e, where e is told of what is no Ratio -/
theorem pe_ifR (R : Rat X.prog X.w X.K X.mg X.base cB cN C fI) {i : Nat} {x : Str} {e : Expr} {te : TE} {p1 p2 p3 p4 p5 p6 : Pos} (hv : ∀ p, PE X (.Name x p) (tVar i)) (he : PE X e te)
    (hi : ∀ σ H Q (t : Int), σ[i]? = some (some (.int t)) → NewR C H Q (t, 1) → te σ H Q) (ho : ∀ σ H Q v, σ[i]? = some (some v) → Odd X.K H v → Bad cB v H E → te σ H Q) (gi : Gl X "isinstance" := by rfl) (hg : Gl X "Ratio" := by rfl) :
    PE X (.IfExp (.Call (.Name "isinstance" p1) [.Name x p2, .Name "Ratio" p3] [] p4) (.Name x p5) e p6) (tAsR X.K C cB E i) := by
  have h := pe_ifExp (X := X) (pos := p6) (pt_val (pe_callB (p := p1) (pos := p4) call_isi gi R.txt.isi (by decide +kernel) (pa_cons (hv p2) (pa_cons (pe_glob (pos := p3) (v := .ref C) hg R.cls.g rfl) pa_nil)))) (hv p5) he
  refine ⟨fun pins s σ H Q I ⟨v, ev, w, e1, k⟩ => h.run pins s σ H Q I ?_⟩
  cases e1
  cases k with
  | rat a dx q hv e k =>
    subst hv
    exact ⟨_, ev, _, .ref C, .ref C, .ref C, true, rfl, .own C, R.tyx H a dx _ e, kit_me, true, rfl, _, ev, k⟩
  | int t hv k =>
    subst hv
    exact ⟨_, ev, _, .ref C, .type "int", .ref C, false, rfl, .own C, .base (.int t), R.cls.kit (by decide +kernel), false, rfl, hi _ _ _ _ ev k⟩
  | odd o k =>
    obtain ⟨T, h1, h2, h3, h4⟩ := o
    exact ⟨_, ev, _, .ref C, .type T, .ref C, false, rfl, .own C, h3, R.cls.kit (kinds_blt h1), false, rfl, ho _ _ _ _ ev ⟨T, h1, h2, h3, h4⟩ k⟩
/-- x if isinstance(x, Ratio) else Ratio(x) -/
theorem pe_asR (R : Rat X.prog X.w X.K X.mg X.base cB cN C fI) (hr : Room 5 X.A) (hx : Passes (L2.CX X.prog X.w) X E) {i : Nat} {x : Str} {p1 p2 p3 p4 p5 p6 p7 p8 p9 : Pos} (hv : ∀ p, PE X (.Name x p) (tVar i)) (gi : Gl X "isinstance" := by rfl) (hg : Gl X "Ratio" := by rfl) :
    PE X (.IfExp (.Call (.Name "isinstance" p1) [.Name x p2, .Name "Ratio" p3] [] p4) (.Name x p5) (.Call (.Name "Ratio" p7) [.Name x p8] [] p9) p6) (tAsR X.K C cB E i) :=
  pe_ifR R hv (pe_rat1 (E := E) R hr hx (hv p8) hg rfl) (fun σ H Q t ev k => ⟨_, ev, .good t 1 rfl rfl (by decide) (by decide +kernel) (by rw [low_one]; exact k)⟩) (fun σ H Q v ev o k => ⟨_, ev, .top o.no k⟩) gi hg
theorem pe_asRK (K : PySem.W.Frag) (R : Rat X.prog X.w K X.mg X.base cB cN C fI) (hr : Room 5 X.A) (hx : Passes (L2.CX X.prog X.w) X E) {i : Nat} {x : Str} {p1 p2 p3 p4 p5 p6 p7 p8 p9 : Pos} (hv : ∀ p, PE X (.Name x p) (tVar i)) (hK : X.K = K := by rfl) (gi : Gl X "isinstance" := by rfl) (hg : Gl X "Ratio" := by rfl) :
    PE X (.IfExp (.Call (.Name "isinstance" p1) [.Name x p2, .Name "Ratio" p3] [] p4) (.Name x p5) (.Call (.Name "Ratio" p7) [.Name x p8] [] p9) p6) (tAsR K C cB E i) := by
  subst hK
  exact pe_asR R hr hx hv gi hg
end
theorem scOpd : FnScope ["other"] ["other"] (defScope sOpd) := ⟨rfl, rfl, rfl, by decide +kernel, rfl, by decide +kernel, by decide +kernel⟩
/-- operand of what is no Ratio -/
def spOpd (K : PySem.W.Frag) (C cB : Addr) : Sp := fun vs H Q E => ∃ v, vs = [v] ∧ ((∃ t, v = .int t ∧ NewR C H Q (t, 1)) ∨ (Odd K H v ∧ Bad cB v H E))
theorem ok_opd {f fc fa : Addr} {fd fdc fda : FuncData} (F : Fun K "operand" "operand" sOpd f fd) (R : Rat P w K mg base cB cN C fI) (B : TxtR mg) (Gc : FnOk P w K mg base CX0 1 fc fdc ["value", "below"] (spLooks K)) (gc : mg "looks_after" = some (.ref fc)) (kc : PySem.W.keepIn K (.ref fc) = true) (bc : Binds K fdc ["value", "below"] [])
    (Ga : FnOk P w K mg base (L2.CX P w) 6 fa fda ["value"] (spAs K C cB)) (ga : mg "as_ratio" = some (.ref fa)) (ka : PySem.W.keepIn K (.ref fa) = true) (ba : Binds K fda ["value"] []) : FnOk P w K mg base (L2.CX P w) 7 f fd ["other"] (spOpd K C cB) := by
  refine F.okX scOpd (fun vs H Q E h => ?_) (fun cdv A outer s H vs Q E hr h => ?_)
  · obtain ⟨v, rfl, _⟩ := h
    rfl
  · obtain ⟨v, rfl, k⟩ := h
    have hr1 : Room 1 _ := hr.mono (by decide)
    refine ⟨_, pss_cons (ps_if (pt_val (pe_call Gc hr1 (by rfl) gc kc bc .nil pass0 (pa_cons (pv 0) (pa_cons pe_str pa_nil)))) (pss_one (ps_ret pe_non)) pss_nil)
      (pss_one (ps_ret (pe_call (E := E) Ga hr (by rfl) ga ka ba .nil (passK (takes_of rfl rfl rfl rfl)) (pa_cons (pv 0) pa_nil)))), ?_⟩
    rcases k with ⟨t, rfl, k⟩ | ⟨⟨T, h1, h2, h3, h4⟩, k⟩
    · refine ⟨_, rfl, _, _, "int", rfl, by decide +kernel, .base (.int t), (fun _ z => nomatch z), false, rfl, ?_⟩
      exact ⟨_, rfl, _, rfl, .int t rfl k⟩
    · refine ⟨_, rfl, _, _, T, rfl, h1, h3, h4, false, rfl, ?_⟩
      exact ⟨_, rfl, _, rfl, .odd ⟨T, h1, h2, h3, h4⟩ k⟩
/-- x if isinstance(x, Ratio) else operand(x) -/
theorem pe_opR {X : Cx} {E : XK} {f : Addr} {fd : FuncData} (R : Rat X.prog X.w X.K X.mg X.base cB cN C fI) (G : FnOk X.prog X.w X.K X.mg X.base (L2.CX X.prog X.w) 7 f fd ["other"] (spOpd X.K C cB)) (g : X.mg "operand" = some (.ref f)) (kp : PySem.W.keepIn X.K (.ref f) = true) (bo : Binds X.K fd ["other"] []) (hr : Room 7 X.A) (hx : Passes (L2.CX X.prog X.w) X E) {i : Nat} {x : Str} {p1 p2 p3 p4 p5 p6 p7 p8 p9 : Pos}
    (hv : ∀ p, PE X (.Name x p) (tVar i)) (gi : Gl X "isinstance" := by rfl) (hg : Gl X "Ratio" := by rfl) (ho : Gl X "operand" := by rfl) :
    PE X (.IfExp (.Call (.Name "isinstance" p1) [.Name x p2, .Name "Ratio" p3] [] p4) (.Name x p5) (.Call (.Name "operand" p7) [.Name x p8] [] p9) p6) (tAsR X.K C cB E i) :=
  pe_ifR R hv (pe_call (E := E) G hr ho g kp bo .nil hx (pa_cons (hv p8) pa_nil)) (fun σ H Q t ev k => ⟨_, ev, _, rfl, .inl ⟨t, rfl, k⟩⟩) (fun σ H Q v ev o k => ⟨_, ev, _, rfl, .inr ⟨o, k⟩⟩) gi hg
end
end K03
end
section
set_option maxHeartbeats 4000000
namespace L3
open PySem PySem.Spec PyProof.Rows L2
section
variable {X : Cx} {e : Expr} {te : TE} {lo hi st : Option Expr} {tl tu ts : TO} {p3 pos : Pos}
end
/-! ### every m-th place from r on -/
end L3
end
section
set_option maxHeartbeats 4000000
namespace L3
open PySem PySem.Spec PyProof.Rows L2
section
variable {X : Cx} {CX : CXT} {k n : Nat} {f : Addr} {fd : FuncData} {ps ks : List Str} {sp : Sp} {E : XK} {x : Str} {p pos : Pos} {e : Expr} {es : List Expr} {kws : List Keyword} {t tk : TA} {g : List Value → List Value → List Value} {gV : List V → List V → List V}
end
end L3
end
section
set_option maxHeartbeats 4000000
namespace L3
open PySem PySem.Spec PyProof.Rows L2 K03
/-- a def of the text that keeps its promise, and stands under its name -/
structure Dfn (P : Program) (w : World) (K : PySem.W.Frag) (mg : Str → Option Value) (base : Heap) (CX : CXT) (k : Nat) (x : Str) (ps : List Str) (sp : Sp) : Prop where
  ex : ∃ f fd, FnOk P w K mg base CX k f fd ps sp ∧ mg x = some (.ref f) ∧ PySem.W.keepIn K (.ref f) = true ∧ Binds K fd ps []
section
variable {X : Cx} {CX : CXT} {k j : Nat} {ps : List Str} {sp : Sp} {E : XK} {x : Str} {p pos : Pos} {e : Expr} {es : List Expr} {t : TA}
/-- f(e, ..), f a def that raises nothing -/
theorem dc (h : Dfn X.prog X.w X.K X.mg X.base CX0 k x ps sp) (hr : Room j X.A) (hj : k ≤ j) (ha : PA X (e :: es) t) (hg : Gl X x := by rfl) (hdb : (x == ("__debug__" : Str)) = false := by decide)
    (he : starEach (e :: es) X.env = (false, eval e X.env) :: starEach es X.env := by rfl) (hpl : (backTo pos (starEach es X.env)).any (·.1) = false := by rfl) : PE X (.Call (.Name x p) (e :: es) [] pos) (tCall sp [] E0 t) := by
  obtain ⟨f, fd, G, g, kp, b⟩ := h.ex
  exact pe_call G (hr.mono hj) hg g kp b .nil pass0 ha hdb he hpl
/-- .. one that may raise, here it does not -/
theorem dcL (h : Dfn X.prog X.w X.K X.mg X.base (L2.CX X.prog X.w) k x ps sp) (hr : Room j X.A) (hj : k ≤ j) (ha : PA X (e :: es) t) (hg : Gl X x := by rfl) (hdb : (x == ("__debug__" : Str)) = false := by decide)
    (he : starEach (e :: es) X.env = (false, eval e X.env) :: starEach es X.env := by rfl) (hpl : (backTo pos (starEach es X.env)).any (·.1) = false := by rfl) : PE X (.Call (.Name x p) (e :: es) [] pos) (tCall sp [] E0 t) := by
  obtain ⟨f, fd, G, g, kp, b⟩ := h.ex
  exact pe_call (E := E0) G (hr.mono hj) hg g kp b .nil passL ha hdb he hpl
/-- .. one that may raise, its errors leave the def -/
theorem dcE (h : Dfn X.prog X.w X.K X.mg X.base (L2.CX X.prog X.w) k x ps sp) (hr : Room j X.A) (hj : k ≤ j) (hx : Passes (L2.CX X.prog X.w) X E) (ha : PA X (e :: es) t) (hg : Gl X x := by rfl) (hdb : (x == ("__debug__" : Str)) = false := by decide)
    (he : starEach (e :: es) X.env = (false, eval e X.env) :: starEach es X.env := by rfl) (hpl : (backTo pos (starEach es X.env)).any (·.1) = false := by rfl) : PE X (.Call (.Name x p) (e :: es) [] pos) (tCall sp [] E t) := by
  obtain ⟨f, fd, G, g, kp, b⟩ := h.ex
  exact pe_call (E := E) G (hr.mono hj) hg g kp b .nil hx ha hdb he hpl
end
end L3
end
section
set_option maxHeartbeats 4000000
namespace L3
open PySem PySem.Spec PyProof.Rows L2 LamX NdefX
/-- a lambda: its words, its cells -/
structure LW where
  q : Str
  params : Arguments
  body : Expr
  scope : Scope
  cl : List (Str × Addr)
/-- the object at f is the lambda w, its code object at c -/
def LamO (f : Addr) (w : LW) (c : Addr) : HO := .ext fun h => ∃ (od : Option Addr) (sl : Array (Option Value)) (pm ctv : Value), h.get? f = some (⟨.type "function", od, .func (PySem.W.kla_fn "<lambda>" w.q w.params w.body w.scope w.cl pm (.ref c) ctv), sl⟩ : Obj)
theorem lamO_at {P : Program} {w : World} {H : Hp} {h : Heap} {f c : Addr} {l : LW} (hok : HOk P w H h) (e : H f = some (LamO f l c)) :
    ∃ (od : Option Addr) (sl : Array (Option Value)) (pm ctv : Value), h.get? f = some (⟨.type "function", od, .func (PySem.W.kla_fn "<lambda>" l.q l.params l.body l.scope l.cl pm (.ref c) ctv), sl⟩ : Obj) := by
  obtain ⟨z, _, _⟩ := hok f _ e
  exact z
theorem lamO_ne {f c : Addr} {l : LW} (ps : Array Value) : LamO f l c ≠ .tbl ps := fun z => by
  unfold LamO at z
  cases z
section
variable {X : Cx} {pins : List (Addr × Obj)} {σ : L2.St} {H : Hp} {s : Shared}
/-- a lambda's object just laid behind all others is known from now on -/
theorem inv_lam {l : LW} {c : Addr} {t' : Nat} {pm ctv : Value} (I : Inv X pins σ H s) :
    Inv X pins σ (upd H s.heap.objs.size (LamO s.heap.objs.size l c)) { s with heap := s.heap.push (PySem.W.kla_obj "<lambda>" l.q l.params l.body l.scope l.cl pm c ctv), toks := t' } := by
  have got : (s.heap.push (PySem.W.kla_obj "<lambda>" l.q l.params l.body l.scope l.cl pm c ctv)).get? s.heap.objs.size = some (PySem.W.kla_obj "<lambda>" l.q l.params l.body l.scope l.cl pm c ctv) := Heap.get?_push_size _ rfl
  refine I.laid (fun b u e => Heap.get?_push_of_some _ e) (Nat.le_refl _) ⟨⟨_, _, pm, ctv, got⟩, ⟨_, got⟩, ?_⟩
  rintro h1 h2 ⟨od, sl, p, t, z⟩ st
  exact ⟨od, sl, p, t, st _ z⟩
/-- the lambda is made, and tracked -/
theorem lam_new {T : List (Addr × Str)} {c P : Addr} {params : Arguments} {body : Expr} {scope : Scope} {pos : Pos} {E : Value → Shared → Prop} {Q : Value → Shared → Prop} (I : Inv X pins σ H s) (TB : TabB X.base X.mg c P) (hcode : X.env.code = .ref c)
    (hm : (P, X.env.qual ++ "<lambda>") ∈ T) (hu : ∀ p ∈ T, p.1 = P → p.2 = X.env.qual ++ "<lambda>") (hT : Tabs T H) (hdef : defaultsOf params X.env = ([], [])) (hfree : ∀ y ∈ scope.names, y.2 = .free → ∃ c, X.env.cells.lookup y.1 = some c)
    (h : ∀ (f c' : Addr) (H1 : Hp) (s' : Shared), Inv X pins σ H1 s' → ExtN H H1 → (∀ b, H1 b = Option.none → H b = Option.none) → Tabs T H1 → H f = Option.none →
      H1 f = some (LamO f ⟨X.env.qual ++ "<lambda>", params, body, scope, cloFrom X.env.cells scope.names []⟩ c') → H1 c' = some (CodeO c' (X.env.qual ++ "<lambda>")) → Q (.ref f) s') :
    wpAny (model X.prog X.w) X.A (eval (.Lambda params body scope pos) X.env) Q E s := by
  obtain ⟨ps, hP, ht, ha⟩ := hT _ hm
  have bP := TB.bm.keeps I.bk
  have oP : s.heap.get? P = some { cls := .none, data := .fields ps } := I.hok P _ hP
  refine PySem.W.kla_eval hdef ?_
  cases hc : codeAmong pos ps.toList with
  | some cv =>
    obtain ⟨c', e, hco⟩ := ha pos cv hc
    subst e
    refine PySem.W.kla_makeFunctionHit (mg := X.mg) (c := c) (P := P) (ps := ps) (closure_ok hfree) I.ok.glob (I.mod.glob.keeps I.bk) hcode (TB.code.keeps I.bk) oP ht hc bP fun ctv h' tk hx hsz => ?_
    have I1 : Inv X pins σ H { s with heap := h', toks := tk } := I.kept hx
    have nF := I1.hok.fresh (Nat.le_refl _)
    have I2 := inv_lam (t' := tk) (l := ⟨X.env.qual ++ "<lambda>", params, body, scope, cloFrom X.env.cells scope.names []⟩) (c := c') (pm := (X.mg "__name__").getD .none) (ctv := ctv) I1
    exact h _ c' _ _ I2 (fun b o e n => (upd_ne (ne_of_none e nF)).trans e) (fun b e => upd_none e) (hT.ext fun b o e => (upd_ne (ne_of_none e nF)).trans e) nF upd_same ((upd_ne (ne_of_none hco nF)).trans hco)
  | none =>
    refine PySem.W.kla_makeFunction (mg := X.mg) (c := c) (P := P) (ps := ps) (closure_ok hfree) I.ok.glob (I.mod.glob.keeps I.bk) hcode (TB.code.keeps I.bk) oP ht hc TB.gP bP fun c' ctv h' tk hx hge hlt hrec htb => ?_
    obtain ⟨c2, oc, vs, t, e2, hoc, hd, hv⟩ := hrec
    cases e2
    have nC : H c' = Option.none := I.hok.fresh hge
    have I1 := inv_table (t' := tk) (more := #[rawInt pos.line, rawInt pos.col, .ref c']) (h' := h') I hP (fun b o hb e => hx b o hb e) htb hge ⟨oc, vs, t, hoc, hd, hv⟩
    have eL : (ps ++ #[rawInt pos.line, rawInt pos.col, .ref c']).toList = ps.toList ++ [rawInt pos.line, rawInt pos.col, .ref c'] := by simp
    have kE : ExtN H (upd (upd H P (.tbl (ps ++ #[rawInt pos.line, rawInt pos.col, .ref c']))) c' (CodeO c' (X.env.qual ++ "<lambda>"))) := fun b o e n => by
      have n1 : b ≠ P := fun z => by
        rw [z, hP] at e
        exact n ps (Option.some.inj e).symm
      rw [upd_ne (ne_of_none e nC), upd_ne n1]
      exact e
    have tC : upd (upd H P (.tbl (ps ++ #[rawInt pos.line, rawInt pos.col, .ref c']))) c' (CodeO c' (X.env.qual ++ "<lambda>")) c' = some (CodeO c' (X.env.qual ++ "<lambda>")) := upd_same
    have T1 : Tabs T (upd (upd H P (.tbl (ps ++ #[rawInt pos.line, rawInt pos.col, .ref c']))) c' (CodeO c' (X.env.qual ++ "<lambda>"))) := fun p hp => by
      by_cases hb : p.1 = P
      · rw [hu p hp hb, hb]
        refine ⟨ps ++ #[rawInt pos.line, rawInt pos.col, .ref c'], (upd_ne (ne_of_none hP nC)).trans upd_same, by rw [eL]; exact PySem.TriplesOk_snoc _ _ _ _ ht, fun p' cv hcv => ?_⟩
        rw [eL] at hcv
        rcases among_app _ ht hcv with z | z
        · obtain ⟨c0, e1, e2⟩ := ha p' cv z
          exact ⟨c0, e1, kE _ _ e2 codeO_ne⟩
        · exact ⟨c', z, tC⟩
      · obtain ⟨qs, a1, a2, a3⟩ := hT p hp
        refine ⟨qs, ?_, a2, fun p' cv hcv => ?_⟩
        · rw [upd_ne (ne_of_none a1 nC), upd_ne hb]
          exact a1
        · obtain ⟨c0, e1, e2⟩ := a3 p' cv hcv
          exact ⟨c0, e1, kE _ _ e2 codeO_ne⟩
    have nF := I1.hok.fresh (Nat.le_refl _)
    have I2 := inv_lam (t' := tk) (l := ⟨X.env.qual ++ "<lambda>", params, body, scope, cloFrom X.env.cells scope.names []⟩) (c := c') (pm := (X.mg "__name__").getD .none) (ctv := ctv) I1
    exact h _ c' _ _ I2 (fun b o e n => (upd_ne (ne_of_none (kE b o e n) nF)).trans (kE b o e n)) (fun b e => upd_none (upd_none (upd_none e))) (T1.ext fun b o e => (upd_ne (ne_of_none e nF)).trans e)
      (I.hok.fresh (Nat.le_trans hge (Nat.le_of_lt hlt))) upd_same ((upd_ne (Nat.ne_of_lt hlt)).trans tC)
end
/-- lambda: body, as a value -/
def tLamV (T : List (Addr × Str)) (l : LW) : TE := fun _ H Q => Tabs T H ∧ ∀ (f c' : Addr) (H1 : Hp), ExtN H H1 → (∀ b, H1 b = Option.none → H b = Option.none) → Tabs T H1 → H f = Option.none → H1 f = some (LamO f l c') → H1 c' = some (CodeO c' l.q) → Q (.ref f) H1
theorem pe_lam {X : Cx} {T : List (Addr × Str)} {c P : Addr} {params : Arguments} {body : Expr} {scope : Scope} {pos : Pos} (TB : TabB X.base X.mg c P) (hcode : X.env.code = .ref c) (hm : (P, X.env.qual ++ "<lambda>") ∈ T) (hu : ∀ p ∈ T, p.1 = P → p.2 = X.env.qual ++ "<lambda>")
    (L : LamS X.env.scope scope) (hdef : defaultsOf params X.env = ([], []) := by rfl) : PE X (.Lambda params body scope pos) (tLamV T ⟨X.env.qual ++ "<lambda>", params, body, scope, cloFrom X.env.cells scope.names []⟩) := by
  refine ⟨fun pins s σ H Q I h => ?_⟩
  obtain ⟨hT, h⟩ := h
  exact lam_new I TB hcode hm hu hT hdef (L.has I.ok) fun f c' H1 s' I1 eN nn T1 f0 f1 c1 => ⟨.ref f, H1, I1, rfl, h f c' H1 eN nn T1 f0 f1 c1⟩
end L3
end
section
set_option maxHeartbeats 4000000
namespace L3
open PySem PySem.Spec PyProof.Rows L2 LamX NdefX
/-- from one look to a later one, and from there on under frames that did not stand at the first -/
theorem un_then {fs fs' ex : List Addr} {H H1 H2 : Hp} {h h1 h2 : Heap} (a : Un fs ex H H1 h h1) (b : Un fs' [] H1 H2 h1 h2) (c : ∀ x ∈ fs', x ∈ fs ∨ h.get? x = none) : Un fs ex H H2 h h2 where
  keep x o e n hf hx := by
    refine b.keep x o (a.keep x o e n hf hx) (a.free x o e n hx) (fun z => ?_) (by simp)
    rcases c x z with k | k
    · exact hf k
    · rw [k] at e
      cases e
  slot x o e n hf hx := by
    obtain ⟨sl, e1⟩ := a.slot x o e n hf hx
    obtain ⟨sl2, e2⟩ := b.any e1 (a.free x o e n hx) (by simp)
    exact ⟨sl2, e2⟩
  free x o e n hx := by
    obtain ⟨o1, e1⟩ := a.there x o e hx
    exact b.free x o1 e1 (a.free x o e n hx) (by simp)
  there x o e hx := by
    obtain ⟨o1, e1⟩ := a.there x o e hx
    exact b.there x o1 e1 (by simp)
  tups x xs e := b.tups x xs (a.tups x xs e)
  frzs x o u e := b.frzs x o u (a.frzs x o u e)
  tbls x ps e := by
    obtain ⟨m1, e1⟩ := a.tbls x ps e
    obtain ⟨m2, e2⟩ := b.tbls x _ e1
    exact ⟨m1 ++ m2, by rw [e2, Array.append_assoc]⟩
/-- the frame of X stands with σ in its names, as it stood when the callee was entered -/
def Rd (X : Cx) (σ : L2.St) (outer : List Env) (s1 : Shared) (HZ : Hp) : Prop := ∃ (pins : List (Addr × Obj)) (s : Shared) (H : Hp) (ex : List Addr), Inv X pins σ H s ∧ Un (frs X.stack) ex H HZ s.heap s1.heap ∧ s.heap.objs.size ≤ s1.heap.objs.size ∧
  (∀ x c, X.env.cells.lookup x = some c → c ∉ ex) ∧ ∀ b ∈ frs outer, b ∈ frs X.stack ∨ s.heap.get? b = none
theorem Rd.start {X : Cx} {pins : List (Addr × Obj)} {σ : L2.St} {H : Hp} {s : Shared} (I : Inv X pins σ H s) : Rd X σ X.stack s H := ⟨pins, s, H, [], I, Un.refl, Nat.le_refl _, fun _ _ _ h => by simp at h, fun b h => .inl h⟩
/-- within a def that was entered so -/
theorem Rd.down {X : Cx} {σ σZ : L2.St} {CXg : CXT} {N : List Str} {qual : Str} {sc : Scope} {g : Addr} {cd : Value} {A : Around} {outer : List Env} {s1 s2 : Shared} {H1 H2 : Hp} {E : XK} {pn pinsZ : List (Addr × Obj)} {xe : Value → Shared → Prop}
    (r : Rd X σ outer s1 H1) (I : Inv ((cxOf CXg X.prog X.w X.K X.mg X.base N qual sc g cd A outer s1 H1 E).tr pn xe) pinsZ σZ H2 s2) : Rd X σ (envOfC qual sc s1.heap.objs.size g cd :: outer) s2 H2 := by
  obtain ⟨pins, s, H, ex, J, un, hz, hc, ho⟩ := r
  have z2 : s1.heap.objs.size ≤ s2.heap.objs.size := I.sz
  have base : Un (frs outer) [] H1 H2 s1.heap s2.heap := I.base
  refine ⟨pins, s, H, ex, J, un_then un base ho, Nat.le_trans hz z2, hc, fun b hb => ?_⟩
  have hb2 : b = s1.heap.objs.size ∨ b ∈ frs outer := by
    have z : b ∈ s1.heap.objs.size :: frs outer := hb
    exact List.mem_cons.mp z
  rcases hb2 with rfl | hb2
  · refine .inr ?_
    cases e : s.heap.get? s1.heap.objs.size with
    | none => rfl
    | some o =>
      exact absurd (Nat.lt_of_lt_of_le (Heap.lt_size e) hz) (Nat.lt_irrefl _)
  · exact ho b hb2
/-- a def's promise, where R holds of the frames and the state at its call -/
def FnRd (P : Program) (w : World) (K : PySem.W.Frag) (mg : Str → Option Value) (base : Heap) (CX : CXT) (k : Nat) (f : Addr) (R : List Env → Shared → Hp → Prop) (sp : Sp) : Prop :=
  ∀ (A : Around) (outer : List Env) (s : Shared) (H : Hp) (us : List Value) (vs : List V) (Q : VK) (E : XK), Room k A → Env0 P w K mg base A outer s H → Vals vs us → R outer s H → sp vs H Q E →
    codeAny (model P w) A (.call (.ref f) ⟨us, []⟩) (CR CX outer P w H s Q E) s
/-- .. of a def: its body, read from the state at its entry -/
theorem fn_rd {P : Program} {w : World} {K : PySem.W.Frag} {mg : Str → Option Value} {base : Heap} {CX : CXT} {x qual : Str} {st : Stmt} {f : Addr} {fd : FuncData} {N ps : List Str} {k : Nat} {R : List Env → Shared → Hp → Prop} {sp : Sp} (F : Fun K x qual st f fd) (S : FnScope N ps (defScope st)) (hb : L2.Binds K fd ps [])
    (len : ∀ vs H Q E, sp vs H Q E → vs.length = ps.length)
    (hbody : ∀ (cdv : Value) (A : Around) (outer : List Env) (s : Shared) (H : Hp) (vs : List V) (Q : VK) (E : XK), Room k (A.deeper (envOfC qual (defScope st) s.heap.objs.size f cdv)) → R outer s H → sp vs H Q E →
      ∃ t, PSs (cxOf CX P w K mg base N qual (defScope st) f cdv A outer s H E) (defBody st) t ∧ t { nx := fun _ H' => Q .non H', rt := Q } (L2.start N vs) H) : FnRd P w K mg base CX (k + 1) f R sp := by
  obtain ⟨oc, od, kV, doc, pm, an, cdv, ct, osl, rfl, lk, hcd⟩ := F.ex
  intro A outer s H us vs Q E hr e0 r hR hs
  have hl : vs.length = ps.length := len _ _ _ _ hs
  have KX : K.In s.heap := e0.mod.kin.keeps fun b o e => (e0.bs b o e).1
  have hbind := hb s us KX (by rw [List.append_nil, ← r.length]; exact hl)
  rw [List.append_nil] at hbind
  exact run_ofS lk hcd S hr e0 hbind r hl fun hr' => hbody cdv A outer s H vs Q E hr' hR hs
section
variable {X : Cx} {CX : CXT} {k : Nat} {f : Addr} {R : List Env → Shared → Hp → Prop} {sp : Sp} {E : L2.St → XK} {x : Str} {p pos : Pos} {e : Expr} {es : List Expr} {t : TA}
/-- its call, from where R is known of every state -/
theorem pe_callRd (G : FnRd X.prog X.w X.K X.mg X.base CX k f R sp) (hr : Room k X.A) (hg : Gl X x) (hm : X.mg x = some (.ref f)) (hk : PySem.W.keepIn X.K (.ref f) = true) (hR : ∀ (pins : List (Addr × Obj)) (s : Shared) (σ : L2.St) (H : Hp), Inv X pins σ H s → R X.stack s H)
    (hx : ∀ σ, PassesAt CX X σ (E σ)) (ha : PA X (e :: es) t) (hdb : (x == ("__debug__" : Str)) = false := by decide) (he : starEach (e :: es) X.env = (false, eval e X.env) :: starEach es X.env := by rfl) (hpl : (backTo pos (starEach es X.env)).any (·.1) = false := by rfl) :
    PE X (.Call (.Name x p) (e :: es) [] pos) (tCallS sp E t) := by
  refine ⟨fun pins s σ H Q I h => wpAny_Call_Name_kw (ld_glob I hg hm ?_ hdb)⟩
  refine PySem.W.callWith_K (h₀ := X.base) I.ok.mod.kin hk (thn (ha.run pos pins s σ H _ I h) fun us s1 ⟨vs, H1, I1, r, q⟩ => ⟨I1.kIn, ?_⟩) he hpl
  refine wpAny_call (codeAny_mono (G X.A X.stack s1 H1 us vs Q (E σ) hr I1.env0 r (hR _ _ _ _ I1) q) fun r s' hq => ?_)
  cases r with
  | error e => exact hx σ pins H1 s1 e s' I1 hq
  | ok fl =>
    cases fl with
    | ret u => exact I1.after hq
    | next => exact False.elim hq
    | brk => exact False.elim hq
    | cont => exact False.elim hq
end
end L3
end
section
set_option maxHeartbeats 4000000
namespace L3
open PySem PySem.Spec PyProof.Rows L2 LamX NdefX
/-- the lambda's body is entered, its maker's frame standing as Rd says -/
theorem lam_enter {X : Cx} {σ : L2.St} {HZ : Hp} {s1 : Shared} {A : Around} {outer : List Env} {E : XK} {scope : Scope} {f c' : Addr} {h₁ : Heap} {tk : Nat} (r : Rd X σ outer s1 HZ) (L : LamS X.env.scope scope) (e0 : Env0 X.prog X.w X.K X.mg X.base A outer s1 HZ) (hd : A.handled = none)
    (hns : h₁.Ns s1.heap.objs.size fun y => ([] : List (Str × Value)).reverse.lookup y) (kp : ∀ b o, s1.heap.get? b = some o → h₁.get? b = some o) :
    Inv (lamCx X A outer s1 HZ E scope f c') [] σ HZ { s1 with heap := h₁, toks := tk } := by
  obtain ⟨pins, s, H, ex, I, un, _, hc, _⟩ := r
  have from_ : ∀ {y c}, (cloFrom X.env.cells scope.names []).lookup y = some c → X.env.cells.lookup y = some c ∧ scope.names.lookup y = scope.names.lookup y := fun {y c} e => by
    rcases cloFrom_mem (PySem.mem_of_lookup e) with hm | ⟨h1, h2⟩
    · cases hm
    · obtain ⟨c1, h3⟩ := L.has I.ok _ h1 rfl
      have h3 : X.env.cells.lookup y = some c1 := h3
      have e2 : c = c1 := by rw [h2, h3] <;> rfl
      exact ⟨by rw [h3, e2], rfl⟩
  have there : ∀ {y}, scope.names.lookup y = some .free → ∃ c, (cloFrom X.env.cells scope.names []).lookup y = some c := fun {y} hl => mem_lookup (cloFrom_has (cells := X.env.cells) (acc := []) (PySem.mem_of_lookup hl))
  have cellK : ∀ {y : Str} {c : Addr} {v : Option Value}, X.env.cells.lookup y = some c → s.heap.IsCell c v → HZ c = none ∧ h₁.IsCell c v := fun {y c v} e ⟨o, ho, hv⟩ => by
    have n := I.freeC y c e
    obtain ⟨sl, q⟩ := un.any ho n (hc y c e)
    exact ⟨un.free c o ho n (hc y c e), _, kp _ _ q, hv⟩
  exact {
    ok := {
      mod := e0.mod
      kind := L.kind
      glob := rfl
      blt := rfl
      above := Nat.le_refl _
      inj := fun y z c e1 e2 => I.ok.inj y z c (from_ e1).1 (from_ e2).1
      has := fun y hy => by
        rcases (show scope.names.lookup y = some .cell ∨ scope.names.lookup y = some .free from hy) with k | k
        · exact absurd rfl (L.own _ (PySem.mem_of_lookup k)).2
        · exact there k
      cab := fun y c z _ => by
        have z : false = true := z
        cases z
      hd := fun _ => hd
      frames := Around.frames_deeper e0.frames
      stk := .inr ⟨rfl, rfl⟩
      exf := fun b z => absurd (show b ∈ ([] : List Addr) from z) (by simp)
      bs := e0.bs
      bsz := e0.bsz
      noex := fun b _ _ z => absurd (show b ∈ ([] : List Addr) from z) (by simp)
      exfs := fun b z => absurd (show b ∈ ([] : List Addr) from z) (by simp)
      funs := e0.funs
      frf := e0.frf }
    os := rfl
    bare := e0.bare
    base := Un.kept kp
    loc := by
      refine ⟨_, hns, fun i y v e1 e2 e3 => ?_⟩
      rcases (show Vis scope y from e3) with k | k | k
      · exact absurd rfl (L.own _ (PySem.mem_of_lookup k)).1
      · exact absurd rfl (L.own _ (PySem.mem_of_lookup k)).2
      · obtain ⟨m, _, hl⟩ := I.loc
        have fr := L.free _ (PySem.mem_of_lookup k) rfl
        have vis : Vis X.env.scope y := fr.elim (fun q => .inr (.inl q)) fun q => .inr (.inr q)
        obtain ⟨u, ru, q⟩ := hl i y v e1 e2 vis
        obtain ⟨c2, h2⟩ := there k
        have h3 := (from_ h2).1
        refine ⟨u, ru, .inr ⟨.inr k, c2, h2, ?_⟩⟩
        rcases q with ⟨k', _⟩ | ⟨_, c3, h4, z⟩
        · have k' : X.env.scope.names.lookup y = some .local := k'
          rcases fr with w | w
          · rw [show X.env.scope.names.lookup y = some .cell from w] at k'
            cases k'
          · rw [show X.env.scope.names.lookup y = some .free from w] at k'
            cases k'
        · rw [h3] at h4
          cases h4
          exact (cellK h3 z).2
    cell := fun y c e => by
      obtain ⟨v, z⟩ := I.cell y c (from_ e).1
      exact ⟨v, (cellK (from_ e).1 z).2⟩
    free := e0.hok.fresh (Nat.le_refl _)
    freeC := fun y c e => by
      obtain ⟨v, z⟩ := I.cell y c (from_ e).1
      exact (cellK (from_ e).1 z).1
    pin := fun q hq => absurd (show q ∈ ([] : List (Addr × Obj)) ++ [] from hq) (by simp)
    hok := e0.hok.kept kp
    len := I.len }
end L3
end
section
set_option maxHeartbeats 4000000
namespace L3
open PySem PySem.Spec PyProof.Rows L2 LamX NdefX
/-- the words of a lambda of X -/
abbrev lwOf (X : Cx) (params : Arguments) (body : Expr) (scope : Scope) : LW := ⟨X.env.qual ++ "<lambda>", params, body, scope, cloFrom X.env.cells scope.names []⟩
/-- a(), a holding a lambda of X, in a def that was entered while X stood -/
theorem pe_deed {X : Cx} {σ : L2.St} {CXg : CXT} {Ng : List Str} {qg : Str} {sg : Scope} {g : Addr} {cdg : Value} {A : Around} {outer : List Env} {s1 : Shared} {H1 : Hp} {Eg : XK} {pn : List (Addr × Obj)} {xe : Value → Shared → Prop} {E : L2.St → XK} {k i : Nat} {a : Str}
    {params : Arguments} {body : Expr} {scope : Scope} {t : XK → TE} {p1 p2 : Pos} (rd : Rd X σ outer s1 H1) (L : LamS X.env.scope scope)
    (hbind : ∀ (q : Str) (cl : List (Str × Addr)) (pm cv ctv : Value), bindArgs (PySem.W.kla_fn "<lambda>" q params body scope cl pm cv ctv) ⟨[], []⟩ = pure [])
    (hr : Room (k + 1) (A.deeper (envOfC qg sg s1.heap.objs.size g cdg))) (hx : ∀ σZ, PassesAt (L2.CX X.prog X.w) ((cxOf CXg X.prog X.w X.K X.mg X.base Ng qg sg g cdg A outer s1 H1 Eg).tr pn xe) σZ (E σZ))
    (hbody : ∀ (A : Around) (outer : List Env) (s : Shared) (H : Hp) (E : XK) (f c' : Addr), Room k (A.deeper (lamEnv X scope s.heap.objs.size f c')) → PE (lamCx X A outer s H E scope f c') body (t E))
    (hN : Ng[i]? = some a) (hv : Vis sg a) (hd : (a == ("__debug__" : Str)) = false := by decide) (hcd : (a == ("__classdict__" : Str)) = false := by decide) :
    PE ((cxOf CXg X.prog X.w X.K X.mg X.base Ng qg sg g cdg A outer s1 H1 Eg).tr pn xe) (.Call (.Name a p1) [] [] p2)
      (fun σZ HZ Q => ∃ f c' : Addr, σZ[i]? = some (some (.ref f)) ∧ HZ f = some (LamO f (lwOf X params body scope) c') ∧ HZ c' = some (CodeO c' (X.env.qual ++ "<lambda>")) ∧ t (E σZ) σ HZ Q) := by
  refine ⟨fun pinsZ sZ σZ HZ Q IZ h => ?_⟩
  obtain ⟨f, c', hs, hf, hc, ht⟩ := h
  refine wpAny_Call_Name_kw (thn ((pe_var (pos := p1) (i := i) hN hv hd hcd).run pinsZ sZ σZ HZ (fun v H2 => v = .ref f ∧ H2 = HZ) IZ ⟨.ref f, hs, rfl, rfl⟩) fun u s2 got => ?_)
  obtain ⟨v, H2, I2, r2, ev, eH⟩ := got
  subst ev
  rw [eH] at I2
  obtain rfl : u = Value.ref f := r2
  obtain ⟨od, sl, pm, ctv, of1⟩ := lamO_at I2.hok hf
  refine PySem.W.callWith_F0 ⟨_, _, _, _, of1⟩ ?_
  have rd2 := rd.down I2
  have code : codeAny (model X.prog X.w) (A.deeper (envOfC qg sg s1.heap.objs.size g cdg)) (.call (.ref f) ⟨[], []⟩) (CR (L2.CX X.prog X.w) (envOfC qg sg s1.heap.objs.size g cdg :: outer) X.prog X.w HZ s2 Q (E σZ)) s2 := by
    refine PySem.W.kla_callFunE hr.depth of1 rfl L.co L.gen rfl (codeO_at I2.hok hc) ?_
    rw [hbind]
    refine wpAny_pure (wpAny_newFunctionEnv (fun y hy => (L.own y hy).2) (fun y hy => absurd hy (by simp)) (fun h₁ hns hsb => ⟨I2.nolimit.fresh _ hsb, ?_⟩) L.kind)
    have kp : ∀ b o, s2.heap.get? b = some o → h₁.get? b = some o := fun b o e => hsb.extBut b o (Nat.ne_of_lt (Heap.lt_size e)) (Heap.get?_push_of_some _ e)
    have J := lam_enter (E := E σZ) (f := f) (c' := c') (tk := s2.toks + ([] : List (Str × Value)).length) rd2 L I2.env0 hr.hd hns kp
    show codeAny _ _ (.expr body (lamEnv X scope s2.heap.objs.size f c')) _ _
    refine PySem.W.kla_codeExpr (wpAny_mono ((hbody _ _ s2 HZ _ f c' (hr.deeper _)).run [] _ _ HZ Q J ht) (fun v s' hq => ?_) fun e s' hq => hq)
    obtain ⟨w', H', J', rv, q⟩ := hq
    exact ⟨w', H', J'.os, J'.bare, J'.base, J'.hok, rv, q⟩
  refine wpAny_call (codeAny_mono code fun r s' hq => ?_)
  cases r with
  | error e => exact hx σZ pinsZ HZ s2 e s' I2 hq
  | ok fl =>
    cases fl with
    | ret u => exact I2.after hq
    | next => exact False.elim hq
    | brk => exact False.elim hq
    | cont => exact False.elim hq
end L3
end
section
set_option maxHeartbeats 4000000
namespace L3
open PySem PySem.Spec PyProof.Rows L2 LamX NdefX
/-- within a comprehension's block the maker's frame stands -/
theorem Rd.block {X : Cx} {σ σ' : L2.St} {pins pins' : List (Addr × Obj)} {s s' : Shared} {H H' : Hp} {scope : Scope} {fp : List Addr} {cl : List (Str × Addr)} {pn : List (Addr × Obj)} {xe : Value → Shared → Prop} (I : Inv X pins σ H s) (hc : ∀ x c, X.env.cells.lookup x = some c → c ∉ fp)
    (J : Inv ((X.blk s H scope (compEnvC scope cl s.heap.objs.size X.env) fp)) pins' σ' H' s') : Rd X σ (X.blk s H scope (compEnvC scope cl s.heap.objs.size X.env) fp).stack s' H' := by
  refine ⟨pins, s, H, fp, I, J.base, J.sz, hc, fun b hb => ?_⟩
  rcases List.mem_cons.mp (J.stkSub b hb) with z | z
  · have z : b = s.heap.objs.size := z
    exact .inr (Heap.get?_none_of_le (Nat.le_of_eq z.symm))
  · exact .inl z
section
variable {X : Cx} {elt tg iter : Expr} {ifs : List Expr} {scope : Scope} {own : List (Str × Nat)} {wi : TI} {g : TG} {tt : TT} {te : L2.St → TE}
/-- what the item's rule may use: the maker's state at the block's start -/
def ItemS (X : Cx) (scope : Scope) (elt : Expr) (te : L2.St → TE) : Prop := ∀ (pins : List (Addr × Obj)) (σ : L2.St) (s : Shared) (H : Hp) (cl : List (Str × Addr)) (fp : List Addr), Inv X pins σ H s → (∀ x c, X.env.cells.lookup x = some c → c ∉ fp) →
  PE (X.blk s H scope (compEnvC scope cl s.heap.objs.size X.env) fp) elt (te σ)
/-- the turns of such a block, from its first state on -/
theorem turns_of {σ : L2.St} {sA sB : Shared} {HA : Hp} {Q : VK} {pos : Pos} {ce : Env} {fp : List Addr} {D it : Addr} {tn : Nat → Heap → Prop} {J : It} {W : Nat → Nat → Hp → Prop} {m0 : Nat} {R : Result → Shared → Prop}
    (hc : X.calm = true) (T : Turn X.prog X.w X.K tg J fp it tn) (pg : PG (X.blk sA HA scope ce fp) tg g) (pt : PTs (X.blk sA HA scope ce fp) ifs tt) (pe : PE (X.blk sA HA scope ce fp) elt (te σ)) (start : Inv (X.blk sA HA scope ce fp) [] (wipe σ (own.map (·.2))) HA sB) (st : tn 0 sB.heap) (nf : ∀ b ∈ fp, HA b = none) (w0 : W 0 m0 HA)
    (turn : ∀ i m H, W i m H → (J.stop i H ∧ Q (.ref D) H) ∨ (J.go i H ∧ ∃ Nx : Hp → Prop, (∀ H', Nx H' → ∃ m', m' < m ∧ W (i + 1) m' H') ∧ ∀ x H', J.yld i H x H' → g x (wipe σ (own.map (·.2))) H' fun σ2 H2 => wipe σ2 (own.map (·.2)) = wipe σ (own.map (·.2)) ∧ tt σ2 H2 fun b H3 =>
      if b = true then te σ σ2 H3 fun y H4 => ∃ acc, H4 D = some (.lst acc) ∧ acc.length < sizeLine ∧ Nx (upd H4 D (.lst (acc ++ [y]))) else Nx H3))
    (fin : ∀ {σ' : L2.St} {s' : Shared} {H' : Hp}, Inv (X.blk sA HA scope ce fp) [] σ' H' s' → Q (.ref D) H' → R (.ok .next) s') :
    codeAny (model X.prog X.w) X.A (.compLoop (.ListComp elt [⟨tg, iter, ifs, 0⟩] scope pos) 0 (.ref it) (.ref D) ce) R sB := by
  have loose : ∀ {σ' : L2.St} {H' : Hp} {s' : Shared}, Inv (X.blk sA HA scope ce fp) [] σ' H' s' → (∀ b ∈ fp, H' b = none) → ∀ b ∈ fp, FpOk (X.blk sA HA scope ce fp) [] H' b := by
    intro σ' H' s' V none_ b hb
    have no_pins : ∀ q ∈ ([] : List (Addr × Obj)) ++ [], q.1 ≠ b := fun q hq => by simp at hq
    exact ⟨none_ b hb, (V.ok.exf b hb).1, V.ok.exfs b hb, .inl hb, fun x c e => (V.ok.exf b hb).2 x c e, fun q hq => no_pins q hq⟩
  refine compLoop_any (fun k sC => ∃ j HC, Inv (X.blk sA HA scope ce fp) [] (wipe σ (own.map (·.2))) HC sC ∧ tn j sC.heap ∧ (∀ b ∈ fp, HC b = none) ∧ W j k HC) ?_ m0 ⟨0, HA, start, st, nf, w0⟩
  intro k sC hC
  obtain ⟨j, HC, VC, tC, nC, wC⟩ := hC
  rcases turn j k HC wC with ⟨ends, q⟩ | ⟨goes, Nx, next, step⟩
  · refine thnF (T.done (X.blk sA HA scope ce fp) rfl rfl rfl hc j [] sC _ HC (fun _ _ => False) VC (loose VC nC) tC ends) ?_
    rintro r sD ⟨rfl, VD⟩
    exact fin VD q
  · refine thnF (T.item (X.blk sA HA scope ce fp) rfl rfl rfl hc j [] sC _ HC (fun _ _ => False) VC (loose VC nC) tC goes) ?_
    rintro r sD ⟨u, rfl, told⟩
    refine thnF told ?_
    rintro - sE ⟨x, HE, VE, rE, yE, tE, nE⟩
    refine thnF (pg.run _ sE _ HE x u _ (VE.pinned (loose VE nE) (T.obj _ _ tE)) rE (step x HE yE)) ?_
    rintro - sF ⟨σF, HF, VF, wF, qF⟩
    refine thnF (pt.run _ sF σF HF _ VF qF) ?_
    rintro ok sG ⟨HG, VG, qG⟩
    have back_ : ∀ {sZ : Shared} {HZ : Hp}, Inv (X.blk sA HA scope ce fp) ([] ++ pinsAt fp sE.heap) σF HZ sZ → Nx HZ → ∃ k', k' < k ∧ ∃ j HC, Inv (X.blk sA HA scope ce fp) [] (wipe σ (own.map (·.2))) HC sZ ∧ tn j sZ.heap ∧ (∀ b ∈ fp, HC b = none) ∧ W j k' HC := by
      intro sZ HZ VZ nx
      obtain ⟨k', less, wZ⟩ := next HZ nx
      have held_ : ∀ b ∈ fp, ∀ o, sE.heap.get? b = some o → sZ.heap.get? b = some o ∧ HZ b = none := by
        intro b hb o e
        have z := VZ.pin (b, o) (List.mem_append_right _ (List.mem_append_right _ (mem_pinsAt hb e)))
        exact ⟨z.1, z.2.1⟩
      refine ⟨k', less, j + 1, HZ, (VZ.unpinned (pins := [])).weak (by rw [← wF, wipe_length]) (fun i v e => ?_), T.keep _ _ _ tE fun b hb o e => (held_ b hb o e).1, fun b hb => ?_, wZ⟩
      · rw [← wF] at e
        exact (wipe_some e).1
      · obtain ⟨o, e, _⟩ := T.obj _ _ tE b hb
        exact (held_ b hb o e).2
    cases ok
    · simp only [Bool.false_eq_true, if_false] at qG ⊢
      exact back_ VG qG
    · simp only [if_true] at qG ⊢
      refine thnF (pe.run _ sG σF HG _ VG qG) ?_
      rintro z sH ⟨yv, HH, VH, rH, acc, eD, few, nx⟩
      exact app_ok (X := X.blk sA HA scope ce fp) VH eD few rH fun sI VI => back_ VI nx
/-- a list comprehension whose item may call what captures the maker's names -/
theorem pe_lcS {pos : Pos} (hc : X.calm = true) (hN : X.N.Nodup) (hi : PI X tg iter wi) (ok : BlkOk X.N X.env.scope scope own)
    (hg : ∀ (s : Shared) (H : Hp) (C : Addr) (cl : List (Str × Addr)) (fp : List Addr), PG (X.blk s H scope (compEnvC scope cl C X.env) fp) tg g) (ht : ∀ (s : Shared) (H : Hp) (C : Addr) (cl : List (Str × Addr)) (fp : List Addr), PTs (X.blk s H scope (compEnvC scope cl C X.env) fp) ifs tt)
    (he : ItemS X scope elt te) (hs : ∀ x, foldedSetIterable iter X.env x = pure x := by intro _; rfl) :
    PE X (.ListComp elt [⟨tg, iter, ifs, 0⟩] scope pos) (fun σ H Q => tLc wi g tt (te σ) (own.map (·.2)) σ H Q) := by
  refine ⟨fun pins s σ H Q I told => ?_⟩
  have captured : ∀ y ∈ scope.names, y.2 = .free → ∃ c, X.env.cells.lookup y.1 = some c := by
    intro y hy e
    rcases ok.free y hy e with k | k
    · exact I.ok.has _ (.inl k)
    · exact I.ok.has _ (.inr k)
  rw [eval_ListComp]
  refine wpAny_comprehension_free rfl hs (closure_ok captured) ok.kind (fun y hy e => by rw [ok.uniq y hy, e]) (thn (hi.run pins s σ H _ I told) ?_)
  intro xv sA asked
  refine thn asked ?_
  intro itv sB gotten
  obtain ⟨it, fp, tn, J, HB, rfl, VB, T, tB, free_, q⟩ := gotten
  refine wpAny_newObj_type (newEnv_comp ?_) (by show 0 ≤ sizeLine; decide)
  -- the new list
  have newD : HB sB.heap.objs.size = none := VB.hok.fresh (Nat.le_refl _)
  obtain ⟨W, ⟨m0, w0⟩, turn⟩ := q sB.heap.objs.size newD
  have VC : Inv X pins σ (upd HB sB.heap.objs.size (.lst [])) { sB with heap := sB.heap.push { cls := .type "list", data := .seq ([] : List Value).toArray } } :=
    VB.laid (t' := sB.toks) (fun b o e => Heap.get?_push_of_some _ e) (Nat.le_refl _) ⟨Nat.zero_le _, [], 0, .nil, Heap.get?_push_size _ rfl⟩
  generalize eC : ({ sB with heap := sB.heap.push { cls := .type "list", data := .seq ([] : List Value).toArray } } : Shared) = sC at VC
  have hC : sC.heap = sB.heap.push { cls := .type "list", data := .seq ([] : List Value).toArray } := by rw [← eC]
  have young : ∀ b ∈ fp, b < sB.heap.objs.size := by
    intro b hb
    obtain ⟨o, e, _⟩ := T.obj _ _ tB b hb
    exact Heap.lt_size e
  have freeC : ∀ b ∈ fp, FpOk X pins (upd HB sB.heap.objs.size (.lst [])) b ∧ b < sC.heap.objs.size := by
    intro b hb
    have less := young b hb
    refine ⟨⟨?_, (free_ b hb).2⟩, by rw [hC, Heap.size_push]; exact Nat.lt_succ_of_lt less⟩
    rw [upd_ne (Nat.ne_of_lt less)]
    exact (free_ b hb).1
  have tC : tn 0 sC.heap := T.keep _ _ _ tB fun b _ o e => by rw [hC]; exact Heap.get?_push_of_some _ e
  generalize eD : sB.heap.objs.size = D at newD w0 VC freeC turn young
  generalize eH : upd HB D (.lst []) = HC at VC w0 freeC
  have start := block_start VC ok hN freeC
  have noC : ∀ x c, X.env.cells.lookup x = some c → c ∉ fp := fun x c e hb => (freeC c hb).1.2.2.2.2.1 x c e rfl
  have item := he pins σ sC HC (cellsFrom (sC.heap.objs.size + 1) scope.names (cloFrom X.env.cells scope.names [])) fp VC noC
  have goal_ : codeAny (model X.prog X.w) X.A (.compStart (.ListComp elt [⟨tg, iter, ifs, 0⟩] scope pos) 0 (.ref it) (.ref D) (compEnvC scope (cellsFrom (sC.heap.objs.size + 1) scope.names (cloFrom X.env.cells scope.names [])) sC.heap.objs.size X.env))
      (compPost (model X.prog X.w) X.A X.xe none (EP X pins σ Q) (.ref D) sC.heap.objs.size) { sC with heap := pushCells (sC.heap.push { cls := .type "dict", data := .dict #[] }) scope.names } := by
    have tD : tn 0 (pushCells (sC.heap.push { cls := .type "dict", data := .dict #[] }) scope.names) := T.keep _ _ _ tC fun b _ o e => pushCells_keeps _ _ _ _ (Heap.get?_push_of_some _ e)
    have loop := turns_of (iter := iter) (te := te) (own := own) (pos := pos) (sB := { sC with heap := pushCells (sC.heap.push { cls := .type "dict", data := .dict #[] }) scope.names }) (R := compPost (model X.prog X.w) X.A X.xe none (EP X pins σ Q) (.ref D) sC.heap.objs.size) hc T
      (hg sC HC sC.heap.objs.size (cellsFrom (sC.heap.objs.size + 1) scope.names (cloFrom X.env.cells scope.names [])) fp) (ht sC HC sC.heap.objs.size _ fp) item start tD (fun b hb => (freeC b hb).1.1) w0 turn ?_
    · exact codeAny_compStart_list loop (T.self X.A 0 _ _ _ tD loop)
    · intro σZ sZ HZ VZ qZ
      have VX : Inv X pins σ HZ sZ := VC.call' (ch := fp) VZ.os VZ.base VZ.hok VZ.bare fun b hb => ⟨(freeC b hb).1.2.2.2.1, (freeC b hb).1.2.1, (freeC b hb).1.2.2.2.2.1, (freeC b hb).1.2.2.2.2.2⟩
      have own_ : HZ sC.heap.objs.size = none := VZ.free
      obtain ⟨m, hn, _⟩ := VZ.loc
      obtain ⟨f0, f1, f2, f3, f4, f5⟩ := VC.fpOk (H' := HZ) (Nat.le_refl _) own_
      exact ⟨m, hn, fun h'' sb => ⟨.ref D, HZ, VX.turned (t' := sZ.toks) (fun b o hb e => (sb.2 b hb).trans e) f0 f1 f3 f4 f5, rfl, qZ⟩⟩
  subst eC eD
  exact goal_
end
end L3
end
section
set_option maxHeartbeats 4000000
namespace L3
open PySem PySem.Spec PyProof.Rows L2 LamX NdefX
/-- a context with an air of one's own -/
abbrev airOf (Y : Cx) (xe : Value → Shared → Prop) : Cx := { Y with xe := xe }
theorem ok_air {Y : Cx} {xe : Value → Shared → Prop} (h : Y.Ok) : (airOf Y xe).Ok := ⟨h.mod, h.kind, h.glob, h.blt, h.above, h.inj, h.has, h.cab, h.hd, h.frames, h.stk, h.exf, h.bs, h.bsz, h.noex, h.exfs, h.funs, h.frf⟩
theorem inv_air {Y : Cx} {xe : Value → Shared → Prop} {pins : List (Addr × Obj)} {σ : L2.St} {H : Hp} {s : Shared} (I : Inv Y pins σ H s) : Inv (airOf Y xe) pins σ H s := ⟨ok_air I.ok, I.os, I.bare, I.base, I.loc, I.cell, I.free, I.freeC, I.pin, I.hok, I.len⟩
/-- a frame notes what is in the air -/
theorem sky_note {M : Model} {A : Around} {EE : Value → Shared → Prop} {env : Env} {outer : List Env} {L a : Addr} {Z : Obj → Prop} {B : Heap} {s : Shared} {Q : Unit → Shared → Prop} (hZ : HandSPX.Steady Z) (hfr : A.frames = some (env :: outer)) (hf : env.frame = some L)
    (x : HandSPX.FlyingZ B (env :: outer) a Z s.heap) (hQ : ∀ h', HandSPX.HeldZ B (env :: outer) a Z L h' → s.heap.UpToSlots h' → Q () { s with heap := h' }) : wpAny M A (noteFrame (.ref a) env) Q EE s := HandSPX.looks_onZ hZ hfr hf x hQ
theorem hide_none {B : Heap} {l : List Addr} {b : Addr} (h : B.get? b = none) : (PySem.W.hideAll B l).get? b = none := by
  cases q : (PySem.W.hideAll B l).get? b with
  | none => rfl
  | some o =>
    have z := PySem.W.of_hideAll l q
    rw [h] at z
    cases z
/-- a block's own object let go: the exception is held as before, over the ground without it -/
theorem held_less {B h h2 : Heap} {l : List Env} {a L C : Addr} {Z : Obj → Prop} {m m2 : Str → Option Value} (hh : HandSPX.HeldZ B l a Z L h) (hn : h.Ns C m) (sb : Heap.SameBut C h h2) (hn2 : h2.Ns C m2) : HandSPX.HeldZ (PySem.W.hideAll B [C]) l a Z L h2 := by
  obtain ⟨b1, b0, f1, oe, vs, T, oT, ts, he, hz, hd, h1, hnT, hTe, hT, hdT, h3⟩ := hh
  obtain ⟨oC, es, ep, hoC, hdC, _⟩ := hn
  have aC : a ≠ C := by
    intro z
    rw [z, hoC] at he
    cases he
    rw [hdC] at hd
    cases hd
  have TC : T ≠ C := by
    intro z
    rw [z, hoC] at hT
    cases hT
    rw [hdC] at hdT
    cases hdT
  refine ⟨?_, hide_none b0, ?_, oe, vs, T, oT, ts, (sb.2 a aC).trans he, hz, hd, h1, hide_none hnT, hTe, (sb.2 T TC).trans hT, hdT, h3⟩
  · intro b o e
    have ne : b ≠ C := by
      intro z
      rw [z, PySem.W.hideAll_none [C] (List.mem_singleton.mpr rfl)] at e
      cases e
    exact (sb.2 b ne).trans (b1 b o (PySem.W.of_hideAll _ e))
  · exact Heap.FunFrames.sameBut sb hn2 (funFrames_none f1 fun b hb => hide_none (f1.mem hb).1)
section
variable {X : Cx} {E : XK} {pins pins' : List (Addr × Obj)} {σ σ' : L2.St} {HC H' : Hp} {sC s1 s2 : Shared} {scope : Scope} {cl : List (Str × Addr)} {fp : List Addr} {xe : Value → Shared → Prop} {u : Value}
/-- what a call in the item lets out leaves the comprehension -/
theorem raise_out (hs : X.stack = X.env :: X.outer) (hf : X.env.frame = some X.env.locals) (tk : Takes X fun cls d _ H => E cls d H) (VC : Inv X pins σ HC sC) (freeC : ∀ b ∈ fp, FpOk X pins HC b)
    (J : Inv (airOf (X.blk sC HC scope (compEnvC scope cl sC.heap.objs.size X.env) fp) xe) pins' σ' H' s1) (c : CX X.prog X.w X.stack H' s1 E u s2) :
    notedBy (model X.prog X.w) X.A (compEnvC scope cl sC.heap.objs.size X.env) (CompFails (model X.prog X.w) X.A X.xe (compEnvC scope cl sC.heap.objs.size X.env)) u s2 := by
  have VX : Inv X pins σ H' s1 := VC.call' (ch := fp) J.os J.base J.hok J.bare fun b hb => ⟨(freeC b hb).2.2.2.1, (freeC b hb).2.1, (freeC b hb).2.2.2.2.1, (freeC b hb).2.2.2.2.2⟩
  have hC : H' sC.heap.objs.size = none := J.free
  obtain ⟨m, hn, _⟩ := J.loc
  have hn : s1.heap.Ns sC.heap.objs.size m := hn
  obtain ⟨f0, f1, f2, f3, f4, f5⟩ := VC.fpOk (H' := H') (Nat.le_refl _) hC
  obtain ⟨a, B, H2, cls, d, rfl, fl, hok, ub, na, os, ag, hE⟩ := c
  generalize eC : sC.heap.objs.size = C at hC hn f0 f1 f2 f3 f4 f5 J ⊢
  have notFr : C ∉ frs X.stack := by
    intro hm
    rcases List.mem_cons.mp (VX.stkSub C hm) with z | z
    · exact f1 z
    · exact f2 z
  obtain ⟨oC, es, ep, hoC, hdC, rC⟩ := hn
  have H2C : H2 C = none := ub.free C oC hoC hC
  have hn2 : s2.heap.Ns C m := ⟨oC, es, ep, fl.1 _ _ (ub.keep C oC hoC hC notFr), hdC, rC⟩
  have hfr : X.A.frames = some (X.env :: X.outer) := by rw [VX.ok.frames, hs]
  show wpAny _ _ (noteFrame (.ref a) (compEnvC scope cl C X.env)) _ _ s2
  rw [noteFrame_env (.ref a) (cenv := compEnvC scope cl C X.env) (env := X.env) rfl]
  refine sky_note Zc.steady hfr hf (by rw [hs] at fl; exact fl) ?_
  intro h1 held k1
  have hn3 := hn2.upToSlots k1
  refine ⟨m, hn3, ?_⟩
  intro h4 m4 hn4 sb
  have held4 := held_less held hn3 sb hn4
  obtain ⟨_, _, _, oe, vs, T, oT, ts, he, hz, hd, h1', r⟩ := id held4
  unfold PySem.passOn
  refine wpAny_bind (wpAny_field he hd h1' ?_)
  rw [if_neg (show ¬ ((Value.ref T == Value.none) = true) from by simp)]
  show wpAny _ _ (setFlight (.ref a) X.env.frame >>= fun _ => _) _ _ _
  rw [hf]
  refine wpAny_bind (HandSPX.setFlight_onZ held4 fun h5 held5 k5 => ?_)
  refine wpAny_throw ?_
  obtain ⟨G, g1, g2⟩ := restrict h5 fun b => ((PySem.W.hideAll B [C]).get? b).isSome || decide (b ∈ frs X.stack)
  have inG : ∀ b o, G.get? b = some o → h5.get? b = some o ∧ (((PySem.W.hideAll B [C]).get? b).isSome = true ∨ b ∈ frs X.stack) := by
    intro b o e
    cases q : (((PySem.W.hideAll B [C]).get? b).isSome || decide (b ∈ frs X.stack)) with
    | true =>
      rw [g1 b q] at e
      exact ⟨e, by simpa [Bool.or_eq_true] using q⟩
    | false =>
      rw [g2 b q] at e
      cases e
  have ofB : ∀ b o, b ≠ C → B.get? b = some o → G.get? b = some o := by
    intro b o ne e
    have e' := PySem.W.hideAll_get [C] e (by simpa using ne)
    rw [g1 b (by simp [e'])]
    exact held5.1 b o e'
  have ofF : ∀ b o, s1.heap.get? b = some o → b ∈ frs X.stack → ∃ sl, G.get? b = some { o with slots := sl } := by
    intro b o e hb
    obtain ⟨_, o', e', nofields⟩ := VX.stack.mem hb
    rw [e] at e'
    cases e'
    obtain ⟨sl, q⟩ := ub.slot b o e hb
    obtain ⟨sl2, q2⟩ := k1 b _ q nofields
    have ne : b ≠ C := fun z => notFr (z ▸ hb)
    obtain ⟨sl3, q3⟩ := k5 b { o with slots := sl2 } ((sb.2 b ne).trans q2) nofields
    exact ⟨sl3, by rw [g1 b (by simp [hb])]; exact q3⟩
  have IG : Inv X pins σ H2 { s1 with heap := G, gens := s2.gens, drawn := s2.drawn, toks := s2.toks } := by
    refine VX.call (ch := [C]) ⟨?_, fun b o e _ hb _ => ofF b o e hb, fun b o e n _ => ub.free b o e n, ?_, ub.tups, ub.frzs, ub.tbls⟩ (fun b v e => (hok b v e).stay (fun c w hc r => ofB c w ?_ r) (fun _ r => r) fun _ _ r => r) ag ?_
    · intro b o e n hb hx
      exact ofB b o (by simpa using hx) (ub.keep b o e n hb)
    · intro b o e hx
      by_cases hb : b ∈ frs X.stack
      · obtain ⟨sl, q⟩ := ofF b o e hb
        exact ⟨_, q⟩
      · obtain ⟨o', q⟩ := ub.there b o e hb
        exact ⟨o', ofB b o' (by simpa using hx) q⟩
    · intro z
      rcases hc with hc | hc
      · rw [← hc, z, H2C] at e
        cases e
      · rw [z, H2C] at hc
        cases hc
    · intro b hb
      cases (List.mem_singleton.mp hb)
      exact ⟨f3, f1, f4, f5⟩
  refine tk _ _ ⟨a, PySem.W.hideAll B [C], _, pins, σ, H2, cls, d, rfl, IG, ?_, Heap.UpToSlots.of_keeps fun b o e => (inG b o e).1, .inr (.inr (by rw [hs]; exact held5)), na, os, ag, hE⟩
  intro b o e hb
  obtain ⟨e', h⟩ := inG b o e
  rcases h with h | h
  · obtain ⟨o', q⟩ := Option.isSome_iff_exists.mp h
    have z := held5.1 b o' q
    rw [e'] at z
    cases z
    exact q
  · exact absurd h hb
end
section
variable {X : Cx} {elt tg iter : Expr} {ifs : List Expr} {scope : Scope} {own : List (Str × Nat)} {wi : TI} {g : TG} {tt : TT} {te : TE}
/-- the turns of a block whose item may raise -/
theorem turns_air {σ : L2.St} {sA sB : Shared} {HA : Hp} {Q : VK} {pos : Pos} {ce : Env} {fp : List Addr} {D it : Addr} {tn : Nat → Heap → Prop} {J : It} {W : Nat → Nat → Hp → Prop} {m0 : Nat} {R : Result → Shared → Prop} {Y : Cx}
    (eY : Y = airOf (X.blk sA HA scope ce fp) (notedBy (model X.prog X.w) X.A ce fun e s' => R (.error e) s')) (hc : X.calm = true) (T : Turn X.prog X.w X.K tg J fp it tn) (pg : PG Y tg g) (pt : PTs Y ifs tt) (pe : PE Y elt te) (start : Inv Y [] (wipe σ (own.map (·.2))) HA sB) (st : tn 0 sB.heap) (nf : ∀ b ∈ fp, HA b = none) (w0 : W 0 m0 HA)
    (turn : ∀ i m H, W i m H → (J.stop i H ∧ Q (.ref D) H) ∨ (J.go i H ∧ ∃ Nx : Hp → Prop, (∀ H', Nx H' → ∃ m', m' < m ∧ W (i + 1) m' H') ∧ ∀ x H', J.yld i H x H' → g x (wipe σ (own.map (·.2))) H' fun σ2 H2 => wipe σ2 (own.map (·.2)) = wipe σ (own.map (·.2)) ∧ tt σ2 H2 fun b H3 =>
      if b = true then te σ2 H3 fun y H4 => ∃ acc, H4 D = some (.lst acc) ∧ acc.length < sizeLine ∧ Nx (upd H4 D (.lst (acc ++ [y]))) else Nx H3))
    (fin : ∀ {σ' : L2.St} {s' : Shared} {H' : Hp}, Inv Y [] σ' H' s' → Q (.ref D) H' → R (.ok .next) s') :
    codeAny (model X.prog X.w) X.A (.compLoop (.ListComp elt [⟨tg, iter, ifs, 0⟩] scope pos) 0 (.ref it) (.ref D) ce) R sB := by
  subst eY
  generalize eY : airOf (X.blk sA HA scope ce fp) (notedBy (model X.prog X.w) X.A ce fun e s' => R (.error e) s') = Y at pg pt pe start fin
  have y1 : Y.prog = X.prog := by rw [← eY]
  have y2 : Y.w = X.w := by rw [← eY]
  have y3 : Y.K = X.K := by rw [← eY]
  have y4 : Y.calm = X.calm := by rw [← eY]
  have y5 : Y.A = X.A := by rw [← eY]
  have y6 : Y.env = ce := by rw [← eY]
  have y7 : Y.ex = fp := by rw [← eY]
  have y8 : Y.xe = notedBy (model X.prog X.w) X.A ce fun e s' => R (.error e) s' := by rw [← eY]
  have y9 : Y.pn = [] := by rw [← eY]
  have loose : ∀ {σ' : L2.St} {H' : Hp} {s' : Shared}, Inv Y [] σ' H' s' → (∀ b ∈ fp, H' b = none) → ∀ b ∈ fp, FpOk Y [] H' b := by
    intro σ' H' s' V none_ b hb
    have hb' : b ∈ Y.ex := by rw [y7]; exact hb
    exact ⟨none_ b hb, (V.ok.exf b hb').1, V.ok.exfs b hb', .inl hb', fun x c e => (V.ok.exf b hb').2 x c e, fun q hq => by rw [y9] at hq; simp at hq⟩
  refine compLoop_any (fun k sC => ∃ j HC, Inv Y [] (wipe σ (own.map (·.2))) HC sC ∧ tn j sC.heap ∧ (∀ b ∈ fp, HC b = none) ∧ W j k HC) ?_ m0 ⟨0, HA, start, st, nf, w0⟩
  intro k sC hC
  obtain ⟨j, HC, VC, tC, nC, wC⟩ := hC
  rw [← y8]
  rw [← y1, ← y2, ← y5, ← y6]
  rcases turn j k HC wC with ⟨ends, q⟩ | ⟨goes, Nx, next, step⟩
  · have td := T.done Y y1 y2 y3 (y4.trans hc) j [] sC _ HC (fun _ _ => False) VC (loose VC nC) tC ends
    rw [← y1, ← y2] at td
    refine thnF td ?_
    rintro r sD ⟨rfl, VD⟩
    exact fin VD q
  · have ti := T.item Y y1 y2 y3 (y4.trans hc) j [] sC _ HC (fun _ _ => False) VC (loose VC nC) tC goes
    rw [← y1, ← y2] at ti
    refine thnF ti ?_
    rintro r sD ⟨u, rfl, told⟩
    refine thnF told ?_
    rintro - sE ⟨x, HE, VE, rE, yE, tE, nE⟩
    refine thn (pg.run _ sE _ HE x u _ (VE.pinned (loose VE nE) (T.obj _ _ tE)) rE (step x HE yE)) ?_
    rintro - sF ⟨σF, HF, VF, wF, qF⟩
    refine thn (pt.run _ sF σF HF _ VF qF) ?_
    rintro ok sG ⟨HG, VG, qG⟩
    have back_ : ∀ {sZ : Shared} {HZ : Hp}, Inv Y ([] ++ pinsAt fp sE.heap) σF HZ sZ → Nx HZ → ∃ k', k' < k ∧ ∃ j HC, Inv Y [] (wipe σ (own.map (·.2))) HC sZ ∧ tn j sZ.heap ∧ (∀ b ∈ fp, HC b = none) ∧ W j k' HC := by
      intro sZ HZ VZ nx
      obtain ⟨k', less, wZ⟩ := next HZ nx
      have held_ : ∀ b ∈ fp, ∀ o, sE.heap.get? b = some o → sZ.heap.get? b = some o ∧ HZ b = none := by
        intro b hb o e
        have z := VZ.pin (b, o) (List.mem_append_right _ (List.mem_append_right _ (mem_pinsAt hb e)))
        exact ⟨z.1, z.2.1⟩
      refine ⟨k', less, j + 1, HZ, (VZ.unpinned (pins := [])).weak (by rw [← wF, wipe_length]) (fun i v e => ?_), T.keep _ _ _ tE fun b hb o e => (held_ b hb o e).1, fun b hb => ?_, wZ⟩
      · rw [← wF] at e
        exact (wipe_some e).1
      · obtain ⟨o, e, _⟩ := T.obj _ _ tE b hb
        exact (held_ b hb o e).2
    cases ok
    · simp only [Bool.false_eq_true, if_false] at qG ⊢
      exact back_ VG qG
    · simp only [if_true] at qG ⊢
      refine thn (pe.run _ sG σF HG _ VG qG) ?_
      rintro z sH ⟨yv, HH, VH, rH, acc, eD, few, nx⟩
      exact app_ok (X := Y) VH eD few rH fun sI VI => back_ VI nx
/-- a list comprehension whose item may raise what E tells: it leaves the def, nothing of the block is seen -/
theorem pe_lcE {E : XK} {pos : Pos} (hs : X.stack = X.env :: X.outer) (hf : X.env.frame = some X.env.locals) (tk : Takes X fun cls d _ H => E cls d H) (hc : X.calm = true) (hN : X.N.Nodup) (hi : PI X tg iter wi) (ok : BlkOk X.N X.env.scope scope own)
    (hg : ∀ (s : Shared) (H : Hp) (C : Addr) (cl : List (Str × Addr)) (fp : List Addr) (xe : Value → Shared → Prop), PG (airOf (X.blk s H scope (compEnvC scope cl C X.env) fp) xe) tg g)
    (ht : ∀ (s : Shared) (H : Hp) (C : Addr) (cl : List (Str × Addr)) (fp : List Addr) (xe : Value → Shared → Prop), PTs (airOf (X.blk s H scope (compEnvC scope cl C X.env) fp) xe) ifs tt)
    (he : ∀ (s : Shared) (H : Hp) (C : Addr) (cl : List (Str × Addr)) (fp : List Addr) (xe : Value → Shared → Prop), Passes (L2.CX X.prog X.w) (airOf (X.blk s H scope (compEnvC scope cl C X.env) fp) xe) E → PE (airOf (X.blk s H scope (compEnvC scope cl C X.env) fp) xe) elt te) (hset : ∀ x, foldedSetIterable iter X.env x = pure x := by intro _; rfl) :
    PE X (.ListComp elt [⟨tg, iter, ifs, 0⟩] scope pos) (tLc wi g tt te (own.map (·.2))) := by
  refine ⟨fun pins s σ H Q I told => ?_⟩
  have captured : ∀ y ∈ scope.names, y.2 = .free → ∃ c, X.env.cells.lookup y.1 = some c := by
    intro y hy e
    rcases ok.free y hy e with k | k
    · exact I.ok.has _ (.inl k)
    · exact I.ok.has _ (.inr k)
  rw [eval_ListComp]
  refine PySem.comprehension_at (use := none) rfl hset (closure_ok captured) ok.kind (fun y hy e => by rw [ok.uniq y hy, e]) (thn (hi.run pins s σ H _ I told) ?_)
  intro xv sA asked
  refine thn asked ?_
  intro itv sB gotten
  obtain ⟨it, fp, tn, J, HB, rfl, VB, T, tB, free_, q⟩ := gotten
  refine wpAny_newObj_type (newEnv_comp ?_) (by show 0 ≤ sizeLine; decide)
  -- the new list
  have newD : HB sB.heap.objs.size = none := VB.hok.fresh (Nat.le_refl _)
  obtain ⟨W, ⟨m0, w0⟩, turn⟩ := q sB.heap.objs.size newD
  have VC : Inv X pins σ (upd HB sB.heap.objs.size (.lst [])) { sB with heap := sB.heap.push { cls := .type "list", data := .seq ([] : List Value).toArray } } :=
    VB.laid (t' := sB.toks) (fun b o e => Heap.get?_push_of_some _ e) (Nat.le_refl _) ⟨Nat.zero_le _, [], 0, .nil, Heap.get?_push_size _ rfl⟩
  generalize eC : ({ sB with heap := sB.heap.push { cls := .type "list", data := .seq ([] : List Value).toArray } } : Shared) = sC at VC
  have hC : sC.heap = sB.heap.push { cls := .type "list", data := .seq ([] : List Value).toArray } := by rw [← eC]
  have young : ∀ b ∈ fp, b < sB.heap.objs.size := by
    intro b hb
    obtain ⟨o, e, _⟩ := T.obj _ _ tB b hb
    exact Heap.lt_size e
  have freeC : ∀ b ∈ fp, FpOk X pins (upd HB sB.heap.objs.size (.lst [])) b ∧ b < sC.heap.objs.size := by
    intro b hb
    have less := young b hb
    refine ⟨⟨?_, (free_ b hb).2⟩, by rw [hC, Heap.size_push]; exact Nat.lt_succ_of_lt less⟩
    rw [upd_ne (Nat.ne_of_lt less)]
    exact (free_ b hb).1
  have tC : tn 0 sC.heap := T.keep _ _ _ tB fun b _ o e => by rw [hC]; exact Heap.get?_push_of_some _ e
  generalize eD : sB.heap.objs.size = D at newD w0 VC freeC turn young
  generalize eH : upd HB D (.lst []) = HC at VC w0 freeC
  have start := block_start VC ok hN freeC
  have goal_ : codeAny (model X.prog X.w) X.A (.compStart (.ListComp elt [⟨tg, iter, ifs, 0⟩] scope pos) 0 (.ref it) (.ref D) (compEnvC scope (cellsFrom (sC.heap.objs.size + 1) scope.names (cloFrom X.env.cells scope.names [])) sC.heap.objs.size X.env))
      (compEnds (model X.prog X.w) X.A X.xe none (EP X pins σ Q) (.ref D) (compEnvC scope (cellsFrom (sC.heap.objs.size + 1) scope.names (cloFrom X.env.cells scope.names [])) sC.heap.objs.size X.env)) { sC with heap := pushCells (sC.heap.push { cls := .type "dict", data := .dict #[] }) scope.names } := by
    have tD : tn 0 (pushCells (sC.heap.push { cls := .type "dict", data := .dict #[] }) scope.names) := T.keep _ _ _ tC fun b _ o e => pushCells_keeps _ _ _ _ (Heap.get?_push_of_some _ e)
    have pass : ∀ xe', xe' = (notedBy (model X.prog X.w) X.A (compEnvC scope (cellsFrom (sC.heap.objs.size + 1) scope.names (cloFrom X.env.cells scope.names [])) sC.heap.objs.size X.env) (CompFails (model X.prog X.w) X.A X.xe (compEnvC scope (cellsFrom (sC.heap.objs.size + 1) scope.names (cloFrom X.env.cells scope.names [])) sC.heap.objs.size X.env))) → Passes (L2.CX X.prog X.w) (airOf (X.blk sC HC scope (compEnvC scope (cellsFrom (sC.heap.objs.size + 1) scope.names (cloFrom X.env.cells scope.names [])) sC.heap.objs.size X.env) fp) xe') E := by
      rintro xe' rfl pins' σ' H' s1 u s2 K c
      exact raise_out hs hf tk VC (fun b hb => (freeC b hb).1) K c
    have loop := turns_air (X := X) (iter := iter) (te := te) (own := own) (pos := pos) (sB := { sC with heap := pushCells (sC.heap.push { cls := .type "dict", data := .dict #[] }) scope.names }) (R := compEnds (model X.prog X.w) X.A X.xe none (EP X pins σ Q) (.ref D) (compEnvC scope (cellsFrom (sC.heap.objs.size + 1) scope.names (cloFrom X.env.cells scope.names [])) sC.heap.objs.size X.env)) rfl hc T
      (hg sC HC sC.heap.objs.size (cellsFrom (sC.heap.objs.size + 1) scope.names (cloFrom X.env.cells scope.names [])) fp _) (ht sC HC sC.heap.objs.size _ fp _) (he sC HC sC.heap.objs.size _ fp _ (pass _ rfl)) (inv_air start) tD (fun b hb => (freeC b hb).1.1) w0 turn ?_
    · exact codeAny_compStart_list loop (T.self X.A 0 _ _ _ tD loop)
    · intro σZ sZ HZ VZ qZ
      have VX : Inv X pins σ HZ sZ := VC.call' (ch := fp) VZ.os VZ.base VZ.hok VZ.bare fun b hb => ⟨(freeC b hb).1.2.2.2.1, (freeC b hb).1.2.1, (freeC b hb).1.2.2.2.2.1, (freeC b hb).1.2.2.2.2.2⟩
      have own_ : HZ sC.heap.objs.size = none := VZ.free
      obtain ⟨m, hn, _⟩ := VZ.loc
      obtain ⟨f0, f1, f2, f3, f4, f5⟩ := VC.fpOk (H' := HZ) (Nat.le_refl _) own_
      exact ⟨m, hn, fun h'' sb => ⟨.ref D, HZ, VX.turned (t' := sZ.toks) (fun b o hb e => (sb.2 b hb).trans e) f0 f1 f3 f4 f5, rfl, qZ⟩⟩
  subst eC eD
  exact goal_
end
end L3
end
section
set_option maxHeartbeats 4000000
namespace L3
open PySem PySem.Spec PyProof.Rows L2
/-- over a list or a tuple -/
theorem pi_or {X : Cx} {tg l : Expr} {w1 w2 : TI} (h1 : PI X tg l w1) (h2 : PI X tg l w2) : PI X tg l (fun σ H R => w1 σ H R ∨ w2 σ H R) :=
  ⟨fun pins s σ H R I h => h.elim (h1.run pins s σ H R I) (h2.run pins s σ H R I)⟩
theorem paired_at {α β : Type} {F : α → β → Prop} {l : List α} {m : List β} (p : Paired F l m) : ∀ {i : Nat} {a : α}, l[i]? = some a → ∃ b, m[i]? = some b ∧ F a b := by
  induction p with
  | nil => intro i a h; cases h
  | cons q _ ih =>
    intro i a h
    cases i with
    | zero => cases h; exact ⟨_, rfl, q⟩
    | succ j => exact ih h
theorem paired_len {α β : Type} {F : α → β → Prop} {l : List α} {m : List β} (p : Paired F l m) : l.length = m.length := Paired.length p
theorem same_none {H H' : Hp} {b : Addr} (s : Same H H') (h : H' b = none) : H b = none := by
  cases q : H b with
  | none => rfl
  | some o =>
    have z := s b o q
    rw [h] at z
    cases z
theorem same_rd {H H' : Hp} {a : Addr} {u : HO} (s : Same H H') (h : L2.Rd H a u) : L2.Rd H' a u := by
  rcases h with h | ⟨o, h⟩
  · exact .inl (s _ _ h)
  · exact .inr ⟨o, s _ _ h⟩
theorem same_tup {K : PySem.W.Frag} {H H' : Hp} {a : Addr} {xs : List V} (s : Same H H') (h : SqT K H a xs) : SqT K H' a xs := by
  rcases h with h | h
  · exact .inl (same_rd s h)
  · exact .inr h
theorem take_snoc {β : Type} {m : List β} {i : Nat} {b : β} (h : m[i]? = some b) : m.take (i + 1) = m.take i ++ [b] := by
  rw [List.take_succ, h]
  rfl
end L3
namespace K03
open PySem PySem.Spec PyProof.Rows L2 LamX NdefX L3
abbrev sIsList : Stmt := top 9
abbrev sNeedL : Stmt := top 12
abbrev sRList : Stmt := top 33
/-- whether a value is a list or a tuple -/
def IsLT (K : PySem.W.Frag) (H : Hp) (v : V) (b : Bool) : Prop := ∃ t, TyX K H v t ∧ PySem.W.kitAny K t [.type "list", .type "tuple"] = some b
theorem IsLT.same {K : PySem.W.Frag} {H H' : Hp} {v : V} {b : Bool} (h : IsLT K H v b) (s : Same H H') : IsLT K H' v b := by
  obtain ⟨t, h1, h2⟩ := h
  exact ⟨t, h1.same s, h2⟩
theorem kitLT {K : PySem.W.Frag} {T : String} {b1 b2 : Bool} (h1 : kitB T "list" = some b1) (h2 : kitB T "tuple" = some b2) : PySem.W.kitAny K (.type T) [.type "list", .type "tuple"] = some (b1 || b2) := by
  refine kitAny_cons (kit_ty h1) (fun e => ?_) fun e => by rw [e]; rfl
  subst e
  exact kitAny_cons (kit_ty h2) (fun e => by rw [e]; rfl) fun e => by rw [e]; rfl
/-- a value that is a list or a tuple of these -/
def SeqV (K : PySem.W.Frag) (H : Hp) (v : V) (xs : List V) : Prop := ∃ a, v = .ref a ∧ (SqL K H a xs ∨ SqT K H a xs)
theorem SeqV.isLT {K : PySem.W.Frag} {H : Hp} {v : V} {xs : List V} (h : SeqV K H v xs) : IsLT K H v true := by
  obtain ⟨a, rfl, h | h⟩ := h
  · refine ⟨.type "list", ?_, kitLT (b1 := true) (b2 := false) (by decide +kernel) (by decide +kernel)⟩
    rcases h with (h | ⟨o, h⟩) | ⟨o, its, n, h1, h2, _⟩
    · exact .base (.lst h)
    · exact .base (.frz h)
    · exact .kList h1 h2
  · refine ⟨.type "tuple", ?_, kitLT (b1 := false) (b2 := true) (by decide +kernel) (by decide +kernel)⟩
    rcases h with (h | ⟨o, h⟩) | ⟨o, its, n, h1, h2, _⟩
    · exact .base (.tup h)
    · exact .fTuple h
    · exact .kTuple h1 h2
theorem SeqV.same {K : PySem.W.Frag} {H H' : Hp} {v : V} {xs : List V} (h : SeqV K H v xs) (s : Same H H') : SeqV K H' v xs := by
  obtain ⟨a, e, h | h⟩ := h
  · exact ⟨a, e, .inl (s.seq h)⟩
  · exact ⟨a, e, .inr (same_tup s h)⟩
theorem Bad.mono {cB : Addr} {v : V} {H H' : Hp} {E : XK} (h : Bad cB v H E) (s : Same H H') : Bad cB v H' E := fun d H2 n s2 e => h d H2 (same_none s n) (s.trans s2) e
def spIsLT (K : PySem.W.Frag) : Sp := fun vs H Q _ => ∃ v b, vs = [v] ∧ IsLT K H v b ∧ ∀ H', Same H H' → Q (.bl b) H'
def spNeedL (K : PySem.W.Frag) (cB : Addr) : Sp := fun vs H Q E => ∃ v, vs = [v] ∧ ((IsLT K H v true ∧ ∀ H', Same H H' → Q v H') ∨ (IsLT K H v false ∧ Bad cB v H E))
/-- a Ratio | what stands for one: an int, a Ratio -/
def RV (C : Addr) (H : Hp) (v : V) (p : Int × Int) : Prop := ∃ a dx, v = .ref a ∧ H a = some (rat C dx p)
def Sh (C : Addr) (H : Hp) (v : V) (p : Int × Int) : Prop := (v = .int p.1 ∧ p.2 = 1) ∨ RV C H v p
theorem RV.same {C : Addr} {H H' : Hp} {v : V} {p : Int × Int} (h : RV C H v p) (s : Same H H') : RV C H' v p := by
  obtain ⟨a, dx, e, h⟩ := h
  exact ⟨a, dx, e, s _ _ h⟩
theorem Sh.same {C : Addr} {H H' : Hp} {v : V} {p : Int × Int} (h : Sh C H v p) (s : Same H H') : Sh C H' v p := h.elim .inl fun h => .inr (h.same s)
/-- a new list of Ratios -/
def NewRL (C : Addr) (H : Hp) (Q : VK) (ps : List (Int × Int)) : Prop := ∀ (l : Addr) (ws : List V) (H' : Hp), H l = none → Same H H' → H' l = some (.lst ws) → Paired (RV C H') ws ps → Q (.ref l) H'
def spRL (K : PySem.W.Frag) (C cB : Addr) : Sp := fun vs H Q E => ∃ v, vs = [v] ∧ ((IsLT K H v false ∧ Bad cB v H E) ∨
  (∃ xs ps, SeqV K H v xs ∧ xs.length ≤ sizeLine ∧ Paired (Sh C H) xs ps ∧ NewRL C H Q ps) ∨
  (∃ xs ps u rest, SeqV K H v (xs ++ u :: rest) ∧ xs.length ≤ sizeLine ∧ Paired (Sh C H) xs ps ∧ Odd K H u ∧ Bad cB u H E))
section
variable {P : Program} {w : World} {K : PySem.W.Frag} {mg : Str → Option Value} {base : Heap} {cB cN C fI : Addr}
theorem scIsList : FnScope ["value"] ["value"] (defScope sIsList) := ⟨rfl, rfl, rfl, by decide +kernel, rfl, by decide +kernel, by decide +kernel⟩
theorem ok_isLT {f : Addr} {fd : FuncData} (F : Fun K "is_list" "is_list" sIsList f fd) (B : TxtR mg) (bt : mg "tuple" = none) : FnOk P w K mg base CX0 1 f fd ["value"] (spIsLT K) := by
  refine F.ok scIsList (fun vs H Q E h => ?_) (fun cdv A outer s H vs Q E hr h => ?_)
  · obtain ⟨v, b, rfl, _⟩ := h
    rfl
  · obtain ⟨v, b, rfl, ⟨t, h1, h2⟩, k⟩ := h
    refine ⟨_, pss_one (ps_ret (pe_callB call_isiT (by rfl) B.isi (by decide +kernel) (pa_cons (pv 0) (pa_cons (pe_tup (pa_cons (pe_bltn (v := .ty "list") (u := .type "list") (by rfl) B.list (by decide +kernel) rfl) (pa_cons (pe_bltn (v := .ty "tuple") (u := .type "tuple") (by rfl) bt (by decide +kernel) rfl) pa_nil))) pa_nil)))), ?_⟩
    refine ⟨_, rfl, by show 2 ≤ sizeLine; decide, fun T nT => ?_⟩
    have z : Same H (upd H T (.tup [.ty "list", .ty "tuple"])) := Same.new (fun _ _ e => e) nT
    exact ⟨v, T, _, t, _, b, rfl, upd_same, .cons (.ty _) (.cons (.ty _) .nil), h1.same z, h2, k _ z⟩
theorem scNeedL : FnScope ["value"] ["value"] (defScope sNeedL) := ⟨rfl, rfl, rfl, by decide +kernel, rfl, by decide +kernel, by decide +kernel⟩
theorem ok_needL {f fi : Addr} {fd fdi : FuncData} (F : Fun K "need_list" "need_list" sNeedL f fd) (G : FnOk P w K mg base CX0 1 fi fdi ["value"] (spIsLT K)) (gi : mg "is_list" = some (.ref fi)) (kp : PySem.W.keepIn K (.ref fi) = true) (bi : Binds K fdi ["value"] []) (T : ErrR P w K mg base cB cN) :
    FnOk P w K mg base (L2.CX P w) 3 f fd ["value"] (spNeedL K cB) := by
  refine F.okX scNeedL (fun vs H Q E h => ?_) (fun cdv A outer s H vs Q E hr h => ?_)
  · obtain ⟨v, rfl, _⟩ := h
    rfl
  · obtain ⟨v, rfl, k⟩ := h
    have hr1 : Room 1 _ := hr.mono (by decide)
    refine ⟨_, pss_cons (ps_if (pt_not (pt_val (pe_call G hr1 (by rfl) gi kp bi .nil pass0 (pa_cons (pv 0) pa_nil)))) (pss_one (ps_raise rfl (takes_of rfl rfl rfl rfl) (pmk_retX rfl (pe_one1 T.B hr (pv 0))))) pss_nil) (pss_one (ps_ret (pv 0))), ?_⟩
    rcases k with ⟨h, q⟩ | ⟨h, q⟩
    · exact ⟨_, rfl, v, true, rfl, h, fun H' z => ⟨_, rfl, _, rfl, q H' z⟩⟩
    · refine ⟨_, rfl, v, false, rfl, h, fun H' z => ⟨_, rfl, _, rfl, ?_⟩⟩
      exact fun a dx H1 ha hd s e ed ne => ⟨a, _, dx, rfl, e, fr0_none (same_none z ha), raises_own T.B.Z.su T.tB, q dx _ (same_none z hd) (same_del (z.trans s) (same_none z ha)) (by rw [delH_ne ne]; exact ed)⟩
theorem scRList : FnScope ["values", "value"] ["values"] (defScope sRList) := ⟨rfl, rfl, rfl, by decide +kernel, rfl, by decide +kernel, by decide +kernel⟩
theorem ok_rList {f fn fa : Addr} {fd fdn fda : FuncData} (F : Fun K "ratio_list" "ratio_list" sRList f fd) (R : Rat P w K mg base cB cN C fI) (G : FnOk P w K mg base (L2.CX P w) 3 fn fdn ["value"] (spNeedL K cB)) (gn : mg "need_list" = some (.ref fn)) (kn : PySem.W.keepIn K (.ref fn) = true) (bn : Binds K fdn ["value"] [])
    (Ga : FnOk P w K mg base (L2.CX P w) 6 fa fda ["value"] (spAs K C cB)) (ga : mg "as_ratio" = some (.ref fa)) (ka : PySem.W.keepIn K (.ref fa) = true) (ba : Binds K fda ["value"] []) : FnOk P w K mg base (L2.CX P w) 7 f fd ["values"] (spRL K C cB) := by
  refine F.okX scRList (fun vs H Q E h => ?_) (fun cdv A outer s H vs Q E hr h => ?_)
  · obtain ⟨v, rfl, _⟩ := h
    rfl
  · obtain ⟨v, rfl, k⟩ := h
    have nd := scRList.nd
    have hr3 : Room 3 _ := hr.mono (by decide)
    have hr5 : Room 5 _ := hr.mono (by decide)
    refine ⟨_, pss_one (ps_ret (pe_lcE (E := E) (own := [("value", 1)]) (g := gName 1) (tt := tYes) rfl rfl (takes_of rfl rfl rfl rfl) rfl nd (pi_or (pi_list (pe_call G hr3 (by rfl) gn kn bn .nil (passK (takes_of rfl rfl rfl rfl)) (pa_cons (pv 0) pa_nil))) (pi_tup (pe_call G hr3 (by rfl) gn kn bn .nil (passK (takes_of rfl rfl rfl rfl)) (pa_cons (pv 0) pa_nil))))
      (blkOk_by (N := ["values", "value"]) (sc := defScope sRList) (by decide +kernel)) (fun _ _ _ _ _ _ => pg_name (i := 1) nd rfl (Or.inl rfl)) (fun _ _ _ _ _ _ => pts_nil) (fun _ _ _ _ _ _ hp => pe_asRK K R hr5 hp (fun _ => pv 1)))), ?_⟩
    -- one item that stands for a Ratio
    have item : ∀ (xs : List V) (ps : List (Int × Int)) (H0 : Hp) (D : Addr), xs.length ≤ sizeLine → Paired (Sh C H0) xs ps → H0 D = none → ∀ (i : Nat) (x : V) (H2 : Hp) (σ2 : L2.St), xs[i]? = some x → (Same H0 H2 ∧ ∃ ws, H2 D = some (.lst ws) ∧ Paired (RV C H2) ws (ps.take i)) →
        spAs K C cB [x] H2 (fun y H4 => ∃ acc, H4 D = some (.lst acc) ∧ acc.length < sizeLine ∧ (Same H0 (upd H4 D (.lst (acc ++ [y]))) ∧ ∃ ws, (upd H4 D (.lst (acc ++ [y]))) D = some (.lst ws) ∧ Paired (RV C (upd H4 D (.lst (acc ++ [y])))) ws (ps.take (i + 1)))) E := by
      intro xs ps H0 D few pr nD i x H2 σ2 hx p
      obtain ⟨s2, ws, hD, pw⟩ := p
      obtain ⟨b, hb, sh⟩ := paired_at pr hx
      have li : i < xs.length := (List.getElem?_eq_some_iff.mp hx).1
      have lw : ws.length = i := by
        rw [paired_len pw, List.length_take, ← paired_len pr]
        omega
      have tail : ∀ (y : V) (H4 : Hp), Same H2 H4 → RV C H4 y b → ∃ acc, H4 D = some (.lst acc) ∧ acc.length < sizeLine ∧ (Same H0 (upd H4 D (.lst (acc ++ [y]))) ∧ ∃ ws, (upd H4 D (.lst (acc ++ [y]))) D = some (.lst ws) ∧ Paired (RV C (upd H4 D (.lst (acc ++ [y])))) ws (ps.take (i + 1))) := by
        intro y H4 s4 ry
        have keep : ∀ v q, RV C H4 v q → RV C (upd H4 D (.lst (ws ++ [y]))) v q := by
          rintro v q ⟨a, dx, e, ha⟩
          refine ⟨a, dx, e, ?_⟩
          have ne : a ≠ D := fun z => by
            rw [z, s4 _ _ hD] at ha
            cases ha
          rw [upd_ne ne]
          exact ha
        refine ⟨ws, s4 _ _ hD, by omega, fun b o e => ?_, ws ++ [y], upd_same, ?_⟩
        · rw [upd_ne (ne_of_none e nD)]
          exact s4 _ _ (s2 _ _ e)
        · rw [take_snoc hb]
          exact (Paired.mapP pw fun v q h => keep v q (h.same s4)).snoc (keep y b ry)
      refine ⟨x, rfl, ?_⟩
      rcases sh with ⟨e, one⟩ | ⟨a, dx, e, ha⟩
      · refine .int b.1 e fun a dx H4 na s4 ea => tail _ _ s4 ⟨a, dx, rfl, ?_⟩
        rw [ea, ← one]
      · exact .rat a dx b e (s2 _ _ ha) (tail _ _ (fun _ _ z => z) ⟨a, dx, e, s2 _ _ ha⟩)
    rcases k with ⟨nl, q⟩ | ⟨xs, ps, ⟨a, rfl, sq⟩, few, pr, q⟩ | ⟨xs, ps, u, rest, ⟨a, rfl, sq⟩, few, pr, od, q⟩
    · exact .inl ⟨_, rfl, _, rfl, .inr ⟨nl, q⟩⟩
    · have isl : IsLT K H (.ref a) true := SeqV.isLT (xs := xs) ⟨a, rfl, sq⟩
      have fin : ∀ (H0 : Hp) (D : Addr), Same H H0 → H0 D = none → ∀ H5, (Same H0 H5 ∧ ∃ ws, H5 D = some (.lst ws) ∧ Paired (RV C H5) ws (ps.take xs.length)) → Q (.ref D) H5 := by
        rintro H0 D s0 nD H5 ⟨s5, ws, hD, pw⟩
        rw [paired_len pr, List.take_length] at pw
        exact q D ws H5 (same_none s0 nD) (s0.trans s5) hD pw
      rcases sq with sq | sq
      · refine .inl ⟨_, rfl, _, rfl, .inl ⟨isl, fun H0 s0 => ⟨a, rfl, ⟨xs, s0.seq sq⟩, fun D nD => lc_list (K := K) (a := a) (xs := xs) (fun i H2 => Same H0 H2 ∧ ∃ ws, H2 D = some (.lst ws) ∧ Paired (RV C H2) ws (ps.take i)) ⟨Same.new (fun _ _ e => e) nD, [], upd_same, .nil⟩ (fun i H2 _ p => p.1.seq (s0.seq sq)) ?_ (fin H0 D s0 nD)⟩⟩⟩
        exact fun i x H2 hx p => ⟨rfl, _, rfl, item xs ps H0 D few (Paired.mapP pr fun _ _ h => h.same s0) nD i x H2 [] hx p⟩
      · refine .inr ⟨_, rfl, _, rfl, .inl ⟨isl, fun H0 s0 => ⟨a, rfl, ⟨xs, same_tup s0 sq⟩, fun D nD => lc_tup (K := K) (a := a) (xs := xs) (fun i H2 => Same H0 H2 ∧ ∃ ws, H2 D = some (.lst ws) ∧ Paired (RV C H2) ws (ps.take i)) ⟨Same.new (fun _ _ e => e) nD, [], upd_same, .nil⟩ (fun i H2 _ p => same_tup p.1 (same_tup s0 sq)) ?_ (fin H0 D s0 nD)⟩⟩⟩
        exact fun i x H2 hx p => ⟨rfl, _, rfl, item xs ps H0 D few (Paired.mapP pr fun _ _ h => h.same s0) nD i x H2 [] hx p⟩
    · have isl : IsLT K H (.ref a) true := SeqV.isLT (xs := xs ++ u :: rest) ⟨a, rfl, sq⟩
      have step : ∀ (H0 : Hp) (D : Addr), Same H H0 → H0 D = none → ∀ i x H2, (xs ++ u :: rest)[i]? = some x → (i ≤ xs.length ∧ (Same H0 H2 ∧ ∃ ws, H2 D = some (.lst ws) ∧ Paired (RV C H2) ws (ps.take i))) →
          spAs K C cB [x] H2 (fun y H4 => ∃ acc, H4 D = some (.lst acc) ∧ acc.length < sizeLine ∧ (i + 1 ≤ xs.length ∧ (Same H0 (upd H4 D (.lst (acc ++ [y]))) ∧ ∃ ws, (upd H4 D (.lst (acc ++ [y]))) D = some (.lst ws) ∧ Paired (RV C (upd H4 D (.lst (acc ++ [y])))) ws (ps.take (i + 1))))) E := by
        rintro H0 D s0 nD i x H2 hx ⟨hi, p⟩
        by_cases lt : i < xs.length
        · rw [List.getElem?_append_left lt] at hx
          obtain ⟨x', e, st⟩ := item xs ps H0 D few (Paired.mapP pr fun _ _ h => h.same s0) nD i x H2 [] hx p
          cases e
          refine ⟨x, rfl, ?_⟩
          cases st with
          | rat a dx q hv e k =>
            obtain ⟨acc, k1, k2, k3⟩ := k
            exact .rat a dx q hv e ⟨acc, k1, k2, lt, k3⟩
          | int t hv k =>
            refine .int t hv fun a dx H' n s' e => ?_
            obtain ⟨acc, k1, k2, k3⟩ := k a dx H' n s' e
            exact ⟨acc, k1, k2, lt, k3⟩
          | odd o k => exact .odd o k
        · have e : i = xs.length := by omega
          subst e
          rw [List.getElem?_append_right (Nat.le_refl _), Nat.sub_self] at hx
          cases hx
          exact ⟨_, rfl, .odd (od.same (s0.trans p.1)) (q.mono (s0.trans p.1))⟩
      have fin : ∀ (H0 : Hp) (D : Addr) H5, ((xs ++ u :: rest).length ≤ xs.length ∧ (Same H0 H5 ∧ ∃ ws, H5 D = some (.lst ws) ∧ Paired (RV C H5) ws (ps.take (xs ++ u :: rest).length))) → Q (.ref D) H5 := fun H0 D H5 p => by
        have := p.1
        rw [List.length_append, List.length_cons] at this
        exact absurd this (by omega)
      rcases sq with sq | sq
      · refine .inl ⟨_, rfl, _, rfl, .inl ⟨isl, fun H0 s0 => ⟨a, rfl, ⟨_, s0.seq sq⟩, fun D nD => lc_list (K := K) (a := a) (xs := xs ++ u :: rest) (fun i H2 => i ≤ xs.length ∧ (Same H0 H2 ∧ ∃ ws, H2 D = some (.lst ws) ∧ Paired (RV C H2) ws (ps.take i))) ⟨Nat.zero_le _, Same.new (fun _ _ e => e) nD, [], upd_same, .nil⟩ (fun i H2 _ p => p.2.1.seq (s0.seq sq)) ?_ (fin H0 D)⟩⟩⟩
        exact fun i x H2 hx p => ⟨rfl, _, rfl, step H0 D s0 nD i x H2 hx p⟩
      · refine .inr ⟨_, rfl, _, rfl, .inl ⟨isl, fun H0 s0 => ⟨a, rfl, ⟨_, same_tup s0 sq⟩, fun D nD => lc_tup (K := K) (a := a) (xs := xs ++ u :: rest) (fun i H2 => i ≤ xs.length ∧ (Same H0 H2 ∧ ∃ ws, H2 D = some (.lst ws) ∧ Paired (RV C H2) ws (ps.take i))) ⟨Nat.zero_le _, Same.new (fun _ _ e => e) nD, [], upd_same, .nil⟩ (fun i H2 _ p => same_tup p.2.1 (same_tup s0 sq)) ?_ (fin H0 D)⟩⟩⟩
        exact fun i x H2 hx p => ⟨rfl, _, rfl, step H0 D s0 nD i x H2 hx p⟩
end
end K03
end
section
set_option maxHeartbeats 4000000
namespace K03
open PySem PySem.Spec PyProof.Rows L2 LamX NdefX L3
/-- items that stand for these Ratios | the first thing that is wrong with items -/
def Given (K : PySem.W.Frag) (C : Addr) (H : Hp) (v : V) (ps : List (Int × Int)) : Prop := ∃ xs, SeqV K H v xs ∧ xs.length ≤ sizeLine ∧ Paired (Sh C H) xs ps
def Flawed (K : PySem.W.Frag) (C : Addr) (H : Hp) (v u : V) : Prop := (IsLT K H v false ∧ u = v) ∨ ∃ xs ps rest, SeqV K H v (xs ++ u :: rest) ∧ xs.length ≤ sizeLine ∧ Paired (Sh C H) xs ps ∧ Odd K H u
theorem spRL.good {K : PySem.W.Frag} {C cB : Addr} {H : Hp} {Q : VK} {E : XK} {v : V} {ps : List (Int × Int)} (g : Given K C H v ps) (q : NewRL C H Q ps) : spRL K C cB [v] H Q E := by
  obtain ⟨xs, h1, h2, h3⟩ := g
  exact ⟨v, rfl, .inr (.inl ⟨xs, ps, h1, h2, h3, q⟩)⟩
theorem spRL.flawed {K : PySem.W.Frag} {C cB : Addr} {H : Hp} {Q : VK} {E : XK} {v u : V} (g : Flawed K C H v u) (q : Bad cB u H E) : spRL K C cB [v] H Q E := by
  rcases g with ⟨h, rfl⟩ | ⟨xs, ps, rest, h1, h2, h3, h4⟩
  · exact ⟨_, rfl, .inl ⟨h, q⟩⟩
  · exact ⟨v, rfl, .inr (.inr ⟨xs, ps, u, rest, h1, h2, h3, h4, q⟩)⟩
theorem same_grow {D : Addr} {H H2 : Hp} {ys : List V} (nD : H D = none) (s : Same H H2) : Same H (upd H2 D (.lst ys)) := fun b o e => by
  rw [upd_ne (ne_of_none e nD)]
  exact s b o e
section
variable {P : Program} {w : World} {K : PySem.W.Frag} {mg : Str → Option Value} {base : Heap} {cB cN C fI : Addr} {tL tM : Tok}
end
end K03
end
section
set_option maxHeartbeats 4000000
namespace L3
open PySem PySem.Spec PyProof.Rows L2
theorem yes_if {σ : L2.St} {H : Hp} {a b : Hp → Prop} (h : a H) : tYes σ H (fun c H3 => if c = true then a H3 else b H3) := by
  show (if true = true then a H else b H)
  rw [if_pos rfl]
  exact h
end L3
namespace K03
open PySem PySem.Spec PyProof.Rows L2 LamX NdefX L3
section
variable {X : Cx} {cB cN C fI : Addr} {e e2 : Expr} {te te2 : TE} {p pos : Pos} {E : XK}
theorem pe_rat2K (K : PySem.W.Frag) (R : Rat X.prog X.w K X.mg X.base cB cN C fI) (hr : Room 5 X.A) (hx : Passes (L2.CX X.prog X.w) X E) (he : PE X e te) (he2 : PE X e2 te2) (hK : X.K = K := by rfl) (hg : Gl X "Ratio" := by rfl)
    (hs : starEach [e, e2] X.env = (false, eval e X.env) :: starEach [e2] X.env := by rfl) (hs2 : starEach [e2] X.env = (false, eval e2 X.env) :: starEach [] X.env := by rfl) : PE X (.Call (.Name "Ratio" p) [e, e2] [] pos) (tRat2 K C cB cN E te te2) := by
  subst hK
  exact pe_rat2 R hr hx he he2 hg hs hs2
end
section
variable {P : Program} {w : World} {K : PySem.W.Frag} {mg : Str → Option Value} {base : Heap} {cB cN C fI : Addr}
end
end K03
end
section
set_option maxHeartbeats 4000000
namespace K03
open PySem PySem.Spec PyProof.Rows L2 LamX NdefX L3
theorem wipe_back {σ : L2.St} {j : Nat} {x : V} : wipe ((wipe σ [j]).set j (some x)) [j] = wipe σ [j] := by
  show ((σ.set j none).set j (some x)).set j none = σ.set j none
  rw [List.set_set, List.set_set]
/-- [e for x in a list or a tuple]: each item's value by a relation that D's growth leaves -/
theorem lc_map {K : PySem.W.Frag} {j : Nat} {v : V} {xs : List V} {β : Type} {bs : List β} {Rr : Addr → Hp → V → β → Prop} {σ : L2.St} {H : Hp} {te tv : TE} {Q : VK}
    (hv : ∀ R : VK, R v H → tv σ H R) (sq : SeqV K H v xs) (few : xs.length ≤ sizeLine) (hl : xs.length = bs.length)
    (same : ∀ (D : Addr) (H H' : Hp) (y : V) (b : β), Rr D H y b → Same H H' → Rr D H' y b) (grow : ∀ (D : Addr) (H : Hp) (rs ys : List V) (y : V) (b : β), H D = some (.lst rs) → Rr D H y b → Rr D (upd H D (.lst ys)) y b)
    (step : ∀ (D : Addr) (k : Nat) (x : V) (b : β) (H2 : Hp) (rs : List V) (Kc : VK), xs[k]? = some x → bs[k]? = some b → Same H H2 → H2 D = some (.lst rs) → (∀ (y : V) (H3 : Hp), Same H2 H3 → Rr D H3 y b → Kc y H3) → te ((wipe σ [j]).set j (some x)) H2 Kc)
    (fin : ∀ (D : Addr) (ws : List V) (H5 : Hp), H D = none → Same H H5 → H5 D = some (.lst ws) → Paired (Rr D H5) ws bs → Q (.ref D) H5) :
    tLc (fun σ H R => iList K tv σ H R ∨ iTup K tv σ H R) (gName j) tYes te [j] σ H Q := by
  obtain ⟨a, rfl, sq⟩ := sq
  have one : ∀ (D : Addr), H D = none → ∀ (i : Nat) (x : V) (H2 : Hp), xs[i]? = some x → (Same H H2 ∧ ∃ ws, H2 D = some (.lst ws) ∧ Paired (Rr D H2) ws (bs.take i)) →
      gName j x (wipe σ [j]) H2 fun σ2 H3 => wipe σ2 [j] = wipe σ [j] ∧ tYes σ2 H3 fun b H4 => if b = true then te σ2 H4 fun y H5 => ∃ acc, H5 D = some (.lst acc) ∧ acc.length < sizeLine ∧ (Same H (upd H5 D (.lst (acc ++ [y]))) ∧ ∃ ws, (upd H5 D (.lst (acc ++ [y]))) D = some (.lst ws) ∧ Paired (Rr D (upd H5 D (.lst (acc ++ [y])))) ws (bs.take (i + 1))) else (Same H H4 ∧ ∃ ws, H4 D = some (.lst ws) ∧ Paired (Rr D H4) ws (bs.take (i + 1))) := by
    intro D nD i x H2 hx p
    obtain ⟨s2, ws, hD, pw⟩ := p
    have li : i < xs.length := (List.getElem?_eq_some_iff.mp hx).1
    have hb : bs[i]? = some bs[i] := List.getElem?_eq_getElem (by omega)
    have lw : ws.length = i := by
      rw [paired_len pw, List.length_take]
      omega
    refine ⟨wipe_back, ?_⟩
    refine yes_if (a := fun H4 => te _ H4 _) ?_
    refine step D i x _ H2 ws _ hx hb s2 hD fun y H3 s3 ry => ?_
    have hD3 := s3 _ _ hD
    refine ⟨ws, hD3, by omega, same_grow nD (s2.trans s3), ws ++ [y], upd_same, ?_⟩
    rw [take_snoc hb]
    exact (Paired.mapP pw fun v b z => grow D H3 ws (ws ++ [y]) v b hD3 (same D H2 H3 v b z s3)).snoc (grow D H3 ws (ws ++ [y]) y _ hD3 ry)
  have last : ∀ (D : Addr), H D = none → ∀ H5, (Same H H5 ∧ ∃ ws, H5 D = some (.lst ws) ∧ Paired (Rr D H5) ws (bs.take xs.length)) → Q (.ref D) H5 := by
    rintro D nD H5 ⟨s5, ws, hD, pw⟩
    rw [hl, List.take_length] at pw
    exact fin D ws H5 nD s5 hD pw
  rcases sq with sq | sq
  · refine .inl (hv _ ⟨a, rfl, ⟨xs, sq⟩, fun D nD => ?_⟩)
    exact lc_list (K := K) (a := a) (xs := xs) (fun i H2 => Same H H2 ∧ ∃ ws, H2 D = some (.lst ws) ∧ Paired (Rr D H2) ws (bs.take i)) ⟨Same.new (fun _ _ e => e) nD, [], upd_same, .nil⟩ (fun i H2 _ p => p.1.seq sq) (one D nD) (last D nD)
  · refine .inr (hv _ ⟨a, rfl, ⟨xs, sq⟩, fun D nD => ?_⟩)
    exact lc_tup (K := K) (a := a) (xs := xs) (fun i H2 => Same H H2 ∧ ∃ ws, H2 D = some (.lst ws) ∧ Paired (Rr D H2) ws (bs.take i)) ⟨Same.new (fun _ _ e => e) nD, [], upd_same, .nil⟩ (fun i H2 _ p => same_tup p.1 sq) (one D nD) (last D nD)
/-- .. over a range -/
theorem lc_mapR {j n : Nat} {lo : Int} {β : Type} {bs : List β} {Rr : Addr → Hp → V → β → Prop} {σ : L2.St} {H : Hp} {te : TE} {Q : VK} (few : n ≤ sizeLine) (hl : n = bs.length)
    (same : ∀ (D : Addr) (H H' : Hp) (y : V) (b : β), Rr D H y b → Same H H' → Rr D H' y b) (grow : ∀ (D : Addr) (H : Hp) (rs ys : List V) (y : V) (b : β), H D = some (.lst rs) → Rr D H y b → Rr D (upd H D (.lst ys)) y b)
    (step : ∀ (D : Addr) (k : Nat) (b : β) (H2 : Hp) (rs : List V) (Kc : VK), k < n → bs[k]? = some b → Same H H2 → H2 D = some (.lst rs) → (∀ (y : V) (H3 : Hp), Same H2 H3 → Rr D H3 y b → Kc y H3) → te ((wipe σ [j]).set j (some (.int (lo + k)))) H2 Kc)
    (fin : ∀ (D : Addr) (ws : List V) (H5 : Hp), H D = none → Same H H5 → H5 D = some (.lst ws) → Paired (Rr D H5) ws bs → Q (.ref D) H5) (D : Addr) (nD : H D = none) :
    ∃ W : Nat → Nat → Hp → Prop, (∃ m, W 0 m (upd H D (.lst []))) ∧ ∀ i m H, W i m H →
      ((Itr lo n).stop i H ∧ Q (.ref D) H) ∨ ((Itr lo n).go i H ∧ ∃ Nx : Hp → Prop, (∀ H', Nx H' → ∃ m', m' < m ∧ W (i + 1) m' H') ∧ ∀ x H', (Itr lo n).yld i H x H' → gName j x (wipe σ [j]) H' fun σ2 H2 => wipe σ2 [j] = wipe σ [j] ∧ tYes σ2 H2 fun b H3 =>
        if b = true then te σ2 H3 fun y H4 => ∃ acc, H4 D = some (.lst acc) ∧ acc.length < sizeLine ∧ Nx (upd H4 D (.lst (acc ++ [y]))) else Nx H3) := by
  refine lc_range (fun i H2 => Same H H2 ∧ ∃ ws, H2 D = some (.lst ws) ∧ Paired (Rr D H2) ws (bs.take i)) ⟨Same.new (fun _ _ e => e) nD, [], upd_same, .nil⟩ ?_ ?_
  · rintro i H2 hi ⟨s2, ws, hD, pw⟩
    have hb : bs[i]? = some bs[i] := List.getElem?_eq_getElem (by omega)
    have lw : ws.length = i := by
      rw [paired_len pw, List.length_take]
      omega
    refine ⟨wipe_back, ?_⟩
    refine yes_if (a := fun H4 => te _ H4 _) ?_
    refine step D i _ H2 ws _ hi hb s2 hD fun y H3 s3 ry => ?_
    have hD3 := s3 _ _ hD
    refine ⟨ws, hD3, by omega, same_grow nD (s2.trans s3), ws ++ [y], upd_same, ?_⟩
    rw [take_snoc hb]
    exact (Paired.mapP pw fun v b z => grow D H3 ws (ws ++ [y]) v b hD3 (same D H2 H3 v b z s3)).snoc (grow D H3 ws (ws ++ [y]) y _ hD3 ry)
  · rintro H5 ⟨s5, ws, hD, pw⟩
    rw [hl, List.take_length] at pw
    exact fin D ws H5 nD s5 hD pw
/-- for x in a list or a tuple -/
theorem for_seq {K : PySem.W.Frag} {v : V} {xs : List V} {g : TG} {tb : TS} {D : Ends} {σ : L2.St} {H : Hp} {tv : TE} (hv : ∀ R : VK, R v H → tv σ H R) (sq : SeqV K H v xs) (Pv : Nat → L2.St → Hp → Prop) (h0 : Pv 0 σ H) (hsame : ∀ i σ' H', Pv i σ' H' → Same H H')
    (hs : ∀ i x σ H, xs[i]? = some x → Pv i σ H → g x σ H fun σ2 H2 => tb { D with nx := Pv (i + 1), ct := Pv (i + 1), bk := D.nx } σ2 H2) (hd : ∀ σ H, Pv xs.length σ H → D.nx σ H) : tFor (fun σ H R => iList K tv σ H R ∨ iTup K tv σ H R) g tb D σ H := by
  obtain ⟨a, rfl, sq⟩ := sq
  rcases sq with sq | sq
  · exact .inl (hv _ ⟨a, rfl, ⟨xs, sq⟩, for_list (K := K) (a := a) (xs := xs) Pv h0 (fun i σ' H' _ p => (hsame i σ' H' p).seq sq) hs hd⟩)
  · exact .inr (hv _ ⟨a, rfl, ⟨xs, sq⟩, for_tup (K := K) (a := a) (xs := xs) Pv h0 (fun i σ' H' _ p => same_tup (hsame i σ' H' p) sq) hs hd⟩)
/-- a statement by itself, what follows it by what holds between -/
theorem seq_to {t1 t2 : TS} {D : Ends} {σ : L2.St} {H : Hp} (M : L2.St → Hp → Prop) (h1 : ∀ K : L2.St → Hp → Prop, (∀ σ' H', M σ' H' → K σ' H') → t1 { nx := K, rt := D.rt, bk := D.bk, ct := D.ct } σ H) (h2 : ∀ σ' H', M σ' H' → t2 D σ' H') : tSeq t1 t2 D σ H := h1 _ h2
theorem int_list {ws : List V} {ns : List Nat} (h : Paired (fun (y : V) (n : Nat) => y = .int n) ws ns) : ws = (ns.map fun (n : Nat) => (n : Int)).map V.int := by
  induction h with
  | nil => rfl
  | cons a _ ih =>
    rw [ih, a]
    rfl
end K03
end
section
set_option maxHeartbeats 4000000
namespace K03
open PySem PySem.Spec PyProof.Rows L2 LamX NdefX L3
section
variable {X : Cx} {tg l : Expr} {tl : TE}
end
section
variable {P : Program} {w : World} {K : PySem.W.Frag} {mg : Str → Option Value} {base : Heap} {cB cN C fI : Addr} {tL tM : Tok}
end
end K03
end
section
set_option maxHeartbeats 4000000
namespace K03
open PySem PySem.Spec PyProof.Rows L2 LamX NdefX L3
section
variable {P : Program} {w : World} {K : PySem.W.Frag} {mg : Str → Option Value} {base : Heap} {cB cN C fI : Addr}
end
end K03
end
section
set_option maxHeartbeats 4000000
namespace K03
open PySem PySem.Spec PyProof.Rows L2
/-- the pen: the cells' list at c, the stop s, the rest r -/
def pen (c : Addr) (s r : Int) : List (Key × V) := [(.inr "cells", .ref c), (.inr "begun", .int s), (.inr "left", .int r)]
theorem n1 : ¬ (("cells" : Str) = "begun") := by decide +kernel
theorem n2 : ¬ (("cells" : Str) = "left") := by decide +kernel
theorem n3 : ¬ (("begun" : Str) = "left") := by decide +kernel
theorem n4 : ¬ (("left" : Str) = "begun") := by decide +kernel
theorem pen_cells (c : Addr) (s r : Int) : valV (pen c s r) (.inr "cells") = some (.ref c) := valV_pos rfl
theorem pen_stop (c : Addr) (s r : Int) : valV (pen c s r) (.inr "begun") = some (.int s) := (valV_neg fun z => n1 (Sum.inr.inj z)).trans (valV_pos rfl)
theorem pen_rest (c : Addr) (s r : Int) : valV (pen c s r) (.inr "left") = some (.int r) := (valV_neg fun z => n2 (Sum.inr.inj z)).trans ((valV_neg fun z => n3 (Sum.inr.inj z)).trans (valV_pos rfl))
theorem put_stop (c : Addr) (s r z : Int) : putK (pen c s r) (.inr "begun") (.int z) = pen c z r := by
  simp [putK, pen, n1, n4]
theorem put_rest (c : Addr) (s r z : Int) : putK (pen c s r) (.inr "left") (.int z) = pen c s z := by
  simp [putK, pen, n2, n3]
theorem merge_pen (c : Addr) (s r : Int) : mergeK [] (pen c s r) = pen c s r := by
  simp [mergeK, putK, pen, n1, n2, n3]
structure PenAt (H : Hp) (d c : Addr) (s r : Int) (cells : List Int) : Prop where
  dc : H d = some (.dK (pen c s r))
  ls : H c = some (.lst (cells.map V.int))
theorem PenAt.ne {H : Hp} {d c : Addr} {s r : Int} {cells : List Int} (p : PenAt H d c s r cells) : c ≠ d := ne_of p.ls p.dc (by intro z; cases z)
theorem PenAt.set {H : Hp} {d c : Addr} {s r : Int} {cells : List Int} (p : PenAt H d c s r cells) (s' r' : Int) : PenAt (upd H d (.dK (pen c s' r'))) d c s' r' cells := ⟨upd_same, by rw [upd_ne p.ne]; exact p.ls⟩
/-- all that was tracked but at d is as it was -/
def SameBut (d : Addr) (H H' : Hp) : Prop := ∀ b o, H b = some o → b ≠ d → H' b = some o
theorem SameBut.put {d : Addr} {H H' : Hp} {o : HO} (h : SameBut d H H') : SameBut d H (upd H' d o) := fun b u e n => by rw [upd_ne n]; exact h b u e n
theorem SameBut.new {d p : Addr} {H H' : Hp} {o : HO} (h : SameBut d H H') (hp : H' p = none) : SameBut d H (upd H' p o) := fun b u e n => by
  rw [upd_ne (ne_of_none (h b u e n) hp)]
  exact h b u e n
theorem SameBut.refl {d : Addr} {H : Hp} : SameBut d H H := fun _ _ e _ => e
theorem PenAt.new {H : Hp} {d c q : Addr} {s r : Int} {cells : List Int} {o : HO} (p : PenAt H d c s r cells) (hq : H q = none) : PenAt (upd H q o) d c s r cells :=
  ⟨by rw [upd_ne (ne_of_none p.dc hq)]; exact p.dc, by rw [upd_ne (ne_of_none p.ls hq)]; exact p.ls⟩
def spPen (K : PySem.W.Frag) : Sp := fun vs H Q _ => ∃ (a : Addr) (ns : List Int), vs = [.ref a] ∧ SqL K H a (ns.map V.int) ∧ ns.length ≤ 63 ∧
  ∀ (d c : Addr) (H' : Hp), H d = none → H c = none → Same H H' → PenAt H' d c 0 0 ns → Q (.ref d) H'
def spDraw : Sp := fun vs H Q _ => ∃ (d c : Addr) (s r many : Int) (cells : List Int), vs = [.ref d, .int many] ∧ PenAt H d c s r cells ∧ 0 ≤ s ∧ s ≤ 100000 ∧ cells.length ≤ 63 ∧ 0 < many ∧ many < 2 ^ 30 ∧
  ∀ (n s' r' : Int) (H' : Hp), 0 ≤ n → n < many → 0 ≤ s' → s' ≤ s + 1 → PenAt H' d c s' r' cells → SameBut d H H' → Q (.int n) H'
theorem dp_ints {K : PySem.W.Frag} {H : Hp} : ∀ ns : List Int, DpAll K H (ns.map V.int) (ns.map PyData.int)
  | [] => .nil
  | n :: r => .cons (.int n) (dp_ints r)
theorem at_mod {cells : List Int} (h : 0 < cells.length) (s : Int) : ∃ x, atI (cells.map V.int) (s % ((cells.map V.int).length : Int)) = some (.int x) := by
  have a1 := Int.emod_nonneg s (show ((cells.map V.int).length : Int) ≠ 0 by rw [List.length_map]; omega)
  have a2 := Int.emod_lt_of_pos s (show (0 : Int) < ((cells.map V.int).length : Int) by rw [List.length_map]; omega)
  rw [List.length_map] at a1 a2
  rw [List.length_map, show s % (cells.length : Int) = (((s % (cells.length : Int)).toNat : Nat) : Int) by omega]
  have a3 : (s % (cells.length : Int)).toNat < cells.length := by omega
  exact ⟨cells[(s % (cells.length : Int)).toNat], atI_nat (by rw [List.getElem?_map, List.getElem?_eq_getElem a3]; rfl)⟩
theorem modb (a : Int) {m : Int} (h : 0 < m) (h2 : m < 2 ^ 64) : -(2 ^ 64) < a % m ∧ a % m < 2 ^ 64 := by
  have x := Int.emod_nonneg a (show m ≠ 0 by omega)
  have y := Int.emod_lt_of_pos a h
  omega
def spPick : Sp := fun vs H Q _ => ∃ (d c l : Addr) (s r : Int) (cells : List Int) (xs : List V), vs = [.ref d, .ref l] ∧ PenAt H d c s r cells ∧ 0 ≤ s ∧ s ≤ 100000 ∧ cells.length ≤ 63 ∧ H l = some (.lst xs) ∧ 0 < xs.length ∧ xs.length ≤ 1000 ∧
  ∀ (v : V) (s' r' : Int) (H' : Hp), v ∈ xs → 0 ≤ s' → s' ≤ s + 1 → PenAt H' d c s' r' cells → SameBut d H H' → Q v H'
/-- a pair of integers at t -/
def Pair (H : Hp) (t : Addr) (p : Int × Int) : Prop := H t = some (.tup [.int p.1, .int p.2])
/-- a new pair -/
def NewP (H : Hp) (Q : VK) (p : Int × Int) : Prop := ∀ (t : Addr) (H' : Hp), H t = none → Same H H' → Pair H' t p → Q (.ref t) H'
theorem NewP.at {H : Hp} {Q : VK} {p : Int × Int} (h : NewP H Q p) (t : Addr) (ht : H t = none) : Q (.ref t) (upd H t (.tup [.int p.1, .int p.2])) := h t _ ht (Same.new (fun _ _ e => e) ht) upd_same
def spWide : Sp := fun vs H Q _ => ∃ (d c : Addr) (s r : Int) (m : Nat) (cells : List Int), vs = [.ref d, .int m] ∧ PenAt H d c s r cells ∧ 0 ≤ s ∧ s + m ≤ 100000 ∧ cells.length ≤ 63 ∧ m ≤ 100 ∧
  ∀ (n s' r' : Int) (H' : Hp), 0 ≤ n → n < 10 ^ (7 * m) → 0 ≤ s' → s' ≤ s + m → PenAt H' d c s' r' cells → SameBut d H H' → Q (.int n) H'
def spGcd : Sp := fun vs H Q _ => ∃ a b : Int, vs = [.int a, .int b] ∧ Q (.int ((Nat.gcd a.natAbs b.natAbs : Nat) : Int)) H
def spLowest : Sp := fun vs H Q _ => ∃ a b : Int, vs = [.int a, .int b] ∧ b ≠ 0 ∧ Sz b ∧ NewP H Q (low a b)
def gcdM (σ : L2.St) (_ : Hp) : Nat := match (σ[1]? : Option (Option V)) with
  | some (some (V.int l)) => l.toNat
  | _ => 0
theorem euclid {m n : Nat} : Nat.gcd n (m % n) = Nat.gcd m n := by
  rw [Nat.gcd_comm n (m % n), ← Nat.gcd_rec, Nat.gcd_comm]

theorem abs_cast (e : Int) : (if e < 0 then -e else e) = ((e.natAbs : Nat) : Int) := by split <;> omega
end K03
end
section
set_option maxHeartbeats 4000000
namespace K03
open PySem PySem.Spec PyProof.Rows L2 LamX NdefX L3
section
variable {P : Program} {w : World} {K : PySem.W.Frag} {mg : Str → Option Value} {base : Heap}
end
end K03
end
section
set_option maxHeartbeats 4000000
set_option exponentiation.threshold 100000
namespace K03
open PySem PySem.Spec PyProof.Rows L2 LamX NdefX L3
section
variable {P : Program} {w : World} {K : PySem.W.Frag} {mg : Str → Option Value} {base : Heap} {cB cN C fI : Addr}
end
end K03
end
section
set_option maxHeartbeats 4000000
namespace K03
/-- in lowest terms, the lower one from 1 on -/
structure Low (p : Int × Int) : Prop where
  pos : 0 < p.2
  co : Nat.Coprime p.1.natAbs p.2.natAbs
theorem shr_dvd_l {t b : Int} : shr t b ∣ t := by
  unfold shr
  split
  · exact Int.neg_dvd.mpr (Int.ofNat_dvd_left.mpr (Nat.gcd_dvd_left _ _))
  · exact Int.ofNat_dvd_left.mpr (Nat.gcd_dvd_left _ _)
theorem shr_dvd_r {t b : Int} : shr t b ∣ b := by
  unfold shr
  split
  · exact Int.neg_dvd.mpr (Int.ofNat_dvd_left.mpr (Nat.gcd_dvd_right _ _))
  · exact Int.ofNat_dvd_left.mpr (Nat.gcd_dvd_right _ _)
theorem shr_abs {t b : Int} : (shr t b).natAbs = Nat.gcd t.natAbs b.natAbs := by
  unfold shr
  split <;> simp
theorem low_l {t b : Int} (h : b ≠ 0) : t = shr t b * (low t b).1 := by
  show t = shr t b * t.fdiv (shr t b)
  rw [Int.fdiv_eq_ediv_of_dvd shr_dvd_l, Int.mul_ediv_cancel' shr_dvd_l]
theorem low_r {t b : Int} (h : b ≠ 0) : b = shr t b * (low t b).2 := by
  show b = shr t b * b.fdiv (shr t b)
  rw [Int.fdiv_eq_ediv_of_dvd shr_dvd_r, Int.mul_ediv_cancel' shr_dvd_r]
theorem low_pos {t b : Int} (h : b ≠ 0) : 0 < (low t b).2 := by
  have e := low_r (t := t) h
  have g : 0 < Nat.gcd t.natAbs b.natAbs := Nat.gcd_pos_of_pos_right _ (by omega)
  by_cases hb : b < 0
  · have hs : shr t b < 0 := by unfold shr; rw [if_pos hb]; omega
    refine Int.not_le.mp fun hn => ?_
    have := Int.mul_nonneg_of_nonpos_of_nonpos (Int.le_of_lt hs) hn
    omega
  · have hs : 0 < shr t b := by unfold shr; rw [if_neg hb]; omega
    refine Int.not_le.mp fun hn => ?_
    have := Int.mul_nonpos_of_nonneg_of_nonpos (Int.le_of_lt hs) hn
    omega
theorem low_low {t b : Int} (h : b ≠ 0) : Low (low t b) := by
  refine ⟨low_pos h, ?_⟩
  have g : 0 < Nat.gcd t.natAbs b.natAbs := Nat.gcd_pos_of_pos_right _ (by omega)
  have e1 : t.natAbs = Nat.gcd t.natAbs b.natAbs * (low t b).1.natAbs := by
    rw [← shr_abs, ← Int.natAbs_mul, ← low_l h]
  have e2 : b.natAbs = Nat.gcd t.natAbs b.natAbs * (low t b).2.natAbs := by
    rw [← shr_abs, ← Int.natAbs_mul, ← low_r h]
  have e3 : Nat.gcd t.natAbs b.natAbs = Nat.gcd t.natAbs b.natAbs * Nat.gcd (low t b).1.natAbs (low t b).2.natAbs := by
    rw [← Nat.gcd_mul_left, ← e1, ← e2]
  exact Nat.eq_of_mul_eq_mul_left g (by rw [← e3, Nat.mul_one])
/-- the lowest terms are told by the worth -/
theorem Low.uniq {p q : Int × Int} (hp : Low p) (hq : Low q) (h : p.1 * q.2 = q.1 * p.2) : p = q := by
  have hn : p.1.natAbs * q.2.natAbs = q.1.natAbs * p.2.natAbs := by rw [← Int.natAbs_mul, ← Int.natAbs_mul, h]
  have d1 : p.2.natAbs ∣ q.2.natAbs := (Nat.Coprime.symm hp.co).dvd_of_dvd_mul_left (by rw [hn]; exact Nat.dvd_mul_left _ _)
  have d2 : q.2.natAbs ∣ p.2.natAbs := (Nat.Coprime.symm hq.co).dvd_of_dvd_mul_left (by rw [← hn]; exact Nat.dvd_mul_left _ _)
  have e : p.2.natAbs = q.2.natAbs := Nat.dvd_antisymm d1 d2
  have e2 : p.2 = q.2 := by have := hp.pos; have := hq.pos; omega
  have e1 : p.1 = q.1 := by
    rw [e2] at h
    exact Int.eq_of_mul_eq_mul_right (by have := hq.pos; omega) h
  exact Prod.ext e1 e2
theorem low_cross {t b : Int} (h : b ≠ 0) : (low t b).1 * b = t * (low t b).2 := by
  have h1 := low_l (t := t) h
  have h2 := low_r (t := t) h
  calc (low t b).1 * b = (low t b).1 * (shr t b * (low t b).2) := by rw [← h2]
    _ = (shr t b * (low t b).1) * (low t b).2 := by rw [← Int.mul_assoc, Int.mul_comm (low t b).1]
    _ = t * (low t b).2 := by rw [← h1]
theorem low_of {t b : Int} {q : Int × Int} (h : b ≠ 0) (hq : Low q) (e : t * q.2 = q.1 * b) : low t b = q := by
  refine (low_low h).uniq hq ?_
  have c := low_cross (t := t) h
  have : (low t b).1 * q.2 * b = q.1 * (low t b).2 * b := by
    calc (low t b).1 * q.2 * b = ((low t b).1 * b) * q.2 := by rw [Int.mul_right_comm]
      _ = (t * (low t b).2) * q.2 := by rw [c]
      _ = (t * q.2) * (low t b).2 := by rw [Int.mul_right_comm]
      _ = (q.1 * b) * (low t b).2 := by rw [e]
      _ = q.1 * (low t b).2 * b := by rw [Int.mul_right_comm]
  exact Int.eq_of_mul_eq_mul_right h this
/-- what is in lowest terms stays -/
theorem low_self {p : Int × Int} (h : Low p) : low p.1 p.2 = p := low_of (by have := h.pos; omega) h (by rw [Int.mul_comm])
end K03
end
section
set_option maxHeartbeats 4000000
namespace K03
open PySem PySem.Spec PyProof.Rows L2 LamX NdefX L3
section
variable {P : Program} {w : World} {K : PySem.W.Frag} {mg : Str → Option Value} {base : Heap} {cB cN C fI fD fP fQ : Addr} {fdD fdP fdQ : FuncData}
end
end K03
end
section
set_option maxHeartbeats 4000000
namespace K03
open PySem PySem.Spec PyProof.Rows L2
/-- the pairs that are dealt with -/
structure Fit (p : Int × Int) : Prop where
  t : p.1.natAbs < 2 ^ 4000
  pos : 0 < p.2
  b : p.2.natAbs < 2 ^ 4000
def padd (p q : Int × Int) : Int × Int := low (p.1 * q.2 + q.1 * p.2) (p.2 * q.2)
def pmul (p q : Int × Int) : Int × Int := low (p.1 * q.1) (p.2 * q.2)
theorem lkT {u v : V} : ([("top", u), ("bottom", v)] : List (Str × V)).lookup ("top" : Str) = some u := by simp [List.lookup]
theorem lkBt {u v : V} : ([("top", u), ("bottom", v)] : List (Str × V)).lookup ("bottom" : Str) = some v := by
  have e : (("bottom" : Str) == "top") = false := by decide +kernel
  simp [List.lookup, e]
theorem NewR.same {C : Addr} {H H' : Hp} {Q : VK} {q : Int × Int} (h : NewR C H Q q) (s : Same H H') : NewR C H' Q q := fun a dx H'' ha s2 e => h a dx H'' (by
  cases z : H a with
  | none => rfl
  | some o => rw [s _ _ z] at ha; cases ha) (s.trans s2) e
theorem as_of {K : PySem.W.Frag} {C cB : Addr} {H : Hp} {E : XK} {v : V} {Q0 : VK} {ok : Int × Int → Prop} (k : Stands K C cB H E v (fun _ q => ok q) fun t => ok (t, 1))
    (c : ∀ (b dy : Addr) (q : Int × Int) (H1 : Hp), Same H H1 → H1 b = some (rat C dy q) → ok q → Q0 (.ref b) H1) : spAs K C cB [v] H Q0 E := by
  refine ⟨v, rfl, ?_⟩
  cases k with
  | rat a dx q hv e k => exact .rat a dx q hv e (by rw [hv]; exact c a dx q H (fun _ _ z => z) e k)
  | int t hv k => exact .int t hv fun a dx H' ha s e => c a dx _ H' s e k
  | odd o k => exact .odd o k
theorem sz_mul {i j : Int} (hi : i.natAbs < 2 ^ 4000) (hj : j.natAbs < 2 ^ 4000) : CMulW i j := wide_mul hi hj (by decide) (by decide) (by decide)
theorem sz_mulB {i j : Int} (hi : i.natAbs < 2 ^ 4000) (hj : j.natAbs < 2 ^ 4000) : Sz (i * j) :=
  Nat.lt_of_lt_of_le (wide_lt hi hj) (Nat.pow_le_pow_right (by decide) (by decide))
abbrev sAdd : Stmt := inClass (top 30) 2
abbrev sNeg : Stmt := inClass (top 30) 8
def spBin (K : PySem.W.Frag) (C cB : Addr) (f : Int × Int → Int × Int → Int × Int) : Sp := fun vs H Q E => ∃ (a dx : Addr) (v : V) (p : Int × Int), vs = [.ref a, v] ∧ H a = some (rat C dx p) ∧ Fit p ∧
  Stands K C cB H E v (fun _ q => Fit q ∧ NewR C H Q (f p q)) fun t => Fit (t, 1) ∧ NewR C H Q (f p (t, 1))
section
variable {P : Program} {w : World} {K : PySem.W.Frag} {mg : Str → Option Value} {base : Heap} {cB cN C fI fo : Addr} {fdo : FuncData}
theorem scAdd : FnScope ["self", "other", "right"] ["self", "other"] (defScope sAdd) := ⟨rfl, rfl, rfl, by decide +kernel, rfl, by decide +kernel, by decide +kernel⟩
theorem ok_add {f : Addr} {fd : FuncData} (F : Fun K "__add__" "Ratio.__add__" sAdd f fd) (R : Rat P w K mg base cB cN C fI) (Go : FnOk P w K mg base (L2.CX P w) 7 fo fdo ["other"] (spOpd K C cB)) (go : mg "operand" = some (.ref fo)) (ko : PySem.W.keepIn K (.ref fo) = true) (bo : Binds K fdo ["other"] []) :
    FnOk P w K mg base (L2.CX P w) 8 f fd ["self", "other"] (spBin K C cB padd) := by
  refine F.okX scAdd (fun vs H Q E h => ?_) (fun cdv A outer s H vs Q E hr h => ?_)
  · obtain ⟨a, dx, v, p, rfl, _⟩ := h
    rfl
  · obtain ⟨a, dx, v, p, rfl, ha, fp, k⟩ := h
    have nd := scAdd.nd
    have hr5 : Room 5 _ := hr.mono (by decide)
    refine ⟨_, pss_cons (ps_set (i := 2) nd rfl (Or.inl rfl) (pe_opR (E := E) R Go go ko bo hr (passK (takes_of rfl rfl rfl rfl)) (fun _ => pv 1)))
      (pss_cons (ps_if (pt_cmpR op_isN (pv 2) pe_non (nomark _)) (pss_one ps_never) pss_nil)
      (pss_one (ps_ret (pe_rat2 (E := E) R hr5 (passK (takes_of rfl rfl rfl rfl)) (pe_op op_add (pe_op op_mulW (pe_fld (pv 0) rfl) (pe_fld (pv 2) rfl)) (pe_op op_mulW (pe_fld (pv 2) rfl) (pe_fld (pv 0) rfl))) (pe_op op_mulW (pe_fld (pv 0) rfl) (pe_fld (pv 2) rfl)))))), ?_⟩
    refine ⟨_, rfl, as_of k fun b dy q H1 s1 e ⟨fq, q1⟩ => ?_⟩
    refine ⟨_, rfl, rfl, _, rfl, ?_⟩
    show ite _ _ _
    rw [if_neg (by simp)]
    refine ⟨_, rfl, a, C, dx, _, _, rfl, s1 _ _ ha, R.cls.c, R.cls.nT, lkT, _, rfl, b, C, dy, _, _, rfl, e, R.cls.c, R.cls.nB, lkBt, _, _, rfl, rfl, sz_mul fp.t fq.b, ?_⟩
    refine ⟨_, rfl, b, C, dy, _, _, rfl, e, R.cls.c, R.cls.nT, lkT, _, rfl, a, C, dx, _, _, rfl, s1 _ _ ha, R.cls.c, R.cls.nB, lkBt, _, _, rfl, rfl, sz_mul fq.t fp.b, _, _, rfl, rfl, ?_⟩
    refine ⟨_, rfl, a, C, dx, _, _, rfl, s1 _ _ ha, R.cls.c, R.cls.nB, lkBt, _, rfl, b, C, dy, _, _, rfl, e, R.cls.c, R.cls.nB, lkBt, _, _, rfl, rfl, sz_mul fp.b fq.b, ?_⟩
    exact .good _ _ rfl rfl (Int.ne_of_gt (Int.mul_pos fp.pos fq.pos)) (sz_mulB fp.b fq.b) (q1.same s1)
end
end K03
end
section
set_option maxHeartbeats 4000000
namespace K03
open PySem PySem.Spec PyProof.Rows L2 LamX NdefX L3
section
variable {P : Program} {w : World} {K : PySem.W.Frag} {mg : Str → Option Value} {base : Heap} {cB cN C fI : Addr}
end
end K03
end
section
set_option maxHeartbeats 4000000
namespace K03
open PySem PySem.Spec PyProof.Rows L2 LamX NdefX L3
section
variable {P : Program} {w : World} {K : PySem.W.Frag} {mg : Str → Option Value} {base : Heap} {fN : Addr} {fdN : FuncData}
end
end K03
end
section
set_option maxHeartbeats 4000000
namespace K03
open PySem PySem.Spec PyProof.Rows L2 LamX NdefX L3
section
variable {P : Program} {w : World} {K : PySem.W.Frag} {mg : Str → Option Value} {base : Heap} {cB cN C fI fD fT fo : Addr} {fdD fdT fdo : FuncData}
end
end K03
end
section
set_option maxHeartbeats 4000000
namespace K03
open PySem PySem.Spec PyProof.Rows L2 LamX NdefX L3
section
variable {P : Program} {w : World} {K : PySem.W.Frag} {mg : Str → Option Value} {base : Heap} {C fo : Addr} {fdo : FuncData}
end
end K03
end
section
set_option maxHeartbeats 4000000
namespace K03
open PySem PySem.Spec PyProof.Rows L2 LamX NdefX L3
section
variable {P : Program} {w : World} {K : PySem.W.Frag} {mg : Str → Option Value} {base : Heap}
end
end K03
end
section
set_option maxHeartbeats 4000000
namespace K03
open PySem PySem.Spec PyProof.Rows L2 LamX NdefX L3
/-- lc_mapR as a reading -/
theorem lc_mapT {j n : Nat} {β : Type} {bs : List β} {Rr : Addr → Hp → V → β → Prop} {σ : L2.St} {H : Hp} {te : TE} {ta : TA} {Q : VK} (hr : ∀ R : It → Hp → Prop, R (Itr 0 n) H → iRng1 ta σ H R) (few : n ≤ sizeLine) (hl : n = bs.length)
    (same : ∀ (D : Addr) (H H' : Hp) (y : V) (b : β), Rr D H y b → Same H H' → Rr D H' y b) (grow : ∀ (D : Addr) (H : Hp) (rs ys : List V) (y : V) (b : β), H D = some (.lst rs) → Rr D H y b → Rr D (upd H D (.lst ys)) y b)
    (step : ∀ (D : Addr) (k : Nat) (b : β) (H2 : Hp) (rs : List V) (Kc : VK), k < n → bs[k]? = some b → Same H H2 → H2 D = some (.lst rs) → (∀ (y : V) (H3 : Hp), Same H2 H3 → Rr D H3 y b → Kc y H3) → te ((wipe σ [j]).set j (some (.int (0 + k)))) H2 Kc)
    (fin : ∀ (D : Addr) (ws : List V) (H5 : Hp), H D = none → Same H H5 → H5 D = some (.lst ws) → Paired (Rr D H5) ws bs → Q (.ref D) H5) : tLc (iRng1 ta) (gName j) tYes te [j] σ H Q :=
  hr _ fun D nD => lc_mapR few hl same grow step fin D nD
section
variable {P : Program} {w : World} {K : PySem.W.Frag} {mg : Str → Option Value} {base : Heap}
end
end K03
end
section
set_option maxHeartbeats 4000000
namespace K03
open PySem PySem.Spec PyProof.Rows L2 LamX NdefX L3
/-- [e for x in a list] -/
theorem lc_mapL {K : PySem.W.Frag} {j : Nat} {a : Addr} {xs : List V} {β : Type} {bs : List β} {Rr : Addr → Hp → V → β → Prop} {σ : L2.St} {H : Hp} {te tv : TE} {Q : VK}
    (hv : ∀ R : VK, R (.ref a) H → tv σ H R) (sq : SqL K H a xs) (few : xs.length ≤ sizeLine) (hl : xs.length = bs.length)
    (same : ∀ (D : Addr) (H H' : Hp) (y : V) (b : β), Rr D H y b → Same H H' → Rr D H' y b) (grow : ∀ (D : Addr) (H : Hp) (rs ys : List V) (y : V) (b : β), H D = some (.lst rs) → Rr D H y b → Rr D (upd H D (.lst ys)) y b)
    (step : ∀ (D : Addr) (k : Nat) (x : V) (b : β) (H2 : Hp) (rs : List V) (Kc : VK), xs[k]? = some x → bs[k]? = some b → Same H H2 → H2 D = some (.lst rs) → (∀ (y : V) (H3 : Hp), Same H2 H3 → Rr D H3 y b → Kc y H3) → te ((wipe σ [j]).set j (some x)) H2 Kc)
    (fin : ∀ (D : Addr) (ws : List V) (H5 : Hp), H D = none → Same H H5 → H5 D = some (.lst ws) → Paired (Rr D H5) ws bs → Q (.ref D) H5) :
    tLc (iList K tv) (gName j) tYes te [j] σ H Q := by
  refine hv _ ⟨a, rfl, ⟨xs, sq⟩, fun D nD => ?_⟩
  refine lc_list (K := K) (a := a) (xs := xs) (fun i H2 => Same H H2 ∧ ∃ ws, H2 D = some (.lst ws) ∧ Paired (Rr D H2) ws (bs.take i)) ⟨Same.new (fun _ _ e => e) nD, [], upd_same, .nil⟩ (fun i H2 _ p => p.1.seq sq) ?_ ?_
  · rintro i x H2 hx ⟨s2, ws, hD, pw⟩
    have li : i < xs.length := (List.getElem?_eq_some_iff.mp hx).1
    have hb : bs[i]? = some bs[i] := List.getElem?_eq_getElem (by omega)
    have lw : ws.length = i := by
      rw [paired_len pw, List.length_take]
      omega
    refine ⟨wipe_back, ?_⟩
    refine yes_if (a := fun H4 => te _ H4 _) ?_
    refine step D i x _ H2 ws _ hx hb s2 hD fun y H3 s3 ry => ?_
    have hD3 := s3 _ _ hD
    refine ⟨ws, hD3, by omega, same_grow nD (s2.trans s3), ws ++ [y], upd_same, ?_⟩
    rw [take_snoc hb]
    exact (Paired.mapP pw fun v b z => grow D H3 ws (ws ++ [y]) v b hD3 (same D H2 H3 v b z s3)).snoc (grow D H3 ws (ws ++ [y]) y _ hD3 ry)
  · rintro H5 ⟨s5, ws, hD, pw⟩
    rw [hl, List.take_length] at pw
    exact fin D ws H5 nD s5 hD pw
section
variable {P : Program} {w : World} {K : PySem.W.Frag} {mg : Str → Option Value} {base : Heap}
end
end K03
end
section
set_option maxHeartbeats 4000000
set_option exponentiation.threshold 100000
namespace L3
open PySem PySem.Spec PyProof.Rows L2
/-- a list that was made here is changed: all that was told stays -/
theorem same_put {H G : Hp} {a : Addr} {o : HO} (s : Same H G) (h : H a = none) : Same H (upd G a o) := fun b u e => by
  rw [upd_ne (ne_of_none e h)]
  exact s b u e
def rLcm : List V → Hp → VK → Prop := fun vs H Q => ∃ a b : Int, vs = [.int a, .int b] ∧ a.natAbs < 2 ^ 9000 ∧ b.natAbs < 2 ^ 9000 ∧ Q (.int ((Nat.lcm a.natAbs b.natAbs : Nat) : Int)) H
theorem log_lt {n k : Nat} (h : n < 2 ^ (k + 1)) : n.log2 ≤ k := by
  by_cases h0 : n = 0
  · subst h0
    rw [Nat.log2_zero]
    exact Nat.zero_le _
  · exact Nat.le_of_lt_succ ((Nat.log2_lt h0).mpr h)
theorem cr_lcm {X : Cx} : CallR X (.builtin "math.lcm") rLcm := by
  intro pins s σ H vs us Q I r h
  obtain ⟨a, b, rfl, ha, hb, q⟩ := h
  obtain ⟨t, u, rfl⟩ := Vals.int2 r
  have e1 : Nat.lcm 1 a.natAbs = a.natAbs := by unfold Nat.lcm; simp
  have l1 : a.natAbs.log2 ≤ 8999 := log_lt (k := 8999) ha
  have l2 : b.natAbs.log2 ≤ 8999 := log_lt (k := 8999) hb
  have m1 : (max 1 a.natAbs).log2 ≤ 8999 := by
    rcases Nat.le_total 1 a.natAbs with h | h
    · rw [Nat.max_eq_right h]; exact l1
    · rw [Nat.max_eq_left h]; decide
  have m2 : (max a.natAbs b.natAbs).log2 ≤ 8999 := by
    rcases Nat.le_total a.natAbs b.natAbs with h | h
    · rw [Nat.max_eq_right h]; exact l2
    · rw [Nat.max_eq_left h]; exact l1
  have sz : ((((Nat.lcm 1 a.natAbs).lcm b.natAbs : Nat) : Int)).natAbs.log2 < bitsLine := by
    rw [e1, Int.natAbs_natCast]
    have le : Nat.lcm a.natAbs b.natAbs ≤ a.natAbs * b.natAbs := by
      unfold Nat.lcm
      exact Nat.div_le_self _ _
    have lt : Nat.lcm a.natAbs b.natAbs < 2 ^ (17999 + 1) := Nat.lt_of_le_of_lt le (by
      have : a.natAbs * b.natAbs ≤ (2 ^ 9000 - 1) * (2 ^ 9000 - 1) := Nat.mul_le_mul (Nat.le_sub_one_of_lt ha) (Nat.le_sub_one_of_lt hb)
      refine Nat.lt_of_le_of_lt this ?_
      rw [show 17999 + 1 = 9000 + 9000 from rfl, Nat.pow_add]
      exact Nat.mul_lt_mul'' (Nat.sub_lt (Nat.pow_pos (by decide)) (by decide)) (Nat.sub_lt (Nat.pow_pos (by decide)) (by decide)))
    exact Nat.lt_of_le_of_lt (log_lt lt) (by decide)
  have g := PySem.W.mg_run_lcm a t b u (by omega) (by omega) sz
  refine call_function_meets PySem.W.MGF.kind_lcm PySem.W.MGF.plain_lcm PySem.W.MGF.entry_lcm (PySem.W.MGF.args_lcm _ _) g.meets ?_
  rw [e1]
  exact ⟨.int _, H, I.tok _, ⟨_, rfl⟩, q⟩
/-- the last item -/
theorem at_last {α : Type} {xs : List α} {v : α} (h : xs.getLast? = some v) : atI xs (-1) = some v := by
  obtain ⟨ys, rfl⟩ := List.getLast?_eq_some_iff.mp h
  exact atI_last ys v
/-- a while whose turns are counted down by what the invariant tells -/
theorem while_at {c : TT} {tb : TS} {D : Ends} {σ : L2.St} {H : Hp} (Pv : Nat → L2.St → Hp → Prop) (m0 : Nat) (h0 : Pv m0 σ H)
    (hs : ∀ m σ H, Pv m σ H → c σ H fun b H1 => if b = true then ∃ N : L2.St → Hp → Prop, (∀ σ' H', N σ' H' → ∃ m', m' < m ∧ Pv m' σ' H') ∧ tb { D with nx := N, ct := N, bk := D.nx } σ H1 else D.nx σ H1) : tWhile c tb D σ H := ⟨Pv, ⟨m0, h0⟩, hs⟩
end L3
end
section
/-! polys over the rationals, told by their parts -/
namespace PolyM
def sm (f : Nat → Rat) : Nat → Rat
  | 0 => 0
  | n + 1 => sm f n + f n
theorem sm_congr {f g : Nat → Rat} : ∀ {n : Nat}, (∀ i, i < n → f i = g i) → sm f n = sm g n
  | 0, _ => rfl
  | n + 1, h => by
    show sm f n + f n = sm g n + g n
    rw [sm_congr fun i hi => h i (Nat.lt_succ_of_lt hi), h n (Nat.lt_succ_self n)]
theorem sm_add {f g : Nat → Rat} : ∀ n : Nat, sm (fun i => f i + g i) n = sm f n + sm g n
  | 0 => by show (0 : Rat) = 0 + 0; grind
  | n + 1 => by
    show sm (fun i => f i + g i) n + (f n + g n) = (sm f n + f n) + (sm g n + g n)
    rw [sm_add n]
    grind
theorem sm_mul {f : Nat → Rat} {c : Rat} : ∀ n : Nat, sm (fun i => c * f i) n = c * sm f n
  | 0 => by show (0 : Rat) = c * 0; grind
  | n + 1 => by
    show sm (fun i => c * f i) n + c * f n = c * (sm f n + f n)
    rw [sm_mul n]
    grind
theorem sm_none {f : Nat → Rat} : ∀ {n : Nat}, (∀ i, i < n → f i = 0) → sm f n = 0
  | 0, _ => rfl
  | n + 1, h => by
    show sm f n + f n = 0
    rw [sm_none fun i hi => h i (Nat.lt_succ_of_lt hi), h n (Nat.lt_succ_self n)]
    grind
theorem sm_one {f : Nat → Rat} {j : Nat} : ∀ {n : Nat}, j < n → (∀ i, i < n → i ≠ j → f i = 0) → sm f n = f j
  | 0, hj, _ => absurd hj (Nat.not_lt_zero _)
  | n + 1, hj, h => by
    show sm f n + f n = f j
    by_cases e : j = n
    · subst e
      rw [sm_none fun i hi => h i (Nat.lt_succ_of_lt hi) (Nat.ne_of_lt hi)]
      grind
    · rw [sm_one (by omega) fun i hi ne => h i (Nat.lt_succ_of_lt hi) ne, h n (Nat.lt_succ_self n) (fun z => e z.symm)]
      grind
/-- the parts of a product -/
def conv (a b : Nat → Rat) (k : Nat) : Rat := sm (fun i => a i * b (k - i)) (k + 1)
theorem conv_congr {a a' b b' : Nat → Rat} (ha : ∀ i, a i = a' i) (hb : ∀ i, b i = b' i) (k : Nat) : conv a b k = conv a' b' k := sm_congr fun i _ => by rw [ha, hb]
theorem conv_add (a a' b : Nat → Rat) (k : Nat) : conv (fun i => a i + a' i) b k = conv a b k + conv a' b k := by
  unfold conv
  rw [← sm_add]
  exact sm_congr fun i _ => by grind
theorem conv_mul (c : Rat) (a b : Nat → Rat) (k : Nat) : conv (fun i => c * a i) b k = c * conv a b k := by
  unfold conv
  rw [← sm_mul]
  exact sm_congr fun i _ => by grind
theorem conv_mulR (c : Rat) (a b : Nat → Rat) (k : Nat) : conv a (fun i => c * b i) k = c * conv a b k := by
  unfold conv
  rw [← sm_mul]
  exact sm_congr fun i _ => by grind
theorem conv_none (b : Nat → Rat) (k : Nat) : conv (fun _ => 0) b k = 0 := sm_none fun i _ => by grind
theorem conv_at (c : Rat) (p : Nat) (b : Nat → Rat) (k : Nat) : conv (fun i => if i = p then c else 0) b k = if p ≤ k then c * b (k - p) else 0 := by
  unfold conv
  by_cases h : p ≤ k
  · rw [if_pos h, sm_one (j := p) (by omega) fun i _ ne => by
      show (if i = p then c else 0) * b (k - i) = 0
      rw [if_neg ne]; grind]
    show (if p = p then c else 0) * b (k - p) = c * b (k - p)
    rw [if_pos rfl]
  · rw [if_neg h]
    refine sm_none fun i hi => ?_
    show (if i = p then c else 0) * b (k - i) = 0
    rw [if_neg (by omega)]; grind
theorem conv_top {a b : Nat → Rat} {m n : Nat} (ha : ∀ i, m < i → a i = 0) (hb : ∀ j, n < j → b j = 0) : conv a b (m + n) = a m * b n := by
  unfold conv
  rw [sm_one (j := m) (by omega) fun i hi ne => ?_]
  · rw [show m + n - m = n by omega]
  · by_cases h : m < i
    · rw [ha i h]; grind
    · rw [hb (m + n - i) (by omega)]; grind
/-- a quotient and a rest are told by their poly -/
theorem div_one {q q' r r' b : Nat → Rat} {n N : Nat} (hb : ∀ j, n < j → b j = 0) (hn : b n ≠ 0) (hq : ∀ i, N ≤ i → q i = 0) (hq' : ∀ i, N ≤ i → q' i = 0) (hr : ∀ k, n ≤ k → r k = 0) (hr' : ∀ k, n ≤ k → r' k = 0)
    (h : ∀ k, conv q b k + r k = conv q' b k + r' k) : (∀ i, q i = q' i) ∧ ∀ k, r k = r' k := by
  have e : ∀ k, conv (fun i => q i + (-1) * q' i) b k = r' k - r k := fun k => by
    rw [conv_add, conv_mul]
    have := h k
    grind
  have down : ∀ d m, m + d = N → ∀ i, m ≤ i → q i + (-1) * q' i = 0 := by
    intro d
    induction d with
    | zero =>
      intro m hm i hi
      rw [hq i (by omega), hq' i (by omega)]
      grind
    | succ d ih =>
      intro m hm i hi
      have up := ih (m + 1) (by omega)
      by_cases c : m + 1 ≤ i
      · exact up i c
      · have : i = m := by omega
        subst this
        have t := conv_top (a := fun i => q i + (-1) * q' i) (m := i) (fun j hj => up j hj) hb
        rw [e, hr' _ (by omega), hr _ (by omega)] at t
        have z : (q i + (-1) * q' i) * b n = 0 := by grind
        grind
  have same : ∀ i, q i = q' i := fun i => by
    have := down N 0 (by omega) i (Nat.zero_le _)
    grind
  refine ⟨same, fun k => ?_⟩
  have := h k
  rw [conv_congr (b' := b) same (fun _ => rfl)] at this
  grind
end PolyM
end
section
set_option maxHeartbeats 4000000
namespace K03
open PolyM
/-! pairs and lists of pairs as rationals and polys -/
def val (p : Int × Int) : _root_.Rat := (p.1 : _root_.Rat) / (p.2 : _root_.Rat)
theorem cast_ne {b : Int} (h : b ≠ 0) : (b : _root_.Rat) ≠ 0 := fun z => h (by exact_mod_cast z)
theorem val_of {p : Int × Int} {t b : Int} (h : b ≠ 0) (hp : p.2 ≠ 0) (e : p.1 * b = t * p.2) : val p = (t : _root_.Rat) / (b : _root_.Rat) := by
  have h1 := cast_ne h
  have h2 := cast_ne hp
  have e2 : (p.1 : _root_.Rat) * (b : _root_.Rat) = (t : _root_.Rat) * (p.2 : _root_.Rat) := by exact_mod_cast congrArg (fun z : Int => (z : _root_.Rat)) e
  unfold val
  grind
theorem val_low {t b : Int} (h : b ≠ 0) : val (low t b) = (t : _root_.Rat) / (b : _root_.Rat) := val_of h (by have := low_pos (t := t) h; omega) (low_cross h)
theorem val_cross {p q : Int × Int} (hp : p.2 ≠ 0) (hq : q.2 ≠ 0) (e : val p = val q) : p.1 * q.2 = q.1 * p.2 := by
  have h1 := cast_ne hp
  have h2 := cast_ne hq
  unfold val at e
  have e2 : (p.1 : _root_.Rat) * (q.2 : _root_.Rat) = (q.1 : _root_.Rat) * (p.2 : _root_.Rat) := by grind
  exact_mod_cast e2
theorem Low.ne {p : Int × Int} (h : Low p) : p.2 ≠ 0 := by have := h.pos; omega
theorem val_inj {p q : Int × Int} (hp : Low p) (hq : Low q) (e : val p = val q) : p = q := by
  rw [← low_self hp]
  exact low_of hp.ne hq (val_cross hp.ne hq.ne e)
theorem val_zero {p : Int × Int} (hp : Low p) : val p = 0 ↔ p.1 = 0 := by
  have h := cast_ne hp.ne
  unfold val
  constructor
  · intro e
    have : (p.1 : _root_.Rat) = 0 := by grind
    exact_mod_cast this
  · intro e
    rw [e]
    grind
theorem val_add {p q : Int × Int} (hp : Low p) (hq : Low q) : val (padd p q) = val p + val q := by
  have h1 := cast_ne hp.ne
  have h2 := cast_ne hq.ne
  unfold padd
  rw [val_low (Int.mul_ne_zero hp.ne hq.ne)]
  unfold val
  rw [Rat.intCast_add, Rat.intCast_mul, Rat.intCast_mul, Rat.intCast_mul]
  grind
theorem val_mul {p q : Int × Int} (hp : Low p) (hq : Low q) : val (pmul p q) = val p * val q := by
  have h1 := cast_ne hp.ne
  have h2 := cast_ne hq.ne
  unfold pmul
  rw [val_low (Int.mul_ne_zero hp.ne hq.ne)]
  unfold val
  rw [Rat.intCast_mul, Rat.intCast_mul]
  grind
theorem low01 : Low (0, 1) := ⟨by decide, Nat.coprime_one_right _⟩
theorem val01 : val (0, 1) = 0 := (val_zero low01).mpr rfl
/-- part k -/
def cf (ps : List (Int × Int)) (k : Nat) : _root_.Rat := val (ps.getD k (0, 1))
theorem cf_at {ps : List (Int × Int)} {k : Nat} {p : Int × Int} (h : ps[k]? = some p) : cf ps k = val p := by
  unfold cf
  rw [List.getD_eq_getElem?_getD, h]
  rfl
theorem cf_out {ps : List (Int × Int)} {k : Nat} (h : ps.length ≤ k) : cf ps k = 0 := by
  unfold cf
  rw [List.getD_eq_getElem?_getD, List.getElem?_eq_none h]
  exact val01
/-- the parts of a poly: in lowest terms, the last one not 0 -/
structure IsP (ps : List (Int × Int)) : Prop where
  low : ∀ p ∈ ps, Low p
  top : ∀ p, ps.getLast? = some p → p.1 ≠ 0
theorem IsP.nil : IsP [] := ⟨fun _ h => (List.not_mem_nil h).elim, fun _ h => by cases h⟩
theorem IsP.last {ps : List (Int × Int)} (h : IsP ps) (n : ps ≠ []) : cf ps (ps.length - 1) ≠ 0 := by
  have pos := List.length_pos_iff.mpr n
  have e : ps[ps.length - 1]? = some (ps.getLast n) := by rw [List.getLast_eq_getElem, List.getElem?_eq_getElem (by omega)]
  rw [cf_at e]
  intro z
  exact h.top _ (List.getLast?_eq_some_getLast n) ((val_zero (h.low _ (List.getLast_mem n))).mp z)
theorem isP_len {a b : List (Int × Int)} (ha : IsP a) (e : ∀ k, cf a k = cf b k) : a.length ≤ b.length := by
  by_cases n : a = []
  · subst n; exact Nat.zero_le _
  · refine Nat.le_of_not_lt fun h => ?_
    have pos := List.length_pos_iff.mpr n
    have := ha.last n
    rw [e, cf_out (by omega)] at this
    exact this rfl
/-- the parts tell the poly -/
theorem isP_ext {a b : List (Int × Int)} (ha : IsP a) (hb : IsP b) (e : ∀ k, cf a k = cf b k) : a = b := by
  have l := Nat.le_antisymm (isP_len ha e) (isP_len hb fun k => (e k).symm)
  refine List.ext_getElem l fun k h1 h2 => ?_
  have x := e k
  rw [cf_at (List.getElem?_eq_getElem h1), cf_at (List.getElem?_eq_getElem h2)] at x
  exact val_inj (ha.low _ (List.getElem_mem h1)) (hb.low _ (List.getElem_mem h2)) x
/-- m is where the noughts at the end begin -/
structure TrimAt (ps : List (Int × Int)) (m : Nat) : Prop where
  le : m ≤ ps.length
  off : ∀ k p, m ≤ k → ps[k]? = some p → p.1 = 0
  on : ∀ p, 0 < m → ps[m - 1]? = some p → p.1 ≠ 0
theorem TrimAt.isP {ps : List (Int × Int)} {m : Nat} (t : TrimAt ps m) (h : ∀ p ∈ ps, Low p) : IsP (ps.take m) := by
  refine ⟨fun p hp => h p (List.mem_of_mem_take hp), fun p hp => ?_⟩
  rw [List.getLast?_eq_getElem?, List.length_take, Nat.min_eq_left t.le] at hp
  have pos : 0 < m := Nat.pos_of_ne_zero fun z => by subst z; simp at hp
  rw [List.getElem?_take_of_lt (by omega)] at hp
  exact t.on p pos hp
theorem TrimAt.cf {ps : List (Int × Int)} {m : Nat} (t : TrimAt ps m) (h : ∀ p ∈ ps, Low p) (k : Nat) : cf (ps.take m) k = K03.cf ps k := by
  by_cases c : k < m
  · unfold K03.cf
    rw [List.getD_eq_getElem?_getD, List.getD_eq_getElem?_getD, List.getElem?_take_of_lt c]
  · rw [cf_out (by rw [List.length_take]; omega)]
    by_cases d : k < ps.length
    · have e := List.getElem?_eq_getElem d
      rw [cf_at e, (val_zero (h _ (List.getElem_mem d))).mpr (t.off k _ (by omega) e)]
    · rw [cf_out (by omega)]
/-! bounds: the bottom divides M, the size is at most R -/
structure Bd (M R : Nat) (p : Int × Int) : Prop where
  d : p.2 ∣ (M : Int)
  s : p.1.natAbs ≤ R * p.2.natAbs
theorem low_size {t b : Int} {R : Nat} (h : b ≠ 0) (s : t.natAbs ≤ R * b.natAbs) : (low t b).1.natAbs ≤ R * (low t b).2.natAbs := by
  have e1 := congrArg Int.natAbs (low_l (t := t) h)
  have e2 := congrArg Int.natAbs (low_r (t := t) h)
  rw [Int.natAbs_mul] at e1 e2
  have pos : 0 < (shr t b).natAbs := Int.natAbs_pos.mpr (shr_ne h)
  have s2 : (shr t b).natAbs * (low t b).1.natAbs ≤ (shr t b).natAbs * (R * (low t b).2.natAbs) := by
    rw [← e1, Nat.mul_left_comm, ← e2]
    exact s
  exact Nat.le_of_mul_le_mul_left s2 pos
theorem low_dvd {p : Int × Int} (hp : Low p) {M z : Int} (e : p.1 * M = z * p.2) : p.2 ∣ M := by
  have d : p.2 ∣ p.1 * M := ⟨z, by rw [e, Int.mul_comm]⟩
  have c := hp.co
  have d2 : p.2.natAbs ∣ p.1.natAbs * M.natAbs := by rw [← Int.natAbs_mul]; exact Int.natAbs_dvd_natAbs.mpr d
  exact Int.natAbs_dvd_natAbs.mp (Nat.Coprime.dvd_of_dvd_mul_left (Nat.Coprime.symm c) d2)
theorem low_dvd2 {t b : Int} (h : b ≠ 0) {M z : Int} (e : t * M = z * b) : (low t b).2 ∣ M := by
  have e1 := low_l (t := t) h
  have e2 := low_r (t := t) h
  have n := shr_ne (t := t) h
  refine low_dvd (low_low h) (z := z) ?_
  have : shr t b * ((low t b).1 * M) = shr t b * (z * (low t b).2) := by
    rw [← Int.mul_assoc, ← e1, e, Int.mul_left_comm, ← e2]
  exact Int.eq_of_mul_eq_mul_left n this
theorem Bd.add {M R S : Nat} {p q : Int × Int} (hp : Low p) (hq : Low q) (a : Bd M R p) (b : Bd M S q) : Bd M (R + S) (padd p q) := by
  have h := Int.mul_ne_zero hp.ne hq.ne
  obtain ⟨x, hx⟩ := a.d
  obtain ⟨y, hy⟩ := b.d
  refine ⟨low_dvd2 h (z := p.1 * x + q.1 * y) ?_, low_size h ?_⟩
  · have e1 : p.1 * q.2 * (M : Int) = p.1 * x * (p.2 * q.2) := by rw [hx]; grind
    have e2 : q.1 * p.2 * (M : Int) = q.1 * y * (p.2 * q.2) := by rw [hy]; grind
    rw [Int.add_mul, Int.add_mul, e1, e2]
  · refine Nat.le_trans (Int.natAbs_add_le _ _) ?_
    rw [Int.natAbs_mul, Int.natAbs_mul, Int.natAbs_mul, Nat.add_mul]
    refine Nat.add_le_add ?_ ?_
    · rw [← Nat.mul_assoc]
      exact Nat.mul_le_mul_right _ a.s
    · refine Nat.le_trans (Nat.mul_le_mul_right p.2.natAbs b.s) (Nat.le_of_eq ?_)
      rw [Nat.mul_assoc, Nat.mul_comm q.2.natAbs]
theorem Bd.mul {M N R S : Nat} {p q : Int × Int} (hp : Low p) (hq : Low q) (a : Bd M R p) (b : Bd N S q) : Bd (M * N) (R * S) (pmul p q) := by
  have h := Int.mul_ne_zero hp.ne hq.ne
  obtain ⟨x, hx⟩ := a.d
  obtain ⟨y, hy⟩ := b.d
  refine ⟨low_dvd2 h (z := p.1 * q.1 * (x * y)) ?_, low_size h ?_⟩
  · rw [Int.natCast_mul, hx, hy]
    grind
  · rw [Int.natAbs_mul, Int.natAbs_mul, Nat.mul_mul_mul_comm]
    exact Nat.mul_le_mul a.s b.s
theorem Bd.mono {M N R S : Nat} {p : Int × Int} (a : Bd M R p) (d : M ∣ N) (l : R ≤ S) : Bd N S p := ⟨Int.dvd_trans a.d (Int.natCast_dvd_natCast.mpr d), Nat.le_trans a.s (Nat.mul_le_mul_right _ l)⟩
theorem Bd.zero {M R : Nat} : Bd M R (0, 1) := ⟨Int.one_dvd _, Nat.zero_le _⟩
theorem Bd.le {M R : Nat} {p : Int × Int} (hM : 0 < M) (a : Bd M R p) : p.2.natAbs ≤ M ∧ p.1.natAbs ≤ R * M := by
  have d : p.2.natAbs ∣ M := by
    have := Int.natAbs_dvd_natAbs.mpr a.d
    rwa [Int.natAbs_natCast] at this
  have l := Nat.le_of_dvd hM d
  exact ⟨l, Nat.le_trans a.s (Nat.mul_le_mul_left _ l)⟩
theorem Bd.fit {M R : Nat} {p : Int × Int} (hp : Low p) (hM : 0 < M) (a : Bd M R p) (b : (R + 1) * M < 2 ^ 4000) : Fit p := by
  obtain ⟨h1, h2⟩ := a.le hM
  have e : (R + 1) * M = R * M + M := Nat.succ_mul R M
  have i1 : p.1.natAbs ≤ (R + 1) * M := by rw [e]; exact Nat.le_trans h2 (Nat.le_add_right _ _)
  have i2 : p.2.natAbs ≤ (R + 1) * M := by rw [e]; exact Nat.le_trans h1 (Nat.le_add_left _ _)
  exact ⟨Nat.lt_of_le_of_lt i1 b, hp.pos, Nat.lt_of_le_of_lt i2 b⟩
end K03
end
section
set_option maxHeartbeats 4000000
/-! a division of lists of integers, turn by turn -/
namespace PolyM
def ci (L : List Int) (k : Nat) : Rat := ((L.getD k 0 : Int) : Rat)
theorem getD_out {L : List Int} {k : Nat} (h : L.length ≤ k) : L.getD k 0 = 0 := by
  rw [List.getD_eq_getElem?_getD, List.getElem?_eq_none h]
  rfl
theorem getD_map {L : List Int} {k : Nat} (f : Int) : (L.map (f * ·)).getD k 0 = f * L.getD k 0 := by
  rw [List.getD_eq_getElem?_getD, List.getD_eq_getElem?_getD, List.getElem?_map]
  cases L[k]? with
  | none => simp
  | some x => rfl
theorem getD_set {L : List Int} {p k : Nat} {t : Int} (h : p < L.length) : (L.set p t).getD k 0 = if k = p then t else L.getD k 0 := by
  rw [List.getD_eq_getElem?_getD, List.getElem?_set]
  by_cases e : p = k
  · subst e
    rw [if_pos rfl, if_pos h, if_pos rfl]
    rfl
  · rw [if_neg e, if_neg (fun z => e z.symm), List.getD_eq_getElem?_getD]
theorem getD_take {L : List Int} {m k : Nat} (h : ∀ j, m ≤ j → L.getD j 0 = 0) : (L.take m).getD k 0 = L.getD k 0 := by
  by_cases c : k < m
  · rw [List.getD_eq_getElem?_getD, List.getD_eq_getElem?_getD, List.getElem?_take_of_lt c]
  · rw [h k (by omega), getD_out (by rw [List.length_take]; omega)]
/-- a multiple of D, p places on, is taken away -/
def Less (W W2 D : List Int) (p : Nat) (t : Int) : Prop := W2.length = W.length ∧ ∀ k, W2.getD k 0 = W.getD k 0 - t * (if p ≤ k then D.getD (k - p) 0 else 0)
structure DivAt (b c : Nat) (L D Q W : List Int) (S : Int) : Prop where
  eq : ∀ k, (S : Rat) * ci L k = conv (ci Q) (ci D) k + ci W k
  le : W.length ≤ L.length
  q0 : ∀ k, k + D.length ≤ W.length → Q.getD k 0 = 0
  ql : Q.length = L.length + 1 - D.length
  sp : 0 < S
  sb : S.natAbs ≤ 2 ^ (b * (L.length - W.length))
  wb : ∀ z ∈ W, z.natAbs < 2 ^ (c + (b + 1) * (L.length - W.length))
  qb : ∀ z ∈ Q, z.natAbs < 2 ^ (c + (b + 1) * (L.length - W.length))
theorem DivAt.first {b c : Nat} {L D : List Int} (h : ∀ z ∈ L, z.natAbs < 2 ^ c) : DivAt b c L D (List.replicate (L.length + 1 - D.length) 0) L 1 := by
  have z : ∀ k, (List.replicate (L.length + 1 - D.length) (0 : Int)).getD k 0 = 0 := fun k => by
    rw [List.getD_eq_getElem?_getD]
    cases e : (List.replicate (L.length + 1 - D.length) (0 : Int))[k]? with
    | none => rfl
    | some x =>
      have := List.mem_of_getElem? e
      rw [List.mem_replicate] at this
      exact this.2
  refine ⟨fun k => ?_, Nat.le_refl _, fun k _ => z k, List.length_replicate, by decide, by rw [Nat.sub_self]; exact Nat.le_refl _, fun x hx => by rw [Nat.sub_self]; exact h x hx, fun x hx => ?_⟩
  · rw [conv_congr (a' := fun _ => 0) (b' := ci D) (fun i => by unfold ci; rw [z]; rfl) (fun _ => rfl), conv_none]
    have : ((1 : Int) : Rat) = 1 := rfl
    rw [this]
    grind
  · rw [List.mem_replicate] at hx
    rw [hx.2]
    exact Nat.pow_pos (by decide)
/-- the factor of a turn -/
theorem factor_ok {lead r : Int} (h : lead ≠ 0) : 1 ≤ ((lead.natAbs : Int)).fdiv ((Nat.gcd lead.natAbs r.natAbs : Nat) : Int) ∧ (((lead.natAbs : Int)).fdiv ((Nat.gcd lead.natAbs r.natAbs : Nat) : Int)).natAbs ≤ lead.natAbs ∧ lead ∣ ((lead.natAbs : Int)).fdiv ((Nat.gcd lead.natAbs r.natAbs : Nat) : Int) * r := by
  have pl : 0 < lead.natAbs := Int.natAbs_pos.mpr h
  have pg : 0 < Nat.gcd lead.natAbs r.natAbs := Nat.gcd_pos_of_pos_left _ pl
  have e : ((lead.natAbs : Int)).fdiv ((Nat.gcd lead.natAbs r.natAbs : Nat) : Int) = ((lead.natAbs / Nat.gcd lead.natAbs r.natAbs : Nat) : Int) := by
    rw [Int.fdiv_eq_ediv_of_nonneg _ (by omega), Int.natCast_ediv]
  rw [e]
  obtain ⟨x, hx⟩ := Nat.gcd_dvd_left lead.natAbs r.natAbs
  obtain ⟨y, hy⟩ := Nat.gcd_dvd_right lead.natAbs r.natAbs
  generalize Nat.gcd lead.natAbs r.natAbs = g at pg hx hy ⊢
  have ex : lead.natAbs / g = x := by rw [hx, Nat.mul_div_cancel_left _ pg]
  rw [ex]
  have x0 : 0 < x := Nat.pos_of_ne_zero fun z => by subst z; omega
  refine ⟨by omega, ?_, ?_⟩
  · rw [Int.natAbs_natCast, hx]
    exact Nat.le_mul_of_pos_left _ pg
  · refine Int.natAbs_dvd_natAbs.mp ?_
    rw [Int.natAbs_mul, Int.natAbs_natCast, hx, hy]
    exact ⟨y, by rw [Nat.mul_assoc, Nat.mul_left_comm]⟩
theorem times_ok {lead r f : Int} (h : lead ≠ 0) (hf : f.natAbs ≤ lead.natAbs) (d : lead ∣ f * r) : (f * r).fdiv lead * lead = f * r ∧ ((f * r).fdiv lead).natAbs ≤ r.natAbs := by
  have e : (f * r).fdiv lead * lead = f * r := Int.fdiv_mul_cancel d
  refine ⟨e, ?_⟩
  have e2 := congrArg Int.natAbs e
  rw [Int.natAbs_mul, Int.natAbs_mul] at e2
  have pl : 0 < lead.natAbs := Int.natAbs_pos.mpr h
  refine Nat.le_of_mul_le_mul_right (c := lead.natAbs) ?_ pl
  rw [e2, Nat.mul_comm r.natAbs]
  exact Nat.mul_le_mul_right _ hf
theorem last_getD {W : List Int} {r : Int} (h : W.getLast? = some r) : W.getD (W.length - 1) 0 = r ∧ 0 < W.length := by
  have n : W ≠ [] := fun z => by subst z; cases h
  have pos := List.length_pos_iff.mpr n
  rw [List.getLast?_eq_getElem?] at h
  exact ⟨by rw [List.getD_eq_getElem?_getD, h]; rfl, pos⟩
/-- a turn: all times f, the quotient's next part, what it makes taken away, the noughts at the end left out -/
theorem DivAt.turn {b c : Nat} {L D Q W W2 : List Int} {S lead r f : Int} {m : Nat} (h : DivAt b c L D Q W S) (hlead : D.getLast? = some lead) (l0 : lead ≠ 0) (hD : ∀ z ∈ D, z.natAbs < 2 ^ b) (hr : W.getLast? = some r) (long : D.length ≤ W.length)
    (f1 : 1 ≤ f) (f2 : f.natAbs ≤ lead.natAbs) (fd : lead ∣ f * r) (less : Less (W.map (f * ·)) W2 D (W.length - D.length) ((f * r).fdiv lead)) (off : ∀ k, m ≤ k → W2.getD k 0 = 0) (on : 0 < m → m ≤ W2.length ∧ W2.getD (m - 1) 0 ≠ 0) :
    DivAt b c L D ((Q.map (f * ·)).set (W.length - D.length) ((f * r).fdiv lead)) (W2.take m) (S * f) ∧ (W2.take m).length < W.length := by
  obtain ⟨lg, lp⟩ := last_getD hlead
  obtain ⟨rg, rp⟩ := last_getD hr
  obtain ⟨t1, t2⟩ := times_ok l0 f2 fd
  obtain ⟨wl, wk⟩ := less
  rw [List.length_map] at wl
  generalize (f * r).fdiv lead = t at t1 t2 wk ⊢
  have hle := h.le
  have lb : lead.natAbs < 2 ^ b := hD _ (List.mem_of_getLast? hlead)
  have place : W.length - D.length < (Q.map (f * ·)).length := by rw [List.length_map, h.ql]; omega
  have short : (W2.take m).length < W.length := by
    rw [List.length_take]
    by_cases z : m = 0
    · subst z; omega
    · obtain ⟨on1, on2⟩ := on (Nat.pos_of_ne_zero z)
      refine Nat.lt_of_le_of_lt (Nat.min_le_left _ _) (Nat.lt_of_le_of_ne (by omega) fun e => on2 ?_)
      rw [e, wk, getD_map, rg, if_pos (by omega), show W.length - 1 - (W.length - D.length) = D.length - 1 by omega, lg, t1]
      omega
  have same : ∀ k, (W2.take m).getD k 0 = W2.getD k 0 := fun k => getD_take off
  have X1 : ∀ z ∈ W2, z.natAbs < 2 ^ (c + (b + 1) * (L.length - W.length) + (b + 1)) := by
    intro z hz
    obtain ⟨k, hk, rfl⟩ := List.mem_iff_getElem.mp hz
    have e : W2[k] = W2.getD k 0 := by rw [List.getD_eq_getElem?_getD, List.getElem?_eq_getElem hk]; rfl
    rw [e, wk, getD_map, Nat.pow_add]
    have small : ∀ {N : List Int} {B j : Nat}, (∀ z ∈ N, z.natAbs < 2 ^ B) → (N.getD j 0).natAbs < 2 ^ B := by
      intro N B j hN
      rw [List.getD_eq_getElem?_getD]
      cases e : N[j]? with
      | none => exact Nat.pow_pos (by decide)
      | some x => exact hN x (List.mem_of_getElem? e)
    have w1 := small (j := k) h.wb
    have r1 := h.wb _ (List.mem_of_getLast? hr)
    generalize 2 ^ (c + (b + 1) * (L.length - W.length)) = X at w1 r1 ⊢
    have d1 : (if W.length - D.length ≤ k then D.getD (k - (W.length - D.length)) 0 else 0 : Int).natAbs < 2 ^ b := by
      split
      · exact small hD
      · exact Nat.pow_pos (by decide)
    generalize (if W.length - D.length ≤ k then D.getD (k - (W.length - D.length)) 0 else 0 : Int) = d at d1
    have i1 : (f * W.getD k 0).natAbs ≤ 2 ^ b * (X - 1) := by
      rw [Int.natAbs_mul]
      exact Nat.mul_le_mul (by omega) (by omega)
    have i2 : (t * d).natAbs ≤ 2 ^ b * (X - 1) := by
      rw [Int.natAbs_mul, Nat.mul_comm]
      exact Nat.mul_le_mul (by omega) (by omega)
    have i3 : (f * W.getD k 0 - t * d).natAbs ≤ 2 ^ b * (X - 1) + 2 ^ b * (X - 1) := by omega
    have pb : 0 < 2 ^ b := Nat.pow_pos (by decide)
    rw [Nat.pow_succ]
    generalize 2 ^ b = P at i3 pb ⊢
    rw [Nat.mul_sub_one] at i3
    have pp : P ≤ P * X := Nat.le_mul_of_pos_right _ (by omega)
    have e3 : X * (P * 2) = P * X + P * X := by rw [← Nat.mul_assoc, Nat.mul_comm X P]; omega
    omega
  have grow : L.length - W.length + 1 ≤ L.length - (W2.take m).length := by omega
  have exps : c + (b + 1) * (L.length - W.length) + (b + 1) ≤ c + (b + 1) * (L.length - (W2.take m).length) := by
    have := Nat.mul_le_mul_left (b + 1) grow
    rw [Nat.mul_succ] at this
    omega
  have up := Nat.pow_le_pow_right (n := 2) (by decide) exps
  have exps0 : c + (b + 1) * (L.length - W.length) + b ≤ c + (b + 1) * (L.length - (W2.take m).length) := by omega
  have qk : ∀ i, ci ((Q.map (f * ·)).set (W.length - D.length) t) i = (f : Rat) * ci Q i + (if i = W.length - D.length then (t : Rat) else 0) := by
    intro i
    unfold ci
    rw [getD_set place, getD_map]
    by_cases e : i = W.length - D.length
    · subst e
      rw [if_pos rfl, if_pos rfl, h.q0 _ (by omega)]
      have : ((0 : Int) : Rat) = 0 := rfl
      rw [this]
      grind
    · rw [if_neg e, if_neg e, Rat.intCast_mul]
      grind
  refine ⟨⟨fun k => ?_, Nat.le_trans (Nat.le_of_lt short) hle, fun k hk => ?_, by rw [List.length_set, List.length_map]; exact h.ql, Int.mul_pos h.sp (by omega), ?_, fun z hz => ?_, fun z hz => ?_⟩, short⟩
  · rw [conv_congr (b' := ci D) qk (fun _ => rfl), conv_add, conv_mul, conv_at]
    have e1 := h.eq k
    have e2 : ci (W2.take m) k = (f : Rat) * ci W k - (t : Rat) * (if W.length - D.length ≤ k then ci D (k - (W.length - D.length)) else 0) := by
      unfold ci
      rw [same, wk, getD_map]
      split
      · rw [Rat.intCast_sub, Rat.intCast_mul, Rat.intCast_mul]
      · have : ((0 : Int) : Rat) = 0 := rfl
        rw [Rat.intCast_sub, Rat.intCast_mul, Rat.intCast_mul, this]
    rw [e2, Rat.intCast_mul]
    split
    · grind
    · grind
  · rw [getD_set place, getD_map, if_neg (by omega), h.q0 k (by omega)]
    omega
  · rw [Int.natAbs_mul]
    refine Nat.le_trans (Nat.mul_le_mul h.sb (show f.natAbs ≤ 2 ^ b by omega)) ?_
    rw [← Nat.pow_add]
    refine Nat.pow_le_pow_right (by decide) ?_
    have := Nat.mul_le_mul_left b grow
    rw [Nat.mul_succ] at this
    exact this
  · exact Nat.lt_of_lt_of_le (X1 z (List.mem_of_mem_take hz)) up
  · rcases List.mem_or_eq_of_mem_set hz with hz | rfl
    · obtain ⟨y, hy, rfl⟩ := List.mem_map.mp hz
      rw [Int.natAbs_mul]
      have y1 := h.qb y hy
      have e0 := Nat.pow_le_pow_right (n := 2) (by decide) exps0
      rw [Nat.pow_add] at e0
      refine Nat.lt_of_lt_of_le ?_ e0
      have pb : 0 < 2 ^ b := Nat.pow_pos (by decide)
      have fb : f.natAbs ≤ 2 ^ b := by omega
      refine Nat.lt_of_le_of_lt (Nat.mul_le_mul_right _ fb) ?_
      rw [Nat.mul_comm]
      exact Nat.mul_lt_mul_of_pos_right y1 pb
    · have r1 := h.wb _ (List.mem_of_getLast? hr)
      exact Nat.lt_of_lt_of_le (Nat.lt_of_le_of_lt t2 r1) (Nat.pow_le_pow_right (by decide) (by omega))
end PolyM
end
section
set_option maxHeartbeats 8000000
set_option exponentiation.threshold 100000
namespace K03
open PySem PySem.Spec PyProof.Rows L2 LamX NdefX L3 PolyM
abbrev sDivP : Stmt := top 22
def vInts (L : List Int) : List V := L.map V.int
/-- what a division of lists of integers tells -/
def spDivP : Sp := fun vs H Q _ => ∃ (a e : Addr) (L D : List Int) (lead : Int) (b c : Nat), vs = [.ref a, .ref e] ∧ H a = some (.lst (vInts L)) ∧ H e = some (.lst (vInts D)) ∧ D.getLast? = some lead ∧ lead ≠ 0 ∧ (∀ z ∈ L, z.natAbs < 2 ^ c) ∧ (∀ z ∈ D, z.natAbs < 2 ^ b) ∧ L.length ≤ 200 ∧ D.length ≤ 200 ∧ c ≤ 8000 ∧ 1 ≤ b ∧ b ≤ 1000 ∧
  ∀ (t qa ra : Addr) (Qs W : List Int) (S : Int) (H' : Hp), H t = none → Same H H' → H' t = some (.tup [.ref qa, .ref ra, .int S]) → H' qa = some (.lst (vInts Qs)) → H' ra = some (.lst (vInts W)) → DivAt b c L D Qs W S → W.length < D.length → Q (.ref t) H'
theorem vInts_get {L : List Int} {k : Nat} (h : k < L.length) : (vInts L)[k]? = some (V.int (L.getD k 0)) := by
  unfold vInts
  rw [List.getElem?_map, List.getD_eq_getElem?_getD, List.getElem?_eq_getElem h]
  rfl
theorem vInts_last {L : List Int} {z : Int} (h : L.getLast? = some z) : atI (vInts L) (-1) = some (.int z) := at_last (by unfold vInts; rw [List.getLast?_map, h]; rfl)
theorem vInts_len {L : List Int} : (vInts L).length = L.length := List.length_map ..
theorem paired_ints {f : Int} : ∀ {ws : List V} {W : List Int}, Paired (fun (y : V) (z : Int) => y = .int (f * z)) ws W → ws = vInts (W.map (f * ·))
  | _, _, .nil => rfl
  | _, _, .cons a r => by
    rw [a, paired_ints r]
    rfl
theorem ixN_of {n j : Nat} (h : j < n) : ixN n (j : Int) = some j := by
  unfold ixN
  rw [if_pos (by omega), if_pos (by omega), Int.toNat_natCast]
theorem drop_take {α : Type} {W : List α} {m : Nat} (h : m ≤ W.length) : (W.take m).dropLast = W.take (m - 1) := by
  rw [List.dropLast_eq_take, List.take_take, List.length_take]
  congr 1
  omega
theorem mul_fit {x y : Int} {a b : Nat} (hx : x.natAbs < 2 ^ a) (hy : y.natAbs < 2 ^ b) (h : a + b ≤ 900000) : CMulW x y := by
  have up : ∀ {z : Int} {n : Nat}, z.natAbs < 2 ^ n → z.natAbs < 2 ^ (n + 1) := fun h => Nat.lt_of_lt_of_le h (Nat.pow_le_pow_right (by decide) (Nat.le_succ _))
  exact wide_mul (up hx) (up hy) (Nat.succ_pos _) (Nat.succ_pos _) (by omega)
section
variable {P : Program} {w : World} {K : PySem.W.Frag} {mg : Str → Option Value} {base : Heap} {cB cN C fI : Addr}
theorem scDivP : FnScope ["one", "other", "lead", "rest", "quotient", "scale", "factor", "place", "times", "number", "part", "_"] ["one", "other"] (defScope sDivP) := ⟨rfl, rfl, rfl, by decide +kernel, rfl, by decide +kernel, by decide +kernel⟩
theorem ok_divP {f : Addr} {fd : FuncData} (F : Fun K "divided_parts" "divided_parts" sDivP f fd) (B : TxtR mg) (be : mg "enumerate" = none) : FnOk P w K mg base CX0 1 f fd ["one", "other"] spDivP := by
  refine F.ok scDivP (fun vs H Q E h => ?_) (fun cdv A outer s H vs Q E hr h => ?_)
  · obtain ⟨a, e, L, D, lead, b, c, rfl, _⟩ := h
    rfl
  · obtain ⟨a, e, L, D, lead, b, c, rfl, hL, hD, hlead, l0, bL, bD, lL, lD, c8, b1, b1000, k⟩ := h
    have nd := scDivP.nd
    refine ⟨_, pss_cons (ps_set (i := 2) nd rfl (Or.inl rfl) (pe_ix ix_list (pv 1) (pe_un un_neg pe_int) (fun _ _ => rfl)))
      (pss_cons (ps_set (i := 3) nd rfl (Or.inl rfl) (pe_callTy call_list_of (by rfl) B.list (by decide +kernel) (pa_cons (pv 0) pa_nil)))
      (pss_cons (ps_setLc (i := 4) (own := [("_", 11)]) (g := gName 11) (tt := tYes) rfl nd rfl rfl (sw_true rfl rfl rfl (by decide +kernel)) (pi_range1 (by rfl) B.range (pa_cons (pe_op op_add (pe_op op_sub (pe_callB call_len_seq (by rfl) B.len PySem.boot_len (pa_cons (pv 0) pa_nil)) (pe_callB call_len_seq (by rfl) B.len PySem.boot_len (pa_cons (pv 1) pa_nil))) pe_int) pa_nil)) (blkOk_by (N := ["one", "other", "lead", "rest", "quotient", "scale", "factor", "place", "times", "number", "part", "_"]) (sc := defScope sDivP) (by decide +kernel)) (fun _ _ _ _ _ => pg_name (i := 11) nd rfl (Or.inl rfl)) (fun _ _ _ _ _ => pts_nil) (fun _ _ _ _ _ => by exact pe_int))
      (pss_cons (ps_set (i := 5) nd rfl (Or.inl rfl) pe_int)
      (pss_cons (ps_while PassesOwn.never (pt_cmpR op_ge (pe_callB call_len_seq (by rfl) B.len PySem.boot_len (pa_cons (pv 3) pa_nil)) (pe_callB call_len_seq (by rfl) B.len PySem.boot_len (pa_cons (pv 1) pa_nil)) (nomark _))
        (pss_cons (ps_set (i := 6) nd rfl (Or.inr rfl) (pe_op op_fdivZ (pe_callB call_abs (by rfl) B.abs (by decide +kernel) (pa_cons (pv 2) pa_nil)) (pe_callBfun cr_gcd (by rfl) B.gcd (pa_cons (pv 2) (pa_cons (pe_ix ix_list (pv 3) (pe_un un_neg pe_int) (fun _ _ => rfl)) pa_nil)))))
        (pss_cons (ps_if (pt_cmpR op_ne (pv 6) pe_int (nomark _))
            (pss_cons (ps_setLc (i := 3) (own := [("part", 10)]) (g := gName 10) (tt := tYes) rfl nd rfl rfl (sw_true rfl rfl rfl (by decide +kernel)) (pi_list (pv 3)) (blkOk_by (N := ["one", "other", "lead", "rest", "quotient", "scale", "factor", "place", "times", "number", "part", "_"]) (sc := defScope sDivP) (by decide +kernel)) (fun _ _ _ _ _ => pg_name (i := 10) nd rfl (Or.inl rfl)) (fun _ _ _ _ _ => pts_nil) (fun _ _ _ _ _ => by exact (pe_op op_mulW (pv 6) (pv 10))))
            (pss_cons (ps_setLc (i := 4) (own := [("part", 10)]) (g := gName 10) (tt := tYes) rfl nd rfl rfl (sw_true rfl rfl rfl (by decide +kernel)) (pi_list (pv 4)) (blkOk_by (N := ["one", "other", "lead", "rest", "quotient", "scale", "factor", "place", "times", "number", "part", "_"]) (sc := defScope sDivP) (by decide +kernel)) (fun _ _ _ _ _ => pg_name (i := 10) nd rfl (Or.inl rfl)) (fun _ _ _ _ _ => pts_nil) (fun _ _ _ _ _ => by exact (pe_op op_mulW (pv 6) (pv 10))))
            (pss_one (ps_set (i := 5) nd rfl (Or.inl rfl) (pe_op op_mulW (pv 5) (pv 6)))))) pss_nil)
        (pss_cons (ps_set (i := 7) nd rfl (Or.inl rfl) (pe_op op_sub (pe_callB call_len_seq (by rfl) B.len PySem.boot_len (pa_cons (pv 3) pa_nil)) (pe_callB call_len_seq (by rfl) B.len PySem.boot_len (pa_cons (pv 1) pa_nil))))
        (pss_cons (ps_set (i := 8) nd rfl (Or.inl rfl) (pe_op op_fdivZ (pe_ix ix_list (pv 3) (pe_un un_neg pe_int) (fun _ _ => rfl)) (pv 2)))
        (pss_cons (ps_asg (pv 8) (pg_sub (pv 4) (pv 7) set_list))
        (pss_cons (ps_for PassesOwn.never rfl (pi_enum (by rfl) be (pa_cons (pv 1) pa_nil)) (pg_tup (by rfl) (pgs_cons (pg_name (i := 9) nd rfl (Or.inl rfl)) (pgs_cons (pg_name (i := 10) nd rfl (Or.inl rfl)) pgs_nil)))
          (pss_one (ps_asg (pe_op op_sub (pe_ix ix_list (pv 3) (pe_op op_add (pv 7) (pv 9)) (fun _ _ => rfl)) (pe_op op_mulW (pv 8) (pv 10))) (pg_sub (pv 3) (pe_op op_add (pv 7) (pv 9)) set_list))))
        (pss_one (ps_while PassesOwn.never (PW.pt (pw_and (pt_truth (pv 3) (by intro _; rfl)) (pw_and1 (pt_cmpR op_eq (pe_ix ix_list (pv 3) (pe_un un_neg pe_int) (fun _ _ => rfl)) pe_int (nomark _)))))
          (pss_one (ps_expr (pe_bm0 PySem.F.plainAttrs_list PySem.F.slot_list_pop PySem.F.type_list_pop mt_pop (pv 3)))))))))))))
      (pss_one (ps_ret (pe_tup (pa_cons (pv 4) (pa_cons (pv 3) (pa_cons (pv 5) pa_nil)))))))))), ?_⟩
    have Dne : D ≠ [] := fun z => by subst z; cases hlead
    have Dpos := List.length_pos_iff.mpr Dne
    have lb : lead.natAbs < 2 ^ b := bD _ (List.mem_of_getLast? hlead)
    have cdl : ∀ i, CDivZ i lead := fun i => ⟨l0, log2_le (Nat.le_refl _) (Int.natAbs_pos.mpr l0) (Nat.lt_of_lt_of_le lb (Nat.pow_le_pow_right (by decide) (show b ≤ 9000 by omega))) (by decide)⟩
    refine ⟨_, rfl, _, rfl, e, _, _, _, rfl, rfl, SqL.of hD, vInts_last hlead, ?_⟩
    refine ⟨_, rfl, a, _, rfl, .inl (SqL.of hL), fun ra nra => ?_⟩
    have s1 : Same H (upd H ra (.lst (vInts L))) := Same.new (fun _ _ e => e) nra
    have e1 : upd H ra (.lst (vInts L)) ra = some (.lst (vInts L)) := upd_same
    generalize upd H ra (.lst (vInts L)) = G1 at s1 e1 ⊢
    have vl : ∀ {N : List Int}, ((vInts N).length : Int) = (N.length : Int) := fun {N} => by rw [vInts_len]
    have szL : L.length ≤ sizeLine := Nat.le_trans lL (by decide)
    dsimp only [gName]
    refine seq_to (fun σ' G => ∃ qa : Addr, σ' = [some (.ref a), some (.ref e), some (.int lead), some (.ref ra), some (.ref qa), none, none, none, none, none, none, none] ∧ Same H G ∧ H qa = none ∧ qa ≠ ra ∧ G qa = some (.lst (vInts (List.replicate (L.length + 1 - D.length) 0))) ∧ G ra = some (.lst (vInts L))) (fun kk hK => ?_) ?_
    · dsimp only [tAsg]
      refine lc_mapT (n := L.length + 1 - D.length) (bs := List.replicate (L.length + 1 - D.length) (0 : Nat)) (Rr := fun _ _ (y : V) (n : Nat) => y = .int n) (fun R r => ?_) (Nat.le_trans (show _ ≤ 201 by omega) (by decide)) (List.length_replicate ..).symm (fun _ _ _ _ _ h _ => h) (fun _ _ _ _ _ _ _ h => h) ?_ ?_
      · refine ⟨_, rfl, a, _, rfl, .inl (SqL.of (s1 _ _ hL)), _, rfl, e, _, rfl, .inl (SqL.of (s1 _ _ hD)), _, _, rfl, rfl, _, _, rfl, rfl, (L.length : Int) - D.length + 1, by rw [vl, vl], by omega, by omega, ?_⟩
        rw [show ((L.length : Int) - D.length + 1).toNat = L.length + 1 - D.length by omega]
        exact r
      · intro D' j n H2 rs Kc hj hn s2 hD' kc
        have : n = 0 := by
          have := List.mem_of_getElem? hn
          rw [List.mem_replicate] at this
          exact this.2
        subst this
        exact kc _ _ (fun _ _ e => e) rfl
      · intro qa ws G2 nq s2 hq pw
        refine hK _ _ ⟨qa, rfl, s1.trans s2, same_none s1 nq, fun z => (by rw [z, e1] at nq; cases nq), ?_, s2 _ _ e1⟩
        rw [hq, int_list pw, List.map_replicate]
        rfl
    rintro σ' G2 ⟨qa, rfl, s2, nqa, qra, hq2, hr2⟩
    clear s1 e1
    refine seq_to (fun σ' G => σ' = [some (.ref a), some (.ref e), some (.int lead), some (.ref ra), some (.ref qa), some (.int 1), none, none, none, none, none, none] ∧ G = G2) (fun kk hK => hK _ _ ⟨rfl, rfl⟩) ?_
    rintro σ' _ ⟨rfl, rfl⟩
    refine seq_to (fun σ' G => ∃ (ra qa : Addr) (Qs W : List Int) (S : Int) (o6 o7 o8 o9 o10 : Option V), σ' = [some (.ref a), some (.ref e), some (.int lead), some (.ref ra), some (.ref qa), some (.int S), o6, o7, o8, o9, o10, none] ∧ Same H G ∧ G qa = some (.lst (vInts Qs)) ∧ G ra = some (.lst (vInts W)) ∧ DivAt b c L D Qs W S ∧ W.length < D.length) (fun kk hK => ?_) ?_
    · refine while_at (fun m σ' G => ∃ (ra qa : Addr) (Qs W : List Int) (S : Int) (o6 o7 o8 o9 o10 : Option V), σ' = [some (.ref a), some (.ref e), some (.int lead), some (.ref ra), some (.ref qa), some (.int S), o6, o7, o8, o9, o10, none] ∧ Same H G ∧ H qa = none ∧ H ra = none ∧ qa ≠ ra ∧ G qa = some (.lst (vInts Qs)) ∧ G ra = some (.lst (vInts W)) ∧ DivAt b c L D Qs W S ∧ m = W.length)
        L.length ⟨ra, qa, _, L, 1, none, none, none, none, none, rfl, s2, nqa, nra, qra, hq2, hr2, DivAt.first bL, rfl⟩ ?_
      rintro m σ' G ⟨ra, qa, Qs, W, S, o6, o7, o8, o9, o10, rfl, sG, nqa, nra, qra, hq, hra, dv, rfl⟩
      refine ⟨_, rfl, ra, _, rfl, .inl (SqL.of hra), _, rfl, e, _, rfl, .inl (SqL.of (sG _ _ hD)), _, _, rfl, rfl, _, rfl, ?_⟩
      rw [vl, vl]
      refine ite2 (fun y => ?_) (fun y => ?_)
      · have long : D.length ≤ W.length := by
          have := of_decide_eq_true y
          omega
        refine ⟨fun σ' G => ∃ m', m' < W.length ∧ ∃ (ra qa : Addr) (Qs W : List Int) (S : Int) (o6 o7 o8 o9 o10 : Option V), σ' = [some (.ref a), some (.ref e), some (.int lead), some (.ref ra), some (.ref qa), some (.int S), o6, o7, o8, o9, o10, none] ∧ Same H G ∧ H qa = none ∧ H ra = none ∧ qa ≠ ra ∧ G qa = some (.lst (vInts Qs)) ∧ G ra = some (.lst (vInts W)) ∧ DivAt b c L D Qs W S ∧ m' = W.length, fun _ _ z => z, ?_⟩
        have c0 : 0 < W.length := by omega
        obtain ⟨r, hr⟩ : ∃ r, W.getLast? = some r := by
          cases e : W.getLast? with
          | none => rw [List.getLast?_eq_none_iff] at e; subst e; simp at c0
          | some r => exact ⟨r, rfl⟩
        obtain ⟨f1, f2, fd⟩ := factor_ok (r := r) l0
        have E200 : c + (b + 1) * (L.length - W.length) ≤ 400000 := by
          have : (b + 1) * (L.length - W.length) ≤ 1001 * 200 := Nat.mul_le_mul (by omega) (by omega)
          omega
        have SB : S.natAbs < 2 ^ 400000 := Nat.lt_of_le_of_lt dv.sb (Nat.pow_lt_pow_right (by decide) (by
          have : b * (L.length - W.length) ≤ 1000 * 200 := Nat.mul_le_mul b1000 (by omega)
          omega))
        -- the factor
        refine seq_to (fun σ' G' => σ' = [some (.ref a), some (.ref e), some (.int lead), some (.ref ra), some (.ref qa), some (.int S), some (.int ((lead.natAbs : Int).fdiv ((Nat.gcd lead.natAbs r.natAbs : Nat) : Int))), o7, o8, o9, o10, none] ∧ G' = G) (fun kk hK => ?_) ?_
        · refine ⟨_, rfl, _, rfl, _, rfl, _, rfl, _, rfl, ra, _, _, _, rfl, rfl, SqL.of hra, vInts_last hr, _, _, rfl, ?_⟩
          rw [abs_cast]
          have pg : 0 < Nat.gcd lead.natAbs r.natAbs := Nat.gcd_pos_of_pos_left _ (Int.natAbs_pos.mpr l0)
          have gl : Nat.gcd lead.natAbs r.natAbs ≤ lead.natAbs := Nat.le_of_dvd (Int.natAbs_pos.mpr l0) (Nat.gcd_dvd_left _ _)
          refine ⟨_, _, rfl, rfl, ⟨by omega, log2_le (by rw [Int.natAbs_natCast]; exact Nat.le_refl _) (by rw [Int.natAbs_natCast]; exact pg) (Nat.lt_of_le_of_lt gl (Nat.lt_of_lt_of_le lb (Nat.pow_le_pow_right (by decide) (show b ≤ 9000 by omega)))) (by decide)⟩, hK _ _ ⟨rfl, rfl⟩⟩
        rintro σ' G' ⟨rfl, rfl⟩
        generalize (lead.natAbs : Int).fdiv ((Nat.gcd lead.natAbs r.natAbs : Nat) : Int) = f at f1 f2 fd ⊢
        have fb : f.natAbs < 2 ^ b := Nat.lt_of_le_of_lt f2 lb
        -- all times the factor
        refine seq_to (fun σ' G2 => ∃ (ra qa : Addr), σ' = [some (.ref a), some (.ref e), some (.int lead), some (.ref ra), some (.ref qa), some (.int (S * f)), some (.int f), o7, o8, o9, o10, none] ∧ Same H G2 ∧ H qa = none ∧ H ra = none ∧ qa ≠ ra ∧ G2 qa = some (.lst (vInts (Qs.map (f * ·)))) ∧ G2 ra = some (.lst (vInts (W.map (f * ·))))) (fun kk hK => ?_) ?_
        · refine ⟨_, rfl, rfl, _, rfl, ?_⟩
          have itm : ∀ {N : List Int} {i : Nat} {x : V} {z : Int}, (vInts N)[i]? = some x → N[i]? = some z → x = .int z := fun {N i x z} hx hz => by
            unfold vInts at hx
            rw [List.getElem?_map, hz] at hx
            exact (Option.some.inj hx).symm
          refine ite2 (fun y => ?_) (fun y => ?_)
          · refine seq_to (fun σ' G3 => ∃ ra' : Addr, σ' = [some (.ref a), some (.ref e), some (.int lead), some (.ref ra'), some (.ref qa), some (.int S), some (.int f), o7, o8, o9, o10, none] ∧ Same G' G3 ∧ G' ra' = none ∧ G3 ra' = some (.lst (vInts (W.map (f * ·))))) (fun kk2 hK2 => ?_) ?_
            · dsimp only [tAsg]
              refine lc_mapL (bs := W) (Rr := fun _ _ (y : V) (z : Int) => y = .int (f * z)) (fun R r => ⟨_, rfl, r⟩) (SqL.of hra) (by rw [vInts_len]; exact Nat.le_trans dv.le szL) vInts_len (fun _ _ _ _ _ h _ => h) (fun _ _ _ _ _ _ _ h => h) ?_ ?_
              · intro D' i x z G4 rs Kc hx hz s4 hD' kc
                cases itm hx hz
                exact ⟨_, rfl, _, rfl, _, _, rfl, rfl, mul_fit fb (dv.wb z (List.mem_of_getElem? hz)) (by omega), kc _ _ (fun _ _ e => e) rfl⟩
              · intro ra' ws G4 nr s4 hr4 pw
                exact hK2 _ _ ⟨ra', rfl, s4, nr, by rw [hr4, paired_ints pw]⟩
            rintro σ' G3 ⟨ra', rfl, s3, nra', hra'⟩
            refine seq_to (fun σ' G4 => ∃ qa' : Addr, σ' = [some (.ref a), some (.ref e), some (.int lead), some (.ref ra'), some (.ref qa'), some (.int S), some (.int f), o7, o8, o9, o10, none] ∧ Same G3 G4 ∧ G3 qa' = none ∧ G4 qa' = some (.lst (vInts (Qs.map (f * ·))))) (fun kk2 hK2 => ?_) ?_
            · dsimp only [tAsg]
              refine lc_mapL (bs := Qs) (Rr := fun _ _ (y : V) (z : Int) => y = .int (f * z)) (fun R r => ⟨_, rfl, r⟩) (SqL.of (s3 _ _ hq)) (by rw [vInts_len, dv.ql]; exact Nat.le_trans (show _ ≤ 201 by omega) (by decide)) vInts_len (fun _ _ _ _ _ h _ => h) (fun _ _ _ _ _ _ _ h => h) ?_ ?_
              · intro D' i x z G4 rs Kc hx hz s4 hD' kc
                cases itm hx hz
                exact ⟨_, rfl, _, rfl, _, _, rfl, rfl, mul_fit fb (dv.qb z (List.mem_of_getElem? hz)) (by omega), kc _ _ (fun _ _ e => e) rfl⟩
              · intro qa' ws G4 nr s4 hr4 pw
                exact hK2 _ _ ⟨qa', rfl, s4, nr, by rw [hr4, paired_ints pw]⟩
            rintro σ' G4 ⟨qa', rfl, s4, nqa', hqa'⟩
            refine ⟨_, rfl, _, rfl, _, _, rfl, rfl, mul_fit SB fb (by omega), hK _ _ ⟨ra', qa', rfl, sG.trans (s3.trans s4), same_none (sG.trans s3) nqa', same_none sG nra', fun z => ?_, hqa', s4 _ _ hra'⟩⟩
            rw [z, hra'] at nqa'
            cases nqa'
          · have f1 : f = 1 := by simpa using y
            subst f1
            have one : ∀ N : List Int, N.map (fun x => 1 * x) = N := fun N => by simp
            exact hK _ _ ⟨ra, qa, by rw [Int.mul_one], sG, nqa, nra, qra, by rw [one]; exact hq, by rw [one]; exact hra⟩
        clear hq hra nqa nra qra
        rintro σ' G2 ⟨ra, qa, rfl, sG2, nqa, nra, qra, hq, hra⟩
        have q'l : (Qs.map (f * ·)).length = L.length + 1 - D.length := by rw [List.length_map, dv.ql]
        have pl : W.length - D.length < (Qs.map (f * ·)).length := by rw [q'l]; have := dv.le; omega
        have lr : (W.map (f * ·)).getLast? = some (f * r) := by rw [List.getLast?_map, hr]; rfl
        obtain ⟨t1, t2⟩ := times_ok l0 f2 fd
        -- the place, the part
        refine seq_to (fun σ' G' => σ' = [some (.ref a), some (.ref e), some (.int lead), some (.ref ra), some (.ref qa), some (.int (S * f)), some (.int f), some (.int ((W.length - D.length : Nat) : Int)), o8, o9, o10, none] ∧ G' = G2) (fun kk hK => ?_) ?_
        · refine ⟨_, rfl, ra, _, rfl, .inl (SqL.of hra), _, rfl, e, _, rfl, .inl (SqL.of (sG2 _ _ hD)), _, _, rfl, rfl, hK _ _ ⟨?_, rfl⟩⟩
          rw [vl, vl, List.length_map, Int.natCast_sub long]
          rfl
        rintro σ' G2 ⟨rfl, rfl⟩
        refine seq_to (fun σ' G' => σ' = [some (.ref a), some (.ref e), some (.int lead), some (.ref ra), some (.ref qa), some (.int (S * f)), some (.int f), some (.int ((W.length - D.length : Nat) : Int)), some (.int ((f * r).fdiv lead)), o9, o10, none] ∧ G' = G2) (fun kk hK => ?_) ?_
        · exact ⟨_, rfl, _, rfl, ra, _, _, _, rfl, rfl, SqL.of hra, vInts_last lr, _, rfl, _, _, rfl, rfl, cdl _, hK _ _ ⟨rfl, rfl⟩⟩
        rintro σ' G2 ⟨rfl, rfl⟩
        generalize ht : (f * r).fdiv lead = t at t1 t2 ⊢
        generalize hp : W.length - D.length = p at pl ⊢
        refine seq_to (fun σ' G' => σ' = [some (.ref a), some (.ref e), some (.int lead), some (.ref ra), some (.ref qa), some (.int (S * f)), some (.int f), some (.int (p : Int)), some (.int t), o9, o10, none] ∧ Same H G' ∧ G' qa = some (.lst (vInts ((Qs.map (f * ·)).set p t))) ∧ G' ra = some (.lst (vInts (W.map (f * ·))))) (fun kk hK => ?_) ?_
        · refine ⟨_, rfl, _, rfl, _, rfl, qa, _, _, p, rfl, rfl, hq, ixN_of (by rw [vInts_len]; exact pl), hK _ _ ⟨rfl, same_put sG2 nqa, ?_, ?_⟩⟩
          · rw [upd_same]
            unfold vInts
            rw [List.map_set]
          · rw [upd_ne qra.symm]
            exact hra
        clear hq hra sG2
        rintro σ' G3 ⟨rfl, sG3, hq, hra⟩
        -- what the part makes is taken away
        refine seq_to (fun σ' G' => ∃ (W2 : List Int) (o9 o10 : Option V), σ' = [some (.ref a), some (.ref e), some (.int lead), some (.ref ra), some (.ref qa), some (.int (S * f)), some (.int f), some (.int (p : Int)), some (.int t), o9, o10, none] ∧ Same H G' ∧ G' qa = some (.lst (vInts ((Qs.map (f * ·)).set p t))) ∧ G' ra = some (.lst (vInts W2)) ∧ Less (W.map (f * ·)) W2 D p t) (fun kk hK => ?_) ?_
        · refine ⟨_, rfl, e, _, rfl, SqL.of (sG3 _ _ hD), ?_⟩
          refine for_it (walk_enum (K := K) (a := e) (xs := vInts D)) (fun i σ' G' => ∃ (W2 : List Int) (o9 o10 : Option V), σ' = [some (.ref a), some (.ref e), some (.int lead), some (.ref ra), some (.ref qa), some (.int (S * f)), some (.int f), some (.int (p : Int)), some (.int t), o9, o10, none] ∧ Same H G' ∧ G' qa = some (.lst (vInts ((Qs.map (f * ·)).set p t))) ∧ G' ra = some (.lst (vInts W2)) ∧ W2.length = W.length ∧ ∀ k, W2.getD k 0 = (W.map (f * ·)).getD k 0 - t * (if p ≤ k ∧ k < p + i then D.getD (k - p) 0 else 0))
            ⟨_, o9, o10, rfl, sG3, hq, hra, List.length_map .., fun k => by rw [if_neg (by omega)]; omega⟩ (fun i σ' G' _ z => ?_) ?_ ?_
          · obtain ⟨_, _, _, _, s', _⟩ := z
            exact SqL.of (s' _ _ hD)
          · rintro i x σ' G4 G5 hi ⟨W2, o9, o10, rfl, sG4, hq4, hr4, l2, k2⟩ ⟨T, u, v, rfl, nT, rfl, hu, hv⟩
            rw [vInts_len] at hi
            cases hu
            have hv2 : (vInts D)[i]? = some v := hv
            rw [vInts_get hi] at hv2
            cases hv2
            have s5 := Same.new (o := .tup [.int (i : Nat), .int (D.getD i 0)]) (fun _ _ e => e : Same G4 G4) nT
            have hpi : p + i < W2.length := by rw [l2]; omega
            have db : (D.getD i 0).natAbs < 2 ^ b := by
              rw [List.getD_eq_getElem?_getD, List.getElem?_eq_getElem hi]
              exact bD _ (List.getElem_mem hi)
            have tb : t.natAbs < 2 ^ 400000 := by
              have r1 := dv.wb _ (List.mem_of_getLast? hr)
              exact Nat.lt_of_le_of_lt t2 (Nat.lt_of_lt_of_le r1 (Nat.pow_le_pow_right (by decide) E200))
            refine ⟨T, _, rfl, SqT.of upd_same, rfl, _, _, rfl, _, _, rfl, rfl, ?_⟩
            refine ⟨_, rfl, _, rfl, _, rfl, _, _, rfl, rfl, ra, _, _, _, rfl, rfl, SqL.of (s5 _ _ hr4), atI_nat (j := p + i) (vInts_get hpi), _, rfl, _, rfl, _, _, rfl, rfl, mul_fit tb db (by omega), _, _, rfl, rfl, _, rfl, _, rfl, _, rfl, _, _, rfl, rfl, ra, _, _, p + i, rfl, rfl, s5 _ _ hr4, ixN_of (j := p + i) (by rw [vInts_len]; exact hpi), ?_⟩
            refine ⟨W2.set (p + i) (W2.getD (p + i) 0 - t * D.getD i 0), _, _, rfl, same_put (sG4.trans s5) nra, ?_, ?_, by rw [List.length_set]; exact l2, fun k => ?_⟩
            · rw [upd_ne qra]
              exact s5 _ _ hq4
            · rw [upd_same]
              unfold vInts
              rw [List.map_set]
            · rw [getD_set hpi, k2 (p + i), k2 k]
              by_cases c1 : k = p + i
              · subst c1
                rw [if_pos rfl, if_neg (by omega), if_pos (by omega), show p + i - p = i by omega, Int.mul_zero, Int.sub_zero]
              · rw [if_neg c1]
                by_cases c2 : p ≤ k ∧ k < p + i
                · rw [if_pos c2, if_pos (by omega)]
                · rw [if_neg c2, if_neg (by omega)]
          · rintro σ' G4 ⟨W2, o9, o10, rfl, sG4, hq4, hr4, l2, k2⟩
            refine hK _ _ ⟨W2, o9, o10, rfl, sG4, hq4, hr4, by rw [List.length_map]; exact l2, fun k => ?_⟩
            rw [k2 k, vInts_len]
            by_cases c1 : p ≤ k
            · by_cases c2 : k < p + D.length
              · rw [if_pos ⟨c1, c2⟩, if_pos c1]
              · rw [if_neg (fun z => c2 z.2), if_pos c1, getD_out (L := D) (k := k - p) (by omega)]
            · rw [if_neg (fun z => c1 z.1), if_neg c1]
        clear hq hra
        rintro σ' G4 ⟨W2, o9, o10, rfl, sG4, hq, hra, less⟩
        -- the noughts at the end
        have l2 : W2.length = W.length := by rw [less.1, List.length_map]
        have getT : ∀ {n j : Nat}, j < n → (W2.take n).getD j 0 = W2.getD j 0 := fun {n j} h => by
          rw [List.getD_eq_getElem?_getD, List.getD_eq_getElem?_getD, List.getElem?_take_of_lt h]
        refine while_at (fun m σ' G' => σ' = [some (.ref a), some (.ref e), some (.int lead), some (.ref ra), some (.ref qa), some (.int (S * f)), some (.int f), some (.int (p : Int)), some (.int t), o9, o10, none] ∧ Same H G' ∧ G' qa = some (.lst (vInts ((Qs.map (f * ·)).set p t))) ∧ G' ra = some (.lst (vInts (W2.take m))) ∧ m ≤ W2.length ∧ ∀ k, m ≤ k → W2.getD k 0 = 0) W2.length
          ⟨rfl, sG4, hq, by rw [List.take_length]; exact hra, Nat.le_refl _, fun k hk => getD_out hk⟩ ?_
        rintro m σ' G5 ⟨rfl, sG5, hq5, hr5, ml, off⟩
        have lm : (vInts (W2.take m)).length = m := by rw [vInts_len, List.length_take]; omega
        -- the turn is done
        have done : (0 < m → W2.getD (m - 1) 0 ≠ 0) → ∃ m', m' < W.length ∧ ∃ (r2 q2 : Addr) (Q2 V2 : List Int) (S2 : Int) (p6 p7 p8 p9 p10 : Option V), [some (V.ref a), some (.ref e), some (.int lead), some (.ref ra), some (.ref qa), some (.int (S * f)), some (.int f), some (.int (p : Int)), some (.int t), o9, o10, none] = [some (V.ref a), some (.ref e), some (.int lead), some (.ref r2), some (.ref q2), some (.int S2), p6, p7, p8, p9, p10, none] ∧ Same H G5 ∧ H q2 = none ∧ H r2 = none ∧ q2 ≠ r2 ∧ G5 q2 = some (.lst (vInts Q2)) ∧ G5 r2 = some (.lst (vInts V2)) ∧ DivAt b c L D Q2 V2 S2 ∧ m' = V2.length := fun on => by
          obtain ⟨dv2, sh2⟩ := DivAt.turn (m := m) dv hlead l0 bD hr long f1 f2 fd (by rw [ht, hp]; exact less) off (fun z => ⟨ml, on z⟩)
          rw [ht, hp] at dv2
          exact ⟨_, sh2, ra, qa, _, _, _, _, _, _, _, _, rfl, sG5, nqa, nra, qra, hq5, hr5, dv2, rfl⟩
        refine ⟨_, rfl, _, .inl ⟨_, SqL.of hr5, rfl⟩, ?_⟩
        refine ite2 (fun y => ?_) (fun y => ?_)
        · have m0 : 0 < m := by
            refine Nat.pos_of_ne_zero fun z => ?_
            subst z
            simp [vInts] at y
          have wl : (W2.take m).getLast? = some (W2.getD (m - 1) 0) := by
            rw [List.getLast?_eq_getElem?, List.length_take, Nat.min_eq_left ml, List.getElem?_take_of_lt (by omega), List.getD_eq_getElem?_getD, List.getElem?_eq_getElem (show m - 1 < W2.length by omega)]
            rfl
          refine ⟨_, rfl, _, rfl, ra, _, _, _, rfl, rfl, SqL.of hr5, vInts_last wl, rfl, _, rfl, ?_⟩
          refine ite2 (fun y2 => ?_) (fun y2 => ?_)
          · have z0 : W2.getD (m - 1) 0 = 0 := by simpa using y2
            refine ⟨fun σ' G' => ∃ m', m' < m ∧ (σ' = [some (.ref a), some (.ref e), some (.int lead), some (.ref ra), some (.ref qa), some (.int (S * f)), some (.int f), some (.int (p : Int)), some (.int t), o9, o10, none] ∧ Same H G' ∧ G' qa = some (.lst (vInts ((Qs.map (f * ·)).set p t))) ∧ G' ra = some (.lst (vInts (W2.take m'))) ∧ m' ≤ W2.length ∧ ∀ k, m' ≤ k → W2.getD k 0 = 0), fun _ _ z => z, ?_⟩
            refine ⟨_, rfl, .inl ⟨rfl, _, SqL.of hr5⟩, ra, _, .int (W2.getD (m - 1) 0), rfl, rfl, hr5, ?_, ?_⟩
            · rw [lm, vInts_get (by rw [List.length_take]; omega), getT (by omega)]
            · refine ⟨m - 1, by omega, rfl, same_put sG5 nra, by rw [upd_ne qra]; exact hq5, ?_, by omega, fun k hk => ?_⟩
              · rw [upd_same]
                unfold vInts
                rw [← List.map_dropLast, drop_take ml]
              · by_cases c : k = m - 1
                · rw [c]; exact z0
                · exact off k (by omega)
          · exact done fun _ z0 => y2 (decide_eq_true (by rw [z0]))
        · have m0 : m = 0 := by
            refine Nat.eq_zero_of_not_pos fun z => y ?_
            cases e : vInts (W2.take m) with
            | nil =>
              rw [e] at lm
              simp at lm
              omega
            | cons _ _ => rfl
          exact done fun z => by omega
      · have short : W.length < D.length := by
          have : ¬ ((W.length : Int) ≥ D.length) := fun z => y (decide_eq_true z)
          omega
        exact hK _ _ ⟨ra, qa, Qs, W, S, o6, o7, o8, o9, o10, rfl, sG, hq, hra, dv, short⟩
    rintro σ' G ⟨ra, qa, Qs, W, S, o6, o7, o8, o9, o10, rfl, sG, hq, hra, dv, short⟩
    refine ⟨_, rfl, _, rfl, _, rfl, by show 3 ≤ sizeLine; decide, fun t nt => ?_⟩
    have st := Same.new (o := .tup [.ref qa, .ref ra, .int S]) (fun _ _ e => e : Same G G) nt
    exact k t qa ra Qs W S _ (same_none sG nt) (sG.trans st) upd_same (st _ _ hq) (st _ _ hra) dv short
end
end K03
end
section
set_option maxHeartbeats 8000000
set_option exponentiation.threshold 100000
namespace K03
open PySem PySem.Spec PyProof.Rows L2 LamX NdefX L3 PolyM
abbrev sMInit : Stmt := inClass (top 24) 0
abbrev sPInit : Stmt := inClass (top 36) 0
/-- the classes Poly and Mark -/
structure PolC (K : PySem.W.Frag) (mg : Str → Option Value) (CP CM fP fM : Addr) : Prop where
  made : Mk K CP fP
  c : Cls K CP
  nP : NoAttr K CP "parts"
  nM : NoAttr K CP "mark"
  g : mg "Poly" = some (.ref CP)
  t1 : Top1 K CP
  ty : PySem.W.typeIn K (.ref CP) = some (.type "type")
  mmade : Mk K CM fM
  mc : Cls K CM
  nB : NoAttr K CM "below"
  mg : mg "Mark" = some (.ref CM)
/-- a Poly of these parts -/
def PolyAt (C CP CM : Addr) (H : Hp) (a : Addr) (ps : List (Int × Int)) : Prop := ∃ (dx t : Addr) (xs : List V) (mk dm tb : Addr), H a = some (.ins CP dx [("parts", .ref t), ("mark", .ref mk)]) ∧ H t = some (.tup xs) ∧ Paired (RV C H) xs ps ∧ H mk = some (.ins CM dm [("below", .ref tb)]) ∧ H tb = some (.tup [.str "Ratio"])
theorem PolyAt.same {C CP CM : Addr} {H H' : Hp} {a : Addr} {ps : List (Int × Int)} (h : PolyAt C CP CM H a ps) (s : Same H H') : PolyAt C CP CM H' a ps := by
  obtain ⟨dx, t, xs, mk, dm, tb, h1, h2, h3, h4, h5⟩ := h
  exact ⟨dx, t, xs, mk, dm, tb, s _ _ h1, s _ _ h2, Paired.mapP h3 fun _ _ z => z.same s, s _ _ h4, s _ _ h5⟩
def spMInit (CM : Addr) : Sp := fun vs H Q _ => ∃ (a dx : Addr) (v : V), vs = [.ref a, v] ∧ H a = some (.ins CM dx []) ∧ Q .non (upd H a (.ins CM dx [("below", v)]))
def spPInit (K : PySem.W.Frag) (C CP CM cB : Addr) : Sp := fun vs H Q E => ∃ (a dx : Addr) (v : V), vs = [.ref a, v] ∧ H a = some (.ins CP dx []) ∧ ((∃ u, Flawed K C H v u ∧ Bad cB u H E) ∨
  ∃ ps, Given K C H v ps ∧ ps.length ≤ 100000 ∧ ∀ (m : Nat) (H' : Hp), TrimAt ps m → (∀ b o, H b = some o → b ≠ a → H' b = some o) → PolyAt C CP CM H' a (ps.take m) → Q .non H')
/-- a new Poly, all else as it was -/
def NewPoly (C CP CM : Addr) (H : Hp) (Q : VK) (ps : List (Int × Int)) : Prop := ∀ (a : Addr) (H' : Hp), H a = none → Same H H' → PolyAt C CP CM H' a ps → Q (.ref a) H'
theorem putPM (u v : V) : putF ("mark" : Str) v (putF ("parts" : Str) u []) = ([("parts", u), ("mark", v)] : List (Str × V)) := by
  have ne : ¬ (("parts" : Str) = "mark") := by decide +kernel
  simp [putF, ne]
theorem paired_takeP {α β : Type} {F : α → β → Prop} {l : List α} {m : List β} (p : Paired F l m) : ∀ n, Paired F (l.take n) (m.take n) := by
  induction p with
  | nil => intro n; rw [List.take_nil, List.take_nil]; exact .nil
  | cons a _ ih =>
    intro n
    cases n with
    | zero => exact .nil
    | succ n => exact .cons a (ih n)
theorem cut_to {ws : List V} {m : Nat} (h : m ≤ ws.length) : cutV ws none (some (m : Int)) = ws.take m := by
  unfold cutV
  rw [HT.sIx_none, List.drop_zero, HT.sIx_nat, Nat.sub_zero, show min m ws.length = m by omega]
theorem paired_back {α β : Type} {F : α → β → Prop} {l : List α} {m : List β} (p : Paired F l m) : ∀ {i : Nat} {b : β}, m[i]? = some b → ∃ a, l[i]? = some a ∧ F a b := by
  induction p with
  | nil => intro i a h; cases h
  | cons q _ ih =>
    intro i b h
    cases i with
    | zero => cases h; exact ⟨_, rfl, q⟩
    | succ i => exact ih h
section
variable {P : Program} {w : World} {K : PySem.W.Frag} {mg : Str → Option Value} {base : Heap} {cB cN C fI CP CM fP fM : Addr}
theorem scMInit : FnScope ["self", "below"] ["self", "below"] (defScope sMInit) := ⟨rfl, rfl, rfl, by decide +kernel, rfl, by decide +kernel, by decide +kernel⟩
theorem ok_mInit {fd : FuncData} (F : Fun K "__init__" "Mark.__init__" sMInit fM fd) (PC : PolC K mg CP CM fP fM) : FnOk P w K mg base CX0 1 fM fd ["self", "below"] (spMInit CM) := by
  refine F.ok scMInit (fun vs H Q E h => ?_) (fun cdv A outer s H vs Q E hr h => ?_)
  · obtain ⟨a, dx, v, rfl, _⟩ := h
    rfl
  · obtain ⟨a, dx, v, rfl, ha, q⟩ := h
    refine ⟨_, pss_one (ps_fld (pv 0) (pv 1) rfl), ?_⟩
    exact ⟨_, rfl, _, rfl, a, CM, dx, [], rfl, ha, PC.mc, PC.nB, by decide, q⟩
theorem scPInit : FnScope ["self", "parts", "ratios", "many"] ["self", "parts"] (defScope sPInit) := ⟨rfl, rfl, rfl, by decide +kernel, rfl, by decide +kernel, by decide +kernel⟩
theorem ok_pInit {fd fdM : FuncData} (F : Fun K "__init__" "Poly.__init__" sPInit fP fd) (B : TxtR mg) (bt : mg "tuple" = none) (PC : PolC K mg CP CM fP fM) (R : Rat P w K mg base cB cN C fI)
    (GM : FnOk P w K mg base CX0 1 fM fdM ["self", "below"] (spMInit CM)) (bM : Binds K fdM ["self", "below"] []) (hRL : Dfn P w K mg base (L2.CX P w) 7 "ratio_list" ["values"] (spRL K C cB)) :
    FnOk P w K mg base (L2.CX P w) 8 fP fd ["self", "parts"] (spPInit K C CP CM cB) := by
  refine F.okX scPInit (fun vs H Q E h => ?_) (fun cdv A outer s H vs Q E hr h => ?_)
  · obtain ⟨a, dx, v, rfl, _⟩ := h
    rfl
  · obtain ⟨a, dx, v, rfl, ha, k⟩ := h
    have nd := scPInit.nd
    have hr2 : Room 2 _ := hr.mono (by decide)
    refine ⟨_, pss_cons (ps_set (i := 2) nd rfl (Or.inl rfl) (dcE hRL hr (by decide) (passK (takes_of rfl rfl rfl rfl)) (pa_cons (pv 1) pa_nil)))
      (pss_cons (ps_set (i := 3) nd rfl (Or.inl rfl) (pe_callB call_len_seq (by rfl) B.len PySem.boot_len (pa_cons (pv 2) pa_nil)))
      (pss_cons (ps_while (passes_of rfl) (PW.pt (pw_and (pt_truth (pv 3) (by intro _; rfl)) (pw_and1 (pt_cmpR op_eq (pe_fld (pe_ix ix_list (pv 2) (pe_op op_sub (pv 3) pe_int) (fun _ _ => rfl)) rfl) pe_int (nomark _))))) (pss_one (ps_aug (i := 3) nd rfl (.inl rfl) pe_int ip_sub)))
      (pss_cons (ps_fld (pv 0) (pe_callTy call_tuple_of (by rfl) bt (by decide +kernel) (pa_cons (pe_slice sl_list (pv 2) po_none (po_some (pv 3))) pa_nil)) rfl)
      (pss_one (ps_fld (pv 0) (pe_make (E := E0) PC.mmade GM hr2 (by rfl) PC.mg bM .nil pass0 (pa_cons (pe_tup (pa_cons pe_str pa_nil)) pa_nil)) rfl))))), ?_⟩
    rcases k with ⟨u, fl, q⟩ | ⟨ps, gv, few, q⟩
    · exact ⟨_, rfl, spRL.flawed fl q⟩
    · refine ⟨_, rfl, spRL.good gv ?_⟩
      intro l ws H1 nl s1 hl pw
      have lw := paired_len pw
      refine ⟨_, rfl, l, _, rfl, .inl (SqL.of hl), ?_⟩
      have nea : ∀ {y : V} {p : Int × Int}, RV C H1 y p → ∃ b dx, y = .ref b ∧ b ≠ a ∧ H1 b = some (rat C dx p) := fun {y p} h => by
        obtain ⟨b, dx', rfl, h⟩ := h
        refine ⟨b, dx', rfl, fun z => ?_, h⟩
        subst z
        rw [s1 _ _ ha] at h
        unfold rat at h
        simp at h
      dsimp only [gName]
      refine seq_to (fun σ' G => ∃ m : Nat, σ' = [some (.ref a), some v, some (.ref l), some (.int (m : Int))] ∧ G = H1 ∧ TrimAt ps m) (fun kk hK => ?_) ?_
      · refine while_at (fun m σ' G => σ' = [some (.ref a), some v, some (.ref l), some (.int (m : Int))] ∧ G = H1 ∧ m ≤ ps.length ∧ ∀ k p, m ≤ k → ps[k]? = some p → p.1 = 0) ps.length
          ⟨by rw [← lw]; rfl, rfl, Nat.le_refl _, fun k p h e => by rw [List.getElem?_eq_none h] at e; cases e⟩ ?_
        rintro m σ' G ⟨rfl, rfl, ml, off⟩
        refine ⟨_, rfl, _, rfl, ?_⟩
        refine ite2 (fun y => ?_) (fun y => ?_)
        · have m0 : 0 < m := by
            refine Nat.pos_of_ne_zero fun z => ?_
            subst z
            simp at y
          have e := List.getElem?_eq_getElem (show m - 1 < ps.length by omega)
          obtain ⟨y0, ey, ry⟩ := paired_back pw e
          obtain ⟨b, dx', rfl, _, hb⟩ := nea ry
          have i1 : (m : Int) - 1 = ((m - 1 : Nat) : Int) := by omega
          refine ⟨_, rfl, _, rfl, _, _, rfl, rfl, l, _, _, _, rfl, rfl, SqL.of hl, (by rw [i1]; exact atI_nat ey), b, C, dx', _, _, rfl, hb, R.cls.c, R.cls.nT, rfl, rfl, _, rfl, ?_⟩
          refine ite2 (fun y2 => ?_) (fun y2 => ?_)
          · refine ⟨fun σ' G' => ∃ m', m' < m ∧ (σ' = [some (.ref a), some v, some (.ref l), some (.int (m' : Int))] ∧ G' = G ∧ m' ≤ ps.length ∧ ∀ k p, m' ≤ k → ps[k]? = some p → p.1 = 0), fun _ _ z => z, ?_⟩
            refine ⟨_, rfl, _, _, rfl, rfl, m - 1, by omega, by rw [← i1]; rfl, rfl, by omega, fun k p hk hp => ?_⟩
            by_cases c : k = m - 1
            · subst c
              rw [e] at hp
              cases hp
              simpa using y2
            · exact off k p (by omega) hp
          · refine hK _ _ ⟨m, rfl, rfl, ml, off, fun p _ hp z => ?_⟩
            rw [e] at hp
            cases hp
            exact y2 (decide_eq_true (by rw [z]))
        · have m0 : m = 0 := by
            refine Nat.eq_zero_of_not_pos fun z => y ?_
            simp
            omega
          exact hK _ _ ⟨m, rfl, rfl, ml, off, fun p z => by omega⟩
      rintro σ' G ⟨m, rfl, rfl, tr⟩
      have lm : m ≤ ws.length := by rw [lw]; exact tr.le
      refine ⟨_, rfl, _, rfl, _, rfl, l, _, rfl, SqL.of hl, fun p np => ?_⟩
      rw [cut_to lm]
      have sp := Same.new (o := .lst (ws.take m)) (fun _ _ e => e : Same G G) np
      refine ⟨p, _, rfl, .inl ⟨SqL.of upd_same, fun t nt => ?_⟩⟩
      have st := sp.trans (Same.new (o := .tup (ws.take m)) (fun _ _ e => e) nt)
      have ht : upd (upd G p (.lst (ws.take m))) t (.tup (ws.take m)) t = some (.tup (ws.take m)) := upd_same
      generalize upd (upd G p (.lst (ws.take m))) t (.tup (ws.take m)) = G2 at st ht ⊢
      have ha2 : G2 a = some (.ins CP dx []) := st _ _ (s1 _ _ ha)
      have ta : t ≠ a := fun z => by rw [z, ha2] at ht; cases ht
      refine ⟨_, rfl, a, CP, dx, [], rfl, ha2, PC.c, PC.nP, by decide, ?_⟩
      refine ⟨by show 1 ≤ sizeLine; decide, fun tb nb => ?_⟩
      intro mk dm nm ndm dmk
      have nea2 : ∀ {b : Addr}, upd G2 a (.ins CP dx (putF "parts" (.ref t) [])) b = none → b ≠ a := fun {b} h z => by rw [z, upd_same] at h; cases h
      have tba : tb ≠ a := nea2 nb
      have nmk := nm
      rw [upd_ne (fun z => by rw [z, upd_same] at nm; cases nm)] at nmk
      have ndm' := ndm
      rw [upd_ne (fun z => by rw [z, upd_same] at ndm; cases ndm)] at ndm'
      have mka : mk ≠ a := nea2 nmk
      have dma : dm ≠ a := nea2 ndm'
      have mtb : mk ≠ tb := fun z => by rw [z, upd_same] at nm; cases nm
      have dtb : dm ≠ tb := fun z => by rw [z, upd_same] at ndm; cases ndm
      have old : ∀ {b : Addr} {o : HO}, G2 b = some o → b ≠ a → b ≠ tb ∧ b ≠ mk ∧ b ≠ dm := fun {b o} h ba => by
        refine ⟨fun z => ?_, fun z => ?_, fun z => ?_⟩
        · rw [← z, upd_ne ba, h] at nb; cases nb
        · rw [← z, upd_ne ba, h] at nmk; cases nmk
        · rw [← z, upd_ne ba, h] at ndm'; cases ndm'
      refine ⟨mk, dm, _, rfl, upd_same, rfl, _, rfl, a, CP, dx, putF "parts" (.ref t) [], rfl, ?_, PC.c, PC.nM, by simp [putF], ?_⟩
      · rw [upd_ne mka.symm, upd_ne mka.symm, upd_ne dma.symm, upd_ne tba.symm]
        exact upd_same
      · rw [putPM]
        refine q m _ tr (fun b o hb ba => ?_) ?_
        · obtain ⟨o1, o2, o3⟩ := old (st _ _ (s1 _ _ hb)) ba
          rw [upd_ne ba, upd_ne o2, upd_ne o2, upd_ne o3, upd_ne o1, upd_ne ba]
          exact st _ _ (s1 _ _ hb)
        · refine ⟨dx, t, ws.take m, mk, dm, tb, upd_same, ?_, ?_, ?_, ?_⟩
          · obtain ⟨o1, o2, o3⟩ := old ht ta
            rw [upd_ne ta, upd_ne o2, upd_ne o2, upd_ne o3, upd_ne o1, upd_ne ta]
            exact ht
          · refine Paired.mapP (paired_takeP pw m) fun y p z => ?_
            obtain ⟨b, dx', e, ba, hb⟩ := nea z
            refine ⟨b, dx', e, ?_⟩
            obtain ⟨o1, o2, o3⟩ := old (st _ _ hb) ba
            rw [upd_ne ba, upd_ne o2, upd_ne o2, upd_ne o3, upd_ne o1, upd_ne ba]
            exact st _ _ hb
          · rw [upd_ne mka]
            exact upd_same
          · rw [upd_ne tba, upd_ne mtb.symm, upd_ne mtb.symm, upd_ne dtb.symm]
            exact upd_same
end
end K03
end
section
set_option maxHeartbeats 4000000
namespace K03
open PolyM
/-- the integers of the parts by M -/
def wholeOf (ps : List (Int × Int)) (M : Int) : List Int := ps.map fun p => p.1 * M.fdiv p.2
/-- the pairs of integers by B -/
def byOf (L : List Int) (B : Int) : List (Int × Int) := L.map fun z => low z B
theorem ci_at {L : List Int} {k : Nat} {z : Int} (h : L[k]? = some z) : ci L k = (z : _root_.Rat) := by
  unfold ci
  rw [List.getD_eq_getElem?_getD, h]
  rfl
theorem ci_out {L : List Int} {k : Nat} (h : L.length ≤ k) : ci L k = 0 := by
  unfold ci
  rw [getD_out h]
  rfl
theorem wholeOf_len {ps : List (Int × Int)} {M : Int} : (wholeOf ps M).length = ps.length := List.length_map ..
theorem ci_whole {ps : List (Int × Int)} {M : Int} (h : ∀ p ∈ ps, p.2 ∣ M ∧ p.2 ≠ 0) (k : Nat) : ci (wholeOf ps M) k = (M : _root_.Rat) * cf ps k := by
  by_cases c : k < ps.length
  · have e := List.getElem?_eq_getElem c
    obtain ⟨d, n⟩ := h _ (List.getElem_mem c)
    rw [ci_at (z := ps[k].1 * M.fdiv ps[k].2) (by unfold wholeOf; rw [List.getElem?_map, e]; rfl), cf_at e]
    have e2 : ps[k].2 * M.fdiv ps[k].2 = M := by
      obtain ⟨z, rfl⟩ := d
      rw [Int.mul_fdiv_cancel_left _ n]
    generalize M.fdiv ps[k].2 = f at e2 ⊢
    have e3 := congrArg (fun z : Int => (z : _root_.Rat)) e2
    simp only [Rat.intCast_mul] at e3
    have n2 := cast_ne n
    unfold val
    rw [Rat.intCast_mul]
    grind
  · rw [ci_out (by rw [wholeOf_len]; omega), cf_out (by omega)]
    grind
theorem cf_by {L : List Int} {B : Int} (h : B ≠ 0) (k : Nat) : cf (byOf L B) k = ci L k / (B : _root_.Rat) := by
  by_cases c : k < L.length
  · have e := List.getElem?_eq_getElem c
    rw [cf_at (p := low L[k] B) (by unfold byOf; rw [List.getElem?_map, e]; rfl), ci_at e, val_low h]
  · rw [cf_out (by unfold byOf; rw [List.length_map]; omega), ci_out (by omega)]
    have := cast_ne h
    grind
theorem byOf_low {L : List Int} {B : Int} (h : B ≠ 0) : ∀ p ∈ byOf L B, Low p := fun p hp => by
  unfold byOf at hp
  obtain ⟨z, _, rfl⟩ := List.mem_map.mp hp
  exact low_low h
theorem by_is {L : List Int} {B : Int} {q : List (Int × Int)} {m : Nat} (h : B ≠ 0) (t : TrimAt (byOf L B) m) (hq : IsP q) (e : ∀ k, ci L k / (B : _root_.Rat) = cf q k) : (byOf L B).take m = q :=
  isP_ext (t.isP (byOf_low h)) hq fun k => by rw [t.cf (byOf_low h), cf_by h, e]
theorem ci_mulR {L : List Int} {f : Int} (k : Nat) : ci (L.map (· * f)) k = ci L k * (f : _root_.Rat) := by
  by_cases c : k < L.length
  · have e := List.getElem?_eq_getElem c
    rw [ci_at (z := L[k] * f) (by rw [List.getElem?_map, e]; rfl), ci_at e, Rat.intCast_mul]
  · rw [ci_out (by rw [List.length_map]; omega), ci_out (by omega)]
    grind
/-- what a division of the integers tells of the polys -/
theorem quo_is {ps qs q r : List (Int × Int)} {M N S : Int} {b c : Nat} {Q W : List Int} (hp : ∀ p ∈ ps, p.2 ∣ M ∧ p.2 ≠ 0) (hq : ∀ p ∈ qs, p.2 ∣ N ∧ p.2 ≠ 0) (M0 : M ≠ 0) (N0 : N ≠ 0) (pq : IsP qs) (nq : qs ≠ []) (q1 : IsP q) (r1 : IsP r) (rl : r.length < qs.length)
    (eq : ∀ k, cf ps k = conv (cf q) (cf qs) k + cf r k) (dv : DivAt b c (wholeOf ps M) (wholeOf qs N) Q W S) (wl : W.length < qs.length) :
    S * M ≠ 0 ∧ (∀ m, TrimAt (byOf (Q.map (· * N)) (S * M)) m → (byOf (Q.map (· * N)) (S * M)).take m = q) ∧ ∀ m, TrimAt (byOf W (S * M)) m → (byOf W (S * M)).take m = r := by
  have s0 : S ≠ 0 := by have := dv.sp; omega
  have sm0 := Int.mul_ne_zero s0 M0
  have cs := cast_ne s0
  have cm := cast_ne M0
  have cn := cast_ne N0
  have key := div_one (q := cf q) (q' := fun k => ci (Q.map (· * N)) k / ((S * M : Int) : _root_.Rat)) (r := cf r) (r' := fun k => ci W k / ((S * M : Int) : _root_.Rat)) (b := cf qs) (n := qs.length - 1) (N := q.length + Q.length)
    (fun j hj => cf_out (by omega)) (pq.last nq) (fun i hi => cf_out (by omega)) (fun i hi => by rw [ci_out (by rw [List.length_map]; omega), Rat.intCast_mul]; grind) (fun k hk => cf_out (by omega)) (fun k hk => by rw [ci_out (by omega), Rat.intCast_mul]; grind) (fun k => by
      have e1 := dv.eq k
      rw [ci_whole hp] at e1
      have e2 : conv (ci Q) (ci (wholeOf qs N)) k = (N : _root_.Rat) * conv (ci Q) (cf qs) k := by
        rw [← conv_mulR]
        exact conv_congr (fun _ => rfl) (fun i => ci_whole hq i) k
      have e3 : conv (fun k => ci (Q.map (· * N)) k / ((S * M : Int) : _root_.Rat)) (cf qs) k = ((N : _root_.Rat) / ((S * M : Int) : _root_.Rat)) * conv (ci Q) (cf qs) k := by
        rw [← conv_mul]
        refine conv_congr (fun i => ?_) (fun _ => rfl) k
        rw [ci_mulR, Rat.intCast_mul]
        grind
      show conv (cf q) (cf qs) k + cf r k = conv (fun k => ci (Q.map (· * N)) k / ((S * M : Int) : _root_.Rat)) (cf qs) k + ci W k / ((S * M : Int) : _root_.Rat)
      rw [← eq k, e3, Rat.intCast_mul]
      rw [e2] at e1
      grind)
  exact ⟨sm0, fun m t => by_is sm0 t q1 fun k => (key.1 k).symm, fun m t => by_is sm0 t r1 fun k => (key.2 k).symm⟩
end K03
end
section
set_option maxHeartbeats 8000000
set_option exponentiation.threshold 100000
namespace K03
open PySem PySem.Spec PyProof.Rows L2 LamX NdefX L3 PolyM
abbrev sShB : Stmt := top 14
abbrev sWhl : Stmt := top 15
abbrev sPBy : Stmt := top 37
theorem Given.same {K : PySem.W.Frag} {C : Addr} {H H' : Hp} {v : V} {ps : List (Int × Int)} (h : Given K C H v ps) (s : Same H H') : Given K C H' v ps := by
  obtain ⟨xs, h1, h2, h3⟩ := h
  exact ⟨xs, h1.same s, h2, Paired.mapP h3 fun _ _ z => z.same s⟩
theorem Flawed.same {K : PySem.W.Frag} {C : Addr} {H H' : Hp} {v u : V} (h : Flawed K C H v u) (s : Same H H') : Flawed K C H' v u := by
  rcases h with ⟨h, e⟩ | ⟨xs, ps, rest, h1, h2, h3, h4⟩
  · exact .inl ⟨h.same s, e⟩
  · exact .inr ⟨xs, ps, rest, h1.same s, h2, Paired.mapP h3 fun _ _ z => z.same s, h4.same s⟩
/-- the class Poly as it stands in the text -/
structure Pol (P : Program) (w : World) (K : PySem.W.Frag) (mg : Str → Option Value) (base : Heap) (cB C CP CM fP fM : Addr) : Prop where
  cls : PolC K mg CP CM fP fM
  init : ∃ fd : FuncData, FnOk P w K mg base (L2.CX P w) 8 fP fd ["self", "parts"] (spPInit K C CP CM cB) ∧ Binds K fd ["self", "parts"] []
/-- what Poly(v) tells -/
def PolOf (K : PySem.W.Frag) (C CP CM cB : Addr) (H : Hp) (E : XK) (v : V) (Q : VK) : Prop := (∃ u, Flawed K C H v u ∧ Bad cB u H E) ∨ ∃ ps, Given K C H v ps ∧ ps.length ≤ 100000 ∧ ∀ m : Nat, TrimAt ps m → NewPoly C CP CM H Q (ps.take m)
def tPol (K : PySem.W.Frag) (C CP CM cB : Addr) (E : XK) (te : TE) : TE := fun σ H Q => te σ H fun v H1 => PolOf K C CP CM cB H1 E v Q
theorem NewPoly.grow {C CP CM : Addr} {H H' : Hp} {Q : VK} {ps : List (Int × Int)} (n : NewPoly C CP CM H Q ps) (s : Same H H') : NewPoly C CP CM H' Q ps := fun a G na sG p => n a G (same_none s na) (s.trans sG) p
/-- the least integer that all bottoms divide -/
def lcmB (ps : List (Int × Int)) : Nat := ps.foldl (fun m p => Nat.lcm m p.2.natAbs) 1
theorem lcmB_snoc {ps : List (Int × Int)} {p : Int × Int} : lcmB (ps ++ [p]) = Nat.lcm (lcmB ps) p.2.natAbs := by
  unfold lcmB
  rw [List.foldl_append]
  rfl
theorem lcm_fold {M : Nat} : ∀ (ps : List (Int × Int)) (m : Nat), m ∣ M → (∀ p ∈ ps, p.2.natAbs ∣ M) → ps.foldl (fun m p => Nat.lcm m p.2.natAbs) m ∣ M
  | [], _, h, _ => h
  | p :: ps, m, h, hp => lcm_fold ps _ (Nat.lcm_dvd h (hp p List.mem_cons_self)) fun q hq => hp q (List.mem_cons_of_mem _ hq)
theorem lcmB_dvd {ps : List (Int × Int)} {M : Nat} (h : ∀ p ∈ ps, p.2 ∣ (M : Int)) : lcmB ps ∣ M := lcm_fold ps 1 (Nat.one_dvd _) fun p hp => by
  have := Int.natAbs_dvd_natAbs.mpr (h p hp)
  rwa [Int.natAbs_natCast] at this
theorem fold_dvd : ∀ (ps : List (Int × Int)) (m : Nat), m ∣ ps.foldl (fun m p => Nat.lcm m p.2.natAbs) m ∧ ∀ p ∈ ps, p.2.natAbs ∣ ps.foldl (fun m p => Nat.lcm m p.2.natAbs) m
  | [], m => ⟨Nat.dvd_refl _, fun _ h => (List.not_mem_nil h).elim⟩
  | p :: ps, m => by
    obtain ⟨h1, h2⟩ := fold_dvd ps (Nat.lcm m p.2.natAbs)
    refine ⟨Nat.dvd_trans (Nat.dvd_lcm_left _ _) h1, fun q hq => ?_⟩
    rcases List.mem_cons.mp hq with rfl | hq
    · exact Nat.dvd_trans (Nat.dvd_lcm_right _ _) h1
    · exact h2 q hq
theorem lcmB_all {ps : List (Int × Int)} {p : Int × Int} (h : p ∈ ps) : p.2 ∣ (lcmB ps : Int) := by
  refine Int.natAbs_dvd_natAbs.mp ?_
  rw [Int.natAbs_natCast]
  exact (fold_dvd ps 1).2 p h
theorem lcmB_take {ps : List (Int × Int)} {M : Nat} (h : ∀ p ∈ ps, p.2 ∣ (M : Int)) (i : Nat) : lcmB (ps.take i) ∣ M := lcmB_dvd fun p hp => h p (List.mem_of_mem_take hp)
theorem lcmB_pos {ps : List (Int × Int)} {M : Nat} (hM : 0 < M) (h : ∀ p ∈ ps, p.2 ∣ (M : Int)) : 0 < lcmB ps := Nat.pos_of_dvd_of_pos (lcmB_dvd h) hM
theorem paired_intsF {α : Type} {f : α → Int} {ws : List V} {ps : List α} (h : Paired (fun (y : V) (p : α) => y = .int (f p)) ws ps) : ws = vInts (ps.map f) := by
  induction h with
  | nil => rfl
  | cons h _ ih =>
    rw [h, ih]
    rfl
theorem paired_mapR {α β γ : Type} {F : α → γ → Prop} {g : β → γ} {l : List α} {m : List β} (h : Paired (fun a b => F a (g b)) l m) : Paired F l (m.map g) := by
  induction h with
  | nil => exact .nil
  | cons h _ ih => exact .cons h ih
def spShB (K : PySem.W.Frag) (C : Addr) : Sp := fun vs H Q _ => ∃ (v : V) (xs : List V) (ps : List (Int × Int)) (M : Nat), vs = [v] ∧ SeqV K H v xs ∧ Paired (RV C H) xs ps ∧ 0 < M ∧ M < 2 ^ 9000 ∧ (∀ p ∈ ps, p.2 ∣ (M : Int)) ∧ ∀ H', Same H H' → Q (.int (lcmB ps : Nat)) H'
def spWhl (K : PySem.W.Frag) (C : Addr) : Sp := fun vs H Q _ => ∃ (v : V) (xs : List V) (ps : List (Int × Int)) (M R : Nat), vs = [v] ∧ SeqV K H v xs ∧ xs.length ≤ sizeLine ∧ Paired (RV C H) xs ps ∧ 0 < M ∧ M < 2 ^ 9000 ∧ (∀ p ∈ ps, p.2 ∣ (M : Int) ∧ 0 < p.2 ∧ p.1.natAbs < 2 ^ R) ∧ R ≤ 400000 ∧
  ∀ (t l : Addr) (H' : Hp), H t = none → Same H H' → H' t = some (.tup [.ref l, .int (lcmB ps : Nat)]) → H' l = some (.lst (vInts (wholeOf ps (lcmB ps : Nat)))) → Q (.ref t) H'
section
variable {X : Cx} {cB cN C fI CP CM fP fM : Addr} {e : Expr} {te : TE} {p pos : Pos} {E : XK}
theorem pe_fldK {f : Str} (K : PySem.W.Frag) (he : PE X e te) (hK : X.K = K := by rfl) (hb : attributeBase e f X.env (eval e X.env) = eval e X.env := by rfl) : PE X (.Attribute e f pos) (tFld K te f) := by
  subst hK
  exact pe_fld he hb
/-- Poly(e) -/
theorem pe_pol (L : Pol X.prog X.w X.K X.mg X.base cB C CP CM fP fM) (hr : Room 9 X.A) (hx : Passes (L2.CX X.prog X.w) X E) (he : PE X e te) (hg : Gl X "Poly" := by rfl)
    (hs : starEach [e] X.env = (false, eval e X.env) :: starEach [] X.env := by rfl) : PE X (.Call (.Name "Poly" p) [e] [] pos) (tPol X.K C CP CM cB E te) := by
  obtain ⟨fd, F, b⟩ := L.init
  refine ⟨fun pins s σ H Q I h => wpAny_Call_Name_kw (ld_glob I hg L.cls.g ?_ (by decide))⟩
  refine PySem.W.callWith_K (h₀ := X.base) I.ok.mod.kin L.cls.made.kp ?_ hs (by rfl)
  rw [hs]
  show wpAny _ _ (spliced ((false, eval e X.env) :: backTo pos (starEach [] X.env))) _ _ s
  refine Calls.spliced_cons (thn (he.run pins s σ H _ I h) fun w1 s1 ⟨x, H1, I1, r1, q1⟩ => Calls.spliced_nil ⟨I1.kIn, ?_⟩)
  refine run_make (vs := [x]) (dvs := []) L.cls.made F hr b .nil hx I1 (.cons r1 .nil) fun a dx ha hd ne => ?_
  have s : Same H1 (upd (upd H1 dx (.own a)) a (.ins CP dx [])) := Same.new (Same.new (fun _ _ z => z) hd) (by rw [upd_ne ne.symm]; exact ha)
  refine ⟨a, dx, x, rfl, upd_same, ?_⟩
  rcases q1 with ⟨u, fl, bd⟩ | ⟨ps, gv, few, q⟩
  · exact .inl ⟨u, fl.same s, bd.mono s⟩
  · refine .inr ⟨ps, gv.same s, few, fun m H' tr old pa => ⟨rfl, q m tr a H' ha (fun b o hb => ?_) pa⟩⟩
    exact old b o (s _ _ hb) (ne_of_none hb ha)
end
section
variable {P : Program} {w : World} {K : PySem.W.Frag} {mg : Str → Option Value} {base : Heap} {cB cN C fI CP CM fP fM : Addr}
theorem scShB : FnScope ["ratios", "shared", "ratio"] ["ratios"] (defScope sShB) := ⟨rfl, rfl, rfl, by decide +kernel, rfl, by decide +kernel, by decide +kernel⟩
theorem ok_shB {f : Addr} {fd : FuncData} (F : Fun K "shared_bottom" "shared_bottom" sShB f fd) (R : Rat P w K mg base cB cN C fI) (bl : mg "lcm" = some (.builtin "math.lcm")) : FnOk P w K mg base CX0 1 f fd ["ratios"] (spShB K C) := by
  refine F.ok scShB (fun vs H Q E h => ?_) (fun cdv A outer s H vs Q E hr h => ?_)
  · obtain ⟨v, xs, ps, M, rfl, _⟩ := h
    rfl
  · obtain ⟨v, xs, ps, M, rfl, sq, pr, M0, Mb, hM, k⟩ := h
    have nd := scShB.nd
    refine ⟨_, pss_cons (ps_set (i := 1) nd rfl (Or.inl rfl) pe_int)
      (pss_cons (ps_for PassesOwn.never rfl (pi_or (pi_list (pv 0)) (pi_tup (pv 0))) (pg_name (i := 2) nd rfl (Or.inl rfl)) (pss_one (ps_if (pt_cmpR op_ne (pe_fld (pv 2) rfl) pe_int (nomark _)) (pss_one (ps_set (i := 1) nd rfl (Or.inl rfl) (pe_callBfun cr_lcm (by rfl) bl (pa_cons (pv 1) (pa_cons (pe_fld (pv 2) rfl) pa_nil))))) pss_nil)))
      (pss_one (ps_ret (pv 1)))), ?_⟩
    refine seq_to (fun σ' G => σ' = [some v, some (.int 1), none] ∧ G = H) (fun kk hK => hK _ _ ⟨rfl, rfl⟩) ?_
    rintro σ' H ⟨rfl, rfl⟩
    refine for_seq (K := K) (v := v) (xs := xs) (fun R r => ⟨_, rfl, r⟩) sq (fun i σ' G => G = H ∧ ∃ o, σ' = [some v, some (.int (lcmB (ps.take i) : Nat)), o]) ⟨rfl, none, rfl⟩ (fun i σ' G z => by rw [z.1]; exact fun _ _ e => e) ?_ ?_
    · rintro i x σ' G hx ⟨rfl, o, rfl⟩
      obtain ⟨q, hq, a, dx, rfl, ha⟩ := paired_at pr hx
      have small : ∀ {n : Nat}, n ∣ M → n < 2 ^ 9000 := fun h => Nat.lt_of_le_of_lt (Nat.le_of_dvd M0 h) Mb
      have qd : q.2.natAbs ∣ M := by
        have := Int.natAbs_dvd_natAbs.mpr (hM q (List.mem_of_getElem? hq))
        rwa [Int.natAbs_natCast] at this
      refine ⟨_, rfl, a, C, dx, _, _, rfl, ha, R.cls.c, R.cls.nB, rfl, rfl, _, rfl, ?_⟩
      refine ite2 (fun h1 => ?_) (fun h1 => ?_)
      · refine ⟨_, rfl, _, rfl, a, C, dx, _, _, rfl, ha, R.cls.c, R.cls.nB, rfl, _, _, rfl, ?_, small qd, rfl, some (.ref a), ?_⟩
        · rw [Int.natAbs_natCast]
          exact small (lcmB_take hM i)
        · rw [take_snoc hq, lcmB_snoc]
          rfl
      · have e1 : q.2 = 1 := by simpa using h1
        refine ⟨rfl, some (.ref a), ?_⟩
        rw [take_snoc hq, lcmB_snoc, e1]
        simp
    · rintro σ' G ⟨rfl, o, rfl⟩
      rw [paired_len pr, List.take_length]
      exact ⟨_, rfl, k _ fun _ _ e => e⟩
theorem scWhl : FnScope ["ratios", "bottom", "ratio"] ["ratios"] (defScope sWhl) := ⟨rfl, rfl, rfl, by decide +kernel, rfl, by decide +kernel, by decide +kernel⟩
theorem fdiv_small {M q : Int} (h : q ∣ M) : (M.fdiv q).natAbs ≤ M.natAbs := by
  obtain ⟨z, rfl⟩ := h
  by_cases c : q = 0
  · subst c; simp
  · rw [Int.mul_fdiv_cancel_left _ c, Int.natAbs_mul]
    exact Nat.le_mul_of_pos_left _ (Int.natAbs_pos.mpr c)
theorem ok_whl {f : Addr} {fd : FuncData} (F : Fun K "whole_parts" "whole_parts" sWhl f fd) (R : Rat P w K mg base cB cN C fI) (hSB : Dfn P w K mg base CX0 1 "shared_bottom" ["ratios"] (spShB K C)) : FnOk P w K mg base CX0 2 f fd ["ratios"] (spWhl K C) := by
  refine F.ok scWhl (fun vs H Q E h => ?_) (fun cdv A outer s H vs Q E hr h => ?_)
  · obtain ⟨v, xs, ps, M, R, rfl, _⟩ := h
    rfl
  · obtain ⟨v, xs, ps, M, B, rfl, sq, few, pr, M0, Mb, hM, lB, k⟩ := h
    have nd := scWhl.nd
    refine ⟨_, pss_cons (ps_set (i := 1) nd rfl (Or.inr rfl) (dc hSB hr (by decide) (pa_cons (pv 0) pa_nil)))
      (pss_cons (ps_if (pt_cmpR op_eq (pv 1) pe_int (nomark _)) (pss_one (ps_ret (pe_tup (pa_cons (pe_lc (own := [("ratio", 2)]) (g := gName 2) (tt := tYes) rfl nd (pi_or (pi_list (pv 0)) (pi_tup (pv 0))) (blkOk_by (N := ["ratios", "bottom", "ratio"]) (sc := defScope sWhl) (by decide +kernel)) (fun _ _ _ _ _ => pg_name (i := 2) nd rfl (Or.inl rfl)) (fun _ _ _ _ _ => pts_nil) (fun _ _ _ _ _ => by exact (pe_fldK K (pv 2)))) (pa_cons pe_int pa_nil))))) pss_nil)
      (pss_one (ps_ret (pe_tup (pa_cons (pe_lc (own := [("ratio", 2)]) (g := gName 2) (tt := tYes) rfl nd (pi_or (pi_list (pv 0)) (pi_tup (pv 0))) (blkOk_by (N := ["ratios", "bottom", "ratio"]) (sc := defScope sWhl) (by decide +kernel)) (fun _ _ _ _ _ => pg_name (i := 2) nd rfl (Or.inl rfl)) (fun _ _ _ _ _ => pts_nil) (fun _ _ _ _ _ => by exact (pe_op op_mulW (pe_fldK K (pv 2)) (pe_op op_fdivZ (pv 1) (pe_fldK K (pv 2)))))) (pa_cons (pv 1) pa_nil)))))), ?_⟩
    have lp : 0 < lcmB ps := lcmB_pos M0 fun p hp => (hM p hp).1
    have lM : lcmB ps < 2 ^ 9000 := Nat.lt_of_le_of_lt (Nat.le_of_dvd M0 (lcmB_dvd fun p hp => (hM p hp).1)) Mb
    refine ⟨_, rfl, v, xs, ps, M, rfl, sq, pr, M0, Mb, fun p hp => (hM p hp).1, fun G sG => ?_⟩
    refine ⟨_, rfl, rfl, _, rfl, ?_⟩
    refine ite2 (fun h1 => ?_) (fun h1 => ?_)
    · have e1 : ((lcmB ps : Nat) : Int) = 1 := by simpa using h1
      have eo : ∀ p ∈ ps, p.2 = 1 := fun p hp => by
        have d := lcmB_all hp
        rw [e1] at d
        have := Int.le_of_dvd (by decide) d
        have := (hM p hp).2.1
        omega
      dsimp only [gName, tRet, tTup, tCons, tNil, List.map]
      refine lc_map (K := K) (v := v) (xs := xs) (bs := ps) (Rr := fun _ _ (y : V) (p : Int × Int) => y = .int p.1) (fun R r => ⟨_, rfl, r⟩) (sq.same sG) few (paired_len pr) (fun _ _ _ _ _ h _ => h) (fun _ _ _ _ _ _ _ h => h) ?_ ?_
      · intro D i x p G2 rs Kc hx hp s2 hD kc
        obtain ⟨q, hq, a, dx, rfl, ha⟩ := paired_at pr hx
        rw [hp] at hq
        cases hq
        exact ⟨_, rfl, a, C, dx, _, _, rfl, s2 _ _ (sG _ _ ha), R.cls.c, R.cls.nT, rfl, kc _ _ (fun _ _ e => e) rfl⟩
      · intro l ws G2 nl s2 hl pw
        have ew : ws = vInts (wholeOf ps (lcmB ps : Nat)) := by
          rw [paired_intsF (f := fun p : Int × Int => p.1) pw, e1]
          refine congrArg vInts (List.map_congr_left fun p hp => ?_)
          rw [eo p hp]
          simp
        refine ⟨by show 2 ≤ sizeLine; decide, fun t nt => ?_⟩
        have st := Same.new (o := .tup [.ref l, .int 1]) (fun _ _ e => e : Same G2 G2) nt
        exact k t l _ (same_none (sG.trans s2) nt) (sG.trans (s2.trans st)) (by rw [e1]; exact upd_same) (by rw [← ew]; exact st _ _ hl)
    dsimp only [tNext, gName, tRet, tTup, tCons, tNil, List.map]
    refine lc_map (K := K) (v := v) (xs := xs) (bs := ps) (Rr := fun _ _ (y : V) (p : Int × Int) => y = .int (p.1 * ((lcmB ps : Nat) : Int).fdiv p.2)) (fun R r => ⟨_, rfl, r⟩) (sq.same sG) few (paired_len pr) (fun _ _ _ _ _ h _ => h) (fun _ _ _ _ _ _ _ h => h) ?_ ?_
    · intro D i x p G2 rs Kc hx hp s2 hD kc
      obtain ⟨q, hq, a, dx, rfl, ha⟩ := paired_at pr hx
      rw [hp] at hq
      cases hq
      have mp := List.mem_of_getElem? hp
      obtain ⟨h1, h2, h3⟩ := hM p mp
      have pb : p.2.natAbs ≤ lcmB ps := Nat.le_of_dvd lp (by
        have := Int.natAbs_dvd_natAbs.mpr (lcmB_all mp)
        rwa [Int.natAbs_natCast] at this)
      have ha2 := s2 _ _ (sG _ _ ha)
      refine ⟨_, rfl, a, C, dx, _, _, rfl, ha2, R.cls.c, R.cls.nT, rfl, _, rfl, _, rfl, a, C, dx, _, _, rfl, ha2, R.cls.c, R.cls.nB, rfl, _, _, rfl, rfl, ?_, _, _, rfl, rfl, ?_, kc _ _ (fun _ _ e => e) rfl⟩
      · exact ⟨Int.ne_of_gt h2, log2_le (Nat.le_refl _) (Int.natAbs_pos.mpr (Int.ne_of_gt h2)) (Nat.lt_of_le_of_lt pb lM) (by decide)⟩
      · have fb : (((lcmB ps : Nat) : Int).fdiv p.2).natAbs < 2 ^ 9000 := Nat.lt_of_le_of_lt (fdiv_small (lcmB_all mp)) (by rw [Int.natAbs_natCast]; exact lM)
        exact mul_fit h3 fb (by omega)
    · intro l ws G2 nl s2 hl pw
      have ew : ws = vInts (wholeOf ps (lcmB ps : Nat)) := paired_intsF (f := fun p : Int × Int => p.1 * ((lcmB ps : Nat) : Int).fdiv p.2) pw
      refine ⟨_, rfl, by show 2 ≤ sizeLine; decide, fun t nt => ?_⟩
      have st := Same.new (o := .tup [.ref l, .int (lcmB ps : Nat)]) (fun _ _ e => e : Same G2 G2) nt
      exact k t l _ (same_none (sG.trans s2) nt) (sG.trans (s2.trans st)) upd_same (by rw [← ew]; exact st _ _ hl)
def spPBy (K : PySem.W.Frag) (C CP CM : Addr) : Sp := fun vs H Q _ => ∃ (l : Addr) (L : List Int) (B : Int), vs = [.ref l, .int B] ∧ H l = some (.lst (vInts L)) ∧ L.length ≤ 100000 ∧ B ≠ 0 ∧ Sz B ∧ ∀ m, TrimAt (byOf L B) m → NewPoly C CP CM H Q ((byOf L B).take m)
theorem scPBy : FnScope ["parts", "bottom", "part"] ["parts", "bottom"] (defScope sPBy) := ⟨rfl, rfl, rfl, by decide +kernel, rfl, by decide +kernel, by decide +kernel⟩
theorem ok_pby {f : Addr} {fd : FuncData} (F : Fun K "poly_by" "poly_by" sPBy f fd) (R : Rat P w K mg base cB cN C fI) (L : Pol P w K mg base cB C CP CM fP fM) : FnOk P w K mg base (L2.CX P w) 10 f fd ["parts", "bottom"] (spPBy K C CP CM) := by
  refine F.okX scPBy (fun vs H Q E h => ?_) (fun cdv A outer s H vs Q E hr h => ?_)
  · obtain ⟨l, M, B, rfl, _⟩ := h
    rfl
  · obtain ⟨l, N, B, rfl, hl, few, b0, bs, k⟩ := h
    have nd := scPBy.nd
    have hr5 : Room 5 _ := hr.mono (by decide)
    refine ⟨_, pss_one (ps_ret (pe_pol (E := E) L hr (passK (takes_of rfl rfl rfl rfl)) (pe_lc (own := [("part", 2)]) (g := gName 2) (tt := tYes) rfl nd (pi_list (pv 0)) (blkOk_by (N := ["parts", "bottom", "part"]) (sc := defScope sPBy) (by decide +kernel)) (fun _ _ _ _ _ => pg_name (i := 2) nd rfl (Or.inl rfl)) (fun _ _ _ _ _ => pts_nil) (fun _ _ _ _ _ => by exact (pe_rat2K K (E := E0) R hr5 passL (pv 2) (pv 1)))))), ?_⟩
    dsimp only [tRet, tPol]
    refine lc_mapL (bs := N) (Rr := fun _ G (y : V) (z : Int) => RV C G y (low z B)) (fun R r => ⟨_, rfl, r⟩) (SqL.of hl) (by rw [vInts_len]; exact Nat.le_trans few (by decide)) vInts_len (fun _ _ _ _ _ h s => h.same s) ?_ ?_ ?_
    · rintro D G rs ys y z hD ⟨a, dx, e, ha⟩
      refine ⟨a, dx, e, ?_⟩
      rw [upd_ne (fun z => by rw [z, hD] at ha; cases ha)]
      exact ha
    · intro D i x z G2 rs Kc hx hz s2 hD kc
      unfold vInts at hx
      rw [List.getElem?_map, hz] at hx
      cases hx
      exact ⟨_, rfl, _, rfl, .good z B rfl rfl b0 bs fun a dx G3 na s3 ea => kc _ _ s3 ⟨a, dx, rfl, ea⟩⟩
    · intro l2 ws G2 nl s2 hl2 pw
      have lw : ws.length ≤ sizeLine := by rw [paired_len pw]; exact Nat.le_trans few (by decide)
      exact .inr ⟨byOf N B, ⟨ws, ⟨l2, rfl, .inl (SqL.of hl2)⟩, lw, paired_mapR (Paired.mapP pw fun _ _ z => .inr z)⟩, by unfold byOf; rw [List.length_map]; exact few, fun m tr => (k m tr).grow s2⟩
end
end K03
end
section
set_option maxHeartbeats 8000000
set_option exponentiation.threshold 100000
namespace K03
open PySem PySem.Spec PyProof.Rows L2 LamX NdefX L3 PolyM
abbrev sQuo : Stmt := top 38
/-- the bottoms divide M, the tops are at most R times the bottoms -/
structure Bds (M R : Nat) (ps : List (Int × Int)) : Prop where
  pos : 0 < M
  all : ∀ p ∈ ps, Bd M R p
theorem Bds.facts {M R n : Nat} {ps : List (Int × Int)} (b : Bds M R ps) (low : ∀ p ∈ ps, Low p) (h : (R + 1) * M < 2 ^ n) : ∀ p ∈ ps, p.2 ∣ (M : Int) ∧ 0 < p.2 ∧ p.1.natAbs < 2 ^ n := fun p hp => by
  have z := b.all p hp
  refine ⟨z.d, (low p hp).pos, Nat.lt_of_le_of_lt (z.le b.pos).2 (Nat.lt_of_le_of_lt ?_ h)⟩
  exact Nat.mul_le_mul_right _ (Nat.le_succ _)
theorem whole_small {M R n : Nat} {ps : List (Int × Int)} (b : Bds M R ps) (low : ∀ p ∈ ps, Low p) (h : (R + 1) * M < 2 ^ n) : ∀ z ∈ wholeOf ps (lcmB ps : Nat), z.natAbs < 2 ^ n := fun z hz => by
  unfold wholeOf at hz
  obtain ⟨p, hp, rfl⟩ := List.mem_map.mp hz
  have bp := b.all p hp
  have dM : lcmB ps ∣ M := lcmB_dvd fun q hq => (b.all q hq).d
  have lM := Nat.le_of_dvd b.pos dM
  have d := lcmB_all hp
  have e : (p.2.natAbs) * (((lcmB ps : Nat) : Int).fdiv p.2).natAbs = lcmB ps := by
    obtain ⟨z, hz⟩ := d
    rw [hz, Int.mul_fdiv_cancel_left _ (low p hp).ne, ← Int.natAbs_mul, ← hz, Int.natAbs_natCast]
  rw [Int.natAbs_mul]
  refine Nat.lt_of_le_of_lt ?_ h
  calc p.1.natAbs * (((lcmB ps : Nat) : Int).fdiv p.2).natAbs ≤ (R * p.2.natAbs) * (((lcmB ps : Nat) : Int).fdiv p.2).natAbs := Nat.mul_le_mul_right _ bp.s
    _ = R * lcmB ps := by rw [Nat.mul_assoc, e]
    _ ≤ R * M := Nat.mul_le_mul_left _ lM
    _ ≤ (R + 1) * M := Nat.mul_le_mul_right _ (Nat.le_succ _)
/-- a division as it is due -/
structure Divs (ps qs q r : List (Int × Int)) (M R N U : Nat) : Prop where
  pp : IsP ps
  pq : IsP qs
  q1 : IsP q
  r1 : IsP r
  nq : qs ≠ []
  rl : r.length < qs.length
  eq : ∀ k, cf ps k = conv (cf q) (cf qs) k + cf r k
  bp : Bds M R ps
  bq : Bds N U qs
  sp : (R + 1) * M < 2 ^ 2000
  sq : (U + 1) * N < 2 ^ 100
  lp : ps.length ≤ 60
  lq : qs.length ≤ 60
def Two (C CP CM : Addr) (H : Hp) (Q : VK) (q r : List (Int × Int)) : Prop := ∀ (t x y : Addr) (H' : Hp), H t = none → Same H H' → H' t = some (.tup [.ref x, .ref y]) → PolyAt C CP CM H' x q → PolyAt C CP CM H' y r → Q (.ref t) H'
def spQuo (C CP CM : Addr) : Sp := fun vs H Q _ => ∃ (a b : Addr) (ps qs q r : List (Int × Int)) (M R N U : Nat), vs = [.ref a, .ref b] ∧ PolyAt C CP CM H a ps ∧ PolyAt C CP CM H b qs ∧ Divs ps qs q r M R N U ∧ Two C CP CM H Q q r
section
variable {P : Program} {w : World} {K : PySem.W.Frag} {mg : Str → Option Value} {base : Heap} {cB cN C fI CP CM fP fM : Addr}
theorem scQuo : FnScope ["one", "other", "left", "left_bottom", "right", "right_bottom", "quotient", "rest", "scale", "bottom", "part"] ["one", "other"] (defScope sQuo) := ⟨rfl, rfl, rfl, by decide +kernel, rfl, by decide +kernel, by decide +kernel⟩
theorem ok_quo {f : Addr} {fd : FuncData} (F : Fun K "quotient_and_rest" "quotient_and_rest" sQuo f fd) (L : PolC K mg CP CM fP fM) (hW : Dfn P w K mg base CX0 2 "whole_parts" ["ratios"] (spWhl K C)) (hD : Dfn P w K mg base CX0 1 "divided_parts" ["one", "other"] spDivP) (hB : Dfn P w K mg base (L2.CX P w) 10 "poly_by" ["parts", "bottom"] (spPBy K C CP CM)) :
    FnOk P w K mg base (L2.CX P w) 11 f fd ["one", "other"] (spQuo C CP CM) := by
  refine F.okX scQuo (fun vs H Q E h => ?_) (fun cdv A outer s H vs Q E hr h => ?_)
  · obtain ⟨a, b, ps, qs, q, r, M, R, N, U, rfl, _⟩ := h
    rfl
  · obtain ⟨a, b, ps, qs, q, r, M, R, N, U, rfl, ha, hb, D, k⟩ := h
    have nd := scQuo.nd
    refine ⟨_, pss_cons (ps_asg (dc hW hr (by decide) (pa_cons (pe_fld (pv 0) rfl) pa_nil)) (pg_tup (by rfl) (pgs_cons (pg_name (i := 2) nd rfl (Or.inl rfl)) (pgs_cons (pg_name (i := 3) nd rfl (Or.inl rfl)) pgs_nil))))
      (pss_cons (ps_asg (dc hW hr (by decide) (pa_cons (pe_fld (pv 1) rfl) pa_nil)) (pg_tup (by rfl) (pgs_cons (pg_name (i := 4) nd rfl (Or.inl rfl)) (pgs_cons (pg_name (i := 5) nd rfl (Or.inr rfl)) pgs_nil))))
      (pss_cons (ps_asg (dc hD hr (by decide) (pa_cons (pv 2) (pa_cons (pv 4) pa_nil))) (pg_tup (by rfl) (pgs_cons (pg_name (i := 6) nd rfl (Or.inl rfl)) (pgs_cons (pg_name (i := 7) nd rfl (Or.inl rfl)) (pgs_cons (pg_name (i := 8) nd rfl (Or.inl rfl)) pgs_nil)))))
      (pss_cons (ps_set (i := 9) nd rfl (Or.inl rfl) (pe_op op_mulW (pv 8) (pv 3)))
      (pss_one (ps_ret (pe_tup (pa_cons (dcL hB hr (by decide) (pa_cons (pe_lc (own := [("part", 10)]) (g := gName 10) (tt := tYes) rfl nd (pi_list (pv 6)) (blkOk_by (N := ["one", "other", "left", "left_bottom", "right", "right_bottom", "quotient", "rest", "scale", "bottom", "part"]) (sc := defScope sQuo) (by decide +kernel)) (fun _ _ _ _ _ => pg_name (i := 10) nd rfl (Or.inl rfl)) (fun _ _ _ _ _ => pts_nil) (fun _ _ _ _ _ => by exact (pe_op op_mulW (pv 10) (pv 5)))) (pa_cons (pv 9) pa_nil))) (pa_cons (dcL hB hr (by decide) (pa_cons (pv 7) (pa_cons (pv 9) pa_nil))) pa_nil)))))))), ?_⟩
    obtain ⟨dx, t, xs, mk, dm, tb, a1, a2, a3, _⟩ := ha
    obtain ⟨dx2, t2, xs2, mk2, dm2, tb2, b1, b2, b3, _⟩ := hb
    have M2 : M < 2 ^ 2000 := Nat.lt_of_le_of_lt (Nat.le_mul_of_pos_left _ (Nat.succ_pos _)) D.sp
    have N2 : N < 2 ^ 100 := Nat.lt_of_le_of_lt (Nat.le_mul_of_pos_left _ (Nat.succ_pos _)) D.sq
    have up : ∀ {x a b : Nat}, x < 2 ^ a → a ≤ b → x < 2 ^ b := fun h l => Nat.lt_of_lt_of_le h (Nat.pow_le_pow_right (by decide) l)
    refine seq_to (fun σ' G => ∃ l : Addr, σ' = [some (.ref a), some (.ref b), some (.ref l), some (.int (lcmB ps : Nat)), none, none, none, none, none, none, none] ∧ Same H G ∧ G l = some (.lst (vInts (wholeOf ps (lcmB ps : Nat))))) (fun kk hK => ?_) ?_
    · refine ⟨_, rfl, a, CP, dx, _, _, rfl, a1, L.c, L.nP, rfl, ?_⟩
      refine ⟨.ref t, xs, ps, M, 2000, rfl, ⟨t, rfl, .inr (SqT.of a2)⟩, by rw [paired_len a3]; exact Nat.le_trans D.lp (by decide), a3, D.bp.pos, up M2 (by decide), D.bp.facts D.pp.low D.sp, by decide, fun T l G nT s1 hT hl => ?_⟩
      exact ⟨T, _, rfl, SqT.of hT, rfl, _, _, rfl, _, _, rfl, rfl, hK _ _ ⟨l, rfl, s1, hl⟩⟩
    rintro σ' G1 ⟨l1, rfl, s1, hl1⟩
    refine seq_to (fun σ' G => ∃ l2 : Addr, σ' = [some (.ref a), some (.ref b), some (.ref l1), some (.int (lcmB ps : Nat)), some (.ref l2), some (.int (lcmB qs : Nat)), none, none, none, none, none] ∧ Same G1 G ∧ G l2 = some (.lst (vInts (wholeOf qs (lcmB qs : Nat))))) (fun kk hK => ?_) ?_
    · refine ⟨_, rfl, b, CP, dx2, _, _, rfl, s1 _ _ b1, L.c, L.nP, rfl, ?_⟩
      refine ⟨.ref t2, xs2, qs, N, 2000, rfl, ⟨t2, rfl, .inr (SqT.of (s1 _ _ b2))⟩, by rw [paired_len b3]; exact Nat.le_trans D.lq (by decide), Paired.mapP b3 fun _ _ z => z.same s1, D.bq.pos, up N2 (by decide), D.bq.facts D.pq.low (up D.sq (by decide)), by decide, fun T l G nT s2 hT hl => ?_⟩
      exact ⟨T, _, rfl, SqT.of hT, rfl, _, _, rfl, _, _, rfl, rfl, hK _ _ ⟨l, rfl, s2, hl⟩⟩
    rintro σ' G2 ⟨l2, rfl, s2, hl2⟩
    have lpos : 0 < lcmB ps := lcmB_pos D.bp.pos fun p hp => (D.bp.all p hp).d
    have lpos2 : 0 < lcmB qs := lcmB_pos D.bq.pos fun p hp => (D.bq.all p hp).d
    have lM : lcmB ps < 2 ^ 2000 := Nat.lt_of_le_of_lt (Nat.le_of_dvd D.bp.pos (lcmB_dvd fun p hp => (D.bp.all p hp).d)) M2
    have lN : lcmB qs < 2 ^ 100 := Nat.lt_of_le_of_lt (Nat.le_of_dvd D.bq.pos (lcmB_dvd fun p hp => (D.bq.all p hp).d)) N2
    have fp : ∀ p ∈ ps, p.2 ∣ ((lcmB ps : Nat) : Int) ∧ p.2 ≠ 0 := fun p hp => ⟨lcmB_all hp, (D.pp.low p hp).ne⟩
    have fq : ∀ p ∈ qs, p.2 ∣ ((lcmB qs : Nat) : Int) ∧ p.2 ≠ 0 := fun p hp => ⟨lcmB_all hp, (D.pq.low p hp).ne⟩
    obtain ⟨lead, hlead, l0⟩ : ∃ lead, (wholeOf qs (lcmB qs : Nat)).getLast? = some lead ∧ lead ≠ 0 := by
      have e := List.getLast?_eq_some_getLast D.nq
      have m := List.getLast_mem D.nq
      generalize qs.getLast D.nq = p at e m
      refine ⟨p.1 * ((lcmB qs : Nat) : Int).fdiv p.2, by unfold wholeOf; rw [List.getLast?_map, e]; rfl, Int.mul_ne_zero (D.pq.top p e) fun z => ?_⟩
      obtain ⟨d, hd⟩ := lcmB_all m
      rw [hd, Int.mul_fdiv_cancel_left _ (D.pq.low p m).ne] at z
      rw [z, Int.mul_zero] at hd
      omega
    refine seq_to (fun σ' G => ∃ (qa ra : Addr) (Qs W : List Int) (S : Int), σ' = [some (.ref a), some (.ref b), some (.ref l1), some (.int (lcmB ps : Nat)), some (.ref l2), some (.int (lcmB qs : Nat)), some (.ref qa), some (.ref ra), some (.int S), none, none] ∧ Same G2 G ∧ G qa = some (.lst (vInts Qs)) ∧ G ra = some (.lst (vInts W)) ∧ DivAt 100 2000 (wholeOf ps (lcmB ps : Nat)) (wholeOf qs (lcmB qs : Nat)) Qs W S ∧ W.length < (wholeOf qs (lcmB qs : Nat)).length) (fun kk hK => ?_) ?_
    · refine ⟨_, rfl, _, rfl, l1, l2, _, _, lead, 100, 2000, rfl, s2 _ _ hl1, hl2, hlead, l0, whole_small D.bp D.pp.low D.sp, whole_small D.bq D.pq.low D.sq, by rw [wholeOf_len]; exact Nat.le_trans D.lp (by decide), by rw [wholeOf_len]; exact Nat.le_trans D.lq (by decide), by decide, by decide, by decide, ?_⟩
      intro T qa ra Qs W S G nT s3 hT hqa hra dv sh
      exact ⟨T, _, rfl, SqT.of hT, rfl, _, _, rfl, _, _, rfl, _, _, rfl, rfl, hK _ _ ⟨qa, ra, Qs, W, S, rfl, s3, hqa, hra, dv, sh⟩⟩
    rintro σ' G3 ⟨qa, ra, Qs, W, S, rfl, s3, hqa, hra, dv, sh⟩
    have SB : S.natAbs < 2 ^ 6001 := Nat.lt_of_le_of_lt dv.sb (Nat.pow_lt_pow_right (by decide) (by
      have : (wholeOf ps (lcmB ps : Nat)).length ≤ 60 := by rw [wholeOf_len]; exact D.lp
      omega))
    have QB : ∀ z ∈ Qs, z.natAbs < 2 ^ 100000 := fun z hz => up (dv.qb z hz) (by
      have : (wholeOf ps (lcmB ps : Nat)).length ≤ 60 := by rw [wholeOf_len]; exact D.lp
      omega)
    have Ql : Qs.length ≤ 61 := by
      have := dv.ql
      rw [wholeOf_len] at this
      have := D.lp
      omega
    rw [wholeOf_len] at sh
    have Wl : W.length ≤ 60 := by have := D.lq; omega
    obtain ⟨B0, qIs, rIs⟩ := quo_is fp fq (by omega) (by omega) D.pq D.nq D.q1 D.r1 D.rl D.eq dv sh
    have BS : Sz (S * (lcmB ps : Nat)) := by
      show (S * ((lcmB ps : Nat) : Int)).natAbs < 2 ^ 9000
      rw [Int.natAbs_mul, Int.natAbs_natCast]
      refine up (a := 6001 + 2000) ?_ (by decide)
      rw [Nat.pow_add]
      exact Nat.mul_lt_mul'' SB lM
    refine seq_to (fun σ' G => σ' = [some (.ref a), some (.ref b), some (.ref l1), some (.int (lcmB ps : Nat)), some (.ref l2), some (.int (lcmB qs : Nat)), some (.ref qa), some (.ref ra), some (.int S), some (.int (S * (lcmB ps : Nat))), none] ∧ G = G3) (fun kk hK => ?_) ?_
    · exact ⟨_, rfl, _, rfl, _, _, rfl, rfl, mul_fit SB (show (((lcmB ps : Nat) : Int)).natAbs < 2 ^ 2000 by rw [Int.natAbs_natCast]; exact lM) (by decide), hK _ _ ⟨rfl, rfl⟩⟩
    rintro σ' G3 ⟨rfl, rfl⟩
    generalize hB : S * ((lcmB ps : Nat) : Int) = B at B0 qIs rIs BS ⊢
    dsimp only [tRet, tTup, tCons, tNil, tCall]
    refine lc_mapL (bs := Qs) (Rr := fun _ _ (y : V) (z : Int) => y = .int (z * (lcmB qs : Nat))) (fun R r => ⟨_, rfl, r⟩) (SqL.of hqa) (by rw [vInts_len]; exact Nat.le_trans Ql (by decide)) vInts_len (fun _ _ _ _ _ h _ => h) (fun _ _ _ _ _ _ _ h => h) ?_ ?_
    · intro D' i x z G4 rs Kc hx hz s4 hD' kc
      unfold vInts at hx
      rw [List.getElem?_map, hz] at hx
      cases hx
      exact ⟨_, rfl, _, rfl, _, _, rfl, rfl, mul_fit (QB z (List.mem_of_getElem? hz)) (show (((lcmB qs : Nat) : Int)).natAbs < 2 ^ 100 by rw [Int.natAbs_natCast]; exact lN) (by decide), kc _ _ (fun _ _ e => e) rfl⟩
    · intro ql ws G4 nq s4 hql pw
      have ew := paired_intsF (f := fun z : Int => z * (lcmB qs : Nat)) pw
      subst ew
      refine ⟨_, rfl, ql, _, B, rfl, hql, by rw [List.length_map]; exact Nat.le_trans Ql (by decide), B0, BS, fun m tr => ?_⟩
      rw [qIs m tr]
      intro x G5 nx s5 hx
      refine ⟨_, rfl, _, rfl, ra, W, B, rfl, s5 _ _ (s4 _ _ hra), Nat.le_trans Wl (by decide), B0, BS, fun m tr => ?_⟩
      rw [rIs m tr]
      intro y G6 ny s6 hy
      refine ⟨by show 2 ≤ sizeLine; decide, fun T nT => ?_⟩
      have sT := Same.new (o := .tup [.ref x, .ref y]) (fun _ _ e => e : Same G6 G6) nT
      have sA := s1.trans (s2.trans (s3.trans (s4.trans (s5.trans s6))))
      exact k T x y _ (same_none sA nT) (sA.trans sT) upd_same (hx.same (s6.trans sT)) (hy.same sT)
end
end K03
end
section
set_option maxHeartbeats 8000000
set_option exponentiation.threshold 100000
namespace K03
open PySem PySem.Spec PyProof.Rows L2 LamX NdefX L3 PolyM
abbrev sNeedP : Stmt := top 40
abbrev sDivd : Stmt := inClass (top 36) 18
/-- an own class against a built-in one, against another own one -/
theorem cls_kitT {K : PySem.W.Frag} {C : Addr} (t : Top1 K C) (ty : PySem.W.typeIn K (.ref C) = some (.type "type")) {T : String} (h : (fastBuiltinMro T).isSome = true) : PySem.W.kitOne K (.type T) (.ref C) = some false := by
  obtain ⟨cd, h1, _⟩ := t.mr
  unfold PySem.W.kitOne
  rw [if_neg (by simp)]
  show (if ((PySem.W.clsIn K C).isSome && PySem.W.typeIn K (.ref C) == some (.type "type")) = true then PySem.W.subIn K (.type T) (.ref C) else none) = some false
  rw [if_pos (by rw [h1, ty]; rfl)]
  exact PySem.OwnB.sub_type h
theorem cls_kitC {K : PySem.W.Frag} {C C2 : Addr} (t : Top1 K C) (ty : PySem.W.typeIn K (.ref C) = some (.type "type")) (t2 : Top1 K C2) (ne : C2 ≠ C) : PySem.W.kitOne K (.ref C2) (.ref C) = some false := by
  obtain ⟨cd, h1, _⟩ := t.mr
  unfold PySem.W.kitOne
  rw [if_neg (by simpa using ne)]
  show (if ((PySem.W.clsIn K C).isSome && PySem.W.typeIn K (.ref C) == some (.type "type")) = true then PySem.W.subIn K (.ref C2) (.ref C) else none) = some false
  rw [if_pos (by rw [h1, ty]; rfl), t2.sub]
  have : ([Value.ref C2, .type "object"] : List Value).contains (.ref C) = false := by
    simp
    exact fun z => ne z.symm
  rw [this]
/-- a thing that is no Poly -/
def NoPoly (K : PySem.W.Frag) (CP : Addr) (H : Hp) (v : V) : Prop := ∃ t, TyX K H v t ∧ PySem.W.kitOne K t (.ref CP) = some false
def spNeedP (K : PySem.W.Frag) (CP cB : Addr) : Sp := fun vs H Q E => ∃ v, vs = [v] ∧ (((∃ a dx fs, v = .ref a ∧ H a = some (.ins CP dx fs)) ∧ Q .non H) ∨ (NoPoly K CP H v ∧ Bad cB v H E))
def spDivd (K : PySem.W.Frag) (C CP CM cB cN : Addr) : Sp := fun vs H Q E => ∃ (a : Addr) (v : V) (ps : List (Int × Int)), vs = [.ref a, v] ∧ PolyAt C CP CM H a ps ∧ ((NoPoly K CP H v ∧ Bad cB v H E) ∨ ∃ b, v = .ref b ∧ ((PolyAt C CP CM H b [] ∧ NoDiv cN H E) ∨
  ∃ (qs q r : List (Int × Int)) (M R N U : Nat), PolyAt C CP CM H b qs ∧ Divs ps qs q r M R N U ∧ Two C CP CM H Q q r))
section
variable {P : Program} {w : World} {K : PySem.W.Frag} {mg : Str → Option Value} {base : Heap} {cB cN C fI CP CM fP fM : Addr}
theorem scNeedP : FnScope ["value"] ["value"] (defScope sNeedP) := ⟨rfl, rfl, rfl, by decide +kernel, rfl, by decide +kernel, by decide +kernel⟩
theorem ok_needP {f : Addr} {fd : FuncData} (F : Fun K "need_poly" "need_poly" sNeedP f fd) (B : TxtR mg) (T : ErrR P w K mg base cB cN) (L : PolC K mg CP CM fP fM) (tyx : ∀ (H : Hp) (a dx : Addr) (fs : List (Str × V)), H a = some (.ins CP dx fs) → TyX K H (.ref a) (.ref CP)) : FnOk P w K mg base (L2.CX P w) 3 f fd ["value"] (spNeedP K CP cB) := by
  refine F.okX scNeedP (fun vs H Q E h => ?_) (fun cdv A outer s H vs Q E hr h => ?_)
  · obtain ⟨v, rfl, _⟩ := h
    rfl
  · obtain ⟨v, rfl, k⟩ := h
    refine ⟨_, pss_one (ps_if (pt_not (pt_val (pe_callB call_isi (by rfl) B.isi (by decide +kernel) (pa_cons (pv 0) (pa_cons (pe_glob (v := .ref CP) (by rfl) L.g rfl) pa_nil))))) (pss_one (ps_raise rfl (takes_of rfl rfl rfl rfl) (pmk_retX rfl (pe_one1 T.B hr (pv 0))))) pss_nil), ?_⟩
    rcases k with ⟨⟨a, dx, fs, rfl, e⟩, q⟩ | ⟨⟨t, h1, h2⟩, q⟩
    · exact ⟨_, rfl, _, .ref CP, .ref CP, .ref CP, true, rfl, .own CP, tyx H a dx fs e, kit_me, true, rfl, q⟩
    · refine ⟨_, rfl, _, .ref CP, t, .ref CP, false, rfl, .own CP, h1, h2, false, rfl, ?_⟩
      refine ⟨_, rfl, ?_⟩
      exact fun a dx H1 ha hd s e ed ne => ⟨a, _, dx, rfl, e, fr0_none ha, raises_own T.B.Z.su T.tB, q dx _ hd (same_del s ha) (by rw [delH_ne ne]; exact ed)⟩
theorem scDivd : FnScope ["self", "other"] ["self", "other"] (defScope sDivd) := ⟨rfl, rfl, rfl, by decide +kernel, rfl, by decide +kernel, by decide +kernel⟩
theorem ok_divd {f : Addr} {fd : FuncData} (F : Fun K "divided" "Poly.divided" sDivd f fd) (T : ErrR P w K mg base cB cN) (L : PolC K mg CP CM fP fM) (hN : Dfn P w K mg base (L2.CX P w) 3 "need_poly" ["value"] (spNeedP K CP cB)) (hQ : Dfn P w K mg base (L2.CX P w) 11 "quotient_and_rest" ["one", "other"] (spQuo C CP CM)) :
    FnOk P w K mg base (L2.CX P w) 12 f fd ["self", "other"] (spDivd K C CP CM cB cN) := by
  refine F.okX scDivd (fun vs H Q E h => ?_) (fun cdv A outer s H vs Q E hr h => ?_)
  · obtain ⟨a, v, ps, rfl, _⟩ := h
    rfl
  · obtain ⟨a, v, ps, rfl, ha, k⟩ := h
    have hr3 : Room 3 _ := hr.mono (by decide)
    refine ⟨_, pss_cons (ps_expr (dcE hN hr (by decide) (passK (takes_of rfl rfl rfl rfl)) (pa_cons (pv 1) pa_nil)))
      (pss_cons (ps_if (pt_not (pt_truth (pe_fld (pv 1) rfl) (by intro _; rfl))) (pss_one (ps_raise rfl (takes_of rfl rfl rfl rfl) (pmk_ret rfl (pe_bare T.N)))) pss_nil)
      (pss_one (ps_ret (dcL hQ hr (by decide) (pa_cons (pv 0) (pa_cons (pv 1) pa_nil)))))), ?_⟩
    have done : ∀ {b : Addr} {qs : List (Int × Int)}, PolyAt C CP CM H b qs → ∃ (dx t : Addr) (xs : List V) (fs : List (Str × V)), H b = some (.ins CP dx fs) ∧ fs.lookup ("parts" : Str) = some (V.ref t) ∧ H t = some (.tup xs) ∧ xs.length = qs.length := fun h => by
      obtain ⟨dx, t, xs, mk, dm, tb, h1, h2, h3, _⟩ := h
      exact ⟨dx, t, xs, _, h1, rfl, h2, paired_len h3⟩
    rcases k with ⟨no, q⟩ | ⟨b, rfl, ⟨hb, q⟩ | ⟨qs, q1, r1, M, R, N, U, hb, D, q⟩⟩
    · exact ⟨_, rfl, v, rfl, .inr ⟨no, q⟩⟩
    · obtain ⟨dx, t, xs, fs, h1, h2, h3, h4⟩ := done hb
      refine ⟨_, rfl, .ref b, rfl, .inl ⟨⟨b, dx, fs, rfl, h1⟩, ?_⟩⟩
      refine ⟨_, rfl, b, CP, dx, fs, V.ref t, rfl, h1, L.c, L.nP, h2, _, .inr (.inl ⟨xs, SqT.of h3, rfl⟩), ?_⟩
      have e : xs = [] := List.length_eq_zero_iff.mp h4
      subst e
      exact fun a' H1 ha' s e => ⟨a', _, rfl, e, fr0_none ha', raises_own T.N.Z.su T.tN, q _ (same_del s ha')⟩
    · obtain ⟨dx, t, xs, fs, h1, h2, h3, h4⟩ := done hb
      refine ⟨_, rfl, .ref b, rfl, .inl ⟨⟨b, dx, fs, rfl, h1⟩, ?_⟩⟩
      refine ⟨_, rfl, b, CP, dx, fs, V.ref t, rfl, h1, L.c, L.nP, h2, _, .inr (.inl ⟨xs, SqT.of h3, rfl⟩), ?_⟩
      have e : xs ≠ [] := fun z => by
        have := D.nq
        rw [z] at h4
        exact this (List.length_eq_zero_iff.mp h4.symm)
      have e2 : xs.isEmpty = false := by cases xs with
        | nil => exact absurd rfl e
        | cons _ _ => rfl
      rw [e2]
      exact ⟨_, rfl, _, rfl, a, b, ps, qs, q1, r1, M, R, N, U, rfl, ha, hb, D, q⟩
end
end K03
end
section
set_option maxHeartbeats 4000000
namespace PySem
namespace GetA
open PySem.W PyProof.Rows PySem.Calls
section
variable {prog : Program} {w : World} {A : Around} {E : Value → Shared → Prop} {s : Shared}
/-- getattr(x, "mark", d) where the look-up finds a value -/
theorem getattr3_hit {a : Addr} {v r0 : Value} {u : Tok} {Q : Value → Shared → Prop} (hm : Looks (model prog w) s.heap (isInstance (.ref a) (.type "module")) false)
   (h : wpAny (model prog w) A.in1 (getAttrBy? (.ref a) (.str ("mark" : Str) u)) (fun r s' => r = some r0 ∧ Q r0 s') E s) : wpAny (model prog w) A (call (.builtin "getattr") [.ref a, .str ("mark" : Str) u, v]) Q E s := by
  refine Calls.call_function_entry KB.kind_getattr KB.plain_getattr KB.entry_getattr (args3 _ _ _) ?_
  unfold Builtin.«getattr»
  refine wpAny_bind (wpAny_of_eq (a := [.ref a, .str ("mark" : Str) u, v]) (by first | rfl | kernel_rfl) ?_)
  dsimp only
  refine wpAny_bind (wpAny_of_eq (a := ()) (by first | rfl | kernel_rfl) ?_)
  refine wpAny_bind (wpAny_of_eq (a := none) (by first | rfl | kernel_rfl) ?_)
  dsimp only
  have z : wpAny (model prog w) A.in1 (isInstance (.ref a) (.type "module")) (fun r s' => r = false ∧ s' = s) E s := hm _ _ _ s (fun _ _ e => e) ⟨rfl, rfl⟩
  refine wpAny_bind (wpAny_mono (Q := fun r s' => r = 0 ∧ s' = s) ?_ (fun r s' hq => ?_) fun _ _ e => e)
  · refine wpAny_bind (wpAny_of_eq (a := some ("mark" : Str)) (by first | rfl | kernel_rfl) ?_)
    refine wpAny_bind (wpAny_mono z (fun r s' hq => ?_) fun _ _ e => e)
    obtain ⟨rfl, rfl⟩ := hq
    exact wpAny_pure ⟨rfl, rfl⟩
  · obtain ⟨rfl, rfl⟩ := hq
    rw [if_neg (by decide)]
    refine wpAny_bind (wpAny_mono h (fun r s' hq => ?_) fun _ _ e => e)
    obtain ⟨rfl, q⟩ := hq
    exact wpAny_pure ⟨_, rfl, q⟩
theorem get_valueQ {K : Frag} {x C : Addr} {ox : Obj} {od : Option Obj} {name : Str} {tk : Tok} {v : Value} {Q : Option Value → Shared → Prop} (X : K.In s.heap) (I : InstAt s.heap x ox C od) (hga : findIn K (.ref C) "__getattribute__" = some (some (.builtin "object.__getattribute__")))
    (hf : findObj K C od name = some (.value v)) (hh : handedIn v = true) (h : Q (some v) s) : wpAny (model prog w) A (getAttrBy? (.ref x) (.str name tk)) Q E s := by
  obtain ⟨hh', g, d, t, os⟩ := s
  have L0 := I.type (M := model prog w)
  have L1 := looks_findIn (M := model prog w) X hga
  have L2 := looks_find (M := model prog w) X I hf
  unfold getAttrBy? getAttrBy
  refine wpAny_bind (wpAny_attempt (wpAny_holding (wpAny_bind (L0.at (wpAny_bind (L1.at ?_))))))
  show wpAny _ _ (getAttrEveryday _ _ _) _ _ _
  refine wpAny_bind (wpAny_onRaise (wpAny_runValue (codeAny_builtin F.plainObj_entry_getattr_hooked (wpAny_mono (Q := fun fin s' => match fin with | .done (.ret u) => u = v ∧ s' = ⟨hh', g, d, t, os⟩ | _ => False) (E := fun _ _ => False) ?_ (fun fin s' z => ?_) fun _ _ z => z.elim))))
  · refine wpAny_bind (wpAny_pure (wpAny_bind (L0.at (wpAny_bind (L2.at ?_)))))
    exact wpAny_pure ⟨rfl, rfl⟩
  · rcases fin with (_ | _ | _ | _) | _ <;> first | exact z.elim | skip
    obtain ⟨rfl, rfl⟩ := z
    show wpAny _ _ (handedOut _) _ _ _
    rw [handedOut_of hh]
    exact wpAny_pure (wpAny_pure h)
end
end GetA
end PySem
namespace L2
open PySem PySem.Spec PyProof.Rows
/-- getattr(x, "mark", v), x an own instance that has it -/
def rGetI (K : PySem.W.Frag) : List V → Hp → VK → Prop := fun vs H Q => ∃ (a C dx : Addr) (fs : List (Str × V)) (v y : V), vs = [.ref a, .str "mark", v] ∧ H a = some (.ins C dx fs) ∧ Cls K C ∧ NoAttr K C "mark" ∧ Top1 K C ∧ fs.lookup ("mark" : Str) = some y ∧ Q y H
theorem call_getI {X : Cx} : CallR X (.builtin "getattr") (rGetI X.K) := by
  intro pins s σ H xs us Q I r h
  obtain ⟨a, C, dx, fs, v, y, rfl, e, c, n, t1, l, q⟩ := h
  match us, r with
  | [u1, u2, u3], .cons r1 (.cons r2 (.cons r3 .nil)) =>
  obtain ⟨tk, rfl⟩ := (show ∃ t, u2 = Value.str "mark" t from r2)
  cases (show u1 = Value.ref a from r1)
  obtain ⟨mA, O, r, _, _, _⟩ := ins_get I.hok e
  obtain ⟨u, hu, ru⟩ := RelO.some_of (v := y) (o := mA ("mark" : Str)) (by rw [← l]; exact r "mark")
  obtain ⟨od, J, hl⟩ := O.look
  refine PySem.GetA.getattr3_hit (r0 := u) (J.type.andThen (PySem.W.looks_subIn I.kIn (t1.no (by decide)))) ?_
  refine PySem.GetA.get_valueQ I.kIn J (PySem.W.plainGet_of (c.get "mark")).1 (PySem.W.findObj_own c.hd n rfl (by rw [hl, hu])) (handed_of ru) ⟨rfl, y, H, I, ru, q⟩
end L2
end
section
set_option maxHeartbeats 4000000
namespace L2
open PySem PySem.Spec PyProof.Rows
end L2
end
section
set_option maxHeartbeats 4000000
namespace K03
open PySem PySem.Spec PyProof.Rows L2
abbrev sEq : Stmt := inClass (top 30) 1
def spNeg (C : Addr) : Sp := fun vs H Q E => ∃ (a dx : Addr) (p : Int × Int), vs = [.ref a] ∧ H a = some (rat C dx p) ∧ Fit p ∧ NewR C H Q (low (-p.1) p.2)
/-- equal to another Ratio; to a thing of a built-in type it isn't -/
def spEq (K : PySem.W.Frag) (C : Addr) : Sp := fun vs H Q E => ∃ (a dx : Addr) (v : V) (p : Int × Int), vs = [.ref a, v] ∧ H a = some (rat C dx p) ∧
  ((∃ (b dy : Addr) (q : Int × Int), v = .ref b ∧ H b = some (rat C dy q) ∧ Q (.bl (decide (p = q))) H) ∨ ((∃ T : String, T ∈ kinds ∧ TyX K H v (.type T)) ∧ Q (.bl false) H))
theorem fit_sz {b : Int} (h : b.natAbs < 2 ^ 4000) : Sz b := Nat.lt_of_lt_of_le h (Nat.pow_le_pow_right (by decide) (by decide))
section
variable {P : Program} {w : World} {K : PySem.W.Frag} {mg : Str → Option Value} {base : Heap} {cB cN C fI fo fa fb : Addr} {fdo fda fdb : FuncData}
theorem scNeg : FnScope ["self"] ["self"] (defScope sNeg) := ⟨rfl, rfl, rfl, by decide +kernel, rfl, by decide +kernel, by decide +kernel⟩
theorem ok_neg {f : Addr} {fd : FuncData} (F : Fun K "__neg__" "Ratio.__neg__" sNeg f fd) (R : Rat P w K mg base cB cN C fI) : FnOk P w K mg base (L2.CX P w) 6 f fd ["self"] (spNeg C) := by
  refine F.okX scNeg (fun vs H Q E h => ?_) (fun cdv A outer s H vs Q E hr h => ?_)
  · obtain ⟨a, dx, p, rfl, _⟩ := h
    rfl
  · obtain ⟨a, dx, p, rfl, ha, fp, q⟩ := h
    refine ⟨_, pss_one (ps_ret (pe_rat2 (E := E) R hr (passK (takes_of rfl rfl rfl rfl)) (pe_un un_neg (pe_fld (pv 0) rfl)) (pe_fld (pv 0) rfl))), ?_⟩
    refine ⟨_, rfl, a, C, dx, _, _, rfl, ha, R.cls.c, R.cls.nT, lkT, _, rfl, _, rfl, a, C, dx, _, _, rfl, ha, R.cls.c, R.cls.nB, lkBt, ?_⟩
    exact .good _ _ rfl rfl (Int.ne_of_gt fp.pos) (fit_sz fp.b) q
theorem scEq : FnScope ["self", "other"] ["self", "other"] (defScope sEq) := ⟨rfl, rfl, rfl, by decide +kernel, rfl, by decide +kernel, by decide +kernel⟩
theorem ok_eq {f : Addr} {fd : FuncData} (F : Fun K "__eq__" "Ratio.__eq__" sEq f fd) (R : Rat P w K mg base cB cN C fI) (B : TxtR mg) : FnOk P w K mg base CX0 1 f fd ["self", "other"] (spEq K C) := by
  refine F.ok scEq (fun vs H Q E h => ?_) (fun cdv A outer s H vs Q E hr h => ?_)
  · obtain ⟨a, dx, v, p, rfl, _⟩ := h
    rfl
  · obtain ⟨a, dx, v, p, rfl, ha, k⟩ := h
    refine ⟨_, pss_one (ps_ret (pe_and (pe_callB call_isi (by rfl) B.isi (by decide +kernel) (pa_cons (pv 1) (pa_cons (pe_glob (v := .ref C) (by rfl) R.cls.g rfl) pa_nil)))
      (pe_and (pe_cmpR op_eq (pe_fld (pv 0) rfl) (pe_fld (pv 1) rfl) (nomark _)) (pe_one (pe_cmpR op_eq (pe_fld (pv 0) rfl) (pe_fld (pv 1) rfl) (nomark _)))))), ?_⟩
    rcases k with ⟨b, dy, q, rfl, e, k⟩ | ⟨⟨T, hT, ty⟩, k⟩
    · refine ⟨_, rfl, _, .ref C, .ref C, .ref C, true, rfl, .own C, R.tyx H b dy _ e, kit_me, true, rfl, ?_⟩
      refine ⟨_, rfl, a, C, dx, _, _, rfl, ha, R.cls.c, R.cls.nT, lkT, _, rfl, b, C, dy, _, _, rfl, e, R.cls.c, R.cls.nT, lkT, rfl, _, rfl, ?_⟩
      have hd : ∀ i j : Int, decide (V.int i = V.int j) = decide (i = j) := fun i j => by simp
      by_cases h1 : p.1 = q.1
      · have e1 : decide (V.int p.1 = V.int q.1) = true := by rw [hd]; simpa using h1
        show ite _ _ _
        rw [if_pos e1]
        refine ⟨_, rfl, a, C, dx, _, _, rfl, ha, R.cls.c, R.cls.nB, lkBt, _, rfl, b, C, dy, _, _, rfl, e, R.cls.c, R.cls.nB, lkBt, rfl, ?_⟩
        have e2 : decide (V.int p.2 = V.int q.2) = decide (p = q) := by
          rw [hd]
          have : (p = q) ↔ (p.2 = q.2) := ⟨fun z => by rw [z], fun z => Prod.ext h1 z⟩
          simp [this]
        show Q (V.bl (decide (V.int p.2 = V.int q.2))) H
        rw [e2]
        exact k
      · have e1 : decide (V.int p.1 = V.int q.1) = false := by rw [hd]; simpa using h1
        show ite _ _ _
        rw [if_neg (by rw [e1]; decide)]
        have e2 : decide (p = q) = false := by
          have : p ≠ q := fun z => h1 (by rw [z])
          simpa using this
        rw [e2] at k
        exact k
    · exact ⟨_, rfl, _, .ref C, .type T, .ref C, false, rfl, .own C, ty, R.cls.kit (kinds_blt hT), false, rfl, k⟩
end
end K03
end
section
set_option maxHeartbeats 8000000
set_option exponentiation.threshold 100000
namespace K03
open PySem PySem.Spec PyProof.Rows L2 LamX NdefX L3 PolyM
abbrev sAsP : Stmt := top 39
abbrev sNegP : Stmt := inClass (top 36) 8
def spLooksP (C CP CM : Addr) : Sp := fun vs H Q _ => ∃ (a : Addr) (z : Str) (ps : List (Int × Int)), vs = [.ref a, .str z] ∧ PolyAt C CP CM H a ps ∧ Q (.bl (inV (.str z) [.str "Ratio"])) H
theorem in_poly : inV (.str "Poly") [.str "Ratio"] = false := by decide +kernel
/-- as_poly of a Poly -/
def spAsP (C CP CM : Addr) : Sp := fun vs H Q _ => ∃ (a : Addr) (ps : List (Int × Int)), vs = [.ref a] ∧ PolyAt C CP CM H a ps ∧ Q (.ref a) H
def pneg (p : Int × Int) : Int × Int := low (-p.1) p.2
def spNegP (C CP CM : Addr) : Sp := fun vs H Q _ => ∃ (a : Addr) (ps : List (Int × Int)), vs = [.ref a] ∧ PolyAt C CP CM H a ps ∧ (∀ p ∈ ps, Fit p) ∧ ps.length ≤ 100000 ∧ ∀ m, TrimAt (ps.map pneg) m → NewPoly C CP CM H Q ((ps.map pneg).take m)
section
variable {P : Program} {w : World} {K : PySem.W.Frag} {mg : Str → Option Value} {base : Heap} {cB cN C fI CP CM fP fM : Addr}
theorem ok_looksP {f : Addr} {fd : FuncData} (F : Fun K "looks_after" "looks_after" sLooks f fd) (M : MarkC K mg CM) (B : TxtR mg) (L : PolC K mg CP CM fP fM) (tyM : ∀ (H : Hp) (a dx : Addr) (fs : List (Str × V)), H a = some (.ins CM dx fs) → TyX K H (.ref a) (.ref CM)) : FnOk P w K mg base CX0 1 f fd ["value", "below"] (spLooksP C CP CM) := by
  refine F.ok scLooks (fun vs H Q E h => ?_) (fun cdv A outer s H vs Q E hr h => ?_)
  · obtain ⟨v, z, ps, rfl, _⟩ := h
    rfl
  · obtain ⟨a, z, ps, rfl, ⟨dx, t, xs, mk, dm, tb, h1, h2, h3, h4, h5⟩, q⟩ := h
    have n2 := scLooks.nd
    refine ⟨_, pss_cons (ps_set (i := 2) n2 rfl (Or.inl rfl) (pe_callB call_getI (by rfl) M.ga (by decide +kernel) (pa_cons (pv 0) (pa_cons pe_str (pa_cons pe_non pa_nil)))))
      (pss_one (ps_ret (pe_and (pe_callB call_isi (by rfl) B.isi (by decide +kernel) (pa_cons (pv 2) (pa_cons (pe_glob (v := .ref CM) (by rfl) M.g rfl) pa_nil)))
        (pe_one (pe_cmpR op_in_seq (pv 1) (pe_fld (pv 2) rfl) (by rfl)))))), ?_⟩
    refine ⟨_, rfl, a, CP, dx, _, .non, .ref mk, rfl, h1, L.c, L.nM, L.t1, rfl, ?_⟩
    refine ⟨_, rfl, _, .ref CM, .ref CM, .ref CM, true, rfl, .own CM, tyM H mk dm _ h4, kit_me, true, rfl, ?_⟩
    exact ⟨_, rfl, _, rfl, mk, CM, dm, _, _, rfl, h4, L.mc, L.nB, rfl, tb, _, rfl, .inr (SqT.of h5), rfl, rfl, q⟩
theorem scAsP : FnScope ["value"] ["value"] (defScope sAsP) := ⟨rfl, rfl, rfl, by decide +kernel, rfl, by decide +kernel, by decide +kernel⟩
theorem ok_asP {f : Addr} {fd : FuncData} (F : Fun K "as_poly" "as_poly" sAsP f fd) (B : TxtR mg) (L : Pol P w K mg base cB C CP CM fP fM) (tyx : ∀ (H : Hp) (a dx : Addr) (fs : List (Str × V)), H a = some (.ins CP dx fs) → TyX K H (.ref a) (.ref CP)) (hA : Dfn P w K mg base (L2.CX P w) 6 "as_ratio" ["value"] (spAs K C cB)) : FnOk P w K mg base (L2.CX P w) 10 f fd ["value"] (spAsP C CP CM) := by
  refine F.okX scAsP (fun vs H Q E h => ?_) (fun cdv A outer s H vs Q E hr h => ?_)
  · obtain ⟨a, ps, rfl, _⟩ := h
    rfl
  · obtain ⟨a, ps, rfl, ⟨dx, t, xs, mk, dm, tb, h1, _⟩, q⟩ := h
    refine ⟨_, pss_cons (ps_if (pt_val (pe_callB call_isi (by rfl) B.isi (by decide +kernel) (pa_cons (pv 0) (pa_cons (pe_glob (v := .ref CP) (by rfl) L.cls.g rfl) pa_nil)))) (pss_one (ps_ret (pv 0))) pss_nil) (pss_one ps_never), ?_⟩
    exact ⟨_, rfl, _, .ref CP, .ref CP, .ref CP, true, rfl, .own CP, tyx H a dx _ h1, kit_me, true, rfl, _, rfl, q⟩
theorem scNegP : FnScope ["self", "part"] ["self"] (defScope sNegP) := ⟨rfl, rfl, rfl, by decide +kernel, rfl, by decide +kernel, by decide +kernel⟩
theorem ok_negP {f fN : Addr} {fd fdN : FuncData} (F : Fun K "__neg__" "Poly.__neg__" sNegP f fd) (R : Rat P w K mg base cB cN C fI) (L : Pol P w K mg base cB C CP CM fP fM) (hs : PySem.W.findIn K (.ref C) "__neg__" = some (some (.ref fN))) (hf : PySem.W.isFn K (.ref fN) = true)
    (GN : FnOk P w K mg base (L2.CX P w) 6 fN fdN ["self"] (spNeg C)) (bN : Binds K fdN ["self"] []) : FnOk P w K mg base (L2.CX P w) 10 f fd ["self"] (spNegP C CP CM) := by
  refine F.okX scNegP (fun vs H Q E h => ?_) (fun cdv A outer s H vs Q E hr h => ?_)
  · obtain ⟨a, ps, rfl, _⟩ := h
    rfl
  · obtain ⟨a, ps, rfl, ⟨dx, t, xs, mk, dm, tb, h1, h2, h3, h4, h5⟩, fit, few, q⟩ := h
    have nd := scNegP.nd
    have hr6 : Room 6 _ := hr.mono (by decide)
    have lx := paired_len h3
    refine ⟨_, pss_one (ps_ret (pe_pol (E := E) L hr (passK (takes_of rfl rfl rfl rfl)) (pe_lc (own := [("part", 1)]) (g := gName 1) (tt := tYes) rfl nd (pi_or (pi_list (pe_fld (pv 0) rfl)) (pi_tup (pe_fld (pv 0) rfl))) (blkOk_by (N := ["self", "part"]) (sc := defScope sNegP) (by decide +kernel)) (fun _ _ _ _ _ => pg_name (i := 1) nd rfl (Or.inl rfl)) (fun _ _ _ _ _ => pts_nil) (fun _ _ _ _ _ => by exact (pe_un (un_own (E := E0) hs hf GN hr6 bN passL) (pv 1)))))), ?_⟩
    dsimp only [tRet, tPol]
    refine lc_map (K := K) (v := .ref t) (xs := xs) (bs := ps) (Rr := fun _ G (y : V) (p : Int × Int) => RV C G y (pneg p)) (fun R r => ⟨_, rfl, a, CP, dx, _, _, rfl, h1, L.cls.c, L.cls.nP, rfl, r⟩) ⟨t, rfl, .inr (SqT.of h2)⟩ (by rw [lx]; exact Nat.le_trans few (by decide)) lx (fun _ _ _ _ _ h s => h.same s) ?_ ?_ ?_
    · rintro D G rs ys y z hD ⟨a, dx, e, ha⟩
      refine ⟨a, dx, e, ?_⟩
      rw [upd_ne (fun z => by rw [z, hD] at ha; cases ha)]
      exact ha
    · intro D i x p G2 rs Kc hx hp s2 hD kc
      obtain ⟨p', hp', b, db, rfl, hb⟩ := paired_at h3 hx
      rw [hp] at hp'
      cases hp'
      exact ⟨_, rfl, b, db, _, rfl, s2 _ _ hb, b, db, p, rfl, s2 _ _ hb, fit p (List.mem_of_getElem? hp), fun c dc G3 nc s3 ec => kc _ _ s3 ⟨c, dc, rfl, ec⟩⟩
    · intro l2 ws G2 nl s2 hl2 pw
      have lw : ws.length ≤ sizeLine := by rw [paired_len pw]; exact Nat.le_trans few (by decide)
      exact .inr ⟨ps.map pneg, ⟨ws, ⟨l2, rfl, .inl (SqL.of hl2)⟩, lw, paired_mapR (Paired.mapP pw fun _ _ z => .inr z)⟩, by rw [List.length_map]; exact few, fun m tr => (q m tr).grow s2⟩
end
end K03
end
section
set_option maxHeartbeats 8000000
set_option exponentiation.threshold 100000
namespace K03
open PySem PySem.Spec PyProof.Rows L2 LamX NdefX L3 PolyM RZ
abbrev sAddP : Stmt := inClass (top 36) 2
abbrev sSubP : Stmt := inClass (top 36) 4
section
variable {K : PySem.W.Frag} {a b : Addr} {xs ys : List V}
theorem walk_zipT {n : Nat} (hn : n = min xs.length ys.length) : Walk (ItzT K a b) n (fun H => SqT K H a xs ∧ SqT K H b ys) (YPair (fun i => xs[i]?) (fun i => ys[i]?)) := by
  subst hn
  refine ⟨fun i _ hi q => ?_, fun _ q => ⟨xs, ys, q.1, q.2, by omega⟩, fun i H v H' _ q y => ?_⟩
  · have h1 : i < xs.length := by omega
    have h2 : i < ys.length := by omega
    exact ⟨xs, ys, xs[i], ys[i], q.1, q.2, by simp [h1], by simp [h2]⟩
  · obtain ⟨T, x, z, h1, h2, h3, h4, h5⟩ := y
    exact ⟨T, x, z, h1, h2, h3, h4 xs q.1, h5 ys q.2⟩
theorem pg_tupK {X : Cx} {es : List Expr} {k : Nat} {t : TGs} {n : Nat} {pos : Pos} (K : PySem.W.Frag) (hc : X.calm = true) (h : PGs X es t) (hK : X.K = K := by rfl)
    (hn : (assignEach es X.env).length = n := by rfl) (hst : (assignEach es X.env).findIdx? (·.1) = none := by rfl) : PG X (.Tuple es k pos) (gTup K n t) := by
  subst hK
  exact pg_tup hc h hn hst
/-- [e for x, y in zip(two tuples)] -/
theorem lc_zipT {i j : Nat} {β : Type} {bs : List β} {Rr : Addr → Hp → V → β → Prop} {σ : L2.St} {H : Hp} {te : TE} {ta : TA} {Q : VK} (hv : ∀ R : It → Hp → Prop, R (ItzT K a b) H → iZipA K ta σ H R) (ne : i ≠ j)
    (sx : SqT K H a xs) (sy : SqT K H b ys) (few : min xs.length ys.length ≤ sizeLine) (hl : min xs.length ys.length = bs.length)
    (same : ∀ (D : Addr) (H H' : Hp) (y : V) (b : β), Rr D H y b → Same H H' → Rr D H' y b) (grow : ∀ (D : Addr) (H : Hp) (rs ys : List V) (y : V) (b : β), H D = some (.lst rs) → Rr D H y b → Rr D (upd H D (.lst ys)) y b)
    (step : ∀ (D : Addr) (k : Nat) (x y : V) (b : β) (H2 : Hp) (rs : List V) (Kc : VK), xs[k]? = some x → ys[k]? = some y → bs[k]? = some b → Same H H2 → H2 D = some (.lst rs) → (∀ (z : V) (H3 : Hp), Same H2 H3 → Rr D H3 z b → Kc z H3) → te (((wipe σ [i, j]).set i (some x)).set j (some y)) H2 Kc)
    (fin : ∀ (D : Addr) (ws : List V) (H5 : Hp), H D = none → Same H H5 → H5 D = some (.lst ws) → Paired (Rr D H5) ws bs → Q (.ref D) H5) :
    tLc (iZipA K ta) (gTup K 2 (gCons (gName i) (gCons (gName j) gNil))) tYes te [i, j] σ H Q := by
  refine hv _ fun D nD => ?_
  refine lc_it (walk_zipT rfl) (fun k H2 => Same H H2 ∧ ∃ ws, H2 D = some (.lst ws) ∧ Paired (Rr D H2) ws (bs.take k)) ⟨Same.new (fun _ _ e => e) nD, [], upd_same, .nil⟩ (fun k H2 _ p => ⟨same_tup p.1 sx, same_tup p.1 sy⟩) ?_ ?_
  · rintro k v H2 H3 hk ⟨s2, ws, hD, pw⟩ ⟨T, x, y, rfl, nT, rfl, hx, hy⟩
    have hb : bs[k]? = some bs[k] := List.getElem?_eq_getElem (by omega)
    have sT := Same.new (o := .tup [x, y]) (fun _ _ e => e : Same H2 H2) nT
    refine ⟨T, [x, y], rfl, SqT.of upd_same, rfl, x, [y], rfl, y, [], rfl, rfl, ?_, ?_⟩
    · show ((((σ.set j none).set i none).set i (some x)).set j (some y) |>.set j none).set i none = (σ.set j none).set i none
      refine List.ext_getElem? fun n => ?_
      simp only [List.getElem?_set, List.length_set]
      grind
    · refine yes_if (a := fun H4 => te _ H4 _) ?_
      refine step D k x y _ _ ws _ hx hy hb (s2.trans sT) (sT _ _ hD) fun z H4 s4 rz => ?_
      have hD4 := s4 _ _ (sT _ _ hD)
      have lw : ws.length = k := by
        rw [paired_len pw, List.length_take]
        omega
      refine ⟨ws, hD4, by omega, same_grow nD (s2.trans (sT.trans s4)), ws ++ [z], upd_same, ?_⟩
      rw [take_snoc hb]
      exact (Paired.mapP pw fun v b q => grow D H4 ws (ws ++ [z]) v b hD4 (same D H2 H4 v b q (sT.trans s4))).snoc (grow D H4 ws (ws ++ [z]) z _ hD4 rz)
  · rintro H5 ⟨s5, ws, hD, pw⟩
    rw [hl, List.take_length] at pw
    exact fin D ws H5 nD s5 hD pw
end
theorem sl_drop {K : PySem.W.Frag} {t : Addr} {xs : List V} {k : Nat} {H : Hp} {Q : VK} (h : H t = some (.tup xs)) (q : ∀ (p : Addr) (H' : Hp), Same H H' → H' p = some (.tup (xs.drop k)) → Q (.ref p) H') : rSlA K (.ref t) (some (k : Int)) none H Q := by
  refine ⟨t, xs, rfl, SqT.of h, fun z => q t H (fun _ _ e => e) ?_, fun _ p np => q p _ (Same.new (fun _ _ e => e) np) ?_⟩
  · rw [HT.sIx_nat] at z
    have : xs.drop k = xs := by
      by_cases c : k = 0
      · rw [c, List.drop_zero]
      · have : xs.length = 0 := by omega
        rw [List.length_eq_zero_iff.mp this, List.drop_nil]
    rw [this]
    exact h
  · rw [upd_same]
    unfold cutV
    rw [HT.sIx_nat, HT.sIx_none]
    congr 2
    by_cases c : k ≤ xs.length
    · rw [Nat.min_eq_left c]
      exact List.take_of_length_le (by rw [List.length_drop]; omega)
    · rw [Nat.min_eq_right (by omega), List.drop_eq_nil_of_le (show xs.length ≤ k by omega), List.drop_length, List.take_nil]
theorem paired_appP {α β : Type} {F : α → β → Prop} {l1 l2 : List α} {m1 m2 : List β} (a : Paired F l1 m1) (b : Paired F l2 m2) : Paired F (l1 ++ l2) (m1 ++ m2) := by
  induction a with
  | nil => exact b
  | cons q _ ih => exact .cons q ih
theorem paired_dropP {α β : Type} {F : α → β → Prop} {l : List α} {m : List β} (p : Paired F l m) : ∀ n, Paired F (l.drop n) (m.drop n) := by
  induction p with
  | nil => intro n; rw [List.drop_nil, List.drop_nil]; exact .nil
  | cons a r ih =>
    intro n
    cases n with
    | zero => exact .cons a r
    | succ n => exact ih n
/-- the sum, its noughts at the end too -/
def addP (ps qs : List (Int × Int)) : List (Int × Int) := List.zipWith padd ps qs ++ (ps.drop qs.length ++ qs.drop ps.length)
def spAddP (C CP CM : Addr) : Sp := fun vs H Q _ => ∃ (a b : Addr) (ps qs : List (Int × Int)), vs = [.ref a, .ref b] ∧ PolyAt C CP CM H a ps ∧ PolyAt C CP CM H b qs ∧ (∀ p ∈ ps, Fit p) ∧ (∀ p ∈ qs, Fit p) ∧ ps.length ≤ 1000 ∧ qs.length ≤ 1000 ∧ ∀ m, TrimAt (addP ps qs) m → NewPoly C CP CM H Q ((addP ps qs).take m)
section
variable {P : Program} {w : World} {K : PySem.W.Frag} {mg : Str → Option Value} {base : Heap} {cB cN C fI CP CM fP fM : Addr}
theorem scAddP : FnScope ["self", "other", "left", "right", "sums", "one", "two"] ["self", "other"] (defScope sAddP) := ⟨rfl, rfl, rfl, by decide +kernel, rfl, by decide +kernel, by decide +kernel⟩
theorem ok_addP {f fA gA : Addr} {fd fdA : FuncData} (F : Fun K "__add__" "Poly.__add__" sAddP f fd) (B : TxtR mg) (bz : mg "zip" = none) (R : Rat P w K mg base cB cN C fI) (L : Pol P w K mg base cB C CP CM fP fM) (hLk : Dfn P w K mg base CX0 1 "looks_after" ["value", "below"] (spLooksP C CP CM)) (hAs : Dfn P w K mg base (L2.CX P w) 10 "as_poly" ["value"] (spAsP C CP CM))
    (O : OpC K C fA gA .Add) (FA : FnOk P w K mg base (L2.CX P w) 8 fA fdA ["self", "other"] (spBin K C cB padd)) (bA : Binds K fdA ["self", "other"] []) : FnOk P w K mg base (L2.CX P w) 11 f fd ["self", "other"] (spAddP C CP CM) := by
  refine F.okX scAddP (fun vs H Q E h => ?_) (fun cdv A outer s H vs Q E hr h => ?_)
  · obtain ⟨a, b, ps, qs, rfl, _⟩ := h
    rfl
  · obtain ⟨a, b, ps, qs, rfl, ha, hb, fp, fq, lp, lq, q⟩ := h
    have nd := scAddP.nd
    have hr8 : Room 8 _ := hr.mono (by decide)
    have hr9 : Room 9 _ := hr.mono (by decide)
    refine ⟨_, pss_cons (ps_if (pt_val (dc hLk hr (by decide) (pa_cons (pv 1) (pa_cons pe_str pa_nil)))) (pss_one ps_never) pss_nil)
      (pss_cons (ps_par (i := 2) (j := 3) (by rfl) nd rfl rfl (by decide) rfl rfl (pa_cons (pe_fld (pv 0) rfl) (pa_cons (pe_fld (dcL hAs hr (by decide) (pa_cons (pv 1) pa_nil)) rfl) pa_nil)) (by rfl))
      (pss_cons (ps_setLc (i := 4) (own := [("one", 5), ("two", 6)]) (g := gTup K 2 (gCons (gName 5) (gCons (gName 6) gNil))) (tt := tYes) rfl nd rfl rfl (sw_true rfl rfl rfl (by decide +kernel)) (pi_zipA (by rfl) bz (pa_cons (pv 2) (pa_cons (pv 3) pa_nil))) (blkOk_by (N := ["self", "other", "left", "right", "sums", "one", "two"]) (sc := defScope sAddP) (by decide +kernel)) (fun _ _ _ _ _ => pg_tupK K (by rfl) (pgs_cons (pg_name (i := 5) nd rfl (Or.inl rfl)) (pgs_cons (pg_name (i := 6) nd rfl (Or.inl rfl)) pgs_nil))) (fun _ _ _ _ _ => pts_nil) (fun _ _ _ _ _ => by exact (pe_op (show OpR _ (binaryOp .Add) (rOwnL K C _ (spBin K C cB padd) E0) from op_ownL (E := E0) R.cls.t1 O FA hr8 bA passL) (pv 5) (pv 6))))
      (pss_one (ps_ret (pe_pol (E := E) L hr9 (passK (takes_of rfl rfl rfl rfl)) (pe_lst (StX.pa_star (pv 4) (StX.pa_star (pe_slice sl_tupA (pv 2) (po_some (pe_callB call_len_seq (by rfl) B.len PySem.boot_len (pa_cons (pv 3) pa_nil))) po_none) (StX.pa_star (pe_slice sl_tupA (pv 3) (po_some (pe_callB call_len_seq (by rfl) B.len PySem.boot_len (pa_cons (pv 2) pa_nil))) po_none) pa_nil))))))))), ?_⟩
    obtain ⟨dx, t, xs, mk, dm, tb, h1, h2, h3, h4, h5⟩ := ha
    have hb0 := hb
    obtain ⟨ex, t', ys, mk', dm', tb', g1, g2, g3, g4, g5⟩ := hb
    have lx := paired_len h3
    have ly := paired_len g3
    refine seq_to (fun σ' G => σ' = [some (.ref a), some (.ref b), none, none, none, none, none] ∧ G = H) (fun kk hK => ?_) ?_
    · refine ⟨_, rfl, b, "Poly", qs, rfl, hb0, _, rfl, ?_⟩
      rw [in_poly]
      exact hK _ _ ⟨rfl, rfl⟩
    rintro σ' H ⟨rfl, rfl⟩
    refine seq_to (fun σ' G => σ' = [some (.ref a), some (.ref b), some (.ref t), some (.ref t'), none, none, none] ∧ G = H) (fun kk hK => ?_) ?_
    · exact ⟨_, rfl, a, CP, dx, _, _, rfl, h1, L.cls.c, L.cls.nP, rfl, _, rfl, b, qs, rfl, hb0, b, CP, ex, _, _, rfl, g1, L.cls.c, L.cls.nP, rfl, _, _, rfl, hK _ _ ⟨rfl, rfl⟩⟩
    rintro σ' H ⟨rfl, rfl⟩
    have lz : min xs.length ys.length = (List.zip ps qs).length := by rw [List.length_zip, lx, ly]
    refine seq_to (fun σ' G => ∃ (l : Addr) (ws : List V), σ' = [some (.ref a), some (.ref b), some (.ref t), some (.ref t'), some (.ref l), none, none] ∧ Same H G ∧ G l = some (.lst ws) ∧ Paired (RV C G) ws (List.zipWith padd ps qs)) (fun kk hK => ?_) ?_
    · dsimp only [tAsg]
      refine lc_zipT (K := K) (a := t) (b := t') (xs := xs) (ys := ys) (bs := List.zip ps qs) (Rr := fun _ G (y : V) (p : (Int × Int) × (Int × Int)) => RV C G y (padd p.1 p.2)) (fun R r => ⟨_, rfl, _, rfl, t, t', xs, ys, rfl, .inr ⟨SqT.of h2, SqT.of g2, r⟩⟩) (by decide) (SqT.of h2) (SqT.of g2) (by rw [lx]; exact Nat.le_trans (Nat.min_le_left _ _) (Nat.le_trans lp (by decide))) lz (fun _ _ _ _ _ h s => h.same s) ?_ ?_ ?_
      · rintro D G rs ys y z hD ⟨a, dx, e, ha⟩
        refine ⟨a, dx, e, ?_⟩
        rw [upd_ne (fun z => by rw [z, hD] at ha; cases ha)]
        exact ha
      · intro D i x y pq G2 rs Kc hx hy hp s2 hD kc
        obtain ⟨p1, e1, b1, d1, rfl, r1⟩ := paired_at h3 hx
        obtain ⟨p2, e2, b2, d2, rfl, r2⟩ := paired_at g3 hy
        rw [List.getElem?_zip_eq_some] at hp
        obtain ⟨z1, z2⟩ := hp
        rw [e1] at z1
        rw [e2] at z2
        cases z1
        cases z2
        exact ⟨_, rfl, _, rfl, b1, d1, _, rfl, s2 _ _ r1, .inl ⟨b2, d2, _, rfl, s2 _ _ r2⟩, b1, d1, .ref b2, pq.1, rfl, s2 _ _ r1, fp _ (List.mem_of_getElem? e1), .rat b2 d2 pq.2 rfl (s2 _ _ r2) ⟨fq _ (List.mem_of_getElem? e2), fun c dc G3 nc s3 ec => kc _ _ s3 ⟨c, dc, rfl, ec⟩⟩⟩
      · intro l ws G2 nl s2 hl pw
        refine hK _ _ ⟨l, ws, rfl, s2, hl, ?_⟩
        rw [show List.zipWith padd ps qs = (List.zip ps qs).map fun p => padd p.1 p.2 by rw [List.zip, List.map_zipWith]]
        exact paired_mapR pw
    rintro σ' G1 ⟨l, ws, rfl, s1, hl, pw⟩
    have lw := paired_len pw
    have lw2 : ws.length ≤ 1000 := by rw [lw, List.length_zipWith]; exact Nat.le_trans (Nat.min_le_left _ _) lp
    refine ⟨_, rfl, l, ws, rfl, .inr (SqL.of hl), _, rfl, _, rfl, t', ys, rfl, .inr (SqT.of (s1 _ _ g2)), _, rfl, ?_⟩
    dsimp only [tNoPart]
    refine sl_drop (s1 _ _ h2) fun p2 G2 s2 hp2 => ?_
    refine ⟨p2, _, rfl, .inl (SqT.of hp2), _, rfl, _, rfl, t, xs, rfl, .inr (SqT.of (s2 _ _ (s1 _ _ h2))), _, rfl, ?_⟩
    dsimp only [tNoPart]
    refine sl_drop (s2 _ _ (s1 _ _ g2)) fun p3 G3 s3 hp3 => ?_
    refine ⟨p3, _, rfl, .inl (SqT.of hp3), ?_, fun l2 nl2 => ?_⟩
    · show (ws ++ (List.drop ys.length xs ++ (List.drop xs.length ys ++ []))).length ≤ sizeLine
      rw [List.length_append, List.length_append, List.append_nil, List.length_drop, List.length_drop]
      exact Nat.le_trans (show _ ≤ 3000 by omega) (by decide)
    · have s4 := Same.new (o := .lst (ws ++ (List.drop ys.length xs ++ (List.drop xs.length ys ++ [])))) (fun _ _ e => e : Same G3 G3) nl2
      refine .inr ⟨addP ps qs, ⟨_, ⟨l2, rfl, .inl (SqL.of upd_same)⟩, ?_, ?_⟩, ?_, fun m tr => (q m tr).grow (s1.trans (s2.trans (s3.trans s4)))⟩
      · rw [List.length_append, List.length_append, List.append_nil, List.length_drop, List.length_drop]
        exact Nat.le_trans (show _ ≤ 3000 by omega) (by decide)
      · unfold addP
        rw [List.append_nil, lx, ly] at s4 ⊢
        refine paired_appP (Paired.mapP pw fun _ _ z => .inr (z.same (s2.trans (s3.trans s4)))) (paired_appP (Paired.mapP (paired_dropP h3 _) fun _ _ z => .inr (z.same (s1.trans (s2.trans (s3.trans s4))))) (Paired.mapP (paired_dropP g3 _) fun _ _ z => .inr (z.same (s1.trans (s2.trans (s3.trans s4))))))
      · unfold addP
        rw [List.length_append, List.length_append, List.length_drop, List.length_drop, List.length_zipWith]
        omega
/-- one less another one -/
def spSubP (C CP CM : Addr) : Sp := fun vs H Q _ => ∃ (a b : Addr) (ps qs : List (Int × Int)), vs = [.ref a, .ref b] ∧ PolyAt C CP CM H a ps ∧ PolyAt C CP CM H b qs ∧ (∀ p ∈ ps, Fit p) ∧ (∀ p ∈ qs, Fit p ∧ Low p) ∧ ps.length ≤ 1000 ∧ qs.length ≤ 1000 ∧ ∀ m, TrimAt (qs.map pneg) m → ∀ n, TrimAt (addP ps ((qs.map pneg).take m)) n → NewPoly C CP CM H Q ((addP ps ((qs.map pneg).take m)).take n)
theorem pneg_low {p : Int × Int} (h : Low p) : pneg p = (-p.1, p.2) := low_self (p := (-p.1, p.2)) ⟨h.pos, by show Nat.Coprime (-p.1).natAbs _; rw [Int.natAbs_neg]; exact h.co⟩
theorem scSubP : FnScope ["self", "other"] ["self", "other"] (defScope sSubP) := ⟨rfl, rfl, rfl, by decide +kernel, rfl, by decide +kernel, by decide +kernel⟩
theorem ok_subP {f fA gA fN : Addr} {fd fdA fdN : FuncData} (F : Fun K "__sub__" "Poly.__sub__" sSubP f fd) (L : Pol P w K mg base cB C CP CM fP fM) (hLk : Dfn P w K mg base CX0 1 "looks_after" ["value", "below"] (spLooksP C CP CM)) (hAs : Dfn P w K mg base (L2.CX P w) 10 "as_poly" ["value"] (spAsP C CP CM))
    (O : OpC K CP fA gA .Add) (FA : FnOk P w K mg base (L2.CX P w) 11 fA fdA ["self", "other"] (spAddP C CP CM)) (bA : Binds K fdA ["self", "other"] [])
    (hs : PySem.W.findIn K (.ref CP) "__neg__" = some (some (.ref fN))) (hf : PySem.W.isFn K (.ref fN) = true) (FN : FnOk P w K mg base (L2.CX P w) 10 fN fdN ["self"] (spNegP C CP CM)) (bN : Binds K fdN ["self"] []) : FnOk P w K mg base (L2.CX P w) 12 f fd ["self", "other"] (spSubP C CP CM) := by
  refine F.okX scSubP (fun vs H Q E h => ?_) (fun cdv A outer s H vs Q E hr h => ?_)
  · obtain ⟨a, b, ps, qs, rfl, _⟩ := h
    rfl
  · obtain ⟨a, b, ps, qs, rfl, ha, hb, fp, fq, lp, lq, q⟩ := h
    have hr10 : Room 10 _ := hr.mono (by decide)
    have hr11 : Room 11 _ := hr.mono (by decide)
    refine ⟨_, pss_cons (ps_if (pt_val (dc hLk hr (by decide) (pa_cons (pv 1) (pa_cons pe_str pa_nil)))) (pss_one ps_never) pss_nil)
      (pss_one (ps_ret (pe_op (op_ownL (E := E0) L.cls.t1 O FA hr11 bA passL) (pv 0) (pe_un (un_own (E := E0) hs hf FN hr10 bN passL) (dcL hAs hr (by decide) (pa_cons (pv 1) pa_nil)))))), ?_⟩
    have at_ : ∀ {H : Hp} {b : Addr} {qs : List (Int × Int)}, PolyAt C CP CM H b qs → ∃ (dx : Addr) (fs : List (Str × V)), H b = some (.ins CP dx fs) := fun h => by
      obtain ⟨dx, t, xs, mk, dm, tb, h1, _⟩ := h
      exact ⟨_, _, h1⟩
    obtain ⟨d1, f1, i1⟩ := at_ ha
    obtain ⟨d2, f2, i2⟩ := at_ hb
    refine seq_to (fun σ' G => σ' = [some (.ref a), some (.ref b)] ∧ G = H) (fun kk hK => ?_) ?_
    · refine ⟨_, rfl, b, "Poly", qs, rfl, hb, _, rfl, ?_⟩
      rw [in_poly]
      exact hK _ _ ⟨rfl, rfl⟩
    rintro σ' H ⟨rfl, rfl⟩
    refine ⟨_, rfl, _, rfl, b, qs, rfl, hb, b, d2, f2, rfl, i2, b, qs, rfl, hb, fun p hp => (fq p hp).1, Nat.le_trans lq (by decide), fun m tr => ?_⟩
    intro c H2 nc s2 hc
    obtain ⟨d3, f3, i3⟩ := at_ hc
    refine ⟨a, d1, f1, rfl, s2 _ _ i1, .inl ⟨c, d3, f3, rfl, i3⟩, a, c, ps, _, rfl, ha.same s2, hc, fp, fun p hp => ?_, lp, ?_, fun n tn => (q m tr n tn).grow s2⟩
    · obtain ⟨p0, h0, rfl⟩ := List.mem_map.mp (List.mem_of_mem_take hp)
      rw [pneg_low (fq p0 h0).2]
      exact ⟨by show (-p0.1).natAbs < _; rw [Int.natAbs_neg]; exact (fq p0 h0).1.t, (fq p0 h0).1.pos, (fq p0 h0).1.b⟩
    · rw [List.length_take, List.length_map]
      omega
end
end K03
end
section
set_option maxHeartbeats 4000000
set_option exponentiation.threshold 100000
namespace K03
open PySem PySem.Spec PyProof.Rows L2
section
variable {P : Program} {w : World} {K : PySem.W.Frag} {mg : Str → Option Value} {base : Heap} {cB cN C fI fo fa fb : Addr} {fdo fda fdb : FuncData}
end
end K03
end
section
set_option maxHeartbeats 4000000
namespace L2
open PySem PySem.Spec PyProof.Rows TL
end L2
end
section
set_option maxHeartbeats 4000000
set_option exponentiation.threshold 100000
namespace K03
open PySem PySem.Spec PyProof.Rows L2 TL
section
variable {P : Program} {w : World} {K : PySem.W.Frag} {mg : Str → Option Value} {base : Heap} {cB cN C fI fo fa fb : Addr} {fdo fda fdb : FuncData} {tG : Tok}
end
end K03
end
section
set_option maxHeartbeats 4000000
set_option exponentiation.threshold 100000
namespace L2
open PySem PySem.Spec PyProof.Rows
end L2
namespace K03
open PySem PySem.Spec PyProof.Rows L2 TL
section
variable {P : Program} {w : World} {K : PySem.W.Frag} {mg : Str → Option Value} {base : Heap} {cB cN C fI fo fa fb : Addr} {fdo fda fdb : FuncData}
end
end K03
end
section
set_option maxHeartbeats 4000000
namespace K03
open PySem PySem.Spec PyProof.Rows L2
abbrev sPen : Stmt := top 42
abbrev sDraw : Stmt := top 43
abbrev sPick : Stmt := top 44
section
variable {P : Program} {w : World} {K : PySem.W.Frag} {mg : Str → Option Value} {base : Heap}
theorem scPen : FnScope ["_law_script"] ["_law_script"] (defScope sPen) := ⟨rfl, rfl, rfl, by decide +kernel, rfl, by decide +kernel, by decide +kernel⟩
theorem ok_pen {f : Addr} {fd : FuncData} (F : Fun K "_law_pen" "_law_pen" sPen f fd) (T : TxtR mg) : FnOk P w K mg base CX0 1 f fd ["_law_script"] (spPen K) := by
  refine F.ok scPen (fun vs H Q E h => ?_) (fun cdv A outer s H vs Q E hr h => ?_)
  · obtain ⟨a, ns, rfl, _⟩ := h
    rfl
  · obtain ⟨a, ns, rfl, hS, hl, k⟩ := h
    refine ⟨_, pss_one (ps_ret (pe_disp (pps_cons pe_str (pe_callTy call_list_of (by rfl) T.list (by decide +kernel) (pa_cons (pe_slice sl_list (pv 0) po_none (po_some pe_int)) pa_nil))
      (pps_cons pe_str pe_int (pps_cons pe_str pe_int pps_nil))) (by rfl) (by rfl) (fun z => by cases z) (by decide))), ?_⟩
    intro d hd
    refine ⟨_, rfl, 63, rfl, a, ns.map V.int, rfl, ?_, fun p hp => ?_⟩
    · exact Same.seq (fun b o e => by rw [upd_ne (ne_of_none e hd)]; exact e) hS
    have e1 : cutV (ns.map V.int) none (some 63) = ns.map V.int := by
      unfold cutV
      rw [HT.sIx_none, List.drop_zero, show (some (63 : Int)) = some ((63 : Nat) : Int) from rfl, HT.sIx_nat, List.length_map, Nat.sub_zero]
      exact List.take_of_length_le (by rw [List.length_map]; omega)
    rw [e1]
    have npd : p ≠ d := fun z => by rw [z, upd_same] at hp; cases hp
    have hp0 : H p = none := by rw [upd_ne npd] at hp; exact hp
    refine ⟨p, _, rfl, .inl (SqL.of upd_same), fun c hc => ?_⟩
    have ncp : c ≠ p := fun z => by rw [z, upd_same] at hc; cases hc
    have hc1 : upd H d (.dK []) c = none := by rw [upd_ne ncp] at hc; exact hc
    have ncd : c ≠ d := fun z => by rw [z, upd_same] at hc1; cases hc1
    have hc0 : H c = none := by rw [upd_ne ncd] at hc1; exact hc1
    refine ⟨by rw [upd_ne ncd.symm, upd_ne npd.symm, upd_same], pen c 0 0, rfl, by show 3 ≤ 15; decide, ?_⟩
    rw [merge_pen]
    refine k d c _ hd hc0 (fun b o e => ?_) ⟨upd_same, by rw [upd_ne ncd, upd_same]⟩
    rw [upd_ne (ne_of_none e hd), upd_ne (ne_of_none e hc0), upd_ne (ne_of_none e hp0), upd_ne (ne_of_none e hd)]
    exact e

theorem scDraw : FnScope ["_law_pen_here", "_law_many", "_law_digit", "_law_begun", "_law_cell", "_law_blend"] ["_law_pen_here", "_law_many"] (defScope sDraw) := ⟨rfl, rfl, rfl, by decide +kernel, rfl, by decide +kernel, by decide +kernel⟩
theorem ok_draw {f : Addr} {fd : FuncData} (F : Fun K "_law_draw" "_law_draw" sDraw f fd) (T : TxtR mg) : FnOk P w K mg base CX0 1 f fd ["_law_pen_here", "_law_many"] spDraw := by
  refine F.ok scDraw (fun vs H Q E h => ?_) (fun cdv A outer s H vs Q E hr h => ?_)
  · obtain ⟨d, c, s, r, many, cells, rfl, _⟩ := h
    rfl
  · obtain ⟨d, c, st, r, many, cells, rfl, p, h0, h1, hl, hm, hm2, k⟩ := h
    have hu := hu_of hr
    have nd := scDraw.nd
    refine ⟨_, (pss_cons (ps_if (pt_cmpR op_ge (pe_dget hu (pv 0) pe_str (fun _ _ => rfl)) (pv 1) (nomark _)) (pss_cons (ps_set (i := 2) nd rfl (Or.inl rfl) (pe_op op_mod (pe_callTy call_int1 (by rfl) T.int (by decide +kernel) (pa_cons (pe_dget hu (pv 0) pe_str (fun _ _ => rfl)) pa_nil)) (pv 1)))
      (pss_cons (ps_dput hu (pv 0) pe_str (pe_op op_fdiv (pe_dget hu (pv 0) pe_str (fun _ _ => rfl)) (pv 1)) rfl)
      (pss_one (ps_ret (pv 2))))) pss_nil)
      (pss_cons (ps_set (i := 3) nd rfl (Or.inl rfl) (pe_dget hu (pv 0) pe_str (fun _ _ => rfl)))
      (pss_cons (ps_dput hu (pv 0) pe_str (pe_op op_add (pv 3) pe_int) rfl)
      (pss_cons (ps_set (i := 4) nd rfl (Or.inl rfl) (pe_op op_add (pe_op op_mul pe_int (pv 3)) pe_int))
      (pss_cons (ps_if (pt_cmpR (op_neD hr.units) (pe_dget hu (pv 0) pe_str (fun _ _ => rfl)) (pe_lst pa_nil) (nomark _)) (pss_one (ps_set (i := 4) nd rfl (Or.inl rfl) (pe_ix ix_list (pe_dget hu (pv 0) pe_str (fun _ _ => rfl)) (pe_op op_mod (pe_callTy call_int1 (by rfl) T.int (by decide +kernel) (pa_cons (pv 3) pa_nil)) (pe_callB call_len_seq (by rfl) T.len PySem.boot_len (pa_cons (pe_dget hu (pv 0) pe_str (fun _ _ => rfl)) pa_nil))) (fun _ _ => rfl)))) pss_nil)
      (pss_cons (ps_if (PW.pt (pw_and (pt_cmpR op_lt (pv 3) (pe_callB call_len_seq (by rfl) T.len PySem.boot_len (pa_cons (pe_dget hu (pv 0) pe_str (fun _ _ => rfl)) pa_nil)) (nomark _)) (pw_and1 (pt_cmpR op_ge (pv 4) (pe_op op_pow pe_int pe_int) (nomark _))))) (pss_cons (ps_dput hu (pv 0) pe_str (pe_op op_fdiv (pe_op op_sub (pv 4) (pe_op op_pow pe_int pe_int)) (pv 1)) rfl)
      (pss_one (ps_ret (pe_op op_mod (pe_callTy call_int1 (by rfl) T.int (by decide +kernel) (pa_cons (pe_op op_sub (pv 4) (pe_op op_pow pe_int pe_int)) pa_nil)) (pv 1))))) pss_nil)
      (pss_cons (ps_set (i := 5) nd rfl (Or.inl rfl) (pe_op op_add (pe_op op_mul (pe_op op_mod (pe_callTy call_int1 (by rfl) T.int (by decide +kernel) (pa_cons (pv 4) pa_nil)) pe_int) pe_int) (pe_op op_mul (pe_op op_mul pe_int (pv 3)) (pv 3))))
      (pss_cons (ps_set (i := 5) nd rfl (Or.inl rfl) (pe_op op_mod (pe_callTy call_int1 (by rfl) T.int (by decide +kernel) (pa_cons (pe_op op_add (pe_op op_add (pv 5) (pe_op op_mul pe_int (pv 3))) pe_int) pa_nil)) pe_int))
      (pss_cons (ps_set (i := 5) nd rfl (Or.inl rfl) (pe_op op_mod (pe_callTy call_int1 (by rfl) T.int (by decide +kernel) (pa_cons (pe_op op_mul (pv 5) (pe_op op_add (pv 5) pe_int)) pa_nil)) pe_int))
      (pss_one (ps_ret (pe_op op_mod (pe_callTy call_int1 (by rfl) T.int (by decide +kernel) (pa_cons (pe_op op_fdiv (pe_op op_mod (pe_callTy call_int1 (by rfl) T.int (by decide +kernel) (pa_cons (pe_op op_add (pe_op op_mul (pv 5) (pv 5)) (pe_op op_mul pe_int (pv 5))) pa_nil)) pe_int) pe_int) pa_nil)) (pv 1))))))))))))), ?_⟩
    have gs : ∀ {H' : Hp} {s' r' : Int}, PenAt H' d c s' r' cells → DGet H' d (.str "begun") (some (.int s')) := fun {H' s' r'} q => by
      have z := DGet.k (k := (.inr "begun" : Key)) q.dc
      rw [pen_stop] at z
      exact z
    have gr : ∀ {H' : Hp} {s' r' : Int}, PenAt H' d c s' r' cells → DGet H' d (.str "left") (some (.int r')) := fun {H' s' r'} q => by
      have z := DGet.k (k := (.inr "left" : Key)) q.dc
      rw [pen_rest] at z
      exact z
    have gc : ∀ {H' : Hp} {s' r' : Int}, PenAt H' d c s' r' cells → DGet H' d (.str "cells") (some (.ref c)) := fun {H' s' r'} q => by
      have z := DGet.k (k := (.inr "cells" : Key)) q.dc
      rw [pen_cells] at z
      exact z
    have us : ∀ {H' : Hp} {s' r' : Int} (z : Int), PenAt H' d c s' r' cells → DPut H' d (.str "begun") (.int z) (upd H' d (.dK (pen c z r'))) := fun {H' s' r'} z q => by
      have y := DPut.k (k := (.inr "begun" : Key)) (v := .int z) q.dc (by show 3 < sizeLine; decide)
      rw [put_stop] at y
      exact y
    have ur : ∀ {H' : Hp} {s' r' : Int} (z : Int), PenAt H' d c s' r' cells → DPut H' d (.str "left") (.int z) (upd H' d (.dK (pen c s' z))) := fun {H' s' r'} z q => by
      have y := DPut.k (k := (.inr "left" : Key)) (v := .int z) q.dc (by show 3 < sizeLine; decide)
      rw [put_rest] at y
      exact y
    -- if pen["left"] >= many
    refine ⟨_, rfl, d, _, rfl, gr p, _, rfl, _, _, rfl, rfl, _, rfl, ?_⟩
    refine ite2 (fun _ => ?_) (fun _ => ?_)
    · refine ⟨_, rfl, d, _, rfl, gr p, .inl ⟨_, rfl, _, rfl, _, _, rfl, rfl, hm, ?_⟩⟩
      refine ⟨_, rfl, d, _, rfl, gr p, _, rfl, _, _, rfl, rfl, ⟨hm, hm2⟩, _, rfl, d, _, rfl, ur _ p, ?_⟩
      exact ⟨_, rfl, k _ _ _ _ (Int.emod_nonneg _ (by omega)) (Int.emod_lt_of_pos _ hm) h0 (by omega) (p.set _ _) SameBut.refl.put⟩
    -- stop, cell
    have p1 := p.set (st + 1) r
    have frs : ∀ {H1 : Hp} {b : Addr}, H1 b = none → ∀ {a : Addr} {o : HO}, H1 a = some o → a ≠ b := fun h1 _ _ h2 => ne_of_none h2 h1
    refine ⟨_, rfl, d, _, rfl, gs p, _, rfl, _, _, rfl, rfl, _, rfl, d, _, rfl, us _ p, _, rfl, _, _, rfl, rfl, .inl ⟨by decide, by decide⟩, _, _, rfl, rfl, ?_⟩
    refine ⟨_, rfl, d, _, rfl, gc p1, by show 0 ≤ sizeLine; decide, fun l hn => ?_⟩
    have p2 := p1.new (o := .lst []) hn
    have sb : SameBut d H (upd (upd H d (.dK (pen c (st + 1) r))) l (.lst [])) := SameBut.refl.put.new hn
    have hl2 : upd (upd H d (.dK (pen c (st + 1) r))) l (.lst []) l = some (.lst []) := upd_same
    generalize upd (upd H d (.dK (pen c (st + 1) r))) l (.lst []) = H2 at p2 sb hl2 ⊢
    refine ⟨.list (cells.map PyData.int), .list [], .lst (SqL.of p2.ls) (dp_ints _), .lst (SqL.of hl2) .nil, PySem.W.ke_shaped_ints _, by decide +kernel, _, rfl, ?_⟩
    -- cell = cells[stop % len(cells)]
    refine ite2 (fun nz => ?_) (fun _ => ?_)
    · have pos : 0 < cells.length := by
        cases cells with
        | nil => exact absurd nz (by decide)
        | cons _ _ => exact Nat.succ_pos _
      have l0 : (0 : Int) < ((cells.map V.int).length : Int) := by rw [List.length_map]; omega
      obtain ⟨x, hx⟩ := at_mod pos st
      refine ⟨_, rfl, d, _, rfl, gc p2, _, rfl, .inl ⟨_, rfl, _, rfl, d, _, rfl, gc p2, c, _, rfl, .inl (SqL.of p2.ls), _, _, rfl, rfl, l0, c, _, _, .int x, rfl, rfl, SqL.of p2.ls, hx, ?_⟩⟩
      refine ⟨_, rfl, _, rfl, d, _, rfl, gc p2, c, _, rfl, .inl (SqL.of p2.ls), _, _, rfl, rfl, _, rfl, ?_⟩
      refine ite2 (fun _ => ?_) (fun _ => iteF ?_)
      · refine ⟨_, rfl, _, _, rfl, rfl, ⟨by decide, by decide, by decide⟩, _, _, rfl, rfl, _, rfl, ?_⟩
        refine ite2 (fun _ => ?_) (fun _ => ?_)
        · refine ⟨_, rfl, _, _, rfl, rfl, ⟨by decide, by decide, by decide⟩, _, _, rfl, rfl, _, rfl, _, _, rfl, rfl, ⟨hm, hm2⟩, _, rfl, d, _, rfl, ur _ p2, ?_⟩
          refine ⟨_, rfl, _, _, rfl, rfl, ⟨by decide, by decide, by decide⟩, _, _, rfl, rfl, .inl ⟨_, rfl, _, rfl, _, _, rfl, rfl, hm, ?_⟩⟩
          exact k _ _ _ _ (Int.emod_nonneg _ (by omega)) (Int.emod_lt_of_pos _ hm) (by omega) (Int.le_refl _) (p2.set _ _) sb.put
        · refine ⟨_, rfl, .inl ⟨_, rfl, _, _, rfl, rfl, (show (0 : Int) < 2147481209 by decide), _, _, rfl, rfl, .inr ⟨by decide, by decide⟩, _, rfl, _, _, rfl, rfl, .inl ⟨by decide, by decide⟩, _, rfl, _, _, rfl, rfl, .inr ⟨by omega, by omega⟩, _, _, rfl, rfl, ?_⟩⟩
          refine ⟨_, rfl, _, rfl, _, _, rfl, rfl, .inl ⟨by decide, by decide⟩, _, _, rfl, rfl, _, _, rfl, rfl, .inl ⟨_, rfl, _, _, rfl, rfl, (show (0 : Int) < 2147481247 by decide), ?_⟩⟩
          refine ⟨_, rfl, _, rfl, _, _, rfl, rfl, _, _, rfl, rfl, .inl (modb _ (by decide) (by decide)), .inl ⟨_, rfl, _, _, rfl, rfl, (show (0 : Int) < 2147481263 by decide), ?_⟩⟩
          refine ⟨_, rfl, _, rfl, _, _, rfl, rfl, .inl (modb _ (by decide) (by decide)), _, rfl, _, _, rfl, rfl, .inl ⟨by decide, by decide⟩, _, _, rfl, rfl, .inl ⟨_, rfl, _, _, rfl, rfl, (show (0 : Int) < 2147481283 by decide), _, _, rfl, rfl, ⟨by decide, by decide⟩, .inl ⟨_, rfl, _, rfl, _, _, rfl, rfl, hm, ?_⟩⟩⟩
          exact k _ _ _ _ (Int.emod_nonneg _ (by omega)) (Int.emod_lt_of_pos _ hm) (by omega) (Int.le_refl _) p2 sb
      · refine ⟨_, rfl, .inl ⟨_, rfl, _, _, rfl, rfl, (show (0 : Int) < 2147481209 by decide), _, _, rfl, rfl, .inr ⟨by decide, by decide⟩, _, rfl, _, _, rfl, rfl, .inl ⟨by decide, by decide⟩, _, rfl, _, _, rfl, rfl, .inr ⟨by omega, by omega⟩, _, _, rfl, rfl, ?_⟩⟩
        refine ⟨_, rfl, _, rfl, _, _, rfl, rfl, .inl ⟨by decide, by decide⟩, _, _, rfl, rfl, _, _, rfl, rfl, .inl ⟨_, rfl, _, _, rfl, rfl, (show (0 : Int) < 2147481247 by decide), ?_⟩⟩
        refine ⟨_, rfl, _, rfl, _, _, rfl, rfl, _, _, rfl, rfl, .inl (modb _ (by decide) (by decide)), .inl ⟨_, rfl, _, _, rfl, rfl, (show (0 : Int) < 2147481263 by decide), ?_⟩⟩
        refine ⟨_, rfl, _, rfl, _, _, rfl, rfl, .inl (modb _ (by decide) (by decide)), _, rfl, _, _, rfl, rfl, .inl ⟨by decide, by decide⟩, _, _, rfl, rfl, .inl ⟨_, rfl, _, _, rfl, rfl, (show (0 : Int) < 2147481283 by decide), _, _, rfl, rfl, ⟨by decide, by decide⟩, .inl ⟨_, rfl, _, rfl, _, _, rfl, rfl, hm, ?_⟩⟩⟩
        exact k _ _ _ _ (Int.emod_nonneg _ (by omega)) (Int.emod_lt_of_pos _ hm) (by omega) (Int.le_refl _) p2 sb
    · refine ⟨_, rfl, _, rfl, d, _, rfl, gc p2, c, _, rfl, .inl (SqL.of p2.ls), _, _, rfl, rfl, _, rfl, ?_⟩
      refine ite2 (fun _ => ?_) (fun _ => iteF ?_)
      · refine ⟨_, rfl, _, _, rfl, rfl, ⟨by decide, by decide, by decide⟩, _, _, rfl, rfl, _, rfl, ?_⟩
        refine ite2 (fun _ => ?_) (fun _ => ?_)
        · refine ⟨_, rfl, _, _, rfl, rfl, ⟨by decide, by decide, by decide⟩, _, _, rfl, rfl, _, rfl, _, _, rfl, rfl, ⟨hm, hm2⟩, _, rfl, d, _, rfl, ur _ p2, ?_⟩
          refine ⟨_, rfl, _, _, rfl, rfl, ⟨by decide, by decide, by decide⟩, _, _, rfl, rfl, .inl ⟨_, rfl, _, rfl, _, _, rfl, rfl, hm, ?_⟩⟩
          exact k _ _ _ _ (Int.emod_nonneg _ (by omega)) (Int.emod_lt_of_pos _ hm) (by omega) (Int.le_refl _) (p2.set _ _) sb.put
        · refine ⟨_, rfl, .inl ⟨_, rfl, _, _, rfl, rfl, (show (0 : Int) < 2147481209 by decide), _, _, rfl, rfl, .inr ⟨by decide, by decide⟩, _, rfl, _, _, rfl, rfl, .inl ⟨by decide, by decide⟩, _, rfl, _, _, rfl, rfl, .inr ⟨by omega, by omega⟩, _, _, rfl, rfl, ?_⟩⟩
          refine ⟨_, rfl, _, rfl, _, _, rfl, rfl, .inl ⟨by decide, by decide⟩, _, _, rfl, rfl, _, _, rfl, rfl, .inl ⟨_, rfl, _, _, rfl, rfl, (show (0 : Int) < 2147481247 by decide), ?_⟩⟩
          refine ⟨_, rfl, _, rfl, _, _, rfl, rfl, _, _, rfl, rfl, .inl (modb _ (by decide) (by decide)), .inl ⟨_, rfl, _, _, rfl, rfl, (show (0 : Int) < 2147481263 by decide), ?_⟩⟩
          refine ⟨_, rfl, _, rfl, _, _, rfl, rfl, .inl (modb _ (by decide) (by decide)), _, rfl, _, _, rfl, rfl, .inl ⟨by decide, by decide⟩, _, _, rfl, rfl, .inl ⟨_, rfl, _, _, rfl, rfl, (show (0 : Int) < 2147481283 by decide), _, _, rfl, rfl, ⟨by decide, by decide⟩, .inl ⟨_, rfl, _, rfl, _, _, rfl, rfl, hm, ?_⟩⟩⟩
          exact k _ _ _ _ (Int.emod_nonneg _ (by omega)) (Int.emod_lt_of_pos _ hm) (by omega) (Int.le_refl _) p2 sb
      · refine ⟨_, rfl, .inl ⟨_, rfl, _, _, rfl, rfl, (show (0 : Int) < 2147481209 by decide), _, _, rfl, rfl, .inr ⟨by decide, by decide⟩, _, rfl, _, _, rfl, rfl, .inl ⟨by decide, by decide⟩, _, rfl, _, _, rfl, rfl, .inr ⟨by omega, by omega⟩, _, _, rfl, rfl, ?_⟩⟩
        refine ⟨_, rfl, _, rfl, _, _, rfl, rfl, .inl ⟨by decide, by decide⟩, _, _, rfl, rfl, _, _, rfl, rfl, .inl ⟨_, rfl, _, _, rfl, rfl, (show (0 : Int) < 2147481247 by decide), ?_⟩⟩
        refine ⟨_, rfl, _, rfl, _, _, rfl, rfl, _, _, rfl, rfl, .inl (modb _ (by decide) (by decide)), .inl ⟨_, rfl, _, _, rfl, rfl, (show (0 : Int) < 2147481263 by decide), ?_⟩⟩
        refine ⟨_, rfl, _, rfl, _, _, rfl, rfl, .inl (modb _ (by decide) (by decide)), _, rfl, _, _, rfl, rfl, .inl ⟨by decide, by decide⟩, _, _, rfl, rfl, .inl ⟨_, rfl, _, _, rfl, rfl, (show (0 : Int) < 2147481283 by decide), _, _, rfl, rfl, ⟨by decide, by decide⟩, .inl ⟨_, rfl, _, rfl, _, _, rfl, rfl, hm, ?_⟩⟩⟩
        exact k _ _ _ _ (Int.emod_nonneg _ (by omega)) (Int.emod_lt_of_pos _ hm) (by omega) (Int.le_refl _) p2 sb
end
end K03
end
section
set_option maxHeartbeats 4000000
set_option exponentiation.threshold 100000
namespace K03
open PySem PySem.Spec PyProof.Rows L2
abbrev sWide : Stmt := top 45
abbrev sGcd : Stmt := top 46
abbrev sLowest : Stmt := top 47
abbrev sPlus : Stmt := top 48
abbrev sTimes : Stmt := top 50
def spPlus : Sp := fun vs H Q _ => ∃ (t u : Addr) (p q : Int × Int), vs = [.ref t, .ref u] ∧ Pair H t p ∧ Pair H u q ∧ Fit p ∧ Fit q ∧ NewP H Q (padd p q)
def spTimes : Sp := fun vs H Q _ => ∃ (t u : Addr) (p q : Int × Int), vs = [.ref t, .ref u] ∧ Pair H t p ∧ Pair H u q ∧ Fit p ∧ Fit q ∧ NewP H Q (pmul p q)
section
variable {P : Program} {w : World} {K : PySem.W.Frag} {mg : Str → Option Value} {base : Heap} {cB cN C fI : Addr}
theorem scPick : FnScope ["_law_pen_here", "_law_some_here"] ["_law_pen_here", "_law_some_here"] (defScope sPick) := ⟨rfl, rfl, rfl, by decide +kernel, rfl, by decide +kernel, by decide +kernel⟩
theorem ok_pick {f fD : Addr} {fd fdD : FuncData} (F : Fun K "_law_pick" "_law_pick" sPick f fd) (FD : Fun K "_law_draw" "_law_draw" sDraw fD fdD) (gD : mg "_law_draw" = some (.ref fD)) (bD : Binds K fdD ["_law_pen_here", "_law_many"] []) (T : TxtR mg) :
    FnOk P w K mg base CX0 2 f fd ["_law_pen_here", "_law_some_here"] spPick := by
  have G : FnOk P w K mg base CX0 1 fD fdD ["_law_pen_here", "_law_many"] spDraw := ok_draw FD T
  refine F.ok scPick (fun vs H Q E h => ?_) (fun cdv A outer s H vs Q E hr h => ?_)
  · obtain ⟨d, c, l, s, r, cells, xs, rfl, _⟩ := h
    rfl
  · obtain ⟨d, c, l, st, r, cells, xs, rfl, p, h0, h1, hl, hx, hp, hm, k⟩ := h
    refine ⟨_, pss_one (ps_ret (pe_ix ix_list (pv 1) (pe_call G hr (by rfl) gD FD.kp bD .nil pass0 (pa_cons (pv 0) (pa_cons (pe_callB call_len_seq (by rfl) T.len PySem.boot_len (pa_cons (pv 1) pa_nil)) pa_nil))) (fun _ _ => rfl))), ?_⟩
    refine ⟨_, rfl, _, rfl, _, rfl, l, _, rfl, .inl (SqL.of hx), d, c, st, r, _, cells, rfl, p, h0, h1, hl, by omega, by omega, fun n s' r' H' a1 a2 a3 a4 a5 a6 => ?_⟩
    have ex : H' l = some (.lst xs) := a6 l _ hx (ne_of hx p.dc (by intro z; cases z))
    obtain ⟨j, rfl⟩ : ∃ j : Nat, n = (j : Int) := ⟨n.toNat, by omega⟩
    have hn : j < xs.length := by omega
    exact ⟨l, xs, _, xs[j], rfl, rfl, SqL.of ex, atI_nat (List.getElem?_eq_getElem hn), k _ s' r' H' (List.getElem_mem hn) a3 a4 a5 a6⟩
theorem scGcd : FnScope ["_law_one", "_law_other"] ["_law_one", "_law_other"] (defScope sGcd) := ⟨rfl, rfl, rfl, by decide +kernel, rfl, by decide +kernel, by decide +kernel⟩
theorem ok_gcd {f : Addr} {fd : FuncData} (F : Fun K "_law_gcd" "_law_gcd" sGcd f fd) (T : TxtR mg) : FnOk P w K mg base CX0 1 f fd ["_law_one", "_law_other"] spGcd := by
  refine F.ok scGcd (fun vs H Q E h => ?_) (fun cdv A outer s H vs Q E hr h => ?_)
  · obtain ⟨a, b, rfl, _⟩ := h
    rfl
  · obtain ⟨a, b, rfl, q⟩ := h
    have nd := scGcd.nd
    refine ⟨_, pss_cons (ps_par (i := 0) (j := 1) (by rfl) nd rfl rfl (by decide) rfl rfl (pa_cons (pe_callB call_abs (by rfl) T.abs (by decide +kernel) (pa_cons (pv 0) pa_nil)) (pa_cons (pe_callB call_abs (by rfl) T.abs (by decide +kernel) (pa_cons (pv 1) pa_nil)) pa_nil)) (by rfl))
      (pss_cons (ps_while PassesOwn.never (pt_cmpR op_gt (pv 1) pe_int (nomark _))
        (pss_one (ps_par (i := 0) (j := 1) (by rfl) nd rfl rfl (by decide) rfl rfl (pa_cons (pv 1) (pa_cons (pe_op op_mod (pe_callTy call_int1 (by rfl) T.int (by decide +kernel) (pa_cons (pv 0) pa_nil)) (pv 1)) pa_nil)) (by rfl))))
      (pss_one (ps_ret (pv 0)))), ?_⟩
    refine ⟨_, rfl, _, rfl, _, rfl, _, rfl, ?_⟩
    rw [abs_cast, abs_cast]
    refine ⟨_, _, rfl, ?_⟩
    dsimp only [tSeq]
    refine while_by (fun σ H' => H' = H ∧ ∃ m n : Nat, σ = [some (.int m), some (.int n)] ∧ Nat.gcd m n = Nat.gcd a.natAbs b.natAbs) gcdM ?_ ?_ (fun σ H Q Q' m h => by
      obtain ⟨v, h1, i, j, e1, e2, k, e3, q⟩ := h
      exact ⟨v, h1, i, j, e1, e2, k, e3, m _ _ q⟩)
    · exact ⟨rfl, a.natAbs, b.natAbs, rfl, rfl⟩
    rintro σ H' ⟨rfl, m, n, rfl, hg⟩
    refine ⟨_, rfl, _, _, rfl, rfl, _, rfl, ?_⟩
    refine ite2 (fun hn => ?_) (fun hn => ?_)
    · have hn0 : 0 < n := by
        have := of_decide_eq_true hn
        omega
      refine ⟨_, rfl, _, rfl, .inl ⟨_, rfl, _, rfl, _, _, rfl, rfl, (show (0 : Int) < (n : Int) by omega), _, _, rfl, ?_⟩⟩
      refine ⟨⟨rfl, n, m % n, ?_, by rw [euclid, hg]⟩, ?_⟩
      · show [some (V.int n), some (V.int ((m : Int) % (n : Int)))] = _
        rw [Int.natCast_emod]
      · show ((m : Int) % (n : Int)).toNat < (n : Int).toNat
        rw [← Int.natCast_emod, Int.toNat_natCast, Int.toNat_natCast]
        exact Nat.mod_lt _ hn0
    · have hn0 : n = 0 := by
        have : ¬ ((n : Int) > 0) := fun z => hn (decide_eq_true z)
        omega
      subst hn0
      rw [Nat.gcd_zero_right] at hg
      refine ⟨_, rfl, ?_⟩
      show Q (.int m) H'
      rw [hg]
      exact q
theorem scLowest : FnScope ["_law_above", "_law_below", "_law_factor"] ["_law_above", "_law_below"] (defScope sLowest) := ⟨rfl, rfl, rfl, by decide +kernel, rfl, by decide +kernel, by decide +kernel⟩
theorem ok_lowest {f fg : Addr} {fd fdg : FuncData} (F : Fun K "_law_lowest" "_law_lowest" sLowest f fd) (G : FnOk P w K mg base CX0 1 fg fdg ["_law_one", "_law_other"] spGcd) (gg : mg "_law_gcd" = some (.ref fg)) (kg : PySem.W.keepIn K (.ref fg) = true) (bg : Binds K fdg ["_law_one", "_law_other"] []) :
    FnOk P w K mg base CX0 2 f fd ["_law_above", "_law_below"] spLowest := by
  refine F.ok scLowest (fun vs H Q E h => ?_) (fun cdv A outer s H vs Q E hr h => ?_)
  · obtain ⟨a, b, rfl, _⟩ := h
    rfl
  · obtain ⟨a, b, rfl, h0, hs, q⟩ := h
    have nd := scLowest.nd
    refine ⟨_, pss_cons (ps_set (i := 2) nd rfl (Or.inl rfl) (pe_call G hr (by rfl) gg kg bg .nil pass0 (pa_cons (pv 0) (pa_cons (pv 1) pa_nil))))
      (pss_cons (ps_if (pt_cmpR op_lt (pv 1) pe_int (nomark _)) (pss_one (ps_set (i := 2) nd rfl (Or.inl rfl) (pe_un un_neg (pv 2)))) pss_nil)
      (pss_one (ps_ret (pe_tup (pa_cons (pe_op op_fdivZ (pv 0) (pv 2)) (pa_cons (pe_op op_fdivZ (pv 1) (pv 2)) pa_nil)))))), ?_⟩
    have dv : ∀ i, CDivZ i (shr a b) := fun i => ⟨shr_ne h0, log2_le (shr_le h0) (by have := shr_ne (t := a) h0; omega) hs (by decide)⟩
    refine ⟨_, rfl, _, rfl, a, b, rfl, _, rfl, _, _, rfl, rfl, _, rfl, ?_⟩
    refine ite2 (fun hb => ?_) (fun hb => ?_)
    · have e : -((Nat.gcd a.natAbs b.natAbs : Nat) : Int) = shr a b := by
        unfold shr
        rw [if_pos (by simpa using hb)]
      refine ⟨_, rfl, _, rfl, _, rfl, _, rfl, _, _, rfl, rfl, by rw [e]; exact dv _, _, rfl, _, rfl, _, _, rfl, rfl, by rw [e]; exact dv _, by show 2 ≤ sizeLine; decide, fun t ht => ?_⟩
      rw [e]
      exact q.at t ht
    · have e : ((Nat.gcd a.natAbs b.natAbs : Nat) : Int) = shr a b := by
        unfold shr
        rw [if_neg (by simpa using hb)]
      refine ⟨_, rfl, _, rfl, _, _, rfl, rfl, by rw [e]; exact dv _, _, rfl, _, rfl, _, _, rfl, rfl, by rw [e]; exact dv _, by show 2 ≤ sizeLine; decide, fun t ht => ?_⟩
      rw [e]
      exact q.at t ht
theorem scPlus : FnScope ["_law_one", "_law_other"] ["_law_one", "_law_other"] (defScope sPlus) := ⟨rfl, rfl, rfl, by decide +kernel, rfl, by decide +kernel, by decide +kernel⟩
theorem ok_plus {f fl : Addr} {fd fdl : FuncData} (F : Fun K "_law_plus" "_law_plus" sPlus f fd) (G : FnOk P w K mg base CX0 2 fl fdl ["_law_above", "_law_below"] spLowest) (gl : mg "_law_lowest" = some (.ref fl)) (kl : PySem.W.keepIn K (.ref fl) = true) (bl : Binds K fdl ["_law_above", "_law_below"] []) :
    FnOk P w K mg base CX0 3 f fd ["_law_one", "_law_other"] spPlus := by
  refine F.ok scPlus (fun vs H Q E h => ?_) (fun cdv A outer s H vs Q E hr h => ?_)
  · obtain ⟨t, u, p, q, rfl, _⟩ := h
    rfl
  · obtain ⟨t, u, p, q, rfl, hp, hq, fp, fq, k⟩ := h
    refine ⟨_, pss_one (ps_ret (pe_call G hr (by rfl) gl kl bl .nil pass0 (pa_cons (pe_op op_add (pe_op op_mulW (pe_ix ix_tup (pv 0) pe_int (fun _ _ => rfl)) (pe_ix ix_tup (pv 1) pe_int (fun _ _ => rfl))) (pe_op op_mulW (pe_ix ix_tup (pv 1) pe_int (fun _ _ => rfl)) (pe_ix ix_tup (pv 0) pe_int (fun _ _ => rfl)))) (pa_cons (pe_op op_mulW (pe_ix ix_tup (pv 0) pe_int (fun _ _ => rfl)) (pe_ix ix_tup (pv 1) pe_int (fun _ _ => rfl))) pa_nil)))), ?_⟩
    refine ⟨_, rfl, t, _, _, _, rfl, rfl, SqT.of hp, rfl, _, rfl, u, _, _, _, rfl, rfl, SqT.of hq, rfl, _, _, rfl, rfl, sz_mul fp.t fq.b, ?_⟩
    refine ⟨_, rfl, u, _, _, _, rfl, rfl, SqT.of hq, rfl, _, rfl, t, _, _, _, rfl, rfl, SqT.of hp, rfl, _, _, rfl, rfl, sz_mul fq.t fp.b, _, _, rfl, rfl, ?_⟩
    refine ⟨_, rfl, t, _, _, _, rfl, rfl, SqT.of hp, rfl, _, rfl, u, _, _, _, rfl, rfl, SqT.of hq, rfl, _, _, rfl, rfl, sz_mul fp.b fq.b, ?_⟩
    exact ⟨_, _, rfl, Int.ne_of_gt (Int.mul_pos fp.pos fq.pos), sz_mulB fp.b fq.b, k⟩
theorem scTimes : FnScope ["_law_one", "_law_other"] ["_law_one", "_law_other"] (defScope sTimes) := ⟨rfl, rfl, rfl, by decide +kernel, rfl, by decide +kernel, by decide +kernel⟩
theorem ok_times {f fl : Addr} {fd fdl : FuncData} (F : Fun K "_law_times" "_law_times" sTimes f fd) (G : FnOk P w K mg base CX0 2 fl fdl ["_law_above", "_law_below"] spLowest) (gl : mg "_law_lowest" = some (.ref fl)) (kl : PySem.W.keepIn K (.ref fl) = true) (bl : Binds K fdl ["_law_above", "_law_below"] []) :
    FnOk P w K mg base CX0 3 f fd ["_law_one", "_law_other"] spTimes := by
  refine F.ok scTimes (fun vs H Q E h => ?_) (fun cdv A outer s H vs Q E hr h => ?_)
  · obtain ⟨t, u, p, q, rfl, _⟩ := h
    rfl
  · obtain ⟨t, u, p, q, rfl, hp, hq, fp, fq, k⟩ := h
    refine ⟨_, pss_one (ps_ret (pe_call G hr (by rfl) gl kl bl .nil pass0 (pa_cons (pe_op op_mulW (pe_ix ix_tup (pv 0) pe_int (fun _ _ => rfl)) (pe_ix ix_tup (pv 1) pe_int (fun _ _ => rfl))) (pa_cons (pe_op op_mulW (pe_ix ix_tup (pv 0) pe_int (fun _ _ => rfl)) (pe_ix ix_tup (pv 1) pe_int (fun _ _ => rfl))) pa_nil)))), ?_⟩
    refine ⟨_, rfl, t, _, _, _, rfl, rfl, SqT.of hp, rfl, _, rfl, u, _, _, _, rfl, rfl, SqT.of hq, rfl, _, _, rfl, rfl, sz_mul fp.t fq.t, ?_⟩
    refine ⟨_, rfl, t, _, _, _, rfl, rfl, SqT.of hp, rfl, _, rfl, u, _, _, _, rfl, rfl, SqT.of hq, rfl, _, _, rfl, rfl, sz_mul fp.b fq.b, ?_⟩
    exact ⟨_, _, rfl, Int.ne_of_gt (Int.mul_pos fp.pos fq.pos), sz_mulB fp.b fq.b, k⟩
end
end K03
end
section
set_option maxHeartbeats 4000000
set_option exponentiation.threshold 100000
namespace K03
open PySem PySem.Spec PyProof.Rows L2
theorem SameBut.trans {d : Addr} {H H1 H2 : Hp} (a : SameBut d H H1) (b : SameBut d H1 H2) : SameBut d H H2 := fun x o e n => b x o (a x o e n) n
theorem pow7 : (10 : Int) ^ (7 : Int).toNat = 10000000 := by decide
section
variable {P : Program} {w : World} {K : PySem.W.Frag} {mg : Str → Option Value} {base : Heap} {cB cN C fI fD : Addr} {fdD : FuncData}
theorem scWide : FnScope ["_law_pen_here", "_law_pieces", "_law_out", "_law_k"] ["_law_pen_here", "_law_pieces"] (defScope sWide) := ⟨rfl, rfl, rfl, by decide +kernel, rfl, by decide +kernel, by decide +kernel⟩
theorem ok_wide {f : Addr} {fd : FuncData} (F : Fun K "_law_wide" "_law_wide" sWide f fd) (T : TxtR mg) (G : FnOk P w K mg base CX0 1 fD fdD ["_law_pen_here", "_law_many"] spDraw) (gD : mg "_law_draw" = some (.ref fD)) (kD : PySem.W.keepIn K (.ref fD) = true) (bD : Binds K fdD ["_law_pen_here", "_law_many"] []) :
    FnOk P w K mg base CX0 2 f fd ["_law_pen_here", "_law_pieces"] spWide := by
  refine F.ok scWide (fun vs H Q E h => ?_) (fun cdv A outer s H vs Q E hr h => ?_)
  · obtain ⟨d, c, s, r, m, cells, rfl, _⟩ := h
    rfl
  · obtain ⟨d, c, st, r, m, cells, rfl, p, h0, h1, hl, hm, q⟩ := h
    have nd := scWide.nd
    refine ⟨_, pss_cons (ps_set (i := 2) nd rfl (Or.inl rfl) pe_int)
      (pss_cons (ps_for PassesOwn.never rfl (pi_range1 rfl T.range (pa_cons (pv 1) pa_nil)) (pg_name (i := 3) nd rfl (Or.inl rfl))
        (pss_one (ps_set (i := 2) nd rfl (Or.inl rfl) (pe_op op_add (pe_op op_mulW (pv 2) (pe_op op_pow pe_int pe_int)) (pe_call G hr (by rfl) gD kD bD .nil pass0 (pa_cons (pv 0) (pa_cons (pe_op op_pow pe_int pe_int) pa_nil)))))))
      (pss_one (ps_ret (pv 2)))), ?_⟩
    refine ⟨_, rfl, m, rfl, by omega, by omega, ?_⟩
    refine for_range (lo := 0) (n := m) (fun i σ H' => ∃ (n s' r' : Int) (o : Option V), σ = [some (.ref d), some (.int m), some (.int n), o] ∧ 0 ≤ n ∧ n < 10 ^ (7 * i) ∧ PenAt H' d c s' r' cells ∧ 0 ≤ s' ∧ s' ≤ st + i ∧ SameBut d H H') ⟨0, st, r, none, rfl, by decide, by decide, p, h0, by omega, SameBut.refl⟩ ?_ ?_
    · rintro i σ H' hi ⟨n, s', r', o, rfl, n0, n1, p', s0, s1, sb⟩
      have hb : n.natAbs < 2 ^ 2400 := by
        have e1 : (10 : Int) ^ (7 * i) = ((10 ^ (7 * i) : Nat) : Int) := by simp
        have e2 : (10 : Nat) ^ (7 * i) ≤ 10 ^ 700 := Nat.pow_le_pow_right (by decide) (by omega)
        have e3 : (10 : Nat) ^ 700 ≤ 2 ^ 2400 := by decide +kernel
        rw [e1] at n1
        omega
      refine ⟨_, rfl, _, _, rfl, rfl, ⟨by decide, by decide, by decide⟩, _, _, rfl, rfl, ?_, ?_⟩
      · rw [pow7]
        exact wide_mul (a := 2400) (b := 24) hb (by decide) (by decide) (by decide) (by decide)
      refine ⟨_, rfl, _, _, rfl, rfl, ⟨by decide, by decide, by decide⟩, d, c, s', r', _, cells, rfl, p', s0, by omega, hl, ?_, ?_, fun k s2 r2 H2 a1 a2 a3 a4 a5 a6 => ?_⟩
      · rw [pow7]; decide
      · rw [pow7]; decide
      rw [pow7] at a2
      refine ⟨_, _, rfl, rfl, ?_⟩
      refine ⟨_, s2, r2, _, rfl, ?_, ?_, a5, a3, by omega, sb.trans a6⟩
      · rw [pow7]
        omega
      · rw [pow7, Nat.mul_succ, Int.pow_add]
        have : (10 : Int) ^ 7 = 10000000 := by decide
        rw [this]
        omega
    · rintro σ H' ⟨n, s', r', o, rfl, n0, n1, p', s0, s1, sb⟩
      exact ⟨_, rfl, q n s' r' H' n0 n1 s0 s1 p' sb⟩
end
end K03
end
section
set_option maxHeartbeats 4000000
set_option exponentiation.threshold 100000
namespace K03
open PySem PySem.Spec PyProof.Rows L2
section
variable {P : Program} {w : World} {K : PySem.W.Frag} {mg : Str → Option Value} {base : Heap} {cB cN C fI fD fW : Addr} {fdD fdW : FuncData}
end
end K03
end
section
set_option maxHeartbeats 4000000
set_option exponentiation.threshold 100000
namespace K03
open PySem PySem.Spec PyProof.Rows L2
abbrev sInt : Stmt := top 52
abbrev sIs : Stmt := top 53
def spInt : Sp := fun vs H Q _ => ∃ i j : Int, vs = [.int i, .int j] ∧ Q (.bl (decide (i = j))) H
def spIs (C : Addr) : Sp := fun vs H Q _ => ∃ (a dx t : Addr) (p q : Int × Int), vs = [.ref a, .ref t] ∧ H a = some (rat C dx p) ∧ Pair H t q ∧ Q (.bl (decide (p = q))) H
section
variable {P : Program} {w : World} {K : PySem.W.Frag} {mg : Str → Option Value} {base : Heap} {cB cN C fI fD fW fP : Addr} {fdD fdW fdP : FuncData}
theorem scInt : FnScope ["_law_told_here", "_law_due"] ["_law_told_here", "_law_due"] (defScope sInt) := ⟨rfl, rfl, rfl, by decide +kernel, rfl, by decide +kernel, by decide +kernel⟩
theorem ok_int {f : Addr} {fd : FuncData} (F : Fun K "_law_int" "_law_int" sInt f fd) (T : TxtR mg) : FnOk P w K mg base CX0 1 f fd ["_law_told_here", "_law_due"] spInt := by
  refine F.ok scInt (fun vs H Q E h => ?_) (fun cdv A outer s H vs Q E hr h => ?_)
  · obtain ⟨i, j, rfl, _⟩ := h
    rfl
  · obtain ⟨i, j, rfl, q⟩ := h
    refine ⟨_, pss_one (ps_ret (pe_and (pe_callB call_isi (by rfl) T.isi (by decide +kernel) (pa_cons (pv 0) (pa_cons (pe_bltn (v := .ty "int") (u := .type "int") (by rfl) T.int (by decide +kernel) rfl) pa_nil)))
      (pe_and (pe_not (pe_callB call_isi (by rfl) T.isi (by decide +kernel) (pa_cons (pv 0) (pa_cons (pe_bltn (v := .ty "bool") (u := .type "bool") (by rfl) T.bool (by decide +kernel) rfl) pa_nil))))
      (pe_one (pe_cmpR op_eq (pv 0) (pv 1) (nomark _)))))), ?_⟩
    refine ⟨_, rfl, _, .ty "int", .type "int", .type "int", true, rfl, .ty _, .base (.int i), kit_ty (by decide +kernel), true, rfl, ?_⟩
    refine ⟨_, rfl, _, .ty "bool", .type "int", .type "bool", false, rfl, .ty _, .base (.int i), kit_ty (by decide +kernel), _, rfl, _, rfl, ?_⟩
    refine ⟨_, rfl, _, rfl, rfl, ?_⟩
    have hd : decide (V.int i = V.int j) = decide (i = j) := by simp
    show Q (.bl (decide (V.int i = V.int j))) H
    rw [hd]
    exact q
theorem scIs : FnScope ["_law_told_here", "_law_due"] ["_law_told_here", "_law_due"] (defScope sIs) := ⟨rfl, rfl, rfl, by decide +kernel, rfl, by decide +kernel, by decide +kernel⟩
theorem ok_is {f fi : Addr} {fd fdi : FuncData} (F : Fun K "_law_is" "_law_is" sIs f fd) (T : TxtR mg) (R : Rat P w K mg base cB cN C fI) (G : FnOk P w K mg base CX0 1 fi fdi ["_law_told_here", "_law_due"] spInt) (gi : mg "_law_int" = some (.ref fi)) (ki : PySem.W.keepIn K (.ref fi) = true) (bi : Binds K fdi ["_law_told_here", "_law_due"] []) :
    FnOk P w K mg base CX0 2 f fd ["_law_told_here", "_law_due"] (spIs C) := by
  refine F.ok scIs (fun vs H Q E h => ?_) (fun cdv A outer s H vs Q E hr h => ?_)
  · obtain ⟨a, dx, t, p, q, rfl, _⟩ := h
    rfl
  · obtain ⟨a, dx, t, p, q, rfl, ha, ht, k⟩ := h
    refine ⟨_, pss_one (ps_ret (pe_and (pe_callB call_isi (by rfl) T.isi (by decide +kernel) (pa_cons (pv 0) (pa_cons (pe_glob (v := .ref C) (by rfl) R.cls.g rfl) pa_nil)))
      (pe_and (pe_call G hr (by rfl) gi ki bi .nil pass0 (pa_cons (pe_fld (pv 0) rfl) (pa_cons (pe_ix ix_tup (pv 1) pe_int (fun _ _ => rfl)) pa_nil)))
      (pe_one (pe_call G hr (by rfl) gi ki bi .nil pass0 (pa_cons (pe_fld (pv 0) rfl) (pa_cons (pe_ix ix_tup (pv 1) pe_int (fun _ _ => rfl)) pa_nil))))))), ?_⟩
    refine ⟨_, rfl, _, .ref C, .ref C, .ref C, true, rfl, .own C, R.tyx H a dx _ ha, kit_me, true, rfl, ?_⟩
    refine ⟨_, rfl, a, C, dx, _, _, rfl, ha, R.cls.c, R.cls.nT, lkT, _, rfl, t, _, _, _, rfl, rfl, SqT.of ht, rfl, p.1, q.1, rfl, _, rfl, ?_⟩
    refine ite2 (fun h1 => ?_) (fun h1 => ?_)
    · have e1 : p.1 = q.1 := of_decide_eq_true h1
      refine ⟨_, rfl, a, C, dx, _, _, rfl, ha, R.cls.c, R.cls.nB, lkBt, _, rfl, t, _, _, _, rfl, rfl, SqT.of ht, rfl, p.2, q.2, rfl, ?_⟩
      have e2 : decide (p.2 = q.2) = decide (p = q) := by
        have : (p = q) ↔ (p.2 = q.2) := ⟨fun z => by rw [z], fun z => Prod.ext e1 z⟩
        simp [this]
      show Q (.bl (decide (p.2 = q.2))) H
      rw [e2]
      exact k
    · have e1 : ¬ p.1 = q.1 := fun z => h1 (decide_eq_true z)
      have e2 : decide (p = q) = false := decide_eq_false fun z => e1 (by rw [z])
      rw [e2] at k
      exact k
end
end K03
end
section
set_option maxHeartbeats 8000000
set_option exponentiation.threshold 100000
namespace K03
open PySem PySem.Spec PyProof.Rows L2 LamX NdefX L3
abbrev sFew : Stmt := top 57
abbrev sReal : Stmt := top 58
/-- a drawn number -/
structure FewD (p : Int × Int) : Prop where
  l : Low p
  b : Bd 2520 (10 ^ 14) p
theorem SameBut.tr3 {d : Addr} {H H1 H2 : Hp} (a : SameBut d H H1) (b : SameBut d H1 H2) : SameBut d H H2 := fun x o e n => b x o (a x o e n) n
theorem SameBut.by3 {d : Addr} {H H1 : Hp} (a : Same H H1) : SameBut d H H1 := fun x o e _ => a x o e
theorem PenAt.to3 {H H' : Hp} {d c : Addr} {s r : Int} {cells : List Int} (p : PenAt H d c s r cells) (e : Same H H') : PenAt H' d c s r cells := ⟨e _ _ p.dc, e _ _ p.ls⟩
theorem few_int {z : Int} (h : z.natAbs ≤ 10 ^ 14) : FewD (z, 1) := ⟨⟨by show (0 : Int) < 1; decide, Nat.coprime_one_right _⟩, ⟨by show (1 : Int) ∣ _; exact Int.one_dvd _, by show z.natAbs ≤ 10 ^ 14 * 1; omega⟩⟩
theorem few_low {t b : Int} (h0 : 1 ≤ b) (h9 : b ≤ 9) (ht : t.natAbs ≤ 9) : FewD (low t b) := by
  have nz : b ≠ 0 := by omega
  refine ⟨low_low nz, ⟨?_, low_size nz ?_⟩⟩
  · refine low_dvd2 nz (z := t * (2520 / b)) ?_
    have : b = 1 ∨ b = 2 ∨ b = 3 ∨ b = 4 ∨ b = 5 ∨ b = 6 ∨ b = 7 ∨ b = 8 ∨ b = 9 := by omega
    rcases this with rfl | rfl | rfl | rfl | rfl | rfl | rfl | rfl | rfl <;> (rw [Int.mul_assoc]; congr 1)
  · refine Nat.le_trans ht (Nat.le_trans (show 9 ≤ 10 ^ 14 * 1 by decide) (Nat.mul_le_mul_left _ ?_))
    exact Int.natAbs_pos.mpr nz
def spFewN (n : Int) (G : Int × Int → Prop) : Sp := fun vs H Q _ => ∃ (d c : Addr) (s r : Int) (cells : List Int), vs = [.ref d] ∧ PenAt H d c s r cells ∧ 0 ≤ s ∧ s + n ≤ 100000 ∧ cells.length ≤ 63 ∧
  ∀ (t : Addr) (p : Int × Int) (s' r' : Int) (H' : Hp), FewD p → G p → 0 ≤ s' → s' ≤ s + n → PenAt H' d c s' r' cells → SameBut d H H' → Pair H' t p → Q (.ref t) H'
abbrev spFew : Sp := spFewN 5 fun _ => True
abbrev spReal : Sp := spFewN 6 fun p => p.1 ≠ 0
section
variable {P : Program} {w : World} {K : PySem.W.Frag} {mg : Str → Option Value} {base : Heap}
theorem scFew : FnScope ["_law_pen_here", "_law_sort", "_law_sign"] ["_law_pen_here"] (defScope sFew) := ⟨rfl, rfl, rfl, by decide +kernel, rfl, by decide +kernel, by decide +kernel⟩
theorem ok_few {f : Addr} {fd : FuncData} (F : Fun K "_law_few" "_law_few" sFew f fd) (hD : Dfn P w K mg base CX0 1 "_law_draw" ["_law_pen_here", "_law_many"] spDraw) (hL : Dfn P w K mg base CX0 2 "_law_lowest" ["_law_above", "_law_below"] spLowest) (hW : Dfn P w K mg base CX0 2 "_law_wide" ["_law_pen_here", "_law_pieces"] spWide) :
    FnOk P w K mg base CX0 3 f fd ["_law_pen_here"] spFew := by
  refine F.ok scFew (fun vs H Q E h => ?_) (fun cdv A outer s H vs Q E hr h => ?_)
  · obtain ⟨d, c, s, r, cells, rfl, _⟩ := h
    rfl
  · obtain ⟨d, c, st, r, cells, rfl, p, h0, h1, hl, k⟩ := h
    have nd := scFew.nd
    refine ⟨_, pss_cons (ps_set (i := 1) nd rfl (Or.inl rfl) (dc hD hr (by decide) (pa_cons (pv 0) (pa_cons pe_int pa_nil))))
      (pss_cons (ps_if (pt_cmpR op_lt (pv 1) pe_int (nomark _)) (pss_one (ps_ret (pe_tup (pa_cons pe_int (pa_cons pe_int pa_nil))))) pss_nil)
      (pss_cons (ps_if (pt_cmpR op_lt (pv 1) pe_int (nomark _)) (pss_one (ps_ret (pe_tup (pa_cons (pe_op op_sub (dc hD hr (by decide) (pa_cons (pv 0) (pa_cons pe_int pa_nil))) pe_int) (pa_cons pe_int pa_nil))))) pss_nil)
      (pss_cons (ps_set (i := 2) nd rfl (Or.inl rfl) (pe_op op_sub pe_int (pe_op op_mul pe_int (dc hD hr (by decide) (pa_cons (pv 0) (pa_cons pe_int pa_nil))))))
      (pss_cons (ps_if (pt_cmpR op_lt (pv 1) pe_int (nomark _)) (pss_one (ps_ret (dc hL hr (by decide) (pa_cons (pe_op op_mul (pv 2) (pe_op op_add pe_int (dc hD hr (by decide) (pa_cons (pv 0) (pa_cons pe_int pa_nil))))) (pa_cons (pe_op op_add pe_int (dc hD hr (by decide) (pa_cons (pv 0) (pa_cons pe_int pa_nil)))) pa_nil))))) pss_nil)
      (pss_one (ps_ret (pe_tup (pa_cons (pe_op op_mul (pv 2) (dc hW hr (by decide) (pa_cons (pv 0) (pa_cons (pe_op op_add pe_int (dc hD hr (by decide) (pa_cons (pv 0) (pa_cons pe_int pa_nil)))) pa_nil)))) (pa_cons pe_int pa_nil))))))))), ?_⟩
    refine ⟨_, rfl, d, c, st, r, _, cells, rfl, p, h0, by omega, hl, by decide, by decide, fun k1 s1 r1 H1 a1 a2 a3 a4 a5 a6 => ?_⟩
    refine ⟨_, rfl, _, _, rfl, rfl, _, rfl, ?_⟩
    refine ite2 (fun _ => ?_) (fun _ => ?_)
    · refine ⟨by show 2 ≤ sizeLine; decide, fun t nt => ?_⟩
      exact k t (0, 1) s1 r1 _ (few_int (by decide)) trivial a3 (by omega) (a5.new nt) (a6.new nt) upd_same
    refine ⟨_, rfl, _, _, rfl, rfl, _, rfl, ?_⟩
    refine ite2 (fun _ => ?_) (fun _ => ?_)
    · refine ⟨_, rfl, d, c, s1, r1, _, cells, rfl, a5, a3, by omega, hl, by decide, by decide, fun k2 s2 r2 H2 b1 b2 b3 b4 b5 b6 => ?_⟩
      refine ⟨_, _, rfl, rfl, by show 2 ≤ sizeLine; decide, fun t nt => ?_⟩
      exact k t (k2 - 4, 1) s2 r2 _ (few_int (by omega)) trivial b3 (by omega) (b5.new nt) ((a6.tr3 b6).new nt) upd_same
    refine ⟨_, rfl, d, c, s1, r1, _, cells, rfl, a5, a3, by omega, hl, by decide, by decide, fun k2 s2 r2 H2 b1 b2 b3 b4 b5 b6 => ?_⟩
    refine ⟨_, _, rfl, rfl, .inr ⟨by omega, by omega⟩, _, _, rfl, rfl, ?_⟩
    have sg : (1 - 2 * k2 : Int) = 1 ∨ (1 - 2 * k2 : Int) = -1 := by omega
    have k22 : k2 = 0 ∨ k2 = 1 := by omega
    clear b1 b2
    dsimp only [gName]
    generalize (1 - 2 * k2 : Int) = sgn at sg ⊢
    refine ⟨_, rfl, _, _, rfl, rfl, _, rfl, ?_⟩
    refine ite2 (fun _ => ?_) (fun _ => ?_)
    · refine ⟨_, rfl, _, rfl, d, c, s2, r2, _, cells, rfl, b5, b3, by omega, hl, by decide, by decide, fun k3 s3 r3 H3 c1 c2 c3 c4 c5 c6 => ?_⟩
      refine ⟨_, _, rfl, rfl, _, _, rfl, rfl, .inr ⟨by omega, by omega⟩, ?_⟩
      refine ⟨_, rfl, d, c, s3, r3, _, cells, rfl, c5, c3, by omega, hl, by decide, by decide, fun k4 s4 r4 H4 e1 e2 e3 e4 e5 e6 => ?_⟩
      refine ⟨_, _, rfl, rfl, _, _, rfl, by omega, Nat.lt_of_le_of_lt (show (1 + k4).natAbs ≤ 9 by omega) (by decide +kernel), fun t H5 nt s5 pt => ?_⟩
      exact k t _ s4 r4 H5 (few_low (by omega) (by omega) (by rcases sg with rfl | rfl <;> omega)) trivial e3 (by omega) (e5.to3 s5) ((((a6.tr3 b6).tr3 c6).tr3 e6).tr3 (SameBut.by3 s5)) pt
    · refine ⟨_, rfl, _, rfl, _, rfl, d, c, s2, r2, _, cells, rfl, b5, b3, by omega, hl, by decide, by decide, fun k3 s3 r3 H3 c1 c2 c3 c4 c5 c6 => ?_⟩
      refine ⟨_, _, rfl, rfl, d, c, s3, r3, (1 + k3).toNat, cells, ?_, c5, c3, by omega, hl, by omega, fun n s4 r4 H4 e1 e2 e3 e4 e5 e6 => ?_⟩
      · rw [show (((1 + k3).toNat : Nat) : Int) = 1 + k3 by omega]
        rfl
      have nb : n < 10 ^ 14 := by
        rcases (show k3 = 0 ∨ k3 = 1 by omega) with rfl | rfl
        · exact Int.lt_of_lt_of_le e2 (by decide)
        · exact e2
      refine ⟨_, _, rfl, rfl, ?_, by show 2 ≤ sizeLine; decide, fun t nt => ?_⟩
      · refine .inr ⟨?_, ?_⟩ <;> omega
      · exact k t (sgn * n, 1) s4 r4 _ (few_int (by rcases sg with rfl | rfl <;> omega)) trivial e3 (by omega) (e5.new nt) ((((a6.tr3 b6).tr3 c6).tr3 e6).new nt) upd_same
theorem scReal : FnScope ["_law_pen_here", "_law_found"] ["_law_pen_here"] (defScope sReal) := ⟨rfl, rfl, rfl, by decide +kernel, rfl, by decide +kernel, by decide +kernel⟩
theorem ok_real {f : Addr} {fd : FuncData} (F : Fun K "_law_real" "_law_real" sReal f fd) (hF : Dfn P w K mg base CX0 3 "_law_few" ["_law_pen_here"] spFew) (hP : Dfn P w K mg base CX0 2 "_law_pick" ["_law_pen_here", "_law_some_here"] spPick) :
    FnOk P w K mg base CX0 4 f fd ["_law_pen_here"] spReal := by
  refine F.ok scReal (fun vs H Q E h => ?_) (fun cdv A outer s H vs Q E hr h => ?_)
  · obtain ⟨d, c, s, r, cells, rfl, _⟩ := h
    rfl
  · obtain ⟨d, c, st, r, cells, rfl, p, h0, h1, hl, k⟩ := h
    have nd := scReal.nd
    refine ⟨_, pss_cons (ps_set (i := 1) nd rfl (Or.inl rfl) (dc hF hr (by decide) (pa_cons (pv 0) pa_nil)))
      (pss_one (ps_ret (pe_ifExp (pt_cmpR op_ne (pe_ix ix_tup (pv 1) pe_int (fun _ _ => rfl)) pe_int (nomark _)) (pv 1) (dc hP hr (by decide) (pa_cons (pv 0) (pa_cons (pe_lst (pa_cons (pe_tup (pa_cons pe_int (pa_cons pe_int pa_nil))) (pa_cons (pe_tup (pa_cons (pe_un un_neg pe_int) (pa_cons pe_int pa_nil))) (pa_cons (pe_tup (pa_cons pe_int (pa_cons pe_int pa_nil))) (pa_cons (pe_tup (pa_cons (pe_un un_neg pe_int) (pa_cons pe_int pa_nil))) pa_nil))))) pa_nil)))))), ?_⟩
    refine ⟨_, rfl, d, c, st, r, cells, rfl, p, h0, by omega, hl, fun t q s1 r1 H1 fq _ a3 a4 a5 a6 ht => ?_⟩
    refine ⟨_, rfl, t, _, _, _, rfl, rfl, SqT.of ht, rfl, rfl, _, rfl, ?_⟩
    refine ite2 (fun y => ?_) (fun y => ?_)
    · exact ⟨_, rfl, k t q s1 r1 H1 fq (by simpa using y) a3 (by omega) a5 a6 ht⟩
    · refine ⟨_, rfl, by show 2 ≤ sizeLine; decide, fun t1 n1 => ?_⟩
      refine ⟨_, rfl, by show 2 ≤ sizeLine; decide, fun t2 n2 => ?_⟩
      refine ⟨by show 2 ≤ sizeLine; decide, fun t3 n3 => ?_⟩
      refine ⟨_, rfl, by show 2 ≤ sizeLine; decide, fun t4 n4 => ?_⟩
      refine ⟨by show 4 ≤ sizeLine; decide, fun l nl => ?_⟩
      have q1 := Same.new (o := .tup [.int 1, .int 1]) (fun _ _ e => e : Same H1 H1) n1
      have e1 : upd H1 t1 (.tup [.int 1, .int 1]) t1 = some (.tup [.int 1, .int 1]) := upd_same
      generalize upd H1 t1 (.tup [.int 1, .int 1]) = G1 at q1 e1 n2 n3 n4 nl ⊢
      have q2 := Same.new (o := .tup [.int (-1), .int 1]) (fun _ _ e => e : Same G1 G1) n2
      have e2 : upd G1 t2 (.tup [.int (-1), .int 1]) t2 = some (.tup [.int (-1), .int 1]) := upd_same
      generalize upd G1 t2 (.tup [.int (-1), .int 1]) = G2 at q2 e2 n3 n4 nl ⊢
      have q3 := Same.new (o := .tup [.int 2, .int 3]) (fun _ _ e => e : Same G2 G2) n3
      have e3 : upd G2 t3 (.tup [.int 2, .int 3]) t3 = some (.tup [.int 2, .int 3]) := upd_same
      generalize upd G2 t3 (.tup [.int 2, .int 3]) = G3 at q3 e3 n4 nl ⊢
      have q4 := Same.new (o := .tup [.int (-5), .int 2]) (fun _ _ e => e : Same G3 G3) n4
      have e4 : upd G3 t4 (.tup [.int (-5), .int 2]) t4 = some (.tup [.int (-5), .int 2]) := upd_same
      generalize upd G3 t4 (.tup [.int (-5), .int 2]) = G4 at q4 e4 nl ⊢
      have q5 := Same.new (o := .lst [.ref t1, .ref t2, .ref t3, .ref t4]) (fun _ _ e => e : Same G4 G4) nl
      have e5 : upd G4 l (.lst [.ref t1, .ref t2, .ref t3, .ref t4]) l = some (.lst [.ref t1, .ref t2, .ref t3, .ref t4]) := upd_same
      generalize upd G4 l (.lst [.ref t1, .ref t2, .ref t3, .ref t4]) = G5 at q5 e5 ⊢
      have z4 := q4.trans q5
      have z3 := q3.trans z4
      have z2 := q2.trans z3
      have z1 := q1.trans z2
      refine ⟨d, c, l, s1, r1, cells, _, rfl, a5.to3 z1, a3, by omega, hl, e5, by show 0 < 4; decide, by show 4 ≤ 1000; decide, fun v s2 r2 H2 hv b3 b4 b5 b6 => ?_⟩
      have pd := a5.to3 z1
      have nd_ : ∀ {t : Addr} {xs : List V}, G5 t = some (.tup xs) → t ≠ d := fun h z => by rw [z, pd.dc] at h; cases h
      have go : ∀ {t : Addr} {q : Int × Int}, G5 t = some (.tup [.int q.1, .int q.2]) → FewD q → q.1 ≠ 0 → Q (.ref t) H2 := fun {t q} h fq nz => k t q s2 r2 H2 fq nz b3 (by omega) b5 ((a6.tr3 (SameBut.by3 z1)).tr3 b6) (b6 _ _ h (nd_ h))
      simp only [List.mem_cons, List.not_mem_nil, or_false] at hv
      rcases hv with rfl | rfl | rfl | rfl
      · exact go (q := (1, 1)) (z2 _ _ e1) (few_int (by decide)) (by decide)
      · exact go (q := (-1, 1)) (z3 _ _ e2) (few_int (by decide)) (by decide)
      · exact go (q := (2, 3)) (z4 _ _ e3) (by have h := few_low (t := 2) (b := 3) (by decide) (by decide) (by decide); rwa [show low 2 3 = (2, 3) by decide +kernel] at h) (by decide)
      · exact go (q := (-5, 2)) (q5 _ _ e4) (by have h := few_low (t := -5) (b := 2) (by decide) (by decide) (by decide); rwa [show low (-5) 2 = (-5, 2) by decide +kernel] at h) (by decide)
end
end K03
end
section
set_option maxHeartbeats 8000000
set_option exponentiation.threshold 100000
namespace K03
open PySem PySem.Spec PyProof.Rows L2 LamX NdefX L3 PolyM
abbrev sTrim : Stmt := top 61
abbrev sAt : Stmt := top 62
abbrev sAddL : Stmt := top 63
abbrev sScal : Stmt := top 64
/-- a pair of integers as a value; a list of pairs -/
def PV (H : Hp) (v : V) (p : Int × Int) : Prop := ∃ t, v = .ref t ∧ Pair H t p
def PPs (H : Hp) (l : Addr) (ps : List (Int × Int)) : Prop := ∃ ts, H l = some (.lst ts) ∧ Paired (PV H) ts ps
theorem PV.same {H H' : Hp} {v : V} {p : Int × Int} (h : PV H v p) (s : Same H H') : PV H' v p := by
  obtain ⟨t, e, h⟩ := h
  exact ⟨t, e, s _ _ h⟩
theorem PPs.same {H H' : Hp} {l : Addr} {ps : List (Int × Int)} (h : PPs H l ps) (s : Same H H') : PPs H' l ps := by
  obtain ⟨ts, h1, h2⟩ := h
  exact ⟨ts, s _ _ h1, Paired.mapP h2 fun _ _ z => z.same s⟩
theorem PV.grow {D : Addr} {H : Hp} {rs ys : List V} {y : V} {p : Int × Int} (hD : H D = some (.lst rs)) (h : PV H y p) : PV (upd H D (.lst ys)) y p := by
  obtain ⟨t, e, h⟩ := h
  refine ⟨t, e, ?_⟩
  unfold Pair at h ⊢
  rw [upd_ne (fun z => by rw [z, hD] at h; cases h)]
  exact h
theorem PV.but {d : Addr} {H H' : Hp} {v : V} {p : Int × Int} {kv : List (Key × V)} (h : PV H v p) (hd : H d = some (.dK kv)) (s : SameBut d H H') : PV H' v p := by
  obtain ⟨t, e, h⟩ := h
  exact ⟨t, e, s _ _ h (fun z => by unfold Pair at h; rw [z, hd] at h; cases h)⟩
theorem PPs.but {d : Addr} {H H' : Hp} {l : Addr} {ps : List (Int × Int)} {kv : List (Key × V)} (h : PPs H l ps) (hd : H d = some (.dK kv)) (s : SameBut d H H') : PPs H' l ps := by
  obtain ⟨ts, h1, h2⟩ := h
  exact ⟨ts, s _ _ h1 (fun z => by rw [z, hd] at h1; cases h1), Paired.mapP h2 fun _ _ z => z.but hd s⟩
/-- a new list of pairs -/
def NewPl (H : Hp) (Q : VK) (ps : List (Int × Int)) : Prop := ∀ (l : Addr) (H' : Hp), H l = none → Same H H' → PPs H' l ps → Q (.ref l) H'
theorem NewPl.grow {H H' : Hp} {Q : VK} {ps : List (Int × Int)} (n : NewPl H Q ps) (s : Same H H') : NewPl H' Q ps := fun a G na sG p => n a G (same_none s na) (s.trans sG) p
/-- qs is ps without the noughts at its end -/
structure Trimmed (ps qs : List (Int × Int)) : Prop where
  p : IsP qs
  e : ∀ k, cf qs k = cf ps k
  l : qs.length ≤ ps.length
  i : ∀ q ∈ qs, q ∈ ps
theorem Trimmed.by {ps : List (Int × Int)} {m : Nat} (t : TrimAt ps m) (h : ∀ p ∈ ps, Low p) : Trimmed ps (ps.take m) := ⟨t.isP h, t.cf h, by rw [List.length_take]; exact Nat.min_le_right _ _, fun _ z => List.mem_of_mem_take z⟩
def spTrim : Sp := fun vs H Q _ => ∃ (l : Addr) (ps : List (Int × Int)), vs = [.ref l] ∧ PPs H l ps ∧ ps.length ≤ 1000 ∧ (∀ p ∈ ps, Low p) ∧ ∀ qs, Trimmed ps qs → NewPl H Q qs
def spAt : Sp := fun vs H Q _ => ∃ (l : Addr) (n : Nat) (ps : List (Int × Int)), vs = [.ref l, .int n] ∧ PPs H l ps ∧ ∀ (t : Addr) (H' : Hp), Same H H' → Pair H' t (ps.getD n (0, 1)) → Q (.ref t) H'
def spAddL : Sp := fun vs H Q _ => ∃ (l l' : Addr) (ps qs : List (Int × Int)), vs = [.ref l, .ref l'] ∧ PPs H l ps ∧ PPs H l' qs ∧ ps.length ≤ 1000 ∧ qs.length ≤ 1000 ∧ (∀ p ∈ ps, Low p ∧ Fit p) ∧ (∀ p ∈ qs, Low p ∧ Fit p) ∧
  ∀ rs, IsP rs → (∀ k, cf rs k = cf ps k + cf qs k) → rs.length ≤ max ps.length qs.length → (∀ r ∈ rs, ∃ k, r = padd (ps.getD k (0, 1)) (qs.getD k (0, 1))) → NewPl H Q rs
def spScal : Sp := fun vs H Q _ => ∃ (l t : Addr) (ps : List (Int × Int)) (f : Int × Int), vs = [.ref l, .ref t] ∧ PPs H l ps ∧ Pair H t f ∧ ps.length ≤ 1000 ∧ (∀ p ∈ ps, Low p ∧ Fit p) ∧ Low f ∧ Fit f ∧
  ∀ rs, IsP rs → (∀ k, cf rs k = cf ps k * val f) → rs.length ≤ ps.length → (∀ r ∈ rs, ∃ p ∈ ps, r = pmul p f) → NewPl H Q rs
section
variable {P : Program} {w : World} {K : PySem.W.Frag} {mg : Str → Option Value} {base : Heap}
theorem scTrim : FnScope ["_law_parts", "_law_many"] ["_law_parts"] (defScope sTrim) := ⟨rfl, rfl, rfl, by decide +kernel, rfl, by decide +kernel, by decide +kernel⟩
theorem ok_trim {f : Addr} {fd : FuncData} (F : Fun K "_law_trim" "_law_trim" sTrim f fd) (B : TxtR mg) : FnOk P w K mg base CX0 1 f fd ["_law_parts"] spTrim := by
  refine F.ok scTrim (fun vs H Q E h => ?_) (fun cdv A outer s H vs Q E hr h => ?_)
  · obtain ⟨l, ps, rfl, _⟩ := h
    rfl
  · obtain ⟨l, ps, rfl, ⟨ts, hl, pw⟩, few, low, k⟩ := h
    have nd := scTrim.nd
    have lw := paired_len pw
    refine ⟨_, pss_cons (ps_set (i := 1) nd rfl (Or.inl rfl) (pe_callB call_len_seq (by rfl) B.len PySem.boot_len (pa_cons (pv 0) pa_nil)))
      (pss_cons (ps_while PassesOwn.never (PW.pt (pw_and (pt_cmpR op_gt (pv 1) pe_int (nomark _)) (pw_and1 (pt_cmpR op_eq (pe_ix ix_tup (pe_ix ix_list (pv 0) (pe_op op_sub (pv 1) pe_int) (fun _ _ => rfl)) pe_int (fun _ _ => rfl)) pe_int (nomark _)))))
        (pss_one (ps_set (i := 1) nd rfl (Or.inl rfl) (pe_op op_sub (pv 1) pe_int))))
      (pss_one (ps_ret (pe_slice sl_list (pv 0) po_none (po_some (pv 1)))))), ?_⟩
    refine ⟨_, rfl, l, _, rfl, .inl (SqL.of hl), ?_⟩
    dsimp only [gName]
    refine seq_to (fun σ' G => ∃ m : Nat, σ' = [some (.ref l), some (.int (m : Int))] ∧ G = H ∧ TrimAt ps m) (fun kk hK => ?_) ?_
    · refine while_at (fun m σ' G => σ' = [some (.ref l), some (.int (m : Int))] ∧ G = H ∧ m ≤ ps.length ∧ ∀ k p, m ≤ k → ps[k]? = some p → p.1 = 0) ps.length
        ⟨by rw [← lw]; rfl, rfl, Nat.le_refl _, fun k p h e => by rw [List.getElem?_eq_none h] at e; cases e⟩ ?_
      rintro m σ' H ⟨rfl, rfl, ml, off⟩
      refine ⟨_, rfl, _, _, rfl, rfl, _, rfl, ?_⟩
      refine ite2 (fun y => ?_) (fun y => ?_)
      · have m0 : 0 < m := by simpa using y
        have e := List.getElem?_eq_getElem (show m - 1 < ps.length by omega)
        obtain ⟨y0, ey, t, rfl, ht⟩ := paired_back pw e
        have i1 : (m : Int) - 1 = ((m - 1 : Nat) : Int) := by omega
        refine ⟨_, rfl, _, rfl, _, _, rfl, rfl, l, _, _, _, rfl, rfl, SqL.of hl, (by rw [i1]; exact atI_nat ey), t, _, _, _, rfl, rfl, SqT.of ht, rfl, rfl, _, rfl, ?_⟩
        refine ite2 (fun y2 => ?_) (fun y2 => ?_)
        · refine ⟨fun σ' G' => ∃ m', m' < m ∧ (σ' = [some (.ref l), some (.int (m' : Int))] ∧ G' = H ∧ m' ≤ ps.length ∧ ∀ k p, m' ≤ k → ps[k]? = some p → p.1 = 0), fun _ _ z => z, ?_⟩
          refine ⟨_, rfl, _, _, rfl, rfl, m - 1, by omega, by rw [← i1]; rfl, rfl, by omega, fun k p hk hp => ?_⟩
          by_cases c : k = m - 1
          · subst c
            rw [e] at hp
            cases hp
            simpa using y2
          · exact off k p (by omega) hp
        · refine hK _ _ ⟨m, rfl, rfl, ml, off, fun p _ hp z => ?_⟩
          rw [e] at hp
          cases hp
          exact y2 (decide_eq_true (by rw [z]))
      · have m0 : m = 0 := by
          refine Nat.eq_zero_of_not_pos fun z => y ?_
          simp
          omega
        exact hK _ _ ⟨m, rfl, rfl, ml, off, fun p z => by omega⟩
    rintro σ' H ⟨m, rfl, rfl, tr⟩
    have lm : m ≤ ts.length := by rw [lw]; exact tr.le
    refine ⟨_, rfl, _, rfl, _, rfl, l, _, rfl, SqL.of hl, fun p np => ?_⟩
    rw [cut_to lm]
    have sp := Same.new (o := .lst (ts.take m)) (fun _ _ e => e : Same H H) np
    exact k _ (Trimmed.by tr low) p _ np sp ⟨_, upd_same, Paired.mapP (paired_takeP pw m) fun _ _ z => z.same sp⟩
theorem scAt : FnScope ["_law_parts", "_law_number"] ["_law_parts", "_law_number"] (defScope sAt) := ⟨rfl, rfl, rfl, by decide +kernel, rfl, by decide +kernel, by decide +kernel⟩
theorem ok_at {f : Addr} {fd : FuncData} (F : Fun K "_law_at" "_law_at" sAt f fd) (B : TxtR mg) : FnOk P w K mg base CX0 1 f fd ["_law_parts", "_law_number"] spAt := by
  refine F.ok scAt (fun vs H Q E h => ?_) (fun cdv A outer s H vs Q E hr h => ?_)
  · obtain ⟨l, n, ps, rfl, _⟩ := h
    rfl
  · obtain ⟨l, n, ps, rfl, ⟨ts, hl, pw⟩, k⟩ := h
    have lw := paired_len pw
    refine ⟨_, pss_one (ps_ret (pe_ifExp (pt_cmpR op_lt (pv 1) (pe_callB call_len_seq (by rfl) B.len PySem.boot_len (pa_cons (pv 0) pa_nil)) (nomark _)) (pe_ix ix_list (pv 0) (pv 1) (fun _ _ => rfl)) (pe_tup (pa_cons pe_int (pa_cons pe_int pa_nil))))), ?_⟩
    refine ⟨_, rfl, _, rfl, l, _, rfl, .inl (SqL.of hl), _, _, rfl, rfl, _, rfl, ?_⟩
    refine ite2 (fun y => ?_) (fun y => ?_)
    · have y : n < ps.length := by
        have := of_decide_eq_true y
        omega
      have e := List.getElem?_eq_getElem y
      obtain ⟨y0, ey, t, rfl, ht⟩ := paired_back pw e
      refine ⟨_, rfl, _, rfl, l, _, _, _, rfl, rfl, SqL.of hl, atI_nat ey, k t H (fun _ _ e => e) ?_⟩
      rw [List.getD_eq_getElem?_getD, e]
      exact ht
    · have y : ps.length ≤ n := by
        refine Nat.le_of_not_lt fun z => y (decide_eq_true ?_)
        omega
      refine ⟨by show 2 ≤ sizeLine; decide, fun t nt => k t _ (Same.new (fun _ _ e => e) nt) ?_⟩
      rw [List.getD_eq_getElem?_getD, List.getElem?_eq_none y]
      exact upd_same
theorem getD_low {ps : List (Int × Int)} (h : ∀ p ∈ ps, Low p ∧ Fit p) (k : Nat) : Low (ps.getD k (0, 1)) ∧ Fit (ps.getD k (0, 1)) := by
  rw [List.getD_eq_getElem?_getD]
  by_cases c : k < ps.length
  · rw [List.getElem?_eq_getElem c]
    exact h _ (List.getElem_mem c)
  · rw [List.getElem?_eq_none (by omega)]
    exact ⟨low01, ⟨by show (0 : Int).natAbs < _; exact Nat.pow_pos (by decide), by show (0 : Int) < 1; decide, by show (1 : Int).natAbs < _; exact Nat.one_lt_two_pow (by decide)⟩⟩
theorem low_padd {p q : Int × Int} (hp : Low p) (hq : Low q) : Low (padd p q) := low_low (Int.mul_ne_zero hp.ne hq.ne)
theorem low_pmul {p q : Int × Int} (hp : Low p) (hq : Low q) : Low (pmul p q) := low_low (Int.mul_ne_zero hp.ne hq.ne)
def sumL (ps qs : List (Int × Int)) : List (Int × Int) := (List.range (max ps.length qs.length)).map fun k => padd (ps.getD k (0, 1)) (qs.getD k (0, 1))
theorem cf_sum {ps qs : List (Int × Int)} (hp : ∀ p ∈ ps, Low p ∧ Fit p) (hq : ∀ p ∈ qs, Low p ∧ Fit p) (k : Nat) : cf (sumL ps qs) k = cf ps k + cf qs k := by
  by_cases c : k < max ps.length qs.length
  · rw [cf_at (p := padd (ps.getD k (0, 1)) (qs.getD k (0, 1))) (by unfold sumL; rw [List.getElem?_map, List.getElem?_range c]; rfl), val_add (getD_low hp k).1 (getD_low hq k).1]
    rfl
  · rw [cf_out (by unfold sumL; rw [List.length_map, List.length_range]; omega), cf_out (by omega), cf_out (by omega)]
    grind
theorem scAddL : FnScope ["_law_one", "_law_other", "_law_many", "_law_k"] ["_law_one", "_law_other"] (defScope sAddL) := ⟨rfl, rfl, rfl, by decide +kernel, rfl, by decide +kernel, by decide +kernel⟩
theorem ok_addL {f : Addr} {fd : FuncData} (F : Fun K "_law_add" "_law_add" sAddL f fd) (B : TxtR mg) (bm : mg "max" = none) (hP : Dfn P w K mg base CX0 3 "_law_plus" ["_law_one", "_law_other"] spPlus) (hA : Dfn P w K mg base CX0 1 "_law_at" ["_law_parts", "_law_number"] spAt) (hT : Dfn P w K mg base CX0 1 "_law_trim" ["_law_parts"] spTrim) :
    FnOk P w K mg base CX0 4 f fd ["_law_one", "_law_other"] spAddL := by
  refine F.ok scAddL (fun vs H Q E h => ?_) (fun cdv A outer s H vs Q E hr h => ?_)
  · obtain ⟨l, l', ps, qs, rfl, _⟩ := h
    rfl
  · obtain ⟨l, l', ps, qs, rfl, hl, hl', lp, lq, fp, fq, k⟩ := h
    have nd := scAddL.nd
    obtain ⟨ts, h1, h2⟩ := id hl
    obtain ⟨us, g1, g2⟩ := id hl'
    refine ⟨_, pss_cons (ps_set (i := 2) nd rfl (Or.inl rfl) (pe_callB (call_max2 rfl) (by rfl) bm (by decide +kernel) (pa_cons (pe_callB call_len_seq (by rfl) B.len PySem.boot_len (pa_cons (pv 0) pa_nil)) (pa_cons (pe_callB call_len_seq (by rfl) B.len PySem.boot_len (pa_cons (pv 1) pa_nil)) pa_nil))))
      (pss_one (ps_ret (dc hT hr (by decide) (pa_cons (pe_lc (own := [("_law_k", 3)]) (g := gName 3) (tt := tYes) rfl nd (pi_range1 (by rfl) B.range (pa_cons (pv 2) pa_nil)) (blkOk_by (N := ["_law_one", "_law_other", "_law_many", "_law_k"]) (sc := defScope sAddL) (by decide +kernel)) (fun _ _ _ _ _ => pg_name (i := 3) nd rfl (Or.inl rfl)) (fun _ _ _ _ _ => pts_nil) (fun _ _ _ _ _ => by exact (dc hP hr (by decide) (pa_cons (dc hA hr (by decide) (pa_cons (pv 0) (pa_cons (pv 3) pa_nil))) (pa_cons (dc hA hr (by decide) (pa_cons (pv 1) (pa_cons (pv 3) pa_nil))) pa_nil))))) pa_nil)))), ?_⟩
    have lt := paired_len h2
    have lu := paired_len g2
    have nat_max : (if (us.length : Int) > (ts.length : Int) then (us.length : Int) else (ts.length : Int)) = ((max ps.length qs.length : Nat) : Int) := by
      rw [lt, lu]
      split <;> omega
    refine ⟨_, rfl, l, _, rfl, .inl (SqL.of h1), _, rfl, l', _, rfl, .inl (SqL.of g1), _, _, rfl, ?_⟩
    rw [nat_max]
    dsimp only [gName, tRet, tCall, tCons, tNil]
    refine lc_mapT (n := max ps.length qs.length) (bs := sumL ps qs) (Rr := fun _ G (y : V) (p : Int × Int) => PV G y p) (fun R r => ⟨_, rfl, ((max ps.length qs.length : Nat) : Int), rfl, by omega, by omega, by rw [Int.toNat_natCast]; exact r⟩) (Nat.le_trans (show max ps.length qs.length ≤ 1000 by omega) (by decide)) (by unfold sumL; rw [List.length_map, List.length_range]) (fun _ _ _ _ _ h s => h.same s) (fun _ _ _ _ _ _ hD h => h.grow hD) ?_ ?_
    · intro D i b H2 rs Kc hi hb s2 hD kc
      have eb : b = padd (ps.getD i (0, 1)) (qs.getD i (0, 1)) := by
        unfold sumL at hb
        rw [List.getElem?_map, List.getElem?_range hi] at hb
        exact (Option.some.inj hb).symm
      subst eb
      refine ⟨_, rfl, _, rfl, l, i, ps, by rw [Int.zero_add]; rfl, hl.same s2, fun t G st ht => ?_⟩
      refine ⟨_, rfl, _, rfl, l', i, qs, by rw [Int.zero_add]; rfl, hl'.same (s2.trans st), fun u G' su hu => ?_⟩
      exact ⟨t, u, _, _, rfl, su _ _ ht, hu, (getD_low fp i).2, (getD_low fq i).2, fun x G2 nx sx hx => kc _ _ (st.trans (su.trans sx)) ⟨x, rfl, hx⟩⟩
    · intro m ws G nm s2 hm pw
      have low : ∀ p ∈ sumL ps qs, Low p := fun p hp => by
        unfold sumL at hp
        obtain ⟨i, _, rfl⟩ := List.mem_map.mp hp
        exact low_padd (getD_low fp i).1 (getD_low fq i).1
      have ln : (sumL ps qs).length = max ps.length qs.length := by unfold sumL; rw [List.length_map, List.length_range]
      refine ⟨m, sumL ps qs, rfl, ⟨ws, hm, pw⟩, by omega, low, fun rs tr => ?_⟩
      refine (k rs tr.p (fun i => by rw [tr.e, cf_sum fp fq]) (by rw [← ln]; exact tr.l) fun r hr => ?_).grow s2
      have := tr.i r hr
      unfold sumL at this
      obtain ⟨i, _, rfl⟩ := List.mem_map.mp this
      exact ⟨i, rfl⟩
theorem scScal : FnScope ["_law_parts", "_law_factor", "_law_part"] ["_law_parts", "_law_factor"] (defScope sScal) := ⟨rfl, rfl, rfl, by decide +kernel, rfl, by decide +kernel, by decide +kernel⟩
theorem cf_scal {ps : List (Int × Int)} {f : Int × Int} (hp : ∀ p ∈ ps, Low p ∧ Fit p) (hf : Low f) (k : Nat) : cf (ps.map fun p => pmul p f) k = cf ps k * val f := by
  by_cases c : k < ps.length
  · have e := List.getElem?_eq_getElem c
    rw [cf_at (p := pmul ps[k] f) (by rw [List.getElem?_map, e]; rfl), cf_at e, val_mul (hp _ (List.getElem_mem c)).1 hf]
  · rw [cf_out (by rw [List.length_map]; omega), cf_out (by omega)]
    grind
theorem ok_scal {f : Addr} {fd : FuncData} (F : Fun K "_law_scaled" "_law_scaled" sScal f fd) (hM : Dfn P w K mg base CX0 3 "_law_times" ["_law_one", "_law_other"] spTimes) (hT : Dfn P w K mg base CX0 1 "_law_trim" ["_law_parts"] spTrim) :
    FnOk P w K mg base CX0 4 f fd ["_law_parts", "_law_factor"] spScal := by
  refine F.ok scScal (fun vs H Q E h => ?_) (fun cdv A outer s H vs Q E hr h => ?_)
  · obtain ⟨l, t, ps, f, rfl, _⟩ := h
    rfl
  · obtain ⟨l, t, ps, f, rfl, hl, ht, lp, fp, lf, ff, k⟩ := h
    have nd := scScal.nd
    obtain ⟨ts, h1, h2⟩ := id hl
    refine ⟨_, pss_one (ps_ret (dc hT hr (by decide) (pa_cons (pe_lc (own := [("_law_part", 2)]) (g := gName 2) (tt := tYes) rfl nd (pi_list (pv 0)) (blkOk_by (N := ["_law_parts", "_law_factor", "_law_part"]) (sc := defScope sScal) (by decide +kernel)) (fun _ _ _ _ _ => pg_name (i := 2) nd rfl (Or.inl rfl)) (fun _ _ _ _ _ => pts_nil) (fun _ _ _ _ _ => by exact (dc hM hr (by decide) (pa_cons (pv 2) (pa_cons (pv 1) pa_nil))))) pa_nil))), ?_⟩
    have lt := paired_len h2
    dsimp only [gName, tRet, tCall, tCons, tNil]
    refine lc_mapL (bs := ps.map fun p => pmul p f) (Rr := fun _ G (y : V) (p : Int × Int) => PV G y p) (fun R r => ⟨_, rfl, r⟩) (SqL.of h1) (by rw [lt]; exact Nat.le_trans lp (by decide)) (by rw [List.length_map]; exact lt) (fun _ _ _ _ _ h s => h.same s) (fun _ _ _ _ _ _ hD h => h.grow hD) ?_ ?_
    · intro D i x b H2 rs Kc hx hb s2 hD kc
      obtain ⟨p, hp, u, rfl, hu⟩ := paired_at h2 hx
      rw [List.getElem?_map, hp] at hb
      cases hb
      exact ⟨_, rfl, _, rfl, u, t, p, f, rfl, s2 _ _ hu, s2 _ _ ht, (fp p (List.mem_of_getElem? hp)).2, ff, fun y G2 ny sy hy => kc _ _ sy ⟨y, rfl, hy⟩⟩
    · intro m ws G nm s2 hm pw
      have low : ∀ p ∈ ps.map (fun p => pmul p f), Low p := fun p hp => by
        obtain ⟨q, hq, rfl⟩ := List.mem_map.mp hp
        exact low_pmul (fp q hq).1 lf
      refine ⟨m, _, rfl, ⟨ws, hm, pw⟩, by rw [List.length_map]; exact lp, low, fun rs tr => ?_⟩
      refine (k rs tr.p (fun i => by rw [tr.e, cf_scal fp lf]) (by have := tr.l; rwa [List.length_map] at this) fun r hr => ?_).grow s2
      obtain ⟨q, hq, rfl⟩ := List.mem_map.mp (tr.i r hr)
      exact ⟨q, hq, rfl⟩
end
end K03
end
section
set_option maxHeartbeats 4000000
namespace K03
open PolyM
theorem sm_more {f : Nat → _root_.Rat} {n : Nat} (h : ∀ i, n ≤ i → f i = 0) : ∀ d, sm f (n + d) = sm f n
  | 0 => rfl
  | d + 1 => by
    show sm f (n + d) + f (n + d) = sm f n
    rw [sm_more h d, h _ (Nat.le_add_right _ _)]
    grind
theorem sm_to {f g : Nat → _root_.Rat} {n m : Nat} (hf : ∀ i, n ≤ i → f i = 0) (hg : ∀ i, m ≤ i → g i = 0) (e : ∀ i, f i = g i) : sm f n = sm g m := by
  have h1 := sm_more hf m
  have h2 := sm_more hg n
  rw [← h1, ← h2, Nat.add_comm m n]
  exact sm_congr fun i _ => e i
/-- the part of the product that rows up to k make -/
def term (a b : Nat → _root_.Rat) (x i : Nat) : _root_.Rat := a i * (if i ≤ x then b (x - i) else 0)
theorem conv_rows {a b : Nat → _root_.Rat} {n : Nat} (ha : ∀ i, n ≤ i → a i = 0) (x : Nat) : sm (term a b x) n = conv a b x := by
  unfold conv
  have : sm (fun i => a i * b (x - i)) (x + 1) = sm (term a b x) (x + 1) := sm_congr fun i hi => by
    unfold term
    rw [if_pos (by omega)]
  rw [this]
  refine sm_to (fun i hi => ?_) (fun i hi => ?_) fun _ => rfl
  · unfold term
    rw [ha i hi]
    grind
  · unfold term
    rw [if_neg (by omega)]
    grind
/-- a product on its way: rows below k, of row k the places below j -/
structure MulAt (ps qs : List (Int × Int)) (M R N U : Nat) (k j : Nat) (fs : List (Int × Int)) : Prop where
  len : fs.length = ps.length + qs.length - 1
  low : ∀ p ∈ fs, Low p
  val : ∀ x, cf fs x = sm (term (cf ps) (cf qs) x) k + (if k ≤ x ∧ x < k + j then cf ps k * cf qs (x - k) else 0)
  bd : ∀ x p, fs[x]? = some p → Bd (M * N) ((if x < k + j then k + 1 else k) * (R * U)) p
theorem MulAt.first {ps qs : List (Int × Int)} {M R N U : Nat} : MulAt ps qs M R N U 0 0 (List.replicate (ps.length + qs.length - 1) (0, 1)) := by
  refine ⟨List.length_replicate, fun p hp => ?_, fun x => ?_, fun x p hp => ?_⟩
  · rw [List.mem_replicate] at hp
    rw [hp.2]
    exact low01
  · rw [if_neg (by omega)]
    have : sm (term (cf ps) (cf qs) x) 0 = 0 := rfl
    rw [this]
    have z : cf (List.replicate (ps.length + qs.length - 1) ((0, 1) : Int × Int)) x = 0 := by
      by_cases c : x < ps.length + qs.length - 1
      · rw [cf_at (p := (0, 1)) (by rw [List.getElem?_replicate, if_pos c])]
        exact val01
      · exact cf_out (by rw [List.length_replicate]; omega)
    rw [z]
    grind
  · have := List.mem_of_getElem? hp
    rw [List.mem_replicate] at this
    rw [this.2]
    exact Bd.zero
theorem MulAt.skip {ps qs fs : List (Int × Int)} {M R N U k j : Nat} (m : MulAt ps qs M R N U k j fs) (z : cf ps k * cf qs j = 0) : MulAt ps qs M R N U k (j + 1) fs := by
  refine ⟨m.len, m.low, fun x => ?_, fun x p hp => (m.bd x p hp).mono (Nat.dvd_refl _) (Nat.mul_le_mul_right _ (by split <;> split <;> omega))⟩
  rw [m.val x]
  by_cases c : k ≤ x ∧ x < k + j
  · rw [if_pos c, if_pos (by omega)]
  · rw [if_neg c]
    by_cases c2 : k ≤ x ∧ x < k + (j + 1)
    · rw [if_pos c2, show x - k = j by omega, z]
    · rw [if_neg c2]
theorem MulAt.add {ps qs fs : List (Int × Int)} {M R N U k j : Nat} {p q r : Int × Int} (m : MulAt ps qs M R N U k j fs) (hp : ps[k]? = some p) (hq : qs[j]? = some q) (hr : fs[k + j]? = some r) (lp : Low p) (lq : Low q) (bp : Bd M R p) (bq : Bd N U q) : MulAt ps qs M R N U k (j + 1) (fs.set (k + j) (padd r (pmul p q))) := by
  have lr := m.low r (List.mem_of_getElem? hr)
  have lpq : Low (pmul p q) := low_low (Int.mul_ne_zero lp.ne lq.ne)
  have lt : k + j < fs.length := (List.getElem?_eq_some_iff.mp hr).1
  refine ⟨by rw [List.length_set]; exact m.len, fun y hy => ?_, fun x => ?_, fun x y hy => ?_⟩
  · rcases List.mem_or_eq_of_mem_set hy with h | h
    · exact m.low y h
    · rw [h]
      exact low_low (Int.mul_ne_zero lr.ne lpq.ne)
  · have mv := m.val x
    by_cases c : x = k + j
    · subst c
      rw [cf_at (p := padd r (pmul p q)) (by rw [List.getElem?_set_self lt]), val_add lr lpq, val_mul lp lq, if_pos (by omega), show k + j - k = j by omega, cf_at hp, cf_at hq, ← cf_at hr, mv, if_neg (by omega)]
      grind
    · have e : cf (fs.set (k + j) (padd r (pmul p q))) x = cf fs x := by
        unfold cf
        rw [List.getD_eq_getElem?_getD, List.getD_eq_getElem?_getD, List.getElem?_set_ne (fun z => c z.symm)]
      rw [e, mv]
      by_cases c1 : k ≤ x ∧ x < k + j
      · rw [if_pos c1, if_pos (by omega)]
      · rw [if_neg c1, if_neg (by omega)]
  · by_cases c : x = k + j
    · subst c
      rw [List.getElem?_set_self lt] at hy
      cases hy
      have h1 := m.bd _ _ hr
      rw [if_neg (by omega)] at h1
      rw [if_pos (by omega), Nat.succ_mul]
      exact Bd.add lr lpq h1 (Bd.mul lp lq bp bq)
    · rw [List.getElem?_set_ne (fun z => c z.symm)] at hy
      exact (m.bd x y hy).mono (Nat.dvd_refl _) (Nat.mul_le_mul_right _ (by split <;> split <;> omega))
theorem MulAt.row {ps qs fs : List (Int × Int)} {M R N U k : Nat} (m : MulAt ps qs M R N U k qs.length fs) : MulAt ps qs M R N U (k + 1) 0 fs := by
  refine ⟨m.len, m.low, fun x => ?_, fun x p hp => (m.bd x p hp).mono (Nat.dvd_refl _) (Nat.mul_le_mul_right _ (by split <;> split <;> omega))⟩
  rw [m.val x, if_neg (show ¬ (k + 1 ≤ x ∧ x < k + 1 + 0) by omega)]
  show _ = sm (term (cf ps) (cf qs) x) k + term (cf ps) (cf qs) x k + 0
  unfold term
  by_cases c : k ≤ x
  · rw [if_pos c]
    by_cases c2 : x < k + qs.length
    · rw [if_pos ⟨c, c2⟩]
      grind
    · rw [if_neg (fun z => c2 z.2), cf_out (show qs.length ≤ x - k by omega)]
      grind
  · rw [if_neg c, if_neg (fun z => c z.1)]
    grind
theorem MulAt.last {ps qs fs : List (Int × Int)} {M R N U : Nat} (m : MulAt ps qs M R N U ps.length 0 fs) (x : Nat) : cf fs x = conv (cf ps) (cf qs) x := by
  rw [m.val x, if_neg (by omega), conv_rows fun i hi => cf_out hi]
  grind
end K03
end
section
set_option maxHeartbeats 8000000
set_option exponentiation.threshold 100000
namespace K03
open PySem PySem.Spec PyProof.Rows L2 LamX NdefX L3 PolyM
abbrev sMulL : Stmt := top 66
/-- parts with their bounds -/
structure PB (M R : Nat) (p : Int × Int) : Prop where
  l : Low p
  f : Fit p
  b : Bd M R p
def spMulL : Sp := fun vs H Q _ => ∃ (l l' : Addr) (ps qs : List (Int × Int)) (M R N U : Nat), vs = [.ref l, .ref l'] ∧ PPs H l ps ∧ PPs H l' qs ∧ ps.length ≤ 59 ∧ qs.length ≤ 60 ∧ (∀ p ∈ ps, PB M R p) ∧ (∀ p ∈ qs, PB N U p) ∧ 0 < M ∧ 0 < N ∧ (60 * (R * U) + 1) * (M * N) < 2 ^ 4000 ∧
  ∀ rs, IsP rs → (∀ k, cf rs k = conv (cf ps) (cf qs) k) → rs.length ≤ ps.length + qs.length - 1 → (∀ r ∈ rs, Bd (M * N) (60 * (R * U)) r) → NewPl H Q rs
theorem rep_pairs {H : Hp} {t : Addr} (h : Pair H t (0, 1)) : ∀ n : Nat, Paired (PV H) (List.replicate n [V.ref t]).flatten (List.replicate n ((0, 1) : Int × Int))
  | 0 => .nil
  | n + 1 => .cons ⟨t, rfl, h⟩ (rep_pairs h n)
theorem paired_set {α β : Type} {F : α → β → Prop} {l : List α} {m : List β} {x : α} {y : β} (p : Paired F l m) : ∀ (i : Nat), F x y → Paired F (l.set i x) (m.set i y) := by
  induction p with
  | nil => intro i h; exact .nil
  | cons q r ih =>
    intro i h
    cases i with
    | zero => exact .cons h r
    | succ i => exact .cons q (ih i h)
section
variable {P : Program} {w : World} {K : PySem.W.Frag} {mg : Str → Option Value} {base : Heap}
theorem scMulL : FnScope ["_law_one", "_law_other", "_law_found", "_law_k", "_law_j"] ["_law_one", "_law_other"] (defScope sMulL) := ⟨rfl, rfl, rfl, by decide +kernel, rfl, by decide +kernel, by decide +kernel⟩
theorem ok_mulL {f : Addr} {fd : FuncData} (F : Fun K "_law_mul" "_law_mul" sMulL f fd) (B : TxtR mg) (bm : mg "max" = none) (hP : Dfn P w K mg base CX0 3 "_law_plus" ["_law_one", "_law_other"] spPlus) (hM : Dfn P w K mg base CX0 3 "_law_times" ["_law_one", "_law_other"] spTimes) (hT : Dfn P w K mg base CX0 1 "_law_trim" ["_law_parts"] spTrim) :
    FnOk P w K mg base CX0 4 f fd ["_law_one", "_law_other"] spMulL := by
  refine F.ok scMulL (fun vs H Q E h => ?_) (fun cdv A outer s H vs Q E hr h => ?_)
  · obtain ⟨l, l', ps, qs, M, R, N, U, rfl, _⟩ := h
    rfl
  · obtain ⟨l, l', ps, qs, M, R, N, U, rfl, hl, hl', lp, lq, fp, fq, M0, N0, big, k⟩ := h
    have nd := scMulL.nd
    obtain ⟨ts, h1, h2⟩ := id hl
    obtain ⟨us, g1, g2⟩ := id hl'
    have lt := paired_len h2
    have lu := paired_len g2
    refine ⟨_, pss_cons (ps_set (i := 2) nd rfl (Or.inl rfl) (pe_op op_rep (pe_lst (pa_cons (pe_tup (pa_cons pe_int (pa_cons pe_int pa_nil))) pa_nil)) (pe_callB (call_max2 rfl) (by rfl) bm (by decide +kernel) (pa_cons pe_int (pa_cons (pe_op op_sub (pe_op op_add (pe_callB call_len_seq (by rfl) B.len PySem.boot_len (pa_cons (pv 0) pa_nil)) (pe_callB call_len_seq (by rfl) B.len PySem.boot_len (pa_cons (pv 1) pa_nil))) pe_int) pa_nil)))))
      (pss_cons (ps_for PassesOwn.never rfl (pi_range1 (by rfl) B.range (pa_cons (pe_callB call_len_seq (by rfl) B.len PySem.boot_len (pa_cons (pv 0) pa_nil)) pa_nil)) (pg_name (i := 3) nd rfl (Or.inl rfl))
        (pss_one (ps_for PassesOwn.never rfl (pi_range1 (by rfl) B.range (pa_cons (pe_callB call_len_seq (by rfl) B.len PySem.boot_len (pa_cons (pv 1) pa_nil)) pa_nil)) (pg_name (i := 4) nd rfl (Or.inl rfl))
          (pss_one (ps_if (PW.pt (pw_and (pt_cmpR op_ne (pe_ix ix_tup (pe_ix ix_list (pv 0) (pv 3) (fun _ _ => rfl)) pe_int (fun _ _ => rfl)) pe_int (nomark _)) (pw_and1 (pt_cmpR op_ne (pe_ix ix_tup (pe_ix ix_list (pv 1) (pv 4) (fun _ _ => rfl)) pe_int (fun _ _ => rfl)) pe_int (nomark _)))))
            (pss_one (ps_asg (dc hP hr (by decide) (pa_cons (pe_ix ix_list (pv 2) (pe_op op_add (pv 3) (pv 4)) (fun _ _ => rfl)) (pa_cons (dc hM hr (by decide) (pa_cons (pe_ix ix_list (pv 0) (pv 3) (fun _ _ => rfl)) (pa_cons (pe_ix ix_list (pv 1) (pv 4) (fun _ _ => rfl)) pa_nil))) pa_nil))) (pg_sub (pv 2) (pe_op op_add (pv 3) (pv 4)) set_list))) pss_nil)))))
      (pss_one (ps_ret (dc hT hr (by decide) (pa_cons (pv 2) pa_nil))))), ?_⟩
    have n1 : (if (ts.length : Int) + (us.length : Int) - 1 > 0 then (ts.length : Int) + (us.length : Int) - 1 else 0) = ((ps.length + qs.length - 1 : Nat) : Int) := by
      rw [lt, lu]
      split <;> omega
    refine seq_to (fun σ' G => ∃ (a : Addr) (fs : List (Int × Int)), σ' = [some (.ref l), some (.ref l'), some (.ref a), none, none] ∧ Same H G ∧ H a = none ∧ PPs G a fs ∧ MulAt ps qs M R N U 0 0 fs) (fun kk hK => ?_) ?_
    · refine ⟨by show 2 ≤ sizeLine; decide, fun t nt => ?_⟩
      refine ⟨by show 1 ≤ sizeLine; decide, fun a0 na0 => ?_⟩
      have s1 := Same.new (o := .tup [.int 0, .int 1]) (fun _ _ e => e : Same H H) nt
      have ht : upd H t (.tup [.int 0, .int 1]) t = some (.tup [.int 0, .int 1]) := upd_same
      generalize upd H t (.tup [.int 0, .int 1]) = G1 at s1 ht na0 ⊢
      have s2 := Same.new (o := .lst [.ref t]) (fun _ _ e => e : Same G1 G1) na0
      have ha0 : upd G1 a0 (.lst [.ref t]) a0 = some (.lst [.ref t]) := upd_same
      generalize upd G1 a0 (.lst [.ref t]) = G2 at s2 ha0 ⊢
      have s12 := s1.trans s2
      refine ⟨_, rfl, l, _, rfl, .inl (SqL.of (s12 _ _ h1)), _, rfl, l', _, rfl, .inl (SqL.of (s12 _ _ g1)), _, _, rfl, rfl, _, _, rfl, rfl, _, _, rfl, ?_⟩
      dsimp only
      rw [n1]
      refine ⟨a0, _, _, rfl, rfl, ha0, by omega, by omega, ?_, fun a na => ?_⟩
      · rw [Int.toNat_natCast]
        show 1 * _ ≤ _
        exact Nat.le_trans (show 1 * (ps.length + qs.length - 1) ≤ 120 by omega) (by decide)
      · have s3 := Same.new (o := .lst (List.replicate ((ps.length + qs.length - 1 : Nat) : Int).toNat [V.ref t]).flatten) (fun _ _ e => e : Same G2 G2) na
        refine hK _ _ ⟨a, List.replicate (ps.length + qs.length - 1) (0, 1), rfl, s12.trans s3, same_none s12 na, ⟨_, upd_same, ?_⟩, MulAt.first⟩
        rw [Int.toNat_natCast] at s3 ⊢
        exact rep_pairs (s3 _ _ (s2 _ _ ht)) _
    rintro σ' G1 ⟨a, fs, rfl, s1, na, hfs, m0⟩
    refine seq_to (fun σ' G => ∃ (a : Addr) (fs : List (Int × Int)) (o3 o4 : Option V), σ' = [some (.ref l), some (.ref l'), some (.ref a), o3, o4] ∧ Same H G ∧ H a = none ∧ PPs G a fs ∧ MulAt ps qs M R N U ps.length 0 fs) (fun kk hK => ?_) ?_
    · refine ⟨_, rfl, l, ts, rfl, .inl (SqL.of (s1 _ _ h1)), (ts.length : Int), rfl, by omega, by omega, ?_⟩
      refine for_range (lo := 0) (n := ts.length) (fun i σ' G => ∃ (a : Addr) (fs : List (Int × Int)) (o3 o4 : Option V), σ' = [some (.ref l), some (.ref l'), some (.ref a), o3, o4] ∧ Same H G ∧ H a = none ∧ PPs G a fs ∧ MulAt ps qs M R N U i 0 fs) ⟨a, fs, none, none, rfl, s1, na, hfs, m0⟩ ?_ (fun σ' G z => by rw [lt] at z; exact hK _ _ z)
      rintro i σ' G hi ⟨a, fs, o3, o4, rfl, s1, na, hfs, m1⟩
      have hp := List.getElem?_eq_getElem (show i < ps.length by omega)
      generalize ps[i] = p at hp
      obtain ⟨v1, e1, t1, rfl, ht1⟩ := paired_back h2 hp
      have bp := fp p (List.mem_of_getElem? hp)
      refine ⟨_, rfl, l', us, rfl, .inl (SqL.of (s1 _ _ g1)), (us.length : Int), rfl, by omega, by omega, ?_⟩
      refine for_range (lo := 0) (n := us.length) (fun j σ' G => ∃ (a : Addr) (fs : List (Int × Int)) (o4 : Option V), σ' = [some (.ref l), some (.ref l'), some (.ref a), some (.int (i : Nat)), o4] ∧ Same H G ∧ H a = none ∧ PPs G a fs ∧ MulAt ps qs M R N U i j fs) ⟨a, fs, o4, by rw [Int.zero_add]; rfl, s1, na, hfs, m1⟩ ?_ ?_
      · rintro j σ' G hj ⟨a, fs, o4, rfl, s1, na, hfs, m2⟩
        have hq := List.getElem?_eq_getElem (show j < qs.length by omega)
        generalize qs[j] = q at hq
        obtain ⟨v2, e2, t2, rfl, ht2⟩ := paired_back g2 hq
        have bq := fq q (List.mem_of_getElem? hq)
        have zero : p.1 = 0 ∨ q.1 = 0 → MulAt ps qs M R N U i (j + 1) fs := fun z => m2.skip (by
          rw [cf_at hp, cf_at hq]
          rcases z with z | z
          · rw [(val_zero bp.l).mpr z]; grind
          · rw [(val_zero bq.l).mpr z]; grind)
        dsimp only [gName]
        rw [Int.zero_add]
        refine ⟨_, rfl, _, rfl, l, _, _, _, rfl, rfl, SqL.of (s1 _ _ h1), atI_nat e1, t1, _, _, _, rfl, rfl, SqT.of (s1 _ _ ht1), rfl, rfl, _, rfl, ?_⟩
        refine ite2 (fun y => ?_) (fun y => ?_)
        · refine ⟨_, rfl, _, rfl, l', _, _, _, rfl, rfl, SqL.of (s1 _ _ g1), atI_nat e2, t2, _, _, _, rfl, rfl, SqT.of (s1 _ _ ht2), rfl, rfl, _, rfl, ?_⟩
          refine ite2 (fun y2 => ?_) (fun y2 => ?_)
          · obtain ⟨ws, hw, pw⟩ := id hfs
            have lf : i + j < fs.length := by rw [m2.len]; omega
            have hr := List.getElem?_eq_getElem lf
            generalize fs[i + j] = r at hr
            obtain ⟨v3, e3, t3, rfl, ht3⟩ := paired_back pw hr
            have lw : i + j < ws.length := by rw [paired_len pw]; exact lf
            have lr := m2.low r (List.mem_of_getElem? hr)
            have br := m2.bd _ _ hr
            rw [if_neg (by omega)] at br
            have lpq : Low (pmul p q) := low_pmul bp.l bq.l
            have MN : 0 < M * N := Nat.mul_pos M0 N0
            have i60 : i ≤ 60 := by omega
            have fr : Fit r := br.fit lr MN (Nat.lt_of_le_of_lt (Nat.mul_le_mul_right _ (Nat.succ_le_succ (Nat.mul_le_mul_right _ i60))) big)
            have fpq : Fit (pmul p q) := (Bd.mul bp.l bq.l bp.b bq.b).fit lpq MN (Nat.lt_of_le_of_lt (Nat.mul_le_mul_right _ (Nat.succ_le_succ (Nat.le_mul_of_pos_left _ (by decide)))) big)
            refine ⟨_, rfl, _, rfl, _, rfl, _, _, rfl, rfl, a, _, _, _, rfl, rfl, SqL.of hw, atI_nat (j := i + j) e3, ?_⟩
            refine ⟨_, rfl, _, rfl, l, _, _, _, rfl, rfl, SqL.of (s1 _ _ h1), atI_nat e1, _, rfl, _, rfl, l', _, _, _, rfl, rfl, SqL.of (s1 _ _ g1), atI_nat e2, ?_⟩
            refine ⟨t1, t2, p, q, rfl, s1 _ _ ht1, s1 _ _ ht2, bp.f, bq.f, fun t4 G4 n4 s4 ht4 => ?_⟩
            refine ⟨t3, t4, r, pmul p q, rfl, s4 _ _ ht3, ht4, fr, fpq, fun t5 G5 n5 s5 ht5 => ?_⟩
            have s45 := s4.trans s5
            have hw5 := s45 _ _ hw
            refine ⟨_, rfl, _, rfl, _, rfl, _, _, rfl, rfl, a, _, _, i + j, rfl, rfl, hw5, ixN_of (j := i + j) lw, ?_⟩
            refine ⟨a, fs.set (i + j) (padd r (pmul p q)), _, rfl, same_put (s1.trans s45) na, na, ⟨_, upd_same, ?_⟩, m2.add hp hq hr bp.l bq.l bp.b bq.b⟩
            exact paired_set (Paired.mapP pw fun _ _ z => (z.same s45).grow hw5) (i + j) (PV.grow hw5 ⟨t5, rfl, ht5⟩)
          · exact ⟨a, fs, _, rfl, s1, na, hfs, zero (.inr (by simpa using y2))⟩
        · exact ⟨a, fs, _, rfl, s1, na, hfs, zero (.inl (by simpa using y))⟩
      · rintro σ' G ⟨a, fs, o4, rfl, s1, na, hfs, m2⟩
        rw [lu] at m2
        exact ⟨a, fs, _, o4, rfl, s1, na, hfs, m2.row⟩
    rintro σ' G2 ⟨a, fs, o3, o4, rfl, s2, na2, hfs2, m9⟩
    refine ⟨_, rfl, a, fs, rfl, hfs2, ?_, m9.low, fun rs tr => ?_⟩
    · rw [m9.len]; omega
    · refine (k rs tr.p (fun x => by rw [tr.e, m9.last]) (by rw [← m9.len]; exact tr.l) fun r hr => ?_).grow s2
      obtain ⟨x, hx⟩ := List.mem_iff_getElem?.mp (tr.i r hr)
      refine (m9.bd x r hx).mono (Nat.dvd_refl _) (Nat.mul_le_mul_right _ ?_)
      have hx2 := (List.getElem?_eq_some_iff.mp hx).1
      split
      · omega
      · omega
end
end K03
end
section
set_option maxHeartbeats 8000000
set_option exponentiation.threshold 100000
namespace K03
open PySem PySem.Spec PyProof.Rows L2 LamX NdefX L3 PolyM
abbrev sSomL : Stmt := top 59
abbrev sDivL : Stmt := top 69
/-- a comprehension whose items draw from the pen -/
theorem lc_pen {J : It} {n : Nat} {Gw : Hp → Prop} {Y : Nat → Hp → V → Hp → Prop} (wk : Walk J n Gw Y) {β : Type} {Gd : Nat → β → Prop} {Rr : Hp → V → β → Prop} {Xs : Nat → V → Prop} {e : Nat} {j : Nat} {σ : L2.St} {H : Hp} {te : TE} {Q : VK} {D d c : Addr} {s r : Int} {cells : List Int}
    (hw : ∀ H2, SameBut d H H2 → Gw H2) (hY : ∀ i H x H', Y i H x H' → H' = H ∧ Xs i x) (p : PenAt H d c s r cells) (h0 : 0 ≤ s) (nD : H D = none) (few : n ≤ sizeLine)
    (but : ∀ (H H' : Hp) (y : V) (b : β) (kv : List (Key × V)), Rr H y b → H d = some (.dK kv) → SameBut d H H' → Rr H' y b) (grow : ∀ (H : Hp) (rs ys : List V) (y : V) (b : β), H D = some (.lst rs) → Rr H y b → Rr (upd H D (.lst ys)) y b)
    (step : ∀ (i : Nat) (x : V) (H2 : Hp) (s' r' : Int) (Kc : VK), i < n → Xs i x → PenAt H2 d c s' r' cells → 0 ≤ s' → s' ≤ s + (e * i : Nat) → SameBut d H H2 → (∃ ts, H2 D = some (.lst ts)) → (∀ (y : V) (b : β) (s2 r2 : Int) (H3 : Hp), Gd i b → 0 ≤ s2 → s2 ≤ s' + (e : Nat) → PenAt H3 d c s2 r2 cells → SameBut d H2 H3 → Rr H3 y b → Kc y H3) → te ((wipe σ [j]).set j (some x)) H2 Kc)
    (fin : ∀ (bs : List β) (ts : List V) (s' r' : Int) (H' : Hp), bs.length = n → (∀ i b, bs[i]? = some b → Gd i b) → 0 ≤ s' → s' ≤ s + (e * n : Nat) → PenAt H' d c s' r' cells → SameBut d H H' → H' D = some (.lst ts) → Paired (Rr H') ts bs → Q (.ref D) H') :
    ∃ W : Nat → Nat → Hp → Prop, (∃ m, W 0 m (upd H D (.lst []))) ∧ ∀ i m H, W i m H →
      (J.stop i H ∧ Q (.ref D) H) ∨ (J.go i H ∧ ∃ Nx : Hp → Prop, (∀ H', Nx H' → ∃ m', m' < m ∧ W (i + 1) m' H') ∧ ∀ x H', J.yld i H x H' → gName j x (wipe σ [j]) H' fun σ2 H2 => wipe σ2 [j] = wipe σ [j] ∧ tYes σ2 H2 fun b H3 =>
        if b = true then te σ2 H3 fun y H4 => ∃ acc, H4 D = some (.lst acc) ∧ acc.length < sizeLine ∧ Nx (upd H4 D (.lst (acc ++ [y]))) else Nx H3) := by
  refine lc_it wk (fun i H2 => ∃ (ts : List V) (bs : List β) (s' r' : Int), bs.length = i ∧ (∀ k b, bs[k]? = some b → Gd k b) ∧ 0 ≤ s' ∧ s' ≤ s + (e * i : Nat) ∧ PenAt H2 d c s' r' cells ∧ SameBut d H H2 ∧ H2 D = some (.lst ts) ∧ Paired (Rr H2) ts bs)
    ⟨[], [], s, r, rfl, fun k b h => by simp at h, h0, by omega, p.new nD, SameBut.refl.new nD, upd_same, .nil⟩ (fun i H2 _ z => ?_) ?_ ?_
  · obtain ⟨_, _, _, _, _, _, _, _, _, sb, _⟩ := z
    exact hw H2 sb
  · rintro i x H2 H' hi ⟨ts, bs, s', r', lp, all, s0, s1, p2, sb, hD, pr⟩ y
    obtain ⟨rfl, hx⟩ := hY i H2 x H' y
    refine ⟨wipe_back, ?_⟩
    refine yes_if (a := fun H4 => te _ H4 _) ?_
    refine step i x _ s' r' _ hi hx p2 s0 s1 sb ⟨ts, hD⟩ fun y b s2 r2 H3 gb b1 b2 b3 b4 b5 => ?_
    have nDd : D ≠ d := ne_of hD p2.dc (by intro z; cases z)
    have hD3 := b4 _ _ hD nDd
    have lt : ts.length = i := by rw [paired_len pr, lp]
    have cD : c ≠ D := fun z => by
      have := p.ls
      rw [z, nD] at this
      cases this
    refine ⟨ts, hD3, by rw [lt]; omega, ts ++ [y], bs ++ [b], s2, r2, by rw [List.length_append, lp]; rfl, fun k b' hk => ?_, b1, ?_, ⟨by rw [upd_ne nDd.symm]; exact b3.dc, by rw [upd_ne cD]; exact b3.ls⟩, fun a o e n => ?_, upd_same, ?_⟩
    · by_cases c : k < bs.length
      · rw [List.getElem?_append_left c] at hk
        exact all k b' hk
      · have hk2 := (List.getElem?_eq_some_iff.mp hk).1
        rw [List.length_append, List.length_singleton] at hk2
        have ek : k = i := by omega
        subst ek
        rw [List.getElem?_append_right (by omega), lp, Nat.sub_self] at hk
        cases hk
        exact gb
    · have : ((e * (i + 1) : Nat) : Int) = (e * i : Nat) + (e : Nat) := by rw [Nat.mul_succ]; rfl
      omega
    · rw [upd_ne (ne_of_none e nD)]
      exact b4 _ _ (sb _ _ e n) n
    · exact (Paired.mapP pr fun v x z => grow _ _ _ _ _ hD3 (but _ _ _ _ _ z p2.dc b4)).snoc (grow _ _ _ _ _ hD3 b5)
  · rintro H5 ⟨ts, bs, s', r', lp, all, s0, s1, p5, sb, hD, pr⟩
    exact fin bs ts s' r' H5 lp all s0 s1 p5 sb hD pr
/-- .. as a reading, over a range whose end may be drawn too -/
theorem lc_penT {β : Type} {Gd : Nat → β → Prop} {Rr : Hp → V → β → Prop} {e j : Nat} {σ : L2.St} {H : Hp} {te : TE} {ta : TA} {Q : VK} {d c : Addr} {cells : List Int} (F : Nat → Hp → Int → Int → Prop) (hr : ∀ R : It → Hp → Prop, (∀ n H1 s r, F n H1 s r → R (Itr 0 n) H1) → iRng1 ta σ H R)
    (facts : ∀ n H1 s r, F n H1 s r → PenAt H1 d c s r cells ∧ 0 ≤ s ∧ n ≤ sizeLine)
    (but : ∀ (H H' : Hp) (y : V) (b : β) (kv : List (Key × V)), Rr H y b → H d = some (.dK kv) → SameBut d H H' → Rr H' y b) (grow : ∀ (D : Addr) (H : Hp) (rs ys : List V) (y : V) (b : β), H D = some (.lst rs) → Rr H y b → Rr (upd H D (.lst ys)) y b)
    (step : ∀ (n : Nat) (H1 : Hp) (s r : Int), F n H1 s r → ∀ (i : Nat) (H2 : Hp) (s' r' : Int) (Kc : VK), i < n → PenAt H2 d c s' r' cells → 0 ≤ s' → s' ≤ s + (e * i : Nat) → SameBut d H1 H2 → (∀ (y : V) (b : β) (s2 r2 : Int) (H3 : Hp), Gd i b → 0 ≤ s2 → s2 ≤ s' + (e : Nat) → PenAt H3 d c s2 r2 cells → SameBut d H2 H3 → Rr H3 y b → Kc y H3) → te ((wipe σ [j]).set j (some (.int (0 + i)))) H2 Kc)
    (fin : ∀ (n : Nat) (H1 : Hp) (s r : Int), F n H1 s r → ∀ (D : Addr) (bs : List β) (ts : List V) (s' r' : Int) (H' : Hp), bs.length = n → (∀ i b, bs[i]? = some b → Gd i b) → 0 ≤ s' → s' ≤ s + (e * n : Nat) → PenAt H' d c s' r' cells → SameBut d H1 H' → H' D = some (.lst ts) → Paired (Rr H') ts bs → Q (.ref D) H') :
    tLc (iRng1 ta) (gName j) tYes te [j] σ H Q := by
  refine hr _ fun n H1 s r f D nD => ?_
  obtain ⟨p, h0, few⟩ := facts n H1 s r f
  exact lc_pen (Q := Q) (te := te) (σ := σ) walk_range (Gd := Gd) (Rr := Rr) (Xs := fun i x => x = .int (0 + i)) (fun _ _ => trivial) (fun _ _ _ _ y => y) p h0 nD few but (grow D) (fun i x H2 s' r' Kc hi hx p2 a b sb _ kc => by
    subst hx
    exact step n H1 s r f i H2 s' r' Kc hi p2 a b sb kc) (fin n H1 s r f D)
/-- .. items that are new lists -/
theorem lc_penD {β : Type} {Gd : Nat → β → Prop} {Rr : Addr → Hp → V → β → Prop} {e j : Nat} {σ : L2.St} {H : Hp} {te : TE} {ta : TA} {Q : VK} {d c : Addr} {cells : List Int} (F : Nat → Hp → Int → Int → Prop) (hr : ∀ R : It → Hp → Prop, (∀ n H1 s r, F n H1 s r → R (Itr 0 n) H1) → iRng1 ta σ H R)
    (facts : ∀ n H1 s r, F n H1 s r → PenAt H1 d c s r cells ∧ 0 ≤ s ∧ n ≤ sizeLine)
    (but : ∀ (D : Addr) (H H' : Hp) (y : V) (b : β) (kv : List (Key × V)), Rr D H y b → H d = some (.dK kv) → SameBut d H H' → Rr D H' y b) (grow : ∀ (D : Addr) (H : Hp) (rs ys : List V) (y : V) (b : β), H D = some (.lst rs) → Rr D H y b → Rr D (upd H D (.lst ys)) y b)
    (step : ∀ (n : Nat) (H1 : Hp) (s r : Int), F n H1 s r → ∀ (D : Addr) (i : Nat) (H2 : Hp) (s' r' : Int) (Kc : VK), i < n → PenAt H2 d c s' r' cells → 0 ≤ s' → s' ≤ s + (e * i : Nat) → SameBut d H1 H2 → (∃ ts, H2 D = some (.lst ts)) → (∀ (y : V) (b : β) (s2 r2 : Int) (H3 : Hp), Gd i b → 0 ≤ s2 → s2 ≤ s' + (e : Nat) → PenAt H3 d c s2 r2 cells → SameBut d H2 H3 → Rr D H3 y b → Kc y H3) → te ((wipe σ [j]).set j (some (.int (0 + i)))) H2 Kc)
    (fin : ∀ (n : Nat) (H1 : Hp) (s r : Int), F n H1 s r → ∀ (D : Addr) (bs : List β) (ts : List V) (s' r' : Int) (H' : Hp), bs.length = n → (∀ i b, bs[i]? = some b → Gd i b) → 0 ≤ s' → s' ≤ s + (e * n : Nat) → PenAt H' d c s' r' cells → SameBut d H1 H' → H' D = some (.lst ts) → Paired (Rr D H') ts bs → Q (.ref D) H') :
    tLc (iRng1 ta) (gName j) tYes te [j] σ H Q := by
  refine hr _ fun n H1 s r f D nD => ?_
  obtain ⟨p, h0, few⟩ := facts n H1 s r f
  exact lc_pen (Q := Q) (te := te) (σ := σ) walk_range (Gd := Gd) (Rr := Rr D) (Xs := fun i x => x = .int (0 + i)) (fun _ _ => trivial) (fun _ _ _ _ y => y) p h0 nD few (but D) (grow D) (fun i x H2 s' r' Kc hi hx p2 a b sb hD kc => by
    subst hx
    exact step n H1 s r f D i H2 s' r' Kc hi p2 a b sb hD kc) (fin n H1 s r f D)
def spSomL : Sp := fun vs H Q _ => ∃ (d c : Addr) (s r : Int) (cells : List Int) (m : Nat), vs = [.ref d, .int m] ∧ PenAt H d c s r cells ∧ 0 ≤ s ∧ s + 200 ≤ 100000 ∧ cells.length ≤ 63 ∧ m ≤ 20 ∧
  ∀ (l : Addr) (ps : List (Int × Int)) (s' r' : Int) (H' : Hp), H l = none → IsP ps → (∀ p ∈ ps, FewD p) → ps.length ≤ m → 0 ≤ s' → s' ≤ s + 110 → PenAt H' d c s' r' cells → SameBut d H H' → PPs H' l ps → Q (.ref l) H'
def spDivL : Sp := fun vs H Q _ => ∃ (d c : Addr) (s r : Int) (cells : List Int) (m : Nat), vs = [.ref d, .int m] ∧ PenAt H d c s r cells ∧ 0 ≤ s ∧ s + 200 ≤ 100000 ∧ cells.length ≤ 63 ∧ m ≤ 20 ∧
  ∀ (l : Addr) (ps : List (Int × Int)) (s' r' : Int) (H' : Hp), IsP ps → (∀ p ∈ ps, FewD p) → ps.length = m + 1 → 0 ≤ s' → s' ≤ s + 110 → PenAt H' d c s' r' cells → SameBut d H H' → PPs H' l ps → Q (.ref l) H'
section
variable {P : Program} {w : World} {K : PySem.W.Frag} {mg : Str → Option Value} {base : Heap}
theorem scSomL : FnScope ["_law_pen_here", "_law_most", "_law_k"] ["_law_pen_here", "_law_most"] (defScope sSomL) := ⟨rfl, rfl, rfl, by decide +kernel, rfl, by decide +kernel, by decide +kernel⟩
theorem ok_somL {f : Addr} {fd : FuncData} (F : Fun K "_law_some" "_law_some" sSomL f fd) (B : TxtR mg) (hD : Dfn P w K mg base CX0 1 "_law_draw" ["_law_pen_here", "_law_many"] spDraw) (hF : Dfn P w K mg base CX0 3 "_law_few" ["_law_pen_here"] spFew) (hT : Dfn P w K mg base CX0 1 "_law_trim" ["_law_parts"] spTrim) :
    FnOk P w K mg base CX0 4 f fd ["_law_pen_here", "_law_most"] spSomL := by
  refine F.ok scSomL (fun vs H Q E h => ?_) (fun cdv A outer s H vs Q E hr h => ?_)
  · obtain ⟨d, c, s, r, cells, m, rfl, _⟩ := h
    rfl
  · obtain ⟨d, c, st, r, cells, m, rfl, p, h0, h1, hl, hm, k⟩ := h
    have nd := scSomL.nd
    refine ⟨_, pss_one (ps_ret (dc hT hr (by decide) (pa_cons (pe_lc (own := [("_law_k", 2)]) (g := gName 2) (tt := tYes) rfl nd (pi_range1 (by rfl) B.range (pa_cons (dc hD hr (by decide) (pa_cons (pv 0) (pa_cons (pe_op op_add (pv 1) pe_int) pa_nil))) pa_nil)) (blkOk_by (N := ["_law_pen_here", "_law_most", "_law_k"]) (sc := defScope sSomL) (by decide +kernel)) (fun _ _ _ _ _ => pg_name (i := 2) nd rfl (Or.inl rfl)) (fun _ _ _ _ _ => pts_nil) (fun _ _ _ _ _ => by exact (dc hF hr (by decide) (pa_cons (pv 0) pa_nil)))) pa_nil))), ?_⟩
    dsimp only [tRet, tCall, tCons, tNil, List.map]
    refine lc_penT (e := 5) (d := d) (c := c) (cells := cells) (Gd := fun _ (p : Int × Int) => FewD p) (Rr := PV) (fun n H1 s1 r1 => n ≤ m ∧ 0 ≤ s1 ∧ s1 ≤ st + 1 ∧ PenAt H1 d c s1 r1 cells ∧ SameBut d H H1) (fun R k => ?_) ?_ (fun _ _ _ _ _ h hd s => h.but hd s) (fun _ _ _ _ _ _ hD h => h.grow hD) ?_ ?_
    · refine ⟨_, rfl, _, rfl, _, _, rfl, rfl, d, c, st, r, _, cells, rfl, p, h0, by omega, hl, by omega, by omega, fun n s1 r1 H1 a1 a2 a3 a4 a5 a6 => ?_⟩
      exact ⟨n, rfl, by omega, by omega, k n.toNat H1 s1 r1 ⟨by omega, a3, a4, a5, a6⟩⟩
    · rintro n H1 s1 r1 ⟨a1, a2, a3, a4, a5⟩
      exact ⟨a4, a2, Nat.le_trans (show n ≤ 20 by omega) (by decide)⟩
    · rintro n H1 s1 r1 ⟨a1, a2, a3, a4, a5⟩ i H2 s' r' Kc hi p2 s0 s1' sb kc
      exact ⟨_, rfl, d, c, s', r', cells, rfl, p2, s0, by omega, hl, fun t q s2 r2 H3 fq _ b1 b2 b3 b4 b5 => kc _ q s2 r2 H3 fq b1 (by omega) b3 b4 ⟨t, rfl, b5⟩⟩
    · rintro n H1 s1 r1 ⟨a1, a2, a3, a4, a5⟩ D bs ts s' r' H' lb all s0 s1' p5 sb hD pr
      have al : ∀ p ∈ bs, FewD p := fun p hp => by
        obtain ⟨i, hi⟩ := List.mem_iff_getElem?.mp hp
        exact all i p hi
      refine ⟨D, bs, rfl, ⟨ts, hD, pr⟩, by omega, fun p hp => (al p hp).l, fun qs tr l H6 nl s6 hq => ?_⟩
      have nl0 : H l = none := by
        cases e : H l with
        | none => rfl
        | some o =>
          by_cases z : l = d
          · rw [z, p5.dc] at nl; cases nl
          · rw [(a5.tr3 sb) _ _ e z] at nl; cases nl
      exact k l qs s' r' H6 nl0 tr.p (fun q hq => al q (tr.i q hq)) (by have := tr.l; omega) s0 (by omega) (p5.to3 s6) ((a5.tr3 sb).tr3 (SameBut.by3 s6)) hq
theorem scDivL : FnScope ["_law_pen_here", "_law_degree", "_law_k"] ["_law_pen_here", "_law_degree"] (defScope sDivL) := ⟨rfl, rfl, rfl, by decide +kernel, rfl, by decide +kernel, by decide +kernel⟩
theorem ok_divL {f : Addr} {fd : FuncData} (F : Fun K "_law_divisor" "_law_divisor" sDivL f fd) (B : TxtR mg) (hF : Dfn P w K mg base CX0 3 "_law_few" ["_law_pen_here"] spFew) (hR : Dfn P w K mg base CX0 4 "_law_real" ["_law_pen_here"] spReal) :
    FnOk P w K mg base CX0 5 f fd ["_law_pen_here", "_law_degree"] spDivL := by
  refine F.ok scDivL (fun vs H Q E h => ?_) (fun cdv A outer s H vs Q E hr h => ?_)
  · obtain ⟨d, c, s, r, cells, m, rfl, _⟩ := h
    rfl
  · obtain ⟨d, c, st, r, cells, m, rfl, p, h0, h1, hl, hm, k⟩ := h
    have nd := scDivL.nd
    refine ⟨_, pss_one (ps_ret (pe_op op_cat (pe_lc (own := [("_law_k", 2)]) (g := gName 2) (tt := tYes) rfl nd (pi_range1 (by rfl) B.range (pa_cons (pv 1) pa_nil)) (blkOk_by (N := ["_law_pen_here", "_law_degree", "_law_k"]) (sc := defScope sDivL) (by decide +kernel)) (fun _ _ _ _ _ => pg_name (i := 2) nd rfl (Or.inl rfl)) (fun _ _ _ _ _ => pts_nil) (fun _ _ _ _ _ => by exact (dc hF hr (by decide) (pa_cons (pv 0) pa_nil)))) (pe_lst (pa_cons (dc hR hr (by decide) (pa_cons (pv 0) pa_nil)) pa_nil)))), ?_⟩
    dsimp only [tRet, tOp, List.map]
    refine lc_penT (e := 5) (d := d) (c := c) (cells := cells) (Gd := fun _ (p : Int × Int) => FewD p) (Rr := PV) (fun n H1 s1 r1 => n = m ∧ H1 = H ∧ s1 = st ∧ r1 = r) (fun R k => ⟨_, rfl, m, rfl, by omega, by omega, by rw [Int.toNat_natCast]; exact k m H st r ⟨rfl, rfl, rfl, rfl⟩⟩) ?_ (fun _ _ _ _ _ h hd s => h.but hd s) (fun _ _ _ _ _ _ hD h => h.grow hD) ?_ ?_
    · rintro n H1 s1 r1 ⟨rfl, rfl, rfl, rfl⟩
      exact ⟨p, h0, Nat.le_trans hm (by decide)⟩
    · rintro n H1 s1 r1 ⟨rfl, rfl, rfl, rfl⟩ i H2 s' r' Kc hi p2 s0 s1' sb kc
      exact ⟨_, rfl, d, c, s', r', cells, rfl, p2, s0, by omega, hl, fun t q s2 r2 H3 fq _ b1 b2 b3 b4 b5 => kc _ q s2 r2 H3 fq b1 (by omega) b3 b4 ⟨t, rfl, b5⟩⟩
    · rintro n H1 s1 r1 ⟨rfl, rfl, rfl, rfl⟩ D bs ts s' r' H' lb all s0 s1' p5 sb hD pr
      have al : ∀ p ∈ bs, FewD p := fun p hp => by
        obtain ⟨i, hi⟩ := List.mem_iff_getElem?.mp hp
        exact all i p hi
      refine ⟨_, rfl, d, c, s', r', cells, rfl, p5, s0, by omega, hl, fun t q s2 r2 H3 fq nq b1 b2 b3 b4 b5 => ?_⟩
      refine ⟨by show 1 ≤ sizeLine; decide, fun l2 n2 => ?_⟩
      have sl := Same.new (o := .lst [.ref t]) (fun _ _ e => e : Same H3 H3) n2
      have nDd : D ≠ d := ne_of hD p5.dc (by intro z; cases z)
      have hD3 := b4 _ _ hD nDd
      have lt := paired_len pr
      refine ⟨D, l2, ts, [.ref t], rfl, rfl, sl _ _ hD3, upd_same, ?_, fun l3 n3 => ?_⟩
      · rw [lt, lb]
        exact Nat.le_trans (show n + 1 ≤ 21 by omega) (by decide)
      · have sl3 := sl.trans (Same.new (o := .lst (ts ++ [.ref t])) (fun _ _ e => e) n3)
        refine k l3 (bs ++ [q]) s2 r2 _ ⟨fun x hx => ?_, fun x hx => ?_⟩ (fun x hx => ?_) (by rw [List.length_append, lb]; rfl) b1 (by omega) (b3.to3 sl3) ((sb.tr3 b4).tr3 (SameBut.by3 sl3)) ⟨_, upd_same, ?_⟩
        · rcases List.mem_append.mp hx with hx | hx
          · exact (al x hx).l
          · cases List.mem_singleton.mp hx
            exact fq.l
        · rw [List.getLast?_append, List.getLast?_singleton] at hx
          cases hx
          exact nq
        · rcases List.mem_append.mp hx with hx | hx
          · exact al x hx
          · cases List.mem_singleton.mp hx
            exact fq
        · exact (Paired.mapP pr fun _ _ z => (z.but p5.dc b4).same sl3).snoc ⟨t, rfl, sl3 _ _ b5⟩
end
end K03
end
section
set_option maxHeartbeats 8000000
set_option exponentiation.threshold 100000
namespace K03
open PySem PySem.Spec PyProof.Rows L2 LamX NdefX L3 PolyM
abbrev sToldL6 : Stmt := top 60
abbrev sPolyL : Stmt := top 68
abbrev sPolyIs : Stmt := top 67
abbrev sPairIs : Stmt := top 70
theorem sh_but6 {d : Addr} {C : Addr} {H H' : Hp} {v : V} {p : Int × Int} {kv : List (Key × V)} (h : Sh C H v p) (hd : H d = some (.dK kv)) (s : SameBut d H H') : Sh C H' v p := by
  rcases h with h | ⟨a, dx, e, h⟩
  · exact .inl h
  · exact .inr ⟨a, dx, e, s _ _ h (fun z => by rw [z, hd] at h; cases h)⟩
theorem sh_grow6 {D : Addr} {C : Addr} {H : Hp} {rs ys : List V} {v : V} {p : Int × Int} (hD : H D = some (.lst rs)) (h : Sh C H v p) : Sh C (upd H D (.lst ys)) v p := by
  rcases h with h | ⟨a, dx, e, h⟩
  · exact .inl h
  · refine .inr ⟨a, dx, e, ?_⟩
    rw [upd_ne (fun z => by rw [z, hD] at h; cases h)]
    exact h
theorem PolyAt.but {C CP CM d : Addr} {H H' : Hp} {a : Addr} {ps : List (Int × Int)} {kv : List (Key × V)} (h : PolyAt C CP CM H a ps) (hd : H d = some (.dK kv)) (s : SameBut d H H') : PolyAt C CP CM H' a ps := by
  obtain ⟨dx, t, xs, mk, dm, tb, h1, h2, h3, h4, h5⟩ := h
  have go : ∀ {b : Addr} {o : HO}, H b = some o → (∀ kv, o ≠ .dK kv) → H' b = some o := fun h n => s _ _ h (fun z => by rw [z, hd] at h; exact n _ (Option.some.inj h).symm)
  refine ⟨dx, t, xs, mk, dm, tb, go h1 (by simp), go h2 (by simp), Paired.mapP h3 fun _ _ z => ?_, go h4 (by simp), go h5 (by simp)⟩
  obtain ⟨a, dx, e, h⟩ := z
  exact ⟨a, dx, e, go h (by unfold rat; simp)⟩
theorem ix_tupK6 {X : Cx} (K : PySem.W.Frag) (hK : X.K = K := by rfl) : IxR X (rIxT K) := by
  subst hK
  exact ix_tup
theorem ix_listK6 {X : Cx} (K : PySem.W.Frag) (hK : X.K = K := by rfl) : IxR X (rIxL K) := by
  subst hK
  exact ix_list
def spToldL (C : Addr) : Sp := fun vs H Q _ => ∃ (d c t : Addr) (s r : Int) (cells : List Int) (p : Int × Int), vs = [.ref d, .ref t] ∧ PenAt H d c s r cells ∧ 0 ≤ s ∧ s + 5 ≤ 100000 ∧ cells.length ≤ 63 ∧ Pair H t p ∧ Low p ∧ Fit p ∧
  ∀ (v : V) (s' r' : Int) (H' : Hp), Sh C H' v p → 0 ≤ s' → s' ≤ s + 1 → PenAt H' d c s' r' cells → SameBut d H H' → Q v H'
def spPolyL (C CP CM : Addr) : Sp := fun vs H Q _ => ∃ (d c l : Addr) (s r : Int) (cells : List Int) (ps : List (Int × Int)), vs = [.ref d, .ref l] ∧ PenAt H d c s r cells ∧ 0 ≤ s ∧ s + 200 ≤ 100000 ∧ cells.length ≤ 63 ∧ PPs H l ps ∧ IsP ps ∧ (∀ p ∈ ps, Fit p) ∧ ps.length ≤ 60 ∧
  ∀ (a : Addr) (s' r' : Int) (H' : Hp), 0 ≤ s' → s' ≤ s + 70 → PenAt H' d c s' r' cells → SameBut d H H' → PolyAt C CP CM H' a ps → Q (.ref a) H'
def spPolyIs (C CP CM : Addr) : Sp := fun vs H Q _ => ∃ (a l : Addr) (ps : List (Int × Int)), vs = [.ref a, .ref l] ∧ PolyAt C CP CM H a ps ∧ PPs H l ps ∧ ps.length ≤ 1000 ∧ ∀ H', Same H H' → Q (.bl true) H'
def spPairIs (C CP CM : Addr) : Sp := fun vs H Q _ => ∃ (t a b l m : Addr) (ps qs : List (Int × Int)), vs = [.ref t, .ref l, .ref m] ∧ H t = some (.tup [.ref a, .ref b]) ∧ PolyAt C CP CM H a ps ∧ PPs H l ps ∧ PolyAt C CP CM H b qs ∧ PPs H m qs ∧ ps.length ≤ 1000 ∧ qs.length ≤ 1000 ∧ ∀ H', Same H H' → Q (.bl true) H'
section
variable {P : Program} {w : World} {K : PySem.W.Frag} {mg : Str → Option Value} {base : Heap} {cB cN C fI CP CM fP fM : Addr}
theorem scToldL : FnScope ["_law_pen_here", "_law_one"] ["_law_pen_here", "_law_one"] (defScope sToldL6) := ⟨rfl, rfl, rfl, by decide +kernel, rfl, by decide +kernel, by decide +kernel⟩
theorem ok_toldL {f : Addr} {fd : FuncData} (F : Fun K "_law_told" "_law_told" sToldL6 f fd) (R : Rat P w K mg base cB cN C fI) (hD : Dfn P w K mg base CX0 1 "_law_draw" ["_law_pen_here", "_law_many"] spDraw) : FnOk P w K mg base CX0 6 f fd ["_law_pen_here", "_law_one"] (spToldL C) := by
  refine F.ok scToldL (fun vs H Q E h => ?_) (fun cdv A outer s H vs Q E hr h => ?_)
  · obtain ⟨d, c, t, s, r, cells, p, rfl, _⟩ := h
    rfl
  · obtain ⟨d, c, t, st, r, cells, p, rfl, pn, h0, h1, hl, ht, lp, fp, k⟩ := h
    have nd := scToldL.nd
    refine ⟨_, pss_cons (ps_if (PW.pt (pw_and (pt_cmpR op_eq (pe_ix ix_tup (pv 1) pe_int (fun _ _ => rfl)) pe_int (nomark _)) (pw_and1 (pt_cmpR op_eq (dc hD hr (by decide) (pa_cons (pv 0) (pa_cons pe_int pa_nil))) pe_int (nomark _))))) (pss_one (ps_ret (pe_ix ix_tup (pv 1) pe_int (fun _ _ => rfl)))) pss_nil)
      (pss_one (ps_ret (pe_rat2 (E := E0) R hr passL (pe_ix ix_tup (pv 1) pe_int (fun _ _ => rfl)) (pe_ix ix_tup (pv 1) pe_int (fun _ _ => rfl))))), ?_⟩
    have rat : ∀ (s1 r1 : Int) (H1 : Hp), 0 ≤ s1 → s1 ≤ st + 1 → PenAt H1 d c s1 r1 cells → SameBut d H H1 → Pair H1 t p → MadeOf K cB cN H1 E0 (.int p.1) (.int p.2) (NewR C H1 Q) := fun s1 r1 H1 a b pe sb pt => by
      refine .good p.1 p.2 rfl rfl lp.ne (Nat.lt_of_lt_of_le fp.b (Nat.pow_le_pow_right (by decide) (by decide))) fun x dx H2 nx s2 hx => ?_
      rw [low_self lp] at hx
      exact k (.ref x) s1 r1 H2 (.inr ⟨x, dx, rfl, hx⟩) a b (pe.to3 s2) (sb.tr3 (SameBut.by3 s2))
    refine ⟨_, rfl, t, _, _, _, rfl, rfl, SqT.of ht, rfl, rfl, _, rfl, ?_⟩
    refine ite2 (fun y => ?_) (fun y => ?_)
    · refine ⟨_, rfl, d, c, st, r, _, cells, rfl, pn, h0, by omega, hl, by decide, by decide, fun n s1 r1 H1 a1 a2 a3 a4 a5 a6 => ?_⟩
      have ht1 : Pair H1 t p := a6 _ _ ht (fun z => by unfold Pair at ht; rw [z, pn.dc] at ht; cases ht)
      refine ⟨rfl, _, rfl, ?_⟩
      refine ite2 (fun y2 => ?_) (fun y2 => ?_)
      · refine ⟨_, rfl, t, _, _, _, rfl, rfl, SqT.of ht1, rfl, ?_⟩
        exact k (.int p.1) s1 r1 H1 (.inl ⟨rfl, by simpa using y⟩) a3 a4 a5 a6
      · exact ⟨_, rfl, t, _, _, _, rfl, rfl, SqT.of ht1, rfl, _, rfl, t, _, _, _, rfl, rfl, SqT.of ht1, rfl, rat s1 r1 H1 a3 a4 a5 a6 ht1⟩
    · exact ⟨_, rfl, t, _, _, _, rfl, rfl, SqT.of ht, rfl, _, rfl, t, _, _, _, rfl, rfl, SqT.of ht, rfl, rat st r H h0 (by omega) pn SameBut.refl ht⟩
/-- .. over a list -/
theorem lc_penL {K : PySem.W.Frag} {β : Type} {Gd : Nat → β → Prop} {Rr : Hp → V → β → Prop} {e j : Nat} {σ : L2.St} {H : Hp} {te tv : TE} {Q : VK} {d c l : Addr} {s r : Int} {cells : List Int} {xs : List V} (hv : ∀ R : VK, R (.ref l) H → tv σ H R) (hl : H l = some (.lst xs)) (few : xs.length ≤ sizeLine)
    (p : PenAt H d c s r cells) (h0 : 0 ≤ s)
    (but : ∀ (H H' : Hp) (y : V) (b : β) (kv : List (Key × V)), Rr H y b → H d = some (.dK kv) → SameBut d H H' → Rr H' y b) (grow : ∀ (D : Addr) (H : Hp) (rs ys : List V) (y : V) (b : β), H D = some (.lst rs) → Rr H y b → Rr (upd H D (.lst ys)) y b)
    (step : ∀ (i : Nat) (x : V) (H2 : Hp) (s' r' : Int) (Kc : VK), xs[i]? = some x → PenAt H2 d c s' r' cells → 0 ≤ s' → s' ≤ s + (e * i : Nat) → SameBut d H H2 → (∀ (y : V) (b : β) (s2 r2 : Int) (H3 : Hp), Gd i b → 0 ≤ s2 → s2 ≤ s' + (e : Nat) → PenAt H3 d c s2 r2 cells → SameBut d H2 H3 → Rr H3 y b → Kc y H3) → te ((wipe σ [j]).set j (some x)) H2 Kc)
    (fin : ∀ (D : Addr) (bs : List β) (ts : List V) (s' r' : Int) (H' : Hp), bs.length = xs.length → (∀ i b, bs[i]? = some b → Gd i b) → 0 ≤ s' → s' ≤ s + (e * xs.length : Nat) → PenAt H' d c s' r' cells → SameBut d H H' → H' D = some (.lst ts) → Paired (Rr H') ts bs → Q (.ref D) H') :
    tLc (iList K tv) (gName j) tYes te [j] σ H Q := by
  have ld : l ≠ d := ne_of hl p.dc (by intro z; cases z)
  refine hv _ ⟨l, rfl, ⟨xs, SqL.of hl⟩, fun D nD => ?_⟩
  exact lc_pen (Q := Q) (te := te) (σ := σ) (walk_list (K := K) (a := l) (xs := xs)) (Gd := Gd) (Rr := Rr) (Xs := fun i x => xs[i]? = some x) (fun H2 sb => SqL.of (sb _ _ hl ld)) (fun _ _ _ _ y => y) p h0 nD few but (grow D) (fun i x H2 s' r' Kc _ hx p2 a b sb _ kc => step i x H2 s' r' Kc hx p2 a b sb kc) (fin D)
theorem cf_pad {ps : List (Int × Int)} {n k : Nat} : cf (ps ++ List.replicate n ((0, 1) : Int × Int)) k = cf ps k := by
  unfold cf
  rw [List.getD_eq_getElem?_getD, List.getD_eq_getElem?_getD]
  by_cases c : k < ps.length
  · rw [List.getElem?_append_left c]
  · rw [List.getElem?_append_right (by omega), List.getElem?_eq_none (show ps.length ≤ k by omega), List.getElem?_replicate]
    split <;> rfl
theorem pad_trim {ps : List (Int × Int)} {n m : Nat} (h : IsP ps) (t : TrimAt (ps ++ List.replicate n ((0, 1) : Int × Int)) m) : (ps ++ List.replicate n ((0, 1) : Int × Int)).take m = ps := by
  have low : ∀ p ∈ ps ++ List.replicate n ((0, 1) : Int × Int), Low p := fun p hp => by
    rcases List.mem_append.mp hp with hp | hp
    · exact h.low p hp
    · rw [List.mem_replicate] at hp
      rw [hp.2]
      exact low01
  exact isP_ext (t.isP low) h fun k => by rw [t.cf low, cf_pad]
theorem paired_rep {α β : Type} {F : α → β → Prop} {x : α} {y : β} (h : F x y) : ∀ n : Nat, Paired F (List.replicate n [x]).flatten (List.replicate n y)
  | 0 => .nil
  | n + 1 => .cons h (paired_rep h n)
theorem scPolyL : FnScope ["_law_pen_here", "_law_parts", "_law_given", "_law_part"] ["_law_pen_here", "_law_parts"] (defScope sPolyL) := ⟨rfl, rfl, rfl, by decide +kernel, rfl, by decide +kernel, by decide +kernel⟩
theorem ok_polyL {f : Addr} {fd : FuncData} (F : Fun K "_law_poly" "_law_poly" sPolyL f fd) (B : TxtR mg) (bt : mg "tuple" = none) (L : Pol P w K mg base cB C CP CM fP fM) (hD : Dfn P w K mg base CX0 1 "_law_draw" ["_law_pen_here", "_law_many"] spDraw) (hT : Dfn P w K mg base CX0 6 "_law_told" ["_law_pen_here", "_law_one"] (spToldL C)) :
    FnOk P w K mg base CX0 10 f fd ["_law_pen_here", "_law_parts"] (spPolyL C CP CM) := by
  refine F.ok scPolyL (fun vs H Q E h => ?_) (fun cdv A outer s H vs Q E hr h => ?_)
  · obtain ⟨d, c, l, s, r, cells, ps, rfl, _⟩ := h
    rfl
  · obtain ⟨d, c, l, st, r, cells, ps, rfl, pn, h0, h1, hl, hps, ip, fp, lp, k⟩ := h
    have nd := scPolyL.nd
    obtain ⟨ts, t1, t2⟩ := id hps
    have lt := paired_len t2
    refine ⟨_, pss_cons (ps_set (i := 2) nd rfl (Or.inl rfl) (pe_op op_cat (pe_lc (own := [("_law_part", 3)]) (g := gName 3) (tt := tYes) rfl nd (pi_list (pv 1)) (blkOk_by (N := ["_law_pen_here", "_law_parts", "_law_given", "_law_part"]) (sc := defScope sPolyL) (by decide +kernel)) (fun _ _ _ _ _ => pg_name (i := 3) nd rfl (Or.inl rfl)) (fun _ _ _ _ _ => pts_nil) (fun _ _ _ _ _ => by exact (dc hT hr (by decide) (pa_cons (pv 0) (pa_cons (pv 3) pa_nil))))) (pe_op op_rep (pe_lst (pa_cons pe_int pa_nil)) (dc hD hr (by decide) (pa_cons (pv 0) (pa_cons pe_int pa_nil))))))
      (pss_one (ps_ret (pe_ifExp (pt_cmpR op_eq (dc hD hr (by decide) (pa_cons (pv 0) (pa_cons pe_int pa_nil))) pe_int (nomark _)) (pe_pol (E := E0) L hr passL (pe_callTy call_tuple_of (by rfl) bt (by decide +kernel) (pa_cons (pv 2) pa_nil))) (pe_pol (E := E0) L hr passL (pv 2))))), ?_⟩
    refine seq_to (fun σ' G => ∃ (g : Addr) (ws : List V) (n : Nat) (s' r' : Int), σ' = [some (.ref d), some (.ref l), some (.ref g), none] ∧ 0 ≤ s' ∧ s' ≤ st + 61 ∧ PenAt G d c s' r' cells ∧ SameBut d H G ∧ G g = some (.lst ws) ∧ n ≤ 3 ∧ Paired (Sh C G) ws (ps ++ List.replicate n (0, 1))) (fun kk hK => ?_) ?_
    · dsimp only [tAsg, tOp, List.map]
      refine lc_penL (e := 1) (l := l) (xs := ts) (d := d) (c := c) (cells := cells) (s := st) (r := r) (Gd := fun i (p : Int × Int) => ps[i]? = some p) (Rr := Sh C) (fun R q => ⟨_, rfl, q⟩) t1 (by rw [lt]; exact Nat.le_trans lp (by decide)) pn h0 (fun _ _ _ _ _ h hd s => sh_but6 h hd s) (fun _ _ _ _ _ _ hD h => sh_grow6 hD h) ?_ ?_
      · intro i x H2 s' r' Kc hx p2 s0 s1 sb kc
        obtain ⟨p, hp, t, rfl, ht⟩ := paired_at t2 hx
        have li := (List.getElem?_eq_some_iff.mp hp).1
        have mp := List.mem_of_getElem? hp
        have ht2 : Pair H2 t p := sb _ _ ht (fun z => by unfold Pair at ht; rw [z, pn.dc] at ht; cases ht)
        exact ⟨_, rfl, _, rfl, d, c, t, s', r', cells, p, rfl, p2, s0, by omega, hl, ht2, ip.low p mp, fp p mp, fun v s2 r2 H3 sv b1 b2 b3 b4 => kc v p s2 r2 H3 hp b1 (by omega) b3 b4 sv⟩
      · intro D bs ws s' r' G lb all s0 s1 p5 sb hD pr
        have eb : bs = ps := by
          refine List.ext_getElem (by omega) fun i h1 h2 => ?_
          have := all i _ (List.getElem?_eq_getElem h1)
          rw [List.getElem?_eq_getElem h2] at this
          exact (Option.some.inj this).symm
        subst eb
        refine ⟨by show 1 ≤ sizeLine; decide, fun l0 n0 => ?_⟩
        have sl := Same.new (o := .lst [.int 0]) (fun _ _ e => e : Same G G) n0
        have h0l : upd G l0 (.lst [.int 0]) l0 = some (.lst [.int 0]) := upd_same
        generalize upd G l0 (.lst [.int 0]) = G2 at sl h0l ⊢
        refine ⟨_, rfl, d, c, s', r', _, cells, rfl, p5.to3 sl, s0, by omega, hl, by decide, by decide, fun n s2 r2 H2 b1 b2 b3 b4 b5 b6 => ?_⟩
        have p6 := p5.to3 sl
        have nl : l0 ≠ d := ne_of h0l p6.dc (by intro z; cases z)
        have nD : D ≠ d := ne_of hD p5.dc (by intro z; cases z)
        refine ⟨l0, n, _, rfl, rfl, b6 _ _ h0l nl, by omega, by omega, Nat.le_trans (show 1 * n.toNat ≤ 3 by omega) (by decide), fun l3 n3 => ?_⟩
        have s3 := Same.new (o := .lst (List.replicate n.toNat [V.int 0]).flatten) (fun _ _ e => e : Same H2 H2) n3
        have h3l : upd H2 l3 (.lst (List.replicate n.toNat [V.int 0]).flatten) l3 = some (.lst (List.replicate n.toNat [V.int 0]).flatten) := upd_same
        generalize upd H2 l3 (.lst (List.replicate n.toNat [V.int 0]).flatten) = G3 at s3 h3l ⊢
        have hD3 := s3 _ _ (b6 _ _ (sl _ _ hD) nD)
        have lz : (List.replicate n.toNat [V.int 0]).flatten.length = n.toNat := by
          have := paired_len (paired_rep (F := fun (_ _ : V) => True) (x := V.int 0) (y := V.int 0) trivial n.toNat)
          rwa [List.length_replicate] at this
        refine ⟨D, l3, ws, _, rfl, rfl, hD3, h3l, ?_, fun l4 n4 => ?_⟩
        · rw [lz, paired_len pr]
          exact Nat.le_trans (show bs.length + n.toNat ≤ 63 by omega) (by decide)
        · have s4 := s3.trans (Same.new (o := .lst (ws ++ (List.replicate n.toNat [V.int 0]).flatten)) (fun _ _ e => e) n4)
          refine hK _ _ ⟨l4, _, n.toNat, s2, r2, rfl, b3, by omega, b5.to3 s4, (sb.tr3 (SameBut.by3 sl)).tr3 (b6.tr3 (SameBut.by3 s4)), upd_same, by omega, ?_⟩
          exact paired_appP (Paired.mapP pr fun _ _ z => (sh_but6 (z.same sl) p6.dc b6).same s4) (paired_rep (.inl ⟨rfl, rfl⟩) n.toNat)
    rintro σ' G ⟨g, ws, n, s', r', rfl, a1, a2, a3, a4, a5, a6, a7⟩
    have lw := paired_len a7
    rw [List.length_append, List.length_replicate] at lw
    have made : ∀ (v : V) (s2 r2 : Int) (G2 : Hp), 0 ≤ s2 → s2 ≤ st + 62 → PenAt G2 d c s2 r2 cells → SameBut d H G2 → SeqV K G2 v ws → Paired (Sh C G2) ws (ps ++ List.replicate n (0, 1)) → PolOf K C CP CM cB G2 E0 v Q := fun v s2 r2 G2 b1 b2 b3 b4 b5 b6 => by
      refine .inr ⟨ps ++ List.replicate n (0, 1), ⟨ws, b5, by rw [lw]; exact Nat.le_trans (show ps.length + n ≤ 63 by omega) (by decide), b6⟩, by rw [List.length_append, List.length_replicate]; omega, fun m tr => ?_⟩
      rw [pad_trim ip tr]
      exact fun x G3 nx s3 hx => k x s2 r2 G3 b1 (by omega) (b3.to3 s3) (b4.tr3 (SameBut.by3 s3)) hx
    refine ⟨_, rfl, d, c, s', r', _, cells, rfl, a3, a1, by omega, hl, by decide, by decide, fun q s2 r2 H2 b1 b2 b3 b4 b5 b6 => ?_⟩
    have gd : g ≠ d := ne_of a5 a3.dc (by intro z; cases z)
    have g2 := b6 _ _ a5 gd
    have w2 : Paired (Sh C H2) ws (ps ++ List.replicate n (0, 1)) := Paired.mapP a7 fun _ _ z => sh_but6 z a3.dc b6
    refine ⟨rfl, _, rfl, ?_⟩
    refine ite2 (fun y2 => ?_) (fun y2 => ?_)
    · refine ⟨_, rfl, g, ws, rfl, .inl ⟨SqL.of g2, fun t nt => ?_⟩⟩
      have s4 := Same.new (o := .tup ws) (fun _ _ e => e : Same H2 H2) nt
      exact made _ s2 r2 _ b3 (by omega) (b5.to3 s4) ((a4.tr3 b6).tr3 (SameBut.by3 s4)) ⟨t, rfl, .inr (SqT.of upd_same)⟩ (Paired.mapP w2 fun _ _ z => z.same s4)
    · exact ⟨_, rfl, made _ s2 r2 _ b3 (by omega) b5 (a4.tr3 b6) ⟨g, rfl, .inl (SqL.of g2)⟩ w2⟩
theorem bools6 {ws : List V} {bs : List Bool} (h : Paired (fun (y : V) (b : Bool) => y = .bl b) ws bs) : ws = bs.map V.bl := by
  induction h with
  | nil => rfl
  | cons a _ ih =>
    rw [ih, a]
    rfl
theorem scPolyIs : FnScope ["_law_told_here", "_law_due", "_law_k"] ["_law_told_here", "_law_due"] (defScope sPolyIs) := ⟨rfl, rfl, rfl, by decide +kernel, rfl, by decide +kernel, by decide +kernel⟩
theorem ok_polyIs {f : Addr} {fd : FuncData} (F : Fun K "_law_poly_is" "_law_poly_is" sPolyIs f fd) (B : TxtR mg) (bt : mg "tuple" = none) (L : PolC K mg CP CM fP fM) (tyx : ∀ (H : Hp) (a dx : Addr) (fs : List (Str × V)), H a = some (.ins CP dx fs) → TyX K H (.ref a) (.ref CP)) (hI : Dfn P w K mg base CX0 2 "_law_is" ["_law_told_here", "_law_due"] (spIs C)) :
    FnOk P w K mg base CX0 3 f fd ["_law_told_here", "_law_due"] (spPolyIs C CP CM) := by
  refine F.ok scPolyIs (fun vs H Q E h => ?_) (fun cdv A outer s H vs Q E hr h => ?_)
  · obtain ⟨a, l, ps, rfl, _⟩ := h
    rfl
  · obtain ⟨a, l, ps, rfl, ⟨dx, t, xs, mk, dm, tb, h1, h2, h3, h4, h5⟩, ⟨ts, t1, t2⟩, lp, k⟩ := h
    have nd := scPolyIs.nd
    have lx := paired_len h3
    have lt := paired_len t2
    refine ⟨_, pss_cons (ps_if (PW.pt (pw_or (pt_not (pt_val (pe_callB call_isi (by rfl) B.isi (by decide +kernel) (pa_cons (pv 0) (pa_cons (pe_glob (v := .ref CP) (by rfl) L.g rfl) pa_nil))))) (pw_or (pt_not (pt_val (pe_callB call_isi (by rfl) B.isi (by decide +kernel) (pa_cons (pe_fld (pv 0) rfl) (pa_cons (pe_bltn (v := .ty "tuple") (u := .type "tuple") (by rfl) bt (by decide +kernel) rfl) pa_nil))))) (pw_or1 (pt_cmpR op_ne (pe_callB call_len_seq (by rfl) B.len PySem.boot_len (pa_cons (pe_fld (pv 0) rfl) pa_nil)) (pe_callB call_len_seq (by rfl) B.len PySem.boot_len (pa_cons (pv 1) pa_nil)) (nomark _)))))) (pss_one (ps_ret pe_bl)) pss_nil)
      (pss_one (ps_ret (pe_callB (cr_all rfl) (by rfl) B.all (by decide +kernel) (pa_cons (pe_lc (own := [("_law_k", 2)]) (g := gName 2) (tt := tYes) rfl nd (pi_range1 (by rfl) B.range (pa_cons (pe_callB call_len_seq (by rfl) B.len PySem.boot_len (pa_cons (pv 1) pa_nil)) pa_nil)) (blkOk_by (N := ["_law_told_here", "_law_due", "_law_k"]) (sc := defScope sPolyIs) (by decide +kernel)) (fun _ _ _ _ _ => pg_name (i := 2) nd rfl (Or.inl rfl)) (fun _ _ _ _ _ => pts_nil) (fun _ _ _ _ _ => by exact (dc hI hr (by decide) (pa_cons (pe_ix (ix_tupK6 K) (pe_fldK K (pv 0)) (pv 2) (fun _ _ => rfl)) (pa_cons (pe_ix (ix_listK6 K) (pv 1) (pv 2) (fun _ _ => rfl)) pa_nil))))) pa_nil)))), ?_⟩
    refine ⟨_, rfl, _, .ref CP, .ref CP, .ref CP, true, rfl, .own CP, tyx H a dx _ h1, kit_me, true, rfl, ?_⟩
    refine ⟨_, rfl, a, CP, dx, _, V.ref t, rfl, h1, L.c, L.nP, rfl, _, .ty "tuple", .type "tuple", .type "tuple", true, rfl, .ty _, .base (.tup h2), kit_ty (by decide +kernel), true, rfl, ?_⟩
    refine ⟨_, rfl, a, CP, dx, _, V.ref t, rfl, h1, L.c, L.nP, rfl, t, xs, rfl, .inr (SqT.of h2), _, rfl, l, ts, rfl, .inl (SqL.of t1), rfl, _, rfl, ?_⟩
    refine ite2 (fun y => ?_) (fun _ => ?_)
    · exfalso
      rw [lx, lt] at y
      simp at y
    dsimp only [tNext, tRet, tCB, tCons, tNil, List.map]
    refine lc_mapT (n := ps.length) (bs := List.replicate ps.length true) (Rr := fun _ _ (y : V) (b : Bool) => y = .bl b) (fun R r => ⟨_, rfl, l, ts, rfl, .inl (SqL.of t1), (ts.length : Int), rfl, by omega, by omega, by rw [Int.toNat_natCast, lt]; exact r⟩) (Nat.le_trans lp (by decide)) List.length_replicate.symm (fun _ _ _ _ _ h _ => h) (fun _ _ _ _ _ _ _ h => h) ?_ ?_
    · intro D i b H2 rs Kc hi hb s2 hD kc
      have hp := List.getElem?_eq_getElem hi
      generalize ps[i] = p at hp
      obtain ⟨v1, e1, u1, du, rfl, hu⟩ := paired_back h3 hp
      obtain ⟨v2, e2, u2, rfl, hu2⟩ := paired_back t2 hp
      have eb : b = true := by
        have := List.mem_of_getElem? hb
        rw [List.mem_replicate] at this
        exact this.2
      subst eb
      have i0 : (0 : Int) + (i : Int) = ((i : Nat) : Int) := by omega
      refine ⟨_, rfl, a, CP, dx, _, V.ref t, rfl, s2 _ _ h1, L.c, L.nP, rfl, _, rfl, t, xs, _, _, rfl, rfl, SqT.of (s2 _ _ h2), by rw [i0]; exact atI_nat e1, _, rfl, _, rfl, l, ts, _, _, rfl, rfl, SqL.of (s2 _ _ t1), by rw [i0]; exact atI_nat e2, ?_⟩
      refine ⟨u1, du, u2, p, p, rfl, s2 _ _ hu, s2 _ _ hu2, ?_⟩
      rw [decide_eq_true rfl]
      exact kc _ _ (fun _ _ e => e) rfl
    · intro D ws H5 nD s5 hD pw
      have ew : ws = (List.replicate ps.length true).map V.bl := by
        exact bools6 pw
      subst ew
      refine ⟨D, _, rfl, SqL.of hD, ?_⟩
      have : (List.replicate ps.length true).all id = true := by rw [List.all_eq_true]; intro b hb; rw [List.mem_replicate] at hb; rw [hb.2]; rfl
      rw [this]
      exact k H5 s5
theorem scPairIs : FnScope ["_law_told_here", "_law_quotient", "_law_rest"] ["_law_told_here", "_law_quotient", "_law_rest"] (defScope sPairIs) := ⟨rfl, rfl, rfl, by decide +kernel, rfl, by decide +kernel, by decide +kernel⟩
theorem ok_pairIs {f : Addr} {fd : FuncData} (F : Fun K "_law_pair_is" "_law_pair_is" sPairIs f fd) (B : TxtR mg) (bt : mg "tuple" = none) (hI : Dfn P w K mg base CX0 3 "_law_poly_is" ["_law_told_here", "_law_due"] (spPolyIs C CP CM)) :
    FnOk P w K mg base CX0 4 f fd ["_law_told_here", "_law_quotient", "_law_rest"] (spPairIs C CP CM) := by
  refine F.ok scPairIs (fun vs H Q E h => ?_) (fun cdv A outer s H vs Q E hr h => ?_)
  · obtain ⟨t, a, b, l, m, ps, qs, rfl, _⟩ := h
    rfl
  · obtain ⟨t, a, b, l, m, ps, qs, rfl, ht, ha, hl, hb, hm, lp, lq, k⟩ := h
    have nd := scPairIs.nd
    refine ⟨_, pss_cons (ps_if (PW.pt (pw_or (pt_not (pt_val (pe_callB call_isi (by rfl) B.isi (by decide +kernel) (pa_cons (pv 0) (pa_cons (pe_bltn (v := .ty "tuple") (u := .type "tuple") (by rfl) bt (by decide +kernel) rfl) pa_nil))))) (pw_or1 (pt_cmpR op_ne (pe_callB call_len_seq (by rfl) B.len PySem.boot_len (pa_cons (pv 0) pa_nil)) pe_int (nomark _))))) (pss_one (ps_ret pe_bl)) pss_nil)
      (pss_one (ps_ret (pe_and (dc hI hr (by decide) (pa_cons (pe_ix ix_tup (pv 0) pe_int (fun _ _ => rfl)) (pa_cons (pv 1) pa_nil))) (pe_one (dc hI hr (by decide) (pa_cons (pe_ix ix_tup (pv 0) pe_int (fun _ _ => rfl)) (pa_cons (pv 2) pa_nil))))))), ?_⟩
    refine ⟨_, rfl, _, .ty "tuple", .type "tuple", .type "tuple", true, rfl, .ty _, .base (.tup ht), kit_ty (by decide +kernel), true, rfl, ?_⟩
    refine ⟨_, rfl, t, _, rfl, .inr (SqT.of ht), rfl, _, rfl, ?_⟩
    refine ite2 (fun y => ?_) (fun _ => ?_)
    · exfalso
      simp at y
    refine ⟨_, rfl, t, _, _, _, rfl, rfl, SqT.of ht, rfl, _, rfl, a, l, ps, rfl, ha, hl, lp, fun H1 s1 => ?_⟩
    refine ⟨true, rfl, ?_⟩
    exact ⟨_, rfl, t, _, _, _, rfl, rfl, SqT.of (s1 _ _ ht), rfl, _, rfl, b, m, qs, rfl, hb.same s1, hm.same s1, lq, fun H2 s2 => k H2 (s1.trans s2)⟩
end
end K03
end
section
set_option maxHeartbeats 8000000
set_option exponentiation.threshold 100000
namespace K03
open PySem PySem.Spec PyProof.Rows L2 LamX NdefX L3 PolyM
abbrev sOneR : Stmt := top 71
theorem FewD.pb {p : Int × Int} (h : FewD p) : PB 2520 (10 ^ 14) p := ⟨h.l, h.b.fit h.l (by decide) (by decide +kernel), h.b⟩
theorem few_c {c : Int × Int} (e : c = (-7, 3)) : Low c ∧ Fit c ∧ Bd 3 7 c := by
  subst e
  exact ⟨⟨by decide, by decide⟩, ⟨by decide +kernel, by decide, by decide +kernel⟩, ⟨by decide, by decide⟩⟩
/-- the bounds of what is made of drawn polys -/
theorem bd_mul {ps qs rs : List (Int × Int)} (h : ∀ r ∈ rs, Bd (2520 * 2520) (60 * (10 ^ 14 * 10 ^ 14)) r) (ip : IsP rs) : ∀ r ∈ rs, Low r ∧ Fit r := fun r hr => ⟨ip.low r hr, (h r hr).fit (ip.low r hr) (by decide) (by decide +kernel)⟩
theorem bd_getD {M R : Nat} {ps : List (Int × Int)} (h : ∀ p ∈ ps, Bd M R p) (k : Nat) : Bd M R (ps.getD k (0, 1)) := by
  rw [List.getD_eq_getElem?_getD]
  by_cases c : k < ps.length
  · rw [List.getElem?_eq_getElem c]
    exact h _ (List.getElem_mem c)
  · rw [List.getElem?_eq_none (by omega)]
    exact Bd.zero
theorem low_getD {ps : List (Int × Int)} (h : ∀ p ∈ ps, Low p) (k : Nat) : Low (ps.getD k (0, 1)) := by
  rw [List.getD_eq_getElem?_getD]
  by_cases c : k < ps.length
  · rw [List.getElem?_eq_getElem c]
    exact h _ (List.getElem_mem c)
  · rw [List.getElem?_eq_none (by omega)]
    exact low01
theorem bd_sum {M R S : Nat} {ps qs rs : List (Int × Int)} (lp : ∀ p ∈ ps, Low p) (lq : ∀ p ∈ qs, Low p) (hp : ∀ p ∈ ps, Bd M R p) (hq : ∀ p ∈ qs, Bd M S p) (h : ∀ r ∈ rs, ∃ k, r = padd (ps.getD k (0, 1)) (qs.getD k (0, 1))) : ∀ r ∈ rs, Bd M (R + S) r := fun r hr => by
  obtain ⟨k, rfl⟩ := h r hr
  exact Bd.add (low_getD lp k) (low_getD lq k) (bd_getD hp k) (bd_getD hq k)
theorem fits {M R : Nat} {ps : List (Int × Int)} (l : ∀ p ∈ ps, Low p) (h : ∀ p ∈ ps, Bd M R p) (M0 : 0 < M) (big : (R + 1) * M < 2 ^ 4000) : ∀ p ∈ ps, Low p ∧ Fit p := fun p hp => ⟨l p hp, (h p hp).fit (l p hp) M0 big⟩
theorem conv_one {c : Int × Int} {b : Nat → _root_.Rat} (k : Nat) : conv (cf [c]) b k = val c * b k := by
  have e : ∀ i, cf [c] i = if i = 0 then val c else 0 := fun i => by
    by_cases h : i = 0
    · subst h
      rw [if_pos rfl]
      rfl
    · rw [if_neg h]
      exact cf_out (by show 1 ≤ i; omega)
  rw [conv_congr e (fun _ => rfl), conv_at, if_pos (Nat.zero_le _), Nat.sub_zero]
theorem trim_ex (ps : List (Int × Int)) : ∃ m, TrimAt ps m := by
  have go : ∀ n, n ≤ ps.length → (∀ k p, n ≤ k → ps[k]? = some p → p.1 = 0) → ∃ m, TrimAt ps m := by
    intro n
    induction n with
    | zero => exact fun h off => ⟨0, h, off, fun p z => absurd z (Nat.lt_irrefl _)⟩
    | succ n ih =>
      intro h off
      have e := List.getElem?_eq_getElem (show n < ps.length by omega)
      by_cases c : ps[n].1 = 0
      · refine ih (by omega) fun k p hk hp => ?_
        by_cases d : k = n
        · subst d
          rw [e] at hp
          cases hp
          exact c
        · exact off k p (by omega) hp
      · refine ⟨n + 1, h, off, fun p _ hp => ?_⟩
        rw [Nat.add_sub_cancel, e] at hp
        cases hp
        exact c
  exact go ps.length (Nat.le_refl _) fun k p hk hp => by rw [List.getElem?_eq_none hk] at hp; cases hp
def spRight : Sp := fun vs H Q _ => ∃ (d c : Addr) (s r : Int) (cells : List Int), vs = [.ref d] ∧ PenAt H d c s r cells ∧ 0 ≤ s ∧ s + 2000 ≤ 100000 ∧ cells.length ≤ 63 ∧
  ∀ (s' r' : Int) (H' : Hp), 0 ≤ s' → s' ≤ s + 1000 → PenAt H' d c s' r' cells → SameBut d H H' → Q (.bl true) H'
/-- what the laws of polys lean on -/
structure PolL (P : Program) (w : World) (K : PySem.W.Frag) (mg : Str → Option Value) (base : Heap) (C CP CM cB cN : Addr) (fD : Addr) (fdD : FuncData) : Prop where
  div : Dfn P w K mg base CX0 5 "_law_divisor" ["_law_pen_here", "_law_degree"] spDivL
  draw : Dfn P w K mg base CX0 1 "_law_draw" ["_law_pen_here", "_law_many"] spDraw
  some : Dfn P w K mg base CX0 4 "_law_some" ["_law_pen_here", "_law_most"] spSomL
  few : Dfn P w K mg base CX0 3 "_law_few" ["_law_pen_here"] spFew
  trim : Dfn P w K mg base CX0 1 "_law_trim" ["_law_parts"] spTrim
  add : Dfn P w K mg base CX0 4 "_law_add" ["_law_one", "_law_other"] spAddL
  mul : Dfn P w K mg base CX0 4 "_law_mul" ["_law_one", "_law_other"] spMulL
  scal : Dfn P w K mg base CX0 4 "_law_scaled" ["_law_parts", "_law_factor"] spScal
  poly : Dfn P w K mg base CX0 10 "_law_poly" ["_law_pen_here", "_law_parts"] (spPolyL C CP CM)
  is : Dfn P w K mg base CX0 3 "_law_poly_is" ["_law_told_here", "_law_due"] (spPolyIs C CP CM)
  pair : Dfn P w K mg base CX0 4 "_law_pair_is" ["_law_told_here", "_law_quotient", "_law_rest"] (spPairIs C CP CM)
  c : Cls K CP
  dm : Meth K CP "divided" fD
  df : FnOk P w K mg base (L2.CX P w) 12 fD fdD ["self", "other"] (spDivd K C CP CM cB cN)
  db : Binds K fdD ["self", "other"] []
section
variable {P : Program} {w : World} {K : PySem.W.Frag} {mg : Str → Option Value} {base : Heap} {cB cN C fI CP CM fP fM fD : Addr} {fdD : FuncData}
theorem scOneR : FnScope ["_law_pen_here", "_law_below", "_law_quotient", "_law_rest", "_law_whole", "_law_first", "_law_second", "_law_more", "_law_k"] ["_law_pen_here"] (defScope sOneR) := ⟨rfl, rfl, rfl, by decide +kernel, rfl, by decide +kernel, by decide +kernel⟩
theorem ok_oneR {f : Addr} {fd : FuncData} (F : Fun K "_law_one_right" "_law_one_right" sOneR f fd) (B : TxtR mg) (L : PolL P w K mg base C CP CM cB cN fD fdD) : FnOk P w K mg base CX0 13 f fd ["_law_pen_here"] spRight := by
  refine F.ok scOneR (fun vs H Q E h => ?_) (fun cdv A outer s H vs Q E hr h => ?_)
  · obtain ⟨d, c, s, r, cells, rfl, _⟩ := h
    rfl
  · obtain ⟨d, c, st, r, cells, rfl, pn, h0, h1, hl, k⟩ := h
    have nd := scOneR.nd
    have hr12 : Room 12 _ := hr
    refine ⟨_, pss_cons (ps_set (i := 1) nd rfl (Or.inl rfl) (dc L.div hr (by decide) (pa_cons (pv 0) (pa_cons (dc L.draw hr (by decide) (pa_cons (pv 0) (pa_cons pe_int pa_nil))) pa_nil))))
      (pss_cons (ps_set (i := 2) nd rfl (Or.inl rfl) (dc L.some hr (by decide) (pa_cons (pv 0) (pa_cons pe_int pa_nil))))
      (pss_cons (ps_set (i := 3) nd rfl (Or.inl rfl) (dc L.trim hr (by decide) (pa_cons (pe_lc (own := [("_law_k", 8)]) (g := gName 8) (tt := tYes) rfl nd (pi_range1 (by rfl) B.range (pa_cons (dc L.draw hr (by decide) (pa_cons (pv 0) (pa_cons (pe_callB call_len_seq (by rfl) B.len PySem.boot_len (pa_cons (pv 1) pa_nil)) pa_nil))) pa_nil)) (blkOk_by (N := ["_law_pen_here", "_law_below", "_law_quotient", "_law_rest", "_law_whole", "_law_first", "_law_second", "_law_more", "_law_k"]) (sc := defScope sOneR) (by decide +kernel)) (fun _ _ _ _ _ => pg_name (i := 8) nd rfl (Or.inl rfl)) (fun _ _ _ _ _ => pts_nil) (fun _ _ _ _ _ => by exact (dc L.few hr (by decide) (pa_cons (pv 0) pa_nil)))) pa_nil)))
      (pss_cons (ps_set (i := 4) nd rfl (Or.inl rfl) (dc L.add hr (by decide) (pa_cons (dc L.mul hr (by decide) (pa_cons (pv 2) (pa_cons (pv 1) pa_nil))) (pa_cons (pv 3) pa_nil))))
      (pss_cons (ps_par (i := 5) (j := 6) (by rfl) nd rfl rfl (by decide) rfl rfl (pa_cons (dc L.poly hr (by decide) (pa_cons (pv 0) (pa_cons (pv 4) pa_nil))) (pa_cons (dc L.poly hr (by decide) (pa_cons (pv 0) (pa_cons (pv 1) pa_nil))) pa_nil)) (by rfl))
      (pss_cons (ps_if (pt_not (pt_val (dc L.pair hr (by decide) (pa_cons (pe_meth (E := E0) (pv 5) L.c L.dm L.df hr12 L.db .nil passL (pa_cons (pv 6) pa_nil)) (pa_cons (pv 2) (pa_cons (pv 3) pa_nil)))))) (pss_one (ps_ret pe_bl)) pss_nil)
      (pss_cons (ps_set (i := 7) nd rfl (Or.inl rfl) (dc L.add hr (by decide) (pa_cons (pv 4) (pa_cons (dc L.scal hr (by decide) (pa_cons (pv 1) (pa_cons (pe_tup (pa_cons (pe_un un_neg pe_int) (pa_cons pe_int pa_nil))) pa_nil))) pa_nil))))
      (pss_cons (ps_if (pt_not (pt_val (dc L.pair hr (by decide) (pa_cons (pe_meth (E := E0) (dc L.poly hr (by decide) (pa_cons (pv 0) (pa_cons (pv 7) pa_nil))) L.c L.dm L.df hr12 L.db .nil passL (pa_cons (pv 6) pa_nil)) (pa_cons (dc L.add hr (by decide) (pa_cons (pv 2) (pa_cons (pe_lst (pa_cons (pe_tup (pa_cons (pe_un un_neg pe_int) (pa_cons pe_int pa_nil))) pa_nil)) pa_nil))) (pa_cons (pv 3) pa_nil)))))) (pss_one (ps_ret pe_bl)) pss_nil)
      (pss_one (ps_ret (pe_and (dc L.is hr (by decide) (pa_cons (pv 5) (pa_cons (pv 4) pa_nil))) (pe_one (dc L.is hr (by decide) (pa_cons (pv 6) (pa_cons (pv 1) pa_nil)))))))))))))), ?_⟩
    -- the divisor
    refine seq_to (fun σ' G => ∃ (bl : Addr) (bs : List (Int × Int)) (s1 r1 : Int), σ' = [some (.ref d), some (.ref bl), none, none, none, none, none, none, none] ∧ IsP bs ∧ (∀ p ∈ bs, FewD p) ∧ bs ≠ [] ∧ bs.length ≤ 10 ∧ 0 ≤ s1 ∧ s1 ≤ st + 111 ∧ PenAt G d c s1 r1 cells ∧ SameBut d H G ∧ PPs G bl bs) (fun kk hK => ?_) ?_
    · refine ⟨_, rfl, _, rfl, d, c, st, r, _, cells, rfl, pn, h0, by omega, hl, by decide, by decide, fun n s1 r1 H1 a1 a2 a3 a4 a5 a6 => ?_⟩
      refine ⟨d, c, s1, r1, cells, n.toNat, by rw [show ((n.toNat : Nat) : Int) = n by omega]; rfl, a5, a3, by omega, hl, by omega, fun l ps s2 r2 H2 ip fw le b1 b2 b3 b4 hp => ?_⟩
      exact hK _ _ ⟨l, ps, s2, r2, rfl, ip, fw, fun z => by rw [z] at le; simp at le, by omega, b1, by omega, b3, a6.tr3 b4, hp⟩
    rintro σ' G1 ⟨bl, bs, s1, r1, rfl, ibs, fbs, nbs, lbs, p1, q1, pn1, sb1, hbl1⟩
    -- the quotient
    refine seq_to (fun σ' G => ∃ (ql : Addr) (qs : List (Int × Int)) (s2 r2 : Int), σ' = [some (.ref d), some (.ref bl), some (.ref ql), none, none, none, none, none, none] ∧ IsP qs ∧ (∀ p ∈ qs, FewD p) ∧ qs.length ≤ 10 ∧ 0 ≤ s2 ∧ s2 ≤ st + 221 ∧ PenAt G d c s2 r2 cells ∧ SameBut d G1 G ∧ PPs G ql qs) (fun kk hK => ?_) ?_
    · refine ⟨_, rfl, d, c, s1, r1, cells, 10, rfl, pn1, p1, by omega, hl, by decide, fun l ps s2 r2 H2 _ ip fw le b1 b2 b3 b4 hp => ?_⟩
      exact hK _ _ ⟨l, ps, s2, r2, rfl, ip, fw, le, b1, by omega, b3, b4, hp⟩
    rintro σ' G2 ⟨ql, qs, s2, r2, rfl, iqs, fqs, lqs, p2, q2, pn2, sb2, hql2⟩
    have hbl2 := hbl1.but pn1.dc sb2
    -- the rest
    refine seq_to (fun σ' G => ∃ (rl : Addr) (rs : List (Int × Int)) (s3 r3 : Int), σ' = [some (.ref d), some (.ref bl), some (.ref ql), some (.ref rl), none, none, none, none, none] ∧ IsP rs ∧ (∀ p ∈ rs, FewD p) ∧ rs.length < bs.length ∧ 0 ≤ s3 ∧ s3 ≤ st + 280 ∧ PenAt G d c s3 r3 cells ∧ SameBut d G2 G ∧ PPs G rl rs) (fun kk hK => ?_) ?_
    · dsimp only [tAsg, tCall, tCons, tNil, List.map]
      obtain ⟨ts, t1, t2⟩ := id hbl2
      have lt := paired_len t2
      have lb0 := List.length_pos_iff.mpr nbs
      refine lc_penT (e := 5) (d := d) (c := c) (cells := cells) (Gd := fun _ (p : Int × Int) => FewD p) (Rr := PV) (fun n H1 s1 r1 => n < bs.length ∧ 0 ≤ s1 ∧ s1 ≤ s2 + 1 ∧ PenAt H1 d c s1 r1 cells ∧ SameBut d G2 H1) (fun R k => ?_) ?_ (fun _ _ _ _ _ h hd s => h.but hd s) (fun _ _ _ _ _ _ hD h => h.grow hD) ?_ ?_
      · refine ⟨_, rfl, _, rfl, bl, ts, rfl, .inl (SqL.of t1), d, c, s2, r2, _, cells, rfl, pn2, p2, by omega, hl, by omega, by omega, fun n s1 r1 H1 a1 a2 a3 a4 a5 a6 => ?_⟩
        exact ⟨n, rfl, by omega, by omega, k n.toNat H1 s1 r1 ⟨by omega, a3, a4, a5, a6⟩⟩
      · rintro n H1 s1 r1 ⟨a1, a2, a3, a4, a5⟩
        exact ⟨a4, a2, Nat.le_trans (show n ≤ 20 by omega) (by decide)⟩
      · rintro n H1 s1 r1 ⟨a1, a2, a3, a4, a5⟩ i H2 s' r' Kc hi p2 s0 s1' sb kc
        exact ⟨_, rfl, d, c, s', r', cells, rfl, p2, s0, by omega, hl, fun t q s2 r2 H3 fq _ b1 b2 b3 b4 b5 => kc _ q s2 r2 H3 fq b1 (by omega) b3 b4 ⟨t, rfl, b5⟩⟩
      · rintro n H1 s1 r1 ⟨a1, a2, a3, a4, a5⟩ D bs' ts' s' r' H' lb all s0 s1' p5 sb hD pr
        have al : ∀ p ∈ bs', FewD p := fun p hp => by
          obtain ⟨i, hi⟩ := List.mem_iff_getElem?.mp hp
          exact all i p hi
        refine ⟨D, bs', rfl, ⟨ts', hD, pr⟩, by omega, fun p hp => (al p hp).l, fun qs tr l H6 nl s6 hq => ?_⟩
        exact hK _ _ ⟨l, qs, s', r', rfl, tr.p, fun q hq => al q (tr.i q hq), by have := tr.l; omega, s0, by omega, p5.to3 s6, (a5.tr3 sb).tr3 (SameBut.by3 s6), hq⟩
    rintro σ' G3 ⟨rl, rs, s3, r3, rfl, irs, frs, lrs, p3, q3, pn3, sb3, hrl3⟩
    have hbl3 := hbl2.but pn2.dc sb3
    have hql3 := hql2.but pn2.dc sb3
    -- the whole
    have PBb : ∀ p ∈ bs, PB 2520 (10 ^ 14) p := fun p hp => (fbs p hp).pb
    have PBq : ∀ p ∈ qs, PB 2520 (10 ^ 14) p := fun p hp => (fqs p hp).pb
    have LFr : ∀ p ∈ rs, Low p ∧ Fit p := fun p hp => ⟨irs.low p hp, (frs p hp).pb.f⟩
    refine seq_to (fun σ' G => ∃ (wl : Addr) (ws : List (Int × Int)), σ' = [some (.ref d), some (.ref bl), some (.ref ql), some (.ref rl), some (.ref wl), none, none, none, none] ∧ IsP ws ∧ (∀ k, cf ws k = conv (cf qs) (cf bs) k + cf rs k) ∧ ws.length ≤ 20 ∧ (∀ p ∈ ws, Bd (2520 * 2520) (60 * (10 ^ 14 * 10 ^ 14) + 10 ^ 14) p) ∧ Same G3 G ∧ PPs G wl ws) (fun kk hK => ?_) ?_
    · refine ⟨_, rfl, _, rfl, ql, bl, qs, bs, 2520, 10 ^ 14, 2520, 10 ^ 14, rfl, hql3, hbl3, by omega, by omega, PBq, PBb, by decide, by decide, by decide +kernel, fun ms im em lm bm ml H4 nm s4 hml => ?_⟩
      refine ⟨_, rfl, ml, rl, ms, rs, rfl, hml, hrl3.same s4, by omega, by omega, bd_mul (ps := qs) (qs := bs) bm im, LFr, fun ws iw ew lw mw wl H5 nw s5 hwl => ?_⟩
      exact hK _ _ ⟨wl, ws, rfl, iw, fun k => by rw [ew, em], by omega, bd_sum im.low irs.low bm (fun p hp => (frs p hp).b.mono (by decide) (Nat.le_refl _)) mw, s4.trans s5, hwl⟩
    rintro σ' G4 ⟨wl, ws, rfl, iws, ews, lws, bws, s4, hwl4⟩
    have pn4 := pn3.to3 s4
    have hbl4 := hbl3.same s4
    have hql4 := hql3.same s4
    have hrl4 := hrl3.same s4
    have fws := fits iws.low bws (by decide) (by decide +kernel)
    -- the polys
    refine seq_to (fun σ' G => ∃ (a b : Addr) (s5 r5 : Int), σ' = [some (.ref d), some (.ref bl), some (.ref ql), some (.ref rl), some (.ref wl), some (.ref a), some (.ref b), none, none] ∧ 0 ≤ s5 ∧ s5 ≤ st + 420 ∧ PenAt G d c s5 r5 cells ∧ SameBut d G4 G ∧ PolyAt C CP CM G a ws ∧ PolyAt C CP CM G b bs) (fun kk hK => ?_) ?_
    · refine ⟨_, rfl, _, rfl, d, c, wl, s3, r3, cells, ws, rfl, pn4, p3, by omega, hl, hwl4, iws, fun p hp => (fws p hp).2, by omega, fun a s5 r5 G5 a1 a2 a3 a4 ha => ?_⟩
      refine ⟨_, rfl, _, rfl, d, c, bl, s5, r5, cells, bs, rfl, a3, a1, by omega, hl, hbl4.but pn4.dc a4, ibs, fun p hp => (PBb p hp).f, by omega, fun b s6 r6 G6 b1 b2 b3 b4 hb => ?_⟩
      exact ⟨_, _, rfl, hK _ _ ⟨a, b, s6, r6, rfl, b1, by omega, b3, a4.tr3 b4, ha.but a3.dc b4, hb⟩⟩
    rintro σ' G5 ⟨a, b, s5, r5, rfl, p5, q5, pn5, sb5, ha5, hb5⟩
    have hbl5 := hbl4.but pn4.dc sb5
    have hql5 := hql4.but pn4.dc sb5
    have hrl5 := hrl4.but pn4.dc sb5
    have hwl5 := hwl4.but pn4.dc sb5
    have insOf : ∀ {G : Hp} {a : Addr} {ps : List (Int × Int)}, PolyAt C CP CM G a ps → ∃ (dx : Addr) (fs : List (Str × V)), G a = some (.ins CP dx fs) ∧ fs.lookup ("divided" : Str) = none := fun h => by
      obtain ⟨dx, t, xs, mk, dm, tb, h1, _⟩ := h
      exact ⟨dx, _, h1, rfl⟩
    have D1 : Divs ws bs qs rs (2520 * 2520) (60 * (10 ^ 14 * 10 ^ 14) + 10 ^ 14) 2520 (10 ^ 14) := ⟨iws, ibs, iqs, irs, nbs, lrs, ews, ⟨by decide, bws⟩, ⟨by decide, fun p hp => (fbs p hp).b⟩, by decide +kernel, by decide +kernel, by omega, by omega⟩
    refine seq_to (fun σ' G => σ' = [some (.ref d), some (.ref bl), some (.ref ql), some (.ref rl), some (.ref wl), some (.ref a), some (.ref b), none, none] ∧ Same G5 G) (fun kk hK => ?_) ?_
    · obtain ⟨da, fa, ia, la⟩ := insOf ha5
      refine ⟨_, rfl, a, da, fa, rfl, ia, la, _, rfl, a, .ref b, ws, rfl, ha5, .inr ⟨b, rfl, .inr ⟨bs, qs, rs, _, _, _, _, hb5, D1, fun t x y G6 nt s6 ht hx hy => ?_⟩⟩⟩
      refine ⟨_, rfl, _, rfl, t, x, y, ql, rl, qs, rs, rfl, ht, hx, hql5.same s6, hy, hrl5.same s6, by omega, by omega, fun G7 s7 => ?_⟩
      exact ⟨true, rfl, hK _ _ ⟨rfl, s6.trans s7⟩⟩
    rintro σ' G6 ⟨rfl, s6⟩
    have pn6 := pn5.to3 s6
    have hbl6 := hbl5.same s6
    have hql6 := hql5.same s6
    have hrl6 := hrl5.same s6
    have hwl6 := hwl5.same s6
    have ha6 := ha5.same s6
    have hb6 := hb5.same s6
    obtain ⟨lc0, fc0, bc0⟩ := few_c (c := (-7, 3)) rfl
    -- more
    refine seq_to (fun σ' G => ∃ (ml : Addr) (ms : List (Int × Int)), σ' = [some (.ref d), some (.ref bl), some (.ref ql), some (.ref rl), some (.ref wl), some (.ref a), some (.ref b), some (.ref ml), none] ∧ IsP ms ∧ (∀ k, cf ms k = cf ws k + cf bs k * val (-7, 3)) ∧ ms.length ≤ 20 ∧ (∀ p ∈ ms, Bd (2520 * 2520 * 3) (60 * (10 ^ 14 * 10 ^ 14) + 10 ^ 14 + 10 ^ 14 * 7) p) ∧ Same G6 G ∧ PPs G ml ms) (fun kk hK => ?_) ?_
    · refine ⟨_, rfl, _, rfl, _, rfl, by show 2 ≤ sizeLine; decide, fun t nt => ?_⟩
      have s7 := Same.new (o := .tup [.int (-7), .int 3]) (fun _ _ e => e : Same G6 G6) nt
      have ht : upd G6 t (.tup [.int (-7), .int 3]) t = some (.tup [.int (-7), .int 3]) := upd_same
      generalize upd G6 t (.tup [.int (-7), .int 3]) = G7 at s7 ht ⊢
      refine ⟨bl, t, bs, (-7, 3), rfl, hbl6.same s7, ht, by omega, fun p hp => ⟨ibs.low p hp, (PBb p hp).f⟩, lc0, fc0, fun cs ic ec lc mc cl G8 nc s8 hcl => ?_⟩
      have bcs : ∀ p ∈ cs, Bd (2520 * 3) (10 ^ 14 * 7) p := fun p hp => by
        obtain ⟨q, hq, rfl⟩ := mc p hp
        exact Bd.mul (ibs.low q hq) lc0 (fbs q hq).b bc0
      refine ⟨wl, cl, ws, cs, rfl, (hwl6.same s7).same s8, hcl, by omega, by omega, fws, fits ic.low bcs (by decide) (by decide +kernel), fun ms im em lm mm ml G9 nm s9 hml => ?_⟩
      exact hK _ _ ⟨ml, ms, rfl, im, fun k => by rw [em, ec], by omega, bd_sum iws.low ic.low (fun p hp => (bws p hp).mono (by decide) (Nat.le_refl _)) (fun p hp => (bcs p hp).mono (by decide) (Nat.le_refl _)) mm, s7.trans (s8.trans s9), hml⟩
    rintro σ' G7 ⟨ml, ms, rfl, ims, ems, lms, bms, s7, hml7⟩
    have pn7 := pn6.to3 s7
    have hbl7 := hbl6.same s7
    have hql7 := hql6.same s7
    have hrl7 := hrl6.same s7
    have hwl7 := hwl6.same s7
    have ha7 := ha6.same s7
    have hb7 := hb6.same s7
    have fms := fits ims.low bms (by decide) (by decide +kernel)
    have fqs' : ∀ p ∈ qs, Low p ∧ Fit p := fun p hp => ⟨iqs.low p hp, (PBq p hp).f⟩
    have fone : ∀ p ∈ [((-7, 3) : Int × Int)], Low p ∧ Fit p := fun p hp => by
      cases List.mem_singleton.mp hp
      exact ⟨lc0, fc0⟩
    -- the quotient that is due
    obtain ⟨m, tm⟩ := trim_ex (sumL qs [(-7, 3)])
    have lowS : ∀ p ∈ sumL qs [(-7, 3)], Low p := fun p hp => by
      unfold sumL at hp
      obtain ⟨i, _, rfl⟩ := List.mem_map.mp hp
      exact low_padd (getD_low fqs' i).1 (getD_low fone i).1
    have iq2 := tm.isP lowS
    have eq2 : ∀ k, cf ((sumL qs [(-7, 3)]).take m) k = cf qs k + cf [(-7, 3)] k := fun k => by rw [tm.cf lowS, cf_sum fqs' fone]
    have lq2 : ((sumL qs [(-7, 3)]).take m).length ≤ 11 := by
      rw [List.length_take]
      have : (sumL qs [(-7, 3)]).length = max qs.length 1 := by unfold sumL; rw [List.length_map, List.length_range]; rfl
      omega
    generalize (sumL qs [(-7, 3)]).take m = q2 at iq2 eq2 lq2
    have D2 : Divs ms bs q2 rs (2520 * 2520 * 3) (60 * (10 ^ 14 * 10 ^ 14) + 10 ^ 14 + 10 ^ 14 * 7) 2520 (10 ^ 14) := ⟨ims, ibs, iq2, irs, nbs, lrs, fun k => by
      rw [ems, ews, conv_congr (a' := fun i => cf qs i + cf [(-7, 3)] i) (b' := cf bs) eq2 (fun _ => rfl), conv_add, conv_one]
      grind, ⟨by decide, bms⟩, ⟨by decide, fun p hp => (fbs p hp).b⟩, by decide +kernel, by decide +kernel, by omega, by omega⟩
    refine seq_to (fun σ' G => ∃ (s8 r8 : Int), σ' = [some (.ref d), some (.ref bl), some (.ref ql), some (.ref rl), some (.ref wl), some (.ref a), some (.ref b), some (.ref ml), none] ∧ 0 ≤ s8 ∧ s8 ≤ st + 490 ∧ PenAt G d c s8 r8 cells ∧ SameBut d G7 G) (fun kk hK => ?_) ?_
    · refine ⟨_, rfl, _, rfl, d, c, ml, s5, r5, cells, ms, rfl, pn7, p5, by omega, hl, hml7, ims, fun p hp => (fms p hp).2, by omega, fun e s8 r8 G8 a1 a2 a3 a4 he => ?_⟩
      obtain ⟨de, fe, ie, le⟩ := insOf he
      refine ⟨e, de, fe, rfl, ie, le, _, rfl, e, .ref b, ms, rfl, he, .inr ⟨b, rfl, .inr ⟨bs, q2, rs, _, _, _, _, hb7.but pn7.dc a4, D2, fun t x y G9 nt s9 ht hx hy => ?_⟩⟩⟩
      refine ⟨_, rfl, _, rfl, by show 2 ≤ sizeLine; decide, fun t2 n2 => ?_⟩
      have z1 := Same.new (o := .tup [.int (-7), .int 3]) (fun _ _ e => e : Same G9 G9) n2
      have ht2 : upd G9 t2 (.tup [.int (-7), .int 3]) t2 = some (.tup [.int (-7), .int 3]) := upd_same
      generalize upd G9 t2 (.tup [.int (-7), .int 3]) = G10 at z1 ht2 ⊢
      refine ⟨by show 1 ≤ sizeLine; decide, fun l3 n3 => ?_⟩
      have z2 := Same.new (o := .lst [.ref t2]) (fun _ _ e => e : Same G10 G10) n3
      have hl3 : upd G10 l3 (.lst [.ref t2]) l3 = some (.lst [.ref t2]) := upd_same
      generalize upd G10 l3 (.lst [.ref t2]) = G11 at z2 hl3 ⊢
      have z := s9.trans (z1.trans z2)
      refine ⟨ql, l3, qs, [(-7, 3)], rfl, (hql7.but pn7.dc a4).same z, ⟨[.ref t2], hl3, .cons ⟨t2, rfl, z2 _ _ ht2⟩ .nil⟩, by omega, by show 1 ≤ 1000; decide, fqs', fone, fun u iu eu lu mu ul G12 nu s12 hul => ?_⟩
      have eu2 : u = q2 := isP_ext iu iq2 fun k => by rw [eu, eq2]
      subst eu2
      have z12 := (z1.trans z2).trans s12
      refine ⟨_, rfl, t, x, y, ul, rl, u, rs, rfl, z12 _ _ ht, hx.same z12, hul, hy.same z12, ((hrl7.but pn7.dc a4).same s9).same z12, by omega, by omega, fun G13 s13 => ?_⟩
      exact ⟨true, rfl, hK _ _ ⟨s8, r8, rfl, a1, by omega, a3.to3 (s9.trans (z12.trans s13)), a4.tr3 (SameBut.by3 (s9.trans (z12.trans s13)))⟩⟩
    rintro σ' G8 ⟨s8, r8, rfl, p8, q8, pn8, sb8⟩
    refine ⟨_, rfl, _, rfl, a, wl, ws, rfl, ha7.but pn7.dc sb8, hwl7.but pn7.dc sb8, by omega, fun G9 s9 => ?_⟩
    refine ⟨true, rfl, ?_⟩
    refine ⟨_, rfl, _, rfl, b, bl, bs, rfl, (hb7.but pn7.dc sb8).same s9, (hbl7.but pn7.dc sb8).same s9, by omega, fun G10 s10 => ?_⟩
    exact k s8 r8 G10 p8 (by omega) (pn8.to3 (s9.trans s10)) ((((((((sb1.tr3 sb2).tr3 sb3).tr3 (SameBut.by3 s4)).tr3 sb5).tr3 (SameBut.by3 s6)).tr3 (SameBut.by3 s7)).tr3 sb8).tr3 (SameBut.by3 (s9.trans s10)))
end
end K03
end
section
set_option maxHeartbeats 4000000
set_option exponentiation.threshold 100000
namespace K03
open PolyM
/-- what is left ahead of each digit -/
structure Chn (g : Nat) (bs : List (Int × Int)) (es ls : List (List (Int × Int))) : Prop where
  len : ls.length = es.length + 1
  first : ls[0]? = some []
  step : ∀ (j : Nat) (l e l' : List (Int × Int)), ls[j]? = some l → es[j]? = some e → ls[j + 1]? = some l' → ∀ k, cf l' k = conv (cf l) (cf bs) k + cf e k
  isP : ∀ (j : Nat) (l : List (Int × Int)), ls[j]? = some l → IsP l
  bd : ∀ (j : Nat) (l : List (Int × Int)), ls[j]? = some l → ∀ p ∈ l, Bd (2520 ^ j) (10 ^ (16 * j)) p
  ln : ∀ (j : Nat) (l : List (Int × Int)), ls[j]? = some l → l.length ≤ g * j
theorem Chn.nil {g : Nat} {bs : List (Int × Int)} : Chn g bs [] [[]] := by
  have one : ∀ (j : Nat) (l : List (Int × Int)), [([] : List (Int × Int))][j]? = some l → l = [] := fun j l h => by
    cases j with
    | zero => cases h; rfl
    | succ j => simp at h
  refine ⟨rfl, rfl, fun j l e l' _ h => by simp at h, fun j l h => ?_, fun j l h p hp => ?_, fun j l h => ?_⟩
  · rw [one j l h]; exact IsP.nil
  · rw [one j l h] at hp; exact (List.not_mem_nil hp).elim
  · rw [one j l h]; exact Nat.zero_le _
theorem Chn.more {g : Nat} {bs e l l' : List (Int × Int)} {es ls : List (List (Int × Int))} (c : Chn g bs es ls) (hl : ls[es.length]? = some l) (ip : IsP l') (eq : ∀ k, cf l' k = conv (cf l) (cf bs) k + cf e k)
    (bd : ∀ p ∈ l', Bd (2520 ^ (es.length + 1)) (10 ^ (16 * (es.length + 1))) p) (ln : l'.length ≤ g * (es.length + 1)) : Chn g bs (es ++ [e]) (ls ++ [l']) := by
  have old : ∀ {j : Nat} {x : List (Int × Int)}, (ls ++ [l'])[j]? = some x → (j < ls.length ∧ ls[j]? = some x) ∨ (j = es.length + 1 ∧ x = l') := fun {j x} h => by
    by_cases b : j < ls.length
    · rw [List.getElem?_append_left b] at h
      exact .inl ⟨b, h⟩
    · have h2 := (List.getElem?_eq_some_iff.mp h).1
      rw [List.length_append, List.length_singleton] at h2
      have hj : j = ls.length := by omega
      rw [List.getElem?_append_right (by omega), hj, Nat.sub_self] at h
      cases h
      exact .inr ⟨by rw [hj, c.len], rfl⟩
  refine ⟨by rw [List.length_append, List.length_append, c.len]; rfl, by rw [List.getElem?_append_left (by rw [c.len]; omega)]; exact c.first, fun j x y z hx hy hz => ?_, fun j x h => ?_, fun j x h => ?_, fun j x h => ?_⟩
  · rcases old hz with ⟨b, hz⟩ | ⟨b, rfl⟩
    · rw [List.getElem?_append_left (by omega)] at hx
      rw [List.getElem?_append_left (by rw [c.len] at b; omega)] at hy
      exact c.step j x y z hx hy hz
    · have b : j = es.length := by omega
      subst b
      rw [List.getElem?_append_left (by rw [c.len]; omega), hl] at hx
      rw [List.getElem?_append_right (Nat.le_refl _), Nat.sub_self] at hy
      cases hx
      cases hy
      exact eq
  · rcases old h with ⟨_, h⟩ | ⟨_, rfl⟩
    · exact c.isP j x h
    · exact ip
  · rcases old h with ⟨_, h⟩ | ⟨rfl, rfl⟩
    · exact c.bd j x h
    · exact bd
  · rcases old h with ⟨_, h⟩ | ⟨rfl, rfl⟩
    · exact c.ln j x h
    · exact ln
theorem sz_mul6 {j : Nat} (h : j < 7) : (60 * (10 ^ (16 * j) * 10 ^ 14) + 1) * (2520 ^ j * 2520) < 2 ^ 4000 := by
  have : ∀ j : Fin 7, (60 * (10 ^ (16 * j.val) * 10 ^ 14) + 1) * (2520 ^ j.val * 2520) < 2 ^ 4000 := by decide +kernel
  exact this ⟨j, h⟩
theorem sz_fit6 {j : Nat} (h : j < 7) : (10 ^ (16 * j) + 1) * 2520 ^ j < 2 ^ 2000 := by
  have : ∀ j : Fin 7, (10 ^ (16 * j.val) + 1) * 2520 ^ j.val < 2 ^ 2000 := by decide +kernel
  exact this ⟨j, h⟩
theorem sz_next6 {j : Nat} (h : j < 7) : 60 * (10 ^ (16 * j) * 10 ^ 14) + 10 ^ 14 ≤ 10 ^ (16 * (j + 1)) := by
  have : ∀ j : Fin 7, 60 * (10 ^ (16 * j.val) * 10 ^ 14) + 10 ^ 14 ≤ 10 ^ (16 * (j.val + 1)) := by decide +kernel
  exact this ⟨j, h⟩
end K03
end
section
set_option maxHeartbeats 8000000
set_option exponentiation.threshold 100000
namespace K03
open PySem PySem.Spec PyProof.Rows L2 LamX NdefX L3 PolyM
abbrev sDigR : Stmt := top 72
/-- a list of pairs as a value, not the list at D -/
def DPs (D : Addr) (H : Hp) (v : V) (ps : List (Int × Int)) : Prop := ∃ l, v = .ref l ∧ l ≠ D ∧ PPs H l ps
theorem DPs.same {D : Addr} {H H' : Hp} {v : V} {ps : List (Int × Int)} (h : DPs D H v ps) (s : Same H H') : DPs D H' v ps := by
  obtain ⟨l, e, n, h⟩ := h
  exact ⟨l, e, n, h.same s⟩
theorem DPs.but {D d : Addr} {H H' : Hp} {v : V} {ps : List (Int × Int)} {kv : List (Key × V)} (h : DPs D H v ps) (hd : H d = some (.dK kv)) (s : SameBut d H H') : DPs D H' v ps := by
  obtain ⟨l, e, n, h⟩ := h
  exact ⟨l, e, n, h.but hd s⟩
theorem DPs.grow {D : Addr} {H : Hp} {rs ys : List V} {v : V} {ps : List (Int × Int)} (hD : H D = some (.lst rs)) (h : DPs D H v ps) : DPs D (upd H D (.lst ys)) v ps := by
  obtain ⟨l, e, n, ts, h1, h2⟩ := h
  exact ⟨l, e, n, ts, by rw [upd_ne n]; exact h1, Paired.mapP h2 fun _ _ z => z.grow hD⟩
theorem paired_rev {α β : Type} {F : α → β → Prop} {l : List α} {m : List β} (p : Paired F l m) : Paired F l.reverse m.reverse := by
  induction p with
  | nil => exact .nil
  | cons q _ ih =>
    rw [List.reverse_cons, List.reverse_cons]
    exact ih.snoc q
section
variable {P : Program} {w : World} {K : PySem.W.Frag} {mg : Str → Option Value} {base : Heap} {cB cN C fI CP CM fP fM fD : Addr} {fdD : FuncData}
theorem scDigR : FnScope ["_law_pen_here", "_law_degree", "_law_below", "_law_digits", "_law_lefts", "_law_digit", "_law_second", "_law_left", "_law_k", "_law_pair"] ["_law_pen_here"] (defScope sDigR) := ⟨rfl, rfl, rfl, by decide +kernel, rfl, by decide +kernel, by decide +kernel⟩
theorem ok_digR {f : Addr} {fd : FuncData} (F : Fun K "_law_digits_right" "_law_digits_right" sDigR f fd) (B : TxtR mg) (L : PolL P w K mg base C CP CM cB cN fD fdD) : FnOk P w K mg base CX0 13 f fd ["_law_pen_here"] spRight := by
  refine F.ok scDigR (fun vs H Q E h => ?_) (fun cdv A outer s H vs Q E hr h => ?_)
  · obtain ⟨d, c, s, r, cells, rfl, _⟩ := h
    rfl
  · obtain ⟨d, c, st, r, cells, rfl, pn, h0, h1, hl, k⟩ := h
    have nd := scDigR.nd
    have hr12 : Room 12 _ := hr
    refine ⟨_, pss_cons (ps_set (i := 1) nd rfl (Or.inr rfl) (pe_op op_add pe_int (dc L.draw hr (by decide) (pa_cons (pv 0) (pa_cons pe_int pa_nil)))))
      (pss_cons (ps_set (i := 2) nd rfl (Or.inl rfl) (dc L.div hr (by decide) (pa_cons (pv 0) (pa_cons (pv 1) pa_nil))))
      (pss_cons (ps_setLc (i := 3) (own := [("_law_k", 8)]) (g := gName 8) (tt := tYes) rfl nd rfl rfl (sw_true rfl rfl rfl (by decide +kernel)) (pi_range1 (by rfl) B.range (pa_cons (pe_op op_add pe_int (dc L.draw hr (by decide) (pa_cons (pv 0) (pa_cons pe_int pa_nil)))) pa_nil)) (blkOk_by (N := ["_law_pen_here", "_law_degree", "_law_below", "_law_digits", "_law_lefts", "_law_digit", "_law_second", "_law_left", "_law_k", "_law_pair"]) (sc := defScope sDigR) (by decide +kernel)) (fun _ _ _ _ _ => pg_name (i := 8) nd rfl (Or.inl rfl)) (fun _ _ _ _ _ => pts_nil) (fun _ _ _ _ _ => by exact (dc L.some hr (by decide) (pa_cons (pv 0) (pa_cons (pv 1) pa_nil)))))
      (pss_cons (ps_set (i := 4) nd rfl (Or.inl rfl) (pe_lst (pa_cons (pe_lst pa_nil) pa_nil)))
      (pss_cons (ps_for PassesOwn.never rfl (pi_list (pe_revL (pv 3))) (pg_name (i := 5) nd rfl (Or.inl rfl))
        (pss_one (ps_expr (pe_bm PySem.F.plainAttrs_list PySem.F.slot_list_append PySem.F.type_list_append mt_append (pv 4) (pa_cons (dc L.add hr (by decide) (pa_cons (dc L.mul hr (by decide) (pa_cons (pe_ix ix_list (pv 4) (pe_un un_neg pe_int) (fun _ _ => rfl)) (pa_cons (pv 2) pa_nil))) (pa_cons (pv 5) pa_nil))) pa_nil)))))
      (pss_cons (ps_set (i := 6) nd rfl (Or.inl rfl) (dc L.poly hr (by decide) (pa_cons (pv 0) (pa_cons (pv 2) pa_nil))))
      (pss_cons (ps_set (i := 7) nd rfl (Or.inl rfl) (dc L.poly hr (by decide) (pa_cons (pv 0) (pa_cons (pe_ix ix_list (pv 4) (pe_un un_neg pe_int) (fun _ _ => rfl)) pa_nil))))
      (pss_cons (ps_for PassesOwn.never rfl (pi_range1 (by rfl) B.range (pa_cons (pe_callB call_len_seq (by rfl) B.len PySem.boot_len (pa_cons (pv 3) pa_nil)) pa_nil)) (pg_name (i := 8) nd rfl (Or.inl rfl))
        (pss_cons (ps_set (i := 9) nd rfl (Or.inl rfl) (pe_meth (E := E0) (pv 7) L.c L.dm L.df hr12 L.db .nil passL (pa_cons (pv 6) pa_nil)))
        (pss_cons (ps_if (pt_not (pt_val (dc L.pair hr (by decide) (pa_cons (pv 9) (pa_cons (pe_ix ix_list (pv 4) (pe_op op_sub (pe_op op_sub (pe_callB call_len_seq (by rfl) B.len PySem.boot_len (pa_cons (pv 3) pa_nil)) pe_int) (pv 8)) (fun _ _ => rfl)) (pa_cons (pe_ix ix_list (pv 3) (pv 8) (fun _ _ => rfl)) pa_nil)))))) (pss_one (ps_ret pe_bl)) pss_nil)
        (pss_one (ps_set (i := 7) nd rfl (Or.inl rfl) (pe_ix ix_tup (pv 9) pe_int (fun _ _ => rfl)))))))
      (pss_one (ps_ret (dc L.pair hr (by decide) (pa_cons (pe_meth (E := E0) (pv 7) L.c L.dm L.df hr12 L.db .nil passL (pa_cons (pv 6) pa_nil)) (pa_cons (pe_lst pa_nil) (pa_cons (pe_lst pa_nil) pa_nil))))))))))))), ?_⟩
    -- the degree
    refine seq_to (fun σ' G => ∃ (g : Nat) (s1 r1 : Int), σ' = [some (.ref d), some (.int (g : Int)), none, none, none, none, none, none, none, none] ∧ 1 ≤ g ∧ g ≤ 4 ∧ 0 ≤ s1 ∧ s1 ≤ st + 1 ∧ PenAt G d c s1 r1 cells ∧ SameBut d H G) (fun kk hK => ?_) ?_
    · refine ⟨_, rfl, d, c, st, r, _, cells, rfl, pn, h0, by omega, hl, by decide, by decide, fun n s1 r1 H1 a1 a2 a3 a4 a5 a6 => ?_⟩
      refine ⟨_, _, rfl, rfl, hK _ _ ⟨(1 + n).toNat, s1, r1, ?_, by omega, by omega, a3, by omega, a5, a6⟩⟩
      rw [show (((1 + n).toNat : Nat) : Int) = 1 + n by omega]
      rfl
    rintro σ' G1 ⟨g, s1, r1, rfl, g1, g4, p1, q1, pn1, sb1⟩
    -- the divisor
    refine seq_to (fun σ' G => ∃ (bl : Addr) (bs : List (Int × Int)) (s2 r2 : Int), σ' = [some (.ref d), some (.int (g : Int)), some (.ref bl), none, none, none, none, none, none, none] ∧ IsP bs ∧ (∀ p ∈ bs, FewD p) ∧ bs.length = g + 1 ∧ 0 ≤ s2 ∧ s2 ≤ st + 111 ∧ PenAt G d c s2 r2 cells ∧ SameBut d G1 G ∧ PPs G bl bs) (fun kk hK => ?_) ?_
    · refine ⟨_, rfl, _, rfl, d, c, s1, r1, cells, g, rfl, pn1, p1, by omega, hl, by omega, fun l ps s2 r2 H2 ip fw le b1 b2 b3 b4 hp => ?_⟩
      exact hK _ _ ⟨l, ps, s2, r2, rfl, ip, fw, le, b1, by omega, b3, b4, hp⟩
    rintro σ' G2 ⟨bl, bs, s2, r2, rfl, ibs, fbs, lbs, p2, q2, pn2, sb2, hbl2⟩
    -- the digits
    refine seq_to (fun σ' G => ∃ (dl : Addr) (ts : List V) (ds : List (List (Int × Int))) (s3 r3 : Int), σ' = [some (.ref d), some (.int (g : Int)), some (.ref bl), some (.ref dl), none, none, none, none, none, none] ∧ 1 ≤ ds.length ∧ ds.length ≤ 6 ∧ (∀ e ∈ ds, IsP e ∧ (∀ p ∈ e, FewD p) ∧ e.length ≤ g) ∧ 0 ≤ s3 ∧ s3 ≤ st + 780 ∧ PenAt G d c s3 r3 cells ∧ SameBut d G2 G ∧ G dl = some (.lst ts) ∧ Paired (DPs dl G) ts ds) (fun kk hK => ?_) ?_
    · dsimp only [tAsg, List.map]
      refine lc_penD (e := 110) (d := d) (c := c) (cells := cells) (Gd := fun _ (e : List (Int × Int)) => IsP e ∧ (∀ p ∈ e, FewD p) ∧ e.length ≤ g) (Rr := DPs) (fun n H1 s1 r1 => 1 ≤ n ∧ n ≤ 6 ∧ 0 ≤ s1 ∧ s1 ≤ s2 + 1 ∧ PenAt H1 d c s1 r1 cells ∧ SameBut d G2 H1) (fun R k => ?_) ?_ (fun _ _ _ _ _ _ h hd s => h.but hd s) (fun _ _ _ _ _ _ hD h => h.grow hD) ?_ ?_
      · refine ⟨_, rfl, d, c, s2, r2, _, cells, rfl, pn2, p2, by omega, hl, by decide, by decide, fun n s1 r1 H1 a1 a2 a3 a4 a5 a6 => ?_⟩
        exact ⟨_, _, rfl, rfl, 1 + n, rfl, by omega, by omega, k (1 + n).toNat H1 s1 r1 ⟨by omega, by omega, a3, a4, a5, a6⟩⟩
      · rintro n H1 s1 r1 ⟨a0, a1, a2, a3, a4, a5⟩
        exact ⟨a4, a2, Nat.le_trans a1 (by decide)⟩
      · rintro n H1 s1 r1 ⟨a0, a1, a2, a3, a4, a5⟩ D i H2 s' r' Kc hi p2 s0 s1' sb ⟨ts0, hD⟩ kc
        refine ⟨_, rfl, _, rfl, d, c, s', r', cells, g, rfl, p2, s0, by omega, hl, by omega, fun l ps s2 r2 H3 nl ip fw le b1 b2 b3 b4 hp => ?_⟩
        exact kc _ ps s2 r2 H3 ⟨ip, fw, le⟩ b1 (by omega) b3 b4 ⟨l, rfl, (fun z => by rw [z, hD] at nl; cases nl), hp⟩
      · rintro n H1 s1 r1 ⟨a0, a1, a2, a3, a4, a5⟩ D es ts' s' r' H' lb all s0 s1' p5 sb hD pr
        refine hK _ _ ⟨D, ts', es, s', r', rfl, by omega, by omega, fun e he => ?_, s0, by omega, p5, a5.tr3 sb, hD, pr⟩
        obtain ⟨i, hi⟩ := List.mem_iff_getElem?.mp he
        exact all i e hi
    rintro σ' G3 ⟨dl, ts, ds, s3, r3, rfl, n1, n6, fds, p3, q3, pn3, sb3, hdl3, pds3⟩
    have hbl3 := hbl2.but pn2.dc sb3
    have lts := paired_len pds3
    -- the lefts
    refine seq_to (fun σ' G => ∃ (ll : Addr) (vs : List V), σ' = [some (.ref d), some (.int (g : Int)), some (.ref bl), some (.ref dl), some (.ref ll), none, none, none, none, none] ∧ Same G3 G ∧ G3 ll = none ∧ G ll = some (.lst vs) ∧ Paired (DPs ll G) vs [[]]) (fun kk hK => ?_) ?_
    · refine ⟨by show 0 ≤ sizeLine; decide, fun l0 nl0 => ?_⟩
      have z1 := Same.new (o := .lst []) (fun _ _ e => e : Same G3 G3) nl0
      have e1 : upd G3 l0 (.lst []) l0 = some (.lst []) := upd_same
      generalize upd G3 l0 (.lst []) = G4 at z1 e1 ⊢
      refine ⟨by show 1 ≤ sizeLine; decide, fun ll nll => ?_⟩
      have z2 := Same.new (o := .lst [.ref l0]) (fun _ _ e => e : Same G4 G4) nll
      refine hK _ _ ⟨ll, [.ref l0], rfl, z1.trans z2, same_none z1 nll, upd_same, .cons ⟨l0, rfl, (fun z => by rw [z, nll] at e1; cases e1), [], z2 _ _ e1, .nil⟩ .nil⟩
    rintro σ' G4 ⟨ll, vs0, rfl, s4, nll, hll4, pls4⟩
    -- what is left ahead of each
    refine seq_to (fun σ' G => ∃ (o5 : Option V) (vs : List V) (ls : List (List (Int × Int))), σ' = [some (.ref d), some (.int (g : Int)), some (.ref bl), some (.ref dl), some (.ref ll), o5, none, none, none, none] ∧ Same G3 G ∧ G ll = some (.lst vs) ∧ Paired (DPs ll G) vs ls ∧ Chn g bs ds.reverse ls) (fun kk hK => ?_) ?_
    · refine ⟨_, rfl, dl, ts, rfl, SqL.of (s4 _ _ hdl3), fun p np => ?_⟩
      have s5 := s4.trans (Same.new (o := .lst ts.reverse) (fun _ _ e => e : Same G4 G4) np)
      have pll : p ≠ ll := fun z => by rw [z, hll4] at np; cases np
      refine ⟨p, rfl, ⟨ts.reverse, SqL.of upd_same⟩, ?_⟩
      refine for_list (K := K) (a := p) (xs := ts.reverse) (fun i σ' G => ∃ (o5 : Option V) (vs : List V) (ls : List (List (Int × Int))), σ' = [some (.ref d), some (.int (g : Int)), some (.ref bl), some (.ref dl), some (.ref ll), o5, none, none, none, none] ∧ Same G3 G ∧ G p = some (.lst ts.reverse) ∧ G ll = some (.lst vs) ∧ Paired (DPs ll G) vs ls ∧ Chn g bs (ds.reverse.take i) ls)
        ⟨none, vs0, [[]], rfl, s5, upd_same, by rw [upd_ne pll.symm]; exact hll4, Paired.mapP pls4 fun _ _ z => z.same (Same.new (fun _ _ e => e) np), Chn.nil⟩ (fun i σ' G _ z => ?_) ?_ ?_
      · obtain ⟨_, _, _, _, _, hp, _⟩ := z
        exact SqL.of hp
      · rintro i x σ' G hx ⟨o5, vs, ls, rfl, sG, hp, hv, pv_, ch⟩
        have li := (List.getElem?_eq_some_iff.mp hx).1
        rw [List.length_reverse] at li
        obtain ⟨e, he, l5, rfl, n5, h5⟩ := paired_at (paired_rev pds3) hx
        obtain ⟨ie, fe, le⟩ := fds e (List.mem_reverse.mp (List.mem_of_getElem? he))
        have lt : (ds.reverse.take i).length = i := by rw [List.length_take, List.length_reverse]; omega
        have i7 : i < 7 := by omega
        have ln := ch.len
        rw [lt] at ln
        have hl0 := List.getElem?_eq_getElem (show i < ls.length by omega)
        generalize ls[i] = l0 at hl0
        obtain ⟨v0, ev0, a0, rfl, na0, h0p⟩ := paired_back pv_ hl0
        have lv := paired_len pv_
        have lst : vs.getLast? = some (.ref a0) := by
          rw [List.getLast?_eq_getElem?, show vs.length - 1 = i by omega]
          exact ev0
        have b0 := ch.bd i l0 hl0
        have ip0 := ch.isP i l0 hl0
        have ln0 := ch.ln i l0 hl0
        have gi : g * i ≤ 24 := Nat.le_trans (Nat.mul_le_mul g4 (show i ≤ 6 by omega)) (by decide)
        have f0 := fits ip0.low b0 (Nat.pow_pos (by decide)) (Nat.lt_of_lt_of_le (sz_fit6 i7) (Nat.pow_le_pow_right (by decide) (by decide)))
        dsimp only [gName]
        refine ⟨_, rfl, .inl ⟨rfl, _, SqL.of hv⟩, _, rfl, _, rfl, ll, _, _, _, rfl, rfl, SqL.of hv, at_last lst, _, rfl, ?_⟩
        refine ⟨a0, bl, l0, bs, 2520 ^ i, 10 ^ (16 * i), 2520, 10 ^ 14, rfl, h0p, hbl3.same sG, by omega, by omega, fun p hp => ⟨ip0.low p hp, (f0 p hp).2, b0 p hp⟩, fun p hp => (fbs p hp).pb, Nat.pow_pos (by decide), by decide, sz_mul6 i7, fun ms im em lm bm ml G6 nm s6 hml => ?_⟩
        have fm := fits im.low bm (Nat.mul_pos (Nat.pow_pos (by decide)) (by decide)) (sz_mul6 i7)
        refine ⟨_, rfl, ml, l5, ms, e, rfl, hml, (h5.same sG).same s6, by omega, by omega, fm, fun p hp => ⟨ie.low p hp, (fe p hp).pb.f⟩, fun ns ins ens lns mns nl G7 nn s7 hns => ?_⟩
        have hv7 := s7 _ _ (s6 _ _ hv)
        have nlne : nl ≠ ll := fun z => by rw [z, s6 _ _ hv] at nn; cases nn
        refine ⟨ll, vs, .ref nl, rfl, rfl, hv7, by rw [lv, ln]; exact Nat.lt_of_lt_of_le (show i + 1 < 10 by omega) (by decide), ?_⟩
        have bns : ∀ p ∈ ns, Bd (2520 ^ (i + 1)) (10 ^ (16 * (i + 1))) p := fun p hp => by
          have := bd_sum im.low ie.low bm (fun p hp => (fe p hp).b.mono (Nat.dvd_mul_left _ _) (Nat.le_refl _)) mns p hp
          rw [Nat.pow_succ]
          exact this.mono (Nat.dvd_refl _) (sz_next6 i7)
        have more := ch.more (l := l0) (l' := ns) (e := e) (by rw [lt]; exact hl0) ins (fun k => by rw [ens, em]) (by rw [lt]; exact bns) (by
          rw [lt, Nat.mul_succ]
          omega)
        refine ⟨_, vs ++ [.ref nl], ls ++ [ns], rfl, same_put (sG.trans (s6.trans s7)) nll, ?_, upd_same, ?_, ?_⟩
        · rw [upd_ne pll]
          exact s7 _ _ (s6 _ _ hp)
        · exact (Paired.mapP pv_ fun _ _ z => (z.same (s6.trans s7)).grow hv7).snoc (DPs.grow hv7 ⟨nl, rfl, nlne, hns⟩)
        · rw [take_snoc he]
          exact more
      · rintro σ' G ⟨o5, vs, ls, rfl, sG, hp, hv, pv_, ch⟩
        rw [List.length_reverse, lts, ← List.length_reverse, List.take_length] at ch
        exact hK _ _ ⟨o5, vs, ls, rfl, sG, hv, pv_, ch⟩
    rintro σ' G5 ⟨o5, vs, ls, rfl, s5, hll5, pls5, ch⟩
    have pn5 := pn3.to3 s5
    have hbl5 := hbl3.same s5
    have hdl5 := s5 _ _ hdl3
    have pds5 : Paired (DPs dl G5) ts ds := Paired.mapP pds3 fun _ _ z => z.same s5
    have len := ch.len
    rw [List.length_reverse] at len
    have lv := paired_len pls5
    have lsE : ∀ (j : Nat) (l : List (Int × Int)), ls[j]? = some l → l.length ≤ 24 ∧ ∀ p ∈ l, Low p ∧ Fit p := fun j l h => by
      have hj := (List.getElem?_eq_some_iff.mp h).1
      have gj : g * j ≤ 24 := Nat.le_trans (Nat.mul_le_mul g4 (show j ≤ 6 by omega)) (by decide)
      exact ⟨Nat.le_trans (ch.ln j l h) gj, fits (ch.isP j l h).low (ch.bd j l h) (Nat.pow_pos (by decide)) (Nat.lt_of_lt_of_le (sz_fit6 (by omega)) (Nat.pow_le_pow_right (by decide) (by decide)))⟩
    -- the divisor as a poly
    refine seq_to (fun σ' G => ∃ (b : Addr) (s6 r6 : Int), σ' = [some (.ref d), some (.int (g : Int)), some (.ref bl), some (.ref dl), some (.ref ll), o5, some (.ref b), none, none, none] ∧ 0 ≤ s6 ∧ s6 ≤ st + 850 ∧ PenAt G d c s6 r6 cells ∧ SameBut d G5 G ∧ PolyAt C CP CM G b bs) (fun kk hK => ?_) ?_
    · refine ⟨_, rfl, _, rfl, d, c, bl, s3, r3, cells, bs, rfl, pn5, p3, by omega, hl, hbl5, ibs, fun p hp => (fbs p hp).pb.f, by omega, fun b s6 r6 G6 a1 a2 a3 a4 hb => ?_⟩
      exact hK _ _ ⟨b, s6, r6, rfl, a1, by omega, a3, a4, hb⟩
    rintro σ' G6 ⟨b, s6, r6, rfl, p6, q6, pn6, sb6, hb6⟩
    have hll6 : G6 ll = some (.lst vs) := sb6 _ _ hll5 (ne_of hll5 pn5.dc (by intro z; cases z))
    have pls6 : Paired (DPs ll G6) vs ls := Paired.mapP pls5 fun _ _ z => z.but pn5.dc sb6
    have hdl6 : G6 dl = some (.lst ts) := sb6 _ _ hdl5 (ne_of hdl5 pn5.dc (by intro z; cases z))
    have pds6 : Paired (DPs dl G6) ts ds := Paired.mapP pds5 fun _ _ z => z.but pn5.dc sb6
    -- the last of the lefts as a poly
    have hlast := List.getElem?_eq_getElem (show ds.length < ls.length by omega)
    refine seq_to (fun σ' G => ∃ (a : Addr) (s7 r7 : Int), σ' = [some (.ref d), some (.int (g : Int)), some (.ref bl), some (.ref dl), some (.ref ll), o5, some (.ref b), some (.ref a), none, none] ∧ 0 ≤ s7 ∧ s7 ≤ st + 920 ∧ PenAt G d c s7 r7 cells ∧ SameBut d G6 G ∧ PolyAt C CP CM G a ls[ds.length]) (fun kk hK => ?_) ?_
    · obtain ⟨v0, ev0, a0, rfl, na0, h0p⟩ := paired_back pls6 hlast
      have lst : vs.getLast? = some (.ref a0) := by
        rw [List.getLast?_eq_getElem?, show vs.length - 1 = ds.length by omega]
        exact ev0
      obtain ⟨l24, lf⟩ := lsE _ _ hlast
      refine ⟨_, rfl, _, rfl, _, rfl, ll, _, _, _, rfl, rfl, SqL.of hll6, at_last lst, ?_⟩
      refine ⟨d, c, a0, s6, r6, cells, _, rfl, pn6, p6, by omega, hl, h0p, ch.isP _ _ hlast, fun p hp => (lf p hp).2, by omega, fun a s7 r7 G7 a1 a2 a3 a4 ha => ?_⟩
      exact hK _ _ ⟨a, s7, r7, rfl, a1, by omega, a3, a4, ha⟩
    rintro σ' G7 ⟨a, s7, r7, rfl, p7, q7, pn7, sb7, ha7⟩
    have hb7 := hb6.but pn6.dc sb7
    have hll7 : G7 ll = some (.lst vs) := sb7 _ _ hll6 (ne_of hll6 pn6.dc (by intro z; cases z))
    have pls7 : Paired (DPs ll G7) vs ls := Paired.mapP pls6 fun _ _ z => z.but pn6.dc sb7
    have hdl7 : G7 dl = some (.lst ts) := sb7 _ _ hdl6 (ne_of hdl6 pn6.dc (by intro z; cases z))
    have pds7 : Paired (DPs dl G7) ts ds := Paired.mapP pds6 fun _ _ z => z.but pn6.dc sb7
    have insOf : ∀ {G : Hp} {a : Addr} {ps : List (Int × Int)}, PolyAt C CP CM G a ps → ∃ (dx : Addr) (fs : List (Str × V)), G a = some (.ins CP dx fs) ∧ fs.lookup ("divided" : Str) = none := fun h => by
      obtain ⟨dx, t, xs, mk, dm, tb, h1, _⟩ := h
      exact ⟨dx, _, h1, rfl⟩
    have nbs : bs ≠ [] := fun z => by rw [z] at lbs; simp at lbs
    have bbs : Bds 2520 (10 ^ 14) bs := ⟨by decide, fun p hp => (fbs p hp).b⟩
    -- division after division
    refine seq_to (fun σ' G => ∃ (a : Addr) (o8 o9 : Option V), σ' = [some (.ref d), some (.int (g : Int)), some (.ref bl), some (.ref dl), some (.ref ll), o5, some (.ref b), some (.ref a), o8, o9] ∧ Same G7 G ∧ PolyAt C CP CM G a []) (fun kk hK => ?_) ?_
    · refine ⟨_, rfl, dl, ts, rfl, .inl (SqL.of hdl7), (ts.length : Int), rfl, by omega, by omega, ?_⟩
      refine for_range (lo := 0) (n := ts.length) (fun i σ' G => ∃ (a : Addr) (l : List (Int × Int)) (o8 o9 : Option V), σ' = [some (.ref d), some (.int (g : Int)), some (.ref bl), some (.ref dl), some (.ref ll), o5, some (.ref b), some (.ref a), o8, o9] ∧ Same G7 G ∧ ls[ds.length - i]? = some l ∧ PolyAt C CP CM G a l) ⟨a, _, none, none, rfl, fun _ _ e => e, hlast, ha7⟩ ?_ ?_
      · rintro i σ' G hi ⟨a, l, o8, o9, rfl, sG, hl_, ha⟩
        obtain ⟨j, hj⟩ : ∃ j, ds.length - i = j + 1 := ⟨ds.length - i - 1, by omega⟩
        have hl' := List.getElem?_eq_getElem (show j < ls.length by omega)
        generalize ls[j] = l' at hl'
        have he := List.getElem?_eq_getElem (show i < ds.length by omega)
        generalize ds[i] = e at he
        obtain ⟨ie, fe, le⟩ := fds e (List.mem_of_getElem? he)
        have her : ds.reverse[j]? = some e := by
          rw [List.getElem?_reverse (by omega), show ds.length - 1 - j = i by omega]
          exact he
        rw [hj] at hl_
        have eqj := ch.step j l' e l hl' her hl_
        obtain ⟨l24, lf⟩ := lsE _ _ hl_
        obtain ⟨l24', lf'⟩ := lsE _ _ hl'
        have D1 : Divs l bs l' e (2520 ^ (j + 1)) (10 ^ (16 * (j + 1))) 2520 (10 ^ 14) := ⟨ch.isP _ _ hl_, ibs, ch.isP _ _ hl', ie, nbs, by omega, eqj, ⟨Nat.pow_pos (by decide), ch.bd _ _ hl_⟩, bbs, sz_fit6 (by omega), by decide +kernel, by omega, by omega⟩
        obtain ⟨da, fa, ia, la⟩ := insOf ha
        obtain ⟨v1, e1, a1, rfl, _, h1p⟩ := paired_back pls7 hl'
        obtain ⟨v2, e2, a2, rfl, _, h2p⟩ := paired_back pds7 he
        refine ⟨_, rfl, a, da, fa, rfl, ia, la, _, rfl, a, .ref b, l, rfl, ha, .inr ⟨b, rfl, .inr ⟨bs, l', e, _, _, _, _, hb7.same sG, D1, fun t x y G8 nt s8 ht hx hy => ?_⟩⟩⟩
        have s78 := sG.trans s8
        dsimp only [gName]
        refine ⟨_, rfl, _, rfl, _, rfl, dl, ts, rfl, .inl (SqL.of (s78 _ _ hdl7)), _, _, rfl, rfl, _, rfl, _, _, rfl, rfl, ll, vs, _, V.ref a1, rfl, rfl, SqL.of (s78 _ _ hll7), ?_, _, rfl, _, rfl, dl, ts, _, V.ref a2, rfl, rfl, SqL.of (s78 _ _ hdl7), ?_, ?_⟩
        · rw [show (ts.length : Int) - 1 - (0 + (i : Int)) = ((j : Nat) : Int) by omega]
          exact atI_nat e1
        · rw [show (0 : Int) + (i : Int) = ((i : Nat) : Int) by omega]
          exact atI_nat e2
        · refine ⟨t, x, y, a1, a2, l', e, rfl, ht, hx, h1p.same s78, hy, h2p.same s78, by omega, by omega, fun G9 s9 => ?_⟩
          refine ⟨true, rfl, ?_⟩
          refine ⟨_, rfl, t, _, _, _, rfl, rfl, SqT.of (s9 _ _ ht), rfl, ?_⟩
          exact ⟨x, l', _, _, rfl, s78.trans s9, by rw [show ds.length - (i + 1) = j by omega]; exact hl', hx.same s9⟩
      · rintro σ' G ⟨a, l, o8, o9, rfl, sG, hl_, ha⟩
        rw [lts, Nat.sub_self, ch.first] at hl_
        cases hl_
        exact hK _ _ ⟨a, o8, o9, rfl, sG, ha⟩
    rintro σ' G8 ⟨a, o8, o9, rfl, s8, ha8⟩
    obtain ⟨da, fa, ia, la⟩ := insOf ha8
    have D0 : Divs [] bs [] [] 1 1 2520 (10 ^ 14) := ⟨IsP.nil, ibs, IsP.nil, IsP.nil, nbs, (by show 0 < bs.length; omega), fun k => by
      have z : ∀ i, cf [] i = (fun _ => (0 : _root_.Rat)) i := fun i => cf_out (Nat.zero_le _)
      rw [conv_congr z (fun _ => rfl), conv_none, cf_out (Nat.zero_le _)]
      grind, ⟨by decide, fun p hp => (List.not_mem_nil hp).elim⟩, bbs, by decide +kernel, by decide +kernel, Nat.zero_le _, by omega⟩
    refine ⟨_, rfl, a, da, fa, rfl, ia, la, _, rfl, a, .ref b, [], rfl, ha8, .inr ⟨b, rfl, .inr ⟨bs, [], [], _, _, _, _, hb7.same s8, D0, fun t x y G9 nt s9 ht hx hy => ?_⟩⟩⟩
    refine ⟨by show 0 ≤ sizeLine; decide, fun e1 n1 => ?_⟩
    refine ⟨by show 0 ≤ sizeLine; decide, fun e2 n2 => ?_⟩
    have z1 := Same.new (o := .lst []) (fun _ _ e => e : Same G9 G9) n1
    have h1l : upd G9 e1 (.lst []) e1 = some (.lst []) := upd_same
    generalize upd G9 e1 (.lst []) = G10 at z1 h1l n2 ⊢
    have z2 := Same.new (o := .lst []) (fun _ _ e => e : Same G10 G10) n2
    have z := z1.trans z2
    refine ⟨t, x, y, e1, e2, [], [], rfl, z _ _ ht, hx.same z, ⟨[], z2 _ _ h1l, .nil⟩, hy.same z, ⟨[], upd_same, .nil⟩, Nat.zero_le _, Nat.zero_le _, fun G11 s11 => ?_⟩
    have sE := s8.trans (s9.trans (z.trans s11))
    exact k s7 r7 G11 p7 (by omega) (pn7.to3 sE) ((((((sb1.tr3 sb2).tr3 sb3).tr3 (SameBut.by3 s5)).tr3 sb6).tr3 sb7).tr3 (SameBut.by3 sE))
end
end K03
end
section
set_option maxHeartbeats 4000000
namespace L3
open PySem PySem.Spec PyProof.Rows L2
/-- a clause: its class, the slot of its name if it has one, its suite -/
structure Cl where
  c : Value
  at_ : Option Nat
  ts : Addr → Value → Option Addr → TS
/-- behind a suite whose exception had a name -/
def Cl.ends (l : Cl) (D : Ends) : Ends := match l.at_ with
  | none => D
  | some i => { nx := fun σ' H' => D.nx (σ'.set i none) H', rt := D.rt, bk := fun σ' H' => D.bk (σ'.set i none) H', ct := fun σ' H' => D.ct (σ'.set i none) H' }
def Cl.named (l : Cl) (σ : L2.St) (a : Addr) : L2.St := match l.at_ with
  | none => σ
  | some i => σ.set i (some (.ref a))
/-- what such clauses wish of an exception of the body -/
def wCls (K : PySem.W.Frag) (Wout : WX) (D : Ends) : List Cl → WX
  | [] => Wout
  | l :: r => fun cls d σ H => ∃ b, PySem.W.exmOne K cls l.c = some b ∧ (b = true → ∀ a, H a = none → l.ts a cls d (l.ends D) (l.named σ a) H) ∧ (b = false → wCls K Wout D r cls d σ H)
/-- the clauses' rules: with a name or without -/
inductive Cls (X : Cx) : List ExceptHandler → List Cl → Prop
  | nil : Cls X [] []
  | bare {x : Str} {c : Value} {ts : Addr → Value → Option Addr → TS} {b₀ : Stmt} {suite : List Stmt} {np pos' : Pos} {hds : List ExceptHandler} {l : List Cl} (hc : Names X x c)
      (hsu : ∀ (a : Addr) (oe : Obj) (cls : Value) (d : Option Addr) (pn : List (Addr × Obj)), Zc cls d oe → (∃ vs, oe.data = .fields vs) → PSs (X.suite a ((a, oe) :: pn)) (b₀ :: suite) (ts a cls d)) (r : Cls X hds l) :
      Cls X (.ExceptHandler (some (.Name x np)) none (b₀ :: suite) pos' :: hds) (⟨c, none, ts⟩ :: l)
  | as_ {x n : Str} {i : Nat} {c : Value} {ts : Addr → Value → Option Addr → TS} {b₀ : Stmt} {suite : List Stmt} {np pos' : Pos} {hds : List ExceptHandler} {l : List Cl} (hc : Names X x c) (hi : X.N[i]? = some n) (hl : X.env.kindOf n = some .local)
      (hsu : ∀ (a : Addr) (oe : Obj) (cls : Value) (d : Option Addr) (pn : List (Addr × Obj)), Zc cls d oe → (∃ vs, oe.data = .fields vs) → PSs (X.suite a ((a, oe) :: pn)) (b₀ :: suite) (ts a cls d)) (r : Cls X hds l) :
      Cls X (.ExceptHandler (some (.Name x np)) (some n) (b₀ :: suite) pos' :: hds) (⟨c, some i, ts⟩ :: l)
section
variable {X : Cx} {Wout : WX}
/-- a suite's end, told to the statement -/
theorem suite_ends {pins : List (Addr × Obj)} {D : Ends} {a : Addr} {oe : Obj} {f : Flow} {s : Shared} (ok : X.Ok) (h : SP (X.suite a ((a, oe) :: (X.pn ++ pins))) [] D f s) : SP X pins D f s := by
  cases f with
  | ret u =>
    obtain ⟨v, σ', H', J, r, q⟩ := h
    exact ⟨v, σ', H', J.unsuite ok, r, q⟩
  | next => obtain ⟨σ', H', J, q⟩ := h; exact ⟨σ', H', J.unsuite ok, q⟩
  | brk => obtain ⟨σ', H', J, q⟩ := h; exact ⟨σ', H', J.unsuite ok, q⟩
  | cont => obtain ⟨σ', H', J, q⟩ := h; exact ⟨σ', H', J.unsuite ok, q⟩
/-- an exception that has been caught, the state as it lies -/
structure Caught (X : Cx) (pins : List (Addr × Obj)) (σ : L2.St) (H : Hp) (sI : Shared) (B : Heap) (a : Addr) (cls : Value) (d : Option Addr) (s : Shared) : Prop where
  I : Inv X pins σ H sI
  nb : ∀ b o, sI.heap.get? b = some o → b ∉ frs X.stack → B.get? b = some o
  up : sI.heap.UpToSlots s.heap
  fl : HandSPX.FlyingZ B (X.env :: X.outer) a (Zc cls d) s.heap
  na : H a = none
  os : s.os = sI.os
  ag : AllBare s.gens
theorem Caught.on {pins : List (Addr × Obj)} {σ : L2.St} {H : Hp} {s sI : Shared} {B h : Heap} {a : Addr} {cls : Value} {d : Option Addr} (k : Caught X pins σ H sI B a cls d s) (fl : HandSPX.FlyingZ B (X.env :: X.outer) a (Zc cls d) h) (up : s.heap.UpToSlots h) :
    Caught X pins σ H sI B a cls d { s with heap := h } := ⟨k.I, k.nb, k.up.trans up, fl, k.na, k.os, k.ag⟩
theorem Caught.inv {pins : List (Addr × Obj)} {σ : L2.St} {H : Hp} {s sI : Shared} {B : Heap} {a : Addr} {cls : Value} {d : Option Addr} (k : Caught X pins σ H sI B a cls d s) : Inv X pins σ H s := k.I.landed k.nb k.fl.1 k.up k.os k.ag
theorem Caught.suite {pins : List (Addr × Obj)} {σ : L2.St} {H : Hp} {s sI : Shared} {B : Heap} {a : Addr} {cls : Value} {d : Option Addr} (k : Caught X pins σ H sI B a cls d s) (hf : X.env.frame = some X.env.locals) :
    ∃ oe vs, s.heap.get? a = some oe ∧ Zc cls d oe ∧ oe.data = .fields vs ∧ Inv (X.suite a ((a, oe) :: (X.pn ++ pins))) [] σ H s := by
  obtain ⟨oe, vs, he, hz, hd⟩ := k.fl.there
  have noFrame : a ∉ frs (X.env :: X.outer) := fun hm => by
    obtain ⟨_, o', e', plain⟩ := k.fl.2.2.1.mem hm
    rw [he] at e'
    cases e'
    exact plain _ hd
  have nL : a ≠ X.env.locals := fun z => noFrame (List.mem_filterMap.mpr ⟨X.env, List.mem_cons_self, by rw [hf, z]⟩)
  have nF : a ∉ X.fs := fun hm => by
    obtain ⟨e, q1, q2⟩ := List.mem_filterMap.mp hm
    exact noFrame (List.mem_filterMap.mpr ⟨e, List.mem_cons_of_mem _ q1, q2⟩)
  exact ⟨oe, vs, he, hz, hd, k.inv.suite he hd k.na nL nF⟩
/-- the clauses, one behind another -/
theorem clauses_go {pins : List (Addr × Obj)} {D : Ends} {σ : L2.St} {H : Hp} {sI : Shared} {B : Heap} {a : Addr} {cls : Value} {d : Option Addr} (ok : X.Ok) (hN : X.N.Nodup) (hs : X.stack = X.env :: X.outer) (hf : X.env.frame = some X.env.locals) (tk : Takes X Wout) :
    ∀ {hds : List ExceptHandler} {ls : List Cl}, Cls X hds ls → ∀ s : Shared, Caught X pins σ H sI B a cls d s → wCls X.K Wout D ls cls d σ H → wpAny (model X.prog X.w) X.A (handleBy (.ref a) X.env hds) (SP X pins D) X.xe s := by
  -- the test of a clause
  have asks : ∀ {x : Str} {c : Value} {np : Pos} {b : Bool} {s : Shared}, Names X x c → Caught X pins σ H sI B a cls d s → PySem.W.exmOne X.K cls c = some b → ∀ {Q : Value → Shared → Prop} {E : Value → Shared → Prop},
      (PySem.W.Looks (model X.prog X.w) s.heap (typeOf (.ref a)) cls → Q c s) → wpAny (model X.prog X.w) (X.A.mark (some (.ref a))) (eval (.Name x np) X.env) Q E s := by
    intro x c np b s hc k _ Q E q
    obtain ⟨oe, vs, he, hz, hd, S⟩ := k.suite hf
    have q' := q fun A' Q' E' s' kp z => wpAny_typeOf_ref (kp _ _ he) (by rw [hz.1]; exact z)
    obtain ⟨hg, hdbg, hm | ⟨hm, hv, hnn⟩⟩ := hc
    · exact ld_glob (X := X.suite a ((a, oe) :: (X.pn ++ pins))) S hg hm q' hdbg
    · exact ld_blt (X := X.suite a ((a, oe) :: (X.pn ++ pins))) S hg hm hv q' hnn hdbg
  intro hds ls hk
  induction hk with
  | nil =>
    intro s k w
    refine wpAny_handleBy_nil ?_
    obtain ⟨k1, k2, k3, oe, vs, T, oT, ts', he, hz, hd, h1, hr⟩ := id k.fl
    unfold PySem.passOn
    refine wpAny_bind (wpAny_field he hd h1 ?_)
    rw [if_neg (show ¬ ((Value.ref T == Value.none) = true) from by simp)]
    have out : wpAny (model X.prog X.w) X.A (setFlight (.ref a) X.env.frame) (fun _ sZ => wpAny (model X.prog X.w) X.A (throw (.ref a) : Sem Flow) (SP X pins D) X.xe sZ) X.xe s := by
      rw [hf]
      refine HandSPX.setFlight_upZ k.fl fun hZ held up => wpAny_throw (tk _ _ ?_)
      exact ⟨a, B, sI, pins, σ, H, cls, d, rfl, k.I, k.nb, k.up.trans up, .inr (.inr (by rw [hs]; exact held)), k.na, k.os, k.ag, w⟩
    first
      | exact wpAny_bind (wpAny_pure (wpAny_bind out))
      | exact wpAny_bind out
  | @bare x c ts b₀ suite np pos' hds2 l2 hc hsu r ih =>
    intro s k w
    obtain ⟨b, hb1, yes, no⟩ := w
    refine wpAny_handleBy_cons (codeAny_handlers_test ?_) (by intro q; cases q)
    refine asks hc k hb1 fun LT => ?_
    refine (PySem.W.exm_one (M := model X.prog X.w) k.inv.kIn LT hb1).here ?_
    cases b with
    | false => exact ih s k (no rfl)
    | true =>
      refine codeAny_handlers_suite (HandSPX.lands_againZ k.fl fun hZ fl up => ?_)
      obtain ⟨oe, vs, he, hz, hd, S⟩ := (k.on fl up).suite hf
      exact wpAny_mono ((hsu a oe cls d (X.pn ++ pins) hz ⟨_, hd⟩).run [] _ _ H _ S (yes rfl a k.na)) (fun f sZ z => suite_ends ok z) fun _ _ z => False.elim z
  | @as_ x n i c ts b₀ suite np pos' hds2 l2 hc hi hl hsu r ih =>
    intro s k w
    obtain ⟨b, hb1, yes, no⟩ := w
    refine wpAny_handleBy_cons (codeAny_handlers_test ?_) (by intro q; cases q)
    refine asks hc k hb1 fun LT => ?_
    refine (PySem.W.exm_one (M := model X.prog X.w) k.inv.kIn LT hb1).here ?_
    cases b with
    | false => exact ih s k (no rfl)
    | true =>
      refine codeAny_handlers_suite_as (HandSPX.lands_againZ k.fl fun hZ fl up => ?_)
      obtain ⟨oe, vs, he, hz, hd, S⟩ := (k.on fl up).suite hf
      refine store_ok (X := X.suite a ((a, oe) :: (X.pn ++ pins))) (v := .ref a) S hN hi (.inl hl) rfl (fun sY SY => ?_) (.inr hl)
      refine wpAny_mono ((hsu a oe cls d (X.pn ++ pins) hz ⟨_, hd⟩).run [] sY _ H _ SY (yes rfl a k.na)) (fun f sZ z => ?_) fun _ _ z => False.elim z
      have leaves : ∀ {σ6 : L2.St} {H6 : Hp} {Q : Shared → Prop}, Inv (X.suite a ((a, oe) :: (X.pn ++ pins))) [] σ6 H6 sZ → (∀ s7, Inv X pins (σ6.set i none) H6 s7 → Q s7) →
          wpAny (model X.prog X.w) X.A (do bindName X.env n .none; unbindBehindTheSuite X.env n pos') (fun _ s7 => Q s7) X.xe sZ := fun {σ6 H6 Q} S6 q => gone_ok (S6.unsuite ok) hN hi hl q
      cases f with
      | ret u =>
        obtain ⟨v6, σ6, H6, S6, r6, q6⟩ := z
        exact leaves S6 fun s7 J7 => ⟨_, _, _, J7, r6, q6⟩
      | next =>
        obtain ⟨σ6, H6, S6, q6⟩ := z
        exact leaves S6 fun s7 J7 => ⟨_, _, J7, q6⟩
      | brk =>
        obtain ⟨σ6, H6, S6, q6⟩ := z
        exact leaves S6 fun s7 J7 => ⟨_, _, J7, q6⟩
      | cont =>
        obtain ⟨σ6, H6, S6, q6⟩ := z
        exact leaves S6 fun s7 J7 => ⟨_, _, J7, q6⟩
/-- try: .. with several clauses, some with a name -/
theorem ps_tryC {body : List Stmt} {h₀ : ExceptHandler} {hds : List ExceptHandler} {l : List Cl} {pos : Pos} {tb : WX → TS} (hs : X.stack = X.env :: X.outer) (hf : X.env.frame = some X.env.locals) (hN : X.N.Nodup) (tk : Takes X Wout)
    (hb : ∀ (W : WX) (pn : List (Addr × Obj)) (xe : Value → Shared → Prop), Takes (X.tr pn xe) W → PassesOwn (model X.prog X.w) X.A X.env xe → PSs (X.tr pn xe) body (tb W))
    (hh : Cls X (h₀ :: hds) l) : PS X (.Try body (h₀ :: hds) [] [] pos) (fun D σ H => tb (wCls X.K Wout D l) D σ H) := by
  refine ⟨fun pins s σ H D I h => ?_⟩
  have ok := I.ok
  have hfr : X.A.frames = some (X.env :: X.outer) := by rw [ok.frames, hs]
  refine wpAny_Try_except ?_
  have inner := (hb (wCls X.K Wout D l) (X.pn ++ pins) (fun e s₁ => wpAny (model X.prog X.w) X.A (noteFrame e X.env) (fun _ s₂ => wpAny (model X.prog X.w) X.A (setFlight e none) (fun _ s₃ =>
    wpAny (model X.prog X.w) X.A (handleBy e X.env (h₀ :: hds)) (SP X pins D) X.xe s₃) X.xe s₂) X.xe s₁) (fun u s' xx => ?_) PassesOwn.looking).run [] s σ H D (I.toTry _) h
  · refine wpAny_mono inner (fun f sZ z => ?_) fun e sZ z => z
    cases f with
    | next =>
      obtain ⟨σ', H', J, q⟩ := z
      exact wpAny_execs_nil ⟨σ', H', J.ofTry ok, q⟩
    | ret u =>
      obtain ⟨v, σ', H', J, r, q⟩ := z
      exact ⟨v, σ', H', J.ofTry ok, r, q⟩
    | brk => obtain ⟨σ', H', J, q⟩ := z; exact ⟨σ', H', J.ofTry ok, q⟩
    | cont => obtain ⟨σ', H', J, q⟩ := z; exact ⟨σ', H', J.ofTry ok, q⟩
  · obtain ⟨a, B, sI, pins', σ', H', cls, d, rfl, J', nb, up, sky, na, os, ag, w⟩ := xx
    have J : Inv X pins σ' H' sI := J'.ofTry ok
    show wpAny (model X.prog X.w) X.A (noteFrame (.ref a) X.env) _ _ _
    refine Sky.land Zc.steady hfr hf (by rw [← hs]; exact sky) fun h3 fl3 up3 => ?_
    exact clauses_go ok hN hs hf tk hh _ ⟨J, nb, up.trans up3, fl3, na, os, ag⟩ w
end
end L3
end
section
set_option maxHeartbeats 4000000
namespace L3
open PySem PySem.Spec PyProof.Rows L2
theorem none_same {H H' : Hp} {b : Addr} (s : Same H H') (h : H' b = none) : H b = none := by
  cases z : H b with
  | none => rfl
  | some o => rw [s _ _ z] at h; cases h
/-- e.f in an except suite, e the caught error, its dict told by exd -/
def tXe (a C : Addr) (cls : Value) (d : Option Addr) (f : Str) (te : TE) : TE := fun σ H Q => te σ H fun x H1 => x = .ref a ∧ cls = .ref C ∧ ∃ (dd : Addr) (fs : List (Str × V)) (v : V), d = some dd ∧ H1 dd = some (exd dd fs) ∧ fs.lookup f = some v ∧ Q v H1
theorem pe_xe {X : Cx} {a C : Addr} {oe : Obj} {cls : Value} {d : Option Addr} {pn : List (Addr × Obj)} {e : Expr} {te : TE} {pos : Pos} {n : Str} (Z : PySem.ExV.ClsX X.K C) (no : PySem.W.findIn X.K (.ref C) n = some none)
    (hz : Zc cls d oe) (hf : ∃ vs, oe.data = .fields vs) (he : PE (X.suite a ((a, oe) :: pn)) e te) (hb : attributeBase e n X.env (eval e X.env) = eval e X.env := by rfl) :
    PE (X.suite a ((a, oe) :: pn)) (.Attribute e n pos) (tXe a C cls d n te) := by
  refine ⟨fun pins s σ H Q I h => attr_of hb (thn (he.run pins s σ H _ I h) ?_)⟩
  rintro u s1 ⟨x, H1, I1, rx, rfl, rfl, dd, fs, v, rfl, ea, look, q⟩
  cases (show u = Value.ref a from rx)
  obtain ⟨at_, _⟩ := I1.pin (a, oe) (List.mem_append_left _ List.mem_cons_self)
  obtain ⟨vs, dat⟩ := hf
  obtain ⟨mA, hns, hr⟩ := exd_at I1.hok ea
  obtain ⟨od, ho, hl⟩ := lookIn_ns hns
  obtain ⟨u, hu, ru⟩ := RelO.some_of (v := v) (o := mA n) (by rw [← look]; exact hr n)
  have J : PySem.W.InstAt s1.heap a oe C (some od) := ⟨at_, hz.1, by unfold PySem.W.notCls; rw [dat] <;> rfl, by rw [hz.2]; exact ho⟩
  exact PySem.HandSPX.exc_get I1.kIn J Z.ga Z.gt Z.su (PySem.W.findObj_own Z.di no rfl (by rw [hl, hu])) (handed_of ru) ⟨v, H1, I1.tok _, ru, q⟩
end L3
namespace K03
open PySem PySem.Spec PyProof.Rows L2 LamX NdefX L3
/-- the error that leaves: BadValue with this value, or NoDivisor -/
def Leaves (cB cN : Addr) (r : Option V) (H : Hp) (E : XK) : Prop := match r with
  | some v => Bad cB v H E
  | none => NoDiv cN H E
/-- at f stands a lambda of X's; with X's names as σ tells it raises r -/
def DeedAt (X : Cx) (σ : L2.St) (k : Nat) (cB cN : Addr) (H : Hp) (f : Addr) (r : Option V) : Prop := ∃ (params : Arguments) (body : Expr) (scope : Scope) (t : XK → TE) (c' : Addr), LamS X.env.scope scope ∧
  (∀ (q : Str) (cl : List (Str × Addr)) (pm cv ctv : Value), bindArgs (PySem.W.kla_fn "<lambda>" q params body scope cl pm cv ctv) ⟨[], []⟩ = pure []) ∧
  (∀ (A : Around) (outer : List Env) (s : Shared) (H : Hp) (E : XK) (f c' : Addr), Room k (A.deeper (lamEnv X scope s.heap.objs.size f c')) → PE (lamCx X A outer s H E scope f c') body (t E)) ∧
  H f = some (LamO f (lwOf X params body scope) c') ∧ H c' = some (CodeO c' (X.env.qual ++ "<lambda>")) ∧ ∀ H', Same H H' → ∀ E' Q', Leaves cB cN r H' E' → t E' σ H' Q'
theorem DeedAt.same {X : Cx} {σ : L2.St} {k : Nat} {cB cN : Addr} {H H' : Hp} {f : Addr} {r : Option V} (h : DeedAt X σ k cB cN H f r) (s : Same H H') : DeedAt X σ k cB cN H' f r := by
  obtain ⟨p, b, sc, t, c', h1, h2, h3, h4, h5, h6⟩ := h
  exact ⟨p, b, sc, t, c', h1, h2, h3, s _ _ h4, s _ _ h5, fun H2 s2 => h6 H2 (s.trans s2)⟩
def told (r : Option V) : List V := match r with
  | some v => [.str "value", v]
  | none => [.str "divisor", .non]
/-- the errors' classes, as clauses ask of them -/
structure ExmR (K : PySem.W.Frag) (cB cN : Addr) : Prop where
  bb : PySem.W.exmOne K (.ref cB) (.ref cB) = some true
  nb : PySem.W.exmOne K (.ref cN) (.ref cB) = some false
  nn : PySem.W.exmOne K (.ref cN) (.ref cN) = some true
end K03
end
section
set_option maxHeartbeats 4000000
namespace K03
open PySem PySem.Spec PyProof.Rows L2 LamX NdefX L3
abbrev sFault : Stmt := top 55
def spFault (X : Cx) (σ : L2.St) (k : Nat) (cB cN : Addr) : Sp := fun vs H Q _ => ∃ (f : Addr) (r : Option V), vs = [.ref f] ∧ DeedAt X σ k cB cN H f r ∧ ∀ (p : Addr) (H' : Hp), H p = none → Same H H' → H' p = some (.tup (told r)) → Q (.ref p) H'
section
variable {P : Program} {w : World} {K : PySem.W.Frag} {mg : Str → Option Value} {base : Heap} {cB cN : Addr}
theorem scFault : FnScope ["_law_deed", "_law_told_here", "e"] ["_law_deed"] (defScope sFault) := ⟨rfl, rfl, rfl, by decide +kernel, rfl, by decide +kernel, by decide +kernel⟩
theorem ok_fault {f : Addr} {fd : FuncData} {X : Cx} {σ : L2.St} {k : Nat} (F : Fun K "_law_fault" "_law_fault" sFault f fd) (hb : L2.Binds K fd ["_law_deed"] []) (T : ErrR P w K mg base cB cN) (M : ExmR K cB cN) (eP : X.prog = P) (ew : X.w = w) (eK : X.K = K) (em : X.mg = mg) (eb : X.base = base) :
    FnRd P w K mg base CX0 (k + 2) f (Rd X σ) (spFault X σ k cB cN) := by
  subst eP ew eK em eb
  refine fn_rd F scFault hb (fun vs H Q E h => ?_) (fun cdv A outer s H vs Q E hr rd h => ?_)
  · obtain ⟨f, r, rfl, _⟩ := h
    rfl
  · obtain ⟨f, r, rfl, deed, q⟩ := h
    obtain ⟨params, body, scope, t, c', L, hbind, hbody, hf, hc, ht⟩ := id deed
    have nd := scFault.nd
    refine ⟨_, pss_cons (ps_set (i := 1) nd rfl (Or.inl rfl) (pe_tup (pa_cons pe_str (pa_cons pe_non pa_nil))))
      (pss_cons (ps_tryC (Wout := fun _ _ _ _ => False) rfl rfl nd takes_none5 (fun W pn xe tk _ => pss_one (ps_expr (pe_deed (pn := pn) (xe := xe) (E := fun σZ => WE W σZ) rd L hbind hr (fun σZ => passAt tk σZ) hbody (i := 0) rfl (.inl rfl))))
        (.as_ ⟨by rfl, by decide, .inl T.B.g⟩ (i := 2) rfl rfl (fun a oe cls d pn hz hf => pss_one (ps_set (i := 1) nd rfl (Or.inl rfl) (pe_tup (pa_cons pe_str (pa_cons (pe_xe T.B.Z T.B.no hz hf (pv 2)) pa_nil)))))
        (.bare ⟨by rfl, by decide, .inl T.N.g⟩ (fun a oe cls d pn hz hf => pss_one (ps_set (i := 1) nd rfl (Or.inl rfl) (pe_tup (pa_cons pe_str (pa_cons pe_non pa_nil))))) .nil)))
      (pss_one (ps_ret (pv 1)))), ?_⟩
    refine ⟨by show 2 ≤ sizeLine; decide, fun p0 n0 => ?_⟩
    have s0 : Same H (upd H p0 (.tup [.str "none", .non])) := Same.new (fun _ _ e => e) n0
    generalize upd H p0 (.tup [.str "none", .non]) = H0 at s0 ⊢
    refine ⟨f, c', rfl, s0 _ _ hf, s0 _ _ hc, ht H0 s0 _ _ ?_⟩
    cases r with
    | some v =>
      intro d H1 nd1 s1 ed
      refine ⟨true, M.bb, fun _ a na => ?_, fun z => nomatch z⟩
      refine ⟨_, rfl, rfl, rfl, d, _, v, rfl, ed, by simp [List.lookup], by show 2 ≤ sizeLine; decide, fun p1 n1 => ?_⟩
      exact ⟨_, rfl, q p1 _ (none_same (s0.trans s1) n1) ((s0.trans s1).new n1) upd_same⟩
    | none =>
      intro H1 s1
      refine ⟨false, M.nb, (fun z => nomatch z), fun _ => ⟨true, M.nn, fun _ a na => ?_, fun z => nomatch z⟩⟩
      refine ⟨by show 2 ≤ sizeLine; decide, fun p1 n1 => ?_⟩
      exact ⟨_, rfl, q p1 _ (none_same (s0.trans s1) n1) ((s0.trans s1).new n1) upd_same⟩
end
end K03
end
section
set_option maxHeartbeats 4000000
namespace L3
open PySem PySem.Spec PyProof.Rows L2 LamX NdefX
/-- a call of a def whose promise is told of the caller's own slots -/
theorem pe_callRdS {X : Cx} {CX : CXT} {k : Nat} {f : Addr} {R : L2.St → List Env → Shared → Hp → Prop} {sp : L2.St → Sp} {E : L2.St → XK} {x : Str} {p pos : Pos} {e : Expr} {es : List Expr} {t : TA} (G : ∀ σ, FnRd X.prog X.w X.K X.mg X.base CX k f (R σ) (sp σ)) (hr : Room k X.A) (hg : Gl X x) (hm : X.mg x = some (.ref f)) (hk : PySem.W.keepIn X.K (.ref f) = true)
    (hR : ∀ (pins : List (Addr × Obj)) (s : Shared) (σ : L2.St) (H : Hp), Inv X pins σ H s → R σ X.stack s H) (hx : ∀ σ, PassesAt CX X σ (E σ)) (ha : PA X (e :: es) t) (hdb : (x == ("__debug__" : Str)) = false := by decide)
    (he : starEach (e :: es) X.env = (false, eval e X.env) :: starEach es X.env := by rfl) (hpl : (backTo pos (starEach es X.env)).any (·.1) = false := by rfl) :
    PE X (.Call (.Name x p) (e :: es) [] pos) (fun σ H Q => tCallS (sp σ) E t σ H Q) := by
  refine ⟨fun pins s σ H Q I h => wpAny_Call_Name_kw (ld_glob I hg hm ?_ hdb)⟩
  refine PySem.W.callWith_K (h₀ := X.base) I.ok.mod.kin hk (thn (ha.run pos pins s σ H _ I h) fun us s1 got => ⟨got.choose_spec.choose_spec.1.kIn, ?_⟩) he hpl
  obtain ⟨vs, H1, I1, r, q⟩ := got
  refine wpAny_call (codeAny_mono (G σ X.A X.stack s1 H1 us vs Q (E σ) hr I1.env0 r (hR _ _ _ _ I1) q) fun z s' hq => ?_)
  cases z with
  | error e => exact hx σ pins H1 s1 e s' I1 hq
  | ok fl =>
    cases fl with
    | ret u => exact I1.after hq
    | next => exact False.elim hq
    | brk => exact False.elim hq
    | cont => exact False.elim hq
/-- a lambda that stands: at f its object, at c its code object -/
structure LamAt (H : Hp) (f c : Addr) (l : LW) : Prop where
  hf : H f = some (LamO f l c)
  hc : H c = some (CodeO c l.q)
theorem LamAt.ext {H H' : Hp} {f c : Addr} {l : LW} (a : LamAt H f c l) (e : ExtN H H') : LamAt H' f c l := ⟨e _ _ a.hf lamO_ne, e _ _ a.hc codeO_ne⟩
theorem LamAt.same {H H' : Hp} {f c : Addr} {l : LW} (a : LamAt H f c l) (s : Same H H') : LamAt H' f c l := ⟨s _ _ a.hf, s _ _ a.hc⟩
/-- all but tables and the object at d as it was -/
structure ButT (T : List (Addr × Str)) (d : Addr) (H H' : Hp) : Prop where
  e : ∀ b o, H b = some o → (∀ ps, o ≠ .tbl ps) → b ≠ d → H' b = some o
  t : Tabs T H'
theorem tabs_but {T : List (Addr × Str)} {d : Addr} {H H' : Hp} {kvs : List (Key × V)} (t : Tabs T H) (hd : H d = some (.dK kvs)) (e : ∀ b o, H b = some o → b ≠ d → H' b = some o) : Tabs T H' := fun p hp => by
  obtain ⟨ps, h1, h2, h3⟩ := t p hp
  have nd : ∀ {b : Addr} {o : HO}, H b = some o → (∀ kvs, o ≠ .dK kvs) → b ≠ d := fun {b o} hb n z => by
    rw [z, hd] at hb
    exact n _ (Option.some.inj hb).symm
  refine ⟨ps, e _ _ h1 (nd h1 fun _ z => by cases z), h2, fun pos cv hc => ?_⟩
  obtain ⟨c, e1, e2⟩ := h3 pos cv hc
  exact ⟨c, e1, e _ _ e2 (nd e2 fun _ z => by unfold CodeO at z; cases z)⟩
end L3
end
section
set_option maxHeartbeats 4000000
set_option exponentiation.threshold 100000
namespace L3
open PySem PySem.Spec PyProof.Rows L2 LamX NdefX
/-- a def whose code object is known: it makes lambdas -/
theorem okC {P : Program} {w : World} {K : PySem.W.Frag} {mg : Str → Option Value} {base : Heap} {x qual : Str} {st : Stmt} {f c : Addr} {fd : FuncData} {N ps : List Str} {k : Nat} {sp : Sp} (F : Fun K x qual st f fd) (hc : fd.code = .ref c) (S : FnScope N ps (defScope st))
    (len : ∀ vs H Q E, sp vs H Q E → vs.length = ps.length)
    (hbody : ∀ (A : Around) (outer : List Env) (s : Shared) (H : Hp) (vs : List V) (Q : VK) (E : XK), Room k (A.deeper (envOfC qual (defScope st) s.heap.objs.size f (.ref c))) → sp vs H Q E →
      ∃ t, PSs (cxOf CX0 P w K mg base N qual (defScope st) f (.ref c) A outer s H E) (defBody st) t ∧ t { nx := fun _ H' => Q .non H', rt := Q } (L2.start N vs) H) : FnOk P w K mg base CX0 (k + 1) f fd ps sp := by
  obtain ⟨oc, od, kV, doc, pm, an, cdv, ct, osl, rfl, lk, hcd⟩ := F.ex
  obtain rfl : cdv = .ref c := hc
  refine ⟨len, fun A outer s H args us vs Q E hr e0 hb r hs => ?_⟩
  exact run_ofS lk hcd S hr e0 hb r (len _ _ _ _ hs) fun hr' => hbody A outer s H vs Q E hr' hs
/-- what a def that makes lambdas leaves: all but tables as it was, new things beside it -/
structure Left (T : List (Addr × Str)) (H H' : Hp) : Prop where
  e : ExtN H H'
  n : ∀ b, H' b = none → H b = none
  t : Tabs T H'
theorem Left.trans {T : List (Addr × Str)} {H H1 H2 : Hp} (a : Left T H H1) (b : Left T H1 H2) : Left T H H2 := ⟨a.e.trans b.e, fun c h => a.n c (b.n c h), b.t⟩
theorem Left.same {T : List (Addr × Str)} {H H1 : Hp} (t : Tabs T H) (s : Same H H1) : Left T H H1 := ⟨fun b o e _ => s b o e, fun b h => none_same s h, t.ext s⟩
end L3
namespace K03
open PySem PySem.Spec PyProof.Rows L2 LamX NdefX L3 TL
theorem DeedAt.mk {X : Cx} {σ : L2.St} {k : Nat} {cB cN : Addr} {H : Hp} {f c' : Addr} {r : Option V} {params : Arguments} {body : Expr} {scope : Scope} {t : XK → TE} (L : LamS X.env.scope scope) (hb : ∀ (q : Str) (cl : List (Str × Addr)) (pm cv ctv : Value), bindArgs (PySem.W.kla_fn "<lambda>" q params body scope cl pm cv ctv) ⟨[], []⟩ = pure [])
    (hbody : ∀ (A : Around) (outer : List Env) (s : Shared) (H : Hp) (E : XK) (f c' : Addr), Room k (A.deeper (lamEnv X scope s.heap.objs.size f c')) → PE (lamCx X A outer s H E scope f c') body (t E))
    (hf : H f = some (LamO f (lwOf X params body scope) c')) (hc : H c' = some (CodeO c' (X.env.qual ++ "<lambda>"))) (ht : ∀ H', Same H H' → ∀ E' Q', Leaves cB cN r H' E' → t E' σ H' Q') : DeedAt X σ k cB cN H f r := ⟨params, body, scope, t, c', L, hb, hbody, hf, hc, ht⟩
end K03
end
section
set_option maxHeartbeats 4000000
namespace K03
open PySem PySem.Spec PyProof.Rows L2 LamX NdefX L3 TL
/-- a thing of another kind, as the law has it -/
inductive OddE (H : Hp) : V → Prop
  | non : OddE H .non
  | bl (b : Bool) : OddE H (.bl b)
  | str (z : Str) (s : SeqAt.shaped (.str z) = true) : OddE H (.str z)
  | lst {a : Addr} (ns : List Int) (e : H a = some (.lst (ns.map V.int))) (q : PyData.eqv (.list (ns.map PyData.int)) (.list (ns.map PyData.int)) = true) : OddE H (.ref a)
  | tup {a : Addr} {o : Obj} (ns : List Int) (e : H a = some (.frz o (.tup (ns.map V.int)))) (d : o.dict = none) (q : PyData.eqv (.tuple (ns.map PyData.int)) (.tuple (ns.map PyData.int)) = true) (s : SeqAt.shaped (.tuple (ns.map PyData.int)) = true) : OddE H (.ref a)
  | dic {a : Addr} (e : H a = some (.dK [])) : OddE H (.ref a)
theorem OddE.same {H H' : Hp} {v : V} (h : OddE H v) (s : Same H H') : OddE H' v := by
  cases h with
  | non => exact .non
  | bl b => exact .bl b
  | str z y => exact .str z y
  | lst ns e q => exact .lst ns (s _ _ e) q
  | tup ns e d q z => exact .tup ns (s _ _ e) d q z
  | dic e => exact .dic (s _ _ e)
theorem OddE.odd {K : PySem.W.Frag} {H : Hp} {v : V} (h : OddE H v) : Odd K H v := by
  cases h with
  | non => exact ⟨"NoneType", by decide +kernel, by decide, .base .non, fun _ z => nomatch z⟩
  | bl b => exact ⟨"bool", by decide +kernel, by decide, .base (.bl b), fun _ z => nomatch z⟩
  | str z _ => exact ⟨"str", by decide +kernel, by decide, .base (.str z), fun _ z => nomatch z⟩
  | lst ns e q => exact ⟨"list", by decide +kernel, by decide, .base (.lst e), fun _ z => by cases z; exact .inl ⟨_, e⟩⟩
  | tup ns e d q z => exact ⟨"tuple", by decide +kernel, by decide, .fTuple e, fun _ z => by cases z; exact .inr (.inl ⟨_, _, e, d⟩)⟩
  | dic e => exact ⟨"dict", by decide +kernel, by decide, .base (.dK e), fun _ z => by cases z; exact .inr (.inr ⟨_, e⟩)⟩
theorem dp_all {K : PySem.W.Frag} {H : Hp} : ∀ ns : List Int, DpAll K H (ns.map V.int) (ns.map PyData.int)
  | [] => .nil
  | n :: r => .cons (.int n) (dp_all r)
theorem kinds_kit {T : String} (h : T ∈ kinds) : (∃ b, kitB T "bool" = some b) ∧ ∃ b, kitB T "list" = some b := by
  unfold kinds at h
  simp only [List.mem_cons, List.not_mem_nil, or_false] at h
  rcases h with rfl | rfl | rfl | rfl | rfl | rfl | rfl <;> first
    | exact ⟨⟨true, by decide +kernel⟩, ⟨false, by decide +kernel⟩⟩
    | exact ⟨⟨false, by decide +kernel⟩, ⟨true, by decide +kernel⟩⟩
    | exact ⟨⟨false, by decide +kernel⟩, ⟨false, by decide +kernel⟩⟩
theorem OddE.but {H H' : Hp} {v : V} {d : Addr} (h : OddE H v) (e : ∀ b o, H b = some o → (∀ ps, o ≠ .tbl ps) → b ≠ d → H' b = some o) (hd : ∀ a, v = .ref a → a ≠ d) : OddE H' v := by
  cases h with
  | non => exact .non
  | bl b => exact .bl b
  | str z y => exact .str z y
  | lst ns x q => exact .lst ns (e _ _ x (fun _ z => by cases z) (hd _ rfl)) q
  | tup ns x dd q z => exact .tup ns (e _ _ x (fun _ z => by cases z) (hd _ rfl)) dd q z
  | dic x => exact .dic (e _ _ x (fun _ z => by cases z) (hd _ rfl))
end K03
end
section
set_option maxHeartbeats 4000000
namespace K03
open PySem PySem.Spec PyProof.Rows L2 LamX NdefX L3
/-- what a refusal tells: a thing of another kind, or a Ratio -/
def Thing (C : Addr) (H : Hp) (v : V) : Prop := OddE H v ∨ ∃ (a dx : Addr) (q : Int × Int), v = .ref a ∧ H a = some (rat C dx q)
theorem Thing.same {C : Addr} {H H' : Hp} {v : V} (h : Thing C H v) (s : Same H H') : Thing C H' v := by
  rcases h with h | ⟨a, dx, q, e, h⟩
  · exact .inl (h.same s)
  · exact .inr ⟨a, dx, q, e, s _ _ h⟩
/-- the class's own == -/
structure EqR (P : Program) (w : World) (K : PySem.W.Frag) (mg : Str → Option Value) (base : Heap) (C : Addr) : Prop where
  ex : ∃ (f : Addr) (fd : FuncData), PySem.W.findIn K (.ref C) "__eq__" = some (some (.ref f)) ∧ PySem.W.isFn K (.ref f) = true ∧ FnOk P w K mg base CX0 1 f fd ["self", "other"] (spEq K C) ∧ Binds K fd ["self", "other"] []
section
variable {P : Program} {w : World} {K : PySem.W.Frag} {mg : Str → Option Value} {base : Heap} {cB cN C fI : Addr}
end
end K03
end
section
set_option maxHeartbeats 4000000
namespace L2
open PySem PySem.Spec PyProof.Rows
/-- t == t, a tuple of objects -/
def rEqTs (K : PySem.W.Frag) : R2 := fun x y H Q => ∃ a xs, x = .ref a ∧ y = .ref a ∧ SqT K H a xs ∧ (∀ v ∈ xs, ∃ p, v = .ref p) ∧ Q (.bl true) H
theorem op_eqTs {X : Cx} (hu : X.A.units < cLine) : OpR X (compareOp .Eq) (rEqTs X.K) := by
  rintro pins s σ H x y v u Q I rx ry ⟨a, xs, rfl, rfl, hq, all, q⟩
  cases rx
  cases ry
  obtain ⟨its, r, p, _⟩ := I.tuple hq
  refine GQ.rc_tupG rfl hu (fun _ s' => s' = s) p p (fun i h1 h2 s' e => ?_) (fun s' e => by subst e; exact ⟨.bl true, H, I, rfl, q⟩) rfl
  subst e
  have h1' : i < its.length := by simpa using h1
  obtain ⟨y, hy, ry⟩ : ∃ y, xs[i]? = some y ∧ RelV y its.toArray[i] := by
    have k1 : i < xs.length := by rw [r.length]; exact h1'
    obtain ⟨w, hw, rw_⟩ := r.get (List.getElem?_eq_getElem k1)
    refine ⟨_, List.getElem?_eq_getElem k1, ?_⟩
    rw [List.getElem?_eq_getElem h1'] at hw
    cases hw
    simpa using rw_
  obtain ⟨p', rfl⟩ := all y (List.mem_of_getElem? hy)
  rw [show its.toArray[i] = Value.ref p' from ry]
  exact SeqAt.EqAt.same _ _ _ _ _ ⟨rfl, rfl⟩
end L2
namespace K03
open PySem PySem.Spec PyProof.Rows L2 LamX NdefX L3
abbrev sAlik6 : Stmt := top 54
/-- what a refusal tells here -/
inductive Thing6 (C : Addr) (H : Hp) : V → Prop
  | old {v : V} (h : Thing C H v) : Thing6 C H v
  | int (i : Int) : Thing6 C H (.int i)
  | rats {a : Addr} {xs : List V} {ps : List (Int × Int)} (e : H a = some (.tup xs)) (p : Paired (RV C H) xs ps) : Thing6 C H (.ref a)
theorem Thing6.same {C : Addr} {H H' : Hp} {v : V} (h : Thing6 C H v) (s : Same H H') : Thing6 C H' v := by
  cases h with
  | old h => exact .old (h.same s)
  | int i => exact .int i
  | rats e p => exact .rats (s _ _ e) (Paired.mapP p fun _ _ z => z.same s)
def spAlik6 (C : Addr) : Sp := fun vs H Q _ => ∃ v, vs = [v, v] ∧ Thing6 C H v ∧ Q (.bl true) H
section
variable {P : Program} {w : World} {K : PySem.W.Frag} {mg : Str → Option Value} {base : Heap} {cB cN C fI : Addr}
theorem scAlik6 : FnScope ["_law_told_here", "_law_due"] ["_law_told_here", "_law_due"] (defScope sAlik6) := ⟨rfl, rfl, rfl, by decide +kernel, rfl, by decide +kernel, by decide +kernel⟩
theorem ok_alik6 {f : Addr} {fd : FuncData} (F : Fun K "_law_alike" "_law_alike" sAlik6 f fd) (T : TxtR mg) (R : Rat P w K mg base cB cN C fI) (EQ : EqR P w K mg base C) : FnOk P w K mg base CX0 2 f fd ["_law_told_here", "_law_due"] (spAlik6 C) := by
  obtain ⟨fe, fde, he1, he2, Fe, be⟩ := EQ.ex
  refine F.ok scAlik6 (fun vs H Q E h => ?_) (fun cdv A outer s H vs Q E hr h => ?_)
  · obtain ⟨v, rfl, _⟩ := h
    rfl
  · obtain ⟨v, rfl, th, q⟩ := h
    have hr1 : Room 1 _ := hr.mono (by decide)
    have hu := hu_of hr1
    refine ⟨_, pss_cons (ps_if (PW.pt (pw_or (pt_cmpR op_ne (pe_callB call_isi (by rfl) T.isi (by decide +kernel) (pa_cons (pv 0) (pa_cons (pe_bltn (v := .ty "bool") (u := .type "bool") (by rfl) T.bool (by decide +kernel) rfl) pa_nil))) (pe_callB call_isi (by rfl) T.isi (by decide +kernel) (pa_cons (pv 1) (pa_cons (pe_bltn (v := .ty "bool") (u := .type "bool") (by rfl) T.bool (by decide +kernel) rfl) pa_nil))) (nomark _))
      (pw_or1 (pt_cmpR op_ne (pe_callB call_isi (by rfl) T.isi (by decide +kernel) (pa_cons (pv 0) (pa_cons (pe_bltn (v := .ty "list") (u := .type "list") (by rfl) T.list (by decide +kernel) rfl) pa_nil))) (pe_callB call_isi (by rfl) T.isi (by decide +kernel) (pa_cons (pv 1) (pa_cons (pe_bltn (v := .ty "list") (u := .type "list") (by rfl) T.list (by decide +kernel) rfl) pa_nil))) (nomark _))))) (pss_one (ps_ret pe_bl)) pss_nil)
      (pss_one (ps_ret (pe_cmpR (OpR.or (op_eqD hr1.units) (OpR.or (op_eq_dict (Nat.lt_of_succ_lt hu)) (OpR.or (op_eqTs (Nat.lt_of_succ_lt hu)) (op_eqOwn (E := E0) (Nat.lt_of_succ_lt hu) he1 he2 Fe hr1 be pass0)))) (pv 0) (pv 1) (nomark _)))), ?_⟩
    have ty : ∃ (t : Value) (b c : Bool), TyX K H v t ∧ PySem.W.kitOne K t (.type "bool") = some b ∧ PySem.W.kitOne K t (.type "list") = some c := by
      cases th with
      | old th =>
        rcases th with o | ⟨a, dx, p, rfl, e⟩
        · obtain ⟨T', h1, h2, h3, _⟩ := o.odd (K := K)
          obtain ⟨⟨b, e1⟩, ⟨c, e2⟩⟩ := kinds_kit h1
          exact ⟨_, b, c, h3, kit_ty e1, kit_ty e2⟩
        · exact ⟨.ref C, false, false, R.tyx H a dx _ e, R.cls.kitI (by decide +kernel) (by decide), R.cls.kitI (by decide +kernel) (by decide)⟩
      | int i => exact ⟨.type "int", false, false, .base (.int i), kit_ty (by decide +kernel), kit_ty (by decide +kernel)⟩
      | rats e p => exact ⟨.type "tuple", false, false, .base (.tup e), kit_ty (by decide +kernel), kit_ty (by decide +kernel)⟩
    obtain ⟨t, b, c, ty, kb, kc⟩ := ty
    refine ⟨_, rfl, _, .ty "bool", t, .type "bool", b, rfl, .ty _, ty, kb, ?_⟩
    refine ⟨_, rfl, _, .ty "bool", t, .type "bool", b, rfl, .ty _, ty, kb, rfl, _, rfl, ?_⟩
    refine ite2 (fun z => absurd z (by simp)) (fun _ => ?_)
    refine ⟨_, rfl, _, .ty "list", t, .type "list", c, rfl, .ty _, ty, kc, ?_⟩
    refine ⟨_, rfl, _, .ty "list", t, .type "list", c, rfl, .ty _, ty, kc, rfl, _, rfl, ?_⟩
    refine ite2 (fun z => absurd z (by simp)) (fun _ => ?_)
    refine ⟨_, rfl, _, rfl, ?_⟩
    cases th with
    | int i =>
      have e : PyData.eqv (.int i) (.int i) = true := by simp [PyData.eqv]
      exact .inl ⟨.int i, .int i, .int i, .int i, rfl, rfl, by rw [e]; exact q⟩
    | @rats a xs ps e p =>
      refine .inr (.inr (.inl ⟨a, xs, rfl, rfl, SqT.of e, fun v hv => ?_, q⟩))
      obtain ⟨i, hi⟩ := List.mem_iff_getElem?.mp hv
      obtain ⟨_, _, b, _, eb, _⟩ := paired_at p hi
      exact ⟨b, eb⟩
    | old th =>
      rcases th with o | ⟨a, dx, p, rfl, e⟩
      · cases o with
        | non => exact .inl ⟨.none, .none, .non, .non, rfl, rfl, q⟩
        | bl b => exact .inl ⟨.bool b, .bool b, .bl b, .bl b, rfl, rfl, by cases b <;> exact q⟩
        | str z sh =>
          refine .inl ⟨.str z, .str z, .str z, .str z, sh, sh, ?_⟩
          have e : PyData.eqv (.str z) (.str z) = true := by simp [PyData.eqv]
          rw [e]
          exact q
        | lst ns e y => exact .inl ⟨_, _, .lst (SqL.of e) (dp_all ns), .lst (SqL.of e) (dp_all ns), PySem.W.ke_shaped_ints _, PySem.W.ke_shaped_ints _, by rw [y]; exact q⟩
        | tup ns e d y z => exact .inl ⟨_, _, .tup (.inl (.inr ⟨_, e⟩)) (dp_all ns), .tup (.inl (.inr ⟨_, e⟩)) (dp_all ns), z, z, by rw [y]; exact q⟩
        | dic e => exact .inr (.inl ⟨_, _, [], rfl, rfl, e, e, .nil, (fun _ h => by simp at h), q⟩)
      · refine .inr (.inr (.inr ⟨a, dx, _, rfl, e, .ins e, a, dx, _, p, rfl, e, .inl ⟨a, dx, p, rfl, e, ?_⟩⟩))
        rw [decide_eq_true rfl]
        exact q
end
end K03
end
section
set_option maxHeartbeats 8000000
set_option exponentiation.threshold 100000
namespace K03
open PySem PySem.Spec PyProof.Rows L2 LamX NdefX L3 TL PolyM
abbrev sRefd6 : Stmt := top 56
abbrev sRef6 : Stmt := top 73
abbrev qRef6 : Str := "_law_refusals_right.<locals>.<lambda>"
theorem cf_cons0 {p : Int × Int} {ps : List (Int × Int)} : cf (p :: ps) 0 = val p := rfl
theorem cf_consS {p : Int × Int} {ps : List (Int × Int)} {k : Nat} : cf (p :: ps) (k + 1) = cf ps k := rfl
theorem cf_nil (k : Nat) : cf [] k = 0 := cf_out (Nat.zero_le _)
theorem cf_addP : ∀ {ps qs : List (Int × Int)}, (∀ p ∈ ps, Low p) → (∀ p ∈ qs, Low p) → ∀ k, cf (addP ps qs) k = cf ps k + cf qs k
  | [], qs, _, _, k => by
    rw [cf_nil, show addP [] qs = qs by unfold addP; simp]
    grind
  | p :: ps, [], _, _, k => by
    rw [cf_nil, show addP (p :: ps) [] = p :: ps by unfold addP; simp]
    grind
  | p :: ps, q :: qs, hp, hq, k => by
    rw [show addP (p :: ps) (q :: qs) = padd p q :: addP ps qs by unfold addP; simp]
    cases k with
    | zero => rw [cf_cons0, cf_cons0, cf_cons0, val_add (hp p List.mem_cons_self) (hq q List.mem_cons_self)]
    | succ k => rw [cf_consS, cf_consS, cf_consS, cf_addP (fun x h => hp x (List.mem_cons_of_mem _ h)) (fun x h => hq x (List.mem_cons_of_mem _ h))]
theorem low_neg {p : Int × Int} (h : Low p) : Low (pneg p) := by
  rw [pneg_low h]
  exact ⟨h.pos, by show Nat.Coprime (-p.1).natAbs _; rw [Int.natAbs_neg]; exact h.co⟩
theorem val_neg {p : Int × Int} (h : Low p) : val (pneg p) = - val p := by
  rw [pneg_low h]
  have := cast_ne h.ne
  unfold val
  rw [Rat.intCast_neg]
  grind
theorem cf_neg {ps : List (Int × Int)} (h : ∀ p ∈ ps, Low p) (k : Nat) : cf (ps.map pneg) k = - cf ps k := by
  by_cases c : k < ps.length
  · have e := List.getElem?_eq_getElem c
    rw [cf_at (p := pneg ps[k]) (by rw [List.getElem?_map, e]; rfl), cf_at e, val_neg (h _ (List.getElem_mem c))]
  · rw [cf_out (by rw [List.length_map]; omega), cf_out (by omega)]
    grind
/-- a poly less itself is nothing -/
theorem self_less {ps : List (Int × Int)} {m n : Nat} (ip : IsP ps) (tm : TrimAt (ps.map pneg) m) (tn : TrimAt (addP ps ((ps.map pneg).take m)) n) : (addP ps ((ps.map pneg).take m)).take n = [] := by
  have l1 : ∀ p ∈ ps.map pneg, Low p := fun p hp => by
    obtain ⟨q, hq, rfl⟩ := List.mem_map.mp hp
    exact low_neg (ip.low q hq)
  have l2 : ∀ p ∈ (ps.map pneg).take m, Low p := fun p hp => l1 p (List.mem_of_mem_take hp)
  have l3 : ∀ p ∈ addP ps ((ps.map pneg).take m), Low p := fun p hp => by
    unfold addP at hp
    rcases List.mem_append.mp hp with hp | hp
    · obtain ⟨i, hi⟩ := List.mem_iff_getElem?.mp hp
      rw [List.getElem?_zipWith] at hi
      generalize hx : ps[i]? = x at hi
      generalize hy : ((ps.map pneg).take m)[i]? = y at hi
      cases x with
      | none => simp at hi
      | some x =>
        cases y with
        | none => simp at hi
        | some y =>
          simp at hi
          subst hi
          exact low_padd (ip.low x (List.mem_of_getElem? hx)) (l2 y (List.mem_of_getElem? hy))
    · rcases List.mem_append.mp hp with hp | hp
      · exact ip.low p (List.mem_of_mem_drop hp)
      · exact l2 p (List.mem_of_mem_drop hp)
  refine isP_ext (tn.isP l3) IsP.nil fun k => ?_
  rw [tn.cf l3, cf_addP ip.low l2, tm.cf l1, cf_neg ip.low, cf_nil]
  grind
/-- the deed raises BadValue with this thing -/
def spRefd6 (X : Cx) (σ : L2.St) (k : Nat) (C cB cN : Addr) : Sp := fun vs H Q _ => ∃ (f : Addr) (v : V), vs = [.ref f, v] ∧ Thing6 C H v ∧ DeedAt X σ k cB cN H f (some v) ∧ ∀ H', Same H H' → Q (.bl true) H'
section
variable {P : Program} {w : World} {K : PySem.W.Frag} {mg : Str → Option Value} {base : Heap} {cB cN C fI : Addr}
theorem scRefd6 : FnScope ["_law_deed", "_law_value", "_law_kind", "_law_told_here"] ["_law_deed", "_law_value"] (defScope sRefd6) := ⟨rfl, rfl, rfl, by decide +kernel, rfl, by decide +kernel, by decide +kernel⟩
theorem ok_refd6 {f fF fA : Addr} {fd fdA : FuncData} {X : Cx} {σ : L2.St} {k : Nat} (F : Fun K "_law_refused" "_law_refused" sRefd6 f fd) (hb : L2.Binds K fd ["_law_deed", "_law_value"] []) (hk : 1 ≤ k)
    (GF : FnRd P w K mg base CX0 (k + 2) fF (Rd X σ) (spFault X σ k cB cN)) (gF : mg "_law_fault" = some (.ref fF)) (kF : PySem.W.keepIn K (.ref fF) = true)
    (GA : FnOk P w K mg base CX0 2 fA fdA ["_law_told_here", "_law_due"] (spAlik6 C)) (gA : mg "_law_alike" = some (.ref fA)) (kA : PySem.W.keepIn K (.ref fA) = true) (bA : Binds K fdA ["_law_told_here", "_law_due"] [])
    (eP : X.prog = P) (ew : X.w = w) (eK : X.K = K) (em : X.mg = mg) (eb : X.base = base) : FnRd P w K mg base CX0 (k + 3) f (Rd X σ) (spRefd6 X σ k C cB cN) := by
  subst eP ew eK em eb
  refine fn_rd F scRefd6 hb (fun vs H Q E h => ?_) (fun cdv A outer s H vs Q E hr rd h => ?_)
  · obtain ⟨f, v, rfl, _⟩ := h
    rfl
  · obtain ⟨f, v, rfl, th, deed, q⟩ := h
    have nd := scRefd6.nd
    have hr2 : Room 2 _ := hr.mono (by omega)
    refine ⟨_, pss_cons (ps_asg (pe_callRd (E := fun _ => E0) GF hr (by rfl) gF kF (fun pins s σ H I => rd.down (CXg := CX0) (E := E) (pn := []) (xe := _) I) (fun σ pins H s e s2 I c => pass0 pins σ H s e s2 I c) (pa_cons (pv 0) pa_nil)) (pg_tup (by rfl) (pgs_cons (pg_name (i := 2) nd rfl (Or.inl rfl)) (pgs_cons (pg_name (i := 3) nd rfl (Or.inl rfl)) pgs_nil))))
      (pss_one (ps_ret (pe_and (pe_cmpR op_eq (pv 2) pe_str (nomark _)) (pe_one (pe_call GA hr2 (by rfl) gA kA bA .nil pass0 (pa_cons (pv 3) (pa_cons (pv 1) pa_nil))))))), ?_⟩
    refine ⟨_, rfl, f, some v, rfl, deed, fun p H1 np s1 ep => ?_⟩
    refine ⟨p, _, rfl, SqT.of ep, rfl, _, _, rfl, _, _, rfl, rfl, ?_⟩
    refine ⟨_, rfl, rfl, _, rfl, ?_⟩
    refine ⟨_, rfl, _, rfl, v, rfl, th.same s1, q H1 s1⟩
end
def spRef6 (T : List (Addr × Str)) : Sp := fun vs H Q _ => ∃ (d c : Addr) (s r : Int) (cells : List Int), vs = [.ref d] ∧ PenAt H d c s r cells ∧ 0 ≤ s ∧ s + 2000 ≤ 100000 ∧ cells.length ≤ 63 ∧ Tabs T H ∧
  ∀ (s' r' : Int) (H' : Hp), 0 ≤ s' → s' ≤ s + 1000 → PenAt H' d c s' r' cells → ButT T d H H' → Q (.bl true) H'
abbrev nRef6 : List Str := ["_law_pen_here", "_law_made", "_law_odd", "_law_deeds", "_law_deed"]
section
variable {P : Program} {w : World} {K : PySem.W.Frag} {mg : Str → Option Value} {base : Heap} {cB cN C fI CP CM fP fM fD fF fA fR cc PP fS gS : Addr} {fdD fdF fdA fdR fdS : FuncData} {T : List (Addr × Str)}
theorem polyAt_ext {H H' : Hp} {a : Addr} {ps : List (Int × Int)} (h : PolyAt C CP CM H a ps) (e : ∀ b o, H b = some o → (∀ ps, o ≠ .tbl ps) → H' b = some o) : PolyAt C CP CM H' a ps := by
  obtain ⟨dx, t, xs, mk, dm, tb, h1, h2, h3, h4, h5⟩ := h
  refine ⟨dx, t, xs, mk, dm, tb, e _ _ h1 (by simp), e _ _ h2 (by simp), Paired.mapP h3 fun _ _ z => ?_, e _ _ h4 (by simp), e _ _ h5 (by simp)⟩
  obtain ⟨a, dx, q, h⟩ := z
  exact ⟨a, dx, q, e _ _ h (by unfold rat; simp)⟩
theorem thing6_ext {H H' : Hp} {v : V} {d : Addr} (h : Thing6 C H v) (e : ∀ b o, H b = some o → (∀ ps, o ≠ .tbl ps) → H' b = some o) (n : ∀ b, v = .ref b → b ≠ d) : Thing6 C H' v := by
  cases h with
  | old h =>
    rcases h with h | ⟨a, dx, q, ev, h⟩
    · exact .old (.inl (h.but (fun b o x m _ => e b o x m) n))
    · exact .old (.inr ⟨a, dx, q, ev, e _ _ h (by unfold rat; simp)⟩)
  | int i => exact .int i
  | rats h p =>
    refine .rats (e _ _ h (by simp)) (Paired.mapP p fun _ _ z => ?_)
    obtain ⟨a, dx, q, h⟩ := z
    exact ⟨a, dx, q, e _ _ h (by unfold rat; simp)⟩
theorem th6_no (R : Rat P w K mg base cB cN C fI) (PL : Pol P w K mg base cB C CP CM fP fM) (ne : C ≠ CP) {H : Hp} {v : V} (h : Thing6 C H v) : NoPoly K CP H v := by
  cases h with
  | old h =>
    rcases h with h | ⟨a, dx, q, rfl, h⟩
    · obtain ⟨T', k1, k2, k3, k4⟩ := h.odd (K := K)
      exact ⟨_, k3, cls_kitT PL.cls.t1 PL.cls.ty (kinds_blt k1)⟩
    · exact ⟨_, R.tyx _ _ _ _ h, cls_kitC PL.cls.t1 PL.cls.ty R.cls.t1 ne⟩
  | int i => exact ⟨_, .base (.int i), cls_kitT PL.cls.t1 PL.cls.ty (by decide +kernel)⟩
  | rats h p => exact ⟨_, .base (.tup h), cls_kitT PL.cls.t1 PL.cls.ty (by decide +kernel)⟩
theorem scRef6 : FnScope nRef6 ["_law_pen_here"] (defScope sRef6) := ⟨rfl, rfl, rfl, by decide +kernel, rfl, by decide +kernel, by decide +kernel⟩
theorem ok_ref6 {f : Addr} {fd : FuncData} (F : Fun K "_law_refusals_right" "_law_refusals_right" sRef6 f fd) (hcode : fd.code = .ref cc) (B : TxtR mg) (TB : TabB base mg cc PP) (hm : (PP, qRef6) ∈ T) (hu : ∀ p ∈ T, p.1 = PP → p.2 = qRef6)
    (R : Rat P w K mg base cB cN C fI) (L : PolL P w K mg base C CP CM cB cN fD fdD) (PL : Pol P w K mg base cB C CP CM fP fM) (ER : ErrR P w K mg base cB cN) (MR : ExmR K cB cN) (ne : C ≠ CP)
    (OS : OpC K CP fS gS .Sub) (FS : FnOk P w K mg base (L2.CX P w) 12 fS fdS ["self", "other"] (spSubP C CP CM)) (bS : Binds K fdS ["self", "other"] [])
    (FF : Fun K "_law_fault" "_law_fault" sFault fF fdF) (gF : mg "_law_fault" = some (.ref fF)) (bF : L2.Binds K fdF ["_law_deed"] [])
    (FR : Fun K "_law_refused" "_law_refused" sRefd6 fR fdR) (gR : mg "_law_refused" = some (.ref fR)) (bR : L2.Binds K fdR ["_law_deed", "_law_value"] [])
    (GA : FnOk P w K mg base CX0 2 fA fdA ["_law_told_here", "_law_due"] (spAlik6 C)) (gA : mg "_law_alike" = some (.ref fA)) (kA : PySem.W.keepIn K (.ref fA) = true) (bA : Binds K fdA ["_law_told_here", "_law_due"] [])
    (hP : Dfn P w K mg base CX0 2 "_law_pick" ["_law_pen_here", "_law_some_here"] spPick) : FnOk P w K mg base CX0 17 f fd ["_law_pen_here"] (spRef6 T) := by
  refine okC F hcode scRef6 (fun vs H Q E h => ?_) (fun A outer s H vs Q E hr h => ?_)
  · obtain ⟨d, c, s, r, cells, rfl, _⟩ := h
    rfl
  · obtain ⟨d, c, st, r, cells, rfl, pn, h0, h1, hl, hT, k⟩ := h
    have nd := scRef6.nd
    have hr2 : Room 2 _ := hr.mono (by decide)
    have hr5 : Room 5 _ := hr.mono (by decide)
    have hr16 : Room 16 _ := hr
    have hr15 : Room 15 _ := hr.mono (by decide)
    have GF := fun σ => ok_fault (X := (cxOf CX0 P w K mg base nRef6 "_law_refusals_right" (defScope sRef6) f (.ref cc) A outer s H E)) (σ := σ) (k := 13) FF bF ER MR rfl rfl rfl rfl rfl
    have GR := fun σ => ok_refd6 (X := (cxOf CX0 P w K mg base nRef6 "_law_refusals_right" (defScope sRef6) f (.ref cc) A outer s H E)) (C := C) (σ := σ) (k := 13) FR bR (by decide) (GF σ) gF FF.kp GA gA kA bA rfl rfl rfl rfl rfl
    refine ⟨_, pss_cons (ps_set (i := 1) nd rfl (Or.inr rfl) (dc L.poly hr (by decide) (pa_cons (pv 0) (pa_cons (dc L.some hr (by decide) (pa_cons (pv 0) (pa_cons pe_int pa_nil))) pa_nil))))
      (pss_cons (ps_set (i := 2) nd rfl (Or.inr rfl) (dc hP hr (by decide) (pa_cons (pv 0) (pa_cons (pe_lst (pa_cons pe_non (pa_cons pe_bl (pa_cons pe_bl (pa_cons pe_str (pa_cons pe_str (pa_cons (pe_lst (pa_cons pe_int pa_nil)) (pa_cons (pe_tupF (pa_cons pe_int (pa_cons pe_int pa_nil))) (pa_cons pe_dnewK (pa_cons pe_int (pa_cons pe_int (pa_cons (pe_rat2 (E := E0) R hr5 passL pe_int pe_int) (pa_cons (pe_fld (pv 1) rfl) pa_nil))))))))))))) pa_nil))))
      (pss_cons (ps_set (i := 3) nd rfl (Or.inl rfl) (pe_lst (pa_cons (pe_lam (T := T) TB rfl hm hu (lamS_by (sc := defScope sRef6) (by decide +kernel))) (pa_cons (pe_lam (T := T) TB rfl hm hu (lamS_by (sc := defScope sRef6) (by decide +kernel))) (pa_cons (pe_lam (T := T) TB rfl hm hu (lamS_by (sc := defScope sRef6) (by decide +kernel))) pa_nil)))))
      (pss_cons (ps_if (pt_not (pt_val (pe_callB (cr_all rfl) (by rfl) B.all (by decide +kernel) (pa_cons (pe_lcS (own := [("_law_deed", 4)]) (g := gName 4) (tt := tYes) rfl nd (pi_list (pv 3)) (blkOk_by (N := nRef6) (sc := defScope sRef6) (by decide +kernel)) (fun _ _ _ _ _ => pg_name (i := 4) nd rfl (Or.inl rfl)) (fun _ _ _ _ _ => pts_nil)
          (fun pins σ s H cl fp I hc => by exact (pe_cmpR (show OpR _ (compareOp .Eq) (rEqD K) from op_eqD hr2.units) (pe_callRd (E := fun _ => E0) (GF σ) hr15 (by rfl) gF FF.kp (fun pins' s' σ' H' J' => Rd.block (pn := []) (xe := fun _ _ => False) I hc J') (fun σ2 pins2 H2 s2 e2 s3 I2 c2 => pass0 pins2 σ2 H2 s2 e2 s3 I2 c2) (pa_cons (pv 4) pa_nil)) (pe_tup (pa_cons pe_str (pa_cons pe_non pa_nil))) (nomark _)))) pa_nil)))) (pss_one (ps_ret pe_bl)) pss_nil)
      (pss_one (ps_ret (pe_callRdS (E := fun _ => E0) GR hr16 (by rfl) gR FR.kp (fun pins s σ H I => Rd.start I) (fun σ2 pins2 H2 s2 e2 s3 I2 c2 => pass0 pins2 σ2 H2 s2 e2 s3 I2 c2) (pa_cons (pe_lam (T := T) TB rfl hm hu (lamS_by (sc := defScope sRef6) (by decide +kernel))) (pa_cons (pv 2) pa_nil)))))))), ?_⟩
    have hdk := pn.dc
    -- the poly
    refine seq_to (fun σ' G => ∃ (a : Addr) (ps : List (Int × Int)) (s1 r1 : Int), σ' = [some (.ref d), some (.ref a), none, none, none] ∧ IsP ps ∧ (∀ p ∈ ps, Fit p) ∧ ps.length ≤ 4 ∧ 0 ≤ s1 ∧ s1 ≤ st + 190 ∧ PenAt G d c s1 r1 cells ∧ SameBut d H G ∧ PolyAt C CP CM G a ps) (fun kk hK => ?_) ?_
    · refine ⟨_, rfl, _, rfl, d, c, st, r, cells, 4, rfl, pn, h0, by omega, hl, by decide, fun l ps s1 r1 H1 _ ip fw le a1 a2 a3 a4 hp => ?_⟩
      refine ⟨d, c, l, s1, r1, cells, ps, rfl, a3, a1, by omega, hl, hp, ip, fun p hp => (fw p hp).pb.f, by omega, fun a s2 r2 H2 b1 b2 b3 b4 ha => ?_⟩
      exact hK _ _ ⟨a, ps, s2, r2, rfl, ip, fun p hp => (fw p hp).pb.f, le, b1, by omega, b3, a4.tr3 b4, ha⟩
    rintro σ' G1 ⟨a, ps, s1, r1, rfl, ip, fps, lps, p1, q1, pn1, sb1, ha1⟩
    have T1 : Tabs T G1 := tabs_but hT hdk sb1
    -- a thing of another kind
    refine seq_to (fun σ' G => ∃ (v : V) (s2 r2 : Int), σ' = [some (.ref d), some (.ref a), some v, none, none] ∧ Thing6 C G v ∧ NoPoly K CP G v ∧ (∀ b, v = .ref b → b ≠ d) ∧ 0 ≤ s2 ∧ s2 ≤ st + 191 ∧ PenAt G d c s2 r2 cells ∧ SameBut d G1 G) (fun kk hK => ?_) ?_
    · refine ⟨_, rfl, by show 1 ≤ sizeLine; decide, fun l1 n1 => ?_⟩
      have z1 := Same.new (o := .lst [.int 1]) (fun _ _ e => e : Same G1 G1) n1
      have o1 : OddE (upd G1 l1 (.lst [.int 1])) (.ref l1) := .lst [1] upd_same (by decide +kernel)
      have m1 : l1 ≠ d := (ne_of_none pn1.dc n1).symm
      generalize upd G1 l1 (.lst [.int 1]) = G2 at z1 o1 ⊢
      refine ⟨by show 2 ≤ sizeLine; decide, fun t1 ob1 n2 d1 => ?_⟩
      have z2 := Same.new (o := .frz ob1 (.tup [.int 1, .int 2])) (fun _ _ e => e : Same G2 G2) n2
      have o2 : OddE (upd G2 t1 (.frz ob1 (.tup [.int 1, .int 2]))) (.ref t1) := .tup [1, 2] upd_same d1 (by decide +kernel) (by decide +kernel)
      have m2 : t1 ≠ d := (ne_of_none (z1 _ _ pn1.dc) n2).symm
      generalize upd G2 t1 (.frz ob1 (.tup [.int 1, .int 2])) = G3 at z2 o2 ⊢
      intro dd n3
      have z3 := Same.new (o := .dK []) (fun _ _ e => e : Same G3 G3) n3
      have o3 : OddE (upd G3 dd (.dK [])) (.ref dd) := .dic upd_same
      have m3 : dd ≠ d := (ne_of_none (z2 _ _ (z1 _ _ pn1.dc)) n3).symm
      generalize upd G3 dd (.dK []) = G4 at z3 o3 ⊢
      have z13 := z1.trans (z2.trans z3)
      refine .good 1 2 rfl rfl (by decide) (by decide +kernel) fun x dx G5 nx z4 hx => ?_
      have m4 : x ≠ d := (ne_of_none (z13 _ _ pn1.dc) nx).symm
      have z14 := z13.trans z4
      have ha5 := ha1.same z14
      obtain ⟨dp, tp, xs, mk, dm, tb, h1, h2, h3, h4, h5⟩ := id ha5
      have m5 : tp ≠ d := ne_of h2 (z14 _ _ pn1.dc) (by intro z; cases z)
      refine ⟨_, rfl, a, CP, dp, _, V.ref tp, rfl, h1, PL.cls.c, PL.cls.nP, rfl, by show 12 ≤ sizeLine; decide, fun l n6 => ?_⟩
      have z5 := Same.new (o := .lst [.non, .bl true, .bl false, .str "1", .str "", .ref l1, .ref t1, .ref dd, .int 3, .int 0, .ref x, .ref tp]) (fun _ _ e => e : Same G5 G5) n6
      have el : upd G5 l (.lst [.non, .bl true, .bl false, .str "1", .str "", .ref l1, .ref t1, .ref dd, .int 3, .int 0, .ref x, .ref tp]) l = some (.lst [.non, .bl true, .bl false, .str "1", .str "", .ref l1, .ref t1, .ref dd, .int 3, .int 0, .ref x, .ref tp]) := upd_same
      generalize upd G5 l (.lst [.non, .bl true, .bl false, .str "1", .str "", .ref l1, .ref t1, .ref dd, .int 3, .int 0, .ref x, .ref tp]) = G6 at z5 el ⊢
      have zA := z14.trans z5
      refine ⟨d, c, l, s1, r1, cells, _, rfl, pn1.to3 zA, p1, by omega, hl, el, by show 0 < 12; decide, by show 12 ≤ 1000; decide, fun v s2 r2 G7 hv a1 a2 a3 a4 => ?_⟩
      have odd : ∀ {v : V}, OddE G6 v → (∀ b, v = .ref b → b ≠ d) → Thing6 C G7 v ∧ NoPoly K CP G7 v ∧ (∀ b, v = .ref b → b ≠ d) := fun {v} o n => by
        have o7 : OddE G7 v := o.but (fun b o e _ m => a4 _ _ e m) n
        obtain ⟨T', k1, k2, k3, k4⟩ := o7.odd (K := K)
        exact ⟨.old (.inl o7), ⟨_, k3, cls_kitT PL.cls.t1 PL.cls.ty (kinds_blt k1)⟩, n⟩
      have int : ∀ i : Int, Thing6 C G7 (.int i) ∧ NoPoly K CP G7 (.int i) ∧ (∀ b, V.int i = .ref b → b ≠ d) := fun i => ⟨.int i, ⟨_, .base (.int i), cls_kitT PL.cls.t1 PL.cls.ty (by decide +kernel)⟩, fun _ y => nomatch y⟩
      have all : Thing6 C G7 v ∧ NoPoly K CP G7 v ∧ (∀ b, v = .ref b → b ≠ d) := by
        simp only [List.mem_cons, List.not_mem_nil, or_false] at hv
        rcases hv with rfl | rfl | rfl | rfl | rfl | rfl | rfl | rfl | rfl | rfl | rfl | rfl
        · exact odd .non (fun _ y => nomatch y)
        · exact odd (.bl _) (fun _ y => nomatch y)
        · exact odd (.bl _) (fun _ y => nomatch y)
        · exact odd (.str _ (by decide +kernel)) (fun _ y => nomatch y)
        · exact odd (.str _ (by decide +kernel)) (fun _ y => nomatch y)
        · exact odd (o1.same (z2.trans (z3.trans (z4.trans z5)))) (fun _ y => by cases y; exact m1)
        · exact odd (o2.same (z3.trans (z4.trans z5))) (fun _ y => by cases y; exact m2)
        · exact odd (o3.same (z4.trans z5)) (fun _ y => by cases y; exact m3)
        · exact int 3
        · exact int 0
        · have hx7 := a4 _ _ (z5 _ _ hx) m4
          exact ⟨.old (.inr ⟨x, dx, _, rfl, hx7⟩), ⟨_, R.tyx _ _ _ _ hx7, cls_kitC PL.cls.t1 PL.cls.ty R.cls.t1 ne⟩, fun _ y => by cases y; exact m4⟩
        · have h27 := a4 _ _ (z5 _ _ h2) m5
          have h37 : Paired (RV C G7) xs ps := Paired.mapP h3 fun y p z => by
            obtain ⟨b, db, eb, hb⟩ := z
            exact ⟨b, db, eb, a4 _ _ (z5 _ _ hb) (ne_of hb (z14 _ _ pn1.dc) (by unfold rat; intro z; cases z))⟩
          exact ⟨.rats h27 h37, ⟨_, .base (.tup h27), cls_kitT PL.cls.t1 PL.cls.ty (by decide +kernel)⟩, fun _ y => by cases y; exact m5⟩
      exact hK _ _ ⟨v, s2, r2, rfl, all.1, all.2.1, all.2.2, a1, by omega, a3, (SameBut.by3 zA).tr3 a4⟩
    rintro σ' G2 ⟨v, s2, r2, rfl, th2, np2, ngd, p2, q2, pn2, sb2⟩
    have T2 : Tabs T G2 := tabs_but T1 pn1.dc sb2
    have ha2 := ha1.but pn1.dc sb2
    have insOf : ∀ {G : Hp} {a : Addr} {ps : List (Int × Int)}, PolyAt C CP CM G a ps → ∃ (dx : Addr) (fs : List (Str × V)), G a = some (.ins CP dx fs) ∧ fs.lookup ("divided" : Str) = none := fun h => by
      obtain ⟨dx, t, xs, mk, dm, tb, h1, _⟩ := h
      exact ⟨dx, _, h1, rfl⟩
    refine seq_to (fun σ' G => ∃ (l3 : Addr) (fs : List Addr), σ' = [some (.ref d), some (.ref a), some v, some (.ref l3), none] ∧ PenAt G d c s2 r2 cells ∧ Thing6 C G v ∧ PolyAt C CP CM G a ps ∧ Left T G2 G ∧ G l3 = some (.lst (fs.map V.ref)) ∧ fs.length = 3 ∧ ∀ fz ∈ fs, DeedAt (cxOf CX0 P w K mg base nRef6 "_law_refusals_right" (defScope sRef6) f (.ref cc) A outer s H E) [some (.ref d), some (.ref a), some v, some (.ref l3), none] 13 cB cN G fz none) (fun kk hK => ?_) ?_
    · have L0 : Left T G2 G2 := Left.same T2 (fun _ _ e => e)
      refine ⟨T2, fun f1 c1 J1 e1 n1 U1 nf1 hf1 hc1 => ?_⟩
      have A1 : LamAt J1 f1 c1 _ := ⟨hf1, hc1⟩
      have L1 : Left T G2 J1 := L0.trans ⟨e1, n1, U1⟩
      clear hf1 hc1 e1 n1 nf1 L0
      refine ⟨U1, fun f2 c2 J2 e2 n2 U2 nf2 hf2 hc2 => ?_⟩
      have A2 : LamAt J2 f2 c2 _ := ⟨hf2, hc2⟩
      have A1 := A1.ext e2
      have L2 : Left T G2 J2 := L1.trans ⟨e2, n2, U2⟩
      clear hf2 hc2 e2 n2 nf2 L1
      refine ⟨U2, fun f3 c3 J3 e3 n3 U3 nf3 hf3 hc3 => ?_⟩
      have A3 : LamAt J3 f3 c3 _ := ⟨hf3, hc3⟩
      have A1 := A1.ext e3
      have A2 := A2.ext e3
      have L3 : Left T G2 J3 := L2.trans ⟨e3, n3, U3⟩
      clear hf3 hc3 e3 n3 nf3 L2
      refine ⟨by show 3 ≤ sizeLine; decide, fun l3 nl => ?_⟩
      have sl := Same.new (o := .lst [.ref f1, .ref f2, .ref f3]) (fun _ _ e => e : Same J3 J3) nl
      have LL := L3.trans (Left.same U3 sl)
      have el3 : upd J3 l3 (.lst [.ref f1, .ref f2, .ref f3]) l3 = some (.lst ([f1, f2, f3].map V.ref)) := upd_same
      have A1 := A1.same sl
      have A2 := A2.same sl
      have A3 := A3.same sl
      clear sl nl L3
      generalize upd J3 l3 (.lst [.ref f1, .ref f2, .ref f3]) = J at LL el3 A1 A2 A3 ⊢
      have aJ : PolyAt C CP CM J a ps := polyAt_ext ha2 fun b o e n => LL.e b o e n
      refine hK _ _ ⟨l3, [f1, f2, f3], rfl, ⟨LL.e _ _ pn2.dc (fun _ y => by cases y), LL.e _ _ pn2.ls (fun _ y => by cases y)⟩, thing6_ext th2 (fun b o e n => LL.e b o e n) ngd, aJ, LL, el3, rfl, fun fz hz => ?_⟩
      simp only [List.mem_cons, List.not_mem_nil, or_false] at hz
      have nopoly : ∀ {H' : Hp} {E' : XK} {Q' : VK} {l : Addr}, H' l = none → (∀ (x : Addr) (G : Hp), Same H' G → PolyAt C CP CM G x [] → Q' (.ref x) G) → PolOf K C CP CM cB (upd H' l (.lst [])) E' (.ref l) Q' := fun {H' E' Q' l} nl kq => by
        refine .inr ⟨[], ⟨[], ⟨l, rfl, .inl (SqL.of upd_same)⟩, Nat.zero_le _, .nil⟩, Nat.zero_le _, fun m tr => ?_⟩
        intro x G nx sx hx
        rw [List.take_nil] at hx
        exact kq x G ((Same.new (fun _ _ e => e) nl).trans sx) hx
      rcases hz with rfl | rfl | rfl
      · refine DeedAt.mk (lamS_by (sc := defScope sRef6) (by decide +kernel)) (fun _ _ _ _ _ => rfl) (fun A outer s H E f c' hr => pe_meth (E := E) (pv 1) L.c L.dm L.df (hr.mono (by decide)) L.db .nil (passK (takes_of rfl rfl rfl rfl)) (pa_cons (show PE _ _ (tPol K C CP CM cB E _) from pe_pol (E := E) PL (hr.mono (by decide)) (passK (takes_of rfl rfl rfl rfl)) (pe_lst pa_nil)) pa_nil)) A1.hf A1.hc ?_
        intro H' s' E' Q' lv
        have ra := aJ.same s'
        obtain ⟨da, fa, ia, la⟩ := insOf ra
        refine ⟨_, rfl, a, da, fa, rfl, ia, la, by show 0 ≤ sizeLine; decide, fun l nl => nopoly nl fun x G sx hx => ?_⟩
        exact ⟨a, .ref x, ps, rfl, ra.same sx, .inr ⟨x, rfl, .inl ⟨hx, fun H2 s2 => lv H2 (sx.trans s2)⟩⟩⟩
      · refine DeedAt.mk (lamS_by (sc := defScope sRef6) (by decide +kernel)) (fun _ _ _ _ _ => rfl) (fun A outer s H E f c' hr => pe_meth (E := E) (pv 1) L.c L.dm L.df (hr.mono (by decide)) L.db .nil (passK (takes_of rfl rfl rfl rfl)) (pa_cons (show PE _ _ (tPol K C CP CM cB E _) from pe_pol (E := E) PL (hr.mono (by decide)) (passK (takes_of rfl rfl rfl rfl)) (pe_lst (pa_cons pe_int (pa_cons pe_int pa_nil)))) pa_nil)) A2.hf A2.hc ?_
        intro H' s' E' Q' lv
        have ra := aJ.same s'
        obtain ⟨da, fa, ia, la⟩ := insOf ra
        refine ⟨_, rfl, a, da, fa, rfl, ia, la, by show 2 ≤ sizeLine; decide, fun l nl => ?_⟩
        have sl := Same.new (o := .lst [.int 0, .int 0]) (fun _ _ e => e : Same H' H') nl
        refine .inr ⟨[] ++ List.replicate 2 (0, 1), ⟨[.int 0, .int 0], ⟨l, rfl, .inl (SqL.of upd_same)⟩, by show 2 ≤ sizeLine; decide, .cons (.inl ⟨rfl, rfl⟩) (.cons (.inl ⟨rfl, rfl⟩) .nil)⟩, by show 2 ≤ 100000; decide, fun m tr => ?_⟩
        rw [pad_trim IsP.nil tr]
        intro x G nx sx hx
        have sA := sl.trans sx
        exact ⟨a, .ref x, ps, rfl, ra.same sA, .inr ⟨x, rfl, .inl ⟨hx, fun H2 s2 => lv H2 (sA.trans s2)⟩⟩⟩
      · refine DeedAt.mk (lamS_by (sc := defScope sRef6) (by decide +kernel)) (fun _ _ _ _ _ => rfl) (fun A outer s H E f c' hr => pe_meth (E := E) (show PE _ _ (tPol K C CP CM cB E _) from pe_pol (E := E) PL (hr.mono (by decide)) (passK (takes_of rfl rfl rfl rfl)) (pe_lst pa_nil)) L.c L.dm L.df (hr.mono (by decide)) L.db .nil (passK (takes_of rfl rfl rfl rfl)) (pa_cons (pe_op (show OpR _ (binaryOp .Sub) (rOwnL K CP _ (spSubP C CP CM) E) from op_ownL (E := E) PL.cls.t1 OS FS (hr.mono (by decide)) bS (passK (takes_of rfl rfl rfl rfl))) (pv 1) (pv 1)) pa_nil)) A3.hf A3.hc ?_
        intro H' s' E' Q' lv
        refine ⟨by show 0 ≤ sizeLine; decide, fun l nl => nopoly nl fun x G sx hx => ?_⟩
        have ra := (aJ.same s').same sx
        obtain ⟨da, fa, ia, la⟩ := insOf ra
        obtain ⟨dx, fx, ix, lx⟩ := insOf hx
        refine ⟨x, dx, fx, rfl, ix, lx, _, rfl, _, rfl, a, da, fa, rfl, ia, .inl ⟨a, da, fa, rfl, ia⟩, a, a, ps, ps, rfl, ra, ra, fps, fun p hp => ⟨fps p hp, ip.low p hp⟩, by omega, by omega, fun m tm n tn => ?_⟩
        rw [self_less ip tm tn]
        intro y G3 ny sy hy
        exact ⟨x, .ref y, [], rfl, hx.same sy, .inr ⟨y, rfl, .inl ⟨hy, fun H2 s2 => lv H2 ((sx.trans sy).trans s2)⟩⟩⟩
    rintro σ' G3 ⟨l3, fs, rfl, pn3, th3, ha3, LL, el3, lf, df⟩
    have yesT : PyData.eqv (.tuple [.str "divisor", .none]) (.tuple [.str "divisor", .none]) = true := by decide +kernel
    refine seq_to (fun σ' G => σ' = [some (.ref d), some (.ref a), some v, some (.ref l3), none] ∧ Same G3 G) (fun kk hK => ?_) ?_
    · refine ⟨_, rfl, l3, rfl, ⟨_, SqL.of el3⟩, fun D hD => lc_list (K := K) (a := l3) (xs := fs.map V.ref) (fun n H2 => Same G3 H2 ∧ H2 D = some (.lst ((List.replicate n true).map V.bl))) ⟨Same.new (fun _ _ e => e) hD, upd_same⟩ (fun n H2 _ p => p.1.seq (SqL.of el3)) ?_ ?_⟩
      · rintro n x H2 hx ⟨sS, eD⟩
        have hn : n < 3 := by
          have := (List.getElem?_eq_some_iff.mp hx).1
          rw [List.length_map, lf] at this
          exact this
        rw [List.getElem?_map] at hx
        obtain ⟨fz, hz, rfl⟩ := Option.map_eq_some_iff.mp hx
        have dz := (df fz (List.mem_of_getElem? hz)).same sS
        refine ⟨rfl, _, rfl, fz, none, rfl, dz, fun q H3 nq s3 eq => ?_⟩
        refine ⟨by show 2 ≤ sizeLine; decide, fun x nx => ?_⟩
        have s4 := s3.new (o := .tup [.str "divisor", .non]) nx
        have rq : upd H3 x (.tup [.str "divisor", .non]) q = some (.tup [.str "divisor", .non]) := (Same.new (fun _ _ e => e) nx) _ _ eq
        refine ⟨.tuple [.str "divisor", .none], .tuple [.str "divisor", .none], .tup (SqT.of rq) (.cons (.str _) (.cons .non .nil)), .tup (SqT.of upd_same) (.cons (.str _) (.cons .non .nil)), by decide +kernel, by decide +kernel, ?_⟩
        rw [yesT]
        have s5 := sS.trans s4
        refine ⟨_, s4 _ _ eD, ?_, fun b o q => by rw [upd_ne (ne_of_none q hD)]; exact s5 b o q, ?_⟩
        · rw [List.length_map, List.length_replicate]
          exact Nat.lt_of_lt_of_le hn (by decide)
        · rw [upd_same, List.replicate_succ', List.map_append]
          rfl
      rintro H5 ⟨s5, eD5⟩
      have yes : (List.replicate (fs.map V.ref).length true).all id = true := by simp
      refine ⟨D, _, rfl, SqL.of eD5, _, rfl, ?_⟩
      rw [yes]
      refine ite2 (fun y => absurd y (by decide)) (fun _ => ?_)
      exact hK _ _ ⟨rfl, s5⟩
    rintro σ' G4 ⟨rfl, s4⟩
    have pn4 := pn3.to3 s4
    have th4 := th3.same s4
    have ha4 := ha3.same s4
    have LL4 := LL.trans (Left.same LL.t s4)
    refine ⟨LL4.t, fun f1 c1 G5 e1 n1 T5 nf1 hf1 hc1 => ?_⟩
    have A1 : LamAt G5 f1 c1 _ := ⟨hf1, hc1⟩
    have th5 : Thing6 C G5 v := thing6_ext th4 (fun b o e n => e1 b o e n) ngd
    have ha5 : PolyAt C CP CM G5 a ps := polyAt_ext ha4 fun b o e n => e1 b o e n
    have L5 : Left T G2 G5 := LL4.trans ⟨e1, n1, T5⟩
    refine ⟨_, rfl, f1, v, rfl, th5, ?_, fun G6 s6 => ?_⟩
    · refine DeedAt.mk (lamS_by (sc := defScope sRef6) (by decide +kernel)) (fun _ _ _ _ _ => rfl) (fun A outer s H E f c' hr => pe_meth (E := E) (pv 1) L.c L.dm L.df (hr.mono (by decide)) L.db .nil (passK (takes_of rfl rfl rfl rfl)) (pa_cons (pv 2) pa_nil)) A1.hf A1.hc ?_
      intro H' s' E' Q' lv
      have ra := ha5.same s'
      obtain ⟨da, fa, ia, la⟩ := insOf ra
      exact ⟨_, rfl, a, da, fa, rfl, ia, la, _, rfl, a, v, ps, rfl, ra, .inl ⟨th6_no R PL ne (th5.same s'), lv⟩⟩
    · have L6 := L5.trans (Left.same L5.t s6)
      refine k s2 r2 G6 p2 (by omega) ⟨L6.e _ _ pn2.dc (fun _ y => by cases y), L6.e _ _ pn2.ls (fun _ y => by cases y)⟩ ⟨fun b o e n m => L6.e _ _ ((sb1.tr3 sb2) b o e m) n, L6.t⟩
end
end K03
end
section
set_option maxHeartbeats 8000000
namespace K03
open PySem PySem.Spec PyProof.Rows L2 LamX NdefX L3 TL
abbrev sLaw6 : Stmt := top 74
def spLaw6 (K : PySem.W.Frag) (T : List (Addr × Str)) : Sp := fun vs H Q _ => ∃ (a : Addr) (ns : List Int), vs = [.ref a] ∧ SqL K H a (ns.map V.int) ∧ ns.length ≤ 63 ∧ Tabs T H ∧ ∀ H', Q (.bl true) H'
section
variable {P : Program} {w : World} {K : PySem.W.Frag} {mg : Str → Option Value} {base : Heap} {T : List (Addr × Str)}
theorem scLaw6 : FnScope ["_law_script", "_law_pen_here", "_law_lap"] ["_law_script"] (defScope sLaw6) := ⟨rfl, rfl, rfl, by decide +kernel, rfl, by decide +kernel, by decide +kernel⟩
theorem ok_law6 {f : Addr} {fd : FuncData} (F : Fun K "law" "law" sLaw6 f fd) (B : TxtR mg) (hB : Dfn P w K mg base CX0 1 "_law_pen" ["_law_script"] (spPen K)) (hO : Dfn P w K mg base CX0 13 "_law_one_right" ["_law_pen_here"] spRight) (hD : Dfn P w K mg base CX0 13 "_law_digits_right" ["_law_pen_here"] spRight) (hR : Dfn P w K mg base CX0 17 "_law_refusals_right" ["_law_pen_here"] (spRef6 T)) :
    FnOk P w K mg base CX0 18 f fd ["_law_script"] (spLaw6 K T) := by
  refine F.ok scLaw6 (fun vs H Q E h => ?_) (fun cdv A outer s H vs Q E hr h => ?_)
  · obtain ⟨a, ns, rfl, _⟩ := h
    rfl
  · obtain ⟨a, ns, rfl, hS, hl, hT, k⟩ := h
    have nd := scLaw6.nd
    refine ⟨_, pss_cons (ps_set (i := 1) nd rfl (Or.inl rfl) (dc hB hr (by decide) (pa_cons (pv 0) pa_nil)))
      (pss_cons (ps_for PassesOwn.never rfl (pi_range1 rfl B.range (pa_cons (pe_op op_add pe_int (pe_callB (call_min2 rfl) (by rfl) B.min (by decide +kernel) (pa_cons pe_int (pa_cons (pe_callB call_len_seq (by rfl) B.len PySem.boot_len (pa_cons (pv 0) pa_nil)) pa_nil)))) pa_nil)) (pg_name (i := 2) nd rfl (Or.inl rfl))
        (pss_one (ps_if (PW.pt (pw_or (pt_not (pt_val (dc hO hr (by decide) (pa_cons (pv 1) pa_nil)))) (pw_or (pt_not (pt_val (dc hD hr (by decide) (pa_cons (pv 1) pa_nil)))) (pw_or1 (pt_not (pt_val (dc hR hr (by decide) (pa_cons (pv 1) pa_nil)))))))) (pss_one (ps_ret pe_bl)) pss_nil)))
      (pss_one (ps_ret pe_bl))), ?_⟩
    refine ⟨_, rfl, a, ns, rfl, hS, hl, fun d c H1 nd1 nc1 s1 pen1 => ?_⟩
    have T1 := hT.ext s1
    dsimp only [gName]
    have sq : SqL K H1 a (ns.map V.int) := s1.seq hS
    have mn : ∃ m : Nat, (if ((ns.map V.int).length : Int) < 3 then ((ns.map V.int).length : Int) else 3) = (m : Int) ∧ m ≤ 3 := by
      split
      · exact ⟨_, rfl, by omega⟩
      · exact ⟨3, rfl, Nat.le_refl _⟩
    obtain ⟨m, em, m3⟩ := mn
    refine ⟨_, rfl, a, _, rfl, .inl sq, _, _, rfl, ?_⟩
    rw [em]
    refine ⟨_, _, rfl, rfl, ((1 + m : Nat) : Int), by simp, by omega, by omega, ?_⟩
    rw [Int.toNat_natCast]
    refine for_range (lo := 0) (n := 1 + m) (fun i σ' G => ∃ (s' r' : Int) (o : Option V), σ' = [some (.ref a), some (.ref d), o] ∧ PenAt G d c s' r' ns ∧ 0 ≤ s' ∧ s' ≤ 3000 * i ∧ Tabs T G) ⟨0, 0, none, rfl, pen1, by decide, by omega, T1⟩ ?_ ?_
    · rintro i σ' G hi ⟨s', r', o, rfl, p, a0, a1, t⟩
      dsimp only [gName]
      refine ⟨_, rfl, d, c, s', r', ns, rfl, p, a0, by omega, hl, fun s2 r2 G2 b0 b1 p2 sb2 => ?_⟩
      have t2 := tabs_but t p.dc sb2
      refine ⟨true, rfl, ?_⟩
      refine ⟨_, rfl, d, c, s2, r2, ns, rfl, p2, b0, by omega, hl, fun s3 r3 G3 c0 c1 p3 sb3 => ?_⟩
      have t3 := tabs_but t2 p2.dc sb3
      refine ⟨true, rfl, ?_⟩
      refine ⟨_, rfl, d, c, s3, r3, ns, rfl, p3, c0, by omega, hl, t3, fun s4 r4 G4 d0 d1 p4 bt => ?_⟩
      exact ⟨true, rfl, s4, r4, _, rfl, p4, d0, by omega, bt.t⟩
    · rintro σ' G ⟨s', r', o, rfl, p, a0, a1, t⟩
      exact k G
end
end K03
end
section
set_option maxHeartbeats 4000000
namespace HX
open PySem PySem.Spec PyProof.Rows L2 He
theorem oexB_ok {K : PySem.W.Frag} {C : Addr} (h : oexB K C = true) : ∃ nm q N bs bm sn sub ab col dd k0 k1 k2 k3 k5, K.lookup C = some (excClassObj nm q C N bs bm true sn sub ab col dd k0 k1 k2 k3 k5 "ValueError.__new__") ∧ PySem.HandSPX.refsVE bm = true := by
  unfold oexB at h
  split at h
  · rename_i y dd cd sl look
    obtain ⟨hy, h⟩ := ba h
    obtain rfl := beq_iff_eq.mp hy
    split at h
    · rename_i C' bm k0 k1 k2 k3 n k5 e1 e2
      obtain ⟨h1, h⟩ := ba h
      obtain ⟨h2, h⟩ := ba h
      obtain ⟨h3, h⟩ := ba h
      obtain ⟨h4, h⟩ := ba h
      obtain ⟨h5, q⟩ := ba h
      obtain rfl := eq_of_beq h2
      obtain rfl := eq_of_beq h3
      obtain ⟨nm, bs, mro, N, qn, hd, sn, sub, ab, col, del⟩ := cd
      obtain ⟨l⟩ := sl
      dsimp only at e1 e2 h4 h5
      subst e1 e2 h5
      cases del
      · exact ⟨nm, qn, N, bs, bm, sn, sub, ab, col, dd, k0, k1, k2, k3, k5, look, q⟩
      · cases h4
    · cases h
  · cases h
theorem eqV_ok {a b : Option Value} (h : eqV a b = true) : a = b := of_decide_eq_true h
theorem eqB_ok {a b : Option Bool} (h : eqB a b = true) : a = b := of_decide_eq_true h
theorem clsXB_ok {K : PySem.W.Frag} {D : Addr} (h : clsXB K D = true) : PySem.ExV.ClsX K D := by
  obtain ⟨h1, h⟩ := ba h
  obtain ⟨h2, h⟩ := ba h
  obtain ⟨h3, h⟩ := ba h
  obtain ⟨h4, h⟩ := ba h
  obtain ⟨h5, h⟩ := ba h
  obtain ⟨h6, h⟩ := ba h
  obtain ⟨h7, h8⟩ := ba h
  exact ⟨eqO_ok h1, eqO_ok h2, eqB_ok h3, h4, eqO_ok h5, eqO_ok h6, eqB_ok h7, eqB_ok h8⟩
structure OneF (K : PySem.W.Frag) (C : Addr) (f : Str) : Prop where
  O : OwnX K C (ma K C "__init__")
  Z : PySem.ExV.ClsX K C
  no : PySem.W.findIn K (.ref C) f = some none
  ty : PySem.W.typeIn K (.ref C) = some (.type "type")
theorem oneB_ok {K : PySem.W.Frag} {C : Addr} {f : Str} (h : oneB K C f = true) : OneF K C f := by
  obtain ⟨h1, h⟩ := ba h
  obtain ⟨h2, h⟩ := ba h
  obtain ⟨h3, h⟩ := ba h
  obtain ⟨h4, h⟩ := ba h
  obtain ⟨h5, h⟩ := ba h
  obtain ⟨h6, h⟩ := ba h
  obtain ⟨h7, h8⟩ := ba h
  have Z := clsXB_ok h8
  exact ⟨⟨⟨oexB_ok h1, eqO_ok h2, Z.su, eqV_ok h3, h4⟩, eqO_ok h5, eqV_ok h6⟩, Z, eqO_ok h7, eqV_ok h3⟩
theorem top1B_ok {K : PySem.W.Frag} {C : Addr} (h : top1B K C = true) : Top1 K C := by
  obtain ⟨h1, h2⟩ := ba h
  cases q : PySem.W.clsIn K C with
  | none => rw [q] at h1; cases h1
  | some cd =>
    rw [q] at h1
    exact ⟨⟨cd, q, of_decide_eq_true h1⟩, h2⟩
theorem tyB_ok {K : PySem.W.Frag} {C : Addr} (h : tyB K C = true) (c : Cls K C) : (∀ (H : Hp) (a dx : Addr) (fs : List (Str × V)), H a = some (.ins C dx fs) → TyX K H (.ref a) (.ref C)) ∧ PySem.W.typeIn K (.ref C) = some (.type "type") := by
  obtain ⟨h1, h⟩ := ba h
  obtain ⟨h2, h⟩ := ba h
  obtain ⟨h3, h⟩ := ba h
  obtain ⟨h4, h5⟩ := ba h
  exact ⟨fun H a dx fs e => .base (.ins e c (eqO_ok h1) (eqO_ok h2) (eqB_ok h3) (eqB_ok h4)), eqV_ok h5⟩
theorem bltB_ok {K : PySem.W.Frag} {h : Heap} {mg : Str → Option Value} {x : Str} {id : String} (X : K.In h) (G : h.Ns mainGlobals mg) (c : bltB K x id = true) : mg x = some (.builtin id) := PySem.W.mg_of X G (eqO_ok c)
/-- a def without defaults -/
theorem funOf {K : PySem.W.Frag} {x qual : Str} {st : Stmt} {f : Addr} {fd : FuncData} (F : FunD K x qual (defArgs st) (defBody st) (defScope st) [] [] f fd) : Fun K x qual st f fd := by
  obtain ⟨oc, od, dV, kV, doc, pm, an, cdv, ct, osl, rfl, lk, hcd, hD, _⟩ := F.ex
  rcases hD with ⟨_, rfl⟩ | ⟨e, _⟩
  · exact ⟨⟨oc, od, kV, doc, pm, an, cdv, ct, osl, rfl, lk, hcd⟩, F.kp⟩
  · exact absurd rfl e
theorem code_of {K : PySem.W.Frag} {x qual : Str} {params : Arguments} {body : List Stmt} {scope : Scope} {dvs : List V} {kws : List (Str × V)} {p : Str × Option Str} {fd : FuncData} (F : FunD K x qual params body scope dvs kws (fAd K p) fd) : fd.code = .ref (codeOf K p) := by
  obtain ⟨oc, od, dV, kV, doc, pm, an, cdv, ct, osl, rfl, lk, hcd, _, _⟩ := F.ex
  obtain ⟨c, rfl⟩ := codeIn_ref hcd
  rw [codeOf_eq lk rfl]
end HX
end
section
set_option maxHeartbeats 0
set_option exponentiation.threshold 100000
namespace K03
open PySem PySem.Spec PyProof.Rows L2 LamX NdefX L3 TL HX
open He (ga ma)
abbrev FnP (K : PySem.W.Frag) (x : Str) (st : Stmt) (fd : FuncData) : Prop := FunD K x x (defArgs st) (defBody st) (defScope st) [] [] (ga K x) fd
abbrev MthP (K : PySem.W.Frag) (C m q : Str) (st : Stmt) (ds : List V) (fd : FuncData) : Prop := FunD K m q (defArgs st) (defBody st) (defScope st) ds [] (ma K (ga K C) m) fd
theorem facts {w : World} {K : PySem.W.Frag} {h : Heap} {mg : Str → Option Value} {f : Addr} (X : K.In h) (G : h.Ns mainGlobals mg) (hfa : mg ("law" : Str) = some (.ref f)) (c : ∀ p ∈ pcs, He.SaysX p.fa p.fn [] p.tf p.ex w h K) : LawAtS PySem.Challenge.rw_allstreams_k06_whole_divisions w K CX0 18 63 "_law_script" mg f h := by
  have cA : He.SaysX fa [] [] tf exB w h K := c pcA List.mem_cons_self
  have cB : He.SaysX [] fnA [] [] (fun _ => true) w h K := c pcB (List.mem_cons_of_mem _ List.mem_cons_self)
  have cC : He.SaysX [] fnB [] [] (fun _ => true) w h K := c pcC (List.mem_cons_of_mem _ (List.mem_cons_of_mem _ List.mem_cons_self))
  obtain ⟨dis_integer, Fis_integer⟩ : ∃ fd, FnP K "is_integer" sIsInt fd := cB.t.d.def_ 0 (d := D_is_integer) rfl
  have gis_integer : mg "is_integer" = some (.ref (ga K "is_integer")) := He.glo_ok X G (cA.t.d.fact 0 (f := .glo "is_integer") rfl)
  have bis_integer : Binds K dis_integer ["value"] [] := Fis_integer.bindsN (ps := ["value"]) fun _ _ _ _ _ _ us hl => match us, hl with | [_], _ => rfl
  obtain ⟨dneed_integer, Fneed_integer⟩ : ∃ fd, FnP K "need_integer" sNeed fd := cB.t.d.def_ 1 (d := D_need_integer) rfl
  have gneed_integer : mg "need_integer" = some (.ref (ga K "need_integer")) := He.glo_ok X G (cA.t.d.fact 1 (f := .glo "need_integer") rfl)
  have bneed_integer : Binds K dneed_integer ["value"] [] := Fneed_integer.bindsN (ps := ["value"]) fun _ _ _ _ _ _ us hl => match us, hl with | [_], _ => rfl
  obtain ⟨dis_list, Fis_list⟩ : ∃ fd, FnP K "is_list" sIsList fd := cB.t.d.def_ 2 (d := D_is_list) rfl
  have gis_list : mg "is_list" = some (.ref (ga K "is_list")) := He.glo_ok X G (cA.t.d.fact 2 (f := .glo "is_list") rfl)
  have bis_list : Binds K dis_list ["value"] [] := Fis_list.bindsN (ps := ["value"]) fun _ _ _ _ _ _ us hl => match us, hl with | [_], _ => rfl
  obtain ⟨dneed_list, Fneed_list⟩ : ∃ fd, FnP K "need_list" sNeedL fd := cB.t.d.def_ 3 (d := D_need_list) rfl
  have gneed_list : mg "need_list" = some (.ref (ga K "need_list")) := He.glo_ok X G (cA.t.d.fact 3 (f := .glo "need_list") rfl)
  have bneed_list : Binds K dneed_list ["value"] [] := Fneed_list.bindsN (ps := ["value"]) fun _ _ _ _ _ _ us hl => match us, hl with | [_], _ => rfl
  obtain ⟨dlooks_after, Flooks_after⟩ : ∃ fd, FnP K "looks_after" sLooks fd := cB.t.d.def_ 4 (d := D_looks_after) rfl
  have glooks_after : mg "looks_after" = some (.ref (ga K "looks_after")) := He.glo_ok X G (cA.t.d.fact 4 (f := .glo "looks_after") rfl)
  have blooks_after : Binds K dlooks_after ["value", "below"] [] := Flooks_after.bindsN (ps := ["value", "below"]) fun _ _ _ _ _ _ us hl => match us, hl with | [_, _], _ => rfl
  obtain ⟨das_ratio, Fas_ratio⟩ : ∃ fd, FnP K "as_ratio" sAs fd := cB.t.d.def_ 5 (d := D_as_ratio) rfl
  have gas_ratio : mg "as_ratio" = some (.ref (ga K "as_ratio")) := He.glo_ok X G (cA.t.d.fact 5 (f := .glo "as_ratio") rfl)
  have bas_ratio : Binds K das_ratio ["value"] [] := Fas_ratio.bindsN (ps := ["value"]) fun _ _ _ _ _ _ us hl => match us, hl with | [_], _ => rfl
  obtain ⟨doperand, Foperand⟩ : ∃ fd, FnP K "operand" sOpd fd := cB.t.d.def_ 6 (d := D_operand) rfl
  have goperand : mg "operand" = some (.ref (ga K "operand")) := He.glo_ok X G (cA.t.d.fact 6 (f := .glo "operand") rfl)
  have boperand : Binds K doperand ["other"] [] := Foperand.bindsN (ps := ["other"]) fun _ _ _ _ _ _ us hl => match us, hl with | [_], _ => rfl
  obtain ⟨dratio_list, Fratio_list⟩ : ∃ fd, FnP K "ratio_list" sRList fd := cB.t.d.def_ 7 (d := D_ratio_list) rfl
  have gratio_list : mg "ratio_list" = some (.ref (ga K "ratio_list")) := He.glo_ok X G (cA.t.d.fact 7 (f := .glo "ratio_list") rfl)
  have bratio_list : Binds K dratio_list ["values"] [] := Fratio_list.bindsN (ps := ["values"]) fun _ _ _ _ _ _ us hl => match us, hl with | [_], _ => rfl
  obtain ⟨dshared_bottom, Fshared_bottom⟩ : ∃ fd, FnP K "shared_bottom" sShB fd := cB.t.d.def_ 8 (d := D_shared_bottom) rfl
  have gshared_bottom : mg "shared_bottom" = some (.ref (ga K "shared_bottom")) := He.glo_ok X G (cA.t.d.fact 8 (f := .glo "shared_bottom") rfl)
  have bshared_bottom : Binds K dshared_bottom ["ratios"] [] := Fshared_bottom.bindsN (ps := ["ratios"]) fun _ _ _ _ _ _ us hl => match us, hl with | [_], _ => rfl
  obtain ⟨dwhole_parts, Fwhole_parts⟩ : ∃ fd, FnP K "whole_parts" sWhl fd := cB.t.d.def_ 9 (d := D_whole_parts) rfl
  have gwhole_parts : mg "whole_parts" = some (.ref (ga K "whole_parts")) := He.glo_ok X G (cA.t.d.fact 9 (f := .glo "whole_parts") rfl)
  have bwhole_parts : Binds K dwhole_parts ["ratios"] [] := Fwhole_parts.bindsN (ps := ["ratios"]) fun _ _ _ _ _ _ us hl => match us, hl with | [_], _ => rfl
  obtain ⟨ddivided_parts, Fdivided_parts⟩ : ∃ fd, FnP K "divided_parts" sDivP fd := cB.t.d.def_ 10 (d := D_divided_parts) rfl
  have gdivided_parts : mg "divided_parts" = some (.ref (ga K "divided_parts")) := He.glo_ok X G (cA.t.d.fact 10 (f := .glo "divided_parts") rfl)
  have bdivided_parts : Binds K ddivided_parts ["one", "other"] [] := Fdivided_parts.bindsN (ps := ["one", "other"]) fun _ _ _ _ _ _ us hl => match us, hl with | [_, _], _ => rfl
  obtain ⟨dpoly_by, Fpoly_by⟩ : ∃ fd, FnP K "poly_by" sPBy fd := cB.t.d.def_ 11 (d := D_poly_by) rfl
  have gpoly_by : mg "poly_by" = some (.ref (ga K "poly_by")) := He.glo_ok X G (cA.t.d.fact 11 (f := .glo "poly_by") rfl)
  have bpoly_by : Binds K dpoly_by ["parts", "bottom"] [] := Fpoly_by.bindsN (ps := ["parts", "bottom"]) fun _ _ _ _ _ _ us hl => match us, hl with | [_, _], _ => rfl
  obtain ⟨dquotient_and_rest, Fquotient_and_rest⟩ : ∃ fd, FnP K "quotient_and_rest" sQuo fd := cB.t.d.def_ 12 (d := D_quotient_and_rest) rfl
  have gquotient_and_rest : mg "quotient_and_rest" = some (.ref (ga K "quotient_and_rest")) := He.glo_ok X G (cA.t.d.fact 12 (f := .glo "quotient_and_rest") rfl)
  have bquotient_and_rest : Binds K dquotient_and_rest ["one", "other"] [] := Fquotient_and_rest.bindsN (ps := ["one", "other"]) fun _ _ _ _ _ _ us hl => match us, hl with | [_, _], _ => rfl
  obtain ⟨das_poly, Fas_poly⟩ : ∃ fd, FnP K "as_poly" sAsP fd := cB.t.d.def_ 13 (d := D_as_poly) rfl
  have gas_poly : mg "as_poly" = some (.ref (ga K "as_poly")) := He.glo_ok X G (cA.t.d.fact 13 (f := .glo "as_poly") rfl)
  have bas_poly : Binds K das_poly ["value"] [] := Fas_poly.bindsN (ps := ["value"]) fun _ _ _ _ _ _ us hl => match us, hl with | [_], _ => rfl
  obtain ⟨dneed_poly, Fneed_poly⟩ : ∃ fd, FnP K "need_poly" sNeedP fd := cB.t.d.def_ 14 (d := D_need_poly) rfl
  have gneed_poly : mg "need_poly" = some (.ref (ga K "need_poly")) := He.glo_ok X G (cA.t.d.fact 14 (f := .glo "need_poly") rfl)
  have bneed_poly : Binds K dneed_poly ["value"] [] := Fneed_poly.bindsN (ps := ["value"]) fun _ _ _ _ _ _ us hl => match us, hl with | [_], _ => rfl
  obtain ⟨d_law_pen, F_law_pen⟩ : ∃ fd, FnP K "_law_pen" sPen fd := cB.t.d.def_ 15 (d := D__law_pen) rfl
  have g_law_pen : mg "_law_pen" = some (.ref (ga K "_law_pen")) := He.glo_ok X G (cA.t.d.fact 15 (f := .glo "_law_pen") rfl)
  have b_law_pen : Binds K d_law_pen ["_law_script"] [] := F_law_pen.bindsN (ps := ["_law_script"]) fun _ _ _ _ _ _ us hl => match us, hl with | [_], _ => rfl
  obtain ⟨d_law_draw, F_law_draw⟩ : ∃ fd, FnP K "_law_draw" sDraw fd := cB.t.d.def_ 16 (d := D__law_draw) rfl
  have g_law_draw : mg "_law_draw" = some (.ref (ga K "_law_draw")) := He.glo_ok X G (cA.t.d.fact 16 (f := .glo "_law_draw") rfl)
  have b_law_draw : Binds K d_law_draw ["_law_pen_here", "_law_many"] [] := F_law_draw.bindsN (ps := ["_law_pen_here", "_law_many"]) fun _ _ _ _ _ _ us hl => match us, hl with | [_, _], _ => rfl
  obtain ⟨d_law_pick, F_law_pick⟩ : ∃ fd, FnP K "_law_pick" sPick fd := cB.t.d.def_ 17 (d := D__law_pick) rfl
  have g_law_pick : mg "_law_pick" = some (.ref (ga K "_law_pick")) := He.glo_ok X G (cA.t.d.fact 17 (f := .glo "_law_pick") rfl)
  have b_law_pick : Binds K d_law_pick ["_law_pen_here", "_law_some_here"] [] := F_law_pick.bindsN (ps := ["_law_pen_here", "_law_some_here"]) fun _ _ _ _ _ _ us hl => match us, hl with | [_, _], _ => rfl
  obtain ⟨d_law_wide, F_law_wide⟩ : ∃ fd, FnP K "_law_wide" sWide fd := cB.t.d.def_ 18 (d := D__law_wide) rfl
  have g_law_wide : mg "_law_wide" = some (.ref (ga K "_law_wide")) := He.glo_ok X G (cA.t.d.fact 18 (f := .glo "_law_wide") rfl)
  have b_law_wide : Binds K d_law_wide ["_law_pen_here", "_law_pieces"] [] := F_law_wide.bindsN (ps := ["_law_pen_here", "_law_pieces"]) fun _ _ _ _ _ _ us hl => match us, hl with | [_, _], _ => rfl
  obtain ⟨d_law_gcd, F_law_gcd⟩ : ∃ fd, FnP K "_law_gcd" sGcd fd := cB.t.d.def_ 19 (d := D__law_gcd) rfl
  have g_law_gcd : mg "_law_gcd" = some (.ref (ga K "_law_gcd")) := He.glo_ok X G (cA.t.d.fact 19 (f := .glo "_law_gcd") rfl)
  have b_law_gcd : Binds K d_law_gcd ["_law_one", "_law_other"] [] := F_law_gcd.bindsN (ps := ["_law_one", "_law_other"]) fun _ _ _ _ _ _ us hl => match us, hl with | [_, _], _ => rfl
  obtain ⟨d_law_lowest, F_law_lowest⟩ : ∃ fd, FnP K "_law_lowest" sLowest fd := cB.t.d.def_ 20 (d := D__law_lowest) rfl
  have g_law_lowest : mg "_law_lowest" = some (.ref (ga K "_law_lowest")) := He.glo_ok X G (cA.t.d.fact 20 (f := .glo "_law_lowest") rfl)
  have b_law_lowest : Binds K d_law_lowest ["_law_above", "_law_below"] [] := F_law_lowest.bindsN (ps := ["_law_above", "_law_below"]) fun _ _ _ _ _ _ us hl => match us, hl with | [_, _], _ => rfl
  obtain ⟨d_law_plus, F_law_plus⟩ : ∃ fd, FnP K "_law_plus" sPlus fd := cB.t.d.def_ 21 (d := D__law_plus) rfl
  have g_law_plus : mg "_law_plus" = some (.ref (ga K "_law_plus")) := He.glo_ok X G (cA.t.d.fact 21 (f := .glo "_law_plus") rfl)
  have b_law_plus : Binds K d_law_plus ["_law_one", "_law_other"] [] := F_law_plus.bindsN (ps := ["_law_one", "_law_other"]) fun _ _ _ _ _ _ us hl => match us, hl with | [_, _], _ => rfl
  obtain ⟨d_law_times, F_law_times⟩ : ∃ fd, FnP K "_law_times" sTimes fd := cB.t.d.def_ 22 (d := D__law_times) rfl
  have g_law_times : mg "_law_times" = some (.ref (ga K "_law_times")) := He.glo_ok X G (cA.t.d.fact 22 (f := .glo "_law_times") rfl)
  have b_law_times : Binds K d_law_times ["_law_one", "_law_other"] [] := F_law_times.bindsN (ps := ["_law_one", "_law_other"]) fun _ _ _ _ _ _ us hl => match us, hl with | [_, _], _ => rfl
  obtain ⟨d_law_int, F_law_int⟩ : ∃ fd, FnP K "_law_int" sInt fd := cB.t.d.def_ 23 (d := D__law_int) rfl
  have g_law_int : mg "_law_int" = some (.ref (ga K "_law_int")) := He.glo_ok X G (cA.t.d.fact 23 (f := .glo "_law_int") rfl)
  have b_law_int : Binds K d_law_int ["_law_told_here", "_law_due"] [] := F_law_int.bindsN (ps := ["_law_told_here", "_law_due"]) fun _ _ _ _ _ _ us hl => match us, hl with | [_, _], _ => rfl
  obtain ⟨d_law_is, F_law_is⟩ : ∃ fd, FnP K "_law_is" sIs fd := cB.t.d.def_ 24 (d := D__law_is) rfl
  have g_law_is : mg "_law_is" = some (.ref (ga K "_law_is")) := He.glo_ok X G (cA.t.d.fact 24 (f := .glo "_law_is") rfl)
  have b_law_is : Binds K d_law_is ["_law_told_here", "_law_due"] [] := F_law_is.bindsN (ps := ["_law_told_here", "_law_due"]) fun _ _ _ _ _ _ us hl => match us, hl with | [_, _], _ => rfl
  obtain ⟨d_law_alike, F_law_alike⟩ : ∃ fd, FnP K "_law_alike" sAlik6 fd := cB.t.d.def_ 25 (d := D__law_alike) rfl
  have g_law_alike : mg "_law_alike" = some (.ref (ga K "_law_alike")) := He.glo_ok X G (cA.t.d.fact 25 (f := .glo "_law_alike") rfl)
  have b_law_alike : Binds K d_law_alike ["_law_told_here", "_law_due"] [] := F_law_alike.bindsN (ps := ["_law_told_here", "_law_due"]) fun _ _ _ _ _ _ us hl => match us, hl with | [_, _], _ => rfl
  obtain ⟨d_law_fault, F_law_fault⟩ : ∃ fd, FnP K "_law_fault" sFault fd := cB.t.d.def_ 26 (d := D__law_fault) rfl
  have g_law_fault : mg "_law_fault" = some (.ref (ga K "_law_fault")) := He.glo_ok X G (cA.t.d.fact 26 (f := .glo "_law_fault") rfl)
  have b_law_fault : Binds K d_law_fault ["_law_deed"] [] := F_law_fault.bindsN (ps := ["_law_deed"]) fun _ _ _ _ _ _ us hl => match us, hl with | [_], _ => rfl
  obtain ⟨d_law_refused, F_law_refused⟩ : ∃ fd, FnP K "_law_refused" sRefd6 fd := cB.t.d.def_ 27 (d := D__law_refused) rfl
  have g_law_refused : mg "_law_refused" = some (.ref (ga K "_law_refused")) := He.glo_ok X G (cA.t.d.fact 27 (f := .glo "_law_refused") rfl)
  have b_law_refused : Binds K d_law_refused ["_law_deed", "_law_value"] [] := F_law_refused.bindsN (ps := ["_law_deed", "_law_value"]) fun _ _ _ _ _ _ us hl => match us, hl with | [_, _], _ => rfl
  obtain ⟨d_law_few, F_law_few⟩ : ∃ fd, FnP K "_law_few" sFew fd := cC.t.d.def_ 0 (d := D__law_few) rfl
  have g_law_few : mg "_law_few" = some (.ref (ga K "_law_few")) := He.glo_ok X G (cA.t.d.fact 28 (f := .glo "_law_few") rfl)
  have b_law_few : Binds K d_law_few ["_law_pen_here"] [] := F_law_few.bindsN (ps := ["_law_pen_here"]) fun _ _ _ _ _ _ us hl => match us, hl with | [_], _ => rfl
  obtain ⟨d_law_real, F_law_real⟩ : ∃ fd, FnP K "_law_real" sReal fd := cC.t.d.def_ 1 (d := D__law_real) rfl
  have g_law_real : mg "_law_real" = some (.ref (ga K "_law_real")) := He.glo_ok X G (cA.t.d.fact 29 (f := .glo "_law_real") rfl)
  have b_law_real : Binds K d_law_real ["_law_pen_here"] [] := F_law_real.bindsN (ps := ["_law_pen_here"]) fun _ _ _ _ _ _ us hl => match us, hl with | [_], _ => rfl
  obtain ⟨d_law_some, F_law_some⟩ : ∃ fd, FnP K "_law_some" sSomL fd := cC.t.d.def_ 2 (d := D__law_some) rfl
  have g_law_some : mg "_law_some" = some (.ref (ga K "_law_some")) := He.glo_ok X G (cA.t.d.fact 30 (f := .glo "_law_some") rfl)
  have b_law_some : Binds K d_law_some ["_law_pen_here", "_law_most"] [] := F_law_some.bindsN (ps := ["_law_pen_here", "_law_most"]) fun _ _ _ _ _ _ us hl => match us, hl with | [_, _], _ => rfl
  obtain ⟨d_law_told, F_law_told⟩ : ∃ fd, FnP K "_law_told" sToldL6 fd := cC.t.d.def_ 3 (d := D__law_told) rfl
  have g_law_told : mg "_law_told" = some (.ref (ga K "_law_told")) := He.glo_ok X G (cA.t.d.fact 31 (f := .glo "_law_told") rfl)
  have b_law_told : Binds K d_law_told ["_law_pen_here", "_law_one"] [] := F_law_told.bindsN (ps := ["_law_pen_here", "_law_one"]) fun _ _ _ _ _ _ us hl => match us, hl with | [_, _], _ => rfl
  obtain ⟨d_law_trim, F_law_trim⟩ : ∃ fd, FnP K "_law_trim" sTrim fd := cC.t.d.def_ 4 (d := D__law_trim) rfl
  have g_law_trim : mg "_law_trim" = some (.ref (ga K "_law_trim")) := He.glo_ok X G (cA.t.d.fact 32 (f := .glo "_law_trim") rfl)
  have b_law_trim : Binds K d_law_trim ["_law_parts"] [] := F_law_trim.bindsN (ps := ["_law_parts"]) fun _ _ _ _ _ _ us hl => match us, hl with | [_], _ => rfl
  obtain ⟨d_law_at, F_law_at⟩ : ∃ fd, FnP K "_law_at" sAt fd := cC.t.d.def_ 5 (d := D__law_at) rfl
  have g_law_at : mg "_law_at" = some (.ref (ga K "_law_at")) := He.glo_ok X G (cA.t.d.fact 33 (f := .glo "_law_at") rfl)
  have b_law_at : Binds K d_law_at ["_law_parts", "_law_number"] [] := F_law_at.bindsN (ps := ["_law_parts", "_law_number"]) fun _ _ _ _ _ _ us hl => match us, hl with | [_, _], _ => rfl
  obtain ⟨d_law_add, F_law_add⟩ : ∃ fd, FnP K "_law_add" sAddL fd := cC.t.d.def_ 6 (d := D__law_add) rfl
  have g_law_add : mg "_law_add" = some (.ref (ga K "_law_add")) := He.glo_ok X G (cA.t.d.fact 34 (f := .glo "_law_add") rfl)
  have b_law_add : Binds K d_law_add ["_law_one", "_law_other"] [] := F_law_add.bindsN (ps := ["_law_one", "_law_other"]) fun _ _ _ _ _ _ us hl => match us, hl with | [_, _], _ => rfl
  obtain ⟨d_law_scaled, F_law_scaled⟩ : ∃ fd, FnP K "_law_scaled" sScal fd := cC.t.d.def_ 7 (d := D__law_scaled) rfl
  have g_law_scaled : mg "_law_scaled" = some (.ref (ga K "_law_scaled")) := He.glo_ok X G (cA.t.d.fact 35 (f := .glo "_law_scaled") rfl)
  have b_law_scaled : Binds K d_law_scaled ["_law_parts", "_law_factor"] [] := F_law_scaled.bindsN (ps := ["_law_parts", "_law_factor"]) fun _ _ _ _ _ _ us hl => match us, hl with | [_, _], _ => rfl
  obtain ⟨d_law_mul, F_law_mul⟩ : ∃ fd, FnP K "_law_mul" sMulL fd := cC.t.d.def_ 8 (d := D__law_mul) rfl
  have g_law_mul : mg "_law_mul" = some (.ref (ga K "_law_mul")) := He.glo_ok X G (cA.t.d.fact 36 (f := .glo "_law_mul") rfl)
  have b_law_mul : Binds K d_law_mul ["_law_one", "_law_other"] [] := F_law_mul.bindsN (ps := ["_law_one", "_law_other"]) fun _ _ _ _ _ _ us hl => match us, hl with | [_, _], _ => rfl
  obtain ⟨d_law_poly_is, F_law_poly_is⟩ : ∃ fd, FnP K "_law_poly_is" sPolyIs fd := cC.t.d.def_ 9 (d := D__law_poly_is) rfl
  have g_law_poly_is : mg "_law_poly_is" = some (.ref (ga K "_law_poly_is")) := He.glo_ok X G (cA.t.d.fact 37 (f := .glo "_law_poly_is") rfl)
  have b_law_poly_is : Binds K d_law_poly_is ["_law_told_here", "_law_due"] [] := F_law_poly_is.bindsN (ps := ["_law_told_here", "_law_due"]) fun _ _ _ _ _ _ us hl => match us, hl with | [_, _], _ => rfl
  obtain ⟨d_law_poly, F_law_poly⟩ : ∃ fd, FnP K "_law_poly" sPolyL fd := cC.t.d.def_ 10 (d := D__law_poly) rfl
  have g_law_poly : mg "_law_poly" = some (.ref (ga K "_law_poly")) := He.glo_ok X G (cA.t.d.fact 38 (f := .glo "_law_poly") rfl)
  have b_law_poly : Binds K d_law_poly ["_law_pen_here", "_law_parts"] [] := F_law_poly.bindsN (ps := ["_law_pen_here", "_law_parts"]) fun _ _ _ _ _ _ us hl => match us, hl with | [_, _], _ => rfl
  obtain ⟨d_law_divisor, F_law_divisor⟩ : ∃ fd, FnP K "_law_divisor" sDivL fd := cC.t.d.def_ 11 (d := D__law_divisor) rfl
  have g_law_divisor : mg "_law_divisor" = some (.ref (ga K "_law_divisor")) := He.glo_ok X G (cA.t.d.fact 39 (f := .glo "_law_divisor") rfl)
  have b_law_divisor : Binds K d_law_divisor ["_law_pen_here", "_law_degree"] [] := F_law_divisor.bindsN (ps := ["_law_pen_here", "_law_degree"]) fun _ _ _ _ _ _ us hl => match us, hl with | [_, _], _ => rfl
  obtain ⟨d_law_pair_is, F_law_pair_is⟩ : ∃ fd, FnP K "_law_pair_is" sPairIs fd := cC.t.d.def_ 12 (d := D__law_pair_is) rfl
  have g_law_pair_is : mg "_law_pair_is" = some (.ref (ga K "_law_pair_is")) := He.glo_ok X G (cA.t.d.fact 40 (f := .glo "_law_pair_is") rfl)
  have b_law_pair_is : Binds K d_law_pair_is ["_law_told_here", "_law_quotient", "_law_rest"] [] := F_law_pair_is.bindsN (ps := ["_law_told_here", "_law_quotient", "_law_rest"]) fun _ _ _ _ _ _ us hl => match us, hl with | [_, _, _], _ => rfl
  obtain ⟨d_law_one_right, F_law_one_right⟩ : ∃ fd, FnP K "_law_one_right" sOneR fd := cC.t.d.def_ 13 (d := D__law_one_right) rfl
  have g_law_one_right : mg "_law_one_right" = some (.ref (ga K "_law_one_right")) := He.glo_ok X G (cA.t.d.fact 41 (f := .glo "_law_one_right") rfl)
  have b_law_one_right : Binds K d_law_one_right ["_law_pen_here"] [] := F_law_one_right.bindsN (ps := ["_law_pen_here"]) fun _ _ _ _ _ _ us hl => match us, hl with | [_], _ => rfl
  obtain ⟨d_law_digits_right, F_law_digits_right⟩ : ∃ fd, FnP K "_law_digits_right" sDigR fd := cC.t.d.def_ 14 (d := D__law_digits_right) rfl
  have g_law_digits_right : mg "_law_digits_right" = some (.ref (ga K "_law_digits_right")) := He.glo_ok X G (cA.t.d.fact 42 (f := .glo "_law_digits_right") rfl)
  have b_law_digits_right : Binds K d_law_digits_right ["_law_pen_here"] [] := F_law_digits_right.bindsN (ps := ["_law_pen_here"]) fun _ _ _ _ _ _ us hl => match us, hl with | [_], _ => rfl
  obtain ⟨d_law_refusals_right, F_law_refusals_right⟩ : ∃ fd, FnP K "_law_refusals_right" sRef6 fd := cC.t.d.def_ 15 (d := D__law_refusals_right) rfl
  have g_law_refusals_right : mg "_law_refusals_right" = some (.ref (ga K "_law_refusals_right")) := He.glo_ok X G (cA.t.d.fact 43 (f := .glo "_law_refusals_right") rfl)
  have b_law_refusals_right : Binds K d_law_refusals_right ["_law_pen_here"] [] := F_law_refusals_right.bindsN (ps := ["_law_pen_here"]) fun _ _ _ _ _ _ us hl => match us, hl with | [_], _ => rfl
  obtain ⟨dlaw, Flaw⟩ : ∃ fd, FnP K "law" sLaw6 fd := cC.t.d.def_ 16 (d := D_law) rfl
  have glaw : mg "law" = some (.ref (ga K "law")) := He.glo_ok X G (cA.t.d.fact 44 (f := .glo "law") rfl)
  have blaw : Binds K dlaw ["_law_script"] [] := Flaw.bindsN (ps := ["_law_script"]) fun _ _ _ _ _ _ us hl => match us, hl with | [_], _ => rfl
  obtain ⟨dBadValue___init__, FBadValue___init__⟩ : ∃ fd, MthP K "BadValue" "__init__" "BadValue.__init__" iBad [] fd := cC.t.d.def_ 17 (d := D_BadValue___init__) rfl
  obtain ⟨dRatio___init__, FRatio___init__⟩ : ∃ fd, MthP K "Ratio" "__init__" "Ratio.__init__" sInit [.int 1] fd := cC.t.d.def_ 18 (d := D_Ratio___init__) rfl
  obtain ⟨dRatio___add__, FRatio___add__⟩ : ∃ fd, MthP K "Ratio" "__add__" "Ratio.__add__" sAdd [] fd := cC.t.d.def_ 19 (d := D_Ratio___add__) rfl
  obtain ⟨dRatio___neg__, FRatio___neg__⟩ : ∃ fd, MthP K "Ratio" "__neg__" "Ratio.__neg__" sNeg [] fd := cC.t.d.def_ 20 (d := D_Ratio___neg__) rfl
  obtain ⟨dRatio___eq__, FRatio___eq__⟩ : ∃ fd, MthP K "Ratio" "__eq__" "Ratio.__eq__" sEq [] fd := cC.t.d.def_ 21 (d := D_Ratio___eq__) rfl
  obtain ⟨dMark___init__, FMark___init__⟩ : ∃ fd, MthP K "Mark" "__init__" "Mark.__init__" sMInit [] fd := cC.t.d.def_ 22 (d := D_Mark___init__) rfl
  obtain ⟨dPoly___init__, FPoly___init__⟩ : ∃ fd, MthP K "Poly" "__init__" "Poly.__init__" sPInit [] fd := cC.t.d.def_ 23 (d := D_Poly___init__) rfl
  obtain ⟨dPoly___add__, FPoly___add__⟩ : ∃ fd, MthP K "Poly" "__add__" "Poly.__add__" sAddP [] fd := cC.t.d.def_ 24 (d := D_Poly___add__) rfl
  obtain ⟨dPoly___sub__, FPoly___sub__⟩ : ∃ fd, MthP K "Poly" "__sub__" "Poly.__sub__" sSubP [] fd := cC.t.d.def_ 25 (d := D_Poly___sub__) rfl
  obtain ⟨dPoly___neg__, FPoly___neg__⟩ : ∃ fd, MthP K "Poly" "__neg__" "Poly.__neg__" sNegP [] fd := cC.t.d.def_ 26 (d := D_Poly___neg__) rfl
  obtain ⟨dPoly_divided, FPoly_divided⟩ : ∃ fd, MthP K "Poly" "divided" "Poly.divided" sDivd [] fd := cC.t.d.def_ 27 (d := D_Poly_divided) rfl
  have bRatio___add__ : Binds K dRatio___add__ ["self", "other"] [] := FRatio___add__.bindsN (ps := ["self", "other"]) fun _ _ _ _ _ _ us hl => match us, hl with | [_, _], _ => rfl
  have bRatio___neg__ : Binds K dRatio___neg__ ["self"] [] := FRatio___neg__.bindsN (ps := ["self"]) fun _ _ _ _ _ _ us hl => match us, hl with | [_], _ => rfl
  have bRatio___eq__ : Binds K dRatio___eq__ ["self", "other"] [] := FRatio___eq__.bindsN (ps := ["self", "other"]) fun _ _ _ _ _ _ us hl => match us, hl with | [_, _], _ => rfl
  have bMark___init__ : Binds K dMark___init__ ["self", "below"] [] := FMark___init__.bindsN (ps := ["self", "below"]) fun _ _ _ _ _ _ us hl => match us, hl with | [_, _], _ => rfl
  have bPoly___init__ : Binds K dPoly___init__ ["self", "parts"] [] := FPoly___init__.bindsN (ps := ["self", "parts"]) fun _ _ _ _ _ _ us hl => match us, hl with | [_, _], _ => rfl
  have bPoly___add__ : Binds K dPoly___add__ ["self", "other"] [] := FPoly___add__.bindsN (ps := ["self", "other"]) fun _ _ _ _ _ _ us hl => match us, hl with | [_, _], _ => rfl
  have bPoly___sub__ : Binds K dPoly___sub__ ["self", "other"] [] := FPoly___sub__.bindsN (ps := ["self", "other"]) fun _ _ _ _ _ _ us hl => match us, hl with | [_, _], _ => rfl
  have bPoly___neg__ : Binds K dPoly___neg__ ["self"] [] := FPoly___neg__.bindsN (ps := ["self"]) fun _ _ _ _ _ _ us hl => match us, hl with | [_], _ => rfl
  have bPoly_divided : Binds K dPoly_divided ["self", "other"] [] := FPoly_divided.bindsN (ps := ["self", "other"]) fun _ _ _ _ _ _ us hl => match us, hl with | [_, _], _ => rfl
  have MRatio___add__ : Meth K (ga K "Ratio") "__add__" (ma K (ga K "Ratio") "__add__") := He.meth_ok (cA.t.d.fact 76 (f := .meth "Ratio" "__add__") rfl)
  have MRatio___radd__ : Meth K (ga K "Ratio") "__radd__" (ma K (ga K "Ratio") "__radd__") := He.meth_ok (cA.t.d.fact 77 (f := .meth "Ratio" "__radd__") rfl)
  have MRatio___neg__ : Meth K (ga K "Ratio") "__neg__" (ma K (ga K "Ratio") "__neg__") := He.meth_ok (cA.t.d.fact 78 (f := .meth "Ratio" "__neg__") rfl)
  have MRatio___eq__ : Meth K (ga K "Ratio") "__eq__" (ma K (ga K "Ratio") "__eq__") := He.meth_ok (cA.t.d.fact 79 (f := .meth "Ratio" "__eq__") rfl)
  have MPoly___add__ : Meth K (ga K "Poly") "__add__" (ma K (ga K "Poly") "__add__") := He.meth_ok (cA.t.d.fact 80 (f := .meth "Poly" "__add__") rfl)
  have MPoly___radd__ : Meth K (ga K "Poly") "__radd__" (ma K (ga K "Poly") "__radd__") := He.meth_ok (cA.t.d.fact 81 (f := .meth "Poly" "__radd__") rfl)
  have MPoly___sub__ : Meth K (ga K "Poly") "__sub__" (ma K (ga K "Poly") "__sub__") := He.meth_ok (cA.t.d.fact 82 (f := .meth "Poly" "__sub__") rfl)
  have MPoly___rsub__ : Meth K (ga K "Poly") "__rsub__" (ma K (ga K "Poly") "__rsub__") := He.meth_ok (cA.t.d.fact 83 (f := .meth "Poly" "__rsub__") rfl)
  have MPoly___neg__ : Meth K (ga K "Poly") "__neg__" (ma K (ga K "Poly") "__neg__") := He.meth_ok (cA.t.d.fact 84 (f := .meth "Poly" "__neg__") rfl)
  have MPoly_divided : Meth K (ga K "Poly") "divided" (ma K (ga K "Poly") "divided") := He.meth_ok (cA.t.d.fact 85 (f := .meth "Poly" "divided") rfl)
  obtain ⟨x1, y⟩ := He.ba cA.more
  obtain ⟨x2, y⟩ := He.ba y
  obtain ⟨x3, y⟩ := He.ba y
  obtain ⟨x4, y⟩ := He.ba y
  obtain ⟨x7, y⟩ := He.ba y
  obtain ⟨x8, y⟩ := He.ba y
  obtain ⟨x9, y⟩ := He.ba y
  obtain ⟨x10, y⟩ := He.ba y
  obtain ⟨x11, y⟩ := He.ba y
  obtain ⟨x12, x13⟩ := He.ba y
  have cR : Cls K (ga K "Ratio") := He.cls_ok (cA.t.d.fact 65 (f := .cls "Ratio") rfl)
  obtain ⟨tyR, tR⟩ := tyB_ok x4 cR
  have O1 := oneB_ok x1
  obtain ⟨n1, y⟩ := He.ba x2
  obtain ⟨n2, y⟩ := He.ba y
  obtain ⟨n3, n4⟩ := He.ba y
  have cP : Cls K (ga K "Poly") := He.cls_ok (cA.t.d.fact 69 (f := .cls "Poly") rfl)
  have cM : Cls K (ga K "Mark") := He.cls_ok (cA.t.d.fact 73 (f := .cls "Mark") rfl)
  obtain ⟨tyM, tM⟩ := tyB_ok x10 cM
  obtain ⟨tyP, tP⟩ := tyB_ok x12 cP
  have neCP : ga K "Ratio" ≠ ga K "Poly" := fun z => by
    rw [z, Nat.beq_refl] at x13
    cases x13
  have gBadValue : mg "BadValue" = some (.ref (ga K "BadValue")) := He.glo_ok X G (cA.t.d.fact 45 (f := .glo "BadValue") rfl)
  have gNoDivisor : mg "NoDivisor" = some (.ref (ga K "NoDivisor")) := He.glo_ok X G (cA.t.d.fact 46 (f := .glo "NoDivisor") rfl)
  have gRatio : mg "Ratio" = some (.ref (ga K "Ratio")) := He.glo_ok X G (cA.t.d.fact 47 (f := .glo "Ratio") rfl)
  have gPoly : mg "Poly" = some (.ref (ga K "Poly")) := He.glo_ok X G (cA.t.d.fact 48 (f := .glo "Poly") rfl)
  have gMark : mg "Mark" = some (.ref (ga K "Mark")) := He.glo_ok X G (cA.t.d.fact 49 (f := .glo "Mark") rfl)
  have fint : mg "int" = none := He.free_ok X G (cA.t.d.fact 50 (f := .free "int") rfl)
  have fbool : mg "bool" = none := He.free_ok X G (cA.t.d.fact 51 (f := .free "bool") rfl)
  have fisinstance : mg "isinstance" = none := He.free_ok X G (cA.t.d.fact 52 (f := .free "isinstance") rfl)
  have fabs : mg "abs" = none := He.free_ok X G (cA.t.d.fact 53 (f := .free "abs") rfl)
  have fstr : mg "str" = none := He.free_ok X G (cA.t.d.fact 54 (f := .free "str") rfl)
  have flist : mg "list" = none := He.free_ok X G (cA.t.d.fact 55 (f := .free "list") rfl)
  have flen : mg "len" = none := He.free_ok X G (cA.t.d.fact 56 (f := .free "len") rfl)
  have frange : mg "range" = none := He.free_ok X G (cA.t.d.fact 57 (f := .free "range") rfl)
  have fmin : mg "min" = none := He.free_ok X G (cA.t.d.fact 58 (f := .free "min") rfl)
  have fall : mg "all" = none := He.free_ok X G (cA.t.d.fact 59 (f := .free "all") rfl)
  have fmax : mg "max" = none := He.free_ok X G (cA.t.d.fact 60 (f := .free "max") rfl)
  have ftuple : mg "tuple" = none := He.free_ok X G (cA.t.d.fact 61 (f := .free "tuple") rfl)
  have fgetattr : mg "getattr" = none := He.free_ok X G (cA.t.d.fact 62 (f := .free "getattr") rfl)
  have fzip : mg "zip" = none := He.free_ok X G (cA.t.d.fact 63 (f := .free "zip") rfl)
  have fenumerate : mg "enumerate" = none := He.free_ok X G (cA.t.d.fact 64 (f := .free "enumerate") rfl)
  have TX : TxtR mg := ⟨fint, fbool, fisinstance, fabs, fstr, flist, flen, frange, fmin, fall, bltB_ok X G x7⟩
  have bl := bltB_ok X G x8
  have MK : MarkC K mg (ga K "Mark") := ⟨gMark, fgetattr, top1B_ok x9, tM⟩
  have RC : RatC K mg (ga K "Ratio") (ma K (ga K "Ratio") "__init__") := ⟨He.mkr_ok (cA.t.d.fact 68 (f := .mkr "Ratio") rfl), cR, He.noat_ok (cA.t.d.fact 66 (f := .noat "Ratio" "top") rfl), He.noat_ok (cA.t.d.fact 67 (f := .noat "Ratio" "bottom") rfl), gRatio, top1B_ok x3, tR⟩
  have PC : PolC K mg (ga K "Poly") (ga K "Mark") (ma K (ga K "Poly") "__init__") (ma K (ga K "Mark") "__init__") := ⟨He.mkr_ok (cA.t.d.fact 72 (f := .mkr "Poly") rfl), cP, He.noat_ok (cA.t.d.fact 70 (f := .noat "Poly" "parts") rfl), He.noat_ok (cA.t.d.fact 71 (f := .noat "Poly" "mark") rfl), gPoly, top1B_ok x11, tP, He.mkr_ok (cA.t.d.fact 75 (f := .mkr "Mark") rfl), cM, He.noat_ok (cA.t.d.fact 74 (f := .noat "Mark" "below") rfl), gMark⟩
  have XM : ExmR K (ga K "BadValue") (ga K "NoDivisor") := ⟨He.exm_ok (cA.t.d.fact 86 (f := .exm "BadValue" "BadValue" true) rfl), He.exm_ok (cA.t.d.fact 87 (f := .exm "NoDivisor" "BadValue" false) rfl), He.exm_ok (cA.t.d.fact 88 (f := .exm "NoDivisor" "NoDivisor" true) rfl)⟩
  have e := hfa.symm.trans glaw
  cases e
  have cRef := code_of (p := pRef) F_law_refusals_right
  have ms2 : pRef ∈ tf := List.mem_cons_self
  have both : ∀ {Pr : Addr × Addr → Prop}, Pr (He.cT K pRef) → ∀ p ∈ [He.cT K pRef], Pr p := fun v p hp => by
    rcases List.mem_cons.mp hp with rfl | hp
    · exact v
    · cases hp
  refine ⟨dlaw, [He.cT K pRef], spLaw6 K [((He.cT K pRef).2, qRef6)], both (cA.empty _ ms2), both (cA.out _ ms2), both (PySem.W.codeHd_of_K X (cA.hd _ ms2)), fun s v => FunD.bindsA (ps := ["_law_script"]) Flaw (fun _ _ _ _ _ _ us hl => match us, hl with | [_], _ => rfl) s [v] rfl, fun H a ns hl _ ht hS => ⟨a, ns, rfl, hS, hl, fun p hp => ?_, fun _ => rfl⟩, fun base KB NB TB => ?_⟩
  · rcases List.mem_cons.mp hp with rfl | hp
    · exact TabS.nil (ht _ List.mem_cons_self)
    · cases hp
  have TR : TabB base mg (He.codeOf K pRef) (He.cT K pRef).2 := TB _ List.mem_cons_self
  have ER : ErrR PySem.Challenge.rw_allstreams_k06_whole_divisions.prog w K mg base (ga K "BadValue") (ga K "NoDivisor") := ⟨oBad (funOf FBadValue___init__) O1.O gBadValue O1.Z O1.no, ⟨n1, n2, gNoDivisor, clsXB_ok n4⟩, O1.ty, eqV_ok n3⟩
  have Gis_integer := ok_isInt (P := PySem.Challenge.rw_allstreams_k06_whole_divisions.prog) (w := w) (base := base) (funOf Fis_integer) TX
  have Gneed_integer := ok_need (funOf Fneed_integer) Gis_integer gis_integer Fis_integer.kp bis_integer ER
  have RT : Rat PySem.Challenge.rw_allstreams_k06_whole_divisions.prog w K mg base (ga K "BadValue") (ga K "NoDivisor") (ga K "Ratio") (ma K (ga K "Ratio") "__init__") := mk_rat FRatio___init__ Gneed_integer gneed_integer Fneed_integer.kp bneed_integer ER RC TX tyR
  have Glooks_after0 := ok_looks (P := PySem.Challenge.rw_allstreams_k06_whole_divisions.prog) (w := w) (base := base) (funOf Flooks_after) MK TX
  have Glooks_after := ok_looksP (P := PySem.Challenge.rw_allstreams_k06_whole_divisions.prog) (w := w) (base := base) (C := ga K "Ratio") (funOf Flooks_after) MK TX PC tyM
  have Gas_ratio := ok_as (funOf Fas_ratio) RT TX
  have Goperand := ok_opd (funOf Foperand) RT TX Glooks_after0 glooks_after Flooks_after.kp blooks_after Gas_ratio gas_ratio Fas_ratio.kp bas_ratio
  have GRatio___add__ := ok_add (funOf FRatio___add__) RT Goperand goperand Foperand.kp boperand
  have Oadd : OpC K (ga K "Ratio") (ma K (ga K "Ratio") "__add__") (ma K (ga K "Ratio") "__radd__") .Add := ⟨MRatio___add__.at_, MRatio___add__.fn, MRatio___radd__.at_, MRatio___radd__.fn⟩
  have GRatio___neg__ := ok_neg (funOf FRatio___neg__) RT
  have GRatio___eq__ := ok_eq (funOf FRatio___eq__) RT TX
  have EQ : EqR PySem.Challenge.rw_allstreams_k06_whole_divisions.prog w K mg base (ga K "Ratio") := ⟨⟨_, _, MRatio___eq__.at_, MRatio___eq__.fn, GRatio___eq__, bRatio___eq__⟩⟩
  have Gis_list := ok_isLT (P := PySem.Challenge.rw_allstreams_k06_whole_divisions.prog) (w := w) (base := base) (funOf Fis_list) TX ftuple
  have Gneed_list := ok_needL (funOf Fneed_list) Gis_list gis_list Fis_list.kp bis_list ER
  have Gratio_list := ok_rList (funOf Fratio_list) RT Gneed_list gneed_list Fneed_list.kp bneed_list Gas_ratio gas_ratio Fas_ratio.kp bas_ratio
  have GMark___init__ := ok_mInit (P := PySem.Challenge.rw_allstreams_k06_whole_divisions.prog) (w := w) (base := base) (funOf FMark___init__) PC
  have GPoly___init__ := ok_pInit (funOf FPoly___init__) TX ftuple PC RT GMark___init__ bMark___init__ ⟨⟨_, _, Gratio_list, gratio_list, Fratio_list.kp, bratio_list⟩⟩
  have PL : Pol PySem.Challenge.rw_allstreams_k06_whole_divisions.prog w K mg base (ga K "BadValue") (ga K "Ratio") (ga K "Poly") (ga K "Mark") (ma K (ga K "Poly") "__init__") (ma K (ga K "Mark") "__init__") := ⟨PC, _, GPoly___init__, bPoly___init__⟩
  have Gshared_bottom := ok_shB (funOf Fshared_bottom) RT bl
  have Gwhole_parts := ok_whl (funOf Fwhole_parts) RT ⟨⟨_, _, Gshared_bottom, gshared_bottom, Fshared_bottom.kp, bshared_bottom⟩⟩
  have Gdivided_parts := ok_divP (P := PySem.Challenge.rw_allstreams_k06_whole_divisions.prog) (w := w) (base := base) (funOf Fdivided_parts) TX fenumerate
  have Gpoly_by := ok_pby (funOf Fpoly_by) RT PL
  have Gquotient_and_rest := ok_quo (funOf Fquotient_and_rest) PC ⟨⟨_, _, Gwhole_parts, gwhole_parts, Fwhole_parts.kp, bwhole_parts⟩⟩ ⟨⟨_, _, Gdivided_parts, gdivided_parts, Fdivided_parts.kp, bdivided_parts⟩⟩ ⟨⟨_, _, Gpoly_by, gpoly_by, Fpoly_by.kp, bpoly_by⟩⟩
  have Gneed_poly := ok_needP (funOf Fneed_poly) TX ER PC tyP
  have GPoly_divided := ok_divd (funOf FPoly_divided) ER PC ⟨⟨_, _, Gneed_poly, gneed_poly, Fneed_poly.kp, bneed_poly⟩⟩ ⟨⟨_, _, Gquotient_and_rest, gquotient_and_rest, Fquotient_and_rest.kp, bquotient_and_rest⟩⟩
  have Gas_poly := ok_asP (funOf Fas_poly) TX PL tyP ⟨⟨_, _, Gas_ratio, gas_ratio, Fas_ratio.kp, bas_ratio⟩⟩
  have GPoly___neg__ := ok_negP (funOf FPoly___neg__) RT PL MRatio___neg__.at_ MRatio___neg__.fn GRatio___neg__ bRatio___neg__
  have GPoly___add__ := ok_addP (funOf FPoly___add__) TX fzip RT PL ⟨⟨_, _, Glooks_after, glooks_after, Flooks_after.kp, blooks_after⟩⟩ ⟨⟨_, _, Gas_poly, gas_poly, Fas_poly.kp, bas_poly⟩⟩ Oadd GRatio___add__ bRatio___add__
  have OaddP : OpC K (ga K "Poly") (ma K (ga K "Poly") "__add__") (ma K (ga K "Poly") "__radd__") .Add := ⟨MPoly___add__.at_, MPoly___add__.fn, MPoly___radd__.at_, MPoly___radd__.fn⟩
  have OsubP : OpC K (ga K "Poly") (ma K (ga K "Poly") "__sub__") (ma K (ga K "Poly") "__rsub__") .Sub := ⟨MPoly___sub__.at_, MPoly___sub__.fn, MPoly___rsub__.at_, MPoly___rsub__.fn⟩
  have GPoly___sub__ := ok_subP (funOf FPoly___sub__) PL ⟨⟨_, _, Glooks_after, glooks_after, Flooks_after.kp, blooks_after⟩⟩ ⟨⟨_, _, Gas_poly, gas_poly, Fas_poly.kp, bas_poly⟩⟩ OaddP GPoly___add__ bPoly___add__ MPoly___neg__.at_ MPoly___neg__.fn GPoly___neg__ bPoly___neg__
  have G_law_pen := ok_pen (P := PySem.Challenge.rw_allstreams_k06_whole_divisions.prog) (w := w) (base := base) (funOf F_law_pen) TX
  have G_law_draw := ok_draw (P := PySem.Challenge.rw_allstreams_k06_whole_divisions.prog) (w := w) (base := base) (funOf F_law_draw) TX
  have G_law_pick := ok_pick (P := PySem.Challenge.rw_allstreams_k06_whole_divisions.prog) (w := w) (base := base) (funOf F_law_pick) (funOf F_law_draw) g_law_draw b_law_draw TX
  have G_law_wide := ok_wide (funOf F_law_wide) TX G_law_draw g_law_draw F_law_draw.kp b_law_draw
  have G_law_gcd := ok_gcd (P := PySem.Challenge.rw_allstreams_k06_whole_divisions.prog) (w := w) (base := base) (funOf F_law_gcd) TX
  have G_law_lowest := ok_lowest (funOf F_law_lowest) G_law_gcd g_law_gcd F_law_gcd.kp b_law_gcd
  have G_law_plus := ok_plus (funOf F_law_plus) G_law_lowest g_law_lowest F_law_lowest.kp b_law_lowest
  have G_law_times := ok_times (funOf F_law_times) G_law_lowest g_law_lowest F_law_lowest.kp b_law_lowest
  have G_law_int := ok_int (P := PySem.Challenge.rw_allstreams_k06_whole_divisions.prog) (w := w) (base := base) (funOf F_law_int) TX
  have G_law_is := ok_is (funOf F_law_is) TX RT G_law_int g_law_int F_law_int.kp b_law_int
  have G_law_alike := ok_alik6 (funOf F_law_alike) TX RT EQ
  have G_law_few := ok_few (funOf F_law_few) ⟨⟨_, _, G_law_draw, g_law_draw, F_law_draw.kp, b_law_draw⟩⟩ ⟨⟨_, _, G_law_lowest, g_law_lowest, F_law_lowest.kp, b_law_lowest⟩⟩ ⟨⟨_, _, G_law_wide, g_law_wide, F_law_wide.kp, b_law_wide⟩⟩
  have G_law_real := ok_real (funOf F_law_real) ⟨⟨_, _, G_law_few, g_law_few, F_law_few.kp, b_law_few⟩⟩ ⟨⟨_, _, G_law_pick, g_law_pick, F_law_pick.kp, b_law_pick⟩⟩
  have G_law_trim := ok_trim (P := PySem.Challenge.rw_allstreams_k06_whole_divisions.prog) (w := w) (base := base) (funOf F_law_trim) TX
  have G_law_at := ok_at (P := PySem.Challenge.rw_allstreams_k06_whole_divisions.prog) (w := w) (base := base) (funOf F_law_at) TX
  have G_law_add := ok_addL (funOf F_law_add) TX fmax ⟨⟨_, _, G_law_plus, g_law_plus, F_law_plus.kp, b_law_plus⟩⟩ ⟨⟨_, _, G_law_at, g_law_at, F_law_at.kp, b_law_at⟩⟩ ⟨⟨_, _, G_law_trim, g_law_trim, F_law_trim.kp, b_law_trim⟩⟩
  have G_law_scaled := ok_scal (funOf F_law_scaled) ⟨⟨_, _, G_law_times, g_law_times, F_law_times.kp, b_law_times⟩⟩ ⟨⟨_, _, G_law_trim, g_law_trim, F_law_trim.kp, b_law_trim⟩⟩
  have G_law_mul := ok_mulL (funOf F_law_mul) TX fmax ⟨⟨_, _, G_law_plus, g_law_plus, F_law_plus.kp, b_law_plus⟩⟩ ⟨⟨_, _, G_law_times, g_law_times, F_law_times.kp, b_law_times⟩⟩ ⟨⟨_, _, G_law_trim, g_law_trim, F_law_trim.kp, b_law_trim⟩⟩
  have G_law_some := ok_somL (funOf F_law_some) TX ⟨⟨_, _, G_law_draw, g_law_draw, F_law_draw.kp, b_law_draw⟩⟩ ⟨⟨_, _, G_law_few, g_law_few, F_law_few.kp, b_law_few⟩⟩ ⟨⟨_, _, G_law_trim, g_law_trim, F_law_trim.kp, b_law_trim⟩⟩
  have G_law_divisor := ok_divL (funOf F_law_divisor) TX ⟨⟨_, _, G_law_few, g_law_few, F_law_few.kp, b_law_few⟩⟩ ⟨⟨_, _, G_law_real, g_law_real, F_law_real.kp, b_law_real⟩⟩
  have G_law_told := ok_toldL (funOf F_law_told) RT ⟨⟨_, _, G_law_draw, g_law_draw, F_law_draw.kp, b_law_draw⟩⟩
  have G_law_poly := ok_polyL (funOf F_law_poly) TX ftuple PL ⟨⟨_, _, G_law_draw, g_law_draw, F_law_draw.kp, b_law_draw⟩⟩ ⟨⟨_, _, G_law_told, g_law_told, F_law_told.kp, b_law_told⟩⟩
  have G_law_poly_is := ok_polyIs (funOf F_law_poly_is) TX ftuple PC tyP ⟨⟨_, _, G_law_is, g_law_is, F_law_is.kp, b_law_is⟩⟩
  have G_law_pair_is := ok_pairIs (funOf F_law_pair_is) TX ftuple ⟨⟨_, _, G_law_poly_is, g_law_poly_is, F_law_poly_is.kp, b_law_poly_is⟩⟩
  have LP : PolL PySem.Challenge.rw_allstreams_k06_whole_divisions.prog w K mg base (ga K "Ratio") (ga K "Poly") (ga K "Mark") (ga K "BadValue") (ga K "NoDivisor") (ma K (ga K "Poly") "divided") dPoly_divided := ⟨⟨⟨_, _, G_law_divisor, g_law_divisor, F_law_divisor.kp, b_law_divisor⟩⟩, ⟨⟨_, _, G_law_draw, g_law_draw, F_law_draw.kp, b_law_draw⟩⟩, ⟨⟨_, _, G_law_some, g_law_some, F_law_some.kp, b_law_some⟩⟩, ⟨⟨_, _, G_law_few, g_law_few, F_law_few.kp, b_law_few⟩⟩, ⟨⟨_, _, G_law_trim, g_law_trim, F_law_trim.kp, b_law_trim⟩⟩, ⟨⟨_, _, G_law_add, g_law_add, F_law_add.kp, b_law_add⟩⟩, ⟨⟨_, _, G_law_mul, g_law_mul, F_law_mul.kp, b_law_mul⟩⟩, ⟨⟨_, _, G_law_scaled, g_law_scaled, F_law_scaled.kp, b_law_scaled⟩⟩, ⟨⟨_, _, G_law_poly, g_law_poly, F_law_poly.kp, b_law_poly⟩⟩, ⟨⟨_, _, G_law_poly_is, g_law_poly_is, F_law_poly_is.kp, b_law_poly_is⟩⟩, ⟨⟨_, _, G_law_pair_is, g_law_pair_is, F_law_pair_is.kp, b_law_pair_is⟩⟩, cP, MPoly_divided, GPoly_divided, bPoly_divided⟩
  have G_law_one_right := ok_oneR (funOf F_law_one_right) TX LP
  have G_law_digits_right := ok_digR (funOf F_law_digits_right) TX LP
  have hm2 : ((He.cT K pRef).2, qRef6) ∈ [((He.cT K pRef).2, qRef6)] := List.mem_cons_self
  have hu2 : ∀ p ∈ [((He.cT K pRef).2, qRef6)], p.1 = (He.cT K pRef).2 → p.2 = qRef6 := fun p hp e => by
    rcases List.mem_cons.mp hp with rfl | hp
    · rfl
    · cases hp
  have G_law_refusals_right := ok_ref6 (funOf F_law_refusals_right) cRef TX TR hm2 hu2 RT LP PL ER XM neCP OsubP GPoly___sub__ bPoly___sub__ (funOf F_law_fault) g_law_fault b_law_fault (funOf F_law_refused) g_law_refused b_law_refused G_law_alike g_law_alike F_law_alike.kp b_law_alike ⟨⟨_, _, G_law_pick, g_law_pick, F_law_pick.kp, b_law_pick⟩⟩
  exact ok_law6 (funOf Flaw) TX ⟨⟨_, _, G_law_pen, g_law_pen, F_law_pen.kp, b_law_pen⟩⟩ ⟨⟨_, _, G_law_one_right, g_law_one_right, F_law_one_right.kp, b_law_one_right⟩⟩ ⟨⟨_, _, G_law_digits_right, g_law_digits_right, F_law_digits_right.kp, b_law_digits_right⟩⟩ ⟨⟨_, _, G_law_refusals_right, g_law_refusals_right, F_law_refusals_right.kp, b_law_refusals_right⟩⟩
end K03
end
section
set_option maxHeartbeats 0
open PySem PySem.W PySem.Calls PyProof.Rows
theorem PySem.Challenge.cw_allstreams_k06_whole_divisions_holds : PySem.Challenge.rw_allstreams_k06_whole_divisions.Holds := by
  w_on; o_law
  refine HandSHeadRun.head_imp (r := OpenLaw.row PySem.Challenge.rw_allstreams_k06_whole_divisions) (q := view (OpenLaw.row PySem.Challenge.rw_allstreams_k06_whole_divisions).prog [0, 74]) (H := K03.hk) (ob := K03.ob) (M := 20000) (loose := K03.names) (d := HandSHeadRun.topDef (OpenLaw.row PySem.Challenge.rw_allstreams_k06_whole_divisions).prog 74) (kwd := []) K03.ob_eq
    K03.run (by kernel_rfl) (by kernel_rfl) (by kernel_rfl) (by rfl) (by first | assumption | decide +kernel) (by decide +kernel) ⟨rfl, rfl, rfl, rfl, rfl, by decide +kernel⟩ ?hw ?hc
  case hw => w_witness2
  case hc =>
    refine LamX.walk_ofTsE (l := PySem.Challenge.rw_allstreams_k06_whole_divisions) (n := 63) (k := 18) (x := "_law_script") (CX := fun _ => L2.CX0) rfl (by decide) (by kernel_rfl) ⟨rfl, by decide, by decide⟩ ?F (fun _ _ _ _ _ z => z)
    intro w mg fa h Y G hmg0
    obtain ⟨K, KX, c⟩ := Y
    have hmg : mg ("law" : PySem.Str) = some (.ref fa) := by
      have e : (HandSHeadRun.topDef (OpenLaw.row PySem.Challenge.rw_allstreams_k06_whole_divisions).prog 74).name = ("law" : PySem.Str) := by kernel_rfl
      rw [← e]
      exact hmg0
    exact ⟨K, KX, K03.facts KX G hmg c⟩
end
