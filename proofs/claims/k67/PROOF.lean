import PyProof.Rows.All
import Wide.All
import OpenK.AllK
import Wide.FinOn
import HandS.Head3
import HandS.HeadHook4
import HandS.HeadWalk
import HandS.Words
import HandS.WordsExc
import HandS.ForMost
import HandS.ExcInit
import HandS.Defaults
import HandS.MakeKwOnly
import HandS.ExcIs
import HandS.IsInst
import HandS.ExcValue
import KE.KOpsOwn
import PyProof.FactsAll.int_1
import PyProof.FactsAll.int_3
import PyProof.FactsAll.int_5
import PyProof.FactsAll.bool_1
import PyProof.FactsAll.bool_2
import PyProof.FactsAll.bool_3
import HandS.Wide
import HandS.Gcd
import HandS.Comp
import HandS.AnyAll
import PyProof.AttrMissHeap
import KE.KBoundM
import HandS.Lambda
import HandS.Nested
import HandS.Exc
import KE.GoesRaise
import HandS.List
import HandS.Style
import KE.KEqSeq
import HandS.Text
import HandS.StrMore
import HandS.FStr
import PyProof.Rows.StrDigitsNeg
import PyProof.Rows.ReprOcc
import HandS.SlotsOwn
import KE.KCallOwn
import HandS.TryMany
import HandS.ExcField
import HandS.More
import HandS.Walk
import OpenK.KNot
import OpenK.KMake
import HandS.Zip
import HandS.TupAny
import HandS.Star
import HandS.WideBits
import HandS.SortKw
import KE.DataMinMax
import KE.IntBitsLaws
import KE.GoesEnum
import KE.GoesMore
import HandS.CallLocal
import HandS.OwnEq
import HandS.DeepEq
import PyProof.P3Eq
import HandS.Head2
import PySem.Challenge.RW_allstreams_k67_whole_rounded_ladders
set_option Elab.async false
set_option linter.all false
set_option maxRecDepth 100000
section
namespace HX
open PySem PySem.Spec PyProof.Rows L2 He
/-- an exception class of one's own, right by its object -/
def oexB (K : PySem.W.Frag) (C : Addr) : Bool := match K.lookup C with
  | some ⟨.type y, _, .cls cd, sl⟩ => y == "type" && (match cd.mro, sl.toList with
    | .ref C' :: bm, [_, _, _, _, some (.builtin n), _] => C' == C && (n == "ValueError.__new__" && (!cd.hasDel && (cd.hasDict && PySem.HandSPX.refsVE bm)))
    | _, _ => false)
  | _ => false
def eqV (a b : Option Value) : Bool := decide (a = b)
def eqB (a b : Option Bool) : Bool := decide (a = b)
def clsXB (K : PySem.W.Frag) (D : Addr) : Bool := eqO (PySem.W.findIn K (.ref D) "__getattribute__") (some (some (.builtin "BaseException.__getattribute__"))) && (eqO (PySem.W.findIn K (.ref D) "__getattr__") (some none) && (eqB (PySem.W.subIn K (.ref D) (.type "BaseException")) (some true) && (PySem.W.hasDictIn K D &&
  (eqO (PySem.W.findIn K (.ref D) "__class__") (some (some (.builtin "object.__class__"))) && (eqO (PySem.W.specialIn K (.builtin "object.__class__") "__get__") (some (some (.builtin "getset_descriptor.__get__"))) && (eqB (PySem.W.takesIn K (.builtin "object.__class__")) (some true) && eqB (PySem.W.mroIn K D (.type "object")) (some true)))))))
/-- an error with an __init__ of its own, its field f -/
def oneB (K : PySem.W.Frag) (C : Addr) (f : Str) : Bool := oexB K C && (eqO (PySem.W.findIn K (.ref C) "__setattr__") (some (some (.builtin "object.__setattr__"))) && (eqV (PySem.W.typeIn K (.ref C)) (some (.type "type")) && (PySem.W.keepIn K (.ref C) &&
  (eqO (PySem.W.findIn K (.ref C) "__init__") (some (some (.ref (ma K C "__init__")))) && (eqV (PySem.W.typeIn K (.ref (ma K C "__init__"))) (some (.type "function")) && (eqO (PySem.W.findIn K (.ref C) f) (some none) && clsXB K C))))))
/-- an error without one -/
def bareB (K : PySem.W.Frag) (C : Addr) : Bool := PySem.W.excIn K C [.type "ValueError", .type "Exception", .type "BaseException", .type "object"] "ValueError.__new__" && (PySem.W.keepIn K (.ref C) && (eqV (PySem.W.typeIn K (.ref C)) (some (.type "type")) && clsXB K C))
/-- a class right below object -/
def top1B (K : PySem.W.Frag) (C : Addr) : Bool := (match PySem.W.clsIn K C with
  | some cd => decide (cd.mro = [.ref C, .type "object"])
  | none => false) && PySem.W.selfFirst K C
/-- what isinstance asks of a class -/
def tyB (K : PySem.W.Frag) (C : Addr) : Bool := eqO (PySem.W.findIn K (.ref C) "__class__") (some (some (.builtin "object.__class__"))) && (eqO (PySem.W.specialIn K (.builtin "object.__class__") "__get__") (some (some (.builtin "getset_descriptor.__get__"))) &&
  (eqB (PySem.W.takesIn K (.builtin "object.__class__")) (some true) && (eqB (PySem.W.mroIn K C (.type "object")) (some true) && eqV (PySem.W.typeIn K (.ref C)) (some (.type "type")))))
/-- a module's name for a built-in function -/
def bltB (K : PySem.W.Frag) (x : Str) (id : String) : Bool := eqO (PySem.W.nsIn K mainGlobals x) (some (some (.builtin id)))
/-- the run is well looked at -/
def RunS (r : PySem.W.OpenRow) (q : Program) (M : Nat) (loose : List Str) (w : World) : Prop :=
  (HandSHeadRun.wholeF (fun p => HandSHeadRun.stepQ (HandSHeadRun.denQ HandSHeadRun.tabQ) p w) HandSHeadRun.fenceQ M r.prog).map (fun x => (HandSHeadRun.looksF r.prog x.1.heap x.2.abs, HandSHeadRun.seenQ q loose (PySem.importedModules r.prog.main.body) (fun s => PySem.W.xlAt q [] s && PySem.W.recOk r.toRowW.records s) x.2.abs)) = some (true, PySem.W.openGood q loose)
end HX
namespace L2
open PySem PySem.Spec PyProof.Rows
/-- the class's name is short -/
def nmB (K : PySem.W.Frag) (C : Addr) : Bool := match PySem.W.clsIn K C with
  | some cd => decide (cd.name.cps.foldl (fun k c => k + (Str.utf8Of c).length) 0 ≤ 100) && decide (cd.name.toString.length ≤ 50)
  | none => false
end L2
namespace K03
open PySem PySem.Spec PyProof.Rows L2
def top (i : Nat) : Stmt := PySem.Challenge.pw_allstreams_k67_whole_rounded_ladders.main.body.getD i (.Pass ⟨0, 0, 0, 0⟩)
end K03
end
section
namespace HX
open PySem PySem.Spec PyProof.Rows L2 He
/-- a piece of what is told of a head -/
structure Pc2 where
  fa : List He.Fa
  fn : List He.DefD
  ts : List He.Tab
  tf : List He.Defn
  ex : PySem.W.Frag → Bool
def obP2 (p : Pc2) (g : Addr → Option Obj) : He.AlX := He.obsX 4 p.fa p.fn p.ts p.tf p.ex g
def vlP2 (p : Pc2) (w : World) : He.AlX := He.valX p.fn p.ts w
/-- all pieces of one head -/
def hookL2 (ps : List Pc2) : PySem.W.Hook where
  α := List He.AlX
  obs := fun s => ps.map fun p => obP2 p s.heap.get?
  val := fun w => ps.map fun p => vlP2 p w
  says := fun w h => ∃ K : PySem.W.Frag, K.In h ∧ ∀ p ∈ ps, He.SaysX p.fa p.fn p.ts p.tf p.ex w h K
  of := fun _ _ e => ⟨_, He.frT_in, fun p hp => He.saysX_of (List.map_inj_left.mp e p hp)⟩
  keeps := fun _ _ _ ⟨K, hK, c⟩ k => ⟨K, PySem.W.Frag.In.keeps hK k, fun p hp => ⟨(c p hp).t, (c p hp).more, (c p hp).hd, (c p hp).out, fun q hq => k _ _ ((c p hp).empty q hq)⟩⟩
def obL2 (ps : List Pc2) (s : PySem.W.SharedT) : List He.AlX := ps.map fun p => obP2 p (HandSHeadRun.getT s)
theorem obL2_eq (ps : List Pc2) (s : PySem.W.SharedT) : obL2 ps s = (hookL2 ps).obs s.abs := by
  have e : HandSHeadRun.getT s = s.abs.heap.get? := funext (HandSHeadRun.getT_eq s)
  show (ps.map fun p => obP2 p (HandSHeadRun.getT s)) = ps.map fun p => obP2 p s.abs.heap.get?
  rw [e]
/-- the run tells this piece -/
def RunP2 (r : PySem.W.OpenRow) (M : Nat) (p : Pc2) (w : World) : Prop :=
  (HandSHeadRun.wholeF (fun q => HandSHeadRun.stepQ (HandSHeadRun.denQ HandSHeadRun.tabQ) q w) HandSHeadRun.fenceQ M r.prog).map (fun x => obP2 p (HandSHeadRun.getT x.2)) = some (vlP2 p w)
theorem run_all2 {r : PySem.W.OpenRow} {q : Program} {M : Nat} {loose : List Str} {w : World} {ps : List Pc2} (a : RunS r q M loose w) (b : ∀ p ∈ ps, RunP2 r M p w) : HandSHeadRun.RunEqI r q (hookL2 ps) (obL2 ps) M loose w := by
  obtain ⟨x, hx, e⟩ := Option.map_eq_some_iff.mp a
  refine Option.map_eq_some_iff.mpr ⟨x, hx, ?_⟩
  obtain ⟨e1, e2⟩ := Prod.mk.inj e
  refine Prod.ext e1 (Prod.ext e2 ?_)
  show (ps.map fun p => obP2 p (HandSHeadRun.getT x.2)) = ps.map fun p => vlP2 p w
  refine List.map_inj_left.mpr fun p hp => ?_
  obtain ⟨y, hy, e3⟩ := Option.map_eq_some_iff.mp (b p hp)
  rw [hx] at hy
  cases hy
  exact e3
end HX
end
section
set_option maxHeartbeats 0
namespace K03
open PySem PySem.Spec PyProof.Rows L2 HX
open He (ga ma)
def D_is_integer : He.DefD := ⟨("is_integer", none), "is_integer", "is_integer", defArgs (top 7), defBody (top 7), defScope (top 7), [], []⟩
def D_is_whole : He.DefD := ⟨("is_whole", none), "is_whole", "is_whole", defArgs (top 8), defBody (top 8), defScope (top 8), [], []⟩
def D_need_whole : He.DefD := ⟨("need_whole", none), "need_whole", "need_whole", defArgs (top 11), defBody (top 11), defScope (top 11), [], []⟩
def D_is_within : He.DefD := ⟨("is_within", none), "is_within", "is_within", defArgs (top 12), defBody (top 12), defScope (top 12), [], []⟩
def D_is_list : He.DefD := ⟨("is_list", none), "is_list", "is_list", defArgs (top 9), defBody (top 9), defScope (top 9), [], []⟩
def D_need_list : He.DefD := ⟨("need_list", none), "need_list", "need_list", defArgs (top 13), defBody (top 13), defScope (top 13), [], []⟩
def D_looks_after : He.DefD := ⟨("looks_after", none), "looks_after", "looks_after", defArgs (top 16), defBody (top 16), defScope (top 16), [], []⟩
def D_as_ratio : He.DefD := ⟨("as_ratio", none), "as_ratio", "as_ratio", defArgs (top 22), defBody (top 22), defScope (top 22), [], []⟩
def D_operand : He.DefD := ⟨("operand", none), "operand", "operand", defArgs (top 23), defBody (top 23), defScope (top 23), [], []⟩
def D_ratio_list : He.DefD := ⟨("ratio_list", none), "ratio_list", "ratio_list", defArgs (top 24), defBody (top 24), defScope (top 24), [], []⟩
def D_norm : He.DefD := ⟨("norm", none), "norm", "norm", defArgs (top 30), defBody (top 30), defScope (top 30), [], []⟩
def D_greatest : He.DefD := ⟨("greatest", none), "greatest", "greatest", defArgs (top 31), defBody (top 31), defScope (top 31), [], []⟩
def D_shortened : He.DefD := ⟨("shortened", none), "shortened", "shortened", defArgs (top 29), defBody (top 29), defScope (top 29), [], []⟩
def D_packed : He.DefD := ⟨("packed", none), "packed", "packed", defArgs (top 32), defBody (top 32), defScope (top 32), [], []⟩
def D_unpacked : He.DefD := ⟨("unpacked", none), "unpacked", "unpacked", defArgs (top 33), defBody (top 33), defScope (top 33), [], []⟩
def D_multiplied : He.DefD := ⟨("multiplied", none), "multiplied", "multiplied", defArgs (top 34), defBody (top 34), defScope (top 34), [], []⟩
def D_shared_bottom : He.DefD := ⟨("shared_bottom", none), "shared_bottom", "shared_bottom", defArgs (top 27), defBody (top 27), defScope (top 27), [], []⟩
def D_whole_parts : He.DefD := ⟨("whole_parts", none), "whole_parts", "whole_parts", defArgs (top 28), defBody (top 28), defScope (top 28), [], []⟩
def D_poly_by : He.DefD := ⟨("poly_by", none), "poly_by", "poly_by", defArgs (top 38), defBody (top 38), defScope (top 38), [], []⟩
def D_as_poly : He.DefD := ⟨("as_poly", none), "as_poly", "as_poly", defArgs (top 40), defBody (top 40), defScope (top 40), [], []⟩
def D_is_rung : He.DefD := ⟨("is_rung", none), "is_rung", "is_rung", defArgs (top 45), defBody (top 45), defScope (top 45), [], []⟩
def D_is_lane : He.DefD := ⟨("is_lane", none), "is_lane", "is_lane", defArgs (top 46), defBody (top 46), defScope (top 46), [], []⟩
def D_is_amount : He.DefD := ⟨("is_amount", none), "is_amount", "is_amount", defArgs (top 47), defBody (top 47), defScope (top 47), [], []⟩
def D_is_exchange : He.DefD := ⟨("is_exchange", none), "is_exchange", "is_exchange", defArgs (top 48), defBody (top 48), defScope (top 48), [], []⟩
def D_is_factor : He.DefD := ⟨("is_factor", none), "is_factor", "is_factor", defArgs (top 49), defBody (top 49), defScope (top 49), [], []⟩
def D_is_late : He.DefD := ⟨("is_late", none), "is_late", "is_late", defArgs (top 50), defBody (top 50), defScope (top 50), [], []⟩
def D_told_lanes : He.DefD := ⟨("told_lanes", none), "told_lanes", "told_lanes", defArgs (top 52), defBody (top 52), defScope (top 52), [], []⟩
def D_stepped : He.DefD := ⟨("stepped", none), "stepped", "stepped", defArgs (top 53), defBody (top 53), defScope (top 53), [], []⟩
def D_amounts_of : He.DefD := ⟨("amounts_of", none), "amounts_of", "amounts_of", defArgs (top 54), defBody (top 54), defScope (top 54), [], []⟩
def D_taken_back : He.DefD := ⟨("taken_back", none), "taken_back", "taken_back", defArgs (top 55), defBody (top 55), defScope (top 55), [], []⟩
def D__law_begin : He.DefD := ⟨("_law_begin", none), "_law_begin", "_law_begin", defArgs (top 57), defBody (top 57), defScope (top 57), [], []⟩
def D__law_draw : He.DefD := ⟨("_law_draw", none), "_law_draw", "_law_draw", defArgs (top 58), defBody (top 58), defScope (top 58), [], []⟩
def D__law_pick : He.DefD := ⟨("_law_pick", none), "_law_pick", "_law_pick", defArgs (top 59), defBody (top 59), defScope (top 59), [], []⟩
def D__law_gcd : He.DefD := ⟨("_law_gcd", none), "_law_gcd", "_law_gcd", defArgs (top 60), defBody (top 60), defScope (top 60), [], []⟩
def D__law_q : He.DefD := ⟨("_law_q", none), "_law_q", "_law_q", defArgs (top 61), defBody (top 61), defScope (top 61), [], []⟩
def D__law_sign : He.DefD := ⟨("_law_sign", none), "_law_sign", "_law_sign", defArgs (top 62), defBody (top 62), defScope (top 62), [], []⟩
def D__law_plus : He.DefD := ⟨("_law_plus", none), "_law_plus", "_law_plus", defArgs (top 63), defBody (top 63), defScope (top 63), [], []⟩
def D__law_times : He.DefD := ⟨("_law_times", none), "_law_times", "_law_times", defArgs (top 64), defBody (top 64), defScope (top 64), [], []⟩
def D__law_told : He.DefD := ⟨("_law_told", none), "_law_told", "_law_told", defArgs (top 65), defBody (top 65), defScope (top 65), [], []⟩
def D__law_pair_of : He.DefD := ⟨("_law_pair_of", none), "_law_pair_of", "_law_pair_of", defArgs (top 66), defBody (top 66), defScope (top 66), [], []⟩
def D__law_small : He.DefD := ⟨("_law_small", none), "_law_small", "_law_small", defArgs (top 67), defBody (top 67), defScope (top 67), [], []⟩
def D__law_number : He.DefD := ⟨("_law_number", none), "_law_number", "_law_number", defArgs (top 68), defBody (top 68), defScope (top 68), [], []⟩
def D__law_blend : He.DefD := ⟨("_law_blend", none), "_law_blend", "_law_blend", defArgs (top 69), defBody (top 69), defScope (top 69), [], []⟩
def D__law_shown : He.DefD := ⟨("_law_shown", none), "_law_shown", "_law_shown", defArgs (top 70), defBody (top 70), defScope (top 70), [], []⟩
def D__law_read : He.DefD := ⟨("_law_read", none), "_law_read", "_law_read", defArgs (top 71), defBody (top 71), defScope (top 71), [], []⟩
def D__law_climb : He.DefD := ⟨("_law_climb", none), "_law_climb", "_law_climb", defArgs (top 72), defBody (top 72), defScope (top 72), [], []⟩
def D__law_rungs : He.DefD := ⟨("_law_rungs", none), "_law_rungs", "_law_rungs", defArgs (top 73), defBody (top 73), defScope (top 73), [], []⟩
def D__law_back : He.DefD := ⟨("_law_back", none), "_law_back", "_law_back", defArgs (top 74), defBody (top 74), defScope (top 74), [], []⟩
def D__law_amounts : He.DefD := ⟨("_law_amounts", none), "_law_amounts", "_law_amounts", defArgs (top 75), defBody (top 75), defScope (top 75), [], []⟩
def D__law_climbed : He.DefD := ⟨("_law_climbed", none), "_law_climbed", "_law_climbed", defArgs (top 76), defBody (top 76), defScope (top 76), [], []⟩
def D__law_flat : He.DefD := ⟨("_law_flat", none), "_law_flat", "_law_flat", defArgs (top 77), defBody (top 77), defScope (top 77), [], []⟩
def D__law_numbers : He.DefD := ⟨("_law_numbers", none), "_law_numbers", "_law_numbers", defArgs (top 78), defBody (top 78), defScope (top 78), [], []⟩
def D_law : He.DefD := ⟨("law", none), "law", "law", defArgs (top 79), defBody (top 79), defScope (top 79), [], []⟩
def D_BadValue___init__ : He.DefD := ⟨("BadValue", some "__init__"), "__init__", "BadValue.__init__", defArgs (inClass (top 4) 0), defBody (inClass (top 4) 0), defScope (inClass (top 4) 0), [], []⟩
def D_Ratio___init__ : He.DefD := ⟨("Ratio", some "__init__"), "__init__", "Ratio.__init__", defArgs (inClass (top 21) 0), defBody (inClass (top 21) 0), defScope (inClass (top 21) 0), [.int 1], []⟩
def D_Ratio___add__ : He.DefD := ⟨("Ratio", some "__add__"), "__add__", "Ratio.__add__", defArgs (inClass (top 21) 2), defBody (inClass (top 21) 2), defScope (inClass (top 21) 2), [], []⟩
def D_Ratio___sub__ : He.DefD := ⟨("Ratio", some "__sub__"), "__sub__", "Ratio.__sub__", defArgs (inClass (top 21) 4), defBody (inClass (top 21) 4), defScope (inClass (top 21) 4), [], []⟩
def D_Ratio___mul__ : He.DefD := ⟨("Ratio", some "__mul__"), "__mul__", "Ratio.__mul__", defArgs (inClass (top 21) 6), defBody (inClass (top 21) 6), defScope (inClass (top 21) 6), [], []⟩
def D_Ratio_inverse : He.DefD := ⟨("Ratio", some "inverse"), "inverse", "Ratio.inverse", defArgs (inClass (top 21) 10), defBody (inClass (top 21) 10), defScope (inClass (top 21) 10), [], []⟩
def D_Ratio_floor : He.DefD := ⟨("Ratio", some "floor"), "floor", "Ratio.floor", defArgs (inClass (top 21) 14), defBody (inClass (top 21) 14), defScope (inClass (top 21) 14), [], []⟩
def D_Mark___init__ : He.DefD := ⟨("Mark", some "__init__"), "__init__", "Mark.__init__", defArgs (inClass (top 15) 0), defBody (inClass (top 15) 0), defScope (inClass (top 15) 0), [], []⟩
def D_Poly___init__ : He.DefD := ⟨("Poly", some "__init__"), "__init__", "Poly.__init__", defArgs (inClass (top 37) 0), defBody (inClass (top 37) 0), defScope (inClass (top 37) 0), [], []⟩
def D_Poly___mul__ : He.DefD := ⟨("Poly", some "__mul__"), "__mul__", "Poly.__mul__", defArgs (inClass (top 37) 6), defBody (inClass (top 37) 6), defScope (inClass (top 37) 6), [], []⟩
def D_Poly_part : He.DefD := ⟨("Poly", some "part"), "part", "Poly.part", defArgs (inClass (top 37) 12), defBody (inClass (top 37) 12), defScope (inClass (top 37) 12), [], []⟩
def D_Ladder___init__ : He.DefD := ⟨("Ladder", some "__init__"), "__init__", "Ladder.__init__", defArgs (inClass (top 44) 0), defBody (inClass (top 44) 0), defScope (inClass (top 44) 0), [], []⟩
def D_Ladder_run_rounded : He.DefD := ⟨("Ladder", some "run_rounded"), "run_rounded", "Ladder.run_rounded", defArgs (inClass (top 44) 3), defBody (inClass (top 44) 3), defScope (inClass (top 44) 3), [], []⟩
def D_Ladder_undone : He.DefD := ⟨("Ladder", some "undone"), "undone", "Ladder.undone", defArgs (inClass (top 44) 5), defBody (inClass (top 44) 5), defScope (inClass (top 44) 5), [], []⟩
def fnA : List He.DefD := [D_is_integer, D_is_whole, D_need_whole, D_is_within, D_is_list, D_need_list, D_looks_after, D_as_ratio, D_operand, D_ratio_list, D_norm, D_greatest, D_shortened, D_packed, D_unpacked, D_multiplied, D_shared_bottom, D_whole_parts, D_poly_by, D_as_poly, D_is_rung, D_is_lane, D_is_amount, D_is_exchange, D_is_factor, D_is_late, D_told_lanes, D_stepped, D_amounts_of, D_taken_back, D__law_begin, D__law_draw, D__law_pick, D__law_gcd]
def fnB : List He.DefD := [D__law_q, D__law_sign, D__law_plus, D__law_times, D__law_told, D__law_pair_of, D__law_small, D__law_number, D__law_blend, D__law_shown, D__law_read, D__law_climb, D__law_rungs, D__law_back, D__law_amounts, D__law_climbed, D__law_flat, D__law_numbers, D_law, D_BadValue___init__, D_Ratio___init__, D_Ratio___add__, D_Ratio___sub__, D_Ratio___mul__, D_Ratio_inverse, D_Ratio_floor, D_Mark___init__, D_Poly___init__, D_Poly___mul__, D_Poly_part, D_Ladder___init__, D_Ladder_run_rounded, D_Ladder_undone]
def fa0 : List He.Fa := [.glo "is_integer", .glo "is_whole", .glo "need_whole", .glo "is_within", .glo "is_list", .glo "need_list", .glo "looks_after", .glo "as_ratio", .glo "operand", .glo "ratio_list", .glo "norm", .glo "greatest"]
def fa1 : List He.Fa := [.glo "shortened", .glo "packed", .glo "unpacked", .glo "multiplied", .glo "shared_bottom", .glo "whole_parts", .glo "poly_by", .glo "as_poly", .glo "is_rung", .glo "is_lane", .glo "is_amount", .glo "is_exchange"]
def fa2 : List He.Fa := [.glo "is_factor", .glo "is_late", .glo "told_lanes", .glo "stepped", .glo "amounts_of", .glo "taken_back", .glo "_law_begin", .glo "_law_draw", .glo "_law_pick", .glo "_law_gcd", .glo "_law_q", .glo "_law_sign"]
def fa3 : List He.Fa := [.glo "_law_plus", .glo "_law_times", .glo "_law_told", .glo "_law_pair_of", .glo "_law_small", .glo "_law_number", .glo "_law_blend", .glo "_law_shown", .glo "_law_read", .glo "_law_climb", .glo "_law_rungs", .glo "_law_back"]
def fa4 : List He.Fa := [.glo "_law_amounts", .glo "_law_climbed", .glo "_law_flat", .glo "_law_numbers", .glo "law", .glo "BadValue", .glo "NoDivisor", .glo "Ratio", .glo "Poly", .glo "Mark", .glo "Ladder", .glo "RUNGS"]
def fa5 : List He.Fa := [.glo "TAKEN_BACK", .free "int", .free "bool", .free "isinstance", .free "abs", .free "str", .free "list", .free "len", .free "range", .free "min", .free "all", .free "max"]
def fa6 : List He.Fa := [.free "tuple", .free "getattr", .free "zip", .free "enumerate", .free "NotImplemented", .free "sum", .free "any", .cls "Ratio", .noat "Ratio" "top", .noat "Ratio" "bottom", .noat "Ratio" "mark", .mkr "Ratio"]
def fa7 : List He.Fa := [.cls "Poly", .noat "Poly" "parts", .noat "Poly" "mark", .mkr "Poly", .cls "Mark", .noat "Mark" "below", .mkr "Mark", .cls "Ladder", .noat "Ladder" "rungs", .mkr "Ladder", .meth "Ratio" "__add__", .meth "Ratio" "__radd__"]
def fa8 : List He.Fa := [.meth "Ratio" "__sub__", .meth "Ratio" "__rsub__", .meth "Ratio" "__mul__", .meth "Ratio" "__rmul__", .meth "Ratio" "inverse", .meth "Ratio" "floor", .meth "Poly" "__mul__", .meth "Poly" "__rmul__", .meth "Poly" "part", .meth "Ladder" "run_rounded", .meth "Ladder" "undone", .exm "BadValue" "BadValue" true]
def fa9 : List He.Fa := [.exm "NoDivisor" "BadValue" false, .exm "NoDivisor" "NoDivisor" true]
def fa : List He.Fa := fa0 ++ (fa1 ++ (fa2 ++ (fa3 ++ (fa4 ++ (fa5 ++ (fa6 ++ (fa7 ++ (fa8 ++ (fa9)))))))))
def tf : List He.Defn := []
def ts : List He.Tab := [(fun K => ga K "RUNGS", ["add", "take", "exchange", "factor", "late"]), (fun K => ga K "TAKEN_BACK", ["add", "take"])]
def vR : List (Str × He.Dv) := [("add", .glo "is_amount"), ("take", .glo "is_amount"), ("exchange", .glo "is_exchange"), ("factor", .glo "is_factor"), ("late", .glo "is_late")]
def vT : List (Str × He.Dv) := [("add", .str "take"), ("take", .str "add")]
def exB (K : PySem.W.Frag) : Bool := oneB K (ga K "BadValue") "value" && (bareB K (ga K "NoDivisor") && (top1B K (ga K "Ratio") && (tyB K (ga K "Ratio") && (bltB K "gcd" "math.gcd" && (bltB K "lcm" "math.lcm" && (top1B K (ga K "Mark") && (tyB K (ga K "Mark") && (top1B K (ga K "Poly") && (tyB K (ga K "Poly") && (nmB K (ga K "Ratio") && (!Nat.beq (ga K "Ratio") (ga K "Poly") && (He.valsB K (ga K "RUNGS") vR && He.valsB K (ga K "TAKEN_BACK") vT))))))))))))
def names0 : List Str := ["_wall", "StreamError", "BadValue", "NoDivisor", "is_integer", "is_whole", "is_list", "need_integer", "need_whole", "is_within", "need_list", "Mark"]
def names1 : List Str := ["looks_after", "powered", "GROUP", "Ratio", "as_ratio", "operand", "ratio_list", "whole_text", "shared_bottom", "whole_parts", "shortened", "norm"]
def names2 : List Str := ["greatest", "packed", "unpacked", "multiplied", "divided_parts", "Poly", "poly_by", "quotient_and_rest", "as_poly", "need_poly", "TAKEN_BACK", "Ladder"]
def names3 : List Str := ["is_rung", "is_lane", "is_amount", "is_exchange", "is_factor", "is_late", "RUNGS", "told_lanes", "stepped", "amounts_of", "taken_back", "_law_begin"]
def names4 : List Str := ["_law_draw", "_law_pick", "_law_gcd", "_law_q", "_law_sign", "_law_plus", "_law_times", "_law_told", "_law_pair_of", "_law_small", "_law_number", "_law_blend"]
def names5 : List Str := ["_law_shown", "_law_read", "_law_climb", "_law_rungs", "_law_back", "_law_amounts", "_law_climbed", "_law_flat", "_law_numbers", "law"]
def names : List Str := names0 ++ (names1 ++ (names2 ++ (names3 ++ (names4 ++ (names5)))))
abbrev R : PySem.W.OpenRow := PySem.W.OpenLaw.row PySem.Challenge.rw_allstreams_k67_whole_rounded_ladders
def pcA : Pc2 := ⟨fa, [], ts, tf, exB⟩
def pcB : Pc2 := ⟨[], fnA, [], [], fun _ => true⟩
def pcC : Pc2 := ⟨[], fnB, [], [], fun _ => true⟩
def pcs : List Pc2 := [pcA, pcB, pcC]
abbrev hk : PySem.W.Hook := hookL2 pcs
abbrev ob (s : PySem.W.SharedT) : List He.AlX := obL2 pcs s
theorem ob_eq (s : PySem.W.SharedT) : ob s = hk.obs s.abs := obL2_eq pcs s
theorem runS_false (w : World) : RunS R (PySem.W.view R.prog [0, 79]) 20000 names (w.withFollow "special-get-raises" false) := by
  unfold RunS
  kernel_rfl
theorem runS_true (w : World) : RunS R (PySem.W.view R.prog [0, 79]) 20000 names (w.withFollow "special-get-raises" true) := by
  unfold RunS
  kernel_rfl
theorem runS (w : World) : RunS R (PySem.W.view R.prog [0, 79]) 20000 names w := PySem.W.byRow2 "special-get-raises" (P := fun w => RunS R (PySem.W.view R.prog [0, 79]) 20000 names w) runS_false runS_true w
theorem runA_false (w : World) : RunP2 R 20000 pcA (w.withFollow "special-get-raises" false) := by
  unfold RunP2
  kernel_rfl
theorem runA_true (w : World) : RunP2 R 20000 pcA (w.withFollow "special-get-raises" true) := by
  unfold RunP2
  kernel_rfl
theorem runA (w : World) : RunP2 R 20000 pcA w := PySem.W.byRow2 "special-get-raises" (P := fun w => RunP2 R 20000 pcA w) runA_false runA_true w
theorem runB_false (w : World) : RunP2 R 20000 pcB (w.withFollow "special-get-raises" false) := by
  unfold RunP2
  kernel_rfl
theorem runB_true (w : World) : RunP2 R 20000 pcB (w.withFollow "special-get-raises" true) := by
  unfold RunP2
  kernel_rfl
theorem runB (w : World) : RunP2 R 20000 pcB w := PySem.W.byRow2 "special-get-raises" (P := fun w => RunP2 R 20000 pcB w) runB_false runB_true w
theorem runC_false (w : World) : RunP2 R 20000 pcC (w.withFollow "special-get-raises" false) := by
  unfold RunP2
  kernel_rfl
theorem runC_true (w : World) : RunP2 R 20000 pcC (w.withFollow "special-get-raises" true) := by
  unfold RunP2
  kernel_rfl
theorem runC (w : World) : RunP2 R 20000 pcC w := PySem.W.byRow2 "special-get-raises" (P := fun w => RunP2 R 20000 pcC w) runC_false runC_true w
theorem run (w : World) : HandSHeadRun.RunEqI R (PySem.W.view R.prog [0, 79]) hk ob 20000 names w := by
  refine run_all2 (runS w) fun p hp => ?_
  rcases List.mem_cons.mp hp with rfl | hp
  · exact runA w
  · rcases List.mem_cons.mp hp with rfl | hp
    · exact runB w
    · rcases List.mem_cons.mp hp with rfl | hp
      · exact runC w
      · cases hp
end K03
end
section
set_option maxHeartbeats 4000000
namespace PySem
namespace ExV
open PySem.W PySem.Calls PyProof.Rows PySem.HandSPX
open Builtin Builtin.ObjectAttr
section
variable {M : Model} {A : Around} {E : Value → Shared → Prop} {h : Heap} {g : Array GenState} {d : Drawn} {t : Nat} {os : OsState}
variable {nm q : Str} {C N : Addr} {bs bm bmB : List Value} {hdct : Bool} {sn : List Str} {sub : List Value} {ab : Bool} {col : Option Bool} {dd : Option Addr} {k0 k1 k2 k3 k5 : Option Value} {B newId initId : String}

theorem check_new_kw (F : ExcBaseFacts B newId initId bmB) (hT : ∀ X : String, bm.contains (.type X) = bmB.contains (.type X)) {rest : List Value} {kw : List (Str × Value)} {Q : Unit → Shared → Prop}
    (hC : h.get? C = some (excClassObj nm q C N bs bm hdct sn sub ab col dd k0 k1 k2 k3 k5 newId)) (hq : Q () ⟨h, g, d, t, os⟩) : wpAny M A (checkBuiltinCall newId ⟨.ref C :: rest, kw⟩) Q E ⟨h, g, d, t, os⟩ := by
  have hcont : (Value.ref C :: bm).contains (.type B) = true := by rw [List.contains_cons, hT, F.hasB, Bool.or_true]
  have hstar := F.noStar
  simp only [checkBuiltinCall, F.newKind, F.newSplit, F.newRow]
  repeat (first | refine wpAny_loadPart_at hC ?_ | (refine wpAny_isSubtype_exc hC ?_; rw [hcont]) | refine wpAny_staticBase_exc hC ?_ | refine wpAny_madeBy_exc hC ?_ | simp only [bne_self_eq_false, Bool.false_eq_true, if_false] | wp_step)
  exact hq
end
section
variable {prog : Program} {w : World} {A : Around} {E : Value → Shared → Prop} {R : Result → Shared → Prop} {h : Heap} {g : Array GenState} {d : Drawn} {t : Nat} {os : OsState}
variable {nm q : Str} {C N : Addr} {bs bm bmB : List Value} {hdct : Bool} {sn : List Str} {sub : List Value} {ab : Bool} {col : Option Bool} {dd : Option Addr} {k0 k1 k2 k3 k5 : Option Value} {B newId initId : String}

theorem new_kw (F : ExcBaseFacts B newId initId bmB) (hT : ∀ X : String, bm.contains (.type X) = bmB.contains (.type X)) {rest : List Value} {kw : List (Str × Value)}
    (hC : h.get? C = some (excClassObj nm q C N bs bm hdct sn sub ab col dd k0 k1 k2 k3 k5 newId))
    (hq : R (.ok (.ret (.ref (h.objs.size + 1)))) ⟨(h.push { cls := .type "tuple", data := .seq rest.toArray }).push
      { cls := .ref C, data := .fields #[.ref h.objs.size, .none, .none, .none, .bool false, .none] }, g, d, t, os⟩) (hrest : rest.length ≤ sizeLine) :
    codeAny (model prog w) A (.builtin newId ⟨.ref C :: rest, kw⟩) R ⟨h, g, d, t, os⟩ := by
  have hends := F.ends
  have hcB : (Value.ref C :: bm).contains (.type B) = true := by rw [List.contains_cons, hT, F.hasB, Bool.or_true]
  have hcA : (Value.ref C :: bm).contains (.type "AttributeError") = false := by rw [List.contains_cons, hT, F.noAttr]; rfl
  have hcN : (Value.ref C :: bm).contains (.type "NameError") = false := by rw [List.contains_cons, hT, F.noName]; rfl
  refine codeAny_builtinAt F.entry ?_
  unfold Builtin.«BaseException.__new__»
  refine wpAt_bind ?_
  show wpAt _ _ _ (stack >>= _) _ _ _
  refine wpAt_bind (wpAt_stack fun p below => wpAt_of_wpAny ?_)
  wp_walk
  refine wpAt_of_wpAny ?_
  rw [F.owner]
  repeat (first | with_reducible refine wpAny_madeHere_exc F.canon hC ?_ | with_reducible refine wpAny_loadPart_at hC ?_ | (with_reducible refine wpAny_isSubtype_exc hC ?_; first | rw [hcB] | rw [hcA] | rw [hcN]) | wp_step)
  show R _ _
  rw [Heap.size_push]
  exact hq

theorem type_call_kw (F : ExcBaseFacts B newId initId bmB) (hT : ∀ X : String, bm.contains (.type X) = bmB.contains (.type X)) {rest : List Value} {kw : List (Str × Value)} {fI : Addr} {Q : Fin → Shared → Prop}
    (hC : h.get? C = some (excClassObj nm q C N bs bm hdct sn sub ab col dd k0 k1 k2 k3 k5 newId))
    (hi : W.Looks (model prog w) h (typeLookup (.ref C) "__init__") (some (.ref fI))) (hb : ∀ self, W.Looks (model prog w) h (bindSpecial (.ref fI) self) (.ref fI, [self])) (hrest : rest.length ≤ sizeLine)
    (hq : codeAny (model prog w) A (.call (.ref fI) ⟨.ref (h.objs.size + 1) :: rest, kw⟩)
      (fun r s' => match r with | .ok (.ret v) => v = .none ∧ Q (.done (.ret (.ref (h.objs.size + 1)))) s' | .ok _ => False | .error e => E e s')
      ⟨(h.push (W.kdv_tup rest)).push (excO C h.objs.size), g, d, t, os⟩) :
    wpAny (model prog w) A (Builtin.«type.__call__» ⟨.ref C :: rest, kw⟩) Q E ⟨h, g, d, t, os⟩ := by
  repeat (first | with_reducible refine wpAny_loadPart_at hC ?_ | with_reducible refine wpAny_madeBy_exc hC ?_ | wp_step)
  refine codeAny_call_builtin_code (Code.quiet_builtin _ F.quiet) (check_new_kw F hT hC ?_)
  refine new_kw F hT hC ?_ hrest
  show wpAny _ _ _ _ _ _
  have k : ∀ b o, h.get? b = some o → ((h.push (W.kdv_tup rest)).push (excO C h.objs.size)).get? b = some o := fun b o e => Heap.get?_push_of_some _ (Heap.get?_push_of_some _ e)
  have hC₁ := k _ _ hC
  have hget : ((h.push (W.kdv_tup rest)).push (excO C h.objs.size)).get? (h.objs.size + 1) = some (excO C h.objs.size) := by heap_get
  have hcC : (Value.ref C :: bm).contains (.ref C) = true := by simp
  have i1 := hi.keeps k
  have b1 := (hb (.ref (h.objs.size + 1))).keeps k
  unfold isInstance
  repeat (first | with_reducible refine wpAny_loadPart_at hget ?_ | (with_reducible refine wpAny_isSubtype_exc hC₁ ?_; rw [hcC]) | wp_step)
  show wpAny _ _ (typeLookup (.ref C) _) _ _ _
  refine i1.at ?_
  refine wpAny_holding (wpAny_bind (b1.at ?_))
  refine wpAny_bind (wpAny_call (codeAny_mono hq fun r s' z => ?_))
  rcases r with e | (v | _ | _ | _) <;> first | exact z | exact z.elim | skip
  obtain ⟨rfl, z⟩ := z
  first
    | exact wpAny_pure (wpAny_pure z)
    | (wp_walk; exact z)

theorem call_kw (F : ExcBaseFacts B newId initId bmB) (hT : ∀ X : String, bm.contains (.type X) = bmB.contains (.type X)) {rest : List Value} {kw : List (Str × Value)} {fI : Addr}
    (hC : h.get? C = some (excClassObj nm q C N bs bm hdct sn sub ab col dd k0 k1 k2 k3 k5 newId))
    (hi : W.Looks (model prog w) h (typeLookup (.ref C) "__init__") (some (.ref fI))) (hb : ∀ self, W.Looks (model prog w) h (bindSpecial (.ref fI) self) (.ref fI, [self])) (hrest : rest.length ≤ sizeLine)
    (hq : codeAny (model prog w) (A.under (.builtin "type.__call__" ⟨.ref C :: rest, kw⟩)) (.call (.ref fI) ⟨.ref (h.objs.size + 1) :: rest, kw⟩) (W.InitBack (h.objs.size + 1) R)
      ⟨(h.push (W.kdv_tup rest)).push (excO C h.objs.size), g, d, t, os⟩) :
    codeAny (model prog w) A (.call (.ref C) ⟨rest, kw⟩) R ⟨h, g, d, t, os⟩ := by
  have f1 := tc_lookup
  have f2 := tc_bind (.ref C)
  have hTy : (⟨h, g, d, t, os⟩ : Shared).TypeIs (.ref C) "type" := ⟨_, hC, rfl⟩
  refine codeAny_of_tree ?_
  show wpAny _ _ (callAny (.ref C) _) _ _ _
  repeat (any_goals (first | assumption | with_reducible refine wpAny_loadPart_at hC ?_ | wp_step))
  refine ⟨rfl, ?_⟩
  refine codeAny_call_builtin_at (Code.quiet_builtin _ (by decide +kernel)) entry_typeCall (wpAny_check_type_call_sub hC (type_call_kw F hT hC hi hb hrest ?_))
  refine codeAny_mono hq fun r s' z => ?_
  rcases r with e | (v | _ | _ | _) <;> exact z
end
end ExV
end PySem
end
section
set_option maxHeartbeats 4000000
namespace L2
open PySem PySem.Spec PyProof.Rows
/-- what is known of the class at C, of its __init__ at fI -/
structure OwnX (K : PySem.W.Frag) (C fI : Addr) : Prop where
  T : OexC K C
  iC : PySem.W.findIn K (.ref C) "__init__" = some (some (.ref fI))
  tI : PySem.W.typeIn K (.ref fI) = some (.type "function")
section
variable {X : Cx} {CX : CXT} {k n : Nat} {fI C : Addr} {fd : FuncData} {ps ks : List Str} {sp : Sp} {x : Str} {p pos : Pos} {e : Expr} {es : List Expr} {kws : List Keyword} {t tk : TA} {g : List Value → List Value → List Value} {gV : List V → List V → List V}
theorem run_mkv {pins : List (Addr × Obj)} {σ : St} {H : Hp} {s : Shared} {Q : VK} {us ws : List Value} {vs zs : List V} (O : OwnX X.K C fI)
    (F1 : FnOk X.prog X.w X.K X.mg X.base CX k fI fd ps sp) (hr : Room (k + 1) X.A) (hb : KBn X.K fd ps (n + 1) ks g gV) (hx : Passes CX X (fun _ _ _ => False)) (hn : n ≤ 1000)
    (I : Inv X pins σ H s) (r : Vals vs us) (rz : Vals zs ws) (l1 : vs.length = n) (l2 : zs.length = ks.length)
    (h : ∀ a, H a = none → sp (gV (.ref a :: vs) zs) (upd H a (exo a C none)) (fun v H3 => v = .non ∧ Q (.ref a) H3) (fun _ _ _ => False)) :
    wpAny (model X.prog X.w) X.A (call (.ref C) us (ks.zip ws)) (EP X pins σ Q) X.xe s := by
  obtain ⟨cn, cq, cN, cbs, cbm, csn, csub, cab, ccol, cdd, z0, z1, z2, z3, z5, isC, isR⟩ := O.T.cls
  obtain ⟨H0, gg, dr, tt, oo⟩ := s
  let a : Addr := H0.objs.size + 1
  let H9 : Heap := (H0.push (PySem.W.kdv_tup us)).push (PySem.HandSPX.excO C H0.objs.size)
  have up : ∀ b o, H0.get? b = some o → H9.get? b = some o := fun b o q => Heap.get?_push_of_some _ (Heap.get?_push_of_some _ q)
  have at9 : H9.get? a = some (PySem.HandSPX.excO C H0.objs.size) := by
    show ((H0.push (PySem.W.kdv_tup us)).push (PySem.HandSPX.excO C H0.objs.size)).get? (H0.objs.size + 1) = _
    heap_get
  have free : H a = none := I.hok.fresh (show H0.objs.size ≤ a from Nat.le_succ _)
  have J : Inv X pins σ (upd H a (exo a C none)) ⟨H9, gg, dr, tt, oo⟩ := I.laid (t' := tt) (a := a) (o := exo a C none) (h' := H9) up (Nat.le_succ _) (exo_ok at9)
  have rel := hb.rel (vs := V.ref a :: vs) (us := Value.ref a :: us) (.cons rfl r) rz
  have lu : us.length = n := r.length.symm.trans l1
  have small : us.length ≤ sizeLine := by rw [lu, sizeLine_eq]; omega
  have bnd := hb.to (⟨H9, gg, dr, tt, oo⟩ : Shared) (Value.ref a :: us) ws J.kIn (by rw [List.length_cons, lu]) (rz.length.symm.trans l2)
  refine wpAny_call (PySem.ExV.call_kw F.excBase_ValueError (fun Y => PySem.HandSPX.refsVE_contains Y cbm isR) (I.kIn _ _ isC) (PySem.W.looks_findIn I.kIn O.iC) (fun self => PySem.W.bind_fn I.kIn self O.tI) small
    (codeAny_mono (F1.run _ X.stack ⟨H9, gg, dr, tt, oo⟩ _ ⟨Value.ref a :: us, ks.zip ws⟩ _ _ _ (fun _ _ _ => False) (hr.make C us (ks.zip ws)) (J.env0.make C us (ks.zip ws)) bnd rel (h a free)) fun res s9 got => ?_))
  cases res with
  | error er => exact hx pins σ _ _ er s9 J got
  | ok fl =>
    cases fl with
    | ret u =>
      obtain ⟨v, H', I3, rv, ev, q3⟩ := J.after got
      subst ev
      exact ⟨rv, ⟨V.ref a, H', I3, rfl, q3⟩⟩
    | next => exact got.elim
    | brk => exact got.elim
    | cont => exact got.elim
end
end L2
end
section
set_option maxHeartbeats 4000000
namespace PySem
namespace ExV
open PySem.W PyProof.Rows
section
variable {prog : Program} {w : World} {A : Around} {E : Value → Shared → Prop} {s : Shared} {K : Frag} {x D : Addr} {ox : Obj} {od : Option Obj}
/-- what the class must say -/
structure ClsX (K : Frag) (D : Addr) : Prop where
  ga : findIn K (.ref D) "__getattribute__" = some (some (.builtin "BaseException.__getattribute__"))
  gt : findIn K (.ref D) "__getattr__" = some none
  su : subIn K (.ref D) (.type "BaseException") = some true
  di : hasDictIn K D = true
  cl : findIn K (.ref D) "__class__" = some (some (.builtin "object.__class__"))
  sp : specialIn K (.builtin "object.__class__") "__get__" = some (some (.builtin "getset_descriptor.__get__"))
  tk : takesIn K (.builtin "object.__class__") = some true
  mr : mroIn K D (.type "object") = some true
end
end ExV
end PySem
namespace L2
open PySem PySem.Spec PyProof.Rows
end L2
end
section
set_option maxHeartbeats 4000000
namespace L2
open PySem PySem.Spec PyProof.Rows
theorem Same.new {H H' : Hp} {p : Addr} {o : HO} (a : Same H H') (hp : H' p = none) : Same H (upd H' p o) := fun x u e => by
  rw [upd_ne (ne_of_none (a x u e) hp)]
  exact a x u e
/-- what an __init__ that stores its one value keeps -/
def spI1 (C : Addr) (f : Str) : Sp := fun vs H Q _ => ∃ (a : Addr) (v : V), vs = [.ref a, v] ∧ H a = some (exo a C none) ∧ ∀ dx, H dx = none → dx ≠ a → Q .non (upd (upd H dx (exd dx [(f, v)])) a (exo a C (some dx)))
/-- an error class with one field -/
structure One (P : Program) (w : World) (K : PySem.W.Frag) (mg : Str → Option Value) (base : Heap) (C : Addr) (cls f : Str) : Prop where
  ex : ∃ (fI : Addr) (fd : FuncData), OwnX K C fI ∧ FnOk P w K mg base CX0 1 fI fd ["self", f] (spI1 C f) ∧ KBn K fd ["self", f] 2 [] (fun us _ => us) (fun vs _ => vs) ∧
    KBn K fd ["self", f] 1 [f] (fun us ws => us ++ ws) (fun vs zs => vs ++ zs)
  g : mg cls = some (.ref C)
  Z : PySem.ExV.ClsX K C
  no : PySem.W.findIn K (.ref C) f = some none
/-- .. none -/
structure Bare (K : PySem.W.Frag) (mg : Str → Option Value) (C : Addr) (cls : Str) : Prop where
  q : PySem.W.excIn K C [.type "ValueError", .type "Exception", .type "BaseException", .type "object"] "ValueError.__new__" = true
  kC : PySem.W.keepIn K (.ref C) = true
  g : mg cls = some (.ref C)
  Z : PySem.ExV.ClsX K C
/-- a new error with the fields fs -/
def NewX (C : Addr) (fs : List (Str × V)) (H : Hp) (Q : VK) : Prop := ∀ (a dx : Addr) (H' : Hp), H a = none → H dx = none → Same H H' → H' a = some (exo a C (some dx)) → H' dx = some (exd dx fs) → dx ≠ a → Q (.ref a) H'
theorem NewX.one {C : Addr} {f : Str} {v : V} {H : Hp} {Q : VK} (q : NewX C [(f, v)] H Q) (a : Addr) (ha : H a = none) :
    spI1 C f [.ref a, v] (upd H a (exo a C none)) (fun u H3 => u = .non ∧ Q (.ref a) H3) (fun _ _ _ => False) :=
  ⟨a, v, rfl, upd_same, fun dx hd ne => ⟨rfl, q a dx _ ha (by rw [upd_ne ne] at hd; exact hd)
    (fun b o e => by
      have n1 := ne_of_none e ha
      have n2 : b ≠ dx := fun z => by rw [z] at e; rw [upd_ne ne, e] at hd; cases hd
      rw [upd_ne n1, upd_ne n2, upd_ne n1]; exact e) upd_same (by rw [upd_ne ne, upd_same]) ne⟩⟩
section
variable {X : Cx} {C : Addr} {cls f h : Str} {p pos : Pos} {e e2 : Expr} {te te2 : TE} {apos kp1 kp2 : Pos}
def tOneV (C : Addr) (f : Str) (te : TE) : TE := fun σ H Q => te σ H fun v H1 => NewX C [(f, v)] H1 Q
def tBareV (C : Addr) : TE := fun _ H Q => ∀ (a : Addr) (H' : Hp), H a = none → Same H H' → H' a = some (ExO (.ref C) a) → Q (.ref a) H'
variable {pins : List (Addr × Obj)} {σ : St} {H : Hp} {s : Shared} {Q : VK} {v u : V} {v' u' : Value}
theorem run_one1 (R : One X.prog X.w X.K X.mg X.base C cls f) (hr : Room 2 X.A) (I : Inv X pins σ H s) (r : RelV v v') (q : NewX C [(f, v)] H Q) : wpAny (model X.prog X.w) X.A (call (.ref C) [v'] []) (EP X pins σ Q) X.xe s := by
  obtain ⟨fI, fd, O, F, b1, _⟩ := R.ex
  exact run_mkv (us := [v']) (vs := [v]) (ws := []) (zs := []) O F hr b1 pass0 (by decide) I (.cons r .nil) .nil rfl rfl (q.one)
/-- C(e) -/
theorem pe_one1 (R : One X.prog X.w X.K X.mg X.base C cls f) (hr : Room 2 X.A) (he : PE X e te) (hg : Gl X cls := by rfl) (hdb : (cls == ("__debug__" : Str)) = false := by decide)
    (hs : starEach [e] X.env = (false, eval e X.env) :: starEach [] X.env := by rfl) : PE X (.Call (.Name cls p) [e] [] pos) (tOneV C f te) := by
  refine ⟨fun pins s σ H Q I h => wpAny_Call_Name_kw (ld_glob I hg R.g ?_ hdb)⟩
  refine PySem.W.callWith_K (h₀ := X.base) I.ok.mod.kin (let ⟨_, _, O, _⟩ := R.ex; O.T.kC) ?_ hs (by rfl)
  rw [hs]
  show wpAny _ _ (spliced ((false, eval e X.env) :: backTo pos (starEach [] X.env))) _ _ s
  exact Calls.spliced_cons (thn (he.run pins s σ H _ I h) fun w1 s1 ⟨x, H1, I1, r1, q1⟩ => Calls.spliced_nil ⟨I1.kIn, run_one1 R hr I1 r1 q1⟩)
/-- C() -/
theorem pe_bare (R : Bare X.K X.mg C cls) (hg : Gl X cls := by rfl) (hdb : (cls == ("__debug__" : Str)) = false := by decide) : PE X (.Call (.Name cls p) [] [] pos) (tBareV C) := by
  refine ⟨fun pins s σ H Q I h => wpAny_Call_Name_kw (ld_glob I hg R.g ?_ hdb)⟩
  refine PySem.W.callWith_K0 I.kIn R.kC ?_
  show wpAny _ _ (call (.ref C) []) _ _ _
  obtain ⟨bm, N, nm, qn, bs, hdct, sn, sub, ab, col, dd, k0, k1, k2, k3, k5, mN, hC, hN, hni, T⟩ := exc_obj I.kIn R.q
  obtain ⟨h0, g0, d0, t0, o0⟩ := s
  refine wpAny_call_exc_subT F.excBase_ValueError T hC hN hni (fun h' a hm => ?_) (by show 0 ≤ sizeLine; exact Nat.zero_le _)
  have hn : H a = none := I.hok.gone hm.new
  obtain ⟨t, ht, _, _⟩ := hm.there
  exact ⟨.ref a, upd H a (ExO (.ref C) a), I.laidN hm.keeps hm.new hn (exO_ok ht ⟨rfl, rfl⟩ rfl rfl rfl (show 4 < 6 by decide)), rfl, h a _ hn (Same.new (fun _ _ e => e) hn) upd_same⟩
end
end L2
end
section
set_option maxHeartbeats 4000000
namespace L2
open PySem PySem.Spec PyProof.Rows
section
variable {X : Cx}
/-- an expression that gives a new error with its dict: what is raised -/
theorem pmk_retX {e : Expr} {te : TE} (hx : X.ex = []) (he : PE X e te) :
    PMk X e (fun σ H Q => te σ H fun x H1 => ∃ (a C dx : Addr), x = .ref a ∧ H1 a = some (exo a C (some dx)) ∧ Fr0 X.H_0 a ∧ Raises X (.ref C) ∧ Q (.ref C) (some dx) (delH H1 a)) := by
  intro pins s σ H Q I h
  refine wpAny_mono (he.run pins s σ H _ I h) (fun u s1 got => ?_) fun _ _ z => z
  obtain ⟨v, H1, I1, r1, a, C, dx, rfl, ea, fr, ra, q⟩ := got
  cases (show u = Value.ref a from r1)
  obtain ⟨t1, at_⟩ := exo_at I1.hok ea
  obtain ⟨G, sub, gone, J⟩ := I1.untrack ea fr hx
  exact ⟨a, _, _, { s1 with heap := G }, delH H1 a, .ref C, some dx, rfl, J, sub, gone, at_, ⟨rfl, rfl⟩, rfl, rfl, delH_same, rfl, I1.bare, ra, q⟩
end
/-- how an __init__ with one value is called -/
theorem kb1 {K : PySem.W.Frag} {st : Stmt} {f qual : Str} {fI : Addr} {fd : FuncData} (F : Fun K "__init__" qual st fI fd)
    (h1 : ∀ (kV doc pm : Value) (an : Option Addr) (cdv ct a b : Value), bindArgs (PySem.W.fnOf "__init__" qual (defArgs st) (defBody st) (defScope st) .none kV doc pm an cdv ct) ⟨[a, b], []⟩ = pure [(("self" : Str), a), (f, b)])
    (h2 : ∀ (kV doc pm : Value) (an : Option Addr) (cdv ct a b : Value), bindArgs (PySem.W.fnOf "__init__" qual (defArgs st) (defBody st) (defScope st) .none kV doc pm an cdv ct) ⟨[a], [(f, b)]⟩ = pure [(("self" : Str), a), (f, b)]) :
    KBn K fd ["self", f] 2 [] (fun us _ => us) (fun vs _ => vs) ∧ KBn K fd ["self", f] 1 [f] (fun us ws => us ++ ws) (fun vs zs => vs ++ zs) := by
  obtain ⟨oc, od, kV, doc, pm, an, cdv, ct, osl, rfl, lk, hcd⟩ := F.ex
  refine ⟨⟨fun s us ws X l1 l2 => ?_, fun r _ => r⟩, ⟨fun s us ws X l1 l2 => ?_, fun r rz => r.append rz⟩⟩
  · match us, ws, l1, l2 with
    | [a, b], [], _, _ => exact .of_eq (h1 kV doc pm an cdv ct a b)
  · match us, ws, l1, l2 with
    | [a], [b], _, _ => exact .of_eq (h2 kV doc pm an cdv ct a b)
end L2
end
section
set_option maxHeartbeats 4000000
namespace PySem
namespace OwnB
open PySem.W PySem.Calls PyProof.Rows
section
variable {prog : Program} {w : World} {A : Around} {E : Value → Shared → Prop} {s : Shared} {K : Frag} {x C f g : Addr} {ox : Obj} {od : Option Obj} {T : String} {a : Value} {op : Operator} {Q : Value → Shared → Prop}
/-- x op a: the class of x has the operator, a is of a built-in type -/
theorem left_own {fo ro rc : Option Value} (X : K.In s.heap) (I : InstAt s.heap x ox C od) (ha : Looks (model prog w) s.heap (typeOf a) (.type T)) (hc : selfFirst K C = true)
    (hs : findIn K (.ref C) (PySem.dunder op.info.2) = some (some (.ref f))) (hf : isFn K (.ref f) = true) (hr : findIn K (.ref C) (dunderR op.info.2) = some rc) (hp : rc = none ∨ ∃ g : Addr, rc = some (.ref g))
    (h1 : findIn K (.type T) (PySem.dunder op.info.2) = some fo) (h2 : findIn K (.type T) (dunderR op.info.2) = some ro) (hsub : subIn K (.type T) (.ref C) = some false)
    (h : wpAny (model prog w) A (call (.ref f) [.ref x, a]) (W.CmpBack Q) E s) : wpAny (model prog w) A (binaryOp op (.ref x) a) Q E s := by
  obtain ⟨cd, rest, hcd, hm⟩ := ksp_first hc
  rcases hi : op.info with ⟨sym, nm'⟩
  rw [hi] at hs hr h1 h2
  dsimp only at hs hr h1 h2
  have one := ksp_try X I hs hf h
  obtain ⟨hh, g9, d9, tt, os⟩ := s
  have y1 : Looks (model prog w) hh (typeOf (.ref x)) (.ref C) := I.type
  have y2 : Looks (model prog w) hh (typeOf a) (.type T) := ha
  have y3 : Looks (model prog w) hh (fillsNumberSlot (.ref C) nm') true := fills_K X hcd hm hs
  have y4 : Looks (model prog w) hh (fillsNumberSlot (.type T) nm') ((fo.isSome && !isSeqSlot fo) || (ro.isSome && !isSeqSlot ro)) := ksp_fillsT X h1 h2
  have y5 : Looks (model prog w) hh (isSubtype (.type T) (.ref C)) false := looks_subIn X hsub
  have y6 : Looks (model prog w) hh (numberSlotInPython (.ref C) nm') true := ksp_inPy X hs hr hp
  have y7 : Looks (model prog w) hh (numberSlotInPython (.type T) nm') false := Looks.of_pure rfl
  have y8 : Looks (model prog w) hh (typeLookup (.type T) (dunderR nm')) ro := looks_findIn X h2
  generalize ((fo.isSome && !isSeqSlot fo) || (ro.isSome && !isSeqSlot ro)) = right at y4
  have ne : (Value.ref C == Value.type T) = false := Bool.eq_false_iff.mpr fun q => by cases beq_iff_eq.mp q
  simp only [binaryOp, hi]
  refine wpAny_holding (wpAny_bind ?_)
  unfold binaryOp1
  refine wpAny_bind (y1.at (wpAny_bind (y2.at (wpAny_bind (y3.at ?_)))))
  simp only [ne, Bool.false_eq_true, if_false]
  cases right <;>
  · ksp_lk
    refine wpAny_mono one (fun r s' hr' => ?_) fun _ _ e => e
    obtain ⟨v, rfl, hq⟩ := hr'
    ksp_lk
    exact hq
end
end OwnB
end PySem
end
section
set_option maxHeartbeats 4000000
namespace PySem
namespace OwnB
open PySem.W PySem.Calls PyProof.Rows
theorem no_ref (C : Addr) : ∀ l : List String, (l.map Value.type).contains (.ref C) = false
  | [] => rfl
  | a :: l => by
    rw [List.map_cons, List.contains_cons, no_ref C l]
    rfl
theorem sub_type {K : Frag} {C : Addr} {T : String} (h : (fastBuiltinMro T).isSome = true) : subIn K (.type T) (.ref C) = some false := by
  show (fastBuiltinMro T).map (·.contains (.ref C)) = some false
  unfold fastBuiltinMro at h ⊢
  cases e : fastFind? T with
  | none => rw [e] at h; cases h
  | some i => rw [Option.map_some, Option.map_some, no_ref]
theorem look_type {K : Frag} {T : String} (n : Str) (h : (fastBuiltinMro T).isSome = true) : ∃ fo, findIn K (.type T) n = some fo := by
  show ∃ fo, fastLookup T n = some fo
  unfold fastLookup
  cases e : fastBuiltinMro T with
  | none => rw [e] at h; cases h
  | some l => exact ⟨_, rfl⟩
end OwnB
end PySem
end
section
set_option maxHeartbeats 4000000
namespace L2
open PySem PySem.Spec PyProof.Rows
/-- a class right below object -/
structure Top1 (K : PySem.W.Frag) (C : Addr) : Prop where
  mr : ∃ cd : ClassData, PySem.W.clsIn K C = some cd ∧ cd.mro = [.ref C, .type "object"]
  sf : PySem.W.selfFirst K C = true
theorem Top1.sub {K : PySem.W.Frag} {C : Addr} (t : Top1 K C) (u : Value) : PySem.W.subIn K (.ref C) u = some (([Value.ref C, .type "object"] : List Value).contains u) := by
  obtain ⟨cd, h1, h2⟩ := t.mr
  show PySem.W.mroIn K C u = _
  unfold PySem.W.mroIn
  rw [h1, Option.bind_some, h2]
  rfl
theorem Top1.no {K : PySem.W.Frag} {C : Addr} (t : Top1 K C) {T : String} (h : T ≠ "object") : PySem.W.subIn K (.ref C) (.type T) = some false := by
  rw [t.sub]
  simp [h]
/-- its operator: the def f, the other way round g -/
structure OpC (K : PySem.W.Frag) (C f g : Addr) (op : Operator) : Prop where
  hs : PySem.W.findIn K (.ref C) (PySem.dunder op.info.2) = some (some (.ref f))
  hf : PySem.W.isFn K (.ref f) = true
  hr : PySem.W.findIn K (.ref C) (PySem.dunderR op.info.2) = some (some (.ref g))
  hg : PySem.W.isFn K (.ref g) = true
/-- a built-in type without such an operator for numbers -/
def numFree (T nm : String) : Bool := (fastBuiltinMro T).isSome && (match fastLookup T (PySem.dunder nm), fastLookup T (PySem.dunderR nm) with
  | some fo, some ro => !((fo.isSome && !isSeqSlot fo) || (ro.isSome && !isSeqSlot ro))
  | _, _ => false)
/-- a value of a built-in type -/
inductive Blt (K : PySem.W.Frag) (H : Hp) (nm : String) : V → Prop where
  | int (i : Int) : Blt K H nm (.int i)
  | bl (b : Bool) : Blt K H nm (.bl b)
  | free {x : V} {T : String} (h : TyX K H x (.type T)) (n : numFree T nm = true) (o : T ≠ "object") : Blt K H nm x
def rOwnL (K : PySem.W.Frag) (C : Addr) (nm : String) (sp : Sp) (E : XK) : R2 := fun x y H Q => ∃ (a dx : Addr) (fs : List (Str × V)), x = .ref a ∧ H a = some (.ins C dx fs) ∧
  ((∃ (b dy : Addr) (gs : List (Str × V)), y = .ref b ∧ H b = some (.ins C dy gs)) ∨ Blt K H nm y) ∧ sp [x, y] H Q E
section
variable {X : Cx} {CX : CXT} {k : Nat} {f g C : Addr} {fd : FuncData} {ps : List Str} {sp : Sp} {E : XK} {op : Operator} {pins : List (Addr × Obj)} {σ : St} {H : Hp} {s : Shared}
theorem inst_ins (I : Inv X pins σ H s) {a dx : Addr} {fs : List (Str × V)} (e : H a = some (.ins C dx fs)) : ∃ od : Obj, PySem.W.InstAt s.heap a (PySem.W.instObj C dx) C (some od) := by
  obtain ⟨mA, O, _⟩ := ins_get I.hok e
  obtain ⟨od, J, _⟩ := O.look
  exact ⟨od, J⟩
theorem back {Q : VK} {α : Type} {t : Sem Value} (h : wpAny (model X.prog X.w) X.A t (EP X pins σ Q) X.xe s) : wpAny (model X.prog X.w) X.A t (PySem.W.CmpBack (EP X pins σ Q)) X.xe s :=
  thn h fun u s1 ⟨v, H1, I1, r, q⟩ => by
    have z : EP X pins σ Q u s1 := ⟨v, H1, I1, r, q⟩
    cases v with
    | non => cases (show u = Value.none from r); exact z
    | bl b => cases (show u = Value.bool b from r); exact z
    | int i => obtain ⟨t, rfl⟩ := (show ∃ t, u = Value.int i t from r); exact z
    | str i => obtain ⟨t, rfl⟩ := (show ∃ t, u = Value.str i t from r); exact z
    | byt i => obtain ⟨t, rfl⟩ := (show ∃ t, u = Value.bytes i t from r); exact z
    | flt i => obtain ⟨t, rfl⟩ := (show ∃ t, u = Value.float i t from r); exact z
    | ref i => cases (show u = Value.ref i from r); exact z
    | ty i => cases (show u = Value.type i from r); exact z
theorem blt_look (I : Inv X pins σ H s) {nm : String} {y : V} {u : Value} (r : RelV y u) (b : Blt X.K H nm y) : ∃ T, PySem.W.Looks (model X.prog X.w) s.heap (typeOf u) (.type T) ∧ (fastBuiltinMro T).isSome = true ∧ T ≠ "object" := by
  cases b with
  | int i =>
    obtain ⟨t, rfl⟩ := (show ∃ t, u = Value.int i t from r)
    exact ⟨"int", PySem.W.Looks.of_pure rfl, by decide +kernel, by decide⟩
  | bl b =>
    cases (show u = Value.bool b from r)
    exact ⟨"bool", PySem.W.Looks.of_pure rfl, by decide +kernel, by decide⟩
  | @free x T h n o =>
    obtain ⟨P, Z, p, _⟩ := kit_of I r h
    unfold numFree at n
    exact ⟨T, Z.ty _ _ I.kIn p, (Bool.and_eq_true_iff.mp n).1, o⟩
theorem op_ownL (t : Top1 X.K C) (O : OpC X.K C f g op) (F : FnOk X.prog X.w X.K X.mg X.base CX k f fd ps sp) (hr : Room k X.A) (hb : Binds X.K fd ps []) (hx : Passes CX X E) : OpR X (binaryOp op) (rOwnL X.K C op.info.2 sp E) := by
  intro pins s σ H x y v u Q I rx ry h
  obtain ⟨a, dx, fs, rfl, ea, hy, q⟩ := h
  cases (show v = Value.ref a from rx)
  obtain ⟨od, J⟩ := inst_ins I ea
  have go : wpAny (model X.prog X.w) X.A (call (.ref f) [.ref a, u]) (PySem.W.CmpBack (EP X pins σ Q)) X.xe s :=
    back (α := Unit) (run_fn (vs := [.ref a, y]) (dvs := []) F hr hb .nil hx I (.cons rfl (.cons ry .nil)) (by rw [List.append_nil]; exact q))
  obtain ⟨m, fr⟩ := I.fr
  rcases hy with ⟨b, dy, gs, rfl, eb⟩ | hy
  · cases (show u = Value.ref b from ry)
    obtain ⟨od2, J2⟩ := inst_ins I eb
    exact PySem.W.binop_K fr I.ok.mod.kin J J2.type t.sf O.hs O.hf go
  · obtain ⟨T, L, hT, hno⟩ := blt_look I ry hy
    obtain ⟨fo, h1⟩ := PySem.OwnB.look_type (K := X.K) (PySem.dunder op.info.2) hT
    obtain ⟨ro, h2⟩ := PySem.OwnB.look_type (K := X.K) (PySem.dunderR op.info.2) hT
    exact PySem.OwnB.left_own I.kIn J L t.sf O.hs O.hf O.hr (.inr ⟨_, rfl⟩) h1 h2 (PySem.OwnB.sub_type hT) go
end
end L2
end
section
set_option maxHeartbeats 4000000
namespace PySem
namespace OwnB
open PySem.W PySem.Calls PyProof.Rows
end OwnB
end PySem
namespace L2
open PySem PySem.Spec PyProof.Rows
section
variable {X : Cx} {CX : CXT} {k : Nat} {f C : Addr} {fd : FuncData} {ps : List Str} {sp : Sp} {E : XK}
end
end L2
end
section
set_option maxHeartbeats 4000000
namespace L2
open PySem PySem.Spec PyProof.Rows
/-- // by any divisor but 0 below 2 ^ 9000 -/
def CDivZ (_ j : Int) : Prop := j ≠ 0 ∧ j.natAbs.log2 < 9000
theorem op_fdivZ {X : Cx} : OpR X (binaryOp .FloorDiv) (rI CDivZ fun i j => .int (i.fdiv j)) := opI fun i j _ _ _ _ _ hc q => floordiv_int hc.1 q (.inl (PyProof.noPylong_of_log2 hc.2))
theorem passK {X : Cx} {E : XK} (tk : Takes X (fun cls d _ H => E cls d H)) : Passes (L2.CX X.prog X.w) X E := fun pins σ H s e s' I c => passAt tk σ pins H s e s' I c
/-- what is no integer: isinstance tells so -/
def NoInt (K : PySem.W.Frag) (H : Hp) (v : V) : Prop := ∃ (t : Value) (b c : Bool), TyX K H v t ∧ PySem.W.kitOne K t (.type "int") = some b ∧ PySem.W.kitOne K t (.type "bool") = some c ∧ (b && !c) = false
end L2
namespace K03
open PySem PySem.Spec PyProof.Rows L2
structure TxtR (mg : Str → Option Value) : Prop where
  int : mg "int" = none
  bool : mg "bool" = none
  isi : mg "isinstance" = none
  abs : mg "abs" = none
  str : mg "str" = none
  list : mg "list" = none
  len : mg "len" = none
  range : mg "range" = none
  min : mg "min" = none
  all : mg "all" = none
  gcd : mg "gcd" = some (.builtin "math.gcd")
/-- the classes of errors -/
structure ErrR (P : Program) (w : World) (K : PySem.W.Frag) (mg : Str → Option Value) (base : Heap) (cB cN : Addr) : Prop where
  B : One P w K mg base cB "BadValue" "value"
  N : Bare K mg cN "NoDivisor"
  tB : PySem.W.typeIn K (.ref cB) = some (.type "type")
  tN : PySem.W.typeIn K (.ref cN) = some (.type "type")
/-- BadValue(v) leaves -/
def Bad (cB : Addr) (v : V) (H : Hp) (E : XK) : Prop := ∀ (d : Addr) (H' : Hp), H d = none → Same H H' → H' d = some (exd d [("value", v)]) → E (.ref cB) (some d) H'
/-- NoDivisor() leaves -/
def NoDiv (cN : Addr) (H : Hp) (E : XK) : Prop := ∀ (H' : Hp), Same H H' → E (.ref cN) none H'
abbrev iBad : Stmt := inClass (top 4) 0
abbrev sIsInt : Stmt := top 7
def spIsInt (K : PySem.W.Frag) : Sp := fun vs H Q _ => ∃ v, vs = [v] ∧ (((∃ i, v = .int i) ∧ Q (.bl true) H) ∨ (NoInt K H v ∧ Q (.bl false) H))
theorem same_del {H H' : Hp} {a : Addr} (s : Same H H') (ha : H a = none) : Same H (delH H' a) := fun b o e => by
  rw [delH_ne (ne_of_none e ha)]
  exact s b o e
section
variable {P : Program} {w : World} {K : PySem.W.Frag} {mg : Str → Option Value} {base : Heap} {cB cN : Addr}
theorem sBad : FnScope ["self", "value"] ["self", "value"] (defScope iBad) := ⟨rfl, rfl, rfl, by decide +kernel, rfl, by decide +kernel, by decide +kernel⟩
theorem oBad {fI C : Addr} {fd : FuncData} (F : Fun K "__init__" "BadValue.__init__" iBad fI fd) (O : OwnX K C fI) (g : mg "BadValue" = some (.ref C)) (Z : PySem.ExV.ClsX K C) (no : PySem.W.findIn K (.ref C) "value" = some none) : One P w K mg base C "BadValue" "value" := by
  obtain ⟨b1, b2⟩ := kb1 (f := "value") F (fun _ _ _ _ _ _ _ _ => rfl) (fun _ _ _ _ _ _ _ _ => rfl)
  refine ⟨⟨fI, fd, O, F.ok sBad (fun vs H Q E h => ?_) (fun cdv A outer s H vs Q E hr h => ?_), b1, b2⟩, g, Z, no⟩
  · obtain ⟨a, v, rfl, _⟩ := h
    rfl
  · obtain ⟨a, v, rfl, ha, k⟩ := h
    exact ⟨_, pss_one (ps_ost (pv 0) (pv 1)), _, rfl, _, rfl, a, C, rfl, O.T, no, .inl ⟨ha, fun dx hd ne => k dx hd ne⟩⟩
theorem scIsInt : FnScope ["value"] ["value"] (defScope sIsInt) := ⟨rfl, rfl, rfl, by decide +kernel, rfl, by decide +kernel, by decide +kernel⟩
theorem ok_isInt {f : Addr} {fd : FuncData} (F : Fun K "is_integer" "is_integer" sIsInt f fd) (T : TxtR mg) : FnOk P w K mg base CX0 1 f fd ["value"] (spIsInt K) := by
  refine F.ok scIsInt (fun vs H Q E h => ?_) (fun cdv A outer s H vs Q E hr h => ?_)
  · obtain ⟨v, rfl, _⟩ := h
    rfl
  · obtain ⟨v, rfl, k⟩ := h
    refine ⟨_, pss_one (ps_ret (pe_and (pe_callB call_isi (by rfl) T.isi (by decide +kernel) (pa_cons (pv 0) (pa_cons (pe_bltn (v := .ty "int") (u := .type "int") (by rfl) T.int (by decide +kernel) rfl) pa_nil)))
      (pe_one (pe_not (pe_callB call_isi (by rfl) T.isi (by decide +kernel) (pa_cons (pv 0) (pa_cons (pe_bltn (v := .ty "bool") (u := .type "bool") (by rfl) T.bool (by decide +kernel) rfl) pa_nil))))))), ?_⟩
    rcases k with ⟨⟨i, rfl⟩, q⟩ | ⟨⟨t, b, c, ty, h1, h2, h3⟩, q⟩
    · refine ⟨_, rfl, _, .ty "int", .type "int", .type "int", true, rfl, .ty _, .base (.int i), kit_ty (by decide +kernel), true, rfl, ?_⟩
      exact ⟨_, rfl, _, .ty "bool", .type "int", .type "bool", false, rfl, .ty _, .base (.int i), kit_ty (by decide +kernel), _, rfl, q⟩
    · refine ⟨_, rfl, _, .ty "int", t, .type "int", b, rfl, .ty _, ty, h1, b, rfl, ?_⟩
      cases b with
      | false => exact q
      | true =>
        have hc : c = true := by simpa using h3
        subst hc
        exact ⟨_, rfl, _, .ty "bool", t, .type "bool", true, rfl, .ty _, ty, h2, _, rfl, q⟩
end
end K03
end
section
set_option maxHeartbeats 4000000
namespace K03
open PySem PySem.Spec PyProof.Rows L2
/-- the divisor that brings t by b to lowest terms, b's sign in it -/
def shr (t b : Int) : Int := if b < 0 then -((Nat.gcd t.natAbs b.natAbs : Nat) : Int) else ((Nat.gcd t.natAbs b.natAbs : Nat) : Int)
/-- t by b in lowest terms -/
def low (t b : Int) : Int × Int := (t.fdiv (shr t b), b.fdiv (shr t b))
theorem shr_ne {t b : Int} (h : b ≠ 0) : shr t b ≠ 0 := by
  have g : 0 < Nat.gcd t.natAbs b.natAbs := Nat.gcd_pos_of_pos_right _ (by omega)
  unfold shr
  split <;> omega
theorem shr_le {t b : Int} (h : b ≠ 0) : (shr t b).natAbs ≤ b.natAbs := by
  have g : Nat.gcd t.natAbs b.natAbs ≤ b.natAbs := Nat.gcd_le_right _ (by omega)
  unfold shr
  split <;> omega
theorem log2_le {a b n : Nat} (h : a ≤ b) (ha : 0 < a) (hb : b < 2 ^ n) (hn : 0 < n) : a.log2 < n := by
  have : a < 2 ^ n := Nat.lt_of_le_of_lt h hb
  exact (Nat.log2_lt (by omega)).mpr this
/-- a Ratio -/
def rat (C dx : Addr) (q : Int × Int) : HO := .ins C dx [("top", .int q.1), ("bottom", .int q.2)]
/-- the sizes that are dealt with -/
abbrev Sz (b : Int) : Prop := b.natAbs < 2 ^ 9000
/-- what a new Ratio is made of: the first wrong value is told -/
inductive MadeOf (K : PySem.W.Frag) (cB cN : Addr) (H : Hp) (E : XK) (x y : V) (ok : Int × Int → Prop) : Prop where
  | good (t b : Int) (hx : x = .int t) (hy : y = .int b) (h0 : b ≠ 0) (hs : Sz b) (q : ok (low t b)) : MadeOf K cB cN H E x y ok
  | top (n : NoInt K H x) (q : Bad cB x H E) : MadeOf K cB cN H E x y ok
  | bot (t : Int) (hx : x = .int t) (n : NoInt K H y) (q : Bad cB y H E) : MadeOf K cB cN H E x y ok
  | zero (t : Int) (hx : x = .int t) (hy : y = .int 0) (q : NoDiv cN H E) : MadeOf K cB cN H E x y ok
def spInit (K : PySem.W.Frag) (C cB cN : Addr) : Sp := fun vs H Q E => ∃ (a dx : Addr) (x y : V), vs = [.ref a, x, y] ∧ H a = some (.ins C dx []) ∧
  MadeOf K cB cN H E x y fun q => Q .non (upd H a (rat C dx q))
/-- the class's own facts -/
structure RatC (K : PySem.W.Frag) (mg : Str → Option Value) (C fI : Addr) : Prop where
  made : Mk K C fI
  c : Cls K C
  nT : NoAttr K C "top"
  nB : NoAttr K C "bottom"
  g : mg "Ratio" = some (.ref C)
  t1 : Top1 K C
  ty : PySem.W.typeIn K (.ref C) = some (.type "type")
abbrev sInit : Stmt := inClass (top 21) 0
theorem ne_tb : ¬ (("top" : Str) = "bottom") := by decide +kernel
theorem putTB (u v : V) : putF ("bottom" : Str) v (putF ("top" : Str) u []) = ([("top", u), ("bottom", v)] : List (Str × V)) := by simp [putF, ne_tb]
section
variable {P : Program} {w : World} {K : PySem.W.Frag} {mg : Str → Option Value} {base : Heap} {cB cN C fI : Addr}
/-- not isinstance(x, int) or isinstance(x, bool) -/
def tNoI (K : PySem.W.Frag) (i : Nat) : TT := fun σ H Q => ∃ v, σ[i]? = some (some v) ∧ (((∃ t, v = .int t) ∧ Q false H) ∨ (NoInt K H v ∧ Q true H))
theorem pt_noInt {X : Cx} (B : TxtR X.mg) {i : Nat} {x : Str} {p1 p2 p3 p4 p5 p6 p7 p8 p9 p10 : Pos} (hv : ∀ p, PE X (.Name x p) (tVar i)) (gi : Gl X "isinstance" := by rfl) (gt : Gl X "int" := by rfl) (gb : Gl X "bool" := by rfl) :
    PT X (.BoolOp .Or [.UnaryOp .Not (.Call (.Name "isinstance" p1) [.Name x p2, .Name "int" p3] [] p4) p5, .Call (.Name "isinstance" p6) [.Name x p7, .Name "bool" p8] [] p9] p10) (tNoI X.K i) := by
  have h := PW.pt (pw_or (X := X) (pos := p10) (pt_not (pos := p5) (pt_val (pe_callB (p := p1) (pos := p4) call_isi gi B.isi (by decide +kernel) (pa_cons (hv p2) (pa_cons (pe_bltn (v := .ty "int") (u := .type "int") (pos := p3) gt B.int (by decide +kernel) rfl) pa_nil)))))
      (pw_or1 (pos := p10) (pt_val (pe_callB (p := p6) (pos := p9) call_isi gi B.isi (by decide +kernel) (pa_cons (hv p7) (pa_cons (pe_bltn (v := .ty "bool") (u := .type "bool") (pos := p8) gb B.bool (by decide +kernel) rfl) pa_nil))))))
  refine ⟨fun pins s σ H Q I ⟨v, e, k⟩ => h.run pins s σ H Q I ?_⟩
  rcases k with ⟨⟨t, rfl⟩, q⟩ | ⟨⟨t, b, c, ty, h1, h2, h3⟩, q⟩
  · refine ⟨_, e, _, .ty "int", .type "int", .type "int", true, rfl, .ty _, .base (.int t), kit_ty (by decide +kernel), true, rfl, ?_⟩
    exact ⟨_, e, _, .ty "bool", .type "int", .type "bool", false, rfl, .ty _, .base (.int t), kit_ty (by decide +kernel), false, rfl, q⟩
  · refine ⟨_, e, _, .ty "int", t, .type "int", b, rfl, .ty _, ty, h1, b, rfl, ?_⟩
    cases b with
    | false => exact q
    | true =>
      have hc : c = true := by simpa using h3
      subst hc
      exact ⟨_, e, _, .ty "bool", t, .type "bool", true, rfl, .ty _, ty, h2, true, rfl, q⟩
theorem scInit : FnScope ["self", "top", "bottom", "shared"] ["self", "top", "bottom"] (defScope sInit) := ⟨rfl, rfl, rfl, by decide +kernel, rfl, by decide +kernel, by decide +kernel⟩
end
end K03
end
section
set_option maxHeartbeats 4000000
namespace PySem
namespace GetA
open PySem.W PyProof.Rows
section
variable {prog : Program} {w : World} {A : Around} {E : Value → Shared → Prop} {s : Shared} {name : Str}
theorem miss_int {i : Int} {t u : Tok} {Q : Option Value → Shared → Prop} (hmiss : typeLookup (.type "int") name = pure none) (hsz : name.length + 100 ≤ sizeLine) (hA : A.handled = none)
    (h : ∀ h' tk, (∀ b ob, s.heap.get? b = some ob → h'.get? b = some ob) → Q none { s with heap := h', toks := tk }) : wpAny (model prog w) A (getAttrBy? (.int i t) (.str name u)) Q E s := by
  obtain ⟨hp, g, d, tk, os⟩ := s
  have hT : ∀ s' : Shared, s'.TypeIs (.int i t) "int" := fun _ => rfl
  have f1 := sub_AttributeError
  have f3 := PySem.F.slot_int_getattribute.lookup
  have f4 := PySem.F.slot_int_getattribute.bind (.int i t)
  have f5 := am_int_getattr_none
  unfold getAttrBy? getAttrBy
  repeat (any_goals (first | assumption | exact hT _ | ((with_reducible show wpAny _ _ (call (Value.builtin "int.__getattribute__") _ _) _ _ _); refine call_meets PySem.F.slot_int_getattribute (hT _) am_entry_int_getattribute (PySem.F.args_int_getattribute_2 _ _) (meets_getattribute_miss_int i t name _ hmiss hsz) ⟨hA, fun h' tk' e hx' => ?_⟩) | wp_step))
  obtain ⟨t', u', he⟩ := hx'.there
  show wpAny _ _ (getattributeRaised _ _ _ _ _ _ _) _ _ _
  unfold getattributeRaised
  repeat (any_goals (first | assumption | wp_step))
  all_goals first | exact h _ _ hx'.keeps | (dsimp only; repeat (any_goals (first | assumption | exact h _ _ hx'.keeps | wp_step)))
theorem miss_bool {c : Bool} {u : Tok} {Q : Option Value → Shared → Prop} (hmiss : typeLookup (.type "bool") name = pure none) (hsz : name.length + 100 ≤ sizeLine) (hA : A.handled = none)
    (h : ∀ h' tk, (∀ b ob, s.heap.get? b = some ob → h'.get? b = some ob) → Q none { s with heap := h', toks := tk }) : wpAny (model prog w) A (getAttrBy? (.bool c) (.str name u)) Q E s := by
  obtain ⟨hp, g, d, tk, os⟩ := s
  have hT : ∀ s' : Shared, s'.TypeIs (.bool c) "bool" := fun _ => rfl
  have f1 := sub_AttributeError
  have f3 := PySem.F.slot_bool_getattribute.lookup
  have f4 := PySem.F.slot_bool_getattribute.bind (.bool c)
  have f5 := am_bool_getattr_none
  unfold getAttrBy? getAttrBy
  repeat (any_goals (first | assumption | exact hT _ | ((with_reducible show wpAny _ _ (call (Value.builtin "int.__getattribute__") _ _) _ _ _); refine call_meets PySem.F.slot_bool_getattribute (hT _) am_entry_int_getattribute (PySem.F.args_int_getattribute_2 _ _) (meets_getattribute_miss_bool c name _ hmiss hsz) ⟨hA, fun h' tk' e hx' => ?_⟩) | wp_step))
  obtain ⟨t', u', he⟩ := hx'.there
  show wpAny _ _ (getattributeRaised _ _ _ _ _ _ _) _ _ _
  unfold getattributeRaised
  repeat (any_goals (first | assumption | wp_step))
  all_goals first | exact h _ _ hx'.keeps | (dsimp only; repeat (any_goals (first | assumption | exact h _ _ hx'.keeps | wp_step)))
theorem miss_str {x : Str} {t u : Tok} {Q : Option Value → Shared → Prop} (hmiss : typeLookup (.type "str") name = pure none) (hsz : name.length + 100 ≤ sizeLine) (hA : A.handled = none)
    (h : ∀ h' tk, (∀ b ob, s.heap.get? b = some ob → h'.get? b = some ob) → Q none { s with heap := h', toks := tk }) : wpAny (model prog w) A (getAttrBy? (.str x t) (.str name u)) Q E s := by
  obtain ⟨hp, g, d, tk, os⟩ := s
  have hT : ∀ s' : Shared, s'.TypeIs (.str x t) "str" := fun _ => rfl
  have f1 := sub_AttributeError
  have f3 := PySem.F.slot_str_getattribute.lookup
  have f4 := PySem.F.slot_str_getattribute.bind (.str x t)
  have f5 := am_str_getattr_none
  unfold getAttrBy? getAttrBy
  repeat (any_goals (first | assumption | exact hT _ | ((with_reducible show wpAny _ _ (call (Value.builtin "object.__getattribute__") _ _) _ _ _); refine call_meets PySem.F.slot_str_getattribute (hT _) PySem.F.entry_object_getattribute (PySem.F.args_object_getattribute_2 _ _) (meets_getattribute_miss_str x t name _ hmiss hsz) ⟨hA, fun h' tk' e hx' => ?_⟩) | wp_step))
  obtain ⟨t', u', he⟩ := hx'.there
  show wpAny _ _ (getattributeRaised _ _ _ _ _ _ _) _ _ _
  unfold getattributeRaised
  repeat (any_goals (first | assumption | wp_step))
  all_goals first | exact h _ _ hx'.keeps | (dsimp only; repeat (any_goals (first | assumption | exact h _ _ hx'.keeps | wp_step)))
theorem miss_none {u : Tok} {Q : Option Value → Shared → Prop} (hmiss : typeLookup (.type "NoneType") name = pure none) (hsz : name.length + 100 ≤ sizeLine) (hA : A.handled = none)
    (h : ∀ h' tk, (∀ b ob, s.heap.get? b = some ob → h'.get? b = some ob) → Q none { s with heap := h', toks := tk }) : wpAny (model prog w) A (getAttrBy? .none (.str name u)) Q E s := by
  obtain ⟨hp, g, d, tk, os⟩ := s
  have hT : ∀ s' : Shared, s'.TypeIs .none "NoneType" := fun _ => rfl
  have f1 := sub_AttributeError
  have f3 := PySem.F.slot_NoneType_getattribute.lookup
  have f4 := PySem.F.slot_NoneType_getattribute.bind .none
  have f5 := am_none_getattr_none
  unfold getAttrBy? getAttrBy
  repeat (any_goals (first | assumption | exact hT _ | ((with_reducible show wpAny _ _ (call (Value.builtin "object.__getattribute__") _ _) _ _ _); refine call_meets PySem.F.slot_NoneType_getattribute (hT _) PySem.F.entry_object_getattribute (PySem.F.args_object_getattribute_2 _ _) (meets_getattribute_miss_none name _ hmiss hsz) ⟨hA, fun h' tk' e hx' => ?_⟩) | wp_step))
  obtain ⟨t', u', he⟩ := hx'.there
  show wpAny _ _ (getattributeRaised _ _ _ _ _ _ _) _ _ _
  unfold getattributeRaised
  repeat (any_goals (first | assumption | wp_step))
  all_goals first | exact h _ _ hx'.keeps | (dsimp only; repeat (any_goals (first | assumption | exact h _ _ hx'.keeps | wp_step)))
theorem miss_list {a : Addr} {o : Obj} {xs : Array Value} {k : Nat} {u : Tok} {Q : Option Value → Shared → Prop} (hx : s.heap.get? a = some o) (hc : o.cls = .type "list") (hdat : o.data = .seq xs k) (hd : o.dict = none) (hmiss : typeLookup (.type "list") name = pure none) (hname : (["__module__", "__name__", "__qualname__", "__doc__", "__annotations__"] : List Str).contains name = false) (hsz : name.length + 100 ≤ sizeLine) (hA : A.handled = none)
    (h : ∀ h' tk, (∀ b ob, s.heap.get? b = some ob → h'.get? b = some ob) → Q none { s with heap := h', toks := tk }) : wpAny (model prog w) A (getAttrBy? (.ref a) (.str name u)) Q E s := by
  obtain ⟨c, dct, dat, sl⟩ := o
  simp only at hc hdat hd
  subst hc hdat hd
  obtain ⟨hp, g, d, tk, os⟩ := s
  have hT : ∀ tk', (⟨hp, g, d, tk', os⟩ : Shared).TypeIs (.ref a) "list" := fun _ => ⟨_, hx, rfl⟩
  have f1 := sub_AttributeError
  have f3 := PySem.F.slot_list_getattribute.lookup
  have f4 := PySem.F.slot_list_getattribute.bind (.ref a)
  have f5 := am_list_getattr_none
  unfold getAttrBy? getAttrBy
  repeat (any_goals (first | assumption | exact hT _ | ((with_reducible show wpAny _ _ (call (Value.builtin "list.__getattribute__") _ _) _ _ _); refine call_meets PySem.F.slot_list_getattribute (hT _) am_entry_list_getattribute (PySem.F.args_list_getattribute_2 _ _) (meets_getattribute_miss_list a xs k sl name _ hmiss hname hsz) ⟨hx, hA, fun h' tk' e hx' => ?_⟩) | wp_step))
  obtain ⟨t', u', he⟩ := hx'.there
  show wpAny _ _ (getattributeRaised _ _ _ _ _ _ _) _ _ _
  unfold getattributeRaised
  repeat (any_goals (first | assumption | wp_step))
  all_goals first | exact h _ _ hx'.keeps | (dsimp only; repeat (any_goals (first | assumption | exact h _ _ hx'.keeps | wp_step)))
theorem miss_tuple {a : Addr} {o : Obj} {xs : Array Value} {k : Nat} {u : Tok} {Q : Option Value → Shared → Prop} (hx : s.heap.get? a = some o) (hc : o.cls = .type "tuple") (hdat : o.data = .seq xs k) (hd : o.dict = none) (hmiss : typeLookup (.type "tuple") name = pure none) (hname : (["__module__", "__name__", "__qualname__", "__doc__", "__annotations__"] : List Str).contains name = false) (hsz : name.length + 100 ≤ sizeLine) (hA : A.handled = none)
    (h : ∀ h' tk, (∀ b ob, s.heap.get? b = some ob → h'.get? b = some ob) → Q none { s with heap := h', toks := tk }) : wpAny (model prog w) A (getAttrBy? (.ref a) (.str name u)) Q E s := by
  obtain ⟨c, dct, dat, sl⟩ := o
  simp only at hc hdat hd
  subst hc hdat hd
  obtain ⟨hp, g, d, tk, os⟩ := s
  have hT : ∀ tk', (⟨hp, g, d, tk', os⟩ : Shared).TypeIs (.ref a) "tuple" := fun _ => ⟨_, hx, rfl⟩
  have f1 := sub_AttributeError
  have f3 := PySem.F.slot_tuple_getattribute.lookup
  have f4 := PySem.F.slot_tuple_getattribute.bind (.ref a)
  have f5 := am_tuple_getattr_none
  unfold getAttrBy? getAttrBy
  repeat (any_goals (first | assumption | exact hT _ | ((with_reducible show wpAny _ _ (call (Value.builtin "tuple.__getattribute__") _ _) _ _ _); refine call_meets PySem.F.slot_tuple_getattribute (hT _) am_entry_tuple_getattribute (PySem.F.args_tuple_getattribute_2 _ _) (meets_getattribute_miss_tuple a xs k sl name _ hmiss hname hsz) ⟨hx, hA, fun h' tk' e hx' => ?_⟩) | wp_step))
  obtain ⟨t', u', he⟩ := hx'.there
  show wpAny _ _ (getattributeRaised _ _ _ _ _ _ _) _ _ _
  unfold getattributeRaised
  repeat (any_goals (first | assumption | wp_step))
  all_goals first | exact h _ _ hx'.keeps | (dsimp only; repeat (any_goals (first | assumption | exact h _ _ hx'.keeps | wp_step)))
theorem miss_dict {a : Addr} {o : Obj} {xs : Array DictEntry} {k : Nat} {u : Tok} {Q : Option Value → Shared → Prop} (hx : s.heap.get? a = some o) (hc : o.cls = .type "dict") (hdat : o.data = .dict xs k) (hd : o.dict = none) (hmiss : typeLookup (.type "dict") name = pure none) (hname : (["__module__", "__name__", "__qualname__", "__doc__", "__annotations__"] : List Str).contains name = false) (hsz : name.length + 100 ≤ sizeLine) (hA : A.handled = none)
    (h : ∀ h' tk, (∀ b ob, s.heap.get? b = some ob → h'.get? b = some ob) → Q none { s with heap := h', toks := tk }) : wpAny (model prog w) A (getAttrBy? (.ref a) (.str name u)) Q E s := by
  obtain ⟨c, dct, dat, sl⟩ := o
  simp only at hc hdat hd
  subst hc hdat hd
  obtain ⟨hp, g, d, tk, os⟩ := s
  have hT : ∀ tk', (⟨hp, g, d, tk', os⟩ : Shared).TypeIs (.ref a) "dict" := fun _ => ⟨_, hx, rfl⟩
  have f1 := sub_AttributeError
  have f3 := PySem.F.slot_dict_getattribute.lookup
  have f4 := PySem.F.slot_dict_getattribute.bind (.ref a)
  have f5 := am_dict_getattr_none
  unfold getAttrBy? getAttrBy
  repeat (any_goals (first | assumption | exact hT _ | ((with_reducible show wpAny _ _ (call (Value.builtin "dict.__getattribute__") _ _) _ _ _); refine call_meets PySem.F.slot_dict_getattribute (hT _) am_entry_dict_getattribute (PySem.F.args_dict_getattribute_2 _ _) (meets_getattribute_miss_dict a xs k sl name _ hmiss hname hsz) ⟨hx, hA, fun h' tk' e hx' => ?_⟩) | wp_step))
  obtain ⟨t', u', he⟩ := hx'.there
  show wpAny _ _ (getattributeRaised _ _ _ _ _ _ _) _ _ _
  unfold getattributeRaised
  repeat (any_goals (first | assumption | wp_step))
  all_goals first | exact h _ _ hx'.keeps | (dsimp only; repeat (any_goals (first | assumption | exact h _ _ hx'.keeps | wp_step)))
end
end GetA
end PySem
end
section
set_option maxHeartbeats 4000000
namespace PySem
namespace GetA
open PySem.W PyProof.Rows
theorem args3 (a b c : Value) : argsOk "getattr" ⟨[a, b, c], []⟩ := by unfold argsOk; kernel_rfl
section
variable {prog : Program} {w : World} {A : Around} {E : Value → Shared → Prop} {s : Shared} {name : Str}
/-- getattr(x, name, d) where the look-up finds nothing -/
theorem getattr3_prim {o v : Value} {u : Tok} {Q : Value → Shared → Prop} (hr : ∀ a, o ≠ .ref a) (h : wpAny (model prog w) A.in1 (getAttrBy? o (.str ("mark" : Str) u)) (fun r s' => r = none ∧ Q v s') E s) : wpAny (model prog w) A (call (.builtin "getattr") [o, .str ("mark" : Str) u, v]) Q E s := by
  refine Calls.call_function_entry KB.kind_getattr KB.plain_getattr KB.entry_getattr (args3 _ _ _) ?_
  unfold Builtin.«getattr»
  refine wpAny_bind (wpAny_of_eq (a := [o, .str ("mark" : Str) u, v]) (by first | rfl | kernel_rfl) ?_)
  dsimp only
  refine wpAny_bind (wpAny_of_eq (a := ()) (by first | rfl | kernel_rfl) ?_)
  refine wpAny_bind (wpAny_of_eq (a := none) (by first | rfl | kernel_rfl) ?_)
  dsimp only
  refine wpAny_bind (wpAny_of_eq (a := 0) (by cases o <;> first | rfl | (exact absurd rfl (hr _))) ?_)
  rw [if_neg (by decide)]
  refine wpAny_bind (wpAny_mono h (fun r s' hq => ?_) fun _ _ e => e)
  obtain ⟨rfl, q⟩ := hq
  exact wpAny_pure ⟨_, rfl, q⟩
theorem getattr3_ref {a : Addr} {T : String} {v : Value} {u : Tok} {Q : Value → Shared → Prop} (hT : s.TypeIs (.ref a) T) (hm : isSubtype (.type T) (.type "module") = pure false)
   (h : wpAny (model prog w) A.in1 (getAttrBy? (.ref a) (.str ("mark" : Str) u)) (fun r s' => r = none ∧ Q v s') E s) : wpAny (model prog w) A (call (.builtin "getattr") [.ref a, .str ("mark" : Str) u, v]) Q E s := by
  refine Calls.call_function_entry KB.kind_getattr KB.plain_getattr KB.entry_getattr (args3 _ _ _) ?_
  unfold Builtin.«getattr»
  refine wpAny_bind (wpAny_of_eq (a := [.ref a, .str ("mark" : Str) u, v]) (by first | rfl | kernel_rfl) ?_)
  dsimp only
  refine wpAny_bind (wpAny_of_eq (a := ()) (by first | rfl | kernel_rfl) ?_)
  refine wpAny_bind (wpAny_of_eq (a := none) (by first | rfl | kernel_rfl) ?_)
  dsimp only
  have z : wpAny (model prog w) A.in1 (isInstance (.ref a) (.type "module")) (fun r s' => r = false ∧ s' = s) E s := by
    obtain ⟨hp, g, d, tk, os⟩ := s
    repeat (any_goals (first | assumption | exact ⟨rfl, rfl⟩ | wp_step))
  refine wpAny_bind (wpAny_mono (Q := fun r s' => r = 0 ∧ s' = s) ?_ (fun r s' hq => ?_) fun _ _ e => e)
  · refine wpAny_bind (wpAny_of_eq (a := some ("mark" : Str)) (by first | rfl | kernel_rfl) ?_)
    refine wpAny_bind (wpAny_mono z (fun r s' hq => ?_) fun _ _ e => e)
    obtain ⟨rfl, rfl⟩ := hq
    exact wpAny_pure ⟨rfl, rfl⟩
  · obtain ⟨rfl, rfl⟩ := hq
    rw [if_neg (by decide)]
    refine wpAny_bind (wpAny_mono h (fun r s' hq => ?_) fun _ _ e => e)
    obtain ⟨rfl, q⟩ := hq
    exact wpAny_pure ⟨_, rfl, q⟩
end
end GetA
end PySem
end
section
set_option maxHeartbeats 4000000
namespace L2
open PySem PySem.Spec PyProof.Rows
def kinds : List String := ["int", "bool", "NoneType", "str", "list", "tuple", "dict"]
/-- an object of which it is known that it has no dict -/
def NoDct (H : Hp) (x : V) : Prop := ∀ a, x = .ref a → (∃ xs, H a = some (.lst xs)) ∨ (∃ o xs, H a = some (.frz o (.tup xs)) ∧ o.dict = none) ∨ ∃ kvs, H a = some (.dK kvs)
theorem NoDct.same {H H' : Hp} {x : V} (h : NoDct H x) (s : Same H H') : NoDct H' x := fun a e => by
  rcases h a e with ⟨xs, z⟩ | ⟨o, xs, z, d⟩ | ⟨kvs, z⟩
  · exact .inl ⟨xs, s _ _ z⟩
  · exact .inr (.inl ⟨o, xs, s _ _ z, d⟩)
  · exact .inr (.inr ⟨kvs, s _ _ z⟩)
theorem sub_mod_list : isSubtype (.type "list") (.type "module") = pure false := by rw [isSubtype_type]; kernel_rfl
theorem sub_mod_tuple : isSubtype (.type "tuple") (.type "module") = pure false := by rw [isSubtype_type]; kernel_rfl
theorem sub_mod_dict : isSubtype (.type "dict") (.type "module") = pure false := by rw [isSubtype_type]; kernel_rfl
theorem mark_miss {T : String} (h : T ∈ kinds) : typeLookup (.type T) ("mark" : Str) = pure none := by
  unfold kinds at h
  simp only [List.mem_cons, List.not_mem_nil, or_false] at h
  rcases h with rfl | rfl | rfl | rfl | rfl | rfl | rfl <;> exact am_miss_of_fast (by decide +kernel)
theorem mark_sz : ("mark" : Str).length + 100 ≤ sizeLine := by decide +kernel
theorem mark_no : (["__module__", "__name__", "__qualname__", "__doc__", "__annotations__"] : List Str).contains "mark" = false := by decide +kernel
/-- getattr(x, "mark", v), x of a built-in type without that attribute -/
def rGetM (K : PySem.W.Frag) : List V → Hp → VK → Prop := fun vs H Q => ∃ (x v : V) (T : String), vs = [x, .str "mark", v] ∧ T ∈ kinds ∧ TyX K H x (.type T) ∧ NoDct H x ∧ Q v H
theorem call_getM {X : Cx} (hc : X.calm = true) : CallR X (.builtin "getattr") (rGetM X.K) := by
  intro pins s σ H xs us Q I r h
  obtain ⟨x, v, T, rfl, hT, ty, nd, q⟩ := h
  match us, r with
  | [u1, u2, u3], .cons r1 (.cons r2 (.cons r3 .nil)) =>
  obtain ⟨tk, rfl⟩ := (show ∃ t, u2 = Value.str "mark" t from r2)
  have hh : X.A.in1.handled = none := I.ok.hd hc
  have fin : ∀ h' tk', (∀ b ob, s.heap.get? b = some ob → h'.get? b = some ob) → (fun (r : Option Value) s' => r = none ∧ EP X pins σ Q u3 s') none { s with heap := h', toks := tk' } := fun h' tk' k => ⟨rfl, v, H, I.kept k, r3, q⟩
  have ms := mark_miss hT
  cases ty with
  | base b =>
    cases b with
    | non => cases (show u1 = Value.none from r1); exact PySem.GetA.getattr3_prim (fun _ z => nomatch z) (PySem.GetA.miss_none ms mark_sz hh fin)
    | bl y => cases (show u1 = Value.bool y from r1); exact PySem.GetA.getattr3_prim (fun _ z => nomatch z) (PySem.GetA.miss_bool ms mark_sz hh fin)
    | int i => obtain ⟨t, rfl⟩ := (show ∃ t, u1 = Value.int i t from r1); exact PySem.GetA.getattr3_prim (fun _ z => nomatch z) (PySem.GetA.miss_int ms mark_sz hh fin)
    | str y => obtain ⟨t, rfl⟩ := (show ∃ t, u1 = Value.str y t from r1); exact PySem.GetA.getattr3_prim (fun _ z => nomatch z) (PySem.GetA.miss_str ms mark_sz hh fin)
    | flt y => exact absurd hT (by decide +kernel)
    | @lst a xs ea =>
      cases (show u1 = Value.ref a from r1)
      obtain ⟨_, _, n, _, h1⟩ := (show ObjOk X.prog X.w H s.heap a (.lst xs) from I.hok a _ ea)
      exact PySem.GetA.getattr3_ref ⟨_, h1, rfl⟩ sub_mod_list (PySem.GetA.miss_list h1 rfl rfl rfl ms mark_no mark_sz hh fin)
    | @frz a ob xs ea =>
      rcases nd a rfl with ⟨_, z⟩ | ⟨_, _, z, _⟩ | ⟨_, z⟩ <;> rw [ea] at z <;> cases z
    | @tup a xs ea =>
      rcases nd a rfl with ⟨_, z⟩ | ⟨_, _, z, _⟩ | ⟨_, z⟩ <;> rw [ea] at z <;> cases z
    | @dK a kvs ea =>
      cases (show u1 = Value.ref a from r1)
      obtain ⟨_, _, vs, _, o, es, ep, h1, h2, h3, _⟩ := (show ObjOk X.prog X.w H s.heap a (.dK kvs) from I.hok a _ ea)
      exact PySem.GetA.getattr3_ref ⟨_, h1, h2.1⟩ sub_mod_dict (PySem.GetA.miss_dict h1 h2.1 h3 h2.2.1 ms mark_no mark_sz hh fin)
    | @dT a kvs ea =>
      rcases nd a rfl with ⟨_, z⟩ | ⟨_, _, z, _⟩ | ⟨_, z⟩ <;> rw [ea] at z <;> cases z
  | byt y => exact absurd hT (by decide +kernel)
  | @set a S n ea => exact absurd hT (by decide +kernel)
  | @kList a o e c =>
    cases (show u1 = Value.ref a from r1)
    rcases nd a rfl with ⟨xs, z⟩ | ⟨ob, _, z, d⟩ | ⟨_, z⟩
    · obtain ⟨_, _, n, _, h1⟩ := (show ObjOk X.prog X.w H s.heap a (.lst xs) from I.hok a _ z)
      exact PySem.GetA.getattr3_ref ⟨_, h1, rfl⟩ sub_mod_list (PySem.GetA.miss_list h1 rfl rfl rfl ms mark_no mark_sz hh fin)
    · obtain ⟨_, _, _, _, o', h1, h2, _⟩ := (show ObjOk X.prog X.w H s.heap a (.frz ob (.tup _)) from I.hok a _ z)
      have k1 := I.kIn a o e
      rw [h1] at k1
      cases k1
      rw [c] at h2
      exact absurd (Value.type.inj h2) (by decide)
    · obtain ⟨_, _, vs, _, o', es, ep, h1, h2, h3, _⟩ := (show ObjOk X.prog X.w H s.heap a (.dK _) from I.hok a _ z)
      have k1 := I.kIn a o e
      rw [h1] at k1
      cases k1
      have h4 := h2.1
      rw [c] at h4
      exact absurd (Value.type.inj h4) (by decide)
  | @kTuple a o e c =>
    cases (show u1 = Value.ref a from r1)
    rcases nd a rfl with ⟨xs, z⟩ | ⟨ob, xs, z, d⟩ | ⟨_, z⟩
    · obtain ⟨_, _, n, _, h1⟩ := (show ObjOk X.prog X.w H s.heap a (.lst xs) from I.hok a _ z)
      have k1 := I.kIn a o e
      rw [h1] at k1
      cases k1
      exact absurd (Value.type.inj c) (by decide)
    · obtain ⟨h0, _, _, _, o', h1, h2, n, h3⟩ := (show ObjOk X.prog X.w H s.heap a (.frz ob (.tup xs)) from I.hok a _ z)
      have d' : o'.dict = none := by
        rw [h0] at h1
        cases h1
        exact d
      exact PySem.GetA.getattr3_ref ⟨_, h1, h2⟩ sub_mod_tuple (PySem.GetA.miss_tuple h1 h2 h3 d' ms mark_no mark_sz hh fin)
    · obtain ⟨_, _, vs, _, o', es, ep, h1, h2, h3, _⟩ := (show ObjOk X.prog X.w H s.heap a (.dK _) from I.hok a _ z)
      have k1 := I.kIn a o e
      rw [h1] at k1
      cases k1
      have h4 := h2.1
      rw [c] at h4
      exact absurd (Value.type.inj h4) (by decide)
  | @kDict a o e c =>
    cases (show u1 = Value.ref a from r1)
    rcases nd a rfl with ⟨xs, z⟩ | ⟨ob, xs, z, d⟩ | ⟨_, z⟩
    · obtain ⟨_, _, n, _, h1⟩ := (show ObjOk X.prog X.w H s.heap a (.lst xs) from I.hok a _ z)
      have k1 := I.kIn a o e
      rw [h1] at k1
      cases k1
      exact absurd (Value.type.inj c) (by decide)
    · obtain ⟨_, _, _, _, o', h1, h2, _⟩ := (show ObjOk X.prog X.w H s.heap a (.frz ob (.tup _)) from I.hok a _ z)
      have k1 := I.kIn a o e
      rw [h1] at k1
      cases k1
      rw [c] at h2
      exact absurd (Value.type.inj h2) (by decide)
    · obtain ⟨_, _, vs, _, o', es, ep, h1, h2, h3, _⟩ := (show ObjOk X.prog X.w H s.heap a (.dK _) from I.hok a _ z)
      exact PySem.GetA.getattr3_ref ⟨_, h1, h2.1⟩ sub_mod_dict (PySem.GetA.miss_dict h1 h2.1 h3 h2.2.1 ms mark_no mark_sz hh fin)
  | @fTuple a ob xs ea =>
    cases (show u1 = Value.ref a from r1)
    rcases nd a rfl with ⟨_, z⟩ | ⟨_, _, z, d⟩ | ⟨_, z⟩ <;> rw [ea] at z <;> cases z
    obtain ⟨h0, _, _, _, o', h1, h2, n, h3⟩ := (show ObjOk X.prog X.w H s.heap a (.frz ob (.tup xs)) from I.hok a _ ea)
    have d' : o'.dict = none := by
      rw [h0] at h1
      cases h1
      exact d
    exact PySem.GetA.getattr3_ref ⟨_, h1, h2⟩ sub_mod_tuple (PySem.GetA.miss_tuple h1 h2 h3 d' ms mark_no mark_sz hh fin)
  | @fDict a ob kvs ea =>
    rcases nd a rfl with ⟨_, z⟩ | ⟨_, _, z, _⟩ | ⟨_, z⟩ <;> rw [ea] at z <;> cases z
end L2
end
section
set_option maxHeartbeats 4000000
namespace L2
open PySem PySem.Spec PyProof.Rows
theorem TyOf.same {K : PySem.W.Frag} {H H' : Hp} {v : V} {t : Value} (h : TyOf K H v t) (s : Same H H') : TyOf K H' v t := by
  cases h with
  | non => exact .non
  | bl x => exact .bl x
  | int i => exact .int i
  | str x => exact .str x
  | flt x => exact .flt x
  | lst e => exact .lst (s _ _ e)
  | frz e => exact .frz (s _ _ e)
  | tup e => exact .tup (s _ _ e)
  | dK e => exact .dK (s _ _ e)
  | dT e => exact .dT (s _ _ e)
  | ins e cl ha hn htk hm => exact .ins (s _ _ e) cl ha hn htk hm
theorem TyX.same {K : PySem.W.Frag} {H H' : Hp} {v : V} {t : Value} (h : TyX K H v t) (s : Same H H') : TyX K H' v t := by
  cases h with
  | base h => exact .base (h.same s)
  | byt b => exact .byt b
  | set e => exact .set (s _ _ e)
  | kList e c => exact .kList e c
  | kTuple e c => exact .kTuple e c
  | kDict e c => exact .kDict e c
  | fTuple e => exact .fTuple (s _ _ e)
  | fDict e => exact .fDict (s _ _ e)
theorem NoInt.same {K : PySem.W.Frag} {H H' : Hp} {v : V} (h : NoInt K H v) (s : Same H H') : NoInt K H' v := by
  obtain ⟨t, b, c, h1, h2, h3, h4⟩ := h
  exact ⟨t, b, c, h1.same s, h2, h3, h4⟩
end L2
namespace K03
open PySem PySem.Spec PyProof.Rows L2
theorem Bad.same {cB : Addr} {v : V} {H H' : Hp} {E : XK} (h : Bad cB v H E) (s : Same H H') : Bad cB v H' E := fun d H'' hd s2 e => h d H'' (by
  cases q : H d with
  | none => rfl
  | some o => rw [s _ _ q] at hd; cases hd) (s.trans s2) e
theorem NoDiv.same {cN : Addr} {H H' : Hp} {E : XK} (h : NoDiv cN H E) (s : Same H H') : NoDiv cN H' E := fun H'' s2 => h H'' (s.trans s2)
theorem MadeOf.same {K : PySem.W.Frag} {cB cN : Addr} {H H' : Hp} {E : XK} {x y : V} {ok ok' : Int × Int → Prop} (h : MadeOf K cB cN H E x y ok) (s : Same H H') (o : ∀ q, ok q → ok' q) : MadeOf K cB cN H' E x y ok' := by
  cases h with
  | good t b hx hy h0 hs q => exact .good t b hx hy h0 hs (o _ q)
  | top n q => exact .top (n.same s) (q.same s)
  | bot t hx n q => exact .bot t hx (n.same s) (q.same s)
  | zero t hx hy q => exact .zero t hx hy (q.same s)
/-- a new Ratio q, all else as it was -/
def NewR (C : Addr) (H : Hp) (Q : VK) (q : Int × Int) : Prop := ∀ (a dx : Addr) (H' : Hp), H a = none → Same H H' → H' a = some (rat C dx q) → Q (.ref a) H'
/-- all that is known of the class Ratio -/
structure Rat (P : Program) (w : World) (K : PySem.W.Frag) (mg : Str → Option Value) (base : Heap) (cB cN C fI : Addr) : Prop where
  cls : RatC K mg C fI
  init : ∃ fd : FuncData, FnOk P w K mg base (L2.CX P w) 4 fI fd ["self", "top", "bottom"] (spInit K C cB cN) ∧ (∃ ds, Vals [.int 1] ds ∧ Binds K fd ["self", "top", "bottom"] ds) ∧ Binds K fd ["self", "top", "bottom"] []
  tyx : ∀ (H : Hp) (a dx : Addr) (fs : List (Str × V)), H a = some (.ins C dx fs) → TyX K H (.ref a) (.ref C)
  txt : TxtR mg
section
variable {X : Cx} {cB cN C fI : Addr} {e e2 : Expr} {te te2 : TE} {p pos : Pos} {E : XK}
def tRat1 (K : PySem.W.Frag) (C cB cN : Addr) (E : XK) (te : TE) : TE := fun σ H Q => te σ H fun v H1 => MadeOf K cB cN H1 E v (.int 1) (NewR C H1 Q)
def tRat2 (K : PySem.W.Frag) (C cB cN : Addr) (E : XK) (te te2 : TE) : TE := fun σ H Q => te σ H fun v H1 => te2 σ H1 fun u H2 => MadeOf K cB cN H2 E v u (NewR C H2 Q)
theorem init_of {K : PySem.W.Frag} {H : Hp} {Q : VK} {v u : V} {x dx : Addr} (h : MadeOf K cB cN H E v u (NewR C H Q)) (hx : H x = none) (hd : H dx = none) (ne : dx ≠ x) :
    spInit K C cB cN [.ref x, v, u] (upd (upd H dx (.own x)) x (.ins C dx [])) (fun z H2 => z = .non ∧ Q (.ref x) H2) E := by
  have s : Same H (upd (upd H dx (.own x)) x (.ins C dx [])) := Same.new (Same.new (fun _ _ z => z) hd) (by rw [upd_ne ne.symm]; exact hx)
  refine ⟨x, dx, v, u, rfl, upd_same, h.same s fun q k => ⟨rfl, ?_⟩⟩
  rw [upd_upd]
  exact k x dx _ hx (Same.new (Same.new (fun _ _ z => z) hd) (by rw [upd_ne ne.symm]; exact hx)) upd_same
/-- Ratio(e) -/
theorem pe_rat1 (R : Rat X.prog X.w X.K X.mg X.base cB cN C fI) (hr : Room 5 X.A) (hx : Passes (L2.CX X.prog X.w) X E) (he : PE X e te) (hg : Gl X "Ratio" := by rfl)
    (hs : starEach [e] X.env = (false, eval e X.env) :: starEach [] X.env := by rfl) : PE X (.Call (.Name "Ratio" p) [e] [] pos) (tRat1 X.K C cB cN E te) := by
  obtain ⟨fd, F, ⟨ds, v1, b1⟩, _⟩ := R.init
  refine ⟨fun pins s σ H Q I h => wpAny_Call_Name_kw (ld_glob I hg R.cls.g ?_ (by decide))⟩
  refine PySem.W.callWith_K (h₀ := X.base) I.ok.mod.kin R.cls.made.kp ?_ hs (by rfl)
  rw [hs]
  show wpAny _ _ (spliced ((false, eval e X.env) :: backTo pos (starEach [] X.env))) _ _ s
  refine Calls.spliced_cons (thn (he.run pins s σ H _ I h) fun w1 s1 ⟨x, H1, I1, r1, q1⟩ => Calls.spliced_nil ⟨I1.kIn, ?_⟩)
  exact run_make (vs := [x]) R.cls.made F hr b1 v1 hx I1 (.cons r1 .nil) fun a dx ha hd ne => init_of q1 ha hd ne
/-- Ratio(e, e2) -/
theorem pe_rat2 (R : Rat X.prog X.w X.K X.mg X.base cB cN C fI) (hr : Room 5 X.A) (hx : Passes (L2.CX X.prog X.w) X E) (he : PE X e te) (he2 : PE X e2 te2) (hg : Gl X "Ratio" := by rfl)
    (hs : starEach [e, e2] X.env = (false, eval e X.env) :: starEach [e2] X.env := by rfl) (hs2 : starEach [e2] X.env = (false, eval e2 X.env) :: starEach [] X.env := by rfl) : PE X (.Call (.Name "Ratio" p) [e, e2] [] pos) (tRat2 X.K C cB cN E te te2) := by
  obtain ⟨fd, F, _, b2⟩ := R.init
  refine ⟨fun pins s σ H Q I h => wpAny_Call_Name_kw (ld_glob I hg R.cls.g ?_ (by decide))⟩
  refine PySem.W.callWith_K (h₀ := X.base) I.ok.mod.kin R.cls.made.kp ?_ hs (by rw [hs2]; rfl)
  rw [hs, hs2]
  show wpAny _ _ (spliced ((false, eval e X.env) :: (false, eval e2 X.env) :: backTo pos (starEach [] X.env))) _ _ s
  refine Calls.spliced_cons (thn (he.run pins s σ H _ I h) fun w1 s1 ⟨x, H1, I1, r1, q1⟩ => ?_)
  refine Calls.spliced_cons (thn (he2.run pins s1 σ H1 _ I1 q1) fun w2 s2 ⟨y, H2, I2, r2, q2⟩ => Calls.spliced_nil ⟨I2.kIn, ?_⟩)
  exact run_make (vs := [x, y]) (dvs := []) R.cls.made F hr b2 .nil hx I2 (.cons r1 (.cons r2 .nil)) fun a dx ha hd ne => init_of q2 ha hd ne
end
end K03
end
section
set_option maxHeartbeats 4000000
namespace K03
open PySem PySem.Spec PyProof.Rows L2
/-- a thing that is neither an integer nor a Ratio -/
def Odd (K : PySem.W.Frag) (H : Hp) (v : V) : Prop := ∃ T : String, T ∈ kinds ∧ T ≠ "int" ∧ TyX K H v (.type T) ∧ NoDct H v
theorem Odd.same {K : PySem.W.Frag} {H H' : Hp} {v : V} (h : Odd K H v) (s : Same H H') : Odd K H' v := by
  obtain ⟨T, h1, h2, h3, h4⟩ := h
  exact ⟨T, h1, h2, h3.same s, h4.same s⟩
theorem kinds_int {T : String} (h : T ∈ kinds) (n : T ≠ "int") : ∃ b c : Bool, kitB T "int" = some b ∧ kitB T "bool" = some c ∧ (b && !c) = false := by
  unfold kinds at h
  simp only [List.mem_cons, List.not_mem_nil, or_false] at h
  rcases h with rfl | rfl | rfl | rfl | rfl | rfl | rfl
  · exact absurd rfl n
  all_goals first
    | exact ⟨true, true, by decide +kernel, by decide +kernel, rfl⟩
    | exact ⟨false, false, by decide +kernel, by decide +kernel, rfl⟩
theorem kinds_blt {T : String} (h : T ∈ kinds) : (fastBuiltinMro T).isSome = true := by
  unfold kinds at h
  simp only [List.mem_cons, List.not_mem_nil, or_false] at h
  rcases h with rfl | rfl | rfl | rfl | rfl | rfl | rfl <;> decide +kernel
theorem Odd.no {K : PySem.W.Frag} {H : Hp} {v : V} (h : Odd K H v) : NoInt K H v := by
  obtain ⟨T, h1, h2, h3, _⟩ := h
  obtain ⟨b, c, e1, e2, e3⟩ := kinds_int h1 h2
  exact ⟨.type T, b, c, h3, kit_ty e1, kit_ty e2, e3⟩
section
variable {K : PySem.W.Frag} {mg : Str → Option Value} {C fI : Addr}
theorem RatC.kit (R : RatC K mg C fI) {T : String} (h : (fastBuiltinMro T).isSome = true) : PySem.W.kitOne K (.type T) (.ref C) = some false := by
  obtain ⟨cd, h1, _⟩ := R.t1.mr
  unfold PySem.W.kitOne
  rw [if_neg (by simp)]
  show (if ((PySem.W.clsIn K C).isSome && PySem.W.typeIn K (.ref C) == some (.type "type")) = true then PySem.W.subIn K (.type T) (.ref C) else none) = some false
  rw [if_pos (by rw [h1, R.ty]; rfl)]
  exact PySem.OwnB.sub_type h
theorem kit_me : PySem.W.kitOne K (.ref C) (.ref C) = some true := by
  unfold PySem.W.kitOne
  rw [if_pos (by simp)]
end
theorem low_one (t : Int) : low t 1 = (t, 1) := by
  have e : shr t 1 = 1 := by
    unfold shr
    rw [if_neg (by decide)]
    simp
  unfold low
  rw [e]
  simp
abbrev sLooks : Stmt := top 16
abbrev sAs : Stmt := top 22
abbrev sOpd : Stmt := top 23
def spLooks (K : PySem.W.Frag) : Sp := fun vs H Q _ => ∃ (v : V) (z : Str) (T : String), vs = [v, .str z] ∧ T ∈ kinds ∧ TyX K H v (.type T) ∧ NoDct H v ∧ Q (.bl false) H
/-- the class Mark -/
structure MarkC (K : PySem.W.Frag) (mg : Str → Option Value) (CM : Addr) : Prop where
  g : mg "Mark" = some (.ref CM)
  ga : mg "getattr" = none
  t1 : Top1 K CM
  ty : PySem.W.typeIn K (.ref CM) = some (.type "type")
/-- a Ratio, an integer that stands for one, or a thing of another kind -/
inductive Stands (K : PySem.W.Frag) (C cB : Addr) (H : Hp) (E : XK) (v : V) (old : Addr → Int × Int → Prop) (new : Int → Prop) : Prop where
  | rat (a dx : Addr) (q : Int × Int) (hv : v = .ref a) (e : H a = some (K03.rat C dx q)) (k : old a q) : Stands K C cB H E v old new
  | int (t : Int) (hv : v = .int t) (k : new t) : Stands K C cB H E v old new
  | odd (o : Odd K H v) (k : Bad cB v H E) : Stands K C cB H E v old new
def spAs (K : PySem.W.Frag) (C cB : Addr) : Sp := fun vs H Q E => ∃ v, vs = [v] ∧ Stands K C cB H E v (fun _ _ => Q v H) fun t => NewR C H Q (t, 1)
theorem MarkC.kit {K : PySem.W.Frag} {mg : Str → Option Value} {CM : Addr} (R : MarkC K mg CM) {T : String} (h : (fastBuiltinMro T).isSome = true) : PySem.W.kitOne K (.type T) (.ref CM) = some false := by
  obtain ⟨cd, h1, _⟩ := R.t1.mr
  unfold PySem.W.kitOne
  rw [if_neg (by simp)]
  show (if ((PySem.W.clsIn K CM).isSome && PySem.W.typeIn K (.ref CM) == some (.type "type")) = true then PySem.W.subIn K (.type T) (.ref CM) else none) = some false
  rw [if_pos (by rw [h1, R.ty]; rfl)]
  exact PySem.OwnB.sub_type h
section
variable {P : Program} {w : World} {K : PySem.W.Frag} {mg : Str → Option Value} {base : Heap} {cB cN C fI TT : Addr}
theorem scLooks : FnScope ["value", "below", "mark"] ["value", "below"] (defScope sLooks) := ⟨rfl, rfl, rfl, by decide +kernel, rfl, by decide +kernel, by decide +kernel⟩
theorem ok_looks {f CM : Addr} {fd : FuncData} (F : Fun K "looks_after" "looks_after" sLooks f fd) (M : MarkC K mg CM) (B : TxtR mg) : FnOk P w K mg base CX0 1 f fd ["value", "below"] (spLooks K) := by
  refine F.ok scLooks (fun vs H Q E h => ?_) (fun cdv A outer s H vs Q E hr h => ?_)
  · obtain ⟨v, z, T, rfl, _⟩ := h
    rfl
  · obtain ⟨v, z, T, rfl, hT, ty, nd, q⟩ := h
    have n2 := scLooks.nd
    refine ⟨_, pss_cons (ps_set (i := 2) n2 rfl (Or.inl rfl) (pe_callB (call_getM rfl) (by rfl) M.ga (by decide +kernel) (pa_cons (pv 0) (pa_cons pe_str (pa_cons pe_non pa_nil)))))
      (pss_one (ps_ret (pe_and (pe_callB call_isi (by rfl) B.isi (by decide +kernel) (pa_cons (pv 2) (pa_cons (pe_glob (v := .ref CM) (by rfl) M.g rfl) pa_nil)))
        (pe_one (pe_cmpR op_in_seq (pv 1) (pe_fld (pv 2) rfl) (by rfl)))))), ?_⟩
    refine ⟨_, rfl, v, .non, T, rfl, hT, ty, nd, ?_⟩
    exact ⟨_, rfl, _, .ref CM, .type "NoneType", .ref CM, false, rfl, .own CM, .base .non, M.kit (by decide +kernel), false, rfl, q⟩
theorem scAs : FnScope ["value"] ["value"] (defScope sAs) := ⟨rfl, rfl, rfl, by decide +kernel, rfl, by decide +kernel, by decide +kernel⟩
theorem ok_as {f : Addr} {fd : FuncData} (F : Fun K "as_ratio" "as_ratio" sAs f fd) (R : Rat P w K mg base cB cN C fI) (B : TxtR mg) : FnOk P w K mg base (L2.CX P w) 6 f fd ["value"] (spAs K C cB) := by
  refine F.okX scAs (fun vs H Q E h => ?_) (fun cdv A outer s H vs Q E hr h => ?_)
  · obtain ⟨v, rfl, _⟩ := h
    rfl
  · obtain ⟨v, rfl, k⟩ := h
    refine ⟨_, pss_one (ps_ret (pe_ifExp (pt_val (pe_callB call_isi (by rfl) B.isi (by decide +kernel) (pa_cons (pv 0) (pa_cons (pe_glob (v := .ref C) (by rfl) R.cls.g rfl) pa_nil)))) (pv 0) (pe_rat1 (E := E) R hr (passK (takes_of rfl rfl rfl rfl)) (pv 0)))), ?_⟩
    cases k with
    | rat a dx q hv e k =>
      subst hv
      exact ⟨_, rfl, _, .ref C, .ref C, .ref C, true, rfl, .own C, R.tyx H a dx _ e, kit_me, true, rfl, _, rfl, k⟩
    | int t hv k =>
      subst hv
      refine ⟨_, rfl, _, .ref C, .type "int", .ref C, false, rfl, .own C, .base (.int t), R.cls.kit (by decide +kernel), false, rfl, _, rfl, ?_⟩
      exact .good t 1 rfl rfl (by decide) (by decide +kernel) (by rw [low_one]; exact k)
    | odd o k =>
      obtain ⟨T, h1, h2, h3, h4⟩ := o
      refine ⟨_, rfl, _, .ref C, .type T, .ref C, false, rfl, .own C, h3, R.cls.kit (kinds_blt h1), false, rfl, _, rfl, ?_⟩
      exact .top (Odd.no ⟨T, h1, h2, h3, h4⟩) k
/-- what reads an x, put through as_ratio when it is no Ratio -/
def tAsR (K : PySem.W.Frag) (C cB : Addr) (E : XK) (i : Nat) : TE := fun σ H Q => ∃ v, σ[i]? = some (some v) ∧ spAs K C cB [v] H Q E
section
variable {X : Cx} {E : XK}
/-- x if isinstance(x, Ratio) else e, where e is told of what is no Ratio -/
theorem pe_ifR (R : Rat X.prog X.w X.K X.mg X.base cB cN C fI) {i : Nat} {x : Str} {e : Expr} {te : TE} {p1 p2 p3 p4 p5 p6 : Pos} (hv : ∀ p, PE X (.Name x p) (tVar i)) (he : PE X e te)
    (hi : ∀ σ H Q (t : Int), σ[i]? = some (some (.int t)) → NewR C H Q (t, 1) → te σ H Q) (ho : ∀ σ H Q v, σ[i]? = some (some v) → Odd X.K H v → Bad cB v H E → te σ H Q) (gi : Gl X "isinstance" := by rfl) (hg : Gl X "Ratio" := by rfl) :
    PE X (.IfExp (.Call (.Name "isinstance" p1) [.Name x p2, .Name "Ratio" p3] [] p4) (.Name x p5) e p6) (tAsR X.K C cB E i) := by
  have h := pe_ifExp (X := X) (pos := p6) (pt_val (pe_callB (p := p1) (pos := p4) call_isi gi R.txt.isi (by decide +kernel) (pa_cons (hv p2) (pa_cons (pe_glob (pos := p3) (v := .ref C) hg R.cls.g rfl) pa_nil)))) (hv p5) he
  refine ⟨fun pins s σ H Q I ⟨v, ev, w, e1, k⟩ => h.run pins s σ H Q I ?_⟩
  cases e1
  cases k with
  | rat a dx q hv e k =>
    subst hv
    exact ⟨_, ev, _, .ref C, .ref C, .ref C, true, rfl, .own C, R.tyx H a dx _ e, kit_me, true, rfl, _, ev, k⟩
  | int t hv k =>
    subst hv
    exact ⟨_, ev, _, .ref C, .type "int", .ref C, false, rfl, .own C, .base (.int t), R.cls.kit (by decide +kernel), false, rfl, hi _ _ _ _ ev k⟩
  | odd o k =>
    obtain ⟨T, h1, h2, h3, h4⟩ := o
    exact ⟨_, ev, _, .ref C, .type T, .ref C, false, rfl, .own C, h3, R.cls.kit (kinds_blt h1), false, rfl, ho _ _ _ _ ev ⟨T, h1, h2, h3, h4⟩ k⟩
/-- x if isinstance(x, Ratio) else Ratio(x) -/
theorem pe_asR (R : Rat X.prog X.w X.K X.mg X.base cB cN C fI) (hr : Room 5 X.A) (hx : Passes (L2.CX X.prog X.w) X E) {i : Nat} {x : Str} {p1 p2 p3 p4 p5 p6 p7 p8 p9 : Pos} (hv : ∀ p, PE X (.Name x p) (tVar i)) (gi : Gl X "isinstance" := by rfl) (hg : Gl X "Ratio" := by rfl) :
    PE X (.IfExp (.Call (.Name "isinstance" p1) [.Name x p2, .Name "Ratio" p3] [] p4) (.Name x p5) (.Call (.Name "Ratio" p7) [.Name x p8] [] p9) p6) (tAsR X.K C cB E i) :=
  pe_ifR R hv (pe_rat1 (E := E) R hr hx (hv p8) hg rfl) (fun σ H Q t ev k => ⟨_, ev, .good t 1 rfl rfl (by decide) (by decide +kernel) (by rw [low_one]; exact k)⟩) (fun σ H Q v ev o k => ⟨_, ev, .top o.no k⟩) gi hg
theorem pe_asRK (K : PySem.W.Frag) (R : Rat X.prog X.w K X.mg X.base cB cN C fI) (hr : Room 5 X.A) (hx : Passes (L2.CX X.prog X.w) X E) {i : Nat} {x : Str} {p1 p2 p3 p4 p5 p6 p7 p8 p9 : Pos} (hv : ∀ p, PE X (.Name x p) (tVar i)) (hK : X.K = K := by rfl) (gi : Gl X "isinstance" := by rfl) (hg : Gl X "Ratio" := by rfl) :
    PE X (.IfExp (.Call (.Name "isinstance" p1) [.Name x p2, .Name "Ratio" p3] [] p4) (.Name x p5) (.Call (.Name "Ratio" p7) [.Name x p8] [] p9) p6) (tAsR K C cB E i) := by
  subst hK
  exact pe_asR R hr hx hv gi hg
end
theorem scOpd : FnScope ["other"] ["other"] (defScope sOpd) := ⟨rfl, rfl, rfl, by decide +kernel, rfl, by decide +kernel, by decide +kernel⟩
/-- operand of what is no Ratio -/
def spOpd (K : PySem.W.Frag) (C cB : Addr) : Sp := fun vs H Q E => ∃ v, vs = [v] ∧ ((∃ t, v = .int t ∧ NewR C H Q (t, 1)) ∨ (Odd K H v ∧ Bad cB v H E))
theorem ok_opd {f fc fa : Addr} {fd fdc fda : FuncData} (F : Fun K "operand" "operand" sOpd f fd) (R : Rat P w K mg base cB cN C fI) (B : TxtR mg) (Gc : FnOk P w K mg base CX0 1 fc fdc ["value", "below"] (spLooks K)) (gc : mg "looks_after" = some (.ref fc)) (kc : PySem.W.keepIn K (.ref fc) = true) (bc : Binds K fdc ["value", "below"] [])
    (Ga : FnOk P w K mg base (L2.CX P w) 6 fa fda ["value"] (spAs K C cB)) (ga : mg "as_ratio" = some (.ref fa)) (ka : PySem.W.keepIn K (.ref fa) = true) (ba : Binds K fda ["value"] []) : FnOk P w K mg base (L2.CX P w) 7 f fd ["other"] (spOpd K C cB) := by
  refine F.okX scOpd (fun vs H Q E h => ?_) (fun cdv A outer s H vs Q E hr h => ?_)
  · obtain ⟨v, rfl, _⟩ := h
    rfl
  · obtain ⟨v, rfl, k⟩ := h
    have hr1 : Room 1 _ := hr.mono (by decide)
    refine ⟨_, pss_cons (ps_if (pt_val (pe_call Gc hr1 (by rfl) gc kc bc .nil pass0 (pa_cons (pv 0) (pa_cons pe_str pa_nil)))) (pss_one (ps_ret pe_non)) pss_nil)
      (pss_one (ps_ret (pe_call (E := E) Ga hr (by rfl) ga ka ba .nil (passK (takes_of rfl rfl rfl rfl)) (pa_cons (pv 0) pa_nil)))), ?_⟩
    rcases k with ⟨t, rfl, k⟩ | ⟨⟨T, h1, h2, h3, h4⟩, k⟩
    · refine ⟨_, rfl, _, _, "int", rfl, by decide +kernel, .base (.int t), (fun _ z => nomatch z), false, rfl, ?_⟩
      exact ⟨_, rfl, _, rfl, .int t rfl k⟩
    · refine ⟨_, rfl, _, _, T, rfl, h1, h3, h4, false, rfl, ?_⟩
      exact ⟨_, rfl, _, rfl, .odd ⟨T, h1, h2, h3, h4⟩ k⟩
/-- x if isinstance(x, Ratio) else operand(x) -/
theorem pe_opR {X : Cx} {E : XK} {f : Addr} {fd : FuncData} (R : Rat X.prog X.w X.K X.mg X.base cB cN C fI) (G : FnOk X.prog X.w X.K X.mg X.base (L2.CX X.prog X.w) 7 f fd ["other"] (spOpd X.K C cB)) (g : X.mg "operand" = some (.ref f)) (kp : PySem.W.keepIn X.K (.ref f) = true) (bo : Binds X.K fd ["other"] []) (hr : Room 7 X.A) (hx : Passes (L2.CX X.prog X.w) X E) {i : Nat} {x : Str} {p1 p2 p3 p4 p5 p6 p7 p8 p9 : Pos}
    (hv : ∀ p, PE X (.Name x p) (tVar i)) (gi : Gl X "isinstance" := by rfl) (hg : Gl X "Ratio" := by rfl) (ho : Gl X "operand" := by rfl) :
    PE X (.IfExp (.Call (.Name "isinstance" p1) [.Name x p2, .Name "Ratio" p3] [] p4) (.Name x p5) (.Call (.Name "operand" p7) [.Name x p8] [] p9) p6) (tAsR X.K C cB E i) :=
  pe_ifR R hv (pe_call (E := E) G hr ho g kp bo .nil hx (pa_cons (hv p8) pa_nil)) (fun σ H Q t ev k => ⟨_, ev, _, rfl, .inl ⟨t, rfl, k⟩⟩) (fun σ H Q v ev o k => ⟨_, ev, _, rfl, .inr ⟨o, k⟩⟩) gi hg
end
end K03
end
section
set_option maxHeartbeats 4000000
namespace L3
open PySem PySem.Spec PyProof.Rows L2 LamX NdefX
section
variable {X : Cx} {pins : List (Addr × Obj)} {σ : L2.St} {H : Hp} {s : Shared}
end
end L3
end
section
set_option maxHeartbeats 4000000
namespace L3
open PySem PySem.Spec PyProof.Rows L2 LamX NdefX
section
variable {X : Cx} {CX : CXT} {k : Nat} {f : Addr} {R : List Env → Shared → Hp → Prop} {sp : Sp} {E : L2.St → XK} {x : Str} {p pos : Pos} {e : Expr} {es : List Expr} {t : TA}
end
end L3
end
section
set_option maxHeartbeats 4000000
namespace L3
open PySem PySem.Spec PyProof.Rows L2 LamX NdefX
end L3
end
section
set_option maxHeartbeats 4000000
namespace L3
open PySem PySem.Spec PyProof.Rows L2 LamX NdefX
end L3
end
section
set_option maxHeartbeats 4000000
namespace L3
open PySem PySem.Spec PyProof.Rows L2 LamX NdefX
section
variable {X : Cx} {elt tg iter : Expr} {ifs : List Expr} {scope : Scope} {own : List (Str × Nat)} {wi : TI} {g : TG} {tt : TT} {te : L2.St → TE}
end
end L3
end
section
set_option maxHeartbeats 4000000
namespace L3
open PySem PySem.Spec PyProof.Rows L2 LamX NdefX
/-- a context with an air of one's own -/
abbrev airOf (Y : Cx) (xe : Value → Shared → Prop) : Cx := { Y with xe := xe }
theorem ok_air {Y : Cx} {xe : Value → Shared → Prop} (h : Y.Ok) : (airOf Y xe).Ok := ⟨h.mod, h.kind, h.glob, h.blt, h.above, h.inj, h.has, h.cab, h.hd, h.frames, h.stk, h.exf, h.bs, h.bsz, h.noex, h.exfs, h.funs, h.frf⟩
theorem inv_air {Y : Cx} {xe : Value → Shared → Prop} {pins : List (Addr × Obj)} {σ : L2.St} {H : Hp} {s : Shared} (I : Inv Y pins σ H s) : Inv (airOf Y xe) pins σ H s := ⟨ok_air I.ok, I.os, I.bare, I.base, I.loc, I.cell, I.free, I.freeC, I.pin, I.hok, I.len⟩
/-- a frame notes what is in the air -/
theorem sky_note {M : Model} {A : Around} {EE : Value → Shared → Prop} {env : Env} {outer : List Env} {L a : Addr} {Z : Obj → Prop} {B : Heap} {s : Shared} {Q : Unit → Shared → Prop} (hZ : HandSPX.Steady Z) (hfr : A.frames = some (env :: outer)) (hf : env.frame = some L)
    (x : HandSPX.FlyingZ B (env :: outer) a Z s.heap) (hQ : ∀ h', HandSPX.HeldZ B (env :: outer) a Z L h' → s.heap.UpToSlots h' → Q () { s with heap := h' }) : wpAny M A (noteFrame (.ref a) env) Q EE s := HandSPX.looks_onZ hZ hfr hf x hQ
theorem hide_none {B : Heap} {l : List Addr} {b : Addr} (h : B.get? b = none) : (PySem.W.hideAll B l).get? b = none := by
  cases q : (PySem.W.hideAll B l).get? b with
  | none => rfl
  | some o =>
    have z := PySem.W.of_hideAll l q
    rw [h] at z
    cases z
/-- a block's own object let go: the exception is held as before, over the ground without it -/
theorem held_less {B h h2 : Heap} {l : List Env} {a L C : Addr} {Z : Obj → Prop} {m m2 : Str → Option Value} (hh : HandSPX.HeldZ B l a Z L h) (hn : h.Ns C m) (sb : Heap.SameBut C h h2) (hn2 : h2.Ns C m2) : HandSPX.HeldZ (PySem.W.hideAll B [C]) l a Z L h2 := by
  obtain ⟨b1, b0, f1, oe, vs, T, oT, ts, he, hz, hd, h1, hnT, hTe, hT, hdT, h3⟩ := hh
  obtain ⟨oC, es, ep, hoC, hdC, _⟩ := hn
  have aC : a ≠ C := by
    intro z
    rw [z, hoC] at he
    cases he
    rw [hdC] at hd
    cases hd
  have TC : T ≠ C := by
    intro z
    rw [z, hoC] at hT
    cases hT
    rw [hdC] at hdT
    cases hdT
  refine ⟨?_, hide_none b0, ?_, oe, vs, T, oT, ts, (sb.2 a aC).trans he, hz, hd, h1, hide_none hnT, hTe, (sb.2 T TC).trans hT, hdT, h3⟩
  · intro b o e
    have ne : b ≠ C := by
      intro z
      rw [z, PySem.W.hideAll_none [C] (List.mem_singleton.mpr rfl)] at e
      cases e
    exact (sb.2 b ne).trans (b1 b o (PySem.W.of_hideAll _ e))
  · exact Heap.FunFrames.sameBut sb hn2 (funFrames_none f1 fun b hb => hide_none (f1.mem hb).1)
section
variable {X : Cx} {E : XK} {pins pins' : List (Addr × Obj)} {σ σ' : L2.St} {HC H' : Hp} {sC s1 s2 : Shared} {scope : Scope} {cl : List (Str × Addr)} {fp : List Addr} {xe : Value → Shared → Prop} {u : Value}
/-- what a call in the item lets out leaves the comprehension -/
theorem raise_out (hs : X.stack = X.env :: X.outer) (hf : X.env.frame = some X.env.locals) (tk : Takes X fun cls d _ H => E cls d H) (VC : Inv X pins σ HC sC) (freeC : ∀ b ∈ fp, FpOk X pins HC b)
    (J : Inv (airOf (X.blk sC HC scope (compEnvC scope cl sC.heap.objs.size X.env) fp) xe) pins' σ' H' s1) (c : CX X.prog X.w X.stack H' s1 E u s2) :
    notedBy (model X.prog X.w) X.A (compEnvC scope cl sC.heap.objs.size X.env) (CompFails (model X.prog X.w) X.A X.xe (compEnvC scope cl sC.heap.objs.size X.env)) u s2 := by
  have VX : Inv X pins σ H' s1 := VC.call' (ch := fp) J.os J.base J.hok J.bare fun b hb => ⟨(freeC b hb).2.2.2.1, (freeC b hb).2.1, (freeC b hb).2.2.2.2.1, (freeC b hb).2.2.2.2.2⟩
  have hC : H' sC.heap.objs.size = none := J.free
  obtain ⟨m, hn, _⟩ := J.loc
  have hn : s1.heap.Ns sC.heap.objs.size m := hn
  obtain ⟨f0, f1, f2, f3, f4, f5⟩ := VC.fpOk (H' := H') (Nat.le_refl _) hC
  obtain ⟨a, B, H2, cls, d, rfl, fl, hok, ub, na, os, ag, hE⟩ := c
  generalize eC : sC.heap.objs.size = C at hC hn f0 f1 f2 f3 f4 f5 J ⊢
  have notFr : C ∉ frs X.stack := by
    intro hm
    rcases List.mem_cons.mp (VX.stkSub C hm) with z | z
    · exact f1 z
    · exact f2 z
  obtain ⟨oC, es, ep, hoC, hdC, rC⟩ := hn
  have H2C : H2 C = none := ub.free C oC hoC hC
  have hn2 : s2.heap.Ns C m := ⟨oC, es, ep, fl.1 _ _ (ub.keep C oC hoC hC notFr), hdC, rC⟩
  have hfr : X.A.frames = some (X.env :: X.outer) := by rw [VX.ok.frames, hs]
  show wpAny _ _ (noteFrame (.ref a) (compEnvC scope cl C X.env)) _ _ s2
  rw [noteFrame_env (.ref a) (cenv := compEnvC scope cl C X.env) (env := X.env) rfl]
  refine sky_note Zc.steady hfr hf (by rw [hs] at fl; exact fl) ?_
  intro h1 held k1
  have hn3 := hn2.upToSlots k1
  refine ⟨m, hn3, ?_⟩
  intro h4 m4 hn4 sb
  have held4 := held_less held hn3 sb hn4
  obtain ⟨_, _, _, oe, vs, T, oT, ts, he, hz, hd, h1', r⟩ := id held4
  unfold PySem.passOn
  refine wpAny_bind (wpAny_field he hd h1' ?_)
  rw [if_neg (show ¬ ((Value.ref T == Value.none) = true) from by simp)]
  show wpAny _ _ (setFlight (.ref a) X.env.frame >>= fun _ => _) _ _ _
  rw [hf]
  refine wpAny_bind (HandSPX.setFlight_onZ held4 fun h5 held5 k5 => ?_)
  refine wpAny_throw ?_
  obtain ⟨G, g1, g2⟩ := restrict h5 fun b => ((PySem.W.hideAll B [C]).get? b).isSome || decide (b ∈ frs X.stack)
  have inG : ∀ b o, G.get? b = some o → h5.get? b = some o ∧ (((PySem.W.hideAll B [C]).get? b).isSome = true ∨ b ∈ frs X.stack) := by
    intro b o e
    cases q : (((PySem.W.hideAll B [C]).get? b).isSome || decide (b ∈ frs X.stack)) with
    | true =>
      rw [g1 b q] at e
      exact ⟨e, by simpa [Bool.or_eq_true] using q⟩
    | false =>
      rw [g2 b q] at e
      cases e
  have ofB : ∀ b o, b ≠ C → B.get? b = some o → G.get? b = some o := by
    intro b o ne e
    have e' := PySem.W.hideAll_get [C] e (by simpa using ne)
    rw [g1 b (by simp [e'])]
    exact held5.1 b o e'
  have ofF : ∀ b o, s1.heap.get? b = some o → b ∈ frs X.stack → ∃ sl, G.get? b = some { o with slots := sl } := by
    intro b o e hb
    obtain ⟨_, o', e', nofields⟩ := VX.stack.mem hb
    rw [e] at e'
    cases e'
    obtain ⟨sl, q⟩ := ub.slot b o e hb
    obtain ⟨sl2, q2⟩ := k1 b _ q nofields
    have ne : b ≠ C := fun z => notFr (z ▸ hb)
    obtain ⟨sl3, q3⟩ := k5 b { o with slots := sl2 } ((sb.2 b ne).trans q2) nofields
    exact ⟨sl3, by rw [g1 b (by simp [hb])]; exact q3⟩
  have IG : Inv X pins σ H2 { s1 with heap := G, gens := s2.gens, drawn := s2.drawn, toks := s2.toks } := by
    refine VX.call (ch := [C]) ⟨?_, fun b o e _ hb _ => ofF b o e hb, fun b o e n _ => ub.free b o e n, ?_, ub.tups, ub.frzs, ub.tbls⟩ (fun b v e => (hok b v e).stay (fun c w hc r => ofB c w ?_ r) (fun _ r => r) fun _ _ r => r) ag ?_
    · intro b o e n hb hx
      exact ofB b o (by simpa using hx) (ub.keep b o e n hb)
    · intro b o e hx
      by_cases hb : b ∈ frs X.stack
      · obtain ⟨sl, q⟩ := ofF b o e hb
        exact ⟨_, q⟩
      · obtain ⟨o', q⟩ := ub.there b o e hb
        exact ⟨o', ofB b o' (by simpa using hx) q⟩
    · intro z
      rcases hc with hc | hc
      · rw [← hc, z, H2C] at e
        cases e
      · rw [z, H2C] at hc
        cases hc
    · intro b hb
      cases (List.mem_singleton.mp hb)
      exact ⟨f3, f1, f4, f5⟩
  refine tk _ _ ⟨a, PySem.W.hideAll B [C], _, pins, σ, H2, cls, d, rfl, IG, ?_, Heap.UpToSlots.of_keeps fun b o e => (inG b o e).1, .inr (.inr (by rw [hs]; exact held5)), na, os, ag, hE⟩
  intro b o e hb
  obtain ⟨e', h⟩ := inG b o e
  rcases h with h | h
  · obtain ⟨o', q⟩ := Option.isSome_iff_exists.mp h
    have z := held5.1 b o' q
    rw [e'] at z
    cases z
    exact q
  · exact absurd h hb
end
section
variable {X : Cx} {elt tg iter : Expr} {ifs : List Expr} {scope : Scope} {own : List (Str × Nat)} {wi : TI} {g : TG} {tt : TT} {te : TE}
/-- the turns of a block whose item may raise -/
theorem turns_air {σ : L2.St} {sA sB : Shared} {HA : Hp} {Q : VK} {pos : Pos} {ce : Env} {fp : List Addr} {D it : Addr} {tn : Nat → Heap → Prop} {J : It} {W : Nat → Nat → Hp → Prop} {m0 : Nat} {R : Result → Shared → Prop} {Y : Cx}
    (eY : Y = airOf (X.blk sA HA scope ce fp) (notedBy (model X.prog X.w) X.A ce fun e s' => R (.error e) s')) (hc : X.calm = true) (T : Turn X.prog X.w X.K tg J fp it tn) (pg : PG Y tg g) (pt : PTs Y ifs tt) (pe : PE Y elt te) (start : Inv Y [] (wipe σ (own.map (·.2))) HA sB) (st : tn 0 sB.heap) (nf : ∀ b ∈ fp, HA b = none) (w0 : W 0 m0 HA)
    (turn : ∀ i m H, W i m H → (J.stop i H ∧ Q (.ref D) H) ∨ (J.go i H ∧ ∃ Nx : Hp → Prop, (∀ H', Nx H' → ∃ m', m' < m ∧ W (i + 1) m' H') ∧ ∀ x H', J.yld i H x H' → g x (wipe σ (own.map (·.2))) H' fun σ2 H2 => wipe σ2 (own.map (·.2)) = wipe σ (own.map (·.2)) ∧ tt σ2 H2 fun b H3 =>
      if b = true then te σ2 H3 fun y H4 => ∃ acc, H4 D = some (.lst acc) ∧ acc.length < sizeLine ∧ Nx (upd H4 D (.lst (acc ++ [y]))) else Nx H3))
    (fin : ∀ {σ' : L2.St} {s' : Shared} {H' : Hp}, Inv Y [] σ' H' s' → Q (.ref D) H' → R (.ok .next) s') :
    codeAny (model X.prog X.w) X.A (.compLoop (.ListComp elt [⟨tg, iter, ifs, 0⟩] scope pos) 0 (.ref it) (.ref D) ce) R sB := by
  subst eY
  generalize eY : airOf (X.blk sA HA scope ce fp) (notedBy (model X.prog X.w) X.A ce fun e s' => R (.error e) s') = Y at pg pt pe start fin
  have y1 : Y.prog = X.prog := by rw [← eY]
  have y2 : Y.w = X.w := by rw [← eY]
  have y3 : Y.K = X.K := by rw [← eY]
  have y4 : Y.calm = X.calm := by rw [← eY]
  have y5 : Y.A = X.A := by rw [← eY]
  have y6 : Y.env = ce := by rw [← eY]
  have y7 : Y.ex = fp := by rw [← eY]
  have y8 : Y.xe = notedBy (model X.prog X.w) X.A ce fun e s' => R (.error e) s' := by rw [← eY]
  have y9 : Y.pn = [] := by rw [← eY]
  have loose : ∀ {σ' : L2.St} {H' : Hp} {s' : Shared}, Inv Y [] σ' H' s' → (∀ b ∈ fp, H' b = none) → ∀ b ∈ fp, FpOk Y [] H' b := by
    intro σ' H' s' V none_ b hb
    have hb' : b ∈ Y.ex := by rw [y7]; exact hb
    exact ⟨none_ b hb, (V.ok.exf b hb').1, V.ok.exfs b hb', .inl hb', fun x c e => (V.ok.exf b hb').2 x c e, fun q hq => by rw [y9] at hq; simp at hq⟩
  refine compLoop_any (fun k sC => ∃ j HC, Inv Y [] (wipe σ (own.map (·.2))) HC sC ∧ tn j sC.heap ∧ (∀ b ∈ fp, HC b = none) ∧ W j k HC) ?_ m0 ⟨0, HA, start, st, nf, w0⟩
  intro k sC hC
  obtain ⟨j, HC, VC, tC, nC, wC⟩ := hC
  rw [← y8]
  rw [← y1, ← y2, ← y5, ← y6]
  rcases turn j k HC wC with ⟨ends, q⟩ | ⟨goes, Nx, next, step⟩
  · have td := T.done Y y1 y2 y3 (y4.trans hc) j [] sC _ HC (fun _ _ => False) VC (loose VC nC) tC ends
    rw [← y1, ← y2] at td
    refine thnF td ?_
    rintro r sD ⟨rfl, VD⟩
    exact fin VD q
  · have ti := T.item Y y1 y2 y3 (y4.trans hc) j [] sC _ HC (fun _ _ => False) VC (loose VC nC) tC goes
    rw [← y1, ← y2] at ti
    refine thnF ti ?_
    rintro r sD ⟨u, rfl, told⟩
    refine thnF told ?_
    rintro - sE ⟨x, HE, VE, rE, yE, tE, nE⟩
    refine thn (pg.run _ sE _ HE x u _ (VE.pinned (loose VE nE) (T.obj _ _ tE)) rE (step x HE yE)) ?_
    rintro - sF ⟨σF, HF, VF, wF, qF⟩
    refine thn (pt.run _ sF σF HF _ VF qF) ?_
    rintro ok sG ⟨HG, VG, qG⟩
    have back_ : ∀ {sZ : Shared} {HZ : Hp}, Inv Y ([] ++ pinsAt fp sE.heap) σF HZ sZ → Nx HZ → ∃ k', k' < k ∧ ∃ j HC, Inv Y [] (wipe σ (own.map (·.2))) HC sZ ∧ tn j sZ.heap ∧ (∀ b ∈ fp, HC b = none) ∧ W j k' HC := by
      intro sZ HZ VZ nx
      obtain ⟨k', less, wZ⟩ := next HZ nx
      have held_ : ∀ b ∈ fp, ∀ o, sE.heap.get? b = some o → sZ.heap.get? b = some o ∧ HZ b = none := by
        intro b hb o e
        have z := VZ.pin (b, o) (List.mem_append_right _ (List.mem_append_right _ (mem_pinsAt hb e)))
        exact ⟨z.1, z.2.1⟩
      refine ⟨k', less, j + 1, HZ, (VZ.unpinned (pins := [])).weak (by rw [← wF, wipe_length]) (fun i v e => ?_), T.keep _ _ _ tE fun b hb o e => (held_ b hb o e).1, fun b hb => ?_, wZ⟩
      · rw [← wF] at e
        exact (wipe_some e).1
      · obtain ⟨o, e, _⟩ := T.obj _ _ tE b hb
        exact (held_ b hb o e).2
    cases ok
    · simp only [Bool.false_eq_true, if_false] at qG ⊢
      exact back_ VG qG
    · simp only [if_true] at qG ⊢
      refine thn (pe.run _ sG σF HG _ VG qG) ?_
      rintro z sH ⟨yv, HH, VH, rH, acc, eD, few, nx⟩
      exact app_ok (X := Y) VH eD few rH fun sI VI => back_ VI nx
/-- a list comprehension whose item may raise what E tells: it leaves the def, nothing of the block is seen -/
theorem pe_lcE {E : XK} {pos : Pos} (hs : X.stack = X.env :: X.outer) (hf : X.env.frame = some X.env.locals) (tk : Takes X fun cls d _ H => E cls d H) (hc : X.calm = true) (hN : X.N.Nodup) (hi : PI X tg iter wi) (ok : BlkOk X.N X.env.scope scope own)
    (hg : ∀ (s : Shared) (H : Hp) (C : Addr) (cl : List (Str × Addr)) (fp : List Addr) (xe : Value → Shared → Prop), PG (airOf (X.blk s H scope (compEnvC scope cl C X.env) fp) xe) tg g)
    (ht : ∀ (s : Shared) (H : Hp) (C : Addr) (cl : List (Str × Addr)) (fp : List Addr) (xe : Value → Shared → Prop), PTs (airOf (X.blk s H scope (compEnvC scope cl C X.env) fp) xe) ifs tt)
    (he : ∀ (s : Shared) (H : Hp) (C : Addr) (cl : List (Str × Addr)) (fp : List Addr) (xe : Value → Shared → Prop), Passes (L2.CX X.prog X.w) (airOf (X.blk s H scope (compEnvC scope cl C X.env) fp) xe) E → PE (airOf (X.blk s H scope (compEnvC scope cl C X.env) fp) xe) elt te) (hset : ∀ x, foldedSetIterable iter X.env x = pure x := by intro _; rfl) :
    PE X (.ListComp elt [⟨tg, iter, ifs, 0⟩] scope pos) (tLc wi g tt te (own.map (·.2))) := by
  refine ⟨fun pins s σ H Q I told => ?_⟩
  have captured : ∀ y ∈ scope.names, y.2 = .free → ∃ c, X.env.cells.lookup y.1 = some c := by
    intro y hy e
    rcases ok.free y hy e with k | k
    · exact I.ok.has _ (.inl k)
    · exact I.ok.has _ (.inr k)
  rw [eval_ListComp]
  refine PySem.comprehension_at (use := none) rfl hset (closure_ok captured) ok.kind (fun y hy e => by rw [ok.uniq y hy, e]) (thn (hi.run pins s σ H _ I told) ?_)
  intro xv sA asked
  refine thn asked ?_
  intro itv sB gotten
  obtain ⟨it, fp, tn, J, HB, rfl, VB, T, tB, free_, q⟩ := gotten
  refine wpAny_newObj_type (newEnv_comp ?_) (by show 0 ≤ sizeLine; decide)
  -- the new list
  have newD : HB sB.heap.objs.size = none := VB.hok.fresh (Nat.le_refl _)
  obtain ⟨W, ⟨m0, w0⟩, turn⟩ := q sB.heap.objs.size newD
  have VC : Inv X pins σ (upd HB sB.heap.objs.size (.lst [])) { sB with heap := sB.heap.push { cls := .type "list", data := .seq ([] : List Value).toArray } } :=
    VB.laid (t' := sB.toks) (fun b o e => Heap.get?_push_of_some _ e) (Nat.le_refl _) ⟨Nat.zero_le _, [], 0, .nil, Heap.get?_push_size _ rfl⟩
  generalize eC : ({ sB with heap := sB.heap.push { cls := .type "list", data := .seq ([] : List Value).toArray } } : Shared) = sC at VC
  have hC : sC.heap = sB.heap.push { cls := .type "list", data := .seq ([] : List Value).toArray } := by rw [← eC]
  have young : ∀ b ∈ fp, b < sB.heap.objs.size := by
    intro b hb
    obtain ⟨o, e, _⟩ := T.obj _ _ tB b hb
    exact Heap.lt_size e
  have freeC : ∀ b ∈ fp, FpOk X pins (upd HB sB.heap.objs.size (.lst [])) b ∧ b < sC.heap.objs.size := by
    intro b hb
    have less := young b hb
    refine ⟨⟨?_, (free_ b hb).2⟩, by rw [hC, Heap.size_push]; exact Nat.lt_succ_of_lt less⟩
    rw [upd_ne (Nat.ne_of_lt less)]
    exact (free_ b hb).1
  have tC : tn 0 sC.heap := T.keep _ _ _ tB fun b _ o e => by rw [hC]; exact Heap.get?_push_of_some _ e
  generalize eD : sB.heap.objs.size = D at newD w0 VC freeC turn young
  generalize eH : upd HB D (.lst []) = HC at VC w0 freeC
  have start := block_start VC ok hN freeC
  have goal_ : codeAny (model X.prog X.w) X.A (.compStart (.ListComp elt [⟨tg, iter, ifs, 0⟩] scope pos) 0 (.ref it) (.ref D) (compEnvC scope (cellsFrom (sC.heap.objs.size + 1) scope.names (cloFrom X.env.cells scope.names [])) sC.heap.objs.size X.env))
      (compEnds (model X.prog X.w) X.A X.xe none (EP X pins σ Q) (.ref D) (compEnvC scope (cellsFrom (sC.heap.objs.size + 1) scope.names (cloFrom X.env.cells scope.names [])) sC.heap.objs.size X.env)) { sC with heap := pushCells (sC.heap.push { cls := .type "dict", data := .dict #[] }) scope.names } := by
    have tD : tn 0 (pushCells (sC.heap.push { cls := .type "dict", data := .dict #[] }) scope.names) := T.keep _ _ _ tC fun b _ o e => pushCells_keeps _ _ _ _ (Heap.get?_push_of_some _ e)
    have pass : ∀ xe', xe' = (notedBy (model X.prog X.w) X.A (compEnvC scope (cellsFrom (sC.heap.objs.size + 1) scope.names (cloFrom X.env.cells scope.names [])) sC.heap.objs.size X.env) (CompFails (model X.prog X.w) X.A X.xe (compEnvC scope (cellsFrom (sC.heap.objs.size + 1) scope.names (cloFrom X.env.cells scope.names [])) sC.heap.objs.size X.env))) → Passes (L2.CX X.prog X.w) (airOf (X.blk sC HC scope (compEnvC scope (cellsFrom (sC.heap.objs.size + 1) scope.names (cloFrom X.env.cells scope.names [])) sC.heap.objs.size X.env) fp) xe') E := by
      rintro xe' rfl pins' σ' H' s1 u s2 K c
      exact raise_out hs hf tk VC (fun b hb => (freeC b hb).1) K c
    have loop := turns_air (X := X) (iter := iter) (te := te) (own := own) (pos := pos) (sB := { sC with heap := pushCells (sC.heap.push { cls := .type "dict", data := .dict #[] }) scope.names }) (R := compEnds (model X.prog X.w) X.A X.xe none (EP X pins σ Q) (.ref D) (compEnvC scope (cellsFrom (sC.heap.objs.size + 1) scope.names (cloFrom X.env.cells scope.names [])) sC.heap.objs.size X.env)) rfl hc T
      (hg sC HC sC.heap.objs.size (cellsFrom (sC.heap.objs.size + 1) scope.names (cloFrom X.env.cells scope.names [])) fp _) (ht sC HC sC.heap.objs.size _ fp _) (he sC HC sC.heap.objs.size _ fp _ (pass _ rfl)) (inv_air start) tD (fun b hb => (freeC b hb).1.1) w0 turn ?_
    · exact codeAny_compStart_list loop (T.self X.A 0 _ _ _ tD loop)
    · intro σZ sZ HZ VZ qZ
      have VX : Inv X pins σ HZ sZ := VC.call' (ch := fp) VZ.os VZ.base VZ.hok VZ.bare fun b hb => ⟨(freeC b hb).1.2.2.2.1, (freeC b hb).1.2.1, (freeC b hb).1.2.2.2.2.1, (freeC b hb).1.2.2.2.2.2⟩
      have own_ : HZ sC.heap.objs.size = none := VZ.free
      obtain ⟨m, hn, _⟩ := VZ.loc
      obtain ⟨f0, f1, f2, f3, f4, f5⟩ := VC.fpOk (H' := HZ) (Nat.le_refl _) own_
      exact ⟨m, hn, fun h'' sb => ⟨.ref D, HZ, VX.turned (t' := sZ.toks) (fun b o hb e => (sb.2 b hb).trans e) f0 f1 f3 f4 f5, rfl, qZ⟩⟩
  subst eC eD
  exact goal_
end
end L3
end
section
set_option maxHeartbeats 4000000
namespace L3
open PySem PySem.Spec PyProof.Rows L2
/-- over a list or a tuple -/
theorem pi_or {X : Cx} {tg l : Expr} {w1 w2 : TI} (h1 : PI X tg l w1) (h2 : PI X tg l w2) : PI X tg l (fun σ H R => w1 σ H R ∨ w2 σ H R) :=
  ⟨fun pins s σ H R I h => h.elim (h1.run pins s σ H R I) (h2.run pins s σ H R I)⟩
theorem paired_at {α β : Type} {F : α → β → Prop} {l : List α} {m : List β} (p : Paired F l m) : ∀ {i : Nat} {a : α}, l[i]? = some a → ∃ b, m[i]? = some b ∧ F a b := by
  induction p with
  | nil => intro i a h; cases h
  | cons q _ ih =>
    intro i a h
    cases i with
    | zero => cases h; exact ⟨_, rfl, q⟩
    | succ j => exact ih h
theorem paired_len {α β : Type} {F : α → β → Prop} {l : List α} {m : List β} (p : Paired F l m) : l.length = m.length := Paired.length p
theorem same_none {H H' : Hp} {b : Addr} (s : Same H H') (h : H' b = none) : H b = none := by
  cases q : H b with
  | none => rfl
  | some o =>
    have z := s b o q
    rw [h] at z
    cases z
theorem same_rd {H H' : Hp} {a : Addr} {u : HO} (s : Same H H') (h : L2.Rd H a u) : L2.Rd H' a u := by
  rcases h with h | ⟨o, h⟩
  · exact .inl (s _ _ h)
  · exact .inr ⟨o, s _ _ h⟩
theorem same_tup {K : PySem.W.Frag} {H H' : Hp} {a : Addr} {xs : List V} (s : Same H H') (h : SqT K H a xs) : SqT K H' a xs := by
  rcases h with h | h
  · exact .inl (same_rd s h)
  · exact .inr h
theorem take_snoc {β : Type} {m : List β} {i : Nat} {b : β} (h : m[i]? = some b) : m.take (i + 1) = m.take i ++ [b] := by
  rw [List.take_succ, h]
  rfl
end L3
namespace K03
open PySem PySem.Spec PyProof.Rows L2 LamX NdefX L3
abbrev sIsList : Stmt := top 9
abbrev sNeedL : Stmt := top 13
abbrev sRList : Stmt := top 24
/-- whether a value is a list or a tuple -/
def IsLT (K : PySem.W.Frag) (H : Hp) (v : V) (b : Bool) : Prop := ∃ t, TyX K H v t ∧ PySem.W.kitAny K t [.type "list", .type "tuple"] = some b
theorem IsLT.same {K : PySem.W.Frag} {H H' : Hp} {v : V} {b : Bool} (h : IsLT K H v b) (s : Same H H') : IsLT K H' v b := by
  obtain ⟨t, h1, h2⟩ := h
  exact ⟨t, h1.same s, h2⟩
theorem kitLT {K : PySem.W.Frag} {T : String} {b1 b2 : Bool} (h1 : kitB T "list" = some b1) (h2 : kitB T "tuple" = some b2) : PySem.W.kitAny K (.type T) [.type "list", .type "tuple"] = some (b1 || b2) := by
  refine kitAny_cons (kit_ty h1) (fun e => ?_) fun e => by rw [e]; rfl
  subst e
  exact kitAny_cons (kit_ty h2) (fun e => by rw [e]; rfl) fun e => by rw [e]; rfl
/-- a value that is a list or a tuple of these -/
def SeqV (K : PySem.W.Frag) (H : Hp) (v : V) (xs : List V) : Prop := ∃ a, v = .ref a ∧ (SqL K H a xs ∨ SqT K H a xs)
theorem SeqV.isLT {K : PySem.W.Frag} {H : Hp} {v : V} {xs : List V} (h : SeqV K H v xs) : IsLT K H v true := by
  obtain ⟨a, rfl, h | h⟩ := h
  · refine ⟨.type "list", ?_, kitLT (b1 := true) (b2 := false) (by decide +kernel) (by decide +kernel)⟩
    rcases h with (h | ⟨o, h⟩) | ⟨o, its, n, h1, h2, _⟩
    · exact .base (.lst h)
    · exact .base (.frz h)
    · exact .kList h1 h2
  · refine ⟨.type "tuple", ?_, kitLT (b1 := false) (b2 := true) (by decide +kernel) (by decide +kernel)⟩
    rcases h with (h | ⟨o, h⟩) | ⟨o, its, n, h1, h2, _⟩
    · exact .base (.tup h)
    · exact .fTuple h
    · exact .kTuple h1 h2
theorem SeqV.same {K : PySem.W.Frag} {H H' : Hp} {v : V} {xs : List V} (h : SeqV K H v xs) (s : Same H H') : SeqV K H' v xs := by
  obtain ⟨a, e, h | h⟩ := h
  · exact ⟨a, e, .inl (s.seq h)⟩
  · exact ⟨a, e, .inr (same_tup s h)⟩
theorem Bad.mono {cB : Addr} {v : V} {H H' : Hp} {E : XK} (h : Bad cB v H E) (s : Same H H') : Bad cB v H' E := fun d H2 n s2 e => h d H2 (same_none s n) (s.trans s2) e
def spIsLT (K : PySem.W.Frag) : Sp := fun vs H Q _ => ∃ v b, vs = [v] ∧ IsLT K H v b ∧ ∀ H', Same H H' → Q (.bl b) H'
def spNeedL (K : PySem.W.Frag) (cB : Addr) : Sp := fun vs H Q E => ∃ v, vs = [v] ∧ ((IsLT K H v true ∧ ∀ H', Same H H' → Q v H') ∨ (IsLT K H v false ∧ Bad cB v H E))
/-- a Ratio | what stands for one: an int, a Ratio -/
def RV (C : Addr) (H : Hp) (v : V) (p : Int × Int) : Prop := ∃ a dx, v = .ref a ∧ H a = some (rat C dx p)
def Sh (C : Addr) (H : Hp) (v : V) (p : Int × Int) : Prop := (v = .int p.1 ∧ p.2 = 1) ∨ RV C H v p
theorem RV.same {C : Addr} {H H' : Hp} {v : V} {p : Int × Int} (h : RV C H v p) (s : Same H H') : RV C H' v p := by
  obtain ⟨a, dx, e, h⟩ := h
  exact ⟨a, dx, e, s _ _ h⟩
theorem Sh.same {C : Addr} {H H' : Hp} {v : V} {p : Int × Int} (h : Sh C H v p) (s : Same H H') : Sh C H' v p := h.elim .inl fun h => .inr (h.same s)
/-- a new list of Ratios -/
def NewRL (C : Addr) (H : Hp) (Q : VK) (ps : List (Int × Int)) : Prop := ∀ (l : Addr) (ws : List V) (H' : Hp), H l = none → Same H H' → H' l = some (.lst ws) → Paired (RV C H') ws ps → Q (.ref l) H'
def spRL (K : PySem.W.Frag) (C cB : Addr) : Sp := fun vs H Q E => ∃ v, vs = [v] ∧ ((IsLT K H v false ∧ Bad cB v H E) ∨
  (∃ xs ps, SeqV K H v xs ∧ xs.length ≤ sizeLine ∧ Paired (Sh C H) xs ps ∧ NewRL C H Q ps) ∨
  (∃ xs ps u rest, SeqV K H v (xs ++ u :: rest) ∧ xs.length ≤ sizeLine ∧ Paired (Sh C H) xs ps ∧ Odd K H u ∧ Bad cB u H E))
section
variable {P : Program} {w : World} {K : PySem.W.Frag} {mg : Str → Option Value} {base : Heap} {cB cN C fI : Addr}
theorem scIsList : FnScope ["value"] ["value"] (defScope sIsList) := ⟨rfl, rfl, rfl, by decide +kernel, rfl, by decide +kernel, by decide +kernel⟩
theorem ok_isLT {f : Addr} {fd : FuncData} (F : Fun K "is_list" "is_list" sIsList f fd) (B : TxtR mg) (bt : mg "tuple" = none) : FnOk P w K mg base CX0 1 f fd ["value"] (spIsLT K) := by
  refine F.ok scIsList (fun vs H Q E h => ?_) (fun cdv A outer s H vs Q E hr h => ?_)
  · obtain ⟨v, b, rfl, _⟩ := h
    rfl
  · obtain ⟨v, b, rfl, ⟨t, h1, h2⟩, k⟩ := h
    refine ⟨_, pss_one (ps_ret (pe_callB call_isiT (by rfl) B.isi (by decide +kernel) (pa_cons (pv 0) (pa_cons (pe_tup (pa_cons (pe_bltn (v := .ty "list") (u := .type "list") (by rfl) B.list (by decide +kernel) rfl) (pa_cons (pe_bltn (v := .ty "tuple") (u := .type "tuple") (by rfl) bt (by decide +kernel) rfl) pa_nil))) pa_nil)))), ?_⟩
    refine ⟨_, rfl, by show 2 ≤ sizeLine; decide, fun T nT => ?_⟩
    have z : Same H (upd H T (.tup [.ty "list", .ty "tuple"])) := Same.new (fun _ _ e => e) nT
    exact ⟨v, T, _, t, _, b, rfl, upd_same, .cons (.ty _) (.cons (.ty _) .nil), h1.same z, h2, k _ z⟩
theorem scNeedL : FnScope ["value"] ["value"] (defScope sNeedL) := ⟨rfl, rfl, rfl, by decide +kernel, rfl, by decide +kernel, by decide +kernel⟩
theorem ok_needL {f fi : Addr} {fd fdi : FuncData} (F : Fun K "need_list" "need_list" sNeedL f fd) (G : FnOk P w K mg base CX0 1 fi fdi ["value"] (spIsLT K)) (gi : mg "is_list" = some (.ref fi)) (kp : PySem.W.keepIn K (.ref fi) = true) (bi : Binds K fdi ["value"] []) (T : ErrR P w K mg base cB cN) :
    FnOk P w K mg base (L2.CX P w) 3 f fd ["value"] (spNeedL K cB) := by
  refine F.okX scNeedL (fun vs H Q E h => ?_) (fun cdv A outer s H vs Q E hr h => ?_)
  · obtain ⟨v, rfl, _⟩ := h
    rfl
  · obtain ⟨v, rfl, k⟩ := h
    have hr1 : Room 1 _ := hr.mono (by decide)
    refine ⟨_, pss_cons (ps_if (pt_not (pt_val (pe_call G hr1 (by rfl) gi kp bi .nil pass0 (pa_cons (pv 0) pa_nil)))) (pss_one (ps_raise rfl (takes_of rfl rfl rfl rfl) (pmk_retX rfl (pe_one1 T.B hr (pv 0))))) pss_nil) (pss_one (ps_ret (pv 0))), ?_⟩
    rcases k with ⟨h, q⟩ | ⟨h, q⟩
    · exact ⟨_, rfl, v, true, rfl, h, fun H' z => ⟨_, rfl, _, rfl, q H' z⟩⟩
    · refine ⟨_, rfl, v, false, rfl, h, fun H' z => ⟨_, rfl, _, rfl, ?_⟩⟩
      exact fun a dx H1 ha hd s e ed ne => ⟨a, _, dx, rfl, e, fr0_none (same_none z ha), raises_own T.B.Z.su T.tB, q dx _ (same_none z hd) (same_del (z.trans s) (same_none z ha)) (by rw [delH_ne ne]; exact ed)⟩
theorem scRList : FnScope ["values", "value"] ["values"] (defScope sRList) := ⟨rfl, rfl, rfl, by decide +kernel, rfl, by decide +kernel, by decide +kernel⟩
theorem ok_rList {f fn fa : Addr} {fd fdn fda : FuncData} (F : Fun K "ratio_list" "ratio_list" sRList f fd) (R : Rat P w K mg base cB cN C fI) (G : FnOk P w K mg base (L2.CX P w) 3 fn fdn ["value"] (spNeedL K cB)) (gn : mg "need_list" = some (.ref fn)) (kn : PySem.W.keepIn K (.ref fn) = true) (bn : Binds K fdn ["value"] [])
    (Ga : FnOk P w K mg base (L2.CX P w) 6 fa fda ["value"] (spAs K C cB)) (ga : mg "as_ratio" = some (.ref fa)) (ka : PySem.W.keepIn K (.ref fa) = true) (ba : Binds K fda ["value"] []) : FnOk P w K mg base (L2.CX P w) 7 f fd ["values"] (spRL K C cB) := by
  refine F.okX scRList (fun vs H Q E h => ?_) (fun cdv A outer s H vs Q E hr h => ?_)
  · obtain ⟨v, rfl, _⟩ := h
    rfl
  · obtain ⟨v, rfl, k⟩ := h
    have nd := scRList.nd
    have hr3 : Room 3 _ := hr.mono (by decide)
    have hr5 : Room 5 _ := hr.mono (by decide)
    refine ⟨_, pss_one (ps_ret (pe_lcE (E := E) (own := [("value", 1)]) (g := gName 1) (tt := tYes) rfl rfl (takes_of rfl rfl rfl rfl) rfl nd (pi_or (pi_list (pe_call G hr3 (by rfl) gn kn bn .nil (passK (takes_of rfl rfl rfl rfl)) (pa_cons (pv 0) pa_nil))) (pi_tup (pe_call G hr3 (by rfl) gn kn bn .nil (passK (takes_of rfl rfl rfl rfl)) (pa_cons (pv 0) pa_nil))))
      (blkOk_by (N := ["values", "value"]) (sc := defScope sRList) (by decide +kernel)) (fun _ _ _ _ _ _ => pg_name (i := 1) nd rfl (Or.inl rfl)) (fun _ _ _ _ _ _ => pts_nil) (fun _ _ _ _ _ _ hp => pe_asRK K R hr5 hp (fun _ => pv 1)))), ?_⟩
    -- one item that stands for a Ratio
    have item : ∀ (xs : List V) (ps : List (Int × Int)) (H0 : Hp) (D : Addr), xs.length ≤ sizeLine → Paired (Sh C H0) xs ps → H0 D = none → ∀ (i : Nat) (x : V) (H2 : Hp) (σ2 : L2.St), xs[i]? = some x → (Same H0 H2 ∧ ∃ ws, H2 D = some (.lst ws) ∧ Paired (RV C H2) ws (ps.take i)) →
        spAs K C cB [x] H2 (fun y H4 => ∃ acc, H4 D = some (.lst acc) ∧ acc.length < sizeLine ∧ (Same H0 (upd H4 D (.lst (acc ++ [y]))) ∧ ∃ ws, (upd H4 D (.lst (acc ++ [y]))) D = some (.lst ws) ∧ Paired (RV C (upd H4 D (.lst (acc ++ [y])))) ws (ps.take (i + 1)))) E := by
      intro xs ps H0 D few pr nD i x H2 σ2 hx p
      obtain ⟨s2, ws, hD, pw⟩ := p
      obtain ⟨b, hb, sh⟩ := paired_at pr hx
      have li : i < xs.length := (List.getElem?_eq_some_iff.mp hx).1
      have lw : ws.length = i := by
        rw [paired_len pw, List.length_take, ← paired_len pr]
        omega
      have tail : ∀ (y : V) (H4 : Hp), Same H2 H4 → RV C H4 y b → ∃ acc, H4 D = some (.lst acc) ∧ acc.length < sizeLine ∧ (Same H0 (upd H4 D (.lst (acc ++ [y]))) ∧ ∃ ws, (upd H4 D (.lst (acc ++ [y]))) D = some (.lst ws) ∧ Paired (RV C (upd H4 D (.lst (acc ++ [y])))) ws (ps.take (i + 1))) := by
        intro y H4 s4 ry
        have keep : ∀ v q, RV C H4 v q → RV C (upd H4 D (.lst (ws ++ [y]))) v q := by
          rintro v q ⟨a, dx, e, ha⟩
          refine ⟨a, dx, e, ?_⟩
          have ne : a ≠ D := fun z => by
            rw [z, s4 _ _ hD] at ha
            cases ha
          rw [upd_ne ne]
          exact ha
        refine ⟨ws, s4 _ _ hD, by omega, fun b o e => ?_, ws ++ [y], upd_same, ?_⟩
        · rw [upd_ne (ne_of_none e nD)]
          exact s4 _ _ (s2 _ _ e)
        · rw [take_snoc hb]
          exact (Paired.mapP pw fun v q h => keep v q (h.same s4)).snoc (keep y b ry)
      refine ⟨x, rfl, ?_⟩
      rcases sh with ⟨e, one⟩ | ⟨a, dx, e, ha⟩
      · refine .int b.1 e fun a dx H4 na s4 ea => tail _ _ s4 ⟨a, dx, rfl, ?_⟩
        rw [ea, ← one]
      · exact .rat a dx b e (s2 _ _ ha) (tail _ _ (fun _ _ z => z) ⟨a, dx, e, s2 _ _ ha⟩)
    rcases k with ⟨nl, q⟩ | ⟨xs, ps, ⟨a, rfl, sq⟩, few, pr, q⟩ | ⟨xs, ps, u, rest, ⟨a, rfl, sq⟩, few, pr, od, q⟩
    · exact .inl ⟨_, rfl, _, rfl, .inr ⟨nl, q⟩⟩
    · have isl : IsLT K H (.ref a) true := SeqV.isLT (xs := xs) ⟨a, rfl, sq⟩
      have fin : ∀ (H0 : Hp) (D : Addr), Same H H0 → H0 D = none → ∀ H5, (Same H0 H5 ∧ ∃ ws, H5 D = some (.lst ws) ∧ Paired (RV C H5) ws (ps.take xs.length)) → Q (.ref D) H5 := by
        rintro H0 D s0 nD H5 ⟨s5, ws, hD, pw⟩
        rw [paired_len pr, List.take_length] at pw
        exact q D ws H5 (same_none s0 nD) (s0.trans s5) hD pw
      rcases sq with sq | sq
      · refine .inl ⟨_, rfl, _, rfl, .inl ⟨isl, fun H0 s0 => ⟨a, rfl, ⟨xs, s0.seq sq⟩, fun D nD => lc_list (K := K) (a := a) (xs := xs) (fun i H2 => Same H0 H2 ∧ ∃ ws, H2 D = some (.lst ws) ∧ Paired (RV C H2) ws (ps.take i)) ⟨Same.new (fun _ _ e => e) nD, [], upd_same, .nil⟩ (fun i H2 _ p => p.1.seq (s0.seq sq)) ?_ (fin H0 D s0 nD)⟩⟩⟩
        exact fun i x H2 hx p => ⟨rfl, _, rfl, item xs ps H0 D few (Paired.mapP pr fun _ _ h => h.same s0) nD i x H2 [] hx p⟩
      · refine .inr ⟨_, rfl, _, rfl, .inl ⟨isl, fun H0 s0 => ⟨a, rfl, ⟨xs, same_tup s0 sq⟩, fun D nD => lc_tup (K := K) (a := a) (xs := xs) (fun i H2 => Same H0 H2 ∧ ∃ ws, H2 D = some (.lst ws) ∧ Paired (RV C H2) ws (ps.take i)) ⟨Same.new (fun _ _ e => e) nD, [], upd_same, .nil⟩ (fun i H2 _ p => same_tup p.1 (same_tup s0 sq)) ?_ (fin H0 D s0 nD)⟩⟩⟩
        exact fun i x H2 hx p => ⟨rfl, _, rfl, item xs ps H0 D few (Paired.mapP pr fun _ _ h => h.same s0) nD i x H2 [] hx p⟩
    · have isl : IsLT K H (.ref a) true := SeqV.isLT (xs := xs ++ u :: rest) ⟨a, rfl, sq⟩
      have step : ∀ (H0 : Hp) (D : Addr), Same H H0 → H0 D = none → ∀ i x H2, (xs ++ u :: rest)[i]? = some x → (i ≤ xs.length ∧ (Same H0 H2 ∧ ∃ ws, H2 D = some (.lst ws) ∧ Paired (RV C H2) ws (ps.take i))) →
          spAs K C cB [x] H2 (fun y H4 => ∃ acc, H4 D = some (.lst acc) ∧ acc.length < sizeLine ∧ (i + 1 ≤ xs.length ∧ (Same H0 (upd H4 D (.lst (acc ++ [y]))) ∧ ∃ ws, (upd H4 D (.lst (acc ++ [y]))) D = some (.lst ws) ∧ Paired (RV C (upd H4 D (.lst (acc ++ [y])))) ws (ps.take (i + 1))))) E := by
        rintro H0 D s0 nD i x H2 hx ⟨hi, p⟩
        by_cases lt : i < xs.length
        · rw [List.getElem?_append_left lt] at hx
          obtain ⟨x', e, st⟩ := item xs ps H0 D few (Paired.mapP pr fun _ _ h => h.same s0) nD i x H2 [] hx p
          cases e
          refine ⟨x, rfl, ?_⟩
          cases st with
          | rat a dx q hv e k =>
            obtain ⟨acc, k1, k2, k3⟩ := k
            exact .rat a dx q hv e ⟨acc, k1, k2, lt, k3⟩
          | int t hv k =>
            refine .int t hv fun a dx H' n s' e => ?_
            obtain ⟨acc, k1, k2, k3⟩ := k a dx H' n s' e
            exact ⟨acc, k1, k2, lt, k3⟩
          | odd o k => exact .odd o k
        · have e : i = xs.length := by omega
          subst e
          rw [List.getElem?_append_right (Nat.le_refl _), Nat.sub_self] at hx
          cases hx
          exact ⟨_, rfl, .odd (od.same (s0.trans p.1)) (q.mono (s0.trans p.1))⟩
      have fin : ∀ (H0 : Hp) (D : Addr) H5, ((xs ++ u :: rest).length ≤ xs.length ∧ (Same H0 H5 ∧ ∃ ws, H5 D = some (.lst ws) ∧ Paired (RV C H5) ws (ps.take (xs ++ u :: rest).length))) → Q (.ref D) H5 := fun H0 D H5 p => by
        have := p.1
        rw [List.length_append, List.length_cons] at this
        exact absurd this (by omega)
      rcases sq with sq | sq
      · refine .inl ⟨_, rfl, _, rfl, .inl ⟨isl, fun H0 s0 => ⟨a, rfl, ⟨_, s0.seq sq⟩, fun D nD => lc_list (K := K) (a := a) (xs := xs ++ u :: rest) (fun i H2 => i ≤ xs.length ∧ (Same H0 H2 ∧ ∃ ws, H2 D = some (.lst ws) ∧ Paired (RV C H2) ws (ps.take i))) ⟨Nat.zero_le _, Same.new (fun _ _ e => e) nD, [], upd_same, .nil⟩ (fun i H2 _ p => p.2.1.seq (s0.seq sq)) ?_ (fin H0 D)⟩⟩⟩
        exact fun i x H2 hx p => ⟨rfl, _, rfl, step H0 D s0 nD i x H2 hx p⟩
      · refine .inr ⟨_, rfl, _, rfl, .inl ⟨isl, fun H0 s0 => ⟨a, rfl, ⟨_, same_tup s0 sq⟩, fun D nD => lc_tup (K := K) (a := a) (xs := xs ++ u :: rest) (fun i H2 => i ≤ xs.length ∧ (Same H0 H2 ∧ ∃ ws, H2 D = some (.lst ws) ∧ Paired (RV C H2) ws (ps.take i))) ⟨Nat.zero_le _, Same.new (fun _ _ e => e) nD, [], upd_same, .nil⟩ (fun i H2 _ p => same_tup p.2.1 (same_tup s0 sq)) ?_ (fin H0 D)⟩⟩⟩
        exact fun i x H2 hx p => ⟨rfl, _, rfl, step H0 D s0 nD i x H2 hx p⟩
end
end K03
end
section
set_option maxHeartbeats 4000000
namespace L3
open PySem PySem.Spec PyProof.Rows L2
/-- the places that a slice names -/
def placesOf (n : Nat) (lo hi st : Option Int) : List Nat := sliceRange (sliceBounds lo hi st n).1 (sliceBounds lo hi st n).2.1 (sliceBounds lo hi st n).2.2
def pickG {α : Type} (xs : List α) (lo hi st : Option Int) : List α := (placesOf xs.length lo hi st).filterMap fun i => xs[i]?
theorem vals_at {xs : List V} {us : List Value} (r : Vals xs us) : ∀ i : Nat, (xs[i]? = none ∧ us[i]? = none) ∨ ∃ x u, xs[i]? = some x ∧ us[i]? = some u ∧ RelV x u := by
  induction r with
  | nil => exact fun i => .inl ⟨rfl, rfl⟩
  | cons q _ ih =>
    intro i
    cases i with
    | zero => exact .inr ⟨_, _, rfl, rfl, q⟩
    | succ j => exact ih j
theorem vals_among {xs : List V} {us : List Value} (r : Vals xs us) : ∀ l : List Nat, Vals (l.filterMap fun i => xs[i]?) (l.filterMap fun i => us[i]?)
  | [] => .nil
  | i :: l => by
    rcases vals_at r i with ⟨a, b⟩ | ⟨x, u, a, b, q⟩
    · rw [List.filterMap_cons, a, List.filterMap_cons, b]
      exact vals_among r l
    · rw [List.filterMap_cons, a, List.filterMap_cons, b]
      exact .cons q (vals_among r l)
theorem vals_pick {xs : List V} {us : List Value} (r : Vals xs us) (lo hi st : Option Int) : Vals (pickG xs lo hi st) (slicePick us.toArray lo hi st).toList := by
  have e : (slicePick us.toArray lo hi st).toList = (placesOf xs.length lo hi st).filterMap fun i => us[i]? := by
    unfold slicePick placesOf
    rw [List.size_toArray, ← r.length]
    simp
  rw [e]
  exact vals_among r _
section
variable {X : Cx} {e : Expr} {te : TE} {lo hi st : Option Expr} {tl tu ts : TO} {p3 pos : Pos}
/-- xs[lo:hi:step] of a list -/
def tPick (K : PySem.W.Frag) (te : TE) (tl tu ts : TO) : TE := fun σ H Q => te σ H fun x H1 => ∃ a, x = .ref a ∧ tl σ H1 fun l H2 => tu σ H2 fun u H3 => ts σ H3 fun k H4 => k ≠ some 0 ∧ ∃ xs, SqL K H4 a xs ∧ (pickG xs l u k).length ≤ sizeLine ∧ ∀ p, H4 p = none → Q (.ref p) (upd H4 p (.lst (pickG xs l u k)))
theorem pe_pick (he : PE X e te) (hl : PO X lo tl) (hu : PO X hi tu) (hs : PO X st ts) (htail : ∀ a T : Addr, subscripted (.Slice lo hi st p3) false (.ref a) (.ref T) = operate [.ref a, .ref T] (getItem (.ref a) (.ref T)) := by intro _ _; with_unfolding_all rfl) :
    PE X (.Subscript e (.Slice lo hi st p3) pos) (tPick X.K te tl tu ts) := by
  refine ⟨fun pins s σ H Q I told => ?_⟩
  refine Subscript_ (thn (he.run pins s σ H _ I told) ?_)
  rintro v sA ⟨x, HA, IA, rA, a, rfl, qA⟩
  cases (show v = Value.ref a from rA)
  refine wpAny_Slice (thn (hl.run pins sA σ HA _ IA qA) ?_)
  rintro vl sB ⟨l, HB, IB, pl, qB⟩
  refine thn (hu.run pins sB σ HB _ IB qB) ?_
  rintro vu sC ⟨u, HC, IC, pu, qC⟩
  refine thn (hs.run pins sC σ HC _ IC qC) ?_
  rintro vk sD ⟨k, HD, ID, pk, k0, xs, hx, few, q⟩
  have IE : Inv X pins σ HD { sD with heap := sD.heap.push { cls := .type "slice", data := .fields #[vl, vu, vk] } } := ID.kept (t' := sD.toks) fun b ob z => Heap.get?_push_of_some _ z
  obtain ⟨its, r, ht, hz⟩ := IE.list hx
  have same := r.length
  refine tail_any (ops := [Value.ref a, Value.ref sD.heap.objs.size]) ht.isList.typeIs PySem.slot_list_getitem.lookup ?_ (htail a _)
  refine wpAny_getItem_list_slice ht.isList (Heap.IsSliceOf.new _ vl vu vk) pl pu pk k0 ?_ (by rw [List.size_toArray]; omega)
  have picked := vals_pick r l u k
  refine ⟨.ref _, _, IE.laid (t' := sD.toks) (o := .lst (pickG xs l u k)) (fun b ob z => Heap.get?_push_of_some _ z) (Nat.le_refl _) ?_, rfl, q _ (IE.hok.fresh (Nat.le_refl _))⟩
  exact ⟨few, _, 0, picked, by
    rw [Array.toArray_toList]
    exact Heap.get?_push_size _ rfl⟩
end
/-! ### every m-th place from r on -/
theorem step_places {r m : Nat} (hm : 0 < m) (hr : r < m) : ∀ n : Nat, (List.range ((n + (m - 1) - r) / m)).map (fun k => r + m * k) = (List.range n).filter fun k => k % m == r := by
  intro n
  induction n with
  | zero =>
    have e : (0 + (m - 1) - r) / m = 0 := Nat.div_eq_of_lt (by omega)
    rw [e]
    rfl
  | succ n ih =>
    rw [List.range_succ, List.filter_append, ← ih]
    by_cases h : n % m = r
    · have e : (n + 1 + (m - 1) - r) / m = (n + (m - 1) - r) / m + 1 := by
        have d := Nat.div_add_mod n m
        have e1 : n + (m - 1) - r = m * (n / m) + (m - 1) := by omega
        have e2 : n + 1 + (m - 1) - r = m * (n / m + 1) := by rw [Nat.mul_add]; omega
        rw [e1, e2, Nat.mul_div_cancel_left _ hm, Nat.mul_add_div hm, Nat.div_eq_of_lt (by omega : m - 1 < m)]
      have e3 : r + m * ((n + (m - 1) - r) / m) = n := by
        have d := Nat.div_add_mod n m
        have e1 : n + (m - 1) - r = m * (n / m) + (m - 1) := by omega
        rw [e1, Nat.mul_add_div hm, Nat.div_eq_of_lt (by omega : m - 1 < m), Nat.add_zero]
        omega
      rw [e, List.range_succ, List.map_append, List.map_singleton, e3]
      simp [h]
    · have e : (n + 1 + (m - 1) - r) / m = (n + (m - 1) - r) / m := by
        have d := Nat.div_add_mod n m
        have l := Nat.mod_lt n hm
        by_cases lt : n % m < r
        · have e1 : n + (m - 1) - r = m * (n / m) + (n % m + (m - 1) - r) := by omega
          have e2 : n + 1 + (m - 1) - r = m * (n / m) + (n % m + 1 + (m - 1) - r) := by omega
          rw [e1, e2, Nat.mul_add_div hm, Nat.mul_add_div hm, Nat.div_eq_of_lt (by omega : n % m + (m - 1) - r < m), Nat.div_eq_of_lt (by omega : n % m + 1 + (m - 1) - r < m)]
        · have e1 : n + (m - 1) - r = m * (n / m + 1) + (n % m - 1 - r) := by rw [Nat.mul_add]; omega
          have e2 : n + 1 + (m - 1) - r = m * (n / m + 1) + (n % m - r) := by rw [Nat.mul_add]; omega
          rw [e1, e2, Nat.mul_add_div hm, Nat.mul_add_div hm, Nat.div_eq_of_lt (by omega : n % m - 1 - r < m), Nat.div_eq_of_lt (by omega : n % m - r < m)]
      rw [e]
      simp [h]
theorem places_step {r m : Nat} (hm : 0 < m) (hr : r < m) (n : Nat) : placesOf n (some (r : Int)) none (some (m : Int)) = (List.range n).filter fun k => k % m == r := by
  rw [← step_places hm hr]
  have mp : (m : Int) > 0 := by omega
  unfold placesOf
  have b : sliceBounds (some (r : Int)) none (some (m : Int)) n = (((min r n : Nat) : Int), (n : Int), (m : Int)) := by
    unfold sliceBounds
    simp only [Option.getD_some, if_pos mp, if_neg (show ¬ ((r : Int) < 0) by omega)]
    congr 1
    omega
  rw [b]
  unfold sliceRange
  dsimp only
  rw [if_pos mp]
  by_cases h : r < n
  · have e1 : min r n = r := by omega
    rw [e1, if_pos (by omega : (r : Int) < (n : Int))]
    have e2 : ((n : Int) - (r : Int) + (m : Int) - 1) / (m : Int) = (((n + (m - 1) - r) / m : Nat) : Int) := by
      rw [show (n : Int) - (r : Int) + (m : Int) - 1 = ((n + (m - 1) - r : Nat) : Int) by omega]
      rfl
    rw [e2, Int.toNat_natCast]
    apply List.map_congr_left
    intro k _
    have e3 : (r : Int) + (m : Int) * (k : Int) = ((r + m * k : Nat) : Int) := by simp
    rw [e3, Int.toNat_natCast]
  · have e1 : min r n = n := by omega
    rw [e1, if_neg (by omega : ¬ ((n : Int) < (n : Int)))]
    have e2 : (n + (m - 1) - r) / m = 0 := Nat.div_eq_of_lt (by omega)
    rw [e2]
    rfl
end L3
end
section
set_option maxHeartbeats 4000000
namespace K03
open PySem PySem.Spec PyProof.Rows L2 LamX NdefX L3
abbrev sIsW : Stmt := top 12
/-- no integer from lo to hi -/
def Off (K : PySem.W.Frag) (H : Hp) (v : V) (lo hi : Int) : Prop := NoInt K H v ∨ ∃ i : Int, v = .int i ∧ ¬ (lo ≤ i ∧ i ≤ hi)
def spIsW (K : PySem.W.Frag) : Sp := fun vs H Q _ => ∃ (v : V) (lo hi : Int), vs = [v, .int lo, .int hi] ∧ (((∃ i : Int, v = .int i ∧ lo ≤ i ∧ i ≤ hi) ∧ Q (.bl true) H) ∨ (Off K H v lo hi ∧ Q (.bl false) H))
/-- items that stand for these Ratios | the first thing that is wrong with items -/
def Given (K : PySem.W.Frag) (C : Addr) (H : Hp) (v : V) (ps : List (Int × Int)) : Prop := ∃ xs, SeqV K H v xs ∧ xs.length ≤ sizeLine ∧ Paired (Sh C H) xs ps
def Flawed (K : PySem.W.Frag) (C : Addr) (H : Hp) (v u : V) : Prop := (IsLT K H v false ∧ u = v) ∨ ∃ xs ps rest, SeqV K H v (xs ++ u :: rest) ∧ xs.length ≤ sizeLine ∧ Paired (Sh C H) xs ps ∧ Odd K H u
theorem spRL.good {K : PySem.W.Frag} {C cB : Addr} {H : Hp} {Q : VK} {E : XK} {v : V} {ps : List (Int × Int)} (g : Given K C H v ps) (q : NewRL C H Q ps) : spRL K C cB [v] H Q E := by
  obtain ⟨xs, h1, h2, h3⟩ := g
  exact ⟨v, rfl, .inr (.inl ⟨xs, ps, h1, h2, h3, q⟩)⟩
theorem spRL.flawed {K : PySem.W.Frag} {C cB : Addr} {H : Hp} {Q : VK} {E : XK} {v u : V} (g : Flawed K C H v u) (q : Bad cB u H E) : spRL K C cB [v] H Q E := by
  rcases g with ⟨h, rfl⟩ | ⟨xs, ps, rest, h1, h2, h3, h4⟩
  · exact ⟨_, rfl, .inl ⟨h, q⟩⟩
  · exact ⟨v, rfl, .inr (.inr ⟨xs, ps, u, rest, h1, h2, h3, h4, q⟩)⟩
/-- .. that is not D's own -/
def LaneN (C : Addr) (H : Hp) (D : Addr) (v : V) (ps : List (Int × Int)) : Prop := ∃ a xs, v = .ref a ∧ a ≠ D ∧ H a = some (.lst xs) ∧ Paired (RV C H) xs ps
/-- D's list grows: what stands beside it -/
theorem rv_grow {C D : Addr} {H : Hp} {rs ys : List V} (hD : H D = some (.lst rs)) {v : V} {q : Int × Int} (h : RV C H v q) : RV C (upd H D (.lst ys)) v q := by
  obtain ⟨b, dx, rfl, hb⟩ := h
  have bD : b ≠ D := fun z => by
    rw [z, hD] at hb
    cases hb
  exact ⟨b, dx, rfl, by rw [upd_ne bD]; exact hb⟩
theorem LaneN.grow {C D : Addr} {H : Hp} {rs ys : List V} (hD : H D = some (.lst rs)) {v : V} {ps : List (Int × Int)} (h : LaneN C H D v ps) : LaneN C (upd H D (.lst ys)) D v ps := by
  obtain ⟨a, xs, e, na, ha, p⟩ := h
  exact ⟨a, xs, e, na, by rw [upd_ne na]; exact ha, Paired.mapP p fun _ _ z => rv_grow hD z⟩
theorem LaneN.same {C D : Addr} {H H' : Hp} {v : V} {ps : List (Int × Int)} (h : LaneN C H D v ps) (s : Same H H') : LaneN C H' D v ps := by
  obtain ⟨a, xs, e, na, h, p⟩ := h
  exact ⟨a, xs, e, na, s _ _ h, Paired.mapP p fun _ _ z => z.same s⟩
theorem same_grow {D : Addr} {H H2 : Hp} {ys : List V} (nD : H D = none) (s : Same H H2) : Same H (upd H2 D (.lst ys)) := fun b o e => by
  rw [upd_ne (ne_of_none e nD)]
  exact s b o e
section
variable {P : Program} {w : World} {K : PySem.W.Frag} {mg : Str → Option Value} {base : Heap} {cB cN C fI : Addr} {tL tM : Tok}
theorem scIsW : FnScope ["value", "low", "high"] ["value", "low", "high"] (defScope sIsW) := ⟨rfl, rfl, rfl, by decide +kernel, rfl, by decide +kernel, by decide +kernel⟩
theorem ok_isW {f fi : Addr} {fd fdi : FuncData} (F : Fun K "is_within" "is_within" sIsW f fd) (G : FnOk P w K mg base CX0 1 fi fdi ["value"] (spIsInt K)) (gi : mg "is_integer" = some (.ref fi)) (kp : PySem.W.keepIn K (.ref fi) = true) (bi : Binds K fdi ["value"] []) :
    FnOk P w K mg base CX0 2 f fd ["value", "low", "high"] (spIsW K) := by
  refine F.ok scIsW (fun vs H Q E h => ?_) (fun cdv A outer s H vs Q E hr h => ?_)
  · obtain ⟨v, lo, hi, rfl, _⟩ := h
    rfl
  · obtain ⟨v, lo, hi, rfl, k⟩ := h
    refine ⟨_, pss_one (ps_ret (pe_and (pe_call G hr (by rfl) gi kp bi .nil pass0 (pa_cons (pv 0) pa_nil)) (pe_one (pe_chain op_le op_le (pv 1) (pv 0) (pv 2))))), ?_⟩
    rcases k with ⟨⟨i, rfl, h1, h2⟩, q⟩ | ⟨⟨t, b, c, ty, h1, h2, h3⟩ | ⟨i, rfl, no⟩, q⟩
    · refine ⟨_, rfl, _, rfl, .inl ⟨⟨i, rfl⟩, true, rfl, ?_⟩⟩
      refine ⟨_, rfl, _, rfl, lo, i, rfl, rfl, _, rfl, ?_⟩
      rw [decide_eq_true h1]
      refine ⟨_, rfl, i, hi, rfl, rfl, ?_⟩
      show Q (.bl (decide (i ≤ hi))) H
      rw [decide_eq_true h2]
      exact q
    · exact ⟨_, rfl, _, rfl, .inr ⟨⟨t, b, c, ty, h1, h2, h3⟩, false, rfl, q⟩⟩
    · refine ⟨_, rfl, _, rfl, .inl ⟨⟨i, rfl⟩, true, rfl, ?_⟩⟩
      refine ⟨_, rfl, _, rfl, lo, i, rfl, rfl, _, rfl, ?_⟩
      by_cases h1 : lo ≤ i
      · rw [decide_eq_true h1]
        refine ⟨_, rfl, i, hi, rfl, rfl, ?_⟩
        show Q (.bl (decide (i ≤ hi))) H
        rw [decide_eq_false (fun h2 => no ⟨h1, h2⟩)]
        exact q
      · rw [decide_eq_false h1]
        exact q
end
end K03
end
section
set_option maxHeartbeats 4000000
namespace L3
open PySem PySem.Spec PyProof.Rows L2
/-- the first for of two, over a list -/
theorem out_list {K : PySem.W.Frag} {a : Addr} {xs : List V} {g : TG} {vs : List Nat} {σ : L2.St} {Hs : Hp} {Qd : Hp → Prop} (body : L2.St → Hp → (Hp → Prop) → Prop) (Pv : Nat → Hp → Prop) (h0 : Pv 0 Hs) (hl : ∀ i H, i ≤ xs.length → Pv i H → SqL K H a xs)
    (hs : ∀ i x H, xs[i]? = some x → Pv i H → g x (wipe σ vs) H fun σ2 H2 => wipe σ2 vs = wipe σ vs ∧ body σ2 H2 (Pv (i + 1))) (hd : ∀ H, Pv xs.length H → Qd H) :
    ∃ W : Nat → Nat → Hp → Prop, (∃ m, W 0 m Hs) ∧ ∀ i m H, W i m H → ((Itl K a).stop i H ∧ Qd H) ∨ ((Itl K a).go i H ∧ ∃ Nx : Hp → Prop, (∀ H', Nx H' → ∃ m', m' < m ∧ W (i + 1) m' H') ∧ ∀ x H', (Itl K a).yld i H x H' → g x (wipe σ vs) H' fun σ2 H2 => wipe σ2 vs = wipe σ vs ∧ body σ2 H2 Nx) := by
  refine ⟨fun i m H => m = xs.length - i ∧ i ≤ xs.length ∧ Pv i H, ⟨xs.length, (Nat.sub_zero _).symm, Nat.zero_le _, h0⟩, ?_⟩
  rintro i m H ⟨rfl, le, p⟩
  have here := hl i H le p
  rcases Nat.lt_or_ge i xs.length with lt | ge
  · refine .inr ⟨⟨xs, xs[i], here, List.getElem?_eq_getElem lt⟩, Pv (i + 1), fun H' p' => ⟨xs.length - (i + 1), by omega, rfl, lt, p'⟩, ?_⟩
    rintro x H' ⟨rfl, told⟩
    exact hs i x _ (told xs here) p
  · obtain rfl : i = xs.length := by omega
    exact .inl ⟨⟨xs, here, Nat.le_refl _⟩, hd H p⟩
theorem yes_if {σ : L2.St} {H : Hp} {a b : Hp → Prop} (h : a H) : tYes σ H (fun c H3 => if c = true then a H3 else b H3) := by
  show (if true = true then a H else b H)
  rw [if_pos rfl]
  exact h
end L3
namespace K03
open PySem PySem.Spec PyProof.Rows L2 LamX NdefX L3
section
variable {X : Cx} {cB cN C fI : Addr} {e e2 : Expr} {te te2 : TE} {p pos : Pos} {E : XK}
theorem pe_rat1K (K : PySem.W.Frag) (R : Rat X.prog X.w K X.mg X.base cB cN C fI) (hr : Room 5 X.A) (hx : Passes (L2.CX X.prog X.w) X E) (he : PE X e te) (hK : X.K = K := by rfl) (hg : Gl X "Ratio" := by rfl)
    (hs : starEach [e] X.env = (false, eval e X.env) :: starEach [] X.env := by rfl) : PE X (.Call (.Name "Ratio" p) [e] [] pos) (tRat1 K C cB cN E te) := by
  subst hK
  exact pe_rat1 R hr hx he hg hs
theorem pe_rat2K (K : PySem.W.Frag) (R : Rat X.prog X.w K X.mg X.base cB cN C fI) (hr : Room 5 X.A) (hx : Passes (L2.CX X.prog X.w) X E) (he : PE X e te) (he2 : PE X e2 te2) (hK : X.K = K := by rfl) (hg : Gl X "Ratio" := by rfl)
    (hs : starEach [e, e2] X.env = (false, eval e X.env) :: starEach [e2] X.env := by rfl) (hs2 : starEach [e2] X.env = (false, eval e2 X.env) :: starEach [] X.env := by rfl) : PE X (.Call (.Name "Ratio" p) [e, e2] [] pos) (tRat2 K C cB cN E te te2) := by
  subst hK
  exact pe_rat2 R hr hx he he2 hg hs hs2
end
theorem flat_snoc {α β : Type} {l : List α} {i : Nat} {a : α} {f : α → List β} (h : l[i]? = some a) : (l.take (i + 1)).flatMap f = (l.take i).flatMap f ++ f a := by
  rw [take_snoc h, List.flatMap_append]
  simp
theorem flat_len {α β : Type} {f : α → List β} {n : Nat} (h : ∀ a, (f a).length = n) : ∀ l : List α, (l.flatMap f).length = l.length * n
  | [] => by simp
  | a :: l => by
    rw [List.flatMap_cons, List.length_append, h a, flat_len h l, List.length_cons, Nat.succ_mul, Nat.add_comm]
section
variable {P : Program} {w : World} {K : PySem.W.Frag} {mg : Str → Option Value} {base : Heap} {cB cN C fI : Addr}
end
end K03
end
section
set_option maxHeartbeats 4000000
namespace K03
open PySem PySem.Spec PyProof.Rows L2 LamX NdefX L3
theorem wipe_back {σ : L2.St} {j : Nat} {x : V} : wipe ((wipe σ [j]).set j (some x)) [j] = wipe σ [j] := by
  show ((σ.set j none).set j (some x)).set j none = σ.set j none
  rw [List.set_set, List.set_set]
/-- [e for x in a list or a tuple]: each item's value by a relation that D's growth leaves -/
theorem lc_map {K : PySem.W.Frag} {j : Nat} {v : V} {xs : List V} {β : Type} {bs : List β} {Rr : Addr → Hp → V → β → Prop} {σ : L2.St} {H : Hp} {te tv : TE} {Q : VK}
    (hv : ∀ R : VK, R v H → tv σ H R) (sq : SeqV K H v xs) (few : xs.length ≤ sizeLine) (hl : xs.length = bs.length)
    (same : ∀ (D : Addr) (H H' : Hp) (y : V) (b : β), Rr D H y b → Same H H' → Rr D H' y b) (grow : ∀ (D : Addr) (H : Hp) (rs ys : List V) (y : V) (b : β), H D = some (.lst rs) → Rr D H y b → Rr D (upd H D (.lst ys)) y b)
    (step : ∀ (D : Addr) (k : Nat) (x : V) (b : β) (H2 : Hp) (rs : List V) (Kc : VK), xs[k]? = some x → bs[k]? = some b → Same H H2 → H2 D = some (.lst rs) → (∀ (y : V) (H3 : Hp), Same H2 H3 → Rr D H3 y b → Kc y H3) → te ((wipe σ [j]).set j (some x)) H2 Kc)
    (fin : ∀ (D : Addr) (ws : List V) (H5 : Hp), H D = none → Same H H5 → H5 D = some (.lst ws) → Paired (Rr D H5) ws bs → Q (.ref D) H5) :
    tLc (fun σ H R => iList K tv σ H R ∨ iTup K tv σ H R) (gName j) tYes te [j] σ H Q := by
  obtain ⟨a, rfl, sq⟩ := sq
  have one : ∀ (D : Addr), H D = none → ∀ (i : Nat) (x : V) (H2 : Hp), xs[i]? = some x → (Same H H2 ∧ ∃ ws, H2 D = some (.lst ws) ∧ Paired (Rr D H2) ws (bs.take i)) →
      gName j x (wipe σ [j]) H2 fun σ2 H3 => wipe σ2 [j] = wipe σ [j] ∧ tYes σ2 H3 fun b H4 => if b = true then te σ2 H4 fun y H5 => ∃ acc, H5 D = some (.lst acc) ∧ acc.length < sizeLine ∧ (Same H (upd H5 D (.lst (acc ++ [y]))) ∧ ∃ ws, (upd H5 D (.lst (acc ++ [y]))) D = some (.lst ws) ∧ Paired (Rr D (upd H5 D (.lst (acc ++ [y])))) ws (bs.take (i + 1))) else (Same H H4 ∧ ∃ ws, H4 D = some (.lst ws) ∧ Paired (Rr D H4) ws (bs.take (i + 1))) := by
    intro D nD i x H2 hx p
    obtain ⟨s2, ws, hD, pw⟩ := p
    have li : i < xs.length := (List.getElem?_eq_some_iff.mp hx).1
    have hb : bs[i]? = some bs[i] := List.getElem?_eq_getElem (by omega)
    have lw : ws.length = i := by
      rw [paired_len pw, List.length_take]
      omega
    refine ⟨wipe_back, ?_⟩
    refine yes_if (a := fun H4 => te _ H4 _) ?_
    refine step D i x _ H2 ws _ hx hb s2 hD fun y H3 s3 ry => ?_
    have hD3 := s3 _ _ hD
    refine ⟨ws, hD3, by omega, same_grow nD (s2.trans s3), ws ++ [y], upd_same, ?_⟩
    rw [take_snoc hb]
    exact (Paired.mapP pw fun v b z => grow D H3 ws (ws ++ [y]) v b hD3 (same D H2 H3 v b z s3)).snoc (grow D H3 ws (ws ++ [y]) y _ hD3 ry)
  have last : ∀ (D : Addr), H D = none → ∀ H5, (Same H H5 ∧ ∃ ws, H5 D = some (.lst ws) ∧ Paired (Rr D H5) ws (bs.take xs.length)) → Q (.ref D) H5 := by
    rintro D nD H5 ⟨s5, ws, hD, pw⟩
    rw [hl, List.take_length] at pw
    exact fin D ws H5 nD s5 hD pw
  rcases sq with sq | sq
  · refine .inl (hv _ ⟨a, rfl, ⟨xs, sq⟩, fun D nD => ?_⟩)
    exact lc_list (K := K) (a := a) (xs := xs) (fun i H2 => Same H H2 ∧ ∃ ws, H2 D = some (.lst ws) ∧ Paired (Rr D H2) ws (bs.take i)) ⟨Same.new (fun _ _ e => e) nD, [], upd_same, .nil⟩ (fun i H2 _ p => p.1.seq sq) (one D nD) (last D nD)
  · refine .inr (hv _ ⟨a, rfl, ⟨xs, sq⟩, fun D nD => ?_⟩)
    exact lc_tup (K := K) (a := a) (xs := xs) (fun i H2 => Same H H2 ∧ ∃ ws, H2 D = some (.lst ws) ∧ Paired (Rr D H2) ws (bs.take i)) ⟨Same.new (fun _ _ e => e) nD, [], upd_same, .nil⟩ (fun i H2 _ p => same_tup p.1 sq) (one D nD) (last D nD)
/-- .. over a range -/
theorem lc_mapR {j n : Nat} {lo : Int} {β : Type} {bs : List β} {Rr : Addr → Hp → V → β → Prop} {σ : L2.St} {H : Hp} {te : TE} {Q : VK} (few : n ≤ sizeLine) (hl : n = bs.length)
    (same : ∀ (D : Addr) (H H' : Hp) (y : V) (b : β), Rr D H y b → Same H H' → Rr D H' y b) (grow : ∀ (D : Addr) (H : Hp) (rs ys : List V) (y : V) (b : β), H D = some (.lst rs) → Rr D H y b → Rr D (upd H D (.lst ys)) y b)
    (step : ∀ (D : Addr) (k : Nat) (b : β) (H2 : Hp) (rs : List V) (Kc : VK), k < n → bs[k]? = some b → Same H H2 → H2 D = some (.lst rs) → (∀ (y : V) (H3 : Hp), Same H2 H3 → Rr D H3 y b → Kc y H3) → te ((wipe σ [j]).set j (some (.int (lo + k)))) H2 Kc)
    (fin : ∀ (D : Addr) (ws : List V) (H5 : Hp), H D = none → Same H H5 → H5 D = some (.lst ws) → Paired (Rr D H5) ws bs → Q (.ref D) H5) (D : Addr) (nD : H D = none) :
    ∃ W : Nat → Nat → Hp → Prop, (∃ m, W 0 m (upd H D (.lst []))) ∧ ∀ i m H, W i m H →
      ((Itr lo n).stop i H ∧ Q (.ref D) H) ∨ ((Itr lo n).go i H ∧ ∃ Nx : Hp → Prop, (∀ H', Nx H' → ∃ m', m' < m ∧ W (i + 1) m' H') ∧ ∀ x H', (Itr lo n).yld i H x H' → gName j x (wipe σ [j]) H' fun σ2 H2 => wipe σ2 [j] = wipe σ [j] ∧ tYes σ2 H2 fun b H3 =>
        if b = true then te σ2 H3 fun y H4 => ∃ acc, H4 D = some (.lst acc) ∧ acc.length < sizeLine ∧ Nx (upd H4 D (.lst (acc ++ [y]))) else Nx H3) := by
  refine lc_range (fun i H2 => Same H H2 ∧ ∃ ws, H2 D = some (.lst ws) ∧ Paired (Rr D H2) ws (bs.take i)) ⟨Same.new (fun _ _ e => e) nD, [], upd_same, .nil⟩ ?_ ?_
  · rintro i H2 hi ⟨s2, ws, hD, pw⟩
    have hb : bs[i]? = some bs[i] := List.getElem?_eq_getElem (by omega)
    have lw : ws.length = i := by
      rw [paired_len pw, List.length_take]
      omega
    refine ⟨wipe_back, ?_⟩
    refine yes_if (a := fun H4 => te _ H4 _) ?_
    refine step D i _ H2 ws _ hi hb s2 hD fun y H3 s3 ry => ?_
    have hD3 := s3 _ _ hD
    refine ⟨ws, hD3, by omega, same_grow nD (s2.trans s3), ws ++ [y], upd_same, ?_⟩
    rw [take_snoc hb]
    exact (Paired.mapP pw fun v b z => grow D H3 ws (ws ++ [y]) v b hD3 (same D H2 H3 v b z s3)).snoc (grow D H3 ws (ws ++ [y]) y _ hD3 ry)
  · rintro H5 ⟨s5, ws, hD, pw⟩
    rw [hl, List.take_length] at pw
    exact fin D ws H5 nD s5 hD pw
/-- for x in a list or a tuple -/
theorem for_seq {K : PySem.W.Frag} {v : V} {xs : List V} {g : TG} {tb : TS} {D : Ends} {σ : L2.St} {H : Hp} {tv : TE} (hv : ∀ R : VK, R v H → tv σ H R) (sq : SeqV K H v xs) (Pv : Nat → L2.St → Hp → Prop) (h0 : Pv 0 σ H) (hsame : ∀ i σ' H', Pv i σ' H' → Same H H')
    (hs : ∀ i x σ H, xs[i]? = some x → Pv i σ H → g x σ H fun σ2 H2 => tb { D with nx := Pv (i + 1), ct := Pv (i + 1), bk := D.nx } σ2 H2) (hd : ∀ σ H, Pv xs.length σ H → D.nx σ H) : tFor (fun σ H R => iList K tv σ H R ∨ iTup K tv σ H R) g tb D σ H := by
  obtain ⟨a, rfl, sq⟩ := sq
  rcases sq with sq | sq
  · exact .inl (hv _ ⟨a, rfl, ⟨xs, sq⟩, for_list (K := K) (a := a) (xs := xs) Pv h0 (fun i σ' H' _ p => (hsame i σ' H' p).seq sq) hs hd⟩)
  · exact .inr (hv _ ⟨a, rfl, ⟨xs, sq⟩, for_tup (K := K) (a := a) (xs := xs) Pv h0 (fun i σ' H' _ p => same_tup (hsame i σ' H' p) sq) hs hd⟩)
/-- a statement by itself, what follows it by what holds between -/
theorem seq_to {t1 t2 : TS} {D : Ends} {σ : L2.St} {H : Hp} (M : L2.St → Hp → Prop) (h1 : ∀ K : L2.St → Hp → Prop, (∀ σ' H', M σ' H' → K σ' H') → t1 { nx := K, rt := D.rt, bk := D.bk, ct := D.ct } σ H) (h2 : ∀ σ' H', M σ' H' → t2 D σ' H') : tSeq t1 t2 D σ H := h1 _ h2
end K03
end
section
set_option maxHeartbeats 4000000
namespace K03
open PySem PySem.Spec PyProof.Rows L2 LamX NdefX L3
theorem bl_list {ws : List V} {bs : List Bool} (h : Paired (fun (y : V) (b : Bool) => y = .bl b) ws bs) : ws = bs.map V.bl := by
  induction h with
  | nil => rfl
  | cons a _ ih =>
    rw [ih, a]
    rfl
section
variable {X : Cx} {tg l : Expr} {tl : TE}
theorem pi_listK (K : PySem.W.Frag) (hl : PE X l tl) (hK : X.K = K := by rfl) : PI X tg l (iList K tl) := by
  subst hK
  exact pi_list hl
theorem pi_tupK (K : PySem.W.Frag) (hl : PE X l tl) (hK : X.K = K := by rfl) : PI X tg l (iTup K tl) := by
  subst hK
  exact pi_tup hl
end
section
variable {P : Program} {w : World} {K : PySem.W.Frag} {mg : Str → Option Value} {base : Heap} {cB cN C fI : Addr} {tL tM : Tok}
end
end K03
end
section
set_option maxHeartbeats 4000000
namespace K03
open PySem PySem.Spec PyProof.Rows L2 LamX NdefX L3
theorem ix_listK {X : Cx} (K : PySem.W.Frag) (hK : X.K = K := by rfl) : IxR X (rIxL K) := by
  subst hK
  exact ix_list
section
variable {P : Program} {w : World} {K : PySem.W.Frag} {mg : Str → Option Value} {base : Heap} {cB cN C fI : Addr}
end
end K03
end
section
set_option maxHeartbeats 4000000
namespace K03
open PySem PySem.Spec PyProof.Rows L2
/-- the pen: the cells' list at c, the stop s, the rest r -/
def pen (c : Addr) (s r : Int) : List (Key × V) := [(.inr "cells", .ref c), (.inr "count", .int s), (.inr "left", .int r)]
theorem n1 : ¬ (("cells" : Str) = "count") := by decide +kernel
theorem n2 : ¬ (("cells" : Str) = "left") := by decide +kernel
theorem n3 : ¬ (("count" : Str) = "left") := by decide +kernel
theorem n4 : ¬ (("left" : Str) = "count") := by decide +kernel
theorem pen_cells (c : Addr) (s r : Int) : valV (pen c s r) (.inr "cells") = some (.ref c) := valV_pos rfl
theorem pen_stop (c : Addr) (s r : Int) : valV (pen c s r) (.inr "count") = some (.int s) := (valV_neg fun z => n1 (Sum.inr.inj z)).trans (valV_pos rfl)
theorem pen_rest (c : Addr) (s r : Int) : valV (pen c s r) (.inr "left") = some (.int r) := (valV_neg fun z => n2 (Sum.inr.inj z)).trans ((valV_neg fun z => n3 (Sum.inr.inj z)).trans (valV_pos rfl))
theorem put_stop (c : Addr) (s r z : Int) : putK (pen c s r) (.inr "count") (.int z) = pen c z r := by
  simp [putK, pen, n1, n4]
theorem put_rest (c : Addr) (s r z : Int) : putK (pen c s r) (.inr "left") (.int z) = pen c s z := by
  simp [putK, pen, n2, n3]
theorem merge_pen (c : Addr) (s r : Int) : mergeK [] (pen c s r) = pen c s r := by
  simp [mergeK, putK, pen, n1, n2, n3]
structure PenAt (H : Hp) (d c : Addr) (s r : Int) (cells : List Int) : Prop where
  dc : H d = some (.dK (pen c s r))
  ls : H c = some (.lst (cells.map V.int))
theorem PenAt.ne {H : Hp} {d c : Addr} {s r : Int} {cells : List Int} (p : PenAt H d c s r cells) : c ≠ d := ne_of p.ls p.dc (by intro z; cases z)
theorem PenAt.set {H : Hp} {d c : Addr} {s r : Int} {cells : List Int} (p : PenAt H d c s r cells) (s' r' : Int) : PenAt (upd H d (.dK (pen c s' r'))) d c s' r' cells := ⟨upd_same, by rw [upd_ne p.ne]; exact p.ls⟩
/-- all that was tracked but at d is as it was -/
def SameBut (d : Addr) (H H' : Hp) : Prop := ∀ b o, H b = some o → b ≠ d → H' b = some o
theorem SameBut.put {d : Addr} {H H' : Hp} {o : HO} (h : SameBut d H H') : SameBut d H (upd H' d o) := fun b u e n => by rw [upd_ne n]; exact h b u e n
theorem SameBut.new {d p : Addr} {H H' : Hp} {o : HO} (h : SameBut d H H') (hp : H' p = none) : SameBut d H (upd H' p o) := fun b u e n => by
  rw [upd_ne (ne_of_none (h b u e n) hp)]
  exact h b u e n
theorem SameBut.refl {d : Addr} {H : Hp} : SameBut d H H := fun _ _ e _ => e
theorem PenAt.new {H : Hp} {d c q : Addr} {s r : Int} {cells : List Int} {o : HO} (p : PenAt H d c s r cells) (hq : H q = none) : PenAt (upd H q o) d c s r cells :=
  ⟨by rw [upd_ne (ne_of_none p.dc hq)]; exact p.dc, by rw [upd_ne (ne_of_none p.ls hq)]; exact p.ls⟩
def spDraw : Sp := fun vs H Q _ => ∃ (d c : Addr) (s r many : Int) (cells : List Int), vs = [.ref d, .int many] ∧ PenAt H d c s r cells ∧ 0 ≤ s ∧ s ≤ 100000 ∧ cells.length ≤ 63 ∧ 0 < many ∧ many < 2 ^ 30 ∧
  ∀ (n s' r' : Int) (H' : Hp), 0 ≤ n → n < many → 0 ≤ s' → s' ≤ s + 1 → PenAt H' d c s' r' cells → SameBut d H H' → Q (.int n) H'
theorem dp_ints {K : PySem.W.Frag} {H : Hp} : ∀ ns : List Int, DpAll K H (ns.map V.int) (ns.map PyData.int)
  | [] => .nil
  | n :: r => .cons (.int n) (dp_ints r)
theorem at_mod {cells : List Int} (h : 0 < cells.length) (s : Int) : ∃ x, atI (cells.map V.int) (s % ((cells.map V.int).length : Int)) = some (.int x) := by
  have a1 := Int.emod_nonneg s (show ((cells.map V.int).length : Int) ≠ 0 by rw [List.length_map]; omega)
  have a2 := Int.emod_lt_of_pos s (show (0 : Int) < ((cells.map V.int).length : Int) by rw [List.length_map]; omega)
  rw [List.length_map] at a1 a2
  rw [List.length_map, show s % (cells.length : Int) = (((s % (cells.length : Int)).toNat : Nat) : Int) by omega]
  have a3 : (s % (cells.length : Int)).toNat < cells.length := by omega
  exact ⟨cells[(s % (cells.length : Int)).toNat], atI_nat (by rw [List.getElem?_map, List.getElem?_eq_getElem a3]; rfl)⟩
theorem modb (a : Int) {m : Int} (h : 0 < m) (h2 : m < 2 ^ 64) : -(2 ^ 64) < a % m ∧ a % m < 2 ^ 64 := by
  have x := Int.emod_nonneg a (show m ≠ 0 by omega)
  have y := Int.emod_lt_of_pos a h
  omega
def spPick : Sp := fun vs H Q _ => ∃ (d c l : Addr) (s r : Int) (cells : List Int) (xs : List V), vs = [.ref d, .ref l] ∧ PenAt H d c s r cells ∧ 0 ≤ s ∧ s ≤ 100000 ∧ cells.length ≤ 63 ∧ H l = some (.lst xs) ∧ 0 < xs.length ∧ xs.length ≤ 1000 ∧
  ∀ (v : V) (s' r' : Int) (H' : Hp), v ∈ xs → 0 ≤ s' → s' ≤ s + 1 → PenAt H' d c s' r' cells → SameBut d H H' → Q v H'
/-- a pair of integers at t -/
def Pair (H : Hp) (t : Addr) (p : Int × Int) : Prop := H t = some (.tup [.int p.1, .int p.2])
/-- a new pair -/
def NewP (H : Hp) (Q : VK) (p : Int × Int) : Prop := ∀ (t : Addr) (H' : Hp), H t = none → Same H H' → Pair H' t p → Q (.ref t) H'
theorem NewP.at {H : Hp} {Q : VK} {p : Int × Int} (h : NewP H Q p) (t : Addr) (ht : H t = none) : Q (.ref t) (upd H t (.tup [.int p.1, .int p.2])) := h t _ ht (Same.new (fun _ _ e => e) ht) upd_same
def spGcd : Sp := fun vs H Q _ => ∃ a b : Int, vs = [.int a, .int b] ∧ Q (.int ((Nat.gcd a.natAbs b.natAbs : Nat) : Int)) H
def spLowest : Sp := fun vs H Q _ => ∃ a b : Int, vs = [.int a, .int b] ∧ b ≠ 0 ∧ Sz b ∧ NewP H Q (low a b)
def gcdM (σ : L2.St) (_ : Hp) : Nat := match (σ[1]? : Option (Option V)) with
  | some (some (V.int l)) => l.toNat
  | _ => 0
theorem euclid {m n : Nat} : Nat.gcd n (m % n) = Nat.gcd m n := by
  rw [Nat.gcd_comm n (m % n), ← Nat.gcd_rec, Nat.gcd_comm]

theorem abs_cast (e : Int) : (if e < 0 then -e else e) = ((e.natAbs : Nat) : Int) := by split <;> omega
end K03
end
section
set_option maxHeartbeats 4000000
namespace K03
open PySem PySem.Spec PyProof.Rows L2 LamX NdefX L3
abbrev sBegin : Stmt := top 57
def spPen2 (K : PySem.W.Frag) : Sp := fun vs H Q _ => ∃ (a : Addr) (ns : List Int), vs = [.ref a] ∧ SqL K H a (ns.map V.int) ∧ ns.length ≤ 63 ∧
  ∀ (d c : Addr) (H' : Hp), H d = none → H c = none → Same H H' → PenAt H' d c 0 0 ns → Q (.ref d) H'
section
variable {P : Program} {w : World} {K : PySem.W.Frag} {mg : Str → Option Value} {base : Heap}
theorem scBegin : FnScope ["_law_script"] ["_law_script"] (defScope sBegin) := ⟨rfl, rfl, rfl, by decide +kernel, rfl, by decide +kernel, by decide +kernel⟩
theorem ok_begin {f : Addr} {fd : FuncData} (F : Fun K "_law_begin" "_law_begin" sBegin f fd) (T : TxtR mg) : FnOk P w K mg base CX0 1 f fd ["_law_script"] (spPen2 K) := by
  refine F.ok scBegin (fun vs H Q E h => ?_) (fun cdv A outer s H vs Q E hr h => ?_)
  · obtain ⟨a, ns, rfl, _⟩ := h
    rfl
  · obtain ⟨a, ns, rfl, hS, hl, k⟩ := h
    refine ⟨_, pss_one (ps_ret (pe_disp (pps_cons pe_str (pe_callTy call_list_of (by rfl) T.list (by decide +kernel) (pa_cons (pe_slice sl_list (pv 0) po_none (po_some pe_int)) pa_nil))
      (pps_cons pe_str pe_int (pps_cons pe_str pe_int pps_nil))) (by rfl) (by rfl) (fun z => by cases z) (by decide))), ?_⟩
    intro d hd
    refine ⟨_, rfl, 63, rfl, a, ns.map V.int, rfl, ?_, fun p hp => ?_⟩
    · exact Same.seq (fun b o e => by rw [upd_ne (ne_of_none e hd)]; exact e) hS
    have e1 : cutV (ns.map V.int) none (some 63) = ns.map V.int := by
      unfold cutV
      rw [HT.sIx_none, List.drop_zero, show (some (63 : Int)) = some ((63 : Nat) : Int) from rfl, HT.sIx_nat, List.length_map, Nat.sub_zero]
      exact List.take_of_length_le (by rw [List.length_map]; omega)
    rw [e1]
    have npd : p ≠ d := fun z => by rw [z, upd_same] at hp; cases hp
    have hp0 : H p = none := by rw [upd_ne npd] at hp; exact hp
    refine ⟨p, _, rfl, .inl (SqL.of upd_same), fun c hc => ?_⟩
    have ncp : c ≠ p := fun z => by rw [z, upd_same] at hc; cases hc
    have hc1 : upd H d (.dK []) c = none := by rw [upd_ne ncp] at hc; exact hc
    have ncd : c ≠ d := fun z => by rw [z, upd_same] at hc1; cases hc1
    have hc0 : H c = none := by rw [upd_ne ncd] at hc1; exact hc1
    refine ⟨by rw [upd_ne ncd.symm, upd_ne npd.symm, upd_same], pen c 0 0, rfl, by show 3 ≤ 15; decide, ?_⟩
    rw [merge_pen]
    refine k d c _ hd hc0 (fun b o e => ?_) ⟨upd_same, by rw [upd_ne ncd, upd_same]⟩
    rw [upd_ne (ne_of_none e hd), upd_ne (ne_of_none e hc0), upd_ne (ne_of_none e hp0), upd_ne (ne_of_none e hd)]
    exact e
end
end K03
end
section
set_option maxHeartbeats 4000000
set_option exponentiation.threshold 100000
namespace K03
open PySem PySem.Spec PyProof.Rows L2 LamX NdefX L3
section
variable {P : Program} {w : World} {K : PySem.W.Frag} {mg : Str → Option Value} {base : Heap} {cB cN C fI : Addr}
end
end K03
end
section
set_option maxHeartbeats 4000000
namespace K03
open PySem PySem.Spec PyProof.Rows L2
/-- the pairs that are dealt with -/
structure Fit (p : Int × Int) : Prop where
  t : p.1.natAbs < 2 ^ 4000
  pos : 0 < p.2
  b : p.2.natAbs < 2 ^ 4000
def padd (p q : Int × Int) : Int × Int := low (p.1 * q.2 + q.1 * p.2) (p.2 * q.2)
def psub (p q : Int × Int) : Int × Int := low (p.1 * q.2 - q.1 * p.2) (p.2 * q.2)
def pmul (p q : Int × Int) : Int × Int := low (p.1 * q.1) (p.2 * q.2)
theorem lkT {u v : V} : ([("top", u), ("bottom", v)] : List (Str × V)).lookup ("top" : Str) = some u := by simp [List.lookup]
theorem lkBt {u v : V} : ([("top", u), ("bottom", v)] : List (Str × V)).lookup ("bottom" : Str) = some v := by
  have e : (("bottom" : Str) == "top") = false := by decide +kernel
  simp [List.lookup, e]
theorem NewR.same {C : Addr} {H H' : Hp} {Q : VK} {q : Int × Int} (h : NewR C H Q q) (s : Same H H') : NewR C H' Q q := fun a dx H'' ha s2 e => h a dx H'' (by
  cases z : H a with
  | none => rfl
  | some o => rw [s _ _ z] at ha; cases ha) (s.trans s2) e
theorem as_of {K : PySem.W.Frag} {C cB : Addr} {H : Hp} {E : XK} {v : V} {Q0 : VK} {ok : Int × Int → Prop} (k : Stands K C cB H E v (fun _ q => ok q) fun t => ok (t, 1))
    (c : ∀ (b dy : Addr) (q : Int × Int) (H1 : Hp), Same H H1 → H1 b = some (rat C dy q) → ok q → Q0 (.ref b) H1) : spAs K C cB [v] H Q0 E := by
  refine ⟨v, rfl, ?_⟩
  cases k with
  | rat a dx q hv e k => exact .rat a dx q hv e (by rw [hv]; exact c a dx q H (fun _ _ z => z) e k)
  | int t hv k => exact .int t hv fun a dx H' ha s e => c a dx _ H' s e k
  | odd o k => exact .odd o k
theorem sz_mul {i j : Int} (hi : i.natAbs < 2 ^ 4000) (hj : j.natAbs < 2 ^ 4000) : CMulW i j := wide_mul hi hj (by decide) (by decide) (by decide)
theorem sz_mulB {i j : Int} (hi : i.natAbs < 2 ^ 4000) (hj : j.natAbs < 2 ^ 4000) : Sz (i * j) :=
  Nat.lt_of_lt_of_le (wide_lt hi hj) (Nat.pow_le_pow_right (by decide) (by decide))
abbrev sAdd : Stmt := inClass (top 21) 2
abbrev sSub : Stmt := inClass (top 21) 4
abbrev sMul : Stmt := inClass (top 21) 6
def spBin (K : PySem.W.Frag) (C cB : Addr) (f : Int × Int → Int × Int → Int × Int) : Sp := fun vs H Q E => ∃ (a dx : Addr) (v : V) (p : Int × Int), vs = [.ref a, v] ∧ H a = some (rat C dx p) ∧ Fit p ∧
  Stands K C cB H E v (fun _ q => Fit q ∧ NewR C H Q (f p q)) fun t => Fit (t, 1) ∧ NewR C H Q (f p (t, 1))
section
variable {P : Program} {w : World} {K : PySem.W.Frag} {mg : Str → Option Value} {base : Heap} {cB cN C fI fo : Addr} {fdo : FuncData}
theorem scAdd : FnScope ["self", "other", "right"] ["self", "other"] (defScope sAdd) := ⟨rfl, rfl, rfl, by decide +kernel, rfl, by decide +kernel, by decide +kernel⟩
theorem ok_add {f : Addr} {fd : FuncData} (F : Fun K "__add__" "Ratio.__add__" sAdd f fd) (R : Rat P w K mg base cB cN C fI) (Go : FnOk P w K mg base (L2.CX P w) 7 fo fdo ["other"] (spOpd K C cB)) (go : mg "operand" = some (.ref fo)) (ko : PySem.W.keepIn K (.ref fo) = true) (bo : Binds K fdo ["other"] []) :
    FnOk P w K mg base (L2.CX P w) 8 f fd ["self", "other"] (spBin K C cB padd) := by
  refine F.okX scAdd (fun vs H Q E h => ?_) (fun cdv A outer s H vs Q E hr h => ?_)
  · obtain ⟨a, dx, v, p, rfl, _⟩ := h
    rfl
  · obtain ⟨a, dx, v, p, rfl, ha, fp, k⟩ := h
    have nd := scAdd.nd
    have hr5 : Room 5 _ := hr.mono (by decide)
    refine ⟨_, pss_cons (ps_set (i := 2) nd rfl (Or.inl rfl) (pe_opR (E := E) R Go go ko bo hr (passK (takes_of rfl rfl rfl rfl)) (fun _ => pv 1)))
      (pss_cons (ps_if (pt_cmpR op_isN (pv 2) pe_non (nomark _)) (pss_one ps_never) pss_nil)
      (pss_one (ps_ret (pe_rat2 (E := E) R hr5 (passK (takes_of rfl rfl rfl rfl)) (pe_op op_add (pe_op op_mulW (pe_fld (pv 0) rfl) (pe_fld (pv 2) rfl)) (pe_op op_mulW (pe_fld (pv 2) rfl) (pe_fld (pv 0) rfl))) (pe_op op_mulW (pe_fld (pv 0) rfl) (pe_fld (pv 2) rfl)))))), ?_⟩
    refine ⟨_, rfl, as_of k fun b dy q H1 s1 e ⟨fq, q1⟩ => ?_⟩
    refine ⟨_, rfl, rfl, _, rfl, ?_⟩
    show ite _ _ _
    rw [if_neg (by simp)]
    refine ⟨_, rfl, a, C, dx, _, _, rfl, s1 _ _ ha, R.cls.c, R.cls.nT, lkT, _, rfl, b, C, dy, _, _, rfl, e, R.cls.c, R.cls.nB, lkBt, _, _, rfl, rfl, sz_mul fp.t fq.b, ?_⟩
    refine ⟨_, rfl, b, C, dy, _, _, rfl, e, R.cls.c, R.cls.nT, lkT, _, rfl, a, C, dx, _, _, rfl, s1 _ _ ha, R.cls.c, R.cls.nB, lkBt, _, _, rfl, rfl, sz_mul fq.t fp.b, _, _, rfl, rfl, ?_⟩
    refine ⟨_, rfl, a, C, dx, _, _, rfl, s1 _ _ ha, R.cls.c, R.cls.nB, lkBt, _, rfl, b, C, dy, _, _, rfl, e, R.cls.c, R.cls.nB, lkBt, _, _, rfl, rfl, sz_mul fp.b fq.b, ?_⟩
    exact .good _ _ rfl rfl (Int.ne_of_gt (Int.mul_pos fp.pos fq.pos)) (sz_mulB fp.b fq.b) (q1.same s1)
theorem scSub : FnScope ["self", "other", "right"] ["self", "other"] (defScope sSub) := ⟨rfl, rfl, rfl, by decide +kernel, rfl, by decide +kernel, by decide +kernel⟩
theorem ok_sub {f : Addr} {fd : FuncData} (F : Fun K "__sub__" "Ratio.__sub__" sSub f fd) (R : Rat P w K mg base cB cN C fI) (Go : FnOk P w K mg base (L2.CX P w) 7 fo fdo ["other"] (spOpd K C cB)) (go : mg "operand" = some (.ref fo)) (ko : PySem.W.keepIn K (.ref fo) = true) (bo : Binds K fdo ["other"] []) :
    FnOk P w K mg base (L2.CX P w) 8 f fd ["self", "other"] (spBin K C cB psub) := by
  refine F.okX scSub (fun vs H Q E h => ?_) (fun cdv A outer s H vs Q E hr h => ?_)
  · obtain ⟨a, dx, v, p, rfl, _⟩ := h
    rfl
  · obtain ⟨a, dx, v, p, rfl, ha, fp, k⟩ := h
    have nd := scSub.nd
    have hr5 : Room 5 _ := hr.mono (by decide)
    refine ⟨_, pss_cons (ps_set (i := 2) nd rfl (Or.inl rfl) (pe_opR (E := E) R Go go ko bo hr (passK (takes_of rfl rfl rfl rfl)) (fun _ => pv 1)))
      (pss_cons (ps_if (pt_cmpR op_isN (pv 2) pe_non (nomark _)) (pss_one ps_never) pss_nil)
      (pss_one (ps_ret (pe_rat2 (E := E) R hr5 (passK (takes_of rfl rfl rfl rfl)) (pe_op op_sub (pe_op op_mulW (pe_fld (pv 0) rfl) (pe_fld (pv 2) rfl)) (pe_op op_mulW (pe_fld (pv 2) rfl) (pe_fld (pv 0) rfl))) (pe_op op_mulW (pe_fld (pv 0) rfl) (pe_fld (pv 2) rfl)))))), ?_⟩
    refine ⟨_, rfl, as_of k fun b dy q H1 s1 e ⟨fq, q1⟩ => ?_⟩
    refine ⟨_, rfl, rfl, _, rfl, ?_⟩
    show ite _ _ _
    rw [if_neg (by simp)]
    refine ⟨_, rfl, a, C, dx, _, _, rfl, s1 _ _ ha, R.cls.c, R.cls.nT, lkT, _, rfl, b, C, dy, _, _, rfl, e, R.cls.c, R.cls.nB, lkBt, _, _, rfl, rfl, sz_mul fp.t fq.b, ?_⟩
    refine ⟨_, rfl, b, C, dy, _, _, rfl, e, R.cls.c, R.cls.nT, lkT, _, rfl, a, C, dx, _, _, rfl, s1 _ _ ha, R.cls.c, R.cls.nB, lkBt, _, _, rfl, rfl, sz_mul fq.t fp.b, _, _, rfl, rfl, ?_⟩
    refine ⟨_, rfl, a, C, dx, _, _, rfl, s1 _ _ ha, R.cls.c, R.cls.nB, lkBt, _, rfl, b, C, dy, _, _, rfl, e, R.cls.c, R.cls.nB, lkBt, _, _, rfl, rfl, sz_mul fp.b fq.b, ?_⟩
    exact .good _ _ rfl rfl (Int.ne_of_gt (Int.mul_pos fp.pos fq.pos)) (sz_mulB fp.b fq.b) (q1.same s1)
theorem scMul : FnScope ["self", "other", "right"] ["self", "other"] (defScope sMul) := ⟨rfl, rfl, rfl, by decide +kernel, rfl, by decide +kernel, by decide +kernel⟩
theorem ok_mul {f : Addr} {fd : FuncData} (F : Fun K "__mul__" "Ratio.__mul__" sMul f fd) (R : Rat P w K mg base cB cN C fI) (Go : FnOk P w K mg base (L2.CX P w) 7 fo fdo ["other"] (spOpd K C cB)) (go : mg "operand" = some (.ref fo)) (ko : PySem.W.keepIn K (.ref fo) = true) (bo : Binds K fdo ["other"] []) :
    FnOk P w K mg base (L2.CX P w) 8 f fd ["self", "other"] (spBin K C cB pmul) := by
  refine F.okX scMul (fun vs H Q E h => ?_) (fun cdv A outer s H vs Q E hr h => ?_)
  · obtain ⟨a, dx, v, p, rfl, _⟩ := h
    rfl
  · obtain ⟨a, dx, v, p, rfl, ha, fp, k⟩ := h
    have nd := scMul.nd
    have hr5 : Room 5 _ := hr.mono (by decide)
    refine ⟨_, pss_cons (ps_set (i := 2) nd rfl (Or.inl rfl) (pe_opR (E := E) R Go go ko bo hr (passK (takes_of rfl rfl rfl rfl)) (fun _ => pv 1)))
      (pss_cons (ps_if (pt_cmpR op_isN (pv 2) pe_non (nomark _)) (pss_one ps_never) pss_nil)
      (pss_one (ps_ret (pe_rat2 (E := E) R hr5 (passK (takes_of rfl rfl rfl rfl)) (pe_op op_mulW (pe_fld (pv 0) rfl) (pe_fld (pv 2) rfl)) (pe_op op_mulW (pe_fld (pv 0) rfl) (pe_fld (pv 2) rfl)))))), ?_⟩
    refine ⟨_, rfl, as_of k fun b dy q H1 s1 e ⟨fq, q1⟩ => ?_⟩
    refine ⟨_, rfl, rfl, _, rfl, ?_⟩
    show ite _ _ _
    rw [if_neg (by simp)]
    refine ⟨_, rfl, a, C, dx, _, _, rfl, s1 _ _ ha, R.cls.c, R.cls.nT, lkT, _, rfl, b, C, dy, _, _, rfl, e, R.cls.c, R.cls.nT, lkT, _, _, rfl, rfl, sz_mul fp.t fq.t, ?_⟩
    refine ⟨_, rfl, a, C, dx, _, _, rfl, s1 _ _ ha, R.cls.c, R.cls.nB, lkBt, _, rfl, b, C, dy, _, _, rfl, e, R.cls.c, R.cls.nB, lkBt, _, _, rfl, rfl, sz_mul fp.b fq.b, ?_⟩
    exact .good _ _ rfl rfl (Int.ne_of_gt (Int.mul_pos fp.pos fq.pos)) (sz_mulB fp.b fq.b) (q1.same s1)
end
end K03
end
section
set_option maxHeartbeats 4000000
namespace L2
open PySem PySem.Spec PyProof.Rows
end L2
end
section
set_option maxHeartbeats 4000000
namespace K03
open PySem PySem.Spec PyProof.Rows L2
abbrev sInv : Stmt := inClass (top 21) 10
abbrev sFloor : Stmt := inClass (top 21) 14
def spInv (C cN : Addr) : Sp := fun vs H Q E => ∃ (a dx : Addr) (p : Int × Int), vs = [.ref a] ∧ H a = some (rat C dx p) ∧ Fit p ∧ (p.1 ≠ 0 → NewR C H Q (low p.2 p.1)) ∧ (p.1 = 0 → NoDiv cN H E)
def sgn (i : Int) : Int := b2i (decide (i > 0)) - b2i (decide (i < 0))
def spFloor (C : Addr) : Sp := fun vs H Q E => ∃ (a dx : Addr) (p : Int × Int), vs = [.ref a] ∧ H a = some (rat C dx p) ∧ Fit p ∧ Q (.int (p.1.fdiv p.2)) H
theorem fit_sz {b : Int} (h : b.natAbs < 2 ^ 4000) : Sz b := Nat.lt_of_lt_of_le h (Nat.pow_le_pow_right (by decide) (by decide))
section
variable {P : Program} {w : World} {K : PySem.W.Frag} {mg : Str → Option Value} {base : Heap} {cB cN C fI fo fa fb : Addr} {fdo fda fdb : FuncData}
theorem scInv : FnScope ["self"] ["self"] (defScope sInv) := ⟨rfl, rfl, rfl, by decide +kernel, rfl, by decide +kernel, by decide +kernel⟩
theorem ok_inv {f : Addr} {fd : FuncData} (F : Fun K "inverse" "Ratio.inverse" sInv f fd) (R : Rat P w K mg base cB cN C fI) : FnOk P w K mg base (L2.CX P w) 6 f fd ["self"] (spInv C cN) := by
  refine F.okX scInv (fun vs H Q E h => ?_) (fun cdv A outer s H vs Q E hr h => ?_)
  · obtain ⟨a, dx, p, rfl, _⟩ := h
    rfl
  · obtain ⟨a, dx, p, rfl, ha, fp, q1, q2⟩ := h
    refine ⟨_, pss_one (ps_ret (pe_rat2 (E := E) R hr (passK (takes_of rfl rfl rfl rfl)) (pe_fld (pv 0) rfl) (pe_fld (pv 0) rfl))), ?_⟩
    refine ⟨_, rfl, a, C, dx, _, _, rfl, ha, R.cls.c, R.cls.nB, lkBt, _, rfl, a, C, dx, _, _, rfl, ha, R.cls.c, R.cls.nT, lkT, ?_⟩
    by_cases h0 : p.1 = 0
    · exact .zero _ rfl (by rw [h0]) (q2 h0)
    · exact .good _ _ rfl rfl h0 (fit_sz fp.t) (q1 h0)
theorem scFloor : FnScope ["self"] ["self"] (defScope sFloor) := ⟨rfl, rfl, rfl, by decide +kernel, rfl, by decide +kernel, by decide +kernel⟩
theorem ok_floor {f : Addr} {fd : FuncData} (F : Fun K "floor" "Ratio.floor" sFloor f fd) (R : Rat P w K mg base cB cN C fI) : FnOk P w K mg base CX0 1 f fd ["self"] (spFloor C) := by
  refine F.ok scFloor (fun vs H Q E h => ?_) (fun cdv A outer s H vs Q E hr h => ?_)
  · obtain ⟨a, dx, p, rfl, _⟩ := h
    rfl
  · obtain ⟨a, dx, p, rfl, ha, fp, q⟩ := h
    refine ⟨_, pss_one (ps_ret (pe_op op_fdivZ (pe_fld (pv 0) rfl) (pe_fld (pv 0) rfl))), ?_⟩
    refine ⟨_, rfl, a, C, dx, _, _, rfl, ha, R.cls.c, R.cls.nT, lkT, _, rfl, a, C, dx, _, _, rfl, ha, R.cls.c, R.cls.nB, lkBt, _, _, rfl, rfl, ⟨Int.ne_of_gt fp.pos, ?_⟩, q⟩
    exact log2_le (Nat.le_refl _) (by have := fp.pos; omega) (fit_sz fp.b) (by decide)
end
end K03
end
section
set_option maxHeartbeats 4000000
namespace K03
/-- in lowest terms, the lower one from 1 on -/
structure Low (p : Int × Int) : Prop where
  pos : 0 < p.2
  co : Nat.Coprime p.1.natAbs p.2.natAbs
theorem shr_dvd_l {t b : Int} : shr t b ∣ t := by
  unfold shr
  split
  · exact Int.neg_dvd.mpr (Int.ofNat_dvd_left.mpr (Nat.gcd_dvd_left _ _))
  · exact Int.ofNat_dvd_left.mpr (Nat.gcd_dvd_left _ _)
theorem shr_dvd_r {t b : Int} : shr t b ∣ b := by
  unfold shr
  split
  · exact Int.neg_dvd.mpr (Int.ofNat_dvd_left.mpr (Nat.gcd_dvd_right _ _))
  · exact Int.ofNat_dvd_left.mpr (Nat.gcd_dvd_right _ _)
theorem shr_abs {t b : Int} : (shr t b).natAbs = Nat.gcd t.natAbs b.natAbs := by
  unfold shr
  split <;> simp
theorem low_l {t b : Int} (h : b ≠ 0) : t = shr t b * (low t b).1 := by
  show t = shr t b * t.fdiv (shr t b)
  rw [Int.fdiv_eq_ediv_of_dvd shr_dvd_l, Int.mul_ediv_cancel' shr_dvd_l]
theorem low_r {t b : Int} (h : b ≠ 0) : b = shr t b * (low t b).2 := by
  show b = shr t b * b.fdiv (shr t b)
  rw [Int.fdiv_eq_ediv_of_dvd shr_dvd_r, Int.mul_ediv_cancel' shr_dvd_r]
theorem low_pos {t b : Int} (h : b ≠ 0) : 0 < (low t b).2 := by
  have e := low_r (t := t) h
  have g : 0 < Nat.gcd t.natAbs b.natAbs := Nat.gcd_pos_of_pos_right _ (by omega)
  by_cases hb : b < 0
  · have hs : shr t b < 0 := by unfold shr; rw [if_pos hb]; omega
    refine Int.not_le.mp fun hn => ?_
    have := Int.mul_nonneg_of_nonpos_of_nonpos (Int.le_of_lt hs) hn
    omega
  · have hs : 0 < shr t b := by unfold shr; rw [if_neg hb]; omega
    refine Int.not_le.mp fun hn => ?_
    have := Int.mul_nonpos_of_nonneg_of_nonpos (Int.le_of_lt hs) hn
    omega
theorem low_low {t b : Int} (h : b ≠ 0) : Low (low t b) := by
  refine ⟨low_pos h, ?_⟩
  have g : 0 < Nat.gcd t.natAbs b.natAbs := Nat.gcd_pos_of_pos_right _ (by omega)
  have e1 : t.natAbs = Nat.gcd t.natAbs b.natAbs * (low t b).1.natAbs := by
    rw [← shr_abs, ← Int.natAbs_mul, ← low_l h]
  have e2 : b.natAbs = Nat.gcd t.natAbs b.natAbs * (low t b).2.natAbs := by
    rw [← shr_abs, ← Int.natAbs_mul, ← low_r h]
  have e3 : Nat.gcd t.natAbs b.natAbs = Nat.gcd t.natAbs b.natAbs * Nat.gcd (low t b).1.natAbs (low t b).2.natAbs := by
    rw [← Nat.gcd_mul_left, ← e1, ← e2]
  exact Nat.eq_of_mul_eq_mul_left g (by rw [← e3, Nat.mul_one])
/-- the lowest terms are told by the worth -/
theorem Low.uniq {p q : Int × Int} (hp : Low p) (hq : Low q) (h : p.1 * q.2 = q.1 * p.2) : p = q := by
  have hn : p.1.natAbs * q.2.natAbs = q.1.natAbs * p.2.natAbs := by rw [← Int.natAbs_mul, ← Int.natAbs_mul, h]
  have d1 : p.2.natAbs ∣ q.2.natAbs := (Nat.Coprime.symm hp.co).dvd_of_dvd_mul_left (by rw [hn]; exact Nat.dvd_mul_left _ _)
  have d2 : q.2.natAbs ∣ p.2.natAbs := (Nat.Coprime.symm hq.co).dvd_of_dvd_mul_left (by rw [← hn]; exact Nat.dvd_mul_left _ _)
  have e : p.2.natAbs = q.2.natAbs := Nat.dvd_antisymm d1 d2
  have e2 : p.2 = q.2 := by have := hp.pos; have := hq.pos; omega
  have e1 : p.1 = q.1 := by
    rw [e2] at h
    exact Int.eq_of_mul_eq_mul_right (by have := hq.pos; omega) h
  exact Prod.ext e1 e2
theorem low_cross {t b : Int} (h : b ≠ 0) : (low t b).1 * b = t * (low t b).2 := by
  have h1 := low_l (t := t) h
  have h2 := low_r (t := t) h
  calc (low t b).1 * b = (low t b).1 * (shr t b * (low t b).2) := by rw [← h2]
    _ = (shr t b * (low t b).1) * (low t b).2 := by rw [← Int.mul_assoc, Int.mul_comm (low t b).1]
    _ = t * (low t b).2 := by rw [← h1]
theorem low_of {t b : Int} {q : Int × Int} (h : b ≠ 0) (hq : Low q) (e : t * q.2 = q.1 * b) : low t b = q := by
  refine (low_low h).uniq hq ?_
  have c := low_cross (t := t) h
  have : (low t b).1 * q.2 * b = q.1 * (low t b).2 * b := by
    calc (low t b).1 * q.2 * b = ((low t b).1 * b) * q.2 := by rw [Int.mul_right_comm]
      _ = (t * (low t b).2) * q.2 := by rw [c]
      _ = (t * q.2) * (low t b).2 := by rw [Int.mul_right_comm]
      _ = (q.1 * b) * (low t b).2 := by rw [e]
      _ = q.1 * (low t b).2 * b := by rw [Int.mul_right_comm]
  exact Int.eq_of_mul_eq_mul_right h this
/-- what is in lowest terms stays -/
theorem low_self {p : Int × Int} (h : Low p) : low p.1 p.2 = p := low_of (by have := h.pos; omega) h (by rw [Int.mul_comm])
theorem low_abs {t b : Int} : (low t b).1.natAbs ≤ t.natAbs ∧ (low t b).2.natAbs ≤ b.natAbs := ⟨Int.natAbs_fdiv_le_natAbs _ _, Int.natAbs_fdiv_le_natAbs _ _⟩
theorem low_zero {t b : Int} (h : b ≠ 0) : (low t b).1 = 0 ↔ t = 0 := by
  have e := low_l (t := t) h
  have s := shr_ne (t := t) h
  constructor
  · intro z
    rw [z, Int.mul_zero] at e
    exact e
  · intro z
    rw [z] at e
    rcases Int.mul_eq_zero.mp e.symm with q | q
    · exact absurd (by rw [z]; exact q) s
    · rw [z]; exact q
end K03
end
section
set_option maxHeartbeats 4000000
set_option exponentiation.threshold 100000
namespace K03
open PySem PySem.Spec PyProof.Rows L2
section
variable {P : Program} {w : World} {K : PySem.W.Frag} {mg : Str → Option Value} {base : Heap} {cB cN C fI fo fa fb : Addr} {fdo fda fdb : FuncData}
end
end K03
end
section
set_option maxHeartbeats 4000000
namespace L2
open PySem PySem.Spec PyProof.Rows TL
end L2
end
section
set_option maxHeartbeats 4000000
set_option exponentiation.threshold 100000
namespace K03
open PySem PySem.Spec PyProof.Rows L2 TL
theorem log2_small {n k : Nat} (h : n < 2 ^ k) (hk : 0 < k) : n.log2 < k := by
  by_cases h0 : n = 0
  · subst h0; simpa using hk
  · exact (Nat.log2_lt h0).mpr h
section
variable {P : Program} {w : World} {K : PySem.W.Frag} {mg : Str → Option Value} {base : Heap} {cB cN C fI fo fa fb : Addr} {fdo fda fdb : FuncData} {tG : Tok}
end
end K03
end
section
set_option maxHeartbeats 4000000
set_option exponentiation.threshold 100000
namespace L2
open PySem PySem.Spec PyProof.Rows
end L2
namespace K03
open PySem PySem.Spec PyProof.Rows L2 TL
section
variable {P : Program} {w : World} {K : PySem.W.Frag} {mg : Str → Option Value} {base : Heap} {cB cN C fI fo fa fb : Addr} {fdo fda fdb : FuncData}
end
end K03
end
section
set_option maxHeartbeats 4000000
namespace K03
open PySem PySem.Spec PyProof.Rows L2
section
variable {P : Program} {w : World} {K : PySem.W.Frag} {mg : Str → Option Value} {base : Heap}
end
end K03
end
section
set_option maxHeartbeats 4000000
namespace L3
open PySem PySem.Spec PyProof.Rows L2
section
variable {X : Cx} {Wout : WX}
end
end L3
end
section
set_option maxHeartbeats 4000000
namespace L3
open PySem PySem.Spec PyProof.Rows L2
theorem none_same {H H' : Hp} {b : Addr} (s : Same H H') (h : H' b = none) : H b = none := by
  cases z : H b with
  | none => rfl
  | some o => rw [s _ _ z] at h; cases h
end L3
namespace K03
open PySem PySem.Spec PyProof.Rows L2 LamX NdefX L3
/-- the errors' classes, as clauses ask of them -/
structure ExmR (K : PySem.W.Frag) (cB cN : Addr) : Prop where
  bb : PySem.W.exmOne K (.ref cB) (.ref cB) = some true
  nb : PySem.W.exmOne K (.ref cN) (.ref cB) = some false
  nn : PySem.W.exmOne K (.ref cN) (.ref cN) = some true
end K03
end
section
set_option maxHeartbeats 4000000
namespace L3
open PySem PySem.Spec PyProof.Rows L2 LamX NdefX
end L3
end
section
set_option maxHeartbeats 4000000
set_option exponentiation.threshold 100000
namespace L3
open PySem PySem.Spec PyProof.Rows L2 LamX NdefX
end L3
namespace K03
open PySem PySem.Spec PyProof.Rows L2 LamX NdefX L3 TL
end K03
end
section
set_option maxHeartbeats 4000000
namespace K03
open PySem PySem.Spec PyProof.Rows L2 LamX NdefX L3 TL
end K03
end
section
set_option maxHeartbeats 4000000
namespace L3
open PySem PySem.Spec PyProof.Rows L2
section
variable {X : Cx} {CX : CXT} {k n : Nat} {f : Addr} {fd : FuncData} {ps ks : List Str} {sp : Sp} {E : XK} {x : Str} {p pos : Pos} {e : Expr} {es : List Expr} {kws : List Keyword} {t tk : TA} {g : List Value → List Value → List Value} {gV : List V → List V → List V}
end
end L3
end
section
set_option maxHeartbeats 4000000
namespace L3
open PySem PySem.Spec PyProof.Rows L2 K03
/-- a def of the text that keeps its promise, and stands under its name -/
structure Dfn (P : Program) (w : World) (K : PySem.W.Frag) (mg : Str → Option Value) (base : Heap) (CX : CXT) (k : Nat) (x : Str) (ps : List Str) (sp : Sp) : Prop where
  ex : ∃ f fd, FnOk P w K mg base CX k f fd ps sp ∧ mg x = some (.ref f) ∧ PySem.W.keepIn K (.ref f) = true ∧ Binds K fd ps []
section
variable {X : Cx} {CX : CXT} {k j : Nat} {ps : List Str} {sp : Sp} {E : XK} {x : Str} {p pos : Pos} {e : Expr} {es : List Expr} {t : TA}
/-- f(e, ..), f a def that raises nothing -/
theorem dc (h : Dfn X.prog X.w X.K X.mg X.base CX0 k x ps sp) (hr : Room j X.A) (hj : k ≤ j) (ha : PA X (e :: es) t) (hg : Gl X x := by rfl) (hdb : (x == ("__debug__" : Str)) = false := by decide)
    (he : starEach (e :: es) X.env = (false, eval e X.env) :: starEach es X.env := by rfl) (hpl : (backTo pos (starEach es X.env)).any (·.1) = false := by rfl) : PE X (.Call (.Name x p) (e :: es) [] pos) (tCall sp [] E0 t) := by
  obtain ⟨f, fd, G, g, kp, b⟩ := h.ex
  exact pe_call G (hr.mono hj) hg g kp b .nil pass0 ha hdb he hpl
/-- .. one that may raise, here it does not -/
theorem dcL (h : Dfn X.prog X.w X.K X.mg X.base (L2.CX X.prog X.w) k x ps sp) (hr : Room j X.A) (hj : k ≤ j) (ha : PA X (e :: es) t) (hg : Gl X x := by rfl) (hdb : (x == ("__debug__" : Str)) = false := by decide)
    (he : starEach (e :: es) X.env = (false, eval e X.env) :: starEach es X.env := by rfl) (hpl : (backTo pos (starEach es X.env)).any (·.1) = false := by rfl) : PE X (.Call (.Name x p) (e :: es) [] pos) (tCall sp [] E0 t) := by
  obtain ⟨f, fd, G, g, kp, b⟩ := h.ex
  exact pe_call (E := E0) G (hr.mono hj) hg g kp b .nil passL ha hdb he hpl
/-- .. one that may raise, its errors leave the def -/
theorem dcE (h : Dfn X.prog X.w X.K X.mg X.base (L2.CX X.prog X.w) k x ps sp) (hr : Room j X.A) (hj : k ≤ j) (hx : Passes (L2.CX X.prog X.w) X E) (ha : PA X (e :: es) t) (hg : Gl X x := by rfl) (hdb : (x == ("__debug__" : Str)) = false := by decide)
    (he : starEach (e :: es) X.env = (false, eval e X.env) :: starEach es X.env := by rfl) (hpl : (backTo pos (starEach es X.env)).any (·.1) = false := by rfl) : PE X (.Call (.Name x p) (e :: es) [] pos) (tCall sp [] E t) := by
  obtain ⟨f, fd, G, g, kp, b⟩ := h.ex
  exact pe_call (E := E) G (hr.mono hj) hg g kp b .nil hx ha hdb he hpl
end
end L3
end
section
set_option maxHeartbeats 4000000
set_option exponentiation.threshold 100000
namespace K03
open PySem PySem.Spec PyProof.Rows L2 LamX NdefX L3
abbrev sDraw67 : Stmt := top 58
abbrev sPick67 : Stmt := top 59
section
variable {P : Program} {w : World} {K : PySem.W.Frag} {mg : Str → Option Value} {base : Heap} {cB cN C fI : Addr}
theorem scDraw67 : FnScope ["_law_pen", "_law_span", "_law_digit", "_law_count", "_law_cell", "_law_first", "_law_blend_here"] ["_law_pen", "_law_span"] (defScope sDraw67) := ⟨rfl, rfl, rfl, by decide +kernel, rfl, by decide +kernel, by decide +kernel⟩
theorem ok_draw67 {f : Addr} {fd : FuncData} (F : Fun K "_law_draw" "_law_draw" sDraw67 f fd) (T : TxtR mg) : FnOk P w K mg base CX0 1 f fd ["_law_pen", "_law_span"] spDraw := by
  refine F.ok scDraw67 (fun vs H Q E h => ?_) (fun cdv A outer s H vs Q E hr h => ?_)
  · obtain ⟨d, c, s, r, many, cells, rfl, _⟩ := h
    rfl
  · obtain ⟨d, c, st, r, many, cells, rfl, p, h0, h1, hl, hm, hm2, k⟩ := h
    have hu := hu_of hr
    have nd := scDraw67.nd
    refine ⟨_, (pss_cons (ps_if (pt_cmpR op_ge (pe_dget hu (pv 0) pe_str (fun _ _ => rfl)) (pv 1) (nomark _)) (pss_cons (ps_set (i := 2) nd rfl (Or.inl rfl) (pe_op op_mod (pe_callTy call_int1 (by rfl) T.int (by decide +kernel) (pa_cons (pe_dget hu (pv 0) pe_str (fun _ _ => rfl)) pa_nil)) (pv 1)))
      (pss_cons (ps_dput hu (pv 0) pe_str (pe_op op_fdiv (pe_dget hu (pv 0) pe_str (fun _ _ => rfl)) (pv 1)) rfl)
      (pss_one (ps_ret (pv 2))))) pss_nil)
      (pss_cons (ps_set (i := 3) nd rfl (Or.inl rfl) (pe_dget hu (pv 0) pe_str (fun _ _ => rfl)))
      (pss_cons (ps_dput hu (pv 0) pe_str (pe_op op_add (pv 3) pe_int) rfl)
      (pss_cons (ps_set (i := 4) nd rfl (Or.inl rfl) (pe_op op_add (pe_op op_mul pe_int (pv 3)) pe_int))
      (pss_cons (ps_if (pt_cmpR (op_neD hr.units) (pe_dget hu (pv 0) pe_str (fun _ _ => rfl)) (pe_lst pa_nil) (nomark _)) (pss_one (ps_set (i := 4) nd rfl (Or.inl rfl) (pe_ix ix_list (pe_dget hu (pv 0) pe_str (fun _ _ => rfl)) (pe_op op_mod (pe_callTy call_int1 (by rfl) T.int (by decide +kernel) (pa_cons (pv 3) pa_nil)) (pe_callB call_len_seq (by rfl) T.len PySem.boot_len (pa_cons (pe_dget hu (pv 0) pe_str (fun _ _ => rfl)) pa_nil))) (fun _ _ => rfl)))) pss_nil)
      (pss_cons (ps_if (PW.pt (pw_and (pt_cmpR op_lt (pv 3) (pe_callB call_len_seq (by rfl) T.len PySem.boot_len (pa_cons (pe_dget hu (pv 0) pe_str (fun _ _ => rfl)) pa_nil)) (nomark _)) (pw_and1 (pt_cmpR op_ge (pv 4) (pe_op op_pow pe_int pe_int) (nomark _))))) (pss_cons (ps_dput hu (pv 0) pe_str (pe_op op_fdiv (pe_op op_sub (pv 4) (pe_op op_pow pe_int pe_int)) (pv 1)) rfl)
      (pss_one (ps_ret (pe_op op_mod (pe_callTy call_int1 (by rfl) T.int (by decide +kernel) (pa_cons (pe_op op_sub (pv 4) (pe_op op_pow pe_int pe_int)) pa_nil)) (pv 1))))) pss_nil)
      (pss_cons (ps_set (i := 5) nd rfl (Or.inl rfl) (pe_op op_add (pe_op op_mul (pe_op op_mod (pe_callTy call_int1 (by rfl) T.int (by decide +kernel) (pa_cons (pv 4) pa_nil)) pe_int) pe_int) (pe_op op_mul (pe_op op_mul pe_int (pv 3)) (pv 3))))
      (pss_cons (ps_set (i := 6) nd rfl (Or.inl rfl) (pe_op op_mod (pe_callTy call_int1 (by rfl) T.int (by decide +kernel) (pa_cons (pe_op op_add (pe_op op_add (pv 5) (pe_op op_mul pe_int (pv 3))) pe_int) pa_nil)) pe_int))
      (pss_cons (ps_set (i := 6) nd rfl (Or.inl rfl) (pe_op op_mod (pe_callTy call_int1 (by rfl) T.int (by decide +kernel) (pa_cons (pe_op op_mul (pv 6) (pe_op op_add (pv 6) pe_int)) pa_nil)) pe_int))
      (pss_one (ps_ret (pe_op op_mod (pe_callTy call_int1 (by rfl) T.int (by decide +kernel) (pa_cons (pe_op op_fdiv (pe_op op_mod (pe_callTy call_int1 (by rfl) T.int (by decide +kernel) (pa_cons (pe_op op_add (pe_op op_mul (pv 6) (pv 6)) (pe_op op_mul pe_int (pv 6))) pa_nil)) pe_int) pe_int) pa_nil)) (pv 1))))))))))))), ?_⟩
    have gs : ∀ {H' : Hp} {s' r' : Int}, PenAt H' d c s' r' cells → DGet H' d (.str "count") (some (.int s')) := fun {H' s' r'} q => by
      have z := DGet.k (k := (.inr "count" : Key)) q.dc
      rw [pen_stop] at z
      exact z
    have gr : ∀ {H' : Hp} {s' r' : Int}, PenAt H' d c s' r' cells → DGet H' d (.str "left") (some (.int r')) := fun {H' s' r'} q => by
      have z := DGet.k (k := (.inr "left" : Key)) q.dc
      rw [pen_rest] at z
      exact z
    have gc : ∀ {H' : Hp} {s' r' : Int}, PenAt H' d c s' r' cells → DGet H' d (.str "cells") (some (.ref c)) := fun {H' s' r'} q => by
      have z := DGet.k (k := (.inr "cells" : Key)) q.dc
      rw [pen_cells] at z
      exact z
    have us : ∀ {H' : Hp} {s' r' : Int} (z : Int), PenAt H' d c s' r' cells → DPut H' d (.str "count") (.int z) (upd H' d (.dK (pen c z r'))) := fun {H' s' r'} z q => by
      have y := DPut.k (k := (.inr "count" : Key)) (v := .int z) q.dc (by show 3 < sizeLine; decide)
      rw [put_stop] at y
      exact y
    have ur : ∀ {H' : Hp} {s' r' : Int} (z : Int), PenAt H' d c s' r' cells → DPut H' d (.str "left") (.int z) (upd H' d (.dK (pen c s' z))) := fun {H' s' r'} z q => by
      have y := DPut.k (k := (.inr "left" : Key)) (v := .int z) q.dc (by show 3 < sizeLine; decide)
      rw [put_rest] at y
      exact y
    -- if pen["left"] >= many
    refine ⟨_, rfl, d, _, rfl, gr p, _, rfl, _, _, rfl, rfl, _, rfl, ?_⟩
    refine ite2 (fun _ => ?_) (fun _ => ?_)
    · refine ⟨_, rfl, d, _, rfl, gr p, .inl ⟨_, rfl, _, rfl, _, _, rfl, rfl, hm, ?_⟩⟩
      refine ⟨_, rfl, d, _, rfl, gr p, _, rfl, _, _, rfl, rfl, ⟨hm, hm2⟩, _, rfl, d, _, rfl, ur _ p, ?_⟩
      exact ⟨_, rfl, k _ _ _ _ (Int.emod_nonneg _ (by omega)) (Int.emod_lt_of_pos _ hm) h0 (by omega) (p.set _ _) SameBut.refl.put⟩
    -- stop, cell
    have p1 := p.set (st + 1) r
    have frs : ∀ {H1 : Hp} {b : Addr}, H1 b = none → ∀ {a : Addr} {o : HO}, H1 a = some o → a ≠ b := fun h1 _ _ h2 => ne_of_none h2 h1
    refine ⟨_, rfl, d, _, rfl, gs p, _, rfl, _, _, rfl, rfl, _, rfl, d, _, rfl, us _ p, _, rfl, _, _, rfl, rfl, .inl ⟨by decide, by decide⟩, _, _, rfl, rfl, ?_⟩
    refine ⟨_, rfl, d, _, rfl, gc p1, by show 0 ≤ sizeLine; decide, fun l hn => ?_⟩
    have p2 := p1.new (o := .lst []) hn
    have sb : SameBut d H (upd (upd H d (.dK (pen c (st + 1) r))) l (.lst [])) := SameBut.refl.put.new hn
    have hl2 : upd (upd H d (.dK (pen c (st + 1) r))) l (.lst []) l = some (.lst []) := upd_same
    generalize upd (upd H d (.dK (pen c (st + 1) r))) l (.lst []) = H2 at p2 sb hl2 ⊢
    refine ⟨.list (cells.map PyData.int), .list [], .lst (SqL.of p2.ls) (dp_ints _), .lst (SqL.of hl2) .nil, PySem.W.ke_shaped_ints _, by decide +kernel, _, rfl, ?_⟩
    -- cell = cells[stop % len(cells)]
    refine ite2 (fun nz => ?_) (fun _ => ?_)
    · have pos : 0 < cells.length := by
        cases cells with
        | nil => exact absurd nz (by decide)
        | cons _ _ => exact Nat.succ_pos _
      have l0 : (0 : Int) < ((cells.map V.int).length : Int) := by rw [List.length_map]; omega
      obtain ⟨x, hx⟩ := at_mod pos st
      refine ⟨_, rfl, d, _, rfl, gc p2, _, rfl, .inl ⟨_, rfl, _, rfl, d, _, rfl, gc p2, c, _, rfl, .inl (SqL.of p2.ls), _, _, rfl, rfl, l0, c, _, _, .int x, rfl, rfl, SqL.of p2.ls, hx, ?_⟩⟩
      refine ⟨_, rfl, _, rfl, d, _, rfl, gc p2, c, _, rfl, .inl (SqL.of p2.ls), _, _, rfl, rfl, _, rfl, ?_⟩
      refine ite2 (fun _ => ?_) (fun _ => iteF ?_)
      · refine ⟨_, rfl, _, _, rfl, rfl, ⟨by decide, by decide, by decide⟩, _, _, rfl, rfl, _, rfl, ?_⟩
        refine ite2 (fun _ => ?_) (fun _ => ?_)
        · refine ⟨_, rfl, _, _, rfl, rfl, ⟨by decide, by decide, by decide⟩, _, _, rfl, rfl, _, rfl, _, _, rfl, rfl, ⟨hm, hm2⟩, _, rfl, d, _, rfl, ur _ p2, ?_⟩
          refine ⟨_, rfl, _, _, rfl, rfl, ⟨by decide, by decide, by decide⟩, _, _, rfl, rfl, .inl ⟨_, rfl, _, rfl, _, _, rfl, rfl, hm, ?_⟩⟩
          exact k _ _ _ _ (Int.emod_nonneg _ (by omega)) (Int.emod_lt_of_pos _ hm) (by omega) (Int.le_refl _) (p2.set _ _) sb.put
        · refine ⟨_, rfl, .inl ⟨_, rfl, _, _, rfl, rfl, (show (0 : Int) < 2147482661 by decide), _, _, rfl, rfl, .inr ⟨by decide, by decide⟩, _, rfl, _, _, rfl, rfl, .inl ⟨by decide, by decide⟩, _, rfl, _, _, rfl, rfl, .inr ⟨by omega, by omega⟩, _, _, rfl, rfl, ?_⟩⟩
          refine ⟨_, rfl, _, rfl, _, _, rfl, rfl, .inl ⟨by decide, by decide⟩, _, _, rfl, rfl, _, _, rfl, rfl, .inl ⟨_, rfl, _, _, rfl, rfl, (show (0 : Int) < 2147482763 by decide), ?_⟩⟩
          refine ⟨_, rfl, _, rfl, _, _, rfl, rfl, _, _, rfl, rfl, .inl (modb _ (by decide) (by decide)), .inl ⟨_, rfl, _, _, rfl, rfl, (show (0 : Int) < 2147482811 by decide), ?_⟩⟩
          refine ⟨_, rfl, _, rfl, _, _, rfl, rfl, .inl (modb _ (by decide) (by decide)), _, rfl, _, _, rfl, rfl, .inl ⟨by decide, by decide⟩, _, _, rfl, rfl, .inl ⟨_, rfl, _, _, rfl, rfl, (show (0 : Int) < 2147482873 by decide), _, _, rfl, rfl, ⟨by decide, by decide⟩, .inl ⟨_, rfl, _, rfl, _, _, rfl, rfl, hm, ?_⟩⟩⟩
          exact k _ _ _ _ (Int.emod_nonneg _ (by omega)) (Int.emod_lt_of_pos _ hm) (by omega) (Int.le_refl _) p2 sb
      · refine ⟨_, rfl, .inl ⟨_, rfl, _, _, rfl, rfl, (show (0 : Int) < 2147482661 by decide), _, _, rfl, rfl, .inr ⟨by decide, by decide⟩, _, rfl, _, _, rfl, rfl, .inl ⟨by decide, by decide⟩, _, rfl, _, _, rfl, rfl, .inr ⟨by omega, by omega⟩, _, _, rfl, rfl, ?_⟩⟩
        refine ⟨_, rfl, _, rfl, _, _, rfl, rfl, .inl ⟨by decide, by decide⟩, _, _, rfl, rfl, _, _, rfl, rfl, .inl ⟨_, rfl, _, _, rfl, rfl, (show (0 : Int) < 2147482763 by decide), ?_⟩⟩
        refine ⟨_, rfl, _, rfl, _, _, rfl, rfl, _, _, rfl, rfl, .inl (modb _ (by decide) (by decide)), .inl ⟨_, rfl, _, _, rfl, rfl, (show (0 : Int) < 2147482811 by decide), ?_⟩⟩
        refine ⟨_, rfl, _, rfl, _, _, rfl, rfl, .inl (modb _ (by decide) (by decide)), _, rfl, _, _, rfl, rfl, .inl ⟨by decide, by decide⟩, _, _, rfl, rfl, .inl ⟨_, rfl, _, _, rfl, rfl, (show (0 : Int) < 2147482873 by decide), _, _, rfl, rfl, ⟨by decide, by decide⟩, .inl ⟨_, rfl, _, rfl, _, _, rfl, rfl, hm, ?_⟩⟩⟩
        exact k _ _ _ _ (Int.emod_nonneg _ (by omega)) (Int.emod_lt_of_pos _ hm) (by omega) (Int.le_refl _) p2 sb
    · refine ⟨_, rfl, _, rfl, d, _, rfl, gc p2, c, _, rfl, .inl (SqL.of p2.ls), _, _, rfl, rfl, _, rfl, ?_⟩
      refine ite2 (fun _ => ?_) (fun _ => iteF ?_)
      · refine ⟨_, rfl, _, _, rfl, rfl, ⟨by decide, by decide, by decide⟩, _, _, rfl, rfl, _, rfl, ?_⟩
        refine ite2 (fun _ => ?_) (fun _ => ?_)
        · refine ⟨_, rfl, _, _, rfl, rfl, ⟨by decide, by decide, by decide⟩, _, _, rfl, rfl, _, rfl, _, _, rfl, rfl, ⟨hm, hm2⟩, _, rfl, d, _, rfl, ur _ p2, ?_⟩
          refine ⟨_, rfl, _, _, rfl, rfl, ⟨by decide, by decide, by decide⟩, _, _, rfl, rfl, .inl ⟨_, rfl, _, rfl, _, _, rfl, rfl, hm, ?_⟩⟩
          exact k _ _ _ _ (Int.emod_nonneg _ (by omega)) (Int.emod_lt_of_pos _ hm) (by omega) (Int.le_refl _) (p2.set _ _) sb.put
        · refine ⟨_, rfl, .inl ⟨_, rfl, _, _, rfl, rfl, (show (0 : Int) < 2147482661 by decide), _, _, rfl, rfl, .inr ⟨by decide, by decide⟩, _, rfl, _, _, rfl, rfl, .inl ⟨by decide, by decide⟩, _, rfl, _, _, rfl, rfl, .inr ⟨by omega, by omega⟩, _, _, rfl, rfl, ?_⟩⟩
          refine ⟨_, rfl, _, rfl, _, _, rfl, rfl, .inl ⟨by decide, by decide⟩, _, _, rfl, rfl, _, _, rfl, rfl, .inl ⟨_, rfl, _, _, rfl, rfl, (show (0 : Int) < 2147482763 by decide), ?_⟩⟩
          refine ⟨_, rfl, _, rfl, _, _, rfl, rfl, _, _, rfl, rfl, .inl (modb _ (by decide) (by decide)), .inl ⟨_, rfl, _, _, rfl, rfl, (show (0 : Int) < 2147482811 by decide), ?_⟩⟩
          refine ⟨_, rfl, _, rfl, _, _, rfl, rfl, .inl (modb _ (by decide) (by decide)), _, rfl, _, _, rfl, rfl, .inl ⟨by decide, by decide⟩, _, _, rfl, rfl, .inl ⟨_, rfl, _, _, rfl, rfl, (show (0 : Int) < 2147482873 by decide), _, _, rfl, rfl, ⟨by decide, by decide⟩, .inl ⟨_, rfl, _, rfl, _, _, rfl, rfl, hm, ?_⟩⟩⟩
          exact k _ _ _ _ (Int.emod_nonneg _ (by omega)) (Int.emod_lt_of_pos _ hm) (by omega) (Int.le_refl _) p2 sb
      · refine ⟨_, rfl, .inl ⟨_, rfl, _, _, rfl, rfl, (show (0 : Int) < 2147482661 by decide), _, _, rfl, rfl, .inr ⟨by decide, by decide⟩, _, rfl, _, _, rfl, rfl, .inl ⟨by decide, by decide⟩, _, rfl, _, _, rfl, rfl, .inr ⟨by omega, by omega⟩, _, _, rfl, rfl, ?_⟩⟩
        refine ⟨_, rfl, _, rfl, _, _, rfl, rfl, .inl ⟨by decide, by decide⟩, _, _, rfl, rfl, _, _, rfl, rfl, .inl ⟨_, rfl, _, _, rfl, rfl, (show (0 : Int) < 2147482763 by decide), ?_⟩⟩
        refine ⟨_, rfl, _, rfl, _, _, rfl, rfl, _, _, rfl, rfl, .inl (modb _ (by decide) (by decide)), .inl ⟨_, rfl, _, _, rfl, rfl, (show (0 : Int) < 2147482811 by decide), ?_⟩⟩
        refine ⟨_, rfl, _, rfl, _, _, rfl, rfl, .inl (modb _ (by decide) (by decide)), _, rfl, _, _, rfl, rfl, .inl ⟨by decide, by decide⟩, _, _, rfl, rfl, .inl ⟨_, rfl, _, _, rfl, rfl, (show (0 : Int) < 2147482873 by decide), _, _, rfl, rfl, ⟨by decide, by decide⟩, .inl ⟨_, rfl, _, rfl, _, _, rfl, rfl, hm, ?_⟩⟩⟩
        exact k _ _ _ _ (Int.emod_nonneg _ (by omega)) (Int.emod_lt_of_pos _ hm) (by omega) (Int.le_refl _) p2 sb
theorem scPick67 : FnScope ["_law_pen", "_law_some"] ["_law_pen", "_law_some"] (defScope sPick67) := ⟨rfl, rfl, rfl, by decide +kernel, rfl, by decide +kernel, by decide +kernel⟩
theorem ok_pick67 {f : Addr} {fd : FuncData} (F : Fun K "_law_pick" "_law_pick" sPick67 f fd) (hD : Dfn P w K mg base CX0 1 "_law_draw" ["_law_pen", "_law_span"] spDraw) (T : TxtR mg) :
    FnOk P w K mg base CX0 2 f fd ["_law_pen", "_law_some"] spPick := by
  refine F.ok scPick67 (fun vs H Q E h => ?_) (fun cdv A outer s H vs Q E hr h => ?_)
  · obtain ⟨d, c, l, s, r, cells, xs, rfl, _⟩ := h
    rfl
  · obtain ⟨d, c, l, st, r, cells, xs, rfl, p, h0, h1, hl, hx, hp, hm, k⟩ := h
    refine ⟨_, pss_one (ps_ret (pe_ix ix_list (pv 1) (dc hD hr (by decide) (pa_cons (pv 0) (pa_cons (pe_callB call_len_seq (by rfl) T.len PySem.boot_len (pa_cons (pv 1) pa_nil)) pa_nil))) (fun _ _ => rfl))), ?_⟩
    refine ⟨_, rfl, _, rfl, _, rfl, l, _, rfl, .inl (SqL.of hx), d, c, st, r, _, cells, rfl, p, h0, h1, hl, by omega, by omega, fun n s' r' H' a1 a2 a3 a4 a5 a6 => ?_⟩
    have ex : H' l = some (.lst xs) := a6 l _ hx (ne_of hx p.dc (by intro z; cases z))
    obtain ⟨j, rfl⟩ : ∃ j : Nat, n = (j : Int) := ⟨n.toNat, by omega⟩
    have hn : j < xs.length := by omega
    exact ⟨l, xs, _, xs[j], rfl, rfl, SqL.of ex, atI_nat (List.getElem?_eq_getElem hn), k _ s' r' H' (List.getElem_mem hn) a3 a4 a5 a6⟩
end
end K03
end
section
set_option maxHeartbeats 4000000
namespace K03
open PySem PySem.Spec PyProof.Rows L2 LamX NdefX L3
abbrev sNum2 : Stmt := top 68
/-- a drawn number -/
structure NumD (p : Int × Int) : Prop where
  l : Low p
  t : p.1.natAbs ≤ 10 ^ 40
  b : p.2.natAbs ≤ 100
theorem SameBut.tr {d : Addr} {H H1 H2 : Hp} (a : SameBut d H H1) (b : SameBut d H1 H2) : SameBut d H H2 := fun x o e n => b x o (a x o e n) n
theorem SameBut.by {d : Addr} {H H1 : Hp} (a : Same H H1) : SameBut d H H1 := fun x o e _ => a x o e
theorem PenAt.to {H H' : Hp} {d c : Addr} {s r : Int} {cells : List Int} (p : PenAt H d c s r cells) (e : Same H H') : PenAt H' d c s r cells := ⟨e _ _ p.dc, e _ _ p.ls⟩
/-- nothing that is tracked is lost or given up -/
def spNum : Sp := fun vs H Q _ => ∃ (d c : Addr) (s r : Int) (cells : List Int), vs = [.ref d] ∧ PenAt H d c s r cells ∧ 0 ≤ s ∧ s + 20 ≤ 100000 ∧ cells.length ≤ 63 ∧
  ∀ (t : Addr) (p : Int × Int) (s' r' : Int) (H' : Hp), NumD p → 0 ≤ s' → s' ≤ s + 12 → PenAt H' d c s' r' cells → SameBut d H H' → Pair H' t p → Q (.ref t) H'
theorem pow10 : (10 : Int) ^ (10 : Int).toNat = 10000000000 := by decide
theorem pow9 : (10 : Int) ^ (9 : Int).toNat = 1000000000 := by decide
section
variable {P : Program} {w : World} {K : PySem.W.Frag} {mg : Str → Option Value} {base : Heap} {cB cN C fI fD fP fQ : Addr} {fdD fdP fdQ : FuncData}
theorem scNum2 : FnScope ["_law_pen", "_law_sort", "_law_top", "_law_k"] ["_law_pen"] (defScope sNum2) := ⟨rfl, rfl, rfl, by decide +kernel, rfl, by decide +kernel, by decide +kernel⟩
theorem ok_num2 {f : Addr} {fd : FuncData} (F : Fun K "_law_number" "_law_number" sNum2 f fd) (T : TxtR mg) (G : FnOk P w K mg base CX0 1 fD fdD ["_law_pen", "_law_span"] spDraw) (gD : mg "_law_draw" = some (.ref fD)) (kD : PySem.W.keepIn K (.ref fD) = true) (bD : Binds K fdD ["_law_pen", "_law_span"] [])
    (Gp : FnOk P w K mg base CX0 2 fP fdP ["_law_pen", "_law_some"] spPick) (gP : mg "_law_pick" = some (.ref fP)) (kP : PySem.W.keepIn K (.ref fP) = true) (bP : Binds K fdP ["_law_pen", "_law_some"] [])
    (Gq : FnOk P w K mg base CX0 2 fQ fdQ ["_law_top", "_law_bottom"] spLowest) (gQ : mg "_law_q" = some (.ref fQ)) (kQ : PySem.W.keepIn K (.ref fQ) = true) (bQ : Binds K fdQ ["_law_top", "_law_bottom"] []) :
    FnOk P w K mg base CX0 3 f fd ["_law_pen"] spNum := by
  refine F.ok scNum2 (fun vs H Q E h => ?_) (fun cdv A outer s H vs Q E hr h => ?_)
  · obtain ⟨d, c, s, r, cells, rfl, _⟩ := h
    rfl
  · obtain ⟨d, c, st, r, cells, rfl, p, h0, h1, hl, k⟩ := h
    have nd := scNum2.nd
    have hr1 : Room 1 _ := hr.mono (by decide)
    refine ⟨_, pss_cons (ps_set (i := 1) nd rfl (Or.inl rfl) (pe_call G hr1 (by rfl) gD kD bD .nil pass0 (pa_cons (pv 0) (pa_cons pe_int pa_nil))))
      (pss_cons (ps_if (pt_cmpR op_lt (pv 1) pe_int (nomark _)) (pss_one (ps_ret (pe_tup (pa_cons (pe_op op_sub (pe_call G hr1 (by rfl) gD kD bD .nil pass0 (pa_cons (pv 0) (pa_cons pe_int pa_nil))) pe_int) (pa_cons pe_int pa_nil))))) pss_nil)
      (pss_cons (ps_if (pt_cmpR op_lt (pv 1) pe_int (nomark _)) (pss_one (ps_ret (pe_call Gq hr (by rfl) gQ kQ bQ .nil pass0 (pa_cons (pe_op op_sub (pe_call G hr1 (by rfl) gD kD bD .nil pass0 (pa_cons (pv 0) (pa_cons pe_int pa_nil))) pe_int) (pa_cons (pe_op op_add pe_int (pe_call G hr1 (by rfl) gD kD bD .nil pass0 (pa_cons (pv 0) (pa_cons pe_int pa_nil)))) pa_nil))))) pss_nil)
      (pss_cons (ps_set (i := 2) nd rfl (Or.inl rfl) pe_int)
      (pss_cons (ps_for PassesOwn.never rfl (pi_range1 rfl T.range (pa_cons pe_int pa_nil)) (pg_name (i := 3) nd rfl (Or.inl rfl))
        (pss_one (ps_set (i := 2) nd rfl (Or.inl rfl) (pe_op op_add (pe_op op_add (pe_op op_mul (pv 2) (pe_op op_pow pe_int pe_int)) (pe_op op_mul (pe_call G hr1 (by rfl) gD kD bD .nil pass0 (pa_cons (pv 0) (pa_cons (pe_op op_pow pe_int pe_int) pa_nil))) pe_int)) (pe_call G hr1 (by rfl) gD kD bD .nil pass0 (pa_cons (pv 0) (pa_cons pe_int pa_nil)))))))
      (pss_one (ps_ret (pe_tup (pa_cons (pe_op op_mul (pv 2) (pe_call Gp hr (by rfl) gP kP bP .nil pass0 (pa_cons (pv 0) (pa_cons (pe_lst (pa_cons pe_int (pa_cons (pe_un un_neg pe_int) pa_nil))) pa_nil)))) (pa_cons pe_int pa_nil))))))))), ?_⟩
    refine ⟨_, rfl, d, c, st, r, _, cells, rfl, p, h0, by omega, hl, by decide, by decide, fun k1 s1 r1 H1 a1 a2 a3 a4 a5 a6 => ?_⟩
    refine ⟨_, rfl, _, _, rfl, rfl, _, rfl, ?_⟩
    refine ite2 (fun _ => ?_) (fun _ => ?_)
    · refine ⟨_, rfl, d, c, s1, r1, _, cells, rfl, a5, a3, by omega, hl, by decide, by decide, fun k2 s2 r2 H2 b1 b2 b3 b4 b5 b6 => ?_⟩
      refine ⟨_, _, rfl, rfl, by show 2 ≤ sizeLine; decide, fun t nt => ?_⟩
      exact k t (k2 - 6, 1) s2 r2 _ ⟨⟨by show (0 : Int) < 1; decide, Nat.coprime_one_right _⟩, Nat.le_trans (show (k2 - 6).natAbs ≤ 100 by omega) (by decide), by show (1 : Int).natAbs ≤ 100; decide⟩ b3 (by omega) (b5.new nt) ((a6.tr b6).new nt) upd_same
    refine ⟨_, rfl, _, _, rfl, rfl, _, rfl, ?_⟩
    refine ite2 (fun _ => ?_) (fun _ => ?_)
    · refine ⟨_, rfl, d, c, s1, r1, _, cells, rfl, a5, a3, by omega, hl, by decide, by decide, fun k2 s2 r2 H2 b1 b2 b3 b4 b5 b6 => ?_⟩
      refine ⟨_, _, rfl, rfl, _, rfl, d, c, s2, r2, _, cells, rfl, b5, b3, by omega, hl, by decide, by decide, fun k3 s3 r3 H3 c1 c2 c3 c4 c5 c6 => ?_⟩
      refine ⟨_, _, rfl, rfl, _, _, rfl, by omega, Nat.lt_of_le_of_lt (show (1 + k3).natAbs ≤ 100 by omega) (by decide +kernel), fun t H4 nt s4 pt => ?_⟩
      have nz : (1 : Int) + k3 ≠ 0 := by omega
      exact k t _ s3 r3 H4 ⟨low_low nz, Nat.le_trans low_abs.1 (Nat.le_trans (show (k2 - 20).natAbs ≤ 100 by omega) (by decide)), Nat.le_trans low_abs.2 (by omega)⟩ c3 (by omega) (c5.to s4) (((a6.tr b6).tr c6).tr (SameBut.by s4)) pt
    refine ⟨4, rfl, by decide, by decide, ?_⟩
    refine for_range (lo := 0) (n := 4) (fun i σ H' => ∃ (n s' r' : Int) (o : Option V), σ = [some (.ref d), some (.int k1), some (.int n), o] ∧ 0 ≤ n ∧ n < 10 ^ (10 * i) ∧ PenAt H' d c s' r' cells ∧ 0 ≤ s' ∧ s' ≤ st + 1 + 2 * i ∧ SameBut d H H') ⟨0, s1, r1, none, rfl, by decide, by decide, a5, a3, by omega, a6⟩ ?_ ?_
    · rintro i σ H' hi ⟨n, s', r', o, rfl, n0, n1, p', s0, s1', sb⟩
      refine ⟨_, rfl, _, _, rfl, rfl, ⟨by decide, by decide, by decide⟩, _, _, rfl, rfl, ?_, ?_⟩
      · rw [pow10]
        exact .inr ⟨by decide, by decide⟩
      refine ⟨_, rfl, _, _, rfl, rfl, ⟨by decide, by decide, by decide⟩, d, c, s', r', _, cells, rfl, p', s0, by omega, hl, ?_, ?_, fun k2 s2 r2 H2 b1 b2 b3 b4 b5 b6 => ?_⟩
      · rw [pow9]; decide
      · rw [pow9]; decide
      rw [pow9] at b2
      refine ⟨_, _, rfl, rfl, .inr ⟨by decide, by decide⟩, _, _, rfl, rfl, ?_⟩
      refine ⟨_, rfl, d, c, s2, r2, _, cells, rfl, b5, b3, by omega, hl, by decide, by decide, fun k3 s3 r3 H3 c1 c2 c3 c4 c5 c6 => ?_⟩
      refine ⟨_, _, rfl, rfl, ?_⟩
      refine ⟨_, s3, r3, _, rfl, ?_, ?_, c5, c3, by omega, (sb.tr b6).tr c6⟩
      · rw [pow10]
        omega
      · rw [pow10, Nat.mul_succ, Int.pow_add]
        have : (10 : Int) ^ 10 = 10000000000 := by decide
        rw [this]
        omega
    · rintro σ H' ⟨n, s', r', o, rfl, n0, n1, p', s0, s1', sb⟩
      have n1 : n < 10000000000000000000000000000000000000000 := by
        have e : (10 : Int) ^ (10 * 4) = 10000000000000000000000000000000000000000 := by decide
        rw [e] at n1
        exact n1
      refine ⟨_, rfl, _, rfl, _, rfl, by show 2 ≤ sizeLine; decide, fun l hn => ?_⟩
      have pl := p'.new (o := .lst [V.int 1, V.int (-1)]) hn
      have sbl := sb.new (o := .lst [V.int 1, V.int (-1)]) hn
      refine ⟨d, c, l, s', r', cells, [V.int 1, V.int (-1)], rfl, pl, s0, by omega, hl, upd_same, by decide, by decide, fun v s2 r2 H2 hv b3 b4 b5 b6 => ?_⟩
      have hv : v = .int 1 ∨ v = .int (-1) := by
        rcases List.mem_cons.mp hv with e | hv
        · exact .inl e
        · rcases List.mem_cons.mp hv with e | hv
          · exact .inr e
          · cases hv
      have fin : ∀ e : Int, e = 1 ∨ e = -1 → ∀ t, H2 t = none → Q (.ref t) (upd H2 t (.tup [.int (n * e), .int 1])) := by
        intro e he t nt
        refine k t (n * e, 1) s2 r2 _ ⟨⟨by show (0 : Int) < 1; decide, Nat.coprime_one_right _⟩, ?_, by show (1 : Int).natAbs ≤ 100; decide⟩ b3 (by omega) (b5.new nt) ((sbl.tr b6).new nt) upd_same
        rcases he with rfl | rfl
        · show (n * 1).natAbs ≤ 10 ^ 40
          omega
        · show (n * -1).natAbs ≤ 10 ^ 40
          omega
      rcases hv with rfl | rfl
      · exact ⟨_, _, rfl, rfl, .inr ⟨by decide, by decide⟩, by show 2 ≤ sizeLine; decide, fun t nt => fin 1 (.inl rfl) t nt⟩
      · exact ⟨_, _, rfl, rfl, .inr ⟨by decide, by decide⟩, by show 2 ≤ sizeLine; decide, fun t nt => fin (-1) (.inr rfl) t nt⟩
end
end K03
end
section
set_option maxHeartbeats 4000000
namespace K03
open PySem PySem.Spec PyProof.Rows L2 LamX NdefX L3
def PairV (H : Hp) (v : V) (p : Int × Int) : Prop := ∃ t, v = .ref t ∧ Pair H t p
theorem PairV.grow {H : Hp} {D : Addr} {rs ys : List V} (hD : H D = some (.lst rs)) {v : V} {p : Int × Int} (h : PairV H v p) : PairV (upd H D (.lst ys)) v p := by
  obtain ⟨t, e, h⟩ := h
  have ne : t ≠ D := fun z => by
    have h : H t = some (.tup [.int p.1, .int p.2]) := h
    rw [z, hD] at h
    cases h
  refine ⟨t, e, ?_⟩
  show upd H D (.lst ys) t = _
  rw [upd_ne ne]
  exact h
def spPO (C : Addr) : Sp := fun vs H Q _ => ∃ (v : V) (p : Int × Int), vs = [v] ∧ RV C H v p ∧ NewP H Q p
section
variable {P : Program} {w : World} {K : PySem.W.Frag} {mg : Str → Option Value} {base : Heap} {cB cN C fI : Addr}
end
end K03
end
section
set_option maxHeartbeats 4000000
namespace K03
open PySem PySem.Spec PyProof.Rows L2 LamX NdefX L3
theorem PairV.but {d : Addr} {H H' : Hp} {c : Addr} {s r : Int} {cells : List Int} {v : V} {p : Int × Int} (h : PairV H v p) (pe : PenAt H d c s r cells) (e : SameBut d H H') : PairV H' v p := by
  obtain ⟨t, e1, h⟩ := h
  exact ⟨t, e1, e _ _ h (ne_of h pe.dc (by intro z; cases z))⟩
section
variable {P : Program} {w : World} {K : PySem.W.Frag} {mg : Str → Option Value} {base : Heap} {fN : Addr} {fdN : FuncData}
end
end K03
end
section
set_option maxHeartbeats 4000000
namespace K03
open PySem PySem.Spec PyProof.Rows L2 LamX NdefX L3
theorem Sh.but {C d : Addr} {H H' : Hp} {c : Addr} {s r : Int} {cells : List Int} {v : V} {p : Int × Int} (h : Sh C H v p) (pe : PenAt H d c s r cells) (e : SameBut d H H') : Sh C H' v p := by
  rcases h with h | ⟨a, dx, e1, ha⟩
  · exact .inl h
  · exact .inr ⟨a, dx, e1, e _ _ ha (ne_of ha pe.dc (by intro z; cases z))⟩
theorem Sh.grow {C D : Addr} {H : Hp} {rs ys : List V} (hD : H D = some (.lst rs)) {v : V} {p : Int × Int} (h : Sh C H v p) : Sh C (upd H D (.lst ys)) v p := h.elim .inl fun h => .inr (rv_grow hD h)
section
variable {P : Program} {w : World} {K : PySem.W.Frag} {mg : Str → Option Value} {base : Heap} {cB cN C fI fD fT fo : Addr} {fdD fdT fdo : FuncData}
end
end K03
end
section
set_option maxHeartbeats 4000000
namespace K03
open PySem PySem.Spec PyProof.Rows L2 LamX NdefX L3
def PairsV (H : Hp) (v : V) (ps : List (Int × Int)) : Prop := ∃ a xs, v = .ref a ∧ H a = some (.lst xs) ∧ Paired (PairV H) xs ps
section
variable {P : Program} {w : World} {K : PySem.W.Frag} {mg : Str → Option Value} {base : Heap} {C fo : Addr} {fdo : FuncData}
end
end K03
end
section
set_option maxHeartbeats 4000000
set_option exponentiation.threshold 100000
namespace K03
open PySem PySem.Spec PyProof.Rows L2
abbrev sGcd : Stmt := top 60
abbrev sPlus : Stmt := top 63
abbrev sTimes : Stmt := top 64
def spPlus : Sp := fun vs H Q _ => ∃ (t u : Addr) (p q : Int × Int), vs = [.ref t, .ref u] ∧ Pair H t p ∧ Pair H u q ∧ Fit p ∧ Fit q ∧ NewP H Q (padd p q)
def spTimes : Sp := fun vs H Q _ => ∃ (t u : Addr) (p q : Int × Int), vs = [.ref t, .ref u] ∧ Pair H t p ∧ Pair H u q ∧ Fit p ∧ Fit q ∧ NewP H Q (pmul p q)
section
variable {P : Program} {w : World} {K : PySem.W.Frag} {mg : Str → Option Value} {base : Heap} {cB cN C fI : Addr}
theorem scGcd : FnScope ["_law_one", "_law_other"] ["_law_one", "_law_other"] (defScope sGcd) := ⟨rfl, rfl, rfl, by decide +kernel, rfl, by decide +kernel, by decide +kernel⟩
theorem ok_gcd {f : Addr} {fd : FuncData} (F : Fun K "_law_gcd" "_law_gcd" sGcd f fd) (T : TxtR mg) : FnOk P w K mg base CX0 1 f fd ["_law_one", "_law_other"] spGcd := by
  refine F.ok scGcd (fun vs H Q E h => ?_) (fun cdv A outer s H vs Q E hr h => ?_)
  · obtain ⟨a, b, rfl, _⟩ := h
    rfl
  · obtain ⟨a, b, rfl, q⟩ := h
    have nd := scGcd.nd
    refine ⟨_, pss_cons (ps_par (i := 0) (j := 1) (by rfl) nd rfl rfl (by decide) rfl rfl (pa_cons (pe_callB call_abs (by rfl) T.abs (by decide +kernel) (pa_cons (pv 0) pa_nil)) (pa_cons (pe_callB call_abs (by rfl) T.abs (by decide +kernel) (pa_cons (pv 1) pa_nil)) pa_nil)) (by rfl))
      (pss_cons (ps_while PassesOwn.never (pt_cmpR op_gt (pv 1) pe_int (nomark _))
        (pss_one (ps_par (i := 0) (j := 1) (by rfl) nd rfl rfl (by decide) rfl rfl (pa_cons (pv 1) (pa_cons (pe_op op_mod (pe_callTy call_int1 (by rfl) T.int (by decide +kernel) (pa_cons (pv 0) pa_nil)) (pv 1)) pa_nil)) (by rfl))))
      (pss_one (ps_ret (pv 0)))), ?_⟩
    refine ⟨_, rfl, _, rfl, _, rfl, _, rfl, ?_⟩
    rw [abs_cast, abs_cast]
    refine ⟨_, _, rfl, ?_⟩
    dsimp only [tSeq]
    refine while_by (fun σ H' => H' = H ∧ ∃ m n : Nat, σ = [some (.int m), some (.int n)] ∧ Nat.gcd m n = Nat.gcd a.natAbs b.natAbs) gcdM ?_ ?_ (fun σ H Q Q' m h => by
      obtain ⟨v, h1, i, j, e1, e2, k, e3, q⟩ := h
      exact ⟨v, h1, i, j, e1, e2, k, e3, m _ _ q⟩)
    · exact ⟨rfl, a.natAbs, b.natAbs, rfl, rfl⟩
    rintro σ H' ⟨rfl, m, n, rfl, hg⟩
    refine ⟨_, rfl, _, _, rfl, rfl, _, rfl, ?_⟩
    refine ite2 (fun hn => ?_) (fun hn => ?_)
    · have hn0 : 0 < n := by
        have := of_decide_eq_true hn
        omega
      refine ⟨_, rfl, _, rfl, .inl ⟨_, rfl, _, rfl, _, _, rfl, rfl, (show (0 : Int) < (n : Int) by omega), _, _, rfl, ?_⟩⟩
      refine ⟨⟨rfl, n, m % n, ?_, by rw [euclid, hg]⟩, ?_⟩
      · show [some (V.int n), some (V.int ((m : Int) % (n : Int)))] = _
        rw [Int.natCast_emod]
      · show ((m : Int) % (n : Int)).toNat < (n : Int).toNat
        rw [← Int.natCast_emod, Int.toNat_natCast, Int.toNat_natCast]
        exact Nat.mod_lt _ hn0
    · have hn0 : n = 0 := by
        have : ¬ ((n : Int) > 0) := fun z => hn (decide_eq_true z)
        omega
      subst hn0
      rw [Nat.gcd_zero_right] at hg
      refine ⟨_, rfl, ?_⟩
      show Q (.int m) H'
      rw [hg]
      exact q
theorem scPlus : FnScope ["_law_one", "_law_other"] ["_law_one", "_law_other"] (defScope sPlus) := ⟨rfl, rfl, rfl, by decide +kernel, rfl, by decide +kernel, by decide +kernel⟩
theorem scTimes : FnScope ["_law_one", "_law_other"] ["_law_one", "_law_other"] (defScope sTimes) := ⟨rfl, rfl, rfl, by decide +kernel, rfl, by decide +kernel, by decide +kernel⟩
end
end K03
end
section
set_option maxHeartbeats 4000000
set_option exponentiation.threshold 100000
namespace K03
open PySem PySem.Spec PyProof.Rows L2
section
variable {P : Program} {w : World} {K : PySem.W.Frag} {mg : Str → Option Value} {base : Heap} {cB cN C fI fD : Addr} {fdD : FuncData}
end
end K03
end
section
set_option maxHeartbeats 4000000
set_option exponentiation.threshold 100000
namespace K03
open PySem PySem.Spec PyProof.Rows L2
section
variable {P : Program} {w : World} {K : PySem.W.Frag} {mg : Str → Option Value} {base : Heap} {cB cN C fI fD fW : Addr} {fdD fdW : FuncData}
end
end K03
end
section
set_option maxHeartbeats 4000000
set_option exponentiation.threshold 100000
namespace K03
open PySem PySem.Spec PyProof.Rows L2
abbrev sSgn : Stmt := top 62
def spSgn : Sp := fun vs H Q _ => ∃ i : Int, vs = [.int i] ∧ Q (.int (sgn i)) H
section
variable {P : Program} {w : World} {K : PySem.W.Frag} {mg : Str → Option Value} {base : Heap} {cB cN C fI fD fW fP : Addr} {fdD fdW fdP : FuncData}
theorem scSgn : FnScope ["_law_number_here"] ["_law_number_here"] (defScope sSgn) := ⟨rfl, rfl, rfl, by decide +kernel, rfl, by decide +kernel, by decide +kernel⟩
theorem ok_sgn {f : Addr} {fd : FuncData} (F : Fun K "_law_sign" "_law_sign" sSgn f fd) (T : TxtR mg) : FnOk P w K mg base CX0 1 f fd ["_law_number_here"] spSgn := by
  refine F.ok scSgn (fun vs H Q E h => ?_) (fun cdv A outer s H vs Q E hr h => ?_)
  · obtain ⟨i, rfl, _⟩ := h
    rfl
  · obtain ⟨i, rfl, q⟩ := h
    refine ⟨_, pss_one (ps_ret (pe_op op_sub (pe_callTy call_int1 (by rfl) T.int (by decide +kernel) (pa_cons (pe_cmpR op_gt (pv 0) pe_int (nomark _)) pa_nil)) (pe_callTy call_int1 (by rfl) T.int (by decide +kernel) (pa_cons (pe_cmpR op_lt (pv 0) pe_int (nomark _)) pa_nil)))), ?_⟩
    refine ⟨_, rfl, _, _, rfl, rfl, .inr ⟨_, rfl, ?_⟩⟩
    refine ⟨_, rfl, _, _, rfl, rfl, .inr ⟨_, rfl, ?_⟩⟩
    exact ⟨_, _, rfl, rfl, q⟩
end
end K03
end
section
set_option maxHeartbeats 4000000
namespace K03
open PySem PySem.Spec PyProof.Rows L2 LamX NdefX L3
section
variable {P : Program} {w : World} {K : PySem.W.Frag} {mg : Str → Option Value} {base : Heap}
end
end K03
end
section
set_option maxHeartbeats 4000000
namespace K03
open PySem PySem.Spec PyProof.Rows L2 LamX NdefX L3
/-- lc_mapR as a reading -/
theorem lc_mapT {j n : Nat} {β : Type} {bs : List β} {Rr : Addr → Hp → V → β → Prop} {σ : L2.St} {H : Hp} {te : TE} {ta : TA} {Q : VK} (hr : ∀ R : It → Hp → Prop, R (Itr 0 n) H → iRng1 ta σ H R) (few : n ≤ sizeLine) (hl : n = bs.length)
    (same : ∀ (D : Addr) (H H' : Hp) (y : V) (b : β), Rr D H y b → Same H H' → Rr D H' y b) (grow : ∀ (D : Addr) (H : Hp) (rs ys : List V) (y : V) (b : β), H D = some (.lst rs) → Rr D H y b → Rr D (upd H D (.lst ys)) y b)
    (step : ∀ (D : Addr) (k : Nat) (b : β) (H2 : Hp) (rs : List V) (Kc : VK), k < n → bs[k]? = some b → Same H H2 → H2 D = some (.lst rs) → (∀ (y : V) (H3 : Hp), Same H2 H3 → Rr D H3 y b → Kc y H3) → te ((wipe σ [j]).set j (some (.int (0 + k)))) H2 Kc)
    (fin : ∀ (D : Addr) (ws : List V) (H5 : Hp), H D = none → Same H H5 → H5 D = some (.lst ws) → Paired (Rr D H5) ws bs → Q (.ref D) H5) : tLc (iRng1 ta) (gName j) tYes te [j] σ H Q :=
  hr _ fun D nD => lc_mapR few hl same grow step fin D nD
section
variable {P : Program} {w : World} {K : PySem.W.Frag} {mg : Str → Option Value} {base : Heap}
end
end K03
end
section
set_option maxHeartbeats 4000000
namespace K03
open PySem PySem.Spec PyProof.Rows L2 LamX NdefX L3
/-- [e for x in a list] -/
theorem lc_mapL {K : PySem.W.Frag} {j : Nat} {a : Addr} {xs : List V} {β : Type} {bs : List β} {Rr : Addr → Hp → V → β → Prop} {σ : L2.St} {H : Hp} {te tv : TE} {Q : VK}
    (hv : ∀ R : VK, R (.ref a) H → tv σ H R) (sq : SqL K H a xs) (few : xs.length ≤ sizeLine) (hl : xs.length = bs.length)
    (same : ∀ (D : Addr) (H H' : Hp) (y : V) (b : β), Rr D H y b → Same H H' → Rr D H' y b) (grow : ∀ (D : Addr) (H : Hp) (rs ys : List V) (y : V) (b : β), H D = some (.lst rs) → Rr D H y b → Rr D (upd H D (.lst ys)) y b)
    (step : ∀ (D : Addr) (k : Nat) (x : V) (b : β) (H2 : Hp) (rs : List V) (Kc : VK), xs[k]? = some x → bs[k]? = some b → Same H H2 → H2 D = some (.lst rs) → (∀ (y : V) (H3 : Hp), Same H2 H3 → Rr D H3 y b → Kc y H3) → te ((wipe σ [j]).set j (some x)) H2 Kc)
    (fin : ∀ (D : Addr) (ws : List V) (H5 : Hp), H D = none → Same H H5 → H5 D = some (.lst ws) → Paired (Rr D H5) ws bs → Q (.ref D) H5) :
    tLc (iList K tv) (gName j) tYes te [j] σ H Q := by
  refine hv _ ⟨a, rfl, ⟨xs, sq⟩, fun D nD => ?_⟩
  refine lc_list (K := K) (a := a) (xs := xs) (fun i H2 => Same H H2 ∧ ∃ ws, H2 D = some (.lst ws) ∧ Paired (Rr D H2) ws (bs.take i)) ⟨Same.new (fun _ _ e => e) nD, [], upd_same, .nil⟩ (fun i H2 _ p => p.1.seq sq) ?_ ?_
  · rintro i x H2 hx ⟨s2, ws, hD, pw⟩
    have li : i < xs.length := (List.getElem?_eq_some_iff.mp hx).1
    have hb : bs[i]? = some bs[i] := List.getElem?_eq_getElem (by omega)
    have lw : ws.length = i := by
      rw [paired_len pw, List.length_take]
      omega
    refine ⟨wipe_back, ?_⟩
    refine yes_if (a := fun H4 => te _ H4 _) ?_
    refine step D i x _ H2 ws _ hx hb s2 hD fun y H3 s3 ry => ?_
    have hD3 := s3 _ _ hD
    refine ⟨ws, hD3, by omega, same_grow nD (s2.trans s3), ws ++ [y], upd_same, ?_⟩
    rw [take_snoc hb]
    exact (Paired.mapP pw fun v b z => grow D H3 ws (ws ++ [y]) v b hD3 (same D H2 H3 v b z s3)).snoc (grow D H3 ws (ws ++ [y]) y _ hD3 ry)
  · rintro H5 ⟨s5, ws, hD, pw⟩
    rw [hl, List.take_length] at pw
    exact fin D ws H5 nD s5 hD pw
section
variable {P : Program} {w : World} {K : PySem.W.Frag} {mg : Str → Option Value} {base : Heap}
end
end K03
end
section
set_option maxHeartbeats 4000000
set_option exponentiation.threshold 100000
namespace L3
open PySem PySem.Spec PyProof.Rows L2
def rLcm : List V → Hp → VK → Prop := fun vs H Q => ∃ a b : Int, vs = [.int a, .int b] ∧ a.natAbs < 2 ^ 9000 ∧ b.natAbs < 2 ^ 9000 ∧ Q (.int ((Nat.lcm a.natAbs b.natAbs : Nat) : Int)) H
theorem log_lt {n k : Nat} (h : n < 2 ^ (k + 1)) : n.log2 ≤ k := by
  by_cases h0 : n = 0
  · subst h0
    rw [Nat.log2_zero]
    exact Nat.zero_le _
  · exact Nat.le_of_lt_succ ((Nat.log2_lt h0).mpr h)
theorem cr_lcm {X : Cx} : CallR X (.builtin "math.lcm") rLcm := by
  intro pins s σ H vs us Q I r h
  obtain ⟨a, b, rfl, ha, hb, q⟩ := h
  obtain ⟨t, u, rfl⟩ := Vals.int2 r
  have e1 : Nat.lcm 1 a.natAbs = a.natAbs := by unfold Nat.lcm; simp
  have l1 : a.natAbs.log2 ≤ 8999 := log_lt (k := 8999) ha
  have l2 : b.natAbs.log2 ≤ 8999 := log_lt (k := 8999) hb
  have m1 : (max 1 a.natAbs).log2 ≤ 8999 := by
    rcases Nat.le_total 1 a.natAbs with h | h
    · rw [Nat.max_eq_right h]; exact l1
    · rw [Nat.max_eq_left h]; decide
  have m2 : (max a.natAbs b.natAbs).log2 ≤ 8999 := by
    rcases Nat.le_total a.natAbs b.natAbs with h | h
    · rw [Nat.max_eq_right h]; exact l2
    · rw [Nat.max_eq_left h]; exact l1
  have sz : ((((Nat.lcm 1 a.natAbs).lcm b.natAbs : Nat) : Int)).natAbs.log2 < bitsLine := by
    rw [e1, Int.natAbs_natCast]
    have le : Nat.lcm a.natAbs b.natAbs ≤ a.natAbs * b.natAbs := by
      unfold Nat.lcm
      exact Nat.div_le_self _ _
    have lt : Nat.lcm a.natAbs b.natAbs < 2 ^ (17999 + 1) := Nat.lt_of_le_of_lt le (by
      have : a.natAbs * b.natAbs ≤ (2 ^ 9000 - 1) * (2 ^ 9000 - 1) := Nat.mul_le_mul (Nat.le_sub_one_of_lt ha) (Nat.le_sub_one_of_lt hb)
      refine Nat.lt_of_le_of_lt this ?_
      rw [show 17999 + 1 = 9000 + 9000 from rfl, Nat.pow_add]
      exact Nat.mul_lt_mul'' (Nat.sub_lt (Nat.pow_pos (by decide)) (by decide)) (Nat.sub_lt (Nat.pow_pos (by decide)) (by decide)))
    exact Nat.lt_of_le_of_lt (log_lt lt) (by decide)
  have g := PySem.W.mg_run_lcm a t b u (by omega) (by omega) sz
  refine call_function_meets PySem.W.MGF.kind_lcm PySem.W.MGF.plain_lcm PySem.W.MGF.entry_lcm (PySem.W.MGF.args_lcm _ _) g.meets ?_
  rw [e1]
  exact ⟨.int _, H, I.tok _, ⟨_, rfl⟩, q⟩
/-- a while whose turns are counted down by what the invariant tells -/
theorem while_at {c : TT} {tb : TS} {D : Ends} {σ : L2.St} {H : Hp} (Pv : Nat → L2.St → Hp → Prop) (m0 : Nat) (h0 : Pv m0 σ H)
    (hs : ∀ m σ H, Pv m σ H → c σ H fun b H1 => if b = true then ∃ N : L2.St → Hp → Prop, (∀ σ' H', N σ' H' → ∃ m', m' < m ∧ Pv m' σ' H') ∧ tb { D with nx := N, ct := N, bk := D.nx } σ H1 else D.nx σ H1) : tWhile c tb D σ H := ⟨Pv, ⟨m0, h0⟩, hs⟩
end L3
end
section
/-! polys over the rationals, told by their parts -/
namespace PolyM
def sm (f : Nat → Rat) : Nat → Rat
  | 0 => 0
  | n + 1 => sm f n + f n
theorem sm_congr {f g : Nat → Rat} : ∀ {n : Nat}, (∀ i, i < n → f i = g i) → sm f n = sm g n
  | 0, _ => rfl
  | n + 1, h => by
    show sm f n + f n = sm g n + g n
    rw [sm_congr fun i hi => h i (Nat.lt_succ_of_lt hi), h n (Nat.lt_succ_self n)]
theorem sm_mul {f : Nat → Rat} {c : Rat} : ∀ n : Nat, sm (fun i => c * f i) n = c * sm f n
  | 0 => by show (0 : Rat) = c * 0; grind
  | n + 1 => by
    show sm (fun i => c * f i) n + c * f n = c * (sm f n + f n)
    rw [sm_mul n]
    grind
theorem sm_none {f : Nat → Rat} : ∀ {n : Nat}, (∀ i, i < n → f i = 0) → sm f n = 0
  | 0, _ => rfl
  | n + 1, h => by
    show sm f n + f n = 0
    rw [sm_none fun i hi => h i (Nat.lt_succ_of_lt hi), h n (Nat.lt_succ_self n)]
    grind
/-- the parts of a product -/
def conv (a b : Nat → Rat) (k : Nat) : Rat := sm (fun i => a i * b (k - i)) (k + 1)
theorem conv_congr {a a' b b' : Nat → Rat} (ha : ∀ i, a i = a' i) (hb : ∀ i, b i = b' i) (k : Nat) : conv a b k = conv a' b' k := sm_congr fun i _ => by rw [ha, hb]
theorem conv_mul (c : Rat) (a b : Nat → Rat) (k : Nat) : conv (fun i => c * a i) b k = c * conv a b k := by
  unfold conv
  rw [← sm_mul]
  exact sm_congr fun i _ => by grind
theorem conv_mulR (c : Rat) (a b : Nat → Rat) (k : Nat) : conv a (fun i => c * b i) k = c * conv a b k := by
  unfold conv
  rw [← sm_mul]
  exact sm_congr fun i _ => by grind
theorem conv_none (b : Nat → Rat) (k : Nat) : conv (fun _ => 0) b k = 0 := sm_none fun i _ => by grind
end PolyM
end
section
set_option maxHeartbeats 4000000
namespace K03
open PolyM
/-! pairs and lists of pairs as rationals and polys -/
def val (p : Int × Int) : _root_.Rat := (p.1 : _root_.Rat) / (p.2 : _root_.Rat)
theorem cast_ne {b : Int} (h : b ≠ 0) : (b : _root_.Rat) ≠ 0 := fun z => h (by exact_mod_cast z)
theorem val_of {p : Int × Int} {t b : Int} (h : b ≠ 0) (hp : p.2 ≠ 0) (e : p.1 * b = t * p.2) : val p = (t : _root_.Rat) / (b : _root_.Rat) := by
  have h1 := cast_ne h
  have h2 := cast_ne hp
  have e2 : (p.1 : _root_.Rat) * (b : _root_.Rat) = (t : _root_.Rat) * (p.2 : _root_.Rat) := by exact_mod_cast congrArg (fun z : Int => (z : _root_.Rat)) e
  unfold val
  grind
theorem val_low {t b : Int} (h : b ≠ 0) : val (low t b) = (t : _root_.Rat) / (b : _root_.Rat) := val_of h (by have := low_pos (t := t) h; omega) (low_cross h)
theorem val_cross {p q : Int × Int} (hp : p.2 ≠ 0) (hq : q.2 ≠ 0) (e : val p = val q) : p.1 * q.2 = q.1 * p.2 := by
  have h1 := cast_ne hp
  have h2 := cast_ne hq
  unfold val at e
  have e2 : (p.1 : _root_.Rat) * (q.2 : _root_.Rat) = (q.1 : _root_.Rat) * (p.2 : _root_.Rat) := by grind
  exact_mod_cast e2
theorem Low.ne {p : Int × Int} (h : Low p) : p.2 ≠ 0 := by have := h.pos; omega
theorem val_inj {p q : Int × Int} (hp : Low p) (hq : Low q) (e : val p = val q) : p = q := by
  rw [← low_self hp]
  exact low_of hp.ne hq (val_cross hp.ne hq.ne e)
theorem val_zero {p : Int × Int} (hp : Low p) : val p = 0 ↔ p.1 = 0 := by
  have h := cast_ne hp.ne
  unfold val
  constructor
  · intro e
    have : (p.1 : _root_.Rat) = 0 := by grind
    exact_mod_cast this
  · intro e
    rw [e]
    grind
theorem val_add {p q : Int × Int} (hp : Low p) (hq : Low q) : val (padd p q) = val p + val q := by
  have h1 := cast_ne hp.ne
  have h2 := cast_ne hq.ne
  unfold padd
  rw [val_low (Int.mul_ne_zero hp.ne hq.ne)]
  unfold val
  rw [Rat.intCast_add, Rat.intCast_mul, Rat.intCast_mul, Rat.intCast_mul]
  grind
theorem val_mul {p q : Int × Int} (hp : Low p) (hq : Low q) : val (pmul p q) = val p * val q := by
  have h1 := cast_ne hp.ne
  have h2 := cast_ne hq.ne
  unfold pmul
  rw [val_low (Int.mul_ne_zero hp.ne hq.ne)]
  unfold val
  rw [Rat.intCast_mul, Rat.intCast_mul]
  grind
theorem low01 : Low (0, 1) := ⟨by decide, Nat.coprime_one_right _⟩
theorem val01 : val (0, 1) = 0 := (val_zero low01).mpr rfl
/-- part k -/
def cf (ps : List (Int × Int)) (k : Nat) : _root_.Rat := val (ps.getD k (0, 1))
theorem cf_at {ps : List (Int × Int)} {k : Nat} {p : Int × Int} (h : ps[k]? = some p) : cf ps k = val p := by
  unfold cf
  rw [List.getD_eq_getElem?_getD, h]
  rfl
theorem cf_out {ps : List (Int × Int)} {k : Nat} (h : ps.length ≤ k) : cf ps k = 0 := by
  unfold cf
  rw [List.getD_eq_getElem?_getD, List.getElem?_eq_none h]
  exact val01
/-- the parts of a poly: in lowest terms, the last one not 0 -/
structure IsP (ps : List (Int × Int)) : Prop where
  low : ∀ p ∈ ps, Low p
  top : ∀ p, ps.getLast? = some p → p.1 ≠ 0
/-- m is where the noughts at the end begin -/
structure TrimAt (ps : List (Int × Int)) (m : Nat) : Prop where
  le : m ≤ ps.length
  off : ∀ k p, m ≤ k → ps[k]? = some p → p.1 = 0
  on : ∀ p, 0 < m → ps[m - 1]? = some p → p.1 ≠ 0
theorem TrimAt.isP {ps : List (Int × Int)} {m : Nat} (t : TrimAt ps m) (h : ∀ p ∈ ps, Low p) : IsP (ps.take m) := by
  refine ⟨fun p hp => h p (List.mem_of_mem_take hp), fun p hp => ?_⟩
  rw [List.getLast?_eq_getElem?, List.length_take, Nat.min_eq_left t.le] at hp
  have pos : 0 < m := Nat.pos_of_ne_zero fun z => by subst z; simp at hp
  rw [List.getElem?_take_of_lt (by omega)] at hp
  exact t.on p pos hp
theorem TrimAt.cf {ps : List (Int × Int)} {m : Nat} (t : TrimAt ps m) (h : ∀ p ∈ ps, Low p) (k : Nat) : cf (ps.take m) k = K03.cf ps k := by
  by_cases c : k < m
  · unfold K03.cf
    rw [List.getD_eq_getElem?_getD, List.getD_eq_getElem?_getD, List.getElem?_take_of_lt c]
  · rw [cf_out (by rw [List.length_take]; omega)]
    by_cases d : k < ps.length
    · have e := List.getElem?_eq_getElem d
      rw [cf_at e, (val_zero (h _ (List.getElem_mem d))).mpr (t.off k _ (by omega) e)]
    · rw [cf_out (by omega)]
/-! bounds: the bottom divides M, the size is at most R -/
structure Bd (M R : Nat) (p : Int × Int) : Prop where
  d : p.2 ∣ (M : Int)
  s : p.1.natAbs ≤ R * p.2.natAbs
theorem low_size {t b : Int} {R : Nat} (h : b ≠ 0) (s : t.natAbs ≤ R * b.natAbs) : (low t b).1.natAbs ≤ R * (low t b).2.natAbs := by
  have e1 := congrArg Int.natAbs (low_l (t := t) h)
  have e2 := congrArg Int.natAbs (low_r (t := t) h)
  rw [Int.natAbs_mul] at e1 e2
  have pos : 0 < (shr t b).natAbs := Int.natAbs_pos.mpr (shr_ne h)
  have s2 : (shr t b).natAbs * (low t b).1.natAbs ≤ (shr t b).natAbs * (R * (low t b).2.natAbs) := by
    rw [← e1, Nat.mul_left_comm, ← e2]
    exact s
  exact Nat.le_of_mul_le_mul_left s2 pos
theorem low_dvd {p : Int × Int} (hp : Low p) {M z : Int} (e : p.1 * M = z * p.2) : p.2 ∣ M := by
  have d : p.2 ∣ p.1 * M := ⟨z, by rw [e, Int.mul_comm]⟩
  have c := hp.co
  have d2 : p.2.natAbs ∣ p.1.natAbs * M.natAbs := by rw [← Int.natAbs_mul]; exact Int.natAbs_dvd_natAbs.mpr d
  exact Int.natAbs_dvd_natAbs.mp (Nat.Coprime.dvd_of_dvd_mul_left (Nat.Coprime.symm c) d2)
theorem low_dvd2 {t b : Int} (h : b ≠ 0) {M z : Int} (e : t * M = z * b) : (low t b).2 ∣ M := by
  have e1 := low_l (t := t) h
  have e2 := low_r (t := t) h
  have n := shr_ne (t := t) h
  refine low_dvd (low_low h) (z := z) ?_
  have : shr t b * ((low t b).1 * M) = shr t b * (z * (low t b).2) := by
    rw [← Int.mul_assoc, ← e1, e, Int.mul_left_comm, ← e2]
  exact Int.eq_of_mul_eq_mul_left n this
theorem Bd.add {M R S : Nat} {p q : Int × Int} (hp : Low p) (hq : Low q) (a : Bd M R p) (b : Bd M S q) : Bd M (R + S) (padd p q) := by
  have h := Int.mul_ne_zero hp.ne hq.ne
  obtain ⟨x, hx⟩ := a.d
  obtain ⟨y, hy⟩ := b.d
  refine ⟨low_dvd2 h (z := p.1 * x + q.1 * y) ?_, low_size h ?_⟩
  · have e1 : p.1 * q.2 * (M : Int) = p.1 * x * (p.2 * q.2) := by rw [hx]; grind
    have e2 : q.1 * p.2 * (M : Int) = q.1 * y * (p.2 * q.2) := by rw [hy]; grind
    rw [Int.add_mul, Int.add_mul, e1, e2]
  · refine Nat.le_trans (Int.natAbs_add_le _ _) ?_
    rw [Int.natAbs_mul, Int.natAbs_mul, Int.natAbs_mul, Nat.add_mul]
    refine Nat.add_le_add ?_ ?_
    · rw [← Nat.mul_assoc]
      exact Nat.mul_le_mul_right _ a.s
    · refine Nat.le_trans (Nat.mul_le_mul_right p.2.natAbs b.s) (Nat.le_of_eq ?_)
      rw [Nat.mul_assoc, Nat.mul_comm q.2.natAbs]
theorem Bd.mul {M N R S : Nat} {p q : Int × Int} (hp : Low p) (hq : Low q) (a : Bd M R p) (b : Bd N S q) : Bd (M * N) (R * S) (pmul p q) := by
  have h := Int.mul_ne_zero hp.ne hq.ne
  obtain ⟨x, hx⟩ := a.d
  obtain ⟨y, hy⟩ := b.d
  refine ⟨low_dvd2 h (z := p.1 * q.1 * (x * y)) ?_, low_size h ?_⟩
  · rw [Int.natCast_mul, hx, hy]
    grind
  · rw [Int.natAbs_mul, Int.natAbs_mul, Nat.mul_mul_mul_comm]
    exact Nat.mul_le_mul a.s b.s
theorem Bd.mono {M N R S : Nat} {p : Int × Int} (a : Bd M R p) (d : M ∣ N) (l : R ≤ S) : Bd N S p := ⟨Int.dvd_trans a.d (Int.natCast_dvd_natCast.mpr d), Nat.le_trans a.s (Nat.mul_le_mul_right _ l)⟩
theorem Bd.zero {M R : Nat} : Bd M R (0, 1) := ⟨Int.one_dvd _, Nat.zero_le _⟩
theorem Bd.le {M R : Nat} {p : Int × Int} (hM : 0 < M) (a : Bd M R p) : p.2.natAbs ≤ M ∧ p.1.natAbs ≤ R * M := by
  have d : p.2.natAbs ∣ M := by
    have := Int.natAbs_dvd_natAbs.mpr a.d
    rwa [Int.natAbs_natCast] at this
  have l := Nat.le_of_dvd hM d
  exact ⟨l, Nat.le_trans a.s (Nat.mul_le_mul_left _ l)⟩
theorem Bd.fit {M R : Nat} {p : Int × Int} (hp : Low p) (hM : 0 < M) (a : Bd M R p) (b : (R + 1) * M < 2 ^ 4000) : Fit p := by
  obtain ⟨h1, h2⟩ := a.le hM
  have e : (R + 1) * M = R * M + M := Nat.succ_mul R M
  have i1 : p.1.natAbs ≤ (R + 1) * M := by rw [e]; exact Nat.le_trans h2 (Nat.le_add_right _ _)
  have i2 : p.2.natAbs ≤ (R + 1) * M := by rw [e]; exact Nat.le_trans h1 (Nat.le_add_left _ _)
  exact ⟨Nat.lt_of_le_of_lt i1 b, hp.pos, Nat.lt_of_le_of_lt i2 b⟩
end K03
end
section
set_option maxHeartbeats 4000000
/-! a division of lists of integers, turn by turn -/
namespace PolyM
def ci (L : List Int) (k : Nat) : Rat := ((L.getD k 0 : Int) : Rat)
theorem getD_out {L : List Int} {k : Nat} (h : L.length ≤ k) : L.getD k 0 = 0 := by
  rw [List.getD_eq_getElem?_getD, List.getElem?_eq_none h]
  rfl
end PolyM
end
section
set_option maxHeartbeats 8000000
set_option exponentiation.threshold 100000
namespace K03
open PySem PySem.Spec PyProof.Rows L2 LamX NdefX L3 PolyM
def vInts (L : List Int) : List V := L.map V.int
theorem vInts_len {L : List Int} : (vInts L).length = L.length := List.length_map ..
theorem mul_fit {x y : Int} {a b : Nat} (hx : x.natAbs < 2 ^ a) (hy : y.natAbs < 2 ^ b) (h : a + b ≤ 900000) : CMulW x y := by
  have up : ∀ {z : Int} {n : Nat}, z.natAbs < 2 ^ n → z.natAbs < 2 ^ (n + 1) := fun h => Nat.lt_of_lt_of_le h (Nat.pow_le_pow_right (by decide) (Nat.le_succ _))
  exact wide_mul (up hx) (up hy) (Nat.succ_pos _) (Nat.succ_pos _) (by omega)
section
variable {P : Program} {w : World} {K : PySem.W.Frag} {mg : Str → Option Value} {base : Heap} {cB cN C fI : Addr}
end
end K03
end
section
set_option maxHeartbeats 8000000
set_option exponentiation.threshold 100000
namespace K03
open PySem PySem.Spec PyProof.Rows L2 LamX NdefX L3 PolyM
abbrev sMInit : Stmt := inClass (top 15) 0
abbrev sPInit : Stmt := inClass (top 37) 0
/-- the classes Poly and Mark -/
structure PolC (K : PySem.W.Frag) (mg : Str → Option Value) (CP CM fP fM : Addr) : Prop where
  made : Mk K CP fP
  c : Cls K CP
  nP : NoAttr K CP "parts"
  nM : NoAttr K CP "mark"
  g : mg "Poly" = some (.ref CP)
  t1 : Top1 K CP
  ty : PySem.W.typeIn K (.ref CP) = some (.type "type")
  mmade : Mk K CM fM
  mc : Cls K CM
  nB : NoAttr K CM "below"
  mg : mg "Mark" = some (.ref CM)
/-- a Poly of these parts -/
def PolyAt (C CP CM : Addr) (H : Hp) (a : Addr) (ps : List (Int × Int)) : Prop := ∃ (dx t : Addr) (xs : List V) (mk dm tb : Addr), H a = some (.ins CP dx [("parts", .ref t), ("mark", .ref mk)]) ∧ H t = some (.tup xs) ∧ Paired (RV C H) xs ps ∧ H mk = some (.ins CM dm [("below", .ref tb)]) ∧ H tb = some (.tup [.str "Ratio"])
theorem PolyAt.same {C CP CM : Addr} {H H' : Hp} {a : Addr} {ps : List (Int × Int)} (h : PolyAt C CP CM H a ps) (s : Same H H') : PolyAt C CP CM H' a ps := by
  obtain ⟨dx, t, xs, mk, dm, tb, h1, h2, h3, h4, h5⟩ := h
  exact ⟨dx, t, xs, mk, dm, tb, s _ _ h1, s _ _ h2, Paired.mapP h3 fun _ _ z => z.same s, s _ _ h4, s _ _ h5⟩
def spMInit (CM : Addr) : Sp := fun vs H Q _ => ∃ (a dx : Addr) (v : V), vs = [.ref a, v] ∧ H a = some (.ins CM dx []) ∧ Q .non (upd H a (.ins CM dx [("below", v)]))
def spPInit (K : PySem.W.Frag) (C CP CM cB : Addr) : Sp := fun vs H Q E => ∃ (a dx : Addr) (v : V), vs = [.ref a, v] ∧ H a = some (.ins CP dx []) ∧ ((∃ u, Flawed K C H v u ∧ Bad cB u H E) ∨
  ∃ ps, Given K C H v ps ∧ ps.length ≤ 100000 ∧ ∀ (m : Nat) (H' : Hp), TrimAt ps m → (∀ b o, H b = some o → b ≠ a → H' b = some o) → PolyAt C CP CM H' a (ps.take m) → Q .non H')
/-- a new Poly, all else as it was -/
def NewPoly (C CP CM : Addr) (H : Hp) (Q : VK) (ps : List (Int × Int)) : Prop := ∀ (a : Addr) (H' : Hp), H a = none → Same H H' → PolyAt C CP CM H' a ps → Q (.ref a) H'
theorem putPM (u v : V) : putF ("mark" : Str) v (putF ("parts" : Str) u []) = ([("parts", u), ("mark", v)] : List (Str × V)) := by
  have ne : ¬ (("parts" : Str) = "mark") := by decide +kernel
  simp [putF, ne]
theorem paired_takeP {α β : Type} {F : α → β → Prop} {l : List α} {m : List β} (p : Paired F l m) : ∀ n, Paired F (l.take n) (m.take n) := by
  induction p with
  | nil => intro n; rw [List.take_nil, List.take_nil]; exact .nil
  | cons a _ ih =>
    intro n
    cases n with
    | zero => exact .nil
    | succ n => exact .cons a (ih n)
theorem cut_to {ws : List V} {m : Nat} (h : m ≤ ws.length) : cutV ws none (some (m : Int)) = ws.take m := by
  unfold cutV
  rw [HT.sIx_none, List.drop_zero, HT.sIx_nat, Nat.sub_zero, show min m ws.length = m by omega]
theorem paired_back {α β : Type} {F : α → β → Prop} {l : List α} {m : List β} (p : Paired F l m) : ∀ {i : Nat} {b : β}, m[i]? = some b → ∃ a, l[i]? = some a ∧ F a b := by
  induction p with
  | nil => intro i a h; cases h
  | cons q _ ih =>
    intro i b h
    cases i with
    | zero => cases h; exact ⟨_, rfl, q⟩
    | succ i => exact ih h
section
variable {P : Program} {w : World} {K : PySem.W.Frag} {mg : Str → Option Value} {base : Heap} {cB cN C fI CP CM fP fM : Addr}
theorem scMInit : FnScope ["self", "below"] ["self", "below"] (defScope sMInit) := ⟨rfl, rfl, rfl, by decide +kernel, rfl, by decide +kernel, by decide +kernel⟩
theorem ok_mInit {fd : FuncData} (F : Fun K "__init__" "Mark.__init__" sMInit fM fd) (PC : PolC K mg CP CM fP fM) : FnOk P w K mg base CX0 1 fM fd ["self", "below"] (spMInit CM) := by
  refine F.ok scMInit (fun vs H Q E h => ?_) (fun cdv A outer s H vs Q E hr h => ?_)
  · obtain ⟨a, dx, v, rfl, _⟩ := h
    rfl
  · obtain ⟨a, dx, v, rfl, ha, q⟩ := h
    refine ⟨_, pss_one (ps_fld (pv 0) (pv 1) rfl), ?_⟩
    exact ⟨_, rfl, _, rfl, a, CM, dx, [], rfl, ha, PC.mc, PC.nB, by decide, q⟩
theorem scPInit : FnScope ["self", "parts", "ratios", "many"] ["self", "parts"] (defScope sPInit) := ⟨rfl, rfl, rfl, by decide +kernel, rfl, by decide +kernel, by decide +kernel⟩
theorem ok_pInit {fd fdM : FuncData} (F : Fun K "__init__" "Poly.__init__" sPInit fP fd) (B : TxtR mg) (bt : mg "tuple" = none) (PC : PolC K mg CP CM fP fM) (R : Rat P w K mg base cB cN C fI)
    (GM : FnOk P w K mg base CX0 1 fM fdM ["self", "below"] (spMInit CM)) (bM : Binds K fdM ["self", "below"] []) (hRL : Dfn P w K mg base (L2.CX P w) 7 "ratio_list" ["values"] (spRL K C cB)) :
    FnOk P w K mg base (L2.CX P w) 8 fP fd ["self", "parts"] (spPInit K C CP CM cB) := by
  refine F.okX scPInit (fun vs H Q E h => ?_) (fun cdv A outer s H vs Q E hr h => ?_)
  · obtain ⟨a, dx, v, rfl, _⟩ := h
    rfl
  · obtain ⟨a, dx, v, rfl, ha, k⟩ := h
    have nd := scPInit.nd
    have hr2 : Room 2 _ := hr.mono (by decide)
    refine ⟨_, pss_cons (ps_set (i := 2) nd rfl (Or.inl rfl) (dcE hRL hr (by decide) (passK (takes_of rfl rfl rfl rfl)) (pa_cons (pv 1) pa_nil)))
      (pss_cons (ps_set (i := 3) nd rfl (Or.inl rfl) (pe_callB call_len_seq (by rfl) B.len PySem.boot_len (pa_cons (pv 2) pa_nil)))
      (pss_cons (ps_while (passes_of rfl) (PW.pt (pw_and (pt_truth (pv 3) (by intro _; rfl)) (pw_and1 (pt_cmpR op_eq (pe_fld (pe_ix ix_list (pv 2) (pe_op op_sub (pv 3) pe_int) (fun _ _ => rfl)) rfl) pe_int (nomark _))))) (pss_one (ps_aug (i := 3) nd rfl (.inl rfl) pe_int ip_sub)))
      (pss_cons (ps_fld (pv 0) (pe_callTy call_tuple_of (by rfl) bt (by decide +kernel) (pa_cons (pe_slice sl_list (pv 2) po_none (po_some (pv 3))) pa_nil)) rfl)
      (pss_one (ps_fld (pv 0) (pe_make (E := E0) PC.mmade GM hr2 (by rfl) PC.mg bM .nil pass0 (pa_cons (pe_tup (pa_cons pe_str pa_nil)) pa_nil)) rfl))))), ?_⟩
    rcases k with ⟨u, fl, q⟩ | ⟨ps, gv, few, q⟩
    · exact ⟨_, rfl, spRL.flawed fl q⟩
    · refine ⟨_, rfl, spRL.good gv ?_⟩
      intro l ws H1 nl s1 hl pw
      have lw := paired_len pw
      refine ⟨_, rfl, l, _, rfl, .inl (SqL.of hl), ?_⟩
      have nea : ∀ {y : V} {p : Int × Int}, RV C H1 y p → ∃ b dx, y = .ref b ∧ b ≠ a ∧ H1 b = some (rat C dx p) := fun {y p} h => by
        obtain ⟨b, dx', rfl, h⟩ := h
        refine ⟨b, dx', rfl, fun z => ?_, h⟩
        subst z
        rw [s1 _ _ ha] at h
        unfold rat at h
        simp at h
      dsimp only [gName]
      refine seq_to (fun σ' G => ∃ m : Nat, σ' = [some (.ref a), some v, some (.ref l), some (.int (m : Int))] ∧ G = H1 ∧ TrimAt ps m) (fun kk hK => ?_) ?_
      · refine while_at (fun m σ' G => σ' = [some (.ref a), some v, some (.ref l), some (.int (m : Int))] ∧ G = H1 ∧ m ≤ ps.length ∧ ∀ k p, m ≤ k → ps[k]? = some p → p.1 = 0) ps.length
          ⟨by rw [← lw]; rfl, rfl, Nat.le_refl _, fun k p h e => by rw [List.getElem?_eq_none h] at e; cases e⟩ ?_
        rintro m σ' G ⟨rfl, rfl, ml, off⟩
        refine ⟨_, rfl, _, rfl, ?_⟩
        refine ite2 (fun y => ?_) (fun y => ?_)
        · have m0 : 0 < m := by
            refine Nat.pos_of_ne_zero fun z => ?_
            subst z
            simp at y
          have e := List.getElem?_eq_getElem (show m - 1 < ps.length by omega)
          obtain ⟨y0, ey, ry⟩ := paired_back pw e
          obtain ⟨b, dx', rfl, _, hb⟩ := nea ry
          have i1 : (m : Int) - 1 = ((m - 1 : Nat) : Int) := by omega
          refine ⟨_, rfl, _, rfl, _, _, rfl, rfl, l, _, _, _, rfl, rfl, SqL.of hl, (by rw [i1]; exact atI_nat ey), b, C, dx', _, _, rfl, hb, R.cls.c, R.cls.nT, rfl, rfl, _, rfl, ?_⟩
          refine ite2 (fun y2 => ?_) (fun y2 => ?_)
          · refine ⟨fun σ' G' => ∃ m', m' < m ∧ (σ' = [some (.ref a), some v, some (.ref l), some (.int (m' : Int))] ∧ G' = G ∧ m' ≤ ps.length ∧ ∀ k p, m' ≤ k → ps[k]? = some p → p.1 = 0), fun _ _ z => z, ?_⟩
            refine ⟨_, rfl, _, _, rfl, rfl, m - 1, by omega, by rw [← i1]; rfl, rfl, by omega, fun k p hk hp => ?_⟩
            by_cases c : k = m - 1
            · subst c
              rw [e] at hp
              cases hp
              simpa using y2
            · exact off k p (by omega) hp
          · refine hK _ _ ⟨m, rfl, rfl, ml, off, fun p _ hp z => ?_⟩
            rw [e] at hp
            cases hp
            exact y2 (decide_eq_true (by rw [z]))
        · have m0 : m = 0 := by
            refine Nat.eq_zero_of_not_pos fun z => y ?_
            simp
            omega
          exact hK _ _ ⟨m, rfl, rfl, ml, off, fun p z => by omega⟩
      rintro σ' G ⟨m, rfl, rfl, tr⟩
      have lm : m ≤ ws.length := by rw [lw]; exact tr.le
      refine ⟨_, rfl, _, rfl, _, rfl, l, _, rfl, SqL.of hl, fun p np => ?_⟩
      rw [cut_to lm]
      have sp := Same.new (o := .lst (ws.take m)) (fun _ _ e => e : Same G G) np
      refine ⟨p, _, rfl, .inl ⟨SqL.of upd_same, fun t nt => ?_⟩⟩
      have st := sp.trans (Same.new (o := .tup (ws.take m)) (fun _ _ e => e) nt)
      have ht : upd (upd G p (.lst (ws.take m))) t (.tup (ws.take m)) t = some (.tup (ws.take m)) := upd_same
      generalize upd (upd G p (.lst (ws.take m))) t (.tup (ws.take m)) = G2 at st ht ⊢
      have ha2 : G2 a = some (.ins CP dx []) := st _ _ (s1 _ _ ha)
      have ta : t ≠ a := fun z => by rw [z, ha2] at ht; cases ht
      refine ⟨_, rfl, a, CP, dx, [], rfl, ha2, PC.c, PC.nP, by decide, ?_⟩
      refine ⟨by show 1 ≤ sizeLine; decide, fun tb nb => ?_⟩
      intro mk dm nm ndm dmk
      have nea2 : ∀ {b : Addr}, upd G2 a (.ins CP dx (putF "parts" (.ref t) [])) b = none → b ≠ a := fun {b} h z => by rw [z, upd_same] at h; cases h
      have tba : tb ≠ a := nea2 nb
      have nmk := nm
      rw [upd_ne (fun z => by rw [z, upd_same] at nm; cases nm)] at nmk
      have ndm' := ndm
      rw [upd_ne (fun z => by rw [z, upd_same] at ndm; cases ndm)] at ndm'
      have mka : mk ≠ a := nea2 nmk
      have dma : dm ≠ a := nea2 ndm'
      have mtb : mk ≠ tb := fun z => by rw [z, upd_same] at nm; cases nm
      have dtb : dm ≠ tb := fun z => by rw [z, upd_same] at ndm; cases ndm
      have old : ∀ {b : Addr} {o : HO}, G2 b = some o → b ≠ a → b ≠ tb ∧ b ≠ mk ∧ b ≠ dm := fun {b o} h ba => by
        refine ⟨fun z => ?_, fun z => ?_, fun z => ?_⟩
        · rw [← z, upd_ne ba, h] at nb; cases nb
        · rw [← z, upd_ne ba, h] at nmk; cases nmk
        · rw [← z, upd_ne ba, h] at ndm'; cases ndm'
      refine ⟨mk, dm, _, rfl, upd_same, rfl, _, rfl, a, CP, dx, putF "parts" (.ref t) [], rfl, ?_, PC.c, PC.nM, by simp [putF], ?_⟩
      · rw [upd_ne mka.symm, upd_ne mka.symm, upd_ne dma.symm, upd_ne tba.symm]
        exact upd_same
      · rw [putPM]
        refine q m _ tr (fun b o hb ba => ?_) ?_
        · obtain ⟨o1, o2, o3⟩ := old (st _ _ (s1 _ _ hb)) ba
          rw [upd_ne ba, upd_ne o2, upd_ne o2, upd_ne o3, upd_ne o1, upd_ne ba]
          exact st _ _ (s1 _ _ hb)
        · refine ⟨dx, t, ws.take m, mk, dm, tb, upd_same, ?_, ?_, ?_, ?_⟩
          · obtain ⟨o1, o2, o3⟩ := old ht ta
            rw [upd_ne ta, upd_ne o2, upd_ne o2, upd_ne o3, upd_ne o1, upd_ne ta]
            exact ht
          · refine Paired.mapP (paired_takeP pw m) fun y p z => ?_
            obtain ⟨b, dx', e, ba, hb⟩ := nea z
            refine ⟨b, dx', e, ?_⟩
            obtain ⟨o1, o2, o3⟩ := old (st _ _ hb) ba
            rw [upd_ne ba, upd_ne o2, upd_ne o2, upd_ne o3, upd_ne o1, upd_ne ba]
            exact st _ _ hb
          · rw [upd_ne mka]
            exact upd_same
          · rw [upd_ne tba, upd_ne mtb.symm, upd_ne mtb.symm, upd_ne dtb.symm]
            exact upd_same
end
end K03
end
section
set_option maxHeartbeats 4000000
namespace K03
open PolyM
/-- the integers of the parts by M -/
def wholeOf (ps : List (Int × Int)) (M : Int) : List Int := ps.map fun p => p.1 * M.fdiv p.2
/-- the pairs of integers by B -/
def byOf (L : List Int) (B : Int) : List (Int × Int) := L.map fun z => low z B
theorem ci_at {L : List Int} {k : Nat} {z : Int} (h : L[k]? = some z) : ci L k = (z : _root_.Rat) := by
  unfold ci
  rw [List.getD_eq_getElem?_getD, h]
  rfl
theorem ci_out {L : List Int} {k : Nat} (h : L.length ≤ k) : ci L k = 0 := by
  unfold ci
  rw [getD_out h]
  rfl
theorem wholeOf_len {ps : List (Int × Int)} {M : Int} : (wholeOf ps M).length = ps.length := List.length_map ..
theorem ci_whole {ps : List (Int × Int)} {M : Int} (h : ∀ p ∈ ps, p.2 ∣ M ∧ p.2 ≠ 0) (k : Nat) : ci (wholeOf ps M) k = (M : _root_.Rat) * cf ps k := by
  by_cases c : k < ps.length
  · have e := List.getElem?_eq_getElem c
    obtain ⟨d, n⟩ := h _ (List.getElem_mem c)
    rw [ci_at (z := ps[k].1 * M.fdiv ps[k].2) (by unfold wholeOf; rw [List.getElem?_map, e]; rfl), cf_at e]
    have e2 : ps[k].2 * M.fdiv ps[k].2 = M := by
      obtain ⟨z, rfl⟩ := d
      rw [Int.mul_fdiv_cancel_left _ n]
    generalize M.fdiv ps[k].2 = f at e2 ⊢
    have e3 := congrArg (fun z : Int => (z : _root_.Rat)) e2
    simp only [Rat.intCast_mul] at e3
    have n2 := cast_ne n
    unfold val
    rw [Rat.intCast_mul]
    grind
  · rw [ci_out (by rw [wholeOf_len]; omega), cf_out (by omega)]
    grind
theorem cf_by {L : List Int} {B : Int} (h : B ≠ 0) (k : Nat) : cf (byOf L B) k = ci L k / (B : _root_.Rat) := by
  by_cases c : k < L.length
  · have e := List.getElem?_eq_getElem c
    rw [cf_at (p := low L[k] B) (by unfold byOf; rw [List.getElem?_map, e]; rfl), ci_at e, val_low h]
  · rw [cf_out (by unfold byOf; rw [List.length_map]; omega), ci_out (by omega)]
    have := cast_ne h
    grind
theorem byOf_low {L : List Int} {B : Int} (h : B ≠ 0) : ∀ p ∈ byOf L B, Low p := fun p hp => by
  unfold byOf at hp
  obtain ⟨z, _, rfl⟩ := List.mem_map.mp hp
  exact low_low h
end K03
end
section
set_option maxHeartbeats 8000000
set_option exponentiation.threshold 100000
namespace K03
open PySem PySem.Spec PyProof.Rows L2 LamX NdefX L3 PolyM
abbrev sShB : Stmt := top 27
abbrev sWhl : Stmt := top 28
abbrev sPBy : Stmt := top 38
theorem Given.same {K : PySem.W.Frag} {C : Addr} {H H' : Hp} {v : V} {ps : List (Int × Int)} (h : Given K C H v ps) (s : Same H H') : Given K C H' v ps := by
  obtain ⟨xs, h1, h2, h3⟩ := h
  exact ⟨xs, h1.same s, h2, Paired.mapP h3 fun _ _ z => z.same s⟩
theorem Flawed.same {K : PySem.W.Frag} {C : Addr} {H H' : Hp} {v u : V} (h : Flawed K C H v u) (s : Same H H') : Flawed K C H' v u := by
  rcases h with ⟨h, e⟩ | ⟨xs, ps, rest, h1, h2, h3, h4⟩
  · exact .inl ⟨h.same s, e⟩
  · exact .inr ⟨xs, ps, rest, h1.same s, h2, Paired.mapP h3 fun _ _ z => z.same s, h4.same s⟩
/-- the class Poly as it stands in the text -/
structure Pol (P : Program) (w : World) (K : PySem.W.Frag) (mg : Str → Option Value) (base : Heap) (cB C CP CM fP fM : Addr) : Prop where
  cls : PolC K mg CP CM fP fM
  init : ∃ fd : FuncData, FnOk P w K mg base (L2.CX P w) 8 fP fd ["self", "parts"] (spPInit K C CP CM cB) ∧ Binds K fd ["self", "parts"] []
/-- what Poly(v) tells -/
def PolOf (K : PySem.W.Frag) (C CP CM cB : Addr) (H : Hp) (E : XK) (v : V) (Q : VK) : Prop := (∃ u, Flawed K C H v u ∧ Bad cB u H E) ∨ ∃ ps, Given K C H v ps ∧ ps.length ≤ 100000 ∧ ∀ m : Nat, TrimAt ps m → NewPoly C CP CM H Q (ps.take m)
def tPol (K : PySem.W.Frag) (C CP CM cB : Addr) (E : XK) (te : TE) : TE := fun σ H Q => te σ H fun v H1 => PolOf K C CP CM cB H1 E v Q
theorem NewPoly.grow {C CP CM : Addr} {H H' : Hp} {Q : VK} {ps : List (Int × Int)} (n : NewPoly C CP CM H Q ps) (s : Same H H') : NewPoly C CP CM H' Q ps := fun a G na sG p => n a G (same_none s na) (s.trans sG) p
/-- the least integer that all bottoms divide -/
def lcmB (ps : List (Int × Int)) : Nat := ps.foldl (fun m p => Nat.lcm m p.2.natAbs) 1
theorem lcmB_snoc {ps : List (Int × Int)} {p : Int × Int} : lcmB (ps ++ [p]) = Nat.lcm (lcmB ps) p.2.natAbs := by
  unfold lcmB
  rw [List.foldl_append]
  rfl
theorem lcm_fold {M : Nat} : ∀ (ps : List (Int × Int)) (m : Nat), m ∣ M → (∀ p ∈ ps, p.2.natAbs ∣ M) → ps.foldl (fun m p => Nat.lcm m p.2.natAbs) m ∣ M
  | [], _, h, _ => h
  | p :: ps, m, h, hp => lcm_fold ps _ (Nat.lcm_dvd h (hp p List.mem_cons_self)) fun q hq => hp q (List.mem_cons_of_mem _ hq)
theorem lcmB_dvd {ps : List (Int × Int)} {M : Nat} (h : ∀ p ∈ ps, p.2 ∣ (M : Int)) : lcmB ps ∣ M := lcm_fold ps 1 (Nat.one_dvd _) fun p hp => by
  have := Int.natAbs_dvd_natAbs.mpr (h p hp)
  rwa [Int.natAbs_natCast] at this
theorem fold_dvd : ∀ (ps : List (Int × Int)) (m : Nat), m ∣ ps.foldl (fun m p => Nat.lcm m p.2.natAbs) m ∧ ∀ p ∈ ps, p.2.natAbs ∣ ps.foldl (fun m p => Nat.lcm m p.2.natAbs) m
  | [], m => ⟨Nat.dvd_refl _, fun _ h => (List.not_mem_nil h).elim⟩
  | p :: ps, m => by
    obtain ⟨h1, h2⟩ := fold_dvd ps (Nat.lcm m p.2.natAbs)
    refine ⟨Nat.dvd_trans (Nat.dvd_lcm_left _ _) h1, fun q hq => ?_⟩
    rcases List.mem_cons.mp hq with rfl | hq
    · exact Nat.dvd_trans (Nat.dvd_lcm_right _ _) h1
    · exact h2 q hq
theorem lcmB_all {ps : List (Int × Int)} {p : Int × Int} (h : p ∈ ps) : p.2 ∣ (lcmB ps : Int) := by
  refine Int.natAbs_dvd_natAbs.mp ?_
  rw [Int.natAbs_natCast]
  exact (fold_dvd ps 1).2 p h
theorem lcmB_take {ps : List (Int × Int)} {M : Nat} (h : ∀ p ∈ ps, p.2 ∣ (M : Int)) (i : Nat) : lcmB (ps.take i) ∣ M := lcmB_dvd fun p hp => h p (List.mem_of_mem_take hp)
theorem lcmB_pos {ps : List (Int × Int)} {M : Nat} (hM : 0 < M) (h : ∀ p ∈ ps, p.2 ∣ (M : Int)) : 0 < lcmB ps := Nat.pos_of_dvd_of_pos (lcmB_dvd h) hM
theorem paired_intsF {α : Type} {f : α → Int} {ws : List V} {ps : List α} (h : Paired (fun (y : V) (p : α) => y = .int (f p)) ws ps) : ws = vInts (ps.map f) := by
  induction h with
  | nil => rfl
  | cons h _ ih =>
    rw [h, ih]
    rfl
theorem paired_mapR {α β γ : Type} {F : α → γ → Prop} {g : β → γ} {l : List α} {m : List β} (h : Paired (fun a b => F a (g b)) l m) : Paired F l (m.map g) := by
  induction h with
  | nil => exact .nil
  | cons h _ ih => exact .cons h ih
def spShB (K : PySem.W.Frag) (C : Addr) : Sp := fun vs H Q _ => ∃ (v : V) (xs : List V) (ps : List (Int × Int)) (M : Nat), vs = [v] ∧ SeqV K H v xs ∧ Paired (RV C H) xs ps ∧ 0 < M ∧ M < 2 ^ 9000 ∧ (∀ p ∈ ps, p.2 ∣ (M : Int)) ∧ ∀ H', Same H H' → Q (.int (lcmB ps : Nat)) H'
def spWhl (K : PySem.W.Frag) (C : Addr) : Sp := fun vs H Q _ => ∃ (v : V) (xs : List V) (ps : List (Int × Int)) (M R : Nat), vs = [v] ∧ SeqV K H v xs ∧ xs.length ≤ sizeLine ∧ Paired (RV C H) xs ps ∧ 0 < M ∧ M < 2 ^ 9000 ∧ (∀ p ∈ ps, p.2 ∣ (M : Int) ∧ 0 < p.2 ∧ p.1.natAbs < 2 ^ R) ∧ R ≤ 400000 ∧
  ∀ (t l : Addr) (H' : Hp), H t = none → Same H H' → H' t = some (.tup [.ref l, .int (lcmB ps : Nat)]) → H' l = some (.lst (vInts (wholeOf ps (lcmB ps : Nat)))) → Q (.ref t) H'
section
variable {X : Cx} {cB cN C fI CP CM fP fM : Addr} {e : Expr} {te : TE} {p pos : Pos} {E : XK}
theorem pe_fldK {f : Str} (K : PySem.W.Frag) (he : PE X e te) (hK : X.K = K := by rfl) (hb : attributeBase e f X.env (eval e X.env) = eval e X.env := by rfl) : PE X (.Attribute e f pos) (tFld K te f) := by
  subst hK
  exact pe_fld he hb
/-- Poly(e) -/
theorem pe_pol (L : Pol X.prog X.w X.K X.mg X.base cB C CP CM fP fM) (hr : Room 9 X.A) (hx : Passes (L2.CX X.prog X.w) X E) (he : PE X e te) (hg : Gl X "Poly" := by rfl)
    (hs : starEach [e] X.env = (false, eval e X.env) :: starEach [] X.env := by rfl) : PE X (.Call (.Name "Poly" p) [e] [] pos) (tPol X.K C CP CM cB E te) := by
  obtain ⟨fd, F, b⟩ := L.init
  refine ⟨fun pins s σ H Q I h => wpAny_Call_Name_kw (ld_glob I hg L.cls.g ?_ (by decide))⟩
  refine PySem.W.callWith_K (h₀ := X.base) I.ok.mod.kin L.cls.made.kp ?_ hs (by rfl)
  rw [hs]
  show wpAny _ _ (spliced ((false, eval e X.env) :: backTo pos (starEach [] X.env))) _ _ s
  refine Calls.spliced_cons (thn (he.run pins s σ H _ I h) fun w1 s1 ⟨x, H1, I1, r1, q1⟩ => Calls.spliced_nil ⟨I1.kIn, ?_⟩)
  refine run_make (vs := [x]) (dvs := []) L.cls.made F hr b .nil hx I1 (.cons r1 .nil) fun a dx ha hd ne => ?_
  have s : Same H1 (upd (upd H1 dx (.own a)) a (.ins CP dx [])) := Same.new (Same.new (fun _ _ z => z) hd) (by rw [upd_ne ne.symm]; exact ha)
  refine ⟨a, dx, x, rfl, upd_same, ?_⟩
  rcases q1 with ⟨u, fl, bd⟩ | ⟨ps, gv, few, q⟩
  · exact .inl ⟨u, fl.same s, bd.mono s⟩
  · refine .inr ⟨ps, gv.same s, few, fun m H' tr old pa => ⟨rfl, q m tr a H' ha (fun b o hb => ?_) pa⟩⟩
    exact old b o (s _ _ hb) (ne_of_none hb ha)
end
section
variable {P : Program} {w : World} {K : PySem.W.Frag} {mg : Str → Option Value} {base : Heap} {cB cN C fI CP CM fP fM : Addr}
theorem scShB : FnScope ["ratios", "shared", "ratio"] ["ratios"] (defScope sShB) := ⟨rfl, rfl, rfl, by decide +kernel, rfl, by decide +kernel, by decide +kernel⟩
theorem ok_shB {f : Addr} {fd : FuncData} (F : Fun K "shared_bottom" "shared_bottom" sShB f fd) (R : Rat P w K mg base cB cN C fI) (bl : mg "lcm" = some (.builtin "math.lcm")) : FnOk P w K mg base CX0 1 f fd ["ratios"] (spShB K C) := by
  refine F.ok scShB (fun vs H Q E h => ?_) (fun cdv A outer s H vs Q E hr h => ?_)
  · obtain ⟨v, xs, ps, M, rfl, _⟩ := h
    rfl
  · obtain ⟨v, xs, ps, M, rfl, sq, pr, M0, Mb, hM, k⟩ := h
    have nd := scShB.nd
    refine ⟨_, pss_cons (ps_set (i := 1) nd rfl (Or.inl rfl) pe_int)
      (pss_cons (ps_for PassesOwn.never rfl (pi_or (pi_list (pv 0)) (pi_tup (pv 0))) (pg_name (i := 2) nd rfl (Or.inl rfl)) (pss_one (ps_if (pt_cmpR op_ne (pe_fld (pv 2) rfl) pe_int (nomark _)) (pss_one (ps_set (i := 1) nd rfl (Or.inl rfl) (pe_callBfun cr_lcm (by rfl) bl (pa_cons (pv 1) (pa_cons (pe_fld (pv 2) rfl) pa_nil))))) pss_nil)))
      (pss_one (ps_ret (pv 1)))), ?_⟩
    refine seq_to (fun σ' G => σ' = [some v, some (.int 1), none] ∧ G = H) (fun kk hK => hK _ _ ⟨rfl, rfl⟩) ?_
    rintro σ' H ⟨rfl, rfl⟩
    refine for_seq (K := K) (v := v) (xs := xs) (fun R r => ⟨_, rfl, r⟩) sq (fun i σ' G => G = H ∧ ∃ o, σ' = [some v, some (.int (lcmB (ps.take i) : Nat)), o]) ⟨rfl, none, rfl⟩ (fun i σ' G z => by rw [z.1]; exact fun _ _ e => e) ?_ ?_
    · rintro i x σ' G hx ⟨rfl, o, rfl⟩
      obtain ⟨q, hq, a, dx, rfl, ha⟩ := paired_at pr hx
      have small : ∀ {n : Nat}, n ∣ M → n < 2 ^ 9000 := fun h => Nat.lt_of_le_of_lt (Nat.le_of_dvd M0 h) Mb
      have qd : q.2.natAbs ∣ M := by
        have := Int.natAbs_dvd_natAbs.mpr (hM q (List.mem_of_getElem? hq))
        rwa [Int.natAbs_natCast] at this
      refine ⟨_, rfl, a, C, dx, _, _, rfl, ha, R.cls.c, R.cls.nB, rfl, rfl, _, rfl, ?_⟩
      refine ite2 (fun h1 => ?_) (fun h1 => ?_)
      · refine ⟨_, rfl, _, rfl, a, C, dx, _, _, rfl, ha, R.cls.c, R.cls.nB, rfl, _, _, rfl, ?_, small qd, rfl, some (.ref a), ?_⟩
        · rw [Int.natAbs_natCast]
          exact small (lcmB_take hM i)
        · rw [take_snoc hq, lcmB_snoc]
          rfl
      · have e1 : q.2 = 1 := by simpa using h1
        refine ⟨rfl, some (.ref a), ?_⟩
        rw [take_snoc hq, lcmB_snoc, e1]
        simp
    · rintro σ' G ⟨rfl, o, rfl⟩
      rw [paired_len pr, List.take_length]
      exact ⟨_, rfl, k _ fun _ _ e => e⟩
theorem scWhl : FnScope ["ratios", "bottom", "ratio"] ["ratios"] (defScope sWhl) := ⟨rfl, rfl, rfl, by decide +kernel, rfl, by decide +kernel, by decide +kernel⟩
theorem fdiv_small {M q : Int} (h : q ∣ M) : (M.fdiv q).natAbs ≤ M.natAbs := by
  obtain ⟨z, rfl⟩ := h
  by_cases c : q = 0
  · subst c; simp
  · rw [Int.mul_fdiv_cancel_left _ c, Int.natAbs_mul]
    exact Nat.le_mul_of_pos_left _ (Int.natAbs_pos.mpr c)
theorem ok_whl {f : Addr} {fd : FuncData} (F : Fun K "whole_parts" "whole_parts" sWhl f fd) (R : Rat P w K mg base cB cN C fI) (hSB : Dfn P w K mg base CX0 1 "shared_bottom" ["ratios"] (spShB K C)) : FnOk P w K mg base CX0 2 f fd ["ratios"] (spWhl K C) := by
  refine F.ok scWhl (fun vs H Q E h => ?_) (fun cdv A outer s H vs Q E hr h => ?_)
  · obtain ⟨v, xs, ps, M, R, rfl, _⟩ := h
    rfl
  · obtain ⟨v, xs, ps, M, B, rfl, sq, few, pr, M0, Mb, hM, lB, k⟩ := h
    have nd := scWhl.nd
    refine ⟨_, pss_cons (ps_set (i := 1) nd rfl (Or.inr rfl) (dc hSB hr (by decide) (pa_cons (pv 0) pa_nil)))
      (pss_cons (ps_if (pt_cmpR op_eq (pv 1) pe_int (nomark _)) (pss_one (ps_ret (pe_tup (pa_cons (pe_lc (own := [("ratio", 2)]) (g := gName 2) (tt := tYes) rfl nd (pi_or (pi_list (pv 0)) (pi_tup (pv 0))) (blkOk_by (N := ["ratios", "bottom", "ratio"]) (sc := defScope sWhl) (by decide +kernel)) (fun _ _ _ _ _ => pg_name (i := 2) nd rfl (Or.inl rfl)) (fun _ _ _ _ _ => pts_nil) (fun _ _ _ _ _ => by exact (pe_fldK K (pv 2)))) (pa_cons pe_int pa_nil))))) pss_nil)
      (pss_one (ps_ret (pe_tup (pa_cons (pe_lc (own := [("ratio", 2)]) (g := gName 2) (tt := tYes) rfl nd (pi_or (pi_list (pv 0)) (pi_tup (pv 0))) (blkOk_by (N := ["ratios", "bottom", "ratio"]) (sc := defScope sWhl) (by decide +kernel)) (fun _ _ _ _ _ => pg_name (i := 2) nd rfl (Or.inl rfl)) (fun _ _ _ _ _ => pts_nil) (fun _ _ _ _ _ => by exact (pe_op op_mulW (pe_fldK K (pv 2)) (pe_op op_fdivZ (pv 1) (pe_fldK K (pv 2)))))) (pa_cons (pv 1) pa_nil)))))), ?_⟩
    have lp : 0 < lcmB ps := lcmB_pos M0 fun p hp => (hM p hp).1
    have lM : lcmB ps < 2 ^ 9000 := Nat.lt_of_le_of_lt (Nat.le_of_dvd M0 (lcmB_dvd fun p hp => (hM p hp).1)) Mb
    refine ⟨_, rfl, v, xs, ps, M, rfl, sq, pr, M0, Mb, fun p hp => (hM p hp).1, fun G sG => ?_⟩
    refine ⟨_, rfl, rfl, _, rfl, ?_⟩
    refine ite2 (fun h1 => ?_) (fun h1 => ?_)
    · have e1 : ((lcmB ps : Nat) : Int) = 1 := by simpa using h1
      have eo : ∀ p ∈ ps, p.2 = 1 := fun p hp => by
        have d := lcmB_all hp
        rw [e1] at d
        have := Int.le_of_dvd (by decide) d
        have := (hM p hp).2.1
        omega
      dsimp only [gName, tRet, tTup, tCons, tNil, List.map]
      refine lc_map (K := K) (v := v) (xs := xs) (bs := ps) (Rr := fun _ _ (y : V) (p : Int × Int) => y = .int p.1) (fun R r => ⟨_, rfl, r⟩) (sq.same sG) few (paired_len pr) (fun _ _ _ _ _ h _ => h) (fun _ _ _ _ _ _ _ h => h) ?_ ?_
      · intro D i x p G2 rs Kc hx hp s2 hD kc
        obtain ⟨q, hq, a, dx, rfl, ha⟩ := paired_at pr hx
        rw [hp] at hq
        cases hq
        exact ⟨_, rfl, a, C, dx, _, _, rfl, s2 _ _ (sG _ _ ha), R.cls.c, R.cls.nT, rfl, kc _ _ (fun _ _ e => e) rfl⟩
      · intro l ws G2 nl s2 hl pw
        have ew : ws = vInts (wholeOf ps (lcmB ps : Nat)) := by
          rw [paired_intsF (f := fun p : Int × Int => p.1) pw, e1]
          refine congrArg vInts (List.map_congr_left fun p hp => ?_)
          rw [eo p hp]
          simp
        refine ⟨by show 2 ≤ sizeLine; decide, fun t nt => ?_⟩
        have st := Same.new (o := .tup [.ref l, .int 1]) (fun _ _ e => e : Same G2 G2) nt
        exact k t l _ (same_none (sG.trans s2) nt) (sG.trans (s2.trans st)) (by rw [e1]; exact upd_same) (by rw [← ew]; exact st _ _ hl)
    dsimp only [tNext, gName, tRet, tTup, tCons, tNil, List.map]
    refine lc_map (K := K) (v := v) (xs := xs) (bs := ps) (Rr := fun _ _ (y : V) (p : Int × Int) => y = .int (p.1 * ((lcmB ps : Nat) : Int).fdiv p.2)) (fun R r => ⟨_, rfl, r⟩) (sq.same sG) few (paired_len pr) (fun _ _ _ _ _ h _ => h) (fun _ _ _ _ _ _ _ h => h) ?_ ?_
    · intro D i x p G2 rs Kc hx hp s2 hD kc
      obtain ⟨q, hq, a, dx, rfl, ha⟩ := paired_at pr hx
      rw [hp] at hq
      cases hq
      have mp := List.mem_of_getElem? hp
      obtain ⟨h1, h2, h3⟩ := hM p mp
      have pb : p.2.natAbs ≤ lcmB ps := Nat.le_of_dvd lp (by
        have := Int.natAbs_dvd_natAbs.mpr (lcmB_all mp)
        rwa [Int.natAbs_natCast] at this)
      have ha2 := s2 _ _ (sG _ _ ha)
      refine ⟨_, rfl, a, C, dx, _, _, rfl, ha2, R.cls.c, R.cls.nT, rfl, _, rfl, _, rfl, a, C, dx, _, _, rfl, ha2, R.cls.c, R.cls.nB, rfl, _, _, rfl, rfl, ?_, _, _, rfl, rfl, ?_, kc _ _ (fun _ _ e => e) rfl⟩
      · exact ⟨Int.ne_of_gt h2, log2_le (Nat.le_refl _) (Int.natAbs_pos.mpr (Int.ne_of_gt h2)) (Nat.lt_of_le_of_lt pb lM) (by decide)⟩
      · have fb : (((lcmB ps : Nat) : Int).fdiv p.2).natAbs < 2 ^ 9000 := Nat.lt_of_le_of_lt (fdiv_small (lcmB_all mp)) (by rw [Int.natAbs_natCast]; exact lM)
        exact mul_fit h3 fb (by omega)
    · intro l ws G2 nl s2 hl pw
      have ew : ws = vInts (wholeOf ps (lcmB ps : Nat)) := paired_intsF (f := fun p : Int × Int => p.1 * ((lcmB ps : Nat) : Int).fdiv p.2) pw
      refine ⟨_, rfl, by show 2 ≤ sizeLine; decide, fun t nt => ?_⟩
      have st := Same.new (o := .tup [.ref l, .int (lcmB ps : Nat)]) (fun _ _ e => e : Same G2 G2) nt
      exact k t l _ (same_none (sG.trans s2) nt) (sG.trans (s2.trans st)) upd_same (by rw [← ew]; exact st _ _ hl)
def spPBy (K : PySem.W.Frag) (C CP CM : Addr) : Sp := fun vs H Q _ => ∃ (l : Addr) (L : List Int) (B : Int), vs = [.ref l, .int B] ∧ H l = some (.lst (vInts L)) ∧ L.length ≤ 100000 ∧ B ≠ 0 ∧ Sz B ∧ ∀ m, TrimAt (byOf L B) m → NewPoly C CP CM H Q ((byOf L B).take m)
theorem scPBy : FnScope ["parts", "bottom", "part"] ["parts", "bottom"] (defScope sPBy) := ⟨rfl, rfl, rfl, by decide +kernel, rfl, by decide +kernel, by decide +kernel⟩
theorem ok_pby {f : Addr} {fd : FuncData} (F : Fun K "poly_by" "poly_by" sPBy f fd) (R : Rat P w K mg base cB cN C fI) (L : Pol P w K mg base cB C CP CM fP fM) : FnOk P w K mg base (L2.CX P w) 10 f fd ["parts", "bottom"] (spPBy K C CP CM) := by
  refine F.okX scPBy (fun vs H Q E h => ?_) (fun cdv A outer s H vs Q E hr h => ?_)
  · obtain ⟨l, M, B, rfl, _⟩ := h
    rfl
  · obtain ⟨l, N, B, rfl, hl, few, b0, bs, k⟩ := h
    have nd := scPBy.nd
    have hr5 : Room 5 _ := hr.mono (by decide)
    refine ⟨_, pss_one (ps_ret (pe_pol (E := E) L hr (passK (takes_of rfl rfl rfl rfl)) (pe_lc (own := [("part", 2)]) (g := gName 2) (tt := tYes) rfl nd (pi_list (pv 0)) (blkOk_by (N := ["parts", "bottom", "part"]) (sc := defScope sPBy) (by decide +kernel)) (fun _ _ _ _ _ => pg_name (i := 2) nd rfl (Or.inl rfl)) (fun _ _ _ _ _ => pts_nil) (fun _ _ _ _ _ => by exact (pe_rat2K K (E := E0) R hr5 passL (pv 2) (pv 1)))))), ?_⟩
    dsimp only [tRet, tPol]
    refine lc_mapL (bs := N) (Rr := fun _ G (y : V) (z : Int) => RV C G y (low z B)) (fun R r => ⟨_, rfl, r⟩) (SqL.of hl) (by rw [vInts_len]; exact Nat.le_trans few (by decide)) vInts_len (fun _ _ _ _ _ h s => h.same s) ?_ ?_ ?_
    · rintro D G rs ys y z hD ⟨a, dx, e, ha⟩
      refine ⟨a, dx, e, ?_⟩
      rw [upd_ne (fun z => by rw [z, hD] at ha; cases ha)]
      exact ha
    · intro D i x z G2 rs Kc hx hz s2 hD kc
      unfold vInts at hx
      rw [List.getElem?_map, hz] at hx
      cases hx
      exact ⟨_, rfl, _, rfl, .good z B rfl rfl b0 bs fun a dx G3 na s3 ea => kc _ _ s3 ⟨a, dx, rfl, ea⟩⟩
    · intro l2 ws G2 nl s2 hl2 pw
      have lw : ws.length ≤ sizeLine := by rw [paired_len pw]; exact Nat.le_trans few (by decide)
      exact .inr ⟨byOf N B, ⟨ws, ⟨l2, rfl, .inl (SqL.of hl2)⟩, lw, paired_mapR (Paired.mapP pw fun _ _ z => .inr z)⟩, by unfold byOf; rw [List.length_map]; exact few, fun m tr => (k m tr).grow s2⟩
end
end K03
end
section
set_option maxHeartbeats 8000000
set_option exponentiation.threshold 100000
namespace K03
open PySem PySem.Spec PyProof.Rows L2 LamX NdefX L3 PolyM
/-- the bottoms divide M, the tops are at most R times the bottoms -/
structure Bds (M R : Nat) (ps : List (Int × Int)) : Prop where
  pos : 0 < M
  all : ∀ p ∈ ps, Bd M R p
theorem Bds.facts {M R n : Nat} {ps : List (Int × Int)} (b : Bds M R ps) (low : ∀ p ∈ ps, Low p) (h : (R + 1) * M < 2 ^ n) : ∀ p ∈ ps, p.2 ∣ (M : Int) ∧ 0 < p.2 ∧ p.1.natAbs < 2 ^ n := fun p hp => by
  have z := b.all p hp
  refine ⟨z.d, (low p hp).pos, Nat.lt_of_le_of_lt (z.le b.pos).2 (Nat.lt_of_le_of_lt ?_ h)⟩
  exact Nat.mul_le_mul_right _ (Nat.le_succ _)
theorem whole_small {M R n : Nat} {ps : List (Int × Int)} (b : Bds M R ps) (low : ∀ p ∈ ps, Low p) (h : (R + 1) * M < 2 ^ n) : ∀ z ∈ wholeOf ps (lcmB ps : Nat), z.natAbs < 2 ^ n := fun z hz => by
  unfold wholeOf at hz
  obtain ⟨p, hp, rfl⟩ := List.mem_map.mp hz
  have bp := b.all p hp
  have dM : lcmB ps ∣ M := lcmB_dvd fun q hq => (b.all q hq).d
  have lM := Nat.le_of_dvd b.pos dM
  have d := lcmB_all hp
  have e : (p.2.natAbs) * (((lcmB ps : Nat) : Int).fdiv p.2).natAbs = lcmB ps := by
    obtain ⟨z, hz⟩ := d
    rw [hz, Int.mul_fdiv_cancel_left _ (low p hp).ne, ← Int.natAbs_mul, ← hz, Int.natAbs_natCast]
  rw [Int.natAbs_mul]
  refine Nat.lt_of_le_of_lt ?_ h
  calc p.1.natAbs * (((lcmB ps : Nat) : Int).fdiv p.2).natAbs ≤ (R * p.2.natAbs) * (((lcmB ps : Nat) : Int).fdiv p.2).natAbs := Nat.mul_le_mul_right _ bp.s
    _ = R * lcmB ps := by rw [Nat.mul_assoc, e]
    _ ≤ R * M := Nat.mul_le_mul_left _ lM
    _ ≤ (R + 1) * M := Nat.mul_le_mul_right _ (Nat.le_succ _)
section
variable {P : Program} {w : World} {K : PySem.W.Frag} {mg : Str → Option Value} {base : Heap} {cB cN C fI CP CM fP fM : Addr}
end
end K03
end
section
set_option maxHeartbeats 8000000
set_option exponentiation.threshold 100000
namespace K03
open PySem PySem.Spec PyProof.Rows L2 LamX NdefX L3 PolyM
/-- an own class against a built-in one, against another own one -/
theorem cls_kitT {K : PySem.W.Frag} {C : Addr} (t : Top1 K C) (ty : PySem.W.typeIn K (.ref C) = some (.type "type")) {T : String} (h : (fastBuiltinMro T).isSome = true) : PySem.W.kitOne K (.type T) (.ref C) = some false := by
  obtain ⟨cd, h1, _⟩ := t.mr
  unfold PySem.W.kitOne
  rw [if_neg (by simp)]
  show (if ((PySem.W.clsIn K C).isSome && PySem.W.typeIn K (.ref C) == some (.type "type")) = true then PySem.W.subIn K (.type T) (.ref C) else none) = some false
  rw [if_pos (by rw [h1, ty]; rfl)]
  exact PySem.OwnB.sub_type h
theorem cls_kitC {K : PySem.W.Frag} {C C2 : Addr} (t : Top1 K C) (ty : PySem.W.typeIn K (.ref C) = some (.type "type")) (t2 : Top1 K C2) (ne : C2 ≠ C) : PySem.W.kitOne K (.ref C2) (.ref C) = some false := by
  obtain ⟨cd, h1, _⟩ := t.mr
  unfold PySem.W.kitOne
  rw [if_neg (by simpa using ne)]
  show (if ((PySem.W.clsIn K C).isSome && PySem.W.typeIn K (.ref C) == some (.type "type")) = true then PySem.W.subIn K (.ref C2) (.ref C) else none) = some false
  rw [if_pos (by rw [h1, ty]; rfl), t2.sub]
  have : ([Value.ref C2, .type "object"] : List Value).contains (.ref C) = false := by
    simp
    exact fun z => ne z.symm
  rw [this]
section
variable {P : Program} {w : World} {K : PySem.W.Frag} {mg : Str → Option Value} {base : Heap} {cB cN C fI CP CM fP fM : Addr}
end
end K03
end
section
set_option maxHeartbeats 4000000
namespace PySem
namespace GetA
open PySem.W PyProof.Rows PySem.Calls
section
variable {prog : Program} {w : World} {A : Around} {E : Value → Shared → Prop} {s : Shared}
/-- getattr(x, "mark", d) where the look-up finds a value -/
theorem getattr3_hit {a : Addr} {v r0 : Value} {u : Tok} {Q : Value → Shared → Prop} (hm : Looks (model prog w) s.heap (isInstance (.ref a) (.type "module")) false)
   (h : wpAny (model prog w) A.in1 (getAttrBy? (.ref a) (.str ("mark" : Str) u)) (fun r s' => r = some r0 ∧ Q r0 s') E s) : wpAny (model prog w) A (call (.builtin "getattr") [.ref a, .str ("mark" : Str) u, v]) Q E s := by
  refine Calls.call_function_entry KB.kind_getattr KB.plain_getattr KB.entry_getattr (args3 _ _ _) ?_
  unfold Builtin.«getattr»
  refine wpAny_bind (wpAny_of_eq (a := [.ref a, .str ("mark" : Str) u, v]) (by first | rfl | kernel_rfl) ?_)
  dsimp only
  refine wpAny_bind (wpAny_of_eq (a := ()) (by first | rfl | kernel_rfl) ?_)
  refine wpAny_bind (wpAny_of_eq (a := none) (by first | rfl | kernel_rfl) ?_)
  dsimp only
  have z : wpAny (model prog w) A.in1 (isInstance (.ref a) (.type "module")) (fun r s' => r = false ∧ s' = s) E s := hm _ _ _ s (fun _ _ e => e) ⟨rfl, rfl⟩
  refine wpAny_bind (wpAny_mono (Q := fun r s' => r = 0 ∧ s' = s) ?_ (fun r s' hq => ?_) fun _ _ e => e)
  · refine wpAny_bind (wpAny_of_eq (a := some ("mark" : Str)) (by first | rfl | kernel_rfl) ?_)
    refine wpAny_bind (wpAny_mono z (fun r s' hq => ?_) fun _ _ e => e)
    obtain ⟨rfl, rfl⟩ := hq
    exact wpAny_pure ⟨rfl, rfl⟩
  · obtain ⟨rfl, rfl⟩ := hq
    rw [if_neg (by decide)]
    refine wpAny_bind (wpAny_mono h (fun r s' hq => ?_) fun _ _ e => e)
    obtain ⟨rfl, q⟩ := hq
    exact wpAny_pure ⟨_, rfl, q⟩
theorem get_valueQ {K : Frag} {x C : Addr} {ox : Obj} {od : Option Obj} {name : Str} {tk : Tok} {v : Value} {Q : Option Value → Shared → Prop} (X : K.In s.heap) (I : InstAt s.heap x ox C od) (hga : findIn K (.ref C) "__getattribute__" = some (some (.builtin "object.__getattribute__")))
    (hf : findObj K C od name = some (.value v)) (hh : handedIn v = true) (h : Q (some v) s) : wpAny (model prog w) A (getAttrBy? (.ref x) (.str name tk)) Q E s := by
  obtain ⟨hh', g, d, t, os⟩ := s
  have L0 := I.type (M := model prog w)
  have L1 := looks_findIn (M := model prog w) X hga
  have L2 := looks_find (M := model prog w) X I hf
  unfold getAttrBy? getAttrBy
  refine wpAny_bind (wpAny_attempt (wpAny_holding (wpAny_bind (L0.at (wpAny_bind (L1.at ?_))))))
  show wpAny _ _ (getAttrEveryday _ _ _) _ _ _
  refine wpAny_bind (wpAny_onRaise (wpAny_runValue (codeAny_builtin F.plainObj_entry_getattr_hooked (wpAny_mono (Q := fun fin s' => match fin with | .done (.ret u) => u = v ∧ s' = ⟨hh', g, d, t, os⟩ | _ => False) (E := fun _ _ => False) ?_ (fun fin s' z => ?_) fun _ _ z => z.elim))))
  · refine wpAny_bind (wpAny_pure (wpAny_bind (L0.at (wpAny_bind (L2.at ?_)))))
    exact wpAny_pure ⟨rfl, rfl⟩
  · rcases fin with (_ | _ | _ | _) | _ <;> first | exact z.elim | skip
    obtain ⟨rfl, rfl⟩ := z
    show wpAny _ _ (handedOut _) _ _ _
    rw [handedOut_of hh]
    exact wpAny_pure (wpAny_pure h)
end
end GetA
end PySem
namespace L2
open PySem PySem.Spec PyProof.Rows
/-- getattr(x, "mark", v), x an own instance that has it -/
def rGetI (K : PySem.W.Frag) : List V → Hp → VK → Prop := fun vs H Q => ∃ (a C dx : Addr) (fs : List (Str × V)) (v y : V), vs = [.ref a, .str "mark", v] ∧ H a = some (.ins C dx fs) ∧ Cls K C ∧ NoAttr K C "mark" ∧ Top1 K C ∧ fs.lookup ("mark" : Str) = some y ∧ Q y H
theorem call_getI {X : Cx} : CallR X (.builtin "getattr") (rGetI X.K) := by
  intro pins s σ H xs us Q I r h
  obtain ⟨a, C, dx, fs, v, y, rfl, e, c, n, t1, l, q⟩ := h
  match us, r with
  | [u1, u2, u3], .cons r1 (.cons r2 (.cons r3 .nil)) =>
  obtain ⟨tk, rfl⟩ := (show ∃ t, u2 = Value.str "mark" t from r2)
  cases (show u1 = Value.ref a from r1)
  obtain ⟨mA, O, r, _, _, _⟩ := ins_get I.hok e
  obtain ⟨u, hu, ru⟩ := RelO.some_of (v := y) (o := mA ("mark" : Str)) (by rw [← l]; exact r "mark")
  obtain ⟨od, J, hl⟩ := O.look
  refine PySem.GetA.getattr3_hit (r0 := u) (J.type.andThen (PySem.W.looks_subIn I.kIn (t1.no (by decide)))) ?_
  refine PySem.GetA.get_valueQ I.kIn J (PySem.W.plainGet_of (c.get "mark")).1 (PySem.W.findObj_own c.hd n rfl (by rw [hl, hu])) (handed_of ru) ⟨rfl, y, H, I, ru, q⟩
end L2
end
section
set_option maxHeartbeats 8000000
set_option exponentiation.threshold 100000
namespace K03
open PySem PySem.Spec PyProof.Rows L2 LamX NdefX L3 PolyM
abbrev sAsP : Stmt := top 40
def spLooksP (C CP CM : Addr) : Sp := fun vs H Q _ => ∃ (a : Addr) (z : Str) (ps : List (Int × Int)), vs = [.ref a, .str z] ∧ PolyAt C CP CM H a ps ∧ Q (.bl (inV (.str z) [.str "Ratio"])) H
theorem in_poly : inV (.str "Poly") [.str "Ratio"] = false := by decide +kernel
section
variable {P : Program} {w : World} {K : PySem.W.Frag} {mg : Str → Option Value} {base : Heap} {cB cN C fI CP CM fP fM : Addr}
theorem ok_looksP {f : Addr} {fd : FuncData} (F : Fun K "looks_after" "looks_after" sLooks f fd) (M : MarkC K mg CM) (B : TxtR mg) (L : PolC K mg CP CM fP fM) (tyM : ∀ (H : Hp) (a dx : Addr) (fs : List (Str × V)), H a = some (.ins CM dx fs) → TyX K H (.ref a) (.ref CM)) : FnOk P w K mg base CX0 1 f fd ["value", "below"] (spLooksP C CP CM) := by
  refine F.ok scLooks (fun vs H Q E h => ?_) (fun cdv A outer s H vs Q E hr h => ?_)
  · obtain ⟨v, z, ps, rfl, _⟩ := h
    rfl
  · obtain ⟨a, z, ps, rfl, ⟨dx, t, xs, mk, dm, tb, h1, h2, h3, h4, h5⟩, q⟩ := h
    have n2 := scLooks.nd
    refine ⟨_, pss_cons (ps_set (i := 2) n2 rfl (Or.inl rfl) (pe_callB call_getI (by rfl) M.ga (by decide +kernel) (pa_cons (pv 0) (pa_cons pe_str (pa_cons pe_non pa_nil)))))
      (pss_one (ps_ret (pe_and (pe_callB call_isi (by rfl) B.isi (by decide +kernel) (pa_cons (pv 2) (pa_cons (pe_glob (v := .ref CM) (by rfl) M.g rfl) pa_nil)))
        (pe_one (pe_cmpR op_in_seq (pv 1) (pe_fld (pv 2) rfl) (by rfl)))))), ?_⟩
    refine ⟨_, rfl, a, CP, dx, _, .non, .ref mk, rfl, h1, L.c, L.nM, L.t1, rfl, ?_⟩
    refine ⟨_, rfl, _, .ref CM, .ref CM, .ref CM, true, rfl, .own CM, tyM H mk dm _ h4, kit_me, true, rfl, ?_⟩
    exact ⟨_, rfl, _, rfl, mk, CM, dm, _, _, rfl, h4, L.mc, L.nB, rfl, tb, _, rfl, .inr (SqT.of h5), rfl, rfl, q⟩
end
end K03
end
section
set_option maxHeartbeats 8000000
set_option exponentiation.threshold 100000
namespace K03
open PySem PySem.Spec PyProof.Rows L2 LamX NdefX L3 PolyM RZ
section
variable {K : PySem.W.Frag} {a b : Addr} {xs ys : List V}
theorem pg_tupK {X : Cx} {es : List Expr} {k : Nat} {t : TGs} {n : Nat} {pos : Pos} (K : PySem.W.Frag) (hc : X.calm = true) (h : PGs X es t) (hK : X.K = K := by rfl)
    (hn : (assignEach es X.env).length = n := by rfl) (hst : (assignEach es X.env).findIdx? (·.1) = none := by rfl) : PG X (.Tuple es k pos) (gTup K n t) := by
  subst hK
  exact pg_tup hc h hn hst
end
theorem sl_drop {K : PySem.W.Frag} {t : Addr} {xs : List V} {k : Nat} {H : Hp} {Q : VK} (h : H t = some (.tup xs)) (q : ∀ (p : Addr) (H' : Hp), Same H H' → H' p = some (.tup (xs.drop k)) → Q (.ref p) H') : rSlA K (.ref t) (some (k : Int)) none H Q := by
  refine ⟨t, xs, rfl, SqT.of h, fun z => q t H (fun _ _ e => e) ?_, fun _ p np => q p _ (Same.new (fun _ _ e => e) np) ?_⟩
  · rw [HT.sIx_nat] at z
    have : xs.drop k = xs := by
      by_cases c : k = 0
      · rw [c, List.drop_zero]
      · have : xs.length = 0 := by omega
        rw [List.length_eq_zero_iff.mp this, List.drop_nil]
    rw [this]
    exact h
  · rw [upd_same]
    unfold cutV
    rw [HT.sIx_nat, HT.sIx_none]
    congr 2
    by_cases c : k ≤ xs.length
    · rw [Nat.min_eq_left c]
      exact List.take_of_length_le (by rw [List.length_drop]; omega)
    · rw [Nat.min_eq_right (by omega), List.drop_eq_nil_of_le (show xs.length ≤ k by omega), List.drop_length, List.take_nil]
theorem paired_appP {α β : Type} {F : α → β → Prop} {l1 l2 : List α} {m1 m2 : List β} (a : Paired F l1 m1) (b : Paired F l2 m2) : Paired F (l1 ++ l2) (m1 ++ m2) := by
  induction a with
  | nil => exact b
  | cons q _ ih => exact .cons q ih
section
variable {P : Program} {w : World} {K : PySem.W.Frag} {mg : Str → Option Value} {base : Heap} {cB cN C fI CP CM fP fM : Addr}
end
end K03
end
section
set_option maxHeartbeats 8000000
set_option exponentiation.threshold 100000
namespace K03
open PySem PySem.Spec PyProof.Rows L2 LamX NdefX L3
section
variable {P : Program} {w : World} {K : PySem.W.Frag} {mg : Str → Option Value} {base : Heap}
end
end K03
end
section
set_option maxHeartbeats 8000000
set_option exponentiation.threshold 100000
namespace K03
open PySem PySem.Spec PyProof.Rows L2 LamX NdefX L3 PolyM
/-- a pair of integers as a value; a list of pairs -/
def PV (H : Hp) (v : V) (p : Int × Int) : Prop := ∃ t, v = .ref t ∧ Pair H t p
def PPs (H : Hp) (l : Addr) (ps : List (Int × Int)) : Prop := ∃ ts, H l = some (.lst ts) ∧ Paired (PV H) ts ps
theorem PV.same {H H' : Hp} {v : V} {p : Int × Int} (h : PV H v p) (s : Same H H') : PV H' v p := by
  obtain ⟨t, e, h⟩ := h
  exact ⟨t, e, s _ _ h⟩
theorem PPs.same {H H' : Hp} {l : Addr} {ps : List (Int × Int)} (h : PPs H l ps) (s : Same H H') : PPs H' l ps := by
  obtain ⟨ts, h1, h2⟩ := h
  exact ⟨ts, s _ _ h1, Paired.mapP h2 fun _ _ z => z.same s⟩
theorem PV.grow {D : Addr} {H : Hp} {rs ys : List V} {y : V} {p : Int × Int} (hD : H D = some (.lst rs)) (h : PV H y p) : PV (upd H D (.lst ys)) y p := by
  obtain ⟨t, e, h⟩ := h
  refine ⟨t, e, ?_⟩
  unfold Pair at h ⊢
  rw [upd_ne (fun z => by rw [z, hD] at h; cases h)]
  exact h
theorem PV.but {d : Addr} {H H' : Hp} {v : V} {p : Int × Int} {kv : List (Key × V)} (h : PV H v p) (hd : H d = some (.dK kv)) (s : SameBut d H H') : PV H' v p := by
  obtain ⟨t, e, h⟩ := h
  exact ⟨t, e, s _ _ h (fun z => by unfold Pair at h; rw [z, hd] at h; cases h)⟩
theorem PPs.but {d : Addr} {H H' : Hp} {l : Addr} {ps : List (Int × Int)} {kv : List (Key × V)} (h : PPs H l ps) (hd : H d = some (.dK kv)) (s : SameBut d H H') : PPs H' l ps := by
  obtain ⟨ts, h1, h2⟩ := h
  exact ⟨ts, s _ _ h1 (fun z => by rw [z, hd] at h1; cases h1), Paired.mapP h2 fun _ _ z => z.but hd s⟩
/-- a new list of pairs -/
def NewPl (H : Hp) (Q : VK) (ps : List (Int × Int)) : Prop := ∀ (l : Addr) (H' : Hp), H l = none → Same H H' → PPs H' l ps → Q (.ref l) H'
section
variable {P : Program} {w : World} {K : PySem.W.Frag} {mg : Str → Option Value} {base : Heap}
end
end K03
end
section
set_option maxHeartbeats 4000000
namespace K03
open PolyM
theorem sm_more {f : Nat → _root_.Rat} {n : Nat} (h : ∀ i, n ≤ i → f i = 0) : ∀ d, sm f (n + d) = sm f n
  | 0 => rfl
  | d + 1 => by
    show sm f (n + d) + f (n + d) = sm f n
    rw [sm_more h d, h _ (Nat.le_add_right _ _)]
    grind
end K03
end
section
set_option maxHeartbeats 8000000
set_option exponentiation.threshold 100000
namespace K03
open PySem PySem.Spec PyProof.Rows L2 LamX NdefX L3 PolyM
section
variable {P : Program} {w : World} {K : PySem.W.Frag} {mg : Str → Option Value} {base : Heap}
end
end K03
end
section
set_option maxHeartbeats 8000000
set_option exponentiation.threshold 100000
namespace K03
open PySem PySem.Spec PyProof.Rows L2 LamX NdefX L3 PolyM
section
variable {P : Program} {w : World} {K : PySem.W.Frag} {mg : Str → Option Value} {base : Heap}
end
end K03
end
section
set_option maxHeartbeats 4000000
namespace K03
open PySem PySem.Spec PyProof.Rows L2
/-- a step of a ladder -/
inductive Rg : Type
  | ex : Rg
  | fac (l : Nat) (p : Int × Int) : Rg
  | late (l d : Nat) : Rg
  | add (b : Bool) (l : Nat) (ps : List (Int × Int)) : Rg
def rnd (p : Int × Int) : Int × Int := ((2 * p.1 + p.2).fdiv (2 * p.2), 1)
def cv (ps xs : List (Int × Int)) (t : Nat) : Nat → Int × Int
  | 0 => (0, 1)
  | k + 1 => padd (cv ps xs t k) (pmul (ps.getD k (0, 1)) (xs.getD (t - k) (0, 1)))
def amt (ps xs : List (Int × Int)) : List (Int × Int) := (List.range xs.length).map fun t => rnd (cv ps xs t (min (t + 1) ps.length))
def lag (d : Nat) (xs : List (Int × Int)) : List (Int × Int) := (List.replicate d (0, 1) ++ xs).take xs.length
def sgnR (b : Bool) : Int × Int := if b then (1, 1) else (-1, 1)
def bld (one other : List (Int × Int)) (s : Int × Int) : List (Int × Int) := (List.range one.length).map fun k => padd (one.getD k (0, 1)) (pmul s (other.getD k (0, 1)))
abbrev Ln2 : Type := List (Int × Int) × List (Int × Int)
def onL (l : Nat) (f : List (Int × Int) → List (Int × Int) → List (Int × Int)) (x : Ln2) : Ln2 := if l = 0 then (f x.1 x.2, x.2) else (x.1, f x.2 x.1)
def stp : Rg → Ln2 → Ln2
  | .ex, x => (x.2, x.1)
  | .fac l p, x => onL l (fun h _ => h.map (pmul p)) x
  | .late l d, x => onL l (fun h _ => lag d h) x
  | .add b l ps, x => onL l (fun h o => bld h (amt ps o) (sgnR b)) x
def rnL (rs : List Rg) (x : Ln2) : Ln2 := rs.foldl (fun x r => stp r x) x
def ivR : Rg → Rg
  | .ex => .ex
  | .fac l p => .fac l (low p.2 p.1)
  | .late l d => .late (1 - l) d
  | .add b l ps => .add (!b) l ps
def lateR : Rg → Nat
  | .late _ d => d
  | _ => 0
/-- a number of a step: its size, its bottom, those of its inverse -/
structure Sml (p : Int × Int) : Prop where
  l : Low p
  b : Bd 6 3 p
structure SmlF (p : Int × Int) : Prop where
  s : Sml p
  n : p.1 ≠ 0
  i : Sml (low p.2 p.1)
def VR : Rg → Prop
  | .ex => True
  | .fac l p => l ≤ 1 ∧ SmlF p
  | .late l d => l ≤ 1 ∧ 1 ≤ d ∧ d ≤ 3
  | .add _ l ps => l ≤ 1 ∧ ps.length ≤ 3 ∧ ∀ p ∈ ps, Sml p
/-! ### lists by their places -/
theorem ext_getD {xs ys : List (Int × Int)} (l : xs.length = ys.length) (h : ∀ k, k < xs.length → xs.getD k (0, 1) = ys.getD k (0, 1)) : xs = ys := by
  refine List.ext_getElem l fun k h1 h2 => ?_
  have z := h k h1
  rw [List.getD_eq_getElem?_getD, List.getD_eq_getElem?_getD, List.getElem?_eq_getElem h1, List.getElem?_eq_getElem h2] at z
  exact z
theorem getD_lag {d : Nat} {xs : List (Int × Int)} {k : Nat} (h : k < xs.length) : (lag d xs).getD k (0, 1) = if k < d then (0, 1) else xs.getD (k - d) (0, 1) := by
  unfold lag
  rw [List.getD_eq_getElem?_getD, List.getElem?_take_of_lt h]
  by_cases q : k < d
  · rw [if_pos q, List.getElem?_append_left (by rw [List.length_replicate]; exact q), List.getElem?_replicate, if_pos q]
    rfl
  · rw [if_neg q, List.getElem?_append_right (by rw [List.length_replicate]; omega), List.length_replicate, List.getD_eq_getElem?_getD]
theorem len_lag {d : Nat} {xs : List (Int × Int)} : (lag d xs).length = xs.length := by
  unfold lag
  rw [List.length_take, List.length_append]
  omega
theorem lag_zero {xs : List (Int × Int)} : lag 0 xs = xs := by
  unfold lag
  rw [List.replicate_zero, List.nil_append, List.take_length]
theorem lag_lag {d e : Nat} {xs : List (Int × Int)} : lag d (lag e xs) = lag (d + e) xs := by
  refine ext_getD (by rw [len_lag, len_lag, len_lag]) fun k hk => ?_
  rw [len_lag, len_lag] at hk
  rw [getD_lag (by rw [len_lag]; exact hk), getD_lag hk]
  by_cases q : k < d
  · rw [if_pos q, if_pos (by omega)]
  · rw [if_neg q, getD_lag (by omega)]
    by_cases q2 : k - d < e
    · rw [if_pos q2, if_pos (by omega)]
    · rw [if_neg q2, if_neg (by omega)]
      congr 1
      omega
theorem getD_map {f : Int × Int → Int × Int} {xs : List (Int × Int)} {k : Nat} (h : k < xs.length) : (xs.map f).getD k (0, 1) = f (xs.getD k (0, 1)) := by
  rw [List.getD_eq_getElem?_getD, List.getD_eq_getElem?_getD, List.getElem?_map, List.getElem?_eq_getElem h]
  rfl
theorem getD_rmap {f : Nat → Int × Int} {n k : Nat} (h : k < n) : ((List.range n).map f).getD k (0, 1) = f k := by
  rw [List.getD_eq_getElem?_getD, List.getElem?_map, List.getElem?_range h]
  rfl
theorem len_bld {a b : List (Int × Int)} {s : Int × Int} : (bld a b s).length = a.length := by
  unfold bld
  rw [List.length_map, List.length_range]
theorem len_amt {ps xs : List (Int × Int)} : (amt ps xs).length = xs.length := by
  unfold amt
  rw [List.length_map, List.length_range]
theorem getD_bld {a b : List (Int × Int)} {s : Int × Int} {k : Nat} (h : k < a.length) : (bld a b s).getD k (0, 1) = padd (a.getD k (0, 1)) (pmul s (b.getD k (0, 1))) := getD_rmap h
theorem getD_amt {ps xs : List (Int × Int)} {k : Nat} (h : k < xs.length) : (amt ps xs).getD k (0, 1) = rnd (cv ps xs k (min (k + 1) ps.length)) := getD_rmap h
/-! ### small facts of numbers -/
theorem padd_low {p q : Int × Int} (hp : Low p) (hq : Low q) : Low (padd p q) := low_low (Int.mul_ne_zero hp.ne hq.ne)
theorem pmul_low {p q : Int × Int} (hp : Low p) (hq : Low q) : Low (pmul p q) := low_low (Int.mul_ne_zero hp.ne hq.ne)
theorem pmul_zero {p : Int × Int} (hp : Low p) : pmul p (0, 1) = (0, 1) := val_inj (pmul_low hp low01) low01 (by rw [val_mul hp low01, val01]; grind)
theorem padd_zero {p : Int × Int} (hp : Low p) : padd p (0, 1) = p := val_inj (padd_low hp low01) hp (by rw [val_add hp low01, val01]; grind)
theorem low11 : Low (1, 1) := ⟨by decide, Nat.coprime_one_right _⟩
theorem low_int {z : Int} : Low (z, 1) := ⟨(by decide : (0 : Int) < 1), Nat.coprime_one_right _⟩
theorem lowN : Low (-1, 1) := ⟨by decide, Nat.coprime_one_right _⟩
theorem sgn_low {b : Bool} : Low (sgnR b) := by
  cases b
  · exact lowN
  · exact low11
theorem rnd_zero : rnd (0, 1) = (0, 1) := by decide
theorem rnd_low {p : Int × Int} : Low (rnd p) := low_int
theorem getD_mem {xs : List (Int × Int)} {k : Nat} {P : Int × Int → Prop} (h : ∀ p ∈ xs, P p) (z : P (0, 1)) : P (xs.getD k (0, 1)) := by
  rw [List.getD_eq_getElem?_getD]
  cases e : xs[k]? with
  | none => exact z
  | some p => exact h p (List.mem_of_getElem? e)
theorem cv_low {ps xs : List (Int × Int)} (hp : ∀ p ∈ ps, Low p) (hx : ∀ p ∈ xs, Low p) (t : Nat) : ∀ k, Low (cv ps xs t k)
  | 0 => low01
  | k + 1 => padd_low (cv_low hp hx t k) (pmul_low (getD_mem hp low01) (getD_mem hx low01))
theorem val_int {z : Int} : val (z, 1) = (z : _root_.Rat) := by
  unfold val
  show (z : _root_.Rat) / ((1 : Int) : _root_.Rat) = z
  grind
theorem val_sgn {b : Bool} : val (sgnR b) = if b then 1 else -1 := by
  cases b
  · exact val_int
  · exact val_int
end K03
end
section
/-! lists of integers and their worth at a great number -/
namespace Kron
def wv (q : Int) : List Int → Int
  | [] => 0
  | x :: r => x + q * wv q r
theorem wv_snoc0 {q : Int} : ∀ L : List Int, wv q (L ++ [0]) = wv q L
  | [] => by simp [wv]
  | x :: r => by
    show x + q * wv q (r ++ [0]) = x + q * wv q r
    rw [wv_snoc0 r]
/-- two and two -/
def prs (q : Int) : List Int → List Int
  | x :: y :: r => (x + y * q) :: prs q r
  | _ => []
theorem wv_prs {q : Int} : ∀ L : List Int, L.length % 2 = 0 → wv (q * q) (prs q L) = wv q L
  | [], _ => rfl
  | [x], h => by simp at h
  | x :: y :: r, h => by
    have := wv_prs (q := q) r (by simp only [List.length_cons] at h; omega)
    show x + y * q + q * q * wv (q * q) (prs q r) = x + q * (y + q * wv q r)
    rw [this]
    grind
theorem prs_len {q : Int} : ∀ L : List Int, (prs q L).length = L.length / 2
  | [] => rfl
  | [x] => by simp [prs]
  | x :: y :: r => by
    show (prs q r).length + 1 = (r.length + 1 + 1) / 2
    rw [prs_len r]
    omega
theorem prs_at {q : Int} : ∀ (L : List Int) (i : Nat) (x y : Int), L[2 * i]? = some x → L[2 * i + 1]? = some y → (prs q L)[i]? = some (x + y * q)
  | [], i, x, y, h, _ => by simp at h
  | [z], i, x, y, h, h2 => by simp at h2
  | u :: v :: r, 0, x, y, h, h2 => by
    simp at h h2
    subst h h2
    rfl
  | u :: v :: r, i + 1, x, y, h, h2 => by
    have e : 2 * (i + 1) = 2 * i + 1 + 1 := by omega
    rw [e, List.getElem?_cons_succ, List.getElem?_cons_succ] at h
    have e2 : 2 * (i + 1) + 1 = 2 * i + 1 + 1 + 1 := by omega
    rw [e2, List.getElem?_cons_succ, List.getElem?_cons_succ] at h2
    show ((u + v * q) :: prs q r)[i + 1]? = _
    rw [List.getElem?_cons_succ]
    exact prs_at r i x y h h2
/-- each in two -/
def spl (q : Int) : List Int → List Int
  | [] => []
  | p :: r => (p % q) :: (p / q) :: spl q r
theorem wv_spl {q : Int} : ∀ L : List Int, wv q (spl q L) = wv (q * q) L
  | [] => rfl
  | p :: r => by
    show p % q + q * (p / q + q * wv q (spl q r)) = p + q * q * wv (q * q) r
    rw [wv_spl r]
    have := Int.emod_add_mul_ediv p q
    grind
theorem spl_len {q : Int} : ∀ L : List Int, (spl q L).length = 2 * L.length
  | [] => rfl
  | p :: r => by
    show (spl q r).length + 1 + 1 = 2 * (r.length + 1)
    rw [spl_len r]
    omega
def Dig (q : Int) (L : List Int) : Prop := ∀ x ∈ L, 0 ≤ x ∧ x < q
theorem dig_spl {q : Int} (h : 0 < q) : ∀ L : List Int, Dig (q * q) L → Dig q (spl q L)
  | [], _ => fun _ m => (List.not_mem_nil m).elim
  | p :: r, d => by
    intro x m
    have dp := d p List.mem_cons_self
    rcases List.mem_cons.mp m with rfl | m
    · exact ⟨Int.emod_nonneg _ (by omega), Int.emod_lt_of_pos _ h⟩
    rcases List.mem_cons.mp m with rfl | m
    · exact ⟨Int.ediv_nonneg dp.1 (by omega), Int.ediv_lt_of_lt_mul h dp.2⟩
    · exact dig_spl h r (fun y hy => d y (List.mem_cons_of_mem _ hy)) x m
theorem wv_nonneg {q : Int} (h : 0 < q) : ∀ {L : List Int}, (∀ x ∈ L, 0 ≤ x) → 0 ≤ wv q L
  | [], _ => Int.le_refl _
  | p :: r, d => by
    have h1 := wv_nonneg h (L := r) fun y hy => d y (List.mem_cons_of_mem _ hy)
    have h2 := d p List.mem_cons_self
    have h3 : 0 ≤ q * wv q r := Int.mul_nonneg (by omega) h1
    show 0 ≤ p + q * wv q r
    omega
theorem wv_split {q : Int} : ∀ (n : Nat) (L : List Int), n ≤ L.length → wv q L = wv q (L.take n) + q ^ n * wv q (L.drop n)
  | 0, L, _ => by
    show wv q L = 0 + q ^ 0 * wv q L
    rw [Int.pow_zero]
    omega
  | n + 1, [], h => by simp at h
  | n + 1, x :: r, h => by
    have := wv_split (q := q) n r (by simp at h; omega)
    show x + q * wv q r = x + q * wv q (r.take n) + q ^ (n + 1) * wv q (r.drop n)
    rw [this, Int.pow_succ]
    grind
theorem wv_less {q h : Int} : ∀ L : List Int, wv q (L.map fun x => x - h) = wv q L - wv q (List.replicate L.length h)
  | [] => rfl
  | x :: r => by
    show x - h + q * wv q (r.map fun x => x - h) = x + q * wv q r - (h + q * wv q (List.replicate r.length h))
    rw [wv_less r]
    grind
theorem rep_low {q h : Int} (hq : 0 ≤ q) (hh : 0 ≤ h) : ∀ m : Nat, h * q ^ m ≤ wv q (List.replicate (m + 1) h)
  | 0 => by
    show h * q ^ 0 ≤ h + q * 0
    rw [Int.pow_zero]
    omega
  | m + 1 => by
    have := Int.mul_le_mul_of_nonneg_left (rep_low hq hh m) hq
    show h * q ^ (m + 1) ≤ h + q * wv q (List.replicate (m + 1) h)
    rw [Int.pow_succ]
    have e : h * (q ^ m * q) = q * (h * q ^ m) := by grind
    rw [e]
    omega
theorem rep_high {q h : Int} (e : q = 2 * h) (hh : 2 ≤ h) : ∀ m : Nat, 3 * wv q (List.replicate m h) ≤ 2 * (q ^ m - 1)
  | 0 => by
    show 3 * 0 ≤ 2 * (q ^ 0 - 1)
    rw [Int.pow_zero]
    omega
  | m + 1 => by
    have h1 := Int.mul_le_mul_of_nonneg_left (rep_high e hh m) (show 0 ≤ q by omega)
    show 3 * (h + q * wv q (List.replicate m h)) ≤ 2 * (q ^ (m + 1) - 1)
    rw [Int.pow_succ]
    have e1 : q * (3 * wv q (List.replicate m h)) = 3 * (q * wv q (List.replicate m h)) := by grind
    have e2 : q * (2 * (q ^ m - 1)) = 2 * (q ^ m * q) - 2 * q := by grind
    rw [e1, e2] at h1
    generalize q * wv q (List.replicate m h) = a at h1 ⊢
    generalize q ^ m * q = c at h1 ⊢
    omega
/-- the digits less the half -/
theorem dig_less {q h W : Int} {D : List Int} {m : Nat} (e : q = 2 * h) (hh : 2 ≤ h) (d : Dig q D) (l : m + 1 ≤ D.length) (w : wv q D = W + wv q (List.replicate (m + 1) h)) (b1 : -(q ^ m) < W) (b2 : W < q ^ m) :
    wv q ((D.take (m + 1)).map fun x => x - h) = W := by
  have q0 : 0 < q := by omega
  have hs := wv_split (q := q) (m + 1) D l
  have n1 : 0 ≤ wv q (D.take (m + 1)) := wv_nonneg q0 fun x hx => (d x (List.mem_of_mem_take hx)).1
  have n2 : 0 ≤ wv q (D.drop (m + 1)) := wv_nonneg q0 fun x hx => (d x (List.mem_of_mem_drop hx)).1
  have hi := rep_high e hh (m + 1)
  have pm : 0 < q ^ m := Int.pow_pos q0
  have e4 : q ^ (m + 1) = q ^ m * q := Int.pow_succ _ _
  have big : 4 * q ^ m ≤ q ^ (m + 1) := by
    rw [e4, Int.mul_comm 4]
    exact Int.mul_le_mul_of_nonneg_left (by omega) (by omega)
  have lt : wv q D < q ^ (m + 1) := by
    rw [w]
    generalize wv q (List.replicate (m + 1) h) = a at hi ⊢
    generalize q ^ (m + 1) = c at hi big ⊢
    generalize q ^ m = z at big b2 pm ⊢
    omega
  have z : wv q (D.drop (m + 1)) = 0 := by
    refine Int.le_antisymm (Int.not_lt.mp fun p => ?_) n2
    have : q ^ (m + 1) * 1 ≤ q ^ (m + 1) * wv q (D.drop (m + 1)) := Int.mul_le_mul_of_nonneg_left (by omega) (Int.le_of_lt (Int.pow_pos q0))
    rw [Int.mul_one] at this
    omega
  rw [wv_less, List.length_take, Nat.min_eq_left l]
  rw [z, Int.mul_zero] at hs
  omega
/-- what lies between -h and h is told by the worth -/
theorem uniq {q h : Int} (e : q = 2 * h) (h0 : 0 < h) : ∀ (A B : List Int), (∀ x ∈ A, -h ≤ x ∧ x < h) → (∀ x ∈ B, -h ≤ x ∧ x < h) → wv q A = wv q B → ∀ k, A.getD k 0 = B.getD k 0
  | [], [], _, _, _, k => rfl
  | [], y :: B, _, hb, w, k => by
    have hy := hb y List.mem_cons_self
    have w : 0 = y + q * wv q B := w
    have z : wv q B = 0 := by
      refine Int.le_antisymm (Int.not_lt.mp fun p => ?_) (Int.not_lt.mp fun p => ?_)
      · have : q * 1 ≤ q * wv q B := Int.mul_le_mul_of_nonneg_left (by omega) (by omega)
        omega
      · have : q * wv q B ≤ q * (-1) := Int.mul_le_mul_of_nonneg_left (by omega) (by omega)
        omega
    rw [z, Int.mul_zero] at w
    cases k with
    | zero => show 0 = y; omega
    | succ k =>
      have := uniq e h0 [] B (fun _ m => (List.not_mem_nil m).elim) (fun x hx => hb x (List.mem_cons_of_mem _ hx)) (show 0 = wv q B from z.symm) k
      show 0 = B.getD k 0
      exact this
  | x :: A, [], ha, _, w, k => by
    have hx := ha x List.mem_cons_self
    have w : x + q * wv q A = 0 := w
    have z : wv q A = 0 := by
      refine Int.le_antisymm (Int.not_lt.mp fun p => ?_) (Int.not_lt.mp fun p => ?_)
      · have : q * 1 ≤ q * wv q A := Int.mul_le_mul_of_nonneg_left (by omega) (by omega)
        omega
      · have : q * wv q A ≤ q * (-1) := Int.mul_le_mul_of_nonneg_left (by omega) (by omega)
        omega
    rw [z, Int.mul_zero] at w
    cases k with
    | zero => show x = 0; omega
    | succ k =>
      have := uniq e h0 A [] (fun x hx => ha x (List.mem_cons_of_mem _ hx)) (fun _ m => (List.not_mem_nil m).elim) (show wv q A = 0 from z) k
      show A.getD k 0 = 0
      exact this
  | x :: A, y :: B, ha, hb, w, k => by
    have hx := ha x List.mem_cons_self
    have hy := hb y List.mem_cons_self
    have w : x + q * wv q A = y + q * wv q B := w
    have z : wv q A = wv q B := by
      have w2 : q * (wv q A - wv q B) = y - x := by
        rw [Int.mul_sub]
        omega
      generalize hd : wv q A - wv q B = d at w2
      have : d = 0 := by
        refine Int.le_antisymm (Int.not_lt.mp fun p => ?_) (Int.not_lt.mp fun p => ?_)
        · have : q * 1 ≤ q * d := Int.mul_le_mul_of_nonneg_left (by omega) (by omega)
          omega
        · have : q * d ≤ q * (-1) := Int.mul_le_mul_of_nonneg_left (by omega) (by omega)
          omega
      omega
    rw [z] at w
    cases k with
    | zero => show x = y; omega
    | succ k =>
      show A.getD k 0 = B.getD k 0
      exact uniq e h0 A B (fun x hx => ha x (List.mem_cons_of_mem _ hx)) (fun x hx => hb x (List.mem_cons_of_mem _ hx)) z k
/-! ### the product -/
def addL : List Int → List Int → List Int
  | [], B => B
  | A, [] => A
  | x :: A, y :: B => (x + y) :: addL A B
theorem wv_add {q : Int} : ∀ A B : List Int, wv q (addL A B) = wv q A + wv q B
  | [], B => by show wv q B = 0 + wv q B; omega
  | x :: A, [] => by show wv q (x :: A) = wv q (x :: A) + 0; omega
  | x :: A, y :: B => by
    show x + y + q * wv q (addL A B) = x + q * wv q A + (y + q * wv q B)
    rw [wv_add A B]
    grind
theorem addL_at : ∀ (A B : List Int) (k : Nat), (addL A B).getD k 0 = A.getD k 0 + B.getD k 0
  | [], B, k => by show B.getD k 0 = 0 + B.getD k 0; omega
  | x :: A, [], k => by show (x :: A).getD k 0 = (x :: A).getD k 0 + 0; omega
  | x :: A, y :: B, 0 => rfl
  | x :: A, y :: B, k + 1 => addL_at A B k
def mulL : List Int → List Int → List Int
  | [], _ => []
  | x :: A, B => addL (B.map (x * ·)) (0 :: mulL A B)
theorem wv_map {q c : Int} : ∀ B : List Int, wv q (B.map (c * ·)) = c * wv q B
  | [] => by show (0 : Int) = c * 0; omega
  | y :: B => by
    show c * y + q * wv q (B.map (c * ·)) = c * (y + q * wv q B)
    rw [wv_map B]
    grind
theorem wv_mul {q : Int} : ∀ A B : List Int, wv q (mulL A B) = wv q A * wv q B
  | [], B => by show (0 : Int) = 0 * wv q B; omega
  | x :: A, B => by
    show wv q (addL (B.map (x * ·)) (0 :: mulL A B)) = (x + q * wv q A) * wv q B
    rw [wv_add, wv_map]
    show x * wv q B + (0 + q * wv q (mulL A B)) = _
    rw [wv_mul A B]
    grind
/-- the sum of the sizes -/
def nrm (L : List Int) : Int := (L.map fun x => if x < 0 then -x else x).sum
def Upto (G : Int) (L : List Int) : Prop := ∀ x ∈ L, -G ≤ x ∧ x ≤ G
theorem upto_add : ∀ {A B : List Int} {G F : Int}, 0 ≤ G → 0 ≤ F → Upto G A → Upto F B → Upto (G + F) (addL A B)
  | [], B, G, F, g, f, _, b => fun x hx => by have := b x hx; omega
  | x :: A, [], G, F, g, f, a, _ => fun x hx => by have := a x hx; omega
  | x :: A, y :: B, G, F, g, f, a, b => by
    intro z hz
    rcases List.mem_cons.mp hz with rfl | hz
    · have := a x List.mem_cons_self
      have := b y List.mem_cons_self
      omega
    · exact upto_add g f (fun x hx => a x (List.mem_cons_of_mem _ hx)) (fun x hx => b x (List.mem_cons_of_mem _ hx)) z hz
theorem nrm_cons {x : Int} {A : List Int} : nrm (x :: A) = (if x < 0 then -x else x) + nrm A := rfl
theorem nrm_nonneg : ∀ A : List Int, 0 ≤ nrm A
  | [] => Int.le_refl _
  | x :: A => by
    rw [nrm_cons]
    have := nrm_nonneg A
    split <;> omega
theorem upto_map {G x : Int} {B : List Int} (g : 0 ≤ G) (b : Upto G B) : Upto ((if x < 0 then -x else x) * G) (B.map (x * ·)) := by
  intro z hz
  obtain ⟨y, hy, rfl⟩ := List.mem_map.mp hz
  have := b y hy
  show -_ ≤ x * y ∧ x * y ≤ _
  split
  · have h1 : -x * -G ≤ -x * y := Int.mul_le_mul_of_nonneg_left (by omega) (by omega)
    have h2 : -x * y ≤ -x * G := Int.mul_le_mul_of_nonneg_left (by omega) (by omega)
    have e1 : -x * -G = x * G := by grind
    have e2 : -x * y = -(x * y) := by grind
    have e3 : -x * G = -(x * G) := by grind
    omega
  · have h1 : x * -G ≤ x * y := Int.mul_le_mul_of_nonneg_left (by omega) (by omega)
    have h2 : x * y ≤ x * G := Int.mul_le_mul_of_nonneg_left (by omega) (by omega)
    have e1 : x * -G = -(x * G) := by grind
    omega
theorem upto_mul {G : Int} {B : List Int} (g : 0 ≤ G) (b : Upto G B) : ∀ A : List Int, Upto (nrm A * G) (mulL A B)
  | [] => fun _ m => (List.not_mem_nil m).elim
  | x :: A => by
    rw [nrm_cons, Int.add_mul]
    refine upto_add (Int.mul_nonneg (by split <;> omega) g) (Int.mul_nonneg (nrm_nonneg A) g) (upto_map g b) fun z hz => ?_
    rcases List.mem_cons.mp hz with rfl | hz
    · have := Int.mul_nonneg (nrm_nonneg A) g
      omega
    · exact upto_mul g b A z hz
theorem mulL_nil : ∀ A : List Int, ∀ k, (mulL A []).getD k 0 = 0
  | [], k => rfl
  | x :: A, k => by
    show (addL [] (0 :: mulL A [])).getD k 0 = 0
    rw [addL_at]
    cases k with
    | zero => rfl
    | succ k =>
      show 0 + (mulL A []).getD k 0 = 0
      rw [mulL_nil A k]
      rfl
theorem wv_small {b c : Nat} (hb : 1 ≤ b) : ∀ L : List Int, (∀ x ∈ L, x.natAbs < 2 ^ c) → (wv (2 ^ b) L).natAbs + 2 ^ c ≤ 2 ^ (c + b * L.length)
  | [], _ => by show 0 + 2 ^ c ≤ 2 ^ (c + b * 0); rw [Nat.mul_zero, Nat.add_zero]; omega
  | x :: r, h => by
    have ih := wv_small hb r fun y hy => h y (List.mem_cons_of_mem _ hy)
    have hx := h x List.mem_cons_self
    have e1 : ((2 : Int) ^ b * wv (2 ^ b) r).natAbs = 2 ^ b * (wv (2 ^ b) r).natAbs := by
      rw [Int.natAbs_mul, Int.natAbs_pow]
      rfl
    have e2 := Int.natAbs_add_le x (2 ^ b * wv (2 ^ b) r)
    rw [e1] at e2
    have e3 := Nat.mul_le_mul_left (2 ^ b) ih
    rw [Nat.mul_add] at e3
    have e4 : 2 ^ b * 2 ^ (c + b * r.length) = 2 ^ (c + b * (r.length + 1)) := by
      rw [← Nat.pow_add]
      congr 1
      rw [Nat.mul_add, Nat.mul_one]
      omega
    rw [e4] at e3
    have e5 : 2 * 2 ^ c ≤ 2 ^ b * 2 ^ c := Nat.mul_le_mul_right _ (Nat.le_trans (by decide : 2 ≤ 2 ^ 1) (Nat.pow_le_pow_right (by decide) hb))
    show (x + 2 ^ b * wv (2 ^ b) r).natAbs + 2 ^ c ≤ 2 ^ (c + b * (r.length + 1))
    omega
theorem upto_nrm : ∀ A : List Int, Upto (nrm A) A
  | [] => fun _ m => (List.not_mem_nil m).elim
  | x :: A => by
    intro y hy
    rw [nrm_cons]
    have n0 := nrm_nonneg A
    rcases List.mem_cons.mp hy with rfl | hy
    · split <;> omega
    · have := upto_nrm A y hy
      split <;> omega
theorem nrm_small {c : Nat} : ∀ A : List Int, (∀ x ∈ A, x.natAbs < 2 ^ c) → (nrm A).natAbs ≤ A.length * 2 ^ c
  | [], _ => by show (0 : Int).natAbs ≤ _; simp
  | x :: A, h => by
    have ih := nrm_small A fun y hy => h y (List.mem_cons_of_mem _ hy)
    have hx := h x List.mem_cons_self
    have n0 := nrm_nonneg A
    rw [nrm_cons, List.length_cons, Nat.succ_mul]
    split <;> omega
end Kron
end
section
set_option maxHeartbeats 8000000
set_option exponentiation.threshold 100000
namespace L3
open PySem PySem.Spec PyProof.Rows L2
/-! ### max(xs, default=d) of a list of integers -/
theorem ints_read {h : Heap} : ∀ {ns : List Int} {us : List Value}, Vals (ns.map V.int) us → ReadsAll h us (ns.map PyData.int) []
  | [], _, r => by cases r; exact .nil
  | n :: ns, _, .cons q r => by
    obtain ⟨t, rfl⟩ := q
    exact .cons (as := []) (.int n t) (ints_read r)
def rMaxD (K : PySem.W.Frag) : List V → List V → Hp → VK → Prop := fun vs zs H Q => ∃ (a : Addr) (ns : List Int) (d : Int), vs = [.ref a] ∧ zs = [.int d] ∧ SqL K H a (ns.map V.int) ∧ ∀ m : Int, ((ns = [] ∧ m = d) ∨ (m ∈ ns ∧ ∀ x ∈ ns, x ≤ m)) → Q (.int m) H
theorem foldl_max_mem (n : Int) : ∀ ns : List Int, ns.foldl max n ∈ n :: ns ∧ ∀ x ∈ n :: ns, x ≤ ns.foldl max n := by
  intro ns
  induction ns generalizing n with
  | nil => exact ⟨List.mem_cons_self, fun x h => by simp at h; subst h; exact Int.le_refl _⟩
  | cons k r ih =>
    obtain ⟨h1, h2⟩ := ih (max n k)
    rw [List.foldl_cons]
    refine ⟨?_, fun x hx => ?_⟩
    · rcases List.mem_cons.mp h1 with e | e
      · rw [e]
        rcases Int.le_total n k with c | c
        · rw [Int.max_eq_right c]; exact List.mem_cons_of_mem _ List.mem_cons_self
        · rw [Int.max_eq_left c]; exact List.mem_cons_self
      · exact List.mem_cons_of_mem _ (List.mem_cons_of_mem _ e)
    · have m := h2 (max n k) List.mem_cons_self
      rcases List.mem_cons.mp hx with rfl | hx
      · exact Int.le_trans (Int.le_max_left _ _) m
      rcases List.mem_cons.mp hx with rfl | hx
      · exact Int.le_trans (Int.le_max_right _ _) m
      · exact h2 x (List.mem_cons_of_mem _ hx)
theorem depth_ints : ∀ ns : List Int, PyData.depthAll (ns.map PyData.int) ≤ 1
  | [] => by decide
  | n :: ns => Nat.max_le.mpr ⟨by first | exact Nat.zero_le _ | exact Nat.le_refl _, depth_ints ns⟩
theorem alike_ints (ns : List Int) : PySem.W.AlikeAll (ns.map PyData.int) := by
  refine ⟨fun x hx y hy => ?_, fun x hx => ?_⟩
  · obtain ⟨i, _, rfl⟩ := List.mem_map.mp hx
    obtain ⟨j, _, rfl⟩ := List.mem_map.mp hy
    rfl
  · obtain ⟨i, _, rfl⟩ := List.mem_map.mp hx
    exact fun z => nomatch z
theorem cr_maxD {X : Cx} (hc : X.calm = true) (hu : X.A.units + 3 < cLine) : CallRK X (.builtin "max") [Str.ofString "default"] (rMaxD X.K) := by
  intro pins s σ H vs zs us ws Q I r rz h
  obtain ⟨a, ns, d, rfl, rfl, hs, q⟩ := h
  obtain ⟨its, rv, hl, _⟩ := I.list hs
  obtain rfl := Vals.ref1 r
  obtain ⟨w1, rfl, t, rfl⟩ := vals1 rz
  have ha := alike_ints ns
  refine PySem.W.max_list_default (xs := ns.map PyData.int) (I.ok.hd hc) hl.isList (by simpa using ints_read rv) ha (Nat.lt_of_le_of_lt (by have := depth_ints ns; omega) hu) (fun e h' tk hk => ?_) (fun y ys i v h' tk bs e hv rd hk => ?_)
  · exact ⟨.int d, H, I.kept hk, ⟨_, rfl⟩, q d (.inl ⟨List.map_eq_nil_iff.mp e, rfl⟩)⟩
  · cases ns with
    | nil => cases e
    | cons n ns =>
      rw [List.map_cons] at e
      injection e with e1 e2
      subst e1 e2
      rw [PySem.W.maxD_ints] at rd
      obtain ⟨h1, h2⟩ := foldl_max_mem n ns
      generalize ns.foldl max n = m at rd h1 h2
      cases rd with
      | int _ t => exact ⟨.int m, H, I.kept hk, ⟨_, rfl⟩, q m (.inr ⟨h1, h2⟩)⟩
/-! ### every second item -/
theorem filterMap_on {α β : Type} {f : α → Option β} {g : α → β} : ∀ l : List α, (∀ k ∈ l, f k = some (g k)) → l.filterMap f = l.map g
  | [], _ => rfl
  | a :: l, h => by
    rw [List.filterMap_cons, h a List.mem_cons_self, List.map_cons, filterMap_on l fun k hk => h k (List.mem_cons_of_mem _ hk)]
theorem pick_step {xs : List V} {r : Nat} (hr : r < 2) : pickG xs (some (r : Int)) none (some 2) = (List.range ((xs.length + 1 - r) / 2)).map fun k => xs.getD (r + 2 * k) .non := by
  unfold pickG
  rw [show (some (2 : Int)) = some (((2 : Nat) : Int)) from rfl, places_step (by decide) hr, ← step_places (by decide) hr, List.filterMap_map]
  refine filterMap_on _ fun k hk => ?_
  have := List.mem_range.mp hk
  have lt : r + 2 * k < xs.length := by omega
  show xs[r + 2 * k]? = some (xs.getD (r + 2 * k) .non)
  rw [List.getD_eq_getElem?_getD, List.getElem?_eq_getElem lt]
  rfl
theorem pick_zero {xs : List V} : pickG xs none none (some 2) = pickG xs (some ((0 : Nat) : Int)) none (some 2) := by
  unfold pickG placesOf sliceBounds
  simp
  rw [show max 0 (min 0 (xs.length : Int)) = 0 by omega]
end L3
namespace K03
open PySem PySem.Spec PyProof.Rows L2 LamX NdefX L3 PolyM Kron
section
variable {K : PySem.W.Frag} {xs ys : List V}
/-- [e for x, y in zip(two lists)] -/
theorem lc_zipL {i j : Nat} {β : Type} {bs : List β} {Rr : Addr → Hp → V → β → Prop} {σ : L2.St} {H : Hp} {te : TE} {ta : TA} {Q : VK} (hv : ∀ R : It → Hp → Prop, (∀ a b H1, Same H H1 → SqL K H1 a xs → SqL K H1 b ys → R (Itz K a b) H1) → RZ.iZipA K ta σ H R) (ne : i ≠ j)
    (few : min xs.length ys.length ≤ sizeLine) (hl : min xs.length ys.length = bs.length)
    (same : ∀ (D : Addr) (H H' : Hp) (y : V) (b : β), Rr D H y b → Same H H' → Rr D H' y b) (grow : ∀ (D : Addr) (H : Hp) (rs ys : List V) (y : V) (b : β), H D = some (.lst rs) → Rr D H y b → Rr D (upd H D (.lst ys)) y b)
    (step : ∀ (D : Addr) (k : Nat) (x y : V) (b : β) (H2 : Hp) (rs : List V) (Kc : VK), xs[k]? = some x → ys[k]? = some y → bs[k]? = some b → Same H H2 → H2 D = some (.lst rs) → (∀ (z : V) (H3 : Hp), Same H2 H3 → Rr D H3 z b → Kc z H3) → te (((wipe σ [i, j]).set i (some x)).set j (some y)) H2 Kc)
    (fin : ∀ (D : Addr) (ws : List V) (H5 : Hp), H D = none → Same H H5 → H5 D = some (.lst ws) → Paired (Rr D H5) ws bs → Q (.ref D) H5) :
    tLc (RZ.iZipA K ta) (gTup K 2 (gCons (gName i) (gCons (gName j) gNil))) tYes te [i, j] σ H Q := by
  refine hv _ fun a b H1 s1 sx sy D nD => ?_
  refine lc_it (walk_zip rfl) (fun k H2 => Same H1 H2 ∧ ∃ ws, H2 D = some (.lst ws) ∧ Paired (Rr D H2) ws (bs.take k)) ⟨Same.new (fun _ _ e => e) nD, [], upd_same, .nil⟩ (fun k H2 _ p => ⟨p.1.seq sx, p.1.seq sy⟩) ?_ ?_
  · rintro k v H2 H3 hk ⟨s2, ws, hD, pw⟩ ⟨T, x, y, rfl, nT, rfl, hx, hy⟩
    have hb : bs[k]? = some bs[k] := List.getElem?_eq_getElem (by omega)
    have sT := Same.new (o := .tup [x, y]) (fun _ _ e => e : Same H2 H2) nT
    refine ⟨T, [x, y], rfl, SqT.of upd_same, rfl, x, [y], rfl, y, [], rfl, rfl, ?_, ?_⟩
    · show ((((σ.set j none).set i none).set i (some x)).set j (some y) |>.set j none).set i none = (σ.set j none).set i none
      refine List.ext_getElem? fun n => ?_
      simp only [List.getElem?_set, List.length_set]
      grind
    · refine yes_if (a := fun H4 => te _ H4 _) ?_
      refine step D k x y _ _ ws _ hx hy hb (s1.trans (s2.trans sT)) (sT _ _ hD) fun z H4 s4 rz => ?_
      have hD4 := s4 _ _ (sT _ _ hD)
      have lw : ws.length = k := by
        rw [paired_len pw, List.length_take]
        omega
      refine ⟨ws, hD4, by omega, same_grow nD (s2.trans (sT.trans s4)), ws ++ [z], upd_same, ?_⟩
      rw [take_snoc hb]
      exact (Paired.mapP pw fun v b q => grow D H4 ws (ws ++ [z]) v b hD4 (same D H2 H4 v b q (sT.trans s4))).snoc (grow D H4 ws (ws ++ [z]) z _ hD4 rz)
  · rintro H5 ⟨s5, ws, hD, pw⟩
    rw [hl, List.take_length] at pw
    exact fin D ws H5 (same_none s1 nD) (s1.trans s5) hD pw
end
theorem pick_len {P : List Int} {r : Nat} (hr : r < 2) : (pickG (vInts P) (some (r : Int)) none (some 2)).length = (P.length + 1 - r) / 2 := by
  rw [pick_step hr, List.length_map, List.length_range, vInts_len]
theorem pick_at {P : List Int} {r k : Nat} {x : V} (hr : r < 2) (h : (pickG (vInts P) (some (r : Int)) none (some 2))[k]? = some x) : ∃ z, P[r + 2 * k]? = some z ∧ x = .int z := by
  have lt : k < (P.length + 1 - r) / 2 := by
    rw [← pick_len hr]
    exact (List.getElem?_eq_some_iff.mp h).1
  rw [pick_step hr, List.getElem?_map, vInts_len, List.getElem?_range lt] at h
  have l2 : r + 2 * k < P.length := by omega
  refine ⟨P[r + 2 * k], List.getElem?_eq_getElem l2, ?_⟩
  have e : (vInts P).getD (r + 2 * k) .non = x := Option.some.inj h
  rw [← e, List.getD_eq_getElem?_getD]
  unfold vInts
  rw [List.getElem?_map, List.getElem?_eq_getElem l2]
  rfl
abbrev sNorm : Stmt := top 30
abbrev sGreat : Stmt := top 31
abbrev sTrimmed : Stmt := top 29
def absI (x : Int) : Int := if x < 0 then -x else x
theorem itm {N : List Int} {i : Nat} {x : V} {z : Int} (hx : (vInts N)[i]? = some x) (hz : N[i]? = some z) : x = .int z := by
  unfold vInts at hx
  rw [List.getElem?_map, hz] at hx
  exact (Option.some.inj hx).symm
def spNorm : Sp := fun vs H Q _ => ∃ (l : Addr) (L : List Int), vs = [.ref l] ∧ H l = some (.lst (vInts L)) ∧ L.length ≤ 100000 ∧ ∀ H', Same H H' → Q (.int (nrm L)) H'
def spGreat : Sp := fun vs H Q _ => ∃ (l : Addr) (L : List Int), vs = [.ref l] ∧ H l = some (.lst (vInts L)) ∧ L.length ≤ 100000 ∧ ∀ (g : Int) H', ((L = [] ∧ g = 0) ∨ ∃ x ∈ L, g = absI x) → Upto g L → Same H H' → Q (.int g) H'
/-- the noughts at the end are left out -/
def CutAt (L : List Int) (m : Nat) : Prop := m ≤ L.length ∧ (∀ k x, m ≤ k → L[k]? = some x → x = 0) ∧ ∀ x, 0 < m → L[m - 1]? = some x → x ≠ 0
def spTrimmed : Sp := fun vs H Q _ => ∃ (l : Addr) (L : List Int), vs = [.ref l] ∧ H l = some (.lst (vInts L)) ∧ ∀ (m : Nat) (l2 : Addr) H', CutAt L m → H l2 = none → Same H H' → H' l2 = some (.lst (vInts (L.take m))) → Q (.ref l2) H'
section
variable {P : Program} {w : World} {K : PySem.W.Frag} {mg : Str → Option Value} {base : Heap} {cB cN C fI : Addr}
theorem scNorm : FnScope ["parts", "part"] ["parts"] (defScope sNorm) := ⟨rfl, rfl, rfl, by decide +kernel, rfl, by decide +kernel, by decide +kernel⟩
theorem ok_norm {f : Addr} {fd : FuncData} (F : Fun K "norm" "norm" sNorm f fd) (B : TxtR mg) (bs : mg "sum" = none) : FnOk P w K mg base CX0 1 f fd ["parts"] spNorm := by
  refine F.ok scNorm (fun vs H Q E h => ?_) (fun cdv A outer s H vs Q E hr h => ?_)
  · obtain ⟨l, L, rfl, _⟩ := h
    rfl
  · obtain ⟨l, L, rfl, hL, few, k⟩ := h
    have nd := scNorm.nd
    refine ⟨_, pss_one (ps_ret (pe_callB (cr_sum (by rfl)) (by rfl) bs (by decide +kernel) (pa_cons (pe_lc (own := [("part", 1)]) (g := gName 1) (tt := tYes) rfl nd (pi_list (pv 0)) (blkOk_by (N := ["parts", "part"]) (sc := defScope sNorm) (by decide +kernel)) (fun _ _ _ _ _ => pg_name (i := 1) nd rfl (Or.inl rfl)) (fun _ _ _ _ _ => pts_nil) (fun _ _ _ _ _ => by exact (pe_callB call_abs (by rfl) B.abs (by decide +kernel) (pa_cons (pv 1) pa_nil)))) pa_nil))), ?_⟩
    dsimp only [tRet, tCB, tCons, tNil]
    refine lc_mapL (bs := L) (Rr := fun _ _ (y : V) (z : Int) => y = .int (absI z)) (fun R r => ⟨_, rfl, r⟩) (SqL.of hL) (by rw [vInts_len]; exact Nat.le_trans few (by decide)) vInts_len (fun _ _ _ _ _ h _ => h) (fun _ _ _ _ _ _ _ h => h) ?_ ?_
    · intro D i x z H2 rs Kc hx hz s2 hD kc
      cases itm hx hz
      exact ⟨_, rfl, _, rfl, kc _ _ (fun _ _ e => e) rfl⟩
    · intro l2 ws H2 nl s2 hl2 pw
      rw [paired_intsF pw] at hl2
      exact ⟨l2, L.map absI, rfl, SqL.of hl2, k _ s2⟩
theorem scGreat : FnScope ["parts", "part"] ["parts"] (defScope sGreat) := ⟨rfl, rfl, rfl, by decide +kernel, rfl, by decide +kernel, by decide +kernel⟩
theorem ok_great {f : Addr} {fd : FuncData} (F : Fun K "greatest" "greatest" sGreat f fd) (B : TxtR mg) (bm : mg "max" = none) : FnOk P w K mg base CX0 4 f fd ["parts"] spGreat := by
  refine F.ok scGreat (fun vs H Q E h => ?_) (fun cdv A outer s H vs Q E hr h => ?_)
  · obtain ⟨l, L, rfl, _⟩ := h
    rfl
  · obtain ⟨l, L, rfl, hL, few, k⟩ := h
    have nd := scGreat.nd
    have hu : (A.deeper (envOfC "greatest" (defScope sGreat) s.heap.objs.size f cdv)).units + 3 < cLine := Nat.lt_of_le_of_lt (Nat.add_le_add_left (by decide : 3 ≤ 64) _) hr.units
    refine ⟨_, pss_one (ps_ret (pe_callBK (cr_maxD (by rfl) hu) (by rfl) bm (by decide +kernel) (pa_cons (pe_lc (own := [("part", 1)]) (g := gName 1) (tt := tYes) rfl nd (pi_list (pv 0)) (blkOk_by (N := ["parts", "part"]) (sc := defScope sGreat) (by decide +kernel)) (fun _ _ _ _ _ => pg_name (i := 1) nd rfl (Or.inl rfl)) (fun _ _ _ _ _ => pts_nil) (fun _ _ _ _ _ => by exact (pe_callB call_abs (by rfl) B.abs (by decide +kernel) (pa_cons (pv 1) pa_nil)))) pa_nil) (pk_cons pe_int pk_nil))), ?_⟩
    dsimp only [tRet, tCKw, tCons, tNil]
    refine lc_mapL (bs := L) (Rr := fun _ _ (y : V) (z : Int) => y = .int (absI z)) (fun R r => ⟨_, rfl, r⟩) (SqL.of hL) (by rw [vInts_len]; exact Nat.le_trans few (by decide)) vInts_len (fun _ _ _ _ _ h _ => h) (fun _ _ _ _ _ _ _ h => h) ?_ ?_
    · intro D i x z H2 rs Kc hx hz s2 hD kc
      cases itm hx hz
      exact ⟨_, rfl, _, rfl, kc _ _ (fun _ _ e => e) rfl⟩
    · intro l2 ws H2 nl s2 hl2 pw
      rw [paired_intsF pw] at hl2
      refine ⟨l2, L.map absI, 0, rfl, rfl, SqL.of hl2, fun m hm => k m _ ?_ ?_ s2⟩
      · rcases hm with ⟨e, rfl⟩ | ⟨hm, _⟩
        · exact .inl ⟨List.map_eq_nil_iff.mp e, rfl⟩
        · obtain ⟨x, hx, rfl⟩ := List.mem_map.mp hm
          exact .inr ⟨x, hx, rfl⟩
      · rcases hm with ⟨e, rfl⟩ | ⟨_, hm⟩
        · rw [List.map_eq_nil_iff.mp e]
          exact fun x h => (List.not_mem_nil h).elim
        · intro x hx
          have := hm _ (List.mem_map.mpr ⟨x, hx, rfl⟩)
          unfold absI at this
          split at this <;> omega
theorem scTrimmed : FnScope ["parts", "many"] ["parts"] (defScope sTrimmed) := ⟨rfl, rfl, rfl, by decide +kernel, rfl, by decide +kernel, by decide +kernel⟩
theorem ok_trimmed {f : Addr} {fd : FuncData} (F : Fun K "shortened" "shortened" sTrimmed f fd) (B : TxtR mg) : FnOk P w K mg base CX0 1 f fd ["parts"] spTrimmed := by
  refine F.ok scTrimmed (fun vs H Q E h => ?_) (fun cdv A outer s H vs Q E hr h => ?_)
  · obtain ⟨l, L, rfl, _⟩ := h
    rfl
  · obtain ⟨l, L, rfl, hL, k⟩ := h
    have nd := scTrimmed.nd
    refine ⟨_, pss_cons (ps_set (i := 1) nd rfl (Or.inl rfl) (pe_callB call_len_seq (by rfl) B.len PySem.boot_len (pa_cons (pv 0) pa_nil)))
      (pss_cons (ps_while PassesOwn.never (PW.pt (pw_and (pt_truth (pv 1) (by intro _; rfl)) (pw_and1 (pt_cmpR op_eq (pe_ix ix_list (pv 0) (pe_op op_sub (pv 1) pe_int) (fun _ _ => rfl)) pe_int (nomark _))))) (pss_one (ps_aug (i := 1) nd rfl (.inl rfl) pe_int ip_sub)))
      (pss_one (ps_ret (pe_callTy call_list_of (by rfl) B.list (by decide +kernel) (pa_cons (pe_slice sl_list (pv 0) po_none (po_some (pv 1))) pa_nil))))), ?_⟩
    refine ⟨_, rfl, l, _, rfl, .inl (SqL.of hL), ?_⟩
    dsimp only [gName]
    refine seq_to (fun σ' G => ∃ m : Nat, σ' = [some (.ref l), some (.int (m : Int))] ∧ G = H ∧ CutAt L m) (fun kk hK => ?_) ?_
    · refine while_at (fun m σ' G => σ' = [some (.ref l), some (.int (m : Int))] ∧ G = H ∧ m ≤ L.length ∧ ∀ k x, m ≤ k → L[k]? = some x → x = 0) L.length
        ⟨by rw [vInts_len]; rfl, rfl, Nat.le_refl _, fun k p h e => by rw [List.getElem?_eq_none h] at e; cases e⟩ ?_
      rintro m σ' G ⟨rfl, rfl, ml, off⟩
      refine ⟨_, rfl, _, rfl, ?_⟩
      refine ite2 (fun y => ?_) (fun y => ?_)
      · have m0 : 0 < m := by
          refine Nat.pos_of_ne_zero fun z => ?_
          subst z
          simp at y
        have e := List.getElem?_eq_getElem (show m - 1 < L.length by omega)
        have i1 : (m : Int) - 1 = ((m - 1 : Nat) : Int) := by omega
        refine ⟨_, rfl, _, rfl, _, _, rfl, rfl, l, _, _, _, rfl, rfl, SqL.of hL, (by rw [i1]; exact atI_nat (show (vInts L)[m - 1]? = some (.int L[m - 1]) by unfold vInts; rw [List.getElem?_map, e]; rfl)), rfl, _, rfl, ?_⟩
        refine ite2 (fun y2 => ?_) (fun y2 => ?_)
        · refine ⟨fun σ' G' => ∃ m', m' < m ∧ (σ' = [some (.ref l), some (.int (m' : Int))] ∧ G' = G ∧ m' ≤ L.length ∧ ∀ k x, m' ≤ k → L[k]? = some x → x = 0), fun _ _ z => z, ?_⟩
          refine ⟨_, rfl, _, _, rfl, rfl, m - 1, by omega, by rw [← i1]; rfl, rfl, by omega, fun k x hk hx => ?_⟩
          by_cases c : k = m - 1
          · subst c
            rw [e] at hx
            cases hx
            simpa using y2
          · exact off k x (by omega) hx
        · refine hK _ _ ⟨m, rfl, rfl, ml, off, fun x _ hx z => ?_⟩
          rw [e] at hx
          cases hx
          exact y2 (decide_eq_true (by rw [z]))
      · have m0 : m = 0 := by
          refine Nat.eq_zero_of_not_pos fun z => y ?_
          simp
          omega
        exact hK _ _ ⟨m, rfl, rfl, ml, off, fun x z => by omega⟩
    rintro σ' G ⟨m, rfl, rfl, ct⟩
    refine ⟨_, rfl, _, rfl, _, rfl, l, _, rfl, SqL.of hL, fun p np => ?_⟩
    rw [cut_to (show m ≤ (vInts L).length by rw [vInts_len]; exact ct.1)]
    have sp := Same.new (o := .lst ((vInts L).take m)) (fun _ _ e => e : Same G G) np
    refine ⟨p, _, rfl, .inl (SqL.of upd_same), fun l2 nl2 => ?_⟩
    refine k m l2 _ ct (by
      cases e : G l2 with
      | none => rfl
      | some o => rw [sp _ _ e] at nl2; cases nl2) (sp.trans (Same.new (fun _ _ e => e) nl2)) ?_
    rw [upd_same]
    unfold vInts
    rw [List.map_take]
end
end K03
end
section
set_option maxHeartbeats 8000000
set_option exponentiation.threshold 100000
namespace K03
open PySem PySem.Spec PyProof.Rows L2 LamX NdefX L3 PolyM Kron
abbrev sPacked : Stmt := top 32
theorem prs_small {c s : Nat} (h1 : 1 ≤ s) : ∀ P : List Int, (∀ x ∈ P, x.natAbs < 2 ^ (c + 2 * s)) → ∀ x ∈ prs (2 ^ s) P, x.natAbs < 2 ^ (c + 2 * (2 * s))
  | [], _ => fun _ m => (List.not_mem_nil m).elim
  | [_], _ => fun _ m => (List.not_mem_nil m).elim
  | x :: y :: r, h => by
    intro z hz
    rcases List.mem_cons.mp hz with rfl | hz
    · have hx := h x List.mem_cons_self
      have hy := h y (List.mem_cons_of_mem _ List.mem_cons_self)
      have e1 : (y * 2 ^ s).natAbs = y.natAbs * 2 ^ s := by
        rw [Int.natAbs_mul, Int.natAbs_pow]
        rfl
      have e2 : y.natAbs * 2 ^ s < 2 ^ (c + 2 * s) * 2 ^ s := Nat.mul_lt_mul_of_pos_right hy (Nat.two_pow_pos s)
      have e3 := Int.natAbs_add_le x (y * 2 ^ s)
      rw [e1] at e3
      have e4 : 2 ^ (c + 2 * (2 * s)) = 2 ^ (c + 2 * s) * 2 ^ s * 2 ^ s := by
        rw [← Nat.pow_add, ← Nat.pow_add]
        congr 1
        omega
      have e5 : 2 ≤ 2 ^ s := Nat.le_trans (by decide : 2 ≤ 2 ^ 1) (Nat.pow_le_pow_right (by decide) h1)
      have e6 : 2 ^ (c + 2 * s) * 2 ^ s * 2 ≤ 2 ^ (c + 2 * s) * 2 ^ s * 2 ^ s := Nat.mul_le_mul_left _ e5
      have e7 : 2 ^ (c + 2 * s) ≤ 2 ^ (c + 2 * s) * 2 ^ s := Nat.le_mul_of_pos_right _ (Nat.two_pow_pos s)
      rw [e4]
      omega
    · exact prs_small h1 r (fun x hx => h x (List.mem_cons_of_mem _ (List.mem_cons_of_mem _ hx))) z hz
def spPacked : Sp := fun vs H Q _ => ∃ (l : Addr) (L : List Int) (b c : Nat), vs = [.ref l, .int (b : Int)] ∧ H l = some (.lst (vInts L)) ∧ 1 ≤ b ∧ (∀ x ∈ L, x.natAbs < 2 ^ c) ∧ L.length ≤ 100000 ∧ c + 3 * (b * L.length) ≤ 60000000 ∧ b ≤ 60000000 ∧ ∀ H', Same H H' → Q (.int (wv (2 ^ b) L)) H'
section
variable {P : Program} {w : World} {K : PySem.W.Frag} {mg : Str → Option Value} {base : Heap} {cB cN C fI : Addr}
theorem scPacked : FnScope ["parts", "bits", "pieces", "size", "low", "high"] ["parts", "bits"] (defScope sPacked) := ⟨rfl, rfl, rfl, by decide +kernel, rfl, by decide +kernel, by decide +kernel⟩
theorem ok_packed {f : Addr} {fd : FuncData} (F : Fun K "packed" "packed" sPacked f fd) (B : TxtR mg) (bz : mg "zip" = none) : FnOk P w K mg base CX0 1 f fd ["parts", "bits"] spPacked := by
  refine F.ok scPacked (fun vs H Q E h => ?_) (fun cdv A outer s H vs Q E hr h => ?_)
  · obtain ⟨l, L, b, c, rfl, _⟩ := h
    rfl
  · obtain ⟨l, L, b, c, rfl, hL, b1, bL, few, room, b6, k⟩ := h
    have nd := scPacked.nd
    refine ⟨_, pss_cons (ps_set (i := 2) nd rfl (Or.inl rfl) (pe_callTy call_list_of (by rfl) B.list (by decide +kernel) (pa_cons (pv 0) pa_nil)))
      (pss_cons (ps_set (i := 3) nd rfl (Or.inr rfl) (pv 1))
      (pss_cons (ps_while PassesOwn.never (pt_cmpR op_gt (pe_callB call_len_seq (by rfl) B.len PySem.boot_len (pa_cons (pv 2) pa_nil)) pe_int (nomark _))
        (pss_cons (ps_if (pt_truth (pe_op op_odd (pe_callB call_len_seq (by rfl) B.len PySem.boot_len (pa_cons (pv 2) pa_nil)) pe_int) (by intro _; rfl)) (pss_one (ps_set (i := 2) nd rfl (Or.inl rfl) (pe_lst (StX.pa_star (pv 2) (pa_cons pe_int pa_nil))))) pss_nil)
        (pss_cons (ps_setLc (i := 2) (own := [("low", 4), ("high", 5)]) (g := gTup K 2 (gCons (gName 4) (gCons (gName 5) gNil))) (tt := tYes) rfl nd rfl rfl (sw_true rfl rfl rfl (by decide +kernel)) (RZ.pi_zipA (by rfl) bz (pa_cons (pe_pick (pv 2) po_none po_none (po_some pe_int)) (pa_cons (pe_pick (pv 2) (po_some pe_int) po_none (po_some pe_int)) pa_nil))) (blkOk_by (N := ["parts", "bits", "pieces", "size", "low", "high"]) (sc := defScope sPacked) (by decide +kernel)) (fun _ _ _ _ _ => pg_tupK K (by rfl) (pgs_cons (pg_name (i := 4) nd rfl (Or.inl rfl)) (pgs_cons (pg_name (i := 5) nd rfl (Or.inl rfl)) pgs_nil))) (fun _ _ _ _ _ => pts_nil) (fun _ _ _ _ _ => by exact (pe_op op_add (pv 4) (pe_op op_shlN (pv 5) (pv 3)))))
        (pss_one (ps_set (i := 3) nd rfl (Or.inr rfl) (pe_op op_mulW (pv 3) pe_int))))))
      (pss_one (ps_ret (pe_ifExp (pt_truth (pv 2) (by intro _; rfl)) (pe_ix ix_list (pv 2) pe_int (fun _ _ => rfl)) pe_int))))), ?_⟩
    refine ⟨_, rfl, l, _, rfl, .inl (SqL.of hL), fun l1 nl1 => ?_⟩
    have s1 : Same H (upd H l1 (.lst (vInts L))) := Same.new (fun _ _ e => e) nl1
    have e1 : upd H l1 (.lst (vInts L)) l1 = some (.lst (vInts L)) := upd_same
    generalize upd H l1 (.lst (vInts L)) = G1 at s1 e1 ⊢
    dsimp only [gName]
    refine seq_to (fun σ' G => σ' = [some (.ref l), some (.int (b : Int)), some (.ref l1), some (.int (b : Int)), none, none] ∧ G = G1) (fun kk hK => ⟨_, rfl, hK _ _ ⟨rfl, rfl⟩⟩) ?_
    rintro σ' _ ⟨rfl, rfl⟩
    refine seq_to (fun σ' G => ∃ (l2 : Addr) (R : List Int) (s : Nat), σ' = [some (.ref l), some (.int (b : Int)), some (.ref l2), some (.int (s : Int)), none, none] ∧ Same H G ∧ G l2 = some (.lst (vInts R)) ∧ R.length ≤ 1 ∧ wv (2 ^ s) R = wv (2 ^ b) L) (fun kk hK => ?_) ?_
    · refine while_at (fun m σ' G => ∃ (l2 : Addr) (R : List Int) (s : Nat), σ' = [some (.ref l), some (.int (b : Int)), some (.ref l2), some (.int (s : Int)), none, none] ∧ Same H G ∧ G l2 = some (.lst (vInts R)) ∧ 1 ≤ s ∧ (R.length - 1) * s ≤ (L.length - 1) * b ∧ (∀ x ∈ R, x.natAbs < 2 ^ (c + 2 * s)) ∧ R.length ≤ 100000 ∧ wv (2 ^ s) R = wv (2 ^ b) L ∧ m = R.length)
        L.length ⟨l1, L, b, rfl, s1, e1, b1, Nat.le_refl _, fun x hx => Nat.lt_of_lt_of_le (bL x hx) (Nat.pow_le_pow_right (by decide) (Nat.le_add_right _ _)), few, rfl, rfl⟩ ?_
      rintro m σ' G ⟨l2, R, s, rfl, sG, hR, s0, sB, rB, lR, wR, rfl⟩
      refine ⟨_, rfl, l2, _, rfl, .inl (SqL.of hR), _, _, rfl, rfl, _, rfl, ?_⟩
      rw [vInts_len]
      refine ite2 (fun y => ?_) (fun y => ?_)
      · have long : 2 ≤ R.length := by
          have := of_decide_eq_true y
          omega
        refine ⟨fun σ' G => ∃ m', m' < R.length ∧ ∃ (l2 : Addr) (R : List Int) (s : Nat), σ' = [some (.ref l), some (.int (b : Int)), some (.ref l2), some (.int (s : Int)), none, none] ∧ Same H G ∧ G l2 = some (.lst (vInts R)) ∧ 1 ≤ s ∧ (R.length - 1) * s ≤ (L.length - 1) * b ∧ (∀ x ∈ R, x.natAbs < 2 ^ (c + 2 * s)) ∧ R.length ≤ 100000 ∧ wv (2 ^ s) R = wv (2 ^ b) L ∧ m' = R.length, fun _ _ z => z, ?_⟩
        -- an even number of pieces
        refine seq_to (fun σ' G' => ∃ (l3 : Addr) (R' : List Int), σ' = [some (.ref l), some (.int (b : Int)), some (.ref l3), some (.int (s : Int)), none, none] ∧ Same H G' ∧ G' l3 = some (.lst (vInts R')) ∧ (R' = R ∨ R' = R ++ [0]) ∧ R'.length % 2 = 0 ∧ R'.length ≤ R.length + 1) (fun kk hK => ?_) ?_
        · refine ⟨_, rfl, l2, _, rfl, .inl (SqL.of hR), R.length, by rw [vInts_len], rfl, _, rfl, ?_⟩
          refine ite2 (fun y => ?_) (fun y => ?_)
          · have odd : R.length % 2 = 1 := by
              have : ((R.length % 2 : Nat) : Int) ≠ 0 := by simpa using y
              omega
            refine ⟨_, rfl, l2, _, rfl, .inr (SqL.of hR), ?_, fun l3 nl3 => ?_⟩
            · show (vInts R ++ [V.int 0]).length ≤ sizeLine
              rw [List.length_append, vInts_len]
              exact Nat.le_trans (show _ ≤ 100001 by simp; omega) (by decide)
            · refine hK _ _ ⟨l3, R ++ [0], rfl, sG.trans (Same.new (fun _ _ e => e) nl3), ?_, .inr rfl, by simp; omega, by simp⟩
              rw [upd_same]
              unfold vInts
              rw [List.map_append]
              rfl
          · have even : R.length % 2 = 0 := by
              have : ((R.length % 2 : Nat) : Int) = 0 := by simpa using y
              omega
            exact hK _ _ ⟨l2, R, rfl, sG, hR, .inl rfl, even, Nat.le_succ _⟩
        rintro σ' G' ⟨l3, R', rfl, sG', hR', eR, even, lR'⟩
        have wR' : wv (2 ^ s) R' = wv (2 ^ b) L := by
          rcases eR with rfl | rfl
          · exact wR
          · rw [wv_snoc0, wR]
        have rB' : ∀ x ∈ R', x.natAbs < 2 ^ (c + 2 * s) := by
          rcases eR with rfl | rfl
          · exact rB
          · intro x hx
            rcases List.mem_append.mp hx with hx | hx
            · exact rB x hx
            · rw [List.mem_singleton.mp hx]
              exact Nat.two_pow_pos _
        have sS : s ≤ (L.length - 1) * b := Nat.le_trans (Nat.le_trans (by omega) (Nat.le_mul_of_pos_left s (show 0 < R.length - 1 by omega))) sB
        have sS2 : s ≤ b * L.length := Nat.le_trans sS (by rw [Nat.mul_comm b]; exact Nat.mul_le_mul_right _ (Nat.sub_le _ _))
        -- two and two
        refine seq_to (fun σ' G2 => ∃ l4 : Addr, σ' = [some (.ref l), some (.int (b : Int)), some (.ref l4), some (.int (s : Int)), none, none] ∧ Same H G2 ∧ G2 l4 = some (.lst (vInts (prs (2 ^ s) R')))) (fun kk hK => ?_) ?_
        · dsimp only [tAsg]
          have hz : R'.length ≤ sizeLine := Nat.le_trans (show _ ≤ 100001 by omega) (by decide)
          have l1 : (pickG (vInts R') none none (some 2)).length = R'.length / 2 := by
            rw [pick_zero, pick_len (by decide)]
            omega
          have l2 : (pickG (vInts R') (some 1) none (some 2)).length = R'.length / 2 := by
            rw [show (some (1 : Int)) = some ((1 : Nat) : Int) from rfl, pick_len (by decide)]
            omega
          refine lc_zipL (K := K) (xs := pickG (vInts R') none none (some 2)) (ys := pickG (vInts R') (some 1) none (some 2)) (bs := prs (2 ^ s) R') (Rr := fun _ _ (y : V) (z : Int) => y = .int z) (fun R r => ?_) (by decide) (by rw [l1]; omega) (by rw [l1, l2, prs_len]; omega) (fun _ _ _ _ _ h _ => h) (fun _ _ _ _ _ _ _ h => h) ?_ ?_
          · refine ⟨_, rfl, l3, rfl, _, rfl, by decide, _, SqL.of hR', by rw [l1]; omega, fun pa na => ?_⟩
            have sa := Same.new (o := .lst (pickG (vInts R') none none (some 2))) (fun _ _ e => e : Same G' G') na
            have ea : upd G' pa (.lst (pickG (vInts R') none none (some 2))) pa = some (.lst (pickG (vInts R') none none (some 2))) := upd_same
            generalize upd G' pa (.lst (pickG (vInts R') none none (some 2))) = Ga at sa ea ⊢
            refine ⟨_, rfl, l3, rfl, _, rfl, _, rfl, by decide, _, SqL.of (sa _ _ hR'), by rw [l2]; omega, fun pb nb => ?_⟩
            have sb := Same.new (o := .lst (pickG (vInts R') (some 1) none (some 2))) (fun _ _ e => e : Same Ga Ga) nb
            refine ⟨pa, pb, _, _, rfl, .inl ⟨SqL.of (sb _ _ ea), SqL.of upd_same, r pa pb _ (sa.trans sb) (SqL.of (sb _ _ ea)) (SqL.of upd_same)⟩⟩
          · intro D i x y z G2 rs Kc hx hy hz s2 hD kc
            rw [pick_zero] at hx
            rw [show (some (1 : Int)) = some ((1 : Nat) : Int) from rfl] at hy
            obtain ⟨zx, ex, rfl⟩ := pick_at (by decide) hx
            obtain ⟨zy, ey, rfl⟩ := pick_at (by decide) hy
            rw [Nat.zero_add] at ex
            rw [Nat.add_comm] at ey
            have e := prs_at (q := 2 ^ s) R' i zx zy ex ey
            rw [hz] at e
            cases e
            refine ⟨_, rfl, _, rfl, _, rfl, _, s, rfl, rfl, shl_ok (rB' zy (List.mem_of_getElem? ey)) (by omega), _, _, rfl, rfl, kc _ _ (fun _ _ e => e) rfl⟩
          · intro l4 ws G2 nl s2 hl pw
            refine hK _ _ ⟨l4, rfl, sG'.trans s2, ?_⟩
            rw [hl, paired_intsF (f := fun z : Int => z) pw, List.map_id']
        rintro σ' G2 ⟨l4, rfl, s4, h4⟩
        have e2 : (s : Int) * 2 = ((2 * s : Nat) : Int) := by omega
        refine ⟨_, rfl, _, _, rfl, rfl, ?_, ?_⟩
        · exact mul_fit (a := 60) (b := 2) (Nat.lt_of_le_of_lt (show (s : Int).natAbs ≤ 60000000 by omega) (by decide)) (by decide) (by decide)
        · have lp : (prs (2 ^ s) R').length = R'.length / 2 := prs_len _
          refine ⟨(prs (2 ^ s) R').length, by rw [lp]; omega, l4, prs (2 ^ s) R', 2 * s, by rw [← e2]; rfl, s4, h4, by omega, ?_, prs_small s0 R' rB', by rw [lp]; omega, ?_, rfl⟩
          · rw [lp]
            refine Nat.le_trans ?_ sB
            rw [← Nat.mul_assoc]
            refine Nat.mul_le_mul_right _ ?_
            rcases eR with rfl | rfl
            · omega
            · rw [List.length_append, List.length_singleton] at even ⊢
              omega
          · have q2 : (2 : Int) ^ (2 * s) = 2 ^ s * 2 ^ s := by rw [← Int.pow_add]; congr 1; omega
            rw [q2, wv_prs R' even, wR']
      · exact hK _ _ ⟨l2, R, s, rfl, sG, hR, by
          have : ¬ (1 : Int) < (R.length : Int) := fun z => y (decide_eq_true z)
          omega, wR⟩
    rintro σ' G ⟨l2, R, s, rfl, sG, hR, lR, wR⟩
    refine ⟨_, rfl, _, .inl ⟨_, SqL.of hR, rfl⟩, ?_⟩
    cases R with
    | nil =>
      show Q (.int 0) G
      rw [show (0 : Int) = wv (2 ^ b) L from wR]
      exact k _ sG
    | cons x R =>
      have : R = [] := List.eq_nil_of_length_eq_zero (by have := lR; rw [List.length_cons] at this; omega)
      subst this
      refine ⟨_, rfl, l2, _, _, _, rfl, rfl, SqL.of hR, rfl, ?_⟩
      have : x = wv (2 ^ b) L := by
        rw [← wR]
        show x = x + 2 ^ s * 0
        omega
      rw [this]
      exact k _ sG
end
end K03
end
section
set_option maxHeartbeats 8000000
set_option exponentiation.threshold 100000
namespace L3
open PySem PySem.Spec PyProof.Rows L2
/-- the second for of two, over a tuple -/
theorem in_tup {K : PySem.W.Frag} {a : Addr} {xs : List V} {g : TG} {vs : List Nat} {σ : L2.St} {Hs : Hp} {Qd : Hp → Prop} (body : L2.St → Hp → (Hp → Prop) → Prop) (Pv : Nat → Hp → Prop) (h0 : Pv 0 Hs) (hl : ∀ i H, i ≤ xs.length → Pv i H → SqT K H a xs)
    (hs : ∀ i x H, xs[i]? = some x → Pv i H → g x (wipe σ vs) H fun σ2 H2 => wipe σ2 vs = wipe σ vs ∧ body σ2 H2 (Pv (i + 1))) (hd : ∀ H, Pv xs.length H → Qd H) :
    ∃ W : Nat → Nat → Hp → Prop, (∃ m, W 0 m Hs) ∧ ∀ i m H, W i m H → ((Itt K a).stop i H ∧ Qd H) ∨ ((Itt K a).go i H ∧ ∃ Nx : Hp → Prop, (∀ H', Nx H' → ∃ m', m' < m ∧ W (i + 1) m' H') ∧ ∀ x H', (Itt K a).yld i H x H' → g x (wipe σ vs) H' fun σ2 H2 => wipe σ2 vs = wipe σ vs ∧ body σ2 H2 Nx) := by
  refine ⟨fun i m H => m = xs.length - i ∧ i ≤ xs.length ∧ Pv i H, ⟨xs.length, (Nat.sub_zero _).symm, Nat.zero_le _, h0⟩, ?_⟩
  rintro i m H ⟨rfl, le, p⟩
  have here := hl i H le p
  rcases Nat.lt_or_ge i xs.length with lt | ge
  · refine .inr ⟨⟨xs, xs[i], here, List.getElem?_eq_getElem lt⟩, Pv (i + 1), fun H' p' => ⟨xs.length - (i + 1), by omega, rfl, lt, p'⟩, ?_⟩
    rintro x H' ⟨rfl, told⟩
    exact hs i x _ (told xs here) p
  · obtain rfl : i = xs.length := by omega
    exact .inl ⟨⟨xs, here, Nat.le_refl _⟩, hd H p⟩
end L3
namespace K03
open PySem PySem.Spec PyProof.Rows L2 LamX NdefX L3 PolyM Kron
abbrev sUnp : Stmt := top 33
abbrev sMulD : Stmt := top 34
theorem vInts_app {A B : List Int} : vInts (A ++ B) = vInts A ++ vInts B := by unfold vInts; rw [List.map_append]
/-- [y for x in ints for y in (f1 x, f2 x)] -/
theorem lc2_pair {K : PySem.W.Frag} {l : Addr} {P : List Int} {f1 f2 : Int → Int} {σ : L2.St} {H : Hp} {tv : TE} {ts : TA} {i j : Nat} {Q : VK} (hv : ∀ R : VK, R (.ref l) H → tv σ H R) (ne : i ≠ j) (hj : j < σ.length) (hl : H l = some (.lst (vInts P))) (few : 2 * P.length ≤ sizeLine)
    (hts : ∀ (x : Int) (H' : Hp) (R : List V → Hp → Prop), x ∈ P → R [.int (f1 x), .int (f2 x)] H' → ts ((wipe σ [i, j]).set i (some (.int x))) H' R)
    (fin : ∀ (D : Addr) (H5 : Hp), H D = none → Same H H5 → H5 D = some (.lst (vInts (P.flatMap fun x => [f1 x, f2 x]))) → Q (.ref D) H5) :
    tLc2 (iList K tv) (gName i) tYes (iTup K (tTup ts)) (gName j) tYes (tVar j) [i, j] [j] σ H Q := by
  refine hv _ ⟨l, rfl, ⟨_, SqL.of hl⟩, fun D nD => ?_⟩
  refine out_list (K := K) (a := l) (xs := vInts P) (fun σ2 H2 Nx => tYes σ2 H2 fun b H3 => if b = true then iTup K (tTup ts) σ2 H3 fun J1 H4 => ∃ W1 : Nat → Nat → Hp → Prop, (∃ m, W1 0 m H4) ∧ ∀ j' k H, W1 j' k H →
          (J1.stop j' H ∧ Nx H) ∨ (J1.go j' H ∧ ∃ Nx1 : Hp → Prop, (∀ H', Nx1 H' → ∃ k', k' < k ∧ W1 (j' + 1) k' H') ∧ ∀ x H', J1.yld j' H x H' → gName j x (wipe σ2 [j]) H' fun σ3 H5 => wipe σ3 [j] = wipe σ2 [j] ∧ tYes σ3 H5 fun b H6 =>
            if b = true then tVar j σ3 H6 fun y H7 => ∃ acc, H7 D = some (.lst acc) ∧ acc.length < sizeLine ∧ Nx1 (upd H7 D (.lst (acc ++ [y]))) else Nx1 H6)
        else Nx H3)
    (fun k H2 => Same H H2 ∧ H2 D = some (.lst (vInts ((P.take k).flatMap fun x => [f1 x, f2 x])))) ⟨Same.new (fun _ _ e => e) nD, upd_same⟩ (fun k H2 _ p => SqL.of (p.1 _ _ hl)) ?_ ?_
  · rintro k v H2 hv2 ⟨s2, hD⟩
    have lk : k < P.length := by
      have := (List.getElem?_eq_some_iff.mp hv2).1
      rwa [vInts_len] at this
    have hp := List.getElem?_eq_getElem lk
    cases itm hv2 hp
    refine ⟨?_, ?_⟩
    · show ((((σ.set j none).set i none).set i (some (V.int P[k]))).set j none).set i none = (σ.set j none).set i none
      refine List.ext_getElem? fun n => ?_
      simp only [List.getElem?_set, List.length_set]
      grind
    refine yes_if ?_
    refine hts _ _ _ (List.getElem_mem lk) ⟨by show 2 ≤ sizeLine; decide, fun t nt => ?_⟩
    have st := Same.new (o := .tup [.int (f1 P[k]), .int (f2 P[k])]) (fun _ _ e => e : Same H2 H2) nt
    refine ⟨t, rfl, ⟨_, SqT.of upd_same⟩, ?_⟩
    have ht : upd H2 t (.tup [.int (f1 P[k]), .int (f2 P[k])]) t = some (.tup (vInts [f1 P[k], f2 P[k]])) := upd_same
    generalize upd H2 t (.tup [.int (f1 P[k]), .int (f2 P[k])]) = H3 at st ht ⊢
    refine in_tup (K := K) (a := t) (xs := vInts [f1 P[k], f2 P[k]]) (fun σ3 H5 Nx1 => tYes σ3 H5 fun b H6 => if b = true then tVar j σ3 H6 fun y H7 => ∃ acc, H7 D = some (.lst acc) ∧ acc.length < sizeLine ∧ Nx1 (upd H7 D (.lst (acc ++ [y]))) else Nx1 H6)
      (fun m H4 => (Same H H4 ∧ H4 t = some (.tup (vInts [f1 P[k], f2 P[k]]))) ∧ H4 D = some (.lst (vInts ((P.take k).flatMap (fun x => [f1 x, f2 x]) ++ [f1 P[k], f2 P[k]].take m)))) ⟨⟨s2.trans st, ht⟩, by rw [List.take_zero, List.append_nil]; exact st _ _ hD⟩ (fun m H4 _ p => SqT.of p.1.2) ?_ ?_
    · rintro m x H4 hx ⟨⟨s4, ht4⟩, hD4⟩
      have lm : m < 2 := (List.getElem?_eq_some_iff.mp hx).1
      have hz : [f1 P[k], f2 P[k]][m]? = some ([f1 P[k], f2 P[k]][m]'lm) := List.getElem?_eq_getElem lm
      cases itm hx hz
      refine ⟨?_, ?_⟩
      · show ((List.set _ j none).set j (some _)).set j none = List.set _ j none
        refine List.ext_getElem? fun n => ?_
        simp only [List.getElem?_set, List.length_set]
        grind
      refine yes_if ?_
      refine ⟨V.int ([f1 P[k], f2 P[k]][m]'lm), ?_, _, hD4, ?_, ⟨same_grow nD s4, ?_⟩, ?_⟩
      · show (List.set _ j (some (V.int ([f1 P[k], f2 P[k]][m]'lm))))[j]? = _
        rw [List.getElem?_set_self]
        show j < ((((σ.set j none).set i none).set i (some (V.int P[k]))).set j none).length
        simpa using hj
      · rw [vInts_len, List.length_append, flat_len (n := 2) (fun _ => rfl), List.length_take, List.length_take]
        show min k P.length * 2 + min m 2 < sizeLine
        have e1 : min k P.length = k := by omega
        have e2 : min m 2 = m := by omega
        rw [e1, e2]
        omega
      · rw [upd_ne (fun z => by rw [z] at ht4; rw [ht4] at hD4; cases hD4)]
        exact ht4
      · rw [upd_same, take_snoc hz, ← List.append_assoc, vInts_app (B := [_])]
        rfl
    · rintro H5 ⟨⟨s5, _⟩, hD5⟩
      refine ⟨s5, ?_⟩
      rw [flat_snoc hp]
      exact hD5
  · rintro H5 ⟨s5, hD5⟩
    refine fin D H5 nD s5 ?_
    rw [hD5, vInts_len, List.take_length]
theorem spl_flat {q : Int} : ∀ L : List Int, spl q L = L.flatMap fun x => [x % q, x / q]
  | [] => rfl
  | p :: r => by
    show (p % q) :: (p / q) :: spl q r = _
    rw [spl_flat r]
    rfl
/-- what lies between -h and h, h half of 2 ^ b -/
def Bal (b : Nat) (C : List Int) : Prop := ∀ x ∈ C, -(2 ^ (b - 1)) ≤ x ∧ x < 2 ^ (b - 1)
def spUnp : Sp := fun vs H Q _ => ∃ (W : Int) (b : Nat) (C : List Int), vs = [.int W, .int (b : Int)] ∧ 2 ≤ b ∧ b ≤ 5000000 ∧ Builtin.Int.intBits W ≤ 5000000 ∧ W.natAbs < 2 ^ (90000 * b) ∧ Bal b C ∧ wv (2 ^ b) C = W ∧
  ∀ (l2 : Addr) (E : List Int) H', (∀ k, E.getD k 0 = C.getD k 0) → (∀ x, E.getLast? = some x → x ≠ 0) → H l2 = none → Same H H' → H' l2 = some (.lst (vInts E)) → Q (.ref l2) H'
theorem cut_last {L : List Int} {m : Nat} (h : CutAt L m) : ∀ x, (L.take m).getLast? = some x → x ≠ 0 := by
  intro x hx
  by_cases m0 : m = 0
  · subst m0; simp at hx
  · have lm := h.1
    refine h.2.2 x (by omega) ?_
    rw [List.getLast?_eq_getElem?, List.length_take, Nat.min_eq_left lm, List.getElem?_take, if_pos (by omega)] at hx
    exact hx
theorem cut_getD {L : List Int} {m : Nat} (h : CutAt L m) (k : Nat) : (L.take m).getD k 0 = L.getD k 0 := by
  rw [List.getD_eq_getElem?_getD, List.getD_eq_getElem?_getD, List.getElem?_take]
  by_cases c : k < m
  · rw [if_pos c]
  · rw [if_neg c]
    cases e : L[k]? with
    | none => rfl
    | some x => rw [h.2.1 k x (by omega) e]; rfl
theorem two_half {b : Nat} (h : 2 ≤ b) : (2 : Int) ^ b = 2 * 2 ^ (b - 1) ∧ (2 : Int) ≤ 2 ^ (b - 1) := by
  obtain ⟨c, rfl⟩ : ∃ c, b = c + 1 + 1 := ⟨b - 2, by omega⟩
  show (2 : Int) ^ (c + 1 + 1) = 2 * 2 ^ (c + 1) ∧ (2 : Int) ≤ 2 ^ (c + 1)
  refine ⟨by rw [Int.pow_succ (n := c + 1), Int.mul_comm], ?_⟩
  rw [Int.pow_succ]
  have : (0 : Int) < 2 ^ c := Int.pow_pos (by decide)
  omega
theorem int_pow_le {a b : Nat} (h : a ≤ b) : (2 : Int) ^ a ≤ 2 ^ b := by
  have e : ∀ n : Nat, ((2 ^ n : Nat) : Int) = 2 ^ n := fun n => by
    rw [Int.natCast_pow]
    rfl
  rw [← e, ← e]
  exact Int.ofNat_le.mpr (Nat.pow_le_pow_right (by decide) h)
theorem natAbs_pow_lt {W : Int} {n : Nat} (h : W.natAbs < 2 ^ n) : -(2 ^ n) < W ∧ W < 2 ^ n := by
  have e : ((2 ^ n : Nat) : Int) = 2 ^ n := by
    rw [Int.natCast_pow]
    rfl
  rw [← e]
  omega
/-- the worth with a half on each place -/
theorem wprime {b m : Nat} {W : Int} (b2 : 2 ≤ b) (h : W.natAbs < 2 ^ (b * m)) : 0 ≤ W + wv (2 ^ b) (List.replicate (m + 1) (2 ^ (b - 1))) ∧ W + wv (2 ^ b) (List.replicate (m + 1) (2 ^ (b - 1))) < 2 ^ (b * (m + 1)) := by
  obtain ⟨e, h2⟩ := two_half b2
  obtain ⟨w1, w2⟩ := natAbs_pow_lt h
  rw [Int.pow_mul] at w1 w2
  rw [Int.pow_mul]
  have q0 : (0 : Int) ≤ 2 ^ b := by omega
  have lo := rep_low (q := 2 ^ b) (h := 2 ^ (b - 1)) q0 (by omega) m
  have hi := rep_high (q := 2 ^ b) (h := 2 ^ (b - 1)) e h2 (m + 1)
  have pm : (0 : Int) < (2 ^ b) ^ m := Int.pow_pos (by omega)
  have big : 4 * ((2 : Int) ^ b) ^ m ≤ (2 ^ b) ^ (m + 1) := by
    rw [Int.pow_succ, Int.mul_comm 4]
    exact Int.mul_le_mul_of_nonneg_left (by omega) (by omega)
  have lo2 : ((2 : Int) ^ b) ^ m ≤ 2 ^ (b - 1) * (2 ^ b) ^ m := by
    have := Int.mul_le_mul_of_nonneg_right (c := ((2 : Int) ^ b) ^ m) (show (1 : Int) ≤ 2 ^ (b - 1) by omega) (by omega)
    rwa [Int.one_mul] at this
  generalize wv (2 ^ b) (List.replicate (m + 1) (2 ^ (b - 1))) = a at lo hi ⊢
  generalize ((2 : Int) ^ b) ^ (m + 1) = c at hi big ⊢
  generalize ((2 : Int) ^ b) ^ m = z at w1 w2 lo lo2 pm big ⊢
  generalize (2 : Int) ^ (b - 1) * z = y at lo lo2
  omega
section
variable {P : Program} {w : World} {K : PySem.W.Frag} {mg : Str → Option Value} {base : Heap} {cB cN C fI : Addr}
theorem scUnp : FnScope ["worth", "bits", "many", "half", "pieces", "size", "mask", "piece", "half_piece"] ["worth", "bits"] (defScope sUnp) := ⟨rfl, rfl, rfl, by decide +kernel, rfl, by decide +kernel, by decide +kernel⟩
theorem ok_unp {f : Addr} {fd : FuncData} (F : Fun K "unpacked" "unpacked" sUnp f fd) (B : TxtR mg) (hPk : Dfn P w K mg base CX0 1 "packed" ["parts", "bits"] spPacked) (hTr : Dfn P w K mg base CX0 1 "shortened" ["parts"] spTrimmed) : FnOk P w K mg base CX0 2 f fd ["worth", "bits"] spUnp := by
  refine F.ok scUnp (fun vs H Q E h => ?_) (fun cdv A outer s H vs Q E hr h => ?_)
  · obtain ⟨W, b, C, rfl, _⟩ := h
    rfl
  · obtain ⟨W, b, C, rfl, b2, b5, W5, Wb, bal, wC, k⟩ := h
    have nd := scUnp.nd
    refine ⟨_, pss_cons (ps_set (i := 2) nd rfl (Or.inl rfl) (pe_op op_add (pe_op op_fdivZ (pe_bits (pv 0)) (pv 1)) pe_int))
      (pss_cons (ps_set (i := 3) nd rfl (Or.inr rfl) (pe_op op_oneShl pe_int (pe_op op_sub (pv 1) pe_int)))
      (pss_cons (ps_set (i := 4) nd rfl (Or.inl rfl) (pe_lst (pa_cons (pe_op op_add (pv 0) (dc hPk hr (by decide) (pa_cons (pe_op op_rep (pe_lst (pa_cons (pv 3) pa_nil)) (pv 2)) (pa_cons (pv 1) pa_nil)))) pa_nil)))
      (pss_cons (ps_set (i := 5) nd rfl (Or.inr rfl) (pv 1))
      (pss_cons (ps_while PassesOwn.never (pt_cmpR op_lt (pv 5) (pe_op op_mulW (pv 1) (pv 2)) (nomark _)) (pss_one (ps_set (i := 5) nd rfl (Or.inr rfl) (pe_op op_mulW (pv 5) pe_int))))
      (pss_cons (ps_while PassesOwn.never (pt_cmpR op_gt (pv 5) (pv 1) (nomark _))
        (pss_cons (ps_set (i := 5) nd rfl (Or.inr rfl) (pe_op op_fdivZ (pv 5) pe_int))
        (pss_cons (ps_set (i := 6) nd rfl (Or.inr rfl) (pe_op op_sub (pe_op op_oneShl pe_int (pv 5)) pe_int))
        (pss_one (ps_setLc2 (i := 4) (own := [("piece", 7), ("half_piece", 8)]) (vs1 := [8]) (g := gName 7) (g1 := gName 8) (tt := tYes) (tt1 := tYes) rfl nd rfl rfl (sw_true rfl rfl rfl (by decide +kernel)) (pi_list (pv 4)) (blkOk_by (N := ["worth", "bits", "many", "half", "pieces", "size", "mask", "piece", "half_piece"]) (sc := defScope sUnp) (by decide +kernel)) (by decide) (fun _ _ _ _ _ => pg_name (i := 7) nd rfl (Or.inl rfl)) (fun _ _ _ _ _ => pts_nil)
          (fun _ _ _ _ _ => pi_tupK K (pe_tup (pa_cons (pe_op op_andM (pv 7) (pv 6)) (pa_cons (pe_op op_shrN (pv 7) (pv 5)) pa_nil)))) (fun _ _ _ _ _ => pg_name (i := 8) nd rfl (Or.inl rfl)) (fun _ _ _ _ _ => pts_nil) (fun _ _ _ _ _ => by exact (pv 8)))))))
      (pss_one (ps_ret (dc hTr hr (by decide) (pa_cons (pe_lc (own := [("piece", 7)]) (g := gName 7) (tt := tYes) rfl nd (pi_list (pe_slice sl_list (pv 4) po_none (po_some (pv 2)))) (blkOk_by (N := ["worth", "bits", "many", "half", "pieces", "size", "mask", "piece", "half_piece"]) (sc := defScope sUnp) (by decide +kernel)) (fun _ _ _ _ _ => pg_name (i := 7) nd rfl (Or.inl rfl)) (fun _ _ _ _ _ => pts_nil) (fun _ _ _ _ _ => by exact (pe_op op_sub (pv 7) (pv 3)))) pa_nil))))))))), ?_⟩
    obtain ⟨e2, h2⟩ := two_half b2
    generalize hn : Builtin.Int.intBits W = n
    have nW : W.natAbs < 2 ^ n := by rw [← hn]; exact PySem.intBits_le_iff.mp (Nat.le_refl _)
    have n5 : n ≤ 5000000 := by rw [← hn]; exact W5
    have nb : n ≤ 90000 * b := by rw [← hn]; exact PySem.intBits_le_iff.mpr Wb
    have dm := Nat.div_add_mod n b
    have ml := Nat.mod_lt n (show 0 < b by omega)
    have m9 : n / b ≤ 90000 := Nat.div_le_of_le_mul (by rw [Nat.mul_comm]; exact nb)
    generalize hm : n / b + 1 = m
    have bm : b * m = b * (n / b) + b := by rw [← hm, Nat.mul_add, Nat.mul_one]
    have nW2 : W.natAbs < 2 ^ (b * m) := Nat.lt_of_lt_of_le nW (Nat.pow_le_pow_right (by decide) (by omega))
    obtain ⟨p0, p1⟩ := wprime b2 nW2
    have bmm : b * (m + 1) = b * m + b := by rw [Nat.mul_add, Nat.mul_one]
    have cdb : ∀ i, CDivZ i (b : Int) := fun i => ⟨by omega, log2_le (n := 9000) (Nat.le_refl _) (by omega) (Nat.lt_of_le_of_lt (show (b : Int).natAbs ≤ 5000000 by omega) (by decide +kernel)) (by decide)⟩
    -- many
    refine seq_to (fun σ' G => σ' = [some (.int W), some (.int (b : Int)), some (.int ((m + 1 : Nat) : Int)), none, none, none, none, none, none] ∧ G = H) (fun kk hK => ?_) ?_
    · refine ⟨_, rfl, W, rfl, _, rfl, _, _, rfl, rfl, cdb _, _, _, rfl, rfl, hK _ _ ⟨?_, rfl⟩⟩
      rw [hn, Int.fdiv_eq_ediv_of_nonneg _ (by omega), ← Int.natCast_ediv]
      show [some (V.int W), some (V.int (b : Int)), some (V.int (((n / b : Nat) : Int) + 2)), none, none, none, none, none, none] = _
      rw [show ((n / b : Nat) : Int) + 2 = ((m + 1 : Nat) : Int) by omega]
    rintro σ' H ⟨rfl, rfl⟩
    -- half
    refine seq_to (fun σ' G => σ' = [some (.int W), some (.int (b : Int)), some (.int ((m + 1 : Nat) : Int)), some (.int (2 ^ (b - 1))), none, none, none, none, none] ∧ G = H) (fun kk hK => ?_) ?_
    · exact ⟨_, rfl, _, _, rfl, rfl, b - 1, rfl, by show V.int ((b : Int) - 1) = _; rw [show (b : Int) - 1 = ((b - 1 : Nat) : Int) by omega], by omega, hK _ _ ⟨rfl, rfl⟩⟩
    rintro σ' H ⟨rfl, rfl⟩
    -- the first piece
    generalize hW : W + wv (2 ^ b) (List.replicate (m + 1) (2 ^ (b - 1))) = W' at p0 p1
    refine seq_to (fun σ' G => ∃ l : Addr, σ' = [some (.int W), some (.int (b : Int)), some (.int ((m + 1 : Nat) : Int)), some (.int (2 ^ (b - 1))), some (.ref l), none, none, none, none] ∧ Same H G ∧ G l = some (.lst (vInts [W']))) (fun kk hK => ?_) ?_
    · refine ⟨_, rfl, _, rfl, by show 1 ≤ sizeLine; decide, fun p np => ?_⟩
      have s1 := Same.new (o := .lst [.int (2 ^ (b - 1))]) (fun _ _ e => e : Same H H) np
      have h1 : upd H p (.lst [.int (2 ^ (b - 1))]) p = some (.lst [V.int (2 ^ (b - 1))]) := upd_same
      generalize upd H p (.lst [.int (2 ^ (b - 1))]) = G1 at s1 h1 ⊢
      refine ⟨_, rfl, p, _, _, rfl, rfl, h1, by omega, by omega, ?_, fun p2 np2 => ?_⟩
      · rw [Int.toNat_natCast, List.length_singleton, Nat.one_mul, sizeLine_eq]
        omega
      have s2 := Same.new (o := .lst (List.replicate ((m + 1 : Nat) : Int).toNat [V.int (2 ^ (b - 1))]).flatten) (fun _ _ e => e : Same G1 G1) np2
      refine ⟨_, rfl, p2, List.replicate (m + 1) (2 ^ (b - 1)), b, b, rfl, ?_, by omega, fun x hx => ?_, by rw [List.length_replicate]; omega, ?_, by omega, fun H3 s3 => ?_⟩
      · rw [upd_same, Int.toNat_natCast]
        congr 2
        unfold vInts
        rw [List.map_replicate]
        generalize m + 1 = j
        induction j with
        | zero => rfl
        | succ j ih =>
          rw [List.replicate_succ, List.flatten_cons, ih]
          rfl
      · rw [List.mem_replicate] at hx
        rw [hx.2, Int.natAbs_pow]
        exact Nat.pow_lt_pow_right (by decide) (by omega)
      · rw [List.length_replicate]
        omega
      · refine ⟨_, _, rfl, rfl, ?_⟩
        refine ⟨by show 1 ≤ sizeLine; decide, fun q nq => hK _ _ ⟨q, rfl, s1.trans (s2.trans (s3.trans (Same.new (fun _ _ e => e) nq))), ?_⟩⟩
        rw [upd_same]
        show some (HO.lst [V.int (W + wv (2 ^ b) (List.replicate (m + 1) (2 ^ (b - 1))))]) = _
        rw [hW]
        rfl
    rintro σ' G0 ⟨l, rfl, s0, hl⟩
    refine seq_to (fun σ' G => σ' = [some (.int W), some (.int (b : Int)), some (.int ((m + 1 : Nat) : Int)), some (.int (2 ^ (b - 1))), some (.ref l), some (.int (b : Int)), none, none, none] ∧ G = G0) (fun kk hK => ⟨_, rfl, hK _ _ ⟨rfl, rfl⟩⟩) ?_
    rintro σ' G0 ⟨rfl, rfl⟩
    -- the size
    refine seq_to (fun σ' G => ∃ t : Nat, σ' = [some (.int W), some (.int (b : Int)), some (.int ((m + 1 : Nat) : Int)), some (.int (2 ^ (b - 1))), some (.ref l), some (.int ((b * 2 ^ t : Nat) : Int)), none, none, none] ∧ G = G0 ∧ b * (m + 1) ≤ b * 2 ^ t ∧ b * 2 ^ t ≤ 2 * (b * (m + 1))) (fun kk hK => ?_) ?_
    · refine while_at (fun z σ' G => ∃ t : Nat, σ' = [some (.int W), some (.int (b : Int)), some (.int ((m + 1 : Nat) : Int)), some (.int (2 ^ (b - 1))), some (.ref l), some (.int ((b * 2 ^ t : Nat) : Int)), none, none, none] ∧ G = G0 ∧ b * 2 ^ t ≤ 2 * (b * (m + 1)) ∧ z = 2 * (b * (m + 1)) - b * 2 ^ t) (2 * (b * (m + 1)) - b * 2 ^ 0)
        ⟨0, by rw [Nat.pow_zero, Nat.mul_one], rfl, by omega, rfl⟩ ?_
      rintro z σ' G ⟨t, rfl, rfl, le, rfl⟩
      have fb : (b : Int).natAbs < 2 ^ 60 := Nat.lt_of_le_of_lt (show (b : Int).natAbs ≤ 5000000 by omega) (by decide)
      have fm : ((m + 1 : Nat) : Int).natAbs < 2 ^ 60 := Nat.lt_of_le_of_lt (show ((m + 1 : Nat) : Int).natAbs ≤ 90002 by omega) (by decide)
      refine ⟨_, rfl, _, rfl, _, rfl, _, _, rfl, rfl, mul_fit fb fm (by decide), _, _, rfl, rfl, _, rfl, ?_⟩
      refine ite2 (fun y => ?_) (fun y => ?_)
      · have lt : b * 2 ^ t < b * (m + 1) := by
          have := of_decide_eq_true y
          rw [← Int.natCast_mul] at this
          exact_mod_cast this
        refine ⟨fun σ' G' => ∃ z', z' < 2 * (b * (m + 1)) - b * 2 ^ t ∧ ∃ t : Nat, σ' = [some (.int W), some (.int (b : Int)), some (.int ((m + 1 : Nat) : Int)), some (.int (2 ^ (b - 1))), some (.ref l), some (.int ((b * 2 ^ t : Nat) : Int)), none, none, none] ∧ G' = G ∧ b * 2 ^ t ≤ 2 * (b * (m + 1)) ∧ z' = 2 * (b * (m + 1)) - b * 2 ^ t, fun _ _ z => z, ?_⟩
        have e : b * 2 ^ (t + 1) = 2 * (b * 2 ^ t) := by rw [Nat.pow_succ, ← Nat.mul_assoc, Nat.mul_comm]
        have pos : 0 < b * 2 ^ t := Nat.mul_pos (by omega) (Nat.two_pow_pos t)
        generalize hs : b * 2 ^ t = s at lt le e pos ⊢
        have fs : (s : Int).natAbs < 2 ^ 60 := Nat.lt_of_le_of_lt (show (s : Int).natAbs ≤ 20000000 by omega) (by decide)
        refine ⟨_, rfl, _, _, rfl, rfl, mul_fit fs (b := 2) (by decide) (by decide), _, ?_, t + 1, ?_, rfl, ?_, rfl⟩
        · rw [e]; omega
        · rw [e, show ((2 * s : Nat) : Int) = (s : Int) * 2 by omega]; rfl
        · rw [e]; omega
      · have ge : b * (m + 1) ≤ b * 2 ^ t := by
          have : ¬ ((b * 2 ^ t : Nat) : Int) < (b : Int) * ((m + 1 : Nat) : Int) := fun z => y (decide_eq_true z)
          rw [← Int.natCast_mul] at this
          exact Nat.le_of_not_lt fun z => this (by exact_mod_cast z)
        exact hK _ _ ⟨t, rfl, rfl, ge, le⟩
    rintro σ' G0 ⟨t0, rfl, rfl, ge, le⟩
    have pw : 2 ^ t0 ≤ 2 * (m + 1) := Nat.le_of_mul_le_mul_left (show b * 2 ^ t0 ≤ b * (2 * (m + 1)) by rw [Nat.mul_left_comm]; exact le) (show 0 < b by omega)
    -- each in two
    refine seq_to (fun σ' G => ∃ (l' : Addr) (D : List Int) (o6 : Option V), σ' = [some (.int W), some (.int (b : Int)), some (.int ((m + 1 : Nat) : Int)), some (.int (2 ^ (b - 1))), some (.ref l'), some (.int (b : Int)), o6, none, none] ∧ Same H G ∧ G l' = some (.lst (vInts D)) ∧ Dig (2 ^ b) D ∧ wv (2 ^ b) D = W' ∧ D.length = 2 ^ t0) (fun kk hK => ?_) ?_
    · refine while_at (fun t σ' G => ∃ (l' : Addr) (D : List Int) (o6 : Option V), σ' = [some (.int W), some (.int (b : Int)), some (.int ((m + 1 : Nat) : Int)), some (.int (2 ^ (b - 1))), some (.ref l'), some (.int ((b * 2 ^ t : Nat) : Int)), o6, none, none] ∧ Same H G ∧ G l' = some (.lst (vInts D)) ∧ Dig (2 ^ (b * 2 ^ t)) D ∧ wv (2 ^ (b * 2 ^ t)) D = W' ∧ D.length * 2 ^ t = 2 ^ t0 ∧ b * 2 ^ t ≤ 2 * (b * (m + 1))) t0
        ⟨l, [W'], none, rfl, s0, hl, fun x hx => ?_, by show W' + _ * 0 = W'; omega, by simp, le⟩ ?_
      · rw [List.mem_singleton.mp hx]
        exact ⟨p0, Int.lt_of_lt_of_le p1 (int_pow_le ge)⟩
      rintro t σ' G ⟨l', D, o6, rfl, sG, hD, dg, wD, lD, le2⟩
      refine ⟨_, rfl, _, rfl, _, _, rfl, rfl, _, rfl, ?_⟩
      cases t with
      | zero =>
        simp only [Nat.pow_zero, Nat.mul_one] at dg wD lD le2 ⊢
        refine ite2 (fun y => ?_) (fun y => ?_)
        · have := of_decide_eq_true y
          omega
        · exact hK _ _ ⟨l', D, o6, rfl, sG, hD, dg, wD, lD⟩
      | succ t =>
        have e : b * 2 ^ (t + 1) = 2 * (b * 2 ^ t) := by rw [Nat.pow_succ, ← Nat.mul_assoc, Nat.mul_comm]
        have bpos : b ≤ b * 2 ^ t := Nat.le_mul_of_pos_right b (Nat.two_pow_pos t)
        rw [e] at dg wD le2 ⊢
        generalize hs : b * 2 ^ t = s at dg wD le2 e bpos ⊢
        refine ite2 (fun y => ?_) (fun y => absurd (decide_eq_true (show ((2 * s : Nat) : Int) > (b : Int) by omega)) y)
        refine ⟨fun σ' G' => ∃ t', t' < t + 1 ∧ ∃ (l' : Addr) (D : List Int) (o6 : Option V), σ' = [some (.int W), some (.int (b : Int)), some (.int ((m + 1 : Nat) : Int)), some (.int (2 ^ (b - 1))), some (.ref l'), some (.int ((b * 2 ^ t' : Nat) : Int)), o6, none, none] ∧ Same H G' ∧ G' l' = some (.lst (vInts D)) ∧ Dig (2 ^ (b * 2 ^ t')) D ∧ wv (2 ^ (b * 2 ^ t')) D = W' ∧ D.length * 2 ^ t' = 2 ^ t0 ∧ b * 2 ^ t' ≤ 2 * (b * (m + 1)), fun _ _ z => z, ?_⟩
        refine seq_to (fun σ' G' => σ' = [some (.int W), some (.int (b : Int)), some (.int ((m + 1 : Nat) : Int)), some (.int (2 ^ (b - 1))), some (.ref l'), some (.int (s : Int)), o6, none, none] ∧ G' = G) (fun kk2 hK2 => ?_) ?_
        · refine ⟨_, rfl, _, _, rfl, rfl, ⟨by decide, by decide +kernel⟩, hK2 _ _ ⟨?_, rfl⟩⟩
          show [some (V.int W), some (V.int (b : Int)), some (V.int ((m + 1 : Nat) : Int)), some (V.int (2 ^ (b - 1))), some (V.ref l'), some (V.int (((2 * s : Nat) : Int).fdiv 2)), o6, none, none] = _
          rw [show ((2 * s : Nat) : Int).fdiv 2 = (s : Int) by rw [Int.fdiv_eq_ediv_of_nonneg _ (by decide)]; omega]
        rintro σ' G ⟨rfl, rfl⟩
        refine seq_to (fun σ' G' => σ' = [some (.int W), some (.int (b : Int)), some (.int ((m + 1 : Nat) : Int)), some (.int (2 ^ (b - 1))), some (.ref l'), some (.int (s : Int)), some (.int (2 ^ s - 1)), none, none] ∧ G' = G) (fun kk2 hK2 => ?_) ?_
        · exact ⟨_, rfl, s, rfl, rfl, by omega, _, _, rfl, rfl, hK2 _ _ ⟨rfl, rfl⟩⟩
        rintro σ' G ⟨rfl, rfl⟩
        have q2 : (2 : Int) ^ (2 * s) = 2 ^ s * 2 ^ s := by rw [← Int.pow_add]; congr 1; omega
        rw [q2] at dg wD
        have fewD : 2 * D.length ≤ sizeLine := by
          have h1 : D.length ≤ D.length * 2 ^ (t + 1) := Nat.le_mul_of_pos_right _ (Nat.two_pow_pos _)
          rw [sizeLine_eq]
          omega
        dsimp only [tAsg]
        refine lc2_pair (K := K) (l := l') (P := D) (f1 := fun x => x % 2 ^ s) (f2 := fun x => x / 2 ^ s) (fun R r => ⟨_, rfl, r⟩) (by decide) (by show 8 < 9; decide) hD fewD (fun x H' R hx r => ?_) (fun L2 H5 n2 s5 h5 => ?_)
        · exact ⟨_, rfl, _, rfl, x, s, rfl, rfl, _, rfl, _, rfl, x, s, rfl, rfl, r⟩
        · rw [← spl_flat] at h5
          refine ⟨t, Nat.lt_succ_self _, L2, spl (2 ^ s) D, _, by rw [hs]; rfl, sG.trans s5, h5, by rw [hs]; exact dig_spl (Int.pow_pos (by decide)) D dg, by rw [hs, wv_spl, wD], ?_, by rw [hs]; omega⟩
          rw [spl_len, ← lD, Nat.pow_succ, Nat.mul_comm 2, Nat.mul_assoc, Nat.mul_comm 2]
    rintro σ' G ⟨l', D, o6, rfl, sG, hD, dg, wD, lD⟩
    have manyD : m + 1 ≤ D.length := by
      rw [lD]
      exact Nat.le_of_mul_le_mul_left ge (by omega)
    have szD : D.length ≤ sizeLine := by
      rw [sizeLine_eq, lD]
      omega
    -- less the half
    have lt : (D.take (m + 1)).length = m + 1 := by rw [List.length_take, Nat.min_eq_left manyD]
    have cutD : cutV (vInts D) none (some ((m + 1 : Nat) : Int)) = vInts (D.take (m + 1)) := by
      rw [cut_to (by rw [vInts_len]; exact manyD)]
      unfold vInts
      rw [List.map_take]
    have hless := dig_less (W := W) e2 h2 dg manyD (by rw [wD, hW]) (by have := (natAbs_pow_lt nW2).1; rwa [Int.pow_mul] at this) (by have := (natAbs_pow_lt nW2).2; rwa [Int.pow_mul] at this)
    have balE : Bal b ((D.take (m + 1)).map fun x => x - 2 ^ (b - 1)) := fun x hx => by
      obtain ⟨y, hy, rfl⟩ := List.mem_map.mp hx
      have := dg y (List.mem_of_mem_take hy)
      show -(2 ^ (b - 1)) ≤ y - 2 ^ (b - 1) ∧ y - 2 ^ (b - 1) < 2 ^ (b - 1)
      omega
    have same := uniq (q := 2 ^ b) (h := 2 ^ (b - 1)) e2 (by omega) _ C balE bal (by rw [hless, wC])
    refine ⟨_, rfl, _, rfl, _, rfl, l', _, rfl, SqL.of hD, fun p np => ?_⟩
    rw [cutD]
    have sp := Same.new (o := .lst (vInts (D.take (m + 1)))) (fun _ _ e => e : Same G G) np
    have hp : upd G p (.lst (vInts (D.take (m + 1)))) p = some (.lst (vInts (D.take (m + 1)))) := upd_same
    generalize upd G p (.lst (vInts (D.take (m + 1)))) = G2 at sp hp ⊢
    generalize D.take (m + 1) = D2 at lt hp same ⊢
    refine ⟨p, rfl, ⟨_, SqL.of hp⟩, fun L2 nL2 => ?_⟩
    refine lc_list (K := K) (a := p) (xs := vInts D2) (fun i H2 => Same G2 H2 ∧ H2 L2 = some (.lst (vInts ((D2.take i).map fun x => x - 2 ^ (b - 1))))) ⟨Same.new (fun _ _ e => e) nL2, upd_same⟩ (fun i H2 _ q => SqL.of (q.1 _ _ hp)) ?_ ?_
    · rintro i x H2 hx ⟨s2, h2'⟩
      have li : i < D2.length := by
        have := (List.getElem?_eq_some_iff.mp hx).1
        rwa [vInts_len] at this
      have hz := List.getElem?_eq_getElem li
      cases itm hx hz
      refine ⟨rfl, ?_⟩
      refine yes_if ?_
      refine ⟨_, rfl, _, rfl, _, _, rfl, rfl, _, h2', ?_, same_grow nL2 s2, ?_⟩
      · rw [vInts_len, List.length_map, List.length_take, sizeLine_eq]
        omega
      · rw [upd_same, take_snoc hz, List.map_append, vInts_app]
        rfl
    · rintro H5 ⟨s5, h5⟩
      rw [vInts_len, List.take_length] at h5
      refine ⟨L2, _, rfl, h5, fun j l2 H6 ct n6 s6 h6 => ?_⟩
      refine k l2 _ H6 (fun i => ?_) (cut_last ct) (same_none (sG.trans (sp.trans s5)) n6) (sG.trans (sp.trans (s5.trans s6))) h6
      rw [cut_getD ct, same]
/-- the last one is not 0 -/
def Topped (L : List Int) : Prop := ∀ x, L.getLast? = some x → x ≠ 0
def spMulD : Sp := fun vs H Q _ => ∃ (a e : Addr) (A D : List Int) (c c' : Nat), vs = [.ref a, .ref e] ∧ H a = some (.lst (vInts A)) ∧ H e = some (.lst (vInts D)) ∧ Topped A ∧ Topped D ∧ (∀ x ∈ A, x.natAbs < 2 ^ c) ∧ (∀ x ∈ D, x.natAbs < 2 ^ c') ∧ A.length ≤ 60 ∧ D.length ≤ 60 ∧ c + c' ≤ 6000 ∧
  ∀ (l2 : Addr) (E : List Int) H', (∀ k, E.getD k 0 = (mulL A D).getD k 0) → Topped E → H l2 = none → Same H H' → H' l2 = some (.lst (vInts E)) → Q (.ref l2) H'
theorem topped_pos {L : List Int} (t : Topped L) (n : L ≠ []) : 1 ≤ nrm L ∧ ∀ g, Upto g L → 1 ≤ g := by
  have e := List.getLast?_eq_some_getLast n
  have z := t _ e
  have m := List.getLast_mem n
  generalize L.getLast n = x at z m
  have h1 := upto_nrm L x m
  refine ⟨by omega, fun g hg => ?_⟩
  have := hg x m
  omega
theorem scMulD : FnScope ["one", "other", "bits"] ["one", "other"] (defScope sMulD) := ⟨rfl, rfl, rfl, by decide +kernel, rfl, by decide +kernel, by decide +kernel⟩
theorem ok_mulD {f : Addr} {fd : FuncData} (F : Fun K "multiplied" "multiplied" sMulD f fd) (hN : Dfn P w K mg base CX0 1 "norm" ["parts"] spNorm) (hG : Dfn P w K mg base CX0 4 "greatest" ["parts"] spGreat) (hPk : Dfn P w K mg base CX0 1 "packed" ["parts", "bits"] spPacked) (hU : Dfn P w K mg base CX0 2 "unpacked" ["worth", "bits"] spUnp) : FnOk P w K mg base CX0 5 f fd ["one", "other"] spMulD := by
  refine F.ok scMulD (fun vs H Q E h => ?_) (fun cdv A outer s H vs Q E hr h => ?_)
  · obtain ⟨a, e, A, D, c, c', rfl, _⟩ := h
    rfl
  · obtain ⟨a, e, A, D, c, c', rfl, hA, hD, tA, tD, bA, bD, lA, lD, cc, k⟩ := h
    have nd := scMulD.nd
    refine ⟨_, pss_cons (ps_if (PW.pt (pw_or (pt_not (pt_truth (pv 0) (by intro _; rfl))) (pw_or1 (pt_not (pt_truth (pv 1) (by intro _; rfl)))))) (pss_one (ps_ret (pe_lst pa_nil))) pss_nil)
      (pss_cons (ps_set (i := 2) nd rfl (Or.inl rfl) (pe_op op_add (pe_bits (pe_op op_mulW (dc hN hr (by decide) (pa_cons (pv 0) pa_nil)) (dc hG hr (by decide) (pa_cons (pv 1) pa_nil)))) pe_int))
      (pss_one (ps_ret (dc hU hr (by decide) (pa_cons (pe_op op_mulW (dc hPk hr (by decide) (pa_cons (pv 0) (pa_cons (pv 2) pa_nil))) (dc hPk hr (by decide) (pa_cons (pv 1) (pa_cons (pv 2) pa_nil)))) (pa_cons (pv 2) pa_nil)))))), ?_⟩
    have none_ : ∀ G, Same H G → (A = [] ∨ D = []) → ∀ q, G q = none → Q (.ref q) (upd G q (.lst [])) := fun G sG ad q nq => by
      refine k q [] _ (fun i => ?_) (fun x h => by cases h) (same_none sG nq) (sG.trans (Same.new (fun _ _ e => e) nq)) upd_same
      rcases ad with rfl | rfl
      · rfl
      · rw [mulL_nil]; rfl
    refine ⟨_, rfl, _, .inl ⟨_, SqL.of hA, rfl⟩, ?_⟩
    by_cases nA : A = []
    · subst nA
      exact ⟨by show 0 ≤ sizeLine; decide, none_ H (fun _ _ e => e) (.inl rfl)⟩
    have eA : (vInts A).isEmpty = false := by cases A with
      | nil => exact absurd rfl nA
      | cons _ _ => rfl
    rw [eA]
    refine ⟨_, rfl, _, .inl ⟨_, SqL.of hD, rfl⟩, ?_⟩
    by_cases nD : D = []
    · subst nD
      exact ⟨by show 0 ≤ sizeLine; decide, none_ H (fun _ _ e => e) (.inr rfl)⟩
    have eD : (vInts D).isEmpty = false := by cases D with
      | nil => exact absurd rfl nD
      | cons _ _ => rfl
    rw [eD]
    obtain ⟨n1, _⟩ := topped_pos tA nA
    obtain ⟨_, g1⟩ := topped_pos tD nD
    have nS : (nrm A).natAbs < 2 ^ (c + 6) := Nat.lt_of_le_of_lt (nrm_small A bA) (by
      rw [Nat.pow_add, Nat.mul_comm]
      exact Nat.mul_lt_mul_of_pos_left (Nat.lt_of_le_of_lt lA (by decide)) (Nat.two_pow_pos c))
    refine ⟨_, rfl, a, A, rfl, hA, Nat.le_trans lA (by decide), fun H1 s1 => ?_⟩
    refine ⟨_, rfl, e, D, rfl, s1 _ _ hD, Nat.le_trans lD (by decide), fun g H2 wg ug s2 => ?_⟩
    have g1 := g1 g ug
    have gS : g.natAbs < 2 ^ c' := by
      rcases wg with ⟨z, _⟩ | ⟨x, hx, rfl⟩
      · exact absurd z nD
      · have := bD x hx
        unfold absI
        split <;> omega
    have pG : 1 ≤ nrm A * g := by
      have := Int.mul_le_mul_of_nonneg_left (c := nrm A) g1 (by omega)
      rw [Int.mul_one] at this
      omega
    have bG : (nrm A * g).natAbs < 2 ^ (c + 6 + c') := by
      rw [Int.natAbs_mul, Nat.pow_add]
      exact Nat.mul_lt_mul'' nS gS
    have gt : ∀ G : Int, 1 ≤ G → G.natAbs < 2 ^ (c + 6 + c') → 1 ≤ Builtin.Int.intBits G ∧ Builtin.Int.intBits G ≤ 6006 ∧ G.natAbs < 2 ^ Builtin.Int.intBits G := fun G h1 h2 => by
      refine ⟨?_, Nat.le_trans (PySem.intBits_le_iff.mpr h2) (by omega), PySem.intBits_le_iff.mp (Nat.le_refl _)⟩
      refine Nat.pos_of_ne_zero fun z => ?_
      have := PySem.intBits_le_iff.mp (Nat.le_of_eq z)
      omega
    obtain ⟨i1, i2, i3⟩ := gt _ pG bG
    have up := upto_mul (G := g) (B := D) (by omega) ug A
    have uA : ∀ x ∈ A, x.natAbs < 2 ^ Builtin.Int.intBits (nrm A * g) := fun x hx => by
      have h1 := upto_nrm A x hx
      have h2 := Int.mul_le_mul_of_nonneg_left (c := nrm A) g1 (by omega)
      rw [Int.mul_one] at h2
      omega
    have uD : ∀ x ∈ D, x.natAbs < 2 ^ Builtin.Int.intBits (nrm A * g) := fun x hx => by
      have h1 := ug x hx
      have h2 := Int.mul_le_mul_of_nonneg_right (c := g) n1 (by omega)
      rw [Int.one_mul] at h2
      omega
    refine ⟨_, _, rfl, rfl, mul_fit nS gS (by omega), _, rfl, _, _, rfl, rfl, ?_⟩
    generalize nrm A * g = G at pG up i1 i2 i3 uA uD ⊢
    generalize Builtin.Int.intBits G = j at i1 i2 i3 uA uD ⊢
    have wA := wv_small (b := j + 1) (c := j) (by omega) A uA
    have wD := wv_small (b := j + 1) (c := j) (by omega) D uD
    have pos : 0 < 2 ^ j := Nat.two_pow_pos j
    have jA : (j + 1) * A.length ≤ 6007 * 60 := Nat.mul_le_mul (by omega) lA
    have jD : (j + 1) * D.length ≤ 6007 * 60 := Nat.mul_le_mul (by omega) lD
    refine ⟨_, rfl, _, rfl, a, A, j + 1, j, rfl, s2 _ _ (s1 _ _ hA), by omega, uA, Nat.le_trans lA (by decide), by omega, by omega, fun H3 s3 => ?_⟩
    refine ⟨_, rfl, _, rfl, e, D, j + 1, j, rfl, s3 _ _ (s2 _ _ (s1 _ _ hD)), by omega, uD, Nat.le_trans lD (by decide), by omega, by omega, fun H4 s4 => ?_⟩
    have mA : (wv (2 ^ (j + 1)) A).natAbs < 2 ^ (j + (j + 1) * A.length) := by omega
    have mD : (wv (2 ^ (j + 1)) D).natAbs < 2 ^ (j + (j + 1) * D.length) := by omega
    have mW : (wv (2 ^ (j + 1)) A * wv (2 ^ (j + 1)) D).natAbs < 2 ^ (j + (j + 1) * A.length + (j + (j + 1) * D.length)) := by
      rw [Int.natAbs_mul, Nat.pow_add]
      exact Nat.mul_lt_mul'' mA mD
    refine ⟨_, _, rfl, rfl, mul_fit mA mD (by omega), _, rfl, _, j + 1, mulL A D, rfl, by omega, by omega, Nat.le_trans (PySem.intBits_le_iff.mpr mW) (by omega), ?_, fun x hx => ?_, wv_mul A D, fun l2 E H5 hE tE n5 s5 h5 => ?_⟩
    · refine Nat.lt_of_lt_of_le mW (Nat.pow_le_pow_right (by decide) ?_)
      have h1 : (j + 1) * A.length ≤ (j + 1) * 60 := Nat.mul_le_mul_left _ lA
      have h2 : (j + 1) * D.length ≤ (j + 1) * 60 := Nat.mul_le_mul_left _ lD
      omega
    · have := up x hx
      have e : ((2 ^ j : Nat) : Int) = 2 ^ j := by
        rw [Int.natCast_pow]
        rfl
      show -(2 ^ j) ≤ x ∧ x < 2 ^ j
      rw [← e]
      omega
    · exact k l2 E H5 hE tE (same_none (s1.trans (s2.trans (s3.trans s4))) n5) (s1.trans (s2.trans (s3.trans (s4.trans s5)))) h5
end
end K03
end
section
set_option maxHeartbeats 4000000
namespace PySem
namespace OwnB
open PySem.W PySem.Calls PyProof.Rows
section
variable {prog : Program} {w : World} {A : Around} {E : Value → Shared → Prop} {s : Shared} {K : Frag} {x y C D f g : Addr} {ox oy : Obj} {od oe : Option Obj} {op : Operator} {Q : Value → Shared → Prop}
end
end OwnB
end PySem
namespace L2
open PySem PySem.Spec PyProof.Rows
/-! ### a def that answers NotImplemented -/
section
variable {X : Cx} {st : Stmt} {rest : List Stmt} {t : TS} {u : TN} {c : Expr} {tc : TT} {p p2 p3 : Pos}
end
section
variable {X : Cx} {CX : CXT} {k j : Nat} {f g C D rc rd : Addr} {fd gd : FuncData} {ps qs : List Str} {sp : Sp} {sn : SpN} {E : XK} {op : Operator} {pins : List (Addr × Obj)} {σ : St} {H : Hp} {s : Shared}
end
section
variable {P : Program} {w : World} {K : PySem.W.Frag} {mg : Str → Option Value} {base : Heap}
end
end L2
end
section
set_option maxHeartbeats 4000000
namespace PySem
namespace GetA
open PySem.W PyProof.Rows PySem.Calls
section
variable {prog : Program} {w : World} {A : Around} {E : Value → Shared → Prop} {s : Shared}
/-- getattr(x, "mark", d) of an object of an own class where the look-up finds nothing -/
theorem getattr3_no {a : Addr} {v : Value} {u : Tok} {Q : Value → Shared → Prop} (hm : Looks (model prog w) s.heap (isInstance (.ref a) (.type "module")) false)
   (h : wpAny (model prog w) A.in1 (getAttrBy? (.ref a) (.str ("mark" : Str) u)) (fun r s' => r = none ∧ Q v s') E s) : wpAny (model prog w) A (call (.builtin "getattr") [.ref a, .str ("mark" : Str) u, v]) Q E s := by
  refine Calls.call_function_entry KB.kind_getattr KB.plain_getattr KB.entry_getattr (args3 _ _ _) ?_
  unfold Builtin.«getattr»
  refine wpAny_bind (wpAny_of_eq (a := [.ref a, .str ("mark" : Str) u, v]) (by first | rfl | kernel_rfl) ?_)
  dsimp only
  refine wpAny_bind (wpAny_of_eq (a := ()) (by first | rfl | kernel_rfl) ?_)
  refine wpAny_bind (wpAny_of_eq (a := none) (by first | rfl | kernel_rfl) ?_)
  dsimp only
  have z : wpAny (model prog w) A.in1 (isInstance (.ref a) (.type "module")) (fun r s' => r = false ∧ s' = s) E s := hm _ _ _ s (fun _ _ e => e) ⟨rfl, rfl⟩
  refine wpAny_bind (wpAny_mono (Q := fun r s' => r = 0 ∧ s' = s) ?_ (fun r s' hq => ?_) fun _ _ e => e)
  · refine wpAny_bind (wpAny_of_eq (a := some ("mark" : Str)) (by first | rfl | kernel_rfl) ?_)
    refine wpAny_bind (wpAny_mono z (fun r s' hq => ?_) fun _ _ e => e)
    obtain ⟨rfl, rfl⟩ := hq
    exact wpAny_pure ⟨rfl, rfl⟩
  · obtain ⟨rfl, rfl⟩ := hq
    rw [if_neg (by decide)]
    refine wpAny_bind (wpAny_mono h (fun r s' hq => ?_) fun _ _ e => e)
    obtain ⟨rfl, q⟩ := hq
    exact wpAny_pure ⟨_, rfl, q⟩
theorem looks_cut {K : Frag} {x C : Addr} {ox : Obj} {od : Option Obj} {cd : ClassData} {n : Nat} (X : K.In s.heap) (I : InstAt s.heap x ox C od) (hc : clsIn K C = some cd) (hn : cd.name.cps.foldl (fun k c => k + (Str.utf8Of c).length) 0 ≤ n) {Q : String → Shared → Prop} (q : Q cd.name.toString s) :
    wpAny (model prog w) A (typeNameOfCut n (.ref x)) Q E s := by
  obtain ⟨hh', g, d, t, os⟩ := s
  have L0 := I.type (M := model prog w)
  have L1 := looks_clsIn (M := model prog w) X hc
  unfold typeNameOfCut shownTypeOf
  refine wpAny_bind (wpAny_bind (L0.at ?_))
  rw [if_neg (by intro z; cases beq_iff_eq.mp z)]
  refine wpAny_bind (wpAny_pure ?_)
  refine wpAny_pure ?_
  unfold typeNameCut
  refine wpAny_bind (L1.at ?_)
  dsimp only
  rw [if_pos hn]
  exact wpAny_pure q
theorem get_missQ {K : Frag} {x C : Addr} {ox : Obj} {od : Option Obj} {cd : ClassData} {name : Str} {tk : Tok} {Q : Option Value → Shared → Prop} (X : K.In s.heap) (I : InstAt s.heap x ox C od) (hga : findIn K (.ref C) "__getattribute__" = some (some (.builtin "object.__getattribute__")))
    (hf : findObj K C od name = some .missing) (hgt : findIn K (.ref C) "__getattr__" = some none) (hc : clsIn K C = some cd) (hn : cd.name.cps.foldl (fun k c => k + (Str.utf8Of c).length) 0 ≤ 100) (hl : cd.name.toString.length ≤ 50) (hsz : name.length + 200 ≤ sizeLine) (hA : A.in1.handled = none)
    (h : ∀ h' tk', (∀ b ob, s.heap.get? b = some ob → h'.get? b = some ob) → Q none { s with heap := h', toks := tk' }) : wpAny (model prog w) A (getAttrBy? (.ref x) (.str name tk)) Q E s := by
  obtain ⟨hh', g, d, t, os⟩ := s
  have L0 := I.type (M := model prog w)
  have L1 := looks_findIn (M := model prog w) X hga
  have L2 := looks_find (M := model prog w) X I hf
  have L3 := looks_findIn (M := model prog w) X hgt
  unfold getAttrBy? getAttrBy
  refine wpAny_bind (wpAny_attempt (wpAny_holding (wpAny_bind (L0.at (wpAny_bind (L1.at ?_))))))
  show wpAny _ _ (getAttrEveryday _ _ _) _ _ _
  refine wpAny_bind (wpAny_onRaise (wpAny_runValue (codeAny_builtin F.plainObj_entry_getattr_hooked (wpAny_mono (Q := fun fin s' => False) (E := fun e s' => ∃ (a : Addr) (h' : Heap) (tk' : Tok), e = .ref a ∧ s' = ⟨h', g, d, tk', os⟩ ∧ Heap.NewAttrErr hh' h' a (.ref x) name) ?_ (fun fin s' z => z.elim) (fun e s' z => ?_)))))
  · refine wpAny_bind (wpAny_pure (wpAny_bind (L0.at (wpAny_bind (L2.at (wpAny_bind (L3.at ?_)))))))
    show wpAny _ _ (Builtin.ObjectAttr.noSuchAttribute _ _) _ _ _
    unfold Builtin.ObjectAttr.noSuchAttribute
    refine wpAny_bind (looks_cut X I hc hn ?_)
    refine wpAny_raiseAttrError hA (fun h' tk' e he => ⟨e, h', tk', rfl, rfl, he⟩) ?_
    refine attrMsg_fits ?_ (by omega)
    rw [String.length_append, String.length_append]
    have e1 : (toString "'" : String).length = 1 := by decide
    have e2 : (toString "' object has no attribute '" : String).length = 27 := by decide
    have e3 : (toString cd.name.toString : String).length ≤ 50 := hl
    omega
  · obtain ⟨a, h', tk', rfl, rfl, he⟩ := z
    refine wpAny_pure ?_
    have f1 := sub_AttributeError
    obtain ⟨t', u', hx⟩ := he.there
    have hT : ∀ tk'', (⟨h', g, d, tk'', os⟩ : Shared).TypeIs (.ref a) "AttributeError" := fun _ => ⟨_, hx, rfl⟩
    dsimp only
    repeat (any_goals (first | assumption | exact hT _ | wp_step))
    exact h _ _ he.keeps
end
end GetA
end PySem
namespace L2
open PySem PySem.Spec PyProof.Rows
theorem nmB_ok {K : PySem.W.Frag} {C : Addr} (h : nmB K C = true) : ∃ cd, PySem.W.clsIn K C = some cd ∧ cd.name.cps.foldl (fun k c => k + (Str.utf8Of c).length) 0 ≤ 100 ∧ cd.name.toString.length ≤ 50 := by
  unfold nmB at h
  split at h
  · rename_i cd e
    obtain ⟨h1, h2⟩ := Bool.and_eq_true_iff.mp h
    exact ⟨cd, e, of_decide_eq_true h1, of_decide_eq_true h2⟩
  · cases h
theorem findObj_no {K : PySem.W.Frag} {C : Addr} {od : Obj} {name : Str} (hh : PySem.W.hasDictIn K C = true) (ha : PySem.W.findIn K (.ref C) name = some none) (hcp : PySem.W.copiedNames.contains name = false) (hl : PySem.W.lookIn name od = some none) : PySem.W.findObj K C (some od) name = some .missing := by
  obtain ⟨cd, hc, hd⟩ := PySem.W.any_some hh
  unfold PySem.W.findObj
  rw [hc, Option.bind_some, ha, Option.bind_some]
  have ho : PySem.W.ownOf cd (some od) name = some none := by unfold PySem.W.ownOf; rw [if_pos hd]; exact hl
  rw [ho, hcp]
  rfl
/-- getattr(x, "mark", v), x an own instance that has none -/
def rGetN (K : PySem.W.Frag) : List V → Hp → VK → Prop := fun vs H Q => ∃ (a C dx : Addr) (fs : List (Str × V)) (v : V), vs = [.ref a, .str "mark", v] ∧ H a = some (.ins C dx fs) ∧ Cls K C ∧ NoAttr K C "mark" ∧ Top1 K C ∧ nmB K C = true ∧ fs.lookup ("mark" : Str) = none ∧ Q v H
theorem call_getN {X : Cx} (hc : X.calm = true) : CallR X (.builtin "getattr") (rGetN X.K) := by
  intro pins s σ H xs us Q I r h
  obtain ⟨a, C, dx, fs, v, rfl, e, c, n, t1, nm, l, q⟩ := h
  match us, r with
  | [u1, u2, u3], .cons r1 (.cons r2 (.cons r3 .nil)) =>
  obtain ⟨tk, rfl⟩ := (show ∃ t, u2 = Value.str "mark" t from r2)
  cases (show u1 = Value.ref a from r1)
  obtain ⟨mA, O, r, _, _, _⟩ := ins_get I.hok e
  have hm : mA ("mark" : Str) = none := by
    have := r "mark"
    rw [l] at this
    exact this.none_of
  obtain ⟨od, J, hl⟩ := O.look
  obtain ⟨cd, hcd, h1, h2⟩ := nmB_ok nm
  have pg := PySem.W.plainGet_of (c.get "mark")
  refine PySem.GetA.getattr3_no (J.type.andThen (PySem.W.looks_subIn I.kIn (t1.no (by decide)))) ?_
  exact PySem.GetA.get_missQ I.kIn J pg.1 (findObj_no c.hd n (by decide +kernel) (by rw [hl, hm])) pg.2 hcd h1 h2 (by rw [sizeLine_eq]; decide +kernel) (I.ok.hd hc) fun h' tk' k => ⟨rfl, v, H, I.kept k, r3, q⟩
end L2
end
section
set_option maxHeartbeats 8000000
set_option exponentiation.threshold 100000
namespace L2
open PySem PySem.Spec PyProof.Rows
/-- two promises of one def -/
theorem FnOk.or {P : Program} {w : World} {K : PySem.W.Frag} {mg : Str → Option Value} {base : Heap} {CX : CXT} {k : Nat} {f : Addr} {fd : FuncData} {ps : List Str} {sp sq : Sp} (F : FnOk P w K mg base CX k f fd ps sp) (G : FnOk P w K mg base CX k f fd ps sq) :
    FnOk P w K mg base CX k f fd ps (fun vs H Q E => sp vs H Q E ∨ sq vs H Q E) :=
  ⟨fun vs H Q E h => h.elim (F.len vs H Q E) (G.len vs H Q E), fun A outer s H args us vs Q E hr he hb hv h => h.elim (F.run A outer s H args us vs Q E hr he hb hv) (G.run A outer s H args us vs Q E hr he hb hv)⟩
end L2
namespace K03
open PySem PySem.Spec PyProof.Rows L2 LamX NdefX L3 PolyM Kron RZ
def spLooksR (C : Addr) : Sp := fun vs H Q _ => ∃ (a dx : Addr) (z : Str) (q : Int × Int), vs = [.ref a, .str z] ∧ H a = some (rat C dx q) ∧ Q (.bl false) H
section
variable {P : Program} {w : World} {K : PySem.W.Frag} {mg : Str → Option Value} {base : Heap} {cB cN C fI CP CM fP fM : Addr}
theorem ok_looksR {f : Addr} {fd : FuncData} (F : Fun K "looks_after" "looks_after" sLooks f fd) (M : MarkC K mg CM) (B : TxtR mg) (R : RatC K mg C fI) (nM : NoAttr K C "mark") (nm : nmB K C = true) : FnOk P w K mg base CX0 1 f fd ["value", "below"] (spLooksR C) := by
  refine F.ok scLooks (fun vs H Q E h => ?_) (fun cdv A outer s H vs Q E hr h => ?_)
  · obtain ⟨v, dx, z, q, rfl, _⟩ := h
    rfl
  · obtain ⟨a, dx, z, p, rfl, ha, q⟩ := h
    have n2 := scLooks.nd
    refine ⟨_, pss_cons (ps_set (i := 2) n2 rfl (Or.inl rfl) (pe_callB (call_getN rfl) (by rfl) M.ga (by decide +kernel) (pa_cons (pv 0) (pa_cons pe_str (pa_cons pe_non pa_nil)))))
      (pss_one (ps_ret (pe_and (pe_callB call_isi (by rfl) B.isi (by decide +kernel) (pa_cons (pv 2) (pa_cons (pe_glob (v := .ref CM) (by rfl) M.g rfl) pa_nil)))
        (pe_one (pe_cmpR op_in_seq (pv 1) (pe_fld (pv 2) rfl) (by rfl)))))), ?_⟩
    refine ⟨_, rfl, a, C, dx, _, .non, rfl, ha, R.c, nM, R.t1, nm, rfl, ?_⟩
    exact ⟨_, rfl, _, .ref CM, .type "NoneType", .ref CM, false, rfl, .own CM, .base .non, M.kit (by decide +kernel), false, rfl, q⟩
/-- looks_after of what stands right of a poly -/
def spLooksA (K : PySem.W.Frag) (C CP CM : Addr) : Sp := fun vs H Q E => spLooks K vs H Q E ∨ (spLooksP C CP CM vs H Q E ∨ spLooksR C vs H Q E)
/-- what stands for a poly -/
inductive ToPoly (K : PySem.W.Frag) (C CP CM cB : Addr) (H : Hp) (E : XK) (v : V) (ok : List (Int × Int) → Prop) : Prop where
  | poly (a : Addr) (ps : List (Int × Int)) (hv : v = .ref a) (h : PolyAt C CP CM H a ps) (k : ok ps) : ToPoly K C CP CM cB H E v ok
  | one (q : Int × Int) (h : Sh C H v q) (k : ∀ m, TrimAt [q] m → ok ([q].take m)) : ToPoly K C CP CM cB H E v ok
  | odd (o : Odd K H v) (k : Bad cB v H E) : ToPoly K C CP CM cB H E v ok
def spAsPG (K : PySem.W.Frag) (C CP CM cB : Addr) : Sp := fun vs H Q E => ∃ v, vs = [v] ∧ ((∃ a ps, v = .ref a ∧ PolyAt C CP CM H a ps ∧ Q v H) ∨ (∃ q, Sh C H v q ∧ ∀ m, TrimAt [q] m → NewPoly C CP CM H Q ([q].take m)) ∨ (Odd K H v ∧ Bad cB v H E))
theorem ToPoly.as {H : Hp} {E : XK} {v : V} {ok : List (Int × Int) → Prop} {Q : VK} (t : ToPoly K C CP CM cB H E v ok) (c : ∀ (b : Addr) (qs : List (Int × Int)) (H1 : Hp), Same H H1 → PolyAt C CP CM H1 b qs → ok qs → Q (.ref b) H1) : spAsPG K C CP CM cB [v] H Q E := by
  refine ⟨v, rfl, ?_⟩
  cases t with
  | poly a ps hv h k => exact .inl ⟨a, ps, hv, h, by rw [hv]; exact c a ps H (fun _ _ e => e) h k⟩
  | one q h k => exact .inr (.inl ⟨q, h, fun m tr a H' na s p => c a _ H' s p (k m tr)⟩)
  | odd o k => exact .inr (.inr ⟨o, k⟩)
/-- what is asked about it ahead of that -/
theorem ToPoly.looks {H : Hp} {E E' : XK} {v : V} {ok : List (Int × Int) → Prop} {Q : VK} (t : ToPoly K C CP CM cB H E v ok) (q : Q (.bl false) H) : spLooksA K C CP CM [v, .str "Poly"] H Q E' := by
  cases t with
  | poly a ps hv h k => exact .inr (.inl ⟨a, "Poly", ps, by rw [hv], h, by rw [in_poly]; exact q⟩)
  | one p h k =>
    rcases h with ⟨hv, _⟩ | ⟨a, dx, hv, h⟩
    · exact .inl ⟨v, "Poly", "int", rfl, by decide +kernel, by rw [hv]; exact .base (.int _), (by rw [hv]; exact fun _ z => nomatch z), q⟩
    · exact .inr (.inr ⟨a, dx, "Poly", p, by rw [hv], h, q⟩)
  | odd o k =>
    obtain ⟨T, h1, h2, h3, h4⟩ := o
    exact .inl ⟨v, "Poly", T, rfl, h1, h3, h4, q⟩
theorem scAsP2 : FnScope ["value"] ["value"] (defScope sAsP) := ⟨rfl, rfl, rfl, by decide +kernel, rfl, by decide +kernel, by decide +kernel⟩
theorem ok_asPG {f : Addr} {fd : FuncData} (F : Fun K "as_poly" "as_poly" sAsP f fd) (R : Rat P w K mg base cB cN C fI) (L : Pol P w K mg base cB C CP CM fP fM) (ne : C ≠ CP) (tyx : ∀ (H : Hp) (a dx : Addr) (fs : List (Str × V)), H a = some (.ins CP dx fs) → TyX K H (.ref a) (.ref CP)) (hA : Dfn P w K mg base (L2.CX P w) 6 "as_ratio" ["value"] (spAs K C cB)) : FnOk P w K mg base (L2.CX P w) 10 f fd ["value"] (spAsPG K C CP CM cB) := by
  refine F.okX scAsP2 (fun vs H Q E h => ?_) (fun cdv A outer s H vs Q E hr h => ?_)
  · obtain ⟨v, rfl, _⟩ := h
    rfl
  · obtain ⟨v, rfl, k⟩ := h
    refine ⟨_, pss_cons (ps_if (pt_val (pe_callB call_isi (by rfl) R.txt.isi (by decide +kernel) (pa_cons (pv 0) (pa_cons (pe_glob (v := .ref CP) (by rfl) L.cls.g rfl) pa_nil)))) (pss_one (ps_ret (pv 0))) pss_nil)
      (pss_one (ps_ret (pe_pol (E := E) L hr (passK (takes_of rfl rfl rfl rfl)) (pe_lst (pa_cons (dcE hA hr (by decide) (passK (takes_of rfl rfl rfl rfl)) (pa_cons (pv 0) pa_nil)) pa_nil))))), ?_⟩
    rcases k with ⟨a, ps, rfl, ⟨dx, t, xs, mk, dm, tb, h1, _⟩, q⟩ | ⟨q, h, k⟩ | ⟨⟨T, h1, h2, h3, h4⟩, k⟩
    · exact ⟨_, rfl, _, .ref CP, .ref CP, .ref CP, true, rfl, .own CP, tyx H a dx _ h1, kit_me, true, rfl, _, rfl, q⟩
    · have tail : ∀ (b dy : Addr) (H1 : Hp), Same H H1 → H1 b = some (rat C dy q) → ∀ p, H1 p = none → PolOf K C CP CM cB (upd H1 p (.lst [V.ref b])) E (.ref p) Q := fun b dy H1 s1 hb p np => by
        have sp := Same.new (o := .lst [V.ref b]) (fun _ _ e => e : Same H1 H1) np
        exact .inr ⟨[q], ⟨[.ref b], ⟨p, rfl, .inl (SqL.of upd_same)⟩, by show 1 ≤ sizeLine; decide, .cons (.inr ⟨b, dy, rfl, sp _ _ hb⟩) .nil⟩, by show 1 ≤ 100000; decide, fun m tr => (k m tr).grow (s1.trans sp)⟩
      rcases h with ⟨rfl, one⟩ | ⟨a, dx, rfl, h⟩
      · refine ⟨_, rfl, _, .ref CP, .type "int", .ref CP, false, rfl, .own CP, .base (.int _), cls_kitT L.cls.t1 L.cls.ty (by decide +kernel), false, rfl, ?_⟩
        refine ⟨_, rfl, _, rfl, .int q.1 rfl fun a dx H1 na s1 ea => ?_⟩
        exact ⟨by show 1 ≤ sizeLine; decide, tail a dx H1 s1 (by rw [ea, ← one])⟩
      · refine ⟨_, rfl, _, .ref CP, .ref C, .ref CP, false, rfl, .own CP, R.tyx H a dx _ h, cls_kitC L.cls.t1 L.cls.ty R.cls.t1 ne, false, rfl, ?_⟩
        exact ⟨_, rfl, _, rfl, .rat a dx q rfl h ⟨by show 1 ≤ sizeLine; decide, tail a dx H (fun _ _ e => e) h⟩⟩
    · refine ⟨_, rfl, _, .ref CP, .type T, .ref CP, false, rfl, .own CP, h3, cls_kitT L.cls.t1 L.cls.ty (kinds_blt h1), false, rfl, ?_⟩
      exact ⟨_, rfl, _, rfl, .odd ⟨T, h1, h2, h3, h4⟩ k⟩
end
end K03
end
section
set_option maxHeartbeats 8000000
set_option exponentiation.threshold 100000
namespace K03
open PySem PySem.Spec PyProof.Rows L2 LamX NdefX L3 PolyM Kron RZ
abbrev sMulP : Stmt := inClass (top 37) 6
/-- a poly and what stands for one: f of both, cut -/
def spOpP (K : PySem.W.Frag) (C CP CM cB : Addr) (lf : List (Int × Int) → Prop) (pre : List (Int × Int) → List (Int × Int) → Prop) (f : List (Int × Int) → List (Int × Int) → List (Int × Int) → Prop) : Sp := fun vs H Q E => ∃ (a : Addr) (v : V) (ps : List (Int × Int)), vs = [.ref a, v] ∧ PolyAt C CP CM H a ps ∧ lf ps ∧
  ToPoly K C CP CM cB H E v fun qs => pre ps qs ∧ ∀ rs, f ps qs rs → NewPoly C CP CM H Q rs
theorem PolyAt.ins {C CP CM : Addr} {H : Hp} {b : Addr} {qs : List (Int × Int)} (h : PolyAt C CP CM H b qs) : ∃ (dx : Addr) (fs : List (Str × V)), H b = some (.ins CP dx fs) := by
  obtain ⟨dx, t, xs, mk, dm, tb, h1, _⟩ := h
  exact ⟨_, _, h1⟩
theorem NewPoly.same {C CP CM : Addr} {H H' : Hp} {Q : VK} {rs : List (Int × Int)} (h : NewPoly C CP CM H Q rs) (s : Same H H') : NewPoly C CP CM H' Q rs := h.grow s
section
variable {P : Program} {w : World} {K : PySem.W.Frag} {mg : Str → Option Value} {base : Heap} {cB cN C fI CP CM fP fM : Addr}
end
end K03
end
section
set_option maxHeartbeats 8000000
set_option exponentiation.threshold 100000
namespace PolyM
theorem sm_head {f : Nat → Rat} : ∀ n : Nat, sm f (n + 1) = f 0 + sm (fun i => f (i + 1)) n
  | 0 => by show 0 + f 0 = f 0 + 0; grind
  | n + 1 => by
    show sm f (n + 1) + f (n + 1) = f 0 + (sm (fun i => f (i + 1)) n + f (n + 1))
    rw [sm_head n]
    grind
theorem conv_cons {x : Rat} {a b : Nat → Rat} (k : Nat) : conv (fun i => match i with | 0 => x | i + 1 => a i) b k = x * b k + (match k with | 0 => 0 | k + 1 => conv a b k) := by
  unfold conv
  rw [sm_head]
  cases k with
  | zero => show x * b 0 + 0 = x * b 0 + 0; rfl
  | succ k =>
    show x * b (k + 1 - 0) + _ = x * b (k + 1) + _
    congr 1
    exact sm_congr fun i hi => by
      show a i * b (k + 1 - (i + 1)) = a i * b (k - i)
      rw [show k + 1 - (i + 1) = k - i by omega]
end PolyM
namespace K03
open PySem PySem.Spec PyProof.Rows L2 LamX NdefX L3 PolyM Kron RZ
theorem ci_mulL : ∀ (A D : List Int) (k : Nat), ci (mulL A D) k = conv (ci A) (ci D) k
  | [], D, k => by
    exact ((conv_congr (a' := fun _ => 0) (b' := ci D) (fun i => by show ((([] : List Int).getD i 0 : Int) : _root_.Rat) = 0; simp) (fun _ => rfl) k).trans (conv_none _ _)).symm
  | x :: A, D, k => by
    have e : conv (ci (x :: A)) (ci D) k = conv (fun i => match i with | 0 => (x : _root_.Rat) | i + 1 => ci A i) (ci D) k := conv_congr (fun i => by cases i <;> rfl) (fun _ => rfl) k
    rw [e, conv_cons]
    show (((addL (D.map (x * ·)) (0 :: mulL A D)).getD k 0 : Int) : _root_.Rat) = _
    rw [addL_at, Rat.intCast_add]
    congr 1
    · show _ = (x : _root_.Rat) * ((D.getD k 0 : Int) : _root_.Rat)
      rw [← Rat.intCast_mul]
      congr 1
      rw [List.getD_eq_getElem?_getD, List.getD_eq_getElem?_getD, List.getElem?_map]
      cases D[k]? with
      | none => simp
      | some y => rfl
    · cases k with
      | zero => rfl
      | succ k => exact ci_mulL A D k
theorem addL_len : ∀ A B : List Int, (addL A B).length ≤ A.length + B.length
  | [], B => by show B.length ≤ 0 + B.length; omega
  | x :: A, [] => by show (x :: A).length ≤ (x :: A).length + 0; omega
  | x :: A, y :: B => by
    have := addL_len A B
    show (addL A B).length + 1 ≤ A.length + 1 + (B.length + 1)
    omega
theorem mulL_len : ∀ A D : List Int, (mulL A D).length ≤ A.length * (D.length + 1)
  | [], D => by show 0 ≤ _; omega
  | x :: A, D => by
    have h1 := addL_len (D.map (x * ·)) (0 :: mulL A D)
    have h2 := mulL_len A D
    rw [List.length_map, List.length_cons] at h1
    show (addL (D.map (x * ·)) (0 :: mulL A D)).length ≤ (A.length + 1) * (D.length + 1)
    rw [Nat.add_mul, Nat.one_mul]
    omega
theorem topped_len {E L : List Int} (t : Topped E) (h : ∀ k, E.getD k 0 = L.getD k 0) : E.length ≤ L.length := by
  by_cases n : E = []
  · subst n; exact Nat.zero_le _
  · have pos := List.length_pos_iff.mpr n
    have e := List.getLast?_eq_some_getLast n
    have z := t _ e
    have hk := h (E.length - 1)
    rw [List.getD_eq_getElem?_getD, ← List.getLast?_eq_getElem?, e] at hk
    refine Nat.le_of_not_lt fun lt => z ?_
    rw [List.getD_eq_getElem?_getD, List.getElem?_eq_none (by omega)] at hk
    exact hk
/-- parts that are multiplied -/
structure LeftOk (ps : List (Int × Int)) : Prop where
  pp : IsP ps
  lp : ps.length ≤ 60
  ex : ∃ M R c : Nat, Bds M R ps ∧ (R + 1) * M < 2 ^ c ∧ c ≤ 3000
def BothOk (ps qs : List (Int × Int)) : Prop := LeftOk qs
def mulF (ps qs rs : List (Int × Int)) : Prop := IsP rs ∧ ∀ k, cf rs k = conv (cf ps) (cf qs) k
theorem whole_topped {ps : List (Int × Int)} {M R : Nat} (pp : IsP ps) (b : Bds M R ps) : Topped (wholeOf ps (lcmB ps : Nat)) := by
  intro z hz
  unfold wholeOf at hz
  rw [List.getLast?_map] at hz
  cases e : ps.getLast? with
  | none => rw [e] at hz; cases hz
  | some p =>
    rw [e] at hz
    cases hz
    have m := List.mem_of_getLast? e
    refine Int.mul_ne_zero (pp.top p e) fun z => ?_
    obtain ⟨d, hd⟩ := lcmB_all m
    rw [hd, Int.mul_fdiv_cancel_left _ (pp.low p m).ne] at z
    rw [z, Int.mul_zero] at hd
    have := lcmB_pos b.pos fun p hp => (b.all p hp).d
    omega
section
variable {P : Program} {w : World} {K : PySem.W.Frag} {mg : Str → Option Value} {base : Heap} {cB cN C fI CP CM fP fM : Addr}
theorem scMulP : FnScope ["self", "other", "left", "left_bottom", "right", "right_bottom"] ["self", "other"] (defScope sMulP) := ⟨rfl, rfl, rfl, by decide +kernel, rfl, by decide +kernel, by decide +kernel⟩
theorem ok_mulPG {f : Addr} {fd : FuncData} (F : Fun K "__mul__" "Poly.__mul__" sMulP f fd) (L : PolC K mg CP CM fP fM) (hLk : Dfn P w K mg base CX0 1 "looks_after" ["value", "below"] (spLooksA K C CP CM)) (hAs : Dfn P w K mg base (L2.CX P w) 10 "as_poly" ["value"] (spAsPG K C CP CM cB))
    (hW : Dfn P w K mg base CX0 2 "whole_parts" ["ratios"] (spWhl K C)) (hM : Dfn P w K mg base CX0 5 "multiplied" ["one", "other"] spMulD) (hB : Dfn P w K mg base (L2.CX P w) 10 "poly_by" ["parts", "bottom"] (spPBy K C CP CM)) : FnOk P w K mg base (L2.CX P w) 11 f fd ["self", "other"] (spOpP K C CP CM cB LeftOk BothOk mulF) := by
  refine F.okX scMulP (fun vs H Q E h => ?_) (fun cdv A outer s H vs Q E hr h => ?_)
  · obtain ⟨a, v, ps, rfl, _⟩ := h
    rfl
  · obtain ⟨a, v, ps, rfl, ha, lo, k⟩ := h
    have nd := scMulP.nd
    refine ⟨_, pss_cons (ps_if (pt_val (dc hLk hr (by decide) (pa_cons (pv 1) (pa_cons pe_str pa_nil)))) (pss_one ps_never) pss_nil)
      (pss_cons (ps_asg (dc hW hr (by decide) (pa_cons (pe_fld (pv 0) rfl) pa_nil)) (pg_tup (by rfl) (pgs_cons (pg_name (i := 2) nd rfl (Or.inl rfl)) (pgs_cons (pg_name (i := 3) nd rfl (Or.inl rfl)) pgs_nil))))
      (pss_cons (ps_asg (dc hW hr (by decide) (pa_cons (pe_fld (dcE hAs hr (by decide) (passK (takes_of rfl rfl rfl rfl)) (pa_cons (pv 1) pa_nil)) rfl) pa_nil)) (pg_tup (by rfl) (pgs_cons (pg_name (i := 4) nd rfl (Or.inl rfl)) (pgs_cons (pg_name (i := 5) nd rfl (Or.inl rfl)) pgs_nil))))
      (pss_one (ps_ret (dcL hB hr (by decide) (pa_cons (dc hM hr (by decide) (pa_cons (pv 2) (pa_cons (pv 4) pa_nil))) (pa_cons (pe_op op_mulW (pv 3) (pv 5)) pa_nil))))))), ?_⟩
    refine ⟨_, rfl, k.looks ⟨_, rfl, ?_⟩⟩
    obtain ⟨dx, t, xs, mk, dm, tb, a1, a2, a3, _⟩ := ha
    obtain ⟨pp, lp, M, R, c, bp, sp, cc⟩ := lo
    have up : ∀ {x a b : Nat}, x < 2 ^ a → a ≤ b → x < 2 ^ b := fun h l => Nat.lt_of_lt_of_le h (Nat.pow_le_pow_right (by decide) l)
    have M2 : M < 2 ^ 3000 := up (Nat.lt_of_le_of_lt (Nat.le_mul_of_pos_left _ (Nat.succ_pos _)) sp) cc
    refine ⟨_, rfl, a, CP, dx, _, _, rfl, a1, L.c, L.nP, rfl, ?_⟩
    refine ⟨.ref t, xs, ps, M, c, rfl, ⟨t, rfl, .inr (SqT.of a2)⟩, by rw [paired_len a3]; exact Nat.le_trans lp (by decide), a3, bp.pos, up M2 (by decide), bp.facts pp.low sp, by omega, fun T l1 G1 nT s1 hT hl1 => ?_⟩
    refine ⟨T, _, rfl, SqT.of hT, rfl, _, _, rfl, _, _, rfl, rfl, ?_⟩
    have k1 : ToPoly K C CP CM cB G1 E v fun qs => BothOk ps qs ∧ ∀ rs, mulF ps qs rs → NewPoly C CP CM G1 Q rs := by
      cases k with
      | poly a ps hv h k => exact .poly a ps hv (h.same s1) ⟨k.1, fun rs h => (k.2 rs h).same s1⟩
      | one q h k => exact .one q (h.same s1) fun m tr => ⟨(k m tr).1, fun rs h => ((k m tr).2 rs h).same s1⟩
      | odd o k => exact .odd (o.same s1) (k.same s1)
    clear k nT hT a1 a2 a3
    refine ⟨_, rfl, ?_⟩
    dsimp only [tNil, List.cons_append, List.nil_append]
    refine k1.as fun b qs H2 s2 hb ⟨bo, q⟩ => ?_
    obtain ⟨ex, t', ys, mk', dm', tb', b1, b2, b3, _⟩ := hb
    obtain ⟨pq, lq, N, U, c', bq, sq, cc'⟩ := bo
    have N2 : N < 2 ^ 3000 := up (Nat.lt_of_le_of_lt (Nat.le_mul_of_pos_left _ (Nat.succ_pos _)) sq) cc'
    refine ⟨b, CP, ex, _, _, rfl, b1, L.c, L.nP, rfl, ?_⟩
    refine ⟨.ref t', ys, qs, N, c', rfl, ⟨t', rfl, .inr (SqT.of b2)⟩, by rw [paired_len b3]; exact Nat.le_trans lq (by decide), b3, bq.pos, up N2 (by decide), bq.facts pq.low sq, by omega, fun T2 l2 G3 nT2 s3 hT2 hl2 => ?_⟩
    refine ⟨T2, _, rfl, SqT.of hT2, rfl, _, _, rfl, _, _, rfl, rfl, ?_⟩
    have hl1' := s3 _ _ (s2 _ _ hl1)
    refine ⟨_, rfl, _, rfl, l1, l2, wholeOf ps (lcmB ps : Nat), wholeOf qs (lcmB qs : Nat), c, c', rfl, hl1', hl2, whole_topped pp bp, whole_topped pq bq, whole_small bp pp.low sp, whole_small bq pq.low sq, by rw [wholeOf_len]; exact lp, by rw [wholeOf_len]; exact lq, by omega, fun l3 E3 G4 hE tE n3 s4 hl3 => ?_⟩
    have lpos : 0 < lcmB ps := lcmB_pos bp.pos fun p hp => (bp.all p hp).d
    have lpos2 : 0 < lcmB qs := lcmB_pos bq.pos fun p hp => (bq.all p hp).d
    have lM : lcmB ps < 2 ^ 3000 := Nat.lt_of_le_of_lt (Nat.le_of_dvd bp.pos (lcmB_dvd fun p hp => (bp.all p hp).d)) M2
    have lN : lcmB qs < 2 ^ 3000 := Nat.lt_of_le_of_lt (Nat.le_of_dvd bq.pos (lcmB_dvd fun p hp => (bq.all p hp).d)) N2
    have fp : ∀ p ∈ ps, p.2 ∣ ((lcmB ps : Nat) : Int) ∧ p.2 ≠ 0 := fun p hp => ⟨lcmB_all hp, (pp.low p hp).ne⟩
    have fq : ∀ p ∈ qs, p.2 ∣ ((lcmB qs : Nat) : Int) ∧ p.2 ≠ 0 := fun p hp => ⟨lcmB_all hp, (pq.low p hp).ne⟩
    have B0 : ((lcmB ps : Nat) : Int) * ((lcmB qs : Nat) : Int) ≠ 0 := Int.mul_ne_zero (by omega) (by omega)
    have EL : E3.length ≤ 100000 := Nat.le_trans (topped_len tE hE) (Nat.le_trans (mulL_len _ _) (by
      rw [wholeOf_len, wholeOf_len]
      exact Nat.le_trans (Nat.mul_le_mul lp (show qs.length + 1 ≤ 61 by omega)) (by decide)))
    refine ⟨_, rfl, _, rfl, _, _, rfl, rfl, mul_fit (a := 3000) (b := 3000) (by rw [Int.natAbs_natCast]; exact lM) (by rw [Int.natAbs_natCast]; exact lN) (by decide), l3, E3, _, rfl, hl3, EL, B0, ?_, fun m tr => ?_⟩
    · show (((lcmB ps : Nat) : Int) * ((lcmB qs : Nat) : Int)).natAbs < 2 ^ 9000
      rw [Int.natAbs_mul, Int.natAbs_natCast, Int.natAbs_natCast]
      exact Nat.lt_of_lt_of_le (Nat.mul_lt_mul'' lM lN) (by rw [← Nat.pow_add]; exact Nat.pow_le_pow_right (by decide) (by decide))
    · refine ((q _ ⟨tr.isP (byOf_low B0), fun k => ?_⟩).same (s2.trans (s3.trans s4)))
      rw [tr.cf (byOf_low B0), cf_by B0]
      have e1 : ci E3 k = ci (mulL (wholeOf ps (lcmB ps : Nat)) (wholeOf qs (lcmB qs : Nat))) k := by
        unfold ci
        rw [hE]
      rw [e1, ci_mulL, conv_congr (fun i => ci_whole fp i) (fun i => ci_whole fq i), conv_mul, conv_mulR, Rat.intCast_mul]
      have n1 := cast_ne (show ((lcmB ps : Nat) : Int) ≠ 0 by omega)
      have n2 := cast_ne (show ((lcmB qs : Nat) : Int) ≠ 0 by omega)
      grind
end
end K03
end
section
set_option maxHeartbeats 8000000
set_option exponentiation.threshold 100000
namespace K03
open PySem PySem.Spec PyProof.Rows L2 LamX NdefX L3 PolyM Kron RZ
section
variable {P : Program} {w : World} {K : PySem.W.Frag} {mg : Str → Option Value} {base : Heap} {cB cN C fI CP CM fP fM : Addr} {lf : List (Int × Int) → Prop} {pre : List (Int × Int) → List (Int × Int) → Prop} {g : List (Int × Int) → List (Int × Int) → List (Int × Int) → Prop}
/-! ### a Ratio left of a poly: NotImplemented -/
end
end K03
end
section
set_option maxHeartbeats 4000000
namespace PySem
namespace EnT
open PyProof.Rows
section
variable {prog : Program} {w : World} {A : Around} {E : Value → Shared → Prop} {s : Shared}
end
end EnT
end PySem
namespace L2
open PySem PySem.Spec PyProof.Rows
end L2
end
section
set_option maxHeartbeats 8000000
set_option exponentiation.threshold 100000
namespace PolyM
end PolyM
namespace K03
open PySem PySem.Spec PyProof.Rows L2 LamX NdefX L3 PolyM Kron RZ
abbrev sIsWh : Stmt := top 8
abbrev sNeedWh : Stmt := top 11
abbrev sPartP : Stmt := inClass (top 37) 12
def spIsWh (K : PySem.W.Frag) : Sp := fun vs H Q _ => ∃ v, vs = [v] ∧ ((∃ i, v = .int i ∧ Q (.bl (decide (i ≥ 0))) H) ∨ (NoInt K H v ∧ Q (.bl false) H))
/-- no number of places -/
def NoWh (K : PySem.W.Frag) (H : Hp) (v : V) : Prop := (∃ i, v = .int i ∧ i < 0) ∨ NoInt K H v
def spNeedWh (K : PySem.W.Frag) (cB : Addr) : Sp := fun vs H Q E => ∃ v, vs = [v] ∧ ((∃ n : Nat, v = .int n ∧ Q .non H) ∨ (NoWh K H v ∧ Bad cB v H E))
def spPartP (K : PySem.W.Frag) (C CP CM cB : Addr) : Sp := fun vs H Q E => ∃ (a : Addr) (v : V) (ps : List (Int × Int)), vs = [.ref a, v] ∧ PolyAt C CP CM H a ps ∧ ((NoWh K H v ∧ Bad cB v H E) ∨ ∃ n : Nat, v = .int n ∧ ∀ u H', Same H H' → RV C H' u (ps.getD n (0, 1)) → Q u H')
section
variable {P : Program} {w : World} {K : PySem.W.Frag} {mg : Str → Option Value} {base : Heap} {cB cN C fI CP CM fP fM : Addr}
theorem scIsWh : FnScope ["value"] ["value"] (defScope sIsWh) := ⟨rfl, rfl, rfl, by decide +kernel, rfl, by decide +kernel, by decide +kernel⟩
theorem ok_isWh {f : Addr} {fd : FuncData} (F : Fun K "is_whole" "is_whole" sIsWh f fd) (hI : Dfn P w K mg base CX0 1 "is_integer" ["value"] (spIsInt K)) : FnOk P w K mg base CX0 2 f fd ["value"] (spIsWh K) := by
  refine F.ok scIsWh (fun vs H Q E h => ?_) (fun cdv A outer s H vs Q E hr h => ?_)
  · obtain ⟨v, rfl, _⟩ := h
    rfl
  · obtain ⟨v, rfl, k⟩ := h
    refine ⟨_, pss_one (ps_ret (pe_and (dc hI hr (by decide) (pa_cons (pv 0) pa_nil)) (pe_one (pe_cmpR op_ge (pv 0) pe_int (by rfl))))), ?_⟩
    rcases k with ⟨i, rfl, q⟩ | ⟨no, q⟩
    · exact ⟨_, rfl, _, rfl, .inl ⟨⟨i, rfl⟩, _, rfl, _, rfl, _, _, rfl, rfl, q⟩⟩
    · exact ⟨_, rfl, _, rfl, .inr ⟨no, _, rfl, q⟩⟩
theorem scNeedWh : FnScope ["value"] ["value"] (defScope sNeedWh) := ⟨rfl, rfl, rfl, by decide +kernel, rfl, by decide +kernel, by decide +kernel⟩
theorem ok_needWh {f : Addr} {fd : FuncData} (F : Fun K "need_whole" "need_whole" sNeedWh f fd) (hI : Dfn P w K mg base CX0 2 "is_whole" ["value"] (spIsWh K)) (T : ErrR P w K mg base cB cN) : FnOk P w K mg base (L2.CX P w) 3 f fd ["value"] (spNeedWh K cB) := by
  refine F.okX scNeedWh (fun vs H Q E h => ?_) (fun cdv A outer s H vs Q E hr h => ?_)
  · obtain ⟨v, rfl, _⟩ := h
    rfl
  · obtain ⟨v, rfl, k⟩ := h
    refine ⟨_, pss_one (ps_if (pt_not (pt_val (dc hI hr (by decide) (pa_cons (pv 0) pa_nil)))) (pss_one (ps_raise rfl (takes_of rfl rfl rfl rfl) (pmk_retX rfl (pe_one1 T.B hr (pv 0))))) pss_nil), ?_⟩
    have bad : Bad cB v H E → ∀ (a dx : Addr) (H1 : Hp), H a = none → H dx = none → Same H H1 → H1 a = some (ExO (.ref cB) a) → H1 dx = some (exd dx [("value", v)]) → dx ≠ a → True := fun _ _ _ _ _ _ _ _ _ _ => trivial
    rcases k with ⟨n, rfl, q⟩ | ⟨no, q⟩
    · refine ⟨_, rfl, _, rfl, .inl ⟨_, rfl, _, rfl, ?_⟩⟩
      rw [decide_eq_true (show (n : Int) ≥ 0 by omega)]
      exact q
    · rcases no with ⟨i, rfl, neg⟩ | no
      · refine ⟨_, rfl, _, rfl, .inl ⟨_, rfl, _, rfl, ?_⟩⟩
        rw [decide_eq_false (show ¬ i ≥ 0 by omega)]
        exact ⟨_, rfl, fun a dx H1 ha hd s e ed ne => ⟨a, _, dx, rfl, e, fr0_none ha, raises_own T.B.Z.su T.tB, q dx _ hd (same_del s ha) (by rw [delH_ne ne]; exact ed)⟩⟩
      · refine ⟨_, rfl, _, rfl, .inr ⟨no, _, rfl, ?_⟩⟩
        exact ⟨_, rfl, fun a dx H1 ha hd s e ed ne => ⟨a, _, dx, rfl, e, fr0_none ha, raises_own T.B.Z.su T.tB, q dx _ hd (same_del s ha) (by rw [delH_ne ne]; exact ed)⟩⟩
end
end K03
end
section
set_option maxHeartbeats 4000000
namespace HT
open PySem PySem.Spec PyProof.Rows
section
variable {prog : Program} {w : World} {A : Around} {E : Value → Shared → Prop} {s : Shared}
theorem sliceApplied_rev {sl : Addr} {t : Tok} {n : Nat} {Q : Int × Int × Nat → Shared → Prop} (hs : s.heap.IsSliceOf sl .none .none (.int (-1) t))
    (h : Q ((n : Int) - 1, -1, n) s) : wpAny (model prog w) A (Builtin.Slice.sliceApplied (.ref sl) (pure (n : Int))) Q E s := by
  obtain ⟨os, hos, hcs, hds⟩ := id hs
  unfold Builtin.Slice.sliceApplied Builtin.Slice.sliceFields
  refine wpAny_bind (wpAny_bind (wpAny_field hos hds (x := .none) rfl (wpAny_bind (wpAny_field hos hds (x := .none) rfl (wpAny_bind (wpAny_field hos hds (x := .int (-1) t) rfl (wpAny_pure ?_)))))))
  refine wpAny_bind (slicePart_ (.int (-1) t) ?_)
  show wpAny _ _ (if ((-1 : Int) == 0) = true then _ else _) _ _ s
  rw [if_neg (by decide)]
  refine wpAny_bind (slicePart_ .none (wpAny_bind (slicePart_ .none (wpAny_bind (wpAny_pure ?_)))))
  show wpAny _ _ (match Builtin.Slice.sliceAdjust none none (-1) (n : Int) with | (lo, hi) => pure (lo, (-1 : Int), Builtin.Slice.slicePlaces lo hi (-1))) _ _ s
  have e1 : Builtin.Slice.sliceAdjust none none (-1) (n : Int) = ((n : Int) - 1, -1) := by
    unfold Builtin.Slice.sliceAdjust
    simp
  rw [e1]
  have e2 : Builtin.Slice.slicePlaces ((n : Int) - 1) (-1) (-1) = n := by
    unfold Builtin.Slice.slicePlaces
    simp
    omega
  show wpAny _ _ (pure ((n : Int) - 1, (-1 : Int), Builtin.Slice.slicePlaces ((n : Int) - 1) (-1) (-1))) _ _ s
  rw [e2]
  exact wpAny_pure h
theorem pick_rev (xs : List Value) : ((List.range xs.length).filterMap fun (m : Nat) => xs.toArray[(((xs.length : Int) - 1) + (m : Int) * (-1)).toNat]?) = xs.reverse := by
  refine List.ext_getElem? fun k => ?_
  have e : (List.range xs.length).filterMap (fun (m : Nat) => xs.toArray[(((xs.length : Int) - 1) + (m : Int) * (-1)).toNat]?) = (List.range xs.length).map fun m => xs.getD (xs.length - 1 - m) .none := by
    have : ∀ l : List Nat, (∀ m ∈ l, m < xs.length) → l.filterMap (fun (m : Nat) => xs.toArray[(((xs.length : Int) - 1) + (m : Int) * (-1)).toNat]?) = l.map fun m => xs.getD (xs.length - 1 - m) .none := by
      intro l
      induction l with
      | nil => intro _; rfl
      | cons m l ih =>
        intro h
        have lt := h m List.mem_cons_self
        have e0 : (((xs.length : Int) - 1) + (m : Int) * (-1)).toNat = xs.length - 1 - m := by omega
        have e1 : xs.toArray[(((xs.length : Int) - 1) + (m : Int) * (-1)).toNat]? = some (xs.getD (xs.length - 1 - m) .none) := by
          rw [e0, List.getElem?_toArray, List.getD_eq_getElem?_getD, List.getElem?_eq_getElem (by omega)]
          rfl
        rw [List.filterMap_cons, e1, List.map_cons, ih fun k hk => h k (List.mem_cons_of_mem _ hk)]
    exact this _ fun m hm => List.mem_range.mp hm
  rw [e, List.getElem?_map]
  by_cases c : k < xs.length
  · rw [List.getElem?_range c, List.getElem?_reverse c]
    show some (xs.getD (xs.length - 1 - k) .none) = _
    rw [List.getD_eq_getElem?_getD, List.getElem?_eq_getElem (by omega)]
    rfl
  · rw [List.getElem?_eq_none (by simpa using c), List.getElem?_eq_none (by simpa using c)]
    rfl
theorem getItem_tuple_rev {t sl : Addr} {its : List Value} {tk : Tok} {Q : Value → Shared → Prop} (ht : IsTup s.heap t its.toArray) (hs : s.heap.IsSliceOf sl .none .none (.int (-1) tk))
    (h : Q (.ref s.heap.objs.size) { s with heap := s.heap.push { cls := .type "tuple", data := .seq its.reverse.toArray } })
    (hsz : its.length ≤ sizeLine) : wpAny (model prog w) A (getItem (.ref t) (.ref sl)) Q E s := by
  have htake : sizeOk (.seq its.reverse.toArray) := by
    show its.reverse.toArray.size ≤ sizeLine
    rw [List.size_toArray, List.length_reverse]
    exact hsz
  obtain ⟨os, hos, hcs, hds⟩ := id hs
  have hTs : s.TypeIs (.ref sl) "slice" := ⟨os, hos, hcs⟩
  unfold getItem
  try with_reducible refine wpAny_holding ?_
  first | refine wpAny_bind (wpAny_pure ?_) | skip
  refine wpAny_bind (wpAny_sequenceKey ht.typeIs (by decide) ?_)
  refine wpAny_bind (wpAny_callSpecial?_slot (name := Str.ofString "__getitem__") ht.typeIs PyProof.Rows.slot_tuple_getitem
    (wpAny_call_entry PyProof.Rows.slot_tuple_getitem ht.typeIs entry_tuple_getitem ?_ (args_tuple_getitem _ _)))
  show wpAny _ _ (Builtin.Tuple.tupleItemsOf (.ref t) >>= _) _ _ s
  refine wpAny_bind (tupleItemsOf_ ht ?_)
  refine wpAny_bind (wpAny_typeOf hTs ?_)
  rw [if_pos (by decide)]
  rw [show ((its.toArray.size : Nat) : Int) = ((its.length : Nat) : Int) by rw [List.size_toArray]]
  refine wpAny_bind (sliceApplied_rev hs ?_)
  have hno : ¬ ((((its.length : Int) - 1) == 0 && (-1 : Int) == 1 && its.length == its.toArray.size) = true) := by simp
  show wpAny _ _ (if (((its.length : Int) - 1) == 0 && (-1 : Int) == 1 && its.length == its.toArray.size) = true then _ else _) _ _ s
  rw [if_neg hno, pick_rev]
  first
    | exact wpAny_bind (m := Builtin.Tuple.tupleExact _) (wpAny_newObj_type (wpAny_pure ⟨_, rfl, wpAny_pure h⟩) htake)
    | exact wpAny_bind (m := Builtin.Tuple.tupleExact _) (wpAny_newObj_type (wpAny_bind (wpAny_pure (wpAny_pure ⟨_, rfl, wpAny_pure h⟩))) htake)
    | exact wpAny_bind (wpAny_bind (m := Builtin.Tuple.tupleExact _) (wpAny_newObj_type (wpAny_pure (wpAny_pure ⟨_, rfl, wpAny_pure h⟩)) htake))
    | exact wpAny_bind (wpAny_bind (m := Builtin.Tuple.tupleExact _) (wpAny_newObj_type (wpAny_pure ⟨_, rfl, wpAny_pure h⟩) htake))
end
end HT
namespace L2
open PySem PySem.Spec PyProof.Rows
/-- t[::-1] of a tuple -/
def tRevT (K : PySem.W.Frag) (te : TE) : TE := fun σ H Q => te σ H fun x H1 => ∃ a xs, x = .ref a ∧ SqT K H1 a xs ∧ ∀ p, H1 p = none → Q (.ref p) (upd H1 p (.tup xs.reverse))
theorem pe_revT {X : Cx} {e : Expr} {te : TE} {k : Nat} {p1 p2 p3 pos : Pos} (he : PE X e te) : PE X (.Subscript e (.Slice none none (some (.UnaryOp .USub (.Constant (.int 1) k p1) p2)) p3) pos) (tRevT X.K te) := by
  refine ⟨fun pins s σ H Q I h => ?_⟩
  refine Subscript_ (thn (he.run pins s σ H _ I h) fun v s1 ⟨x, H1, I1, r1, q1⟩ => ?_)
  obtain ⟨a, xs, ex, hx, q⟩ := q1
  subst ex
  cases r1
  have hst : PO X (some (.UnaryOp .USub (.Constant (.int 1) k p1) p2)) (tPart (tUn (rU fun i => .int (-i)) (tC (.int 1)))) := po_some (pe_un un_neg pe_int)
  refine wpAny_Slice (thn (po_none.run pins s1 σ H1 (fun o H2 => o = none ∧ H2 = H1) I1 ⟨rfl, rfl⟩) fun vl s2 ⟨l, H2, I2, pl, el, e2⟩ => ?_)
  subst el e2
  refine thn (po_none.run pins s2 σ H2 (fun o H3 => o = none ∧ H3 = H2) I2 ⟨rfl, rfl⟩) fun vu s3 ⟨u, H3, I3, pu, eu, e3⟩ => ?_
  subst eu e3
  refine thn (hst.run pins s3 σ H3 (fun o H4 => o = some (-1) ∧ H4 = H3) I3 ⟨1, rfl, -1, rfl, rfl, rfl⟩) fun vs s4 ⟨o, H4, I4, ps, eo, e4⟩ => ?_
  subst eo e4
  have I5 : Inv X pins σ H4 { s4 with heap := s4.heap.push { cls := .type "slice", data := .fields #[vl, vu, vs] } } := I4.kept (t' := s4.toks) fun b ob q => Heap.get?_push_of_some _ q
  obtain ⟨its, r, ht, hz⟩ := I5.tuple hx
  have hlen := r.length
  cases pl
  cases pu
  cases ps
  show wpAny (model X.prog X.w) X.A (subscriptTail e (.Slice none none (some (.UnaryOp .USub (.Constant (.int 1) k p1) p2)) p3) (.ref a) (.ref s4.heap.objs.size)) (EP X pins σ Q) X.xe _
  refine tail_any (ops := [.ref a, .ref s4.heap.objs.size]) ht.typeIs (PyProof.Rows.slot_tuple_getitem.lookup) ?_ (by with_unfolding_all rfl)
  refine HT.getItem_tuple_rev ht (Heap.IsSliceOf.new _ _ _ _) ?_ (by omega)
  refine ⟨.ref _, _, I5.laid (t' := s4.toks) (o := .tup xs.reverse) (fun b ob q => Heap.get?_push_of_some _ q) (Nat.le_refl _) ?_, rfl, q _ (I5.hok.fresh (Nat.le_refl _))⟩
  exact ⟨by rw [List.length_reverse]; exact hz, _, r.reverse, IsTup.new _ _⟩
end L2
end
section
set_option maxHeartbeats 8000000
set_option exponentiation.threshold 100000
namespace K03
open PySem PySem.Spec PyProof.Rows L2 LamX NdefX L3 PolyM Kron RZ
section
variable {P : Program} {w : World} {K : PySem.W.Frag} {mg : Str → Option Value} {base : Heap} {cB cN C fI CP CM fP fM : Addr}
theorem scPartP : FnScope ["self", "number"] ["self", "number"] (defScope sPartP) := ⟨rfl, rfl, rfl, by decide +kernel, rfl, by decide +kernel, by decide +kernel⟩
theorem ok_partP {f : Addr} {fd : FuncData} (F : Fun K "part" "Poly.part" sPartP f fd) (R : Rat P w K mg base cB cN C fI) (L : PolC K mg CP CM fP fM) (hN : Dfn P w K mg base (L2.CX P w) 3 "need_whole" ["value"] (spNeedWh K cB)) : FnOk P w K mg base (L2.CX P w) 6 f fd ["self", "number"] (spPartP K C CP CM cB) := by
  refine F.okX scPartP (fun vs H Q E h => ?_) (fun cdv A outer s H vs Q E hr h => ?_)
  · obtain ⟨a, v, ps, rfl, _⟩ := h
    rfl
  · obtain ⟨a, v, ps, rfl, ⟨dx, t, xs, mk, dm, tb, a1, a2, a3, _⟩, k⟩ := h
    refine ⟨_, pss_cons (ps_expr (dcE hN hr (by decide) (passK (takes_of rfl rfl rfl rfl)) (pa_cons (pv 1) pa_nil)))
      (pss_one (ps_ret (pe_ifExp (pt_cmpR op_lt (pv 1) (pe_callB call_len_seq (by rfl) R.txt.len PySem.boot_len (pa_cons (pe_fld (pv 0) rfl) pa_nil)) (nomark _)) (pe_ix ix_tup (pe_fld (pv 0) rfl) (pv 1) (fun _ _ => rfl)) (pe_rat1 (E := E0) R hr passL pe_int)))), ?_⟩
    rcases k with ⟨no, q⟩ | ⟨n, rfl, q⟩
    · exact ⟨_, rfl, v, rfl, .inr ⟨no, q⟩⟩
    · refine ⟨_, rfl, _, rfl, .inl ⟨n, rfl, ?_⟩⟩
      refine ⟨_, rfl, _, rfl, a, CP, dx, _, _, rfl, a1, L.c, L.nP, rfl, t, xs, rfl, .inr (SqT.of a2), _, _, rfl, rfl, _, rfl, ?_⟩
      have lx := paired_len a3
      refine ite2 (fun y => ?_) (fun y => ?_)
      · have lt : n < xs.length := by
          have := of_decide_eq_true y
          omega
        have hx := List.getElem?_eq_getElem lt
        obtain ⟨p, hp, rv⟩ := paired_at a3 hx
        refine ⟨_, rfl, a, CP, dx, _, _, rfl, a1, L.c, L.nP, rfl, _, rfl, t, xs, _, _, rfl, rfl, SqT.of a2, atI_nat hx, q _ H (fun _ _ e => e) ?_⟩
        rw [List.getD_eq_getElem?_getD, hp]
        exact rv
      · have ge : ps.length ≤ n := by
          have : ¬ (n : Int) < (xs.length : Int) := fun z => y (decide_eq_true z)
          omega
        have z : NewR C H Q (0, 1) := fun b db H' nb s' hb => q _ H' s' ⟨b, db, rfl, by rw [List.getD_eq_getElem?_getD, List.getElem?_eq_none ge]; exact hb⟩
        exact .good 0 1 rfl rfl (by decide) (by decide +kernel) (by rw [low_one]; exact z)
end
end K03
end
section
set_option maxHeartbeats 8000000
namespace L2
open PySem PySem.Spec PyProof.Rows
/-- a call of a local name that holds some def -/
def tCallHd (X : Cx) (k i : Nat) (t : TA) : TE := fun σ H Q => ∃ f sp, σ[i]? = some (some (.ref f)) ∧ Held X.prog X.w X.K X.mg X.base k f sp ∧ t σ H fun vs H1 => sp vs H1 Q (fun _ _ _ => False)
theorem pe_callHd {X : Cx} {k i : Nat} {x : Str} {p pos : Pos} {e : Expr} {es : List Expr} {t : TA} (hr : Room k X.A) (hN : X.N[i]? = some x) (hv : Vis X.env.scope x) (ha : PA X (e :: es) t)
    (hdb : (x == ("__debug__" : Str)) = false := by decide) (hcd : (x == ("__classdict__" : Str)) = false := by decide)
    (he : starEach (e :: es) X.env = (false, eval e X.env) :: starEach es X.env := by rfl) (hpl : (backTo pos (starEach es X.env)).any (·.1) = false := by rfl) : PE X (.Call (.Name x p) (e :: es) [] pos) (tCallHd X k i t) := by
  refine ⟨fun pins s σ H Q I h => ?_⟩
  obtain ⟨f, sp, hs, A, ht⟩ := h
  obtain ⟨fd, ps, F, hk, hb⟩ := A.ex
  refine (pe_callL (i := i) (f := f) (sp := sp) (dvs := []) (E := fun _ _ _ => False) F hr hN hv hk hb .nil (fun _ _ _ _ _ _ _ z => z.elim) ha hdb hcd he hpl).run pins s σ H Q I ⟨hs, ?_⟩
  have e0 : (fun (vs : List V) (H1 : Hp) => sp (vs ++ []) H1 Q (fun _ _ _ => False)) = fun vs H1 => sp vs H1 Q (fun _ _ _ => False) := by
    funext vs H1
    rw [List.append_nil]
  show t σ H (fun vs H1 => sp (vs ++ []) H1 Q (fun _ _ _ => False))
  rw [e0]
  exact ht
end L2
namespace K03
open PySem PySem.Spec PyProof.Rows L2 LamX NdefX L3 TL PolyM
abbrev sIsLane : Stmt := top 46
abbrev sIsAm : Stmt := top 47
abbrev sIsEx : Stmt := top 48
abbrev sIsFac : Stmt := top 49
abbrev sIsLate : Stmt := top 50
abbrev sIsRung : Stmt := top 45
def spIsLane : Sp := fun vs H Q _ => ∃ l : Nat, vs = [.int l] ∧ l ≤ 1 ∧ Q (.bl true) H
def spIsAm (C CP CM : Addr) : Sp := fun vs H Q _ => ∃ (t a : Addr) (l : Nat) (qs : List (Int × Int)), vs = [.ref t] ∧ H t = some (.tup [.int l, .ref a]) ∧ l ≤ 1 ∧ PolyAt C CP CM H a qs ∧ Q (.bl true) H
def spIsEx : Sp := fun vs H Q _ => ∃ t : Addr, vs = [.ref t] ∧ H t = some (.tup []) ∧ Q (.bl true) H
def spIsFac (C : Addr) : Sp := fun vs H Q _ => ∃ (t a dx : Addr) (l : Nat) (p : Int × Int), vs = [.ref t] ∧ H t = some (.tup [.int l, .ref a]) ∧ l ≤ 1 ∧ H a = some (rat C dx p) ∧ p.1 ≠ 0 ∧ Q (.bl true) H
def spIsLate : Sp := fun vs H Q _ => ∃ (t : Addr) (l d : Nat), vs = [.ref t] ∧ H t = some (.tup [.int l, .int d]) ∧ l ≤ 1 ∧ 1 ≤ d ∧ Q (.bl true) H
/-- a step, as the program's tuple -/
def RungT (C CP CM : Addr) (H : Hp) (v : V) : Rg → Prop
  | .ex => ∃ t, v = .ref t ∧ H t = some (.tup [.str "exchange"])
  | .fac l p => ∃ t a dx, v = .ref t ∧ H t = some (.tup [.str "factor", .int l, .ref a]) ∧ H a = some (rat C dx p)
  | .late l d => ∃ t, v = .ref t ∧ H t = some (.tup [.str "late", .int l, .int d])
  | .add b l ps => ∃ t a qs, v = .ref t ∧ H t = some (.tup [.str (if b then "add" else "take"), .int l, .ref a]) ∧ PolyAt C CP CM H a qs ∧ IsP qs ∧ qs.length ≤ ps.length ∧ (∀ q ∈ qs, Sml q) ∧ ∀ k, cf qs k = cf ps k
theorem RungT.same {C CP CM : Addr} {H H' : Hp} {v : V} {r : Rg} (h : RungT C CP CM H v r) (s : Same H H') : RungT C CP CM H' v r := by
  cases r with
  | ex =>
    obtain ⟨t, e, h⟩ := h
    exact ⟨t, e, s _ _ h⟩
  | fac l p =>
    obtain ⟨t, a, dx, e, h, h2⟩ := h
    exact ⟨t, a, dx, e, s _ _ h, s _ _ h2⟩
  | late l d =>
    obtain ⟨t, e, h⟩ := h
    exact ⟨t, e, s _ _ h⟩
  | add b l ps =>
    obtain ⟨t, a, qs, e, h, h2, h3⟩ := h
    exact ⟨t, a, qs, e, s _ _ h, h2.same s, h3⟩
/-- the dict of the tests of steps -/
structure RgD (P : Program) (w : World) (K : PySem.W.Frag) (mg : Str → Option Value) (base : Heap) (C CP CM : Addr) : Prop where
  ex : ∃ (d : Addr) (es : Array DictEntry) (n : Nat), mg "RUNGS" = some (.ref d) ∧ KDict K w d es n ∧
    (∀ z : Str, z = "add" ∨ z = "take" → ∃ f, PySem.W.nsIn K d z = some (some (.ref f)) ∧ Held P w K mg base 4 f (spIsAm C CP CM)) ∧
    (∃ f, PySem.W.nsIn K d "exchange" = some (some (.ref f)) ∧ Held P w K mg base 4 f spIsEx) ∧
    (∃ f, PySem.W.nsIn K d "factor" = some (some (.ref f)) ∧ Held P w K mg base 4 f (spIsFac C)) ∧
    ∃ f, PySem.W.nsIn K d "late" = some (some (.ref f)) ∧ Held P w K mg base 4 f spIsLate
def spIsRung (C CP CM : Addr) : Sp := fun vs H Q _ => ∃ (v : V) (r : Rg), vs = [v] ∧ RungT C CP CM H v r ∧ VR r ∧ ∀ H', Same H H' → Q (.bl true) H'
section
variable {P : Program} {w : World} {K : PySem.W.Frag} {mg : Str → Option Value} {base : Heap} {cB cN C fI CP CM fP fM : Addr}
theorem scIsLane : FnScope ["value"] ["value"] (defScope sIsLane) := ⟨rfl, rfl, rfl, by decide +kernel, rfl, by decide +kernel, by decide +kernel⟩
theorem ok_isLane {f : Addr} {fd : FuncData} (F : Fun K "is_lane" "is_lane" sIsLane f fd) (hW : Dfn P w K mg base CX0 2 "is_within" ["value", "low", "high"] (spIsW K)) : FnOk P w K mg base CX0 3 f fd ["value"] spIsLane := by
  refine F.ok scIsLane (fun vs H Q E h => ?_) (fun cdv A outer s H vs Q E hr h => ?_)
  · obtain ⟨l, rfl, _⟩ := h
    rfl
  · obtain ⟨l, rfl, hl, q⟩ := h
    refine ⟨_, pss_one (ps_ret (dc hW hr (by decide) (pa_cons (pv 0) (pa_cons pe_int (pa_cons pe_int pa_nil))))), ?_⟩
    exact ⟨_, rfl, _, _, _, rfl, .inl ⟨⟨l, rfl, by omega, by omega⟩, q⟩⟩
theorem scIsAm : FnScope ["told"] ["told"] (defScope sIsAm) := ⟨rfl, rfl, rfl, by decide +kernel, rfl, by decide +kernel, by decide +kernel⟩
theorem ok_isAm {f : Addr} {fd : FuncData} (F : Fun K "is_amount" "is_amount" sIsAm f fd) (B : TxtR mg) (L : PolC K mg CP CM fP fM) (tyx : ∀ (H : Hp) (a dx : Addr) (fs : List (Str × V)), H a = some (.ins CP dx fs) → TyX K H (.ref a) (.ref CP)) (hL : Dfn P w K mg base CX0 3 "is_lane" ["value"] spIsLane) : FnOk P w K mg base CX0 4 f fd ["told"] (spIsAm C CP CM) := by
  refine F.ok scIsAm (fun vs H Q E h => ?_) (fun cdv A outer s H vs Q E hr h => ?_)
  · obtain ⟨t, a, l, qs, rfl, _⟩ := h
    rfl
  · obtain ⟨t, a, l, qs, rfl, ht, hl, ha, q⟩ := h
    have hp := ha
    obtain ⟨dx, tt, xs, mk, dm, tb, h1, _⟩ := hp
    refine ⟨_, pss_one (ps_ret (pe_and (pe_cmpR op_eq (pe_callB call_len_seq (by rfl) B.len PySem.boot_len (pa_cons (pv 0) pa_nil)) pe_int (nomark _)) (pe_and (dc hL hr (by decide) (pa_cons (pe_ix ix_tup (pv 0) pe_int (fun _ _ => rfl)) pa_nil))
      (pe_one (pe_callB call_isi (by rfl) B.isi (by decide +kernel) (pa_cons (pe_ix ix_tup (pv 0) pe_int (fun _ _ => rfl)) (pa_cons (pe_glob (v := .ref CP) (by rfl) L.g rfl) pa_nil))))))), ?_⟩
    refine ⟨_, rfl, t, _, rfl, .inr (SqT.of ht), rfl, true, rfl, ?_⟩
    refine ⟨_, rfl, t, _, 0, .int l, rfl, rfl, SqT.of ht, rfl, l, rfl, hl, true, rfl, ?_⟩
    exact ⟨_, rfl, t, _, 1, .ref a, rfl, rfl, SqT.of ht, rfl, .ref a, .ref CP, .ref CP, .ref CP, true, rfl, .own CP, tyx H a dx _ h1, kit_me, q⟩
theorem scIsEx : FnScope ["told"] ["told"] (defScope sIsEx) := ⟨rfl, rfl, rfl, by decide +kernel, rfl, by decide +kernel, by decide +kernel⟩
theorem ok_isEx {f : Addr} {fd : FuncData} (F : Fun K "is_exchange" "is_exchange" sIsEx f fd) (B : TxtR mg) : FnOk P w K mg base CX0 1 f fd ["told"] spIsEx := by
  refine F.ok scIsEx (fun vs H Q E h => ?_) (fun cdv A outer s H vs Q E hr h => ?_)
  · obtain ⟨t, rfl, _⟩ := h
    rfl
  · obtain ⟨t, rfl, ht, q⟩ := h
    refine ⟨_, pss_one (ps_ret (pe_cmpR op_eq (pe_callB call_len_seq (by rfl) B.len PySem.boot_len (pa_cons (pv 0) pa_nil)) pe_int (nomark _))), ?_⟩
    exact ⟨_, rfl, t, _, rfl, .inr (SqT.of ht), rfl, q⟩
theorem scIsFac : FnScope ["told"] ["told"] (defScope sIsFac) := ⟨rfl, rfl, rfl, by decide +kernel, rfl, by decide +kernel, by decide +kernel⟩
theorem ok_isFac {f : Addr} {fd : FuncData} (F : Fun K "is_factor" "is_factor" sIsFac f fd) (B : TxtR mg) (R : Rat P w K mg base cB cN C fI) (hL : Dfn P w K mg base CX0 3 "is_lane" ["value"] spIsLane) : FnOk P w K mg base CX0 4 f fd ["told"] (spIsFac C) := by
  refine F.ok scIsFac (fun vs H Q E h => ?_) (fun cdv A outer s H vs Q E hr h => ?_)
  · obtain ⟨t, a, dx, l, p, rfl, _⟩ := h
    rfl
  · obtain ⟨t, a, dx, l, p, rfl, ht, hl, ha, hn, q⟩ := h
    refine ⟨_, pss_one (ps_ret (pe_and (pe_cmpR op_eq (pe_callB call_len_seq (by rfl) B.len PySem.boot_len (pa_cons (pv 0) pa_nil)) pe_int (nomark _)) (pe_and (dc hL hr (by decide) (pa_cons (pe_ix ix_tup (pv 0) pe_int (fun _ _ => rfl)) pa_nil))
      (pe_and (pe_callB call_isi (by rfl) B.isi (by decide +kernel) (pa_cons (pe_ix ix_tup (pv 0) pe_int (fun _ _ => rfl)) (pa_cons (pe_glob (v := .ref C) (by rfl) R.cls.g rfl) pa_nil)))
      (pe_one (pe_cmpR op_ne (pe_fld (pe_ix ix_tup (pv 0) pe_int (fun _ _ => rfl)) rfl) pe_int (nomark _))))))), ?_⟩
    refine ⟨_, rfl, t, _, rfl, .inr (SqT.of ht), rfl, true, rfl, ?_⟩
    refine ⟨_, rfl, t, _, 0, .int l, rfl, rfl, SqT.of ht, rfl, l, rfl, hl, true, rfl, ?_⟩
    refine ⟨_, rfl, t, _, 1, .ref a, rfl, rfl, SqT.of ht, rfl, .ref a, .ref C, .ref C, .ref C, true, rfl, .own C, R.tyx H a dx _ ha, kit_me, true, rfl, ?_⟩
    refine ⟨_, rfl, t, _, 1, .ref a, rfl, rfl, SqT.of ht, rfl, a, C, dx, _, .int p.1, rfl, ha, R.cls.c, R.cls.nT, rfl, rfl, ?_⟩
    have e : (!decide (V.int p.1 = V.int 0)) = true := by
      have : V.int p.1 ≠ V.int 0 := fun z => hn (by cases p with | mk x y => injection z)
      simp [this]
    rw [e]
    exact q
theorem scIsLate : FnScope ["told"] ["told"] (defScope sIsLate) := ⟨rfl, rfl, rfl, by decide +kernel, rfl, by decide +kernel, by decide +kernel⟩
theorem ok_isLate {f : Addr} {fd : FuncData} (F : Fun K "is_late" "is_late" sIsLate f fd) (B : TxtR mg) (hL : Dfn P w K mg base CX0 3 "is_lane" ["value"] spIsLane) (hI : Dfn P w K mg base CX0 1 "is_integer" ["value"] (spIsInt K)) : FnOk P w K mg base CX0 4 f fd ["told"] spIsLate := by
  refine F.ok scIsLate (fun vs H Q E h => ?_) (fun cdv A outer s H vs Q E hr h => ?_)
  · obtain ⟨t, l, d, rfl, _⟩ := h
    rfl
  · obtain ⟨t, l, d, rfl, ht, hl, hd, q⟩ := h
    refine ⟨_, pss_one (ps_ret (pe_and (pe_cmpR op_eq (pe_callB call_len_seq (by rfl) B.len PySem.boot_len (pa_cons (pv 0) pa_nil)) pe_int (nomark _)) (pe_and (dc hL hr (by decide) (pa_cons (pe_ix ix_tup (pv 0) pe_int (fun _ _ => rfl)) pa_nil))
      (pe_and (dc hI hr (by decide) (pa_cons (pe_ix ix_tup (pv 0) pe_int (fun _ _ => rfl)) pa_nil))
      (pe_one (pe_cmpR op_ge (pe_ix ix_tup (pv 0) pe_int (fun _ _ => rfl)) pe_int (nomark _))))))), ?_⟩
    refine ⟨_, rfl, t, _, rfl, .inr (SqT.of ht), rfl, true, rfl, ?_⟩
    refine ⟨_, rfl, t, _, 0, .int l, rfl, rfl, SqT.of ht, rfl, l, rfl, hl, true, rfl, ?_⟩
    refine ⟨_, rfl, t, _, 1, .int d, rfl, rfl, SqT.of ht, rfl, _, rfl, .inl ⟨⟨_, rfl⟩, true, rfl, ?_⟩⟩
    refine ⟨_, rfl, t, _, 1, .int d, rfl, rfl, SqT.of ht, rfl, _, _, rfl, rfl, ?_⟩
    have e : decide ((1 : Int) ≤ d) = true := by
      have : (1 : Int) ≤ d := by omega
      simp [this]
    show Q (.bl (decide ((1 : Int) ≤ d))) H
    rw [e]
    exact q
theorem scIsRung : FnScope ["value", "is_told"] ["value"] (defScope sIsRung) := ⟨rfl, rfl, rfl, by decide +kernel, rfl, by decide +kernel, by decide +kernel⟩
theorem RungT.tup {C CP CM : Addr} {H : Hp} {v : V} {r : Rg} (h : RungT C CP CM H v r) : ∃ (t : Addr) (z : Str) (xs : List V), v = .ref t ∧ H t = some (.tup (.str z :: xs)) := by
  cases r with
  | ex =>
    obtain ⟨t, e, h⟩ := h
    exact ⟨t, _, _, e, h⟩
  | fac l p =>
    obtain ⟨t, a, dx, e, h, h2⟩ := h
    exact ⟨t, _, _, e, h⟩
  | late l d =>
    obtain ⟨t, e, h⟩ := h
    exact ⟨t, _, _, e, h⟩
  | add b l ps =>
    obtain ⟨t, a, qs, e, h, _⟩ := h
    exact ⟨t, _, _, e, h⟩
theorem ok_isRung {f : Addr} {fd : FuncData} (F : Fun K "is_rung" "is_rung" sIsRung f fd) (B : TxtR mg) (hL : Dfn P w K mg base CX0 1 "is_list" ["value"] (spIsLT K)) (D : RgD P w K mg base C CP CM) : FnOk P w K mg base CX0 5 f fd ["value"] (spIsRung C CP CM) := by
  refine F.ok scIsRung (fun vs H Q E h => ?_) (fun cdv A outer s H vs Q E hr h => ?_)
  · obtain ⟨v, r, rfl, _⟩ := h
    rfl
  · obtain ⟨v, r, rfl, hv, vr, q⟩ := h
    have nd := scIsRung.nd
    obtain ⟨d, es, n, gR, kd, hAm, hEx, hFac, hLate⟩ := D.ex
    refine ⟨_, pss_cons (ps_if (PW.pt (pw_or (pt_not (pt_val (dc hL hr (by decide) (pa_cons (pv 0) pa_nil)))) (pw_or (pt_cmpR op_eq (pe_callB call_len_seq (by rfl) B.len PySem.boot_len (pa_cons (pv 0) pa_nil)) pe_int (nomark _))
      (pw_or (pt_not (pt_val (pe_callB call_isi (by rfl) B.isi (by decide +kernel) (pa_cons (pe_ix ix_tup (pv 0) pe_int (fun _ _ => rfl)) (pa_cons (pe_bltn (v := .ty "str") (u := .type "str") (by rfl) B.str (by decide +kernel) rfl) pa_nil)))))
      (pw_or1 (pt_cmpR (op_notIn_kd kd) (pe_ix ix_tup (pv 0) pe_int (fun _ _ => rfl)) (pe_glob (v := .ref d) (by rfl) gR rfl) (by rfl))))))) (pss_one (ps_ret pe_bl)) pss_nil)
      (pss_cons (ps_set (i := 1) nd rfl (Or.inl rfl) (pe_ix ix_kdict (pe_glob (v := .ref d) (by rfl) gR rfl) (pe_ix ix_tup (pv 0) pe_int (fun _ _ => rfl)) (fun _ _ => rfl)))
      (pss_one (ps_ret (pe_callHd (k := 4) (i := 1) (hr.mono (by decide)) rfl (.inl rfl) (pa_cons (pe_slice sl_tupA (pv 0) (po_some pe_int) po_none) pa_nil))))), ?_⟩
    have key : ∃ (t : Addr) (z : Str) (xs : List V) (f : Addr) (sp : Sp), v = .ref t ∧ H t = some (.tup (.str z :: xs)) ∧ PySem.W.nsIn K d z = some (some (.ref f)) ∧ Held P w K mg base 4 f sp ∧ ∀ (p : Addr) (H' : Hp), Same H H' → H' p = some (.tup xs) → sp [.ref p] H' Q (fun _ _ _ => False) := by
      cases r with
      | ex =>
        obtain ⟨t, e, h⟩ := hv
        obtain ⟨f, h1, h2⟩ := hEx
        exact ⟨t, _, _, f, _, e, h, h1, h2, fun p H' s hp => ⟨p, rfl, hp, q H' s⟩⟩
      | fac l p =>
        obtain ⟨t, a, dx, e, h, ha⟩ := hv
        obtain ⟨f, h1, h2⟩ := hFac
        exact ⟨t, _, _, f, _, e, h, h1, h2, fun p' H' s hp => ⟨p', a, dx, l, p, rfl, hp, vr.1, s _ _ ha, vr.2.n, q H' s⟩⟩
      | late l n =>
        obtain ⟨t, e, h⟩ := hv
        obtain ⟨f, h1, h2⟩ := hLate
        exact ⟨t, _, _, f, _, e, h, h1, h2, fun p' H' s hp => ⟨p', l, n, rfl, hp, vr.1, vr.2.1, q H' s⟩⟩
      | add b l ps =>
        obtain ⟨t, a, qs, e, h, ha, _⟩ := hv
        obtain ⟨f, h1, h2⟩ := hAm (if b then "add" else "take") (by cases b <;> simp)
        exact ⟨t, _, _, f, _, e, h, h1, h2, fun p' H' s hp => ⟨p', a, l, qs, rfl, hp, vr.1, ha.same s, q H' s⟩⟩
    obtain ⟨t, z, xs, f, sp, rfl, ht, e1, e2, k⟩ := key
    refine ⟨_, rfl, .ref t, true, rfl, SeqV.isLT ⟨t, rfl, .inr (SqT.of ht)⟩, fun H1 s1 => ?_⟩
    have ht1 := s1 _ _ ht
    have a0 : atI (V.str z :: xs) 0 = some (V.str z) := by simp [atI, ixN]
    refine ⟨true, rfl, iteF ?_⟩
    refine ⟨_, rfl, t, _, rfl, .inr (SqT.of ht1), rfl, _, rfl, ?_⟩
    rw [show decide (V.int ((V.str z :: xs).length : Nat) = V.int 0) = false from decide_eq_false fun y => by
      injection y with y
      rw [List.length_cons] at y
      omega]
    refine iteF ?_
    refine ⟨_, rfl, t, _, 0, .str z, rfl, rfl, SqT.of ht1, a0, .str z, .ty "str", .type "str", .type "str", true, rfl, .ty _, .base (.str z), kit_ty (by decide +kernel), true, rfl, iteF ?_⟩
    refine ⟨_, rfl, t, _, 0, .str z, rfl, rfl, SqT.of ht1, a0, z, _, rfl, rfl, e1, _, rfl, iteF ?_⟩
    refine ⟨_, rfl, t, _, 0, .str z, rfl, rfl, SqT.of ht1, a0, d, z, .ref f, rfl, rfl, ⟨es, n, _, kd.at_, kd.lit, e1, rfl⟩, ?_⟩
    refine ⟨f, sp, rfl, e2, _, rfl, 1, rfl, ?_⟩
    exact sl_drop (Q := fun v H3 => sp [v] H3 Q fun _ _ _ => False) (k := 1) ht1 fun p H' s2 hp => k p H' (s1.trans s2) hp
end
end K03
end
section
set_option maxHeartbeats 8000000
set_option exponentiation.threshold 100000
namespace K03
open PySem PySem.Spec PyProof.Rows L2 LamX NdefX L3 PolyM Kron RZ
section
variable {P : Program} {w : World} {K : PySem.W.Frag} {mg : Str → Option Value} {base : Heap} {cB cN C fI CP CM fP fM : Addr}
end
end K03
end
section
set_option maxHeartbeats 8000000
set_option exponentiation.threshold 100000
namespace K03
open PySem PySem.Spec PyProof.Rows L2 LamX NdefX L3 PolyM Kron RZ
section
variable {P : Program} {w : World} {K : PySem.W.Frag} {mg : Str → Option Value} {base : Heap} {cB cN C fI CP CM fP fM : Addr}
theorem mul_step {G : Hp} {B R : Addr} {bs rs : List (Int × Int)} {Qk : VK} {E : XK} {nm : String} (hR : PolyAt C CP CM G R rs) (hB : PolyAt C CP CM G B bs) (lr : LeftOk rs) (lb : LeftOk bs)
    (k : ∀ (c : Addr) (ts : List (Int × Int)) (G' : Hp), Same G G' → PolyAt C CP CM G' c ts → mulF rs bs ts → Qk (.ref c) G') : rOwnL K CP nm (spOpP K C CP CM cB LeftOk BothOk mulF) E (.ref R) (.ref B) G Qk := by
  obtain ⟨d, f, i⟩ := hR.ins
  obtain ⟨d2, f2, i2⟩ := hB.ins
  exact ⟨R, d, f, rfl, i, .inl ⟨B, d2, f2, rfl, i2⟩, R, .ref B, rs, rfl, hR, lr, .poly B bs rfl hB ⟨lb, fun ts m a' G' _ s p => k a' ts G' s p m⟩⟩
end
end K03
end
section
set_option maxHeartbeats 4000000
namespace GQ
open PySem PySem.SeqAt
open AutoSeq1 (wpAny_loadPart')
open MeetsSeq MeetsSeq2 MeetsSeq3 SeqRoads2
section
variable {prog : Program} {w : World} {A : Around} {R : Result → Shared → Prop}
end
section
variable {prog : Program} {w : World} {A : Around} {E : Value → Shared → Prop} {s : Shared}
end
end GQ
end
section
set_option maxHeartbeats 4000000
namespace K03
open PySem PySem.Spec PyProof.Rows L2 LamX NdefX L3
section
variable {P : Program} {w : World} {K : PySem.W.Frag} {mg : Str → Option Value} {base : Heap} {cB cN : Addr}
end
end K03
end
section
set_option maxHeartbeats 4000000
namespace K03
open PySem PySem.Spec PyProof.Rows L2 LamX NdefX L3
section
variable {P : Program} {w : World} {K : PySem.W.Frag} {mg : Str → Option Value} {base : Heap} {cB cN C fI : Addr}
end
end K03
end
section
set_option maxHeartbeats 8000000
set_option exponentiation.threshold 100000
namespace K03
open PySem PySem.Spec PyProof.Rows L2 LamX NdefX L3 PolyM Kron RZ
section
variable {X : Cx} {cB cN C fI : Addr}
end
section
variable {X : Cx} {CX : CXT} {k : Nat} {f C D : Addr} {fd : FuncData} {ps : List Str} {sp : Sp} {E : XK}
end
section
variable {P : Program} {w : World} {K : PySem.W.Frag} {mg : Str → Option Value} {base : Heap} {cB cN C fI CP CM fP fM : Addr}
end
end K03
end
section
set_option maxHeartbeats 8000000
set_option exponentiation.threshold 100000
namespace K03
open PySem PySem.Spec PyProof.Rows L2 LamX NdefX L3 PolyM Kron RZ
section
variable {P : Program} {w : World} {K : PySem.W.Frag} {mg : Str → Option Value} {base : Heap} {cB cN C fI CP CM fP fM : Addr}
end
end K03
end
section
set_option maxHeartbeats 8000000
set_option exponentiation.threshold 100000
namespace K03
open PySem PySem.Spec PyProof.Rows L2 LamX NdefX L3
/-! a list with anything that is no ratio in it (a Poly too) -/
section
variable {X : Cx} {cB cN C fI : Addr} {E : XK}
end
section
variable {P : Program} {w : World} {K : PySem.W.Frag} {mg : Str → Option Value} {base : Heap} {cB cN C fI CP CM fP fM : Addr}
end
section
variable {X : Cx} {cB cN C fI CP CM fP fM : Addr} {e : Expr} {te : TE} {p pos : Pos} {E : XK}
end
end K03
end
section
set_option maxHeartbeats 8000000
namespace K03
open PySem PySem.Spec PyProof.Rows L2 LamX NdefX L3 TL PolyM
theorem call_tupK {X : Cx} (K : PySem.W.Frag) (hK : X.K = K := by rfl) : CallR X (.type "tuple") (fun xs H Q => ∃ p ys, xs = [V.ref p] ∧ ((SqL K H p ys ∧ ∀ l : Addr, H l = none → Q (V.ref l) (upd H l (.tup ys))) ∨ SqT K H p ys ∧ Q (V.ref p) H)) := by
  subst hK
  exact call_tuple_of
abbrev sLInit : Stmt := inClass (top 44) 0
/-- the class Ladder -/
structure LadC (K : PySem.W.Frag) (mg : Str → Option Value) (CL fL : Addr) : Prop where
  made : Mk K CL fL
  c : Cls K CL
  nR : NoAttr K CL "rungs"
  g : mg "Ladder" = some (.ref CL)
def LadAt (C CP CM CL : Addr) (H : Hp) (a : Addr) (rs : List Rg) : Prop := ∃ (dx t : Addr) (xs : List V), H a = some (.ins CL dx [("rungs", .ref t)]) ∧ H t = some (.tup xs) ∧ Paired (RungT C CP CM H) xs rs
theorem LadAt.same {C CP CM CL : Addr} {H H' : Hp} {a : Addr} {rs : List Rg} (h : LadAt C CP CM CL H a rs) (s : Same H H') : LadAt C CP CM CL H' a rs := by
  obtain ⟨dx, t, xs, h1, h2, h3⟩ := h
  exact ⟨dx, t, xs, s _ _ h1, s _ _ h2, Paired.mapP h3 fun _ _ z => z.same s⟩
/-- what is no list stays -/
def SameN (H H' : Hp) : Prop := ∀ b o, H b = some o → (∀ ys, o ≠ .lst ys) → (∀ C d, o ≠ .ins C d []) → H' b = some o
theorem SameN.upd {H : Hp} {D : Addr} {rs ys : List V} (h : H D = some (.lst rs)) : SameN H (upd H D (.lst ys)) := fun b o e n _ => by
  rw [upd_ne fun z => ?_]
  · exact e
  · subst z
    rw [h] at e
    cases e
    exact n _ rfl
theorem SameN.own {H : Hp} {a C d : Addr} {o' : HO} (h : H a = some (.ins C d [])) : SameN H (L2.upd H a o') := fun b o e _ n => by
  rw [upd_ne fun z => ?_]
  · exact e
  · subst z
    rw [h] at e
    cases e
    exact n _ _ rfl
theorem RV.nl {C : Addr} {H H' : Hp} {v : V} {p : Int × Int} (h : RV C H v p) (s : SameN H H') : RV C H' v p := by
  obtain ⟨a, dx, e, h⟩ := h
  exact ⟨a, dx, e, s _ _ h (fun _ z => by cases z) fun _ _ z => by unfold rat at z; cases z⟩
theorem PolyAt.nl {C CP CM : Addr} {H H' : Hp} {a : Addr} {ps : List (Int × Int)} (h : PolyAt C CP CM H a ps) (s : SameN H H') : PolyAt C CP CM H' a ps := by
  obtain ⟨dx, t, xs, mk, dm, tb, h1, h2, h3, h4, h5⟩ := h
  exact ⟨dx, t, xs, mk, dm, tb, s _ _ h1 (fun _ z => by cases z) (fun _ _ z => by cases z), s _ _ h2 (fun _ z => by cases z) (fun _ _ z => by cases z), Paired.mapP h3 fun _ _ z => z.nl s, s _ _ h4 (fun _ z => by cases z) (fun _ _ z => by cases z), s _ _ h5 (fun _ z => by cases z) fun _ _ z => by cases z⟩
theorem RungT.nl {C CP CM : Addr} {H H' : Hp} {v : V} {r : Rg} (h : RungT C CP CM H v r) (s : SameN H H') : RungT C CP CM H' v r := by
  cases r with
  | ex =>
    obtain ⟨t, e, h⟩ := h
    exact ⟨t, e, s _ _ h (fun _ z => by cases z) fun _ _ z => by cases z⟩
  | fac l p =>
    obtain ⟨t, a, dx, e, h, h2⟩ := h
    exact ⟨t, a, dx, e, s _ _ h (fun _ z => by cases z) (fun _ _ z => by cases z), s _ _ h2 (fun _ z => by cases z) fun _ _ z => by unfold rat at z; cases z⟩
  | late l d =>
    obtain ⟨t, e, h⟩ := h
    exact ⟨t, e, s _ _ h (fun _ z => by cases z) fun _ _ z => by cases z⟩
  | add b l ps =>
    obtain ⟨t, a, qs, e, h, h2, h3⟩ := h
    exact ⟨t, a, qs, e, s _ _ h (fun _ z => by cases z) (fun _ _ z => by cases z), h2.nl s, h3⟩
def spLInit (C CP CM CL : Addr) : Sp := fun vs H Q _ => ∃ (a dx l : Addr) (ws : List V) (rs : List Rg) (H0 : Hp), vs = [.ref a, .ref l] ∧ H a = some (.ins CL dx []) ∧ H0 a = none ∧ Same H0 H ∧ H0 l = some (.lst ws) ∧ Paired (RungT C CP CM H0) ws rs ∧ (∀ r ∈ rs, VR r) ∧ rs.length ≤ 100 ∧
  ∀ H', Same H0 H' → LadAt C CP CM CL H' a rs → Q .non H'
section
variable {P : Program} {w : World} {K : PySem.W.Frag} {mg : Str → Option Value} {base : Heap} {cB cN C fI CP CM fP fM CL fL : Addr}
theorem scLInit : FnScope ["self", "rungs", "rung"] ["self", "rungs"] (defScope sLInit) := ⟨rfl, rfl, rfl, by decide +kernel, rfl, by decide +kernel, by decide +kernel⟩
theorem ok_lInit {fd : FuncData} (F : Fun K "__init__" "Ladder.__init__" sLInit fL fd) (B : TxtR mg) (bt : mg "tuple" = none) (T : ErrR P w K mg base cB cN) (LC : LadC K mg CL fL) (hN : Dfn P w K mg base (L2.CX P w) 3 "need_list" ["value"] (spNeedL K cB)) (hR : Dfn P w K mg base CX0 5 "is_rung" ["value"] (spIsRung C CP CM)) :
    FnOk P w K mg base (L2.CX P w) 6 fL fd ["self", "rungs"] (spLInit C CP CM CL) := by
  refine F.okX scLInit (fun vs H Q E h => ?_) (fun cdv A outer s H vs Q E hr h => ?_)
  · obtain ⟨a, dx, l, ws, rs, H0, rfl, _⟩ := h
    rfl
  · obtain ⟨a, dx, l, ws, rs, H0, rfl, ha, na, s0, hl, pw, vr, few, q⟩ := h
    have nd := scLInit.nd
    have hr2 : Room 2 _ := hr.mono (by decide)
    refine ⟨_, pss_cons (ps_for (passes_of rfl) rfl (pi_list (dcE hN hr (by decide) (passK (takes_of rfl rfl rfl rfl)) (pa_cons (pv 1) pa_nil))) (pg_name (i := 2) nd rfl (Or.inl rfl))
        (pss_one (ps_if (pt_not (pt_val (dc hR hr (by decide) (pa_cons (pv 2) pa_nil)))) (pss_one (ps_raise rfl (takes_of rfl rfl rfl rfl) (pmk_retX rfl (pe_one1 T.B hr2 (pv 2))))) pss_nil)))
      (pss_one (ps_fld (pv 0) (pe_callTy call_tuple_of (by rfl) bt (by decide +kernel) (pa_cons (pe_lc (own := [("rung", 2)]) (g := gName 2) (tt := tYes) rfl nd (pi_or (pi_list (pv 1)) (pi_tup (pv 1))) (blkOk_by (N := ["self", "rungs", "rung"]) (sc := defScope sLInit) (by decide +kernel)) (fun _ _ _ _ _ => pg_name (i := 2) nd rfl (Or.inl rfl)) (fun _ _ _ _ _ => pts_nil)
        (fun _ _ _ _ _ => by exact (pe_callTy (call_tupK K) (by rfl) bt (by decide +kernel) (pa_cons (pv 2) pa_nil)))) pa_nil)) rfl)), ?_⟩
    have lw := paired_len pw
    dsimp only [gName]
    refine ⟨_, rfl, .ref l, rfl, .inl ⟨SeqV.isLT ⟨l, rfl, .inl (SqL.of (s0 _ _ hl))⟩, fun H1 s1 => ?_⟩⟩
    have s01 := s0.trans s1
    refine ⟨l, rfl, ⟨ws, SqL.of (s01 _ _ hl)⟩, ?_⟩
    refine for_list (K := K) (a := l) (xs := ws) (fun i σ' H' => Same H1 H' ∧ ∃ o2, σ' = [some (.ref a), some (.ref l), o2]) ⟨fun _ _ e => e, none, rfl⟩ (fun i σ' H' _ p => SqL.of ((s01.trans p.1) _ _ hl)) ?_ ?_
    · rintro i x σ' H2 hx ⟨s2, o2, rfl⟩
      obtain ⟨r, hr', rt⟩ := paired_at pw hx
      refine ⟨_, rfl, x, r, rfl, rt.same (s01.trans s2), vr r (List.mem_of_getElem? hr'), fun H3 s3 => ?_⟩
      refine ⟨true, rfl, ?_⟩
      exact iteF ⟨s2.trans s3, _, rfl⟩
    · rintro σ' H2 ⟨s2, o2, rfl⟩
      have s02 := s01.trans s2
      have ha2 : H2 a = some (.ins CL dx []) := (s1.trans s2) _ _ ha
      dsimp only [sFld, tCB, tCons]
      refine lc_map (Rr := fun _ G y r => RungT C CP CM G y r) (fun R r => ⟨.ref l, rfl, r⟩) ⟨l, rfl, .inl (SqL.of (s02 _ _ hl))⟩ (by rw [lw]; exact Nat.le_trans few (by decide)) lw (fun D G G' y r h s => h.same s) ?_ ?_ ?_
      · intro D G rs' ys y r hD h
        exact h.nl (SameN.upd hD)
      · intro D k x r G rs' Kc hx hb sG hD kc
        obtain ⟨r', hr', rt⟩ := paired_at pw hx
        rw [hb] at hr'
        cases hr'
        have rt2 := rt.same (s02.trans sG)
        obtain ⟨t, z, xs, rfl, ht⟩ := rt2.tup
        exact ⟨_, rfl, t, _, rfl, .inr ⟨SqT.of ht, kc _ _ (fun _ _ e => e) rt2⟩⟩
      · intro D ys G nD sG hD py
        refine ⟨D, ys, rfl, .inl ⟨SqL.of hD, fun t nt => ?_⟩⟩
        have s3 := Same.new (o := .tup ys) (fun _ _ e => e : Same G G) nt
        have ht : upd G t (.tup ys) t = some (.tup ys) := upd_same
        generalize upd G t (.tup ys) = G2 at s3 ht ⊢
        have ha3 : G2 a = some (.ins CL dx []) := s3 _ _ (sG _ _ ha2)
        refine ⟨_, rfl, a, CL, dx, [], rfl, ha3, LC.c, LC.nR, by decide, ?_⟩
        have ta : t ≠ a := fun z => by rw [z, ha3] at ht; cases ht
        have s04 : Same H0 (upd G2 a (.ins CL dx (putF "rungs" (.ref t) []))) := fun b o e => by
          rw [upd_ne (ne_of_none e na)]
          exact s3 _ _ (sG _ _ (s02 _ _ e))
        refine q _ s04 ⟨dx, t, ys, by rw [upd_same]; rfl, by rw [upd_ne ta]; exact ht, ?_⟩
        exact Paired.mapP py fun _ _ z => (z.same s3).nl (SameN.own ha3)
end
end K03
end
section
set_option maxHeartbeats 4000000
set_option exponentiation.threshold 100000
namespace K03
open PySem PySem.Spec PyProof.Rows L2 LamX NdefX L3
abbrev sQ67 : Stmt := top 61
abbrev sTold67 : Stmt := top 65
abbrev sPO67 : Stmt := top 66
abbrev sSmall : Stmt := top 67
theorem shr_sgn {a b : Int} (h : b ≠ 0) : ((Nat.gcd a.natAbs b.natAbs : Nat) : Int) * sgn b = shr a b := by
  unfold shr sgn
  by_cases z : b < 0
  · rw [if_pos z, decide_eq_false (show ¬ b > 0 by omega), decide_eq_true z]
    show _ * (0 - 1) = _
    omega
  · rw [if_neg z, decide_eq_true (show b > 0 by omega), decide_eq_false z]
    show _ * (1 - 0) = _
    omega
theorem sgn_in (b : Int) : -(2 ^ 64) < sgn b ∧ sgn b < 2 ^ 64 := by
  unfold sgn
  cases decide (b > 0) <;> cases decide (b < 0) <;> decide
def spTold67 (C : Addr) : Sp := fun vs H Q _ => ∃ (t : Addr) (p : Int × Int), vs = [.ref t] ∧ Pair H t p ∧ Low p ∧ Sz p.2 ∧ NewR C H Q p
/-- the few of a step's numbers -/
def fewF : List (Int × Int) := [(1, 1), (-1, 1), (2, 1), (1, 2), (-1, 2), (3, 2), (-2, 1), (-1, 3)]
theorem few_ok : ∀ p ∈ fewF, SmlF p := by
  intro p hp
  have l : ∀ p ∈ fewF, 0 < p.2 ∧ Nat.gcd p.1.natAbs p.2.natAbs = 1 ∧ p.2 ∣ ((6 : Nat) : Int) ∧ p.1.natAbs ≤ 3 * p.2.natAbs ∧ p.1 ≠ 0 ∧ 0 < (low p.2 p.1).2 ∧ Nat.gcd (low p.2 p.1).1.natAbs (low p.2 p.1).2.natAbs = 1 ∧ (low p.2 p.1).2 ∣ ((6 : Nat) : Int) ∧ (low p.2 p.1).1.natAbs ≤ 3 * (low p.2 p.1).2.natAbs := by decide
  obtain ⟨h1, h2, h3, h4, h5, h6, h7, h8, h9⟩ := l p hp
  exact ⟨⟨⟨h1, h2⟩, ⟨h3, h4⟩⟩, h5, ⟨⟨h6, h7⟩, ⟨h8, h9⟩⟩⟩
def spSmall : Sp := fun vs H Q _ => ∃ (d c : Addr) (s r : Int) (cells : List Int), vs = [.ref d] ∧ PenAt H d c s r cells ∧ 0 ≤ s ∧ s ≤ 100000 ∧ cells.length ≤ 63 ∧
  ∀ (t : Addr) (p : Int × Int) (s' r' : Int) (H' : Hp), p ∈ fewF → 0 ≤ s' → s' ≤ s + 1 → PenAt H' d c s' r' cells → SameBut d H H' → Pair H' t p → Q (.ref t) H'
section
variable {P : Program} {w : World} {K : PySem.W.Frag} {mg : Str → Option Value} {base : Heap} {cB cN C fI : Addr}
theorem scQ67 : FnScope ["_law_top", "_law_bottom", "_law_factor"] ["_law_top", "_law_bottom"] (defScope sQ67) := ⟨rfl, rfl, rfl, by decide +kernel, rfl, by decide +kernel, by decide +kernel⟩
theorem ok_q67 {f : Addr} {fd : FuncData} (F : Fun K "_law_q" "_law_q" sQ67 f fd) (hG : Dfn P w K mg base CX0 1 "_law_gcd" ["_law_one", "_law_other"] spGcd) (hS : Dfn P w K mg base CX0 1 "_law_sign" ["_law_number_here"] spSgn) :
    FnOk P w K mg base CX0 2 f fd ["_law_top", "_law_bottom"] spLowest := by
  refine F.ok scQ67 (fun vs H Q E h => ?_) (fun cdv A outer s H vs Q E hr h => ?_)
  · obtain ⟨a, b, rfl, _⟩ := h
    rfl
  · obtain ⟨a, b, rfl, h0, hs, q⟩ := h
    have nd := scQ67.nd
    refine ⟨_, pss_cons (ps_set (i := 2) nd rfl (Or.inl rfl) (pe_op op_mul (dc hG hr (by decide) (pa_cons (pv 0) (pa_cons (pv 1) pa_nil))) (dc hS hr (by decide) (pa_cons (pv 1) pa_nil))))
      (pss_one (ps_ret (pe_tup (pa_cons (pe_op op_fdivZ (pv 0) (pv 2)) (pa_cons (pe_op op_fdivZ (pv 1) (pv 2)) pa_nil))))), ?_⟩
    have dv : ∀ i, CDivZ i (shr a b) := fun i => ⟨shr_ne h0, log2_le (shr_le h0) (by have := shr_ne (t := a) h0; omega) hs (by decide)⟩
    refine ⟨_, rfl, _, rfl, a, b, rfl, _, rfl, b, rfl, _, _, rfl, rfl, .inr (sgn_in b), ?_⟩
    dsimp only [gName]
    rw [shr_sgn h0]
    refine ⟨_, rfl, _, rfl, _, _, rfl, rfl, dv _, _, rfl, _, rfl, _, _, rfl, rfl, dv _, by show 2 ≤ sizeLine; decide, fun t ht => ?_⟩
    exact q.at t ht
theorem scTold67 : FnScope ["_law_pair"] ["_law_pair"] (defScope sTold67) := ⟨rfl, rfl, rfl, by decide +kernel, rfl, by decide +kernel, by decide +kernel⟩
theorem ok_told67 {f : Addr} {fd : FuncData} (F : Fun K "_law_told" "_law_told" sTold67 f fd) (R : Rat P w K mg base cB cN C fI) : FnOk P w K mg base CX0 6 f fd ["_law_pair"] (spTold67 C) := by
  refine F.ok scTold67 (fun vs H Q E h => ?_) (fun cdv A outer s H vs Q E hr h => ?_)
  · obtain ⟨t, p, rfl, _⟩ := h
    rfl
  · obtain ⟨t, p, rfl, pt, lp, sz, k⟩ := h
    refine ⟨_, pss_one (ps_ret (pe_rat2 (E := E0) R (hr.mono (by decide)) passL (pe_ix ix_tup (pv 0) pe_int (fun _ _ => rfl)) (pe_ix ix_tup (pv 0) pe_int (fun _ _ => rfl)))), ?_⟩
    refine ⟨_, rfl, t, _, _, _, rfl, rfl, SqT.of pt, rfl, _, rfl, t, _, _, _, rfl, rfl, SqT.of pt, rfl, ?_⟩
    refine .good p.1 p.2 rfl rfl (Int.ne_of_gt lp.pos) sz ?_
    rw [low_self lp]
    exact k
theorem scPO67 : FnScope ["_law_told_here"] ["_law_told_here"] (defScope sPO67) := ⟨rfl, rfl, rfl, by decide +kernel, rfl, by decide +kernel, by decide +kernel⟩
theorem ok_PO67 {f : Addr} {fd : FuncData} (F : Fun K "_law_pair_of" "_law_pair_of" sPO67 f fd) (T : TxtR mg) (R : Rat P w K mg base cB cN C fI) : FnOk P w K mg base CX0 1 f fd ["_law_told_here"] (spPO C) := by
  refine F.ok scPO67 (fun vs H Q E h => ?_) (fun cdv A outer s H vs Q E hr h => ?_)
  · obtain ⟨v, p, rfl, _⟩ := h
    rfl
  · obtain ⟨v, p, rfl, ⟨a, dx, rfl, ha⟩, k⟩ := h
    refine ⟨_, pss_cons (ps_if (PW.pt (pw_or (pt_not (pt_val (pe_callB call_isi (by rfl) T.isi (by decide +kernel) (pa_cons (pv 0) (pa_cons (pe_glob (v := .ref C) (by rfl) R.cls.g rfl) pa_nil)))))
      (pw_or (pt_not (pt_val (pe_callB call_isi (by rfl) T.isi (by decide +kernel) (pa_cons (pe_fld (pv 0) rfl) (pa_cons (pe_bltn (v := .ty "int") (u := .type "int") (by rfl) T.int (by decide +kernel) rfl) pa_nil)))))
      (pw_or1 (pt_not (pt_val (pe_callB call_isi (by rfl) T.isi (by decide +kernel) (pa_cons (pe_fld (pv 0) rfl) (pa_cons (pe_bltn (v := .ty "int") (u := .type "int") (by rfl) T.int (by decide +kernel) rfl) pa_nil))))))))) (pss_one (ps_ret pe_non)) pss_nil)
      (pss_one (ps_ret (pe_tup (pa_cons (pe_fld (pv 0) rfl) (pa_cons (pe_fld (pv 0) rfl) pa_nil))))), ?_⟩
    refine ⟨_, rfl, _, .ref C, .ref C, .ref C, true, rfl, .own C, R.tyx H a dx _ ha, kit_me, true, rfl, iteF ?_⟩
    refine ⟨_, rfl, a, C, dx, _, _, rfl, ha, R.cls.c, R.cls.nT, lkT, _, .ty "int", .type "int", .type "int", true, rfl, .ty _, .base (.int _), kit_ty (by decide +kernel), true, rfl, iteF ?_⟩
    refine ⟨_, rfl, a, C, dx, _, _, rfl, ha, R.cls.c, R.cls.nB, lkBt, _, .ty "int", .type "int", .type "int", true, rfl, .ty _, .base (.int _), kit_ty (by decide +kernel), true, rfl, iteF ?_⟩
    refine ⟨_, rfl, a, C, dx, _, _, rfl, ha, R.cls.c, R.cls.nT, lkT, _, rfl, a, C, dx, _, _, rfl, ha, R.cls.c, R.cls.nB, lkBt, by show 2 ≤ sizeLine; decide, fun t nt => k.at t nt⟩
end
end K03
end
section
set_option maxHeartbeats 8000000
set_option exponentiation.threshold 100000
namespace K03
open PySem PySem.Spec PyProof.Rows L2 LamX NdefX L3
section
variable {P : Program} {w : World} {K : PySem.W.Frag} {mg : Str → Option Value} {base : Heap} {cB cN C fI : Addr}
theorem scSmall : FnScope ["_law_pen"] ["_law_pen"] (defScope sSmall) := ⟨rfl, rfl, rfl, by decide +kernel, rfl, by decide +kernel, by decide +kernel⟩
theorem ok_small {f : Addr} {fd : FuncData} (F : Fun K "_law_small" "_law_small" sSmall f fd) (hP : Dfn P w K mg base CX0 2 "_law_pick" ["_law_pen", "_law_some"] spPick) : FnOk P w K mg base CX0 3 f fd ["_law_pen"] spSmall := by
  refine F.ok scSmall (fun vs H Q E h => ?_) (fun cdv A outer s H vs Q E hr h => ?_)
  · obtain ⟨d, c, s, r, cells, rfl, _⟩ := h
    rfl
  · obtain ⟨d, c, st, r, cells, rfl, p, h0, h1, hl, k⟩ := h
    refine ⟨_, pss_one (ps_ret (dc hP hr (by decide) (pa_cons (pv 0) (pa_cons (pe_lst (pa_cons (pe_tup (pa_cons pe_int (pa_cons pe_int pa_nil))) (pa_cons (pe_tup (pa_cons (pe_un un_neg pe_int) (pa_cons pe_int pa_nil))) (pa_cons (pe_tup (pa_cons pe_int (pa_cons pe_int pa_nil))) (pa_cons (pe_tup (pa_cons pe_int (pa_cons pe_int pa_nil))) (pa_cons (pe_tup (pa_cons (pe_un un_neg pe_int) (pa_cons pe_int pa_nil))) (pa_cons (pe_tup (pa_cons pe_int (pa_cons pe_int pa_nil))) (pa_cons (pe_tup (pa_cons (pe_un un_neg pe_int) (pa_cons pe_int pa_nil))) (pa_cons (pe_tup (pa_cons (pe_un un_neg pe_int) (pa_cons pe_int pa_nil))) pa_nil))))))))) pa_nil)))), ?_⟩
    refine ⟨_, rfl, ?_⟩
    refine ⟨by show 2 ≤ sizeLine; decide, fun t1 n1 => ?_⟩
    have s1 := Same.new (o := .tup [.int (1), .int 1]) (fun _ _ e => e : Same H H) n1
    have e1 : upd H t1 (.tup [.int (1), .int 1]) t1 = some (.tup [.int (1), .int 1]) := upd_same
    revert s1 e1
    show Same H (upd H t1 (.tup [.int (1), .int 1])) → upd H t1 (.tup [.int (1), .int 1]) t1 = some (.tup [.int (1), .int 1]) → _
    intro s1 e1
    generalize upd H t1 (.tup [.int (1), .int 1]) = G1 at s1 e1 ⊢
    refine ⟨1, rfl, by show 2 ≤ sizeLine; decide, fun t2 n2 => ?_⟩
    have s2 := Same.new (o := .tup [.int (-1), .int 1]) (fun _ _ e => e : Same G1 G1) n2
    have e2 : upd G1 t2 (.tup [.int (-1), .int 1]) t2 = some (.tup [.int (-1), .int 1]) := upd_same
    revert s2 e2
    show Same G1 (upd G1 t2 (.tup [.int (-1), .int 1])) → upd G1 t2 (.tup [.int (-1), .int 1]) t2 = some (.tup [.int (-1), .int 1]) → _
    intro s2 e2
    generalize upd G1 t2 (.tup [.int (-1), .int 1]) = G2 at s2 e2 ⊢
    refine ⟨by show 2 ≤ sizeLine; decide, fun t3 n3 => ?_⟩
    have s3 := Same.new (o := .tup [.int (2), .int 1]) (fun _ _ e => e : Same G2 G2) n3
    have e3 : upd G2 t3 (.tup [.int (2), .int 1]) t3 = some (.tup [.int (2), .int 1]) := upd_same
    revert s3 e3
    show Same G2 (upd G2 t3 (.tup [.int (2), .int 1])) → upd G2 t3 (.tup [.int (2), .int 1]) t3 = some (.tup [.int (2), .int 1]) → _
    intro s3 e3
    generalize upd G2 t3 (.tup [.int (2), .int 1]) = G3 at s3 e3 ⊢
    refine ⟨by show 2 ≤ sizeLine; decide, fun t4 n4 => ?_⟩
    have s4 := Same.new (o := .tup [.int (1), .int 2]) (fun _ _ e => e : Same G3 G3) n4
    have e4 : upd G3 t4 (.tup [.int (1), .int 2]) t4 = some (.tup [.int (1), .int 2]) := upd_same
    revert s4 e4
    show Same G3 (upd G3 t4 (.tup [.int (1), .int 2])) → upd G3 t4 (.tup [.int (1), .int 2]) t4 = some (.tup [.int (1), .int 2]) → _
    intro s4 e4
    generalize upd G3 t4 (.tup [.int (1), .int 2]) = G4 at s4 e4 ⊢
    refine ⟨1, rfl, by show 2 ≤ sizeLine; decide, fun t5 n5 => ?_⟩
    have s5 := Same.new (o := .tup [.int (-1), .int 2]) (fun _ _ e => e : Same G4 G4) n5
    have e5 : upd G4 t5 (.tup [.int (-1), .int 2]) t5 = some (.tup [.int (-1), .int 2]) := upd_same
    revert s5 e5
    show Same G4 (upd G4 t5 (.tup [.int (-1), .int 2])) → upd G4 t5 (.tup [.int (-1), .int 2]) t5 = some (.tup [.int (-1), .int 2]) → _
    intro s5 e5
    generalize upd G4 t5 (.tup [.int (-1), .int 2]) = G5 at s5 e5 ⊢
    refine ⟨by show 2 ≤ sizeLine; decide, fun t6 n6 => ?_⟩
    have s6 := Same.new (o := .tup [.int (3), .int 2]) (fun _ _ e => e : Same G5 G5) n6
    have e6 : upd G5 t6 (.tup [.int (3), .int 2]) t6 = some (.tup [.int (3), .int 2]) := upd_same
    revert s6 e6
    show Same G5 (upd G5 t6 (.tup [.int (3), .int 2])) → upd G5 t6 (.tup [.int (3), .int 2]) t6 = some (.tup [.int (3), .int 2]) → _
    intro s6 e6
    generalize upd G5 t6 (.tup [.int (3), .int 2]) = G6 at s6 e6 ⊢
    refine ⟨2, rfl, by show 2 ≤ sizeLine; decide, fun t7 n7 => ?_⟩
    have s7 := Same.new (o := .tup [.int (-2), .int 1]) (fun _ _ e => e : Same G6 G6) n7
    have e7 : upd G6 t7 (.tup [.int (-2), .int 1]) t7 = some (.tup [.int (-2), .int 1]) := upd_same
    revert s7 e7
    show Same G6 (upd G6 t7 (.tup [.int (-2), .int 1])) → upd G6 t7 (.tup [.int (-2), .int 1]) t7 = some (.tup [.int (-2), .int 1]) → _
    intro s7 e7
    generalize upd G6 t7 (.tup [.int (-2), .int 1]) = G7 at s7 e7 ⊢
    refine ⟨1, rfl, by show 2 ≤ sizeLine; decide, fun t8 n8 => ?_⟩
    have s8 := Same.new (o := .tup [.int (-1), .int 3]) (fun _ _ e => e : Same G7 G7) n8
    have e8 : upd G7 t8 (.tup [.int (-1), .int 3]) t8 = some (.tup [.int (-1), .int 3]) := upd_same
    revert s8 e8
    show Same G7 (upd G7 t8 (.tup [.int (-1), .int 3])) → upd G7 t8 (.tup [.int (-1), .int 3]) t8 = some (.tup [.int (-1), .int 3]) → _
    intro s8 e8
    generalize upd G7 t8 (.tup [.int (-1), .int 3]) = G8 at s8 e8 ⊢
    refine ⟨by show 8 ≤ sizeLine; decide, fun l nl => ?_⟩
    have sl := Same.new (o := .lst [V.ref t1, V.ref t2, V.ref t3, V.ref t4, V.ref t5, V.ref t6, V.ref t7, V.ref t8]) (fun _ _ e => e : Same G8 G8) nl
    have s07 := s1.trans (s2.trans (s3.trans (s4.trans (s5.trans (s6.trans (s7.trans (s8)))))))
    have s0 := s07.trans sl
    refine ⟨d, c, l, st, r, cells, [V.ref t1, V.ref t2, V.ref t3, V.ref t4, V.ref t5, V.ref t6, V.ref t7, V.ref t8], rfl, p.to s0, h0, h1, hl, upd_same, by show 0 < 8; decide, by show 8 ≤ 1000; decide, fun v s' r' H' hv a3 a4 a5 a6 => ?_⟩
    have nd : ∀ {t : Addr} {xs : List V}, upd G8 l (.lst [V.ref t1, V.ref t2, V.ref t3, V.ref t4, V.ref t5, V.ref t6, V.ref t7, V.ref t8]) t = some (.tup xs) → t ≠ d := fun e z => by rw [z, (p.to s0).dc] at e; cases e
    have f1 := (s2.trans (s3.trans (s4.trans (s5.trans (s6.trans (s7.trans (s8.trans sl))))))) _ _ e1
    have f2 := (s3.trans (s4.trans (s5.trans (s6.trans (s7.trans (s8.trans sl)))))) _ _ e2
    have f3 := (s4.trans (s5.trans (s6.trans (s7.trans (s8.trans sl))))) _ _ e3
    have f4 := (s5.trans (s6.trans (s7.trans (s8.trans sl)))) _ _ e4
    have f5 := (s6.trans (s7.trans (s8.trans sl))) _ _ e5
    have f6 := (s7.trans (s8.trans sl)) _ _ e6
    have f7 := (s8.trans sl) _ _ e7
    have f8 := sl _ _ e8
    simp only [List.mem_cons, List.not_mem_nil, or_false] at hv
    rcases hv with rfl | rfl | rfl | rfl | rfl | rfl | rfl | rfl
    · exact k t1 (1, 1) s' r' H' (by decide) a3 a4 a5 ((SameBut.by s0).tr a6) (a6 _ _ f1 (nd f1))
    · exact k t2 (-1, 1) s' r' H' (by decide) a3 a4 a5 ((SameBut.by s0).tr a6) (a6 _ _ f2 (nd f2))
    · exact k t3 (2, 1) s' r' H' (by decide) a3 a4 a5 ((SameBut.by s0).tr a6) (a6 _ _ f3 (nd f3))
    · exact k t4 (1, 2) s' r' H' (by decide) a3 a4 a5 ((SameBut.by s0).tr a6) (a6 _ _ f4 (nd f4))
    · exact k t5 (-1, 2) s' r' H' (by decide) a3 a4 a5 ((SameBut.by s0).tr a6) (a6 _ _ f5 (nd f5))
    · exact k t6 (3, 2) s' r' H' (by decide) a3 a4 a5 ((SameBut.by s0).tr a6) (a6 _ _ f6 (nd f6))
    · exact k t7 (-2, 1) s' r' H' (by decide) a3 a4 a5 ((SameBut.by s0).tr a6) (a6 _ _ f7 (nd f7))
    · exact k t8 (-1, 3) s' r' H' (by decide) a3 a4 a5 ((SameBut.by s0).tr a6) (a6 _ _ f8 (nd f8))
end
end K03
end
section
set_option maxHeartbeats 4000000
namespace K03
open PySem PySem.Spec PyProof.Rows L2
theorem cv_more {ps xs : List (Int × Int)} (hp : ∀ p ∈ ps, Low p) (hx : ∀ p ∈ xs, Low p) {t k : Nat} (hk : k ≤ t) (z : ∀ j, k ≤ j → j ≤ t → xs.getD (t - j) (0, 1) = (0, 1)) : ∀ m, k + m ≤ t + 1 → cv ps xs t (k + m) = cv ps xs t k
  | 0, _ => rfl
  | m + 1, h => by
    show padd (cv ps xs t (k + m)) (pmul (ps.getD (k + m) (0, 1)) (xs.getD (t - (k + m)) (0, 1))) = _
    rw [z (k + m) (by omega) (by omega), pmul_zero (getD_mem hp low01), padd_zero (cv_low hp hx t _), cv_more hp hx hk z m (by omega)]
theorem cv_none {ps xs : List (Int × Int)} (hp : ∀ p ∈ ps, Low p) (hx : ∀ p ∈ xs, Low p) {t : Nat} (z : ∀ j, j ≤ t → xs.getD (t - j) (0, 1) = (0, 1)) : ∀ k, k ≤ t + 1 → cv ps xs t k = (0, 1)
  | 0, _ => rfl
  | k + 1, h => by
    show padd (cv ps xs t k) (pmul (ps.getD k (0, 1)) (xs.getD (t - k) (0, 1))) = _
    rw [z k (by omega), pmul_zero (getD_mem hp low01), padd_zero (cv_low hp hx t _), cv_none hp hx z k (by omega)]
theorem lag_low {d : Nat} {xs : List (Int × Int)} (h : ∀ p ∈ xs, Low p) : ∀ p ∈ lag d xs, Low p := fun p hp => by
  rcases List.mem_append.mp (List.mem_of_mem_take hp) with q | q
  · rw [(List.mem_replicate.mp q).2]
    exact low01
  · exact h p q
theorem cv_lag {ps xs : List (Int × Int)} {d t : Nat} (ht : t < xs.length) (hd : d ≤ t) : ∀ k, k ≤ t - d + 1 → cv ps (lag d xs) t k = cv ps xs (t - d) k
  | 0, _ => rfl
  | k + 1, h => by
    show padd (cv ps (lag d xs) t k) (pmul (ps.getD k (0, 1)) ((lag d xs).getD (t - k) (0, 1))) = padd (cv ps xs (t - d) k) (pmul (ps.getD k (0, 1)) (xs.getD (t - d - k) (0, 1)))
    rw [getD_lag (by omega), if_neg (by omega), cv_lag ht hd k (by omega)]
    have e : t - k - d = t - d - k := by omega
    rw [e]
theorem amt_lag {ps xs : List (Int × Int)} {d : Nat} (hp : ∀ p ∈ ps, Low p) (hx : ∀ p ∈ xs, Low p) : amt ps (lag d xs) = lag d (amt ps xs) := by
  refine ext_getD (by rw [len_amt, len_lag, len_lag, len_amt]) fun t ht => ?_
  rw [len_amt, len_lag] at ht
  have hl := lag_low (d := d) hx
  rw [getD_amt (by rw [len_lag]; exact ht), getD_lag (by rw [len_amt]; exact ht)]
  by_cases q : t < d
  · rw [if_pos q, cv_none hp hl (fun j hj => by rw [getD_lag (by omega), if_pos (by omega)]) _ (by omega), rnd_zero]
  · rw [if_neg q, getD_amt (by omega)]
    congr 1
    by_cases m : ps.length ≤ t - d + 1
    · rw [show min (t + 1) ps.length = ps.length by omega, show min (t - d + 1) ps.length = ps.length by omega]
      exact cv_lag ht (by omega) _ m
    · obtain ⟨e, he⟩ : ∃ e, min (t + 1) ps.length = (t - d + 1) + e := ⟨min (t + 1) ps.length - (t - d + 1), by omega⟩
      rw [he, show min (t - d + 1) ps.length = t - d + 1 by omega]
      by_cases dz : d = 0
      · subst dz
        have e0 : e = 0 := by omega
        subst e0
        exact cv_lag ht (by omega) _ (Nat.le_refl _)
      · rw [cv_more hp hl (k := t - d + 1) (by omega) (fun j h1 h2 => by rw [getD_lag (by omega), if_pos (by omega)]) e (by omega)]
        exact cv_lag ht (by omega) _ (Nat.le_refl _)
theorem map_lag {p : Int × Int} {xs : List (Int × Int)} {d : Nat} (hp : Low p) : (lag d xs).map (pmul p) = lag d (xs.map (pmul p)) := by
  refine ext_getD (by rw [List.length_map, len_lag, len_lag, List.length_map]) fun k hk => ?_
  rw [List.length_map, len_lag] at hk
  rw [getD_map (by rw [len_lag]; exact hk), getD_lag hk, getD_lag (by rw [List.length_map]; exact hk)]
  by_cases q : k < d
  · rw [if_pos q, if_pos q, pmul_zero hp]
  · rw [if_neg q, if_neg q, getD_map (by omega)]
theorem bld_lag {a b : List (Int × Int)} {s : Int × Int} {d : Nat} (hs : Low s) (l : a.length = b.length) : bld (lag d a) (lag d b) s = lag d (bld a b s) := by
  refine ext_getD (by rw [len_bld, len_lag, len_lag, len_bld]) fun k hk => ?_
  rw [len_bld, len_lag] at hk
  rw [getD_bld (by rw [len_lag]; exact hk), getD_lag hk, getD_lag (by omega), getD_lag (by rw [len_bld]; exact hk)]
  by_cases q : k < d
  · rw [if_pos q, if_pos q, if_pos q, pmul_zero hs, padd_zero low01]
  · rw [if_neg q, if_neg q, if_neg q, getD_bld (by omega)]
/-- both lanes alike long, in lowest terms -/
structure LnOk (n : Nat) (x : Ln2) : Prop where
  a : x.1.length = n
  b : x.2.length = n
  la : ∀ p ∈ x.1, Low p
  lb : ∀ p ∈ x.2, Low p
def lag2 (d : Nat) (x : Ln2) : Ln2 := (lag d x.1, lag d x.2)
theorem bld_low {a b : List (Int × Int)} {s : Int × Int} (ha : ∀ p ∈ a, Low p) (hb : ∀ p ∈ b, Low p) (hs : Low s) : ∀ p ∈ bld a b s, Low p := fun p hp => by
  obtain ⟨k, _, rfl⟩ := List.mem_map.mp hp
  exact padd_low (getD_mem ha low01) (pmul_low hs (getD_mem hb low01))
theorem amt_low {ps xs : List (Int × Int)} : ∀ p ∈ amt ps xs, Low p := fun p hp => by
  obtain ⟨k, _, rfl⟩ := List.mem_map.mp hp
  exact rnd_low
theorem LnOk.onL {n l : Nat} {x : Ln2} {f : List (Int × Int) → List (Int × Int) → List (Int × Int)} (h : LnOk n x) (hf : ∀ u v : List (Int × Int), u.length = n → v.length = n → (∀ p ∈ u, Low p) → (∀ p ∈ v, Low p) → (f u v).length = n ∧ ∀ p ∈ f u v, Low p) : LnOk n (onL l f x) := by
  unfold K03.onL
  by_cases q : l = 0
  · rw [if_pos q]
    obtain ⟨h1, h2⟩ := hf _ _ h.a h.b h.la h.lb
    exact ⟨h1, h.b, h2, h.lb⟩
  · rw [if_neg q]
    obtain ⟨h1, h2⟩ := hf _ _ h.b h.a h.lb h.la
    exact ⟨h.a, h1, h.la, h2⟩
theorem LnOk.stp {n : Nat} {x : Ln2} {r : Rg} (h : LnOk n x) (hr : VR r) : LnOk n (stp r x) := by
  cases r with
  | ex => exact ⟨h.b, h.a, h.lb, h.la⟩
  | fac l p => exact h.onL fun u v e _ hu _ => ⟨by rw [List.length_map]; exact e, fun q hq => by
      obtain ⟨z, hz, rfl⟩ := List.mem_map.mp hq
      exact pmul_low hr.2.s.l (hu z hz)⟩
  | late l d => exact h.onL fun u v e _ hu _ => ⟨by rw [len_lag]; exact e, lag_low hu⟩
  | add b l ps => exact LnOk.onL (f := fun h o => bld h (amt ps o) (sgnR b)) h fun u v e _ hu _ => ⟨by rw [len_bld]; exact e, bld_low hu amt_low sgn_low⟩
theorem onL_lag {n l d : Nat} {x : Ln2} {f : List (Int × Int) → List (Int × Int) → List (Int × Int)} (h : LnOk n x) (hf : ∀ u v : List (Int × Int), u.length = n → v.length = n → (∀ p ∈ u, Low p) → (∀ p ∈ v, Low p) → f (lag d u) (lag d v) = lag d (f u v)) : onL l f (lag2 d x) = lag2 d (onL l f x) := by
  unfold onL
  by_cases q : l = 0
  · rw [if_pos q, if_pos q]
    exact Prod.ext (hf _ _ h.a h.b h.la h.lb) rfl
  · rw [if_neg q, if_neg q]
    exact Prod.ext rfl (hf _ _ h.b h.a h.lb h.la)
theorem stp_lag {n d : Nat} {x : Ln2} {r : Rg} (h : LnOk n x) (hr : VR r) : stp r (lag2 d x) = lag2 d (stp r x) := by
  cases r with
  | ex => rfl
  | fac l p => exact onL_lag (f := fun h _ => h.map (pmul p)) h fun u v _ _ _ _ => map_lag hr.2.s.l
  | late l e =>
    show onL l (fun h _ => lag e h) (lag2 d x) = lag2 d (onL l (fun h _ => lag e h) x)
    refine onL_lag h fun u v _ _ _ _ => ?_
    show lag e (lag d u) = lag d (lag e u)
    rw [lag_lag, lag_lag, Nat.add_comm]
  | add b l ps =>
    show onL l (fun h o => bld h (amt ps o) (sgnR b)) (lag2 d x) = lag2 d (onL l (fun h o => bld h (amt ps o) (sgnR b)) x)
    refine onL_lag h fun u v e1 e2 hu hv => ?_
    show bld (lag d u) (amt ps (lag d v)) (sgnR b) = lag d (bld u (amt ps v) (sgnR b))
    rw [amt_lag (fun p hp => (hr.2.2 p hp).l) hv, bld_lag sgn_low (by rw [len_amt]; omega)]
theorem lag2_lag {d e : Nat} {x : Ln2} : lag2 d (lag2 e x) = lag2 (d + e) x := Prod.ext lag_lag lag_lag
theorem lag2_zero {x : Ln2} : lag2 0 x = x := Prod.ext lag_zero lag_zero
theorem val_inv {p : Int × Int} (hp : Low p) (n : p.1 ≠ 0) : val (low p.2 p.1) * val p = 1 := by
  rw [val_low n]
  unfold val
  have h1 := cast_ne n
  have h2 := cast_ne hp.ne
  grind
theorem onL_ok {n l : Nat} {x : Ln2} {f g : List (Int × Int) → List (Int × Int) → List (Int × Int)} (hx : LnOk n x) (h : ∀ u v : List (Int × Int), u.length = n → v.length = n → (∀ p ∈ u, Low p) → (∀ p ∈ v, Low p) → g (f u v) v = u) : onL l g (onL l f x) = x := by
  unfold onL
  by_cases q : l = 0
  · rw [if_pos q, if_pos q]
    exact Prod.ext (h _ _ hx.a hx.b hx.la hx.lb) rfl
  · rw [if_neg q, if_neg q]
    exact Prod.ext rfl (h _ _ hx.b hx.a hx.lb hx.la)
theorem inv_stp {n : Nat} {x : Ln2} {r : Rg} (h : LnOk n x) (hr : VR r) : stp (ivR r) (stp r x) = lag2 (lateR r) x := by
  cases r with
  | ex => exact lag2_zero.symm
  | fac l p =>
    show onL l (fun h _ => h.map (pmul (low p.2 p.1))) (onL l (fun h _ => h.map (pmul p)) x) = lag2 0 x
    refine Eq.trans (onL_ok h fun u v e1 _ hu _ => ?_) lag2_zero.symm
    refine ext_getD (by rw [List.length_map, List.length_map]) fun k hk => ?_
    rw [List.length_map, List.length_map] at hk
    rw [getD_map (by rw [List.length_map]; exact hk), getD_map hk]
    have lk : Low (u.getD k (0, 1)) := getD_mem hu low01
    refine val_inj (pmul_low hr.2.i.l (pmul_low hr.2.s.l lk)) lk ?_
    rw [val_mul hr.2.i.l (pmul_low hr.2.s.l lk), val_mul hr.2.s.l lk]
    have z := val_inv hr.2.s.l hr.2.n
    grind
  | late l d =>
    have hl := hr.1
    show onL (1 - l) (fun h _ => lag d h) (onL l (fun h _ => lag d h) x) = _
    unfold onL
    by_cases q : l = 0
    · subst q
      rfl
    · have l1 : l = 1 := by omega
      subst l1
      rfl
  | add b l ps =>
    show onL l (fun h o => bld h (amt ps o) (sgnR (!b))) (onL l (fun h o => bld h (amt ps o) (sgnR b)) x) = lag2 0 x
    refine Eq.trans (onL_ok h fun u v e1 e2 hu _ => ?_) lag2_zero.symm
    refine ext_getD (by rw [len_bld, len_bld]) fun k hk => ?_
    rw [len_bld, len_bld] at hk
    rw [getD_bld (by rw [len_bld]; exact hk), getD_bld hk]
    have lk : Low (u.getD k (0, 1)) := getD_mem hu low01
    have la : Low ((amt ps v).getD k (0, 1)) := getD_mem amt_low low01
    have s1 : Low (pmul (sgnR b) ((amt ps v).getD k (0, 1))) := pmul_low sgn_low la
    have s2 : Low (pmul (sgnR (!b)) ((amt ps v).getD k (0, 1))) := pmul_low sgn_low la
    refine val_inj (padd_low (padd_low lk s1) s2) lk ?_
    rw [val_add (padd_low lk s1) s2, val_add lk s1, val_mul sgn_low la, val_mul sgn_low la, val_sgn, val_sgn]
    cases b
    · show _ + (-1) * _ + 1 * _ = _
      grind
    · show _ + 1 * _ + (-1) * _ = _
      grind
theorem LnOk.rn {n : Nat} : ∀ {rs : List Rg} {x : Ln2}, LnOk n x → (∀ r ∈ rs, VR r) → LnOk n (rnL rs x)
  | [], _, h, _ => h
  | r :: rs, x, h, hr => LnOk.rn (rs := rs) (h.stp (hr r List.mem_cons_self)) fun q hq => hr q (List.mem_cons_of_mem _ hq)
theorem ivR_ok {r : Rg} (h : VR r) : VR (ivR r) := by
  cases r with
  | ex => exact trivial
  | fac l p =>
    have e : low (low p.2 p.1).2 (low p.2 p.1).1 = p := by
      refine low_of ?_ h.2.s.l ?_
      · intro z
        have := (low_zero (t := p.2) h.2.n).mp z
        exact h.2.s.l.ne this
      · have z := low_cross (t := p.2) (b := p.1) h.2.n
        rw [Int.mul_comm, ← z, Int.mul_comm]
    refine ⟨h.1, h.2.i, fun z => h.2.s.l.ne ((low_zero (t := p.2) h.2.n).mp z), ?_⟩
    show Sml (low (low p.2 p.1).2 (low p.2 p.1).1)
    rw [e]
    exact h.2.s
  | late l d => exact ⟨by show 1 - l ≤ 1; omega, h.2⟩
  | add b l ps => exact h
theorem rn_app {as bs : List Rg} {x : Ln2} : rnL (as ++ bs) x = rnL bs (rnL as x) := List.foldl_append
def lateAll (rs : List Rg) : Nat := (rs.map lateR).sum
/-- what is taken back comes back, late by the lateness -/
theorem back_all {n : Nat} : ∀ {rs : List Rg} {x : Ln2}, LnOk n x → (∀ r ∈ rs, VR r) → rnL (rs.reverse.map ivR) (rnL rs x) = lag2 (lateAll rs) x
  | [], x, _, _ => lag2_zero.symm
  | r :: rs, x, h, hr => by
    have h1 := h.stp (hr r List.mem_cons_self)
    have z := back_all (rs := rs) h1 fun q hq => hr q (List.mem_cons_of_mem _ hq)
    rw [List.reverse_cons, List.map_append, rn_app]
    show rnL [ivR r] (rnL (rs.reverse.map ivR) (rnL rs (stp r x))) = _
    rw [z]
    show stp (ivR r) (lag2 (lateAll rs) (stp r x)) = _
    rw [stp_lag h1 (ivR_ok (hr r List.mem_cons_self)), inv_stp h (hr r List.mem_cons_self), lag2_lag]
    show lag2 _ x = lag2 ((lateR r) + (rs.map lateR).sum) x
    rw [Nat.add_comm]
    rfl
end K03
end
section
set_option maxHeartbeats 4000000
namespace K03
open PySem PySem.Spec PyProof.Rows L2 PolyM
/-! ### rounding -/
theorem fdiv_of {t b g l m : Int} (hg : 0 < g) (ht : t = g * l) (hb : b = g * m) : t.fdiv b = l.fdiv m := by
  rw [ht, hb]
  exact Int.mul_fdiv_mul_of_pos _ _ hg
theorem shr_pos {t b : Int} (hb : 0 < b) : 0 < shr t b := by
  have h := low_r (t := t) (b := b) (by omega)
  have p := low_pos (t := t) (b := b) (by omega)
  refine Int.not_le.mp fun z => ?_
  have : shr t b * (low t b).2 ≤ 0 := Int.mul_nonpos_of_nonpos_of_nonneg z (by omega)
  omega
theorem low_fdiv {t b : Int} (hb : 0 < b) : (low t b).1.fdiv (low t b).2 = t.fdiv b := (fdiv_of (shr_pos hb) (low_l (by omega)) (low_r (by omega))).symm
theorem half_up {p : Int × Int} (h : Low p) : ((padd p (1, 2)).1.fdiv (padd p (1, 2)).2, (1 : Int)) = rnd p := by
  have hp := h.pos
  have e : padd p (1, 2) = low (p.1 * 2 + 1 * p.2) (p.2 * 2) := rfl
  rw [e, low_fdiv (by omega)]
  unfold rnd
  rw [show p.1 * 2 + 1 * p.2 = 2 * p.1 + p.2 by omega, show p.2 * 2 = 2 * p.2 by omega]
theorem rnd_size {N S : Nat} {p : Int × Int} (h : Low p) (b : Bd N S p) : Bd 1 (S + 1) (rnd p) := by
  refine ⟨Int.dvd_refl 1, ?_⟩
  show ((2 * p.1 + p.2).fdiv (2 * p.2)).natAbs ≤ (S + 1) * 1
  have hp := h.pos
  have s := b.s
  have d : (0 : Int) < 2 * p.2 := by omega
  have dm := Int.mul_fdiv_add_fmod (2 * p.1 + p.2) (2 * p.2)
  have n1 := Int.fmod_nonneg_of_pos (2 * p.1 + p.2) d
  have n2 := Int.fmod_lt_of_pos (2 * p.1 + p.2) d
  have cm := Int.mul_comm ((2 * p.1 + p.2).fdiv (2 * p.2)) (2 * p.2)
  have q1 : (2 * p.1 + p.2).fdiv (2 * p.2) * (2 * p.2) ≤ 2 * p.1 + p.2 := by omega
  have q2 : 2 * p.1 + p.2 < ((2 * p.1 + p.2).fdiv (2 * p.2) + 1) * (2 * p.2) := by
    rw [Int.add_mul, Int.one_mul]
    omega
  generalize (2 * p.1 + p.2).fdiv (2 * p.2) = z at q1 q2 ⊢
  have sI : (p.1.natAbs : Int) ≤ (S : Int) * p.2 := by
    have e : ((p.2.natAbs : Nat) : Int) = p.2 := Int.natAbs_of_nonneg (by omega)
    have := Int.ofNat_le.mpr s
    rw [Int.natCast_mul, e] at this
    exact this
  have u1 : p.1 ≤ (S : Int) * p.2 := by omega
  have u2 : -((S : Int) * p.2) ≤ p.1 := by omega
  have z1 : z ≤ (S : Int) + 1 := by
    refine Int.not_lt.mp fun c => ?_
    have m : ((S : Int) + 2) * (2 * p.2) ≤ z * (2 * p.2) := Int.mul_le_mul_of_nonneg_right (by omega) (by omega)
    have e : ((S : Int) + 2) * (2 * p.2) = 2 * ((S : Int) * p.2) + 4 * p.2 := by grind
    omega
  have z2 : -((S : Int) + 1) ≤ z := by
    refine Int.not_lt.mp fun c => ?_
    have m : (z + 1) * (2 * p.2) ≤ (-((S : Int) + 1)) * (2 * p.2) := Int.mul_le_mul_of_nonneg_right (by omega) (by omega)
    have e : (-((S : Int) + 1)) * (2 * p.2) = -(2 * ((S : Int) * p.2)) - 2 * p.2 := by grind
    omega
  omega
/-! ### sizes -/
structure BdL (M R : Nat) (xs : List (Int × Int)) : Prop where
  l : ∀ p ∈ xs, Low p
  b : ∀ p ∈ xs, Bd M R p
theorem BdL.at_ {M R : Nat} {xs : List (Int × Int)} (h : BdL M R xs) (k : Nat) : Low (xs.getD k (0, 1)) ∧ Bd M R (xs.getD k (0, 1)) := ⟨getD_mem h.l low01, getD_mem h.b Bd.zero⟩
theorem BdL.mono {M R N S : Nat} {xs : List (Int × Int)} (h : BdL M R xs) (d : M ∣ N) (l : R ≤ S) : BdL N S xs := ⟨h.l, fun p hp => (h.b p hp).mono d l⟩
theorem cv_bd {M R : Nat} {ps xs : List (Int × Int)} (hp : ∀ p ∈ ps, Sml p) (hx : BdL M R xs) (t : Nat) : ∀ k, Bd (6 * M) (k * (3 * R)) (cv ps xs t k)
  | 0 => Bd.zero
  | k + 1 => by
    have lp : Low (ps.getD k (0, 1)) := getD_mem (fun p h => (hp p h).l) low01
    have bp : Bd 6 3 (ps.getD k (0, 1)) := getD_mem (fun p h => (hp p h).b) Bd.zero
    obtain ⟨lx, bx⟩ := hx.at_ (t - k)
    have z := Bd.add (cv_low (fun p h => (hp p h).l) hx.l t k) (pmul_low lp lx) (cv_bd hp hx t k) (Bd.mul lp lx bp bx)
    rw [show (k + 1) * (3 * R) = k * (3 * R) + 3 * R by rw [Nat.add_mul, Nat.one_mul]]
    exact z
theorem amt_bd {M R : Nat} {ps xs : List (Int × Int)} (hp : ∀ p ∈ ps, Sml p) (l3 : ps.length ≤ 3) (hx : BdL M R xs) : BdL 1 (9 * R + 1) (amt ps xs) := by
  refine ⟨amt_low, fun p h => ?_⟩
  obtain ⟨t, _, rfl⟩ := List.mem_map.mp h
  have c := cv_bd hp hx t (min (t + 1) ps.length)
  refine rnd_size (cv_low (fun p h => (hp p h).l) hx.l t _) (c.mono (Nat.dvd_refl _) ?_)
  have : min (t + 1) ps.length * (3 * R) ≤ 3 * (3 * R) := Nat.mul_le_mul_right _ (by omega)
  omega
theorem sgn_bd {b : Bool} : Bd 1 1 (sgnR b) := by
  cases b <;> exact ⟨by decide, by decide⟩
theorem bld_bd {M R S : Nat} {a b : List (Int × Int)} {s : Bool} (ha : BdL M R a) (hb : BdL 1 S b) : BdL M (R + S) (bld a b (sgnR s)) := by
  refine ⟨bld_low ha.l hb.l sgn_low, fun p h => ?_⟩
  obtain ⟨k, _, rfl⟩ := List.mem_map.mp h
  obtain ⟨l1, b1⟩ := ha.at_ k
  obtain ⟨l2, b2⟩ := hb.at_ k
  have z := Bd.mul sgn_low l2 (sgn_bd (b := s)) b2
  rw [Nat.one_mul, Nat.one_mul] at z
  exact Bd.add l1 (pmul_low sgn_low l2) b1 (z.mono (Nat.one_dvd _) (Nat.le_refl _))
structure Bd2 (M R : Nat) (x : Ln2) : Prop where
  a : BdL M R x.1
  b : BdL M R x.2
theorem Bd2.onL {M R N S l : Nat} {x : Ln2} {f : List (Int × Int) → List (Int × Int) → List (Int × Int)} (h : Bd2 M R x) (d : M ∣ N) (r : R ≤ S) (hf : ∀ u v, BdL M R u → BdL M R v → BdL N S (f u v)) : Bd2 N S (onL l f x) := by
  unfold K03.onL
  by_cases q : l = 0
  · rw [if_pos q]
    exact ⟨hf _ _ h.a h.b, h.b.mono d r⟩
  · rw [if_neg q]
    exact ⟨h.a.mono d r, hf _ _ h.b h.a⟩
theorem Bd2.stp {M R : Nat} {x : Ln2} {r : Rg} (h : Bd2 M R x) (hR : 1 ≤ R) (hr : VR r) : Bd2 (M * 6) (R * 11) (stp r x) := by
  have dM : M ∣ M * 6 := Nat.dvd_mul_right _ _
  have dR : R ≤ R * 11 := by omega
  cases r with
  | ex => exact ⟨h.b.mono dM dR, h.a.mono dM dR⟩
  | fac l p =>
    refine Bd2.onL (f := fun h _ => h.map (pmul p)) h dM dR fun u v hu _ => ⟨fun q hq => ?_, fun q hq => ?_⟩
    · obtain ⟨z, hz, rfl⟩ := List.mem_map.mp hq
      exact pmul_low hr.2.s.l (hu.l z hz)
    · obtain ⟨z, hz, rfl⟩ := List.mem_map.mp hq
      exact (Bd.mul hr.2.s.l (hu.l z hz) hr.2.s.b (hu.b z hz)).mono (by rw [Nat.mul_comm]; exact Nat.dvd_refl _) (by omega)
  | late l d =>
    refine Bd2.onL (f := fun h _ => lag d h) h dM dR fun u v hu _ => ⟨lag_low hu.l, fun q hq => ?_⟩
    rcases List.mem_append.mp (List.mem_of_mem_take hq) with z | z
    · rw [(List.mem_replicate.mp z).2]
      exact Bd.zero
    · exact (hu.b q z).mono dM dR
  | add b l ps => exact Bd2.onL (f := fun h o => bld h (amt ps o) (sgnR b)) h dM dR fun u v hu hv => (bld_bd hu (amt_bd hr.2.2 hr.2.1 hv)).mono dM (by omega)
theorem Bd2.rn : ∀ {rs : List Rg} {M R : Nat} {x : Ln2}, Bd2 M R x → 1 ≤ R → (∀ r ∈ rs, VR r) → Bd2 (M * 6 ^ rs.length) (R * 11 ^ rs.length) (rnL rs x)
  | [], M, R, x, h, _, _ => by
    rw [List.length_nil, Nat.pow_zero, Nat.mul_one, Nat.mul_one]
    exact h
  | r :: rs, M, R, x, h, hR, hr => by
    have z := Bd2.rn (rs := rs) (h.stp hR (hr r List.mem_cons_self)) (by omega) fun q hq => hr q (List.mem_cons_of_mem _ hq)
    rw [List.length_cons, Nat.pow_succ, Nat.pow_succ, Nat.mul_comm (6 ^ rs.length), Nat.mul_comm (11 ^ rs.length), ← Nat.mul_assoc, ← Nat.mul_assoc]
    exact z
/-! ### a product's parts -/
theorem cv_val {ps xs : List (Int × Int)} (hp : ∀ p ∈ ps, Low p) (hx : ∀ p ∈ xs, Low p) (t : Nat) : ∀ k, val (cv ps xs t k) = sm (fun i => cf ps i * cf xs (t - i)) k
  | 0 => val01
  | k + 1 => by
    have lp : Low (ps.getD k (0, 1)) := getD_mem hp low01
    have lx : Low (xs.getD (t - k) (0, 1)) := getD_mem hx low01
    show val (padd (cv ps xs t k) (pmul (ps.getD k (0, 1)) (xs.getD (t - k) (0, 1)))) = sm (fun i => cf ps i * cf xs (t - i)) k + cf ps k * cf xs (t - k)
    rw [val_add (cv_low hp hx t k) (pmul_low lp lx), val_mul lp lx, cv_val hp hx t k]
    rfl
theorem cv_conv {ps xs : List (Int × Int)} (hp : ∀ p ∈ ps, Low p) (hx : ∀ p ∈ xs, Low p) (t : Nat) : val (cv ps xs t (min (t + 1) ps.length)) = conv (cf ps) (cf xs) t := by
  rw [cv_val hp hx]
  unfold conv
  by_cases h : ps.length ≤ t + 1
  · rw [show min (t + 1) ps.length = ps.length by omega]
    obtain ⟨d, hd⟩ : ∃ d, t + 1 = ps.length + d := ⟨t + 1 - ps.length, by omega⟩
    rw [hd]
    have z : sm (fun i => if i ≤ t then cf ps i * cf xs (t - i) else 0) (ps.length + d) = sm (fun i => if i ≤ t then cf ps i * cf xs (t - i) else 0) ps.length := sm_more (fun i hi => by
      by_cases q : i ≤ t
      · rw [if_pos q, cf_out hi]
        grind
      · rw [if_neg q]) d
    rw [sm_congr (g := fun i => if i ≤ t then cf ps i * cf xs (t - i) else 0) (n := ps.length) fun i hi => by rw [if_pos (by omega)], ← z]
    exact sm_congr fun i hi => by rw [if_pos (by omega)]
  · rw [show min (t + 1) ps.length = t + 1 by omega]
theorem amt_of {ps qs xs ys rs : List (Int × Int)} (hp : ∀ p ∈ ps, Low p) (hx : ∀ p ∈ xs, Low p) (ir : IsP rs) (e1 : ∀ k, cf qs k = cf ps k) (e2 : ∀ k, cf ys k = cf xs k) (e : ∀ k, cf rs k = conv (cf qs) (cf ys) k) (t : Nat) : rs.getD t (0, 1) = cv ps xs t (min (t + 1) ps.length) := by
  refine val_inj (getD_mem ir.low low01) (cv_low hp hx t _) ?_
  rw [cv_conv hp hx]
  show cf rs t = _
  rw [e]
  exact conv_congr e1 e2 t
/-! ### added, taken away -/
theorem add_sgn {p q : Int × Int} (hq : Low q) : padd p (pmul (sgnR true) q) = padd p q := by
  have e : pmul (1, 1) q = q := by
    show low (1 * q.1) (1 * q.2) = q
    rw [Int.one_mul, Int.one_mul, low_self hq]
  show padd p (pmul (1, 1) q) = _
  rw [e]
theorem neg_low {q : Int × Int} (h : Low q) : Low (-q.1, q.2) := ⟨h.pos, by
  show Nat.Coprime (-q.1).natAbs q.2.natAbs
  rw [Int.natAbs_neg]
  exact h.co⟩
theorem sub_sgn {p q : Int × Int} (hq : Low q) : padd p (pmul (sgnR false) q) = psub p q := by
  have e : pmul (-1, 1) q = (-q.1, q.2) := by
    show low (-1 * q.1) (1 * q.2) = _
    rw [Int.one_mul, Int.neg_mul, Int.one_mul]
    exact low_self (neg_low hq)
  show padd p (pmul (-1, 1) q) = _
  rw [e]
  show low (p.1 * q.2 + -q.1 * p.2) (p.2 * q.2) = low (p.1 * q.2 - q.1 * p.2) (p.2 * q.2)
  rw [Int.neg_mul, ← Int.sub_eq_add_neg]
/-! ### integers stay integers -/
def Whole (xs : List (Int × Int)) : Prop := ∀ p ∈ xs, p.2 = 1
def OneR : Rg → Prop
  | .fac _ p => p = (1, 1) ∨ p = (-1, 1)
  | _ => True
theorem low_w {z : Int} : low z 1 = (z, 1) := low_self (p := (z, 1)) low_int
theorem pmul_w {p q : Int × Int} (hp : p.2 = 1) (hq : q.2 = 1) : (pmul p q).2 = 1 := by
  show (low (p.1 * q.1) (p.2 * q.2)).2 = 1
  rw [hp, hq, Int.one_mul, low_w]
theorem padd_w {p q : Int × Int} (hp : p.2 = 1) (hq : q.2 = 1) : (padd p q).2 = 1 := by
  show (low (p.1 * q.2 + q.1 * p.2) (p.2 * q.2)).2 = 1
  rw [hp, hq, Int.one_mul, low_w]
theorem whole_stp {x : Ln2} {r : Rg} (ha : Whole x.1) (hb : Whole x.2) (hr : OneR r) : Whole (stp r x).1 ∧ Whole (stp r x).2 := by
  have key : ∀ (l : Nat) (f : List (Int × Int) → List (Int × Int) → List (Int × Int)), (∀ u v, Whole u → Whole v → Whole (f u v)) → Whole (onL l f x).1 ∧ Whole (onL l f x).2 := fun l f hf => by
    unfold onL
    by_cases q : l = 0
    · rw [if_pos q]
      exact ⟨hf _ _ ha hb, hb⟩
    · rw [if_neg q]
      exact ⟨ha, hf _ _ hb ha⟩
  cases r with
  | ex => exact ⟨hb, ha⟩
  | fac l p =>
    exact key l (fun h _ => h.map (pmul p)) fun u v hu _ q hq => by
      obtain ⟨z, hz, rfl⟩ := List.mem_map.mp hq
      refine pmul_w ?_ (hu z hz)
      rcases hr with e | e <;> rw [e]
  | late l d =>
    exact key l (fun h _ => lag d h) fun u v hu _ q hq => by
      rcases List.mem_append.mp (List.mem_of_mem_take hq) with z | z
      · rw [(List.mem_replicate.mp z).2]
      · exact hu q z
  | add b l ps =>
    exact key l (fun h o => bld h (amt ps o) (sgnR b)) fun u v hu _ q hq => by
      obtain ⟨k, _, rfl⟩ := List.mem_map.mp hq
      have w1 : (u.getD k (0, 1)).2 = 1 := getD_mem (P := fun p => p.2 = 1) hu rfl
      have w2 : ((amt ps v).getD k (0, 1)).2 = 1 := getD_mem (P := fun p => p.2 = 1) (fun p hp => by
        obtain ⟨t, _, rfl⟩ := List.mem_map.mp hp
        rfl) rfl
      refine padd_w w1 (pmul_w ?_ w2)
      cases b <;> rfl
theorem whole_rn : ∀ {rs : List Rg} {x : Ln2}, Whole x.1 → Whole x.2 → (∀ r ∈ rs, OneR r) → Whole (rnL rs x).1 ∧ Whole (rnL rs x).2
  | [], _, ha, hb, _ => ⟨ha, hb⟩
  | r :: rs, x, ha, hb, hr => by
    obtain ⟨h1, h2⟩ := whole_stp ha hb (hr r List.mem_cons_self)
    exact whole_rn (rs := rs) h1 h2 fun q hq => hr q (List.mem_cons_of_mem _ hq)
end K03
end
section
set_option maxHeartbeats 8000000
set_option exponentiation.threshold 100000
namespace K03
open PySem PySem.Spec PyProof.Rows L2 LamX NdefX L3 TL PolyM
abbrev sBackP : Stmt := top 55
theorem Sml.fit {p : Int × Int} (h : Sml p) : Fit p := Bd.fit h.l (by decide) h.b (by decide)
/-- the dict of the words that take back -/
structure TkD (w : World) (K : PySem.W.Frag) (mg : Str → Option Value) : Prop where
  ex : ∃ (d : Addr) (es : Array DictEntry) (n : Nat), mg "TAKEN_BACK" = some (.ref d) ∧ KDict K w d es n ∧ (∃ u, PySem.W.nsIn K d "add" = some (some u) ∧ RelV (.str "take") u) ∧ ∃ u, PySem.W.nsIn K d "take" = some (some u) ∧ RelV (.str "add") u
def spBackP (C CP CM : Addr) : Sp := fun vs H Q _ => ∃ (v : V) (r : Rg), vs = [v] ∧ RungT C CP CM H v r ∧ VR r ∧ ∀ v' H', Same H H' → RungT C CP CM H' v' (ivR r) → Q v' H'
section
variable {P : Program} {w : World} {K : PySem.W.Frag} {mg : Str → Option Value} {base : Heap} {cB cN C fI CP CM fP fM CL fL : Addr}
theorem scBackP : FnScope ["rung", "word", "lane", "told"] ["rung"] (defScope sBackP) := ⟨rfl, rfl, rfl, by decide +kernel, rfl, by decide +kernel, by decide +kernel⟩
theorem ok_backP {f fv : Addr} {fd fdv : FuncData} (F : Fun K "taken_back" "taken_back" sBackP f fd) (R : RatC K mg C fI) (TK : TkD w K mg) (M : Meth K C "inverse" fv) (Gv : FnOk P w K mg base (L2.CX P w) 6 fv fdv ["self"] (spInv C cN)) (bv : Binds K fdv ["self"] []) :
    FnOk P w K mg base CX0 7 f fd ["rung"] (spBackP C CP CM) := by
  refine F.ok scBackP (fun vs H Q E h => ?_) (fun cdv A outer s H vs Q E hr h => ?_)
  · obtain ⟨v, r, rfl, _⟩ := h
    rfl
  · obtain ⟨v, r, rfl, hv, vr, q⟩ := h
    have nd := scBackP.nd
    have hr6 : Room 6 _ := hr.mono (by decide)
    obtain ⟨d, es, n, gT, kd, ⟨uA, tA, tA2⟩, uT, tT, tT2⟩ := TK.ex
    refine ⟨_, pss_cons (ps_if (pt_cmpR op_eq (pe_ix ix_tup (pv 0) pe_int (fun _ _ => rfl)) pe_str (nomark _)) (pss_one (ps_ret (pv 0))) pss_nil)
      (pss_cons (ps_asg (pv 0) (pg_tup (by rfl) (pgs_cons (pg_name (i := 1) nd rfl (Or.inl rfl)) (pgs_cons (pg_name (i := 2) nd rfl (Or.inl rfl)) (pgs_cons (pg_name (i := 3) nd rfl (Or.inl rfl)) pgs_nil)))))
      (pss_cons (ps_if (pt_cmpR op_eq (pv 1) pe_str (nomark _)) (pss_one (ps_ret (pe_tup (pa_cons (pv 1) (pa_cons (pe_op op_sub pe_int (pv 2)) (pa_cons (pv 3) pa_nil)))))) pss_nil)
      (pss_cons (ps_if (pt_cmpR op_eq (pv 1) pe_str (nomark _)) (pss_one (ps_ret (pe_tup (pa_cons (pv 1) (pa_cons (pv 2) (pa_cons (pe_meth0 (E := E0) (pv 3) R.c M Gv hr6 bv .nil passL) pa_nil)))))) pss_nil)
      (pss_one (ps_ret (pe_tup (pa_cons (pe_ix ix_kdict (pe_glob (v := .ref d) (by rfl) gT rfl) (pv 1) (fun _ _ => rfl)) (pa_cons (pv 2) (pa_cons (pv 3) pa_nil))))))))), ?_⟩
    cases r with
    | ex =>
      obtain ⟨t, rfl, ht⟩ := hv
      refine ⟨_, rfl, t, _, 0, .str "exchange", rfl, rfl, SqT.of ht, rfl, rfl, _, rfl, ?_⟩
      exact ite2 (fun _ => ⟨_, rfl, q _ _ (fun _ _ e => e) ⟨t, rfl, ht⟩⟩) (fun z => absurd (by decide +kernel) z)
    | late l m =>
      obtain ⟨t, rfl, ht⟩ := hv
      refine ⟨_, rfl, t, _, 0, .str "late", rfl, rfl, SqT.of ht, rfl, rfl, _, rfl, ?_⟩
      refine ite2 (fun z => absurd z (by decide +kernel)) (fun _ => ?_)
      refine ⟨_, rfl, t, _, rfl, SqT.of ht, rfl, ?_⟩
      refine ⟨_, _, rfl, _, _, rfl, _, _, rfl, rfl, ?_⟩
      refine ⟨_, rfl, rfl, _, rfl, ?_⟩
      refine ite2 (fun _ => ?_) (fun z => absurd (by decide +kernel) z)
      refine ⟨_, rfl, _, rfl, _, _, rfl, rfl, _, rfl, by show 3 ≤ sizeLine; decide, fun p np => ?_⟩
      refine q _ _ (Same.new (fun _ _ e => e) np) ⟨p, rfl, ?_⟩
      have e : (1 : Int) - (l : Int) = ((1 - l : Nat) : Int) := by
        have := vr.1
        omega
      rw [upd_same]
      show some (HO.tup [V.str "late", V.int ((1 : Int) - (l : Int)), V.int m]) = _
      rw [e]
    | fac l p =>
      obtain ⟨t, a, dx, rfl, ht, ha⟩ := hv
      refine ⟨_, rfl, t, _, 0, .str "factor", rfl, rfl, SqT.of ht, rfl, rfl, _, rfl, ?_⟩
      refine ite2 (fun z => absurd z (by decide +kernel)) (fun _ => ?_)
      refine ⟨_, rfl, t, _, rfl, SqT.of ht, rfl, ?_⟩
      refine ⟨_, _, rfl, _, _, rfl, _, _, rfl, rfl, ?_⟩
      refine ⟨_, rfl, rfl, _, rfl, ?_⟩
      refine ite2 (fun z => absurd z (by decide +kernel)) (fun _ => ?_)
      refine ⟨_, rfl, rfl, _, rfl, ?_⟩
      refine ite2 (fun _ => ?_) (fun z => absurd (by decide +kernel) z)
      refine ⟨_, rfl, _, rfl, _, rfl, a, dx, _, rfl, ha, rfl, a, dx, p, rfl, ha, vr.2.s.fit, fun _ => ?_, fun z => absurd z vr.2.n⟩
      intro b db H1 nb s1 hb
      refine ⟨by show 3 ≤ sizeLine; decide, fun p' np => ?_⟩
      have s2 := s1.new (o := .tup [.str "factor", .int l, .ref b]) np
      have s3 := Same.new (o := .tup [.str "factor", .int l, .ref b]) (fun _ _ e => e : Same H1 H1) np
      exact q _ _ s2 ⟨p', b, db, rfl, upd_same, s3 _ _ hb⟩
    | add b l ps =>
      obtain ⟨t, a, qs, rfl, ht, ha, k⟩ := hv
      have key : ∃ (z z' : Str) (u : Value), H t = some (.tup [.str z, .int l, .ref a]) ∧ PySem.W.nsIn K d z = some (some u) ∧ RelV (.str z') u ∧ z ≠ "exchange" ∧ z ≠ "late" ∧ z ≠ "factor" ∧ ∀ p H', Same H H' → H' p = some (.tup [.str z', .int l, .ref a]) → Q (.ref p) H' := by
        cases b with
        | true => exact ⟨"add", "take", uA, ht, tA, tA2, by decide +kernel, by decide +kernel, by decide +kernel, fun p H' s hp => q _ _ s ⟨p, a, qs, rfl, hp, ha.same s, k⟩⟩
        | false => exact ⟨"take", "add", uT, ht, tT, tT2, by decide +kernel, by decide +kernel, by decide +kernel, fun p H' s hp => q _ _ s ⟨p, a, qs, rfl, hp, ha.same s, k⟩⟩
      obtain ⟨z, z', u, ht, e1, e2, n1, n2, n3, fin⟩ := key
      have off : ∀ {y : Str}, z ≠ y → ¬ (decide (V.str z = V.str y) = true) := fun n e => n (by injection of_decide_eq_true e)
      refine ⟨_, rfl, t, _, 0, .str z, rfl, rfl, SqT.of ht, rfl, rfl, _, rfl, ?_⟩
      refine ite2 (fun y => absurd y (off n1)) (fun _ => ?_)
      refine ⟨_, rfl, t, _, rfl, SqT.of ht, rfl, ?_⟩
      refine ⟨_, _, rfl, _, _, rfl, _, _, rfl, rfl, ?_⟩
      refine ⟨_, rfl, rfl, _, rfl, ?_⟩
      refine ite2 (fun y => absurd y (off n2)) (fun _ => ?_)
      refine ⟨_, rfl, rfl, _, rfl, ?_⟩
      refine ite2 (fun y => absurd y (off n3)) (fun _ => ?_)
      refine ⟨_, rfl, d, z, .str z', rfl, rfl, ⟨es, n, u, kd.at_, kd.lit, e1, e2⟩, _, rfl, _, rfl, by show 3 ≤ sizeLine; decide, fun p np => ?_⟩
      exact fin p _ (Same.new (fun _ _ e => e) np) upd_same
end
end K03
end
section
set_option maxHeartbeats 8000000
set_option exponentiation.threshold 100000
namespace K03
open PySem PySem.Spec PyProof.Rows L2 LamX NdefX L3 TL PolyM
abbrev sUndone : Stmt := inClass (top 44) 5
structure Lad (P : Program) (w : World) (K : PySem.W.Frag) (mg : Str → Option Value) (base : Heap) (C CP CM CL fL : Addr) : Prop where
  cls : LadC K mg CL fL
  init : ∃ fd : FuncData, FnOk P w K mg base (L2.CX P w) 6 fL fd ["self", "rungs"] (spLInit C CP CM CL) ∧ Binds K fd ["self", "rungs"] []
def LadQ (C CP CM CL : Addr) (Q : VK) : VK := fun v H1 => ∃ (l : Addr) (ws : List V) (rs : List Rg), v = .ref l ∧ H1 l = some (.lst ws) ∧ Paired (RungT C CP CM H1) ws rs ∧ (∀ r ∈ rs, VR r) ∧ rs.length ≤ 100 ∧
  ∀ a H', H1 a = none → Same H1 H' → LadAt C CP CM CL H' a rs → Q (.ref a) H'
def tLad (C CP CM CL : Addr) (te : TE) : TE := fun σ H Q => te σ H (LadQ C CP CM CL Q)
section
variable {X : Cx} {C CP CM CL fL : Addr} {e : Expr} {te : TE} {p pos : Pos}
theorem pe_lad (L : Lad X.prog X.w X.K X.mg X.base C CP CM CL fL) (hr : Room 7 X.A) (he : PE X e te) (hg : Gl X "Ladder" := by rfl)
    (hs : starEach [e] X.env = (false, eval e X.env) :: starEach [] X.env := by rfl) : PE X (.Call (.Name "Ladder" p) [e] [] pos) (tLad C CP CM CL te) := by
  obtain ⟨fd, F, b⟩ := L.init
  refine ⟨fun pins s σ H Q I h => wpAny_Call_Name_kw (ld_glob I hg L.cls.g ?_ (by decide))⟩
  refine PySem.W.callWith_K (h₀ := X.base) I.ok.mod.kin L.cls.made.kp ?_ hs (by rfl)
  rw [hs]
  show wpAny _ _ (spliced ((false, eval e X.env) :: backTo pos (starEach [] X.env))) _ _ s
  refine Calls.spliced_cons (thn (he.run pins s σ H _ I h) fun w1 s1 ⟨x, H1, I1, r1, q1⟩ => Calls.spliced_nil ⟨I1.kIn, ?_⟩)
  refine run_make (vs := [x]) (dvs := []) (E := E0) L.cls.made F hr b .nil passL I1 (.cons r1 .nil) fun a dx ha hd ne => ?_
  have s : Same H1 (upd (upd H1 dx (.own a)) a (.ins CL dx [])) := Same.new (Same.new (fun _ _ z => z) hd) (by rw [upd_ne ne.symm]; exact ha)
  obtain ⟨l, ws, rs, rfl, hl, pw, vr, few, q⟩ := q1
  exact ⟨a, dx, l, ws, rs, H1, rfl, upd_same, ha, s, hl, pw, vr, few, fun H' s' la => ⟨rfl, q a H' ha s' la⟩⟩
end
theorem paired_revL {α β : Type} {F : α → β → Prop} {l : List α} {m : List β} (p : Paired F l m) : Paired F l.reverse m.reverse := by
  induction p with
  | nil => exact .nil
  | cons a _ ih =>
    rw [List.reverse_cons, List.reverse_cons]
    exact ih.snoc a
/-- [e for x in a tuple that was just made] -/
theorem lc_tupAt {K : PySem.W.Frag} {j : Nat} {a : Addr} {xs : List V} {β : Type} {bs : List β} {Rr : Addr → Hp → V → β → Prop} {σ : L2.St} {H : Hp} {te : TE} {Q : VK}
    (sq : SqT K H a xs) (few : xs.length ≤ sizeLine) (hl : xs.length = bs.length)
    (same : ∀ (D : Addr) (H H' : Hp) (y : V) (b : β), Rr D H y b → Same H H' → Rr D H' y b) (grow : ∀ (D : Addr) (H : Hp) (rs ys : List V) (y : V) (b : β), H D = some (.lst rs) → Rr D H y b → Rr D (upd H D (.lst ys)) y b)
    (step : ∀ (D : Addr) (k : Nat) (x : V) (b : β) (H2 : Hp) (rs : List V) (Kc : VK), xs[k]? = some x → bs[k]? = some b → Same H H2 → H2 D = some (.lst rs) → (∀ (y : V) (H3 : Hp), Same H2 H3 → Rr D H3 y b → Kc y H3) → te ((wipe σ [j]).set j (some x)) H2 Kc)
    (fin : ∀ (D : Addr) (ws : List V) (H5 : Hp), H D = none → Same H H5 → H5 D = some (.lst ws) → Paired (Rr D H5) ws bs → Q (.ref D) H5) :
    tLc (fun σ H R => iTup K (fun _ H Q => Q (.ref a) H) σ H R) (gName j) tYes te [j] σ H Q := by
  have one : ∀ (D : Addr), H D = none → ∀ (i : Nat) (x : V) (H2 : Hp), xs[i]? = some x → (Same H H2 ∧ ∃ ws, H2 D = some (.lst ws) ∧ Paired (Rr D H2) ws (bs.take i)) →
      gName j x (wipe σ [j]) H2 fun σ2 H3 => wipe σ2 [j] = wipe σ [j] ∧ tYes σ2 H3 fun b H4 => if b = true then te σ2 H4 fun y H5 => ∃ acc, H5 D = some (.lst acc) ∧ acc.length < sizeLine ∧ (Same H (upd H5 D (.lst (acc ++ [y]))) ∧ ∃ ws, (upd H5 D (.lst (acc ++ [y]))) D = some (.lst ws) ∧ Paired (Rr D (upd H5 D (.lst (acc ++ [y])))) ws (bs.take (i + 1))) else (Same H H4 ∧ ∃ ws, H4 D = some (.lst ws) ∧ Paired (Rr D H4) ws (bs.take (i + 1))) := by
    intro D nD i x H2 hx p
    obtain ⟨s2, ws, hD, pw⟩ := p
    have li : i < xs.length := (List.getElem?_eq_some_iff.mp hx).1
    have hb : bs[i]? = some bs[i] := List.getElem?_eq_getElem (by omega)
    have lw : ws.length = i := by
      rw [paired_len pw, List.length_take]
      omega
    refine ⟨wipe_back, ?_⟩
    refine yes_if (a := fun H4 => te _ H4 _) ?_
    refine step D i x _ H2 ws _ hx hb s2 hD fun y H3 s3 ry => ?_
    have hD3 := s3 _ _ hD
    refine ⟨ws, hD3, by omega, same_grow nD (s2.trans s3), ws ++ [y], upd_same, ?_⟩
    rw [take_snoc hb]
    exact (Paired.mapP pw fun v b z => grow D H3 ws (ws ++ [y]) v b hD3 (same D H2 H3 v b z s3)).snoc (grow D H3 ws (ws ++ [y]) y _ hD3 ry)
  have last : ∀ (D : Addr), H D = none → ∀ H5, (Same H H5 ∧ ∃ ws, H5 D = some (.lst ws) ∧ Paired (Rr D H5) ws (bs.take xs.length)) → Q (.ref D) H5 := by
    rintro D nD H5 ⟨s5, ws, hD, pw⟩
    rw [hl, List.take_length] at pw
    exact fin D ws H5 nD s5 hD pw
  exact ⟨a, rfl, ⟨xs, sq⟩, fun D nD => lc_tup (K := K) (a := a) (xs := xs) (fun i H2 => Same H H2 ∧ ∃ ws, H2 D = some (.lst ws) ∧ Paired (Rr D H2) ws (bs.take i)) ⟨Same.new (fun _ _ e => e) nD, [], upd_same, .nil⟩ (fun i H2 _ p => same_tup p.1 sq) (one D nD) (last D nD)⟩
def spUndone (C CP CM CL : Addr) : Sp := fun vs H Q _ => ∃ (a : Addr) (rs : List Rg), vs = [.ref a] ∧ LadAt C CP CM CL H a rs ∧ (∀ r ∈ rs, VR r) ∧ rs.length ≤ 100 ∧ ∀ a' H', Same H H' → LadAt C CP CM CL H' a' (rs.reverse.map ivR) → Q (.ref a') H'
section
variable {P : Program} {w : World} {K : PySem.W.Frag} {mg : Str → Option Value} {base : Heap} {cB cN C fI CP CM fP fM CL fL : Addr}
theorem scUndone : FnScope ["self", "rung"] ["self"] (defScope sUndone) := ⟨rfl, rfl, rfl, by decide +kernel, rfl, by decide +kernel, by decide +kernel⟩
theorem ok_undone {f : Addr} {fd : FuncData} (F : Fun K "undone" "Ladder.undone" sUndone f fd) (L : Lad P w K mg base C CP CM CL fL) (hT : Dfn P w K mg base CX0 7 "taken_back" ["rung"] (spBackP C CP CM)) :
    FnOk P w K mg base CX0 8 f fd ["self"] (spUndone C CP CM CL) := by
  refine F.ok scUndone (fun vs H Q E h => ?_) (fun cdv A outer s H vs Q E hr h => ?_)
  · obtain ⟨a, rs, rfl, _⟩ := h
    rfl
  · obtain ⟨a, rs, rfl, ha, vr, few, q⟩ := h
    have nd := scUndone.nd
    obtain ⟨dx, t, xs, h1, h2, pw⟩ := ha
    refine ⟨_, pss_one (ps_ret (pe_lad L (hr.mono (by decide)) (pe_lc (own := [("rung", 1)]) (g := gName 1) (tt := tYes) rfl nd (pi_tup (pe_revT (pe_fld (pv 0) rfl))) (blkOk_by (N := ["self", "rung"]) (sc := defScope sUndone) (by decide +kernel)) (fun _ _ _ _ _ => pg_name (i := 1) nd rfl (Or.inl rfl)) (fun _ _ _ _ _ => pts_nil)
      (fun _ _ _ _ _ => by exact (dc hT hr (by decide) (pa_cons (pv 1) pa_nil)))))), ?_⟩
    have lx := paired_len pw
    have pr := paired_revL pw
    refine ⟨_, rfl, a, CL, dx, _, _, rfl, h1, L.cls.c, L.cls.nR, rfl, t, xs, rfl, SqT.of h2, fun t2 nt => ?_⟩
    have s1 := Same.new (o := .tup xs.reverse) (fun _ _ e => e : Same H H) nt
    have ht2 : upd H t2 (.tup xs.reverse) t2 = some (.tup xs.reverse) := upd_same
    generalize upd H t2 (.tup xs.reverse) = H1 at s1 ht2 ⊢
    show tLc (fun σ H R => iTup K (fun _ H Q => Q (V.ref t2) H) σ H R) (gName 1) tYes (tCall (spBackP C CP CM) [] E0 (tCons (tVar 1) tNil)) [1] _ H1 (LadQ C CP CM CL Q)
    refine lc_tupAt (K := K) (a := t2) (xs := xs.reverse) (bs := rs.reverse.map ivR) (Rr := fun _ G y r => RungT C CP CM G y r) (SqT.of ht2) (by rw [List.length_reverse, lx]; exact Nat.le_trans few (by decide)) (by rw [List.length_map, List.length_reverse, List.length_reverse, lx]) (fun D G G' y r h s => h.same s) (fun D G rs' ys y r hD h => h.nl (SameN.upd hD)) ?_ ?_
    · intro D k x r G rs' Kc hx hb sG hD kc
      obtain ⟨r', hr', rt⟩ := paired_at pr hx
      rw [List.getElem?_map, hr'] at hb
      cases hb
      exact ⟨_, rfl, x, r', rfl, rt.same (s1.trans sG), vr r' (List.mem_reverse.mp (List.mem_of_getElem? hr')), fun v' H' s' rt' => kc v' H' s' rt'⟩
    · intro D ys G nD sG hD py
      exact ⟨D, ys, rs.reverse.map ivR, rfl, hD, py, fun r hr' => by
        obtain ⟨q', hq, rfl⟩ := List.mem_map.mp hr'
        exact ivR_ok (vr q' (List.mem_reverse.mp hq)), by rw [List.length_map, List.length_reverse]; exact few, fun a' H' _ s' la => q a' H' ((s1.trans sG).trans s') la⟩
end
end K03
end
section
set_option maxHeartbeats 8000000
set_option exponentiation.threshold 100000
namespace K03
open PySem PySem.Spec PyProof.Rows L2 LamX NdefX L3 TL PolyM
abbrev sTL : Stmt := top 52
abbrev sAmts : Stmt := top 54
/-- two lanes -/
def LanesAt (C : Addr) (H : Hp) (l : Addr) (x : Ln2) : Prop := ∃ (a b : Addr) (xs ys : List V), H l = some (.lst [.ref a, .ref b]) ∧ H a = some (.lst xs) ∧ Paired (RV C H) xs x.1 ∧ H b = some (.lst ys) ∧ Paired (RV C H) ys x.2
theorem LanesAt.same {C : Addr} {H H' : Hp} {l : Addr} {x : Ln2} (h : LanesAt C H l x) (s : Same H H') : LanesAt C H' l x := by
  obtain ⟨a, b, xs, ys, h1, h2, h3, h4, h5⟩ := h
  exact ⟨a, b, xs, ys, s _ _ h1, s _ _ h2, Paired.mapP h3 fun _ _ z => z.same s, s _ _ h4, Paired.mapP h5 fun _ _ z => z.same s⟩
def spTL (K : PySem.W.Frag) (C : Addr) : Sp := fun vs H Q _ => ∃ (v1 v2 : V) (ps qs : List (Int × Int)), vs = [v1, v2] ∧ Given K C H v1 ps ∧ Given K C H v2 qs ∧ ps.length = qs.length ∧ ∀ l H', Same H H' → LanesAt C H' l (ps, qs) → Q (.ref l) H'
/-- the sizes of a lane that a poly multiplies -/
structure LnB (M R : Nat) (xs : List (Int × Int)) : Prop where
  b : BdL M R xs
  pos : 0 < M
  few : xs.length ≤ 60
  room : (R + 1) * M < 2 ^ 2000
def spAmts (C CP CM : Addr) : Sp := fun vs H Q _ => ∃ (a l : Addr) (ws : List V) (ps qs xs : List (Int × Int)) (M R : Nat), vs = [.ref a, .ref l, .bl true] ∧ PolyAt C CP CM H a qs ∧ IsP qs ∧ qs.length ≤ 3 ∧ (∀ q ∈ qs, Sml q) ∧ (∀ k, cf qs k = cf ps k) ∧ (∀ p ∈ ps, Sml p) ∧ ps.length ≤ 3 ∧
  H l = some (.lst ws) ∧ Paired (RV C H) ws xs ∧ LnB M R xs ∧ ∀ l' us H', Same H H' → H' l' = some (.lst us) → Paired (RV C H') us (amt ps xs) → Q (.ref l') H'
section
variable {P : Program} {w : World} {K : PySem.W.Frag} {mg : Str → Option Value} {base : Heap} {cB cN C fI CP CM fP fM CL fL : Addr}
theorem scTL : FnScope ["first", "second", "lanes"] ["first", "second"] (defScope sTL) := ⟨rfl, rfl, rfl, by decide +kernel, rfl, by decide +kernel, by decide +kernel⟩
theorem ok_TL {f : Addr} {fd : FuncData} (F : Fun K "told_lanes" "told_lanes" sTL f fd) (B : TxtR mg) (T : ErrR P w K mg base cB cN) (hRL : Dfn P w K mg base (L2.CX P w) 7 "ratio_list" ["values"] (spRL K C cB)) : FnOk P w K mg base (L2.CX P w) 8 f fd ["first", "second"] (spTL K C) := by
  refine F.okX scTL (fun vs H Q E h => ?_) (fun cdv A outer s H vs Q E hr h => ?_)
  · obtain ⟨v1, v2, ps, qs, rfl, _⟩ := h
    rfl
  · obtain ⟨v1, v2, ps, qs, rfl, g1, g2, el, q⟩ := h
    have nd := scTL.nd
    have hr2 : Room 2 _ := hr.mono (by decide)
    refine ⟨_, pss_cons (ps_set (i := 2) nd rfl (Or.inl rfl) (pe_lst (pa_cons (dcL hRL hr (by decide) (pa_cons (pv 0) pa_nil)) (pa_cons (dcL hRL hr (by decide) (pa_cons (pv 1) pa_nil)) pa_nil))))
      (pss_cons (ps_if (pt_cmpR op_ne (pe_callB call_len_seq (by rfl) B.len PySem.boot_len (pa_cons (pv 0) pa_nil)) (pe_callB call_len_seq (by rfl) B.len PySem.boot_len (pa_cons (pv 1) pa_nil)) (nomark _)) (pss_one (ps_raise rfl (takes_of rfl rfl rfl rfl) (pmk_retX rfl (pe_one1 T.B hr2 (pv 1))))) pss_nil)
      (pss_one (ps_ret (pv 2)))), ?_⟩
    obtain ⟨x1, sq1, few1, pr1⟩ := id g1
    obtain ⟨x2, sq2, few2, pr2⟩ := id g2
    obtain ⟨a1, rfl, sq1⟩ := sq1
    obtain ⟨a2, rfl, sq2⟩ := sq2
    have up : ∀ {G : Hp} {a : Addr} {xs : List V}, Same H G → (SqL K H a xs ∨ SqT K H a xs) → (SqL K G a xs ∨ SqT K G a xs) := fun s h => h.elim (fun z => .inl (s.seq z)) fun z => .inr (same_tup s z)
    refine ⟨_, rfl, spRL.good g1 ?_⟩
    intro l1 ws1 H1 n1 s1 h1 p1
    refine ⟨_, rfl, spRL.good (g2.same s1) ?_⟩
    intro l2 ws2 H2 n2 s2 h2 p2
    refine ⟨by show 2 ≤ sizeLine; decide, fun l n3 => ?_⟩
    have s3 := Same.new (o := .lst [.ref l1, .ref l2]) (fun _ _ e => e : Same H2 H2) n3
    have h3 : upd H2 l (.lst [.ref l1, .ref l2]) l = some (.lst [.ref l1, .ref l2]) := upd_same
    generalize upd H2 l (.lst [.ref l1, .ref l2]) = H3 at s3 h3 ⊢
    have s03 := s1.trans (s2.trans s3)
    refine ⟨_, rfl, a1, x1, rfl, up s03 sq1, _, rfl, a2, x2, rfl, up s03 sq2, rfl, _, rfl, ?_⟩
    have e : (!decide (V.int (x1.length : Nat) = V.int (x2.length : Nat))) = false := by
      rw [paired_len pr1, paired_len pr2, el]
      simp
    rw [e]
    refine iteF ⟨_, rfl, q l H3 s03 ⟨l1, l2, ws1, ws2, h3, (s2.trans s3) _ _ h1, Paired.mapP p1 fun _ _ z => z.same (s2.trans s3), s3 _ _ h2, Paired.mapP p2 fun _ _ z => z.same s3⟩⟩
theorem fit12 : Fit (1, 2) := ⟨by decide, by decide, by decide⟩
theorem low12 : Low (1, 2) := ⟨by decide, by decide⟩
theorem scAmts : FnScope ["poly", "items", "is_rounded", "product", "amounts", "turn", "amount"] ["poly", "items", "is_rounded"] (defScope sAmts) := ⟨rfl, rfl, rfl, by decide +kernel, rfl, by decide +kernel, by decide +kernel⟩
theorem ok_amts {f fM2 gM fA gA fP2 fF : Addr} {fd fdM fdA fdP fdF : FuncData} (F : Fun K "amounts_of" "amounts_of" sAmts f fd) (B : TxtR mg) (R : Rat P w K mg base cB cN C fI) (L : Pol P w K mg base cB C CP CM fP fM)
    (OM : OpC K CP fM2 gM .Mult) (FM : FnOk P w K mg base (L2.CX P w) 11 fM2 fdM ["self", "other"] (spOpP K C CP CM cB LeftOk BothOk mulF)) (bM : Binds K fdM ["self", "other"] [])
    (OA : OpC K C fA gA .Add) (FA : FnOk P w K mg base (L2.CX P w) 8 fA fdA ["self", "other"] (spBin K C cB padd)) (bA : Binds K fdA ["self", "other"] [])
    (MP : Meth K CP "part" fP2) (GP : FnOk P w K mg base (L2.CX P w) 6 fP2 fdP ["self", "number"] (spPartP K C CP CM cB)) (bP : Binds K fdP ["self", "number"] [])
    (MF : Meth K C "floor" fF) (GF : FnOk P w K mg base CX0 1 fF fdF ["self"] (spFloor C)) (bF : Binds K fdF ["self"] []) :
    FnOk P w K mg base CX0 12 f fd ["poly", "items", "is_rounded"] (spAmts C CP CM) := by
  refine F.ok scAmts (fun vs H Q E h => ?_) (fun cdv A outer s H vs Q E hr h => ?_)
  · obtain ⟨a, l, ws, ps, qs, xs, M, R, rfl, _⟩ := h
    rfl
  · obtain ⟨a, l, ws, ps, qs, xs, M0, R0, rfl, ha, iq, lq, sq, eq, sp, lp, hl, pw, lb, q⟩ := h
    have nd := scAmts.nd
    have hr11 : Room 11 _ := hr.mono (by decide)
    have hr9 : Room 9 _ := hr.mono (by decide)
    have hr8 : Room 8 _ := hr.mono (by decide)
    have hr6 : Room 6 _ := hr.mono (by decide)
    have hr5 : Room 5 _ := hr.mono (by decide)
    have hr1 : Room 1 _ := hr.mono (by decide)
    refine ⟨_, pss_cons (ps_set (i := 3) nd rfl (Or.inr rfl) (pe_op (show OpR _ (binaryOp .Mult) (rOwnL K CP _ (spOpP K C CP CM cB LeftOk BothOk mulF) E0) from op_ownL (E := E0) L.cls.t1 OM FM hr11 bM passL) (pv 0) (pe_pol (E := E0) L hr9 passL (pv 1))))
      (pss_cons (ps_setLc (i := 4) (own := [("turn", 5)]) (g := gName 5) (tt := tYes) rfl nd rfl rfl (sw_true rfl rfl rfl (by decide +kernel)) (pi_range1 (by rfl) B.range (pa_cons (pe_callB call_len_seq (by rfl) B.len PySem.boot_len (pa_cons (pv 1) pa_nil)) pa_nil)) (blkOk_by (N := ["poly", "items", "is_rounded", "product", "amounts", "turn", "amount"]) (sc := defScope sAmts) (by decide +kernel)) (fun _ _ _ _ _ => pg_name (i := 5) nd rfl (Or.inl rfl)) (fun _ _ _ _ _ => pts_nil)
        (fun _ _ _ _ _ => by exact (pe_meth (E := E0) (pv 3) L.cls.c MP GP hr6 bP .nil passL (pa_cons (pv 5) pa_nil))))
      (pss_cons (ps_if (pt_val (pv 2)) (pss_one (ps_ret (pe_lc (own := [("amount", 6)]) (g := gName 6) (tt := tYes) rfl nd (pi_or (pi_list (pv 4)) (pi_tup (pv 4))) (blkOk_by (N := ["poly", "items", "is_rounded", "product", "amounts", "turn", "amount"]) (sc := defScope sAmts) (by decide +kernel)) (fun _ _ _ _ _ => pg_name (i := 6) nd rfl (Or.inl rfl)) (fun _ _ _ _ _ => pts_nil)
        (fun _ _ _ _ _ => by exact (pe_rat1K K (E := E0) R hr5 passL (pe_meth0 (E := E0) (pe_op (show OpR _ (binaryOp .Add) (rOwnL K C _ (spBin K C cB padd) E0) from op_ownL (E := E0) R.cls.t1 OA FA hr8 bA passL) (pv 6) (pe_rat2K K (E := E0) R hr5 passL pe_int pe_int)) R.cls.c MF GF hr1 bF .nil pass0)))))) pss_nil)
      (pss_one (ps_ret (pv 4))))), ?_⟩
    have lw := paired_len pw
    have few : xs.length ≤ sizeLine := Nat.le_trans lb.few (by decide)
    have lowx := lb.b.l
    have lowp : ∀ p ∈ ps, Low p := fun p hp => (sp p hp).l
    refine ⟨_, rfl, _, rfl, .inr ⟨xs, ⟨ws, ⟨l, rfl, .inl (SqL.of hl)⟩, by rw [lw]; exact few, Paired.mapP pw fun _ _ z => .inr z⟩, Nat.le_trans lb.few (by decide), fun m tr => ?_⟩⟩
    intro o G no sG ho
    refine mul_step (ha.same sG) ho ⟨iq, by omega, 6, 3, 5, ⟨by decide, fun p hp => (sq p hp).b⟩, by decide, by decide⟩ ⟨tr.isP lowx, by rw [List.length_take]; exact Nat.le_trans (Nat.min_le_right _ _) lb.few, M0, R0, 2000, ⟨lb.pos, fun p hp => lb.b.b p (List.mem_of_mem_take hp)⟩, lb.room, by decide⟩ fun pr rs G1 s1 hpr mf => ?_
    have part : ∀ t, rs.getD t (0, 1) = cv ps xs t (min (t + 1) ps.length) := amt_of lowp lowx mf.1 eq (fun k => tr.cf lowx k) mf.2
    have s01 := sG.trans s1
    obtain ⟨dx, tp, zs, mk, dm, tb, p1, p2⟩ := id hpr
    dsimp only [gName]
    refine seq_to (fun σ' G' => ∃ (l2 : Addr) (us : List V), σ' = [some (.ref a), some (.ref l), some (.bl true), some (.ref pr), some (.ref l2), none, none] ∧ Same G1 G' ∧ G' l2 = some (.lst us) ∧ Paired (RV C G') us ((List.range xs.length).map fun t => cv ps xs t (min (t + 1) ps.length))) (fun kk hK => ?_) ?_
    · dsimp only [tAsg]
      refine lc_mapT (n := ws.length) (bs := (List.range xs.length).map fun t => cv ps xs t (min (t + 1) ps.length)) (Rr := fun _ G y p => RV C G y p) (fun R r => ⟨_, rfl, l, ws, rfl, .inl (SqL.of (s01 _ _ hl)), _, rfl, by omega, by have := lb.few; omega, by rw [Int.toNat_natCast]; exact r⟩) (by rw [lw]; exact few) (by rw [List.length_map, List.length_range, lw]) (fun _ _ _ _ _ h s => h.same s) (fun D G rs' ys y p hD h => h.nl (SameN.upd hD)) ?_ ?_
      · intro D k b G2 rs' Kc hk hb s2 hD kc
        rw [lw] at hk
        rw [List.getElem?_map, List.getElem?_range hk] at hb
        cases hb
        refine ⟨_, rfl, pr, dx, _, rfl, s2 _ _ p1, rfl, V.int (0 + (k : Int)), rfl, pr, V.int (0 + (k : Int)), rs, rfl, hpr.same s2, .inr ⟨k, by rw [Int.zero_add], fun u H' s' ru => kc u H' s' ?_⟩⟩
        show RV C H' u (cv ps xs k (min (k + 1) ps.length))
        rw [← part k]
        exact ru
      · intro l2 us G2 nl s2 hl2 pu
        exact hK _ _ ⟨l2, us, rfl, s2, hl2, pu⟩
    rintro σ' G2 ⟨l2, us, rfl, s2, hl2, pu⟩
    have lu : us.length = xs.length := by rw [paired_len pu, List.length_map, List.length_range]
    refine ⟨_, rfl, true, rfl, ?_⟩
    refine lc_map (bs := amt ps xs) (Rr := fun _ G y p => RV C G y p) (fun R r => ⟨.ref l2, rfl, r⟩) ⟨l2, rfl, .inl (SqL.of hl2)⟩ (by rw [lu]; exact few) (by rw [lu, len_amt]) (fun _ _ _ _ _ h s => h.same s) (fun D G rs' ys y p hD h => h.nl (SameN.upd hD)) ?_ ?_
    · intro D k x b G3 rs' Kc hx hb s3 hD kc
      obtain ⟨p, hp, c, dc, rfl, hc⟩ := paired_at pu hx
      have hk : k < xs.length := by
        have := (List.getElem?_eq_some_iff.mp hx).1
        omega
      rw [List.getElem?_map, List.getElem?_range hk] at hp
      have ep : p = cv ps xs k (min (k + 1) ps.length) := (Option.some.inj hp).symm
      have eb : b = rnd p := by
        unfold amt at hb
        rw [List.getElem?_map, List.getElem?_range hk] at hb
        rw [ep]
        exact (Option.some.inj hb).symm
      have lowc : Low p := by rw [ep]; exact cv_low lowp lowx k _
      have bdc : Bd (6 * M0) (9 * R0) p := by
        rw [ep]
        exact (cv_bd sp lb.b k _).mono (Nat.dvd_refl _) (by
          have : min (k + 1) ps.length * (3 * R0) ≤ 3 * (3 * R0) := Nat.mul_le_mul_right _ (by omega)
          omega)
      have room := lb.room
      have e6 : (R0 + 1) * M0 * 216 < 2 ^ 4000 := Nat.lt_of_lt_of_le (Nat.mul_lt_mul_of_lt_of_le room (Nat.le_refl _) (by decide)) (by decide)
      have fitc : Fit p := Bd.fit lowc (by have := lb.pos; omega) bdc (by
        refine Nat.lt_of_le_of_lt ?_ e6
        have : (9 * R0 + 1) * (6 * M0) ≤ (9 * (R0 + 1)) * (6 * M0) := Nat.mul_le_mul_right _ (by omega)
        have e : (9 * (R0 + 1)) * (6 * M0) = (R0 + 1) * M0 * 54 := by grind
        have : (R0 + 1) * M0 * 54 ≤ (R0 + 1) * M0 * 216 := Nat.mul_le_mul_left _ (by decide)
        omega)
      have fits : Fit (padd p (1, 2)) := Bd.fit (padd_low lowc low12) (M := 12 * M0) (R := 9 * R0 + 1) (by have := lb.pos; omega) (Bd.add lowc low12 (bdc.mono ⟨2, by omega⟩ (Nat.le_refl _)) ⟨⟨6 * M0, by omega⟩, by decide⟩) (by
        refine Nat.lt_of_le_of_lt ?_ e6
        have : (9 * R0 + 1 + 1) * (12 * M0) ≤ (9 * (R0 + 1)) * (12 * M0) := Nat.mul_le_mul_right _ (by omega)
        have e : (9 * (R0 + 1)) * (12 * M0) = (R0 + 1) * M0 * 108 := by grind
        have : (R0 + 1) * M0 * 108 ≤ (R0 + 1) * M0 * 216 := Nat.mul_le_mul_left _ (by decide)
        omega)
      refine ⟨_, rfl, .good 1 2 rfl rfl (by decide) (by decide) ?_⟩
      intro h dh G4 nh s4 hh
      refine ⟨c, dc, _, rfl, (s3.trans s4) _ _ hc, .inl ⟨h, dh, _, rfl, hh⟩, c, dc, .ref h, p, rfl, (s3.trans s4) _ _ hc, fitc, .rat h dh (1, 2) rfl hh ⟨fit12, ?_⟩⟩
      intro m dm2 G5 nm s5 hm
      refine ⟨m, dm2, _, rfl, hm, rfl, m, dm2, _, rfl, hm, fits, ?_⟩
      refine .good _ 1 rfl rfl (by decide) (by decide) ?_
      intro z dz G6 nz s6 hz
      refine kc _ _ ((s4.trans s5).trans s6) ⟨z, dz, rfl, ?_⟩
      rw [hz, low_w, eb, ← half_up lowc]
    · intro l3 ws3 G3 nl s3 hl3 pw3
      exact q l3 ws3 G3 ((s01.trans s2).trans s3) hl3 pw3
end
end K03
end
section
set_option maxHeartbeats 16000000
set_option exponentiation.threshold 100000
namespace K03
open PySem PySem.Spec PyProof.Rows L2 LamX NdefX L3 TL PolyM
abbrev sStep : Stmt := top 53
/-- what a step asks of both lanes -/
structure StOk (n M R : Nat) (x : Ln2) : Prop where
  l : LnOk n x
  b : Bd2 M R x
  pos : 0 < M
  few : n ≤ 60
  room : (R * 20 + 20) * (M * 6) < 2 ^ 2000
def spStep (C CP CM : Addr) : Sp := fun vs H Q _ => ∃ (l : Addr) (v : V) (r : Rg) (x : Ln2) (n M R : Nat), vs = [.ref l, v, .bl true] ∧ LanesAt C H l x ∧ StOk n M R x ∧ RungT C CP CM H v r ∧ VR r ∧ ∀ l' H', Same H H' → LanesAt C H' l' (stp r x) → Q (.ref l') H'
theorem rep_flat {v : V} : ∀ {d : Nat}, (List.replicate (d : Int).toNat [v]).flatten = List.replicate d v
  | 0 => rfl
  | d + 1 => by
    have z := rep_flat (v := v) (d := d)
    rw [Int.toNat_natCast] at z ⊢
    rw [List.replicate_succ, List.flatten_cons, z, List.replicate_succ]
    rfl
theorem pmul_comm {p q : Int × Int} : pmul p q = pmul q p := by
  unfold pmul
  rw [Int.mul_comm p.1, Int.mul_comm p.2]
theorem StOk.fitA {n M R : Nat} {x : Ln2} (h : StOk n M R x) {X : List (Int × Int)} (b : BdL M R X) : ∀ p ∈ X, Fit p := fun p hp => by
  refine Bd.fit (b.l p hp) h.pos (b.b p hp) (Nat.lt_of_le_of_lt ?_ (Nat.lt_of_lt_of_le h.room (by decide)))
  exact Nat.mul_le_mul (by omega) (by omega)
theorem StOk.fitB {n M R : Nat} {x : Ln2} (h : StOk n M R x) {X : List (Int × Int)} (b : BdL 1 (9 * R + 1) X) : ∀ p ∈ X, Fit p := fun p hp => by
  refine Bd.fit (b.l p hp) (by decide) (b.b p hp) (Nat.lt_of_le_of_lt ?_ (Nat.lt_of_lt_of_le h.room (by decide)))
  have := h.pos
  exact Nat.mul_le_mul (by omega) (by omega)
theorem paired_repl {C : Addr} {G : Hp} {v : V} {p : Int × Int} (h : RV C G v p) : ∀ d : Nat, Paired (RV C G) (List.replicate d v) (List.replicate d p)
  | 0 => .nil
  | d + 1 => by
    rw [List.replicate_succ, List.replicate_succ]
    exact .cons h (paired_repl h d)
section
variable {P : Program} {w : World} {K : PySem.W.Frag} {mg : Str → Option Value} {base : Heap} {cB cN C fI CP CM fP fM CL fL : Addr}
theorem scStep : FnScope ["lanes", "rung", "is_rounded", "word", "lane", "told", "items", "other", "changed", "item", "amounts", "amount"] ["lanes", "rung", "is_rounded"] (defScope sStep) := ⟨rfl, rfl, rfl, by decide +kernel, rfl, by decide +kernel, by decide +kernel⟩
abbrev nStep : List Str := ["lanes", "rung", "is_rounded", "word", "lane", "told", "items", "other", "changed", "item", "amounts", "amount"]
theorem ok_step {f fA gA fS gS fM2 gM : Addr} {fd fdA fdS fdM : FuncData} (F : Fun K "stepped" "stepped" sStep f fd) (B : TxtR mg) (bz : mg "zip" = none) (R : Rat P w K mg base cB cN C fI)
    (OA : OpC K C fA gA .Add) (FA : FnOk P w K mg base (L2.CX P w) 8 fA fdA ["self", "other"] (spBin K C cB padd)) (bA : Binds K fdA ["self", "other"] [])
    (OS : OpC K C fS gS .Sub) (FS : FnOk P w K mg base (L2.CX P w) 8 fS fdS ["self", "other"] (spBin K C cB psub)) (bS : Binds K fdS ["self", "other"] [])
    (OM : OpC K C fM2 gM .Mult) (FM : FnOk P w K mg base (L2.CX P w) 8 fM2 fdM ["self", "other"] (spBin K C cB pmul)) (bM : Binds K fdM ["self", "other"] [])
    (hA : Dfn P w K mg base CX0 12 "amounts_of" ["poly", "items", "is_rounded"] (spAmts C CP CM)) :
    FnOk P w K mg base CX0 13 f fd ["lanes", "rung", "is_rounded"] (spStep C CP CM) := by
  refine F.ok scStep (fun vs H Q E h => ?_) (fun cdv A outer s H vs Q E hr h => ?_)
  · obtain ⟨l, v, r, x, n, M, R, rfl, _⟩ := h
    rfl
  · obtain ⟨l, v, r, x, n, M0, R0, rfl, hl, so, hv, vr, q⟩ := h
    have nd := scStep.nd
    have hr8 : Room 8 _ := hr.mono (by decide)
    have hr5 : Room 5 _ := hr.mono (by decide)
    refine ⟨_, pss_cons (ps_if (pt_cmpR op_eq (pe_ix ix_tup (pv 1) pe_int (fun _ _ => rfl)) pe_str (nomark _)) (pss_one (ps_ret (pe_pick (pv 0) po_none po_none (po_some (pe_un un_neg pe_int))))) pss_nil)
      (pss_cons (ps_asg (pv 1) (pg_tup (by rfl) (pgs_cons (pg_name (i := 3) nd rfl (Or.inr rfl)) (pgs_cons (pg_name (i := 4) nd rfl (Or.inl rfl)) (pgs_cons (pg_name (i := 5) nd rfl (Or.inr rfl)) pgs_nil)))))
      (pss_cons (ps_par (i := 6) (j := 7) (by rfl) nd rfl rfl (by decide) rfl rfl (pa_cons (pe_ix ix_list (pv 0) (pv 4) (fun _ _ => rfl)) (pa_cons (pe_ix ix_list (pv 0) (pe_op op_sub pe_int (pv 4)) (fun _ _ => rfl)) pa_nil)) (by rfl))
      (pss_cons (ps_if (pt_cmpR op_eq (pv 3) pe_str (nomark _))
        (pss_one (ps_setLc (i := 8) (own := [("item", 9)]) (g := gName 9) (tt := tYes) rfl nd rfl rfl (sw_true rfl rfl rfl (by decide +kernel)) (pi_or (pi_list (pv 6)) (pi_tup (pv 6))) (blkOk_by (N := nStep) (sc := defScope sStep) (by decide +kernel)) (fun _ _ _ _ _ => pg_name (i := 9) nd rfl (Or.inl rfl)) (fun _ _ _ _ _ => pts_nil)
          (fun _ _ _ _ _ => by exact (pe_op (show OpR _ (binaryOp .Mult) (rOwnL K C _ (spBin K C cB pmul) E0) from op_ownL (E := E0) R.cls.t1 OM FM hr8 bM passL) (pv 9) (pv 5)))))
        (pss_one (ps_if (pt_cmpR op_eq (pv 3) pe_str (nomark _))
          (pss_one (ps_set (i := 8) nd rfl (Or.inl rfl) (pe_slice sl_list (pe_op op_cat (pe_op op_rep (pe_lst (pa_cons (pe_rat1 (E := E0) R hr5 passL pe_int) pa_nil)) (pv 5)) (pv 6)) po_none (po_some (pe_callB call_len_seq (by rfl) B.len PySem.boot_len (pa_cons (pv 6) pa_nil))))))
          (pss_cons (ps_set (i := 10) nd rfl (Or.inl rfl) (dc hA hr (by decide) (pa_cons (pv 5) (pa_cons (pv 7) (pa_cons (pv 2) pa_nil)))))
          (pss_one (ps_setLc (i := 8) (own := [("item", 9), ("amount", 11)]) (g := gTup K 2 (gCons (gName 9) (gCons (gName 11) gNil))) (tt := tYes) rfl nd rfl rfl (sw_true rfl rfl rfl (by decide +kernel)) (RZ.pi_zipA (by rfl) bz (pa_cons (pv 6) (pa_cons (pv 10) pa_nil))) (blkOk_by (N := nStep) (sc := defScope sStep) (by decide +kernel)) (fun _ _ _ _ _ => pg_tupK K (by rfl) (pgs_cons (pg_name (i := 9) nd rfl (Or.inl rfl)) (pgs_cons (pg_name (i := 11) nd rfl (Or.inl rfl)) pgs_nil))) (fun _ _ _ _ _ => pts_nil)
            (fun _ _ _ _ _ => by exact (pe_ifExp (pt_cmpR op_eq (pv 3) pe_str (nomark _)) (pe_op (show OpR _ (binaryOp .Add) (rOwnL K C _ (spBin K C cB padd) E0) from op_ownL (E := E0) R.cls.t1 OA FA hr8 bA passL) (pv 9) (pv 11)) (pe_op (show OpR _ (binaryOp .Sub) (rOwnL K C _ (spBin K C cB psub) E0) from op_ownL (E := E0) R.cls.t1 OS FS hr8 bS passL) (pv 9) (pv 11))))))))))
      (pss_one (ps_ret (pe_ifExp (pt_cmpR op_eq (pv 4) pe_int (nomark _)) (pe_lst (pa_cons (pv 8) (pa_cons (pv 7) pa_nil))) (pe_lst (pa_cons (pv 7) (pa_cons (pv 8) pa_nil))))))))), ?_⟩
    obtain ⟨a, b, xs, ys, h1, h2, h3, h4, h5⟩ := hl
    have key : (∃ t, r = .ex ∧ v = .ref t ∧ H t = some (.tup [.str "exchange"])) ∨ ∃ (t : Addr) (z : Str) (l' : Nat) (tv : V) (f : List (Int × Int) → List (Int × Int) → List (Int × Int)), v = .ref t ∧ H t = some (.tup [.str z, .int l', tv]) ∧ z ≠ "exchange" ∧ l' ≤ 1 ∧ stp r x = onL l' f x ∧
        ((z = "factor" ∧ ∃ (p : Int × Int) (a dx : Addr), tv = .ref a ∧ H a = some (rat C dx p) ∧ SmlF p ∧ f = fun h _ => h.map (pmul p)) ∨ (z = "late" ∧ ∃ d : Nat, tv = .int d ∧ d ≤ 3 ∧ f = fun h _ => lag d h) ∨
        ∃ (b : Bool) (a : Addr) (qs ps : List (Int × Int)), z = (if b = true then ("add" : Str) else ("take" : Str)) ∧ tv = .ref a ∧ PolyAt C CP CM H a qs ∧ IsP qs ∧ qs.length ≤ ps.length ∧ (∀ q ∈ qs, Sml q) ∧ (∀ k, cf qs k = cf ps k) ∧ ps.length ≤ 3 ∧ (∀ p ∈ ps, Sml p) ∧ f = fun h o => bld h (amt ps o) (sgnR b)) := by
      cases r with
      | ex =>
        obtain ⟨t, e, ht⟩ := hv
        exact .inl ⟨t, rfl, e, ht⟩
      | fac l p =>
        obtain ⟨t, a, dx, e, ht, ha⟩ := hv
        exact .inr ⟨t, _, l, _, _, e, ht, by decide +kernel, vr.1, rfl, .inl ⟨rfl, p, a, dx, rfl, ha, vr.2, rfl⟩⟩
      | late l d =>
        obtain ⟨t, e, ht⟩ := hv
        exact .inr ⟨t, _, l, _, _, e, ht, by decide +kernel, vr.1, rfl, .inr (.inl ⟨rfl, d, rfl, vr.2.2, rfl⟩)⟩
      | add b l ps =>
        obtain ⟨t, a, qs, e, ht, ha, iq, lq, sq, eq⟩ := hv
        exact .inr ⟨t, _, l, _, _, e, ht, by cases b <;> decide +kernel, vr.1, rfl, .inr (.inr ⟨b, a, qs, ps, rfl, rfl, ha, iq, lq, sq, eq, vr.2.1, vr.2.2, rfl⟩)⟩
    rcases key with ⟨t, rfl, rfl, ht⟩ | ⟨t, z, l', tv, f, rfl, ht, nz, ll, es, kind⟩
    · refine ⟨_, rfl, t, _, 0, .str "exchange", rfl, rfl, SqT.of ht, rfl, rfl, _, rfl, ?_⟩
      refine ite2 (fun _ => ?_) (fun z => absurd (by decide +kernel) z)
      have ep : pickG [V.ref a, V.ref b] none none (some (-1)) = [V.ref b, V.ref a] := by
        have e : placesOf 2 none none (some (-1)) = [1, 0] := by decide
        unfold pickG
        show List.filterMap _ (placesOf 2 none none (some (-1))) = _
        rw [e]
        rfl
      refine ⟨_, rfl, l, rfl, ?_⟩
      show _
      refine ⟨1, rfl, -1, rfl, by decide, _, SqL.of h1, by rw [ep]; show 2 ≤ sizeLine; decide, fun p np => ?_⟩
      rw [ep]
      have s1 := Same.new (o := .lst [V.ref b, V.ref a]) (fun _ _ e => e : Same H H) np
      exact q p _ s1 ⟨b, a, ys, xs, upd_same, s1 _ _ h4, Paired.mapP h5 fun _ _ z => z.same s1, s1 _ _ h2, Paired.mapP h3 fun _ _ z => z.same s1⟩
    have off : ∀ {y : Str}, z ≠ y → ¬ (decide (V.str z = V.str y) = true) := fun n e => n (by injection of_decide_eq_true e)
    have lanes : ∃ (u o : Addr) (us os : List V) (X Y : List (Int × Int)), atI [V.ref a, V.ref b] (l' : Int) = some (.ref u) ∧ atI [V.ref a, V.ref b] (1 - (l' : Int)) = some (.ref o) ∧ H u = some (.lst us) ∧ Paired (RV C H) us X ∧ H o = some (.lst os) ∧ Paired (RV C H) os Y ∧ X.length = n ∧ Y.length = n ∧ BdL M0 R0 X ∧ BdL M0 R0 Y ∧
        onL l' f x = (if l' = 0 then (f X Y, Y) else (Y, f X Y)) := by
      rcases (show l' = 0 ∨ l' = 1 by omega) with rfl | rfl
      · exact ⟨a, b, xs, ys, x.1, x.2, rfl, rfl, h2, h3, h4, h5, so.l.a, so.l.b, so.b.a, so.b.b, rfl⟩
      · exact ⟨b, a, ys, xs, x.2, x.1, rfl, rfl, h4, h5, h2, h3, so.l.b, so.l.a, so.b.b, so.b.a, rfl⟩
    obtain ⟨u, o, us, os, X, Y, i1, i2, hu, pu, ho, po, lX, lY, bX, bY, eo⟩ := lanes
    refine ⟨_, rfl, t, _, 0, .str z, rfl, rfl, SqT.of ht, rfl, rfl, _, rfl, ?_⟩
    refine ite2 (fun y => absurd y (off nz)) (fun _ => ?_)
    refine ⟨_, rfl, t, _, rfl, SqT.of ht, rfl, ?_⟩
    refine ⟨_, _, rfl, _, _, rfl, _, _, rfl, rfl, ?_⟩
    refine ⟨_, rfl, _, rfl, l, _, _, _, rfl, rfl, SqL.of h1, i1, ?_⟩
    refine ⟨_, rfl, _, rfl, _, _, rfl, rfl, l, _, _, _, rfl, rfl, SqL.of h1, i2, _, _, rfl, ?_⟩
    have lu : us.length = n := by rw [paired_len pu, lX]
    have lo : os.length = n := by rw [paired_len po, lY]
    have few := so.few
    dsimp only
    refine seq_to (fun σ' G => ∃ (c : Addr) (cs : List V) (o3 o5 o6 o9 o10 o11 : Option V), σ' = [some (.ref l), some (.ref t), some (.bl true), o3, some (.int (l' : Int)), o5, o6, some (.ref o), some (.ref c), o9, o10, o11] ∧ Same H G ∧ G c = some (.lst cs) ∧ Paired (RV C G) cs (f X Y)) (fun kk hK => ?_) ?_
    · rcases kind with ⟨rfl, p, ar, dr, rfl, har, sf, rfl⟩ | ⟨rfl, d, rfl, d3, rfl⟩ | ⟨bb, ap, qs, ps, rfl, rfl, hap, iq, lq, sq, eq, lp, sp, rfl⟩
      · -- factor
        refine ⟨_, rfl, rfl, _, rfl, ?_⟩
        refine ite2 (fun _ => ?_) (fun z => absurd (by decide +kernel) z)
        dsimp only [tAsg]
        have fx := so.fitA bX
        refine lc_map (bs := X.map (pmul p)) (Rr := fun _ G y p => RV C G y p) (fun R r => ⟨_, rfl, r⟩) ⟨u, rfl, .inl (SqL.of hu)⟩ (by rw [lu]; exact Nat.le_trans few (by decide)) (by rw [List.length_map, lu, lX]) (fun _ _ _ _ _ h s => h.same s) (fun D G rs' ys y p hD h => h.nl (SameN.upd hD)) ?_ ?_
        · intro D k y b' G2 rs' Kc hx hb s2 hD kc
          obtain ⟨p1, e1, b1, d1, rfl, r1⟩ := paired_at pu hx
          rw [List.getElem?_map, e1] at hb
          cases hb
          refine ⟨_, rfl, _, rfl, b1, d1, _, rfl, s2 _ _ r1, .inl ⟨ar, dr, _, rfl, s2 _ _ har⟩, b1, d1, .ref ar, p1, rfl, s2 _ _ r1, fx _ (List.mem_of_getElem? e1), .rat ar dr p rfl (s2 _ _ har) ⟨sf.s.fit, fun c dc G3 nc s3 ec => kc _ _ s3 ⟨c, dc, rfl, ?_⟩⟩⟩
          rw [ec, pmul_comm]
        · intro c ws G2 nl s2 hl pw
          exact hK _ _ ⟨c, ws, _, _, _, _, _, _, rfl, s2, hl, pw⟩
      · -- late
        refine ⟨_, rfl, rfl, _, rfl, ?_⟩
        refine ite2 (fun z => absurd z (by decide +kernel)) (fun _ => ?_)
        refine ⟨_, rfl, rfl, _, rfl, ?_⟩
        refine ite2 (fun _ => ?_) (fun z => absurd (by decide +kernel) z)
        refine .good 0 1 rfl rfl (by decide) (by decide) ?_
        intro z0 dz G1 nz s1 hz
        refine ⟨by show 1 ≤ sizeLine; decide, fun p np => ?_⟩
        have s2 := Same.new (o := .lst [V.ref z0]) (fun _ _ e => e : Same G1 G1) np
        have h2' : upd G1 p (.lst [V.ref z0]) p = some (.lst [V.ref z0]) := upd_same
        generalize upd G1 p (.lst [V.ref z0]) = G2 at s2 h2' ⊢
        refine ⟨_, rfl, p, _, _, rfl, rfl, h2', by omega, by omega, ?_, fun p2 np2 => ?_⟩
        · rw [Int.toNat_natCast, List.length_singleton, Nat.one_mul]
          exact Nat.le_trans d3 (by decide)
        rw [rep_flat]
        have s3 := Same.new (o := .lst (List.replicate d (V.ref z0))) (fun _ _ e => e : Same G2 G2) np2
        have h3' : upd G2 p2 (.lst (List.replicate d (V.ref z0))) p2 = some (.lst (List.replicate d (V.ref z0))) := upd_same
        generalize upd G2 p2 (.lst (List.replicate d (V.ref z0))) = G3 at s3 h3' ⊢
        have s03 := s1.trans (s2.trans s3)
        refine ⟨_, rfl, p2, u, _, us, rfl, rfl, h3', s03 _ _ hu, ?_, fun p3 np3 => ?_⟩
        · rw [List.length_replicate, lu]
          exact Nat.le_trans (show d + n ≤ 63 by omega) (by decide)
        have s4 := Same.new (o := .lst (List.replicate d (V.ref z0) ++ us)) (fun _ _ e => e : Same G3 G3) np3
        have h4' : upd G3 p3 (.lst (List.replicate d (V.ref z0) ++ us)) p3 = some (.lst (List.replicate d (V.ref z0) ++ us)) := upd_same
        generalize upd G3 p3 (.lst (List.replicate d (V.ref z0) ++ us)) = G4 at s4 h4' ⊢
        have s04 := s03.trans s4
        refine ⟨_, rfl, u, us, rfl, .inl (SqL.of (s04 _ _ hu)), _, rfl, p3, _, rfl, SqL.of h4', fun p4 np4 => ?_⟩
        have s5 := Same.new (o := .lst (cutV (List.replicate d (V.ref z0) ++ us) none (some (us.length : Int)))) (fun _ _ e => e : Same G4 G4) np4
        refine hK _ _ ⟨p4, _, _, _, _, _, _, _, rfl, s04.trans s5, upd_same, ?_⟩
        rw [cut_to (by rw [List.length_append]; omega)] at s5 ⊢
        show Paired _ _ ((List.replicate d (0, 1) ++ X).take X.length)
        rw [← paired_len pu]
        refine paired_takeP (paired_appP (paired_repl ⟨z0, dz, rfl, ?_⟩ d) (Paired.mapP pu fun _ _ z => z.same (s04.trans s5))) _
        rw [(s2.trans (s3.trans (s4.trans s5))) _ _ hz, low_w]
      · -- add, take
        have n1 : (if bb = true then ("add" : Str) else ("take" : Str)) ≠ "factor" := by cases bb <;> decide +kernel
        have n2 : (if bb = true then ("add" : Str) else ("take" : Str)) ≠ "late" := by cases bb <;> decide +kernel
        refine ⟨_, rfl, rfl, _, rfl, ?_⟩
        refine ite2 (fun y => absurd y (off n1)) (fun _ => ?_)
        refine ⟨_, rfl, rfl, _, rfl, ?_⟩
        refine ite2 (fun y => absurd y (off n2)) (fun _ => ?_)
        refine ⟨_, rfl, _, rfl, _, rfl, ap, o, os, ps, qs, Y, M0, R0, rfl, hap, iq, by omega, sq, eq, sp, lp, ho, po, ⟨bY, so.pos, by omega, Nat.lt_of_le_of_lt (Nat.mul_le_mul (by omega) (by omega)) so.room⟩, fun l2 us2 G1 s1 hl2 p2 => ?_⟩
        dsimp only [gName, tAsg]
        have fx := so.fitA bX
        have ab := amt_bd sp lp bY
        have fa := so.fitB ab
        have l2l : us2.length = n := by rw [paired_len p2, len_amt, lY]
        refine lc_zipL (K := K) (xs := us) (ys := us2) (bs := bld X (amt ps Y) (sgnR bb)) (Rr := fun _ G (y : V) (p : Int × Int) => RV C G y p) (fun R r => ⟨_, rfl, _, rfl, u, l2, us, us2, rfl, .inl ⟨SqL.of (s1 _ _ hu), SqL.of hl2, r u l2 G1 (fun _ _ e => e) (SqL.of (s1 _ _ hu)) (SqL.of hl2)⟩⟩) (by decide) (by rw [lu]; exact Nat.le_trans (Nat.min_le_left _ _) (Nat.le_trans few (by decide))) (by rw [lu, l2l, Nat.min_self, len_bld, lX]) (fun _ _ _ _ _ h s => h.same s) (fun D G rs' ys y p hD h => h.nl (SameN.upd hD)) ?_ ?_
        · intro D k y y2 b' G2 rs' Kc hx hx2 hb s2 hD kc
          obtain ⟨p1, e1, b1, d1, rfl, r1⟩ := paired_at pu hx
          obtain ⟨q1, e2, b2, d2, rfl, r2⟩ := paired_at p2 hx2
          have kX : k < X.length := (List.getElem?_eq_some_iff.mp e1).1
          have eb : b' = padd p1 (pmul (sgnR bb) q1) := by
            unfold bld at hb
            rw [List.getElem?_map, List.getElem?_range kX] at hb
            have z := (Option.some.inj hb).symm
            rw [z]
            show padd (X.getD k (0, 1)) (pmul (sgnR bb) ((amt ps Y).getD k (0, 1))) = _
            rw [List.getD_eq_getElem?_getD, List.getD_eq_getElem?_getD, e1, e2]
            rfl
          have lq1 := ab.l _ (List.mem_of_getElem? e2)
          refine ⟨_, rfl, rfl, _, rfl, ?_⟩
          cases bb with
          | true =>
            rw [add_sgn lq1] at eb
            subst eb
            refine ite2 (fun _ => ?_) (fun z => absurd (by decide +kernel) z)
            exact ⟨_, rfl, _, rfl, b1, d1, _, rfl, s2 _ _ (s1 _ _ r1), .inl ⟨b2, d2, _, rfl, s2 _ _ r2⟩, b1, d1, .ref b2, p1, rfl, s2 _ _ (s1 _ _ r1), fx _ (List.mem_of_getElem? e1), .rat b2 d2 q1 rfl (s2 _ _ r2) ⟨fa _ (List.mem_of_getElem? e2), fun c dc G3 nc s3 ec => kc _ _ s3 ⟨c, dc, rfl, ec⟩⟩⟩
          | false =>
            rw [sub_sgn lq1] at eb
            subst eb
            refine ite2 (fun z => absurd z (by decide +kernel)) (fun _ => ?_)
            exact ⟨_, rfl, _, rfl, b1, d1, _, rfl, s2 _ _ (s1 _ _ r1), .inl ⟨b2, d2, _, rfl, s2 _ _ r2⟩, b1, d1, .ref b2, p1, rfl, s2 _ _ (s1 _ _ r1), fx _ (List.mem_of_getElem? e1), .rat b2 d2 q1 rfl (s2 _ _ r2) ⟨fa _ (List.mem_of_getElem? e2), fun c dc G3 nc s3 ec => kc _ _ s3 ⟨c, dc, rfl, ec⟩⟩⟩
        · intro c ws G2 nl s2 hl pw
          exact hK _ _ ⟨c, ws, _, _, _, _, _, _, rfl, s1.trans s2, hl, pw⟩
    · rintro σ' G ⟨c, cs, o3, o5, o6, o9, o10, o11, rfl, sG, hc, pc⟩
      refine ⟨_, rfl, rfl, _, rfl, ?_⟩
      rw [es, eo] at q
      have put : ∀ (p : Addr) (y : List V), G p = none → Same G (upd G p (.lst y)) := fun p y np => Same.new (fun _ _ e => e) np
      rcases (show l' = 0 ∨ l' = 1 by omega) with rfl | rfl
      · refine ite2 (fun _ => ?_) (fun z => absurd (by decide +kernel) z)
        refine ⟨_, rfl, _, rfl, by show 2 ≤ sizeLine; decide, fun p np => ?_⟩
        have s1 := put p [V.ref c, V.ref o] np
        exact q p _ (sG.trans s1) ⟨c, o, cs, os, upd_same, s1 _ _ hc, Paired.mapP pc fun _ _ z => z.same s1, s1 _ _ (sG _ _ ho), Paired.mapP po fun _ _ z => z.same (sG.trans s1)⟩
      · refine ite2 (fun z => absurd z (by decide +kernel)) (fun _ => ?_)
        refine ⟨_, rfl, _, rfl, by show 2 ≤ sizeLine; decide, fun p np => ?_⟩
        have s1 := put p [V.ref o, V.ref c] np
        exact q p _ (sG.trans s1) ⟨o, c, os, cs, upd_same, s1 _ _ (sG _ _ ho), Paired.mapP po fun _ _ z => z.same (sG.trans s1), s1 _ _ hc, Paired.mapP pc fun _ _ z => z.same s1⟩
end
end K03
end
section
set_option maxHeartbeats 8000000
set_option exponentiation.threshold 100000
namespace K03
open PySem PySem.Spec PyProof.Rows L2 LamX NdefX L3 TL PolyM
abbrev sBlend : Stmt := top 69
abbrev sAmL : Stmt := top 75
def spBlend : Sp := fun vs H Q _ => ∃ (a b t : Addr) (xs ys : List (Int × Int)) (s : Int × Int), vs = [.ref a, .ref b, .ref t] ∧ PPs H a xs ∧ PPs H b ys ∧ Pair H t s ∧ xs.length = ys.length ∧ xs.length ≤ 100 ∧ Fit s ∧ (∀ p ∈ xs, Fit p) ∧ (∀ p ∈ ys, Fit p ∧ Fit (pmul s p)) ∧ NewPl H Q (bld xs ys s)
def spAmL : Sp := fun vs H Q _ => ∃ (a b : Addr) (ps xs : List (Int × Int)) (M R : Nat), vs = [.ref a, .ref b, .bl true] ∧ PPs H a ps ∧ PPs H b xs ∧ (∀ p ∈ ps, Sml p) ∧ ps.length ≤ 3 ∧ LnB M R xs ∧ NewPl H Q (amt ps xs)
theorem PPs.at_ {H : Hp} {l : Addr} {ps : List (Int × Int)} (h : PPs H l ps) {k : Nat} (hk : k < ps.length) : ∃ (ts : List V) (t : Addr), H l = some (.lst ts) ∧ ts.length = ps.length ∧ atI ts (k : Int) = some (.ref t) ∧ Pair H t (ps.getD k (0, 1)) := by
  obtain ⟨ts, h1, h2⟩ := h
  have e : ps[k]? = some ps[k] := List.getElem?_eq_getElem hk
  obtain ⟨y, hy, t, rfl, pt⟩ := paired_back h2 e
  refine ⟨ts, t, h1, paired_len h2, atI_nat hy, ?_⟩
  rw [List.getD_eq_getElem?_getD, e]
  exact pt
section
variable {P : Program} {w : World} {K : PySem.W.Frag} {mg : Str → Option Value} {base : Heap} {cB cN C fI : Addr}
theorem scBlend : FnScope ["_law_one", "_law_other", "_law_by", "_law_k"] ["_law_one", "_law_other", "_law_by"] (defScope sBlend) := ⟨rfl, rfl, rfl, by decide +kernel, rfl, by decide +kernel, by decide +kernel⟩
theorem ok_blend {f : Addr} {fd : FuncData} (F : Fun K "_law_blend" "_law_blend" sBlend f fd) (B : TxtR mg) (hP : Dfn P w K mg base CX0 3 "_law_plus" ["_law_one", "_law_other"] spPlus) (hM : Dfn P w K mg base CX0 3 "_law_times" ["_law_one", "_law_other"] spTimes) :
    FnOk P w K mg base CX0 4 f fd ["_law_one", "_law_other", "_law_by"] spBlend := by
  refine F.ok scBlend (fun vs H Q E h => ?_) (fun cdv A outer s H vs Q E hr h => ?_)
  · obtain ⟨a, b, t, xs, ys, s, rfl, _⟩ := h
    rfl
  · obtain ⟨a, b, t, xs, ys, sg, rfl, ha, hb, ht, el, few, fs, fx, fy, q⟩ := h
    have nd := scBlend.nd
    refine ⟨_, pss_one (ps_ret (pe_lc (own := [("_law_k", 3)]) (g := gName 3) (tt := tYes) rfl nd (pi_range1 (by rfl) B.range (pa_cons (pe_callB call_len_seq (by rfl) B.len PySem.boot_len (pa_cons (pv 0) pa_nil)) pa_nil)) (blkOk_by (N := ["_law_one", "_law_other", "_law_by", "_law_k"]) (sc := defScope sBlend) (by decide +kernel)) (fun _ _ _ _ _ => pg_name (i := 3) nd rfl (Or.inl rfl)) (fun _ _ _ _ _ => pts_nil)
      (fun _ _ _ _ _ => by exact (dc hP hr (by decide) (pa_cons (pe_ix (ix_listK K) (pv 0) (pv 3) (fun _ _ => rfl)) (pa_cons (dc hM hr (by decide) (pa_cons (pv 2) (pa_cons (pe_ix (ix_listK K) (pv 1) (pv 3) (fun _ _ => rfl)) pa_nil))) pa_nil)))))), ?_⟩
    obtain ⟨ts, h1, h2⟩ := id ha
    have lt := paired_len h2
    refine lc_mapT (n := ts.length) (bs := bld xs ys sg) (Rr := fun _ G y p => PV G y p) (fun R r => ⟨_, rfl, a, ts, rfl, .inl (SqL.of h1), _, rfl, by omega, by omega, by rw [Int.toNat_natCast]; exact r⟩) (by rw [lt]; exact Nat.le_trans few (by decide)) (by rw [lt, len_bld]) (fun _ _ _ _ _ h s => h.same s) (fun D G rs' ys' y p hD h => PV.grow hD h) ?_ ?_
    · intro D k b' G rs' Kc hk hb' s1 hD kc
      have kx : k < xs.length := by omega
      have eb : b' = padd (xs.getD k (0, 1)) (pmul sg (ys.getD k (0, 1))) := by
        unfold bld at hb'
        rw [List.getElem?_map, List.getElem?_range kx] at hb'
        exact (Option.some.inj hb').symm
      obtain ⟨tx, u, e1, e2, e3, e4⟩ := (ha.same s1).at_ kx
      obtain ⟨ty, u2, g1, g2, g3, g4⟩ := (hb.same s1).at_ (show k < ys.length by omega)
      have my : ys.getD k (0, 1) ∈ ys := by
        rw [List.getD_eq_getElem?_getD, List.getElem?_eq_getElem (show k < ys.length by omega)]
        exact List.getElem_mem _
      have mx : xs.getD k (0, 1) ∈ xs := by
        rw [List.getD_eq_getElem?_getD, List.getElem?_eq_getElem kx]
        exact List.getElem_mem _
      have i0 : (0 : Int) + (k : Int) = (k : Int) := Int.zero_add _
      refine ⟨_, rfl, _, rfl, a, tx, _, .ref u, rfl, rfl, SqL.of e1, by rw [i0]; exact e3, ?_⟩
      refine ⟨_, rfl, _, rfl, _, rfl, b, ty, _, .ref u2, rfl, rfl, SqL.of g1, by rw [i0]; exact g3, ?_⟩
      refine ⟨t, u2, sg, _, rfl, s1 _ _ ht, g4, fs, (fy _ my).1, fun m G2 nm s2 hm => ?_⟩
      refine ⟨u, m, _, _, rfl, s2 _ _ e4, hm, fx _ mx, (fy _ my).2, fun z G3 nz s3 hz => ?_⟩
      refine kc _ _ (s2.trans s3) ⟨z, rfl, ?_⟩
      rw [eb]
      exact hz
    · intro l ws G nl s1 hl pw
      exact q l G nl s1 ⟨ws, hl, pw⟩
theorem scAmL : FnScope ["_law_parts", "_law_lane", "_law_is_rounded", "_law_found", "_law_turn", "_law_whole", "_law_k"] ["_law_parts", "_law_lane", "_law_is_rounded"] (defScope sAmL) := ⟨rfl, rfl, rfl, by decide +kernel, rfl, by decide +kernel, by decide +kernel⟩
theorem ok_amL {f : Addr} {fd : FuncData} (F : Fun K "_law_amounts" "_law_amounts" sAmL f fd) (B : TxtR mg) (hP : Dfn P w K mg base CX0 3 "_law_plus" ["_law_one", "_law_other"] spPlus) (hM : Dfn P w K mg base CX0 3 "_law_times" ["_law_one", "_law_other"] spTimes) :
    FnOk P w K mg base CX0 4 f fd ["_law_parts", "_law_lane", "_law_is_rounded"] spAmL := by
  refine F.ok scAmL (fun vs H Q E h => ?_) (fun cdv A outer s H vs Q E hr h => ?_)
  · obtain ⟨a, b, ps, xs, M, R, rfl, _⟩ := h
    rfl
  · obtain ⟨a, b, ps, xs, M, R, rfl, ha, hb, sp, lp, lb, q⟩ := h
    have nd := scAmL.nd
    refine ⟨_, pss_cons (ps_set (i := 3) nd rfl (Or.inl rfl) (pe_lst pa_nil))
      (pss_cons (ps_for PassesOwn.never rfl (pi_range1 rfl B.range (pa_cons (pe_callB call_len_seq (by rfl) B.len PySem.boot_len (pa_cons (pv 1) pa_nil)) pa_nil)) (pg_name (i := 4) nd rfl (Or.inl rfl))
        (pss_cons (ps_set (i := 5) nd rfl (Or.inl rfl) (pe_tup (pa_cons pe_int (pa_cons pe_int pa_nil))))
        (pss_cons (ps_for PassesOwn.never rfl (pi_range1 rfl B.range (pa_cons (pe_callB (call_min2 rfl) (by rfl) B.min (by decide +kernel) (pa_cons (pe_op op_add (pv 4) pe_int) (pa_cons (pe_callB call_len_seq (by rfl) B.len PySem.boot_len (pa_cons (pv 0) pa_nil)) pa_nil))) pa_nil)) (pg_name (i := 6) nd rfl (Or.inl rfl))
          (pss_one (ps_set (i := 5) nd rfl (Or.inl rfl) (dc hP hr (by decide) (pa_cons (pv 5) (pa_cons (dc hM hr (by decide) (pa_cons (pe_ix ix_list (pv 0) (pv 6) (fun _ _ => rfl)) (pa_cons (pe_ix ix_list (pv 1) (pe_op op_sub (pv 4) (pv 6)) (fun _ _ => rfl)) pa_nil))) pa_nil))))))
        (pss_cons (ps_if (pt_val (pv 2)) (pss_one (ps_set (i := 5) nd rfl (Or.inl rfl) (pe_tup (pa_cons (pe_op op_fdivZ (pe_op op_add (pe_op op_mul pe_int (pe_ix ix_tup (pv 5) pe_int (fun _ _ => rfl))) (pe_ix ix_tup (pv 5) pe_int (fun _ _ => rfl))) (pe_op op_mul pe_int (pe_ix ix_tup (pv 5) pe_int (fun _ _ => rfl)))) (pa_cons pe_int pa_nil))))) pss_nil)
        (pss_one (ps_expr (pe_bm PySem.F.plainAttrs_list PySem.F.slot_list_append PySem.F.type_list_append mt_append (pv 3) (pa_cons (pv 5) pa_nil)))))))) 
      (pss_one (ps_ret (pv 3)))), ?_⟩
    have lowx := lb.b.l
    have lowp : ∀ p ∈ ps, Low p := fun p hp => (sp p hp).l
    have room := lb.room
    have hpos := lb.pos
    have e6 : (R + 1) * M * 216 < 2 ^ 4000 := Nat.lt_of_lt_of_le (Nat.mul_lt_mul_of_lt_of_le room (Nat.le_refl _) (by decide)) (by decide)
    have fitx : ∀ k, Fit (xs.getD k (0, 1)) := fun k => Bd.fit (lb.b.at_ k).1 hpos (lb.b.at_ k).2 (by
      have : (R + 1) * M ≤ (R + 1) * M * 216 := Nat.le_mul_of_pos_right _ (by decide)
      omega)
    have fitp : ∀ k, Fit (ps.getD k (0, 1)) := fun k => getD_mem (P := Fit) (fun p hp => (sp p hp).fit) ⟨by decide, by decide, by decide⟩
    have smlp : ∀ k, Low (ps.getD k (0, 1)) ∧ Bd 6 3 (ps.getD k (0, 1)) := fun k => getD_mem (P := fun p => Low p ∧ Bd 6 3 p) (fun p hp => ⟨(sp p hp).l, (sp p hp).b⟩) ⟨low01, Bd.zero⟩
    have fitm : ∀ k j, Fit (pmul (ps.getD k (0, 1)) (xs.getD j (0, 1))) := fun k j => Bd.fit (pmul_low (smlp k).1 (lb.b.at_ j).1) (by omega) (Bd.mul (smlp k).1 (lb.b.at_ j).1 (smlp k).2 (lb.b.at_ j).2) (by
      have : (3 * R + 1) * (6 * M) ≤ (3 * (R + 1)) * (6 * M) := Nat.mul_le_mul_right _ (by omega)
      have e : (3 * (R + 1)) * (6 * M) = (R + 1) * M * 18 := by grind
      have : (R + 1) * M * 18 ≤ (R + 1) * M * 216 := Nat.mul_le_mul_left _ (by decide)
      omega)
    have fitc : ∀ t k, k ≤ 3 → Fit (cv ps xs t k) := fun t k hk => Bd.fit (cv_low lowp lowx t k) (by omega) ((cv_bd sp lb.b t k).mono (Nat.dvd_refl _) (Nat.mul_le_mul_right _ hk)) (by
      have : (3 * (3 * R) + 1) * (6 * M) ≤ (9 * (R + 1)) * (6 * M) := Nat.mul_le_mul_right _ (by omega)
      have e : (9 * (R + 1)) * (6 * M) = (R + 1) * M * 54 := by grind
      have : (R + 1) * M * 54 ≤ (R + 1) * M * 216 := Nat.mul_le_mul_left _ (by decide)
      omega)
    obtain ⟨tb, hb1, hb2⟩ := id hb
    have ltb := paired_len hb2
    obtain ⟨ta, ha1, ha2⟩ := id ha
    have lta := paired_len ha2
    have few := lb.few
    refine ⟨by show 0 ≤ sizeLine; decide, fun D nD => ?_⟩
    have s0 := Same.new (o := .lst []) (fun _ _ e => e : Same H H) nD
    have hD0 : upd H D (.lst []) D = some (.lst []) := upd_same
    generalize upd H D (.lst []) = G0 at s0 hD0 ⊢
    dsimp only [gName]
    refine seq_to (fun σ' G => ∃ (us : List V) (o4 o5 o6 : Option V), σ' = [some (.ref a), some (.ref b), some (.bl true), some (.ref D), o4, o5, o6] ∧ Same H G ∧ G D = some (.lst us) ∧ Paired (PV G) us (amt ps xs)) (fun kk hK => ?_) ?_
    · refine ⟨_, rfl, b, tb, rfl, .inl (SqL.of (s0 _ _ hb1)), _, rfl, by omega, by omega, ?_⟩
      rw [Int.toNat_natCast]
      refine for_range (lo := 0) (n := tb.length) (fun i σ G => ∃ (us : List V) (o4 o5 o6 : Option V), σ = [some (.ref a), some (.ref b), some (.bl true), some (.ref D), o4, o5, o6] ∧ Same H G ∧ G D = some (.lst us) ∧ Paired (PV G) us ((List.range i).map fun t => rnd (cv ps xs t (min (t + 1) ps.length)))) ⟨[], none, none, none, rfl, s0, hD0, .nil⟩ ?_ ?_
      · rintro i σ G hi ⟨us, o4, o5, o6, rfl, sG, hD, pu⟩
        rw [Int.zero_add]
        dsimp only [gName]
        refine ⟨by show 2 ≤ sizeLine; decide, fun w nw => ?_⟩
        have s1 := Same.new (o := .tup [.int 0, .int 1]) (fun _ _ e => e : Same G G) nw
        have hw : upd G w (.tup [.int 0, .int 1]) w = some (.tup [.int 0, .int 1]) := upd_same
        generalize upd G w (.tup [.int 0, .int 1]) = G1 at s1 hw ⊢
        dsimp only [gName]
        refine seq_to (fun σ' G' => ∃ (w' : Addr) (o6 : Option V), σ' = [some (.ref a), some (.ref b), some (.bl true), some (.ref D), some (.int (i : Int)), some (.ref w'), o6] ∧ Same G1 G' ∧ Pair G' w' (cv ps xs i (min (i + 1) ps.length))) (fun k2 hK2 => ?_) ?_
        · have em : (if (ta.length : Int) < (i : Int) + 1 then (ta.length : Int) else (i : Int) + 1) = ((min (i + 1) ps.length : Nat) : Int) := by
            by_cases z : (ta.length : Int) < (i : Int) + 1
            · rw [if_pos z]
              omega
            · rw [if_neg z]
              omega
          refine ⟨_, rfl, _, _, rfl, rfl, _, rfl, a, ta, rfl, .inl (SqL.of ((sG.trans s1) _ _ ha1)), _, _, rfl, ?_⟩
          rw [em]
          refine ⟨_, rfl, by omega, by omega, ?_⟩
          rw [Int.toNat_natCast]
          refine for_range (lo := 0) (n := min (i + 1) ps.length) (fun k σ' G' => ∃ (w' : Addr) (o6 : Option V), σ' = [some (.ref a), some (.ref b), some (.bl true), some (.ref D), some (.int (i : Int)), some (.ref w'), o6] ∧ Same G1 G' ∧ Pair G' w' (cv ps xs i k)) ⟨w, _, rfl, fun _ _ e => e, hw⟩ ?_ ?_
          · rintro k σ' G' hk ⟨w', o6', rfl, s2, hw'⟩
            rw [Int.zero_add]
            dsimp only [gName]
            have sH := sG.trans (s1.trans s2)
            obtain ⟨tx, u, e1, e2, e3, e4⟩ := (ha.same sH).at_ (show k < ps.length by omega)
            obtain ⟨ty, u2, g1, g2, g3, g4⟩ := (hb.same sH).at_ (show i - k < xs.length by omega)
            have ik : (i : Int) - (k : Int) = ((i - k : Nat) : Int) := by omega
            refine ⟨_, rfl, _, rfl, _, rfl, a, tx, _, .ref u, rfl, rfl, SqL.of e1, e3, ?_⟩
            refine ⟨_, rfl, _, rfl, _, rfl, _, _, rfl, rfl, b, ty, _, .ref u2, rfl, rfl, SqL.of g1, by rw [ik]; exact g3, ?_⟩
            refine ⟨u, u2, _, _, rfl, e4, g4, fitp k, fitx _, fun m G3 nm s3 hm => ?_⟩
            refine ⟨w', m, _, _, rfl, s3 _ _ hw', hm, fitc i k (by omega), fitm k _, fun z G4 nz s4 hz => ?_⟩
            exact ⟨z, _, rfl, s2.trans (s3.trans s4), hz⟩
          · rintro σ' G' ⟨w', o6', rfl, s2, hw'⟩
            exact hK2 _ _ ⟨w', o6', rfl, s2, hw'⟩
        rintro σ' G2 ⟨w2, o6', rfl, s2, hw2⟩
        have lc := cv_low lowp lowx i (min (i + 1) ps.length)
        have fc := fitc i (min (i + 1) ps.length) (by omega)
        generalize hp : cv ps xs i (min (i + 1) ps.length) = pc at hw2 lc fc
        have sH := sG.trans (s1.trans s2)
        have hD2 : G2 D = some (.lst us) := (s1.trans s2) _ _ hD
        have nz : (2 : Int) * pc.2 ≠ 0 := by have := lc.pos; omega
        have cz : CDivZ (2 * pc.1 + pc.2) (2 * pc.2) := ⟨nz, log2_small (Nat.lt_of_lt_of_le (show (2 * pc.2).natAbs < 2 * 2 ^ 4000 by have := fc.b; omega) (by decide)) (by decide)⟩
        refine seq_to (fun σ' G' => ∃ (w' : Addr) (o6 : Option V), σ' = [some (.ref a), some (.ref b), some (.bl true), some (.ref D), some (.int (i : Int)), some (.ref w'), o6] ∧ Same G2 G' ∧ Pair G' w' (rnd pc)) (fun k3 hK3 => ?_) ?_
        · refine ⟨_, rfl, true, rfl, ite2 (fun _ => ?_) (fun z => absurd rfl z)⟩
          refine ⟨_, rfl, w2, _, 0, .int pc.1, rfl, rfl, SqT.of hw2, rfl, _, _, rfl, rfl, .inl ⟨by decide, by decide⟩, _, rfl, w2, _, 1, .int pc.2, rfl, rfl, SqT.of hw2, rfl, _, _, rfl, rfl, ?_⟩
          refine ⟨_, rfl, w2, _, 1, .int pc.2, rfl, rfl, SqT.of hw2, rfl, _, _, rfl, rfl, .inl ⟨by decide, by decide⟩, _, _, rfl, rfl, cz, by show 2 ≤ sizeLine; decide, fun t nt => ?_⟩
          exact hK3 _ _ ⟨t, _, rfl, Same.new (fun _ _ e => e) nt, upd_same⟩
        rintro σ' G3 ⟨w3, o6'', rfl, s3, hw3⟩
        have hD3 := s3 _ _ hD2
        have lu : us.length = i := by rw [paired_len pu, List.length_map, List.length_range]
        refine ⟨_, rfl, .inl ⟨rfl, _, SqL.of hD3⟩, _, rfl, D, _, _, rfl, rfl, hD3, ?_, ?_⟩
        · rw [lu]
          exact Nat.lt_of_lt_of_le (show i < 61 by omega) (by decide)
        · refine ⟨us ++ [.ref w3], _, _, _, rfl, fun b' o e => by rw [upd_ne (ne_of_none e nD)]; exact (sH.trans s3) _ _ e, upd_same, ?_⟩
          rw [List.range_succ, List.map_append]
          refine paired_appP (Paired.mapP pu fun _ _ z => PV.grow hD3 (z.same (s1.trans (s2.trans s3)))) (.cons ?_ .nil)
          show PV _ _ (rnd (cv ps xs i (min (i + 1) ps.length)))
          rw [hp]
          exact PV.grow hD3 ⟨w3, rfl, hw3⟩
      · rintro σ G ⟨us, o4, o5, o6, rfl, sG, hD, pu⟩
        rw [ltb] at pu
        exact hK _ _ ⟨us, o4, o5, o6, rfl, sG, hD, pu⟩
    · rintro σ' G ⟨us, o4, o5, o6, rfl, sG, hD, pu⟩
      exact ⟨_, rfl, q D G nD sG ⟨us, hD, pu⟩⟩
end
end K03
end
section
set_option maxHeartbeats 8000000
set_option exponentiation.threshold 100000
namespace K03
open PySem PySem.Spec PyProof.Rows L2 LamX NdefX L3 TL PolyM
abbrev sRunR : Stmt := inClass (top 44) 3
/-- what all steps ask of both lanes -/
structure RnOk (n M R m : Nat) (x : Ln2) : Prop where
  l : LnOk n x
  b : Bd2 M R x
  pos : 0 < M
  one : 1 ≤ R
  few : n ≤ 60
  room : (R * 11 ^ m * 20 + 20) * (M * 6 ^ m * 6) < 2 ^ 2000
theorem RnOk.at_ {n M R : Nat} {x : Ln2} {rs : List Rg} (h : RnOk n M R rs.length x) (vr : ∀ r ∈ rs, VR r) {i : Nat} (hi : i ≤ rs.length) : StOk n (M * 6 ^ i) (R * 11 ^ i) (rnL (rs.take i) x) := by
  have vt : ∀ r ∈ rs.take i, VR r := fun r hr => vr r (List.mem_of_mem_take hr)
  have lt : (rs.take i).length = i := by rw [List.length_take]; omega
  have b := Bd2.rn (rs := rs.take i) h.b h.one vt
  rw [lt] at b
  refine ⟨h.l.rn vt, b, Nat.mul_pos h.pos (Nat.pow_pos (by decide)), h.few, Nat.lt_of_le_of_lt (Nat.mul_le_mul ?_ ?_) h.room⟩
  · have : R * 11 ^ i ≤ R * 11 ^ rs.length := Nat.mul_le_mul_left _ (Nat.pow_le_pow_right (by decide) hi)
    omega
  · have : M * 6 ^ i ≤ M * 6 ^ rs.length := Nat.mul_le_mul_left _ (Nat.pow_le_pow_right (by decide) hi)
    omega
theorem rn_snoc {rs : List Rg} {i : Nat} {r : Rg} {x : Ln2} (h : rs[i]? = some r) : rnL (rs.take (i + 1)) x = stp r (rnL (rs.take i) x) := by
  rw [take_snoc h, rn_app]
  rfl
/-- the two lanes that a ladder tells -/
def TwoAt (C : Addr) (H : Hp) (t : Addr) (x : Ln2) : Prop := ∃ (a b : Addr) (xs ys : List V), H t = some (.tup [.ref a, .ref b]) ∧ H a = some (.lst xs) ∧ Paired (RV C H) xs x.1 ∧ H b = some (.lst ys) ∧ Paired (RV C H) ys x.2
def spRunR (K : PySem.W.Frag) (C CP CM CL : Addr) : Sp := fun vs H Q _ => ∃ (a : Addr) (v1 v2 : V) (rs : List Rg) (x : Ln2) (n M R : Nat), vs = [.ref a, v1, v2] ∧ LadAt C CP CM CL H a rs ∧ (∀ r ∈ rs, VR r) ∧ rs.length ≤ 100 ∧ Given K C H v1 x.1 ∧ Given K C H v2 x.2 ∧ RnOk n M R rs.length x ∧
  ∀ t H', Same H H' → TwoAt C H' t (rnL rs x) → Q (.ref t) H'
section
variable {P : Program} {w : World} {K : PySem.W.Frag} {mg : Str → Option Value} {base : Heap} {cB cN C fI CP CM fP fM CL fL : Addr}
theorem scRunR : FnScope ["self", "first", "second", "lanes", "rung"] ["self", "first", "second"] (defScope sRunR) := ⟨rfl, rfl, rfl, by decide +kernel, rfl, by decide +kernel, by decide +kernel⟩
theorem ok_runR {f : Addr} {fd : FuncData} (F : Fun K "run_rounded" "Ladder.run_rounded" sRunR f fd) (LC : LadC K mg CL fL) (hT : Dfn P w K mg base (L2.CX P w) 8 "told_lanes" ["first", "second"] (spTL K C)) (hS : Dfn P w K mg base CX0 13 "stepped" ["lanes", "rung", "is_rounded"] (spStep C CP CM)) :
    FnOk P w K mg base CX0 14 f fd ["self", "first", "second"] (spRunR K C CP CM CL) := by
  refine F.ok scRunR (fun vs H Q E h => ?_) (fun cdv A outer s H vs Q E hr h => ?_)
  · obtain ⟨a, v1, v2, rs, x, n, M, R, rfl, _⟩ := h
    rfl
  · obtain ⟨a, v1, v2, rs, x, n, M, R, rfl, ⟨dx, t, xs, h1, h2, pw⟩, vr, few, g1, g2, ro, q⟩ := h
    have nd := scRunR.nd
    refine ⟨_, pss_cons (ps_set (i := 3) nd rfl (Or.inl rfl) (dcL hT hr (by decide) (pa_cons (pv 1) (pa_cons (pv 2) pa_nil))))
      (pss_cons (ps_for PassesOwn.never rfl (pi_or (pi_list (pe_fld (pv 0) rfl)) (pi_tup (pe_fld (pv 0) rfl))) (pg_name (i := 4) nd rfl (Or.inl rfl))
        (pss_one (ps_set (i := 3) nd rfl (Or.inl rfl) (dc hS hr (by decide) (pa_cons (pv 3) (pa_cons (pv 4) (pa_cons pe_bl pa_nil)))))))
      (pss_one (ps_ret (pe_tup (pa_cons (pe_ix ix_list (pv 3) pe_int (fun _ _ => rfl)) (pa_cons (pe_ix ix_list (pv 3) pe_int (fun _ _ => rfl)) pa_nil)))))), ?_⟩
    have lx := paired_len pw
    refine ⟨_, rfl, _, rfl, v1, v2, x.1, x.2, rfl, g1, g2, by rw [ro.l.a, ro.l.b], fun l G s1 hl => ?_⟩
    dsimp only [gName]
    refine seq_to (fun σ' G' => ∃ (l : Addr) (o : Option V), σ' = [some (.ref a), some v1, some v2, some (.ref l), o] ∧ Same H G' ∧ LanesAt C G' l (rnL rs x)) (fun kk hK => ?_) ?_
    · refine for_seq (xs := xs) (v := .ref t) (fun R r => ⟨_, rfl, a, CL, dx, _, _, rfl, s1 _ _ h1, LC.c, LC.nR, rfl, r⟩) ⟨t, rfl, .inr (SqT.of (s1 _ _ h2))⟩ (fun i σ' G' => ∃ (l : Addr) (o : Option V), σ' = [some (.ref a), some v1, some v2, some (.ref l), o] ∧ Same G G' ∧ LanesAt C G' l (rnL (rs.take i) x)) ⟨l, none, rfl, fun _ _ e => e, hl⟩ (fun i σ' G' p => by
        obtain ⟨_, _, _, s, _⟩ := p
        exact s) ?_ ?_
      · rintro i y σ' G2 hy ⟨l2, o, rfl, s2, hl2⟩
        obtain ⟨r, hr', rt⟩ := paired_at pw hy
        have hi : i < rs.length := (List.getElem?_eq_some_iff.mp hr').1
        refine ⟨_, rfl, _, rfl, l2, y, r, _, n, _, _, rfl, hl2, ro.at_ vr (Nat.le_of_lt hi), rt.same (s1.trans s2), vr r (List.mem_of_getElem? hr'), fun l3 G3 s3 hl3 => ?_⟩
        refine ⟨l3, _, rfl, s2.trans s3, ?_⟩
        rw [rn_snoc hr']
        exact hl3
      · rintro σ' G2 ⟨l2, o, rfl, s2, hl2⟩
        refine hK _ _ ⟨l2, o, rfl, s1.trans s2, ?_⟩
        rw [lx, List.take_length] at hl2
        exact hl2
    · rintro σ' G' ⟨l2, o, rfl, s2, a1, b1, us, ys, e1, e2, e3, e4, e5⟩
      refine ⟨_, rfl, l2, _, 0, .ref a1, rfl, rfl, SqL.of e1, rfl, _, rfl, l2, _, 1, .ref b1, rfl, rfl, SqL.of e1, rfl, by show 2 ≤ sizeLine; decide, fun p np => ?_⟩
      have s3 := Same.new (o := .tup [V.ref a1, V.ref b1]) (fun _ _ e => e : Same G' G') np
      exact q p _ (s2.trans s3) ⟨a1, b1, us, ys, upd_same, s3 _ _ e2, Paired.mapP e3 fun _ _ z => z.same s3, s3 _ _ e4, Paired.mapP e5 fun _ _ z => z.same s3⟩
end
end K03
end
section
set_option maxHeartbeats 8000000
set_option exponentiation.threshold 100000
namespace K03
open PySem PySem.Spec PyProof.Rows L2 LamX NdefX L3 PolyM
theorem ix_tupK6 {X : Cx} (K : PySem.W.Frag) (hK : X.K = K := by rfl) : IxR X (rIxT K) := by
  subst hK
  exact ix_tup
section
variable {P : Program} {w : World} {K : PySem.W.Frag} {mg : Str → Option Value} {base : Heap} {cB cN C fI CP CM fP fM : Addr}
end
end K03
end
section
set_option maxHeartbeats 16000000
set_option exponentiation.threshold 100000
namespace K03
open PySem PySem.Spec PyProof.Rows L2 LamX NdefX L3 TL PolyM
abbrev sClimbed : Stmt := top 76
/-- a step, as the law's tuple; the list of an added poly is not D -/
def BlkN (D : Addr) (H : Hp) (v : V) : Rg → Prop
  | .ex => ∃ t, v = .ref t ∧ H t = some (.tup [.str "exchange"])
  | .fac l p => ∃ t a, v = .ref t ∧ H t = some (.tup [.str "factor", .int l, .ref a]) ∧ Pair H a p
  | .late l d => ∃ t, v = .ref t ∧ H t = some (.tup [.str "late", .int l, .int d])
  | .add b l ps => ∃ t m, v = .ref t ∧ m ≠ D ∧ H t = some (.tup [.str (if b then "add" else "take"), .int l, .ref m]) ∧ PPs H m ps
def BlkV (H : Hp) (v : V) : Rg → Prop
  | .ex => ∃ t, v = .ref t ∧ H t = some (.tup [.str "exchange"])
  | .fac l p => ∃ t a, v = .ref t ∧ H t = some (.tup [.str "factor", .int l, .ref a]) ∧ Pair H a p
  | .late l d => ∃ t, v = .ref t ∧ H t = some (.tup [.str "late", .int l, .int d])
  | .add b l ps => ∃ t m, v = .ref t ∧ H t = some (.tup [.str (if b then "add" else "take"), .int l, .ref m]) ∧ PPs H m ps
theorem BlkN.v {D : Addr} {H : Hp} {v : V} {r : Rg} (h : BlkN D H v r) : BlkV H v r := by
  cases r with
  | ex => exact h
  | fac l p => exact h
  | late l d => exact h
  | add b l ps =>
    obtain ⟨t, m, e, _, h1, h2⟩ := h
    exact ⟨t, m, e, h1, h2⟩
theorem BlkV.n {D : Addr} {H : Hp} {v : V} {r : Rg} (h : BlkV H v r) (n : H D = none) : BlkN D H v r := by
  cases r with
  | ex => exact h
  | fac l p => exact h
  | late l d => exact h
  | add b l ps =>
    obtain ⟨t, m, e, h1, h2⟩ := h
    refine ⟨t, m, e, fun z => ?_, h1, h2⟩
    obtain ⟨ts, h3, _⟩ := h2
    rw [z, n] at h3
    cases h3
theorem BlkN.same {D : Addr} {H H' : Hp} {v : V} {r : Rg} (h : BlkN D H v r) (s : Same H H') : BlkN D H' v r := by
  cases r with
  | ex =>
    obtain ⟨t, e, h⟩ := h
    exact ⟨t, e, s _ _ h⟩
  | fac l p =>
    obtain ⟨t, a, e, h, h2⟩ := h
    exact ⟨t, a, e, s _ _ h, s _ _ h2⟩
  | late l d =>
    obtain ⟨t, e, h⟩ := h
    exact ⟨t, e, s _ _ h⟩
  | add b l ps =>
    obtain ⟨t, m, e, n, h, h2⟩ := h
    exact ⟨t, m, e, n, s _ _ h, h2.same s⟩
theorem BlkV.same {H H' : Hp} {v : V} {r : Rg} (h : BlkV H v r) (s : Same H H') : BlkV H' v r := by
  cases r with
  | ex =>
    obtain ⟨t, e, h⟩ := h
    exact ⟨t, e, s _ _ h⟩
  | fac l p =>
    obtain ⟨t, a, e, h, h2⟩ := h
    exact ⟨t, a, e, s _ _ h, s _ _ h2⟩
  | late l d =>
    obtain ⟨t, e, h⟩ := h
    exact ⟨t, e, s _ _ h⟩
  | add b l ps =>
    obtain ⟨t, m, e, h, h2⟩ := h
    exact ⟨t, m, e, s _ _ h, h2.same s⟩
theorem PPs.growN {D m : Addr} {H : Hp} {rs ys : List V} {ps : List (Int × Int)} (hD : H D = some (.lst rs)) (n : m ≠ D) (h : PPs H m ps) : PPs (upd H D (.lst ys)) m ps := by
  obtain ⟨ts, h1, h2⟩ := h
  exact ⟨ts, by rw [upd_ne n]; exact h1, Paired.mapP h2 fun _ _ z => PV.grow hD z⟩
theorem tup_grow {D t : Addr} {H : Hp} {rs ys xs : List V} (hD : H D = some (.lst rs)) (h : H t = some (.tup xs)) : upd H D (.lst ys) t = some (.tup xs) := by
  rw [upd_ne fun z => by rw [z, hD] at h; cases h]
  exact h
theorem BlkN.grow {D : Addr} {H : Hp} {rs ys : List V} {v : V} {r : Rg} (hD : H D = some (.lst rs)) (h : BlkN D H v r) : BlkN D (upd H D (.lst ys)) v r := by
  cases r with
  | ex =>
    obtain ⟨t, e, h⟩ := h
    exact ⟨t, e, tup_grow hD h⟩
  | fac l p =>
    obtain ⟨t, a, e, h, h2⟩ := h
    exact ⟨t, a, e, tup_grow hD h, tup_grow hD h2⟩
  | late l d =>
    obtain ⟨t, e, h⟩ := h
    exact ⟨t, e, tup_grow hD h⟩
  | add b l ps =>
    obtain ⟨t, m, e, n, h, h2⟩ := h
    exact ⟨t, m, e, n, tup_grow hD h, h2.growN hD n⟩
theorem BlkN.but {D d : Addr} {H H' : Hp} {v : V} {r : Rg} {kv : List (Key × V)} (h : BlkN D H v r) (hd : H d = some (.dK kv)) (s : SameBut d H H') : BlkN D H' v r := by
  have tp : ∀ {t : Addr} {xs : List V}, H t = some (.tup xs) → H' t = some (.tup xs) := fun h => s _ _ h (ne_of h hd (by intro z; cases z))
  cases r with
  | ex =>
    obtain ⟨t, e, h⟩ := h
    exact ⟨t, e, tp h⟩
  | fac l p =>
    obtain ⟨t, a, e, h, h2⟩ := h
    exact ⟨t, a, e, tp h, tp h2⟩
  | late l d =>
    obtain ⟨t, e, h⟩ := h
    exact ⟨t, e, tp h⟩
  | add b l ps =>
    obtain ⟨t, m, e, n, h, h2⟩ := h
    exact ⟨t, m, e, n, tp h, h2.but hd s⟩
/-- a chain of steps -/
def ChainAt (H : Hp) (l : Addr) (rs : List Rg) : Prop := ∃ ts, H l = some (.lst ts) ∧ Paired (BlkV H) ts rs
theorem ChainAt.same {H H' : Hp} {l : Addr} {rs : List Rg} (h : ChainAt H l rs) (s : Same H H') : ChainAt H' l rs := by
  obtain ⟨ts, h1, h2⟩ := h
  exact ⟨ts, s _ _ h1, Paired.mapP h2 fun _ _ z => z.same s⟩
/-- two lanes of pairs -/
def LanesL (H : Hp) (l : Addr) (x : Ln2) : Prop := ∃ a b : Addr, H l = some (.lst [.ref a, .ref b]) ∧ PPs H a x.1 ∧ PPs H b x.2
def spClimbed : Sp := fun vs H Q _ => ∃ (c l : Addr) (rs : List Rg) (x : Ln2) (n M R : Nat), vs = [.ref c, .ref l, .bl true] ∧ ChainAt H c rs ∧ LanesL H l x ∧ (∀ r ∈ rs, VR r) ∧ rs.length ≤ 100 ∧ RnOk n M R rs.length x ∧
  ∀ l' H', H l' = none → Same H H' → LanesL H' l' (rnL rs x) → Q (.ref l') H'
section
variable {P : Program} {w : World} {K : PySem.W.Frag} {mg : Str → Option Value} {base : Heap} {cB cN C fI : Addr}
abbrev nClimbed : List Str := ["_law_chain", "_law_lanes", "_law_is_rounded", "_law_block", "_law_here", "_law_sign_here", "_law_part"]
theorem scClimbed : FnScope nClimbed ["_law_chain", "_law_lanes", "_law_is_rounded"] (defScope sClimbed) := ⟨rfl, rfl, rfl, by decide +kernel, rfl, by decide +kernel, by decide +kernel⟩
theorem paired_repP {G : Hp} {v : V} {p : Int × Int} (h : PV G v p) : ∀ d : Nat, Paired (PV G) (List.replicate d v) (List.replicate d p)
  | 0 => .nil
  | d + 1 => by
    rw [List.replicate_succ, List.replicate_succ]
    exact .cons h (paired_repP h d)
/-- .. the list of the lanes is L, those of its items others -/
def LanesN (L : Addr) (H : Hp) (x : Ln2) : Prop := ∃ a b : Addr, H L = some (.lst [.ref a, .ref b]) ∧ a ≠ L ∧ b ≠ L ∧ PPs H a x.1 ∧ PPs H b x.2
theorem ok_climbed {f : Addr} {fd : FuncData} (F : Fun K "_law_climbed" "_law_climbed" sClimbed f fd) (B : TxtR mg) (hM : Dfn P w K mg base CX0 3 "_law_times" ["_law_one", "_law_other"] spTimes) (hB : Dfn P w K mg base CX0 4 "_law_blend" ["_law_one", "_law_other", "_law_by"] spBlend) (hA : Dfn P w K mg base CX0 4 "_law_amounts" ["_law_parts", "_law_lane", "_law_is_rounded"] spAmL) :
    FnOk P w K mg base CX0 5 f fd ["_law_chain", "_law_lanes", "_law_is_rounded"] spClimbed := by
  refine F.ok scClimbed (fun vs H Q E h => ?_) (fun cdv A outer s H vs Q E hr h => ?_)
  · obtain ⟨c, l, rs, x, n, M, R, rfl, _⟩ := h
    rfl
  · obtain ⟨c, l, rs, x, n, M, R, rfl, hc, hl, vr, few, ro, q⟩ := h
    have nd := scClimbed.nd
    refine ⟨_, pss_cons (ps_set (i := 1) nd rfl (Or.inl rfl) (pe_callTy call_list_of (by rfl) B.list (by decide +kernel) (pa_cons (pv 1) pa_nil)))
      (pss_cons (ps_for PassesOwn.never rfl (pi_list (pv 0)) (pg_name (i := 3) nd rfl (Or.inr rfl))
        (pss_cons (ps_if (pt_cmpR op_eq (pe_ix ix_tup (pv 3) pe_int (fun _ _ => rfl)) pe_str (nomark _)) (pss_cons (ps_set (i := 1) nd rfl (Or.inl rfl) (pe_pick (pv 1) po_none po_none (po_some (pe_un un_neg pe_int)))) (pss_one ps_continue)) pss_nil)
        (pss_cons (ps_par (i := 4) (j := 5) (by rfl) nd rfl rfl (by decide) rfl rfl (pa_cons (pe_ix ix_list (pv 1) (pe_ix ix_tup (pv 3) pe_int (fun _ _ => rfl)) (fun _ _ => rfl)) (pa_cons (pe_ifExp (pt_cmpR op_eq (pe_ix ix_tup (pv 3) pe_int (fun _ _ => rfl)) pe_str (nomark _)) (pe_tup (pa_cons pe_int (pa_cons pe_int pa_nil))) (pe_tup (pa_cons (pe_un un_neg pe_int) (pa_cons pe_int pa_nil)))) pa_nil)) (by rfl))
        (pss_cons (ps_if (pt_cmpR op_eq (pe_ix ix_tup (pv 3) pe_int (fun _ _ => rfl)) pe_str (nomark _))
          (pss_one (ps_set (i := 4) nd rfl (Or.inl rfl) (pe_slice sl_list (pe_op op_cat (pe_op op_rep (pe_lst (pa_cons (pe_tup (pa_cons pe_int (pa_cons pe_int pa_nil))) pa_nil)) (pe_ix ix_tup (pv 3) pe_int (fun _ _ => rfl))) (pv 4)) po_none (po_some (pe_callB call_len_seq (by rfl) B.len PySem.boot_len (pa_cons (pv 4) pa_nil))))))
          (pss_one (ps_if (pt_cmpR op_eq (pe_ix ix_tup (pv 3) pe_int (fun _ _ => rfl)) pe_str (nomark _))
            (pss_one (ps_setLc (i := 4) (own := [("_law_part", 6)]) (g := gName 6) (tt := tYes) rfl nd rfl rfl (sw_true rfl rfl rfl (by decide +kernel)) (pi_or (pi_list (pv 4)) (pi_tup (pv 4))) (blkOk_by (N := nClimbed) (sc := defScope sClimbed) (by decide +kernel)) (fun _ _ _ _ _ => pg_name (i := 6) nd rfl (Or.inl rfl)) (fun _ _ _ _ _ => pts_nil)
              (fun _ _ _ _ _ => by exact (dc hM hr (by decide) (pa_cons (pe_ix (ix_tupK6 K) (pv 3) pe_int (fun _ _ => rfl)) (pa_cons (pv 6) pa_nil))))))
            (pss_one (ps_set (i := 4) nd rfl (Or.inl rfl) (dc hB hr (by decide) (pa_cons (pv 4) (pa_cons (dc hA hr (by decide) (pa_cons (pe_ix ix_tup (pv 3) pe_int (fun _ _ => rfl)) (pa_cons (pe_ix ix_list (pv 1) (pe_op op_sub pe_int (pe_ix ix_tup (pv 3) pe_int (fun _ _ => rfl))) (fun _ _ => rfl)) (pa_cons (pv 2) pa_nil)))) (pa_cons (pv 5) pa_nil)))))))))
        (pss_one (ps_asg (pv 4) (pg_sub (pv 1) (pe_ix ix_tup (pv 3) pe_int (fun _ _ => rfl)) set_list)))))))
      (pss_one (ps_ret (pv 1)))), ?_⟩
    obtain ⟨ts, hc1, hc2⟩ := id hc
    have lts := paired_len hc2
    obtain ⟨a0, b0, hl1, pa0, pb0⟩ := hl
    refine ⟨_, rfl, l, _, rfl, .inl (SqL.of hl1), fun L0 nL0 => ?_⟩
    have s0 := Same.new (o := .lst [.ref a0, .ref b0]) (fun _ _ e => e : Same H H) nL0
    have hL0 : upd H L0 (.lst [.ref a0, .ref b0]) L0 = some (.lst [.ref a0, .ref b0]) := upd_same
    have old : ∀ {m : Addr} {ps : List (Int × Int)} {p : Addr} {G : Hp}, PPs G m ps → G p = none → m ≠ p := fun h n z => by
      obtain ⟨_, h, _⟩ := h
      rw [z, n] at h
      cases h
    have a0n := old pa0 nL0
    have b0n := old pb0 nL0
    generalize upd H L0 (.lst [.ref a0, .ref b0]) = G0 at s0 hL0 ⊢
    dsimp only [gName]
    refine seq_to (fun σ' G => ∃ (L : Addr) (o3 o4 o5 o6 : Option V), σ' = [some (.ref c), some (.ref L), some (.bl true), o3, o4, o5, o6] ∧ Same H G ∧ H L = none ∧ LanesN L G (rnL rs x)) (fun kk hK => ?_) ?_
    · refine ⟨_, rfl, c, rfl, ⟨ts, SqL.of (s0 _ _ hc1)⟩, ?_⟩
      refine for_list (K := K) (a := c) (xs := ts) (fun i σ' G => ∃ (L : Addr) (o3 o4 o5 o6 : Option V), σ' = [some (.ref c), some (.ref L), some (.bl true), o3, o4, o5, o6] ∧ Same H G ∧ H L = none ∧ LanesN L G (rnL (rs.take i) x)) ⟨L0, none, none, none, none, rfl, s0, nL0, a0, b0, hL0, a0n, b0n, pa0.same s0, pb0.same s0⟩ (fun i σ' G _ p => by
        obtain ⟨_, _, _, _, _, _, sG, _⟩ := p
        exact SqL.of (sG _ _ hc1)) ?_ ?_
      · rintro i y σ G hy ⟨L, o3, o4, o5, o6, rfl, sG, nL, a, b, hL, an, bn, pa, pb⟩
        obtain ⟨r, hr', bv⟩ := paired_at hc2 hy
        have hi : i < rs.length := (List.getElem?_eq_some_iff.mp hr').1
        have so := ro.at_ vr (Nat.le_of_lt hi)
        have vrr := vr r (List.mem_of_getElem? hr')
        have bvG := bv.same sG
        rw [rn_snoc hr']
        dsimp only [gName]
        generalize rnL (rs.take i) x = X0 at so pa pb ⊢
        have key : (∃ t, r = .ex ∧ y = .ref t ∧ G t = some (.tup [.str "exchange"])) ∨ ∃ (t : Addr) (z : Str) (l' : Nat) (tv : V) (f : List (Int × Int) → List (Int × Int) → List (Int × Int)), y = .ref t ∧ G t = some (.tup [.str z, .int l', tv]) ∧ z ≠ "exchange" ∧ l' ≤ 1 ∧ stp r X0 = onL l' f X0 ∧
            ((z = "factor" ∧ ∃ (p : Int × Int) (m : Addr), tv = .ref m ∧ Pair G m p ∧ SmlF p ∧ f = fun h _ => h.map (pmul p)) ∨ (z = "late" ∧ ∃ d : Nat, tv = .int d ∧ d ≤ 3 ∧ f = fun h _ => lag d h) ∨
            ∃ (bb : Bool) (m : Addr) (ps : List (Int × Int)), z = (if bb = true then ("add" : Str) else ("take" : Str)) ∧ tv = .ref m ∧ PPs G m ps ∧ ps.length ≤ 3 ∧ (∀ p ∈ ps, Sml p) ∧ f = fun h o => bld h (amt ps o) (sgnR bb)) := by
          cases r with
          | ex =>
            obtain ⟨t, e, ht⟩ := bvG
            exact .inl ⟨t, rfl, e, ht⟩
          | fac l p =>
            obtain ⟨t, m, e, ht, hm⟩ := bvG
            exact .inr ⟨t, _, l, _, _, e, ht, by decide +kernel, vrr.1, rfl, .inl ⟨rfl, p, m, rfl, hm, vrr.2, rfl⟩⟩
          | late l d =>
            obtain ⟨t, e, ht⟩ := bvG
            exact .inr ⟨t, _, l, _, _, e, ht, by decide +kernel, vrr.1, rfl, .inr (.inl ⟨rfl, d, rfl, vrr.2.2, rfl⟩)⟩
          | add bb l ps =>
            obtain ⟨t, m, e, ht, hm⟩ := bvG
            exact .inr ⟨t, _, l, _, _, e, ht, by cases bb <;> decide +kernel, vrr.1, rfl, .inr (.inr ⟨bb, m, ps, rfl, rfl, hm, vrr.2.1, vrr.2.2, rfl⟩)⟩
        rcases key with ⟨t, rfl, rfl, ht⟩ | ⟨t, z, l', tv, f, rfl, ht, nz, ll, es, kind⟩
        · refine ⟨_, rfl, t, _, 0, .str "exchange", rfl, rfl, SqT.of ht, rfl, rfl, _, rfl, ?_⟩
          refine ite2 (fun _ => ?_) (fun z => absurd (by decide +kernel) z)
          have ep : pickG [V.ref a, V.ref b] none none (some (-1)) = [V.ref b, V.ref a] := by
            have e : placesOf 2 none none (some (-1)) = [1, 0] := by decide
            unfold pickG
            show List.filterMap _ (placesOf 2 none none (some (-1))) = _
            rw [e]
            rfl
          refine ⟨_, rfl, L, rfl, 1, rfl, -1, rfl, by decide, _, SqL.of hL, by rw [ep]; show 2 ≤ sizeLine; decide, fun p np => ?_⟩
          rw [ep]
          have s1 := Same.new (o := .lst [V.ref b, V.ref a]) (fun _ _ e => e : Same G G) np
          exact ⟨p, _, _, _, _, rfl, sG.trans s1, none_same sG np, b, a, upd_same, old pb np, old pa np, pb.same s1, pa.same s1⟩
        have off : ∀ {y : Str}, z ≠ y → ¬ (decide (V.str z = V.str y) = true) := fun n e => n (by injection of_decide_eq_true e)
        have lanes : ∃ (u o : Addr) (X Y : List (Int × Int)), atI [V.ref a, V.ref b] (l' : Int) = some (.ref u) ∧ atI [V.ref a, V.ref b] (1 - (l' : Int)) = some (.ref o) ∧ u ≠ L ∧ PPs G u X ∧ PPs G o Y ∧ X.length = n ∧ Y.length = n ∧ BdL (M * 6 ^ i) (R * 11 ^ i) X ∧ BdL (M * 6 ^ i) (R * 11 ^ i) Y ∧
            ixN [V.ref a, V.ref b].length (l' : Int) = some l' ∧ ∀ (hh : Addr) (G' : Hp), Same G G' → hh ≠ L → PPs G' hh (f X Y) → LanesN L (upd G' L (.lst ([V.ref a, V.ref b].set l' (.ref hh)))) (onL l' f X0) := by
          rcases (show l' = 0 ∨ l' = 1 by omega) with rfl | rfl
          · exact ⟨a, b, X0.1, X0.2, rfl, rfl, an, pa, pb, so.l.a, so.l.b, so.b.a, so.b.b, rfl, fun hh G' s' hn ph => ⟨hh, b, upd_same, hn, bn, ph.growN (s' _ _ hL) hn, (pb.same s').growN (s' _ _ hL) bn⟩⟩
          · exact ⟨b, a, X0.2, X0.1, rfl, rfl, bn, pb, pa, so.l.b, so.l.a, so.b.b, so.b.a, rfl, fun hh G' s' hn ph => ⟨a, hh, upd_same, an, hn, (pa.same s').growN (s' _ _ hL) an, ph.growN (s' _ _ hL) hn⟩⟩
        obtain ⟨u, o, X, Y, i1, i2, un, pX, pY, lX, lY, bX, bY, ix, put⟩ := lanes
        refine ⟨_, rfl, t, _, 0, .str z, rfl, rfl, SqT.of ht, rfl, rfl, _, rfl, ?_⟩
        refine ite2 (fun y => absurd y (off nz)) (fun _ => ?_)
        dsimp only [tNext]
        refine seq_to (fun σ' G1 => ∃ sg : Addr, σ' = [some (.ref c), some (.ref L), some (.bl true), some (.ref t), some (.ref u), some (.ref sg), o6] ∧ Same G G1 ∧ (z = "add" → Pair G1 sg (1, 1)) ∧ (z ≠ "add" → Pair G1 sg (-1, 1))) (fun k1 hK1 => ?_) ?_
        · refine ⟨_, rfl, _, rfl, t, _, 1, .int l', rfl, rfl, SqT.of ht, rfl, L, _, _, _, rfl, rfl, SqL.of hL, i1, ?_⟩
          refine ⟨_, rfl, t, _, 0, .str z, rfl, rfl, SqT.of ht, rfl, rfl, _, rfl, ?_⟩
          by_cases ez : z = "add"
          · refine ite2 (fun _ => ?_) (fun y => absurd (decide_eq_true (by rw [ez])) y)
            refine ⟨by show 2 ≤ sizeLine; decide, fun sg nsg => ⟨_, _, rfl, hK1 _ _ ⟨sg, rfl, Same.new (fun _ _ e => e) nsg, fun _ => upd_same, fun y => absurd ez y⟩⟩⟩
          · refine ite2 (fun y => absurd y (off ez)) (fun _ => ?_)
            refine ⟨1, rfl, by show 2 ≤ sizeLine; decide, fun sg nsg => ⟨_, _, rfl, hK1 _ _ ⟨sg, rfl, Same.new (fun _ _ e => e) nsg, fun y => absurd y ez, fun _ => upd_same⟩⟩⟩
        rintro σ' G1 ⟨sg, rfl, s1, sgA, sgT⟩
        have ht1 := s1 _ _ ht
        have hL1 := s1 _ _ hL
        have pX1 := pX.same s1
        have pY1 := pY.same s1
        refine seq_to (fun σ' G2 => ∃ (hh : Addr) (o5 o6 : Option V), σ' = [some (.ref c), some (.ref L), some (.bl true), some (.ref t), some (.ref hh), o5, o6] ∧ Same G1 G2 ∧ hh ≠ L ∧ PPs G2 hh (f X Y)) (fun k2 hK2 => ?_) ?_
        · have few := so.few
          obtain ⟨tx, hx1, hx2⟩ := id pX1
          have ltx : tx.length = n := by rw [paired_len hx2, lX]
          have fx := so.fitA bX
          have fresh : ∀ {m : Addr} {G2 : Hp}, Same G1 G2 → G2 m = none → m ≠ L := fun s n z => by
            rw [z, s _ _ hL1] at n
            cases n
          rcases kind with ⟨rfl, p, m, rfl, hm, sf, rfl⟩ | ⟨rfl, d, rfl, d3, rfl⟩ | ⟨bb, m, ps, rfl, rfl, hm, lp, sp, rfl⟩
          · -- factor
            refine ⟨_, rfl, t, _, 0, .str "factor", rfl, rfl, SqT.of ht1, rfl, rfl, _, rfl, ?_⟩
            refine ite2 (fun z => absurd z (by decide +kernel)) (fun _ => ?_)
            refine ⟨_, rfl, t, _, 0, .str "factor", rfl, rfl, SqT.of ht1, rfl, rfl, _, rfl, ?_⟩
            refine ite2 (fun _ => ?_) (fun z => absurd (by decide +kernel) z)
            dsimp only [tAsg]
            refine lc_map (bs := X.map (pmul p)) (Rr := fun _ G y q => PV G y q) (fun R r => ⟨_, rfl, r⟩) ⟨u, rfl, .inl (SqL.of hx1)⟩ (by rw [ltx]; exact Nat.le_trans few (by decide)) (by rw [List.length_map, ltx, lX]) (fun _ _ _ _ _ h s => h.same s) (fun D G rs' ys' y p hD h => PV.grow hD h) ?_ ?_
            · intro D k y b' G2 rs' Kc hx hb s2 hD kc
              obtain ⟨p1, e1, u1, rfl, r1⟩ := paired_at hx2 hx
              rw [List.getElem?_map, e1] at hb
              cases hb
              exact ⟨_, rfl, t, _, 2, .ref m, rfl, rfl, SqT.of (s2 _ _ ht1), rfl, _, rfl, m, u1, p, p1, rfl, s2 _ _ (s1 _ _ hm), s2 _ _ r1, sf.s.fit, fx _ (List.mem_of_getElem? e1), fun z G3 nz s3 hz => kc _ _ s3 ⟨z, rfl, hz⟩⟩
            · intro c' ws G2 nl s2 hl pw
              exact hK2 _ _ ⟨c', _, _, rfl, s2, fresh (fun _ _ e => e) nl, ws, hl, pw⟩
          · -- late
            refine ⟨_, rfl, t, _, 0, .str "late", rfl, rfl, SqT.of ht1, rfl, rfl, _, rfl, ?_⟩
            refine ite2 (fun _ => ?_) (fun z => absurd (by decide +kernel) z)
            refine ⟨by show 2 ≤ sizeLine; decide, fun z0 nz0 => ?_⟩
            have q1 := Same.new (o := .tup [.int 0, .int 1]) (fun _ _ e => e : Same G1 G1) nz0
            have hz : upd G1 z0 (.tup [.int 0, .int 1]) z0 = some (.tup [.int 0, .int 1]) := upd_same
            generalize upd G1 z0 (.tup [.int 0, .int 1]) = K1 at q1 hz ⊢
            refine ⟨by show 1 ≤ sizeLine; decide, fun p np => ?_⟩
            have q2 := Same.new (o := .lst [V.ref z0]) (fun _ _ e => e : Same K1 K1) np
            have hp : upd K1 p (.lst [V.ref z0]) p = some (.lst [V.ref z0]) := upd_same
            generalize upd K1 p (.lst [V.ref z0]) = K2 at q2 hp ⊢
            refine ⟨_, rfl, t, _, 2, .int d, rfl, rfl, SqT.of ((q1.trans q2) _ _ ht1), rfl, p, _, _, rfl, rfl, hp, by omega, by omega, ?_, fun p2 np2 => ?_⟩
            · rw [Int.toNat_natCast, List.length_singleton, Nat.one_mul]
              exact Nat.le_trans d3 (by decide)
            rw [rep_flat]
            have q3 := Same.new (o := .lst (List.replicate d (V.ref z0))) (fun _ _ e => e : Same K2 K2) np2
            have hp2 : upd K2 p2 (.lst (List.replicate d (V.ref z0))) p2 = some (.lst (List.replicate d (V.ref z0))) := upd_same
            generalize upd K2 p2 (.lst (List.replicate d (V.ref z0))) = K3 at q3 hp2 ⊢
            have q03 := q1.trans (q2.trans q3)
            refine ⟨_, rfl, p2, u, _, tx, rfl, rfl, hp2, q03 _ _ hx1, ?_, fun p3 np3 => ?_⟩
            · rw [List.length_replicate, ltx]
              exact Nat.le_trans (show d + n ≤ 63 by omega) (by decide)
            have q4 := Same.new (o := .lst (List.replicate d (V.ref z0) ++ tx)) (fun _ _ e => e : Same K3 K3) np3
            have hp3 : upd K3 p3 (.lst (List.replicate d (V.ref z0) ++ tx)) p3 = some (.lst (List.replicate d (V.ref z0) ++ tx)) := upd_same
            generalize upd K3 p3 (.lst (List.replicate d (V.ref z0) ++ tx)) = K4 at q4 hp3 ⊢
            have q04 := q03.trans q4
            refine ⟨_, rfl, u, tx, rfl, .inl (SqL.of (q04 _ _ hx1)), _, rfl, p3, _, rfl, SqL.of hp3, fun p4 np4 => ?_⟩
            have q5 := Same.new (o := .lst (cutV (List.replicate d (V.ref z0) ++ tx) none (some (tx.length : Int)))) (fun _ _ e => e : Same K4 K4) np4
            refine hK2 _ _ ⟨p4, _, _, rfl, q04.trans q5, fresh q04 np4, _, upd_same, ?_⟩
            rw [cut_to (by rw [List.length_append]; omega)] at q5 ⊢
            show Paired _ _ ((List.replicate d (0, 1) ++ X).take X.length)
            rw [← paired_len hx2]
            refine paired_takeP (paired_appP ?_ (Paired.mapP hx2 fun _ _ z => z.same (q04.trans q5))) _
            have hz5 := (q2.trans (q3.trans (q4.trans q5))) _ _ hz
            generalize upd K4 p4 _ = K5 at hz5
            exact paired_repP (p := (0, 1)) ⟨z0, rfl, hz5⟩ d
          · -- add, take
            have n1 : (if bb = true then ("add" : Str) else ("take" : Str)) ≠ "factor" := by cases bb <;> decide +kernel
            have n2 : (if bb = true then ("add" : Str) else ("take" : Str)) ≠ "late" := by cases bb <;> decide +kernel
            refine ⟨_, rfl, t, _, 0, .str _, rfl, rfl, SqT.of ht1, rfl, rfl, _, rfl, ?_⟩
            refine ite2 (fun y => absurd y (off n2)) (fun _ => ?_)
            refine ⟨_, rfl, t, _, 0, .str _, rfl, rfl, SqT.of ht1, rfl, rfl, _, rfl, ?_⟩
            refine ite2 (fun y => absurd y (off n1)) (fun _ => ?_)
            have ab := amt_bd sp lp bY
            have fa := so.fitB ab
            have sgP : Pair G1 sg (sgnR bb) := by
              cases bb with
              | true => exact sgA rfl
              | false => exact sgT (by decide +kernel)
            have fq : ∀ q ∈ amt ps Y, Fit q ∧ Fit (pmul (sgnR bb) q) := fun q hq => ⟨fa q hq, by
              have z := Bd.mul sgn_low (ab.l q hq) (sgn_bd (b := bb)) (ab.b q hq)
              rw [Nat.one_mul, Nat.one_mul] at z
              exact so.fitB (X := [pmul (sgnR bb) q]) ⟨fun p hp => by cases (List.mem_singleton.mp hp); exact pmul_low sgn_low (ab.l q hq), fun p hp => by cases (List.mem_singleton.mp hp); exact z⟩ _ (List.mem_singleton.mpr rfl)⟩
            refine ⟨_, rfl, _, rfl, t, _, 2, .ref m, rfl, rfl, SqT.of ht1, rfl, ?_⟩
            refine ⟨_, rfl, _, rfl, t, _, 1, .int l', rfl, rfl, SqT.of ht1, rfl, _, _, rfl, rfl, L, _, _, .ref o, rfl, rfl, SqL.of hL1, i2, _, rfl, ?_⟩
            refine ⟨m, o, ps, Y, M * 6 ^ i, R * 11 ^ i, rfl, hm.same s1, pY1, sp, lp, ⟨bY, so.pos, by omega, Nat.lt_of_le_of_lt (Nat.mul_le_mul (by omega) (by omega)) so.room⟩, fun A G2 nA s2 pA => ?_⟩
            refine ⟨_, rfl, u, A, sg, X, amt ps Y, sgnR bb, rfl, pX1.same s2, pA, s2 _ _ sgP, by rw [len_amt, lX, lY], by omega, by cases bb <;> exact ⟨by decide, by decide, by decide⟩, fx, fq, fun hh G3 nh s3 ph => ?_⟩
            exact hK2 _ _ ⟨hh, _, _, rfl, s2.trans s3, fresh s2 nh, ph⟩
        rintro σ' G2 ⟨hh, o5', o6', rfl, s2, hn, ph⟩
        have ht2 := s2 _ _ ht1
        refine ⟨_, rfl, _, rfl, _, rfl, t, _, 1, .int l', rfl, rfl, SqT.of ht2, rfl, L, _, _, l', rfl, rfl, s2 _ _ hL1, ix, ?_⟩
        refine ⟨L, _, _, _, _, rfl, fun b' o' e => by rw [upd_ne (ne_of_none e nL)]; exact (sG.trans (s1.trans s2)) _ _ e, nL, ?_⟩
        rw [es]
        exact put hh G2 (s1.trans s2) hn ph
      · rintro σ' G ⟨L, o3, o4, o5, o6, rfl, sG, nL, LN⟩
        rw [lts, List.take_length] at LN
        exact hK _ _ ⟨L, o3, o4, o5, o6, rfl, sG, nL, LN⟩
    · rintro σ' G ⟨L, o3, o4, o5, o6, rfl, sG, nL, a, b, h1, _, _, h2, h3⟩
      exact ⟨_, rfl, q L G nL sG ⟨a, b, h1, h2, h3⟩⟩
end
end K03
end
section
set_option maxHeartbeats 16000000
set_option exponentiation.threshold 100000
namespace K03
open PySem PySem.Spec PyProof.Rows L2 LamX NdefX L3 TL PolyM
abbrev sBack67 : Stmt := top 74
abbrev sRungs : Stmt := top 73
def spBack67 : Sp := fun vs H Q _ => ∃ (c : Addr) (rs : List Rg), vs = [.ref c] ∧ ChainAt H c rs ∧ (∀ r ∈ rs, VR r) ∧ rs.length ≤ 100 ∧ ∀ l H', H l = none → Same H H' → ChainAt H' l (rs.reverse.map ivR) → Q (.ref l) H'
def spRungs (C CP CM : Addr) : Sp := fun vs H Q _ => ∃ (c : Addr) (rs : List Rg), vs = [.ref c] ∧ ChainAt H c rs ∧ (∀ r ∈ rs, VR r) ∧ rs.length ≤ 100 ∧ ∀ l ts H', H l = none → Same H H' → H' l = some (.lst ts) → Paired (RungT C CP CM H') ts rs → Q (.ref l) H'
section
variable {P : Program} {w : World} {K : PySem.W.Frag} {mg : Str → Option Value} {base : Heap} {cB cN C fI CP CM fP fM : Addr}
theorem scBack67 : FnScope ["_law_chain", "_law_found", "_law_block"] ["_law_chain"] (defScope sBack67) := ⟨rfl, rfl, rfl, by decide +kernel, rfl, by decide +kernel, by decide +kernel⟩
theorem ok_back67 {f : Addr} {fd : FuncData} (F : Fun K "_law_back" "_law_back" sBack67 f fd) (hQ : Dfn P w K mg base CX0 2 "_law_q" ["_law_top", "_law_bottom"] spLowest) : FnOk P w K mg base CX0 3 f fd ["_law_chain"] spBack67 := by
  refine F.ok scBack67 (fun vs H Q E h => ?_) (fun cdv A outer s H vs Q E hr h => ?_)
  · obtain ⟨c, rs, rfl, _⟩ := h
    rfl
  · obtain ⟨c, rs, rfl, ⟨ts, hc1, hc2⟩, vr, few, q⟩ := h
    have nd := scBack67.nd
    refine ⟨_, pss_cons (ps_set (i := 1) nd rfl (Or.inl rfl) (pe_lst pa_nil))
      (pss_cons (ps_for PassesOwn.never rfl (pi_list (pe_revL (pv 0))) (pg_name (i := 2) nd rfl (Or.inl rfl))
        (pss_one (ps_if (pt_cmpR op_in_seq (pe_ix ix_tup (pv 2) pe_int (fun _ _ => rfl)) (pe_tup (pa_cons pe_str (pa_cons pe_str pa_nil))) (by rfl))
          (pss_one (ps_expr (pe_bm PySem.F.plainAttrs_list PySem.F.slot_list_append PySem.F.type_list_append mt_append (pv 1) (pa_cons (pe_tup (pa_cons (pe_ifExp (pt_cmpR op_eq (pe_ix ix_tup (pv 2) pe_int (fun _ _ => rfl)) pe_str (nomark _)) pe_str pe_str) (pa_cons (pe_ix ix_tup (pv 2) pe_int (fun _ _ => rfl)) (pa_cons (pe_ix ix_tup (pv 2) pe_int (fun _ _ => rfl)) pa_nil)))) pa_nil))))
          (pss_one (ps_if (pt_cmpR op_eq (pe_ix ix_tup (pv 2) pe_int (fun _ _ => rfl)) pe_str (nomark _))
            (pss_one (ps_expr (pe_bm PySem.F.plainAttrs_list PySem.F.slot_list_append PySem.F.type_list_append mt_append (pv 1) (pa_cons (pe_tup (pa_cons pe_str (pa_cons (pe_ix ix_tup (pv 2) pe_int (fun _ _ => rfl)) (pa_cons (dc hQ hr (by decide) (pa_cons (pe_ix ix_tup (pe_ix ix_tup (pv 2) pe_int (fun _ _ => rfl)) pe_int (fun _ _ => rfl)) (pa_cons (pe_ix ix_tup (pe_ix ix_tup (pv 2) pe_int (fun _ _ => rfl)) pe_int (fun _ _ => rfl)) pa_nil))) pa_nil)))) pa_nil))))
            (pss_one (ps_if (pt_cmpR op_eq (pe_ix ix_tup (pv 2) pe_int (fun _ _ => rfl)) pe_str (nomark _))
              (pss_one (ps_expr (pe_bm PySem.F.plainAttrs_list PySem.F.slot_list_append PySem.F.type_list_append mt_append (pv 1) (pa_cons (pe_tup (pa_cons pe_str (pa_cons (pe_op op_sub pe_int (pe_ix ix_tup (pv 2) pe_int (fun _ _ => rfl))) (pa_cons (pe_ix ix_tup (pv 2) pe_int (fun _ _ => rfl)) pa_nil)))) pa_nil))))
              (pss_one (ps_expr (pe_bm PySem.F.plainAttrs_list PySem.F.slot_list_append PySem.F.type_list_append mt_append (pv 1) (pa_cons (pv 2) pa_nil)))))))))))
      (pss_one (ps_ret (pv 1)))), ?_⟩
    have lts := paired_len hc2
    refine ⟨by show 0 ≤ sizeLine; decide, fun D nD => ?_⟩
    have s0 := Same.new (o := .lst []) (fun _ _ e => e : Same H H) nD
    have hD0 : upd H D (.lst []) D = some (.lst []) := upd_same
    generalize upd H D (.lst []) = G0 at s0 hD0 ⊢
    dsimp only [gName]
    refine seq_to (fun σ' G => ∃ (us : List V) (o2 : Option V), σ' = [some (.ref c), some (.ref D), o2] ∧ Same H G ∧ G D = some (.lst us) ∧ Paired (BlkN D G) us (rs.reverse.map ivR)) (fun kk hK => ?_) ?_
    · refine ⟨_, rfl, c, ts, rfl, SqL.of (s0 _ _ hc1), fun R1 nR => ?_⟩
      have s1 := Same.new (o := .lst ts.reverse) (fun _ _ e => e : Same G0 G0) nR
      have hR : upd G0 R1 (.lst ts.reverse) R1 = some (.lst ts.reverse) := upd_same
      generalize upd G0 R1 (.lst ts.reverse) = G1 at s1 hR ⊢
      have hD1 := s1 _ _ hD0
      have RD : R1 ≠ D := fun z => by rw [z, hD0] at nR; cases nR
      have s01 := s0.trans s1
      have pr := paired_revL hc2
      refine ⟨R1, rfl, ⟨ts.reverse, SqL.of hR⟩, ?_⟩
      refine for_list (K := K) (a := R1) (xs := ts.reverse) (fun i σ' G => ∃ (us : List V) (o2 : Option V), σ' = [some (.ref c), some (.ref D), o2] ∧ SameBut D G1 G ∧ G D = some (.lst us) ∧ Paired (BlkN D G) us ((rs.reverse.take i).map ivR)) ⟨[], none, rfl, SameBut.refl, hD1, .nil⟩ (fun i σ' G _ p => by
        obtain ⟨_, _, _, sb, _⟩ := p
        exact SqL.of (sb _ _ hR RD)) ?_ ?_
      · rintro i y σ G hy ⟨us, o2, rfl, sb, hD, pu⟩
        obtain ⟨r, hr', bv0⟩ := paired_at pr hy
        have sG : Same H G := fun b o e => sb b o (s01 _ _ e) (ne_of_none e nD)
        have bv := bv0.n (D := D) nD |>.same sG
        have vrr := vr r (List.mem_reverse.mp (List.mem_of_getElem? hr'))
        have li : i < rs.reverse.length := (List.getElem?_eq_some_iff.mp hr').1
        have lu : us.length = i := by rw [paired_len pu, List.length_map, List.length_take]; omega
        have small : us.length < sizeLine := by
          rw [List.length_reverse] at li
          exact Nat.lt_of_lt_of_le (show us.length < 101 by omega) (by decide)
        have fin : ∀ {G2 : Hp} {y' : V}, Same G G2 → BlkN D G2 y' (ivR r) → ∃ (us' : List V) (o2' : Option V), ([some (.ref c), some (.ref D), some y] : List (Option V)) = [some (.ref c), some (.ref D), o2'] ∧ SameBut D G1 (upd G2 D (.lst (us ++ [y']))) ∧ (upd G2 D (.lst (us ++ [y']))) D = some (.lst us') ∧ Paired (BlkN D (upd G2 D (.lst (us ++ [y'])))) us' ((rs.reverse.take (i + 1)).map ivR) := fun {G2 y'} s2 by' => by
          have hD2 := s2 _ _ hD
          refine ⟨_, _, rfl, fun b o e n => by rw [upd_ne n]; exact s2 _ _ (sb _ _ e n), upd_same, ?_⟩
          rw [take_snoc hr', List.map_append]
          exact paired_appP (Paired.mapP pu fun _ _ z => BlkN.grow hD2 (z.same s2)) (.cons (BlkN.grow hD2 by') .nil)
        dsimp only [gName]
        cases r with
        | ex =>
          obtain ⟨t, rfl, ht⟩ := bv
          refine ⟨_, rfl, t, _, 0, .str "exchange", rfl, rfl, SqT.of ht, rfl, by show 2 ≤ sizeLine; decide, fun p np => ?_⟩
          have s2 := Same.new (o := .tup [.str "add", .str "take"]) (fun _ _ e => e : Same G G) np
          refine ⟨p, _, rfl, .inr (SqT.of upd_same), rfl, by decide, _, rfl, ?_⟩
          refine ite2 (fun z => absurd z (by decide +kernel)) (fun _ => ?_)
          refine ⟨_, rfl, t, _, 0, .str "exchange", rfl, rfl, SqT.of (s2 _ _ ht), rfl, rfl, _, rfl, ?_⟩
          refine ite2 (fun z => absurd z (by decide +kernel)) (fun _ => ?_)
          refine ⟨_, rfl, t, _, 0, .str "exchange", rfl, rfl, SqT.of (s2 _ _ ht), rfl, rfl, _, rfl, ?_⟩
          refine ite2 (fun z => absurd z (by decide +kernel)) (fun _ => ?_)
          exact ⟨_, rfl, .inl ⟨rfl, _, SqL.of (s2 _ _ hD)⟩, _, rfl, D, us, _, rfl, rfl, s2 _ _ hD, small, fin s2 ⟨t, rfl, s2 _ _ ht⟩⟩
        | late l' d =>
          obtain ⟨t, rfl, ht⟩ := bv
          refine ⟨_, rfl, t, _, 0, .str "late", rfl, rfl, SqT.of ht, rfl, by show 2 ≤ sizeLine; decide, fun p np => ?_⟩
          have s2 := Same.new (o := .tup [.str "add", .str "take"]) (fun _ _ e => e : Same G G) np
          refine ⟨p, _, rfl, .inr (SqT.of upd_same), rfl, by decide, _, rfl, ?_⟩
          refine ite2 (fun z => absurd z (by decide +kernel)) (fun _ => ?_)
          have ht2 := s2 _ _ ht
          have hD2 := s2 _ _ hD
          generalize upd G p (.tup [.str "add", .str "take"]) = G2 at s2 ht2 hD2 ⊢
          refine ⟨_, rfl, t, _, 0, .str "late", rfl, rfl, SqT.of ht2, rfl, rfl, _, rfl, ?_⟩
          refine ite2 (fun z => absurd z (by decide +kernel)) (fun _ => ?_)
          refine ⟨_, rfl, t, _, 0, .str "late", rfl, rfl, SqT.of ht2, rfl, rfl, _, rfl, ?_⟩
          refine ite2 (fun _ => ?_) (fun z => absurd (by decide +kernel) z)
          refine ⟨_, rfl, .inl ⟨rfl, _, SqL.of hD2⟩, _, rfl, t, _, 1, .int l', rfl, rfl, SqT.of ht2, rfl, _, _, rfl, rfl, _, rfl, t, _, 2, .int d, rfl, rfl, SqT.of ht2, rfl, by show 3 ≤ sizeLine; decide, fun p2 np2 => ?_⟩
          have s3 := Same.new (o := .tup [.str "late", .int ((1 : Int) - (l' : Int)), .int d]) (fun _ _ e => e : Same G2 G2) np2
          refine ⟨D, us, _, rfl, rfl, s3 _ _ hD2, small, fin (s2.trans s3) ⟨p2, rfl, ?_⟩⟩
          have e : (1 : Int) - (l' : Int) = ((1 - l' : Nat) : Int) := by
            have := vrr.1
            omega
          rw [upd_same]
          show some (HO.tup [V.str "late", V.int ((1 : Int) - (l' : Int)), V.int d]) = _
          rw [e]
        | fac l' p =>
          obtain ⟨t, m, rfl, ht, hm⟩ := bv
          refine ⟨_, rfl, t, _, 0, .str "factor", rfl, rfl, SqT.of ht, rfl, by show 2 ≤ sizeLine; decide, fun p1 np => ?_⟩
          have s2 := Same.new (o := .tup [.str "add", .str "take"]) (fun _ _ e => e : Same G G) np
          refine ⟨p1, _, rfl, .inr (SqT.of upd_same), rfl, by decide, _, rfl, ?_⟩
          refine ite2 (fun z => absurd z (by decide +kernel)) (fun _ => ?_)
          have ht2 := s2 _ _ ht
          have hD2 := s2 _ _ hD
          have hm2 : Pair _ m p := s2 _ _ hm
          generalize upd G p1 (.tup [.str "add", .str "take"]) = G2 at s2 ht2 hD2 hm2 ⊢
          refine ⟨_, rfl, t, _, 0, .str "factor", rfl, rfl, SqT.of ht2, rfl, rfl, _, rfl, ?_⟩
          refine ite2 (fun _ => ?_) (fun z => absurd (by decide +kernel) z)
          refine ⟨_, rfl, .inl ⟨rfl, _, SqL.of hD2⟩, _, rfl, t, _, 1, .int l', rfl, rfl, SqT.of ht2, rfl, ?_⟩
          have sz : Sz p.1 := Nat.lt_of_le_of_lt (vrr.2.s.b.le (by decide)).2 (by decide +kernel)
          refine ⟨_, rfl, t, _, 2, .ref m, rfl, rfl, SqT.of ht2, rfl, m, _, 1, .int p.2, rfl, rfl, SqT.of hm2, rfl, _, rfl, t, _, 2, .ref m, rfl, rfl, SqT.of ht2, rfl, m, _, 0, .int p.1, rfl, rfl, SqT.of hm2, rfl, p.2, p.1, rfl, vrr.2.n, sz, fun z G3 nz s3 hz => ?_⟩
          refine ⟨by show 3 ≤ sizeLine; decide, fun p2 np2 => ?_⟩
          have s4 := Same.new (o := .tup [.str "factor", .int l', .ref z]) (fun _ _ e => e : Same G3 G3) np2
          exact ⟨D, us, _, rfl, rfl, (s3.trans s4) _ _ hD2, small, fin (s2.trans (s3.trans s4)) ⟨p2, z, rfl, upd_same, s4 _ _ hz⟩⟩
        | add b l' ps =>
          obtain ⟨t, m, rfl, mn, ht, hm⟩ := bv
          have key : ∃ z z' : Str, G t = some (.tup [.str z, .int l', .ref m]) ∧ inV (.str z) [.str "add", .str "take"] = true ∧ (if decide (V.str z = V.str "add") = true then ("take" : Str) else "add") = z' ∧ ∀ (p : Addr) (G' : Hp), Same G G' → G' p = some (.tup [.str z', .int l', .ref m]) → BlkN D G' (.ref p) (ivR (.add b l' ps)) := by
            cases b with
            | true => exact ⟨"add", "take", ht, by decide, by decide +kernel, fun p G' s h => ⟨p, m, rfl, mn, h, hm.same s⟩⟩
            | false => exact ⟨"take", "add", ht, by decide, by decide +kernel, fun p G' s h => ⟨p, m, rfl, mn, h, hm.same s⟩⟩
          obtain ⟨z, z', ht, ein, ez, mk⟩ := key
          refine ⟨_, rfl, t, _, 0, .str z, rfl, rfl, SqT.of ht, rfl, by show 2 ≤ sizeLine; decide, fun p1 np => ?_⟩
          have s2 := Same.new (o := .tup [.str "add", .str "take"]) (fun _ _ e => e : Same G G) np
          refine ⟨p1, _, rfl, .inr (SqT.of upd_same), rfl, by decide, _, rfl, ?_⟩
          have ht2 := s2 _ _ ht
          have hD2 := s2 _ _ hD
          generalize upd G p1 (.tup [.str "add", .str "take"]) = G2 at s2 ht2 hD2 ⊢
          refine ite2 (fun _ => ?_) (fun y => absurd ein y)
          refine ⟨_, rfl, .inl ⟨rfl, _, SqL.of hD2⟩, ?_⟩
          refine ⟨_, rfl, t, _, 0, .str z, rfl, rfl, SqT.of ht2, rfl, rfl, _, rfl, ?_⟩
          by_cases q1 : decide (V.str z = V.str "add") = true
          · rw [if_pos q1] at ez
            subst ez
            refine ite2 (fun _ => ?_) (fun y => absurd q1 y)
            refine ⟨_, rfl, t, _, 1, .int l', rfl, rfl, SqT.of ht2, rfl, _, rfl, t, _, 2, .ref m, rfl, rfl, SqT.of ht2, rfl, by show 3 ≤ sizeLine; decide, fun p2 np2 => ?_⟩
            have s3 := Same.new (o := .tup [.str "take", .int l', .ref m]) (fun _ _ e => e : Same G2 G2) np2
            exact ⟨D, us, _, rfl, rfl, s3 _ _ hD2, small, fin (s2.trans s3) (mk p2 _ (s2.trans s3) upd_same)⟩
          · rw [if_neg q1] at ez
            subst ez
            refine ite2 (fun y => absurd y q1) (fun _ => ?_)
            refine ⟨_, rfl, t, _, 1, .int l', rfl, rfl, SqT.of ht2, rfl, _, rfl, t, _, 2, .ref m, rfl, rfl, SqT.of ht2, rfl, by show 3 ≤ sizeLine; decide, fun p2 np2 => ?_⟩
            have s3 := Same.new (o := .tup [.str "add", .int l', .ref m]) (fun _ _ e => e : Same G2 G2) np2
            exact ⟨D, us, _, rfl, rfl, s3 _ _ hD2, small, fin (s2.trans s3) (mk p2 _ (s2.trans s3) upd_same)⟩
      · rintro σ G ⟨us, o2, rfl, sb, hD, pu⟩
        rw [List.length_reverse, lts, ← List.length_reverse, List.take_length] at pu
        exact hK _ _ ⟨us, o2, rfl, fun b o e => sb b o (s01 _ _ e) (ne_of_none e nD), hD, pu⟩
    · rintro σ' G ⟨us, o2, rfl, sG, hD, pu⟩
      exact ⟨_, rfl, q D G nD sG ⟨us, hD, Paired.mapP pu fun _ _ z => z.v⟩⟩
theorem scRungs : FnScope ["_law_chain", "_law_found", "_law_block", "_law_part"] ["_law_chain"] (defScope sRungs) := ⟨rfl, rfl, rfl, by decide +kernel, rfl, by decide +kernel, by decide +kernel⟩
theorem ok_rungs {f : Addr} {fd : FuncData} (F : Fun K "_law_rungs" "_law_rungs" sRungs f fd) (L : Pol P w K mg base cB C CP CM fP fM) (hT : Dfn P w K mg base CX0 6 "_law_told" ["_law_pair"] (spTold67 C)) : FnOk P w K mg base CX0 10 f fd ["_law_chain"] (spRungs C CP CM) := by
  refine F.ok scRungs (fun vs H Q E h => ?_) (fun cdv A outer s H vs Q E hr h => ?_)
  · obtain ⟨c, rs, rfl, _⟩ := h
    rfl
  · obtain ⟨c, rs, rfl, ⟨ts, hc1, hc2⟩, vr, few, q⟩ := h
    have nd := scRungs.nd
    refine ⟨_, pss_cons (ps_set (i := 1) nd rfl (Or.inl rfl) (pe_lst pa_nil))
      (pss_cons (ps_for PassesOwn.never rfl (pi_list (pv 0)) (pg_name (i := 2) nd rfl (Or.inl rfl))
        (pss_one (ps_if (pt_cmpR op_in_seq (pe_ix ix_tup (pv 2) pe_int (fun _ _ => rfl)) (pe_tup (pa_cons pe_str (pa_cons pe_str pa_nil))) (by rfl))
          (pss_one (ps_expr (pe_bm PySem.F.plainAttrs_list PySem.F.slot_list_append PySem.F.type_list_append mt_append (pv 1) (pa_cons (pe_tup (pa_cons (pe_ix ix_tup (pv 2) pe_int (fun _ _ => rfl)) (pa_cons (pe_ix ix_tup (pv 2) pe_int (fun _ _ => rfl)) (pa_cons
            (pe_pol (E := E0) L (hr.mono (by decide)) passL (pe_lc (own := [("_law_part", 3)]) (g := gName 3) (tt := tYes) rfl nd (pi_or (pi_list (pe_ix ix_tup (pv 2) pe_int (fun _ _ => rfl))) (pi_tup (pe_ix ix_tup (pv 2) pe_int (fun _ _ => rfl)))) (blkOk_by (N := ["_law_chain", "_law_found", "_law_block", "_law_part"]) (sc := defScope sRungs) (by decide +kernel)) (fun _ _ _ _ _ => pg_name (i := 3) nd rfl (Or.inl rfl)) (fun _ _ _ _ _ => pts_nil) (fun _ _ _ _ _ => by exact (dc hT hr (by decide) (pa_cons (pv 3) pa_nil))))) pa_nil)))) pa_nil))))
          (pss_one (ps_if (pt_cmpR op_eq (pe_ix ix_tup (pv 2) pe_int (fun _ _ => rfl)) pe_str (nomark _))
            (pss_one (ps_expr (pe_bm PySem.F.plainAttrs_list PySem.F.slot_list_append PySem.F.type_list_append mt_append (pv 1) (pa_cons (pe_tup (pa_cons pe_str (pa_cons (pe_ix ix_tup (pv 2) pe_int (fun _ _ => rfl)) (pa_cons (dc hT hr (by decide) (pa_cons (pe_ix ix_tup (pv 2) pe_int (fun _ _ => rfl)) pa_nil)) pa_nil)))) pa_nil))))
            (pss_one (ps_expr (pe_bm PySem.F.plainAttrs_list PySem.F.slot_list_append PySem.F.type_list_append mt_append (pv 1) (pa_cons (pv 2) pa_nil)))))))))
      (pss_one (ps_ret (pv 1)))), ?_⟩
    have lts := paired_len hc2
    refine ⟨by show 0 ≤ sizeLine; decide, fun D nD => ?_⟩
    have s0 := Same.new (o := .lst []) (fun _ _ e => e : Same H H) nD
    have hD0 : upd H D (.lst []) D = some (.lst []) := upd_same
    generalize upd H D (.lst []) = G0 at s0 hD0 ⊢
    dsimp only [gName]
    refine seq_to (fun σ' G => ∃ (us : List V) (o2 o3 : Option V), σ' = [some (.ref c), some (.ref D), o2, o3] ∧ Same H G ∧ G D = some (.lst us) ∧ Paired (RungT C CP CM G) us rs) (fun kk hK => ?_) ?_
    · refine ⟨_, rfl, c, rfl, ⟨ts, SqL.of (s0 _ _ hc1)⟩, ?_⟩
      refine for_list (K := K) (a := c) (xs := ts) (fun i σ' G => ∃ (us : List V) (o2 o3 : Option V), σ' = [some (.ref c), some (.ref D), o2, o3] ∧ Same H G ∧ G D = some (.lst us) ∧ Paired (RungT C CP CM G) us (rs.take i)) ⟨[], none, none, rfl, s0, hD0, .nil⟩ (fun i σ' G _ p => by
        obtain ⟨_, _, _, _, sG, _⟩ := p
        exact SqL.of (sG _ _ hc1)) ?_ ?_
      · rintro i y σ G hy ⟨us, o2, o3, rfl, sG, hD, pu⟩
        obtain ⟨r, hr', bv0⟩ := paired_at hc2 hy
        have bv := bv0.same sG
        have vrr := vr r (List.mem_of_getElem? hr')
        have li : i < rs.length := (List.getElem?_eq_some_iff.mp hr').1
        have lu : us.length = i := by rw [paired_len pu, List.length_take]; omega
        have small : us.length < sizeLine := Nat.lt_of_lt_of_le (show us.length < 101 by omega) (by decide)
        have fin : ∀ {G2 : Hp} {y' : V} {o3' : Option V}, Same G G2 → RungT C CP CM G2 y' r → ∃ (us' : List V) (o2' o3'' : Option V), ([some (.ref c), some (.ref D), some y, o3'] : List (Option V)) = [some (.ref c), some (.ref D), o2', o3''] ∧ Same H (upd G2 D (.lst (us ++ [y']))) ∧ (upd G2 D (.lst (us ++ [y']))) D = some (.lst us') ∧ Paired (RungT C CP CM (upd G2 D (.lst (us ++ [y'])))) us' (rs.take (i + 1)) := fun {G2 y' o3'} s2 ry => by
          have hD2 := s2 _ _ hD
          refine ⟨_, _, _, rfl, fun b o e => by rw [upd_ne (ne_of_none e nD)]; exact s2 _ _ (sG _ _ e), upd_same, ?_⟩
          rw [take_snoc hr']
          exact paired_appP (Paired.mapP pu fun _ _ z => (z.same s2).nl (SameN.upd hD2)) (.cons (ry.nl (SameN.upd hD2)) .nil)
        dsimp only [gName]
        cases r with
        | ex =>
          obtain ⟨t, rfl, ht⟩ := bv
          refine ⟨_, rfl, t, _, 0, .str "exchange", rfl, rfl, SqT.of ht, rfl, by show 2 ≤ sizeLine; decide, fun p np => ?_⟩
          have s2 := Same.new (o := .tup [.str "add", .str "take"]) (fun _ _ e => e : Same G G) np
          refine ⟨p, _, rfl, .inr (SqT.of upd_same), rfl, by decide, _, rfl, ?_⟩
          refine ite2 (fun z => absurd z (by decide +kernel)) (fun _ => ?_)
          refine ⟨_, rfl, t, _, 0, .str "exchange", rfl, rfl, SqT.of (s2 _ _ ht), rfl, rfl, _, rfl, ?_⟩
          refine ite2 (fun z => absurd z (by decide +kernel)) (fun _ => ?_)
          exact ⟨_, rfl, .inl ⟨rfl, _, SqL.of (s2 _ _ hD)⟩, _, rfl, D, us, _, rfl, rfl, s2 _ _ hD, small, fin s2 ⟨t, rfl, s2 _ _ ht⟩⟩
        | late l' d =>
          obtain ⟨t, rfl, ht⟩ := bv
          refine ⟨_, rfl, t, _, 0, .str "late", rfl, rfl, SqT.of ht, rfl, by show 2 ≤ sizeLine; decide, fun p np => ?_⟩
          have s2 := Same.new (o := .tup [.str "add", .str "take"]) (fun _ _ e => e : Same G G) np
          refine ⟨p, _, rfl, .inr (SqT.of upd_same), rfl, by decide, _, rfl, ?_⟩
          refine ite2 (fun z => absurd z (by decide +kernel)) (fun _ => ?_)
          refine ⟨_, rfl, t, _, 0, .str "late", rfl, rfl, SqT.of (s2 _ _ ht), rfl, rfl, _, rfl, ?_⟩
          refine ite2 (fun z => absurd z (by decide +kernel)) (fun _ => ?_)
          exact ⟨_, rfl, .inl ⟨rfl, _, SqL.of (s2 _ _ hD)⟩, _, rfl, D, us, _, rfl, rfl, s2 _ _ hD, small, fin s2 ⟨t, rfl, s2 _ _ ht⟩⟩
        | fac l' p =>
          obtain ⟨t, m, rfl, ht, hm⟩ := bv
          refine ⟨_, rfl, t, _, 0, .str "factor", rfl, rfl, SqT.of ht, rfl, by show 2 ≤ sizeLine; decide, fun p1 np => ?_⟩
          have s2 := Same.new (o := .tup [.str "add", .str "take"]) (fun _ _ e => e : Same G G) np
          refine ⟨p1, _, rfl, .inr (SqT.of upd_same), rfl, by decide, _, rfl, ?_⟩
          refine ite2 (fun z => absurd z (by decide +kernel)) (fun _ => ?_)
          have ht2 := s2 _ _ ht
          have hD2 := s2 _ _ hD
          have hm2 : Pair _ m p := s2 _ _ hm
          generalize upd G p1 (.tup [.str "add", .str "take"]) = G2 at s2 ht2 hD2 hm2 ⊢
          refine ⟨_, rfl, t, _, 0, .str "factor", rfl, rfl, SqT.of ht2, rfl, rfl, _, rfl, ?_⟩
          refine ite2 (fun _ => ?_) (fun z => absurd (by decide +kernel) z)
          refine ⟨_, rfl, .inl ⟨rfl, _, SqL.of hD2⟩, _, rfl, t, _, 1, .int l', rfl, rfl, SqT.of ht2, rfl, _, rfl, t, _, 2, .ref m, rfl, rfl, SqT.of ht2, rfl, m, p, rfl, hm2, vrr.2.s.l, Nat.lt_of_le_of_lt (vrr.2.s.b.le (by decide)).1 (by decide +kernel), fun z dz G3 nz s3 hz => ?_⟩
          refine ⟨by show 3 ≤ sizeLine; decide, fun p2 np2 => ?_⟩
          have s4 := Same.new (o := .tup [.str "factor", .int l', .ref z]) (fun _ _ e => e : Same G3 G3) np2
          exact ⟨D, us, _, rfl, rfl, (s3.trans s4) _ _ hD2, small, fin (s2.trans (s3.trans s4)) ⟨p2, z, dz, rfl, upd_same, s4 _ _ hz⟩⟩
        | add b l' ps =>
          obtain ⟨t, m, rfl, ht, hm⟩ := bv
          have ein : inV (.str (if b = true then ("add" : Str) else ("take" : Str))) [.str "add", .str "take"] = true := by cases b <;> decide
          have ht' : G t = some (.tup [.str (if b = true then ("add" : Str) else ("take" : Str)), .int l', .ref m]) := ht
          refine ⟨_, rfl, t, _, 0, .str _, rfl, rfl, SqT.of ht', rfl, by show 2 ≤ sizeLine; decide, fun p1 np => ?_⟩
          have s2 := Same.new (o := .tup [.str "add", .str "take"]) (fun _ _ e => e : Same G G) np
          refine ⟨p1, _, rfl, .inr (SqT.of upd_same), rfl, by decide, _, rfl, ?_⟩
          have ht2 := s2 _ _ ht'
          have hD2 := s2 _ _ hD
          have hm2 := hm.same s2
          generalize upd G p1 (.tup [.str "add", .str "take"]) = G2 at s2 ht2 hD2 hm2 ⊢
          refine ite2 (fun _ => ?_) (fun y => absurd ein y)
          refine ⟨_, rfl, .inl ⟨rfl, _, SqL.of hD2⟩, _, rfl, t, _, 0, .str _, rfl, rfl, SqT.of ht2, rfl, _, rfl, t, _, 1, .int l', rfl, rfl, SqT.of ht2, rfl, ?_⟩
          obtain ⟨tm, hm1, hm3⟩ := hm2
          have ltm := paired_len hm3
          have lowp : ∀ p ∈ ps, Low p := fun p hp => (vrr.2.2 p hp).l
          have few3 := vrr.2.1
          dsimp only [tCons, tPol]
          refine lc_map (bs := ps) (Rr := fun _ G y p => RV C G y p) (fun R r => ⟨_, rfl, t, _, 2, .ref m, rfl, rfl, SqT.of ht2, rfl, r⟩) ⟨m, rfl, .inl (SqL.of hm1)⟩ (by rw [ltm]; exact Nat.le_trans few3 (by decide)) ltm (fun _ _ _ _ _ h s => h.same s) (fun D G rs' ys y p hD h => h.nl (SameN.upd hD)) ?_ ?_
          · intro D2 k y p G3 rs' Kc hx hb s3 hD3 kc
            obtain ⟨p', hp', u, rfl, pu'⟩ := paired_at hm3 hx
            rw [hb] at hp'
            cases hp'
            have mp := List.mem_of_getElem? hb
            exact ⟨_, rfl, u, p, rfl, s3 _ _ pu', lowp p mp, Nat.lt_of_le_of_lt ((vrr.2.2 p mp).b.le (by decide)).1 (by decide +kernel), fun z dz G4 nz s4 hz => kc _ _ s4 ⟨z, dz, rfl, hz⟩⟩
          · intro D2 ws G3 nl s3 hl pw
            refine .inr ⟨ps, ⟨ws, ⟨D2, rfl, .inl (SqL.of hl)⟩, by rw [paired_len pw]; exact Nat.le_trans few3 (by decide), Paired.mapP pw fun _ _ z => .inr z⟩, Nat.le_trans few3 (by decide), fun m' tr => ?_⟩
            intro o G4 no s4 ho
            refine ⟨by show 3 ≤ sizeLine; decide, fun p2 np2 => ?_⟩
            have s5 := Same.new (o := .tup [.str (if b = true then ("add" : Str) else ("take" : Str)), .int l', .ref o]) (fun _ _ e => e : Same G4 G4) np2
            have s25 := s2.trans (s3.trans (s4.trans s5))
            exact ⟨D, us, _, rfl, rfl, (s3.trans (s4.trans s5)) _ _ hD2, small, fin s25 ⟨p2, o, ps.take m', rfl, upd_same, ho.same s5, tr.isP lowp, by rw [List.length_take]; exact Nat.min_le_right _ _, fun q hq => vrr.2.2 q (List.mem_of_mem_take hq), tr.cf lowp⟩⟩
      · rintro σ G ⟨us, o2, o3, rfl, sG, hD, pu⟩
        rw [lts, List.take_length] at pu
        exact hK _ _ ⟨us, o2, o3, rfl, sG, hD, pu⟩
    · rintro σ' G ⟨us, o2, o3, rfl, sG, hD, pu⟩
      exact ⟨_, rfl, q D us G nD sG hD pu⟩
end
end K03
end
section
set_option maxHeartbeats 4000000
namespace K03
open PySem PySem.Spec PyProof.Rows L2 LamX NdefX L3
section
variable {P : Program} {w : World} {K : PySem.W.Frag} {mg : Str → Option Value} {base : Heap} {cB cN : Addr}
end
end K03
end
section
set_option maxHeartbeats 4000000
namespace K03
open PySem PySem.Spec PyProof.Rows L2 LamX NdefX L3
/-! pairs as data -/
def dP (p : Int × Int) : PyData := .tuple [.int p.1, .int p.2]
def dPs (ps : List (Int × Int)) : PyData := .list (ps.map dP)
def dPss (pss : List (List (Int × Int))) : PyData := .list (pss.map dPs)
theorem lay_P : ∀ ps : List (Int × Int), PyData.canLayAll0 (ps.map dP) = true
  | [] => rfl
  | p :: r => by
    rw [List.map_cons, PyData.canLayAll0, lay_P r]
    simp [dP, PyData.canLayAll0, PyData.canLay0]
theorem dep_P : ∀ ps : List (Int × Int), PyData.depthAll (ps.map dP) ≤ 1
  | [] => Nat.zero_le _
  | p :: r => by
    have := dep_P r
    have e : PyData.depth (dP p) ≤ 1 := by simp [dP, PyData.depthAll, PyData.depth]
    rw [List.map_cons, PyData.depthAll]
    omega
theorem lay_Ps (ps : List (Int × Int)) : PyData.canLay0 (dPs ps) = true := by simp [dPs, PyData.canLay0, lay_P]
theorem dep_Ps (ps : List (Int × Int)) : PyData.depth (dPs ps) ≤ 2 := by
  have := dep_P ps
  simp [dPs, PyData.depth]
  omega
theorem lay_Pss : ∀ pss : List (List (Int × Int)), PyData.canLayAll0 (pss.map dPs) = true
  | [] => rfl
  | p :: r => by rw [List.map_cons, PyData.canLayAll0, lay_Pss r, lay_Ps]; rfl
theorem dep_Pss : ∀ pss : List (List (Int × Int)), PyData.depthAll (pss.map dPs) ≤ 2
  | [] => Nat.zero_le _
  | p :: r => by
    have := dep_Pss r
    have := dep_Ps p
    rw [List.map_cons, PyData.depthAll]
    omega
theorem lay_PSS (pss : List (List (Int × Int))) : PyData.canLay0 (dPss pss) = true := by simp [dPss, PyData.canLay0, lay_Pss]
theorem sh_Pss (pss : List (List (Int × Int))) : SeqAt.shaped (dPss pss) = true := by
  have := dep_Pss pss
  have e : (dPss pss).depth ≤ 64 := by
    simp [dPss, PyData.depth]
    omega
  unfold SeqAt.shaped
  rw [lay_PSS, decide_eq_true e]
  rfl
theorem dp_P {K : PySem.W.Frag} {H : Hp} {v : V} {p : Int × Int} (h : PairV H v p) : Dp K H v (dP p) := by
  obtain ⟨t, rfl, ht⟩ := h
  exact .tup (SqT.of ht) (.cons (.int _) (.cons (.int _) .nil))
theorem dp_Ps {K : PySem.W.Frag} {H : Hp} : ∀ {ts : List V} {ps : List (Int × Int)}, Paired (PairV H) ts ps → DpAll K H ts (ps.map dP)
  | _, _, .nil => .nil
  | _, _, .cons a r => .cons (dp_P a) (dp_Ps r)
theorem dp_PsV {K : PySem.W.Frag} {H : Hp} {v : V} {ps : List (Int × Int)} (h : PairsV H v ps) : Dp K H v (dPs ps) := by
  obtain ⟨a, xs, rfl, ha, p⟩ := h
  exact .lst (SqL.of ha) (dp_Ps p)
theorem dp_Pss {K : PySem.W.Frag} {H : Hp} : ∀ {ts : List V} {pss : List (List (Int × Int))}, Paired (PairsV H) ts pss → DpAll K H ts (pss.map dPs)
  | _, _, .nil => .nil
  | _, _, .cons a r => .cons (dp_PsV a) (dp_Pss r)
theorem eq_Pss (pss : List (List (Int × Int))) : PyData.eqv (dPss pss) (dPss pss) = true := SeqAt.eqv_refl _ (lay_PSS pss)
end K03
end
section
set_option maxHeartbeats 16000000
set_option exponentiation.threshold 100000
namespace K03
open PySem PySem.Spec PyProof.Rows L2 LamX NdefX L3 TL PolyM
abbrev sShown67 : Stmt := top 70
abbrev sRead67 : Stmt := top 71
abbrev sFlat67 : Stmt := top 77
def spShown67 (C : Addr) : Sp := fun vs H Q _ => ∃ (l : Addr) (x : Ln2), vs = [.ref l] ∧ LanesL H l x ∧ x.1.length ≤ 100 ∧ x.2.length ≤ 100 ∧ (∀ p ∈ x.1, Low p ∧ Sz p.2) ∧ (∀ p ∈ x.2, Low p ∧ Sz p.2) ∧ ∀ l' H', H l' = none → Same H H' → LanesAt C H' l' x → Q (.ref l') H'
def spRead67 (C : Addr) : Sp := fun vs H Q _ => ∃ (l : Addr) (x : Ln2), vs = [.ref l] ∧ LanesAt C H l x ∧ x.1.length ≤ 100 ∧ x.2.length ≤ 100 ∧ ∀ l' H', H l' = none → Same H H' → LanesL H' l' x → Q (.ref l') H'
theorem two_of {F : V → List (Int × Int) → Prop} {ws : List V} {a b : List (Int × Int)} (h : Paired F ws [a, b]) : ∃ u v, ws = [u, v] ∧ F u a ∧ F v b := by
  cases h with
  | cons h1 h2 =>
    cases h2 with
    | cons h3 h4 =>
      cases h4
      exact ⟨_, _, rfl, h1, h3⟩
section
variable {P : Program} {w : World} {K : PySem.W.Frag} {mg : Str → Option Value} {base : Heap} {cB cN C fI CP CM fP fM : Addr}
theorem scShown67 : FnScope ["_law_turns", "_law_turn", "_law_part"] ["_law_turns"] (defScope sShown67) := ⟨rfl, rfl, rfl, by decide +kernel, rfl, by decide +kernel, by decide +kernel⟩
theorem ok_shown67 {f : Addr} {fd : FuncData} (F : Fun K "_law_shown" "_law_shown" sShown67 f fd) (hT : Dfn P w K mg base CX0 6 "_law_told" ["_law_pair"] (spTold67 C)) : FnOk P w K mg base CX0 7 f fd ["_law_turns"] (spShown67 C) := by
  refine F.ok scShown67 (fun vs H Q E h => ?_) (fun cdv A outer s H vs Q E hr h => ?_)
  · obtain ⟨l, x, rfl, _⟩ := h
    rfl
  · obtain ⟨l, x, rfl, ⟨a, b, hl, pa, pb⟩, la, lb, oa, ob, q⟩ := h
    have nd := scShown67.nd
    refine ⟨_, pss_one (ps_ret (pe_lc (own := [("_law_turn", 1)]) (g := gName 1) (tt := tYes) rfl nd (pi_or (pi_list (pv 0)) (pi_tup (pv 0))) (blkOk_by (N := ["_law_turns", "_law_turn", "_law_part"]) (sc := defScope sShown67) (by decide +kernel)) (fun _ _ _ _ _ => pg_name (i := 1) nd rfl (Or.inl rfl)) (fun _ _ _ _ _ => pts_nil)
      (fun _ _ _ _ _ => by exact (pe_lc (own := [("_law_part", 2)]) (g := gName 2) (tt := tYes) rfl nd (pi_or (pi_listK K (pv 1)) (pi_tupK K (pv 1))) (blkOk_by (N := ["_law_turns", "_law_turn", "_law_part"]) (by rfl)) (fun _ _ _ _ _ => pg_name (i := 2) nd rfl (Or.inl rfl)) (fun _ _ _ _ _ => pts_nil) (fun _ _ _ _ _ => by exact (dc hT hr (by decide) (pa_cons (pv 2) pa_nil))))))), ?_⟩
    have two : ∀ (k : Nat) (v : V) (ps : List (Int × Int)), ([V.ref a, V.ref b] : List V)[k]? = some v → [x.1, x.2][k]? = some ps → ∃ m, v = .ref m ∧ PPs H m ps ∧ ps.length ≤ 100 ∧ ∀ p ∈ ps, Low p ∧ Sz p.2 := fun k v ps h1 h2 => by
      match k, h1, h2 with
      | 0, h1, h2 => cases h1; cases h2; exact ⟨a, rfl, pa, la, oa⟩
      | 1, h1, h2 => cases h1; cases h2; exact ⟨b, rfl, pb, lb, ob⟩
    refine lc_map (bs := [x.1, x.2]) (Rr := fun D G y ps => LaneN C G D y ps) (fun R r => ⟨.ref l, rfl, r⟩) ⟨l, rfl, .inl (SqL.of hl)⟩ (by show 2 ≤ sizeLine; decide) rfl (fun _ _ _ _ _ h s => h.same s) (fun D G rs' ys y ps hD h => h.grow hD) ?_ ?_
    · intro D k v ps G rs' Kc hx hb s1 hD kc
      obtain ⟨m, rfl, hm, lm, om⟩ := two k v ps hx hb
      obtain ⟨tm, hm1, hm2⟩ := hm.same s1
      have ltm := paired_len hm2
      refine lc_map (K := K) (bs := ps) (Rr := fun _ G y p => RV C G y p) (fun R r => ⟨.ref m, rfl, r⟩) ⟨m, rfl, .inl (SqL.of hm1)⟩ (by rw [ltm]; exact Nat.le_trans lm (by decide)) ltm (fun _ _ _ _ _ h s => h.same s) (fun D G rs' ys y p hD h => h.nl (SameN.upd hD)) ?_ ?_
      · intro D2 k2 y p G2 rs2 Kc2 hx2 hb2 s2 hD2 kc2
        obtain ⟨p', hp', u, rfl, pu⟩ := paired_at hm2 hx2
        rw [hb2] at hp'
        cases hp'
        obtain ⟨l1, l2⟩ := om p (List.mem_of_getElem? hb2)
        exact ⟨_, rfl, u, p, rfl, s2 _ _ pu, l1, l2, fun z dz G3 nz s3 hz => kc2 _ _ s3 ⟨z, dz, rfl, hz⟩⟩
      · intro D2 ws G2 nD2 s2 hl2 pw
        exact kc _ _ s2 ⟨D2, ws, rfl, (fun z => by rw [z, hD] at nD2; cases nD2), hl2, pw⟩
    · intro D ws G nD s1 hD pw
      obtain ⟨u, v, rfl, h1, h2⟩ := two_of pw
      obtain ⟨a1, us, rfl, _, e1, e2⟩ := h1
      obtain ⟨b1, vs, rfl, _, g1, g2⟩ := h2
      exact q D G nD s1 ⟨a1, b1, us, vs, hD, e1, e2, g1, g2⟩
theorem scRead67 : FnScope ["_law_told_here", "_law_turn", "_law_part"] ["_law_told_here"] (defScope sRead67) := ⟨rfl, rfl, rfl, by decide +kernel, rfl, by decide +kernel, by decide +kernel⟩
theorem ok_read67 {f : Addr} {fd : FuncData} (F : Fun K "_law_read" "_law_read" sRead67 f fd) (B : TxtR mg) (hP : Dfn P w K mg base CX0 1 "_law_pair_of" ["_law_told_here"] (spPO C)) : FnOk P w K mg base CX0 2 f fd ["_law_told_here"] (spRead67 C) := by
  refine F.ok scRead67 (fun vs H Q E h => ?_) (fun cdv A outer s H vs Q E hr h => ?_)
  · obtain ⟨l, x, rfl, _⟩ := h
    rfl
  · obtain ⟨l, x, rfl, ⟨a, b, xs, ys, hl, ha, pa, hb, pb⟩, la, lb, q⟩ := h
    have nd := scRead67.nd
    refine ⟨_, pss_cons (ps_if (PW.pt (pw_or (pt_not (pt_val (pe_callB call_isi (by rfl) B.isi (by decide +kernel) (pa_cons (pv 0) (pa_cons (pe_bltn (v := .ty "list") (u := .type "list") (by rfl) B.list (by decide +kernel) rfl) pa_nil)))))
        (pw_or1 (pt_not (pt_val (pe_callB (cr_all rfl) (by rfl) B.all (by decide +kernel) (pa_cons (pe_lc (own := [("_law_turn", 1)]) (g := gName 1) (tt := tYes) rfl nd (pi_or (pi_list (pv 0)) (pi_tup (pv 0))) (blkOk_by (N := ["_law_told_here", "_law_turn", "_law_part"]) (sc := defScope sRead67) (by decide +kernel)) (fun _ _ _ _ _ => pg_name (i := 1) nd rfl (Or.inl rfl)) (fun _ _ _ _ _ => pts_nil)
          (fun _ _ _ _ _ => by exact (pe_callB (show CallR _ (.builtin "isinstance") (rIsi K) from call_isi) (by rfl) B.isi (by decide +kernel) (pa_cons (pv 1) (pa_cons (pe_bltn (v := .ty "list") (u := .type "list") (by rfl) B.list (by decide +kernel) rfl) pa_nil))))) pa_nil))))))) (pss_one (ps_ret pe_non)) pss_nil)
      (pss_one (ps_ret (pe_lc (own := [("_law_turn", 1)]) (g := gName 1) (tt := tYes) rfl nd (pi_or (pi_list (pv 0)) (pi_tup (pv 0))) (blkOk_by (N := ["_law_told_here", "_law_turn", "_law_part"]) (sc := defScope sRead67) (by decide +kernel)) (fun _ _ _ _ _ => pg_name (i := 1) nd rfl (Or.inl rfl)) (fun _ _ _ _ _ => pts_nil)
        (fun _ _ _ _ _ => by exact (pe_lc (own := [("_law_part", 2)]) (g := gName 2) (tt := tYes) rfl nd (pi_or (pi_listK K (pv 1)) (pi_tupK K (pv 1))) (blkOk_by (N := ["_law_told_here", "_law_turn", "_law_part"]) (by rfl)) (fun _ _ _ _ _ => pg_name (i := 2) nd rfl (Or.inl rfl)) (fun _ _ _ _ _ => pts_nil) (fun _ _ _ _ _ => by exact (dc hP hr (by decide) (pa_cons (pv 2) pa_nil)))))))), ?_⟩
    have two : ∀ (k : Nat) (v : V) (ps : List (Int × Int)), ([V.ref a, V.ref b] : List V)[k]? = some v → [x.1, x.2][k]? = some ps → ∃ m ws, v = .ref m ∧ H m = some (.lst ws) ∧ Paired (RV C H) ws ps ∧ ps.length ≤ 100 := fun k v ps h1 h2 => by
      match k, h1, h2 with
      | 0, h1, h2 => cases h1; cases h2; exact ⟨a, xs, rfl, ha, pa, la⟩
      | 1, h1, h2 => cases h1; cases h2; exact ⟨b, ys, rfl, hb, pb, lb⟩
    refine ⟨_, rfl, _, .ty "list", .type "list", .type "list", true, rfl, .ty _, .base (.lst hl), kit_ty (by decide +kernel), true, rfl, iteF ?_⟩
    dsimp only [tNot, tB, tCB, tCons]
    refine lc_map (bs := [true, true]) (Rr := fun _ _ y b => y = .bl b) (fun R r => ⟨.ref l, rfl, r⟩) ⟨l, rfl, .inl (SqL.of hl)⟩ (by show 2 ≤ sizeLine; decide) rfl (fun _ _ _ _ _ h _ => h) (fun _ _ _ _ _ _ _ h => h) ?_ ?_
    · intro D k v b' G rs' Kc hx hb' s1 hD kc
      have et : b' = true := by
        match k, hb' with
        | 0, e => cases e; rfl
        | 1, e => cases e; rfl
      have e2 : ∃ m ws, v = .ref m ∧ H m = some (.lst ws) := by
        match k, hx with
        | 0, e => cases e; exact ⟨a, xs, rfl, ha⟩
        | 1, e => cases e; exact ⟨b, ys, rfl, hb⟩
      obtain ⟨m, ws, rfl, hm⟩ := e2
      rw [et] at kc
      exact ⟨_, rfl, _, .ty "list", .type "list", .type "list", true, rfl, .ty _, .base (.lst (s1 _ _ hm)), kit_ty (by decide +kernel), kc _ _ (fun _ _ e => e) rfl⟩
    intro D ws G nD s1 hD pw
    refine ⟨D, [true, true], rfl, SqL.of (by rw [hD, bl_list pw]), true, rfl, iteF ?_⟩
    refine lc_map (bs := [x.1, x.2]) (Rr := fun D G y ps => ∃ m, y = .ref m ∧ m ≠ D ∧ PPs G m ps) (fun R r => ⟨.ref l, rfl, r⟩) ⟨l, rfl, .inl (SqL.of (s1 _ _ hl))⟩ (by show 2 ≤ sizeLine; decide) rfl (fun _ _ _ _ _ h s => by
      obtain ⟨m, e, n, h⟩ := h
      exact ⟨m, e, n, h.same s⟩) (fun D G rs' ys y ps hD h => by
      obtain ⟨m, e, n, h⟩ := h
      exact ⟨m, e, n, h.growN hD n⟩) ?_ ?_
    · intro D1 k v ps G1 rs' Kc hx hb' s2 hD1 kc
      obtain ⟨m, ws', rfl, hm, pm, lm⟩ := two k v ps hx hb'
      have s12 := s1.trans s2
      have lw := paired_len pm
      refine lc_map (K := K) (bs := ps) (Rr := fun _ G y p => PV G y p) (fun R r => ⟨.ref m, rfl, r⟩) ⟨m, rfl, .inl (SqL.of (s12 _ _ hm))⟩ (by rw [lw]; exact Nat.le_trans lm (by decide)) lw (fun _ _ _ _ _ h s => h.same s) (fun D G rs' ys y p hD h => PV.grow hD h) ?_ ?_
      · intro D2 k2 y p G2 rs2 Kc2 hx2 hb2 s3 hD2 kc2
        obtain ⟨p', hp', rv⟩ := paired_at pm hx2
        rw [hb2] at hp'
        cases hp'
        exact ⟨_, rfl, y, p, rfl, rv.same (s12.trans s3), fun t G3 nt s4 pt => kc2 _ _ s4 ⟨t, rfl, pt⟩⟩
      · intro D2 us G2 nD2 s3 hl2 pu
        exact kc _ _ s3 ⟨D2, rfl, (fun z => by rw [z, hD1] at nD2; cases nD2), us, hl2, pu⟩
    · intro D1 us G1 nD1 s2 hD1 pu
      obtain ⟨u, v, rfl, h1, h2⟩ := two_of pu
      obtain ⟨a1, rfl, _, e1⟩ := h1
      obtain ⟨b1, rfl, _, e2⟩ := h2
      exact q D1 G1 (none_same s1 nD1) (s1.trans s2) ⟨a1, b1, hD1, e1, e2⟩
theorem scFlat67 : FnScope ["_law_rows", "_law_found", "_law_row"] ["_law_rows"] (defScope sFlat67) := ⟨rfl, rfl, rfl, by decide +kernel, rfl, by decide +kernel, by decide +kernel⟩
/-- the two lanes' numbers in one list -/
def spFlat67 (C : Addr) : Sp := fun vs H Q _ => ∃ (t : Addr) (x : Ln2), vs = [.ref t] ∧ TwoAt C H t x ∧ x.1.length ≤ 100 ∧ x.2.length ≤ 100 ∧ ∀ l ws H', H l = none → Same H H' → H' l = some (.lst ws) → Paired (RV C H') ws (x.1 ++ x.2) → Q (.ref l) H'
theorem ok_flat67 {f : Addr} {fd : FuncData} (F : Fun K "_law_flat" "_law_flat" sFlat67 f fd) (B : TxtR mg) : FnOk P w K mg base CX0 1 f fd ["_law_rows"] (spFlat67 C) := by
  refine F.ok scFlat67 (fun vs H Q E h => ?_) (fun cdv A outer s H vs Q E hr h => ?_)
  · obtain ⟨t, x, rfl, _⟩ := h
    rfl
  · obtain ⟨t, x, rfl, ⟨a, b, xs, ys, ht, ha, pa, hb, pb⟩, la, lb, q⟩ := h
    have nd := scFlat67.nd
    refine ⟨_, pss_cons (ps_set (i := 1) nd rfl (Or.inl rfl) (pe_lst pa_nil))
      (pss_cons (ps_for PassesOwn.never rfl (pi_tup (pv 0)) (pg_name (i := 2) nd rfl (Or.inl rfl))
        (pss_one (ps_set (i := 1) nd rfl (Or.inl rfl) (pe_op op_cat (pv 1) (pe_callTy call_list_of (by rfl) B.list (by decide +kernel) (pa_cons (pv 2) pa_nil))))))
      (pss_one (ps_ret (pv 1)))), ?_⟩
    have lx := paired_len pa
    have ly := paired_len pb
    refine ⟨by show 0 ≤ sizeLine; decide, fun D nD => ?_⟩
    have s0 := Same.new (o := .lst []) (fun _ _ e => e : Same H H) nD
    have hD0 : upd H D (.lst []) D = some (.lst []) := upd_same
    generalize upd H D (.lst []) = G0 at s0 hD0 ⊢
    dsimp only [gName]
    refine seq_to (fun σ' G => ∃ (D : Addr) (ws : List V) (o2 : Option V), σ' = [some (.ref t), some (.ref D), o2] ∧ Same H G ∧ H D = none ∧ G D = some (.lst ws) ∧ Paired (RV C G) ws (x.1 ++ x.2)) (fun kk hK => ?_) ?_
    · refine ⟨_, rfl, t, rfl, ⟨_, SqT.of (s0 _ _ ht)⟩, ?_⟩
      refine for_tup (K := K) (a := t) (xs := [V.ref a, V.ref b]) (fun i σ' G => ∃ (D : Addr) (ws : List V) (o2 : Option V), σ' = [some (.ref t), some (.ref D), o2] ∧ Same H G ∧ H D = none ∧ G D = some (.lst ws) ∧ Paired (RV C G) ws (([x.1, x.2].take i).flatten)) ⟨D, [], none, rfl, s0, nD, hD0, .nil⟩ (fun i σ' G _ p => by
        obtain ⟨_, _, _, _, sG, _⟩ := p
        exact SqT.of (sG _ _ ht)) ?_ ?_
      · rintro i v σ G hv ⟨D, ws, o2, rfl, sG, nD, hD, pw⟩
        have two : ∃ m us ps, v = .ref m ∧ H m = some (.lst us) ∧ Paired (RV C H) us ps ∧ ps.length ≤ 100 ∧ ws.length ≤ 100 ∧ ([x.1, x.2].take (i + 1)).flatten = ([x.1, x.2].take i).flatten ++ ps := by
          have lw := paired_len pw
          match i, hv with
          | 0, e =>
            cases e
            exact ⟨a, xs, x.1, rfl, ha, pa, la, by rw [lw]; simp, by simp⟩
          | 1, e =>
            cases e
            exact ⟨b, ys, x.2, rfl, hb, pb, lb, by rw [lw]; simpa using la, by simp⟩
        obtain ⟨m, us, ps, rfl, hm, pm, lm, lw, ef⟩ := two
        have lu := paired_len pm
        dsimp only [gName]
        refine ⟨_, rfl, _, rfl, m, us, rfl, .inl (SqL.of (sG _ _ hm)), fun c nc => ?_⟩
        have s1 := Same.new (o := .lst us) (fun _ _ e => e : Same G G) nc
        have hc : upd G c (.lst us) c = some (.lst us) := upd_same
        generalize upd G c (.lst us) = G1 at s1 hc ⊢
        refine ⟨D, c, ws, us, rfl, rfl, s1 _ _ hD, hc, ?_, fun p np => ?_⟩
        · exact Nat.le_trans (show ws.length + us.length ≤ 200 by omega) (by decide)
        · have s2 := Same.new (o := .lst (ws ++ us)) (fun _ _ e => e : Same G1 G1) np
          have s12 := s1.trans s2
          refine ⟨p, _, _, rfl, sG.trans s12, none_same (sG.trans s1) np, upd_same, ?_⟩
          rw [ef]
          exact paired_appP (Paired.mapP pw fun _ _ z => z.same s12) (Paired.mapP pm fun _ _ z => z.same (sG.trans s12))
      · rintro σ G ⟨D, ws, o2, rfl, sG, nD, hD, pw⟩
        refine hK _ _ ⟨D, ws, o2, rfl, sG, nD, hD, ?_⟩
        simpa using pw
    · rintro σ' G ⟨D, ws, o2, rfl, sG, nD, hD, pw⟩
      exact ⟨_, rfl, q D ws G nD sG hD pw⟩
end
end K03
end
section
set_option maxHeartbeats 16000000
set_option exponentiation.threshold 100000
namespace K03
open PySem PySem.Spec PyProof.Rows L2 LamX NdefX L3 TL PolyM
abbrev sNums67 : Stmt := top 78
abbrev sClimb67 : Stmt := top 72
def spNums67 : Sp := fun vs H Q _ => ∃ (d c : Addr) (s r : Int) (m : Nat) (flag : Bool) (cells : List Int), vs = [.ref d, .int m, .bl flag] ∧ PenAt H d c s r cells ∧ 0 ≤ s ∧ m ≤ 100 ∧ s + 20 * m + 20 ≤ 100000 ∧ cells.length ≤ 63 ∧
  ∀ (l : Addr) (ps : List (Int × Int)) (s' r' : Int) (H' : Hp), H l = none → ps.length = m → (∀ p ∈ ps, NumD p) → (flag = true → ∀ p ∈ ps, p.2 = 1) → 0 ≤ s' → s' ≤ s + 12 * m → PenAt H' d c s' r' cells → SameBut d H H' → PPs H' l ps → Q (.ref l) H'
/-- a drawn step -/
def DR : Rg → Prop
  | .fac l p => l ≤ 1 ∧ p ∈ fewF
  | r => VR r
theorem DR.vr {r : Rg} (h : DR r) : VR r := by
  cases r with
  | fac l p => exact ⟨h.1, few_ok p h.2⟩
  | ex => exact h
  | late l d => exact h
  | add b l ps => exact h
def spClimb67 : Sp := fun vs H Q _ => ∃ (d c : Addr) (s r : Int) (cells : List Int), vs = [.ref d, .int 6] ∧ PenAt H d c s r cells ∧ 0 ≤ s ∧ s + 200 ≤ 100000 ∧ cells.length ≤ 63 ∧
  ∀ (l : Addr) (rs : List Rg) (s' r' : Int) (H' : Hp), H l = none → rs.length ≤ 6 → (∀ r ∈ rs, DR r) → 0 ≤ s' → s' ≤ s + 100 → PenAt H' d c s' r' cells → SameBut d H H' → ChainAt H' l rs → Q (.ref l) H'
section
variable {P : Program} {w : World} {K : PySem.W.Frag} {mg : Str → Option Value} {base : Heap} {cB cN C fI CP CM fP fM : Addr}
abbrev nNums67 : List Str := ["_law_pen", "_law_many", "_law_integers_alone", "_law_found", "_law_k", "_law_part"]
theorem scNums67 : FnScope nNums67 ["_law_pen", "_law_many", "_law_integers_alone"] (defScope sNums67) := ⟨rfl, rfl, rfl, by decide +kernel, rfl, by decide +kernel, by decide +kernel⟩
theorem ok_nums67 {f : Addr} {fd : FuncData} (F : Fun K "_law_numbers" "_law_numbers" sNums67 f fd) (B : TxtR mg) (hN : Dfn P w K mg base CX0 3 "_law_number" ["_law_pen"] spNum) : FnOk P w K mg base CX0 4 f fd ["_law_pen", "_law_many", "_law_integers_alone"] spNums67 := by
  refine F.ok scNums67 (fun vs H Q E h => ?_) (fun cdv A outer s H vs Q E hr h => ?_)
  · obtain ⟨d, c, s, r, m, flag, cells, rfl, _⟩ := h
    rfl
  · obtain ⟨d, c, st, r, m, flag, cells, rfl, p, h0, hm, h1, hl, k⟩ := h
    have nd := scNums67.nd
    refine ⟨_, pss_cons (ps_setLc (i := 3) (own := [("_law_k", 4)]) (g := gName 4) (tt := tYes) rfl nd rfl rfl (sw_true rfl rfl rfl (by decide +kernel)) (pi_range1 (by rfl) B.range (pa_cons (pv 1) pa_nil)) (blkOk_by (N := nNums67) (sc := defScope sNums67) (by decide +kernel)) (fun _ _ _ _ _ => pg_name (i := 4) nd rfl (Or.inl rfl)) (fun _ _ _ _ _ => pts_nil) (fun _ _ _ _ _ => by exact (dc hN hr (by decide) (pa_cons (pv 0) pa_nil))))
      (pss_cons (ps_if (pt_val (pv 2)) (pss_one (ps_setLc (i := 3) (own := [("_law_part", 5)]) (g := gName 5) (tt := tYes) rfl nd rfl rfl (sw_true rfl rfl rfl (by decide +kernel)) (pi_or (pi_list (pv 3)) (pi_tup (pv 3))) (blkOk_by (N := nNums67) (sc := defScope sNums67) (by decide +kernel)) (fun _ _ _ _ _ => pg_name (i := 5) nd rfl (Or.inl rfl)) (fun _ _ _ _ _ => pts_nil)
        (fun _ _ _ _ _ => by exact (pe_tup (pa_cons (pe_op op_fdivZ (pe_ix (ix_tupK6 K) (pv 5) pe_int (fun _ _ => rfl)) (pe_ix (ix_tupK6 K) (pv 5) pe_int (fun _ _ => rfl))) (pa_cons pe_int pa_nil)))))) pss_nil)
      (pss_one (ps_ret (pv 3)))), ?_⟩
    refine seq_to (fun σ' G => ∃ (l : Addr) (ts : List V) (ps : List (Int × Int)) (s' r' : Int) (o4 o5 : Option V), σ' = [some (.ref d), some (.int (m : Int)), some (.bl flag), some (.ref l), o4, o5] ∧ H l = none ∧ ps.length = m ∧ (∀ p ∈ ps, NumD p) ∧ 0 ≤ s' ∧ s' ≤ st + 12 * m ∧ PenAt G d c s' r' cells ∧ SameBut d H G ∧ G l = some (.lst ts) ∧ Paired (PairV G) ts ps) (fun kk hK => ?_) ?_
    · dsimp only [tAsg]
      refine ⟨_, rfl, m, rfl, by omega, by omega, fun D nD => ?_⟩
      rw [Int.toNat_natCast]
      refine lc_range (fun i H2 => ∃ (ts : List V) (ps : List (Int × Int)) (s' r' : Int), ps.length = i ∧ (∀ p ∈ ps, NumD p) ∧ 0 ≤ s' ∧ s' ≤ st + 12 * i ∧ PenAt H2 d c s' r' cells ∧ SameBut d H H2 ∧ H2 D = some (.lst ts) ∧ Paired (PairV H2) ts ps)
        ⟨[], [], st, r, rfl, fun p hp => (List.not_mem_nil hp).elim, h0, by omega, p.new nD, SameBut.refl.new nD, upd_same, .nil⟩ ?_ ?_
      · rintro i H2 hi ⟨ts, ps, s', r', lp, all, s0, s1, p2, sb, hD, pr⟩
        refine ⟨rfl, ?_⟩
        refine yes_if (a := fun H4 => tCall spNum [] E0 (tCons (tVar 0) tNil) _ H4 _) ?_
        refine ⟨_, rfl, d, c, s', r', cells, rfl, p2, s0, by omega, hl, fun t q s2 r2 H3 nq b1 b2 b3 b4 b5 => ?_⟩
        have nDd : D ≠ d := ne_of hD p2.dc (by intro z; cases z)
        have hD3 := b4 _ _ hD nDd
        have lt : ts.length = i := by rw [paired_len pr, lp]
        have cD : c ≠ D := fun z => by
          have := p.ls
          rw [z, nD] at this
          cases this
        refine ⟨ts, hD3, by rw [lt]; exact Nat.lt_of_lt_of_le (Nat.lt_of_lt_of_le hi hm) (by decide), ts ++ [.ref t], ps ++ [q], s2, r2, by rw [List.length_append, lp]; rfl, fun x hx => ?_, b1, by omega, ⟨by rw [upd_ne nDd.symm]; exact b3.dc, by rw [upd_ne cD]; exact b3.ls⟩, fun b o e n => ?_, upd_same, ?_⟩
        · rcases List.mem_append.mp hx with hx | hx
          · exact all x hx
          · cases (List.mem_singleton.mp hx)
            exact nq
        · rw [upd_ne (ne_of_none e nD)]
          exact b4 _ _ (sb _ _ e n) n
        · exact (Paired.mapP pr fun v x z => (z.but p2 b4).grow hD3).snoc (PairV.grow hD3 ⟨t, rfl, b5⟩)
      · rintro H5 ⟨ts, ps, s', r', lp, all, s0, s1, p5, sb, hD, pr⟩
        exact hK _ _ ⟨D, ts, ps, s', r', _, _, rfl, nD, lp, all, s0, s1, p5, sb, hD, pr⟩
    rintro σ' G ⟨l, ts, ps, s', r', o4, o5, rfl, nl, lp, all, s0, s1, pG, sb, hl2, pr⟩
    have lts := paired_len pr
    cases flag with
    | false =>
      refine ⟨_, rfl, false, rfl, ite2 (fun z => absurd z (by decide)) (fun _ => ?_)⟩
      exact ⟨_, rfl, k l ps s' r' G nl lp all (fun z => absurd z (by decide)) s0 s1 pG sb ⟨ts, hl2, pr⟩⟩
    | true =>
      refine ⟨_, rfl, true, rfl, ite2 (fun _ => ?_) (fun z => absurd rfl z)⟩
      dsimp only [tAsg]
      refine lc_map (bs := ps.map fun p => (p.1.fdiv p.2, (1 : Int))) (Rr := fun _ G y p => PV G y p) (fun R r => ⟨_, rfl, r⟩) ⟨l, rfl, .inl (SqL.of hl2)⟩ (by rw [lts, lp]; exact Nat.le_trans hm (by decide)) (by rw [List.length_map, lts]) (fun _ _ _ _ _ h s => h.same s) (fun D G rs' ys y p hD h => PV.grow hD h) ?_ ?_
      · intro D k2 y b' G2 rs' Kc hx hb s2 hD kc
        obtain ⟨q, hq, t, rfl, pt⟩ := paired_at pr hx
        rw [List.getElem?_map, hq] at hb
        cases hb
        have nq := all q (List.mem_of_getElem? hq)
        have pos := nq.l.pos
        have cz : CDivZ q.1 q.2 := ⟨by omega, log2_small (Nat.lt_of_le_of_lt nq.b (by decide)) (by decide)⟩
        refine ⟨_, rfl, t, _, 0, .int q.1, rfl, rfl, SqT.of (s2 _ _ pt), rfl, _, rfl, t, _, 1, .int q.2, rfl, rfl, SqT.of (s2 _ _ pt), rfl, _, _, rfl, rfl, cz, by show 2 ≤ sizeLine; decide, fun z nz => ?_⟩
        exact kc _ _ (Same.new (fun _ _ e => e) nz) ⟨z, rfl, upd_same⟩
      · intro D ws G2 nD s2 hD pw
        refine ⟨_, rfl, k D _ s' r' G2 ?_ (by rw [List.length_map, lp]) (fun p hp => ?_) (fun _ p hp => ?_) s0 s1 (pG.to s2) (sb.tr (SameBut.by s2)) ⟨ws, hD, pw⟩⟩
        · cases e : H D with
          | none => rfl
          | some o =>
            by_cases z : D = d
            · rw [z, pG.dc] at nD
              cases nD
            · rw [sb _ _ e z] at nD
              cases nD
        · obtain ⟨q, hq, rfl⟩ := List.mem_map.mp hp
          have nq := all q hq
          exact ⟨low_int, Nat.le_trans (Int.natAbs_fdiv_le_natAbs _ _) nq.t, by show (1 : Int).natAbs ≤ 100; decide⟩
        · obtain ⟨q, hq, rfl⟩ := List.mem_map.mp hp
          rfl
end
end K03
end
section
set_option maxHeartbeats 16000000
set_option exponentiation.threshold 100000
namespace K03
open PySem PySem.Spec PyProof.Rows L2 LamX NdefX L3 TL PolyM
section
variable {P : Program} {w : World} {K : PySem.W.Frag} {mg : Str → Option Value} {base : Heap} {cB cN C fI CP CM fP fM : Addr}
abbrev nClimb67 : List Str := ["_law_pen", "_law_most", "_law_found", "_law_k", "_law_sort", "_law_lane", "_law_parts", "_law_at"]
theorem scClimb67 : FnScope nClimb67 ["_law_pen", "_law_most"] (defScope sClimb67) := ⟨rfl, rfl, rfl, by decide +kernel, rfl, by decide +kernel, by decide +kernel⟩
theorem few_sml : ∀ p ∈ fewF, Sml p := fun p hp => (few_ok p hp).s
theorem sml01 : Sml (0, 1) := ⟨low01, Bd.zero⟩
theorem ok_climb67 {f : Addr} {fd : FuncData} (F : Fun K "_law_climb" "_law_climb" sClimb67 f fd) (B : TxtR mg) (hD : Dfn P w K mg base CX0 1 "_law_draw" ["_law_pen", "_law_span"] spDraw) (hP : Dfn P w K mg base CX0 2 "_law_pick" ["_law_pen", "_law_some"] spPick) (hS : Dfn P w K mg base CX0 3 "_law_small" ["_law_pen"] spSmall) :
    FnOk P w K mg base CX0 4 f fd ["_law_pen", "_law_most"] spClimb67 := by
  refine F.ok scClimb67 (fun vs H Q E h => ?_) (fun cdv A outer s H vs Q E hr h => ?_)
  · obtain ⟨d, c, s, r, cells, rfl, _⟩ := h
    rfl
  · obtain ⟨d, c, st, r0, cells, rfl, p, h0, h1, hl, k⟩ := h
    have nd := scClimb67.nd
    refine ⟨_, pss_cons (ps_set (i := 2) nd rfl (Or.inl rfl) (pe_lst pa_nil))
      (pss_cons (ps_for PassesOwn.never rfl (pi_range1 rfl B.range (pa_cons (dc hD hr (by decide) (pa_cons (pv 0) (pa_cons (pe_op op_add (pv 1) pe_int) pa_nil))) pa_nil)) (pg_name (i := 3) nd rfl (Or.inl rfl))
        (pss_cons (ps_par (i := 4) (j := 5) (by rfl) nd rfl rfl (by decide) rfl rfl (pa_cons (dc hD hr (by decide) (pa_cons (pv 0) (pa_cons pe_int pa_nil))) (pa_cons (dc hD hr (by decide) (pa_cons (pv 0) (pa_cons pe_int pa_nil))) pa_nil)) (by rfl))
        (pss_one (ps_if (pt_cmpR op_lt (pv 4) pe_int (nomark _))
          (pss_cons (ps_setLc (i := 6) (own := [("_law_at", 7)]) (g := gName 7) (tt := tYes) rfl nd rfl rfl (sw_true rfl rfl rfl (by decide +kernel)) (pi_range1 (by rfl) B.range (pa_cons (pe_op op_add pe_int (dc hD hr (by decide) (pa_cons (pv 0) (pa_cons pe_int pa_nil)))) pa_nil)) (blkOk_by (N := nClimb67) (sc := defScope sClimb67) (by decide +kernel)) (fun _ _ _ _ _ => pg_name (i := 7) nd rfl (Or.inl rfl)) (fun _ _ _ _ _ => pts_nil)
            (fun _ _ _ _ _ => by exact (dc hP hr (by decide) (pa_cons (pv 0) (pa_cons (pe_lst (pa_cons (pe_tup (pa_cons pe_int (pa_cons pe_int pa_nil))) (pa_cons (dc hS hr (by decide) (pa_cons (pv 0) pa_nil)) pa_nil))) pa_nil)))))
          (pss_one (ps_expr (pe_bm PySem.F.plainAttrs_list PySem.F.slot_list_append PySem.F.type_list_append mt_append (pv 2) (pa_cons (pe_tup (pa_cons (dc hP hr (by decide) (pa_cons (pv 0) (pa_cons (pe_lst (pa_cons pe_str (pa_cons pe_str pa_nil))) pa_nil))) (pa_cons (pv 5) (pa_cons (pv 6) pa_nil)))) pa_nil)))))
          (pss_one (ps_if (pt_cmpR op_lt (pv 4) pe_int (nomark _))
            (pss_one (ps_expr (pe_bm PySem.F.plainAttrs_list PySem.F.slot_list_append PySem.F.type_list_append mt_append (pv 2) (pa_cons (pe_tup (pa_cons pe_str (pa_cons (pv 5) (pa_cons (pe_op op_add pe_int (dc hD hr (by decide) (pa_cons (pv 0) (pa_cons pe_int pa_nil)))) pa_nil)))) pa_nil))))
            (pss_one (ps_expr (pe_bm PySem.F.plainAttrs_list PySem.F.slot_list_append PySem.F.type_list_append mt_append (pv 2) (pa_cons (dc hP hr (by decide) (pa_cons (pv 0) (pa_cons (pe_lst (pa_cons (pe_tup (pa_cons pe_str pa_nil)) (pa_cons (pe_tup (pa_cons pe_str (pa_cons (pv 5) (pa_cons (dc hS hr (by decide) (pa_cons (pv 0) pa_nil)) pa_nil)))) pa_nil))) pa_nil))) pa_nil))))))))))
      (pss_one (ps_ret (pv 2)))), ?_⟩
    refine ⟨by show 0 ≤ sizeLine; decide, fun D nD => ?_⟩
    have dD : d ≠ D := fun z => by
      have := p.dc
      rw [z, nD] at this
      cases this
    have cD : c ≠ D := fun z => by
      have := p.ls
      rw [z, nD] at this
      cases this
    have p0 := p.new (o := .lst []) nD
    have sb0 : SameBut d H (upd H D (.lst [])) := SameBut.refl.new nD
    have hD0 : upd H D (.lst []) D = some (.lst []) := upd_same
    generalize upd H D (.lst []) = G0 at p0 sb0 hD0 ⊢
    dsimp only [gName]
    refine seq_to (fun σ' G => ∃ (us : List V) (rs : List Rg) (s' r' : Int) (o3 o4 o5 o6 o7 : Option V), σ' = [some (.ref d), some (.int 6), some (.ref D), o3, o4, o5, o6, o7] ∧ rs.length ≤ 6 ∧ (∀ r ∈ rs, DR r) ∧ 0 ≤ s' ∧ s' ≤ st + 100 ∧ PenAt G d c s' r' cells ∧ SameBut d H G ∧ G D = some (.lst us) ∧ Paired (BlkN D G) us rs) (fun kk hK => ?_) ?_
    · refine ⟨_, rfl, _, rfl, _, _, rfl, rfl, d, c, st, r0, 7, cells, rfl, p0, h0, by omega, hl, by decide, by decide, fun n s1 r1 H1 a1 a2 a3 a4 a5 a6 => ?_⟩
      refine ⟨n, rfl, by omega, by omega, ?_⟩
      have hD1 := a6 _ _ hD0 dD.symm
      refine for_range (lo := 0) (n := n.toNat) (fun i σ G => ∃ (us : List V) (rs : List Rg) (s' r' : Int) (o3 o4 o5 o6 o7 : Option V), σ = [some (.ref d), some (.int 6), some (.ref D), o3, o4, o5, o6, o7] ∧ rs.length = i ∧ (∀ r ∈ rs, DR r) ∧ 0 ≤ s' ∧ s' ≤ st + 1 + 12 * i ∧ PenAt G d c s' r' cells ∧ SameBut d H G ∧ G D = some (.lst us) ∧ Paired (BlkN D G) us rs) ⟨[], [], s1, r1, none, none, none, none, none, rfl, rfl, fun _ h => (List.not_mem_nil h).elim, a3, by omega, a5, sb0.tr a6, hD1, .nil⟩ ?_ ?_
      · rintro i σ G hi ⟨us, rs, s', r', o3, o4, o5, o6, o7, rfl, lr, dr, s0', s1', pG, sbG, hDG, pu⟩
        have lu : us.length = i := by rw [paired_len pu, lr]
        have small : us.length < sizeLine := Nat.lt_of_lt_of_le (show us.length < 10 by omega) (by decide)
        have fin : ∀ {G2 : Hp} {y : V} {r : Rg} {s2 r2 : Int} {q3 q4 q5 q6 q7 : Option V}, SameBut d G G2 → PenAt G2 d c s2 r2 cells → 0 ≤ s2 → s2 ≤ s' + 12 → BlkN D G2 y r → DR r →
            ∃ (us' : List V) (rs' : List Rg) (s3 r3 : Int) (o3 o4 o5 o6 o7 : Option V), ([some (.ref d), some (.int 6), some (.ref D), q3, q4, q5, q6, q7] : List (Option V)) = [some (.ref d), some (.int 6), some (.ref D), o3, o4, o5, o6, o7] ∧ rs'.length = i + 1 ∧ (∀ r ∈ rs', DR r) ∧ 0 ≤ s3 ∧ s3 ≤ st + 1 + 12 * ((i + 1 : Nat) : Int) ∧ PenAt (upd G2 D (.lst (us ++ [y]))) d c s3 r3 cells ∧ SameBut d H (upd G2 D (.lst (us ++ [y]))) ∧ (upd G2 D (.lst (us ++ [y]))) D = some (.lst us') ∧ Paired (BlkN D (upd G2 D (.lst (us ++ [y])))) us' rs' := fun {G2 y r s2 r2 q3 q4 q5 q6 q7} sb p2 b0 b1 by' dr' => by
          have hD2 := sb _ _ hDG dD.symm
          refine ⟨_, rs ++ [r], s2, r2, _, _, _, _, _, rfl, by rw [List.length_append, lr]; rfl, fun x hx => ?_, b0, by omega, ⟨by rw [upd_ne dD]; exact p2.dc, by rw [upd_ne cD]; exact p2.ls⟩, fun b o e n => by rw [upd_ne (ne_of_none e nD)]; exact sb _ _ (sbG _ _ e n) n, upd_same, ?_⟩
          · rcases List.mem_append.mp hx with hx | hx
            · exact dr x hx
            · cases (List.mem_singleton.mp hx)
              exact dr'
          · exact paired_appP (Paired.mapP pu fun _ _ z => BlkN.grow hD2 (z.but pG.dc sb)) (.cons (BlkN.grow hD2 by') .nil)
        dsimp only [gName]
        refine seq_to (fun σ' G1 => ∃ (kS : Int) (lane : Nat) (s2 r2 : Int) (o6 o7 : Option V), σ' = [some (.ref d), some (.int 6), some (.ref D), some (.int (0 + (i : Int))), some (.int kS), some (.int (lane : Int)), o6, o7] ∧ lane ≤ 1 ∧ 0 ≤ s2 ∧ s2 ≤ s' + 2 ∧ PenAt G1 d c s2 r2 cells ∧ SameBut d G G1) (fun k1 hK1 => ?_) ?_
        · refine ⟨_, rfl, d, c, s', r', 8, cells, rfl, pG, s0', by omega, hl, by decide, by decide, fun x1 s2 r2 H2 b1 b2 b3 b4 b5 b6 => ?_⟩
          refine ⟨_, rfl, d, c, s2, r2, 2, cells, rfl, b5, b3, by omega, hl, by decide, by decide, fun x2 s3 r3 H3 e1 e2 e3 e4 e5 e6 => ?_⟩
          refine ⟨_, _, rfl, hK1 _ _ ⟨x1, x2.toNat, s3, r3, o6, o7, ?_, by omega, e3, by omega, e5, b6.tr e6⟩⟩
          rw [Int.toNat_of_nonneg e1]
          rfl
        rintro σ' G1 ⟨kS, lane, s2, r2, o6', o7', rfl, ln, b0, b1, pG1, sb1⟩
        have hD2 := sb1 _ _ hDG dD.symm
        refine ⟨_, rfl, _, _, rfl, rfl, _, rfl, ?_⟩
        refine ite2 (fun _ => ?_) (fun _ => ?_)
        · -- added, taken
          refine seq_to (fun σ' G2 => ∃ (D2 : Addr) (ps : List (Int × Int)) (s3 r3 : Int) (o7 : Option V), σ' = [some (.ref d), some (.int 6), some (.ref D), some (.int (0 + (i : Int))), some (.int kS), some (.int (lane : Int)), some (.ref D2), o7] ∧ D2 ≠ D ∧ ps.length ≤ 3 ∧ (∀ p ∈ ps, Sml p) ∧ 0 ≤ s3 ∧ s3 ≤ s2 + 7 ∧ PenAt G2 d c s3 r3 cells ∧ SameBut d G1 G2 ∧ PPs G2 D2 ps) (fun k2 hK2 => ?_) ?_
          · dsimp only [tAsg]
            refine ⟨_, rfl, d, c, s2, r2, 3, cells, rfl, pG1, b0, by omega, hl, by decide, by decide, fun x s3 r3 H3 e1 e2 e3 e4 e5 e6 => ?_⟩
            refine ⟨_, _, rfl, rfl, _, rfl, by omega, by omega, fun D2 nD2 => ?_⟩
            have hD3 := e6 _ _ hD2 dD.symm
            have n2D : D2 ≠ D := fun z => by rw [z, hD3] at nD2; cases nD2
            have dD2 : d ≠ D2 := fun z => by
              have := e5.dc
              rw [z, nD2] at this
              cases this
            have cD2 : c ≠ D2 := fun z => by
              have := e5.ls
              rw [z, nD2] at this
              cases this
            refine lc_range (n := (1 + x).toNat) (fun j G2 => ∃ (ts : List V) (ps : List (Int × Int)) (s4 r4 : Int), ps.length = j ∧ (∀ p ∈ ps, Sml p) ∧ 0 ≤ s4 ∧ s4 ≤ s3 + 2 * j ∧ PenAt G2 d c s4 r4 cells ∧ SameBut d H3 G2 ∧ G2 D2 = some (.lst ts) ∧ Paired (PV G2) ts ps) ⟨[], [], s3, r3, rfl, fun _ h => (List.not_mem_nil h).elim, e3, by omega, e5.new nD2, SameBut.refl.new nD2, upd_same, .nil⟩ ?_ ?_
            · rintro j G2 hj ⟨ts, ps, s4, r4, lp, all, z0, z1, p2, sb2, hE, pr⟩
              refine ⟨rfl, ?_⟩
              refine yes_if ?_
              refine ⟨_, rfl, by show 2 ≤ sizeLine; decide, fun z nz => ?_⟩
              have q1 := p2.new (o := .tup [.int 0, .int 1]) nz
              have t1 : SameBut d G2 (upd G2 z (.tup [.int 0, .int 1])) := SameBut.refl.new nz
              have hz : upd G2 z (.tup [.int 0, .int 1]) z = some (.tup [.int 0, .int 1]) := upd_same
              generalize upd G2 z (.tup [.int 0, .int 1]) = K1 at q1 t1 hz ⊢
              refine ⟨_, rfl, d, c, s4, r4, cells, rfl, q1, z0, by omega, hl, fun t q s5 r5 H5 hq g1 g2 g3 g4 g5 => ?_⟩
              refine ⟨by show 2 ≤ sizeLine; decide, fun l2 nl2 => ?_⟩
              have q2 := g3.new (o := .lst [V.ref z, V.ref t]) nl2
              have t2 : SameBut d H5 (upd H5 l2 (.lst [V.ref z, V.ref t])) := SameBut.refl.new nl2
              have hl2 : upd H5 l2 (.lst [V.ref z, V.ref t]) l2 = some (.lst [V.ref z, V.ref t]) := upd_same
              generalize upd H5 l2 (.lst [V.ref z, V.ref t]) = K2 at q2 t2 hl2 ⊢
              refine ⟨d, c, l2, s5, r5, cells, _, rfl, q2, g1, by omega, hl, hl2, by show 0 < 2; decide, by show 2 ≤ 1000; decide, fun v s6 r6 H6 hv f1 f2 f3 f4 => ?_⟩
              have tz : ∀ {u : Addr} {xs : List V}, K1 u = some (.tup xs) → u ≠ d := fun h e => by
                rw [e, q1.dc] at h
                cases h
              have tz5 : ∀ {u : Addr} {xs : List V}, H5 u = some (.tup xs) → u ≠ d := fun h e => by
                rw [e, g3.dc] at h
                cases h
              have t26 : SameBut d G2 H6 := ((t1.tr g4).tr t2).tr f4
              have pv : ∃ q', PV H6 v q' ∧ Sml q' := by
                rcases List.mem_cons.mp hv with rfl | hv
                · exact ⟨(0, 1), ⟨z, rfl, ((g4.tr t2).tr f4) _ _ hz (tz hz)⟩, sml01⟩
                · rcases List.mem_cons.mp hv with rfl | hv
                  · exact ⟨q, ⟨t, rfl, (t2.tr f4) _ _ g5 (tz5 g5)⟩, few_sml q hq⟩
                  · cases hv
              obtain ⟨q', hv', sq'⟩ := pv
              have hE6 := t26 _ _ hE dD2.symm
              refine ⟨ts, hE6, ?_, ts ++ [v], ps ++ [q'], s6, r6, by rw [List.length_append, lp]; rfl, fun x hx => ?_, f1, by omega, ⟨by rw [upd_ne dD2]; exact f3.dc, by rw [upd_ne cD2]; exact f3.ls⟩, fun b o e n => by rw [upd_ne (ne_of_none e nD2)]; exact t26 _ _ (sb2 _ _ e n) n, upd_same, ?_⟩
              · rw [paired_len pr, lp]
                exact Nat.lt_of_lt_of_le (show j < 10 by omega) (by decide)
              · rcases List.mem_append.mp hx with hx | hx
                · exact all x hx
                · cases (List.mem_singleton.mp hx)
                  exact sq'
              · exact paired_appP (Paired.mapP pr fun _ _ z => PV.grow hE6 (z.but p2.dc t26)) (.cons (PV.grow hE6 hv') .nil)
            · rintro G2 ⟨ts, ps, s4, r4, lp, all, z0, z1, p2, sb2, hE, pr⟩
              exact hK2 _ _ ⟨D2, ps, s4, r4, _, rfl, n2D, by omega, all, z0, by omega, p2, e6.tr sb2, ts, hE, pr⟩
          rintro σ' G2 ⟨D2, ps, s3, r3, o7'', rfl, n2D, lp, sp, c0, c1, pG2, sb2, pD2⟩
          have hD3 := sb2 _ _ hD2 dD.symm
          refine ⟨_, rfl, .inl ⟨rfl, _, SqL.of hD3⟩, _, rfl, by show 2 ≤ sizeLine; decide, fun l2 nl2 => ?_⟩
          have q2 := pG2.new (o := .lst [V.str "add", V.str "take"]) nl2
          have t2 : SameBut d G2 (upd G2 l2 (.lst [V.str "add", V.str "take"])) := SameBut.refl.new nl2
          have hl2 : upd G2 l2 (.lst [V.str "add", V.str "take"]) l2 = some (.lst [V.str "add", V.str "take"]) := upd_same
          generalize upd G2 l2 (.lst [V.str "add", V.str "take"]) = K2 at q2 t2 hl2 ⊢
          refine ⟨d, c, l2, s3, r3, cells, _, rfl, q2, c0, by omega, hl, hl2, by show 0 < 2; decide, by show 2 ≤ 1000; decide, fun v s4 r4 H4 hv f1 f2 f3 f4 => ?_⟩
          have t24 := t2.tr f4
          have hD4 := t24 _ _ hD3 dD.symm
          refine ⟨_, rfl, _, rfl, by show 3 ≤ sizeLine; decide, fun t nt => ?_⟩
          have pD4 := (pD2.but pG2.dc t24).same (Same.new (o := .tup [v, .int lane, .ref D2]) (fun _ _ e => e : Same H4 H4) nt)
          have sfin : SameBut d G (upd H4 t (.tup [v, .int lane, .ref D2])) := ((sb1.tr sb2).tr t24).new nt
          refine ⟨D, us, _, rfl, rfl, ?_, small, ?_⟩
          · rw [upd_ne (ne_of_none hD4 nt)]
            exact hD4
          · rcases List.mem_cons.mp hv with rfl | hv
            · exact fin (r := .add true lane ps) sfin (f3.new nt) f1 (by omega) ⟨t, D2, rfl, n2D, upd_same, pD4⟩ ⟨ln, lp, sp⟩
            · rcases List.mem_cons.mp hv with rfl | hv
              · exact fin (r := .add false lane ps) sfin (f3.new nt) f1 (by omega) ⟨t, D2, rfl, n2D, upd_same, pD4⟩ ⟨ln, lp, sp⟩
              · cases hv
        refine ⟨_, rfl, _, _, rfl, rfl, _, rfl, ?_⟩
        refine ite2 (fun _ => ?_) (fun _ => ?_)
        · refine ⟨_, rfl, .inl ⟨rfl, _, SqL.of hD2⟩, _, rfl, _, rfl, d, c, s2, r2, 3, cells, rfl, pG1, b0, by omega, hl, by decide, by decide, fun x s3 r3 H3 e1 e2 e3 e4 e5 e6 => ?_⟩
          refine ⟨_, _, rfl, rfl, by show 3 ≤ sizeLine; decide, fun t nt => ?_⟩
          refine ⟨D, us, _, rfl, rfl, ?_, small, ?_⟩
          · rw [upd_ne (ne_of_none (e6 _ _ hD2 dD.symm) nt)]
            exact e6 _ _ hD2 dD.symm
          · refine fin (r := .late lane (1 + x).toNat) ((sb1.tr e6).new nt) (e5.new nt) e3 (by omega) ⟨t, rfl, ?_⟩ ⟨ln, by omega, by omega⟩
            rw [upd_same, Int.toNat_of_nonneg (by omega)]
        · refine ⟨_, rfl, .inl ⟨rfl, _, SqL.of hD2⟩, _, rfl, by show 1 ≤ sizeLine; decide, fun z nz => ?_⟩
          have q1 := pG1.new (o := .tup [V.str "exchange"]) nz
          have t1 : SameBut d G1 (upd G1 z (.tup [V.str "exchange"])) := SameBut.refl.new nz
          have hz : upd G1 z (.tup [V.str "exchange"]) z = some (.tup [V.str "exchange"]) := upd_same
          generalize upd G1 z (.tup [V.str "exchange"]) = K1 at q1 t1 hz ⊢
          refine ⟨_, rfl, _, rfl, d, c, s2, r2, cells, rfl, q1, b0, by omega, hl, fun t q s3 r3 H3 hq g1 g2 g3 g4 g5 => ?_⟩
          refine ⟨by show 3 ≤ sizeLine; decide, fun u nu => ?_⟩
          have q2 := g3.new (o := .tup [V.str "factor", .int lane, .ref t]) nu
          have t2 : SameBut d H3 (upd H3 u (.tup [V.str "factor", .int lane, .ref t])) := SameBut.refl.new nu
          have hu : upd H3 u (.tup [V.str "factor", .int lane, .ref t]) u = some (.tup [V.str "factor", .int lane, .ref t]) := upd_same
          generalize upd H3 u (.tup [V.str "factor", .int lane, .ref t]) = K2 at q2 t2 hu ⊢
          refine ⟨by show 2 ≤ sizeLine; decide, fun l2 nl2 => ?_⟩
          have q3 := q2.new (o := .lst [V.ref z, V.ref u]) nl2
          have t3 : SameBut d K2 (upd K2 l2 (.lst [V.ref z, V.ref u])) := SameBut.refl.new nl2
          have hl2 : upd K2 l2 (.lst [V.ref z, V.ref u]) l2 = some (.lst [V.ref z, V.ref u]) := upd_same
          generalize upd K2 l2 (.lst [V.ref z, V.ref u]) = K3 at q3 t3 hl2 ⊢
          refine ⟨d, c, l2, s3, r3, cells, _, rfl, q3, g1, by omega, hl, hl2, by show 0 < 2; decide, by show 2 ≤ 1000; decide, fun v s4 r4 H4 hv f1 f2 f3 f4 => ?_⟩
          have t24 := (t2.tr t3).tr f4
          have t14 := (t1.tr g4).tr t24
          have nd' : ∀ {G' : Hp} {u : Addr} {xs : List V} {s r : Int}, PenAt G' d c s r cells → G' u = some (.tup xs) → u ≠ d := fun p h e => by
            rw [e, p.dc] at h
            cases h
          refine ⟨D, us, _, rfl, rfl, t14 _ _ hD2 dD.symm, small, ?_⟩
          rcases List.mem_cons.mp hv with rfl | hv
          · exact fin (r := .ex) (sb1.tr t14) f3 f1 (by omega) ⟨z, rfl, (g4.tr t24) _ _ hz (nd' q1 hz)⟩ trivial
          · rcases List.mem_cons.mp hv with rfl | hv
            · exact fin (r := .fac lane q) (sb1.tr t14) f3 f1 (by omega) ⟨u, t, rfl, (t3.tr f4) _ _ hu (nd' q2 hu), t24 _ _ g5 (nd' g3 g5)⟩ ⟨ln, hq⟩
            · cases hv
      · rintro σ G ⟨us, rs, s', r', o3, o4, o5, o6, o7, rfl, lr, dr, s0', s1', pG, sbG, hDG, pu⟩
        exact hK _ _ ⟨us, rs, s', r', o3, o4, o5, o6, o7, rfl, by omega, dr, s0', by omega, pG, sbG, hDG, pu⟩
    · rintro σ' G ⟨us, rs, s', r', o3, o4, o5, o6, o7, rfl, lr, dr, s0', s1', pG, sbG, hDG, pu⟩
      exact ⟨_, rfl, k D rs s' r' G nD lr dr s0' s1' pG sbG ⟨us, hDG, Paired.mapP pu fun _ _ z => z.v⟩⟩
end
end K03
end
section
set_option maxHeartbeats 40000000
set_option exponentiation.threshold 100000
namespace K03
open PySem PySem.Spec PyProof.Rows L2 LamX NdefX L3 TL PolyM
/-! ### what draws leave -/
theorem SameBut.keep {d t : Addr} {H H' : Hp} {o : HO} {kv : List (Key × V)} (s : SameBut d H H') (hd : H d = some (.dK kv)) (h : H t = some o) (n : ∀ kv, o ≠ .dK kv) : H' t = some o := s _ _ h fun z => by
  rw [z, hd] at h
  cases h
  exact n _ rfl
theorem RV.butP {C d : Addr} {H H' : Hp} {v : V} {p : Int × Int} {kv : List (Key × V)} (h : RV C H v p) (hd : H d = some (.dK kv)) (s : SameBut d H H') : RV C H' v p := by
  obtain ⟨a, dx, e, h⟩ := h
  exact ⟨a, dx, e, s.keep hd h fun _ z => by unfold rat at z; cases z⟩
theorem BlkV.but {d : Addr} {H H' : Hp} {v : V} {r : Rg} {kv : List (Key × V)} (h : BlkV H v r) (hd : H d = some (.dK kv)) (s : SameBut d H H') : BlkV H' v r := by
  cases r with
  | ex =>
    obtain ⟨t, e, h⟩ := h
    exact ⟨t, e, s.keep hd h fun _ z => by cases z⟩
  | fac l p =>
    obtain ⟨t, a, e, h, h2⟩ := h
    exact ⟨t, a, e, s.keep hd h (fun _ z => by cases z), s.keep hd h2 fun _ z => by cases z⟩
  | late l d =>
    obtain ⟨t, e, h⟩ := h
    exact ⟨t, e, s.keep hd h fun _ z => by cases z⟩
  | add b l ps =>
    obtain ⟨t, m, e, h, h2⟩ := h
    exact ⟨t, m, e, s.keep hd h (fun _ z => by cases z), h2.but hd s⟩
theorem ChainAt.but {d : Addr} {H H' : Hp} {l : Addr} {rs : List Rg} {kv : List (Key × V)} (h : ChainAt H l rs) (hd : H d = some (.dK kv)) (s : SameBut d H H') : ChainAt H' l rs := by
  obtain ⟨ts, h1, h2⟩ := h
  exact ⟨ts, s.keep hd h1 (fun _ z => by cases z), Paired.mapP h2 fun _ _ z => z.but hd s⟩
theorem PolyAt.butP {C CP CM d : Addr} {H H' : Hp} {a : Addr} {ps : List (Int × Int)} {kv : List (Key × V)} (h : PolyAt C CP CM H a ps) (hd : H d = some (.dK kv)) (s : SameBut d H H') : PolyAt C CP CM H' a ps := by
  obtain ⟨dx, t, xs, mk, dm, tb, h1, h2, h3, h4, h5⟩ := h
  exact ⟨dx, t, xs, mk, dm, tb, s.keep hd h1 (fun _ z => by cases z), s.keep hd h2 (fun _ z => by cases z), Paired.mapP h3 fun _ _ z => z.butP hd s, s.keep hd h4 (fun _ z => by cases z), s.keep hd h5 fun _ z => by cases z⟩
theorem RungT.but {C CP CM d : Addr} {H H' : Hp} {v : V} {r : Rg} {kv : List (Key × V)} (h : RungT C CP CM H v r) (hd : H d = some (.dK kv)) (s : SameBut d H H') : RungT C CP CM H' v r := by
  cases r with
  | ex =>
    obtain ⟨t, e, h⟩ := h
    exact ⟨t, e, s.keep hd h fun _ z => by cases z⟩
  | fac l p =>
    obtain ⟨t, a, dx, e, h, h2⟩ := h
    exact ⟨t, a, dx, e, s.keep hd h (fun _ z => by cases z), s.keep hd h2 fun _ z => by unfold rat at z; cases z⟩
  | late l d =>
    obtain ⟨t, e, h⟩ := h
    exact ⟨t, e, s.keep hd h fun _ z => by cases z⟩
  | add b l ps =>
    obtain ⟨t, a, qs, e, h, h2, h3⟩ := h
    exact ⟨t, a, qs, e, s.keep hd h (fun _ z => by cases z), h2.butP hd s, h3⟩
theorem LadAt.but {C CP CM CL d : Addr} {H H' : Hp} {a : Addr} {rs : List Rg} {kv : List (Key × V)} (h : LadAt C CP CM CL H a rs) (hd : H d = some (.dK kv)) (s : SameBut d H H') : LadAt C CP CM CL H' a rs := by
  obtain ⟨dx, t, xs, h1, h2, h3⟩ := h
  exact ⟨dx, t, xs, s.keep hd h1 (fun _ z => by cases z), s.keep hd h2 (fun _ z => by cases z), Paired.mapP h3 fun _ _ z => z.but hd s⟩
theorem LanesL.but {d : Addr} {H H' : Hp} {l : Addr} {x : Ln2} {kv : List (Key × V)} (h : LanesL H l x) (hd : H d = some (.dK kv)) (s : SameBut d H H') : LanesL H' l x := by
  obtain ⟨a, b, h1, h2, h3⟩ := h
  exact ⟨a, b, s.keep hd h1 (fun _ z => by cases z), h2.but hd s, h3.but hd s⟩
theorem LanesL.same {H H' : Hp} {l : Addr} {x : Ln2} (h : LanesL H l x) (s : Same H H') : LanesL H' l x := by
  obtain ⟨a, b, h1, h2, h3⟩ := h
  exact ⟨a, b, s _ _ h1, h2.same s, h3.same s⟩
/-! ### the numbers that are drawn -/
theorem bottoms : ∀ ps : List (Int × Int), (∀ p ∈ ps, NumD p) → ∃ M : Nat, 0 < M ∧ M ≤ 100 ^ ps.length ∧ ∀ p ∈ ps, p.2 ∣ (M : Int)
  | [], _ => ⟨1, by decide, by decide, fun _ h => (List.not_mem_nil h).elim⟩
  | p :: ps, h => by
    obtain ⟨M, m0, m1, m2⟩ := bottoms ps fun q hq => h q (List.mem_cons_of_mem _ hq)
    have np := h p List.mem_cons_self
    have pos := np.l.pos
    have e : ((p.2.natAbs : Nat) : Int) = p.2 := Int.natAbs_of_nonneg (by omega)
    refine ⟨p.2.natAbs * M, Nat.mul_pos (by omega) m0, ?_, fun q hq => ?_⟩
    · rw [List.length_cons, Nat.pow_succ, Nat.mul_comm (100 ^ ps.length)]
      exact Nat.mul_le_mul np.b m1
    · rw [Int.natCast_mul, e]
      rcases List.mem_cons.mp hq with rfl | hq
      · exact Int.dvd_mul_right _ _
      · exact Int.dvd_trans (m2 q hq) (Int.dvd_mul_left _ _)
theorem num_bd {M : Nat} {p : Int × Int} (h : NumD p) (d : p.2 ∣ (M : Int)) : Bd M (10 ^ 40) p := ⟨d, Nat.le_trans h.t (Nat.le_mul_of_pos_right _ (by have := h.l.pos; omega))⟩
/-- drawn lanes can be led through all steps there and back -/
theorem run_ok {m : Nat} {x : Ln2} (hm : m ≤ 9) (l1 : x.1.length = m) (l2 : x.2.length = m) (n1 : ∀ p ∈ x.1, NumD p) (n2 : ∀ p ∈ x.2, NumD p) : ∃ M : Nat, 0 < M ∧ M ≤ 100 ^ 18 ∧ LnOk m x ∧ Bd2 M (10 ^ 40) x := by
  obtain ⟨M, m0, m1, m2⟩ := bottoms (x.1 ++ x.2) fun p hp => by
    rcases List.mem_append.mp hp with h | h
    · exact n1 p h
    · exact n2 p h
  refine ⟨M, m0, Nat.le_trans m1 (Nat.pow_le_pow_right (by decide) (by rw [List.length_append]; omega)), ⟨l1, l2, fun p hp => (n1 p hp).l, fun p hp => (n2 p hp).l⟩, ⟨⟨fun p hp => (n1 p hp).l, fun p hp => num_bd (n1 p hp) (m2 p (List.mem_append_left _ hp))⟩, ⟨fun p hp => (n2 p hp).l, fun p hp => num_bd (n2 p hp) (m2 p (List.mem_append_right _ hp))⟩⟩⟩
theorem room_ok {M R k j : Nat} (hM : M ≤ 100 ^ 18 * 6 ^ j) (hR : R ≤ 10 ^ 40 * 11 ^ j) (hj : j ≤ 6) (hk : k ≤ 6) : (R * 11 ^ k * 20 + 20) * (M * 6 ^ k * 6) < 2 ^ 2000 := by
  have a1 : R * 11 ^ k ≤ 10 ^ 40 * 11 ^ 6 * 11 ^ 6 := Nat.mul_le_mul (Nat.le_trans hR (Nat.mul_le_mul_left _ (Nat.pow_le_pow_right (by decide) hj))) (Nat.pow_le_pow_right (by decide) hk)
  have a2 : M * 6 ^ k ≤ 100 ^ 18 * 6 ^ 6 * 6 ^ 6 := Nat.mul_le_mul (Nat.le_trans hM (Nat.mul_le_mul_left _ (Nat.pow_le_pow_right (by decide) hj))) (Nat.pow_le_pow_right (by decide) hk)
  refine Nat.lt_of_le_of_lt (Nat.mul_le_mul (Nat.add_le_add_right (Nat.mul_le_mul_right _ a1) _) (Nat.mul_le_mul_right _ a2)) (by decide)
end K03
end
section
set_option maxHeartbeats 40000000
set_option exponentiation.threshold 100000
namespace K03
open PySem PySem.Spec PyProof.Rows L2 LamX NdefX L3 TL PolyM
abbrev sLaw67 : Stmt := top 79
abbrev nLaw67 : List Str := ["_law_script", "_law_pen", "_law_signs_alone", "_law_integers_alone", "_law_many", "_law_chain", "_law_signs", "_law_block", "_law_ladder", "_law_lanes", "_law_lane", "_law_due", "_law_late", "_law_shown_here", "_law_part", "_law_told_here", "_law_back_here", "_law_again"]
def spLaw67 (K : PySem.W.Frag) : Sp := fun vs H Q _ => ∃ (a : Addr) (ns : List Int), vs = [.ref a] ∧ SqL K H a (ns.map V.int) ∧ ns.length ≤ 63 ∧ ∀ H', Q (.bl true) H'
section
variable {P : Program} {w : World} {K : PySem.W.Frag} {mg : Str → Option Value} {base : Heap} {cB cN C fI CP CM fP fM CL fL : Addr}
theorem LanesL.pss {H : Hp} {l : Addr} {x : Ln2} (h : LanesL H l x) : ∃ ts, H l = some (.lst ts) ∧ Paired (PairsV H) ts [x.1, x.2] := by
  obtain ⟨a, b, h1, ⟨ta, h2, h3⟩, ⟨tb, h4, h5⟩⟩ := h
  exact ⟨_, h1, .cons ⟨a, ta, rfl, h2, h3⟩ (.cons ⟨b, tb, rfl, h4, h5⟩ .nil)⟩
theorem late_snoc {rs : List Rg} {i : Nat} {r : Rg} (h : rs[i]? = some r) : lateAll (rs.take (i + 1)) = lateAll (rs.take i) + lateR r := by
  unfold lateAll
  rw [take_snoc h, List.map_append, List.sum_append]
  simp
theorem late_le : ∀ {rs : List Rg}, (∀ r ∈ rs, VR r) → lateAll rs ≤ 3 * rs.length
  | [], _ => Nat.zero_le _
  | r :: rs, h => by
    have z := late_le (rs := rs) fun q hq => h q (List.mem_cons_of_mem _ hq)
    have vr := h r List.mem_cons_self
    have e : lateAll (r :: rs) = lateR r + lateAll rs := rfl
    have l3 : lateR r ≤ 3 := by
      cases r with
      | late l d => exact vr.2.2
      | ex => exact Nat.zero_le _
      | fac l p => exact Nat.zero_le _
      | add b l ps => exact Nat.zero_le _
    rw [e, List.length_cons]
    omega
theorem lag_mem {D : Nat} {xs : List (Int × Int)} {p : Int × Int} (h : p ∈ lag D xs) : p = (0, 1) ∨ p ∈ xs := by
  rcases List.mem_append.mp (List.mem_of_mem_take h) with z | z
  · exact .inl (List.mem_replicate.mp z).2
  · exact .inr z
theorem scLaw67 : FnScope nLaw67 ["_law_script"] (defScope sLaw67) := ⟨rfl, rfl, rfl, by decide +kernel, rfl, by decide +kernel, by decide +kernel⟩
theorem ok_law67 {f fR fU : Addr} {fd fdR fdU : FuncData} (F : Fun K "law" "law" sLaw67 f fd) (B : TxtR mg) (bs : mg "sum" = none) (ba : mg "any" = none) (bt : mg "tuple" = none) (R : Rat P w K mg base cB cN C fI) (L : Lad P w K mg base C CP CM CL fL)
    (MR : Meth K CL "run_rounded" fR) (GR : FnOk P w K mg base CX0 14 fR fdR ["self", "first", "second"] (spRunR K C CP CM CL)) (bR : Binds K fdR ["self", "first", "second"] [])
    (MU : Meth K CL "undone" fU) (GU : FnOk P w K mg base CX0 8 fU fdU ["self"] (spUndone C CP CM CL)) (bU : Binds K fdU ["self"] [])
    (hB : Dfn P w K mg base CX0 1 "_law_begin" ["_law_script"] (spPen2 K)) (hD : Dfn P w K mg base CX0 1 "_law_draw" ["_law_pen", "_law_span"] spDraw) (hP : Dfn P w K mg base CX0 2 "_law_pick" ["_law_pen", "_law_some"] spPick)
    (hC : Dfn P w K mg base CX0 4 "_law_climb" ["_law_pen", "_law_most"] spClimb67) (hG : Dfn P w K mg base CX0 10 "_law_rungs" ["_law_chain"] (spRungs C CP CM)) (hN : Dfn P w K mg base CX0 4 "_law_numbers" ["_law_pen", "_law_many", "_law_integers_alone"] spNums67)
    (hE : Dfn P w K mg base CX0 5 "_law_climbed" ["_law_chain", "_law_lanes", "_law_is_rounded"] spClimbed) (hT : Dfn P w K mg base CX0 6 "_law_told" ["_law_pair"] (spTold67 C)) (hRd : Dfn P w K mg base CX0 2 "_law_read" ["_law_told_here"] (spRead67 C))
    (hF : Dfn P w K mg base CX0 1 "_law_flat" ["_law_rows"] (spFlat67 C)) (hS : Dfn P w K mg base CX0 7 "_law_shown" ["_law_turns"] (spShown67 C)) (hK : Dfn P w K mg base CX0 3 "_law_back" ["_law_chain"] spBack67) :
    FnOk P w K mg base CX0 20 f fd ["_law_script"] (spLaw67 K) := by
  refine F.ok scLaw67 (fun vs H Q E h => ?_) (fun cdv A outer s H vs Q E hr h => ?_)
  · obtain ⟨a, ns, rfl, _⟩ := h
    rfl
  · obtain ⟨a, ns, rfl, hSq, hl, q⟩ := h
    have nd := scLaw67.nd
    have hu := hr.units
    have hr14 : Room 14 _ := hr.mono (by decide)
    have hr8 : Room 8 _ := hr.mono (by decide)
    refine ⟨_, pss_cons (ps_set (i := 1) nd rfl (Or.inr rfl) (dc hB hr (by decide) (pa_cons (pv 0) pa_nil)))
      (pss_cons (ps_asg (pe_tup (pa_cons (pe_cmpR op_gt (dc hD hr (by decide) (pa_cons (pv 1) (pa_cons pe_int pa_nil))) pe_int (nomark _)) (pa_cons (pe_cmpR op_gt (dc hD hr (by decide) (pa_cons (pv 1) (pa_cons pe_int pa_nil))) pe_int (nomark _)) (pa_cons (pe_op op_add pe_int (dc hD hr (by decide) (pa_cons (pv 1) (pa_cons pe_int pa_nil)))) pa_nil)))) (pg_tup (by rfl) (pgs_cons (pg_name (i := 2) nd rfl (Or.inl rfl)) (pgs_cons (pg_name (i := 3) nd rfl (Or.inr rfl)) (pgs_cons (pg_name (i := 4) nd rfl (Or.inr rfl)) pgs_nil)))))
      (pss_cons (ps_set (i := 5) nd rfl (Or.inl rfl) (dc hC hr (by decide) (pa_cons (pv 1) (pa_cons pe_int pa_nil))))
      (pss_cons (ps_if (pt_val (pv 2))
        (pss_cons (ps_set (i := 6) nd rfl (Or.inr rfl) (pe_lst (pa_cons (pe_tup (pa_cons pe_int (pa_cons pe_int pa_nil))) (pa_cons (pe_tup (pa_cons (pe_un un_neg pe_int) (pa_cons pe_int pa_nil))) pa_nil))))
        (pss_one (ps_setLc (i := 5) (own := [("_law_block", 7)]) (g := gName 7) (tt := tYes) rfl nd rfl rfl (sw_true rfl rfl rfl (by decide +kernel)) (pi_list (pv 5)) (blkOk_by (N := nLaw67) (sc := defScope sLaw67) (by decide +kernel)) (fun _ _ _ _ _ => pg_name (i := 7) nd rfl (Or.inl rfl)) (fun _ _ _ _ _ => pts_nil)
          (fun _ _ _ _ _ => by exact (pe_ifExp (pt_cmpR op_eq (pe_ix (ix_tupK6 K) (pv 7) pe_int (fun _ _ => rfl)) pe_str (nomark _)) (pe_tup (pa_cons pe_str (pa_cons (pe_ix (ix_tupK6 K) (pv 7) pe_int (fun _ _ => rfl)) (pa_cons (dc hP hr (by decide) (pa_cons (pv 1) (pa_cons (pv 6) pa_nil))) pa_nil)))) (pv 7)))))) pss_nil)
      (pss_cons (ps_par (i := 8) (j := 9) (by rfl) nd rfl rfl (by decide) rfl rfl (pa_cons (pe_lad L (hr.mono (by decide)) (dc hG hr (by decide) (pa_cons (pv 5) pa_nil))) (pa_cons
          (pe_lc (own := [("_law_lane", 10)]) (g := gName 10) (tt := tYes) rfl nd (pi_range1 (by rfl) B.range (pa_cons pe_int pa_nil)) (blkOk_by (N := nLaw67) (sc := defScope sLaw67) (by decide +kernel)) (fun _ _ _ _ _ => pg_name (i := 10) nd rfl (Or.inl rfl)) (fun _ _ _ _ _ => pts_nil) (fun _ _ _ _ _ => by exact (dc hN hr (by decide) (pa_cons (pv 1) (pa_cons (pv 4) (pa_cons (pv 3) pa_nil)))))) pa_nil)) (by rfl))
      (pss_cons (ps_asg (pe_tup (pa_cons (dc hE hr (by decide) (pa_cons (pv 5) (pa_cons (pv 9) (pa_cons pe_bl pa_nil)))) (pa_cons
          (pe_callB (cr_sum rfl) (by rfl) bs (by decide +kernel) (pa_cons (pe_lc (own := [("_law_block", 7)]) (g := gName 7) rfl nd (pi_list (pv 5)) (blkOk_by (N := nLaw67) (sc := defScope sLaw67) (by decide +kernel)) (fun _ _ _ _ _ => pg_name (i := 7) nd rfl (Or.inl rfl)) (fun _ _ _ _ _ => by exact (pts_one (pt_cmpR op_eq (pe_ix (ix_tupK6 K) (pv 7) pe_int (fun _ _ => rfl)) pe_str (nomark _)))) (fun _ _ _ _ _ => by exact (pe_ix (ix_tupK6 K) (pv 7) pe_int (fun _ _ => rfl)))) pa_nil)) pa_nil))) (pg_tup (by rfl) (pgs_cons (pg_name (i := 11) nd rfl (Or.inl rfl)) (pgs_cons (pg_name (i := 12) nd rfl (Or.inr rfl)) pgs_nil))))
      (pss_cons (ps_setLc (i := 13) (own := [("_law_lane", 10)]) (g := gName 10) (tt := tYes) rfl nd rfl rfl (sw_true rfl rfl rfl (by decide +kernel)) (pi_list (pv 9)) (blkOk_by (N := nLaw67) (sc := defScope sLaw67) (by decide +kernel)) (fun _ _ _ _ _ => pg_name (i := 10) nd rfl (Or.inl rfl)) (fun _ _ _ _ _ => pts_nil)
          (fun _ _ _ _ _ => by exact (pe_lc (own := [("_law_part", 14)]) (g := gName 14) (tt := tYes) rfl nd (pi_listK K (pv 10)) (blkOk_by (N := nLaw67) (by rfl)) (fun _ _ _ _ _ => pg_name (i := 14) nd rfl (Or.inl rfl)) (fun _ _ _ _ _ => pts_nil)
            (fun _ _ _ _ _ => by exact (pe_ifExp (PW.pt (pw_and (pt_cmpR op_eq (pe_ix (ix_tupK6 K) (pv 14) pe_int (fun _ _ => rfl)) pe_int (nomark _)) (pw_and1 (pt_cmpR op_eq (dc hD hr (by decide) (pa_cons (pv 1) (pa_cons pe_int pa_nil))) pe_int (nomark _))))) (pe_ix (ix_tupK6 K) (pv 14) pe_int (fun _ _ => rfl)) (dc hT hr (by decide) (pa_cons (pv 14) pa_nil)))))))
      (pss_cons (ps_set (i := 15) nd rfl (Or.inl rfl) (pe_meth (E := E0) (pv 8) L.cls.c MR GR hr14 bR .nil pass0 (pa_cons (pe_ix ix_list (pv 13) pe_int (fun _ _ => rfl)) (pa_cons (pe_callTy call_tuple_of (by rfl) bt (by decide +kernel) (pa_cons (pe_ix ix_list (pv 13) pe_int (fun _ _ => rfl)) pa_nil)) pa_nil))))
      (pss_cons (ps_if (PW.pt (pw_or (pt_not (pt_val (pe_callB call_isi (by rfl) B.isi (by decide +kernel) (pa_cons (pv 15) (pa_cons (pe_bltn (v := .ty "tuple") (u := .type "tuple") (by rfl) bt (by decide +kernel) rfl) pa_nil)))))
          (pw_or (pt_cmpR op_ne (pe_callB call_len_seq (by rfl) B.len PySem.boot_len (pa_cons (pv 15) pa_nil)) pe_int (nomark _)) (pw_or1 (pt_cmpR (op_neD hu) (dc hRd hr (by decide) (pa_cons (pe_callTy call_list_of (by rfl) B.list (by decide +kernel) (pa_cons (pv 15) pa_nil)) pa_nil)) (pv 11) (nomark _)))))) (pss_one (ps_ret pe_bl)) pss_nil)
      (pss_cons (ps_if (PW.pt (pw_and (pt_val (pv 2)) (pw_and (pt_val (pv 3)) (pw_and1 (pt_val (pe_callB (cr_any rfl) (by rfl) ba (by decide +kernel) (pa_cons (pe_lc (own := [("_law_part", 14)]) (g := gName 14) (tt := tYes) rfl nd (pi_or (pi_list (dc hF hr (by decide) (pa_cons (pv 15) pa_nil))) (pi_tup (dc hF hr (by decide) (pa_cons (pv 15) pa_nil)))) (blkOk_by (N := nLaw67) (sc := defScope sLaw67) (by decide +kernel)) (fun _ _ _ _ _ => pg_name (i := 14) nd rfl (Or.inl rfl)) (fun _ _ _ _ _ => pts_nil)
          (fun _ _ _ _ _ => by exact (pe_cmpR op_ne (pe_fldK K (pv 14) rfl) pe_int (nomark _)))) pa_nil))))))) (pss_one (ps_ret pe_bl)) pss_nil)
      (pss_cons (ps_set (i := 16) nd rfl (Or.inl rfl) (pe_meth (E := E0) (pe_meth0 (E := E0) (pv 8) L.cls.c MU GU hr8 bU .nil pass0) L.cls.c MR GR hr14 bR .nil pass0 (pa_cons (pe_callTy call_list_of (by rfl) B.list (by decide +kernel) (pa_cons (pe_ix ix_tup (pv 15) pe_int (fun _ _ => rfl)) pa_nil)) (pa_cons (pe_callTy call_list_of (by rfl) B.list (by decide +kernel) (pa_cons (pe_ix ix_tup (pv 15) pe_int (fun _ _ => rfl)) pa_nil)) pa_nil))))
      (pss_cons (ps_if (PW.pt (pw_or (pt_not (pt_val (pe_callB call_isi (by rfl) B.isi (by decide +kernel) (pa_cons (pv 16) (pa_cons (pe_bltn (v := .ty "tuple") (u := .type "tuple") (by rfl) bt (by decide +kernel) rfl) pa_nil)))))
          (pw_or1 (pt_cmpR op_ne (pe_callB call_len_seq (by rfl) B.len PySem.boot_len (pa_cons (pv 16) pa_nil)) pe_int (nomark _))))) (pss_one (ps_ret pe_bl)) pss_nil)
      (pss_cons (ps_if (pt_cmpR (op_neD hu) (dc hRd hr (by decide) (pa_cons (pe_callTy call_list_of (by rfl) B.list (by decide +kernel) (pa_cons (pv 16) pa_nil)) pa_nil)) (pe_lc (own := [("_law_lane", 10)]) (g := gName 10) (tt := tYes) rfl nd (pi_or (pi_list (pv 9)) (pi_tup (pv 9))) (blkOk_by (N := nLaw67) (sc := defScope sLaw67) (by decide +kernel)) (fun _ _ _ _ _ => pg_name (i := 10) nd rfl (Or.inl rfl)) (fun _ _ _ _ _ => pts_nil)
          (fun _ _ _ _ _ => by exact (pe_slice (show SlR _ (rSlL K) from sl_list) (pe_op op_cat (pe_op op_rep (pe_lst (pa_cons (pe_tup (pa_cons pe_int (pa_cons pe_int pa_nil))) pa_nil)) (pv 12)) (pv 10)) po_none (po_some (pv 4))))) (nomark _)) (pss_one (ps_ret pe_bl)) pss_nil)
      (pss_cons (ps_set (i := 17) nd rfl (Or.inl rfl) (dc hS hr (by decide) (pa_cons (dc hE hr (by decide) (pa_cons (dc hK hr (by decide) (pa_cons (pv 5) pa_nil)) (pa_cons (pv 11) (pa_cons pe_bl pa_nil)))) pa_nil)))
      (pss_one (ps_ret (pe_cmpR (op_eqD hu) (dc hRd hr (by decide) (pa_cons (pe_callTy call_list_of (by rfl) B.list (by decide +kernel) (pa_cons (pv 16) pa_nil)) pa_nil)) (dc hRd hr (by decide) (pa_cons (pv 17) pa_nil)) (nomark _))))))))))))))))), ?_⟩
    refine ⟨_, rfl, a, ns, rfl, hSq, hl, fun d c H1 nd1 nc1 s1 pen1 => ?_⟩
    dsimp only [gName]
    -- the first draws
    refine seq_to (fun σ' G => ∃ (sa ia : Bool) (m : Nat) (s' r' : Int), σ' = [some (.ref a), some (.ref d), some (.bl sa), some (.bl ia), some (.int (m : Int)), none, none, none, none, none, none, none, none, none, none, none, none, none] ∧ 1 ≤ m ∧ m ≤ 9 ∧ 0 ≤ s' ∧ s' ≤ 3 ∧ PenAt G d c s' r' ns) (fun k1 hK1 => ?_) ?_
    · refine ⟨_, rfl, d, c, 0, 0, 3, ns, rfl, pen1, by decide, by decide, hl, by decide, by decide, fun x1 s2 r2 H2 a1 a2 a3 a4 a5 a6 => ?_⟩
      refine ⟨_, _, rfl, rfl, _, rfl, d, c, s2, r2, 4, ns, rfl, a5, a3, by omega, hl, by decide, by decide, fun x2 s3 r3 H3 b1 b2 b3 b4 b5 b6 => ?_⟩
      refine ⟨_, _, rfl, rfl, _, rfl, d, c, s3, r3, 9, ns, rfl, b5, b3, by omega, hl, by decide, by decide, fun x3 s4 r4 H4 c1 c2 c3 c4 c5 c6 => ?_⟩
      refine ⟨_, _, rfl, rfl, by show 3 ≤ sizeLine; decide, fun t nt => ?_⟩
      refine ⟨t, _, rfl, SqT.of upd_same, rfl, _, _, rfl, _, _, rfl, _, _, rfl, rfl, ?_⟩
      refine hK1 _ _ ⟨decide ((0 : Int) < x1), decide ((0 : Int) < x2), (1 + x3).toNat, s4, r4, ?_, by omega, by omega, c3, by omega, c5.new nt⟩
      rw [Int.toNat_of_nonneg (by omega)]
      rfl
    rintro σ' G1 ⟨sa, ia, m, s2, r2, rfl, m1, m9, z0, z1, pG1⟩
    -- the steps
    refine ⟨_, rfl, d, c, s2, r2, ns, rfl, pG1, z0, by omega, hl, fun ch rs s3 r3 G2 nch lrs drs y0 y1 pG2 sb2 hch => ?_⟩
    dsimp only [gName]
    refine seq_to (fun σ' G => ∃ (ch : Addr) (rs : List Rg) (o6 o7 : Option V) (s' r' : Int), σ' = [some (.ref a), some (.ref d), some (.bl sa), some (.bl ia), some (.int (m : Int)), some (.ref ch), o6, o7, none, none, none, none, none, none, none, none, none, none] ∧ ChainAt G ch rs ∧ rs.length ≤ 6 ∧ (∀ r ∈ rs, VR r) ∧ (sa = true → ∀ r ∈ rs, OneR r) ∧ 0 ≤ s' ∧ s' ≤ 200 ∧ PenAt G d c s' r' ns) (fun k2 hK2 => ?_) ?_
    · cases sa with
      | false =>
        refine ⟨_, rfl, false, rfl, ite2 (fun z => absurd z (by decide)) (fun _ => ?_)⟩
        exact hK2 _ _ ⟨ch, rs, _, _, s3, r3, rfl, hch, lrs, fun r h => (drs r h).vr, fun z => absurd z (by decide), y0, by omega, pG2⟩
      | true =>
        refine ⟨_, rfl, true, rfl, ite2 (fun _ => ?_) (fun z => absurd rfl z)⟩
        refine ⟨by show 2 ≤ sizeLine; decide, fun t1 nt1 => ?_⟩
        have u1 := Same.new (o := .tup [.int 1, .int 1]) (fun _ _ e => e : Same G2 G2) nt1
        have e1 : upd G2 t1 (.tup [.int 1, .int 1]) t1 = some (.tup [.int 1, .int 1]) := upd_same
        generalize upd G2 t1 (.tup [.int 1, .int 1]) = K1 at u1 e1 ⊢
        refine ⟨1, rfl, by show 2 ≤ sizeLine; decide, fun t2 nt2 => ?_⟩
        have u2 := Same.new (o := .tup [.int (-1), .int 1]) (fun _ _ e => e : Same K1 K1) nt2
        have e2 : upd K1 t2 (.tup [.int (-1), .int 1]) t2 = some (.tup [.int (-1), .int 1]) := upd_same
        revert u2 e2
        show Same K1 (upd K1 t2 (.tup [.int (-1), .int 1])) → upd K1 t2 (.tup [.int (-1), .int 1]) t2 = some (.tup [.int (-1), .int 1]) → _
        intro u2 e2
        generalize upd K1 t2 (.tup [.int (-1), .int 1]) = K2 at u2 e2 ⊢
        refine ⟨by show 2 ≤ sizeLine; decide, fun sg nsg => ?_⟩
        have u3 := Same.new (o := .lst [V.ref t1, V.ref t2]) (fun _ _ e => e : Same K2 K2) nsg
        have e3 : upd K2 sg (.lst [V.ref t1, V.ref t2]) sg = some (.lst [V.ref t1, V.ref t2]) := upd_same
        generalize upd K2 sg (.lst [V.ref t1, V.ref t2]) = K3 at u3 e3 ⊢
        have u03 := u1.trans (u2.trans u3)
        have p3 := pG2.to u03
        have e13 := (u2.trans u3) _ _ e1
        have e23 := u3 _ _ e2
        obtain ⟨tc, hc1, hc2⟩ := hch.same u03
        have ltc := paired_len hc2
        dsimp only [gName, tAsg]
        refine ⟨_, rfl, ch, rfl, ⟨tc, SqL.of hc1⟩, fun D nD => ?_⟩
        have dD : d ≠ D := fun z => by
          have := p3.dc
          rw [z, nD] at this
          cases this
        have cD : c ≠ D := fun z => by
          have := p3.ls
          rw [z, nD] at this
          cases this
        have chD : ch ≠ D := fun z => by rw [z, nD] at hc1; cases hc1
        have sgD : sg ≠ D := fun z => by rw [z, nD] at e3; cases e3
        refine lc_list (K := K) (a := ch) (xs := tc) (fun i G => ∃ (us : List V) (qs : List Rg) (s' r' : Int), qs.length = i ∧ (∀ r ∈ qs, VR r ∧ OneR r) ∧ 0 ≤ s' ∧ s' ≤ s3 + i ∧ PenAt G d c s' r' ns ∧ SameBut d K3 G ∧ G D = some (.lst us) ∧ Paired (BlkN D G) us qs)
          ⟨[], [], s3, r3, rfl, fun _ h => (List.not_mem_nil h).elim, y0, by omega, p3.new nD, SameBut.refl.new nD, upd_same, .nil⟩ (fun i G _ p => by
            obtain ⟨_, _, _, _, _, _, _, _, _, sb, _⟩ := p
            exact SqL.of (sb.keep p3.dc hc1 fun _ z => by cases z)) ?_ ?_
        · rintro i y G hy ⟨us, qs, s', r', lq, all, q0, q1, pG, sbG, hDG, pu⟩
          obtain ⟨r, hr', bv0⟩ := paired_at hc2 hy
          have li : i < tc.length := (List.getElem?_eq_some_iff.mp hy).1
          have dr := drs r (List.mem_of_getElem? hr')
          have bv := (bv0.n nD).but p3.dc sbG
          have lu : us.length = i := by rw [paired_len pu, lq]
          have fin : ∀ {G6 : Hp} {v : V} {r' : Rg} {s6 r6 : Int}, SameBut d G G6 → PenAt G6 d c s6 r6 ns → 0 ≤ s6 → s6 ≤ s' + 1 → BlkN D G6 v r' → VR r' → OneR r' →
              ∃ acc, G6 D = some (.lst acc) ∧ acc.length < sizeLine ∧ ∃ (us' : List V) (qs' : List Rg) (s7 r7 : Int), qs'.length = i + 1 ∧ (∀ r ∈ qs', VR r ∧ OneR r) ∧ 0 ≤ s7 ∧ s7 ≤ s3 + ((i + 1 : Nat) : Int) ∧ PenAt (upd G6 D (.lst (acc ++ [v]))) d c s7 r7 ns ∧ SameBut d K3 (upd G6 D (.lst (acc ++ [v]))) ∧ (upd G6 D (.lst (acc ++ [v]))) D = some (.lst us') ∧ Paired (BlkN D (upd G6 D (.lst (acc ++ [v])))) us' qs' := fun {G6 v r' s6 r6} sb6 p6 a0 a1 bv' vr' or' => by
            have hD6 := sb6 _ _ hDG dD.symm
            refine ⟨us, hD6, by rw [lu]; exact Nat.lt_of_lt_of_le (show i < 10 by omega) (by decide), us ++ [v], qs ++ [r'], s6, r6, by rw [List.length_append, lq]; rfl, fun x hx => ?_, a0, by omega, ⟨by rw [upd_ne dD]; exact p6.dc, by rw [upd_ne cD]; exact p6.ls⟩, fun b o e n => by rw [upd_ne (ne_of_none e nD)]; exact sb6 _ _ (sbG _ _ e n) n, upd_same, ?_⟩
            · rcases List.mem_append.mp hx with hx | hx
              · exact all x hx
              · cases (List.mem_singleton.mp hx)
                exact ⟨vr', or'⟩
            · exact paired_appP (Paired.mapP pu fun _ _ z => BlkN.grow hD6 (z.but pG.dc sb6)) (.cons (BlkN.grow hD6 bv') .nil)
          refine ⟨wipe_back, ?_⟩
          refine yes_if ?_
          have cas0 : (∃ (t : Addr) (z : Str) (xs : List V), y = .ref t ∧ G t = some (.tup (.str z :: xs)) ∧ z ≠ "factor" ∧ VR r ∧ OneR r) ∨ ∃ (t m' : Addr) (l' : Nat) (p : Int × Int), y = .ref t ∧ r = .fac l' p ∧ G t = some (.tup [.str "factor", .int l', .ref m']) ∧ l' ≤ 1 := by
            cases r with
            | ex =>
              obtain ⟨t, e, ht⟩ := id bv
              exact .inl ⟨t, _, _, e, ht, by decide +kernel, trivial, trivial⟩
            | late l' n =>
              obtain ⟨t, e, ht⟩ := id bv
              exact .inl ⟨t, _, _, e, ht, by decide +kernel, dr, trivial⟩
            | add b l' ps =>
              obtain ⟨t, m', e, _, ht, _⟩ := id bv
              exact .inl ⟨t, _, _, e, ht, by cases b <;> decide +kernel, dr, trivial⟩
            | fac l' p =>
              obtain ⟨t, m', e, ht, hm'⟩ := id bv
              exact .inr ⟨t, m', l', p, e, rfl, ht, dr.1⟩
          rcases cas0 with ⟨t, z, xs, rfl, ht, nz, vr, or⟩ | ⟨t, m', l', p, rfl, rfl, ht, ll⟩
          · have a0 : atI (V.str z :: xs) 0 = some (V.str z) := by simp [atI, ixN]
            refine ⟨_, rfl, t, _, 0, .str z, rfl, rfl, SqT.of ht, a0, rfl, _, rfl, ?_⟩
            refine ite2 (fun y => absurd y fun q => nz (by injection of_decide_eq_true q)) (fun _ => ?_)
            exact ⟨_, rfl, fin SameBut.refl pG q0 (by omega) bv vr or⟩
          · refine ⟨_, rfl, t, _, 0, .str "factor", rfl, rfl, SqT.of ht, rfl, rfl, _, rfl, ?_⟩
            refine ite2 (fun _ => ?_) (fun z => absurd (by decide +kernel) z)
            refine ⟨_, rfl, t, _, 1, .int l', rfl, rfl, SqT.of ht, rfl, _, rfl, _, rfl, d, c, sg, s', r', ns, _, rfl, pG, q0, by omega, hl, sbG.keep p3.dc e3 (fun _ z => by cases z), by show 0 < 2; decide, by show 2 ≤ 1000; decide, fun v s6 r6 G6 hv a0 a1 p6 sb6 => ?_⟩
            refine ⟨by show 3 ≤ sizeLine; decide, fun u nu => ?_⟩
            have sb7 : SameBut d G (upd G6 u (.tup [V.str "factor", .int l', v])) := sb6.new nu
            have e16 := (sbG.tr sb7).keep p3.dc e13 (fun _ z => by cases z)
            have e26 := (sbG.tr sb7).keep p3.dc e23 (fun _ z => by cases z)
            have cas : ∃ q tq, v = .ref tq ∧ Pair (upd G6 u (.tup [V.str "factor", .int l', v])) tq q ∧ q ∈ fewF ∧ (q = (1, 1) ∨ q = (-1, 1)) := by
              rcases List.mem_cons.mp hv with rfl | hv
              · exact ⟨(1, 1), t1, rfl, e16, by decide, .inl rfl⟩
              · rcases List.mem_cons.mp hv with rfl | hv
                · exact ⟨(-1, 1), t2, rfl, e26, by decide, .inr rfl⟩
                · cases hv
            obtain ⟨q, tq, rfl, pq, mq, oq⟩ := cas
            exact fin (r' := .fac l' q) sb7 (p6.new nu) a0 a1 ⟨u, tq, rfl, upd_same, pq⟩ ⟨ll, few_ok q mq⟩ oq
        · rintro G ⟨us, qs, s', r', lq, all, q0, q1, pG, sbG, hDG, pu⟩
          exact hK2 _ _ ⟨D, qs, _, _, s', r', rfl, ⟨us, hDG, Paired.mapP pu fun _ _ z => z.v⟩, by omega, fun r h => (all r h).1, fun _ r h => (all r h).2, q0, by omega, pG⟩
    rintro σ' G3 ⟨ch, rs, o6, o7, s3, r3, rfl, hch, lrs, vrs, ors, y0, y1, pG3⟩
    clear pG1 pG2
    -- the ladder and the lanes
    refine seq_to (fun σ' G => ∃ (la ln : Addr) (x : Ln2) (o10 : Option V) (s' r' : Int), σ' = [some (.ref a), some (.ref d), some (.bl sa), some (.bl ia), some (.int (m : Int)), some (.ref ch), o6, o7, some (.ref la), some (.ref ln), o10, none, none, none, none, none, none, none] ∧ LadAt C CP CM CL G la rs ∧ ChainAt G ch rs ∧ LanesL G ln x ∧ x.1.length = m ∧ x.2.length = m ∧ (∀ p ∈ x.1, NumD p) ∧ (∀ p ∈ x.2, NumD p) ∧ (ia = true → Whole x.1 ∧ Whole x.2) ∧ 0 ≤ s' ∧ s' ≤ 500 ∧ PenAt G d c s' r' ns) (fun k3 hK3 => ?_) ?_
    · refine ⟨_, rfl, ch, rs, rfl, hch, vrs, by omega, fun l1 ts1 H4 n1 s4 hl1 pt1 => ?_⟩
      refine ⟨l1, ts1, rs, rfl, hl1, pt1, vrs, by omega, fun la H5 nla s5 hla => ?_⟩
      refine ⟨2, rfl, by decide, by decide, fun D nD => ?_⟩
      have p5 := pG3.to (s4.trans s5)
      have dD : d ≠ D := fun z => by
        have := p5.dc
        rw [z, nD] at this
        cases this
      have cD : c ≠ D := fun z => by
        have := p5.ls
        rw [z, nD] at this
        cases this
      show _
      refine lc_range (n := 2) (fun i G => ∃ (us : List V) (xs : List (List (Int × Int))) (s' r' : Int), xs.length = i ∧ (∀ x ∈ xs, x.length = m ∧ (∀ p ∈ x, NumD p) ∧ (ia = true → Whole x)) ∧ 0 ≤ s' ∧ s' ≤ s3 + 120 * i ∧ PenAt G d c s' r' ns ∧ SameBut d H5 G ∧ G D = some (.lst us) ∧ Paired (fun v x => ∃ l, v = V.ref l ∧ l ≠ D ∧ PPs G l x) us xs)
        ⟨[], [], s3, r3, rfl, fun _ h => (List.not_mem_nil h).elim, y0, by omega, p5.new nD, SameBut.refl.new nD, upd_same, .nil⟩ ?_ ?_
      · rintro i G hi ⟨us, xs, s', r', lx, all, q0, q1, pG, sbG, hDG, pu⟩
        refine ⟨rfl, ?_⟩
        refine yes_if ?_
        refine ⟨_, rfl, _, rfl, _, rfl, d, c, s', r', m, ia, ns, rfl, pG, q0, by omega, by omega, hl, fun l ps s6 r6 G6 nl lps nps wps e0 e1 p6 sb6 hps => ?_⟩
        have hD6 := sb6 _ _ hDG dD.symm
        have lD : l ≠ D := fun z => by rw [z, hDG] at nl; cases nl
        have lu : us.length = i := by rw [paired_len pu, lx]
        refine ⟨us, hD6, by rw [lu]; exact Nat.lt_of_lt_of_le (show i < 10 by omega) (by decide), us ++ [.ref l], xs ++ [ps], s6, r6, by rw [List.length_append, lx]; rfl, fun y hy => ?_, e0, by omega, ⟨by rw [upd_ne dD]; exact p6.dc, by rw [upd_ne cD]; exact p6.ls⟩, fun b o e n => by rw [upd_ne (ne_of_none e nD)]; exact sb6 _ _ (sbG _ _ e n) n, upd_same, ?_⟩
        · rcases List.mem_append.mp hy with hy | hy
          · exact all y hy
          · cases (List.mem_singleton.mp hy)
            exact ⟨lps, nps, fun z => wps z⟩
        · refine paired_appP (Paired.mapP pu fun _ _ z => ?_) (.cons ⟨l, rfl, lD, hps.growN hD6 lD⟩ .nil)
          obtain ⟨l', e, n', h⟩ := z
          exact ⟨l', e, n', (h.but pG.dc sb6).growN hD6 n'⟩
      · rintro G ⟨us, xs, s', r', lx, all, q0, q1, pG, sbG, hDG, pu⟩
        obtain ⟨x1, x2, rfl⟩ : ∃ x1 x2, xs = [x1, x2] := by
          match xs, lx with
          | [x1, x2], _ => exact ⟨x1, x2, rfl⟩
        obtain ⟨u, v, rfl, ⟨l1', e1, _, h1⟩, ⟨l2', e2, _, h2⟩⟩ := two_of pu
        cases e1
        cases e2
        obtain ⟨g1, g2, g3⟩ := all x1 List.mem_cons_self
        obtain ⟨f1, f2, f3⟩ := all x2 (List.mem_cons_of_mem _ List.mem_cons_self)
        refine ⟨_, _, rfl, hK3 _ _ ⟨la, D, (x1, x2), _, s', r', rfl, hla.but p5.dc sbG, (hch.same (s4.trans s5)).but p5.dc sbG, ⟨l1', l2', hDG, h1, h2⟩, g1, f1, g2, f2, fun z => ⟨g3 z, f3 z⟩, q0, by omega, pG⟩⟩
    rintro σ' G4 ⟨la, ln, x, o10, s4, r4, rfl, hla, hch4, hln, l1, l2, n1, n2, wx, w0, w1, pG4⟩
    clear pG3
    obtain ⟨M, M0, M1, lnok, bd⟩ := run_ok m9 l1 l2 n1 n2
    have ro : RnOk m M (10 ^ 40) rs.length x := ⟨lnok, bd, M0, by decide, by omega, room_ok (j := 0) (by rw [Nat.pow_zero, Nat.mul_one]; exact M1) (by rw [Nat.pow_zero, Nat.mul_one]; exact Nat.le_refl _) (by decide) lrs⟩
    have ln2 := lnok.rn vrs
    -- what is due, the lateness
    refine seq_to (fun σ' G => ∃ (du : Addr) (o7 : Option V), σ' = [some (.ref a), some (.ref d), some (.bl sa), some (.bl ia), some (.int (m : Int)), some (.ref ch), o6, o7, some (.ref la), some (.ref ln), o10, some (.ref du), some (.int (lateAll rs : Nat)), none, none, none, none, none] ∧ Same G4 G ∧ LanesL G du (rnL rs x)) (fun k4 hK4 => ?_) ?_
    · refine ⟨_, rfl, _, rfl, ch, ln, rs, x, m, M, 10 ^ 40, rfl, hch4, hln, vrs, by omega, ro, fun du H5 ndu s5 hdu => ?_⟩
      obtain ⟨tc, hc1, hc2⟩ := hch4.same s5
      have ltc := paired_len hc2
      dsimp only [tCB, tCons]
      refine ⟨_, rfl, ch, rfl, ⟨tc, SqL.of hc1⟩, fun D nD => ?_⟩
      refine lc_list (K := K) (a := ch) (xs := tc) (fun i G => ∃ (us : List V) (ds : List Int), Same H5 G ∧ G D = some (.lst us) ∧ us = ds.map V.int ∧ ds.sum = ((lateAll (rs.take i) : Nat) : Int) ∧ us.length ≤ i) ⟨[], [], Same.new (fun _ _ e => e) nD, upd_same, rfl, rfl, Nat.le_refl _⟩ (fun i G _ p => by
        obtain ⟨_, _, sG, _⟩ := p
        exact SqL.of (sG _ _ hc1)) ?_ ?_
      · rintro i y G hy ⟨us, ds, sG, hDG, eu, es, lu⟩
        obtain ⟨r, hr', bv0⟩ := paired_at hc2 hy
        have li : i < tc.length := (List.getElem?_eq_some_iff.mp hy).1
        have bv := bv0.same sG
        have snoc := late_snoc hr'
        refine ⟨wipe_back, ?_⟩
        have cas0 : (∃ (t : Addr) (z : Str) (xs : List V), y = .ref t ∧ G t = some (.tup (.str z :: xs)) ∧ z ≠ "late" ∧ lateR r = 0) ∨ ∃ (t : Addr) (l' n : Nat), y = .ref t ∧ lateR r = n ∧ G t = some (.tup [.str "late", .int l', .int n]) := by
          cases r with
          | ex =>
            obtain ⟨t, e, ht⟩ := id bv
            exact .inl ⟨t, _, _, e, ht, by decide +kernel, rfl⟩
          | late l' n =>
            obtain ⟨t, e, ht⟩ := id bv
            exact .inr ⟨t, l', n, e, rfl, ht⟩
          | add b l' ps =>
            obtain ⟨t, m', e, ht, _⟩ := id bv
            exact .inl ⟨t, _, _, e, ht, by cases b <;> decide +kernel, rfl⟩
          | fac l' p =>
            obtain ⟨t, m', e, ht, _⟩ := id bv
            exact .inl ⟨t, _, _, e, ht, by decide +kernel, rfl⟩
        rcases cas0 with ⟨t, z, xs, rfl, ht, nz, e0⟩ | ⟨t, l', n, rfl, e0, ht⟩
        · have a0 : atI (V.str z :: xs) 0 = some (V.str z) := by simp [atI, ixN]
          refine ⟨_, rfl, t, _, 0, .str z, rfl, rfl, SqT.of ht, a0, rfl, _, rfl, ?_⟩
          rw [decide_eq_false fun q => nz (by injection q)]
          refine iteF ⟨us, ds, sG, hDG, eu, ?_, by omega⟩
          rw [snoc, e0, es, Nat.add_zero]
        · refine ⟨_, rfl, t, _, 0, .str "late", rfl, rfl, SqT.of ht, rfl, rfl, _, rfl, ?_⟩
          rw [decide_eq_true rfl]
          refine Eq.mpr (if_pos (c := true = true) rfl) ?_
          refine ⟨_, rfl, t, _, 2, .int n, rfl, rfl, SqT.of ht, rfl, us, hDG, Nat.lt_of_lt_of_le (show us.length < 10 by omega) (by decide), us ++ [.int n], ds ++ [(n : Int)], fun b o e => by rw [upd_ne (ne_of_none e nD)]; exact sG _ _ e, upd_same, by rw [eu, List.map_append]; rfl, ?_, by rw [List.length_append, List.length_singleton]; omega⟩
          rw [snoc, e0, List.sum_append, es]
          simp
      · rintro G ⟨us, ds, sG, hDG, eu, es, lu⟩
        rw [ltc, List.take_length] at es
        refine ⟨D, ds, rfl, SqL.of (by rw [hDG, eu]), ?_⟩
        rw [es]
        refine ⟨by show 2 ≤ sizeLine; decide, fun t nt => ?_⟩
        have s6 := Same.new (o := .tup [V.ref du, .int ((lateAll rs : Nat) : Int)]) (fun _ _ e => e : Same G G) nt
        exact ⟨t, _, rfl, SqT.of upd_same, rfl, _, _, rfl, _, _, rfl, rfl, hK4 _ _ ⟨du, _, rfl, s5.trans (sG.trans s6), hdu.same (sG.trans s6)⟩⟩
    rintro σ' G5 ⟨du, o7', rfl, s5, hdu⟩
    have pG5 := pG4.to s5
    have hln5 := hln.same s5
    have hla5 := hla.same s5
    have hch5 := hch4.same s5
    -- what is handed in
    refine seq_to (fun σ' G => ∃ (sh a1 b1 : Addr) (ws1 ws2 : List V) (o10 o14 : Option V), σ' = [some (.ref a), some (.ref d), some (.bl sa), some (.bl ia), some (.int (m : Int)), some (.ref ch), o6, o7', some (.ref la), some (.ref ln), o10, some (.ref du), some (.int (lateAll rs : Nat)), some (.ref sh), o14, none, none, none] ∧ SameBut d G5 G ∧ G sh = some (.lst [.ref a1, .ref b1]) ∧ G a1 = some (.lst ws1) ∧ Paired (Sh C G) ws1 x.1 ∧ G b1 = some (.lst ws2) ∧ Paired (Sh C G) ws2 x.2) (fun k5 hK5 => ?_) ?_
    · obtain ⟨aa, bb, hl1, ⟨tya, h1, h1p⟩, ⟨tyb, h2, h2p⟩⟩ := hln5
      have pd := pG5.dc
      dsimp only [tAsg]
      refine ⟨_, rfl, ln, rfl, ⟨[V.ref aa, V.ref bb], SqL.of hl1⟩, fun D nD => ?_⟩
      have dD : d ≠ D := fun z => by
        rw [z, nD] at pd
        cases pd
      have cD : c ≠ D := fun z => by
        have := pG5.ls
        rw [z, nD] at this
        cases this
      refine lc_list (K := K) (a := ln) (xs := [V.ref aa, V.ref bb]) (fun i G => ∃ (us : List V) (s' r' : Int), 0 ≤ s' ∧ s' ≤ s4 + 10 * i ∧ PenAt G d c s' r' ns ∧ SameBut d G5 G ∧ G D = some (.lst us) ∧ Paired (fun v ps => ∃ l ws, v = V.ref l ∧ l ≠ D ∧ G l = some (.lst ws) ∧ Paired (Sh C G) ws ps) us ([x.1, x.2].take i))
        ⟨[], s4, r4, w0, by omega, pG5.new nD, SameBut.refl.new nD, upd_same, .nil⟩ (fun i G _ p => by
          obtain ⟨_, _, _, _, _, _, sb, _⟩ := p
          exact SqL.of (sb.keep pd hl1 fun _ z => by cases z)) ?_ ?_
      · rintro i y G hy ⟨us, s', r', q0, q1, pG, sbG, hDG, pu⟩
        have two : ∃ u tu ps, y = .ref u ∧ G5 u = some (.lst tu) ∧ Paired (PV G5) tu ps ∧ ps.length = m ∧ (∀ p ∈ ps, NumD p) ∧ [x.1, x.2][i]? = some ps ∧ i < 2 := by
          match i, hy with
          | 0, e => cases e; exact ⟨aa, tya, x.1, rfl, h1, h1p, l1, n1, rfl, by decide⟩
          | 1, e => cases e; exact ⟨bb, tyb, x.2, rfl, h2, h2p, l2, n2, rfl, by decide⟩
        obtain ⟨u, tu, ps, rfl, hu, ptu, lps, nps, eps, i2⟩ := two
        have ltu := paired_len ptu
        have huG := sbG.keep pd hu fun _ z => by cases z
        have lu : us.length = i := by rw [paired_len pu, List.length_take]; show min i 2 = i; omega
        refine ⟨wipe_back, ?_⟩
        refine yes_if ?_
        refine ⟨_, rfl, u, rfl, ⟨tu, SqL.of huG⟩, fun D2 nD2 => ?_⟩
        have n2D : D2 ≠ D := fun z => by rw [z, hDG] at nD2; cases nD2
        have dD2 : d ≠ D2 := fun z => by
          have := pG.dc
          rw [z, nD2] at this
          cases this
        have cD2 : c ≠ D2 := fun z => by
          have := pG.ls
          rw [z, nD2] at this
          cases this
        refine lc_list (K := K) (a := u) (xs := tu) (fun j G2 => ∃ (ws : List V) (s2 r2 : Int), 0 ≤ s2 ∧ s2 ≤ s' + j ∧ PenAt G2 d c s2 r2 ns ∧ SameBut d G G2 ∧ G2 D2 = some (.lst ws) ∧ Paired (Sh C G2) ws (ps.take j))
          ⟨[], s', r', q0, by omega, pG.new nD2, SameBut.refl.new nD2, upd_same, .nil⟩ (fun j G2 _ p => by
            obtain ⟨_, _, _, _, _, _, sb, _⟩ := p
            exact SqL.of (sb.keep pG.dc huG fun _ z => by cases z)) ?_ ?_
        · rintro j y2 G2 hy2 ⟨ws, s2, r2, e0, e1, p2, sb2, hE, pw⟩
          obtain ⟨p, hp, t, rfl, pt⟩ := paired_at ptu hy2
          have np := nps p (List.mem_of_getElem? hp)
          have lj : j < tu.length := (List.getElem?_eq_some_iff.mp hy2).1
          have lw : ws.length = j := by rw [paired_len pw, List.length_take]; omega
          have pt2 : Pair G2 t p := (sbG.tr sb2).keep pd pt fun _ z => by cases z
          have fin : ∀ {G3 : Hp} {v : V} {s3 r3 : Int}, SameBut d G2 G3 → PenAt G3 d c s3 r3 ns → 0 ≤ s3 → s3 ≤ s2 + 1 → Sh C G3 v p →
              ∃ acc, G3 D2 = some (.lst acc) ∧ acc.length < sizeLine ∧ ∃ (ws' : List V) (s5 r5 : Int), 0 ≤ s5 ∧ s5 ≤ s' + ((j + 1 : Nat) : Int) ∧ PenAt (upd G3 D2 (.lst (acc ++ [v]))) d c s5 r5 ns ∧ SameBut d G (upd G3 D2 (.lst (acc ++ [v]))) ∧ (upd G3 D2 (.lst (acc ++ [v]))) D2 = some (.lst ws') ∧ Paired (Sh C (upd G3 D2 (.lst (acc ++ [v])))) ws' (ps.take (j + 1)) := fun {G3 v s3 r3} sb3 p3 a0 a1 sv => by
            have hE3 := sb3.keep p2.dc hE fun _ z => by cases z
            refine ⟨ws, hE3, by rw [lw]; exact Nat.lt_of_lt_of_le (show j < 20 by omega) (by decide), ws ++ [v], s3, r3, a0, by omega, ⟨by rw [upd_ne dD2]; exact p3.dc, by rw [upd_ne cD2]; exact p3.ls⟩, fun b o e n => by rw [upd_ne (ne_of_none e nD2)]; exact sb3 _ _ (sb2 _ _ e n) n, upd_same, ?_⟩
            rw [take_snoc hp]
            exact paired_appP (Paired.mapP pw fun _ _ z => Sh.grow hE3 (z.but p2 sb3)) (.cons (Sh.grow hE3 sv) .nil)
          refine ⟨wipe_back, ?_⟩
          refine yes_if ?_
          refine ⟨_, rfl, t, _, 1, .int p.2, rfl, rfl, SqT.of pt2, rfl, rfl, _, rfl, ?_⟩
          have tld : ∀ {G3 : Hp} {s3 r3 : Int}, SameBut d G2 G3 → PenAt G3 d c s3 r3 ns → 0 ≤ s3 → s3 ≤ s2 + 1 → Pair G3 t p → _ := fun {G3 s3 r3} sb3 p3 a0 a1 pt3 => fun (z : Addr) (dz : Addr) (G4 : Hp) (nz : G3 z = none) (s4' : Same G3 G4) (hz : G4 z = some (rat C dz p)) => fin (v := .ref z) (sb3.tr (SameBut.by s4')) (p3.to s4') a0 a1 (.inr ⟨z, dz, rfl, hz⟩)
          have szp : Sz p.2 := Nat.lt_of_le_of_lt np.b (by decide +kernel)
          refine ite2 (fun one => ?_) (fun _ => iteF ?_)
          · have one : p.2 = 1 := by
              have z := of_decide_eq_true one
              injection z
            refine ⟨_, rfl, d, c, s2, r2, 2, ns, rfl, p2, e0, by omega, hl, by decide, by decide, fun k1' s3 r3 G3 a1 a2 a3 a4 a5 a6 => ?_⟩
            have pt3 : Pair G3 t p := a6.keep p2.dc pt2 fun _ z => by cases z
            refine ⟨rfl, _, rfl, ?_⟩
            refine ite2 (fun _ => ?_) (fun _ => ?_)
            · exact ⟨_, rfl, t, _, 0, .int p.1, rfl, rfl, SqT.of pt3, rfl, fin a6 a5 a3 (by omega) (.inl ⟨rfl, one⟩)⟩
            · exact ⟨_, rfl, t, p, rfl, pt3, np.l, szp, tld a6 a5 a3 (by omega) pt3⟩
          · exact ⟨_, rfl, t, p, rfl, pt2, np.l, szp, tld SameBut.refl p2 e0 (by omega) pt2⟩
        · rintro G2 ⟨ws, s2, r2, e0, e1, p2, sb2, hE, pw⟩
          have hD2 := sb2.keep pG.dc hDG fun _ z => by cases z
          refine ⟨us, hD2, by rw [lu]; exact Nat.lt_of_lt_of_le (show i < 10 by omega) (by decide), us ++ [.ref D2], s2, r2, e0, by omega, ⟨by rw [upd_ne dD]; exact p2.dc, by rw [upd_ne cD]; exact p2.ls⟩, fun b o e n => by rw [upd_ne (ne_of_none e nD)]; exact sb2 _ _ (sbG _ _ e n) n, upd_same, ?_⟩
          rw [take_snoc eps]
          have lt2 : tu.length = ps.length := ltu
          rw [lt2, List.take_length] at pw
          refine paired_appP (Paired.mapP pu fun _ _ z => ?_) (.cons ⟨D2, ws, rfl, n2D, by rw [upd_ne n2D]; exact hE, Paired.mapP pw fun _ _ z => Sh.grow hD2 z⟩ .nil)
          obtain ⟨l', ws', e, n', h, hh⟩ := z
          exact ⟨l', ws', e, n', by rw [upd_ne n']; exact sb2.keep pG.dc h (fun _ z => by cases z), Paired.mapP hh fun _ _ z => Sh.grow hD2 (z.but pG sb2)⟩
      · rintro G ⟨us, s', r', q0, q1, pG, sbG, hDG, pu⟩
        obtain ⟨u, v, rfl, ⟨lu1, ws1, e1, _, f1, g1⟩, ⟨lv1, ws2, e2, _, f2, g2⟩⟩ := two_of pu
        cases e1
        cases e2
        exact hK5 _ _ ⟨D, lu1, lv1, ws1, ws2, _, _, rfl, sbG, hDG, f1, g1, f2, g2⟩
    rintro σ' G6 ⟨sh, a1, b1, ws1, ws2, o10', o14, rfl, sb6, hsh, ha1, pa1, hb1, pb1⟩
    have pd := pG5.dc
    have hla6 := hla5.but pd sb6
    have hch6 := hch5.but pd sb6
    have hln6 := hln5.but pd sb6
    have hdu6 := hdu.but pd sb6
    clear hla hla5 hch4 hch5 hln hln5 hdu pG4 pG5 s5 sb6
    obtain ⟨dxl, tl, xl, la1, la2, la3⟩ := id hla6
    have few9 : ∀ {k : Nat}, k = m → k ≤ 100 := fun e => by omega
    -- the ladder runs
    refine ⟨_, rfl, la, dxl, _, rfl, la1, rfl, _, rfl, sh, _, 0, .ref a1, rfl, rfl, SqL.of hsh, rfl, _, rfl, sh, _, 1, .ref b1, rfl, rfl, SqL.of hsh, rfl, b1, ws2, rfl, .inl ⟨SqL.of hb1, fun tb ntb => ?_⟩⟩
    have s6 := Same.new (o := .tup ws2) (fun _ _ e => e : Same G6 G6) ntb
    have htb : upd G6 tb (.tup ws2) tb = some (.tup ws2) := upd_same
    generalize upd G6 tb (.tup ws2) = G7 at s6 htb ⊢
    have lw1 := paired_len pa1
    have lw2 := paired_len pb1
    refine ⟨la, .ref a1, .ref tb, rs, x, m, M, 10 ^ 40, rfl, hla6.same s6, vrs, by omega, ⟨ws1, ⟨a1, rfl, .inl (SqL.of (s6 _ _ ha1))⟩, by rw [lw1, l1]; exact Nat.le_trans m9 (by decide), Paired.mapP pa1 fun _ _ z => z.same s6⟩, ⟨ws2, ⟨tb, rfl, .inr (SqT.of htb)⟩, by rw [lw2, l2]; exact Nat.le_trans m9 (by decide), Paired.mapP pb1 fun _ _ z => z.same s6⟩, ro, fun t G8 s7 ht => ?_⟩
    have s68 := s6.trans s7
    have hla8 := hla6.same s68
    have hch8 := hch6.same s68
    have hln8 := hln6.same s68
    have hdu8 := hdu6.same s68
    clear hla6 hch6 hln6 hdu6 la1 la2 la3
    dsimp only [gName]
    -- told as due
    refine seq_to (fun σ' G => σ' = [some (.ref a), some (.ref d), some (.bl sa), some (.bl ia), some (.int (m : Int)), some (.ref ch), o6, o7', some (.ref la), some (.ref ln), o10', some (.ref du), some (.int (lateAll rs : Nat)), some (.ref sh), o14, some (.ref t), none, none] ∧ Same G8 G) (fun k6 hK6 => ?_) ?_
    · obtain ⟨ta, tb', xa, xb, ht1, ht2, ht3, ht4, ht5⟩ := id ht
      refine ⟨_, rfl, _, .ty "tuple", .type "tuple", .type "tuple", true, rfl, .ty _, .base (.tup ht1), kit_ty (by decide +kernel), true, rfl, iteF ?_⟩
      refine ⟨_, rfl, t, _, rfl, .inr (SqT.of ht1), rfl, _, rfl, ?_⟩
      refine ite2 (fun z => absurd z (by simp)) (fun _ => ?_)
      refine ⟨_, rfl, t, _, rfl, .inr (SqT.of ht1), fun l nl => ?_⟩
      have s9 := Same.new (o := .lst [V.ref ta, V.ref tb']) (fun _ _ e => e : Same G8 G8) nl
      have hl9 : upd G8 l (.lst [V.ref ta, V.ref tb']) l = some (.lst [V.ref ta, V.ref tb']) := upd_same
      generalize upd G8 l (.lst [V.ref ta, V.ref tb']) = G9 at s9 hl9 ⊢
      refine ⟨l, rnL rs x, rfl, ⟨ta, tb', xa, xb, hl9, s9 _ _ ht2, Paired.mapP ht3 fun _ _ z => z.same s9, s9 _ _ ht4, Paired.mapP ht5 fun _ _ z => z.same s9⟩, few9 ln2.a, few9 ln2.b, fun l2' G10 nl2 s10 hll => ?_⟩
      obtain ⟨ts1, e1, p1⟩ := hll.pss
      obtain ⟨ts2, e2, p2⟩ := (hdu8.same (s9.trans s10)).pss
      refine ⟨_, rfl, dPss _, dPss _, .lst (SqL.of e1) (dp_Pss p1), .lst (SqL.of e2) (dp_Pss p2), sh_Pss _, sh_Pss _, _, rfl, ?_⟩
      rw [eq_Pss]
      refine ite2 (fun y => absurd y (by simp)) (fun _ => ?_)
      exact hK6 _ _ ⟨rfl, s9.trans s10⟩
    rintro σ' G9 ⟨rfl, s9⟩
    have ht9 : TwoAt C G9 t (rnL rs x) := by
      obtain ⟨ta, tb', xa, xb, ht1, ht2, ht3, ht4, ht5⟩ := ht
      exact ⟨ta, tb', xa, xb, s9 _ _ ht1, s9 _ _ ht2, Paired.mapP ht3 fun _ _ z => z.same s9, s9 _ _ ht4, Paired.mapP ht5 fun _ _ z => z.same s9⟩
    -- integers stay integers
    refine seq_to (fun σ' G => ∃ o14, σ' = [some (.ref a), some (.ref d), some (.bl sa), some (.bl ia), some (.int (m : Int)), some (.ref ch), o6, o7', some (.ref la), some (.ref ln), o10', some (.ref du), some (.int (lateAll rs : Nat)), some (.ref sh), o14, some (.ref t), none, none] ∧ Same G9 G) (fun k7 hK7 => ?_) ?_
    · cases sa with
      | false => exact ⟨_, rfl, false, rfl, ite2 (fun z => absurd z (by decide)) (fun _ => ite2 (fun z => absurd z (by decide)) (fun _ => hK7 _ _ ⟨_, rfl, fun _ _ e => e⟩))⟩
      | true =>
        refine ⟨_, rfl, true, rfl, ite2 (fun _ => ?_) (fun z => absurd rfl z)⟩
        cases ia with
        | false => exact ⟨_, rfl, false, rfl, ite2 (fun z => absurd z (by decide)) (fun _ => ite2 (fun z => absurd z (by decide)) (fun _ => hK7 _ _ ⟨_, rfl, fun _ _ e => e⟩))⟩
        | true =>
          refine ⟨_, rfl, true, rfl, ite2 (fun _ => ?_) (fun z => absurd rfl z)⟩
          obtain ⟨w1', w2'⟩ := wx rfl
          obtain ⟨o1, o2⟩ := whole_rn w1' w2' (ors rfl)
          have all1 : ∀ p ∈ (rnL rs x).1 ++ (rnL rs x).2, p.2 = 1 := fun p hp => by
            rcases List.mem_append.mp hp with h | h
            · exact o1 p h
            · exact o2 p h
          dsimp only [tB, tCB, tCons]
          refine .inl ⟨_, rfl, t, rnL rs x, rfl, ht9, few9 ln2.a, few9 ln2.b, fun l ws G10 nl s10 hl10 pw => ?_⟩
          refine ⟨l, rfl, ⟨ws, SqL.of hl10⟩, fun D nD => ?_⟩
          have lw := paired_len pw
          have ltot : ((rnL rs x).1 ++ (rnL rs x).2).length ≤ 18 := by rw [List.length_append, ln2.a, ln2.b]; omega
          refine lc_list (K := K) (a := l) (xs := ws) (fun i G => ∃ us, Same G10 G ∧ G D = some (.lst us) ∧ us = (List.replicate i false).map V.bl) ⟨[], Same.new (fun _ _ e => e) nD, upd_same, rfl⟩ (fun i G _ p => by
            obtain ⟨_, sG, _⟩ := p
            exact SqL.of (sG _ _ hl10)) ?_ ?_
          · rintro i y G hy ⟨us, sG, hDG, eu⟩
            obtain ⟨p, hp, b, dx, rfl, hb⟩ := paired_at pw hy
            have li : i < ws.length := (List.getElem?_eq_some_iff.mp hy).1
            have e1 := all1 p (List.mem_of_getElem? hp)
            refine ⟨wipe_back, ?_⟩
            refine yes_if ?_
            refine ⟨_, rfl, b, C, dx, _, _, rfl, sG _ _ hb, R.cls.c, R.cls.nB, lkBt, rfl, us, hDG, ?_, us ++ [.bl false], fun b' o e => by rw [upd_ne (ne_of_none e nD)]; exact sG _ _ e, ?_, ?_⟩
            · rw [eu, List.length_map, List.length_replicate]
              exact Nat.lt_of_lt_of_le (show i < 20 by omega) (by decide)
            · rw [upd_same, e1]
              simp
            · rw [eu, List.replicate_succ', List.map_append]
              rfl
          · rintro G ⟨us, sG, hDG, eu⟩
            refine ⟨D, List.replicate ws.length false, rfl, SqL.of (by rw [hDG, eu]), false, ?_, ?_⟩
            · congr 1
              simp
            · exact ite2 (fun z => absurd z (by decide)) (fun _ => hK7 _ _ ⟨_, rfl, s10.trans sG⟩)
    rintro σ' G10 ⟨o14', rfl, s10⟩
    have s810 := s9.trans s10
    have hla10 := hla8.same s810
    have hch10 := hch8.same s810
    have hln10 := hln8.same s810
    have hdu10 := hdu8.same s810
    have ht10 : TwoAt C G10 t (rnL rs x) := by
      obtain ⟨ta, tb', xa, xb, ht1, ht2, ht3, ht4, ht5⟩ := ht9
      exact ⟨ta, tb', xa, xb, s10 _ _ ht1, s10 _ _ ht2, Paired.mapP ht3 fun _ _ z => z.same s10, s10 _ _ ht4, Paired.mapP ht5 fun _ _ z => z.same s10⟩
    clear ht ht9 hla8 hch8 hln8 hdu8
    obtain ⟨dxl, tl, xl, la1, la2, la3⟩ := id hla10
    obtain ⟨ta, tb', xa, xb, ht1, ht2, ht3, ht4, ht5⟩ := id ht10
    -- undone, and run behind
    refine ⟨_, rfl, la, dxl, _, rfl, la1, rfl, la, rs, rfl, hla10, vrs, by omega, fun lb G11 s11 hlb => ?_⟩
    obtain ⟨dxb, tlb, xlb, lb1, lb2, lb3⟩ := id hlb
    have t11 := s11 _ _ ht1
    refine ⟨lb, dxb, _, rfl, lb1, rfl, _, rfl, t, _, 0, .ref ta, rfl, rfl, SqT.of t11, rfl, ta, xa, rfl, .inl (SqL.of (s11 _ _ ht2)), fun ca nca => ?_⟩
    have s12 := Same.new (o := .lst xa) (fun _ _ e => e : Same G11 G11) nca
    have hca : upd G11 ca (.lst xa) ca = some (.lst xa) := upd_same
    generalize upd G11 ca (.lst xa) = G12 at s12 hca ⊢
    refine ⟨_, rfl, t, _, 1, .ref tb', rfl, rfl, SqT.of (s12 _ _ t11), rfl, tb', xb, rfl, .inl (SqL.of ((s11.trans s12) _ _ ht4)), fun cb ncb => ?_⟩
    have s13 := Same.new (o := .lst xb) (fun _ _ e => e : Same G12 G12) ncb
    have hcb : upd G12 cb (.lst xb) cb = some (.lst xb) := upd_same
    generalize upd G12 cb (.lst xb) = G13 at s13 hcb ⊢
    have s1113 := s11.trans (s12.trans s13)
    have bl := Bd2.rn bd (show 1 ≤ 10 ^ 40 by decide) vrs
    have len_b : (rs.reverse.map ivR).length = rs.length := by rw [List.length_map, List.length_reverse]
    have vrb : ∀ r ∈ rs.reverse.map ivR, VR r := fun r hr => by
      obtain ⟨q', hq, rfl⟩ := List.mem_map.mp hr
      exact ivR_ok (vrs q' (List.mem_reverse.mp hq))
    have rob : RnOk m (M * 6 ^ rs.length) (10 ^ 40 * 11 ^ rs.length) (rs.reverse.map ivR).length (rnL rs x) := by
      rw [len_b]
      exact ⟨ln2, bl, Nat.mul_pos M0 (Nat.pow_pos (by decide)), Nat.mul_pos (by decide) (Nat.pow_pos (by decide)), by omega, room_ok (j := rs.length) (Nat.mul_le_mul_right _ M1) (Nat.le_refl _) lrs lrs⟩
    have lxa := paired_len ht3
    have lxb := paired_len ht5
    refine ⟨lb, .ref ca, .ref cb, rs.reverse.map ivR, rnL rs x, m, _, _, rfl, hlb.same (s12.trans s13), vrb, by omega, ⟨xa, ⟨ca, rfl, .inl (SqL.of (s13 _ _ hca))⟩, by rw [lxa, ln2.a]; exact Nat.le_trans m9 (by decide), Paired.mapP ht3 fun _ _ z => .inr (z.same s1113)⟩, ⟨xb, ⟨cb, rfl, .inl (SqL.of hcb)⟩, by rw [lxb, ln2.b]; exact Nat.le_trans m9 (by decide), Paired.mapP ht5 fun _ _ z => .inr (z.same s1113)⟩, rob, fun bk G14 s14 hbk => ?_⟩
    rw [back_all lnok vrs] at hbk
    have s1014 := s1113.trans s14
    have hch14 := hch10.same s1014
    have hln14 := hln10.same s1014
    have hdu14 := hdu10.same s1014
    clear hch10 hln10 hdu10 hla10 la1 la2 la3 lb1 lb2 lb3 ht10 ht1 ht2 ht3 ht4 ht5
    dsimp only [gName]
    have low_l : lateAll rs ≤ 18 := Nat.le_trans (late_le vrs) (by omega)
    have lg1 : (lag2 (lateAll rs) x).1.length ≤ 100 := by show (lag _ x.1).length ≤ 100; rw [len_lag]; omega
    have lg2 : (lag2 (lateAll rs) x).2.length ≤ 100 := by show (lag _ x.2).length ≤ 100; rw [len_lag]; omega
    -- a reading of what came back
    have rd : ∀ {G : Hp}, TwoAt C G bk (lag2 (lateAll rs) x) → ∃ (ua ub : Addr) (ya yb : List V), G bk = some (.tup [.ref ua, .ref ub]) ∧ ∀ (l : Addr) (G' : Hp), Same G G' → G' l = some (.lst [.ref ua, .ref ub]) → LanesAt C G' l (lag2 (lateAll rs) x) := fun {G} h => by
      obtain ⟨ua, ub, ya, yb, e1, e2, e3, e4, e5⟩ := h
      exact ⟨ua, ub, ya, yb, e1, fun l G' s' hl' => ⟨ua, ub, ya, yb, hl', s' _ _ e2, Paired.mapP e3 fun _ _ z => z.same s', s' _ _ e4, Paired.mapP e5 fun _ _ z => z.same s'⟩⟩
    have same2 : ∀ {G G' : Hp}, TwoAt C G bk (lag2 (lateAll rs) x) → Same G G' → TwoAt C G' bk (lag2 (lateAll rs) x) := fun h s' => by
      obtain ⟨ua, ub, ya, yb, e1, e2, e3, e4, e5⟩ := h
      exact ⟨ua, ub, ya, yb, s' _ _ e1, s' _ _ e2, Paired.mapP e3 fun _ _ z => z.same s', s' _ _ e4, Paired.mapP e5 fun _ _ z => z.same s'⟩
    refine seq_to (fun σ' G => σ' = [some (.ref a), some (.ref d), some (.bl sa), some (.bl ia), some (.int (m : Int)), some (.ref ch), o6, o7', some (.ref la), some (.ref ln), o10', some (.ref du), some (.int (lateAll rs : Nat)), some (.ref sh), o14', some (.ref t), some (.ref bk), none] ∧ G14 = G) (fun k8 hK8 => ?_) ?_
    · obtain ⟨ua, ub, ya, yb, e1, _⟩ := rd hbk
      refine ⟨_, rfl, _, .ty "tuple", .type "tuple", .type "tuple", true, rfl, .ty _, .base (.tup e1), kit_ty (by decide +kernel), true, rfl, iteF ?_⟩
      refine ⟨_, rfl, bk, _, rfl, .inr (SqT.of e1), rfl, _, rfl, ?_⟩
      refine ite2 (fun z => absurd z (by simp)) (fun _ => ?_)
      exact hK8 _ _ ⟨rfl, rfl⟩
    rintro σ' _ ⟨rfl, rfl⟩
    refine seq_to (fun σ' G => ∃ o10, σ' = [some (.ref a), some (.ref d), some (.bl sa), some (.bl ia), some (.int (m : Int)), some (.ref ch), o6, o7', some (.ref la), some (.ref ln), o10, some (.ref du), some (.int (lateAll rs : Nat)), some (.ref sh), o14', some (.ref t), some (.ref bk), none] ∧ Same G14 G) (fun k9 hK9 => ?_) ?_
    · obtain ⟨ua, ub, ya, yb, e1, mk⟩ := rd hbk
      refine ⟨_, rfl, bk, _, rfl, .inr (SqT.of e1), fun l nl => ?_⟩
      have s15 := Same.new (o := .lst [V.ref ua, V.ref ub]) (fun _ _ e => e : Same G14 G14) nl
      have hl15 : upd G14 l (.lst [V.ref ua, V.ref ub]) l = some (.lst [V.ref ua, V.ref ub]) := upd_same
      generalize upd G14 l (.lst [V.ref ua, V.ref ub]) = G15 at s15 hl15 ⊢
      refine ⟨l, _, rfl, mk l G15 s15 hl15, lg1, lg2, fun rb G16 nrb s16 hrb => ?_⟩
      obtain ⟨aa, bb, hl1, ⟨tya, h1, h1p⟩, ⟨tyb, h2, h2p⟩⟩ := hln14.same (s15.trans s16)
      have lta := paired_len h1p
      have ltb := paired_len h2p
      refine lc_map (bs := [lag (lateAll rs) x.1, lag (lateAll rs) x.2]) (Rr := fun D G y ps => ∃ l, y = V.ref l ∧ l ≠ D ∧ PPs G l ps) (fun R r => ⟨.ref ln, rfl, r⟩) ⟨ln, rfl, .inl (SqL.of hl1)⟩ (by show 2 ≤ sizeLine; decide) rfl (fun _ _ _ _ _ h s => by
        obtain ⟨m', e, n, h⟩ := h
        exact ⟨m', e, n, h.same s⟩) (fun D G rs' ys y ps hD h => by
        obtain ⟨m', e, n, h⟩ := h
        exact ⟨m', e, n, h.growN hD n⟩) ?_ ?_
      · intro D k y ps G rs' Kc hx hb s17 hDG kc
        have two : ∃ u tu xs, y = .ref u ∧ G16 u = some (.lst tu) ∧ Paired (PV G16) tu xs ∧ xs.length = m ∧ ps = lag (lateAll rs) xs := by
          match k, hx, hb with
          | 0, e, e' => cases e; cases e'; exact ⟨aa, tya, x.1, rfl, h1, h1p, l1, rfl⟩
          | 1, e, e' => cases e; cases e'; exact ⟨bb, tyb, x.2, rfl, h2, h2p, l2, rfl⟩
        obtain ⟨u, tu, xs, rfl, hu, pu, lxs, rfl⟩ := two
        have ltu := paired_len pu
        refine ⟨by show 2 ≤ sizeLine; decide, fun z0 nz0 => ?_⟩
        have q1 := Same.new (o := .tup [.int 0, .int 1]) (fun _ _ e => e : Same G G) nz0
        have hz : upd G z0 (.tup [.int 0, .int 1]) z0 = some (.tup [.int 0, .int 1]) := upd_same
        generalize upd G z0 (.tup [.int 0, .int 1]) = K1 at q1 hz ⊢
        refine ⟨by show 1 ≤ sizeLine; decide, fun p np => ?_⟩
        have q2 := Same.new (o := .lst [V.ref z0]) (fun _ _ e => e : Same K1 K1) np
        have hp : upd K1 p (.lst [V.ref z0]) p = some (.lst [V.ref z0]) := upd_same
        generalize upd K1 p (.lst [V.ref z0]) = K2 at q2 hp ⊢
        refine ⟨_, rfl, p, _, _, rfl, rfl, hp, by omega, by omega, ?_, fun p2 np2 => ?_⟩
        · rw [Int.toNat_natCast, List.length_singleton, Nat.one_mul]
          exact Nat.le_trans low_l (by decide)
        rw [rep_flat]
        have q3 := Same.new (o := .lst (List.replicate (lateAll rs) (V.ref z0))) (fun _ _ e => e : Same K2 K2) np2
        have hp2 : upd K2 p2 (.lst (List.replicate (lateAll rs) (V.ref z0))) p2 = some (.lst (List.replicate (lateAll rs) (V.ref z0))) := upd_same
        generalize upd K2 p2 (.lst (List.replicate (lateAll rs) (V.ref z0))) = K3 at q3 hp2 ⊢
        have q03 := q1.trans (q2.trans q3)
        refine ⟨_, rfl, p2, u, _, tu, rfl, rfl, hp2, (s17.trans q03) _ _ hu, ?_, fun p3 np3 => ?_⟩
        · rw [List.length_replicate, ltu]
          exact Nat.le_trans (show lateAll rs + xs.length ≤ 63 by omega) (by decide)
        have q4 := Same.new (o := .lst (List.replicate (lateAll rs) (V.ref z0) ++ tu)) (fun _ _ e => e : Same K3 K3) np3
        have hp3 : upd K3 p3 (.lst (List.replicate (lateAll rs) (V.ref z0) ++ tu)) p3 = some (.lst (List.replicate (lateAll rs) (V.ref z0) ++ tu)) := upd_same
        generalize upd K3 p3 (.lst (List.replicate (lateAll rs) (V.ref z0) ++ tu)) = K4 at q4 hp3 ⊢
        have q04 := q03.trans q4
        refine ⟨_, rfl, m, rfl, p3, _, rfl, SqL.of hp3, fun p4 np4 => ?_⟩
        have q5 := Same.new (o := .lst (cutV (List.replicate (lateAll rs) (V.ref z0) ++ tu) none (some (m : Int)))) (fun _ _ e => e : Same K4 K4) np4
        have nD4 : p4 ≠ D := fun z => by rw [z, q04 _ _ hDG] at np4; cases np4
        refine kc _ _ (q04.trans q5) ⟨p4, rfl, nD4, _, upd_same, ?_⟩
        rw [cut_to (by rw [List.length_append]; omega)] at q5 ⊢
        show Paired _ _ ((List.replicate (lateAll rs) (0, 1) ++ xs).take xs.length)
        rw [lxs]
        refine paired_takeP (paired_appP ?_ (Paired.mapP pu fun _ _ z => z.same (s17.trans (q04.trans q5)))) _
        have hz5 := (q2.trans (q3.trans (q4.trans q5))) _ _ hz
        generalize upd K4 p4 _ = K5 at hz5
        exact paired_repP (p := (0, 1)) ⟨z0, rfl, hz5⟩ _
      · intro D us G nD s17 hDG pu
        obtain ⟨ts1, f1, f2⟩ := (hrb.same s17).pss
        have p2 : Paired (PairsV G) us [lag (lateAll rs) x.1, lag (lateAll rs) x.2] := Paired.mapP pu fun _ _ z => by
          obtain ⟨m', e, _, tt, h1, h2⟩ := z
          exact ⟨m', tt, e, h1, h2⟩
        refine ⟨dPss _, dPss _, .lst (SqL.of f1) (dp_Pss f2), .lst (SqL.of hDG) (dp_Pss p2), sh_Pss _, sh_Pss _, _, rfl, ?_⟩
        show ite ((!PyData.eqv (dPss [lag (lateAll rs) x.1, lag (lateAll rs) x.2]) (dPss [lag (lateAll rs) x.1, lag (lateAll rs) x.2])) = true) _ _
        rw [eq_Pss]
        refine iteF ?_
        exact hK9 _ _ ⟨_, rfl, s15.trans (s16.trans s17)⟩
    rintro σ' G15 ⟨o10'', rfl, s15⟩
    have hbk15 := same2 hbk s15
    have hch15 := hch14.same s15
    have hdu15 := hdu14.same s15
    refine ⟨_, rfl, ch, rs, rfl, hch15, vrs, by omega, fun bc G16 nbc s16 hbc => ?_⟩
    refine ⟨_, rfl, bc, du, rs.reverse.map ivR, rnL rs x, m, _, _, rfl, hbc, hdu15.same s16, vrb, by omega, rob, fun l2' G17 nl2 s17 hl2' => ?_⟩
    rw [back_all lnok vrs] at hl2'
    have szs : ∀ {xs : List (Int × Int)}, BdL M (10 ^ 40) xs → ∀ p ∈ lag (lateAll rs) xs, Low p ∧ Sz p.2 := fun hb p hp => by
      rcases lag_mem hp with rfl | h
      · exact ⟨low01, by decide +kernel⟩
      · exact ⟨hb.l p h, Nat.lt_of_le_of_lt (Nat.le_trans ((hb.b p h).le M0).1 M1) (by decide +kernel)⟩
    refine ⟨l2', lag2 (lateAll rs) x, rfl, hl2', lg1, lg2, szs bd.a, szs bd.b, fun l3 G18 nl3 s18 hl3 => ?_⟩
    dsimp only [gName]
    have s1518 := s16.trans (s17.trans s18)
    obtain ⟨ua, ub, ya, yb, e1, mk⟩ := rd (same2 hbk15 s1518)
    refine ⟨_, rfl, bk, _, rfl, .inr (SqT.of e1), fun l nl => ?_⟩
    have s19 := Same.new (o := .lst [V.ref ua, V.ref ub]) (fun _ _ e => e : Same G18 G18) nl
    have hl19 : upd G18 l (.lst [V.ref ua, V.ref ub]) l = some (.lst [V.ref ua, V.ref ub]) := upd_same
    generalize upd G18 l (.lst [V.ref ua, V.ref ub]) = G19 at s19 hl19 ⊢
    refine ⟨l, _, rfl, mk l G19 s19 hl19, lg1, lg2, fun rb G20 nrb s20 hrb => ?_⟩
    refine ⟨_, rfl, l3, _, rfl, hl3.same (s19.trans s20), lg1, lg2, fun rc G21 nrc s21 hrc => ?_⟩
    obtain ⟨ts1, f1, f2⟩ := (hrb.same s21).pss
    obtain ⟨ts2, g1, g2⟩ := hrc.pss
    refine ⟨dPss _, dPss _, .lst (SqL.of f1) (dp_Pss f2), .lst (SqL.of g1) (dp_Pss g2), sh_Pss _, sh_Pss _, ?_⟩
    rw [eq_Pss]
    exact q _
end
end K03
end
section
set_option maxHeartbeats 4000000
set_option exponentiation.threshold 100000
namespace K03
open PySem PySem.Spec PyProof.Rows L2 LamX NdefX L3
section
variable {P : Program} {w : World} {K : PySem.W.Frag} {mg : Str → Option Value} {base : Heap} {cB cN C fI : Addr}
theorem ok_plus67 {f : Addr} {fd : FuncData} (F : Fun K "_law_plus" "_law_plus" sPlus f fd) (hQ : Dfn P w K mg base CX0 2 "_law_q" ["_law_top", "_law_bottom"] spLowest) :
    FnOk P w K mg base CX0 3 f fd ["_law_one", "_law_other"] spPlus := by
  refine F.ok scPlus (fun vs H Q E h => ?_) (fun cdv A outer s H vs Q E hr h => ?_)
  · obtain ⟨t, u, p, q, rfl, _⟩ := h
    rfl
  · obtain ⟨t, u, p, q, rfl, hp, hq, fp, fq, k⟩ := h
    refine ⟨_, pss_one (ps_ret (dc hQ hr (by decide) (pa_cons (pe_op op_add (pe_op op_mulW (pe_ix ix_tup (pv 0) pe_int (fun _ _ => rfl)) (pe_ix ix_tup (pv 1) pe_int (fun _ _ => rfl))) (pe_op op_mulW (pe_ix ix_tup (pv 1) pe_int (fun _ _ => rfl)) (pe_ix ix_tup (pv 0) pe_int (fun _ _ => rfl)))) (pa_cons (pe_op op_mulW (pe_ix ix_tup (pv 0) pe_int (fun _ _ => rfl)) (pe_ix ix_tup (pv 1) pe_int (fun _ _ => rfl))) pa_nil)))), ?_⟩
    refine ⟨_, rfl, t, _, _, _, rfl, rfl, SqT.of hp, rfl, _, rfl, u, _, _, _, rfl, rfl, SqT.of hq, rfl, _, _, rfl, rfl, sz_mul fp.t fq.b, ?_⟩
    refine ⟨_, rfl, u, _, _, _, rfl, rfl, SqT.of hq, rfl, _, rfl, t, _, _, _, rfl, rfl, SqT.of hp, rfl, _, _, rfl, rfl, sz_mul fq.t fp.b, _, _, rfl, rfl, ?_⟩
    refine ⟨_, rfl, t, _, _, _, rfl, rfl, SqT.of hp, rfl, _, rfl, u, _, _, _, rfl, rfl, SqT.of hq, rfl, _, _, rfl, rfl, sz_mul fp.b fq.b, ?_⟩
    exact ⟨_, _, rfl, Int.ne_of_gt (Int.mul_pos fp.pos fq.pos), sz_mulB fp.b fq.b, k⟩
theorem ok_times67 {f : Addr} {fd : FuncData} (F : Fun K "_law_times" "_law_times" sTimes f fd) (hQ : Dfn P w K mg base CX0 2 "_law_q" ["_law_top", "_law_bottom"] spLowest) :
    FnOk P w K mg base CX0 3 f fd ["_law_one", "_law_other"] spTimes := by
  refine F.ok scTimes (fun vs H Q E h => ?_) (fun cdv A outer s H vs Q E hr h => ?_)
  · obtain ⟨t, u, p, q, rfl, _⟩ := h
    rfl
  · obtain ⟨t, u, p, q, rfl, hp, hq, fp, fq, k⟩ := h
    refine ⟨_, pss_one (ps_ret (dc hQ hr (by decide) (pa_cons (pe_op op_mulW (pe_ix ix_tup (pv 0) pe_int (fun _ _ => rfl)) (pe_ix ix_tup (pv 1) pe_int (fun _ _ => rfl))) (pa_cons (pe_op op_mulW (pe_ix ix_tup (pv 0) pe_int (fun _ _ => rfl)) (pe_ix ix_tup (pv 1) pe_int (fun _ _ => rfl))) pa_nil)))), ?_⟩
    refine ⟨_, rfl, t, _, _, _, rfl, rfl, SqT.of hp, rfl, _, rfl, u, _, _, _, rfl, rfl, SqT.of hq, rfl, _, _, rfl, rfl, sz_mul fp.t fq.t, ?_⟩
    refine ⟨_, rfl, t, _, _, _, rfl, rfl, SqT.of hp, rfl, _, rfl, u, _, _, _, rfl, rfl, SqT.of hq, rfl, _, _, rfl, rfl, sz_mul fp.b fq.b, ?_⟩
    exact ⟨_, _, rfl, Int.ne_of_gt (Int.mul_pos fp.pos fq.pos), sz_mulB fp.b fq.b, k⟩
end
end K03
end
section
set_option maxHeartbeats 4000000
namespace K03
open PySem PySem.Spec PyProof.Rows L2
section
variable {P : Program} {w : World} {K : PySem.W.Frag} {mg : Str → Option Value} {base : Heap} {cB cN C fI : Addr}
theorem ok_init0 {fd : FuncData} (F : FunD K "__init__" "Ratio.__init__" (defArgs sInit) (defBody sInit) (defScope sInit) [.int 1] [] fI fd) (T : ErrR P w K mg base cB cN) (R : RatC K mg C fI) (B : TxtR mg) : FnOk P w K mg base (L2.CX P w) 4 fI fd ["self", "top", "bottom"] (spInit K C cB cN) := by
  refine F.ok (CX := L2.CX P w) scInit (fun vs H Q E h => ?_) (fun cdv A outer s H vs Q E hr h => ?_)
  · obtain ⟨a, dx, x, y, rfl, _⟩ := h
    rfl
  · obtain ⟨a, dx, x, y, rfl, ha, k⟩ := h
    have nd := scInit.nd
    have hr2 : Room 2 _ := hr.mono (by decide)
    refine ⟨_, pss_cons (ps_if (pt_noInt B (fun _ => pv 1)) (pss_one (ps_raise rfl (takes_of rfl rfl rfl rfl) (pmk_retX rfl (pe_one1 T.B hr2 (pv 1))))) pss_nil)
      (pss_cons (ps_if (pt_noInt B (fun _ => pv 2)) (pss_one (ps_raise rfl (takes_of rfl rfl rfl rfl) (pmk_retX rfl (pe_one1 T.B hr2 (pv 2))))) pss_nil)
      (pss_cons (ps_set (i := 3) nd rfl (Or.inl rfl) (pe_callBfun cr_gcd (by rfl) B.gcd (pa_cons (pv 1) (pa_cons (pv 2) pa_nil))))
      (pss_cons (ps_if (pt_cmpR op_lt (pv 2) pe_int (nomark _)) (pss_one (ps_set (i := 3) nd rfl (Or.inl rfl) (pe_un un_neg (pv 3)))) pss_nil)
      (pss_cons (ps_if (PW.pt (pw_or (pt_cmpR op_eq (pv 3) pe_int (nomark _)) (pw_or1 (pt_cmpR op_eq (pv 2) pe_int (nomark _))))) (pss_one (ps_raise rfl (takes_of rfl rfl rfl rfl) (pmk_ret rfl (pe_bare T.N)))) pss_nil)
      (pss_one (ps_if (pt_cmpR op_eq (pv 3) pe_int (nomark _)) (pss_cons (ps_fld (pv 0) (pv 1) rfl) (pss_one (ps_fld (pv 0) (pv 2) rfl)))
        (pss_cons (ps_fld (pv 0) (pe_op op_fdivZ (pv 1) (pv 3)) rfl)
          (pss_one (ps_fld (pv 0) (pe_op op_fdivZ (pv 2) (pv 3)) rfl))))))))), ?_⟩
    cases k with
    | top n q => exact ⟨_, rfl, .inr ⟨n, _, rfl, fun a' dx' H1 ha' hd s e ed ne => ⟨a', _, dx', rfl, e, fr0_none ha', raises_own T.B.Z.su T.tB, q dx' _ hd (same_del s ha') (by rw [delH_ne ne]; exact ed)⟩⟩⟩
    | bot t hx n q =>
      subst hx
      exact ⟨_, rfl, .inl ⟨⟨t, rfl⟩, _, rfl, .inr ⟨n, _, rfl, fun a' dx' H1 ha' hd s e ed ne => ⟨a', _, dx', rfl, e, fr0_none ha', raises_own T.B.Z.su T.tB, q dx' _ hd (same_del s ha') (by rw [delH_ne ne]; exact ed)⟩⟩⟩⟩
    | zero t hx hy q =>
      subst hx hy
      refine ⟨_, rfl, .inl ⟨⟨t, rfl⟩, _, rfl, .inl ⟨⟨0, rfl⟩, _, rfl, _, rfl, t, 0, rfl, _, rfl, _, _, rfl, rfl, _, rfl, ?_⟩⟩⟩
      show ite _ _ _; rw [if_neg (by decide)]
      refine ⟨_, rfl, rfl, _, rfl, ?_⟩
      refine ite2 (fun hb => ?_) (fun hb => ?_)
      · show ite _ _ _; rw [if_pos rfl]
        exact fun a' H1 ha' s e => ⟨a', _, rfl, e, fr0_none ha', raises_own T.N.Z.su T.tN, q _ (same_del s ha')⟩
      · refine ⟨_, rfl, rfl, _, rfl, ?_⟩
        show ite _ _ _; rw [if_pos (by decide)]
        exact fun a' H1 ha' s e => ⟨a', _, rfl, e, fr0_none ha', raises_own T.N.Z.su T.tN, q _ (same_del s ha')⟩
    | good t b hx hy h0 hs q =>
      subst hx hy
      refine ⟨_, rfl, .inl ⟨⟨t, rfl⟩, _, rfl, .inl ⟨⟨b, rfl⟩, _, rfl, _, rfl, t, b, rfl, _, rfl, _, _, rfl, rfl, _, rfl, ?_⟩⟩⟩
      have dv : ∀ i, CDivZ i (shr t b) := fun i => ⟨shr_ne h0, log2_le (shr_le h0) (by have := shr_ne (t := t) h0; omega) hs (by decide)⟩
      have l1 : shr t b = 1 → low t b = (t, b) := fun e => by unfold low; rw [e]; simp
      refine ite2 (fun hb => ?_) (fun hb => ?_)
      · have e : -((Nat.gcd t.natAbs b.natAbs : Nat) : Int) = shr t b := by
          unfold shr
          rw [if_pos (by simpa using hb)]
        have ne0 := shr_ne (t := t) h0
        rw [← e] at ne0
        refine ⟨_, rfl, _, rfl, ?_⟩
        refine ⟨_, rfl, rfl, _, rfl, ?_⟩
        show ite _ _ _; rw [if_neg (by simpa using ne0)]
        refine ⟨_, rfl, rfl, _, rfl, ?_⟩
        show ite _ _ _; rw [if_neg (by simpa using h0)]
        refine ⟨_, rfl, rfl, _, rfl, ?_⟩
        refine ite2 (fun h1 => ?_) (fun h1 => ?_)
        · refine ⟨_, rfl, _, rfl, a, C, dx, [], rfl, ha, R.c, R.nT, by decide, ?_⟩
          refine ⟨_, rfl, _, rfl, a, C, dx, _, rfl, upd_same, R.c, R.nB, (by show (1 : Nat) < 1000; decide), ?_⟩
          rw [upd_upd, putTB]
          rw [l1 (by rw [← e]; simpa using h1)] at q
          exact q
        · refine ⟨_, rfl, _, rfl, _, _, rfl, rfl, by rw [e]; exact dv _, _, rfl, a, C, dx, [], rfl, ha, R.c, R.nT, by decide, ?_⟩
          refine ⟨_, rfl, _, rfl, _, _, rfl, rfl, by rw [e]; exact dv _, _, rfl, a, C, dx, _, rfl, upd_same, R.c, R.nB, (by show (1 : Nat) < 1000; decide), ?_⟩
          rw [e, upd_upd, putTB]
          exact q
      · have e : ((Nat.gcd t.natAbs b.natAbs : Nat) : Int) = shr t b := by
          unfold shr
          rw [if_neg (by simpa using hb)]
        have ne0 := shr_ne (t := t) h0
        rw [← e] at ne0
        refine ⟨_, rfl, rfl, _, rfl, ?_⟩
        show ite _ _ _; rw [if_neg (by simpa using ne0)]
        refine ⟨_, rfl, rfl, _, rfl, ?_⟩
        show ite _ _ _; rw [if_neg (by simpa using h0)]
        refine ⟨_, rfl, rfl, _, rfl, ?_⟩
        refine ite2 (fun h1 => ?_) (fun h1 => ?_)
        · refine ⟨_, rfl, _, rfl, a, C, dx, [], rfl, ha, R.c, R.nT, by decide, ?_⟩
          refine ⟨_, rfl, _, rfl, a, C, dx, _, rfl, upd_same, R.c, R.nB, (by show (1 : Nat) < 1000; decide), ?_⟩
          rw [upd_upd, putTB]
          rw [l1 (by rw [← e]; simpa using h1)] at q
          exact q
        · refine ⟨_, rfl, _, rfl, _, _, rfl, rfl, by rw [e]; exact dv _, _, rfl, a, C, dx, [], rfl, ha, R.c, R.nT, by decide, ?_⟩
          refine ⟨_, rfl, _, rfl, _, _, rfl, rfl, by rw [e]; exact dv _, _, rfl, a, C, dx, _, rfl, upd_same, R.c, R.nB, (by show (1 : Nat) < 1000; decide), ?_⟩
          rw [e, upd_upd, putTB]
          exact q
end
theorem mk_rat0 {P : Program} {w : World} {K : PySem.W.Frag} {mg : Str → Option Value} {base : Heap} {fI cB cN C : Addr} {fd : FuncData} (F : FunD K "__init__" "Ratio.__init__" (defArgs sInit) (defBody sInit) (defScope sInit) [.int 1] [] fI fd) (T : ErrR P w K mg base cB cN) (R : RatC K mg C fI) (B : TxtR mg) (ty : ∀ (H : Hp) (a dx : Addr) (fs : List (Str × V)), H a = some (.ins C dx fs) → TyX K H (.ref a) (.ref C)) : Rat P w K mg base cB cN C fI := by
  refine ⟨R, ⟨fd, ok_init0 F T R B, F.binds1 2 0 (by simp) rfl (fun T kV doc pm an cdv ct us its h1 h2 => ?_), ?_⟩, ty, B⟩
  · match us, its, h1, h2 with
    | [a, b], [c], _, _ => exact ⟨_, rfl, rfl⟩
  · obtain ⟨ds, h1, h2⟩ := F.binds1 (ps := ["self", "top", "bottom"]) 3 1 (by simp) rfl (fun T kV doc pm an cdv ct us its h1 h2 => by
      match us, its, h1, h2 with
      | [a, b, c], [e], _, _ => exact ⟨_, rfl, rfl⟩)
    have h1 : Vals [] ds := h1
    cases h1
    exact h2
end K03
end
section
set_option maxHeartbeats 4000000
namespace HX
open PySem PySem.Spec PyProof.Rows L2 He
theorem oexB_ok {K : PySem.W.Frag} {C : Addr} (h : oexB K C = true) : ∃ nm q N bs bm sn sub ab col dd k0 k1 k2 k3 k5, K.lookup C = some (excClassObj nm q C N bs bm true sn sub ab col dd k0 k1 k2 k3 k5 "ValueError.__new__") ∧ PySem.HandSPX.refsVE bm = true := by
  unfold oexB at h
  split at h
  · rename_i y dd cd sl look
    obtain ⟨hy, h⟩ := ba h
    obtain rfl := beq_iff_eq.mp hy
    split at h
    · rename_i C' bm k0 k1 k2 k3 n k5 e1 e2
      obtain ⟨h1, h⟩ := ba h
      obtain ⟨h2, h⟩ := ba h
      obtain ⟨h3, h⟩ := ba h
      obtain ⟨h4, h⟩ := ba h
      obtain ⟨h5, q⟩ := ba h
      obtain rfl := eq_of_beq h2
      obtain rfl := eq_of_beq h3
      obtain ⟨nm, bs, mro, N, qn, hd, sn, sub, ab, col, del⟩ := cd
      obtain ⟨l⟩ := sl
      dsimp only at e1 e2 h4 h5
      subst e1 e2 h5
      cases del
      · exact ⟨nm, qn, N, bs, bm, sn, sub, ab, col, dd, k0, k1, k2, k3, k5, look, q⟩
      · cases h4
    · cases h
  · cases h
theorem eqV_ok {a b : Option Value} (h : eqV a b = true) : a = b := of_decide_eq_true h
theorem eqB_ok {a b : Option Bool} (h : eqB a b = true) : a = b := of_decide_eq_true h
theorem clsXB_ok {K : PySem.W.Frag} {D : Addr} (h : clsXB K D = true) : PySem.ExV.ClsX K D := by
  obtain ⟨h1, h⟩ := ba h
  obtain ⟨h2, h⟩ := ba h
  obtain ⟨h3, h⟩ := ba h
  obtain ⟨h4, h⟩ := ba h
  obtain ⟨h5, h⟩ := ba h
  obtain ⟨h6, h⟩ := ba h
  obtain ⟨h7, h8⟩ := ba h
  exact ⟨eqO_ok h1, eqO_ok h2, eqB_ok h3, h4, eqO_ok h5, eqO_ok h6, eqB_ok h7, eqB_ok h8⟩
structure OneF (K : PySem.W.Frag) (C : Addr) (f : Str) : Prop where
  O : OwnX K C (ma K C "__init__")
  Z : PySem.ExV.ClsX K C
  no : PySem.W.findIn K (.ref C) f = some none
  ty : PySem.W.typeIn K (.ref C) = some (.type "type")
theorem oneB_ok {K : PySem.W.Frag} {C : Addr} {f : Str} (h : oneB K C f = true) : OneF K C f := by
  obtain ⟨h1, h⟩ := ba h
  obtain ⟨h2, h⟩ := ba h
  obtain ⟨h3, h⟩ := ba h
  obtain ⟨h4, h⟩ := ba h
  obtain ⟨h5, h⟩ := ba h
  obtain ⟨h6, h⟩ := ba h
  obtain ⟨h7, h8⟩ := ba h
  have Z := clsXB_ok h8
  exact ⟨⟨⟨oexB_ok h1, eqO_ok h2, Z.su, eqV_ok h3, h4⟩, eqO_ok h5, eqV_ok h6⟩, Z, eqO_ok h7, eqV_ok h3⟩
theorem top1B_ok {K : PySem.W.Frag} {C : Addr} (h : top1B K C = true) : Top1 K C := by
  obtain ⟨h1, h2⟩ := ba h
  cases q : PySem.W.clsIn K C with
  | none => rw [q] at h1; cases h1
  | some cd =>
    rw [q] at h1
    exact ⟨⟨cd, q, of_decide_eq_true h1⟩, h2⟩
theorem tyB_ok {K : PySem.W.Frag} {C : Addr} (h : tyB K C = true) (c : Cls K C) : (∀ (H : Hp) (a dx : Addr) (fs : List (Str × V)), H a = some (.ins C dx fs) → TyX K H (.ref a) (.ref C)) ∧ PySem.W.typeIn K (.ref C) = some (.type "type") := by
  obtain ⟨h1, h⟩ := ba h
  obtain ⟨h2, h⟩ := ba h
  obtain ⟨h3, h⟩ := ba h
  obtain ⟨h4, h5⟩ := ba h
  exact ⟨fun H a dx fs e => .base (.ins e c (eqO_ok h1) (eqO_ok h2) (eqB_ok h3) (eqB_ok h4)), eqV_ok h5⟩
theorem bltB_ok {K : PySem.W.Frag} {h : Heap} {mg : Str → Option Value} {x : Str} {id : String} (X : K.In h) (G : h.Ns mainGlobals mg) (c : bltB K x id = true) : mg x = some (.builtin id) := PySem.W.mg_of X G (eqO_ok c)
/-- a def without defaults -/
theorem funOf {K : PySem.W.Frag} {x qual : Str} {st : Stmt} {f : Addr} {fd : FuncData} (F : FunD K x qual (defArgs st) (defBody st) (defScope st) [] [] f fd) : Fun K x qual st f fd := by
  obtain ⟨oc, od, dV, kV, doc, pm, an, cdv, ct, osl, rfl, lk, hcd, hD, _⟩ := F.ex
  rcases hD with ⟨_, rfl⟩ | ⟨e, _⟩
  · exact ⟨⟨oc, od, kV, doc, pm, an, cdv, ct, osl, rfl, lk, hcd⟩, F.kp⟩
  · exact absurd rfl e
end HX
end
section
set_option maxHeartbeats 0
set_option exponentiation.threshold 100000
namespace K03
open PySem PySem.Spec PyProof.Rows L2 LamX NdefX L3 TL HX
open He (ga ma)
abbrev FnP (K : PySem.W.Frag) (x : Str) (st : Stmt) (fd : FuncData) : Prop := FunD K x x (defArgs st) (defBody st) (defScope st) [] [] (ga K x) fd
abbrev MthP (K : PySem.W.Frag) (C m q : Str) (st : Stmt) (ds : List V) (fd : FuncData) : Prop := FunD K m q (defArgs st) (defBody st) (defScope st) ds [] (ma K (ga K C) m) fd
theorem facts {w : World} {K : PySem.W.Frag} {h : Heap} {mg : Str → Option Value} {f : Addr} (X : K.In h) (G : h.Ns mainGlobals mg) (hfa : mg ("law" : Str) = some (.ref f)) (c : ∀ p ∈ pcs, He.SaysX p.fa p.fn p.ts p.tf p.ex w h K) : LawAtS PySem.Challenge.rw_allstreams_k67_whole_rounded_ladders w K CX0 20 63 "_law_script" mg f h := by
  have cA : He.SaysX fa [] ts tf exB w h K := c pcA List.mem_cons_self
  have cB : He.SaysX [] fnA [] [] (fun _ => true) w h K := c pcB (List.mem_cons_of_mem _ List.mem_cons_self)
  have cC : He.SaysX [] fnB [] [] (fun _ => true) w h K := c pcC (List.mem_cons_of_mem _ (List.mem_cons_of_mem _ List.mem_cons_self))
  obtain ⟨dis_integer, Fis_integer⟩ : ∃ fd, FnP K "is_integer" sIsInt fd := cB.t.d.def_ 0 (d := D_is_integer) rfl
  have gis_integer : mg "is_integer" = some (.ref (ga K "is_integer")) := He.glo_ok X G (cA.t.d.fact 0 (f := .glo "is_integer") rfl)
  have bis_integer : Binds K dis_integer ["value"] [] := Fis_integer.bindsN (ps := ["value"]) fun _ _ _ _ _ _ us hl => match us, hl with | [_], _ => rfl
  obtain ⟨dis_whole, Fis_whole⟩ : ∃ fd, FnP K "is_whole" sIsWh fd := cB.t.d.def_ 1 (d := D_is_whole) rfl
  have gis_whole : mg "is_whole" = some (.ref (ga K "is_whole")) := He.glo_ok X G (cA.t.d.fact 1 (f := .glo "is_whole") rfl)
  have bis_whole : Binds K dis_whole ["value"] [] := Fis_whole.bindsN (ps := ["value"]) fun _ _ _ _ _ _ us hl => match us, hl with | [_], _ => rfl
  obtain ⟨dneed_whole, Fneed_whole⟩ : ∃ fd, FnP K "need_whole" sNeedWh fd := cB.t.d.def_ 2 (d := D_need_whole) rfl
  have gneed_whole : mg "need_whole" = some (.ref (ga K "need_whole")) := He.glo_ok X G (cA.t.d.fact 2 (f := .glo "need_whole") rfl)
  have bneed_whole : Binds K dneed_whole ["value"] [] := Fneed_whole.bindsN (ps := ["value"]) fun _ _ _ _ _ _ us hl => match us, hl with | [_], _ => rfl
  obtain ⟨dis_within, Fis_within⟩ : ∃ fd, FnP K "is_within" sIsW fd := cB.t.d.def_ 3 (d := D_is_within) rfl
  have gis_within : mg "is_within" = some (.ref (ga K "is_within")) := He.glo_ok X G (cA.t.d.fact 3 (f := .glo "is_within") rfl)
  have bis_within : Binds K dis_within ["value", "low", "high"] [] := Fis_within.bindsN (ps := ["value", "low", "high"]) fun _ _ _ _ _ _ us hl => match us, hl with | [_, _, _], _ => rfl
  obtain ⟨dis_list, Fis_list⟩ : ∃ fd, FnP K "is_list" sIsList fd := cB.t.d.def_ 4 (d := D_is_list) rfl
  have gis_list : mg "is_list" = some (.ref (ga K "is_list")) := He.glo_ok X G (cA.t.d.fact 4 (f := .glo "is_list") rfl)
  have bis_list : Binds K dis_list ["value"] [] := Fis_list.bindsN (ps := ["value"]) fun _ _ _ _ _ _ us hl => match us, hl with | [_], _ => rfl
  obtain ⟨dneed_list, Fneed_list⟩ : ∃ fd, FnP K "need_list" sNeedL fd := cB.t.d.def_ 5 (d := D_need_list) rfl
  have gneed_list : mg "need_list" = some (.ref (ga K "need_list")) := He.glo_ok X G (cA.t.d.fact 5 (f := .glo "need_list") rfl)
  have bneed_list : Binds K dneed_list ["value"] [] := Fneed_list.bindsN (ps := ["value"]) fun _ _ _ _ _ _ us hl => match us, hl with | [_], _ => rfl
  obtain ⟨dlooks_after, Flooks_after⟩ : ∃ fd, FnP K "looks_after" sLooks fd := cB.t.d.def_ 6 (d := D_looks_after) rfl
  have glooks_after : mg "looks_after" = some (.ref (ga K "looks_after")) := He.glo_ok X G (cA.t.d.fact 6 (f := .glo "looks_after") rfl)
  have blooks_after : Binds K dlooks_after ["value", "below"] [] := Flooks_after.bindsN (ps := ["value", "below"]) fun _ _ _ _ _ _ us hl => match us, hl with | [_, _], _ => rfl
  obtain ⟨das_ratio, Fas_ratio⟩ : ∃ fd, FnP K "as_ratio" sAs fd := cB.t.d.def_ 7 (d := D_as_ratio) rfl
  have gas_ratio : mg "as_ratio" = some (.ref (ga K "as_ratio")) := He.glo_ok X G (cA.t.d.fact 7 (f := .glo "as_ratio") rfl)
  have bas_ratio : Binds K das_ratio ["value"] [] := Fas_ratio.bindsN (ps := ["value"]) fun _ _ _ _ _ _ us hl => match us, hl with | [_], _ => rfl
  obtain ⟨doperand, Foperand⟩ : ∃ fd, FnP K "operand" sOpd fd := cB.t.d.def_ 8 (d := D_operand) rfl
  have goperand : mg "operand" = some (.ref (ga K "operand")) := He.glo_ok X G (cA.t.d.fact 8 (f := .glo "operand") rfl)
  have boperand : Binds K doperand ["other"] [] := Foperand.bindsN (ps := ["other"]) fun _ _ _ _ _ _ us hl => match us, hl with | [_], _ => rfl
  obtain ⟨dratio_list, Fratio_list⟩ : ∃ fd, FnP K "ratio_list" sRList fd := cB.t.d.def_ 9 (d := D_ratio_list) rfl
  have gratio_list : mg "ratio_list" = some (.ref (ga K "ratio_list")) := He.glo_ok X G (cA.t.d.fact 9 (f := .glo "ratio_list") rfl)
  have bratio_list : Binds K dratio_list ["values"] [] := Fratio_list.bindsN (ps := ["values"]) fun _ _ _ _ _ _ us hl => match us, hl with | [_], _ => rfl
  obtain ⟨dnorm, Fnorm⟩ : ∃ fd, FnP K "norm" sNorm fd := cB.t.d.def_ 10 (d := D_norm) rfl
  have gnorm : mg "norm" = some (.ref (ga K "norm")) := He.glo_ok X G (cA.t.d.fact 10 (f := .glo "norm") rfl)
  have bnorm : Binds K dnorm ["parts"] [] := Fnorm.bindsN (ps := ["parts"]) fun _ _ _ _ _ _ us hl => match us, hl with | [_], _ => rfl
  obtain ⟨dgreatest, Fgreatest⟩ : ∃ fd, FnP K "greatest" sGreat fd := cB.t.d.def_ 11 (d := D_greatest) rfl
  have ggreatest : mg "greatest" = some (.ref (ga K "greatest")) := He.glo_ok X G (cA.t.d.fact 11 (f := .glo "greatest") rfl)
  have bgreatest : Binds K dgreatest ["parts"] [] := Fgreatest.bindsN (ps := ["parts"]) fun _ _ _ _ _ _ us hl => match us, hl with | [_], _ => rfl
  obtain ⟨dshortened, Fshortened⟩ : ∃ fd, FnP K "shortened" sTrimmed fd := cB.t.d.def_ 12 (d := D_shortened) rfl
  have gshortened : mg "shortened" = some (.ref (ga K "shortened")) := He.glo_ok X G (cA.t.d.fact 12 (f := .glo "shortened") rfl)
  have bshortened : Binds K dshortened ["parts"] [] := Fshortened.bindsN (ps := ["parts"]) fun _ _ _ _ _ _ us hl => match us, hl with | [_], _ => rfl
  obtain ⟨dpacked, Fpacked⟩ : ∃ fd, FnP K "packed" sPacked fd := cB.t.d.def_ 13 (d := D_packed) rfl
  have gpacked : mg "packed" = some (.ref (ga K "packed")) := He.glo_ok X G (cA.t.d.fact 13 (f := .glo "packed") rfl)
  have bpacked : Binds K dpacked ["parts", "bits"] [] := Fpacked.bindsN (ps := ["parts", "bits"]) fun _ _ _ _ _ _ us hl => match us, hl with | [_, _], _ => rfl
  obtain ⟨dunpacked, Funpacked⟩ : ∃ fd, FnP K "unpacked" sUnp fd := cB.t.d.def_ 14 (d := D_unpacked) rfl
  have gunpacked : mg "unpacked" = some (.ref (ga K "unpacked")) := He.glo_ok X G (cA.t.d.fact 14 (f := .glo "unpacked") rfl)
  have bunpacked : Binds K dunpacked ["worth", "bits"] [] := Funpacked.bindsN (ps := ["worth", "bits"]) fun _ _ _ _ _ _ us hl => match us, hl with | [_, _], _ => rfl
  obtain ⟨dmultiplied, Fmultiplied⟩ : ∃ fd, FnP K "multiplied" sMulD fd := cB.t.d.def_ 15 (d := D_multiplied) rfl
  have gmultiplied : mg "multiplied" = some (.ref (ga K "multiplied")) := He.glo_ok X G (cA.t.d.fact 15 (f := .glo "multiplied") rfl)
  have bmultiplied : Binds K dmultiplied ["one", "other"] [] := Fmultiplied.bindsN (ps := ["one", "other"]) fun _ _ _ _ _ _ us hl => match us, hl with | [_, _], _ => rfl
  obtain ⟨dshared_bottom, Fshared_bottom⟩ : ∃ fd, FnP K "shared_bottom" sShB fd := cB.t.d.def_ 16 (d := D_shared_bottom) rfl
  have gshared_bottom : mg "shared_bottom" = some (.ref (ga K "shared_bottom")) := He.glo_ok X G (cA.t.d.fact 16 (f := .glo "shared_bottom") rfl)
  have bshared_bottom : Binds K dshared_bottom ["ratios"] [] := Fshared_bottom.bindsN (ps := ["ratios"]) fun _ _ _ _ _ _ us hl => match us, hl with | [_], _ => rfl
  obtain ⟨dwhole_parts, Fwhole_parts⟩ : ∃ fd, FnP K "whole_parts" sWhl fd := cB.t.d.def_ 17 (d := D_whole_parts) rfl
  have gwhole_parts : mg "whole_parts" = some (.ref (ga K "whole_parts")) := He.glo_ok X G (cA.t.d.fact 17 (f := .glo "whole_parts") rfl)
  have bwhole_parts : Binds K dwhole_parts ["ratios"] [] := Fwhole_parts.bindsN (ps := ["ratios"]) fun _ _ _ _ _ _ us hl => match us, hl with | [_], _ => rfl
  obtain ⟨dpoly_by, Fpoly_by⟩ : ∃ fd, FnP K "poly_by" sPBy fd := cB.t.d.def_ 18 (d := D_poly_by) rfl
  have gpoly_by : mg "poly_by" = some (.ref (ga K "poly_by")) := He.glo_ok X G (cA.t.d.fact 18 (f := .glo "poly_by") rfl)
  have bpoly_by : Binds K dpoly_by ["parts", "bottom"] [] := Fpoly_by.bindsN (ps := ["parts", "bottom"]) fun _ _ _ _ _ _ us hl => match us, hl with | [_, _], _ => rfl
  obtain ⟨das_poly, Fas_poly⟩ : ∃ fd, FnP K "as_poly" sAsP fd := cB.t.d.def_ 19 (d := D_as_poly) rfl
  have gas_poly : mg "as_poly" = some (.ref (ga K "as_poly")) := He.glo_ok X G (cA.t.d.fact 19 (f := .glo "as_poly") rfl)
  have bas_poly : Binds K das_poly ["value"] [] := Fas_poly.bindsN (ps := ["value"]) fun _ _ _ _ _ _ us hl => match us, hl with | [_], _ => rfl
  obtain ⟨dis_rung, Fis_rung⟩ : ∃ fd, FnP K "is_rung" sIsRung fd := cB.t.d.def_ 20 (d := D_is_rung) rfl
  have gis_rung : mg "is_rung" = some (.ref (ga K "is_rung")) := He.glo_ok X G (cA.t.d.fact 20 (f := .glo "is_rung") rfl)
  have bis_rung : Binds K dis_rung ["value"] [] := Fis_rung.bindsN (ps := ["value"]) fun _ _ _ _ _ _ us hl => match us, hl with | [_], _ => rfl
  obtain ⟨dis_lane, Fis_lane⟩ : ∃ fd, FnP K "is_lane" sIsLane fd := cB.t.d.def_ 21 (d := D_is_lane) rfl
  have gis_lane : mg "is_lane" = some (.ref (ga K "is_lane")) := He.glo_ok X G (cA.t.d.fact 21 (f := .glo "is_lane") rfl)
  have bis_lane : Binds K dis_lane ["value"] [] := Fis_lane.bindsN (ps := ["value"]) fun _ _ _ _ _ _ us hl => match us, hl with | [_], _ => rfl
  obtain ⟨dis_amount, Fis_amount⟩ : ∃ fd, FnP K "is_amount" sIsAm fd := cB.t.d.def_ 22 (d := D_is_amount) rfl
  have gis_amount : mg "is_amount" = some (.ref (ga K "is_amount")) := He.glo_ok X G (cA.t.d.fact 22 (f := .glo "is_amount") rfl)
  have bis_amount : Binds K dis_amount ["told"] [] := Fis_amount.bindsN (ps := ["told"]) fun _ _ _ _ _ _ us hl => match us, hl with | [_], _ => rfl
  obtain ⟨dis_exchange, Fis_exchange⟩ : ∃ fd, FnP K "is_exchange" sIsEx fd := cB.t.d.def_ 23 (d := D_is_exchange) rfl
  have gis_exchange : mg "is_exchange" = some (.ref (ga K "is_exchange")) := He.glo_ok X G (cA.t.d.fact 23 (f := .glo "is_exchange") rfl)
  have bis_exchange : Binds K dis_exchange ["told"] [] := Fis_exchange.bindsN (ps := ["told"]) fun _ _ _ _ _ _ us hl => match us, hl with | [_], _ => rfl
  obtain ⟨dis_factor, Fis_factor⟩ : ∃ fd, FnP K "is_factor" sIsFac fd := cB.t.d.def_ 24 (d := D_is_factor) rfl
  have gis_factor : mg "is_factor" = some (.ref (ga K "is_factor")) := He.glo_ok X G (cA.t.d.fact 24 (f := .glo "is_factor") rfl)
  have bis_factor : Binds K dis_factor ["told"] [] := Fis_factor.bindsN (ps := ["told"]) fun _ _ _ _ _ _ us hl => match us, hl with | [_], _ => rfl
  obtain ⟨dis_late, Fis_late⟩ : ∃ fd, FnP K "is_late" sIsLate fd := cB.t.d.def_ 25 (d := D_is_late) rfl
  have gis_late : mg "is_late" = some (.ref (ga K "is_late")) := He.glo_ok X G (cA.t.d.fact 25 (f := .glo "is_late") rfl)
  have bis_late : Binds K dis_late ["told"] [] := Fis_late.bindsN (ps := ["told"]) fun _ _ _ _ _ _ us hl => match us, hl with | [_], _ => rfl
  obtain ⟨dtold_lanes, Ftold_lanes⟩ : ∃ fd, FnP K "told_lanes" sTL fd := cB.t.d.def_ 26 (d := D_told_lanes) rfl
  have gtold_lanes : mg "told_lanes" = some (.ref (ga K "told_lanes")) := He.glo_ok X G (cA.t.d.fact 26 (f := .glo "told_lanes") rfl)
  have btold_lanes : Binds K dtold_lanes ["first", "second"] [] := Ftold_lanes.bindsN (ps := ["first", "second"]) fun _ _ _ _ _ _ us hl => match us, hl with | [_, _], _ => rfl
  obtain ⟨dstepped, Fstepped⟩ : ∃ fd, FnP K "stepped" sStep fd := cB.t.d.def_ 27 (d := D_stepped) rfl
  have gstepped : mg "stepped" = some (.ref (ga K "stepped")) := He.glo_ok X G (cA.t.d.fact 27 (f := .glo "stepped") rfl)
  have bstepped : Binds K dstepped ["lanes", "rung", "is_rounded"] [] := Fstepped.bindsN (ps := ["lanes", "rung", "is_rounded"]) fun _ _ _ _ _ _ us hl => match us, hl with | [_, _, _], _ => rfl
  obtain ⟨damounts_of, Famounts_of⟩ : ∃ fd, FnP K "amounts_of" sAmts fd := cB.t.d.def_ 28 (d := D_amounts_of) rfl
  have gamounts_of : mg "amounts_of" = some (.ref (ga K "amounts_of")) := He.glo_ok X G (cA.t.d.fact 28 (f := .glo "amounts_of") rfl)
  have bamounts_of : Binds K damounts_of ["poly", "items", "is_rounded"] [] := Famounts_of.bindsN (ps := ["poly", "items", "is_rounded"]) fun _ _ _ _ _ _ us hl => match us, hl with | [_, _, _], _ => rfl
  obtain ⟨dtaken_back, Ftaken_back⟩ : ∃ fd, FnP K "taken_back" sBackP fd := cB.t.d.def_ 29 (d := D_taken_back) rfl
  have gtaken_back : mg "taken_back" = some (.ref (ga K "taken_back")) := He.glo_ok X G (cA.t.d.fact 29 (f := .glo "taken_back") rfl)
  have btaken_back : Binds K dtaken_back ["rung"] [] := Ftaken_back.bindsN (ps := ["rung"]) fun _ _ _ _ _ _ us hl => match us, hl with | [_], _ => rfl
  obtain ⟨d_law_begin, F_law_begin⟩ : ∃ fd, FnP K "_law_begin" sBegin fd := cB.t.d.def_ 30 (d := D__law_begin) rfl
  have g_law_begin : mg "_law_begin" = some (.ref (ga K "_law_begin")) := He.glo_ok X G (cA.t.d.fact 30 (f := .glo "_law_begin") rfl)
  have b_law_begin : Binds K d_law_begin ["_law_script"] [] := F_law_begin.bindsN (ps := ["_law_script"]) fun _ _ _ _ _ _ us hl => match us, hl with | [_], _ => rfl
  obtain ⟨d_law_draw, F_law_draw⟩ : ∃ fd, FnP K "_law_draw" sDraw67 fd := cB.t.d.def_ 31 (d := D__law_draw) rfl
  have g_law_draw : mg "_law_draw" = some (.ref (ga K "_law_draw")) := He.glo_ok X G (cA.t.d.fact 31 (f := .glo "_law_draw") rfl)
  have b_law_draw : Binds K d_law_draw ["_law_pen", "_law_span"] [] := F_law_draw.bindsN (ps := ["_law_pen", "_law_span"]) fun _ _ _ _ _ _ us hl => match us, hl with | [_, _], _ => rfl
  obtain ⟨d_law_pick, F_law_pick⟩ : ∃ fd, FnP K "_law_pick" sPick67 fd := cB.t.d.def_ 32 (d := D__law_pick) rfl
  have g_law_pick : mg "_law_pick" = some (.ref (ga K "_law_pick")) := He.glo_ok X G (cA.t.d.fact 32 (f := .glo "_law_pick") rfl)
  have b_law_pick : Binds K d_law_pick ["_law_pen", "_law_some"] [] := F_law_pick.bindsN (ps := ["_law_pen", "_law_some"]) fun _ _ _ _ _ _ us hl => match us, hl with | [_, _], _ => rfl
  obtain ⟨d_law_gcd, F_law_gcd⟩ : ∃ fd, FnP K "_law_gcd" sGcd fd := cB.t.d.def_ 33 (d := D__law_gcd) rfl
  have g_law_gcd : mg "_law_gcd" = some (.ref (ga K "_law_gcd")) := He.glo_ok X G (cA.t.d.fact 33 (f := .glo "_law_gcd") rfl)
  have b_law_gcd : Binds K d_law_gcd ["_law_one", "_law_other"] [] := F_law_gcd.bindsN (ps := ["_law_one", "_law_other"]) fun _ _ _ _ _ _ us hl => match us, hl with | [_, _], _ => rfl
  obtain ⟨d_law_q, F_law_q⟩ : ∃ fd, FnP K "_law_q" sQ67 fd := cC.t.d.def_ 0 (d := D__law_q) rfl
  have g_law_q : mg "_law_q" = some (.ref (ga K "_law_q")) := He.glo_ok X G (cA.t.d.fact 34 (f := .glo "_law_q") rfl)
  have b_law_q : Binds K d_law_q ["_law_top", "_law_bottom"] [] := F_law_q.bindsN (ps := ["_law_top", "_law_bottom"]) fun _ _ _ _ _ _ us hl => match us, hl with | [_, _], _ => rfl
  obtain ⟨d_law_sign, F_law_sign⟩ : ∃ fd, FnP K "_law_sign" sSgn fd := cC.t.d.def_ 1 (d := D__law_sign) rfl
  have g_law_sign : mg "_law_sign" = some (.ref (ga K "_law_sign")) := He.glo_ok X G (cA.t.d.fact 35 (f := .glo "_law_sign") rfl)
  have b_law_sign : Binds K d_law_sign ["_law_number_here"] [] := F_law_sign.bindsN (ps := ["_law_number_here"]) fun _ _ _ _ _ _ us hl => match us, hl with | [_], _ => rfl
  obtain ⟨d_law_plus, F_law_plus⟩ : ∃ fd, FnP K "_law_plus" sPlus fd := cC.t.d.def_ 2 (d := D__law_plus) rfl
  have g_law_plus : mg "_law_plus" = some (.ref (ga K "_law_plus")) := He.glo_ok X G (cA.t.d.fact 36 (f := .glo "_law_plus") rfl)
  have b_law_plus : Binds K d_law_plus ["_law_one", "_law_other"] [] := F_law_plus.bindsN (ps := ["_law_one", "_law_other"]) fun _ _ _ _ _ _ us hl => match us, hl with | [_, _], _ => rfl
  obtain ⟨d_law_times, F_law_times⟩ : ∃ fd, FnP K "_law_times" sTimes fd := cC.t.d.def_ 3 (d := D__law_times) rfl
  have g_law_times : mg "_law_times" = some (.ref (ga K "_law_times")) := He.glo_ok X G (cA.t.d.fact 37 (f := .glo "_law_times") rfl)
  have b_law_times : Binds K d_law_times ["_law_one", "_law_other"] [] := F_law_times.bindsN (ps := ["_law_one", "_law_other"]) fun _ _ _ _ _ _ us hl => match us, hl with | [_, _], _ => rfl
  obtain ⟨d_law_told, F_law_told⟩ : ∃ fd, FnP K "_law_told" sTold67 fd := cC.t.d.def_ 4 (d := D__law_told) rfl
  have g_law_told : mg "_law_told" = some (.ref (ga K "_law_told")) := He.glo_ok X G (cA.t.d.fact 38 (f := .glo "_law_told") rfl)
  have b_law_told : Binds K d_law_told ["_law_pair"] [] := F_law_told.bindsN (ps := ["_law_pair"]) fun _ _ _ _ _ _ us hl => match us, hl with | [_], _ => rfl
  obtain ⟨d_law_pair_of, F_law_pair_of⟩ : ∃ fd, FnP K "_law_pair_of" sPO67 fd := cC.t.d.def_ 5 (d := D__law_pair_of) rfl
  have g_law_pair_of : mg "_law_pair_of" = some (.ref (ga K "_law_pair_of")) := He.glo_ok X G (cA.t.d.fact 39 (f := .glo "_law_pair_of") rfl)
  have b_law_pair_of : Binds K d_law_pair_of ["_law_told_here"] [] := F_law_pair_of.bindsN (ps := ["_law_told_here"]) fun _ _ _ _ _ _ us hl => match us, hl with | [_], _ => rfl
  obtain ⟨d_law_small, F_law_small⟩ : ∃ fd, FnP K "_law_small" sSmall fd := cC.t.d.def_ 6 (d := D__law_small) rfl
  have g_law_small : mg "_law_small" = some (.ref (ga K "_law_small")) := He.glo_ok X G (cA.t.d.fact 40 (f := .glo "_law_small") rfl)
  have b_law_small : Binds K d_law_small ["_law_pen"] [] := F_law_small.bindsN (ps := ["_law_pen"]) fun _ _ _ _ _ _ us hl => match us, hl with | [_], _ => rfl
  obtain ⟨d_law_number, F_law_number⟩ : ∃ fd, FnP K "_law_number" sNum2 fd := cC.t.d.def_ 7 (d := D__law_number) rfl
  have g_law_number : mg "_law_number" = some (.ref (ga K "_law_number")) := He.glo_ok X G (cA.t.d.fact 41 (f := .glo "_law_number") rfl)
  have b_law_number : Binds K d_law_number ["_law_pen"] [] := F_law_number.bindsN (ps := ["_law_pen"]) fun _ _ _ _ _ _ us hl => match us, hl with | [_], _ => rfl
  obtain ⟨d_law_blend, F_law_blend⟩ : ∃ fd, FnP K "_law_blend" sBlend fd := cC.t.d.def_ 8 (d := D__law_blend) rfl
  have g_law_blend : mg "_law_blend" = some (.ref (ga K "_law_blend")) := He.glo_ok X G (cA.t.d.fact 42 (f := .glo "_law_blend") rfl)
  have b_law_blend : Binds K d_law_blend ["_law_one", "_law_other", "_law_by"] [] := F_law_blend.bindsN (ps := ["_law_one", "_law_other", "_law_by"]) fun _ _ _ _ _ _ us hl => match us, hl with | [_, _, _], _ => rfl
  obtain ⟨d_law_shown, F_law_shown⟩ : ∃ fd, FnP K "_law_shown" sShown67 fd := cC.t.d.def_ 9 (d := D__law_shown) rfl
  have g_law_shown : mg "_law_shown" = some (.ref (ga K "_law_shown")) := He.glo_ok X G (cA.t.d.fact 43 (f := .glo "_law_shown") rfl)
  have b_law_shown : Binds K d_law_shown ["_law_turns"] [] := F_law_shown.bindsN (ps := ["_law_turns"]) fun _ _ _ _ _ _ us hl => match us, hl with | [_], _ => rfl
  obtain ⟨d_law_read, F_law_read⟩ : ∃ fd, FnP K "_law_read" sRead67 fd := cC.t.d.def_ 10 (d := D__law_read) rfl
  have g_law_read : mg "_law_read" = some (.ref (ga K "_law_read")) := He.glo_ok X G (cA.t.d.fact 44 (f := .glo "_law_read") rfl)
  have b_law_read : Binds K d_law_read ["_law_told_here"] [] := F_law_read.bindsN (ps := ["_law_told_here"]) fun _ _ _ _ _ _ us hl => match us, hl with | [_], _ => rfl
  obtain ⟨d_law_climb, F_law_climb⟩ : ∃ fd, FnP K "_law_climb" sClimb67 fd := cC.t.d.def_ 11 (d := D__law_climb) rfl
  have g_law_climb : mg "_law_climb" = some (.ref (ga K "_law_climb")) := He.glo_ok X G (cA.t.d.fact 45 (f := .glo "_law_climb") rfl)
  have b_law_climb : Binds K d_law_climb ["_law_pen", "_law_most"] [] := F_law_climb.bindsN (ps := ["_law_pen", "_law_most"]) fun _ _ _ _ _ _ us hl => match us, hl with | [_, _], _ => rfl
  obtain ⟨d_law_rungs, F_law_rungs⟩ : ∃ fd, FnP K "_law_rungs" sRungs fd := cC.t.d.def_ 12 (d := D__law_rungs) rfl
  have g_law_rungs : mg "_law_rungs" = some (.ref (ga K "_law_rungs")) := He.glo_ok X G (cA.t.d.fact 46 (f := .glo "_law_rungs") rfl)
  have b_law_rungs : Binds K d_law_rungs ["_law_chain"] [] := F_law_rungs.bindsN (ps := ["_law_chain"]) fun _ _ _ _ _ _ us hl => match us, hl with | [_], _ => rfl
  obtain ⟨d_law_back, F_law_back⟩ : ∃ fd, FnP K "_law_back" sBack67 fd := cC.t.d.def_ 13 (d := D__law_back) rfl
  have g_law_back : mg "_law_back" = some (.ref (ga K "_law_back")) := He.glo_ok X G (cA.t.d.fact 47 (f := .glo "_law_back") rfl)
  have b_law_back : Binds K d_law_back ["_law_chain"] [] := F_law_back.bindsN (ps := ["_law_chain"]) fun _ _ _ _ _ _ us hl => match us, hl with | [_], _ => rfl
  obtain ⟨d_law_amounts, F_law_amounts⟩ : ∃ fd, FnP K "_law_amounts" sAmL fd := cC.t.d.def_ 14 (d := D__law_amounts) rfl
  have g_law_amounts : mg "_law_amounts" = some (.ref (ga K "_law_amounts")) := He.glo_ok X G (cA.t.d.fact 48 (f := .glo "_law_amounts") rfl)
  have b_law_amounts : Binds K d_law_amounts ["_law_parts", "_law_lane", "_law_is_rounded"] [] := F_law_amounts.bindsN (ps := ["_law_parts", "_law_lane", "_law_is_rounded"]) fun _ _ _ _ _ _ us hl => match us, hl with | [_, _, _], _ => rfl
  obtain ⟨d_law_climbed, F_law_climbed⟩ : ∃ fd, FnP K "_law_climbed" sClimbed fd := cC.t.d.def_ 15 (d := D__law_climbed) rfl
  have g_law_climbed : mg "_law_climbed" = some (.ref (ga K "_law_climbed")) := He.glo_ok X G (cA.t.d.fact 49 (f := .glo "_law_climbed") rfl)
  have b_law_climbed : Binds K d_law_climbed ["_law_chain", "_law_lanes", "_law_is_rounded"] [] := F_law_climbed.bindsN (ps := ["_law_chain", "_law_lanes", "_law_is_rounded"]) fun _ _ _ _ _ _ us hl => match us, hl with | [_, _, _], _ => rfl
  obtain ⟨d_law_flat, F_law_flat⟩ : ∃ fd, FnP K "_law_flat" sFlat67 fd := cC.t.d.def_ 16 (d := D__law_flat) rfl
  have g_law_flat : mg "_law_flat" = some (.ref (ga K "_law_flat")) := He.glo_ok X G (cA.t.d.fact 50 (f := .glo "_law_flat") rfl)
  have b_law_flat : Binds K d_law_flat ["_law_rows"] [] := F_law_flat.bindsN (ps := ["_law_rows"]) fun _ _ _ _ _ _ us hl => match us, hl with | [_], _ => rfl
  obtain ⟨d_law_numbers, F_law_numbers⟩ : ∃ fd, FnP K "_law_numbers" sNums67 fd := cC.t.d.def_ 17 (d := D__law_numbers) rfl
  have g_law_numbers : mg "_law_numbers" = some (.ref (ga K "_law_numbers")) := He.glo_ok X G (cA.t.d.fact 51 (f := .glo "_law_numbers") rfl)
  have b_law_numbers : Binds K d_law_numbers ["_law_pen", "_law_many", "_law_integers_alone"] [] := F_law_numbers.bindsN (ps := ["_law_pen", "_law_many", "_law_integers_alone"]) fun _ _ _ _ _ _ us hl => match us, hl with | [_, _, _], _ => rfl
  obtain ⟨dlaw, Flaw⟩ : ∃ fd, FnP K "law" sLaw67 fd := cC.t.d.def_ 18 (d := D_law) rfl
  have glaw : mg "law" = some (.ref (ga K "law")) := He.glo_ok X G (cA.t.d.fact 52 (f := .glo "law") rfl)
  have blaw : Binds K dlaw ["_law_script"] [] := Flaw.bindsN (ps := ["_law_script"]) fun _ _ _ _ _ _ us hl => match us, hl with | [_], _ => rfl
  obtain ⟨dBadValue___init__, FBadValue___init__⟩ : ∃ fd, MthP K "BadValue" "__init__" "BadValue.__init__" iBad [] fd := cC.t.d.def_ 19 (d := D_BadValue___init__) rfl
  obtain ⟨dRatio___init__, FRatio___init__⟩ : ∃ fd, MthP K "Ratio" "__init__" "Ratio.__init__" sInit [.int 1] fd := cC.t.d.def_ 20 (d := D_Ratio___init__) rfl
  obtain ⟨dRatio___add__, FRatio___add__⟩ : ∃ fd, MthP K "Ratio" "__add__" "Ratio.__add__" sAdd [] fd := cC.t.d.def_ 21 (d := D_Ratio___add__) rfl
  obtain ⟨dRatio___sub__, FRatio___sub__⟩ : ∃ fd, MthP K "Ratio" "__sub__" "Ratio.__sub__" sSub [] fd := cC.t.d.def_ 22 (d := D_Ratio___sub__) rfl
  obtain ⟨dRatio___mul__, FRatio___mul__⟩ : ∃ fd, MthP K "Ratio" "__mul__" "Ratio.__mul__" sMul [] fd := cC.t.d.def_ 23 (d := D_Ratio___mul__) rfl
  obtain ⟨dRatio_inverse, FRatio_inverse⟩ : ∃ fd, MthP K "Ratio" "inverse" "Ratio.inverse" sInv [] fd := cC.t.d.def_ 24 (d := D_Ratio_inverse) rfl
  obtain ⟨dRatio_floor, FRatio_floor⟩ : ∃ fd, MthP K "Ratio" "floor" "Ratio.floor" sFloor [] fd := cC.t.d.def_ 25 (d := D_Ratio_floor) rfl
  obtain ⟨dMark___init__, FMark___init__⟩ : ∃ fd, MthP K "Mark" "__init__" "Mark.__init__" sMInit [] fd := cC.t.d.def_ 26 (d := D_Mark___init__) rfl
  obtain ⟨dPoly___init__, FPoly___init__⟩ : ∃ fd, MthP K "Poly" "__init__" "Poly.__init__" sPInit [] fd := cC.t.d.def_ 27 (d := D_Poly___init__) rfl
  obtain ⟨dPoly___mul__, FPoly___mul__⟩ : ∃ fd, MthP K "Poly" "__mul__" "Poly.__mul__" sMulP [] fd := cC.t.d.def_ 28 (d := D_Poly___mul__) rfl
  obtain ⟨dPoly_part, FPoly_part⟩ : ∃ fd, MthP K "Poly" "part" "Poly.part" sPartP [] fd := cC.t.d.def_ 29 (d := D_Poly_part) rfl
  obtain ⟨dLadder___init__, FLadder___init__⟩ : ∃ fd, MthP K "Ladder" "__init__" "Ladder.__init__" sLInit [] fd := cC.t.d.def_ 30 (d := D_Ladder___init__) rfl
  obtain ⟨dLadder_run_rounded, FLadder_run_rounded⟩ : ∃ fd, MthP K "Ladder" "run_rounded" "Ladder.run_rounded" sRunR [] fd := cC.t.d.def_ 31 (d := D_Ladder_run_rounded) rfl
  obtain ⟨dLadder_undone, FLadder_undone⟩ : ∃ fd, MthP K "Ladder" "undone" "Ladder.undone" sUndone [] fd := cC.t.d.def_ 32 (d := D_Ladder_undone) rfl
  have bRatio___add__ : Binds K dRatio___add__ ["self", "other"] [] := FRatio___add__.bindsN (ps := ["self", "other"]) fun _ _ _ _ _ _ us hl => match us, hl with | [_, _], _ => rfl
  have bRatio___sub__ : Binds K dRatio___sub__ ["self", "other"] [] := FRatio___sub__.bindsN (ps := ["self", "other"]) fun _ _ _ _ _ _ us hl => match us, hl with | [_, _], _ => rfl
  have bRatio___mul__ : Binds K dRatio___mul__ ["self", "other"] [] := FRatio___mul__.bindsN (ps := ["self", "other"]) fun _ _ _ _ _ _ us hl => match us, hl with | [_, _], _ => rfl
  have bRatio_inverse : Binds K dRatio_inverse ["self"] [] := FRatio_inverse.bindsN (ps := ["self"]) fun _ _ _ _ _ _ us hl => match us, hl with | [_], _ => rfl
  have bRatio_floor : Binds K dRatio_floor ["self"] [] := FRatio_floor.bindsN (ps := ["self"]) fun _ _ _ _ _ _ us hl => match us, hl with | [_], _ => rfl
  have bMark___init__ : Binds K dMark___init__ ["self", "below"] [] := FMark___init__.bindsN (ps := ["self", "below"]) fun _ _ _ _ _ _ us hl => match us, hl with | [_, _], _ => rfl
  have bPoly___init__ : Binds K dPoly___init__ ["self", "parts"] [] := FPoly___init__.bindsN (ps := ["self", "parts"]) fun _ _ _ _ _ _ us hl => match us, hl with | [_, _], _ => rfl
  have bPoly___mul__ : Binds K dPoly___mul__ ["self", "other"] [] := FPoly___mul__.bindsN (ps := ["self", "other"]) fun _ _ _ _ _ _ us hl => match us, hl with | [_, _], _ => rfl
  have bPoly_part : Binds K dPoly_part ["self", "number"] [] := FPoly_part.bindsN (ps := ["self", "number"]) fun _ _ _ _ _ _ us hl => match us, hl with | [_, _], _ => rfl
  have bLadder___init__ : Binds K dLadder___init__ ["self", "rungs"] [] := FLadder___init__.bindsN (ps := ["self", "rungs"]) fun _ _ _ _ _ _ us hl => match us, hl with | [_, _], _ => rfl
  have bLadder_run_rounded : Binds K dLadder_run_rounded ["self", "first", "second"] [] := FLadder_run_rounded.bindsN (ps := ["self", "first", "second"]) fun _ _ _ _ _ _ us hl => match us, hl with | [_, _, _], _ => rfl
  have bLadder_undone : Binds K dLadder_undone ["self"] [] := FLadder_undone.bindsN (ps := ["self"]) fun _ _ _ _ _ _ us hl => match us, hl with | [_], _ => rfl
  have MRatio___add__ : Meth K (ga K "Ratio") "__add__" (ma K (ga K "Ratio") "__add__") := He.meth_ok (cA.t.d.fact 94 (f := .meth "Ratio" "__add__") rfl)
  have MRatio___radd__ : Meth K (ga K "Ratio") "__radd__" (ma K (ga K "Ratio") "__radd__") := He.meth_ok (cA.t.d.fact 95 (f := .meth "Ratio" "__radd__") rfl)
  have MRatio___sub__ : Meth K (ga K "Ratio") "__sub__" (ma K (ga K "Ratio") "__sub__") := He.meth_ok (cA.t.d.fact 96 (f := .meth "Ratio" "__sub__") rfl)
  have MRatio___rsub__ : Meth K (ga K "Ratio") "__rsub__" (ma K (ga K "Ratio") "__rsub__") := He.meth_ok (cA.t.d.fact 97 (f := .meth "Ratio" "__rsub__") rfl)
  have MRatio___mul__ : Meth K (ga K "Ratio") "__mul__" (ma K (ga K "Ratio") "__mul__") := He.meth_ok (cA.t.d.fact 98 (f := .meth "Ratio" "__mul__") rfl)
  have MRatio___rmul__ : Meth K (ga K "Ratio") "__rmul__" (ma K (ga K "Ratio") "__rmul__") := He.meth_ok (cA.t.d.fact 99 (f := .meth "Ratio" "__rmul__") rfl)
  have MRatio_inverse : Meth K (ga K "Ratio") "inverse" (ma K (ga K "Ratio") "inverse") := He.meth_ok (cA.t.d.fact 100 (f := .meth "Ratio" "inverse") rfl)
  have MRatio_floor : Meth K (ga K "Ratio") "floor" (ma K (ga K "Ratio") "floor") := He.meth_ok (cA.t.d.fact 101 (f := .meth "Ratio" "floor") rfl)
  have MPoly___mul__ : Meth K (ga K "Poly") "__mul__" (ma K (ga K "Poly") "__mul__") := He.meth_ok (cA.t.d.fact 102 (f := .meth "Poly" "__mul__") rfl)
  have MPoly___rmul__ : Meth K (ga K "Poly") "__rmul__" (ma K (ga K "Poly") "__rmul__") := He.meth_ok (cA.t.d.fact 103 (f := .meth "Poly" "__rmul__") rfl)
  have MPoly_part : Meth K (ga K "Poly") "part" (ma K (ga K "Poly") "part") := He.meth_ok (cA.t.d.fact 104 (f := .meth "Poly" "part") rfl)
  have MLadder_run_rounded : Meth K (ga K "Ladder") "run_rounded" (ma K (ga K "Ladder") "run_rounded") := He.meth_ok (cA.t.d.fact 105 (f := .meth "Ladder" "run_rounded") rfl)
  have MLadder_undone : Meth K (ga K "Ladder") "undone" (ma K (ga K "Ladder") "undone") := He.meth_ok (cA.t.d.fact 106 (f := .meth "Ladder" "undone") rfl)
  obtain ⟨x1, y⟩ := He.ba cA.more
  obtain ⟨x2, y⟩ := He.ba y
  obtain ⟨x3, y⟩ := He.ba y
  obtain ⟨x4, y⟩ := He.ba y
  obtain ⟨x7, y⟩ := He.ba y
  obtain ⟨x8, y⟩ := He.ba y
  obtain ⟨x9, y⟩ := He.ba y
  obtain ⟨x10, y⟩ := He.ba y
  obtain ⟨x11, y⟩ := He.ba y
  obtain ⟨x12, y⟩ := He.ba y
  obtain ⟨x16, y⟩ := He.ba y
  obtain ⟨x13, y⟩ := He.ba y
  obtain ⟨x14, x15⟩ := He.ba y
  have cR : Cls K (ga K "Ratio") := He.cls_ok (cA.t.d.fact 79 (f := .cls "Ratio") rfl)
  obtain ⟨tyR, tR⟩ := tyB_ok x4 cR
  have O1 := oneB_ok x1
  obtain ⟨n1, y⟩ := He.ba x2
  obtain ⟨n2, y⟩ := He.ba y
  obtain ⟨n3, n4⟩ := He.ba y
  have cP : Cls K (ga K "Poly") := He.cls_ok (cA.t.d.fact 84 (f := .cls "Poly") rfl)
  have cM : Cls K (ga K "Mark") := He.cls_ok (cA.t.d.fact 88 (f := .cls "Mark") rfl)
  obtain ⟨tyM, tM⟩ := tyB_ok x10 cM
  obtain ⟨tyP, tP⟩ := tyB_ok x12 cP
  have neCP : ga K "Ratio" ≠ ga K "Poly" := fun z => by
    rw [z, Nat.beq_refl] at x13
    cases x13
  have gBadValue : mg "BadValue" = some (.ref (ga K "BadValue")) := He.glo_ok X G (cA.t.d.fact 53 (f := .glo "BadValue") rfl)
  have gNoDivisor : mg "NoDivisor" = some (.ref (ga K "NoDivisor")) := He.glo_ok X G (cA.t.d.fact 54 (f := .glo "NoDivisor") rfl)
  have gRatio : mg "Ratio" = some (.ref (ga K "Ratio")) := He.glo_ok X G (cA.t.d.fact 55 (f := .glo "Ratio") rfl)
  have gPoly : mg "Poly" = some (.ref (ga K "Poly")) := He.glo_ok X G (cA.t.d.fact 56 (f := .glo "Poly") rfl)
  have gMark : mg "Mark" = some (.ref (ga K "Mark")) := He.glo_ok X G (cA.t.d.fact 57 (f := .glo "Mark") rfl)
  have gLadder : mg "Ladder" = some (.ref (ga K "Ladder")) := He.glo_ok X G (cA.t.d.fact 58 (f := .glo "Ladder") rfl)
  have gRUNGS : mg "RUNGS" = some (.ref (ga K "RUNGS")) := He.glo_ok X G (cA.t.d.fact 59 (f := .glo "RUNGS") rfl)
  have gTAKEN_BACK : mg "TAKEN_BACK" = some (.ref (ga K "TAKEN_BACK")) := He.glo_ok X G (cA.t.d.fact 60 (f := .glo "TAKEN_BACK") rfl)
  have fint : mg "int" = none := He.free_ok X G (cA.t.d.fact 61 (f := .free "int") rfl)
  have fbool : mg "bool" = none := He.free_ok X G (cA.t.d.fact 62 (f := .free "bool") rfl)
  have fisinstance : mg "isinstance" = none := He.free_ok X G (cA.t.d.fact 63 (f := .free "isinstance") rfl)
  have fabs : mg "abs" = none := He.free_ok X G (cA.t.d.fact 64 (f := .free "abs") rfl)
  have fstr : mg "str" = none := He.free_ok X G (cA.t.d.fact 65 (f := .free "str") rfl)
  have flist : mg "list" = none := He.free_ok X G (cA.t.d.fact 66 (f := .free "list") rfl)
  have flen : mg "len" = none := He.free_ok X G (cA.t.d.fact 67 (f := .free "len") rfl)
  have frange : mg "range" = none := He.free_ok X G (cA.t.d.fact 68 (f := .free "range") rfl)
  have fmin : mg "min" = none := He.free_ok X G (cA.t.d.fact 69 (f := .free "min") rfl)
  have fall : mg "all" = none := He.free_ok X G (cA.t.d.fact 70 (f := .free "all") rfl)
  have fmax : mg "max" = none := He.free_ok X G (cA.t.d.fact 71 (f := .free "max") rfl)
  have ftuple : mg "tuple" = none := He.free_ok X G (cA.t.d.fact 72 (f := .free "tuple") rfl)
  have fgetattr : mg "getattr" = none := He.free_ok X G (cA.t.d.fact 73 (f := .free "getattr") rfl)
  have fzip : mg "zip" = none := He.free_ok X G (cA.t.d.fact 74 (f := .free "zip") rfl)
  have fenumerate : mg "enumerate" = none := He.free_ok X G (cA.t.d.fact 75 (f := .free "enumerate") rfl)
  have fNotImplemented : mg "NotImplemented" = none := He.free_ok X G (cA.t.d.fact 76 (f := .free "NotImplemented") rfl)
  have fsum : mg "sum" = none := He.free_ok X G (cA.t.d.fact 77 (f := .free "sum") rfl)
  have fany : mg "any" = none := He.free_ok X G (cA.t.d.fact 78 (f := .free "any") rfl)
  have TX : TxtR mg := ⟨fint, fbool, fisinstance, fabs, fstr, flist, flen, frange, fmin, fall, bltB_ok X G x7⟩
  have bl := bltB_ok X G x8
  have MK : MarkC K mg (ga K "Mark") := ⟨gMark, fgetattr, top1B_ok x9, tM⟩
  have RC : RatC K mg (ga K "Ratio") (ma K (ga K "Ratio") "__init__") := ⟨He.mkr_ok (cA.t.d.fact 83 (f := .mkr "Ratio") rfl), cR, He.noat_ok (cA.t.d.fact 80 (f := .noat "Ratio" "top") rfl), He.noat_ok (cA.t.d.fact 81 (f := .noat "Ratio" "bottom") rfl), gRatio, top1B_ok x3, tR⟩
  have nRM : NoAttr K (ga K "Ratio") "mark" := He.noat_ok (cA.t.d.fact 82 (f := .noat "Ratio" "mark") rfl)
  have PC : PolC K mg (ga K "Poly") (ga K "Mark") (ma K (ga K "Poly") "__init__") (ma K (ga K "Mark") "__init__") := ⟨He.mkr_ok (cA.t.d.fact 87 (f := .mkr "Poly") rfl), cP, He.noat_ok (cA.t.d.fact 85 (f := .noat "Poly" "parts") rfl), He.noat_ok (cA.t.d.fact 86 (f := .noat "Poly" "mark") rfl), gPoly, top1B_ok x11, tP, He.mkr_ok (cA.t.d.fact 90 (f := .mkr "Mark") rfl), cM, He.noat_ok (cA.t.d.fact 89 (f := .noat "Mark" "below") rfl), gMark⟩
  have XM : ExmR K (ga K "BadValue") (ga K "NoDivisor") := ⟨He.exm_ok (cA.t.d.fact 107 (f := .exm "BadValue" "BadValue" true) rfl), He.exm_ok (cA.t.d.fact 108 (f := .exm "NoDivisor" "BadValue" false) rfl), He.exm_ok (cA.t.d.fact 109 (f := .exm "NoDivisor" "NoDivisor" true) rfl)⟩
  have e := hfa.symm.trans glaw
  cases e
  refine ⟨dlaw, [], spLaw67 K, (fun p hp => by cases hp), (fun p hp => by cases hp), (fun p hp => by cases hp), fun s v => FunD.bindsA (ps := ["_law_script"]) Flaw (fun _ _ _ _ _ _ us hl => match us, hl with | [_], _ => rfl) s [v] rfl, fun H a ns hl _ ht hS => ⟨a, ns, rfl, hS, hl, fun _ => rfl⟩, fun base KB NB TB => ?_⟩
  have ER : ErrR PySem.Challenge.rw_allstreams_k67_whole_rounded_ladders.prog w K mg base (ga K "BadValue") (ga K "NoDivisor") := ⟨oBad (funOf FBadValue___init__) O1.O gBadValue O1.Z O1.no, ⟨n1, n2, gNoDivisor, clsXB_ok n4⟩, O1.ty, eqV_ok n3⟩
  have Gis_integer := ok_isInt (P := PySem.Challenge.rw_allstreams_k67_whole_rounded_ladders.prog) (w := w) (base := base) (funOf Fis_integer) TX
  have Gis_whole : FnOk PySem.Challenge.rw_allstreams_k67_whole_rounded_ladders.prog w K mg base _ _ _ _ _ _ := ok_isWh (funOf Fis_whole) ⟨⟨_, _, Gis_integer, gis_integer, Fis_integer.kp, bis_integer⟩⟩
  have Gneed_whole : FnOk PySem.Challenge.rw_allstreams_k67_whole_rounded_ladders.prog w K mg base _ _ _ _ _ _ := ok_needWh (funOf Fneed_whole) ⟨⟨_, _, Gis_whole, gis_whole, Fis_whole.kp, bis_whole⟩⟩ ER
  have Gis_within : FnOk PySem.Challenge.rw_allstreams_k67_whole_rounded_ladders.prog w K mg base _ _ _ _ _ _ := ok_isW (funOf Fis_within) Gis_integer gis_integer Fis_integer.kp bis_integer
  have RT : Rat PySem.Challenge.rw_allstreams_k67_whole_rounded_ladders.prog w K mg base (ga K "BadValue") (ga K "NoDivisor") (ga K "Ratio") (ma K (ga K "Ratio") "__init__") := mk_rat0 FRatio___init__ ER RC TX tyR
  have Glooks_after0 := ok_looks (P := PySem.Challenge.rw_allstreams_k67_whole_rounded_ladders.prog) (w := w) (base := base) (funOf Flooks_after) MK TX
  have Glooks_afterP := ok_looksP (P := PySem.Challenge.rw_allstreams_k67_whole_rounded_ladders.prog) (w := w) (base := base) (C := (ga K "Ratio")) (funOf Flooks_after) MK TX PC tyM
  have Glooks_afterR := ok_looksR (P := PySem.Challenge.rw_allstreams_k67_whole_rounded_ladders.prog) (w := w) (base := base) (funOf Flooks_after) MK TX RC nRM x16
  have Glooks_after : FnOk PySem.Challenge.rw_allstreams_k67_whole_rounded_ladders.prog w K mg base CX0 1 (ga K "looks_after") dlooks_after ["value", "below"] (spLooksA K (ga K "Ratio") (ga K "Poly") (ga K "Mark")) := FnOk.or Glooks_after0 (FnOk.or Glooks_afterP Glooks_afterR)
  have Gas_ratio := ok_as (funOf Fas_ratio) RT TX
  have Goperand := ok_opd (funOf Foperand) RT TX Glooks_after0 glooks_after Flooks_after.kp blooks_after Gas_ratio gas_ratio Fas_ratio.kp bas_ratio
  have GRatio___add__ := ok_add (funOf FRatio___add__) RT Goperand goperand Foperand.kp boperand
  have Oadd : OpC K (ga K "Ratio") (ma K (ga K "Ratio") "__add__") (ma K (ga K "Ratio") "__radd__") .Add := ⟨MRatio___add__.at_, MRatio___add__.fn, MRatio___radd__.at_, MRatio___radd__.fn⟩
  have GRatio___sub__ := ok_sub (funOf FRatio___sub__) RT Goperand goperand Foperand.kp boperand
  have Osub : OpC K (ga K "Ratio") (ma K (ga K "Ratio") "__sub__") (ma K (ga K "Ratio") "__rsub__") .Sub := ⟨MRatio___sub__.at_, MRatio___sub__.fn, MRatio___rsub__.at_, MRatio___rsub__.fn⟩
  have GRatio___mul__ := ok_mul (funOf FRatio___mul__) RT Goperand goperand Foperand.kp boperand
  have Omul : OpC K (ga K "Ratio") (ma K (ga K "Ratio") "__mul__") (ma K (ga K "Ratio") "__rmul__") .Mult := ⟨MRatio___mul__.at_, MRatio___mul__.fn, MRatio___rmul__.at_, MRatio___rmul__.fn⟩
  have OmulP : OpC K (ga K "Poly") (ma K (ga K "Poly") "__mul__") (ma K (ga K "Poly") "__rmul__") .Mult := ⟨MPoly___mul__.at_, MPoly___mul__.fn, MPoly___rmul__.at_, MPoly___rmul__.fn⟩
  have GRatio_inverse := ok_inv (funOf FRatio_inverse) RT
  have GRatio_floor : FnOk PySem.Challenge.rw_allstreams_k67_whole_rounded_ladders.prog w K mg base _ _ _ _ _ _ := ok_floor (funOf FRatio_floor) RT
  have Gis_list := ok_isLT (P := PySem.Challenge.rw_allstreams_k67_whole_rounded_ladders.prog) (w := w) (base := base) (funOf Fis_list) TX ftuple
  have Gneed_list := ok_needL (funOf Fneed_list) Gis_list gis_list Fis_list.kp bis_list ER
  have Gratio_list := ok_rList (funOf Fratio_list) RT Gneed_list gneed_list Fneed_list.kp bneed_list Gas_ratio gas_ratio Fas_ratio.kp bas_ratio
  have GMark___init__ := ok_mInit (P := PySem.Challenge.rw_allstreams_k67_whole_rounded_ladders.prog) (w := w) (base := base) (funOf FMark___init__) PC
  have GPoly___init__ := ok_pInit (funOf FPoly___init__) TX ftuple PC RT GMark___init__ bMark___init__ ⟨⟨_, _, Gratio_list, gratio_list, Fratio_list.kp, bratio_list⟩⟩
  have PL : Pol PySem.Challenge.rw_allstreams_k67_whole_rounded_ladders.prog w K mg base (ga K "BadValue") (ga K "Ratio") (ga K "Poly") (ga K "Mark") (ma K (ga K "Poly") "__init__") (ma K (ga K "Mark") "__init__") := ⟨PC, _, GPoly___init__, bPoly___init__⟩
  have Gnorm : FnOk PySem.Challenge.rw_allstreams_k67_whole_rounded_ladders.prog w K mg base _ _ _ _ _ _ := ok_norm (funOf Fnorm) TX fsum
  have Ggreatest : FnOk PySem.Challenge.rw_allstreams_k67_whole_rounded_ladders.prog w K mg base _ _ _ _ _ _ := ok_great (funOf Fgreatest) TX fmax
  have Gshortened : FnOk PySem.Challenge.rw_allstreams_k67_whole_rounded_ladders.prog w K mg base _ _ _ _ _ _ := ok_trimmed (funOf Fshortened) TX
  have Gpacked : FnOk PySem.Challenge.rw_allstreams_k67_whole_rounded_ladders.prog w K mg base _ _ _ _ _ _ := ok_packed (funOf Fpacked) TX fzip
  have Gunpacked : FnOk PySem.Challenge.rw_allstreams_k67_whole_rounded_ladders.prog w K mg base _ _ _ _ _ _ := ok_unp (funOf Funpacked) TX ⟨⟨_, _, Gpacked, gpacked, Fpacked.kp, bpacked⟩⟩ ⟨⟨_, _, Gshortened, gshortened, Fshortened.kp, bshortened⟩⟩
  have Gmultiplied : FnOk PySem.Challenge.rw_allstreams_k67_whole_rounded_ladders.prog w K mg base _ _ _ _ _ _ := ok_mulD (funOf Fmultiplied) ⟨⟨_, _, Gnorm, gnorm, Fnorm.kp, bnorm⟩⟩ ⟨⟨_, _, Ggreatest, ggreatest, Fgreatest.kp, bgreatest⟩⟩ ⟨⟨_, _, Gpacked, gpacked, Fpacked.kp, bpacked⟩⟩ ⟨⟨_, _, Gunpacked, gunpacked, Funpacked.kp, bunpacked⟩⟩
  have Gshared_bottom := ok_shB (funOf Fshared_bottom) RT bl
  have Gwhole_parts := ok_whl (funOf Fwhole_parts) RT ⟨⟨_, _, Gshared_bottom, gshared_bottom, Fshared_bottom.kp, bshared_bottom⟩⟩
  have Gpoly_by := ok_pby (funOf Fpoly_by) RT PL
  have Gas_poly := ok_asPG (funOf Fas_poly) RT PL neCP tyP ⟨⟨_, _, Gas_ratio, gas_ratio, Fas_ratio.kp, bas_ratio⟩⟩
  have GPoly___mul__ := ok_mulPG (funOf FPoly___mul__) PC ⟨⟨_, _, Glooks_after, glooks_after, Flooks_after.kp, blooks_after⟩⟩ ⟨⟨_, _, Gas_poly, gas_poly, Fas_poly.kp, bas_poly⟩⟩ ⟨⟨_, _, Gwhole_parts, gwhole_parts, Fwhole_parts.kp, bwhole_parts⟩⟩ ⟨⟨_, _, Gmultiplied, gmultiplied, Fmultiplied.kp, bmultiplied⟩⟩ ⟨⟨_, _, Gpoly_by, gpoly_by, Fpoly_by.kp, bpoly_by⟩⟩
  have GPoly_part : FnOk PySem.Challenge.rw_allstreams_k67_whole_rounded_ladders.prog w K mg base _ _ _ _ _ _ := ok_partP (funOf FPoly_part) RT PC ⟨⟨_, _, Gneed_whole, gneed_whole, Fneed_whole.kp, bneed_whole⟩⟩
  have Gis_lane : FnOk PySem.Challenge.rw_allstreams_k67_whole_rounded_ladders.prog w K mg base _ _ _ _ _ _ := ok_isLane (funOf Fis_lane) ⟨⟨_, _, Gis_within, gis_within, Fis_within.kp, bis_within⟩⟩
  have Gis_amount : FnOk PySem.Challenge.rw_allstreams_k67_whole_rounded_ladders.prog w K mg base _ _ _ _ _ _ := ok_isAm (C := (ga K "Ratio")) (funOf Fis_amount) TX PC tyP ⟨⟨_, _, Gis_lane, gis_lane, Fis_lane.kp, bis_lane⟩⟩
  have Gis_exchange : FnOk PySem.Challenge.rw_allstreams_k67_whole_rounded_ladders.prog w K mg base _ _ _ _ _ _ := ok_isEx (funOf Fis_exchange) TX
  have Gis_factor : FnOk PySem.Challenge.rw_allstreams_k67_whole_rounded_ladders.prog w K mg base _ _ _ _ _ _ := ok_isFac (funOf Fis_factor) TX RT ⟨⟨_, _, Gis_lane, gis_lane, Fis_lane.kp, bis_lane⟩⟩
  have Gis_late : FnOk PySem.Challenge.rw_allstreams_k67_whole_rounded_ladders.prog w K mg base _ _ _ _ _ _ := ok_isLate (funOf Fis_late) TX ⟨⟨_, _, Gis_lane, gis_lane, Fis_lane.kp, bis_lane⟩⟩ ⟨⟨_, _, Gis_integer, gis_integer, Fis_integer.kp, bis_integer⟩⟩
  have ref_of : ∀ {x : Addr} {u : Value}, RelV (.ref x) u → u = .ref x := fun h => h
  obtain ⟨esR, nR, kdR⟩ := cA.t.tab 0
  obtain ⟨esT, nT, kdT⟩ := cA.t.tab 1
  have vr : ∀ (q : Str × He.Dv), q ∈ vR → ∀ x : Str, q.2 = .glo x → PySem.W.nsIn K (ga K "RUNGS") q.1 = some (some (.ref (ga K x))) := fun q hq x e => by
    obtain ⟨u, h1, h2⟩ := He.valsB_ok x14 hq
    rw [e] at h2
    rw [h1, ref_of h2]
  have RGD : RgD PySem.Challenge.rw_allstreams_k67_whole_rounded_ladders.prog w K mg base (ga K "Ratio") (ga K "Poly") (ga K "Mark") := ⟨ga K "RUNGS", esR, nR, gRUNGS, kdR, fun z hz => ⟨ga K "is_amount", by
      rcases hz with rfl | rfl
      · exact vr ("add", .glo "is_amount") (by simp [vR]) _ rfl
      · exact vr ("take", .glo "is_amount") (by simp [vR]) _ rfl, ⟨⟨_, _, Gis_amount, Fis_amount.kp, bis_amount⟩⟩⟩,
    ⟨ga K "is_exchange", vr ("exchange", .glo "is_exchange") (by simp [vR]) _ rfl, ⟨⟨_, _, Gis_exchange.mono (by decide), Fis_exchange.kp, bis_exchange⟩⟩⟩,
    ⟨ga K "is_factor", vr ("factor", .glo "is_factor") (by simp [vR]) _ rfl, ⟨⟨_, _, Gis_factor, Fis_factor.kp, bis_factor⟩⟩⟩,
    ⟨ga K "is_late", vr ("late", .glo "is_late") (by simp [vR]) _ rfl, ⟨⟨_, _, Gis_late, Fis_late.kp, bis_late⟩⟩⟩⟩
  have TKD : TkD w K mg := ⟨ga K "TAKEN_BACK", esT, nT, gTAKEN_BACK, kdT, He.valsB_ok x15 (q := ("add", .str "take")) (by simp [vT]), He.valsB_ok x15 (q := ("take", .str "add")) (by simp [vT])⟩
  have Gis_rung : FnOk PySem.Challenge.rw_allstreams_k67_whole_rounded_ladders.prog w K mg base _ _ _ _ _ _ := ok_isRung (funOf Fis_rung) TX ⟨⟨_, _, Gis_list, gis_list, Fis_list.kp, bis_list⟩⟩ RGD
  have LC : LadC K mg (ga K "Ladder") (ma K (ga K "Ladder") "__init__") := ⟨He.mkr_ok (cA.t.d.fact 93 (f := .mkr "Ladder") rfl), He.cls_ok (cA.t.d.fact 91 (f := .cls "Ladder") rfl), He.noat_ok (cA.t.d.fact 92 (f := .noat "Ladder" "rungs") rfl), gLadder⟩
  have GLadder___init__ : FnOk PySem.Challenge.rw_allstreams_k67_whole_rounded_ladders.prog w K mg base _ _ _ _ _ _ := ok_lInit (funOf FLadder___init__) TX ftuple ER LC ⟨⟨_, _, Gneed_list, gneed_list, Fneed_list.kp, bneed_list⟩⟩ ⟨⟨_, _, Gis_rung, gis_rung, Fis_rung.kp, bis_rung⟩⟩
  have LA : Lad PySem.Challenge.rw_allstreams_k67_whole_rounded_ladders.prog w K mg base (ga K "Ratio") (ga K "Poly") (ga K "Mark") (ga K "Ladder") (ma K (ga K "Ladder") "__init__") := ⟨LC, _, GLadder___init__, bLadder___init__⟩
  have Gtaken_back : FnOk PySem.Challenge.rw_allstreams_k67_whole_rounded_ladders.prog w K mg base _ _ _ _ _ _ := ok_backP (CP := (ga K "Poly")) (CM := (ga K "Mark")) (funOf Ftaken_back) RC TKD MRatio_inverse GRatio_inverse bRatio_inverse
  have GLadder_undone : FnOk PySem.Challenge.rw_allstreams_k67_whole_rounded_ladders.prog w K mg base _ _ _ _ _ _ := ok_undone (funOf FLadder_undone) LA ⟨⟨_, _, Gtaken_back, gtaken_back, Ftaken_back.kp, btaken_back⟩⟩
  have Gtold_lanes : FnOk PySem.Challenge.rw_allstreams_k67_whole_rounded_ladders.prog w K mg base _ _ _ _ _ _ := ok_TL (funOf Ftold_lanes) TX ER ⟨⟨_, _, Gratio_list, gratio_list, Fratio_list.kp, bratio_list⟩⟩
  have Gamounts_of : FnOk PySem.Challenge.rw_allstreams_k67_whole_rounded_ladders.prog w K mg base _ _ _ _ _ _ := ok_amts (funOf Famounts_of) TX RT PL OmulP GPoly___mul__ bPoly___mul__ Oadd GRatio___add__ bRatio___add__ MPoly_part GPoly_part bPoly_part MRatio_floor GRatio_floor bRatio_floor
  have Gstepped : FnOk PySem.Challenge.rw_allstreams_k67_whole_rounded_ladders.prog w K mg base _ _ _ _ _ _ := ok_step (funOf Fstepped) TX fzip RT Oadd GRatio___add__ bRatio___add__ Osub GRatio___sub__ bRatio___sub__ Omul GRatio___mul__ bRatio___mul__ ⟨⟨_, _, Gamounts_of, gamounts_of, Famounts_of.kp, bamounts_of⟩⟩
  have GLadder_run_rounded : FnOk PySem.Challenge.rw_allstreams_k67_whole_rounded_ladders.prog w K mg base _ _ _ _ _ _ := ok_runR (funOf FLadder_run_rounded) LC ⟨⟨_, _, Gtold_lanes, gtold_lanes, Ftold_lanes.kp, btold_lanes⟩⟩ ⟨⟨_, _, Gstepped, gstepped, Fstepped.kp, bstepped⟩⟩
  have G_law_begin : FnOk PySem.Challenge.rw_allstreams_k67_whole_rounded_ladders.prog w K mg base _ _ _ _ _ _ := ok_begin (funOf F_law_begin) TX
  have G_law_draw : FnOk PySem.Challenge.rw_allstreams_k67_whole_rounded_ladders.prog w K mg base _ _ _ _ _ _ := ok_draw67 (funOf F_law_draw) TX
  have G_law_pick : FnOk PySem.Challenge.rw_allstreams_k67_whole_rounded_ladders.prog w K mg base _ _ _ _ _ _ := ok_pick67 (funOf F_law_pick) ⟨⟨_, _, G_law_draw, g_law_draw, F_law_draw.kp, b_law_draw⟩⟩ TX
  have G_law_gcd : FnOk PySem.Challenge.rw_allstreams_k67_whole_rounded_ladders.prog w K mg base _ _ _ _ _ _ := ok_gcd (funOf F_law_gcd) TX
  have G_law_sign : FnOk PySem.Challenge.rw_allstreams_k67_whole_rounded_ladders.prog w K mg base _ _ _ _ _ _ := ok_sgn (funOf F_law_sign) TX
  have G_law_q : FnOk PySem.Challenge.rw_allstreams_k67_whole_rounded_ladders.prog w K mg base _ _ _ _ _ _ := ok_q67 (funOf F_law_q) ⟨⟨_, _, G_law_gcd, g_law_gcd, F_law_gcd.kp, b_law_gcd⟩⟩ ⟨⟨_, _, G_law_sign, g_law_sign, F_law_sign.kp, b_law_sign⟩⟩
  have G_law_plus : FnOk PySem.Challenge.rw_allstreams_k67_whole_rounded_ladders.prog w K mg base _ _ _ _ _ _ := ok_plus67 (funOf F_law_plus) ⟨⟨_, _, G_law_q, g_law_q, F_law_q.kp, b_law_q⟩⟩
  have G_law_times : FnOk PySem.Challenge.rw_allstreams_k67_whole_rounded_ladders.prog w K mg base _ _ _ _ _ _ := ok_times67 (funOf F_law_times) ⟨⟨_, _, G_law_q, g_law_q, F_law_q.kp, b_law_q⟩⟩
  have G_law_told : FnOk PySem.Challenge.rw_allstreams_k67_whole_rounded_ladders.prog w K mg base _ _ _ _ _ _ := ok_told67 (funOf F_law_told) RT
  have G_law_pair_of : FnOk PySem.Challenge.rw_allstreams_k67_whole_rounded_ladders.prog w K mg base _ _ _ _ _ _ := ok_PO67 (funOf F_law_pair_of) TX RT
  have G_law_small : FnOk PySem.Challenge.rw_allstreams_k67_whole_rounded_ladders.prog w K mg base _ _ _ _ _ _ := ok_small (funOf F_law_small) ⟨⟨_, _, G_law_pick, g_law_pick, F_law_pick.kp, b_law_pick⟩⟩
  have G_law_number : FnOk PySem.Challenge.rw_allstreams_k67_whole_rounded_ladders.prog w K mg base _ _ _ _ _ _ := ok_num2 (funOf F_law_number) TX G_law_draw g_law_draw F_law_draw.kp b_law_draw G_law_pick g_law_pick F_law_pick.kp b_law_pick G_law_q g_law_q F_law_q.kp b_law_q
  have G_law_blend : FnOk PySem.Challenge.rw_allstreams_k67_whole_rounded_ladders.prog w K mg base _ _ _ _ _ _ := ok_blend (funOf F_law_blend) TX ⟨⟨_, _, G_law_plus, g_law_plus, F_law_plus.kp, b_law_plus⟩⟩ ⟨⟨_, _, G_law_times, g_law_times, F_law_times.kp, b_law_times⟩⟩
  have G_law_shown : FnOk PySem.Challenge.rw_allstreams_k67_whole_rounded_ladders.prog w K mg base _ _ _ _ _ _ := ok_shown67 (funOf F_law_shown) ⟨⟨_, _, G_law_told, g_law_told, F_law_told.kp, b_law_told⟩⟩
  have G_law_read : FnOk PySem.Challenge.rw_allstreams_k67_whole_rounded_ladders.prog w K mg base _ _ _ _ _ _ := ok_read67 (funOf F_law_read) TX ⟨⟨_, _, G_law_pair_of, g_law_pair_of, F_law_pair_of.kp, b_law_pair_of⟩⟩
  have G_law_climb : FnOk PySem.Challenge.rw_allstreams_k67_whole_rounded_ladders.prog w K mg base _ _ _ _ _ _ := ok_climb67 (funOf F_law_climb) TX ⟨⟨_, _, G_law_draw, g_law_draw, F_law_draw.kp, b_law_draw⟩⟩ ⟨⟨_, _, G_law_pick, g_law_pick, F_law_pick.kp, b_law_pick⟩⟩ ⟨⟨_, _, G_law_small, g_law_small, F_law_small.kp, b_law_small⟩⟩
  have G_law_rungs : FnOk PySem.Challenge.rw_allstreams_k67_whole_rounded_ladders.prog w K mg base _ _ _ _ _ _ := ok_rungs (funOf F_law_rungs) PL ⟨⟨_, _, G_law_told, g_law_told, F_law_told.kp, b_law_told⟩⟩
  have G_law_back : FnOk PySem.Challenge.rw_allstreams_k67_whole_rounded_ladders.prog w K mg base _ _ _ _ _ _ := ok_back67 (funOf F_law_back) ⟨⟨_, _, G_law_q, g_law_q, F_law_q.kp, b_law_q⟩⟩
  have G_law_amounts : FnOk PySem.Challenge.rw_allstreams_k67_whole_rounded_ladders.prog w K mg base _ _ _ _ _ _ := ok_amL (funOf F_law_amounts) TX ⟨⟨_, _, G_law_plus, g_law_plus, F_law_plus.kp, b_law_plus⟩⟩ ⟨⟨_, _, G_law_times, g_law_times, F_law_times.kp, b_law_times⟩⟩
  have G_law_climbed : FnOk PySem.Challenge.rw_allstreams_k67_whole_rounded_ladders.prog w K mg base _ _ _ _ _ _ := ok_climbed (funOf F_law_climbed) TX ⟨⟨_, _, G_law_times, g_law_times, F_law_times.kp, b_law_times⟩⟩ ⟨⟨_, _, G_law_blend, g_law_blend, F_law_blend.kp, b_law_blend⟩⟩ ⟨⟨_, _, G_law_amounts, g_law_amounts, F_law_amounts.kp, b_law_amounts⟩⟩
  have G_law_flat : FnOk PySem.Challenge.rw_allstreams_k67_whole_rounded_ladders.prog w K mg base _ _ _ _ _ _ := ok_flat67 (C := (ga K "Ratio")) (funOf F_law_flat) TX
  have G_law_numbers : FnOk PySem.Challenge.rw_allstreams_k67_whole_rounded_ladders.prog w K mg base _ _ _ _ _ _ := ok_nums67 (funOf F_law_numbers) TX ⟨⟨_, _, G_law_number, g_law_number, F_law_number.kp, b_law_number⟩⟩
  exact ok_law67 (funOf Flaw) TX fsum fany ftuple RT LA MLadder_run_rounded GLadder_run_rounded bLadder_run_rounded MLadder_undone GLadder_undone bLadder_undone ⟨⟨_, _, G_law_begin, g_law_begin, F_law_begin.kp, b_law_begin⟩⟩ ⟨⟨_, _, G_law_draw, g_law_draw, F_law_draw.kp, b_law_draw⟩⟩ ⟨⟨_, _, G_law_pick, g_law_pick, F_law_pick.kp, b_law_pick⟩⟩ ⟨⟨_, _, G_law_climb, g_law_climb, F_law_climb.kp, b_law_climb⟩⟩ ⟨⟨_, _, G_law_rungs, g_law_rungs, F_law_rungs.kp, b_law_rungs⟩⟩ ⟨⟨_, _, G_law_numbers, g_law_numbers, F_law_numbers.kp, b_law_numbers⟩⟩ ⟨⟨_, _, G_law_climbed, g_law_climbed, F_law_climbed.kp, b_law_climbed⟩⟩ ⟨⟨_, _, G_law_told, g_law_told, F_law_told.kp, b_law_told⟩⟩ ⟨⟨_, _, G_law_read, g_law_read, F_law_read.kp, b_law_read⟩⟩ ⟨⟨_, _, G_law_flat, g_law_flat, F_law_flat.kp, b_law_flat⟩⟩ ⟨⟨_, _, G_law_shown, g_law_shown, F_law_shown.kp, b_law_shown⟩⟩ ⟨⟨_, _, G_law_back, g_law_back, F_law_back.kp, b_law_back⟩⟩
end K03
end
section
set_option maxHeartbeats 0
open PySem PySem.W PySem.Calls PyProof.Rows
theorem PySem.Challenge.cw_allstreams_k67_whole_rounded_ladders_holds : PySem.Challenge.rw_allstreams_k67_whole_rounded_ladders.Holds := by
  w_on; o_law
  refine HandSHeadRun.head_imp (r := OpenLaw.row PySem.Challenge.rw_allstreams_k67_whole_rounded_ladders) (q := view (OpenLaw.row PySem.Challenge.rw_allstreams_k67_whole_rounded_ladders).prog [0, 79]) (H := K03.hk) (ob := K03.ob) (M := 20000) (loose := K03.names) (d := HandSHeadRun.topDef (OpenLaw.row PySem.Challenge.rw_allstreams_k67_whole_rounded_ladders).prog 79) (kwd := []) K03.ob_eq
    K03.run (by kernel_rfl) (by kernel_rfl) (by kernel_rfl) (by rfl) (by first | assumption | decide +kernel) (by decide +kernel) ⟨rfl, rfl, rfl, rfl, rfl, by decide +kernel⟩ ?hw ?hc
  case hw => w_witness2
  case hc =>
    refine LamX.walk_ofTsE (l := PySem.Challenge.rw_allstreams_k67_whole_rounded_ladders) (n := 63) (k := 20) (x := "_law_script") (CX := fun _ => L2.CX0) rfl (by decide) (by kernel_rfl) ⟨rfl, by decide, by decide⟩ ?F (fun _ _ _ _ _ z => z)
    intro w mg fa h Y G hmg0
    obtain ⟨K, KX, c⟩ := Y
    have hmg : mg ("law" : PySem.Str) = some (.ref fa) := by
      have e : (HandSHeadRun.topDef (OpenLaw.row PySem.Challenge.rw_allstreams_k67_whole_rounded_ladders).prog 79).name = ("law" : PySem.Str) := by kernel_rfl
      rw [← e]
      exact hmg0
    exact ⟨K, KX, K03.facts KX G hmg c⟩
end
