/- A part of the proof: an interpreter of the model's own code on partly known states, and that what it answers is what the program answers. No condition of its own. -/
import Derived.Test.YtamjghigoipbeaaDoorK1ChunkBackO4
set_option maxRecDepth 100000
set_option linter.unusedVariables false
set_option linter.unusedSimpArgs false
set_option maxHeartbeats 4000000
namespace Go.Proofs.YtamjghigoipbeaaDoor.chunkBack
open Go Go.AX Go.Proofs Go.Proofs.YtamjghigoipbeaaDoor
variable {nu : Nat → Value} {one : ∀ i, i < 1000000 → (nu i).oneCell' = true} {E' : Cx} {x' : Ex} {e' : LA} {h' : LE}
noncomputable def bodyOa : Code := loopNo (Tryd.f3.body.getD .skip) 1
theorem keyOa : oneKey (loopsOf (Tryd.f3.body.getD .skip)) 18 1 0 = true := by kernel_rfl
def keepOa : List Nat := [8, 10]
def epOa_0 : LA := [(2, .sr 5), (7, .x 0), (11, .p 30 0), (12, .x 1), (13, .x 2)]
def hpOa_0 : LE := [(5, .r 2000000 5 1 true), (30, .b ⟨38, .l [.i .i64 (.ofNat 4000), .x 3, .nils, .b false, .x 4, .i .i64 (.ofNat 0), .nils], 0, 0, 0, false, false⟩)]
def nuOa_0 (lz : List LB) (mo : LB) (al : List Int) (t i : Int) : List Value := [St' (ckS lz ++ mo), .int .i64 (t), .int .i64 (i), .int .i64 ((wA lz t)), .int .i64 ((fA lz t)), St' ([] : LB), .int .i64 (((ckS lz ++ mo).length : Int)), .int .i64 ((al.length : Int)), .int .i64 (i % (al.length : Int)), .int .u8 (nthI al (Int.toNat (i % (al.length : Int)))), .int .i64 ((nthI al (Int.toNat (i % (al.length : Int))))), .int .i64 ((nthI al (Int.toNat (i % (al.length : Int)))) + 1), .int .i64 ((nthI al (Int.toNat (i % (al.length : Int)))) + t + 1), .int .i64 ((uA lz mo t (kO al i))), St' (xS lz mo t (uA lz mo t (kO al i))), .int .i64 ((eE lz mo t (kO al i))), .int .i64 ((wA lz (t + (eE lz mo t (kO al i))))), .int .i64 ((fA lz (t + (eE lz mo t (kO al i))))), St' (lnA lz (t + (eE lz mo t (kO al i)))), St' (DA lz (t + (eE lz mo t (kO al i)))), .int .i64 ((eE lz mo t (kO al i)) + t), .int .i64 ((uA lz mo t (kO al i)) - t), .int .i64 (i + 1), St' ([] : LB), .int .i64 (((ckS lz ++ mo).length : Int)), .int .i64 ((al.length : Int)), .int .i64 (i % (al.length : Int)), .int .u8 (nthI al (Int.toNat (i % (al.length : Int)))), .int .i64 ((nthI al (Int.toNat (i % (al.length : Int))))), .int .i64 ((nthI al (Int.toNat (i % (al.length : Int)))) + 1), .int .i64 ((nthI al (Int.toNat (i % (al.length : Int)))) + t + 1), .int .i64 ((uA lz mo t (kO al i))), St' (xS lz mo t (uA lz mo t (kO al i))), .int .i64 ((eE lz mo t (kO al i))), .int .i64 ((wA lz (t + (eE lz mo t (kO al i))))), .int .i64 ((fA lz (t + (eE lz mo t (kO al i))))), St' (lnA lz (t + (eE lz mo t (kO al i)))), .int .i64 ((eE lz mo t (kO al i)) + t), .int .i64 ((uA lz mo t (kO al i)) - t), .int .i64 (i + 1), St' ([] : LB), .int .i64 (((ckS lz ++ mo).length : Int)), .int .i64 ((al.length : Int)), .int .i64 (i % (al.length : Int)), .int .u8 (nthI al (Int.toNat (i % (al.length : Int)))), .int .i64 ((nthI al (Int.toNat (i % (al.length : Int))))), .int .i64 ((nthI al (Int.toNat (i % (al.length : Int)))) + 1), .int .i64 ((nthI al (Int.toNat (i % (al.length : Int)))) + t + 1), .int .i64 ((uA lz mo t (kO al i))), St' (xS lz mo t (uA lz mo t (kO al i))), .int .i64 ((eE lz mo t (kO al i))), .int .i64 ((wA lz (t + (eE lz mo t (kO al i))))), .int .i64 ((fA lz (t + (eE lz mo t (kO al i))))), St' (lnA lz (t + (eE lz mo t (kO al i)))), St' (DA lz (t + (eE lz mo t (kO al i)))), .int .i64 ((eE lz mo t (kO al i)) + t), .int .i64 ((uA lz mo t (kO al i)) - t), St' ([] : LB), .int .i64 (((ckS lz ++ mo).length : Int)), .int .i64 ((al.length : Int)), .int .i64 (i % (al.length : Int)), .int .u8 (nthI al (Int.toNat (i % (al.length : Int)))), .int .i64 ((nthI al (Int.toNat (i % (al.length : Int))))), .int .i64 ((nthI al (Int.toNat (i % (al.length : Int)))) + 1), .int .i64 ((nthI al (Int.toNat (i % (al.length : Int)))) + t + 1), .int .i64 ((uA lz mo t (kO al i))), St' (xS lz mo t (uA lz mo t (kO al i))), .int .i64 ((eE lz mo t (kO al i))), .int .i64 ((wA lz (t + (eE lz mo t (kO al i))))), .int .i64 ((fA lz (t + (eE lz mo t (kO al i))))), St' (lnA lz (t + (eE lz mo t (kO al i)))), .int .i64 ((eE lz mo t (kO al i)) + t), .int .i64 ((uA lz mo t (kO al i)) - t), .int .i64 (i + 1), St' ([] : LB), .int .i64 (((ckS lz ++ mo).length : Int)), .int .i64 ((al.length : Int)), .int .i64 (i % (al.length : Int)), .int .u8 (nthI al (Int.toNat (i % (al.length : Int)))), .int .i64 ((nthI al (Int.toNat (i % (al.length : Int))))), .int .i64 ((nthI al (Int.toNat (i % (al.length : Int)))) + 1), .int .i64 ((nthI al (Int.toNat (i % (al.length : Int)))) + t + 1), .int .i64 ((uA lz mo t (kO al i))), St' (xS lz mo t (uA lz mo t (kO al i))), .int .i64 ((eE lz mo t (kO al i))), .int .i64 ((wA lz (t + (eE lz mo t (kO al i))))), .int .i64 ((fA lz (t + (eE lz mo t (kO al i))))), St' (lnA lz (t + (eE lz mo t (kO al i)))), .int .i64 ((eE lz mo t (kO al i)) + t), .int .i64 ((uA lz mo t (kO al i)) - t), St' ([] : LB), .int .i64 (((ckS lz ++ mo).length : Int)), .int .i64 ((al.length : Int)), .int .i64 (i % (al.length : Int)), .int .u8 (nthI al (Int.toNat (i % (al.length : Int)))), .int .i64 ((nthI al (Int.toNat (i % (al.length : Int))))), .int .i64 ((nthI al (Int.toNat (i % (al.length : Int)))) + 1), .int .i64 ((nthI al (Int.toNat (i % (al.length : Int)))) + t + 1), .int .i64 ((uA lz mo t (kO al i))), St' (xS lz mo t (uA lz mo t (kO al i))), .int .i64 ((eE lz mo t (kO al i))), .int .i64 ((wA lz (t + (eE lz mo t (kO al i))))), .int .i64 ((fA lz (t + (eE lz mo t (kO al i))))), St' (lnA lz (t + (eE lz mo t (kO al i)))), St' (DA lz (t + (eE lz mo t (kO al i)))), .int .i64 ((eE lz mo t (kO al i)) + t), .int .i64 ((uA lz mo t (kO al i)) - t), .int .i64 (i + 1)]
def roOa_0 (lz : List LB) (mo : LB) (al : List Int) (t i : Int) : List Value := [rwI .u8 al, rwS ([] : List LB), rwS ([] : List LB), rwS ([] : List LB), rwS ([] : List LB), rwS ([] : List LB), rwS ([] : List LB)]
def epOa_1 : LA := [(2, .sr 5), (7, .x 0), (11, .p 30 0), (12, .x 1), (13, .x 2)]
def hpOa_1 : LE := [(5, .r 2000000 5 1 true), (30, .b ⟨38, .l [.i .i64 (.ofNat 4000), .x 3, .sy 40, .b false, .x 4, .i .i64 (.ofNat 0), .nils], 0, 0, 0, false, false⟩), (40, .t 5 5)]
def nuOa_1 (lz : List LB) (mo : LB) (al : List Int) (t i : Int) : List Value := [St' (ckS lz ++ mo), .int .i64 (t), .int .i64 (i), .int .i64 ((wA lz t)), .int .i64 ((fA lz t)), St' (lnA lz t), St' ([] : LB), .int .i64 (((ckS lz ++ mo).length : Int)), .int .i64 ((al.length : Int)), .int .i64 (i % (al.length : Int)), .int .u8 (nthI al (Int.toNat (i % (al.length : Int)))), .int .i64 ((nthI al (Int.toNat (i % (al.length : Int))))), .int .i64 ((nthI al (Int.toNat (i % (al.length : Int)))) + 1), .int .i64 ((nthI al (Int.toNat (i % (al.length : Int)))) + t + 1), .int .i64 ((uA lz mo t (kO al i))), St' (xS lz mo t (uA lz mo t (kO al i))), .int .i64 ((eE lz mo t (kO al i))), .int .i64 ((wA lz (t + (eE lz mo t (kO al i))))), .int .i64 ((fA lz (t + (eE lz mo t (kO al i))))), St' (lnA lz (t + (eE lz mo t (kO al i)))), St' (DA lz (t + (eE lz mo t (kO al i)))), .int .i64 ((eE lz mo t (kO al i)) + t), .int .i64 ((uA lz mo t (kO al i)) - t), .int .i64 (i + 1), St' ([] : LB), .int .i64 (((ckS lz ++ mo).length : Int)), .int .i64 ((al.length : Int)), .int .i64 (i % (al.length : Int)), .int .u8 (nthI al (Int.toNat (i % (al.length : Int)))), .int .i64 ((nthI al (Int.toNat (i % (al.length : Int))))), .int .i64 ((nthI al (Int.toNat (i % (al.length : Int)))) + 1), .int .i64 ((nthI al (Int.toNat (i % (al.length : Int)))) + t + 1), .int .i64 ((uA lz mo t (kO al i))), St' (xS lz mo t (uA lz mo t (kO al i))), .int .i64 ((eE lz mo t (kO al i))), .int .i64 ((wA lz (t + (eE lz mo t (kO al i))))), .int .i64 ((fA lz (t + (eE lz mo t (kO al i))))), St' (lnA lz (t + (eE lz mo t (kO al i)))), .int .i64 ((eE lz mo t (kO al i)) + t), .int .i64 ((uA lz mo t (kO al i)) - t), .int .i64 (i + 1), St' ([] : LB), .int .i64 (((ckS lz ++ mo).length : Int)), .int .i64 ((al.length : Int)), .int .i64 (i % (al.length : Int)), .int .u8 (nthI al (Int.toNat (i % (al.length : Int)))), .int .i64 ((nthI al (Int.toNat (i % (al.length : Int))))), .int .i64 ((nthI al (Int.toNat (i % (al.length : Int)))) + 1), .int .i64 ((nthI al (Int.toNat (i % (al.length : Int)))) + t + 1), .int .i64 ((uA lz mo t (kO al i))), St' (xS lz mo t (uA lz mo t (kO al i))), .int .i64 ((eE lz mo t (kO al i))), .int .i64 ((wA lz (t + (eE lz mo t (kO al i))))), .int .i64 ((fA lz (t + (eE lz mo t (kO al i))))), St' (lnA lz (t + (eE lz mo t (kO al i)))), St' (DA lz (t + (eE lz mo t (kO al i)))), .int .i64 ((eE lz mo t (kO al i)) + t), .int .i64 ((uA lz mo t (kO al i)) - t), .int .i64 (i + 1), St' ([] : LB), .int .i64 (((ckS lz ++ mo).length : Int)), .int .i64 ((al.length : Int)), .int .i64 (i % (al.length : Int)), .int .u8 (nthI al (Int.toNat (i % (al.length : Int)))), .int .i64 ((nthI al (Int.toNat (i % (al.length : Int))))), .int .i64 ((nthI al (Int.toNat (i % (al.length : Int)))) + 1), .int .i64 ((nthI al (Int.toNat (i % (al.length : Int)))) + t + 1), .int .i64 ((uA lz mo t (kO al i))), St' (xS lz mo t (uA lz mo t (kO al i))), .int .i64 ((eE lz mo t (kO al i))), .int .i64 ((wA lz (t + (eE lz mo t (kO al i))))), .int .i64 ((fA lz (t + (eE lz mo t (kO al i))))), St' (lnA lz (t + (eE lz mo t (kO al i)))), St' (DA lz (t + (eE lz mo t (kO al i)))), .int .i64 ((eE lz mo t (kO al i)) + t), .int .i64 ((uA lz mo t (kO al i)) - t), St' ([] : LB), .int .i64 (((ckS lz ++ mo).length : Int)), .int .i64 ((al.length : Int)), .int .i64 (i % (al.length : Int)), .int .u8 (nthI al (Int.toNat (i % (al.length : Int)))), .int .i64 ((nthI al (Int.toNat (i % (al.length : Int))))), .int .i64 ((nthI al (Int.toNat (i % (al.length : Int)))) + 1), .int .i64 ((nthI al (Int.toNat (i % (al.length : Int)))) + t + 1), .int .i64 ((uA lz mo t (kO al i))), St' (xS lz mo t (uA lz mo t (kO al i))), .int .i64 ((eE lz mo t (kO al i))), .int .i64 ((wA lz (t + (eE lz mo t (kO al i))))), .int .i64 ((fA lz (t + (eE lz mo t (kO al i))))), St' (lnA lz (t + (eE lz mo t (kO al i)))), .int .i64 ((eE lz mo t (kO al i)) + t), .int .i64 ((uA lz mo t (kO al i)) - t), .int .i64 (i + 1), St' ([] : LB), .int .i64 (((ckS lz ++ mo).length : Int)), St' ([] : LB), .int .i64 (((ckS lz ++ mo).length : Int)), .int .i64 ((al.length : Int)), .int .i64 (i % (al.length : Int)), .int .u8 (nthI al (Int.toNat (i % (al.length : Int)))), .int .i64 ((nthI al (Int.toNat (i % (al.length : Int))))), .int .i64 ((nthI al (Int.toNat (i % (al.length : Int)))) + 1), .int .i64 ((nthI al (Int.toNat (i % (al.length : Int)))) + t + 1), .int .i64 ((uA lz mo t (kO al i))), St' (xS lz mo t (uA lz mo t (kO al i))), .int .i64 ((eE lz mo t (kO al i))), .int .i64 ((wA lz (t + (eE lz mo t (kO al i))))), .int .i64 ((fA lz (t + (eE lz mo t (kO al i))))), St' (lnA lz (t + (eE lz mo t (kO al i)))), .int .i64 ((eE lz mo t (kO al i)) + t), .int .i64 ((uA lz mo t (kO al i)) - t)]
def roOa_1 (lz : List LB) (mo : LB) (al : List Int) (t i : Int) : List Value := [rwI .u8 al, rwS ([] : List LB), rwS ([] : List LB), rwS ([] : List LB), rwS ([] : List LB), rwS ([] : List LB), rwS ([] : List LB), rwS ([] : List LB)]
def epOa_2 : LA := [(2, .sr 5), (7, .x 0), (11, .p 30 0), (12, .x 1), (13, .x 2)]
def hpOa_2 : LE := [(5, .r 2000000 5 1 true), (30, .b ⟨38, .l [.i .i64 (.ofNat 4000), .x 3, .sy 40, .b true, .x 4, .i .i64 (.ofNat 0), .nils], 0, 0, 0, false, false⟩), (40, .t 5 5)]
def nuOa_2 (lz : List LB) (mo : LB) (al : List Int) (t i : Int) : List Value := [St' (ckS lz ++ mo), .int .i64 (t), .int .i64 (i), .int .i64 ((wA lz t)), .int .i64 ((fA lz t)), St' (lnA lz t), St' ([] : LB), .int .i64 (((ckS lz ++ mo).length : Int)), .int .i64 ((al.length : Int)), .int .i64 (i % (al.length : Int)), .int .u8 (nthI al (Int.toNat (i % (al.length : Int)))), .int .i64 ((nthI al (Int.toNat (i % (al.length : Int))))), .int .i64 ((nthI al (Int.toNat (i % (al.length : Int)))) + 1), .int .i64 ((nthI al (Int.toNat (i % (al.length : Int)))) + t + 1), .int .i64 ((uA lz mo t (kO al i))), St' (xS lz mo t (uA lz mo t (kO al i))), .int .i64 ((eE lz mo t (kO al i))), .int .i64 ((wA lz (t + (eE lz mo t (kO al i))))), .int .i64 ((fA lz (t + (eE lz mo t (kO al i))))), St' (lnA lz (t + (eE lz mo t (kO al i)))), St' (DA lz (t + (eE lz mo t (kO al i)))), .int .i64 ((eE lz mo t (kO al i)) + t), .int .i64 ((uA lz mo t (kO al i)) - t), .int .i64 (i + 1), St' ([] : LB), .int .i64 (((ckS lz ++ mo).length : Int)), .int .i64 ((al.length : Int)), .int .i64 (i % (al.length : Int)), .int .u8 (nthI al (Int.toNat (i % (al.length : Int)))), .int .i64 ((nthI al (Int.toNat (i % (al.length : Int))))), .int .i64 ((nthI al (Int.toNat (i % (al.length : Int)))) + 1), .int .i64 ((nthI al (Int.toNat (i % (al.length : Int)))) + t + 1), .int .i64 ((uA lz mo t (kO al i))), St' (xS lz mo t (uA lz mo t (kO al i))), .int .i64 ((eE lz mo t (kO al i))), .int .i64 ((wA lz (t + (eE lz mo t (kO al i))))), .int .i64 ((fA lz (t + (eE lz mo t (kO al i))))), St' (lnA lz (t + (eE lz mo t (kO al i)))), .int .i64 ((eE lz mo t (kO al i)) + t), .int .i64 ((uA lz mo t (kO al i)) - t), .int .i64 (i + 1), St' ([] : LB), .int .i64 (((ckS lz ++ mo).length : Int)), .int .i64 ((al.length : Int)), .int .i64 (i % (al.length : Int)), .int .u8 (nthI al (Int.toNat (i % (al.length : Int)))), .int .i64 ((nthI al (Int.toNat (i % (al.length : Int))))), .int .i64 ((nthI al (Int.toNat (i % (al.length : Int)))) + 1), .int .i64 ((nthI al (Int.toNat (i % (al.length : Int)))) + t + 1), .int .i64 ((uA lz mo t (kO al i))), St' (xS lz mo t (uA lz mo t (kO al i))), .int .i64 ((eE lz mo t (kO al i))), .int .i64 ((wA lz (t + (eE lz mo t (kO al i))))), .int .i64 ((fA lz (t + (eE lz mo t (kO al i))))), St' (lnA lz (t + (eE lz mo t (kO al i)))), St' (DA lz (t + (eE lz mo t (kO al i)))), .int .i64 ((eE lz mo t (kO al i)) + t), .int .i64 ((uA lz mo t (kO al i)) - t), St' ([] : LB), .int .i64 (((ckS lz ++ mo).length : Int)), .int .i64 ((al.length : Int)), .int .i64 (i % (al.length : Int)), .int .u8 (nthI al (Int.toNat (i % (al.length : Int)))), .int .i64 ((nthI al (Int.toNat (i % (al.length : Int))))), .int .i64 ((nthI al (Int.toNat (i % (al.length : Int)))) + 1), .int .i64 ((nthI al (Int.toNat (i % (al.length : Int)))) + t + 1), .int .i64 ((uA lz mo t (kO al i))), St' (xS lz mo t (uA lz mo t (kO al i))), .int .i64 ((eE lz mo t (kO al i))), .int .i64 ((wA lz (t + (eE lz mo t (kO al i))))), .int .i64 ((fA lz (t + (eE lz mo t (kO al i))))), St' (lnA lz (t + (eE lz mo t (kO al i)))), .int .i64 ((eE lz mo t (kO al i)) + t), .int .i64 ((uA lz mo t (kO al i)) - t), St' ([] : LB), .int .i64 (((ckS lz ++ mo).length : Int)), .int .i64 ((al.length : Int)), .int .i64 (i % (al.length : Int)), .int .u8 (nthI al (Int.toNat (i % (al.length : Int)))), .int .i64 ((nthI al (Int.toNat (i % (al.length : Int))))), .int .i64 ((nthI al (Int.toNat (i % (al.length : Int)))) + 1), .int .i64 ((nthI al (Int.toNat (i % (al.length : Int)))) + t + 1), .int .i64 ((uA lz mo t (kO al i))), St' (xS lz mo t (uA lz mo t (kO al i))), .int .i64 ((eE lz mo t (kO al i))), .int .i64 ((wA lz (t + (eE lz mo t (kO al i))))), .int .i64 ((fA lz (t + (eE lz mo t (kO al i))))), St' (lnA lz (t + (eE lz mo t (kO al i)))), St' (DA lz (t + (eE lz mo t (kO al i)))), .int .i64 ((eE lz mo t (kO al i)) + t), .int .i64 ((uA lz mo t (kO al i)) - t), .int .i64 (i + 1), St' ([] : LB), .int .i64 (((ckS lz ++ mo).length : Int)), .int .i64 ((al.length : Int)), .int .i64 (i % (al.length : Int)), .int .u8 (nthI al (Int.toNat (i % (al.length : Int)))), .int .i64 ((nthI al (Int.toNat (i % (al.length : Int))))), .int .i64 ((nthI al (Int.toNat (i % (al.length : Int)))) + 1), .int .i64 ((nthI al (Int.toNat (i % (al.length : Int)))) + t + 1), .int .i64 ((uA lz mo t (kO al i))), St' (xS lz mo t (uA lz mo t (kO al i))), .int .i64 ((eE lz mo t (kO al i))), .int .i64 ((wA lz (t + (eE lz mo t (kO al i))))), .int .i64 ((fA lz (t + (eE lz mo t (kO al i))))), St' (lnA lz (t + (eE lz mo t (kO al i)))), .int .i64 ((eE lz mo t (kO al i)) + t), .int .i64 ((uA lz mo t (kO al i)) - t), .int .i64 (i + 1)]
def roOa_2 (lz : List LB) (mo : LB) (al : List Int) (t i : Int) : List Value := [rwI .u8 al, rwS ([] : List LB), rwS ([] : List LB), rwS ([] : List LB), rwS ([] : List LB), rwS ([] : List LB), rwS ([] : List LB)]
def epOa_3 : LA := [(2, .sr 5), (7, .x 0), (11, .p 30 0), (12, .x 1), (13, .x 2)]
def hpOa_3 : LE := [(5, .r 2000000 5 1 true), (30, .b ⟨38, .l [.i .i64 (.ofNat 4000), .x 3, .sy 40, .b false, .x 4, .i .i64 (.ofNat 0), .sy 41], 0, 0, 0, false, false⟩), (40, .t 5 5), (41, .t 6 5)]
def nuOa_3 (lz : List LB) (mo : LB) (al : List Int) (t i : Int) : List Value := [St' (ckS lz ++ mo), .int .i64 (t), .int .i64 (i), .int .i64 ((wA lz t)), .int .i64 ((fA lz t)), St' (lnA lz t), St' (DA lz t), St' ([] : LB), .int .i64 (((ckS lz ++ mo).length : Int)), .int .i64 ((al.length : Int)), .int .i64 (i % (al.length : Int)), .int .u8 (nthI al (Int.toNat (i % (al.length : Int)))), .int .i64 ((nthI al (Int.toNat (i % (al.length : Int))))), .int .i64 ((nthI al (Int.toNat (i % (al.length : Int)))) + 1), .int .i64 ((nthI al (Int.toNat (i % (al.length : Int)))) + t + 1), .int .i64 ((uA lz mo t (kO al i))), St' (xS lz mo t (uA lz mo t (kO al i))), .int .i64 ((eE lz mo t (kO al i))), .int .i64 ((wA lz (t + (eE lz mo t (kO al i))))), .int .i64 ((fA lz (t + (eE lz mo t (kO al i))))), St' (lnA lz (t + (eE lz mo t (kO al i)))), St' (DA lz (t + (eE lz mo t (kO al i)))), .int .i64 ((eE lz mo t (kO al i)) + t), .int .i64 ((uA lz mo t (kO al i)) - t), .int .i64 (i + 1), St' ([] : LB), .int .i64 (((ckS lz ++ mo).length : Int)), .int .i64 ((al.length : Int)), .int .i64 (i % (al.length : Int)), .int .u8 (nthI al (Int.toNat (i % (al.length : Int)))), .int .i64 ((nthI al (Int.toNat (i % (al.length : Int))))), .int .i64 ((nthI al (Int.toNat (i % (al.length : Int)))) + 1), .int .i64 ((nthI al (Int.toNat (i % (al.length : Int)))) + t + 1), .int .i64 ((uA lz mo t (kO al i))), St' (xS lz mo t (uA lz mo t (kO al i))), .int .i64 ((eE lz mo t (kO al i))), .int .i64 ((wA lz (t + (eE lz mo t (kO al i))))), .int .i64 ((fA lz (t + (eE lz mo t (kO al i))))), St' (lnA lz (t + (eE lz mo t (kO al i)))), St' (DA lz (t + (eE lz mo t (kO al i)))), .int .i64 ((eE lz mo t (kO al i)) + t), .int .i64 ((uA lz mo t (kO al i)) - t), .int .i64 (i + 1), St' ([] : LB), .int .i64 (((ckS lz ++ mo).length : Int)), St' ([] : LB), .int .i64 (((ckS lz ++ mo).length : Int)), .int .i64 ((al.length : Int)), .int .i64 (i % (al.length : Int)), .int .u8 (nthI al (Int.toNat (i % (al.length : Int)))), .int .i64 ((nthI al (Int.toNat (i % (al.length : Int))))), .int .i64 ((nthI al (Int.toNat (i % (al.length : Int)))) + 1), .int .i64 ((nthI al (Int.toNat (i % (al.length : Int)))) + t + 1), .int .i64 ((uA lz mo t (kO al i))), St' (xS lz mo t (uA lz mo t (kO al i))), .int .i64 ((eE lz mo t (kO al i))), .int .i64 ((wA lz (t + (eE lz mo t (kO al i))))), .int .i64 ((fA lz (t + (eE lz mo t (kO al i))))), St' (lnA lz (t + (eE lz mo t (kO al i)))), St' (DA lz (t + (eE lz mo t (kO al i)))), .int .i64 ((eE lz mo t (kO al i)) + t), .int .i64 ((uA lz mo t (kO al i)) - t)]
def roOa_3 (lz : List LB) (mo : LB) (al : List Int) (t i : Int) : List Value := [rwI .u8 al, rwS ([] : List LB), rwS ([] : List LB), rwS ([] : List LB), rwS ([] : List LB)]
def epOa_4 : LA := [(2, .sr 5), (7, .x 0), (11, .p 30 0), (12, .x 1), (13, .x 2)]
def hpOa_4 : LE := [(5, .r 2000000 5 1 true), (30, .b ⟨38, .l [.i .i64 (.ofNat 4000), .x 3, .sy 40, .b true, .x 4, .i .i64 (.ofNat 0), .sy 41], 0, 0, 0, false, false⟩), (40, .t 5 5), (41, .t 6 5)]
def nuOa_4 (lz : List LB) (mo : LB) (al : List Int) (t i : Int) : List Value := [St' (ckS lz ++ mo), .int .i64 (t), .int .i64 (i), .int .i64 ((wA lz t)), .int .i64 ((fA lz t)), St' (lnA lz t), St' (DA lz t), St' ([] : LB), .int .i64 (((ckS lz ++ mo).length : Int)), .int .i64 ((al.length : Int)), .int .i64 (i % (al.length : Int)), .int .u8 (nthI al (Int.toNat (i % (al.length : Int)))), .int .i64 ((nthI al (Int.toNat (i % (al.length : Int))))), .int .i64 ((nthI al (Int.toNat (i % (al.length : Int)))) + 1), .int .i64 ((nthI al (Int.toNat (i % (al.length : Int)))) + t + 1), .int .i64 ((uA lz mo t (kO al i))), St' (xS lz mo t (uA lz mo t (kO al i))), .int .i64 ((eE lz mo t (kO al i))), .int .i64 ((wA lz (t + (eE lz mo t (kO al i))))), .int .i64 ((fA lz (t + (eE lz mo t (kO al i))))), St' (lnA lz (t + (eE lz mo t (kO al i)))), St' (DA lz (t + (eE lz mo t (kO al i)))), .int .i64 ((eE lz mo t (kO al i)) + t), .int .i64 ((uA lz mo t (kO al i)) - t), .int .i64 (i + 1), St' ([] : LB), .int .i64 (((ckS lz ++ mo).length : Int)), .int .i64 ((al.length : Int)), .int .i64 (i % (al.length : Int)), .int .u8 (nthI al (Int.toNat (i % (al.length : Int)))), .int .i64 ((nthI al (Int.toNat (i % (al.length : Int))))), .int .i64 ((nthI al (Int.toNat (i % (al.length : Int)))) + 1), .int .i64 ((nthI al (Int.toNat (i % (al.length : Int)))) + t + 1), .int .i64 ((uA lz mo t (kO al i))), St' (xS lz mo t (uA lz mo t (kO al i))), .int .i64 ((eE lz mo t (kO al i))), .int .i64 ((wA lz (t + (eE lz mo t (kO al i))))), .int .i64 ((fA lz (t + (eE lz mo t (kO al i))))), St' (lnA lz (t + (eE lz mo t (kO al i)))), St' (DA lz (t + (eE lz mo t (kO al i)))), .int .i64 ((eE lz mo t (kO al i)) + t), .int .i64 ((uA lz mo t (kO al i)) - t), .int .i64 (i + 1), St' ([] : LB), .int .i64 (((ckS lz ++ mo).length : Int)), .int .i64 ((al.length : Int)), .int .i64 (i % (al.length : Int)), .int .u8 (nthI al (Int.toNat (i % (al.length : Int)))), .int .i64 ((nthI al (Int.toNat (i % (al.length : Int))))), .int .i64 ((nthI al (Int.toNat (i % (al.length : Int)))) + 1), .int .i64 ((nthI al (Int.toNat (i % (al.length : Int)))) + t + 1), .int .i64 ((uA lz mo t (kO al i))), St' (xS lz mo t (uA lz mo t (kO al i))), .int .i64 ((eE lz mo t (kO al i))), .int .i64 ((wA lz (t + (eE lz mo t (kO al i))))), .int .i64 ((fA lz (t + (eE lz mo t (kO al i))))), St' (lnA lz (t + (eE lz mo t (kO al i)))), St' (DA lz (t + (eE lz mo t (kO al i)))), .int .i64 ((eE lz mo t (kO al i)) + t), .int .i64 ((uA lz mo t (kO al i)) - t)]
def roOa_4 (lz : List LB) (mo : LB) (al : List Int) (t i : Int) : List Value := [rwI .u8 al, rwS ([] : List LB), rwS ([] : List LB), rwS ([] : List LB)]
def epOa (st : Nat × Int × Int) : LA := if st.1 = 0 then epOa_0 else if st.1 = 1 then epOa_1 else if st.1 = 2 then epOa_2 else if st.1 = 3 then epOa_3 else epOa_4
def hpOa (st : Nat × Int × Int) : LE := if st.1 = 0 then hpOa_0 else if st.1 = 1 then hpOa_1 else if st.1 = 2 then hpOa_2 else if st.1 = 3 then hpOa_3 else hpOa_4
def nuOa (lz : List LB) (mo : LB) (al : List Int) (st : Nat × Int × Int) : List Value := if st.1 = 0 then nuOa_0 lz mo al (st.2.1) (st.2.2) else if st.1 = 1 then nuOa_1 lz mo al (st.2.1) (st.2.2) else if st.1 = 2 then nuOa_2 lz mo al (st.2.1) (st.2.2) else if st.1 = 3 then nuOa_3 lz mo al (st.2.1) (st.2.2) else nuOa_4 lz mo al (st.2.1) (st.2.2)
def roOa (lz : List LB) (mo : LB) (al : List Int) (st : Nat × Int × Int) : List Value := if st.1 = 0 then roOa_0 lz mo al (st.2.1) (st.2.2) else if st.1 = 1 then roOa_1 lz mo al (st.2.1) (st.2.2) else if st.1 = 2 then roOa_2 lz mo al (st.2.1) (st.2.2) else if st.1 = 3 then roOa_3 lz mo al (st.2.1) (st.2.2) else roOa_4 lz mo al (st.2.1) (st.2.2)
theorem onOa (lz : List LB) (mo : LB) (al : List Int) (st : Nat × Int × Int) : ∀ j, (nuL (nuOa lz mo al st) j).oneCell' = true := by
  intro j
  unfold nuOa
  by_cases g0 : st.1 = 0
  · rw [if_pos g0]; exact nuL_one (l := nuOa_0 lz mo al (st.2.1) (st.2.2)) rfl j
  rw [if_neg g0]
  by_cases g1 : st.1 = 1
  · rw [if_pos g1]; exact nuL_one (l := nuOa_1 lz mo al (st.2.1) (st.2.2)) rfl j
  rw [if_neg g1]
  by_cases g2 : st.1 = 2
  · rw [if_pos g2]; exact nuL_one (l := nuOa_2 lz mo al (st.2.1) (st.2.2)) rfl j
  rw [if_neg g2]
  by_cases g3 : st.1 = 3
  · rw [if_pos g3]; exact nuL_one (l := nuOa_3 lz mo al (st.2.1) (st.2.2)) rfl j
  rw [if_neg g3]
  exact nuL_one (l := nuOa_4 lz mo al (st.2.1) (st.2.2)) rfl j
theorem ebOa (st : Nat × Int × Int) : (lfB (epOa st) && lfC keepOa) = true := by
  unfold epOa
  by_cases g0 : st.1 = 0
  · rw [if_pos g0]; rfl
  rw [if_neg g0]
  by_cases g1 : st.1 = 1
  · rw [if_pos g1]; rfl
  rw [if_neg g1]
  by_cases g2 : st.1 = 2
  · rw [if_pos g2]; rfl
  rw [if_neg g2]
  by_cases g3 : st.1 = 3
  · rw [if_pos g3]; rfl
  rw [if_neg g3]
  rfl
noncomputable def DOa (lz : List LB) (mo : LB) (al : List Int) (st : Nat × Int × Int) (X : Nat → Value) : Cx := cx (nuX (nuOa lz mo al st) (rX (roOa lz mo al st) X)) (nuX_one (onOa lz mo al st)) 3 laidE laidE_stab
def InvOa (lz : List LB) (mo : LB) (al : List Int) (st : Nat × Int × Int) : Prop := (0 ≤ (st.2.1)) ∧ ((st.2.1) ≤ nA lz) ∧ (0 ≤ (st.2.2)) ∧ ((st.2.2) ≤ (st.2.1)) ∧ (mo.length ≤ 100) ∧ (ok3 lz) ∧ (lz.flatten.length ≤ 3000) ∧ (nA lz ≤ 4000) ∧ ((st.1) = 0 → (st.2.1) = 0) ∧ (1 ≤ (st.1) → 1 ≤ (st.2.1)) ∧ ((st.1) = 0 ∨ (st.1) = 1 ∨ (st.1) = 3 → ¬ cA lz (st.2.1) = true) ∧ ((st.1) = 2 ∨ (st.1) = 4 → cA lz (st.2.1) = true) ∧ ((st.1) ≤ 2 → (DA lz (st.2.1)).length = 0) ∧ (3 ≤ (st.1) → ¬ (DA lz (st.2.1)).length = 0) ∧ (∀ n, n ∈ al → 0 ≤ n ∧ n ≤ 255) ∧ (1 ≤ al.length) ∧ (al.length ≤ 9223372036854775807) ∧ ((st.1) < 5)
abbrev CjOa (lz : List LB) (mo : LB) (al : List Int) (tag : Nat) (t i : Int) : Prop := (0 ≤ t) ∧ (t ≤ nA lz) ∧ (0 ≤ i) ∧ (i ≤ t) ∧ (mo.length ≤ 100) ∧ (ok3 lz) ∧ (lz.flatten.length ≤ 3000) ∧ (nA lz ≤ 4000) ∧ (tag = 0 → t = 0) ∧ (1 ≤ tag → 1 ≤ t) ∧ (tag = 0 ∨ tag = 1 ∨ tag = 3 → ¬ cA lz t = true) ∧ (tag = 2 ∨ tag = 4 → cA lz t = true) ∧ (tag ≤ 2 → (DA lz t).length = 0) ∧ (3 ≤ tag → ¬ (DA lz t).length = 0) ∧ (∀ n, n ∈ al → 0 ≤ n ∧ n ≤ 255) ∧ (1 ≤ al.length) ∧ (al.length ≤ 9223372036854775807) ∧ (tag < 5)
theorem mkIOa (lz : List LB) (mo : LB) (al : List Int) (tag : Nat) (t i : Int) (h : CjOa lz mo al tag t i) : InvOa lz mo al (tag, t, i) := h
theorem unIOa (lz : List LB) (mo : LB) (al : List Int) (tag : Nat) (t i : Int) (h : InvOa lz mo al (tag, t, i)) : (0 ≤ t) ∧ (t ≤ nA lz) ∧ (0 ≤ i) ∧ (i ≤ t) ∧ (mo.length ≤ 100) ∧ (ok3 lz) ∧ (lz.flatten.length ≤ 3000) ∧ (nA lz ≤ 4000) ∧ (tag = 0 → t = 0) ∧ (1 ≤ tag → 1 ≤ t) ∧ (tag = 0 ∨ tag = 1 ∨ tag = 3 → ¬ cA lz t = true) ∧ (tag = 2 ∨ tag = 4 → cA lz t = true) ∧ (tag ≤ 2 → (DA lz t).length = 0) ∧ (3 ≤ tag → ¬ (DA lz t).length = 0) ∧ (∀ n, n ∈ al → 0 ≤ n ∧ n ≤ 255) ∧ (1 ≤ al.length) ∧ (al.length ≤ 9223372036854775807) ∧ (tag < 5) := h
def muOa (lz : List LB) (mo : LB) (al : List Int) (st : Nat × Int × Int) : Nat := (nA lz - (st.2.1)).toNat
abbrev RHOa (lz : List LB) (mo : LB) (al : List Int) (E' : Cx) (ex' : Ex) (epx' : LA) (hpx' : LE) (st : Nat × Int × Int) (X : Nat → Value) : Prop := RoundH E' bodyOa keepOa 117 ex' 4 40 42 140 epOa hpOa epx' hpx' (InvOa lz mo al) (muOa lz mo al) (DOa lz mo al) st X
noncomputable abbrev CXOa_0 (lz : List LB) (mo : LB) (al : List Int) (t i : Int) (X : Nat → Value) : Cx := cx (nuX (nuOa_0 lz mo al t i) (rX (roOa_0 lz mo al t i) X)) (nuX_one (nuL_one (l := nuOa_0 lz mo al t i) rfl)) 3 laidE laidE_stab
theorem sLOa_0 (lz : List LB) (mo : LB) (al : List Int) (t i : Int) {X : Nat → Value} {tb : Tab} {L : List LF} (y : Nat × Int × Int) {th : LA} {sg : List (Nat × Nat)} (hall : AllOk (CXOa_0 lz mo al t i X) tb) (hlp : LpOk (CXOa_0 lz mo al t i X) L bodyOa) (hng : tb.ng = 4) (hy : InvOa lz mo al y) (lt : muOa lz mo al y < muOa lz mo al (0, t, i)) (ht : ThOk (CXOa_0 lz mo al t i X) (DOa lz mo al y X) th) (run : okRdH (code tb 5000 L bodyOa (envOf (headOf epOa_0 keepOa) 117) ⟨lhSet hpOa_0 .leaf, 42, 0, 0⟩) .normal keepOa 117 140 th sg 40 42 (epOa y) (hpOa y) = true) : RHOa lz mo al E' x' e' h' (0, t, i) X :=
  RoundH.next (tb := tb) (L := L) (f := 5000) y hall hlp hng hy lt ht run
theorem lLOa_0 (lz : List LB) (mo : LB) (al : List Int) (t i : Int) {X : Nat → Value} {tb : Tab} {L : List LF} {th : LA} {sg : List (Nat × Nat)} (hne : exB x' .normal = false) (hall : AllOk (CXOa_0 lz mo al t i X) tb) (hlp : LpOk (CXOa_0 lz mo al t i X) L bodyOa) (hng : tb.ng = 4) (ht : ThOk (CXOa_0 lz mo al t i X) E' th) (run : okRdH (code tb 5000 L bodyOa (envOf (headOf epOa_0 keepOa) 117) ⟨lhSet hpOa_0 .leaf, 42, 0, 0⟩) x' keepOa 117 140 th sg 40 140 e' h' = true) : RHOa lz mo al E' x' e' h' (0, t, i) X :=
  RoundH.leave (tb := tb) (L := L) (f := 5000) hall hlp hng hne ht run
noncomputable abbrev RNOa_0 (h : LK) (x : Ex) (th : LA) (sg : List (Nat × Nat)) (m : Nat) (ep : LA) (hp : LE) : Bool := okRdH (code (tbl h) 5000 [] bodyOa (envOf (headOf epOa_0 keepOa) 117) ⟨lhSet hpOa_0 .leaf, 42, 0, 0⟩) x keepOa 117 140 th sg 40 m ep hp
theorem stOa_0 (lz : List LB) (mo : LB) (al : List Int) (t i : Int) {X : Nat → Value} {h : LK} (y : Nat × Int × Int) {th : LA} {sg : List (Nat × Nat)} (ho : ∀ a' r', (a', r') ∈ h → HOk (CXOa_0 lz mo al t i X) a' r') (hy : InvOa lz mo al y) (lt : muOa lz mo al y < muOa lz mo al (0, t, i)) (ht : ThOk (CXOa_0 lz mo al t i X) (DOa lz mo al y X) th) (run : RNOa_0 h .normal th sg 42 (epOa y) (hpOa y) = true) : RHOa lz mo al E' x' e' h' (0, t, i) X :=
  RoundH.next (tb := tbl h) (L := []) (f := 5000) y ((tabkOk _ _).hyps ho) (LpOk.nil _) rfl hy lt ht run
theorem lvOa_0 (lz : List LB) (mo : LB) (al : List Int) (t i : Int) {X : Nat → Value} {h : LK} {th : LA} {sg : List (Nat × Nat)} (hne : exB x' .normal = false) (ho : ∀ a' r', (a', r') ∈ h → HOk (CXOa_0 lz mo al t i X) a' r') (ht : ThOk (CXOa_0 lz mo al t i X) E' th) (run : RNOa_0 h x' th sg 140 e' h' = true) : RHOa lz mo al E' x' e' h' (0, t, i) X :=
  RoundH.leave (tb := tbl h) (L := []) (f := 5000) ((tabkOk _ _).hyps ho) (LpOk.nil _) rfl hne ht run
noncomputable abbrev CXOa_1 (lz : List LB) (mo : LB) (al : List Int) (t i : Int) (X : Nat → Value) : Cx := cx (nuX (nuOa_1 lz mo al t i) (rX (roOa_1 lz mo al t i) X)) (nuX_one (nuL_one (l := nuOa_1 lz mo al t i) rfl)) 3 laidE laidE_stab
theorem sLOa_1 (lz : List LB) (mo : LB) (al : List Int) (t i : Int) {X : Nat → Value} {tb : Tab} {L : List LF} (y : Nat × Int × Int) {th : LA} {sg : List (Nat × Nat)} (hall : AllOk (CXOa_1 lz mo al t i X) tb) (hlp : LpOk (CXOa_1 lz mo al t i X) L bodyOa) (hng : tb.ng = 4) (hy : InvOa lz mo al y) (lt : muOa lz mo al y < muOa lz mo al (1, t, i)) (ht : ThOk (CXOa_1 lz mo al t i X) (DOa lz mo al y X) th) (run : okRdH (code tb 5000 L bodyOa (envOf (headOf epOa_1 keepOa) 117) ⟨lhSet hpOa_1 .leaf, 42, 0, 0⟩) .normal keepOa 117 140 th sg 40 42 (epOa y) (hpOa y) = true) : RHOa lz mo al E' x' e' h' (1, t, i) X :=
  RoundH.next (tb := tb) (L := L) (f := 5000) y hall hlp hng hy lt ht run
theorem lLOa_1 (lz : List LB) (mo : LB) (al : List Int) (t i : Int) {X : Nat → Value} {tb : Tab} {L : List LF} {th : LA} {sg : List (Nat × Nat)} (hne : exB x' .normal = false) (hall : AllOk (CXOa_1 lz mo al t i X) tb) (hlp : LpOk (CXOa_1 lz mo al t i X) L bodyOa) (hng : tb.ng = 4) (ht : ThOk (CXOa_1 lz mo al t i X) E' th) (run : okRdH (code tb 5000 L bodyOa (envOf (headOf epOa_1 keepOa) 117) ⟨lhSet hpOa_1 .leaf, 42, 0, 0⟩) x' keepOa 117 140 th sg 40 140 e' h' = true) : RHOa lz mo al E' x' e' h' (1, t, i) X :=
  RoundH.leave (tb := tb) (L := L) (f := 5000) hall hlp hng hne ht run
noncomputable abbrev RNOa_1 (h : LK) (x : Ex) (th : LA) (sg : List (Nat × Nat)) (m : Nat) (ep : LA) (hp : LE) : Bool := okRdH (code (tbl h) 5000 [] bodyOa (envOf (headOf epOa_1 keepOa) 117) ⟨lhSet hpOa_1 .leaf, 42, 0, 0⟩) x keepOa 117 140 th sg 40 m ep hp
theorem stOa_1 (lz : List LB) (mo : LB) (al : List Int) (t i : Int) {X : Nat → Value} {h : LK} (y : Nat × Int × Int) {th : LA} {sg : List (Nat × Nat)} (ho : ∀ a' r', (a', r') ∈ h → HOk (CXOa_1 lz mo al t i X) a' r') (hy : InvOa lz mo al y) (lt : muOa lz mo al y < muOa lz mo al (1, t, i)) (ht : ThOk (CXOa_1 lz mo al t i X) (DOa lz mo al y X) th) (run : RNOa_1 h .normal th sg 42 (epOa y) (hpOa y) = true) : RHOa lz mo al E' x' e' h' (1, t, i) X :=
  RoundH.next (tb := tbl h) (L := []) (f := 5000) y ((tabkOk _ _).hyps ho) (LpOk.nil _) rfl hy lt ht run
theorem lvOa_1 (lz : List LB) (mo : LB) (al : List Int) (t i : Int) {X : Nat → Value} {h : LK} {th : LA} {sg : List (Nat × Nat)} (hne : exB x' .normal = false) (ho : ∀ a' r', (a', r') ∈ h → HOk (CXOa_1 lz mo al t i X) a' r') (ht : ThOk (CXOa_1 lz mo al t i X) E' th) (run : RNOa_1 h x' th sg 140 e' h' = true) : RHOa lz mo al E' x' e' h' (1, t, i) X :=
  RoundH.leave (tb := tbl h) (L := []) (f := 5000) ((tabkOk _ _).hyps ho) (LpOk.nil _) rfl hne ht run
noncomputable abbrev CXOa_2 (lz : List LB) (mo : LB) (al : List Int) (t i : Int) (X : Nat → Value) : Cx := cx (nuX (nuOa_2 lz mo al t i) (rX (roOa_2 lz mo al t i) X)) (nuX_one (nuL_one (l := nuOa_2 lz mo al t i) rfl)) 3 laidE laidE_stab
theorem sLOa_2 (lz : List LB) (mo : LB) (al : List Int) (t i : Int) {X : Nat → Value} {tb : Tab} {L : List LF} (y : Nat × Int × Int) {th : LA} {sg : List (Nat × Nat)} (hall : AllOk (CXOa_2 lz mo al t i X) tb) (hlp : LpOk (CXOa_2 lz mo al t i X) L bodyOa) (hng : tb.ng = 4) (hy : InvOa lz mo al y) (lt : muOa lz mo al y < muOa lz mo al (2, t, i)) (ht : ThOk (CXOa_2 lz mo al t i X) (DOa lz mo al y X) th) (run : okRdH (code tb 5000 L bodyOa (envOf (headOf epOa_2 keepOa) 117) ⟨lhSet hpOa_2 .leaf, 42, 0, 0⟩) .normal keepOa 117 140 th sg 40 42 (epOa y) (hpOa y) = true) : RHOa lz mo al E' x' e' h' (2, t, i) X :=
  RoundH.next (tb := tb) (L := L) (f := 5000) y hall hlp hng hy lt ht run
theorem lLOa_2 (lz : List LB) (mo : LB) (al : List Int) (t i : Int) {X : Nat → Value} {tb : Tab} {L : List LF} {th : LA} {sg : List (Nat × Nat)} (hne : exB x' .normal = false) (hall : AllOk (CXOa_2 lz mo al t i X) tb) (hlp : LpOk (CXOa_2 lz mo al t i X) L bodyOa) (hng : tb.ng = 4) (ht : ThOk (CXOa_2 lz mo al t i X) E' th) (run : okRdH (code tb 5000 L bodyOa (envOf (headOf epOa_2 keepOa) 117) ⟨lhSet hpOa_2 .leaf, 42, 0, 0⟩) x' keepOa 117 140 th sg 40 140 e' h' = true) : RHOa lz mo al E' x' e' h' (2, t, i) X :=
  RoundH.leave (tb := tb) (L := L) (f := 5000) hall hlp hng hne ht run
noncomputable abbrev RNOa_2 (h : LK) (x : Ex) (th : LA) (sg : List (Nat × Nat)) (m : Nat) (ep : LA) (hp : LE) : Bool := okRdH (code (tbl h) 5000 [] bodyOa (envOf (headOf epOa_2 keepOa) 117) ⟨lhSet hpOa_2 .leaf, 42, 0, 0⟩) x keepOa 117 140 th sg 40 m ep hp
theorem stOa_2 (lz : List LB) (mo : LB) (al : List Int) (t i : Int) {X : Nat → Value} {h : LK} (y : Nat × Int × Int) {th : LA} {sg : List (Nat × Nat)} (ho : ∀ a' r', (a', r') ∈ h → HOk (CXOa_2 lz mo al t i X) a' r') (hy : InvOa lz mo al y) (lt : muOa lz mo al y < muOa lz mo al (2, t, i)) (ht : ThOk (CXOa_2 lz mo al t i X) (DOa lz mo al y X) th) (run : RNOa_2 h .normal th sg 42 (epOa y) (hpOa y) = true) : RHOa lz mo al E' x' e' h' (2, t, i) X :=
  RoundH.next (tb := tbl h) (L := []) (f := 5000) y ((tabkOk _ _).hyps ho) (LpOk.nil _) rfl hy lt ht run
theorem lvOa_2 (lz : List LB) (mo : LB) (al : List Int) (t i : Int) {X : Nat → Value} {h : LK} {th : LA} {sg : List (Nat × Nat)} (hne : exB x' .normal = false) (ho : ∀ a' r', (a', r') ∈ h → HOk (CXOa_2 lz mo al t i X) a' r') (ht : ThOk (CXOa_2 lz mo al t i X) E' th) (run : RNOa_2 h x' th sg 140 e' h' = true) : RHOa lz mo al E' x' e' h' (2, t, i) X :=
  RoundH.leave (tb := tbl h) (L := []) (f := 5000) ((tabkOk _ _).hyps ho) (LpOk.nil _) rfl hne ht run
noncomputable abbrev CXOa_3 (lz : List LB) (mo : LB) (al : List Int) (t i : Int) (X : Nat → Value) : Cx := cx (nuX (nuOa_3 lz mo al t i) (rX (roOa_3 lz mo al t i) X)) (nuX_one (nuL_one (l := nuOa_3 lz mo al t i) rfl)) 3 laidE laidE_stab
theorem sLOa_3 (lz : List LB) (mo : LB) (al : List Int) (t i : Int) {X : Nat → Value} {tb : Tab} {L : List LF} (y : Nat × Int × Int) {th : LA} {sg : List (Nat × Nat)} (hall : AllOk (CXOa_3 lz mo al t i X) tb) (hlp : LpOk (CXOa_3 lz mo al t i X) L bodyOa) (hng : tb.ng = 4) (hy : InvOa lz mo al y) (lt : muOa lz mo al y < muOa lz mo al (3, t, i)) (ht : ThOk (CXOa_3 lz mo al t i X) (DOa lz mo al y X) th) (run : okRdH (code tb 5000 L bodyOa (envOf (headOf epOa_3 keepOa) 117) ⟨lhSet hpOa_3 .leaf, 42, 0, 0⟩) .normal keepOa 117 140 th sg 40 42 (epOa y) (hpOa y) = true) : RHOa lz mo al E' x' e' h' (3, t, i) X :=
  RoundH.next (tb := tb) (L := L) (f := 5000) y hall hlp hng hy lt ht run
theorem lLOa_3 (lz : List LB) (mo : LB) (al : List Int) (t i : Int) {X : Nat → Value} {tb : Tab} {L : List LF} {th : LA} {sg : List (Nat × Nat)} (hne : exB x' .normal = false) (hall : AllOk (CXOa_3 lz mo al t i X) tb) (hlp : LpOk (CXOa_3 lz mo al t i X) L bodyOa) (hng : tb.ng = 4) (ht : ThOk (CXOa_3 lz mo al t i X) E' th) (run : okRdH (code tb 5000 L bodyOa (envOf (headOf epOa_3 keepOa) 117) ⟨lhSet hpOa_3 .leaf, 42, 0, 0⟩) x' keepOa 117 140 th sg 40 140 e' h' = true) : RHOa lz mo al E' x' e' h' (3, t, i) X :=
  RoundH.leave (tb := tb) (L := L) (f := 5000) hall hlp hng hne ht run
noncomputable abbrev RNOa_3 (h : LK) (x : Ex) (th : LA) (sg : List (Nat × Nat)) (m : Nat) (ep : LA) (hp : LE) : Bool := okRdH (code (tbl h) 5000 [] bodyOa (envOf (headOf epOa_3 keepOa) 117) ⟨lhSet hpOa_3 .leaf, 42, 0, 0⟩) x keepOa 117 140 th sg 40 m ep hp
theorem stOa_3 (lz : List LB) (mo : LB) (al : List Int) (t i : Int) {X : Nat → Value} {h : LK} (y : Nat × Int × Int) {th : LA} {sg : List (Nat × Nat)} (ho : ∀ a' r', (a', r') ∈ h → HOk (CXOa_3 lz mo al t i X) a' r') (hy : InvOa lz mo al y) (lt : muOa lz mo al y < muOa lz mo al (3, t, i)) (ht : ThOk (CXOa_3 lz mo al t i X) (DOa lz mo al y X) th) (run : RNOa_3 h .normal th sg 42 (epOa y) (hpOa y) = true) : RHOa lz mo al E' x' e' h' (3, t, i) X :=
  RoundH.next (tb := tbl h) (L := []) (f := 5000) y ((tabkOk _ _).hyps ho) (LpOk.nil _) rfl hy lt ht run
theorem lvOa_3 (lz : List LB) (mo : LB) (al : List Int) (t i : Int) {X : Nat → Value} {h : LK} {th : LA} {sg : List (Nat × Nat)} (hne : exB x' .normal = false) (ho : ∀ a' r', (a', r') ∈ h → HOk (CXOa_3 lz mo al t i X) a' r') (ht : ThOk (CXOa_3 lz mo al t i X) E' th) (run : RNOa_3 h x' th sg 140 e' h' = true) : RHOa lz mo al E' x' e' h' (3, t, i) X :=
  RoundH.leave (tb := tbl h) (L := []) (f := 5000) ((tabkOk _ _).hyps ho) (LpOk.nil _) rfl hne ht run
noncomputable abbrev CXOa_4 (lz : List LB) (mo : LB) (al : List Int) (t i : Int) (X : Nat → Value) : Cx := cx (nuX (nuOa_4 lz mo al t i) (rX (roOa_4 lz mo al t i) X)) (nuX_one (nuL_one (l := nuOa_4 lz mo al t i) rfl)) 3 laidE laidE_stab
theorem sLOa_4 (lz : List LB) (mo : LB) (al : List Int) (t i : Int) {X : Nat → Value} {tb : Tab} {L : List LF} (y : Nat × Int × Int) {th : LA} {sg : List (Nat × Nat)} (hall : AllOk (CXOa_4 lz mo al t i X) tb) (hlp : LpOk (CXOa_4 lz mo al t i X) L bodyOa) (hng : tb.ng = 4) (hy : InvOa lz mo al y) (lt : muOa lz mo al y < muOa lz mo al (4, t, i)) (ht : ThOk (CXOa_4 lz mo al t i X) (DOa lz mo al y X) th) (run : okRdH (code tb 5000 L bodyOa (envOf (headOf epOa_4 keepOa) 117) ⟨lhSet hpOa_4 .leaf, 42, 0, 0⟩) .normal keepOa 117 140 th sg 40 42 (epOa y) (hpOa y) = true) : RHOa lz mo al E' x' e' h' (4, t, i) X :=
  RoundH.next (tb := tb) (L := L) (f := 5000) y hall hlp hng hy lt ht run
theorem lLOa_4 (lz : List LB) (mo : LB) (al : List Int) (t i : Int) {X : Nat → Value} {tb : Tab} {L : List LF} {th : LA} {sg : List (Nat × Nat)} (hne : exB x' .normal = false) (hall : AllOk (CXOa_4 lz mo al t i X) tb) (hlp : LpOk (CXOa_4 lz mo al t i X) L bodyOa) (hng : tb.ng = 4) (ht : ThOk (CXOa_4 lz mo al t i X) E' th) (run : okRdH (code tb 5000 L bodyOa (envOf (headOf epOa_4 keepOa) 117) ⟨lhSet hpOa_4 .leaf, 42, 0, 0⟩) x' keepOa 117 140 th sg 40 140 e' h' = true) : RHOa lz mo al E' x' e' h' (4, t, i) X :=
  RoundH.leave (tb := tb) (L := L) (f := 5000) hall hlp hng hne ht run
noncomputable abbrev RNOa_4 (h : LK) (x : Ex) (th : LA) (sg : List (Nat × Nat)) (m : Nat) (ep : LA) (hp : LE) : Bool := okRdH (code (tbl h) 5000 [] bodyOa (envOf (headOf epOa_4 keepOa) 117) ⟨lhSet hpOa_4 .leaf, 42, 0, 0⟩) x keepOa 117 140 th sg 40 m ep hp
theorem stOa_4 (lz : List LB) (mo : LB) (al : List Int) (t i : Int) {X : Nat → Value} {h : LK} (y : Nat × Int × Int) {th : LA} {sg : List (Nat × Nat)} (ho : ∀ a' r', (a', r') ∈ h → HOk (CXOa_4 lz mo al t i X) a' r') (hy : InvOa lz mo al y) (lt : muOa lz mo al y < muOa lz mo al (4, t, i)) (ht : ThOk (CXOa_4 lz mo al t i X) (DOa lz mo al y X) th) (run : RNOa_4 h .normal th sg 42 (epOa y) (hpOa y) = true) : RHOa lz mo al E' x' e' h' (4, t, i) X :=
  RoundH.next (tb := tbl h) (L := []) (f := 5000) y ((tabkOk _ _).hyps ho) (LpOk.nil _) rfl hy lt ht run
theorem lvOa_4 (lz : List LB) (mo : LB) (al : List Int) (t i : Int) {X : Nat → Value} {h : LK} {th : LA} {sg : List (Nat × Nat)} (hne : exB x' .normal = false) (ho : ∀ a' r', (a', r') ∈ h → HOk (CXOa_4 lz mo al t i X) a' r') (ht : ThOk (CXOa_4 lz mo al t i X) E' th) (run : RNOa_4 h x' th sg 140 e' h' = true) : RHOa lz mo al E' x' e' h' (4, t, i) X :=
  RoundH.leave (tb := tbl h) (L := []) (f := 5000) ((tabkOk _ _).hyps ho) (LpOk.nil _) rfl hne ht run
def hyOa_p0 : LK := [(.rn, .x 2000001), (.bytes [], .x 5), (.len (.x 0), .x 6), (.bin .lss (.x 1) (.x 6), .b true), (.rl (.x 2000000) 1, .x 7), (.bin .gtr (.x 7) (.i .i64 (.ofNat 0)), .b true), (.bin .rem (.x 2) (.x 7), .x 8), (.el (.x 2000000) (.x 8) 1 0, .x 9), (.conv 3 (.x 9), .x 10), (.bin .add (.x 10) (.i .i64 (.ofNat 1)), .x 11), (.bin .add (.x 1) (.x 11), .x 12), (.mm false (.x 6) (.x 12), .x 13), (.sub (.x 0) (some (.x 1)) (some (.x 13)), .x 14), (.bin .eql (.x 3) (.i .i64 (.ofNat 5)), .b false), (.bin .add (.x 1) (.x 15), .x 20), (.len (.x 14), .x 21), (.bin .lss (.x 15) (.x 21), .b false), (.bin .add (.x 2) (.i .i64 (.ofNat 1)), .x 22)]
def lh463 : LH := ⟨4, 60, 120, [(30, .b ⟨38, .l [.i .i64 (.ofNat 4000), .x 3, .nils, .b false, .x 4, .i .i64 (.ofNat 0), .nils], 0, 0, 0, false, false⟩)], [(30, .b ⟨38, .l [.i .i64 (.ofNat 4000), .x 16, .sy 60, .b false, .x 17, .i .i64 (.ofNat 0), .sy 61], 0, 0, 0, false, false⟩), (60, .t 18 5), (61, .t 19 5)]⟩
def lf463 : LF := ⟨4, 58, [(0, .p 30 0), (1, .x 14), (6, .i .i64 (.ofNat 0))], [], (.exit 0), [(6, .x 15)], some lh463⟩
noncomputable def tbOa_p0 : Tab := addLps ((tbl hyOa_p0)) 8 fi8 [lf463]
def LOa_p0 : List LF := []
theorem runOa_p0 : okRdH (code tbOa_p0 5000 LOa_p0 bodyOa (envOf (headOf epOa_0 keepOa) 117) ⟨lhSet hpOa_0 .leaf, 42, 0, 0⟩) .normal keepOa 117 140 [(0, .x 0), (1, .x 20), (2, .x 22), (3, .x 16), (4, .x 17), (5, .x 18), (6, .x 19), (2000000, .x 2000000)] [(40, 60), (41, 61)] 40 42 epOa_3 hpOa_3 = true := by kernel_rfl
theorem nxOa_p0 (lz : List LB) (mo : LB) (al : List Int) (t i : Int) (X : Nat → Value) (hI : InvOa lz mo al (0, t, i)) (h3 : ¬ (cA lz (t + (eE lz mo t (kO al i))) = true)) (h4 : ¬ ((DA lz (t + (eE lz mo t (kO al i)))).length = 0)) (h5 : ¬ ((eE lz mo t (kO al i)) < (uA lz mo t (kO al i)) - t)) : RHOa lz mo al E' x' e' h' (0, t, i) X := by
  obtain ⟨i0, i1, i2, i3, i4, i5, i6, i7, i8, i9, i10, i11, i12, i13, i14, i15, i16, it⟩ := unIOa lz mo al 0 t i hI
  obtain ⟨y1, y2, y3, y4, y5, y6, y7, y8⟩ := any_ (l := lz) (i := t) i5 (by omega) (by omega)
  have hNl := nA_lo (l := lz)
  have hn0 : ([] : LB).length = 0 := rfl
  obtain ⟨hm0, hm1, hm2, hkO⟩ := rO i2 i14 i15
  have hsl := ckn (l := lz) (mo := mo)
  obtain ⟨huA, hxl, heA, hpE, z1, z2, z5, z6, hmo, hzt⟩ := rndC (l := lz) (mo := mo) (t := t) (k := (kO al i)) i5 i0 i1 (by omega) (by omega)
  have ho : ∀ a' r', (a', r') ∈ hyOa_p0 → HOk (CXOa_0 lz mo al t i X) a' r' := by
    unfold hyOa_p0
    exact hc (kRn (denX rfl)) <|
     hc (kBytesB (bs := ([] : LB)) .nil (denX rfl)) <|
     hc (lnV rfl rfl (by omega)) <|
     hc (ltT rfl rfl (by omega)) <|
     hc (kRlI (isX rfl) (denX rfl) (by first | omega | (simp <;> omega))) <|
     hc (gtcT rfl (by omega)) <|
     hc (kRem (isX rfl) (isX rfl) (denX rfl) (by omega) (by omega) rfl) <|
     hc (kElI (j := (Int.toNat (i % (al.length : Int)))) (isX rfl) (isX rfl) (denX rfl) (by omega) (by omega)) <|
     hc (kConvF (isX rfl) tu3 (denX rfl) (fI64 (by omega) (by omega))) <|
     hc (adC rfl rfl (by omega)) <|
     hc (adX rfl rfl rfl (by omega)) <|
     hc (kMin (isX rfl) (isX rfl) (denX rfl) (by rw [huA, hsl]; try omega)) <|
     hc (mdV rfl rfl rfl rfl (by omega)) <|
     hc (eqcF rfl (by omega)) <|
     hc (adX rfl rfl rfl (by omega)) <|
     hc (lnV rfl rfl (by omega)) <|
     hc (ltF rfl rfl (by omega)) <|
     hc (adC rfl rfl (by omega)) <|
     hnil
  exact sLOa_0 lz mo al t i (tb := tbOa_p0) (L := LOa_p0) (3, (t + (eE lz mo t (kO al i))), (i + 1)) (AllOk.lp1 ((tabkOk _ _).hyps ho) (by omega) fi8_at fi8_body (lfCons (lpKnown rfl ⟨0, keyFd, lfOkFd_2 (l := lf463) (h := lh463) lz (xS lz mo t (uA lz mo t (kO al i))) mo t (eE lz mo t (kO al i)) i0 (⟨by omega, by omega⟩) (by omega) i5 i6 xS_P (by omega) (by omega) (by first | assumption | omega) (by first | assumption | (show ¬ (DA lz (t + (eE lz mo t (kO al i)))).length = 0; omega)) (0, (0 : Int)) (fdI (by omega) (by omega) i8 i9 i10 i11 i12 i13 (by decide)) rfl (by kernel_rfl) (th0 := [(0, .x 14), (1, .i .i64 (.ofNat 0)), (2, .x 3), (3, .x 4)]) (sg0 := []) (fun X => thXv (v := St' (xS lz mo t (uA lz mo t (kO al i)))) rfl rfl (thCons (show Is _ (.i .i64 (.ofNat 0)) (.int .i64 ((0 : Int))) from isTo (v := .int .i64 0) (isI _ _) (by first | rfl | (congr 1; omega))) (thXe (v := .int .i64 ((wA lz t))) (u := .int .i64 ((wA lz (t + (0 : Int))))) rfl rfl (by rw [hzt]) (thXe (v := .int .i64 ((fA lz t))) (u := .int .i64 ((fA lz (t + (0 : Int))))) rfl rfl (by rw [hzt]) (thNil))))) (by kernel_rfl) (thx := [(15, .x 0), (16, .x 1), (17, .x 2), (18, .x 3), (19, .x 4)]) (thXv (v := .int .i64 ((eE lz mo t (kO al i)))) rfl rfl (thXv (v := .int .i64 ((wA lz (t + (eE lz mo t (kO al i)))))) rfl rfl (thXv (v := .int .i64 ((fA lz (t + (eE lz mo t (kO al i)))))) rfl rfl (thXv (v := St' (lnA lz (t + (eE lz mo t (kO al i))))) rfl rfl (thXv (v := St' (DA lz (t + (eE lz mo t (kO al i))))) rfl rfl (thNil)))))) (by kernel_rfl)⟩) lfNil)) (lpOk_one lfNil) rfl (mkIOa lz mo al 3 (t + (eE lz mo t (kO al i))) (i + 1) ⟨by omega, by omega, by omega, by omega, i4, i5, i6, i7, fun h => by omega, fun _ => by omega, fun _ => by first | assumption | omega, fun h => by omega, fun h => by omega, fun _ => by first | assumption | omega, i14, i15, i16, by omega⟩) (by show (nA lz - (t + (eE lz mo t (kO al i)))).toNat < (nA lz - t).toNat; omega) (thXv (v := St' (ckS lz ++ mo)) rfl rfl (thXi (b := ((t + (eE lz mo t (kO al i))))) rfl rfl (by omega) (thXi (b := ((i + 1))) rfl rfl (by omega) (thXv (v := .int .i64 ((wA lz (t + (eE lz mo t (kO al i)))))) rfl rfl (thXv (v := .int .i64 ((fA lz (t + (eE lz mo t (kO al i)))))) rfl rfl (thXv (v := St' (lnA lz (t + (eE lz mo t (kO al i))))) rfl rfl (thXv (v := St' (DA lz (t + (eE lz mo t (kO al i))))) rfl rfl (thXv (v := rwI .u8 al) rfl rfl (thNil))))))))) runOa_p0
def hyOa_p1 : LK := [(.rn, .x 2000002), (.bytes [], .x 23), (.len (.x 0), .x 24), (.bin .lss (.x 1) (.x 24), .b true), (.rl (.x 2000000) 1, .x 25), (.bin .gtr (.x 25) (.i .i64 (.ofNat 0)), .b true), (.bin .rem (.x 2) (.x 25), .x 26), (.el (.x 2000000) (.x 26) 1 0, .x 27), (.conv 3 (.x 27), .x 28), (.bin .add (.x 28) (.i .i64 (.ofNat 1)), .x 29), (.bin .add (.x 1) (.x 29), .x 30), (.mm false (.x 24) (.x 30), .x 31), (.sub (.x 0) (some (.x 1)) (some (.x 31)), .x 32), (.bin .eql (.x 3) (.i .i64 (.ofNat 5)), .b false), (.bin .add (.x 1) (.x 33), .x 37), (.len (.x 32), .x 38), (.bin .lss (.x 33) (.x 38), .b false), (.bin .add (.x 2) (.i .i64 (.ofNat 1)), .x 39)]
def lh464 : LH := ⟨4, 60, 120, [(30, .b ⟨38, .l [.i .i64 (.ofNat 4000), .x 3, .nils, .b false, .x 4, .i .i64 (.ofNat 0), .nils], 0, 0, 0, false, false⟩)], [(30, .b ⟨38, .l [.i .i64 (.ofNat 4000), .x 34, .sy 60, .b false, .x 35, .i .i64 (.ofNat 0), .nils], 0, 0, 0, false, false⟩), (60, .t 36 5)]⟩
def lf464 : LF := ⟨4, 58, [(0, .p 30 0), (1, .x 32), (6, .i .i64 (.ofNat 0))], [], (.exit 0), [(6, .x 33)], some lh464⟩
noncomputable def tbOa_p1 : Tab := addLps ((tbl hyOa_p1)) 8 fi8 [lf464]
def LOa_p1 : List LF := []
theorem runOa_p1 : okRdH (code tbOa_p1 5000 LOa_p1 bodyOa (envOf (headOf epOa_0 keepOa) 117) ⟨lhSet hpOa_0 .leaf, 42, 0, 0⟩) .normal keepOa 117 140 [(0, .x 0), (1, .x 37), (2, .x 39), (3, .x 34), (4, .x 35), (5, .x 36), (2000000, .x 2000000)] [(40, 60)] 40 42 epOa_1 hpOa_1 = true := by kernel_rfl
theorem nxOa_p1 (lz : List LB) (mo : LB) (al : List Int) (t i : Int) (X : Nat → Value) (hI : InvOa lz mo al (0, t, i)) (h3 : ¬ (cA lz (t + (eE lz mo t (kO al i))) = true)) (h4 : (DA lz (t + (eE lz mo t (kO al i)))).length = 0) (h5 : ¬ ((eE lz mo t (kO al i)) < (uA lz mo t (kO al i)) - t)) : RHOa lz mo al E' x' e' h' (0, t, i) X := by
  obtain ⟨i0, i1, i2, i3, i4, i5, i6, i7, i8, i9, i10, i11, i12, i13, i14, i15, i16, it⟩ := unIOa lz mo al 0 t i hI
  obtain ⟨y1, y2, y3, y4, y5, y6, y7, y8⟩ := any_ (l := lz) (i := t) i5 (by omega) (by omega)
  have hNl := nA_lo (l := lz)
  have hn0 : ([] : LB).length = 0 := rfl
  obtain ⟨hm0, hm1, hm2, hkO⟩ := rO i2 i14 i15
  have hsl := ckn (l := lz) (mo := mo)
  obtain ⟨huA, hxl, heA, hpE, z1, z2, z5, z6, hmo, hzt⟩ := rndC (l := lz) (mo := mo) (t := t) (k := (kO al i)) i5 i0 i1 (by omega) (by omega)
  have ho : ∀ a' r', (a', r') ∈ hyOa_p1 → HOk (CXOa_0 lz mo al t i X) a' r' := by
    unfold hyOa_p1
    exact hc (kRn (denX rfl)) <|
     hc (kBytesB (bs := ([] : LB)) .nil (denX rfl)) <|
     hc (lnV rfl rfl (by omega)) <|
     hc (ltT rfl rfl (by omega)) <|
     hc (kRlI (isX rfl) (denX rfl) (by first | omega | (simp <;> omega))) <|
     hc (gtcT rfl (by omega)) <|
     hc (kRem (isX rfl) (isX rfl) (denX rfl) (by omega) (by omega) rfl) <|
     hc (kElI (j := (Int.toNat (i % (al.length : Int)))) (isX rfl) (isX rfl) (denX rfl) (by omega) (by omega)) <|
     hc (kConvF (isX rfl) tu3 (denX rfl) (fI64 (by omega) (by omega))) <|
     hc (adC rfl rfl (by omega)) <|
     hc (adX rfl rfl rfl (by omega)) <|
     hc (kMin (isX rfl) (isX rfl) (denX rfl) (by rw [huA, hsl]; try omega)) <|
     hc (mdV rfl rfl rfl rfl (by omega)) <|
     hc (eqcF rfl (by omega)) <|
     hc (adX rfl rfl rfl (by omega)) <|
     hc (lnV rfl rfl (by omega)) <|
     hc (ltF rfl rfl (by omega)) <|
     hc (adC rfl rfl (by omega)) <|
     hnil
  exact sLOa_0 lz mo al t i (tb := tbOa_p1) (L := LOa_p1) (1, (t + (eE lz mo t (kO al i))), (i + 1)) (AllOk.lp1 ((tabkOk _ _).hyps ho) (by omega) fi8_at fi8_body (lfCons (lpKnown rfl ⟨0, keyFd, lfOkFd_0 (l := lf464) (h := lh464) lz (xS lz mo t (uA lz mo t (kO al i))) mo t (eE lz mo t (kO al i)) i0 (⟨by omega, by omega⟩) (by omega) i5 i6 xS_P (by omega) (by omega) (by first | assumption | omega) (by first | assumption | (show (DA lz (t + (eE lz mo t (kO al i)))).length = 0; omega)) (0, (0 : Int)) (fdI (by omega) (by omega) i8 i9 i10 i11 i12 i13 (by decide)) rfl (by kernel_rfl) (th0 := [(0, .x 32), (1, .i .i64 (.ofNat 0)), (2, .x 3), (3, .x 4)]) (sg0 := []) (fun X => thXv (v := St' (xS lz mo t (uA lz mo t (kO al i)))) rfl rfl (thCons (show Is _ (.i .i64 (.ofNat 0)) (.int .i64 ((0 : Int))) from isTo (v := .int .i64 0) (isI _ _) (by first | rfl | (congr 1; omega))) (thXe (v := .int .i64 ((wA lz t))) (u := .int .i64 ((wA lz (t + (0 : Int))))) rfl rfl (by rw [hzt]) (thXe (v := .int .i64 ((fA lz t))) (u := .int .i64 ((fA lz (t + (0 : Int))))) rfl rfl (by rw [hzt]) (thNil))))) (by kernel_rfl) (thx := [(33, .x 0), (34, .x 1), (35, .x 2), (36, .x 3)]) (thXv (v := .int .i64 ((eE lz mo t (kO al i)))) rfl rfl (thXv (v := .int .i64 ((wA lz (t + (eE lz mo t (kO al i)))))) rfl rfl (thXv (v := .int .i64 ((fA lz (t + (eE lz mo t (kO al i)))))) rfl rfl (thXv (v := St' (lnA lz (t + (eE lz mo t (kO al i))))) rfl rfl (thNil))))) (by kernel_rfl)⟩) lfNil)) (lpOk_one lfNil) rfl (mkIOa lz mo al 1 (t + (eE lz mo t (kO al i))) (i + 1) ⟨by omega, by omega, by omega, by omega, i4, i5, i6, i7, fun h => by omega, fun _ => by omega, fun _ => by first | assumption | omega, fun h => by omega, fun _ => by first | assumption | omega, fun h => by omega, i14, i15, i16, by omega⟩) (by show (nA lz - (t + (eE lz mo t (kO al i)))).toNat < (nA lz - t).toNat; omega) (thXv (v := St' (ckS lz ++ mo)) rfl rfl (thXi (b := ((t + (eE lz mo t (kO al i))))) rfl rfl (by omega) (thXi (b := ((i + 1))) rfl rfl (by omega) (thXv (v := .int .i64 ((wA lz (t + (eE lz mo t (kO al i)))))) rfl rfl (thXv (v := .int .i64 ((fA lz (t + (eE lz mo t (kO al i)))))) rfl rfl (thXv (v := St' (lnA lz (t + (eE lz mo t (kO al i))))) rfl rfl (thXv (v := rwI .u8 al) rfl rfl (thNil)))))))) runOa_p1
def hyOa_p2 : LK := [(.rn, .x 2000001), (.bytes [], .x 6), (.len (.x 0), .x 7), (.bin .lss (.x 1) (.x 7), .b true), (.rl (.x 2000000) 1, .x 8), (.bin .gtr (.x 8) (.i .i64 (.ofNat 0)), .b true), (.bin .rem (.x 2) (.x 8), .x 9), (.el (.x 2000000) (.x 9) 1 0, .x 10), (.conv 3 (.x 10), .x 11), (.bin .add (.x 11) (.i .i64 (.ofNat 1)), .x 12), (.bin .add (.x 1) (.x 12), .x 13), (.mm false (.x 7) (.x 13), .x 14), (.sub (.x 0) (some (.x 1)) (some (.x 14)), .x 15), (.bin .eql (.x 3) (.i .i64 (.ofNat 5)), .b false), (.bin .add (.x 1) (.x 16), .x 21), (.len (.x 15), .x 22), (.bin .lss (.x 16) (.x 22), .b false), (.bin .add (.x 2) (.i .i64 (.ofNat 1)), .x 23)]
def lh466 : LH := ⟨4, 60, 120, [(30, .b ⟨38, .l [.i .i64 (.ofNat 4000), .x 3, .sy 40, .b false, .x 4, .i .i64 (.ofNat 0), .nils], 0, 0, 0, false, false⟩), (40, .t 5 5)], [(30, .b ⟨38, .l [.i .i64 (.ofNat 4000), .x 17, .sy 60, .b false, .x 18, .i .i64 (.ofNat 0), .sy 61], 0, 0, 0, false, false⟩), (60, .t 19 5), (61, .t 20 5)]⟩
def lf466 : LF := ⟨4, 58, [(0, .p 30 0), (1, .x 15), (6, .i .i64 (.ofNat 0))], [], (.exit 0), [(6, .x 16)], some lh466⟩
noncomputable def tbOa_p2 : Tab := addLps ((tbl hyOa_p2)) 8 fi8 [lf466]
def LOa_p2 : List LF := []
theorem runOa_p2 : okRdH (code tbOa_p2 5000 LOa_p2 bodyOa (envOf (headOf epOa_1 keepOa) 117) ⟨lhSet hpOa_1 .leaf, 42, 0, 0⟩) .normal keepOa 117 140 [(0, .x 0), (1, .x 21), (2, .x 23), (3, .x 17), (4, .x 18), (5, .x 19), (6, .x 20), (2000000, .x 2000000)] [(40, 60), (41, 61)] 40 42 epOa_3 hpOa_3 = true := by kernel_rfl
theorem nxOa_p2 (lz : List LB) (mo : LB) (al : List Int) (t i : Int) (X : Nat → Value) (hI : InvOa lz mo al (1, t, i)) (h0 : t < ((ckS lz ++ mo).length : Int)) (h3 : ¬ (cA lz (t + (eE lz mo t (kO al i))) = true)) (h4 : ¬ ((DA lz (t + (eE lz mo t (kO al i)))).length = 0)) (h5 : ¬ ((eE lz mo t (kO al i)) < (uA lz mo t (kO al i)) - t)) : RHOa lz mo al E' x' e' h' (1, t, i) X := by
  obtain ⟨i0, i1, i2, i3, i4, i5, i6, i7, i8, i9, i10, i11, i12, i13, i14, i15, i16, it⟩ := unIOa lz mo al 1 t i hI
  obtain ⟨y1, y2, y3, y4, y5, y6, y7, y8⟩ := any_ (l := lz) (i := t) i5 (by omega) (by omega)
  have hNl := nA_lo (l := lz)
  have hn0 : ([] : LB).length = 0 := rfl
  obtain ⟨hm0, hm1, hm2, hkO⟩ := rO i2 i14 i15
  have hsl := ckn (l := lz) (mo := mo)
  obtain ⟨huA, hxl, heA, hpE, z1, z2, z5, z6, hmo, hzt⟩ := rndC (l := lz) (mo := mo) (t := t) (k := (kO al i)) i5 i0 i1 (by omega) (by omega)
  have ho : ∀ a' r', (a', r') ∈ hyOa_p2 → HOk (CXOa_1 lz mo al t i X) a' r' := by
    unfold hyOa_p2
    exact hc (kRn (denX rfl)) <|
     hc (kBytesB (bs := ([] : LB)) .nil (denX rfl)) <|
     hc (lnV rfl rfl (by omega)) <|
     hc (ltT rfl rfl (by omega)) <|
     hc (kRlI (isX rfl) (denX rfl) (by first | omega | (simp <;> omega))) <|
     hc (gtcT rfl (by omega)) <|
     hc (kRem (isX rfl) (isX rfl) (denX rfl) (by omega) (by omega) rfl) <|
     hc (kElI (j := (Int.toNat (i % (al.length : Int)))) (isX rfl) (isX rfl) (denX rfl) (by omega) (by omega)) <|
     hc (kConvF (isX rfl) tu3 (denX rfl) (fI64 (by omega) (by omega))) <|
     hc (adC rfl rfl (by omega)) <|
     hc (adX rfl rfl rfl (by omega)) <|
     hc (kMin (isX rfl) (isX rfl) (denX rfl) (by rw [huA, hsl]; try omega)) <|
     hc (mdV rfl rfl rfl rfl (by omega)) <|
     hc (eqcF rfl (by omega)) <|
     hc (adX rfl rfl rfl (by omega)) <|
     hc (lnV rfl rfl (by omega)) <|
     hc (ltF rfl rfl (by omega)) <|
     hc (adC rfl rfl (by omega)) <|
     hnil
  exact sLOa_1 lz mo al t i (tb := tbOa_p2) (L := LOa_p2) (3, (t + (eE lz mo t (kO al i))), (i + 1)) (AllOk.lp1 ((tabkOk _ _).hyps ho) (by omega) fi8_at fi8_body (lfCons (lpKnown rfl ⟨0, keyFd, lfOkFd_2 (l := lf466) (h := lh466) lz (xS lz mo t (uA lz mo t (kO al i))) mo t (eE lz mo t (kO al i)) i0 (⟨by omega, by omega⟩) (by omega) i5 i6 xS_P (by omega) (by omega) (by first | assumption | omega) (by first | assumption | (show ¬ (DA lz (t + (eE lz mo t (kO al i)))).length = 0; omega)) (1, (0 : Int)) (fdI (by omega) (by omega) i8 i9 i10 i11 i12 i13 (by decide)) rfl (by kernel_rfl) (th0 := [(0, .x 15), (1, .i .i64 (.ofNat 0)), (2, .x 3), (3, .x 4), (4, .x 5)]) (sg0 := [(60, 40)]) (fun X => thXv (v := St' (xS lz mo t (uA lz mo t (kO al i)))) rfl rfl (thCons (show Is _ (.i .i64 (.ofNat 0)) (.int .i64 ((0 : Int))) from isTo (v := .int .i64 0) (isI _ _) (by first | rfl | (congr 1; omega))) (thXe (v := .int .i64 ((wA lz t))) (u := .int .i64 ((wA lz (t + (0 : Int))))) rfl rfl (by rw [hzt]) (thXe (v := .int .i64 ((fA lz t))) (u := .int .i64 ((fA lz (t + (0 : Int))))) rfl rfl (by rw [hzt]) (thXe (v := St' (lnA lz t)) (u := St' (lnA lz (t + (0 : Int)))) rfl rfl (by rw [hzt]) (thNil)))))) (by kernel_rfl) (thx := [(16, .x 0), (17, .x 1), (18, .x 2), (19, .x 3), (20, .x 4)]) (thXv (v := .int .i64 ((eE lz mo t (kO al i)))) rfl rfl (thXv (v := .int .i64 ((wA lz (t + (eE lz mo t (kO al i)))))) rfl rfl (thXv (v := .int .i64 ((fA lz (t + (eE lz mo t (kO al i)))))) rfl rfl (thXv (v := St' (lnA lz (t + (eE lz mo t (kO al i))))) rfl rfl (thXv (v := St' (DA lz (t + (eE lz mo t (kO al i))))) rfl rfl (thNil)))))) (by kernel_rfl)⟩) lfNil)) (lpOk_one lfNil) rfl (mkIOa lz mo al 3 (t + (eE lz mo t (kO al i))) (i + 1) ⟨by omega, by omega, by omega, by omega, i4, i5, i6, i7, fun h => by omega, fun _ => by omega, fun _ => by first | assumption | omega, fun h => by omega, fun h => by omega, fun _ => by first | assumption | omega, i14, i15, i16, by omega⟩) (by show (nA lz - (t + (eE lz mo t (kO al i)))).toNat < (nA lz - t).toNat; omega) (thXv (v := St' (ckS lz ++ mo)) rfl rfl (thXi (b := ((t + (eE lz mo t (kO al i))))) rfl rfl (by omega) (thXi (b := ((i + 1))) rfl rfl (by omega) (thXv (v := .int .i64 ((wA lz (t + (eE lz mo t (kO al i)))))) rfl rfl (thXv (v := .int .i64 ((fA lz (t + (eE lz mo t (kO al i)))))) rfl rfl (thXv (v := St' (lnA lz (t + (eE lz mo t (kO al i))))) rfl rfl (thXv (v := St' (DA lz (t + (eE lz mo t (kO al i))))) rfl rfl (thXv (v := rwI .u8 al) rfl rfl (thNil))))))))) runOa_p2
def hyOa_p3 : LK := [(.rn, .x 2000002), (.bytes [], .x 24), (.len (.x 0), .x 25), (.bin .lss (.x 1) (.x 25), .b true), (.rl (.x 2000000) 1, .x 26), (.bin .gtr (.x 26) (.i .i64 (.ofNat 0)), .b true), (.bin .rem (.x 2) (.x 26), .x 27), (.el (.x 2000000) (.x 27) 1 0, .x 28), (.conv 3 (.x 28), .x 29), (.bin .add (.x 29) (.i .i64 (.ofNat 1)), .x 30), (.bin .add (.x 1) (.x 30), .x 31), (.mm false (.x 25) (.x 31), .x 32), (.sub (.x 0) (some (.x 1)) (some (.x 32)), .x 33), (.bin .eql (.x 3) (.i .i64 (.ofNat 5)), .b false), (.bin .add (.x 1) (.x 34), .x 38), (.len (.x 33), .x 39), (.bin .lss (.x 34) (.x 39), .b false), (.bin .add (.x 2) (.i .i64 (.ofNat 1)), .x 40)]
def lh467 : LH := ⟨4, 60, 120, [(30, .b ⟨38, .l [.i .i64 (.ofNat 4000), .x 3, .sy 40, .b false, .x 4, .i .i64 (.ofNat 0), .nils], 0, 0, 0, false, false⟩), (40, .t 5 5)], [(30, .b ⟨38, .l [.i .i64 (.ofNat 4000), .x 35, .sy 60, .b true, .x 36, .i .i64 (.ofNat 0), .nils], 0, 0, 0, false, false⟩), (60, .t 37 5)]⟩
def lf467 : LF := ⟨4, 58, [(0, .p 30 0), (1, .x 33), (6, .i .i64 (.ofNat 0))], [], (.exit 0), [(6, .x 34)], some lh467⟩
noncomputable def tbOa_p3 : Tab := addLps ((tbl hyOa_p3)) 8 fi8 [lf467]
def LOa_p3 : List LF := []
theorem runOa_p3 : okRdH (code tbOa_p3 5000 LOa_p3 bodyOa (envOf (headOf epOa_1 keepOa) 117) ⟨lhSet hpOa_1 .leaf, 42, 0, 0⟩) .normal keepOa 117 140 [(0, .x 0), (1, .x 38), (2, .x 40), (3, .x 35), (4, .x 36), (5, .x 37), (2000000, .x 2000000)] [(40, 60)] 40 42 epOa_2 hpOa_2 = true := by kernel_rfl
theorem nxOa_p3 (lz : List LB) (mo : LB) (al : List Int) (t i : Int) (X : Nat → Value) (hI : InvOa lz mo al (1, t, i)) (h0 : t < ((ckS lz ++ mo).length : Int)) (h3 : cA lz (t + (eE lz mo t (kO al i))) = true) (h4 : (DA lz (t + (eE lz mo t (kO al i)))).length = 0) : RHOa lz mo al E' x' e' h' (1, t, i) X := by
  obtain ⟨i0, i1, i2, i3, i4, i5, i6, i7, i8, i9, i10, i11, i12, i13, i14, i15, i16, it⟩ := unIOa lz mo al 1 t i hI
  obtain ⟨y1, y2, y3, y4, y5, y6, y7, y8⟩ := any_ (l := lz) (i := t) i5 (by omega) (by omega)
  have hNl := nA_lo (l := lz)
  have hn0 : ([] : LB).length = 0 := rfl
  obtain ⟨hm0, hm1, hm2, hkO⟩ := rO i2 i14 i15
  have hsl := ckn (l := lz) (mo := mo)
  obtain ⟨huA, hxl, heA, hpE, z1, z2, z5, z6, hmo, hzt⟩ := rndC (l := lz) (mo := mo) (t := t) (k := (kO al i)) i5 i0 i1 (by omega) (by omega)
  have hz4 : ¬ wA lz (t + (eE lz mo t (kO al i))) = 4 := fun q => by have := (z2 q).2; rw [(by assumption : cA lz (t + (eE lz mo t (kO al i))) = true)] at this; cases this
  have ho : ∀ a' r', (a', r') ∈ hyOa_p3 → HOk (CXOa_1 lz mo al t i X) a' r' := by
    unfold hyOa_p3
    exact hc (kRn (denX rfl)) <|
     hc (kBytesB (bs := ([] : LB)) .nil (denX rfl)) <|
     hc (lnV rfl rfl (by omega)) <|
     hc (ltT rfl rfl (by omega)) <|
     hc (kRlI (isX rfl) (denX rfl) (by first | omega | (simp <;> omega))) <|
     hc (gtcT rfl (by omega)) <|
     hc (kRem (isX rfl) (isX rfl) (denX rfl) (by omega) (by omega) rfl) <|
     hc (kElI (j := (Int.toNat (i % (al.length : Int)))) (isX rfl) (isX rfl) (denX rfl) (by omega) (by omega)) <|
     hc (kConvF (isX rfl) tu3 (denX rfl) (fI64 (by omega) (by omega))) <|
     hc (adC rfl rfl (by omega)) <|
     hc (adX rfl rfl rfl (by omega)) <|
     hc (kMin (isX rfl) (isX rfl) (denX rfl) (by rw [huA, hsl]; try omega)) <|
     hc (mdV rfl rfl rfl rfl (by omega)) <|
     hc (eqcF rfl (by omega)) <|
     hc (adX rfl rfl rfl (by omega)) <|
     hc (lnV rfl rfl (by omega)) <|
     hc (ltF rfl rfl (by omega)) <|
     hc (adC rfl rfl (by omega)) <|
     hnil
  exact sLOa_1 lz mo al t i (tb := tbOa_p3) (L := LOa_p3) (2, (t + (eE lz mo t (kO al i))), (i + 1)) (AllOk.lp1 ((tabkOk _ _).hyps ho) (by omega) fi8_at fi8_body (lfCons (lpKnown rfl ⟨0, keyFd, lfOkFd_1 (l := lf467) (h := lh467) lz (xS lz mo t (uA lz mo t (kO al i))) mo t (eE lz mo t (kO al i)) i0 (⟨by omega, by omega⟩) (by omega) i5 i6 xS_P (by omega) (by omega) (by first | assumption | omega) (by first | assumption | (show (DA lz (t + (eE lz mo t (kO al i)))).length = 0; omega)) (1, (0 : Int)) (fdI (by omega) (by omega) i8 i9 i10 i11 i12 i13 (by decide)) rfl (by kernel_rfl) (th0 := [(0, .x 33), (1, .i .i64 (.ofNat 0)), (2, .x 3), (3, .x 4), (4, .x 5)]) (sg0 := [(60, 40)]) (fun X => thXv (v := St' (xS lz mo t (uA lz mo t (kO al i)))) rfl rfl (thCons (show Is _ (.i .i64 (.ofNat 0)) (.int .i64 ((0 : Int))) from isTo (v := .int .i64 0) (isI _ _) (by first | rfl | (congr 1; omega))) (thXe (v := .int .i64 ((wA lz t))) (u := .int .i64 ((wA lz (t + (0 : Int))))) rfl rfl (by rw [hzt]) (thXe (v := .int .i64 ((fA lz t))) (u := .int .i64 ((fA lz (t + (0 : Int))))) rfl rfl (by rw [hzt]) (thXe (v := St' (lnA lz t)) (u := St' (lnA lz (t + (0 : Int)))) rfl rfl (by rw [hzt]) (thNil)))))) (by kernel_rfl) (thx := [(34, .x 0), (35, .x 1), (36, .x 2), (37, .x 3)]) (thXv (v := .int .i64 ((eE lz mo t (kO al i)))) rfl rfl (thXv (v := .int .i64 ((wA lz (t + (eE lz mo t (kO al i)))))) rfl rfl (thXv (v := .int .i64 ((fA lz (t + (eE lz mo t (kO al i)))))) rfl rfl (thXv (v := St' (lnA lz (t + (eE lz mo t (kO al i))))) rfl rfl (thNil))))) (by kernel_rfl)⟩) lfNil)) (lpOk_one lfNil) rfl (mkIOa lz mo al 2 (t + (eE lz mo t (kO al i))) (i + 1) ⟨by omega, by omega, by omega, by omega, i4, i5, i6, i7, fun h => by omega, fun _ => by omega, fun h => by omega, fun _ => by first | assumption | omega, fun _ => by first | assumption | omega, fun h => by omega, i14, i15, i16, by omega⟩) (by show (nA lz - (t + (eE lz mo t (kO al i)))).toNat < (nA lz - t).toNat; omega) (thXv (v := St' (ckS lz ++ mo)) rfl rfl (thXi (b := ((t + (eE lz mo t (kO al i))))) rfl rfl (by omega) (thXi (b := ((i + 1))) rfl rfl (by omega) (thXv (v := .int .i64 ((wA lz (t + (eE lz mo t (kO al i)))))) rfl rfl (thXv (v := .int .i64 ((fA lz (t + (eE lz mo t (kO al i)))))) rfl rfl (thXv (v := St' (lnA lz (t + (eE lz mo t (kO al i))))) rfl rfl (thXv (v := rwI .u8 al) rfl rfl (thNil)))))))) runOa_p3
def hyOa_p4 : LK := [(.rn, .x 2000001), (.bytes [], .x 6), (.len (.x 0), .x 7), (.bin .lss (.x 1) (.x 7), .b true), (.rl (.x 2000000) 1, .x 8), (.bin .gtr (.x 8) (.i .i64 (.ofNat 0)), .b true), (.bin .rem (.x 2) (.x 8), .x 9), (.el (.x 2000000) (.x 9) 1 0, .x 10), (.conv 3 (.x 10), .x 11), (.bin .add (.x 11) (.i .i64 (.ofNat 1)), .x 12), (.bin .add (.x 1) (.x 12), .x 13), (.mm false (.x 7) (.x 13), .x 14), (.sub (.x 0) (some (.x 1)) (some (.x 14)), .x 15), (.bin .eql (.x 3) (.i .i64 (.ofNat 5)), .b false), (.bin .add (.x 1) (.x 16), .x 21), (.len (.x 15), .x 22), (.bin .lss (.x 16) (.x 22), .b false), (.bin .add (.x 2) (.i .i64 (.ofNat 1)), .x 23)]
def lh469 : LH := ⟨4, 60, 120, [(30, .b ⟨38, .l [.i .i64 (.ofNat 4000), .x 3, .sy 40, .b true, .x 4, .i .i64 (.ofNat 0), .nils], 0, 0, 0, false, false⟩), (40, .t 5 5)], [(30, .b ⟨38, .l [.i .i64 (.ofNat 4000), .x 17, .sy 60, .b false, .x 18, .i .i64 (.ofNat 0), .sy 61], 0, 0, 0, false, false⟩), (60, .t 19 5), (61, .t 20 5)]⟩
def lf469 : LF := ⟨4, 58, [(0, .p 30 0), (1, .x 15), (6, .i .i64 (.ofNat 0))], [], (.exit 0), [(6, .x 16)], some lh469⟩
noncomputable def tbOa_p4 : Tab := addLps ((tbl hyOa_p4)) 8 fi8 [lf469]
def LOa_p4 : List LF := []
theorem runOa_p4 : okRdH (code tbOa_p4 5000 LOa_p4 bodyOa (envOf (headOf epOa_2 keepOa) 117) ⟨lhSet hpOa_2 .leaf, 42, 0, 0⟩) .normal keepOa 117 140 [(0, .x 0), (1, .x 21), (2, .x 23), (3, .x 17), (4, .x 18), (5, .x 19), (6, .x 20), (2000000, .x 2000000)] [(40, 60), (41, 61)] 40 42 epOa_3 hpOa_3 = true := by kernel_rfl
theorem nxOa_p4 (lz : List LB) (mo : LB) (al : List Int) (t i : Int) (X : Nat → Value) (hI : InvOa lz mo al (2, t, i)) (h3 : ¬ (cA lz (t + (eE lz mo t (kO al i))) = true)) (h4 : ¬ ((DA lz (t + (eE lz mo t (kO al i)))).length = 0)) (h5 : ¬ ((eE lz mo t (kO al i)) < (uA lz mo t (kO al i)) - t)) : RHOa lz mo al E' x' e' h' (2, t, i) X := by
  obtain ⟨i0, i1, i2, i3, i4, i5, i6, i7, i8, i9, i10, i11, i12, i13, i14, i15, i16, it⟩ := unIOa lz mo al 2 t i hI
  obtain ⟨y1, y2, y3, y4, y5, y6, y7, y8⟩ := any_ (l := lz) (i := t) i5 (by omega) (by omega)
  have hNl := nA_lo (l := lz)
  have hn0 : ([] : LB).length = 0 := rfl
  have hx4 : ¬ wA lz t = 4 := fun q => by have := (y2 q).2; rw [i11 (by omega)] at this; cases this
  obtain ⟨hm0, hm1, hm2, hkO⟩ := rO i2 i14 i15
  have hsl := ckn (l := lz) (mo := mo)
  obtain ⟨huA, hxl, heA, hpE, z1, z2, z5, z6, hmo, hzt⟩ := rndC (l := lz) (mo := mo) (t := t) (k := (kO al i)) i5 i0 i1 (by omega) (by omega)
  have ho : ∀ a' r', (a', r') ∈ hyOa_p4 → HOk (CXOa_2 lz mo al t i X) a' r' := by
    unfold hyOa_p4
    exact hc (kRn (denX rfl)) <|
     hc (kBytesB (bs := ([] : LB)) .nil (denX rfl)) <|
     hc (lnV rfl rfl (by omega)) <|
     hc (ltT rfl rfl (by omega)) <|
     hc (kRlI (isX rfl) (denX rfl) (by first | omega | (simp <;> omega))) <|
     hc (gtcT rfl (by omega)) <|
     hc (kRem (isX rfl) (isX rfl) (denX rfl) (by omega) (by omega) rfl) <|
     hc (kElI (j := (Int.toNat (i % (al.length : Int)))) (isX rfl) (isX rfl) (denX rfl) (by omega) (by omega)) <|
     hc (kConvF (isX rfl) tu3 (denX rfl) (fI64 (by omega) (by omega))) <|
     hc (adC rfl rfl (by omega)) <|
     hc (adX rfl rfl rfl (by omega)) <|
     hc (kMin (isX rfl) (isX rfl) (denX rfl) (by rw [huA, hsl]; try omega)) <|
     hc (mdV rfl rfl rfl rfl (by omega)) <|
     hc (eqcF rfl (by omega)) <|
     hc (adX rfl rfl rfl (by omega)) <|
     hc (lnV rfl rfl (by omega)) <|
     hc (ltF rfl rfl (by omega)) <|
     hc (adC rfl rfl (by omega)) <|
     hnil
  exact sLOa_2 lz mo al t i (tb := tbOa_p4) (L := LOa_p4) (3, (t + (eE lz mo t (kO al i))), (i + 1)) (AllOk.lp1 ((tabkOk _ _).hyps ho) (by omega) fi8_at fi8_body (lfCons (lpKnown rfl ⟨0, keyFd, lfOkFd_2 (l := lf469) (h := lh469) lz (xS lz mo t (uA lz mo t (kO al i))) mo t (eE lz mo t (kO al i)) i0 (⟨by omega, by omega⟩) (by omega) i5 i6 xS_P (by omega) (by omega) (by first | assumption | omega) (by first | assumption | (show ¬ (DA lz (t + (eE lz mo t (kO al i)))).length = 0; omega)) (2, (0 : Int)) (fdI (by omega) (by omega) i8 i9 i10 i11 i12 i13 (by decide)) rfl (by kernel_rfl) (th0 := [(0, .x 15), (1, .i .i64 (.ofNat 0)), (2, .x 3), (3, .x 4), (4, .x 5)]) (sg0 := [(60, 40)]) (fun X => thXv (v := St' (xS lz mo t (uA lz mo t (kO al i)))) rfl rfl (thCons (show Is _ (.i .i64 (.ofNat 0)) (.int .i64 ((0 : Int))) from isTo (v := .int .i64 0) (isI _ _) (by first | rfl | (congr 1; omega))) (thXe (v := .int .i64 ((wA lz t))) (u := .int .i64 ((wA lz (t + (0 : Int))))) rfl rfl (by rw [hzt]) (thXe (v := .int .i64 ((fA lz t))) (u := .int .i64 ((fA lz (t + (0 : Int))))) rfl rfl (by rw [hzt]) (thXe (v := St' (lnA lz t)) (u := St' (lnA lz (t + (0 : Int)))) rfl rfl (by rw [hzt]) (thNil)))))) (by kernel_rfl) (thx := [(16, .x 0), (17, .x 1), (18, .x 2), (19, .x 3), (20, .x 4)]) (thXv (v := .int .i64 ((eE lz mo t (kO al i)))) rfl rfl (thXv (v := .int .i64 ((wA lz (t + (eE lz mo t (kO al i)))))) rfl rfl (thXv (v := .int .i64 ((fA lz (t + (eE lz mo t (kO al i)))))) rfl rfl (thXv (v := St' (lnA lz (t + (eE lz mo t (kO al i))))) rfl rfl (thXv (v := St' (DA lz (t + (eE lz mo t (kO al i))))) rfl rfl (thNil)))))) (by kernel_rfl)⟩) lfNil)) (lpOk_one lfNil) rfl (mkIOa lz mo al 3 (t + (eE lz mo t (kO al i))) (i + 1) ⟨by omega, by omega, by omega, by omega, i4, i5, i6, i7, fun h => by omega, fun _ => by omega, fun _ => by first | assumption | omega, fun h => by omega, fun h => by omega, fun _ => by first | assumption | omega, i14, i15, i16, by omega⟩) (by show (nA lz - (t + (eE lz mo t (kO al i)))).toNat < (nA lz - t).toNat; omega) (thXv (v := St' (ckS lz ++ mo)) rfl rfl (thXi (b := ((t + (eE lz mo t (kO al i))))) rfl rfl (by omega) (thXi (b := ((i + 1))) rfl rfl (by omega) (thXv (v := .int .i64 ((wA lz (t + (eE lz mo t (kO al i)))))) rfl rfl (thXv (v := .int .i64 ((fA lz (t + (eE lz mo t (kO al i)))))) rfl rfl (thXv (v := St' (lnA lz (t + (eE lz mo t (kO al i))))) rfl rfl (thXv (v := St' (DA lz (t + (eE lz mo t (kO al i))))) rfl rfl (thXv (v := rwI .u8 al) rfl rfl (thNil))))))))) runOa_p4
def hyOa_p5 : LK := [(.rn, .x 2000002), (.bytes [], .x 24), (.len (.x 0), .x 25), (.bin .lss (.x 1) (.x 25), .b true), (.rl (.x 2000000) 1, .x 26), (.bin .gtr (.x 26) (.i .i64 (.ofNat 0)), .b true), (.bin .rem (.x 2) (.x 26), .x 27), (.el (.x 2000000) (.x 27) 1 0, .x 28), (.conv 3 (.x 28), .x 29), (.bin .add (.x 29) (.i .i64 (.ofNat 1)), .x 30), (.bin .add (.x 1) (.x 30), .x 31), (.mm false (.x 25) (.x 31), .x 32), (.sub (.x 0) (some (.x 1)) (some (.x 32)), .x 33), (.bin .eql (.x 3) (.i .i64 (.ofNat 5)), .b false), (.bin .add (.x 1) (.x 34), .x 38), (.len (.x 33), .x 39), (.bin .lss (.x 34) (.x 39), .b false), (.bin .add (.x 2) (.i .i64 (.ofNat 1)), .x 40)]
def lh470 : LH := ⟨4, 60, 120, [(30, .b ⟨38, .l [.i .i64 (.ofNat 4000), .x 3, .sy 40, .b true, .x 4, .i .i64 (.ofNat 0), .nils], 0, 0, 0, false, false⟩), (40, .t 5 5)], [(30, .b ⟨38, .l [.i .i64 (.ofNat 4000), .x 35, .sy 60, .b false, .x 36, .i .i64 (.ofNat 0), .nils], 0, 0, 0, false, false⟩), (60, .t 37 5)]⟩
def lf470 : LF := ⟨4, 58, [(0, .p 30 0), (1, .x 33), (6, .i .i64 (.ofNat 0))], [], (.exit 0), [(6, .x 34)], some lh470⟩
noncomputable def tbOa_p5 : Tab := addLps ((tbl hyOa_p5)) 8 fi8 [lf470]
def LOa_p5 : List LF := []
theorem runOa_p5 : okRdH (code tbOa_p5 5000 LOa_p5 bodyOa (envOf (headOf epOa_2 keepOa) 117) ⟨lhSet hpOa_2 .leaf, 42, 0, 0⟩) .normal keepOa 117 140 [(0, .x 0), (1, .x 38), (2, .x 40), (3, .x 35), (4, .x 36), (5, .x 37), (2000000, .x 2000000)] [(40, 60)] 40 42 epOa_1 hpOa_1 = true := by kernel_rfl
theorem nxOa_p5 (lz : List LB) (mo : LB) (al : List Int) (t i : Int) (X : Nat → Value) (hI : InvOa lz mo al (2, t, i)) (h3 : ¬ (cA lz (t + (eE lz mo t (kO al i))) = true)) (h4 : (DA lz (t + (eE lz mo t (kO al i)))).length = 0) (h5 : ¬ ((eE lz mo t (kO al i)) < (uA lz mo t (kO al i)) - t)) : RHOa lz mo al E' x' e' h' (2, t, i) X := by
  obtain ⟨i0, i1, i2, i3, i4, i5, i6, i7, i8, i9, i10, i11, i12, i13, i14, i15, i16, it⟩ := unIOa lz mo al 2 t i hI
  obtain ⟨y1, y2, y3, y4, y5, y6, y7, y8⟩ := any_ (l := lz) (i := t) i5 (by omega) (by omega)
  have hNl := nA_lo (l := lz)
  have hn0 : ([] : LB).length = 0 := rfl
  have hx4 : ¬ wA lz t = 4 := fun q => by have := (y2 q).2; rw [i11 (by omega)] at this; cases this
  obtain ⟨hm0, hm1, hm2, hkO⟩ := rO i2 i14 i15
  have hsl := ckn (l := lz) (mo := mo)
  obtain ⟨huA, hxl, heA, hpE, z1, z2, z5, z6, hmo, hzt⟩ := rndC (l := lz) (mo := mo) (t := t) (k := (kO al i)) i5 i0 i1 (by omega) (by omega)
  have ho : ∀ a' r', (a', r') ∈ hyOa_p5 → HOk (CXOa_2 lz mo al t i X) a' r' := by
    unfold hyOa_p5
    exact hc (kRn (denX rfl)) <|
     hc (kBytesB (bs := ([] : LB)) .nil (denX rfl)) <|
     hc (lnV rfl rfl (by omega)) <|
     hc (ltT rfl rfl (by omega)) <|
     hc (kRlI (isX rfl) (denX rfl) (by first | omega | (simp <;> omega))) <|
     hc (gtcT rfl (by omega)) <|
     hc (kRem (isX rfl) (isX rfl) (denX rfl) (by omega) (by omega) rfl) <|
     hc (kElI (j := (Int.toNat (i % (al.length : Int)))) (isX rfl) (isX rfl) (denX rfl) (by omega) (by omega)) <|
     hc (kConvF (isX rfl) tu3 (denX rfl) (fI64 (by omega) (by omega))) <|
     hc (adC rfl rfl (by omega)) <|
     hc (adX rfl rfl rfl (by omega)) <|
     hc (kMin (isX rfl) (isX rfl) (denX rfl) (by rw [huA, hsl]; try omega)) <|
     hc (mdV rfl rfl rfl rfl (by omega)) <|
     hc (eqcF rfl (by omega)) <|
     hc (adX rfl rfl rfl (by omega)) <|
     hc (lnV rfl rfl (by omega)) <|
     hc (ltF rfl rfl (by omega)) <|
     hc (adC rfl rfl (by omega)) <|
     hnil
  exact sLOa_2 lz mo al t i (tb := tbOa_p5) (L := LOa_p5) (1, (t + (eE lz mo t (kO al i))), (i + 1)) (AllOk.lp1 ((tabkOk _ _).hyps ho) (by omega) fi8_at fi8_body (lfCons (lpKnown rfl ⟨0, keyFd, lfOkFd_0 (l := lf470) (h := lh470) lz (xS lz mo t (uA lz mo t (kO al i))) mo t (eE lz mo t (kO al i)) i0 (⟨by omega, by omega⟩) (by omega) i5 i6 xS_P (by omega) (by omega) (by first | assumption | omega) (by first | assumption | (show (DA lz (t + (eE lz mo t (kO al i)))).length = 0; omega)) (2, (0 : Int)) (fdI (by omega) (by omega) i8 i9 i10 i11 i12 i13 (by decide)) rfl (by kernel_rfl) (th0 := [(0, .x 33), (1, .i .i64 (.ofNat 0)), (2, .x 3), (3, .x 4), (4, .x 5)]) (sg0 := [(60, 40)]) (fun X => thXv (v := St' (xS lz mo t (uA lz mo t (kO al i)))) rfl rfl (thCons (show Is _ (.i .i64 (.ofNat 0)) (.int .i64 ((0 : Int))) from isTo (v := .int .i64 0) (isI _ _) (by first | rfl | (congr 1; omega))) (thXe (v := .int .i64 ((wA lz t))) (u := .int .i64 ((wA lz (t + (0 : Int))))) rfl rfl (by rw [hzt]) (thXe (v := .int .i64 ((fA lz t))) (u := .int .i64 ((fA lz (t + (0 : Int))))) rfl rfl (by rw [hzt]) (thXe (v := St' (lnA lz t)) (u := St' (lnA lz (t + (0 : Int)))) rfl rfl (by rw [hzt]) (thNil)))))) (by kernel_rfl) (thx := [(34, .x 0), (35, .x 1), (36, .x 2), (37, .x 3)]) (thXv (v := .int .i64 ((eE lz mo t (kO al i)))) rfl rfl (thXv (v := .int .i64 ((wA lz (t + (eE lz mo t (kO al i)))))) rfl rfl (thXv (v := .int .i64 ((fA lz (t + (eE lz mo t (kO al i)))))) rfl rfl (thXv (v := St' (lnA lz (t + (eE lz mo t (kO al i))))) rfl rfl (thNil))))) (by kernel_rfl)⟩) lfNil)) (lpOk_one lfNil) rfl (mkIOa lz mo al 1 (t + (eE lz mo t (kO al i))) (i + 1) ⟨by omega, by omega, by omega, by omega, i4, i5, i6, i7, fun h => by omega, fun _ => by omega, fun _ => by first | assumption | omega, fun h => by omega, fun _ => by first | assumption | omega, fun h => by omega, i14, i15, i16, by omega⟩) (by show (nA lz - (t + (eE lz mo t (kO al i)))).toNat < (nA lz - t).toNat; omega) (thXv (v := St' (ckS lz ++ mo)) rfl rfl (thXi (b := ((t + (eE lz mo t (kO al i))))) rfl rfl (by omega) (thXi (b := ((i + 1))) rfl rfl (by omega) (thXv (v := .int .i64 ((wA lz (t + (eE lz mo t (kO al i)))))) rfl rfl (thXv (v := .int .i64 ((fA lz (t + (eE lz mo t (kO al i)))))) rfl rfl (thXv (v := St' (lnA lz (t + (eE lz mo t (kO al i))))) rfl rfl (thXv (v := rwI .u8 al) rfl rfl (thNil)))))))) runOa_p5
def hyOa_p6 : LK := [(.rn, .x 2000003), (.bytes [], .x 41), (.len (.x 0), .x 42), (.bin .lss (.x 1) (.x 42), .b true), (.rl (.x 2000000) 1, .x 43), (.bin .gtr (.x 43) (.i .i64 (.ofNat 0)), .b true), (.bin .rem (.x 2) (.x 43), .x 44), (.el (.x 2000000) (.x 44) 1 0, .x 45), (.conv 3 (.x 45), .x 46), (.bin .add (.x 46) (.i .i64 (.ofNat 1)), .x 47), (.bin .add (.x 1) (.x 47), .x 48), (.mm false (.x 42) (.x 48), .x 49), (.sub (.x 0) (some (.x 1)) (some (.x 49)), .x 50), (.bin .eql (.x 3) (.i .i64 (.ofNat 5)), .b false), (.bin .add (.x 1) (.x 51), .x 56), (.len (.x 50), .x 57), (.bin .lss (.x 51) (.x 57), .b false), (.bin .add (.x 2) (.i .i64 (.ofNat 1)), .x 58)]
def lh472 : LH := ⟨4, 60, 120, [(30, .b ⟨38, .l [.i .i64 (.ofNat 4000), .x 3, .sy 40, .b false, .x 4, .i .i64 (.ofNat 0), .nils], 0, 0, 0, false, false⟩), (40, .t 5 5)], [(30, .b ⟨38, .l [.i .i64 (.ofNat 4000), .x 52, .sy 60, .b true, .x 53, .i .i64 (.ofNat 0), .sy 61], 0, 0, 0, false, false⟩), (60, .t 54 5), (61, .t 55 5)]⟩
def lf472 : LF := ⟨4, 58, [(0, .p 30 0), (1, .x 50), (6, .i .i64 (.ofNat 0))], [], (.exit 0), [(6, .x 51)], some lh472⟩
noncomputable def tbOa_p6 : Tab := addLps ((tbl hyOa_p6)) 8 fi8 [lf472]
def LOa_p6 : List LF := []
theorem runOa_p6 : okRdH (code tbOa_p6 5000 LOa_p6 bodyOa (envOf (headOf epOa_1 keepOa) 117) ⟨lhSet hpOa_1 .leaf, 42, 0, 0⟩) .normal keepOa 117 140 [(0, .x 0), (1, .x 56), (2, .x 58), (3, .x 52), (4, .x 53), (5, .x 54), (6, .x 55), (2000000, .x 2000000)] [(40, 60), (41, 61)] 40 42 epOa_4 hpOa_4 = true := by kernel_rfl
theorem nxOa_p6 (lz : List LB) (mo : LB) (al : List Int) (t i : Int) (X : Nat → Value) (hI : InvOa lz mo al (1, t, i)) (h0 : t < ((ckS lz ++ mo).length : Int)) (h3 : cA lz (t + (eE lz mo t (kO al i))) = true) (h4 : ¬ ((DA lz (t + (eE lz mo t (kO al i)))).length = 0)) : RHOa lz mo al E' x' e' h' (1, t, i) X := by
  obtain ⟨i0, i1, i2, i3, i4, i5, i6, i7, i8, i9, i10, i11, i12, i13, i14, i15, i16, it⟩ := unIOa lz mo al 1 t i hI
  obtain ⟨y1, y2, y3, y4, y5, y6, y7, y8⟩ := any_ (l := lz) (i := t) i5 (by omega) (by omega)
  have hNl := nA_lo (l := lz)
  have hn0 : ([] : LB).length = 0 := rfl
  obtain ⟨hm0, hm1, hm2, hkO⟩ := rO i2 i14 i15
  have hsl := ckn (l := lz) (mo := mo)
  obtain ⟨huA, hxl, heA, hpE, z1, z2, z5, z6, hmo, hzt⟩ := rndC (l := lz) (mo := mo) (t := t) (k := (kO al i)) i5 i0 i1 (by omega) (by omega)
  have hz4 : ¬ wA lz (t + (eE lz mo t (kO al i))) = 4 := fun q => by have := (z2 q).2; rw [(by assumption : cA lz (t + (eE lz mo t (kO al i))) = true)] at this; cases this
  have ho : ∀ a' r', (a', r') ∈ hyOa_p6 → HOk (CXOa_1 lz mo al t i X) a' r' := by
    unfold hyOa_p6
    exact hc (kRn (denX rfl)) <|
     hc (kBytesB (bs := ([] : LB)) .nil (denX rfl)) <|
     hc (lnV rfl rfl (by omega)) <|
     hc (ltT rfl rfl (by omega)) <|
     hc (kRlI (isX rfl) (denX rfl) (by first | omega | (simp <;> omega))) <|
     hc (gtcT rfl (by omega)) <|
     hc (kRem (isX rfl) (isX rfl) (denX rfl) (by omega) (by omega) rfl) <|
     hc (kElI (j := (Int.toNat (i % (al.length : Int)))) (isX rfl) (isX rfl) (denX rfl) (by omega) (by omega)) <|
     hc (kConvF (isX rfl) tu3 (denX rfl) (fI64 (by omega) (by omega))) <|
     hc (adC rfl rfl (by omega)) <|
     hc (adX rfl rfl rfl (by omega)) <|
     hc (kMin (isX rfl) (isX rfl) (denX rfl) (by rw [huA, hsl]; try omega)) <|
     hc (mdV rfl rfl rfl rfl (by omega)) <|
     hc (eqcF rfl (by omega)) <|
     hc (adX rfl rfl rfl (by omega)) <|
     hc (lnV rfl rfl (by omega)) <|
     hc (ltF rfl rfl (by omega)) <|
     hc (adC rfl rfl (by omega)) <|
     hnil
  exact sLOa_1 lz mo al t i (tb := tbOa_p6) (L := LOa_p6) (4, (t + (eE lz mo t (kO al i))), (i + 1)) (AllOk.lp1 ((tabkOk _ _).hyps ho) (by omega) fi8_at fi8_body (lfCons (lpKnown rfl ⟨0, keyFd, lfOkFd_3 (l := lf472) (h := lh472) lz (xS lz mo t (uA lz mo t (kO al i))) mo t (eE lz mo t (kO al i)) i0 (⟨by omega, by omega⟩) (by omega) i5 i6 xS_P (by omega) (by omega) (by first | assumption | omega) (by first | assumption | (show ¬ (DA lz (t + (eE lz mo t (kO al i)))).length = 0; omega)) (1, (0 : Int)) (fdI (by omega) (by omega) i8 i9 i10 i11 i12 i13 (by decide)) rfl (by kernel_rfl) (th0 := [(0, .x 50), (1, .i .i64 (.ofNat 0)), (2, .x 3), (3, .x 4), (4, .x 5)]) (sg0 := [(60, 40)]) (fun X => thXv (v := St' (xS lz mo t (uA lz mo t (kO al i)))) rfl rfl (thCons (show Is _ (.i .i64 (.ofNat 0)) (.int .i64 ((0 : Int))) from isTo (v := .int .i64 0) (isI _ _) (by first | rfl | (congr 1; omega))) (thXe (v := .int .i64 ((wA lz t))) (u := .int .i64 ((wA lz (t + (0 : Int))))) rfl rfl (by rw [hzt]) (thXe (v := .int .i64 ((fA lz t))) (u := .int .i64 ((fA lz (t + (0 : Int))))) rfl rfl (by rw [hzt]) (thXe (v := St' (lnA lz t)) (u := St' (lnA lz (t + (0 : Int)))) rfl rfl (by rw [hzt]) (thNil)))))) (by kernel_rfl) (thx := [(51, .x 0), (52, .x 1), (53, .x 2), (54, .x 3), (55, .x 4)]) (thXv (v := .int .i64 ((eE lz mo t (kO al i)))) rfl rfl (thXv (v := .int .i64 ((wA lz (t + (eE lz mo t (kO al i)))))) rfl rfl (thXv (v := .int .i64 ((fA lz (t + (eE lz mo t (kO al i)))))) rfl rfl (thXv (v := St' (lnA lz (t + (eE lz mo t (kO al i))))) rfl rfl (thXv (v := St' (DA lz (t + (eE lz mo t (kO al i))))) rfl rfl (thNil)))))) (by kernel_rfl)⟩) lfNil)) (lpOk_one lfNil) rfl (mkIOa lz mo al 4 (t + (eE lz mo t (kO al i))) (i + 1) ⟨by omega, by omega, by omega, by omega, i4, i5, i6, i7, fun h => by omega, fun _ => by omega, fun h => by omega, fun _ => by first | assumption | omega, fun h => by omega, fun _ => by first | assumption | omega, i14, i15, i16, by omega⟩) (by show (nA lz - (t + (eE lz mo t (kO al i)))).toNat < (nA lz - t).toNat; omega) (thXv (v := St' (ckS lz ++ mo)) rfl rfl (thXi (b := ((t + (eE lz mo t (kO al i))))) rfl rfl (by omega) (thXi (b := ((i + 1))) rfl rfl (by omega) (thXv (v := .int .i64 ((wA lz (t + (eE lz mo t (kO al i)))))) rfl rfl (thXv (v := .int .i64 ((fA lz (t + (eE lz mo t (kO al i)))))) rfl rfl (thXv (v := St' (lnA lz (t + (eE lz mo t (kO al i))))) rfl rfl (thXv (v := St' (DA lz (t + (eE lz mo t (kO al i))))) rfl rfl (thXv (v := rwI .u8 al) rfl rfl (thNil))))))))) runOa_p6
def hyOa_p7 : LK := [(.rn, .x 2000001), (.bytes [], .x 7), (.len (.x 0), .x 8), (.bin .lss (.x 1) (.x 8), .b true), (.rl (.x 2000000) 1, .x 9), (.bin .gtr (.x 9) (.i .i64 (.ofNat 0)), .b true), (.bin .rem (.x 2) (.x 9), .x 10), (.el (.x 2000000) (.x 10) 1 0, .x 11), (.conv 3 (.x 11), .x 12), (.bin .add (.x 12) (.i .i64 (.ofNat 1)), .x 13), (.bin .add (.x 1) (.x 13), .x 14), (.mm false (.x 8) (.x 14), .x 15), (.sub (.x 0) (some (.x 1)) (some (.x 15)), .x 16), (.bin .eql (.x 3) (.i .i64 (.ofNat 5)), .b false), (.bin .add (.x 1) (.x 17), .x 22), (.len (.x 16), .x 23), (.bin .lss (.x 17) (.x 23), .b false), (.bin .add (.x 2) (.i .i64 (.ofNat 1)), .x 24)]
def lh475 : LH := ⟨4, 60, 120, [(30, .b ⟨38, .l [.i .i64 (.ofNat 4000), .x 3, .sy 40, .b false, .x 4, .i .i64 (.ofNat 0), .sy 41], 0, 0, 0, false, false⟩), (40, .t 5 5), (41, .t 6 5)], [(30, .b ⟨38, .l [.i .i64 (.ofNat 4000), .x 18, .sy 60, .b false, .x 19, .i .i64 (.ofNat 0), .sy 61], 0, 0, 0, false, false⟩), (60, .t 20 5), (61, .t 21 5)]⟩
def lf475 : LF := ⟨4, 58, [(0, .p 30 0), (1, .x 16), (6, .i .i64 (.ofNat 0))], [], (.exit 0), [(6, .x 17)], some lh475⟩
noncomputable def tbOa_p7 : Tab := addLps ((tbl hyOa_p7)) 8 fi8 [lf475]
def LOa_p7 : List LF := []
theorem runOa_p7 : okRdH (code tbOa_p7 5000 LOa_p7 bodyOa (envOf (headOf epOa_3 keepOa) 117) ⟨lhSet hpOa_3 .leaf, 42, 0, 0⟩) .normal keepOa 117 140 [(0, .x 0), (1, .x 22), (2, .x 24), (3, .x 18), (4, .x 19), (5, .x 20), (6, .x 21), (2000000, .x 2000000)] [(40, 60), (41, 61)] 40 42 epOa_3 hpOa_3 = true := by kernel_rfl
theorem nxOa_p7 (lz : List LB) (mo : LB) (al : List Int) (t i : Int) (X : Nat → Value) (hI : InvOa lz mo al (3, t, i)) (h0 : t < ((ckS lz ++ mo).length : Int)) (h3 : ¬ (cA lz (t + (eE lz mo t (kO al i))) = true)) (h5 : ¬ ((eE lz mo t (kO al i)) < (uA lz mo t (kO al i)) - t)) : RHOa lz mo al E' x' e' h' (3, t, i) X := by
  obtain ⟨i0, i1, i2, i3, i4, i5, i6, i7, i8, i9, i10, i11, i12, i13, i14, i15, i16, it⟩ := unIOa lz mo al 3 t i hI
  obtain ⟨y1, y2, y3, y4, y5, y6, y7, y8⟩ := any_ (l := lz) (i := t) i5 (by omega) (by omega)
  have hNl := nA_lo (l := lz)
  have hn0 : ([] : LB).length = 0 := rfl
  have h13 := i13 (by omega)
  obtain ⟨hm0, hm1, hm2, hkO⟩ := rO i2 i14 i15
  have hsl := ckn (l := lz) (mo := mo)
  obtain ⟨huA, hxl, heA, hpE, z1, z2, z5, z6, hmo, hzt⟩ := rndC (l := lz) (mo := mo) (t := t) (k := (kO al i)) i5 i0 i1 (by omega) (by omega)
  have ho : ∀ a' r', (a', r') ∈ hyOa_p7 → HOk (CXOa_3 lz mo al t i X) a' r' := by
    unfold hyOa_p7
    exact hc (kRn (denX rfl)) <|
     hc (kBytesB (bs := ([] : LB)) .nil (denX rfl)) <|
     hc (lnV rfl rfl (by omega)) <|
     hc (ltT rfl rfl (by omega)) <|
     hc (kRlI (isX rfl) (denX rfl) (by first | omega | (simp <;> omega))) <|
     hc (gtcT rfl (by omega)) <|
     hc (kRem (isX rfl) (isX rfl) (denX rfl) (by omega) (by omega) rfl) <|
     hc (kElI (j := (Int.toNat (i % (al.length : Int)))) (isX rfl) (isX rfl) (denX rfl) (by omega) (by omega)) <|
     hc (kConvF (isX rfl) tu3 (denX rfl) (fI64 (by omega) (by omega))) <|
     hc (adC rfl rfl (by omega)) <|
     hc (adX rfl rfl rfl (by omega)) <|
     hc (kMin (isX rfl) (isX rfl) (denX rfl) (by rw [huA, hsl]; try omega)) <|
     hc (mdV rfl rfl rfl rfl (by omega)) <|
     hc (eqcF rfl (by omega)) <|
     hc (adX rfl rfl rfl (by omega)) <|
     hc (lnV rfl rfl (by omega)) <|
     hc (ltF rfl rfl (by omega)) <|
     hc (adC rfl rfl (by omega)) <|
     hnil
  exact sLOa_3 lz mo al t i (tb := tbOa_p7) (L := LOa_p7) (3, (t + (eE lz mo t (kO al i))), (i + 1)) (AllOk.lp1 ((tabkOk _ _).hyps ho) (by omega) fi8_at fi8_body (lfCons (lpKnown rfl ⟨0, keyFd, lfOkFd_2 (l := lf475) (h := lh475) lz (xS lz mo t (uA lz mo t (kO al i))) mo t (eE lz mo t (kO al i)) i0 (⟨by omega, by omega⟩) (by omega) i5 i6 xS_P (by omega) (by omega) (by first | assumption | omega) (by first | assumption | (show ¬ (DA lz (t + (eE lz mo t (kO al i)))).length = 0; omega)) (3, (0 : Int)) (fdI (by omega) (by omega) i8 i9 i10 i11 i12 i13 (by decide)) rfl (by kernel_rfl) (th0 := [(0, .x 16), (1, .i .i64 (.ofNat 0)), (2, .x 3), (3, .x 4), (4, .x 5), (5, .x 6)]) (sg0 := [(60, 40), (61, 41)]) (fun X => thXv (v := St' (xS lz mo t (uA lz mo t (kO al i)))) rfl rfl (thCons (show Is _ (.i .i64 (.ofNat 0)) (.int .i64 ((0 : Int))) from isTo (v := .int .i64 0) (isI _ _) (by first | rfl | (congr 1; omega))) (thXe (v := .int .i64 ((wA lz t))) (u := .int .i64 ((wA lz (t + (0 : Int))))) rfl rfl (by rw [hzt]) (thXe (v := .int .i64 ((fA lz t))) (u := .int .i64 ((fA lz (t + (0 : Int))))) rfl rfl (by rw [hzt]) (thXe (v := St' (lnA lz t)) (u := St' (lnA lz (t + (0 : Int)))) rfl rfl (by rw [hzt]) (thXe (v := St' (DA lz t)) (u := St' (DA lz (t + (0 : Int)))) rfl rfl (by rw [hzt]) (thNil))))))) (by kernel_rfl) (thx := [(17, .x 0), (18, .x 1), (19, .x 2), (20, .x 3), (21, .x 4)]) (thXv (v := .int .i64 ((eE lz mo t (kO al i)))) rfl rfl (thXv (v := .int .i64 ((wA lz (t + (eE lz mo t (kO al i)))))) rfl rfl (thXv (v := .int .i64 ((fA lz (t + (eE lz mo t (kO al i)))))) rfl rfl (thXv (v := St' (lnA lz (t + (eE lz mo t (kO al i))))) rfl rfl (thXv (v := St' (DA lz (t + (eE lz mo t (kO al i))))) rfl rfl (thNil)))))) (by kernel_rfl)⟩) lfNil)) (lpOk_one lfNil) rfl (mkIOa lz mo al 3 (t + (eE lz mo t (kO al i))) (i + 1) ⟨by omega, by omega, by omega, by omega, i4, i5, i6, i7, fun h => by omega, fun _ => by omega, fun _ => by first | assumption | omega, fun h => by omega, fun h => by omega, fun _ => by first | assumption | omega, i14, i15, i16, by omega⟩) (by show (nA lz - (t + (eE lz mo t (kO al i)))).toNat < (nA lz - t).toNat; omega) (thXv (v := St' (ckS lz ++ mo)) rfl rfl (thXi (b := ((t + (eE lz mo t (kO al i))))) rfl rfl (by omega) (thXi (b := ((i + 1))) rfl rfl (by omega) (thXv (v := .int .i64 ((wA lz (t + (eE lz mo t (kO al i)))))) rfl rfl (thXv (v := .int .i64 ((fA lz (t + (eE lz mo t (kO al i)))))) rfl rfl (thXv (v := St' (lnA lz (t + (eE lz mo t (kO al i))))) rfl rfl (thXv (v := St' (DA lz (t + (eE lz mo t (kO al i))))) rfl rfl (thXv (v := rwI .u8 al) rfl rfl (thNil))))))))) runOa_p7
def hyOa_p8 : LK := [(.rn, .x 2000002), (.bytes [], .x 25), (.len (.x 0), .x 26), (.bin .lss (.x 1) (.x 26), .b true), (.rl (.x 2000000) 1, .x 27), (.bin .gtr (.x 27) (.i .i64 (.ofNat 0)), .b true), (.bin .rem (.x 2) (.x 27), .x 28), (.el (.x 2000000) (.x 28) 1 0, .x 29), (.conv 3 (.x 29), .x 30), (.bin .add (.x 30) (.i .i64 (.ofNat 1)), .x 31), (.bin .add (.x 1) (.x 31), .x 32), (.mm false (.x 26) (.x 32), .x 33), (.sub (.x 0) (some (.x 1)) (some (.x 33)), .x 34), (.bin .eql (.x 3) (.i .i64 (.ofNat 5)), .b false), (.bin .add (.x 1) (.x 35), .x 40), (.len (.x 34), .x 41), (.bin .lss (.x 35) (.x 41), .b false), (.bin .add (.x 2) (.i .i64 (.ofNat 1)), .x 42)]
def lh482 : LH := ⟨4, 60, 120, [(30, .b ⟨38, .l [.i .i64 (.ofNat 4000), .x 3, .sy 40, .b false, .x 4, .i .i64 (.ofNat 0), .sy 41], 0, 0, 0, false, false⟩), (40, .t 5 5), (41, .t 6 5)], [(30, .b ⟨38, .l [.i .i64 (.ofNat 4000), .x 36, .sy 60, .b true, .x 37, .i .i64 (.ofNat 0), .sy 61], 0, 0, 0, false, false⟩), (60, .t 38 5), (61, .t 39 5)]⟩
def lf482 : LF := ⟨4, 58, [(0, .p 30 0), (1, .x 34), (6, .i .i64 (.ofNat 0))], [], (.exit 0), [(6, .x 35)], some lh482⟩
noncomputable def tbOa_p8 : Tab := addLps ((tbl hyOa_p8)) 8 fi8 [lf482]
def LOa_p8 : List LF := []
theorem runOa_p8 : okRdH (code tbOa_p8 5000 LOa_p8 bodyOa (envOf (headOf epOa_3 keepOa) 117) ⟨lhSet hpOa_3 .leaf, 42, 0, 0⟩) .normal keepOa 117 140 [(0, .x 0), (1, .x 40), (2, .x 42), (3, .x 36), (4, .x 37), (5, .x 38), (6, .x 39), (2000000, .x 2000000)] [(40, 60), (41, 61)] 40 42 epOa_4 hpOa_4 = true := by kernel_rfl
theorem nxOa_p8 (lz : List LB) (mo : LB) (al : List Int) (t i : Int) (X : Nat → Value) (hI : InvOa lz mo al (3, t, i)) (h0 : t < ((ckS lz ++ mo).length : Int)) (h3 : cA lz (t + (eE lz mo t (kO al i))) = true) : RHOa lz mo al E' x' e' h' (3, t, i) X := by
  obtain ⟨i0, i1, i2, i3, i4, i5, i6, i7, i8, i9, i10, i11, i12, i13, i14, i15, i16, it⟩ := unIOa lz mo al 3 t i hI
  obtain ⟨y1, y2, y3, y4, y5, y6, y7, y8⟩ := any_ (l := lz) (i := t) i5 (by omega) (by omega)
  have hNl := nA_lo (l := lz)
  have hn0 : ([] : LB).length = 0 := rfl
  have h13 := i13 (by omega)
  obtain ⟨hm0, hm1, hm2, hkO⟩ := rO i2 i14 i15
  have hsl := ckn (l := lz) (mo := mo)
  obtain ⟨huA, hxl, heA, hpE, z1, z2, z5, z6, hmo, hzt⟩ := rndC (l := lz) (mo := mo) (t := t) (k := (kO al i)) i5 i0 i1 (by omega) (by omega)
  have hz4 : ¬ wA lz (t + (eE lz mo t (kO al i))) = 4 := fun q => by have := (z2 q).2; rw [(by assumption : cA lz (t + (eE lz mo t (kO al i))) = true)] at this; cases this
  have ho : ∀ a' r', (a', r') ∈ hyOa_p8 → HOk (CXOa_3 lz mo al t i X) a' r' := by
    unfold hyOa_p8
    exact hc (kRn (denX rfl)) <|
     hc (kBytesB (bs := ([] : LB)) .nil (denX rfl)) <|
     hc (lnV rfl rfl (by omega)) <|
     hc (ltT rfl rfl (by omega)) <|
     hc (kRlI (isX rfl) (denX rfl) (by first | omega | (simp <;> omega))) <|
     hc (gtcT rfl (by omega)) <|
     hc (kRem (isX rfl) (isX rfl) (denX rfl) (by omega) (by omega) rfl) <|
     hc (kElI (j := (Int.toNat (i % (al.length : Int)))) (isX rfl) (isX rfl) (denX rfl) (by omega) (by omega)) <|
     hc (kConvF (isX rfl) tu3 (denX rfl) (fI64 (by omega) (by omega))) <|
     hc (adC rfl rfl (by omega)) <|
     hc (adX rfl rfl rfl (by omega)) <|
     hc (kMin (isX rfl) (isX rfl) (denX rfl) (by rw [huA, hsl]; try omega)) <|
     hc (mdV rfl rfl rfl rfl (by omega)) <|
     hc (eqcF rfl (by omega)) <|
     hc (adX rfl rfl rfl (by omega)) <|
     hc (lnV rfl rfl (by omega)) <|
     hc (ltF rfl rfl (by omega)) <|
     hc (adC rfl rfl (by omega)) <|
     hnil
  exact sLOa_3 lz mo al t i (tb := tbOa_p8) (L := LOa_p8) (4, (t + (eE lz mo t (kO al i))), (i + 1)) (AllOk.lp1 ((tabkOk _ _).hyps ho) (by omega) fi8_at fi8_body (lfCons (lpKnown rfl ⟨0, keyFd, lfOkFd_3 (l := lf482) (h := lh482) lz (xS lz mo t (uA lz mo t (kO al i))) mo t (eE lz mo t (kO al i)) i0 (⟨by omega, by omega⟩) (by omega) i5 i6 xS_P (by omega) (by omega) (by first | assumption | omega) (by first | assumption | (show ¬ (DA lz (t + (eE lz mo t (kO al i)))).length = 0; omega)) (3, (0 : Int)) (fdI (by omega) (by omega) i8 i9 i10 i11 i12 i13 (by decide)) rfl (by kernel_rfl) (th0 := [(0, .x 34), (1, .i .i64 (.ofNat 0)), (2, .x 3), (3, .x 4), (4, .x 5), (5, .x 6)]) (sg0 := [(60, 40), (61, 41)]) (fun X => thXv (v := St' (xS lz mo t (uA lz mo t (kO al i)))) rfl rfl (thCons (show Is _ (.i .i64 (.ofNat 0)) (.int .i64 ((0 : Int))) from isTo (v := .int .i64 0) (isI _ _) (by first | rfl | (congr 1; omega))) (thXe (v := .int .i64 ((wA lz t))) (u := .int .i64 ((wA lz (t + (0 : Int))))) rfl rfl (by rw [hzt]) (thXe (v := .int .i64 ((fA lz t))) (u := .int .i64 ((fA lz (t + (0 : Int))))) rfl rfl (by rw [hzt]) (thXe (v := St' (lnA lz t)) (u := St' (lnA lz (t + (0 : Int)))) rfl rfl (by rw [hzt]) (thXe (v := St' (DA lz t)) (u := St' (DA lz (t + (0 : Int)))) rfl rfl (by rw [hzt]) (thNil))))))) (by kernel_rfl) (thx := [(35, .x 0), (36, .x 1), (37, .x 2), (38, .x 3), (39, .x 4)]) (thXv (v := .int .i64 ((eE lz mo t (kO al i)))) rfl rfl (thXv (v := .int .i64 ((wA lz (t + (eE lz mo t (kO al i)))))) rfl rfl (thXv (v := .int .i64 ((fA lz (t + (eE lz mo t (kO al i)))))) rfl rfl (thXv (v := St' (lnA lz (t + (eE lz mo t (kO al i))))) rfl rfl (thXv (v := St' (DA lz (t + (eE lz mo t (kO al i))))) rfl rfl (thNil)))))) (by kernel_rfl)⟩) lfNil)) (lpOk_one lfNil) rfl (mkIOa lz mo al 4 (t + (eE lz mo t (kO al i))) (i + 1) ⟨by omega, by omega, by omega, by omega, i4, i5, i6, i7, fun h => by omega, fun _ => by omega, fun h => by omega, fun _ => by first | assumption | omega, fun h => by omega, fun _ => by first | assumption | omega, i14, i15, i16, by omega⟩) (by show (nA lz - (t + (eE lz mo t (kO al i)))).toNat < (nA lz - t).toNat; omega) (thXv (v := St' (ckS lz ++ mo)) rfl rfl (thXi (b := ((t + (eE lz mo t (kO al i))))) rfl rfl (by omega) (thXi (b := ((i + 1))) rfl rfl (by omega) (thXv (v := .int .i64 ((wA lz (t + (eE lz mo t (kO al i)))))) rfl rfl (thXv (v := .int .i64 ((fA lz (t + (eE lz mo t (kO al i)))))) rfl rfl (thXv (v := St' (lnA lz (t + (eE lz mo t (kO al i))))) rfl rfl (thXv (v := St' (DA lz (t + (eE lz mo t (kO al i))))) rfl rfl (thXv (v := rwI .u8 al) rfl rfl (thNil))))))))) runOa_p8
def hyOa_p9 : LK := [(.rn, .x 2000001), (.bytes [], .x 7), (.len (.x 0), .x 8), (.bin .lss (.x 1) (.x 8), .b true), (.rl (.x 2000000) 1, .x 9), (.bin .gtr (.x 9) (.i .i64 (.ofNat 0)), .b true), (.bin .rem (.x 2) (.x 9), .x 10), (.el (.x 2000000) (.x 10) 1 0, .x 11), (.conv 3 (.x 11), .x 12), (.bin .add (.x 12) (.i .i64 (.ofNat 1)), .x 13), (.bin .add (.x 1) (.x 13), .x 14), (.mm false (.x 8) (.x 14), .x 15), (.sub (.x 0) (some (.x 1)) (some (.x 15)), .x 16), (.bin .eql (.x 3) (.i .i64 (.ofNat 5)), .b false), (.bin .add (.x 1) (.x 17), .x 22), (.len (.x 16), .x 23), (.bin .lss (.x 17) (.x 23), .b false), (.bin .add (.x 2) (.i .i64 (.ofNat 1)), .x 24)]
def lh484 : LH := ⟨4, 60, 120, [(30, .b ⟨38, .l [.i .i64 (.ofNat 4000), .x 3, .sy 40, .b true, .x 4, .i .i64 (.ofNat 0), .sy 41], 0, 0, 0, false, false⟩), (40, .t 5 5), (41, .t 6 5)], [(30, .b ⟨38, .l [.i .i64 (.ofNat 4000), .x 18, .sy 60, .b true, .x 19, .i .i64 (.ofNat 0), .sy 61], 0, 0, 0, false, false⟩), (60, .t 20 5), (61, .t 21 5)]⟩
def lf484 : LF := ⟨4, 58, [(0, .p 30 0), (1, .x 16), (6, .i .i64 (.ofNat 0))], [], (.exit 0), [(6, .x 17)], some lh484⟩
noncomputable def tbOa_p9 : Tab := addLps ((tbl hyOa_p9)) 8 fi8 [lf484]
def LOa_p9 : List LF := []
theorem runOa_p9 : okRdH (code tbOa_p9 5000 LOa_p9 bodyOa (envOf (headOf epOa_4 keepOa) 117) ⟨lhSet hpOa_4 .leaf, 42, 0, 0⟩) .normal keepOa 117 140 [(0, .x 0), (1, .x 22), (2, .x 24), (3, .x 18), (4, .x 19), (5, .x 20), (6, .x 21), (2000000, .x 2000000)] [(40, 60), (41, 61)] 40 42 epOa_4 hpOa_4 = true := by kernel_rfl
theorem nxOa_p9 (lz : List LB) (mo : LB) (al : List Int) (t i : Int) (X : Nat → Value) (hI : InvOa lz mo al (4, t, i)) (h3 : cA lz (t + (eE lz mo t (kO al i))) = true) : RHOa lz mo al E' x' e' h' (4, t, i) X := by
  obtain ⟨i0, i1, i2, i3, i4, i5, i6, i7, i8, i9, i10, i11, i12, i13, i14, i15, i16, it⟩ := unIOa lz mo al 4 t i hI
  obtain ⟨y1, y2, y3, y4, y5, y6, y7, y8⟩ := any_ (l := lz) (i := t) i5 (by omega) (by omega)
  have hNl := nA_lo (l := lz)
  have hn0 : ([] : LB).length = 0 := rfl
  have h13 := i13 (by omega)
  have hx4 : ¬ wA lz t = 4 := fun q => by have := (y2 q).2; rw [i11 (by omega)] at this; cases this
  obtain ⟨hm0, hm1, hm2, hkO⟩ := rO i2 i14 i15
  have hsl := ckn (l := lz) (mo := mo)
  obtain ⟨huA, hxl, heA, hpE, z1, z2, z5, z6, hmo, hzt⟩ := rndC (l := lz) (mo := mo) (t := t) (k := (kO al i)) i5 i0 i1 (by omega) (by omega)
  have hz4 : ¬ wA lz (t + (eE lz mo t (kO al i))) = 4 := fun q => by have := (z2 q).2; rw [(by assumption : cA lz (t + (eE lz mo t (kO al i))) = true)] at this; cases this
  have ho : ∀ a' r', (a', r') ∈ hyOa_p9 → HOk (CXOa_4 lz mo al t i X) a' r' := by
    unfold hyOa_p9
    exact hc (kRn (denX rfl)) <|
     hc (kBytesB (bs := ([] : LB)) .nil (denX rfl)) <|
     hc (lnV rfl rfl (by omega)) <|
     hc (ltT rfl rfl (by omega)) <|
     hc (kRlI (isX rfl) (denX rfl) (by first | omega | (simp <;> omega))) <|
     hc (gtcT rfl (by omega)) <|
     hc (kRem (isX rfl) (isX rfl) (denX rfl) (by omega) (by omega) rfl) <|
     hc (kElI (j := (Int.toNat (i % (al.length : Int)))) (isX rfl) (isX rfl) (denX rfl) (by omega) (by omega)) <|
     hc (kConvF (isX rfl) tu3 (denX rfl) (fI64 (by omega) (by omega))) <|
     hc (adC rfl rfl (by omega)) <|
     hc (adX rfl rfl rfl (by omega)) <|
     hc (kMin (isX rfl) (isX rfl) (denX rfl) (by rw [huA, hsl]; try omega)) <|
     hc (mdV rfl rfl rfl rfl (by omega)) <|
     hc (eqcF rfl (by omega)) <|
     hc (adX rfl rfl rfl (by omega)) <|
     hc (lnV rfl rfl (by omega)) <|
     hc (ltF rfl rfl (by omega)) <|
     hc (adC rfl rfl (by omega)) <|
     hnil
  exact sLOa_4 lz mo al t i (tb := tbOa_p9) (L := LOa_p9) (4, (t + (eE lz mo t (kO al i))), (i + 1)) (AllOk.lp1 ((tabkOk _ _).hyps ho) (by omega) fi8_at fi8_body (lfCons (lpKnown rfl ⟨0, keyFd, lfOkFd_3 (l := lf484) (h := lh484) lz (xS lz mo t (uA lz mo t (kO al i))) mo t (eE lz mo t (kO al i)) i0 (⟨by omega, by omega⟩) (by omega) i5 i6 xS_P (by omega) (by omega) (by first | assumption | omega) (by first | assumption | (show ¬ (DA lz (t + (eE lz mo t (kO al i)))).length = 0; omega)) (4, (0 : Int)) (fdI (by omega) (by omega) i8 i9 i10 i11 i12 i13 (by decide)) rfl (by kernel_rfl) (th0 := [(0, .x 16), (1, .i .i64 (.ofNat 0)), (2, .x 3), (3, .x 4), (4, .x 5), (5, .x 6)]) (sg0 := [(60, 40), (61, 41)]) (fun X => thXv (v := St' (xS lz mo t (uA lz mo t (kO al i)))) rfl rfl (thCons (show Is _ (.i .i64 (.ofNat 0)) (.int .i64 ((0 : Int))) from isTo (v := .int .i64 0) (isI _ _) (by first | rfl | (congr 1; omega))) (thXe (v := .int .i64 ((wA lz t))) (u := .int .i64 ((wA lz (t + (0 : Int))))) rfl rfl (by rw [hzt]) (thXe (v := .int .i64 ((fA lz t))) (u := .int .i64 ((fA lz (t + (0 : Int))))) rfl rfl (by rw [hzt]) (thXe (v := St' (lnA lz t)) (u := St' (lnA lz (t + (0 : Int)))) rfl rfl (by rw [hzt]) (thXe (v := St' (DA lz t)) (u := St' (DA lz (t + (0 : Int)))) rfl rfl (by rw [hzt]) (thNil))))))) (by kernel_rfl) (thx := [(17, .x 0), (18, .x 1), (19, .x 2), (20, .x 3), (21, .x 4)]) (thXv (v := .int .i64 ((eE lz mo t (kO al i)))) rfl rfl (thXv (v := .int .i64 ((wA lz (t + (eE lz mo t (kO al i)))))) rfl rfl (thXv (v := .int .i64 ((fA lz (t + (eE lz mo t (kO al i)))))) rfl rfl (thXv (v := St' (lnA lz (t + (eE lz mo t (kO al i))))) rfl rfl (thXv (v := St' (DA lz (t + (eE lz mo t (kO al i))))) rfl rfl (thNil)))))) (by kernel_rfl)⟩) lfNil)) (lpOk_one lfNil) rfl (mkIOa lz mo al 4 (t + (eE lz mo t (kO al i))) (i + 1) ⟨by omega, by omega, by omega, by omega, i4, i5, i6, i7, fun h => by omega, fun _ => by omega, fun h => by omega, fun _ => by first | assumption | omega, fun h => by omega, fun _ => by first | assumption | omega, i14, i15, i16, by omega⟩) (by show (nA lz - (t + (eE lz mo t (kO al i)))).toNat < (nA lz - t).toNat; omega) (thXv (v := St' (ckS lz ++ mo)) rfl rfl (thXi (b := ((t + (eE lz mo t (kO al i))))) rfl rfl (by omega) (thXi (b := ((i + 1))) rfl rfl (by omega) (thXv (v := .int .i64 ((wA lz (t + (eE lz mo t (kO al i)))))) rfl rfl (thXv (v := .int .i64 ((fA lz (t + (eE lz mo t (kO al i)))))) rfl rfl (thXv (v := St' (lnA lz (t + (eE lz mo t (kO al i))))) rfl rfl (thXv (v := St' (DA lz (t + (eE lz mo t (kO al i))))) rfl rfl (thXv (v := rwI .u8 al) rfl rfl (thNil))))))))) runOa_p9
def hyOa_p10 : LK := [(.rn, .x 2000002), (.bytes [], .x 25), (.len (.x 0), .x 26), (.bin .lss (.x 1) (.x 26), .b true), (.rl (.x 2000000) 1, .x 27), (.bin .gtr (.x 27) (.i .i64 (.ofNat 0)), .b true), (.bin .rem (.x 2) (.x 27), .x 28), (.el (.x 2000000) (.x 28) 1 0, .x 29), (.conv 3 (.x 29), .x 30), (.bin .add (.x 30) (.i .i64 (.ofNat 1)), .x 31), (.bin .add (.x 1) (.x 31), .x 32), (.mm false (.x 26) (.x 32), .x 33), (.sub (.x 0) (some (.x 1)) (some (.x 33)), .x 34), (.bin .eql (.x 3) (.i .i64 (.ofNat 5)), .b false), (.bin .add (.x 1) (.x 35), .x 40), (.len (.x 34), .x 41), (.bin .lss (.x 35) (.x 41), .b false), (.bin .add (.x 2) (.i .i64 (.ofNat 1)), .x 42)]
def lh485 : LH := ⟨4, 60, 120, [(30, .b ⟨38, .l [.i .i64 (.ofNat 4000), .x 3, .sy 40, .b true, .x 4, .i .i64 (.ofNat 0), .sy 41], 0, 0, 0, false, false⟩), (40, .t 5 5), (41, .t 6 5)], [(30, .b ⟨38, .l [.i .i64 (.ofNat 4000), .x 36, .sy 60, .b false, .x 37, .i .i64 (.ofNat 0), .sy 61], 0, 0, 0, false, false⟩), (60, .t 38 5), (61, .t 39 5)]⟩
def lf485 : LF := ⟨4, 58, [(0, .p 30 0), (1, .x 34), (6, .i .i64 (.ofNat 0))], [], (.exit 0), [(6, .x 35)], some lh485⟩
noncomputable def tbOa_p10 : Tab := addLps ((tbl hyOa_p10)) 8 fi8 [lf485]
def LOa_p10 : List LF := []
theorem runOa_p10 : okRdH (code tbOa_p10 5000 LOa_p10 bodyOa (envOf (headOf epOa_4 keepOa) 117) ⟨lhSet hpOa_4 .leaf, 42, 0, 0⟩) .normal keepOa 117 140 [(0, .x 0), (1, .x 40), (2, .x 42), (3, .x 36), (4, .x 37), (5, .x 38), (6, .x 39), (2000000, .x 2000000)] [(40, 60), (41, 61)] 40 42 epOa_3 hpOa_3 = true := by kernel_rfl
theorem nxOa_p10 (lz : List LB) (mo : LB) (al : List Int) (t i : Int) (X : Nat → Value) (hI : InvOa lz mo al (4, t, i)) (h3 : ¬ (cA lz (t + (eE lz mo t (kO al i))) = true)) (h5 : ¬ ((eE lz mo t (kO al i)) < (uA lz mo t (kO al i)) - t)) : RHOa lz mo al E' x' e' h' (4, t, i) X := by
  obtain ⟨i0, i1, i2, i3, i4, i5, i6, i7, i8, i9, i10, i11, i12, i13, i14, i15, i16, it⟩ := unIOa lz mo al 4 t i hI
  obtain ⟨y1, y2, y3, y4, y5, y6, y7, y8⟩ := any_ (l := lz) (i := t) i5 (by omega) (by omega)
  have hNl := nA_lo (l := lz)
  have hn0 : ([] : LB).length = 0 := rfl
  have h13 := i13 (by omega)
  have hx4 : ¬ wA lz t = 4 := fun q => by have := (y2 q).2; rw [i11 (by omega)] at this; cases this
  obtain ⟨hm0, hm1, hm2, hkO⟩ := rO i2 i14 i15
  have hsl := ckn (l := lz) (mo := mo)
  obtain ⟨huA, hxl, heA, hpE, z1, z2, z5, z6, hmo, hzt⟩ := rndC (l := lz) (mo := mo) (t := t) (k := (kO al i)) i5 i0 i1 (by omega) (by omega)
  have ho : ∀ a' r', (a', r') ∈ hyOa_p10 → HOk (CXOa_4 lz mo al t i X) a' r' := by
    unfold hyOa_p10
    exact hc (kRn (denX rfl)) <|
     hc (kBytesB (bs := ([] : LB)) .nil (denX rfl)) <|
     hc (lnV rfl rfl (by omega)) <|
     hc (ltT rfl rfl (by omega)) <|
     hc (kRlI (isX rfl) (denX rfl) (by first | omega | (simp <;> omega))) <|
     hc (gtcT rfl (by omega)) <|
     hc (kRem (isX rfl) (isX rfl) (denX rfl) (by omega) (by omega) rfl) <|
     hc (kElI (j := (Int.toNat (i % (al.length : Int)))) (isX rfl) (isX rfl) (denX rfl) (by omega) (by omega)) <|
     hc (kConvF (isX rfl) tu3 (denX rfl) (fI64 (by omega) (by omega))) <|
     hc (adC rfl rfl (by omega)) <|
     hc (adX rfl rfl rfl (by omega)) <|
     hc (kMin (isX rfl) (isX rfl) (denX rfl) (by rw [huA, hsl]; try omega)) <|
     hc (mdV rfl rfl rfl rfl (by omega)) <|
     hc (eqcF rfl (by omega)) <|
     hc (adX rfl rfl rfl (by omega)) <|
     hc (lnV rfl rfl (by omega)) <|
     hc (ltF rfl rfl (by omega)) <|
     hc (adC rfl rfl (by omega)) <|
     hnil
  exact sLOa_4 lz mo al t i (tb := tbOa_p10) (L := LOa_p10) (3, (t + (eE lz mo t (kO al i))), (i + 1)) (AllOk.lp1 ((tabkOk _ _).hyps ho) (by omega) fi8_at fi8_body (lfCons (lpKnown rfl ⟨0, keyFd, lfOkFd_2 (l := lf485) (h := lh485) lz (xS lz mo t (uA lz mo t (kO al i))) mo t (eE lz mo t (kO al i)) i0 (⟨by omega, by omega⟩) (by omega) i5 i6 xS_P (by omega) (by omega) (by first | assumption | omega) (by first | assumption | (show ¬ (DA lz (t + (eE lz mo t (kO al i)))).length = 0; omega)) (4, (0 : Int)) (fdI (by omega) (by omega) i8 i9 i10 i11 i12 i13 (by decide)) rfl (by kernel_rfl) (th0 := [(0, .x 34), (1, .i .i64 (.ofNat 0)), (2, .x 3), (3, .x 4), (4, .x 5), (5, .x 6)]) (sg0 := [(60, 40), (61, 41)]) (fun X => thXv (v := St' (xS lz mo t (uA lz mo t (kO al i)))) rfl rfl (thCons (show Is _ (.i .i64 (.ofNat 0)) (.int .i64 ((0 : Int))) from isTo (v := .int .i64 0) (isI _ _) (by first | rfl | (congr 1; omega))) (thXe (v := .int .i64 ((wA lz t))) (u := .int .i64 ((wA lz (t + (0 : Int))))) rfl rfl (by rw [hzt]) (thXe (v := .int .i64 ((fA lz t))) (u := .int .i64 ((fA lz (t + (0 : Int))))) rfl rfl (by rw [hzt]) (thXe (v := St' (lnA lz t)) (u := St' (lnA lz (t + (0 : Int)))) rfl rfl (by rw [hzt]) (thXe (v := St' (DA lz t)) (u := St' (DA lz (t + (0 : Int)))) rfl rfl (by rw [hzt]) (thNil))))))) (by kernel_rfl) (thx := [(35, .x 0), (36, .x 1), (37, .x 2), (38, .x 3), (39, .x 4)]) (thXv (v := .int .i64 ((eE lz mo t (kO al i)))) rfl rfl (thXv (v := .int .i64 ((wA lz (t + (eE lz mo t (kO al i)))))) rfl rfl (thXv (v := .int .i64 ((fA lz (t + (eE lz mo t (kO al i)))))) rfl rfl (thXv (v := St' (lnA lz (t + (eE lz mo t (kO al i))))) rfl rfl (thXv (v := St' (DA lz (t + (eE lz mo t (kO al i))))) rfl rfl (thNil)))))) (by kernel_rfl)⟩) lfNil)) (lpOk_one lfNil) rfl (mkIOa lz mo al 3 (t + (eE lz mo t (kO al i))) (i + 1) ⟨by omega, by omega, by omega, by omega, i4, i5, i6, i7, fun h => by omega, fun _ => by omega, fun _ => by first | assumption | omega, fun h => by omega, fun h => by omega, fun _ => by first | assumption | omega, i14, i15, i16, by omega⟩) (by show (nA lz - (t + (eE lz mo t (kO al i)))).toNat < (nA lz - t).toNat; omega) (thXv (v := St' (ckS lz ++ mo)) rfl rfl (thXi (b := ((t + (eE lz mo t (kO al i))))) rfl rfl (by omega) (thXi (b := ((i + 1))) rfl rfl (by omega) (thXv (v := .int .i64 ((wA lz (t + (eE lz mo t (kO al i)))))) rfl rfl (thXv (v := .int .i64 ((fA lz (t + (eE lz mo t (kO al i)))))) rfl rfl (thXv (v := St' (lnA lz (t + (eE lz mo t (kO al i))))) rfl rfl (thXv (v := St' (DA lz (t + (eE lz mo t (kO al i))))) rfl rfl (thXv (v := rwI .u8 al) rfl rfl (thNil))))))))) runOa_p10
def hyOa_p11 : LK := [(.rn, .x 2000003), (.bytes [], .x 43), (.len (.x 0), .x 44), (.bin .lss (.x 1) (.x 44), .b false)]
theorem runOa_p11 : RNOa_3 hyOa_p11 (.exit 2) [(0, .x 1), (1, .x 3), (2, .x 6)] [(40, 41)] 140 [(11, .p 30 0), (12, .x 0)] [(30, .b ⟨38, .l [.und, .x 1, .und, .und, .und, .und, .sy 40], 0, 0, 0, false, false⟩), (40, .t 2 5)] = true := by kernel_rfl
def hyOa_p12 : LK := [(.rn, .x 2000003), (.bytes [], .x 40), (.len (.x 0), .x 41), (.bin .lss (.x 1) (.x 41), .b true), (.rl (.x 2000000) 1, .x 42), (.bin .gtr (.x 42) (.i .i64 (.ofNat 0)), .b true), (.bin .rem (.x 2) (.x 42), .x 43), (.el (.x 2000000) (.x 43) 1 0, .x 44), (.conv 3 (.x 44), .x 45), (.bin .add (.x 45) (.i .i64 (.ofNat 1)), .x 46), (.bin .add (.x 1) (.x 46), .x 47), (.mm false (.x 41) (.x 47), .x 48), (.sub (.x 0) (some (.x 1)) (some (.x 48)), .x 49), (.bin .eql (.x 3) (.i .i64 (.ofNat 5)), .b false), (.bin .add (.x 1) (.x 50), .x 55), (.len (.x 49), .x 56), (.bin .lss (.x 50) (.x 56), .b true)]
def lh582 : LH := ⟨4, 60, 120, [(30, .b ⟨38, .l [.i .i64 (.ofNat 4000), .x 3, .nils, .b false, .x 4, .i .i64 (.ofNat 0), .nils], 0, 0, 0, false, false⟩)], [(30, .b ⟨38, .l [.i .i64 (.ofNat 4000), .x 51, .sy 60, .b false, .x 52, .i .i64 (.ofNat 0), .sy 61], 0, 0, 0, false, false⟩), (60, .t 53 5), (61, .t 54 5)]⟩
def lf582 : LF := ⟨4, 58, [(0, .p 30 0), (1, .x 49), (6, .i .i64 (.ofNat 0))], [], (.exit 0), [(6, .x 50)], some lh582⟩
noncomputable def tbOa_p12 : Tab := addLps ((tbl hyOa_p12)) 8 fi8 [lf582]
def LOa_p12 : List LF := []
theorem runOa_p12 : okRdH (code tbOa_p12 5000 LOa_p12 bodyOa (envOf (headOf epOa_0 keepOa) 117) ⟨lhSet hpOa_0 .leaf, 42, 0, 0⟩) (.exit 2) keepOa 117 140 [(0, .x 55), (1, .x 51), (2, .x 54)] [(40, 61)] 40 140 [(11, .p 30 0), (12, .x 0)] [(30, .b ⟨38, .l [.und, .x 1, .und, .und, .und, .und, .sy 40], 0, 0, 0, false, false⟩), (40, .t 2 5)] = true := by kernel_rfl
def hyOa_p13 : LK := [(.rn, .x 2000004), (.bytes [], .x 59), (.len (.x 0), .x 60), (.bin .lss (.x 1) (.x 60), .b true), (.rl (.x 2000000) 1, .x 61), (.bin .gtr (.x 61) (.i .i64 (.ofNat 0)), .b true), (.bin .rem (.x 2) (.x 61), .x 62), (.el (.x 2000000) (.x 62) 1 0, .x 63), (.conv 3 (.x 63), .x 64), (.bin .add (.x 64) (.i .i64 (.ofNat 1)), .x 65), (.bin .add (.x 1) (.x 65), .x 66), (.mm false (.x 60) (.x 66), .x 67), (.sub (.x 0) (some (.x 1)) (some (.x 67)), .x 68), (.bin .eql (.x 3) (.i .i64 (.ofNat 5)), .b false), (.bin .add (.x 1) (.x 69), .x 74), (.len (.x 68), .x 75), (.bin .lss (.x 69) (.x 75), .b true)]
def lh585 : LH := ⟨4, 60, 120, [(30, .b ⟨38, .l [.i .i64 (.ofNat 4000), .x 3, .sy 40, .b false, .x 4, .i .i64 (.ofNat 0), .nils], 0, 0, 0, false, false⟩), (40, .t 5 5)], [(30, .b ⟨38, .l [.i .i64 (.ofNat 4000), .x 70, .sy 60, .b false, .x 71, .i .i64 (.ofNat 0), .sy 61], 0, 0, 0, false, false⟩), (60, .t 72 5), (61, .t 73 5)]⟩
def lf585 : LF := ⟨4, 58, [(0, .p 30 0), (1, .x 68), (6, .i .i64 (.ofNat 0))], [], (.exit 0), [(6, .x 69)], some lh585⟩
noncomputable def tbOa_p13 : Tab := addLps ((tbl hyOa_p13)) 8 fi8 [lf585]
def LOa_p13 : List LF := []
theorem runOa_p13 : okRdH (code tbOa_p13 5000 LOa_p13 bodyOa (envOf (headOf epOa_1 keepOa) 117) ⟨lhSet hpOa_1 .leaf, 42, 0, 0⟩) (.exit 2) keepOa 117 140 [(0, .x 74), (1, .x 70), (2, .x 73)] [(40, 61)] 40 140 [(11, .p 30 0), (12, .x 0)] [(30, .b ⟨38, .l [.und, .x 1, .und, .und, .und, .und, .sy 40], 0, 0, 0, false, false⟩), (40, .t 2 5)] = true := by kernel_rfl
def hyOa_p14 : LK := [(.rn, .x 2000003), (.bytes [], .x 41), (.len (.x 0), .x 42), (.bin .lss (.x 1) (.x 42), .b true), (.rl (.x 2000000) 1, .x 43), (.bin .gtr (.x 43) (.i .i64 (.ofNat 0)), .b true), (.bin .rem (.x 2) (.x 43), .x 44), (.el (.x 2000000) (.x 44) 1 0, .x 45), (.conv 3 (.x 45), .x 46), (.bin .add (.x 46) (.i .i64 (.ofNat 1)), .x 47), (.bin .add (.x 1) (.x 47), .x 48), (.mm false (.x 42) (.x 48), .x 49), (.sub (.x 0) (some (.x 1)) (some (.x 49)), .x 50), (.bin .eql (.x 3) (.i .i64 (.ofNat 5)), .b false), (.bin .add (.x 1) (.x 51), .x 56), (.len (.x 50), .x 57), (.bin .lss (.x 51) (.x 57), .b true)]
def lh588 : LH := ⟨4, 60, 120, [(30, .b ⟨38, .l [.i .i64 (.ofNat 4000), .x 3, .sy 40, .b true, .x 4, .i .i64 (.ofNat 0), .nils], 0, 0, 0, false, false⟩), (40, .t 5 5)], [(30, .b ⟨38, .l [.i .i64 (.ofNat 4000), .x 52, .sy 60, .b false, .x 53, .i .i64 (.ofNat 0), .sy 61], 0, 0, 0, false, false⟩), (60, .t 54 5), (61, .t 55 5)]⟩
def lf588 : LF := ⟨4, 58, [(0, .p 30 0), (1, .x 50), (6, .i .i64 (.ofNat 0))], [], (.exit 0), [(6, .x 51)], some lh588⟩
noncomputable def tbOa_p14 : Tab := addLps ((tbl hyOa_p14)) 8 fi8 [lf588]
def LOa_p14 : List LF := []
theorem runOa_p14 : okRdH (code tbOa_p14 5000 LOa_p14 bodyOa (envOf (headOf epOa_2 keepOa) 117) ⟨lhSet hpOa_2 .leaf, 42, 0, 0⟩) (.exit 2) keepOa 117 140 [(0, .x 56), (1, .x 52), (2, .x 55)] [(40, 61)] 40 140 [(11, .p 30 0), (12, .x 0)] [(30, .b ⟨38, .l [.und, .x 1, .und, .und, .und, .und, .sy 40], 0, 0, 0, false, false⟩), (40, .t 2 5)] = true := by kernel_rfl
def hyOa_p15 : LK := [(.rn, .x 2000004), (.bytes [], .x 45), (.len (.x 0), .x 46), (.bin .lss (.x 1) (.x 46), .b true), (.rl (.x 2000000) 1, .x 47), (.bin .gtr (.x 47) (.i .i64 (.ofNat 0)), .b true), (.bin .rem (.x 2) (.x 47), .x 48), (.el (.x 2000000) (.x 48) 1 0, .x 49), (.conv 3 (.x 49), .x 50), (.bin .add (.x 50) (.i .i64 (.ofNat 1)), .x 51), (.bin .add (.x 1) (.x 51), .x 52), (.mm false (.x 46) (.x 52), .x 53), (.sub (.x 0) (some (.x 1)) (some (.x 53)), .x 54), (.bin .eql (.x 3) (.i .i64 (.ofNat 5)), .b false), (.bin .add (.x 1) (.x 55), .x 60), (.len (.x 54), .x 61), (.bin .lss (.x 55) (.x 61), .b true)]
def lh594 : LH := ⟨4, 60, 120, [(30, .b ⟨38, .l [.i .i64 (.ofNat 4000), .x 3, .sy 40, .b false, .x 4, .i .i64 (.ofNat 0), .sy 41], 0, 0, 0, false, false⟩), (40, .t 5 5), (41, .t 6 5)], [(30, .b ⟨38, .l [.i .i64 (.ofNat 4000), .x 56, .sy 60, .b false, .x 57, .i .i64 (.ofNat 0), .sy 61], 0, 0, 0, false, false⟩), (60, .t 58 5), (61, .t 59 5)]⟩
def lf594 : LF := ⟨4, 58, [(0, .p 30 0), (1, .x 54), (6, .i .i64 (.ofNat 0))], [], (.exit 0), [(6, .x 55)], some lh594⟩
noncomputable def tbOa_p15 : Tab := addLps ((tbl hyOa_p15)) 8 fi8 [lf594]
def LOa_p15 : List LF := []
theorem runOa_p15 : okRdH (code tbOa_p15 5000 LOa_p15 bodyOa (envOf (headOf epOa_3 keepOa) 117) ⟨lhSet hpOa_3 .leaf, 42, 0, 0⟩) (.exit 2) keepOa 117 140 [(0, .x 60), (1, .x 56), (2, .x 59)] [(40, 61)] 40 140 [(11, .p 30 0), (12, .x 0)] [(30, .b ⟨38, .l [.und, .x 1, .und, .und, .und, .und, .sy 40], 0, 0, 0, false, false⟩), (40, .t 2 5)] = true := by kernel_rfl
def hyOa_p16 : LK := [(.rn, .x 2000003), (.bytes [], .x 43), (.len (.x 0), .x 44), (.bin .lss (.x 1) (.x 44), .b true), (.rl (.x 2000000) 1, .x 45), (.bin .gtr (.x 45) (.i .i64 (.ofNat 0)), .b true), (.bin .rem (.x 2) (.x 45), .x 46), (.el (.x 2000000) (.x 46) 1 0, .x 47), (.conv 3 (.x 47), .x 48), (.bin .add (.x 48) (.i .i64 (.ofNat 1)), .x 49), (.bin .add (.x 1) (.x 49), .x 50), (.mm false (.x 44) (.x 50), .x 51), (.sub (.x 0) (some (.x 1)) (some (.x 51)), .x 52), (.bin .eql (.x 3) (.i .i64 (.ofNat 5)), .b false), (.bin .add (.x 1) (.x 53), .x 58), (.len (.x 52), .x 59), (.bin .lss (.x 53) (.x 59), .b true)]
def lh603 : LH := ⟨4, 60, 120, [(30, .b ⟨38, .l [.i .i64 (.ofNat 4000), .x 3, .sy 40, .b true, .x 4, .i .i64 (.ofNat 0), .sy 41], 0, 0, 0, false, false⟩), (40, .t 5 5), (41, .t 6 5)], [(30, .b ⟨38, .l [.i .i64 (.ofNat 4000), .x 54, .sy 60, .b false, .x 55, .i .i64 (.ofNat 0), .sy 61], 0, 0, 0, false, false⟩), (60, .t 56 5), (61, .t 57 5)]⟩
def lf603 : LF := ⟨4, 58, [(0, .p 30 0), (1, .x 52), (6, .i .i64 (.ofNat 0))], [], (.exit 0), [(6, .x 53)], some lh603⟩
noncomputable def tbOa_p16 : Tab := addLps ((tbl hyOa_p16)) 8 fi8 [lf603]
def LOa_p16 : List LF := []
theorem runOa_p16 : okRdH (code tbOa_p16 5000 LOa_p16 bodyOa (envOf (headOf epOa_4 keepOa) 117) ⟨lhSet hpOa_4 .leaf, 42, 0, 0⟩) (.exit 2) keepOa 117 140 [(0, .x 58), (1, .x 54), (2, .x 57)] [(40, 61)] 40 140 [(11, .p 30 0), (12, .x 0)] [(30, .b ⟨38, .l [.und, .x 1, .und, .und, .und, .und, .sy 40], 0, 0, 0, false, false⟩), (40, .t 2 5)] = true := by kernel_rfl
def hyOa_p17 : LK := [(.rn, .x 2000004), (.bytes [], .x 57), (.len (.x 0), .x 58), (.bin .lss (.x 1) (.x 58), .b true), (.rl (.x 2000000) 1, .x 59), (.bin .gtr (.x 59) (.i .i64 (.ofNat 0)), .b true), (.bin .rem (.x 2) (.x 59), .x 60), (.el (.x 2000000) (.x 60) 1 0, .x 61), (.conv 3 (.x 61), .x 62), (.bin .add (.x 62) (.i .i64 (.ofNat 1)), .x 63), (.bin .add (.x 1) (.x 63), .x 64), (.mm false (.x 58) (.x 64), .x 65), (.sub (.x 0) (some (.x 1)) (some (.x 65)), .x 66), (.bin .eql (.x 3) (.i .i64 (.ofNat 5)), .b false), (.bin .add (.x 1) (.x 67), .x 71), (.len (.x 66), .x 72), (.bin .lss (.x 67) (.x 72), .b false), (.bin .add (.x 2) (.i .i64 (.ofNat 1)), .x 73)]
def lh700 : LH := ⟨4, 60, 120, [(30, .b ⟨38, .l [.i .i64 (.ofNat 4000), .x 3, .nils, .b false, .x 4, .i .i64 (.ofNat 0), .nils], 0, 0, 0, false, false⟩)], [(30, .b ⟨38, .l [.i .i64 (.ofNat 4000), .x 68, .sy 60, .b true, .x 69, .i .i64 (.ofNat 0), .nils], 0, 0, 0, false, false⟩), (60, .t 70 5)]⟩
def lf700 : LF := ⟨4, 58, [(0, .p 30 0), (1, .x 66), (6, .i .i64 (.ofNat 0))], [], (.exit 0), [(6, .x 67)], some lh700⟩
noncomputable def tbOa_p17 : Tab := addLps ((tbl hyOa_p17)) 8 fi8 [lf700]
def LOa_p17 : List LF := []
theorem runOa_p17 : okRdH (code tbOa_p17 5000 LOa_p17 bodyOa (envOf (headOf epOa_0 keepOa) 117) ⟨lhSet hpOa_0 .leaf, 42, 0, 0⟩) .normal keepOa 117 140 [(0, .x 0), (1, .x 71), (2, .x 73), (3, .x 68), (4, .x 69), (5, .x 70), (2000000, .x 2000000)] [(40, 60)] 40 42 epOa_2 hpOa_2 = true := by kernel_rfl
theorem nxOa_p17 (lz : List LB) (mo : LB) (al : List Int) (t i : Int) (X : Nat → Value) (hI : InvOa lz mo al (0, t, i)) (h3 : cA lz (t + (eE lz mo t (kO al i))) = true) (h4 : (DA lz (t + (eE lz mo t (kO al i)))).length = 0) : RHOa lz mo al E' x' e' h' (0, t, i) X := by
  obtain ⟨i0, i1, i2, i3, i4, i5, i6, i7, i8, i9, i10, i11, i12, i13, i14, i15, i16, it⟩ := unIOa lz mo al 0 t i hI
  obtain ⟨y1, y2, y3, y4, y5, y6, y7, y8⟩ := any_ (l := lz) (i := t) i5 (by omega) (by omega)
  have hNl := nA_lo (l := lz)
  have hn0 : ([] : LB).length = 0 := rfl
  obtain ⟨hm0, hm1, hm2, hkO⟩ := rO i2 i14 i15
  have hsl := ckn (l := lz) (mo := mo)
  obtain ⟨huA, hxl, heA, hpE, z1, z2, z5, z6, hmo, hzt⟩ := rndC (l := lz) (mo := mo) (t := t) (k := (kO al i)) i5 i0 i1 (by omega) (by omega)
  have hz4 : ¬ wA lz (t + (eE lz mo t (kO al i))) = 4 := fun q => by have := (z2 q).2; rw [(by assumption : cA lz (t + (eE lz mo t (kO al i))) = true)] at this; cases this
  have ho : ∀ a' r', (a', r') ∈ hyOa_p17 → HOk (CXOa_0 lz mo al t i X) a' r' := by
    unfold hyOa_p17
    exact hc (kRn (denX rfl)) <|
     hc (kBytesB (bs := ([] : LB)) .nil (denX rfl)) <|
     hc (lnV rfl rfl (by omega)) <|
     hc (ltT rfl rfl (by omega)) <|
     hc (kRlI (isX rfl) (denX rfl) (by first | omega | (simp <;> omega))) <|
     hc (gtcT rfl (by omega)) <|
     hc (kRem (isX rfl) (isX rfl) (denX rfl) (by omega) (by omega) rfl) <|
     hc (kElI (j := (Int.toNat (i % (al.length : Int)))) (isX rfl) (isX rfl) (denX rfl) (by omega) (by omega)) <|
     hc (kConvF (isX rfl) tu3 (denX rfl) (fI64 (by omega) (by omega))) <|
     hc (adC rfl rfl (by omega)) <|
     hc (adX rfl rfl rfl (by omega)) <|
     hc (kMin (isX rfl) (isX rfl) (denX rfl) (by rw [huA, hsl]; try omega)) <|
     hc (mdV rfl rfl rfl rfl (by omega)) <|
     hc (eqcF rfl (by omega)) <|
     hc (adX rfl rfl rfl (by omega)) <|
     hc (lnV rfl rfl (by omega)) <|
     hc (ltF rfl rfl (by omega)) <|
     hc (adC rfl rfl (by omega)) <|
     hnil
  exact sLOa_0 lz mo al t i (tb := tbOa_p17) (L := LOa_p17) (2, (t + (eE lz mo t (kO al i))), (i + 1)) (AllOk.lp1 ((tabkOk _ _).hyps ho) (by omega) fi8_at fi8_body (lfCons (lpKnown rfl ⟨0, keyFd, lfOkFd_1 (l := lf700) (h := lh700) lz (xS lz mo t (uA lz mo t (kO al i))) mo t (eE lz mo t (kO al i)) i0 (⟨by omega, by omega⟩) (by omega) i5 i6 xS_P (by omega) (by omega) (by first | assumption | omega) (by first | assumption | (show (DA lz (t + (eE lz mo t (kO al i)))).length = 0; omega)) (0, (0 : Int)) (fdI (by omega) (by omega) i8 i9 i10 i11 i12 i13 (by decide)) rfl (by kernel_rfl) (th0 := [(0, .x 66), (1, .i .i64 (.ofNat 0)), (2, .x 3), (3, .x 4)]) (sg0 := []) (fun X => thXv (v := St' (xS lz mo t (uA lz mo t (kO al i)))) rfl rfl (thCons (show Is _ (.i .i64 (.ofNat 0)) (.int .i64 ((0 : Int))) from isTo (v := .int .i64 0) (isI _ _) (by first | rfl | (congr 1; omega))) (thXe (v := .int .i64 ((wA lz t))) (u := .int .i64 ((wA lz (t + (0 : Int))))) rfl rfl (by rw [hzt]) (thXe (v := .int .i64 ((fA lz t))) (u := .int .i64 ((fA lz (t + (0 : Int))))) rfl rfl (by rw [hzt]) (thNil))))) (by kernel_rfl) (thx := [(67, .x 0), (68, .x 1), (69, .x 2), (70, .x 3)]) (thXv (v := .int .i64 ((eE lz mo t (kO al i)))) rfl rfl (thXv (v := .int .i64 ((wA lz (t + (eE lz mo t (kO al i)))))) rfl rfl (thXv (v := .int .i64 ((fA lz (t + (eE lz mo t (kO al i)))))) rfl rfl (thXv (v := St' (lnA lz (t + (eE lz mo t (kO al i))))) rfl rfl (thNil))))) (by kernel_rfl)⟩) lfNil)) (lpOk_one lfNil) rfl (mkIOa lz mo al 2 (t + (eE lz mo t (kO al i))) (i + 1) ⟨by omega, by omega, by omega, by omega, i4, i5, i6, i7, fun h => by omega, fun _ => by omega, fun h => by omega, fun _ => by first | assumption | omega, fun _ => by first | assumption | omega, fun h => by omega, i14, i15, i16, by omega⟩) (by show (nA lz - (t + (eE lz mo t (kO al i)))).toNat < (nA lz - t).toNat; omega) (thXv (v := St' (ckS lz ++ mo)) rfl rfl (thXi (b := ((t + (eE lz mo t (kO al i))))) rfl rfl (by omega) (thXi (b := ((i + 1))) rfl rfl (by omega) (thXv (v := .int .i64 ((wA lz (t + (eE lz mo t (kO al i)))))) rfl rfl (thXv (v := .int .i64 ((fA lz (t + (eE lz mo t (kO al i)))))) rfl rfl (thXv (v := St' (lnA lz (t + (eE lz mo t (kO al i))))) rfl rfl (thXv (v := rwI .u8 al) rfl rfl (thNil)))))))) runOa_p17
def hyOa_p18 : LK := [(.rn, .x 2000005), (.bytes [], .x 76), (.len (.x 0), .x 77), (.bin .lss (.x 1) (.x 77), .b true), (.rl (.x 2000000) 1, .x 78), (.bin .gtr (.x 78) (.i .i64 (.ofNat 0)), .b true), (.bin .rem (.x 2) (.x 78), .x 79), (.el (.x 2000000) (.x 79) 1 0, .x 80), (.conv 3 (.x 80), .x 81), (.bin .add (.x 81) (.i .i64 (.ofNat 1)), .x 82), (.bin .add (.x 1) (.x 82), .x 83), (.mm false (.x 77) (.x 83), .x 84), (.sub (.x 0) (some (.x 1)) (some (.x 84)), .x 85), (.bin .eql (.x 3) (.i .i64 (.ofNat 5)), .b false), (.bin .add (.x 1) (.x 86), .x 90), (.len (.x 85), .x 91), (.bin .lss (.x 86) (.x 91), .b false), (.bin .add (.x 2) (.i .i64 (.ofNat 1)), .x 92)]
def lh703 : LH := ⟨4, 60, 120, [(30, .b ⟨38, .l [.i .i64 (.ofNat 4000), .x 3, .sy 40, .b false, .x 4, .i .i64 (.ofNat 0), .nils], 0, 0, 0, false, false⟩), (40, .t 5 5)], [(30, .b ⟨38, .l [.i .i64 (.ofNat 4000), .x 87, .sy 60, .b false, .x 88, .i .i64 (.ofNat 0), .nils], 0, 0, 0, false, false⟩), (60, .t 89 5)]⟩
def lf703 : LF := ⟨4, 58, [(0, .p 30 0), (1, .x 85), (6, .i .i64 (.ofNat 0))], [], (.exit 0), [(6, .x 86)], some lh703⟩
noncomputable def tbOa_p18 : Tab := addLps ((tbl hyOa_p18)) 8 fi8 [lf703]
def LOa_p18 : List LF := []
theorem runOa_p18 : okRdH (code tbOa_p18 5000 LOa_p18 bodyOa (envOf (headOf epOa_1 keepOa) 117) ⟨lhSet hpOa_1 .leaf, 42, 0, 0⟩) .normal keepOa 117 140 [(0, .x 0), (1, .x 90), (2, .x 92), (3, .x 87), (4, .x 88), (5, .x 89), (2000000, .x 2000000)] [(40, 60)] 40 42 epOa_1 hpOa_1 = true := by kernel_rfl
theorem nxOa_p18 (lz : List LB) (mo : LB) (al : List Int) (t i : Int) (X : Nat → Value) (hI : InvOa lz mo al (1, t, i)) (h0 : t < ((ckS lz ++ mo).length : Int)) (h3 : ¬ (cA lz (t + (eE lz mo t (kO al i))) = true)) (h4 : (DA lz (t + (eE lz mo t (kO al i)))).length = 0) (h5 : ¬ ((eE lz mo t (kO al i)) < (uA lz mo t (kO al i)) - t)) : RHOa lz mo al E' x' e' h' (1, t, i) X := by
  obtain ⟨i0, i1, i2, i3, i4, i5, i6, i7, i8, i9, i10, i11, i12, i13, i14, i15, i16, it⟩ := unIOa lz mo al 1 t i hI
  obtain ⟨y1, y2, y3, y4, y5, y6, y7, y8⟩ := any_ (l := lz) (i := t) i5 (by omega) (by omega)
  have hNl := nA_lo (l := lz)
  have hn0 : ([] : LB).length = 0 := rfl
  obtain ⟨hm0, hm1, hm2, hkO⟩ := rO i2 i14 i15
  have hsl := ckn (l := lz) (mo := mo)
  obtain ⟨huA, hxl, heA, hpE, z1, z2, z5, z6, hmo, hzt⟩ := rndC (l := lz) (mo := mo) (t := t) (k := (kO al i)) i5 i0 i1 (by omega) (by omega)
  have ho : ∀ a' r', (a', r') ∈ hyOa_p18 → HOk (CXOa_1 lz mo al t i X) a' r' := by
    unfold hyOa_p18
    exact hc (kRn (denX rfl)) <|
     hc (kBytesB (bs := ([] : LB)) .nil (denX rfl)) <|
     hc (lnV rfl rfl (by omega)) <|
     hc (ltT rfl rfl (by omega)) <|
     hc (kRlI (isX rfl) (denX rfl) (by first | omega | (simp <;> omega))) <|
     hc (gtcT rfl (by omega)) <|
     hc (kRem (isX rfl) (isX rfl) (denX rfl) (by omega) (by omega) rfl) <|
     hc (kElI (j := (Int.toNat (i % (al.length : Int)))) (isX rfl) (isX rfl) (denX rfl) (by omega) (by omega)) <|
     hc (kConvF (isX rfl) tu3 (denX rfl) (fI64 (by omega) (by omega))) <|
     hc (adC rfl rfl (by omega)) <|
     hc (adX rfl rfl rfl (by omega)) <|
     hc (kMin (isX rfl) (isX rfl) (denX rfl) (by rw [huA, hsl]; try omega)) <|
     hc (mdV rfl rfl rfl rfl (by omega)) <|
     hc (eqcF rfl (by omega)) <|
     hc (adX rfl rfl rfl (by omega)) <|
     hc (lnV rfl rfl (by omega)) <|
     hc (ltF rfl rfl (by omega)) <|
     hc (adC rfl rfl (by omega)) <|
     hnil
  exact sLOa_1 lz mo al t i (tb := tbOa_p18) (L := LOa_p18) (1, (t + (eE lz mo t (kO al i))), (i + 1)) (AllOk.lp1 ((tabkOk _ _).hyps ho) (by omega) fi8_at fi8_body (lfCons (lpKnown rfl ⟨0, keyFd, lfOkFd_0 (l := lf703) (h := lh703) lz (xS lz mo t (uA lz mo t (kO al i))) mo t (eE lz mo t (kO al i)) i0 (⟨by omega, by omega⟩) (by omega) i5 i6 xS_P (by omega) (by omega) (by first | assumption | omega) (by first | assumption | (show (DA lz (t + (eE lz mo t (kO al i)))).length = 0; omega)) (1, (0 : Int)) (fdI (by omega) (by omega) i8 i9 i10 i11 i12 i13 (by decide)) rfl (by kernel_rfl) (th0 := [(0, .x 85), (1, .i .i64 (.ofNat 0)), (2, .x 3), (3, .x 4), (4, .x 5)]) (sg0 := [(60, 40)]) (fun X => thXv (v := St' (xS lz mo t (uA lz mo t (kO al i)))) rfl rfl (thCons (show Is _ (.i .i64 (.ofNat 0)) (.int .i64 ((0 : Int))) from isTo (v := .int .i64 0) (isI _ _) (by first | rfl | (congr 1; omega))) (thXe (v := .int .i64 ((wA lz t))) (u := .int .i64 ((wA lz (t + (0 : Int))))) rfl rfl (by rw [hzt]) (thXe (v := .int .i64 ((fA lz t))) (u := .int .i64 ((fA lz (t + (0 : Int))))) rfl rfl (by rw [hzt]) (thXe (v := St' (lnA lz t)) (u := St' (lnA lz (t + (0 : Int)))) rfl rfl (by rw [hzt]) (thNil)))))) (by kernel_rfl) (thx := [(86, .x 0), (87, .x 1), (88, .x 2), (89, .x 3)]) (thXv (v := .int .i64 ((eE lz mo t (kO al i)))) rfl rfl (thXv (v := .int .i64 ((wA lz (t + (eE lz mo t (kO al i)))))) rfl rfl (thXv (v := .int .i64 ((fA lz (t + (eE lz mo t (kO al i)))))) rfl rfl (thXv (v := St' (lnA lz (t + (eE lz mo t (kO al i))))) rfl rfl (thNil))))) (by kernel_rfl)⟩) lfNil)) (lpOk_one lfNil) rfl (mkIOa lz mo al 1 (t + (eE lz mo t (kO al i))) (i + 1) ⟨by omega, by omega, by omega, by omega, i4, i5, i6, i7, fun h => by omega, fun _ => by omega, fun _ => by first | assumption | omega, fun h => by omega, fun _ => by first | assumption | omega, fun h => by omega, i14, i15, i16, by omega⟩) (by show (nA lz - (t + (eE lz mo t (kO al i)))).toNat < (nA lz - t).toNat; omega) (thXv (v := St' (ckS lz ++ mo)) rfl rfl (thXi (b := ((t + (eE lz mo t (kO al i))))) rfl rfl (by omega) (thXi (b := ((i + 1))) rfl rfl (by omega) (thXv (v := .int .i64 ((wA lz (t + (eE lz mo t (kO al i)))))) rfl rfl (thXv (v := .int .i64 ((fA lz (t + (eE lz mo t (kO al i)))))) rfl rfl (thXv (v := St' (lnA lz (t + (eE lz mo t (kO al i))))) rfl rfl (thXv (v := rwI .u8 al) rfl rfl (thNil)))))))) runOa_p18
def hyOa_p19 : LK := [(.rn, .x 2000006), (.bytes [], .x 93), (.len (.x 0), .x 94), (.bin .lss (.x 1) (.x 94), .b false)]
theorem runOa_p19 : RNOa_1 hyOa_p19 (.exit 2) [(0, .x 1), (1, .x 3)] [] 140 [(11, .p 30 0), (12, .x 0)] [(30, .b ⟨38, .l [.und, .x 1, .und, .und, .und, .und, .nils], 0, 0, 0, false, false⟩)] = true := by kernel_rfl
def hyOa_p20 : LK := [(.rn, .x 2000005), (.bytes [], .x 74), (.len (.x 0), .x 75), (.bin .lss (.x 1) (.x 75), .b true), (.rl (.x 2000000) 1, .x 76), (.bin .gtr (.x 76) (.i .i64 (.ofNat 0)), .b true), (.bin .rem (.x 2) (.x 76), .x 77), (.el (.x 2000000) (.x 77) 1 0, .x 78), (.conv 3 (.x 78), .x 79), (.bin .add (.x 79) (.i .i64 (.ofNat 1)), .x 80), (.bin .add (.x 1) (.x 80), .x 81), (.mm false (.x 75) (.x 81), .x 82), (.sub (.x 0) (some (.x 1)) (some (.x 82)), .x 83), (.bin .eql (.x 3) (.i .i64 (.ofNat 5)), .b false), (.bin .add (.x 1) (.x 84), .x 88), (.len (.x 83), .x 89), (.bin .lss (.x 84) (.x 89), .b true)]
def lh717 : LH := ⟨4, 60, 120, [(30, .b ⟨38, .l [.i .i64 (.ofNat 4000), .x 3, .nils, .b false, .x 4, .i .i64 (.ofNat 0), .nils], 0, 0, 0, false, false⟩)], [(30, .b ⟨38, .l [.i .i64 (.ofNat 4000), .x 85, .sy 60, .b false, .x 86, .i .i64 (.ofNat 0), .nils], 0, 0, 0, false, false⟩), (60, .t 87 5)]⟩
def lf717 : LF := ⟨4, 58, [(0, .p 30 0), (1, .x 83), (6, .i .i64 (.ofNat 0))], [], (.exit 0), [(6, .x 84)], some lh717⟩
noncomputable def tbOa_p20 : Tab := addLps ((tbl hyOa_p20)) 8 fi8 [lf717]
def LOa_p20 : List LF := []
theorem runOa_p20 : okRdH (code tbOa_p20 5000 LOa_p20 bodyOa (envOf (headOf epOa_0 keepOa) 117) ⟨lhSet hpOa_0 .leaf, 42, 0, 0⟩) (.exit 2) keepOa 117 140 [(0, .x 88), (1, .x 85)] [] 40 140 [(11, .p 30 0), (12, .x 0)] [(30, .b ⟨38, .l [.und, .x 1, .und, .und, .und, .und, .nils], 0, 0, 0, false, false⟩)] = true := by kernel_rfl
def hyOa_p21 : LK := [(.rn, .x 2000007), (.bytes [], .x 95), (.len (.x 0), .x 96), (.bin .lss (.x 1) (.x 96), .b true), (.rl (.x 2000000) 1, .x 97), (.bin .gtr (.x 97) (.i .i64 (.ofNat 0)), .b true), (.bin .rem (.x 2) (.x 97), .x 98), (.el (.x 2000000) (.x 98) 1 0, .x 99), (.conv 3 (.x 99), .x 100), (.bin .add (.x 100) (.i .i64 (.ofNat 1)), .x 101), (.bin .add (.x 1) (.x 101), .x 102), (.mm false (.x 96) (.x 102), .x 103), (.sub (.x 0) (some (.x 1)) (some (.x 103)), .x 104), (.bin .eql (.x 3) (.i .i64 (.ofNat 5)), .b false), (.bin .add (.x 1) (.x 105), .x 109), (.len (.x 104), .x 110), (.bin .lss (.x 105) (.x 110), .b true)]
def lh720 : LH := ⟨4, 60, 120, [(30, .b ⟨38, .l [.i .i64 (.ofNat 4000), .x 3, .sy 40, .b false, .x 4, .i .i64 (.ofNat 0), .nils], 0, 0, 0, false, false⟩), (40, .t 5 5)], [(30, .b ⟨38, .l [.i .i64 (.ofNat 4000), .x 106, .sy 60, .b false, .x 107, .i .i64 (.ofNat 0), .nils], 0, 0, 0, false, false⟩), (60, .t 108 5)]⟩
def lf720 : LF := ⟨4, 58, [(0, .p 30 0), (1, .x 104), (6, .i .i64 (.ofNat 0))], [], (.exit 0), [(6, .x 105)], some lh720⟩
noncomputable def tbOa_p21 : Tab := addLps ((tbl hyOa_p21)) 8 fi8 [lf720]
def LOa_p21 : List LF := []
theorem runOa_p21 : okRdH (code tbOa_p21 5000 LOa_p21 bodyOa (envOf (headOf epOa_1 keepOa) 117) ⟨lhSet hpOa_1 .leaf, 42, 0, 0⟩) (.exit 2) keepOa 117 140 [(0, .x 109), (1, .x 106)] [] 40 140 [(11, .p 30 0), (12, .x 0)] [(30, .b ⟨38, .l [.und, .x 1, .und, .und, .und, .und, .nils], 0, 0, 0, false, false⟩)] = true := by kernel_rfl
def hyOa_p22 : LK := [(.rn, .x 2000004), (.bytes [], .x 58), (.len (.x 0), .x 59), (.bin .lss (.x 1) (.x 59), .b true), (.rl (.x 2000000) 1, .x 60), (.bin .gtr (.x 60) (.i .i64 (.ofNat 0)), .b true), (.bin .rem (.x 2) (.x 60), .x 61), (.el (.x 2000000) (.x 61) 1 0, .x 62), (.conv 3 (.x 62), .x 63), (.bin .add (.x 63) (.i .i64 (.ofNat 1)), .x 64), (.bin .add (.x 1) (.x 64), .x 65), (.mm false (.x 59) (.x 65), .x 66), (.sub (.x 0) (some (.x 1)) (some (.x 66)), .x 67), (.bin .eql (.x 3) (.i .i64 (.ofNat 5)), .b false), (.bin .add (.x 1) (.x 68), .x 72), (.len (.x 67), .x 73), (.bin .lss (.x 68) (.x 73), .b true)]
def lh721 : LH := ⟨4, 60, 120, [(30, .b ⟨38, .l [.i .i64 (.ofNat 4000), .x 3, .sy 40, .b true, .x 4, .i .i64 (.ofNat 0), .nils], 0, 0, 0, false, false⟩), (40, .t 5 5)], [(30, .b ⟨38, .l [.i .i64 (.ofNat 4000), .x 69, .sy 60, .b false, .x 70, .i .i64 (.ofNat 0), .nils], 0, 0, 0, false, false⟩), (60, .t 71 5)]⟩
def lf721 : LF := ⟨4, 58, [(0, .p 30 0), (1, .x 67), (6, .i .i64 (.ofNat 0))], [], (.exit 0), [(6, .x 68)], some lh721⟩
noncomputable def tbOa_p22 : Tab := addLps ((tbl hyOa_p22)) 8 fi8 [lf721]
def LOa_p22 : List LF := []
theorem runOa_p22 : okRdH (code tbOa_p22 5000 LOa_p22 bodyOa (envOf (headOf epOa_2 keepOa) 117) ⟨lhSet hpOa_2 .leaf, 42, 0, 0⟩) (.exit 2) keepOa 117 140 [(0, .x 72), (1, .x 69)] [] 40 140 [(11, .p 30 0), (12, .x 0)] [(30, .b ⟨38, .l [.und, .x 1, .und, .und, .und, .und, .nils], 0, 0, 0, false, false⟩)] = true := by kernel_rfl
def hyOa_p23 : LK := [(.rn, .x 2000006), (.bytes [], .x 90), (.len (.x 0), .x 91), (.bin .lss (.x 1) (.x 91), .b true), (.rl (.x 2000000) 1, .x 92), (.bin .gtr (.x 92) (.i .i64 (.ofNat 0)), .b true), (.bin .rem (.x 2) (.x 92), .x 93), (.el (.x 2000000) (.x 93) 1 0, .x 94), (.conv 3 (.x 94), .x 95), (.bin .add (.x 95) (.i .i64 (.ofNat 1)), .x 96), (.bin .add (.x 1) (.x 96), .x 97), (.mm false (.x 91) (.x 97), .x 98), (.sub (.x 0) (some (.x 1)) (some (.x 98)), .x 99), (.bin .eql (.x 3) (.i .i64 (.ofNat 5)), .b false), (.bin .add (.x 1) (.x 100), .x 105), (.len (.x 99), .x 106), (.bin .lss (.x 100) (.x 106), .b false), (.bin .add (.x 2) (.i .i64 (.ofNat 1)), .x 107)]
def lh922 : LH := ⟨4, 60, 120, [(30, .b ⟨38, .l [.i .i64 (.ofNat 4000), .x 3, .nils, .b false, .x 4, .i .i64 (.ofNat 0), .nils], 0, 0, 0, false, false⟩)], [(30, .b ⟨38, .l [.i .i64 (.ofNat 4000), .x 101, .sy 60, .b true, .x 102, .i .i64 (.ofNat 0), .sy 61], 0, 0, 0, false, false⟩), (60, .t 103 5), (61, .t 104 5)]⟩
def lf922 : LF := ⟨4, 58, [(0, .p 30 0), (1, .x 99), (6, .i .i64 (.ofNat 0))], [], (.exit 0), [(6, .x 100)], some lh922⟩
noncomputable def tbOa_p23 : Tab := addLps ((tbl hyOa_p23)) 8 fi8 [lf922]
def LOa_p23 : List LF := []
theorem runOa_p23 : okRdH (code tbOa_p23 5000 LOa_p23 bodyOa (envOf (headOf epOa_0 keepOa) 117) ⟨lhSet hpOa_0 .leaf, 42, 0, 0⟩) .normal keepOa 117 140 [(0, .x 0), (1, .x 105), (2, .x 107), (3, .x 101), (4, .x 102), (5, .x 103), (6, .x 104), (2000000, .x 2000000)] [(40, 60), (41, 61)] 40 42 epOa_4 hpOa_4 = true := by kernel_rfl
theorem nxOa_p23 (lz : List LB) (mo : LB) (al : List Int) (t i : Int) (X : Nat → Value) (hI : InvOa lz mo al (0, t, i)) (h3 : cA lz (t + (eE lz mo t (kO al i))) = true) (h4 : ¬ ((DA lz (t + (eE lz mo t (kO al i)))).length = 0)) : RHOa lz mo al E' x' e' h' (0, t, i) X := by
  obtain ⟨i0, i1, i2, i3, i4, i5, i6, i7, i8, i9, i10, i11, i12, i13, i14, i15, i16, it⟩ := unIOa lz mo al 0 t i hI
  obtain ⟨y1, y2, y3, y4, y5, y6, y7, y8⟩ := any_ (l := lz) (i := t) i5 (by omega) (by omega)
  have hNl := nA_lo (l := lz)
  have hn0 : ([] : LB).length = 0 := rfl
  obtain ⟨hm0, hm1, hm2, hkO⟩ := rO i2 i14 i15
  have hsl := ckn (l := lz) (mo := mo)
  obtain ⟨huA, hxl, heA, hpE, z1, z2, z5, z6, hmo, hzt⟩ := rndC (l := lz) (mo := mo) (t := t) (k := (kO al i)) i5 i0 i1 (by omega) (by omega)
  have hz4 : ¬ wA lz (t + (eE lz mo t (kO al i))) = 4 := fun q => by have := (z2 q).2; rw [(by assumption : cA lz (t + (eE lz mo t (kO al i))) = true)] at this; cases this
  have ho : ∀ a' r', (a', r') ∈ hyOa_p23 → HOk (CXOa_0 lz mo al t i X) a' r' := by
    unfold hyOa_p23
    exact hc (kRn (denX rfl)) <|
     hc (kBytesB (bs := ([] : LB)) .nil (denX rfl)) <|
     hc (lnV rfl rfl (by omega)) <|
     hc (ltT rfl rfl (by omega)) <|
     hc (kRlI (isX rfl) (denX rfl) (by first | omega | (simp <;> omega))) <|
     hc (gtcT rfl (by omega)) <|
     hc (kRem (isX rfl) (isX rfl) (denX rfl) (by omega) (by omega) rfl) <|
     hc (kElI (j := (Int.toNat (i % (al.length : Int)))) (isX rfl) (isX rfl) (denX rfl) (by omega) (by omega)) <|
     hc (kConvF (isX rfl) tu3 (denX rfl) (fI64 (by omega) (by omega))) <|
     hc (adC rfl rfl (by omega)) <|
     hc (adX rfl rfl rfl (by omega)) <|
     hc (kMin (isX rfl) (isX rfl) (denX rfl) (by rw [huA, hsl]; try omega)) <|
     hc (mdV rfl rfl rfl rfl (by omega)) <|
     hc (eqcF rfl (by omega)) <|
     hc (adX rfl rfl rfl (by omega)) <|
     hc (lnV rfl rfl (by omega)) <|
     hc (ltF rfl rfl (by omega)) <|
     hc (adC rfl rfl (by omega)) <|
     hnil
  exact sLOa_0 lz mo al t i (tb := tbOa_p23) (L := LOa_p23) (4, (t + (eE lz mo t (kO al i))), (i + 1)) (AllOk.lp1 ((tabkOk _ _).hyps ho) (by omega) fi8_at fi8_body (lfCons (lpKnown rfl ⟨0, keyFd, lfOkFd_3 (l := lf922) (h := lh922) lz (xS lz mo t (uA lz mo t (kO al i))) mo t (eE lz mo t (kO al i)) i0 (⟨by omega, by omega⟩) (by omega) i5 i6 xS_P (by omega) (by omega) (by first | assumption | omega) (by first | assumption | (show ¬ (DA lz (t + (eE lz mo t (kO al i)))).length = 0; omega)) (0, (0 : Int)) (fdI (by omega) (by omega) i8 i9 i10 i11 i12 i13 (by decide)) rfl (by kernel_rfl) (th0 := [(0, .x 99), (1, .i .i64 (.ofNat 0)), (2, .x 3), (3, .x 4)]) (sg0 := []) (fun X => thXv (v := St' (xS lz mo t (uA lz mo t (kO al i)))) rfl rfl (thCons (show Is _ (.i .i64 (.ofNat 0)) (.int .i64 ((0 : Int))) from isTo (v := .int .i64 0) (isI _ _) (by first | rfl | (congr 1; omega))) (thXe (v := .int .i64 ((wA lz t))) (u := .int .i64 ((wA lz (t + (0 : Int))))) rfl rfl (by rw [hzt]) (thXe (v := .int .i64 ((fA lz t))) (u := .int .i64 ((fA lz (t + (0 : Int))))) rfl rfl (by rw [hzt]) (thNil))))) (by kernel_rfl) (thx := [(100, .x 0), (101, .x 1), (102, .x 2), (103, .x 3), (104, .x 4)]) (thXv (v := .int .i64 ((eE lz mo t (kO al i)))) rfl rfl (thXv (v := .int .i64 ((wA lz (t + (eE lz mo t (kO al i)))))) rfl rfl (thXv (v := .int .i64 ((fA lz (t + (eE lz mo t (kO al i)))))) rfl rfl (thXv (v := St' (lnA lz (t + (eE lz mo t (kO al i))))) rfl rfl (thXv (v := St' (DA lz (t + (eE lz mo t (kO al i))))) rfl rfl (thNil)))))) (by kernel_rfl)⟩) lfNil)) (lpOk_one lfNil) rfl (mkIOa lz mo al 4 (t + (eE lz mo t (kO al i))) (i + 1) ⟨by omega, by omega, by omega, by omega, i4, i5, i6, i7, fun h => by omega, fun _ => by omega, fun h => by omega, fun _ => by first | assumption | omega, fun h => by omega, fun _ => by first | assumption | omega, i14, i15, i16, by omega⟩) (by show (nA lz - (t + (eE lz mo t (kO al i)))).toNat < (nA lz - t).toNat; omega) (thXv (v := St' (ckS lz ++ mo)) rfl rfl (thXi (b := ((t + (eE lz mo t (kO al i))))) rfl rfl (by omega) (thXi (b := ((i + 1))) rfl rfl (by omega) (thXv (v := .int .i64 ((wA lz (t + (eE lz mo t (kO al i)))))) rfl rfl (thXv (v := .int .i64 ((fA lz (t + (eE lz mo t (kO al i)))))) rfl rfl (thXv (v := St' (lnA lz (t + (eE lz mo t (kO al i))))) rfl rfl (thXv (v := St' (DA lz (t + (eE lz mo t (kO al i))))) rfl rfl (thXv (v := rwI .u8 al) rfl rfl (thNil))))))))) runOa_p23
def hyOa_p24 : LK := [(.rn, .x 2000005), (.bytes [], .x 74), (.len (.x 0), .x 75), (.bin .lss (.x 1) (.x 75), .b true), (.rl (.x 2000000) 1, .x 76), (.bin .gtr (.x 76) (.i .i64 (.ofNat 0)), .b true), (.bin .rem (.x 2) (.x 76), .x 77), (.el (.x 2000000) (.x 77) 1 0, .x 78), (.conv 3 (.x 78), .x 79), (.bin .add (.x 79) (.i .i64 (.ofNat 1)), .x 80), (.bin .add (.x 1) (.x 80), .x 81), (.mm false (.x 75) (.x 81), .x 82), (.sub (.x 0) (some (.x 1)) (some (.x 82)), .x 83), (.bin .eql (.x 3) (.i .i64 (.ofNat 5)), .b false), (.bin .add (.x 1) (.x 84), .x 89), (.len (.x 83), .x 90), (.bin .lss (.x 84) (.x 90), .b false), (.bin .add (.x 2) (.i .i64 (.ofNat 1)), .x 91)]
def lh934 : LH := ⟨4, 60, 120, [(30, .b ⟨38, .l [.i .i64 (.ofNat 4000), .x 3, .sy 40, .b true, .x 4, .i .i64 (.ofNat 0), .nils], 0, 0, 0, false, false⟩), (40, .t 5 5)], [(30, .b ⟨38, .l [.i .i64 (.ofNat 4000), .x 85, .sy 60, .b true, .x 86, .i .i64 (.ofNat 0), .sy 61], 0, 0, 0, false, false⟩), (60, .t 87 5), (61, .t 88 5)]⟩
def lf934 : LF := ⟨4, 58, [(0, .p 30 0), (1, .x 83), (6, .i .i64 (.ofNat 0))], [], (.exit 0), [(6, .x 84)], some lh934⟩
noncomputable def tbOa_p24 : Tab := addLps ((tbl hyOa_p24)) 8 fi8 [lf934]
def LOa_p24 : List LF := []
theorem runOa_p24 : okRdH (code tbOa_p24 5000 LOa_p24 bodyOa (envOf (headOf epOa_2 keepOa) 117) ⟨lhSet hpOa_2 .leaf, 42, 0, 0⟩) .normal keepOa 117 140 [(0, .x 0), (1, .x 89), (2, .x 91), (3, .x 85), (4, .x 86), (5, .x 87), (6, .x 88), (2000000, .x 2000000)] [(40, 60), (41, 61)] 40 42 epOa_4 hpOa_4 = true := by kernel_rfl
theorem nxOa_p24 (lz : List LB) (mo : LB) (al : List Int) (t i : Int) (X : Nat → Value) (hI : InvOa lz mo al (2, t, i)) (h3 : cA lz (t + (eE lz mo t (kO al i))) = true) (h4 : ¬ ((DA lz (t + (eE lz mo t (kO al i)))).length = 0)) : RHOa lz mo al E' x' e' h' (2, t, i) X := by
  obtain ⟨i0, i1, i2, i3, i4, i5, i6, i7, i8, i9, i10, i11, i12, i13, i14, i15, i16, it⟩ := unIOa lz mo al 2 t i hI
  obtain ⟨y1, y2, y3, y4, y5, y6, y7, y8⟩ := any_ (l := lz) (i := t) i5 (by omega) (by omega)
  have hNl := nA_lo (l := lz)
  have hn0 : ([] : LB).length = 0 := rfl
  have hx4 : ¬ wA lz t = 4 := fun q => by have := (y2 q).2; rw [i11 (by omega)] at this; cases this
  obtain ⟨hm0, hm1, hm2, hkO⟩ := rO i2 i14 i15
  have hsl := ckn (l := lz) (mo := mo)
  obtain ⟨huA, hxl, heA, hpE, z1, z2, z5, z6, hmo, hzt⟩ := rndC (l := lz) (mo := mo) (t := t) (k := (kO al i)) i5 i0 i1 (by omega) (by omega)
  have hz4 : ¬ wA lz (t + (eE lz mo t (kO al i))) = 4 := fun q => by have := (z2 q).2; rw [(by assumption : cA lz (t + (eE lz mo t (kO al i))) = true)] at this; cases this
  have ho : ∀ a' r', (a', r') ∈ hyOa_p24 → HOk (CXOa_2 lz mo al t i X) a' r' := by
    unfold hyOa_p24
    exact hc (kRn (denX rfl)) <|
     hc (kBytesB (bs := ([] : LB)) .nil (denX rfl)) <|
     hc (lnV rfl rfl (by omega)) <|
     hc (ltT rfl rfl (by omega)) <|
     hc (kRlI (isX rfl) (denX rfl) (by first | omega | (simp <;> omega))) <|
     hc (gtcT rfl (by omega)) <|
     hc (kRem (isX rfl) (isX rfl) (denX rfl) (by omega) (by omega) rfl) <|
     hc (kElI (j := (Int.toNat (i % (al.length : Int)))) (isX rfl) (isX rfl) (denX rfl) (by omega) (by omega)) <|
     hc (kConvF (isX rfl) tu3 (denX rfl) (fI64 (by omega) (by omega))) <|
     hc (adC rfl rfl (by omega)) <|
     hc (adX rfl rfl rfl (by omega)) <|
     hc (kMin (isX rfl) (isX rfl) (denX rfl) (by rw [huA, hsl]; try omega)) <|
     hc (mdV rfl rfl rfl rfl (by omega)) <|
     hc (eqcF rfl (by omega)) <|
     hc (adX rfl rfl rfl (by omega)) <|
     hc (lnV rfl rfl (by omega)) <|
     hc (ltF rfl rfl (by omega)) <|
     hc (adC rfl rfl (by omega)) <|
     hnil
  exact sLOa_2 lz mo al t i (tb := tbOa_p24) (L := LOa_p24) (4, (t + (eE lz mo t (kO al i))), (i + 1)) (AllOk.lp1 ((tabkOk _ _).hyps ho) (by omega) fi8_at fi8_body (lfCons (lpKnown rfl ⟨0, keyFd, lfOkFd_3 (l := lf934) (h := lh934) lz (xS lz mo t (uA lz mo t (kO al i))) mo t (eE lz mo t (kO al i)) i0 (⟨by omega, by omega⟩) (by omega) i5 i6 xS_P (by omega) (by omega) (by first | assumption | omega) (by first | assumption | (show ¬ (DA lz (t + (eE lz mo t (kO al i)))).length = 0; omega)) (2, (0 : Int)) (fdI (by omega) (by omega) i8 i9 i10 i11 i12 i13 (by decide)) rfl (by kernel_rfl) (th0 := [(0, .x 83), (1, .i .i64 (.ofNat 0)), (2, .x 3), (3, .x 4), (4, .x 5)]) (sg0 := [(60, 40)]) (fun X => thXv (v := St' (xS lz mo t (uA lz mo t (kO al i)))) rfl rfl (thCons (show Is _ (.i .i64 (.ofNat 0)) (.int .i64 ((0 : Int))) from isTo (v := .int .i64 0) (isI _ _) (by first | rfl | (congr 1; omega))) (thXe (v := .int .i64 ((wA lz t))) (u := .int .i64 ((wA lz (t + (0 : Int))))) rfl rfl (by rw [hzt]) (thXe (v := .int .i64 ((fA lz t))) (u := .int .i64 ((fA lz (t + (0 : Int))))) rfl rfl (by rw [hzt]) (thXe (v := St' (lnA lz t)) (u := St' (lnA lz (t + (0 : Int)))) rfl rfl (by rw [hzt]) (thNil)))))) (by kernel_rfl) (thx := [(84, .x 0), (85, .x 1), (86, .x 2), (87, .x 3), (88, .x 4)]) (thXv (v := .int .i64 ((eE lz mo t (kO al i)))) rfl rfl (thXv (v := .int .i64 ((wA lz (t + (eE lz mo t (kO al i)))))) rfl rfl (thXv (v := .int .i64 ((fA lz (t + (eE lz mo t (kO al i)))))) rfl rfl (thXv (v := St' (lnA lz (t + (eE lz mo t (kO al i))))) rfl rfl (thXv (v := St' (DA lz (t + (eE lz mo t (kO al i))))) rfl rfl (thNil)))))) (by kernel_rfl)⟩) lfNil)) (lpOk_one lfNil) rfl (mkIOa lz mo al 4 (t + (eE lz mo t (kO al i))) (i + 1) ⟨by omega, by omega, by omega, by omega, i4, i5, i6, i7, fun h => by omega, fun _ => by omega, fun h => by omega, fun _ => by first | assumption | omega, fun h => by omega, fun _ => by first | assumption | omega, i14, i15, i16, by omega⟩) (by show (nA lz - (t + (eE lz mo t (kO al i)))).toNat < (nA lz - t).toNat; omega) (thXv (v := St' (ckS lz ++ mo)) rfl rfl (thXi (b := ((t + (eE lz mo t (kO al i))))) rfl rfl (by omega) (thXi (b := ((i + 1))) rfl rfl (by omega) (thXv (v := .int .i64 ((wA lz (t + (eE lz mo t (kO al i)))))) rfl rfl (thXv (v := .int .i64 ((fA lz (t + (eE lz mo t (kO al i)))))) rfl rfl (thXv (v := St' (lnA lz (t + (eE lz mo t (kO al i))))) rfl rfl (thXv (v := St' (DA lz (t + (eE lz mo t (kO al i))))) rfl rfl (thXv (v := rwI .u8 al) rfl rfl (thNil))))))))) runOa_p24
def hyOa_p25 : LK := [(.rn, .x 2000006), (.bytes [], .x 92), (.len (.x 0), .x 93), (.bin .lss (.x 1) (.x 93), .b true), (.rl (.x 2000000) 1, .x 94), (.bin .gtr (.x 94) (.i .i64 (.ofNat 0)), .b true), (.bin .rem (.x 2) (.x 94), .x 95), (.el (.x 2000000) (.x 95) 1 0, .x 96), (.conv 3 (.x 96), .x 97), (.bin .add (.x 97) (.i .i64 (.ofNat 1)), .x 98), (.bin .add (.x 1) (.x 98), .x 99), (.mm false (.x 93) (.x 99), .x 100), (.sub (.x 0) (some (.x 1)) (some (.x 100)), .x 101), (.bin .eql (.x 3) (.i .i64 (.ofNat 5)), .b false), (.bin .add (.x 1) (.x 102), .x 106), (.len (.x 101), .x 107), (.bin .lss (.x 102) (.x 107), .b false), (.bin .add (.x 2) (.i .i64 (.ofNat 1)), .x 108)]
def lh935 : LH := ⟨4, 60, 120, [(30, .b ⟨38, .l [.i .i64 (.ofNat 4000), .x 3, .sy 40, .b true, .x 4, .i .i64 (.ofNat 0), .nils], 0, 0, 0, false, false⟩), (40, .t 5 5)], [(30, .b ⟨38, .l [.i .i64 (.ofNat 4000), .x 103, .sy 60, .b true, .x 104, .i .i64 (.ofNat 0), .nils], 0, 0, 0, false, false⟩), (60, .t 105 5)]⟩
def lf935 : LF := ⟨4, 58, [(0, .p 30 0), (1, .x 101), (6, .i .i64 (.ofNat 0))], [], (.exit 0), [(6, .x 102)], some lh935⟩
noncomputable def tbOa_p25 : Tab := addLps ((tbl hyOa_p25)) 8 fi8 [lf935]
def LOa_p25 : List LF := []
theorem runOa_p25 : okRdH (code tbOa_p25 5000 LOa_p25 bodyOa (envOf (headOf epOa_2 keepOa) 117) ⟨lhSet hpOa_2 .leaf, 42, 0, 0⟩) .normal keepOa 117 140 [(0, .x 0), (1, .x 106), (2, .x 108), (3, .x 103), (4, .x 104), (5, .x 105), (2000000, .x 2000000)] [(40, 60)] 40 42 epOa_2 hpOa_2 = true := by kernel_rfl
theorem nxOa_p25 (lz : List LB) (mo : LB) (al : List Int) (t i : Int) (X : Nat → Value) (hI : InvOa lz mo al (2, t, i)) (h3 : cA lz (t + (eE lz mo t (kO al i))) = true) (h4 : (DA lz (t + (eE lz mo t (kO al i)))).length = 0) : RHOa lz mo al E' x' e' h' (2, t, i) X := by
  obtain ⟨i0, i1, i2, i3, i4, i5, i6, i7, i8, i9, i10, i11, i12, i13, i14, i15, i16, it⟩ := unIOa lz mo al 2 t i hI
  obtain ⟨y1, y2, y3, y4, y5, y6, y7, y8⟩ := any_ (l := lz) (i := t) i5 (by omega) (by omega)
  have hNl := nA_lo (l := lz)
  have hn0 : ([] : LB).length = 0 := rfl
  have hx4 : ¬ wA lz t = 4 := fun q => by have := (y2 q).2; rw [i11 (by omega)] at this; cases this
  obtain ⟨hm0, hm1, hm2, hkO⟩ := rO i2 i14 i15
  have hsl := ckn (l := lz) (mo := mo)
  obtain ⟨huA, hxl, heA, hpE, z1, z2, z5, z6, hmo, hzt⟩ := rndC (l := lz) (mo := mo) (t := t) (k := (kO al i)) i5 i0 i1 (by omega) (by omega)
  have hz4 : ¬ wA lz (t + (eE lz mo t (kO al i))) = 4 := fun q => by have := (z2 q).2; rw [(by assumption : cA lz (t + (eE lz mo t (kO al i))) = true)] at this; cases this
  have ho : ∀ a' r', (a', r') ∈ hyOa_p25 → HOk (CXOa_2 lz mo al t i X) a' r' := by
    unfold hyOa_p25
    exact hc (kRn (denX rfl)) <|
     hc (kBytesB (bs := ([] : LB)) .nil (denX rfl)) <|
     hc (lnV rfl rfl (by omega)) <|
     hc (ltT rfl rfl (by omega)) <|
     hc (kRlI (isX rfl) (denX rfl) (by first | omega | (simp <;> omega))) <|
     hc (gtcT rfl (by omega)) <|
     hc (kRem (isX rfl) (isX rfl) (denX rfl) (by omega) (by omega) rfl) <|
     hc (kElI (j := (Int.toNat (i % (al.length : Int)))) (isX rfl) (isX rfl) (denX rfl) (by omega) (by omega)) <|
     hc (kConvF (isX rfl) tu3 (denX rfl) (fI64 (by omega) (by omega))) <|
     hc (adC rfl rfl (by omega)) <|
     hc (adX rfl rfl rfl (by omega)) <|
     hc (kMin (isX rfl) (isX rfl) (denX rfl) (by rw [huA, hsl]; try omega)) <|
     hc (mdV rfl rfl rfl rfl (by omega)) <|
     hc (eqcF rfl (by omega)) <|
     hc (adX rfl rfl rfl (by omega)) <|
     hc (lnV rfl rfl (by omega)) <|
     hc (ltF rfl rfl (by omega)) <|
     hc (adC rfl rfl (by omega)) <|
     hnil
  exact sLOa_2 lz mo al t i (tb := tbOa_p25) (L := LOa_p25) (2, (t + (eE lz mo t (kO al i))), (i + 1)) (AllOk.lp1 ((tabkOk _ _).hyps ho) (by omega) fi8_at fi8_body (lfCons (lpKnown rfl ⟨0, keyFd, lfOkFd_1 (l := lf935) (h := lh935) lz (xS lz mo t (uA lz mo t (kO al i))) mo t (eE lz mo t (kO al i)) i0 (⟨by omega, by omega⟩) (by omega) i5 i6 xS_P (by omega) (by omega) (by first | assumption | omega) (by first | assumption | (show (DA lz (t + (eE lz mo t (kO al i)))).length = 0; omega)) (2, (0 : Int)) (fdI (by omega) (by omega) i8 i9 i10 i11 i12 i13 (by decide)) rfl (by kernel_rfl) (th0 := [(0, .x 101), (1, .i .i64 (.ofNat 0)), (2, .x 3), (3, .x 4), (4, .x 5)]) (sg0 := [(60, 40)]) (fun X => thXv (v := St' (xS lz mo t (uA lz mo t (kO al i)))) rfl rfl (thCons (show Is _ (.i .i64 (.ofNat 0)) (.int .i64 ((0 : Int))) from isTo (v := .int .i64 0) (isI _ _) (by first | rfl | (congr 1; omega))) (thXe (v := .int .i64 ((wA lz t))) (u := .int .i64 ((wA lz (t + (0 : Int))))) rfl rfl (by rw [hzt]) (thXe (v := .int .i64 ((fA lz t))) (u := .int .i64 ((fA lz (t + (0 : Int))))) rfl rfl (by rw [hzt]) (thXe (v := St' (lnA lz t)) (u := St' (lnA lz (t + (0 : Int)))) rfl rfl (by rw [hzt]) (thNil)))))) (by kernel_rfl) (thx := [(102, .x 0), (103, .x 1), (104, .x 2), (105, .x 3)]) (thXv (v := .int .i64 ((eE lz mo t (kO al i)))) rfl rfl (thXv (v := .int .i64 ((wA lz (t + (eE lz mo t (kO al i)))))) rfl rfl (thXv (v := .int .i64 ((fA lz (t + (eE lz mo t (kO al i)))))) rfl rfl (thXv (v := St' (lnA lz (t + (eE lz mo t (kO al i))))) rfl rfl (thNil))))) (by kernel_rfl)⟩) lfNil)) (lpOk_one lfNil) rfl (mkIOa lz mo al 2 (t + (eE lz mo t (kO al i))) (i + 1) ⟨by omega, by omega, by omega, by omega, i4, i5, i6, i7, fun h => by omega, fun _ => by omega, fun h => by omega, fun _ => by first | assumption | omega, fun _ => by first | assumption | omega, fun h => by omega, i14, i15, i16, by omega⟩) (by show (nA lz - (t + (eE lz mo t (kO al i)))).toNat < (nA lz - t).toNat; omega) (thXv (v := St' (ckS lz ++ mo)) rfl rfl (thXi (b := ((t + (eE lz mo t (kO al i))))) rfl rfl (by omega) (thXi (b := ((i + 1))) rfl rfl (by omega) (thXv (v := .int .i64 ((wA lz (t + (eE lz mo t (kO al i)))))) rfl rfl (thXv (v := .int .i64 ((fA lz (t + (eE lz mo t (kO al i)))))) rfl rfl (thXv (v := St' (lnA lz (t + (eE lz mo t (kO al i))))) rfl rfl (thXv (v := rwI .u8 al) rfl rfl (thNil)))))))) runOa_p25
def nuEOa_0 (lz : List LB) (mo : LB) (al : List Int) : List Value := [.int .i64 ((nA lz)), .int .i64 (4)]
def roEOa_0 (lz : List LB) (mo : LB) (al : List Int) : List Value := []
noncomputable def EOa_0 (lz : List LB) (mo : LB) (al : List Int) : Cx := cx (nuX (nuEOa_0 lz mo al) (rX (roEOa_0 lz mo al) (fun _ => .bool true))) (nuX_one (nuL_one (l := nuEOa_0 lz mo al) rfl)) 3 laidE laidE_stab
theorem roundsOa_0 (lz : List LB) (mo : LB) (al : List Int) (x0 : lz.flatten.length = 0) (st : Nat × Int × Int) (X : Nat → Value) (hI : InvOa lz mo al st) : RHOa lz mo al (EOa_0 lz mo al) (.exit 2) [(11, .p 30 0), (12, .x 0)] [(30, .b ⟨38, .l [.und, .x 1, .und, .und, .und, .und, .nils], 0, 0, 0, false, false⟩)] st X := by
  obtain ⟨tag, t, i⟩ := st
  have hI0 := hI
  obtain ⟨i0, i1, i2, i3, i4, i5, i6, i7, i8, i9, i10, i11, i12, i13, i14, i15, i16, it⟩ := unIOa lz mo al tag t i hI
  rcases (show tag = 0 ∨ tag = 1 ∨ tag = 2 ∨ tag = 3 ∨ tag = 4 from by omega) with rfl | rfl | rfl | rfl | rfl
  · skip
    obtain ⟨y1, y2, y3, y4, y5, y6, y7, y8⟩ := any_ (l := lz) (i := t) i5 (by omega) (by omega)
    have hNl := nA_lo (l := lz)
    have hn0 : ([] : LB).length = 0 := rfl
    by_cases h3 : cA lz (t + (eE lz mo t (kO al i))) = true
    · by_cases h4 : (DA lz (t + (eE lz mo t (kO al i)))).length = 0
      · exact nxOa_p17 lz mo al t i X hI0 h3 h4
      · exact nxOa_p23 lz mo al t i X hI0 h3 h4
    · by_cases h4 : (DA lz (t + (eE lz mo t (kO al i)))).length = 0
      · by_cases h5 : (eE lz mo t (kO al i)) < (uA lz mo t (kO al i)) - t
        · skip
          obtain ⟨y1, y2, y3, y4, y5, y6, y7, y8⟩ := any_ (l := lz) (i := t) i5 (by omega) (by omega)
          have hNl := nA_lo (l := lz)
          have hn0 : ([] : LB).length = 0 := rfl
          obtain ⟨hm0, hm1, hm2, hkO⟩ := rO i2 i14 i15
          have hsl := ckn (l := lz) (mo := mo)
          obtain ⟨huA, hxl, heA, hpE, z1, z2, z5, z6, hmo, hzt⟩ := rndC (l := lz) (mo := mo) (t := t) (k := (kO al i)) i5 i0 i1 (by omega) (by omega)
          obtain ⟨hw4, hWD, hpN⟩ := brk (l := lz) (mo := mo) (t := t) (k := (kO al i)) i5 i0 i1 (by omega) (by omega) (by assumption)
          have ho : ∀ a' r', (a', r') ∈ hyOa_p20 → HOk (CXOa_0 lz mo al t i X) a' r' := by
            unfold hyOa_p20
            exact hc (kRn (denX rfl)) <|
             hc (kBytesB (bs := ([] : LB)) .nil (denX rfl)) <|
             hc (lnV rfl rfl (by omega)) <|
             hc (ltT rfl rfl (by omega)) <|
             hc (kRlI (isX rfl) (denX rfl) (by first | omega | (simp <;> omega))) <|
             hc (gtcT rfl (by omega)) <|
             hc (kRem (isX rfl) (isX rfl) (denX rfl) (by omega) (by omega) rfl) <|
             hc (kElI (j := (Int.toNat (i % (al.length : Int)))) (isX rfl) (isX rfl) (denX rfl) (by omega) (by omega)) <|
             hc (kConvF (isX rfl) tu3 (denX rfl) (fI64 (by omega) (by omega))) <|
             hc (adC rfl rfl (by omega)) <|
             hc (adX rfl rfl rfl (by omega)) <|
             hc (kMin (isX rfl) (isX rfl) (denX rfl) (by rw [huA, hsl]; try omega)) <|
             hc (mdV rfl rfl rfl rfl (by omega)) <|
             hc (eqcF rfl (by omega)) <|
             hc (adX rfl rfl rfl (by omega)) <|
             hc (lnV rfl rfl (by omega)) <|
             hc (ltT rfl rfl (by omega)) <|
             hnil
          exact lLOa_0 lz mo al t i (tb := tbOa_p20) (L := LOa_p20) rfl (AllOk.lp1 ((tabkOk _ _).hyps ho) (by omega) fi8_at fi8_body (lfCons (lpKnown rfl ⟨0, keyFd, lfOkFd_0 (l := lf717) (h := lh717) lz (xS lz mo t (uA lz mo t (kO al i))) mo t (eE lz mo t (kO al i)) i0 (⟨by omega, by omega⟩) (by omega) i5 i6 xS_P (by omega) (by omega) (by first | assumption | omega) (by first | assumption | (show (DA lz (t + (eE lz mo t (kO al i)))).length = 0; omega)) (0, (0 : Int)) (fdI (by omega) (by omega) i8 i9 i10 i11 i12 i13 (by decide)) rfl (by kernel_rfl) (th0 := [(0, .x 83), (1, .i .i64 (.ofNat 0)), (2, .x 3), (3, .x 4)]) (sg0 := []) (fun X => thXv (v := St' (xS lz mo t (uA lz mo t (kO al i)))) rfl rfl (thCons (show Is _ (.i .i64 (.ofNat 0)) (.int .i64 ((0 : Int))) from isTo (v := .int .i64 0) (isI _ _) (by first | rfl | (congr 1; omega))) (thXe (v := .int .i64 ((wA lz t))) (u := .int .i64 ((wA lz (t + (0 : Int))))) rfl rfl (by rw [hzt]) (thXe (v := .int .i64 ((fA lz t))) (u := .int .i64 ((fA lz (t + (0 : Int))))) rfl rfl (by rw [hzt]) (thNil))))) (by kernel_rfl) (thx := [(84, .x 0), (85, .x 1), (86, .x 2), (87, .x 3)]) (thXv (v := .int .i64 ((eE lz mo t (kO al i)))) rfl rfl (thXv (v := .int .i64 ((wA lz (t + (eE lz mo t (kO al i)))))) rfl rfl (thXv (v := .int .i64 ((fA lz (t + (eE lz mo t (kO al i)))))) rfl rfl (thXv (v := St' (lnA lz (t + (eE lz mo t (kO al i))))) rfl rfl (thNil))))) (by kernel_rfl)⟩) lfNil)) (lpOk_one lfNil) rfl (thXi (b := ((nA lz))) rfl rfl (by omega) (thXe (v := .int .i64 ((wA lz (t + (eE lz mo t (kO al i)))))) (u := .int .i64 (4)) rfl rfl (congrArg (Value.int .i64) hw4) (thNil))) runOa_p20
        · exact nxOa_p1 lz mo al t i X hI0 h3 h4 h5
      · by_cases h5 : (eE lz mo t (kO al i)) < (uA lz mo t (kO al i)) - t
        · exfalso; obtain ⟨hm0, hm1, hm2, hkO⟩ := rO i2 i14 i15; have hsl := ckn (l := lz) (mo := mo); obtain ⟨hw4, hWD, hpN⟩ := brk (l := lz) (mo := mo) (t := t) (k := (kO al i)) i5 i0 i1 (by omega) (by omega) (by assumption); have hDl := congrArg List.length hWD; have hDz := (by first | assumption | omega : ¬ (DA lz (t + (eE lz mo t (kO al i)))).length = 0); omega
        · exact nxOa_p0 lz mo al t i X hI0 h3 h4 h5
  · skip
    obtain ⟨y1, y2, y3, y4, y5, y6, y7, y8⟩ := any_ (l := lz) (i := t) i5 (by omega) (by omega)
    have hNl := nA_lo (l := lz)
    have hn0 : ([] : LB).length = 0 := rfl
    by_cases h0 : t < ((ckS lz ++ mo).length : Int)
    · by_cases h3 : cA lz (t + (eE lz mo t (kO al i))) = true
      · by_cases h4 : (DA lz (t + (eE lz mo t (kO al i)))).length = 0
        · exact nxOa_p3 lz mo al t i X hI0 h0 h3 h4
        · exact nxOa_p6 lz mo al t i X hI0 h0 h3 h4
      · by_cases h4 : (DA lz (t + (eE lz mo t (kO al i)))).length = 0
        · by_cases h5 : (eE lz mo t (kO al i)) < (uA lz mo t (kO al i)) - t
          · skip
            obtain ⟨y1, y2, y3, y4, y5, y6, y7, y8⟩ := any_ (l := lz) (i := t) i5 (by omega) (by omega)
            have hNl := nA_lo (l := lz)
            have hn0 : ([] : LB).length = 0 := rfl
            obtain ⟨hm0, hm1, hm2, hkO⟩ := rO i2 i14 i15
            have hsl := ckn (l := lz) (mo := mo)
            obtain ⟨huA, hxl, heA, hpE, z1, z2, z5, z6, hmo, hzt⟩ := rndC (l := lz) (mo := mo) (t := t) (k := (kO al i)) i5 i0 i1 (by omega) (by omega)
            obtain ⟨hw4, hWD, hpN⟩ := brk (l := lz) (mo := mo) (t := t) (k := (kO al i)) i5 i0 i1 (by omega) (by omega) (by assumption)
            have ho : ∀ a' r', (a', r') ∈ hyOa_p21 → HOk (CXOa_1 lz mo al t i X) a' r' := by
              unfold hyOa_p21
              exact hc (kRn (denX rfl)) <|
               hc (kBytesB (bs := ([] : LB)) .nil (denX rfl)) <|
               hc (lnV rfl rfl (by omega)) <|
               hc (ltT rfl rfl (by omega)) <|
               hc (kRlI (isX rfl) (denX rfl) (by first | omega | (simp <;> omega))) <|
               hc (gtcT rfl (by omega)) <|
               hc (kRem (isX rfl) (isX rfl) (denX rfl) (by omega) (by omega) rfl) <|
               hc (kElI (j := (Int.toNat (i % (al.length : Int)))) (isX rfl) (isX rfl) (denX rfl) (by omega) (by omega)) <|
               hc (kConvF (isX rfl) tu3 (denX rfl) (fI64 (by omega) (by omega))) <|
               hc (adC rfl rfl (by omega)) <|
               hc (adX rfl rfl rfl (by omega)) <|
               hc (kMin (isX rfl) (isX rfl) (denX rfl) (by rw [huA, hsl]; try omega)) <|
               hc (mdV rfl rfl rfl rfl (by omega)) <|
               hc (eqcF rfl (by omega)) <|
               hc (adX rfl rfl rfl (by omega)) <|
               hc (lnV rfl rfl (by omega)) <|
               hc (ltT rfl rfl (by omega)) <|
               hnil
            exact lLOa_1 lz mo al t i (tb := tbOa_p21) (L := LOa_p21) rfl (AllOk.lp1 ((tabkOk _ _).hyps ho) (by omega) fi8_at fi8_body (lfCons (lpKnown rfl ⟨0, keyFd, lfOkFd_0 (l := lf720) (h := lh720) lz (xS lz mo t (uA lz mo t (kO al i))) mo t (eE lz mo t (kO al i)) i0 (⟨by omega, by omega⟩) (by omega) i5 i6 xS_P (by omega) (by omega) (by first | assumption | omega) (by first | assumption | (show (DA lz (t + (eE lz mo t (kO al i)))).length = 0; omega)) (1, (0 : Int)) (fdI (by omega) (by omega) i8 i9 i10 i11 i12 i13 (by decide)) rfl (by kernel_rfl) (th0 := [(0, .x 104), (1, .i .i64 (.ofNat 0)), (2, .x 3), (3, .x 4), (4, .x 5)]) (sg0 := [(60, 40)]) (fun X => thXv (v := St' (xS lz mo t (uA lz mo t (kO al i)))) rfl rfl (thCons (show Is _ (.i .i64 (.ofNat 0)) (.int .i64 ((0 : Int))) from isTo (v := .int .i64 0) (isI _ _) (by first | rfl | (congr 1; omega))) (thXe (v := .int .i64 ((wA lz t))) (u := .int .i64 ((wA lz (t + (0 : Int))))) rfl rfl (by rw [hzt]) (thXe (v := .int .i64 ((fA lz t))) (u := .int .i64 ((fA lz (t + (0 : Int))))) rfl rfl (by rw [hzt]) (thXe (v := St' (lnA lz t)) (u := St' (lnA lz (t + (0 : Int)))) rfl rfl (by rw [hzt]) (thNil)))))) (by kernel_rfl) (thx := [(105, .x 0), (106, .x 1), (107, .x 2), (108, .x 3)]) (thXv (v := .int .i64 ((eE lz mo t (kO al i)))) rfl rfl (thXv (v := .int .i64 ((wA lz (t + (eE lz mo t (kO al i)))))) rfl rfl (thXv (v := .int .i64 ((fA lz (t + (eE lz mo t (kO al i)))))) rfl rfl (thXv (v := St' (lnA lz (t + (eE lz mo t (kO al i))))) rfl rfl (thNil))))) (by kernel_rfl)⟩) lfNil)) (lpOk_one lfNil) rfl (thXi (b := ((nA lz))) rfl rfl (by omega) (thXe (v := .int .i64 ((wA lz (t + (eE lz mo t (kO al i)))))) (u := .int .i64 (4)) rfl rfl (congrArg (Value.int .i64) hw4) (thNil))) runOa_p21
          · exact nxOa_p18 lz mo al t i X hI0 h0 h3 h4 h5
        · by_cases h5 : (eE lz mo t (kO al i)) < (uA lz mo t (kO al i)) - t
          · exfalso; obtain ⟨hm0, hm1, hm2, hkO⟩ := rO i2 i14 i15; have hsl := ckn (l := lz) (mo := mo); obtain ⟨hw4, hWD, hpN⟩ := brk (l := lz) (mo := mo) (t := t) (k := (kO al i)) i5 i0 i1 (by omega) (by omega) (by assumption); have hDl := congrArg List.length hWD; have hDz := (by first | assumption | omega : ¬ (DA lz (t + (eE lz mo t (kO al i)))).length = 0); omega
          · exact nxOa_p2 lz mo al t i X hI0 h0 h3 h4 h5
    · skip
      have hsl := ckn (l := lz) (mo := mo)
      have hw4 : wA lz t = 4 := y1.2 (by omega)
      have hWD : DA lz t = lz.flatten := (y2 hw4).1
      refine lvOa_1 lz mo al t i (h := hyOa_p19) rfl ?_ (thXi (b := ((nA lz))) rfl rfl (by omega) (thXe (v := .int .i64 ((wA lz t))) (u := .int .i64 (4)) rfl rfl (congrArg (Value.int .i64) hw4) (thNil))) runOa_p19
      unfold hyOa_p19
      exact hc (kRn (denX rfl)) <|
       hc (kBytesB (bs := ([] : LB)) .nil (denX rfl)) <|
       hc (lnV rfl rfl (by omega)) <|
       hc (ltF rfl rfl (by omega)) <|
       hnil
  · skip
    obtain ⟨y1, y2, y3, y4, y5, y6, y7, y8⟩ := any_ (l := lz) (i := t) i5 (by omega) (by omega)
    have hNl := nA_lo (l := lz)
    have hn0 : ([] : LB).length = 0 := rfl
    by_cases h3 : cA lz (t + (eE lz mo t (kO al i))) = true
    · by_cases h4 : (DA lz (t + (eE lz mo t (kO al i)))).length = 0
      · exact nxOa_p25 lz mo al t i X hI0 h3 h4
      · exact nxOa_p24 lz mo al t i X hI0 h3 h4
    · by_cases h4 : (DA lz (t + (eE lz mo t (kO al i)))).length = 0
      · by_cases h5 : (eE lz mo t (kO al i)) < (uA lz mo t (kO al i)) - t
        · skip
          obtain ⟨y1, y2, y3, y4, y5, y6, y7, y8⟩ := any_ (l := lz) (i := t) i5 (by omega) (by omega)
          have hNl := nA_lo (l := lz)
          have hn0 : ([] : LB).length = 0 := rfl
          have hx4 : ¬ wA lz t = 4 := fun q => by have := (y2 q).2; rw [i11 (by omega)] at this; cases this
          obtain ⟨hm0, hm1, hm2, hkO⟩ := rO i2 i14 i15
          have hsl := ckn (l := lz) (mo := mo)
          obtain ⟨huA, hxl, heA, hpE, z1, z2, z5, z6, hmo, hzt⟩ := rndC (l := lz) (mo := mo) (t := t) (k := (kO al i)) i5 i0 i1 (by omega) (by omega)
          obtain ⟨hw4, hWD, hpN⟩ := brk (l := lz) (mo := mo) (t := t) (k := (kO al i)) i5 i0 i1 (by omega) (by omega) (by assumption)
          have ho : ∀ a' r', (a', r') ∈ hyOa_p22 → HOk (CXOa_2 lz mo al t i X) a' r' := by
            unfold hyOa_p22
            exact hc (kRn (denX rfl)) <|
             hc (kBytesB (bs := ([] : LB)) .nil (denX rfl)) <|
             hc (lnV rfl rfl (by omega)) <|
             hc (ltT rfl rfl (by omega)) <|
             hc (kRlI (isX rfl) (denX rfl) (by first | omega | (simp <;> omega))) <|
             hc (gtcT rfl (by omega)) <|
             hc (kRem (isX rfl) (isX rfl) (denX rfl) (by omega) (by omega) rfl) <|
             hc (kElI (j := (Int.toNat (i % (al.length : Int)))) (isX rfl) (isX rfl) (denX rfl) (by omega) (by omega)) <|
             hc (kConvF (isX rfl) tu3 (denX rfl) (fI64 (by omega) (by omega))) <|
             hc (adC rfl rfl (by omega)) <|
             hc (adX rfl rfl rfl (by omega)) <|
             hc (kMin (isX rfl) (isX rfl) (denX rfl) (by rw [huA, hsl]; try omega)) <|
             hc (mdV rfl rfl rfl rfl (by omega)) <|
             hc (eqcF rfl (by omega)) <|
             hc (adX rfl rfl rfl (by omega)) <|
             hc (lnV rfl rfl (by omega)) <|
             hc (ltT rfl rfl (by omega)) <|
             hnil
          exact lLOa_2 lz mo al t i (tb := tbOa_p22) (L := LOa_p22) rfl (AllOk.lp1 ((tabkOk _ _).hyps ho) (by omega) fi8_at fi8_body (lfCons (lpKnown rfl ⟨0, keyFd, lfOkFd_0 (l := lf721) (h := lh721) lz (xS lz mo t (uA lz mo t (kO al i))) mo t (eE lz mo t (kO al i)) i0 (⟨by omega, by omega⟩) (by omega) i5 i6 xS_P (by omega) (by omega) (by first | assumption | omega) (by first | assumption | (show (DA lz (t + (eE lz mo t (kO al i)))).length = 0; omega)) (2, (0 : Int)) (fdI (by omega) (by omega) i8 i9 i10 i11 i12 i13 (by decide)) rfl (by kernel_rfl) (th0 := [(0, .x 67), (1, .i .i64 (.ofNat 0)), (2, .x 3), (3, .x 4), (4, .x 5)]) (sg0 := [(60, 40)]) (fun X => thXv (v := St' (xS lz mo t (uA lz mo t (kO al i)))) rfl rfl (thCons (show Is _ (.i .i64 (.ofNat 0)) (.int .i64 ((0 : Int))) from isTo (v := .int .i64 0) (isI _ _) (by first | rfl | (congr 1; omega))) (thXe (v := .int .i64 ((wA lz t))) (u := .int .i64 ((wA lz (t + (0 : Int))))) rfl rfl (by rw [hzt]) (thXe (v := .int .i64 ((fA lz t))) (u := .int .i64 ((fA lz (t + (0 : Int))))) rfl rfl (by rw [hzt]) (thXe (v := St' (lnA lz t)) (u := St' (lnA lz (t + (0 : Int)))) rfl rfl (by rw [hzt]) (thNil)))))) (by kernel_rfl) (thx := [(68, .x 0), (69, .x 1), (70, .x 2), (71, .x 3)]) (thXv (v := .int .i64 ((eE lz mo t (kO al i)))) rfl rfl (thXv (v := .int .i64 ((wA lz (t + (eE lz mo t (kO al i)))))) rfl rfl (thXv (v := .int .i64 ((fA lz (t + (eE lz mo t (kO al i)))))) rfl rfl (thXv (v := St' (lnA lz (t + (eE lz mo t (kO al i))))) rfl rfl (thNil))))) (by kernel_rfl)⟩) lfNil)) (lpOk_one lfNil) rfl (thXi (b := ((nA lz))) rfl rfl (by omega) (thXe (v := .int .i64 ((wA lz (t + (eE lz mo t (kO al i)))))) (u := .int .i64 (4)) rfl rfl (congrArg (Value.int .i64) hw4) (thNil))) runOa_p22
        · exact nxOa_p5 lz mo al t i X hI0 h3 h4 h5
      · by_cases h5 : (eE lz mo t (kO al i)) < (uA lz mo t (kO al i)) - t
        · exfalso; obtain ⟨hm0, hm1, hm2, hkO⟩ := rO i2 i14 i15; have hsl := ckn (l := lz) (mo := mo); have hx4 : ¬ wA lz t = 4 := fun q => (by have := (y2 q).2; rw [i11 (by omega)] at this; cases this); obtain ⟨hw4, hWD, hpN⟩ := brk (l := lz) (mo := mo) (t := t) (k := (kO al i)) i5 i0 i1 (by omega) (by omega) (by assumption); have hDl := congrArg List.length hWD; have hDz := (by first | assumption | omega : ¬ (DA lz (t + (eE lz mo t (kO al i)))).length = 0); omega
        · exact nxOa_p4 lz mo al t i X hI0 h3 h4 h5
  · skip
    obtain ⟨y1, y2, y3, y4, y5, y6, y7, y8⟩ := any_ (l := lz) (i := t) i5 (by omega) (by omega)
    have hNl := nA_lo (l := lz)
    have hn0 : ([] : LB).length = 0 := rfl
    by_cases h0 : t < ((ckS lz ++ mo).length : Int)
    · by_cases h3 : cA lz (t + (eE lz mo t (kO al i))) = true
      · exact nxOa_p8 lz mo al t i X hI0 h0 h3
      · by_cases h5 : (eE lz mo t (kO al i)) < (uA lz mo t (kO al i)) - t
        · exfalso; obtain ⟨hm0, hm1, hm2, hkO⟩ := rO i2 i14 i15; have hsl := ckn (l := lz) (mo := mo); obtain ⟨hw4, hWD, hpN⟩ := brk (l := lz) (mo := mo) (t := t) (k := (kO al i)) i5 i0 i1 (by omega) (by omega) (by assumption); have hDl := congrArg List.length hWD; have hDz := (by first | assumption | omega : ¬ (DA lz (t + (eE lz mo t (kO al i)))).length = 0); omega
        · exact nxOa_p7 lz mo al t i X hI0 h0 h3 h5
    · exfalso; have hsl := ckn (l := lz) (mo := mo); have hw4 : wA lz t = 4 := y1.2 (by omega); have hWD : DA lz t = lz.flatten := (y2 hw4).1; have hDl := congrArg List.length hWD; have hDz := (i13 (by omega)); omega
  · skip
    obtain ⟨y1, y2, y3, y4, y5, y6, y7, y8⟩ := any_ (l := lz) (i := t) i5 (by omega) (by omega)
    have hNl := nA_lo (l := lz)
    have hn0 : ([] : LB).length = 0 := rfl
    by_cases h3 : cA lz (t + (eE lz mo t (kO al i))) = true
    · exact nxOa_p9 lz mo al t i X hI0 h3
    · by_cases h5 : (eE lz mo t (kO al i)) < (uA lz mo t (kO al i)) - t
      · exfalso; obtain ⟨hm0, hm1, hm2, hkO⟩ := rO i2 i14 i15; have hsl := ckn (l := lz) (mo := mo); have hx4 : ¬ wA lz t = 4 := fun q => (by have := (y2 q).2; rw [i11 (by omega)] at this; cases this); obtain ⟨hw4, hWD, hpN⟩ := brk (l := lz) (mo := mo) (t := t) (k := (kO al i)) i5 i0 i1 (by omega) (by omega) (by assumption); have hDl := congrArg List.length hWD; have hDz := (by first | assumption | omega : ¬ (DA lz (t + (eE lz mo t (kO al i)))).length = 0); omega
      · exact nxOa_p10 lz mo al t i X hI0 h3 h5
theorem lfOkOa_0 {l : LF} {h : LH} (lz : List LB) (mo : LB) (al : List Int) (x0 : lz.flatten.length = 0) (st : Nat × Int × Int) (hI : InvOa lz mo al st) (hl : l.hp = some h) (hs : lfSame l h 117 keepOa (.exit 2) 4 40 140 = true) {th0 : LA} {sg0 : List (Nat × Nat)} (hth0 : ∀ X, ThOk (cx nu one 3 laidE laidE_stab) (DOa lz mo al st X) th0) (h0 : startOk l h 117 40 42 th0 sg0 (epOa st) (hpOa st) = true) {thx : LA} (hthx : ThOk (EOa_0 lz mo al) (cx nu one 3 laidE laidE_stab) thx) (hx : exitOk l h 117 40 140 thx [(11, .p 30 0), (12, .x 0)] [(30, .b ⟨38, .l [.und, .x 1, .und, .und, .und, .und, .nils], 0, 0, 0, false, false⟩)] = true) : LfOk (cx nu one 3 laidE laidE_stab) bodyOa l :=
  lfOkX (E := EOa_0 lz mo al) (InvOa lz mo al) (muOa lz mo al) (DOa lz mo al) (fun _ _ => rfl) (fun _ _ => rfl) (fun _ _ => rfl) (fun st X t ht => nuX_keep.trans (rX_keep ((by decide : ∀ t, t ∈ keepOa → t < 1000000) t ht))) rfl rfl rfl hl hs ebOa rfl rfl st hI hth0 h0 hthx hx (roundsOa_0 lz mo al x0)
def nuEOa_1 (lz : List LB) (mo : LB) (al : List Int) : List Value := [.int .i64 ((nA lz)), .int .i64 (4), St' (List.flatten lz)]
def roEOa_1 (lz : List LB) (mo : LB) (al : List Int) : List Value := []
noncomputable def EOa_1 (lz : List LB) (mo : LB) (al : List Int) : Cx := cx (nuX (nuEOa_1 lz mo al) (rX (roEOa_1 lz mo al) (fun _ => .bool true))) (nuX_one (nuL_one (l := nuEOa_1 lz mo al) rfl)) 3 laidE laidE_stab
theorem roundsOa_1 (lz : List LB) (mo : LB) (al : List Int) (x0 : ¬ lz.flatten.length = 0) (st : Nat × Int × Int) (X : Nat → Value) (hI : InvOa lz mo al st) : RHOa lz mo al (EOa_1 lz mo al) (.exit 2) [(11, .p 30 0), (12, .x 0)] [(30, .b ⟨38, .l [.und, .x 1, .und, .und, .und, .und, .sy 40], 0, 0, 0, false, false⟩), (40, .t 2 5)] st X := by
  obtain ⟨tag, t, i⟩ := st
  have hI0 := hI
  obtain ⟨i0, i1, i2, i3, i4, i5, i6, i7, i8, i9, i10, i11, i12, i13, i14, i15, i16, it⟩ := unIOa lz mo al tag t i hI
  rcases (show tag = 0 ∨ tag = 1 ∨ tag = 2 ∨ tag = 3 ∨ tag = 4 from by omega) with rfl | rfl | rfl | rfl | rfl
  · skip
    obtain ⟨y1, y2, y3, y4, y5, y6, y7, y8⟩ := any_ (l := lz) (i := t) i5 (by omega) (by omega)
    have hNl := nA_lo (l := lz)
    have hn0 : ([] : LB).length = 0 := rfl
    by_cases h3 : cA lz (t + (eE lz mo t (kO al i))) = true
    · by_cases h4 : (DA lz (t + (eE lz mo t (kO al i)))).length = 0
      · exact nxOa_p17 lz mo al t i X hI0 h3 h4
      · exact nxOa_p23 lz mo al t i X hI0 h3 h4
    · by_cases h4 : (DA lz (t + (eE lz mo t (kO al i)))).length = 0
      · by_cases h5 : (eE lz mo t (kO al i)) < (uA lz mo t (kO al i)) - t
        · exfalso; obtain ⟨hm0, hm1, hm2, hkO⟩ := rO i2 i14 i15; have hsl := ckn (l := lz) (mo := mo); obtain ⟨hw4, hWD, hpN⟩ := brk (l := lz) (mo := mo) (t := t) (k := (kO al i)) i5 i0 i1 (by omega) (by omega) (by assumption); have hDl := congrArg List.length hWD; have hDz := (by first | assumption | omega : (DA lz (t + (eE lz mo t (kO al i)))).length = 0); omega
        · exact nxOa_p1 lz mo al t i X hI0 h3 h4 h5
      · by_cases h5 : (eE lz mo t (kO al i)) < (uA lz mo t (kO al i)) - t
        · skip
          obtain ⟨y1, y2, y3, y4, y5, y6, y7, y8⟩ := any_ (l := lz) (i := t) i5 (by omega) (by omega)
          have hNl := nA_lo (l := lz)
          have hn0 : ([] : LB).length = 0 := rfl
          obtain ⟨hm0, hm1, hm2, hkO⟩ := rO i2 i14 i15
          have hsl := ckn (l := lz) (mo := mo)
          obtain ⟨huA, hxl, heA, hpE, z1, z2, z5, z6, hmo, hzt⟩ := rndC (l := lz) (mo := mo) (t := t) (k := (kO al i)) i5 i0 i1 (by omega) (by omega)
          obtain ⟨hw4, hWD, hpN⟩ := brk (l := lz) (mo := mo) (t := t) (k := (kO al i)) i5 i0 i1 (by omega) (by omega) (by assumption)
          have ho : ∀ a' r', (a', r') ∈ hyOa_p12 → HOk (CXOa_0 lz mo al t i X) a' r' := by
            unfold hyOa_p12
            exact hc (kRn (denX rfl)) <|
             hc (kBytesB (bs := ([] : LB)) .nil (denX rfl)) <|
             hc (lnV rfl rfl (by omega)) <|
             hc (ltT rfl rfl (by omega)) <|
             hc (kRlI (isX rfl) (denX rfl) (by first | omega | (simp <;> omega))) <|
             hc (gtcT rfl (by omega)) <|
             hc (kRem (isX rfl) (isX rfl) (denX rfl) (by omega) (by omega) rfl) <|
             hc (kElI (j := (Int.toNat (i % (al.length : Int)))) (isX rfl) (isX rfl) (denX rfl) (by omega) (by omega)) <|
             hc (kConvF (isX rfl) tu3 (denX rfl) (fI64 (by omega) (by omega))) <|
             hc (adC rfl rfl (by omega)) <|
             hc (adX rfl rfl rfl (by omega)) <|
             hc (kMin (isX rfl) (isX rfl) (denX rfl) (by rw [huA, hsl]; try omega)) <|
             hc (mdV rfl rfl rfl rfl (by omega)) <|
             hc (eqcF rfl (by omega)) <|
             hc (adX rfl rfl rfl (by omega)) <|
             hc (lnV rfl rfl (by omega)) <|
             hc (ltT rfl rfl (by omega)) <|
             hnil
          exact lLOa_0 lz mo al t i (tb := tbOa_p12) (L := LOa_p12) rfl (AllOk.lp1 ((tabkOk _ _).hyps ho) (by omega) fi8_at fi8_body (lfCons (lpKnown rfl ⟨0, keyFd, lfOkFd_2 (l := lf582) (h := lh582) lz (xS lz mo t (uA lz mo t (kO al i))) mo t (eE lz mo t (kO al i)) i0 (⟨by omega, by omega⟩) (by omega) i5 i6 xS_P (by omega) (by omega) (by first | assumption | omega) (by first | assumption | (show ¬ (DA lz (t + (eE lz mo t (kO al i)))).length = 0; omega)) (0, (0 : Int)) (fdI (by omega) (by omega) i8 i9 i10 i11 i12 i13 (by decide)) rfl (by kernel_rfl) (th0 := [(0, .x 49), (1, .i .i64 (.ofNat 0)), (2, .x 3), (3, .x 4)]) (sg0 := []) (fun X => thXv (v := St' (xS lz mo t (uA lz mo t (kO al i)))) rfl rfl (thCons (show Is _ (.i .i64 (.ofNat 0)) (.int .i64 ((0 : Int))) from isTo (v := .int .i64 0) (isI _ _) (by first | rfl | (congr 1; omega))) (thXe (v := .int .i64 ((wA lz t))) (u := .int .i64 ((wA lz (t + (0 : Int))))) rfl rfl (by rw [hzt]) (thXe (v := .int .i64 ((fA lz t))) (u := .int .i64 ((fA lz (t + (0 : Int))))) rfl rfl (by rw [hzt]) (thNil))))) (by kernel_rfl) (thx := [(50, .x 0), (51, .x 1), (52, .x 2), (53, .x 3), (54, .x 4)]) (thXv (v := .int .i64 ((eE lz mo t (kO al i)))) rfl rfl (thXv (v := .int .i64 ((wA lz (t + (eE lz mo t (kO al i)))))) rfl rfl (thXv (v := .int .i64 ((fA lz (t + (eE lz mo t (kO al i)))))) rfl rfl (thXv (v := St' (lnA lz (t + (eE lz mo t (kO al i))))) rfl rfl (thXv (v := St' (DA lz (t + (eE lz mo t (kO al i))))) rfl rfl (thNil)))))) (by kernel_rfl)⟩) lfNil)) (lpOk_one lfNil) rfl (thXi (b := ((nA lz))) rfl rfl (by omega) (thXe (v := .int .i64 ((wA lz (t + (eE lz mo t (kO al i)))))) (u := .int .i64 (4)) rfl rfl (congrArg (Value.int .i64) hw4) (thXe (v := St' (DA lz (t + (eE lz mo t (kO al i))))) (u := St' (List.flatten lz)) rfl rfl (congrArg (fun l => St' l) hWD) (thNil)))) runOa_p12
        · exact nxOa_p0 lz mo al t i X hI0 h3 h4 h5
  · skip
    obtain ⟨y1, y2, y3, y4, y5, y6, y7, y8⟩ := any_ (l := lz) (i := t) i5 (by omega) (by omega)
    have hNl := nA_lo (l := lz)
    have hn0 : ([] : LB).length = 0 := rfl
    by_cases h0 : t < ((ckS lz ++ mo).length : Int)
    · by_cases h3 : cA lz (t + (eE lz mo t (kO al i))) = true
      · by_cases h4 : (DA lz (t + (eE lz mo t (kO al i)))).length = 0
        · exact nxOa_p3 lz mo al t i X hI0 h0 h3 h4
        · exact nxOa_p6 lz mo al t i X hI0 h0 h3 h4
      · by_cases h4 : (DA lz (t + (eE lz mo t (kO al i)))).length = 0
        · by_cases h5 : (eE lz mo t (kO al i)) < (uA lz mo t (kO al i)) - t
          · exfalso; obtain ⟨hm0, hm1, hm2, hkO⟩ := rO i2 i14 i15; have hsl := ckn (l := lz) (mo := mo); obtain ⟨hw4, hWD, hpN⟩ := brk (l := lz) (mo := mo) (t := t) (k := (kO al i)) i5 i0 i1 (by omega) (by omega) (by assumption); have hDl := congrArg List.length hWD; have hDz := (by first | assumption | omega : (DA lz (t + (eE lz mo t (kO al i)))).length = 0); omega
          · exact nxOa_p18 lz mo al t i X hI0 h0 h3 h4 h5
        · by_cases h5 : (eE lz mo t (kO al i)) < (uA lz mo t (kO al i)) - t
          · skip
            obtain ⟨y1, y2, y3, y4, y5, y6, y7, y8⟩ := any_ (l := lz) (i := t) i5 (by omega) (by omega)
            have hNl := nA_lo (l := lz)
            have hn0 : ([] : LB).length = 0 := rfl
            obtain ⟨hm0, hm1, hm2, hkO⟩ := rO i2 i14 i15
            have hsl := ckn (l := lz) (mo := mo)
            obtain ⟨huA, hxl, heA, hpE, z1, z2, z5, z6, hmo, hzt⟩ := rndC (l := lz) (mo := mo) (t := t) (k := (kO al i)) i5 i0 i1 (by omega) (by omega)
            obtain ⟨hw4, hWD, hpN⟩ := brk (l := lz) (mo := mo) (t := t) (k := (kO al i)) i5 i0 i1 (by omega) (by omega) (by assumption)
            have ho : ∀ a' r', (a', r') ∈ hyOa_p13 → HOk (CXOa_1 lz mo al t i X) a' r' := by
              unfold hyOa_p13
              exact hc (kRn (denX rfl)) <|
               hc (kBytesB (bs := ([] : LB)) .nil (denX rfl)) <|
               hc (lnV rfl rfl (by omega)) <|
               hc (ltT rfl rfl (by omega)) <|
               hc (kRlI (isX rfl) (denX rfl) (by first | omega | (simp <;> omega))) <|
               hc (gtcT rfl (by omega)) <|
               hc (kRem (isX rfl) (isX rfl) (denX rfl) (by omega) (by omega) rfl) <|
               hc (kElI (j := (Int.toNat (i % (al.length : Int)))) (isX rfl) (isX rfl) (denX rfl) (by omega) (by omega)) <|
               hc (kConvF (isX rfl) tu3 (denX rfl) (fI64 (by omega) (by omega))) <|
               hc (adC rfl rfl (by omega)) <|
               hc (adX rfl rfl rfl (by omega)) <|
               hc (kMin (isX rfl) (isX rfl) (denX rfl) (by rw [huA, hsl]; try omega)) <|
               hc (mdV rfl rfl rfl rfl (by omega)) <|
               hc (eqcF rfl (by omega)) <|
               hc (adX rfl rfl rfl (by omega)) <|
               hc (lnV rfl rfl (by omega)) <|
               hc (ltT rfl rfl (by omega)) <|
               hnil
            exact lLOa_1 lz mo al t i (tb := tbOa_p13) (L := LOa_p13) rfl (AllOk.lp1 ((tabkOk _ _).hyps ho) (by omega) fi8_at fi8_body (lfCons (lpKnown rfl ⟨0, keyFd, lfOkFd_2 (l := lf585) (h := lh585) lz (xS lz mo t (uA lz mo t (kO al i))) mo t (eE lz mo t (kO al i)) i0 (⟨by omega, by omega⟩) (by omega) i5 i6 xS_P (by omega) (by omega) (by first | assumption | omega) (by first | assumption | (show ¬ (DA lz (t + (eE lz mo t (kO al i)))).length = 0; omega)) (1, (0 : Int)) (fdI (by omega) (by omega) i8 i9 i10 i11 i12 i13 (by decide)) rfl (by kernel_rfl) (th0 := [(0, .x 68), (1, .i .i64 (.ofNat 0)), (2, .x 3), (3, .x 4), (4, .x 5)]) (sg0 := [(60, 40)]) (fun X => thXv (v := St' (xS lz mo t (uA lz mo t (kO al i)))) rfl rfl (thCons (show Is _ (.i .i64 (.ofNat 0)) (.int .i64 ((0 : Int))) from isTo (v := .int .i64 0) (isI _ _) (by first | rfl | (congr 1; omega))) (thXe (v := .int .i64 ((wA lz t))) (u := .int .i64 ((wA lz (t + (0 : Int))))) rfl rfl (by rw [hzt]) (thXe (v := .int .i64 ((fA lz t))) (u := .int .i64 ((fA lz (t + (0 : Int))))) rfl rfl (by rw [hzt]) (thXe (v := St' (lnA lz t)) (u := St' (lnA lz (t + (0 : Int)))) rfl rfl (by rw [hzt]) (thNil)))))) (by kernel_rfl) (thx := [(69, .x 0), (70, .x 1), (71, .x 2), (72, .x 3), (73, .x 4)]) (thXv (v := .int .i64 ((eE lz mo t (kO al i)))) rfl rfl (thXv (v := .int .i64 ((wA lz (t + (eE lz mo t (kO al i)))))) rfl rfl (thXv (v := .int .i64 ((fA lz (t + (eE lz mo t (kO al i)))))) rfl rfl (thXv (v := St' (lnA lz (t + (eE lz mo t (kO al i))))) rfl rfl (thXv (v := St' (DA lz (t + (eE lz mo t (kO al i))))) rfl rfl (thNil)))))) (by kernel_rfl)⟩) lfNil)) (lpOk_one lfNil) rfl (thXi (b := ((nA lz))) rfl rfl (by omega) (thXe (v := .int .i64 ((wA lz (t + (eE lz mo t (kO al i)))))) (u := .int .i64 (4)) rfl rfl (congrArg (Value.int .i64) hw4) (thXe (v := St' (DA lz (t + (eE lz mo t (kO al i))))) (u := St' (List.flatten lz)) rfl rfl (congrArg (fun l => St' l) hWD) (thNil)))) runOa_p13
          · exact nxOa_p2 lz mo al t i X hI0 h0 h3 h4 h5
    · exfalso; have hsl := ckn (l := lz) (mo := mo); have hw4 : wA lz t = 4 := y1.2 (by omega); have hWD : DA lz t = lz.flatten := (y2 hw4).1; have hDl := congrArg List.length hWD; have hDz := (i12 (by omega)); omega
  · skip
    obtain ⟨y1, y2, y3, y4, y5, y6, y7, y8⟩ := any_ (l := lz) (i := t) i5 (by omega) (by omega)
    have hNl := nA_lo (l := lz)
    have hn0 : ([] : LB).length = 0 := rfl
    by_cases h3 : cA lz (t + (eE lz mo t (kO al i))) = true
    · by_cases h4 : (DA lz (t + (eE lz mo t (kO al i)))).length = 0
      · exact nxOa_p25 lz mo al t i X hI0 h3 h4
      · exact nxOa_p24 lz mo al t i X hI0 h3 h4
    · by_cases h4 : (DA lz (t + (eE lz mo t (kO al i)))).length = 0
      · by_cases h5 : (eE lz mo t (kO al i)) < (uA lz mo t (kO al i)) - t
        · exfalso; obtain ⟨hm0, hm1, hm2, hkO⟩ := rO i2 i14 i15; have hsl := ckn (l := lz) (mo := mo); have hx4 : ¬ wA lz t = 4 := fun q => (by have := (y2 q).2; rw [i11 (by omega)] at this; cases this); obtain ⟨hw4, hWD, hpN⟩ := brk (l := lz) (mo := mo) (t := t) (k := (kO al i)) i5 i0 i1 (by omega) (by omega) (by assumption); have hDl := congrArg List.length hWD; have hDz := (by first | assumption | omega : (DA lz (t + (eE lz mo t (kO al i)))).length = 0); omega
        · exact nxOa_p5 lz mo al t i X hI0 h3 h4 h5
      · by_cases h5 : (eE lz mo t (kO al i)) < (uA lz mo t (kO al i)) - t
        · skip
          obtain ⟨y1, y2, y3, y4, y5, y6, y7, y8⟩ := any_ (l := lz) (i := t) i5 (by omega) (by omega)
          have hNl := nA_lo (l := lz)
          have hn0 : ([] : LB).length = 0 := rfl
          have hx4 : ¬ wA lz t = 4 := fun q => by have := (y2 q).2; rw [i11 (by omega)] at this; cases this
          obtain ⟨hm0, hm1, hm2, hkO⟩ := rO i2 i14 i15
          have hsl := ckn (l := lz) (mo := mo)
          obtain ⟨huA, hxl, heA, hpE, z1, z2, z5, z6, hmo, hzt⟩ := rndC (l := lz) (mo := mo) (t := t) (k := (kO al i)) i5 i0 i1 (by omega) (by omega)
          obtain ⟨hw4, hWD, hpN⟩ := brk (l := lz) (mo := mo) (t := t) (k := (kO al i)) i5 i0 i1 (by omega) (by omega) (by assumption)
          have ho : ∀ a' r', (a', r') ∈ hyOa_p14 → HOk (CXOa_2 lz mo al t i X) a' r' := by
            unfold hyOa_p14
            exact hc (kRn (denX rfl)) <|
             hc (kBytesB (bs := ([] : LB)) .nil (denX rfl)) <|
             hc (lnV rfl rfl (by omega)) <|
             hc (ltT rfl rfl (by omega)) <|
             hc (kRlI (isX rfl) (denX rfl) (by first | omega | (simp <;> omega))) <|
             hc (gtcT rfl (by omega)) <|
             hc (kRem (isX rfl) (isX rfl) (denX rfl) (by omega) (by omega) rfl) <|
             hc (kElI (j := (Int.toNat (i % (al.length : Int)))) (isX rfl) (isX rfl) (denX rfl) (by omega) (by omega)) <|
             hc (kConvF (isX rfl) tu3 (denX rfl) (fI64 (by omega) (by omega))) <|
             hc (adC rfl rfl (by omega)) <|
             hc (adX rfl rfl rfl (by omega)) <|
             hc (kMin (isX rfl) (isX rfl) (denX rfl) (by rw [huA, hsl]; try omega)) <|
             hc (mdV rfl rfl rfl rfl (by omega)) <|
             hc (eqcF rfl (by omega)) <|
             hc (adX rfl rfl rfl (by omega)) <|
             hc (lnV rfl rfl (by omega)) <|
             hc (ltT rfl rfl (by omega)) <|
             hnil
          exact lLOa_2 lz mo al t i (tb := tbOa_p14) (L := LOa_p14) rfl (AllOk.lp1 ((tabkOk _ _).hyps ho) (by omega) fi8_at fi8_body (lfCons (lpKnown rfl ⟨0, keyFd, lfOkFd_2 (l := lf588) (h := lh588) lz (xS lz mo t (uA lz mo t (kO al i))) mo t (eE lz mo t (kO al i)) i0 (⟨by omega, by omega⟩) (by omega) i5 i6 xS_P (by omega) (by omega) (by first | assumption | omega) (by first | assumption | (show ¬ (DA lz (t + (eE lz mo t (kO al i)))).length = 0; omega)) (2, (0 : Int)) (fdI (by omega) (by omega) i8 i9 i10 i11 i12 i13 (by decide)) rfl (by kernel_rfl) (th0 := [(0, .x 50), (1, .i .i64 (.ofNat 0)), (2, .x 3), (3, .x 4), (4, .x 5)]) (sg0 := [(60, 40)]) (fun X => thXv (v := St' (xS lz mo t (uA lz mo t (kO al i)))) rfl rfl (thCons (show Is _ (.i .i64 (.ofNat 0)) (.int .i64 ((0 : Int))) from isTo (v := .int .i64 0) (isI _ _) (by first | rfl | (congr 1; omega))) (thXe (v := .int .i64 ((wA lz t))) (u := .int .i64 ((wA lz (t + (0 : Int))))) rfl rfl (by rw [hzt]) (thXe (v := .int .i64 ((fA lz t))) (u := .int .i64 ((fA lz (t + (0 : Int))))) rfl rfl (by rw [hzt]) (thXe (v := St' (lnA lz t)) (u := St' (lnA lz (t + (0 : Int)))) rfl rfl (by rw [hzt]) (thNil)))))) (by kernel_rfl) (thx := [(51, .x 0), (52, .x 1), (53, .x 2), (54, .x 3), (55, .x 4)]) (thXv (v := .int .i64 ((eE lz mo t (kO al i)))) rfl rfl (thXv (v := .int .i64 ((wA lz (t + (eE lz mo t (kO al i)))))) rfl rfl (thXv (v := .int .i64 ((fA lz (t + (eE lz mo t (kO al i)))))) rfl rfl (thXv (v := St' (lnA lz (t + (eE lz mo t (kO al i))))) rfl rfl (thXv (v := St' (DA lz (t + (eE lz mo t (kO al i))))) rfl rfl (thNil)))))) (by kernel_rfl)⟩) lfNil)) (lpOk_one lfNil) rfl (thXi (b := ((nA lz))) rfl rfl (by omega) (thXe (v := .int .i64 ((wA lz (t + (eE lz mo t (kO al i)))))) (u := .int .i64 (4)) rfl rfl (congrArg (Value.int .i64) hw4) (thXe (v := St' (DA lz (t + (eE lz mo t (kO al i))))) (u := St' (List.flatten lz)) rfl rfl (congrArg (fun l => St' l) hWD) (thNil)))) runOa_p14
        · exact nxOa_p4 lz mo al t i X hI0 h3 h4 h5
  · skip
    obtain ⟨y1, y2, y3, y4, y5, y6, y7, y8⟩ := any_ (l := lz) (i := t) i5 (by omega) (by omega)
    have hNl := nA_lo (l := lz)
    have hn0 : ([] : LB).length = 0 := rfl
    by_cases h0 : t < ((ckS lz ++ mo).length : Int)
    · by_cases h3 : cA lz (t + (eE lz mo t (kO al i))) = true
      · exact nxOa_p8 lz mo al t i X hI0 h0 h3
      · by_cases h5 : (eE lz mo t (kO al i)) < (uA lz mo t (kO al i)) - t
        · skip
          obtain ⟨y1, y2, y3, y4, y5, y6, y7, y8⟩ := any_ (l := lz) (i := t) i5 (by omega) (by omega)
          have hNl := nA_lo (l := lz)
          have hn0 : ([] : LB).length = 0 := rfl
          have h13 := i13 (by omega)
          obtain ⟨hm0, hm1, hm2, hkO⟩ := rO i2 i14 i15
          have hsl := ckn (l := lz) (mo := mo)
          obtain ⟨huA, hxl, heA, hpE, z1, z2, z5, z6, hmo, hzt⟩ := rndC (l := lz) (mo := mo) (t := t) (k := (kO al i)) i5 i0 i1 (by omega) (by omega)
          obtain ⟨hw4, hWD, hpN⟩ := brk (l := lz) (mo := mo) (t := t) (k := (kO al i)) i5 i0 i1 (by omega) (by omega) (by assumption)
          have ho : ∀ a' r', (a', r') ∈ hyOa_p15 → HOk (CXOa_3 lz mo al t i X) a' r' := by
            unfold hyOa_p15
            exact hc (kRn (denX rfl)) <|
             hc (kBytesB (bs := ([] : LB)) .nil (denX rfl)) <|
             hc (lnV rfl rfl (by omega)) <|
             hc (ltT rfl rfl (by omega)) <|
             hc (kRlI (isX rfl) (denX rfl) (by first | omega | (simp <;> omega))) <|
             hc (gtcT rfl (by omega)) <|
             hc (kRem (isX rfl) (isX rfl) (denX rfl) (by omega) (by omega) rfl) <|
             hc (kElI (j := (Int.toNat (i % (al.length : Int)))) (isX rfl) (isX rfl) (denX rfl) (by omega) (by omega)) <|
             hc (kConvF (isX rfl) tu3 (denX rfl) (fI64 (by omega) (by omega))) <|
             hc (adC rfl rfl (by omega)) <|
             hc (adX rfl rfl rfl (by omega)) <|
             hc (kMin (isX rfl) (isX rfl) (denX rfl) (by rw [huA, hsl]; try omega)) <|
             hc (mdV rfl rfl rfl rfl (by omega)) <|
             hc (eqcF rfl (by omega)) <|
             hc (adX rfl rfl rfl (by omega)) <|
             hc (lnV rfl rfl (by omega)) <|
             hc (ltT rfl rfl (by omega)) <|
             hnil
          exact lLOa_3 lz mo al t i (tb := tbOa_p15) (L := LOa_p15) rfl (AllOk.lp1 ((tabkOk _ _).hyps ho) (by omega) fi8_at fi8_body (lfCons (lpKnown rfl ⟨0, keyFd, lfOkFd_2 (l := lf594) (h := lh594) lz (xS lz mo t (uA lz mo t (kO al i))) mo t (eE lz mo t (kO al i)) i0 (⟨by omega, by omega⟩) (by omega) i5 i6 xS_P (by omega) (by omega) (by first | assumption | omega) (by first | assumption | (show ¬ (DA lz (t + (eE lz mo t (kO al i)))).length = 0; omega)) (3, (0 : Int)) (fdI (by omega) (by omega) i8 i9 i10 i11 i12 i13 (by decide)) rfl (by kernel_rfl) (th0 := [(0, .x 54), (1, .i .i64 (.ofNat 0)), (2, .x 3), (3, .x 4), (4, .x 5), (5, .x 6)]) (sg0 := [(60, 40), (61, 41)]) (fun X => thXv (v := St' (xS lz mo t (uA lz mo t (kO al i)))) rfl rfl (thCons (show Is _ (.i .i64 (.ofNat 0)) (.int .i64 ((0 : Int))) from isTo (v := .int .i64 0) (isI _ _) (by first | rfl | (congr 1; omega))) (thXe (v := .int .i64 ((wA lz t))) (u := .int .i64 ((wA lz (t + (0 : Int))))) rfl rfl (by rw [hzt]) (thXe (v := .int .i64 ((fA lz t))) (u := .int .i64 ((fA lz (t + (0 : Int))))) rfl rfl (by rw [hzt]) (thXe (v := St' (lnA lz t)) (u := St' (lnA lz (t + (0 : Int)))) rfl rfl (by rw [hzt]) (thXe (v := St' (DA lz t)) (u := St' (DA lz (t + (0 : Int)))) rfl rfl (by rw [hzt]) (thNil))))))) (by kernel_rfl) (thx := [(55, .x 0), (56, .x 1), (57, .x 2), (58, .x 3), (59, .x 4)]) (thXv (v := .int .i64 ((eE lz mo t (kO al i)))) rfl rfl (thXv (v := .int .i64 ((wA lz (t + (eE lz mo t (kO al i)))))) rfl rfl (thXv (v := .int .i64 ((fA lz (t + (eE lz mo t (kO al i)))))) rfl rfl (thXv (v := St' (lnA lz (t + (eE lz mo t (kO al i))))) rfl rfl (thXv (v := St' (DA lz (t + (eE lz mo t (kO al i))))) rfl rfl (thNil)))))) (by kernel_rfl)⟩) lfNil)) (lpOk_one lfNil) rfl (thXi (b := ((nA lz))) rfl rfl (by omega) (thXe (v := .int .i64 ((wA lz (t + (eE lz mo t (kO al i)))))) (u := .int .i64 (4)) rfl rfl (congrArg (Value.int .i64) hw4) (thXe (v := St' (DA lz (t + (eE lz mo t (kO al i))))) (u := St' (List.flatten lz)) rfl rfl (congrArg (fun l => St' l) hWD) (thNil)))) runOa_p15
        · exact nxOa_p7 lz mo al t i X hI0 h0 h3 h5
    · skip
      have hsl := ckn (l := lz) (mo := mo)
      have hw4 : wA lz t = 4 := y1.2 (by omega)
      have hWD : DA lz t = lz.flatten := (y2 hw4).1
      refine lvOa_3 lz mo al t i (h := hyOa_p11) rfl ?_ (thXi (b := ((nA lz))) rfl rfl (by omega) (thXe (v := .int .i64 ((wA lz t))) (u := .int .i64 (4)) rfl rfl (congrArg (Value.int .i64) hw4) (thXe (v := St' (DA lz t)) (u := St' (List.flatten lz)) rfl rfl (congrArg (fun l => St' l) hWD) (thNil)))) runOa_p11
      unfold hyOa_p11
      exact hc (kRn (denX rfl)) <|
       hc (kBytesB (bs := ([] : LB)) .nil (denX rfl)) <|
       hc (lnV rfl rfl (by omega)) <|
       hc (ltF rfl rfl (by omega)) <|
       hnil
  · skip
    obtain ⟨y1, y2, y3, y4, y5, y6, y7, y8⟩ := any_ (l := lz) (i := t) i5 (by omega) (by omega)
    have hNl := nA_lo (l := lz)
    have hn0 : ([] : LB).length = 0 := rfl
    by_cases h3 : cA lz (t + (eE lz mo t (kO al i))) = true
    · exact nxOa_p9 lz mo al t i X hI0 h3
    · by_cases h5 : (eE lz mo t (kO al i)) < (uA lz mo t (kO al i)) - t
      · skip
        obtain ⟨y1, y2, y3, y4, y5, y6, y7, y8⟩ := any_ (l := lz) (i := t) i5 (by omega) (by omega)
        have hNl := nA_lo (l := lz)
        have hn0 : ([] : LB).length = 0 := rfl
        have h13 := i13 (by omega)
        have hx4 : ¬ wA lz t = 4 := fun q => by have := (y2 q).2; rw [i11 (by omega)] at this; cases this
        obtain ⟨hm0, hm1, hm2, hkO⟩ := rO i2 i14 i15
        have hsl := ckn (l := lz) (mo := mo)
        obtain ⟨huA, hxl, heA, hpE, z1, z2, z5, z6, hmo, hzt⟩ := rndC (l := lz) (mo := mo) (t := t) (k := (kO al i)) i5 i0 i1 (by omega) (by omega)
        obtain ⟨hw4, hWD, hpN⟩ := brk (l := lz) (mo := mo) (t := t) (k := (kO al i)) i5 i0 i1 (by omega) (by omega) (by assumption)
        have ho : ∀ a' r', (a', r') ∈ hyOa_p16 → HOk (CXOa_4 lz mo al t i X) a' r' := by
          unfold hyOa_p16
          exact hc (kRn (denX rfl)) <|
           hc (kBytesB (bs := ([] : LB)) .nil (denX rfl)) <|
           hc (lnV rfl rfl (by omega)) <|
           hc (ltT rfl rfl (by omega)) <|
           hc (kRlI (isX rfl) (denX rfl) (by first | omega | (simp <;> omega))) <|
           hc (gtcT rfl (by omega)) <|
           hc (kRem (isX rfl) (isX rfl) (denX rfl) (by omega) (by omega) rfl) <|
           hc (kElI (j := (Int.toNat (i % (al.length : Int)))) (isX rfl) (isX rfl) (denX rfl) (by omega) (by omega)) <|
           hc (kConvF (isX rfl) tu3 (denX rfl) (fI64 (by omega) (by omega))) <|
           hc (adC rfl rfl (by omega)) <|
           hc (adX rfl rfl rfl (by omega)) <|
           hc (kMin (isX rfl) (isX rfl) (denX rfl) (by rw [huA, hsl]; try omega)) <|
           hc (mdV rfl rfl rfl rfl (by omega)) <|
           hc (eqcF rfl (by omega)) <|
           hc (adX rfl rfl rfl (by omega)) <|
           hc (lnV rfl rfl (by omega)) <|
           hc (ltT rfl rfl (by omega)) <|
           hnil
        exact lLOa_4 lz mo al t i (tb := tbOa_p16) (L := LOa_p16) rfl (AllOk.lp1 ((tabkOk _ _).hyps ho) (by omega) fi8_at fi8_body (lfCons (lpKnown rfl ⟨0, keyFd, lfOkFd_2 (l := lf603) (h := lh603) lz (xS lz mo t (uA lz mo t (kO al i))) mo t (eE lz mo t (kO al i)) i0 (⟨by omega, by omega⟩) (by omega) i5 i6 xS_P (by omega) (by omega) (by first | assumption | omega) (by first | assumption | (show ¬ (DA lz (t + (eE lz mo t (kO al i)))).length = 0; omega)) (4, (0 : Int)) (fdI (by omega) (by omega) i8 i9 i10 i11 i12 i13 (by decide)) rfl (by kernel_rfl) (th0 := [(0, .x 52), (1, .i .i64 (.ofNat 0)), (2, .x 3), (3, .x 4), (4, .x 5), (5, .x 6)]) (sg0 := [(60, 40), (61, 41)]) (fun X => thXv (v := St' (xS lz mo t (uA lz mo t (kO al i)))) rfl rfl (thCons (show Is _ (.i .i64 (.ofNat 0)) (.int .i64 ((0 : Int))) from isTo (v := .int .i64 0) (isI _ _) (by first | rfl | (congr 1; omega))) (thXe (v := .int .i64 ((wA lz t))) (u := .int .i64 ((wA lz (t + (0 : Int))))) rfl rfl (by rw [hzt]) (thXe (v := .int .i64 ((fA lz t))) (u := .int .i64 ((fA lz (t + (0 : Int))))) rfl rfl (by rw [hzt]) (thXe (v := St' (lnA lz t)) (u := St' (lnA lz (t + (0 : Int)))) rfl rfl (by rw [hzt]) (thXe (v := St' (DA lz t)) (u := St' (DA lz (t + (0 : Int)))) rfl rfl (by rw [hzt]) (thNil))))))) (by kernel_rfl) (thx := [(53, .x 0), (54, .x 1), (55, .x 2), (56, .x 3), (57, .x 4)]) (thXv (v := .int .i64 ((eE lz mo t (kO al i)))) rfl rfl (thXv (v := .int .i64 ((wA lz (t + (eE lz mo t (kO al i)))))) rfl rfl (thXv (v := .int .i64 ((fA lz (t + (eE lz mo t (kO al i)))))) rfl rfl (thXv (v := St' (lnA lz (t + (eE lz mo t (kO al i))))) rfl rfl (thXv (v := St' (DA lz (t + (eE lz mo t (kO al i))))) rfl rfl (thNil)))))) (by kernel_rfl)⟩) lfNil)) (lpOk_one lfNil) rfl (thXi (b := ((nA lz))) rfl rfl (by omega) (thXe (v := .int .i64 ((wA lz (t + (eE lz mo t (kO al i)))))) (u := .int .i64 (4)) rfl rfl (congrArg (Value.int .i64) hw4) (thXe (v := St' (DA lz (t + (eE lz mo t (kO al i))))) (u := St' (List.flatten lz)) rfl rfl (congrArg (fun l => St' l) hWD) (thNil)))) runOa_p16
      · exact nxOa_p10 lz mo al t i X hI0 h3 h5
theorem lfOkOa_1 {l : LF} {h : LH} (lz : List LB) (mo : LB) (al : List Int) (x0 : ¬ lz.flatten.length = 0) (st : Nat × Int × Int) (hI : InvOa lz mo al st) (hl : l.hp = some h) (hs : lfSame l h 117 keepOa (.exit 2) 4 40 140 = true) {th0 : LA} {sg0 : List (Nat × Nat)} (hth0 : ∀ X, ThOk (cx nu one 3 laidE laidE_stab) (DOa lz mo al st X) th0) (h0 : startOk l h 117 40 42 th0 sg0 (epOa st) (hpOa st) = true) {thx : LA} (hthx : ThOk (EOa_1 lz mo al) (cx nu one 3 laidE laidE_stab) thx) (hx : exitOk l h 117 40 140 thx [(11, .p 30 0), (12, .x 0)] [(30, .b ⟨38, .l [.und, .x 1, .und, .und, .und, .und, .sy 40], 0, 0, 0, false, false⟩), (40, .t 2 5)] = true) : LfOk (cx nu one 3 laidE laidE_stab) bodyOa l :=
  lfOkX (E := EOa_1 lz mo al) (InvOa lz mo al) (muOa lz mo al) (DOa lz mo al) (fun _ _ => rfl) (fun _ _ => rfl) (fun _ _ => rfl) (fun st X t ht => nuX_keep.trans (rX_keep ((by decide : ∀ t, t ∈ keepOa → t < 1000000) t ht))) rfl rfl rfl hl hs ebOa rfl rfl st hI hth0 h0 hthx hx (roundsOa_1 lz mo al x0)
end Go.Proofs.YtamjghigoipbeaaDoor.chunkBack
