/- A part of the proof: what an interpreter answers on partly known states is what the program answers. No condition. -/
import Derived.Test.YtcjanblpboaleaaDoorU1CgiCutsO10
set_option maxRecDepth 100000
set_option linter.unusedVariables false
set_option linter.unusedSimpArgs false
set_option maxHeartbeats 4000000
namespace Go.Proofs.YtcjanblpboaleaaDoor.cgiCuts
open Go Go.AX Go.Proofs Go.Proofs.YtcjanblpboaleaaDoor
variable {nu : Nat → Value} {one : ∀ i, i < 1000000 → (nu i).oneCell' = true} {E' : Cx} {x' : Ex} {e' : LA} {h' : LE}
noncomputable def cy : Code := gi (Tryd.f3.body.getD .skip) 0
theorem yw : gC (di (Tryd.f3.body.getD .skip)) 9 0 0 = true := by kernel_rfl
def cA : List Nat := [5, 7, 8]
def nD : LA := [(0, .x 0), (1, .sr 4), (6, .p 6 0), (9, .s 0 0), (10, .ni), (11, .x 2), (12, .x 1)]
def mw : LE := [(4, .r 2000000 5 1 true), (6, bk 42 [I6 1000, .x 3, .aL, .aL, I6 0, .s 0 0, .aL, .b false, .b false])]
def xR (s : LB) (al : List Int) (t i : Int) : List Value := [St' s, .int .i64 (t), .int .i64 (i), .int .i64 (t), St' ([] : LB), .int .i64 ((s.length : Int)), .int .i64 ((al.length : Int)), .int .i64 (i % (al.length : Int)), .int .u8 (bW al (Int.toNat (i % (al.length : Int)))), .int .i64 ((bW al (Int.toNat (i % (al.length : Int))))), .int .i64 ((bW al (Int.toNat (i % (al.length : Int)))) + 1), .int .i64 ((bW al (Int.toNat (i % (al.length : Int)))) + t + 1), .int .i64 ((uG s t (kO al i))), St' (aD s t (uG s t (kO al i))), St' (aD s t (uG s t (kO al i))), .int .i64 ((t + ((aD s t (uG s t (kO al i))).length : Int))), St' (aC s (t + ((aD s t (uG s t (kO al i))).length : Int))), .int .i64 (i + 1), St' ([] : LB), .int .i64 ((s.length : Int)), .int .i64 ((al.length : Int)), .int .i64 (i % (al.length : Int)), .int .u8 (bW al (Int.toNat (i % (al.length : Int)))), .int .i64 ((bW al (Int.toNat (i % (al.length : Int))))), .int .i64 ((bW al (Int.toNat (i % (al.length : Int)))) + 1), .int .i64 ((bW al (Int.toNat (i % (al.length : Int)))) + t + 1), .int .i64 ((uG s t (kO al i))), St' (aD s t (uG s t (kO al i))), St' (aD s t (uG s t (kO al i))), .int .i64 ((t + ((aD s t (uG s t (kO al i))).length : Int))), St' (aC s (t + ((aD s t (uG s t (kO al i))).length : Int))), .int .i64 (i + 1), St' ([] : LB), .int .i64 ((s.length : Int)), .int .i64 ((al.length : Int)), .int .i64 (i % (al.length : Int)), .int .u8 (bW al (Int.toNat (i % (al.length : Int)))), .int .i64 ((bW al (Int.toNat (i % (al.length : Int))))), .int .i64 ((bW al (Int.toNat (i % (al.length : Int)))) + 1), .int .i64 ((bW al (Int.toNat (i % (al.length : Int)))) + t + 1), .int .i64 ((uG s t (kO al i))), St' (aD s t (uG s t (kO al i))), St' (List.drop (Int.toNat (JS s - t)) (aD s t (uG s t (kO al i)))), .int .i64 ((nS s)), St' (RS s), St' (List.drop (Int.toNat (JS s - t)) (aD s t (uG s t (kO al i)))), .int .i64 (i + 1), St' ([] : LB), .int .i64 ((s.length : Int)), .int .i64 ((al.length : Int)), .int .i64 (i % (al.length : Int)), .int .u8 (bW al (Int.toNat (i % (al.length : Int)))), .int .i64 ((bW al (Int.toNat (i % (al.length : Int))))), .int .i64 ((bW al (Int.toNat (i % (al.length : Int)))) + 1), .int .i64 ((bW al (Int.toNat (i % (al.length : Int)))) + t + 1), .int .i64 ((uG s t (kO al i))), St' (aD s t (uG s t (kO al i))), St' (List.drop (Int.toNat (JS s - t)) (aD s t (uG s t (kO al i)))), .int .i64 ((nS s)), St' (RS s), St' (List.drop (Int.toNat (JS s - t)) (aD s t (uG s t (kO al i)))), .int .i64 (i + 1), St' ([] : LB), .int .i64 ((s.length : Int)), .int .i64 ((al.length : Int)), .int .i64 (i % (al.length : Int)), .int .u8 (bW al (Int.toNat (i % (al.length : Int)))), .int .i64 ((bW al (Int.toNat (i % (al.length : Int))))), .int .i64 ((bW al (Int.toNat (i % (al.length : Int)))) + 1), .int .i64 ((bW al (Int.toNat (i % (al.length : Int)))) + t + 1), .int .i64 ((uG s t (kO al i))), St' (aD s t (uG s t (kO al i))), .int .i64 ((kS s)), St' (mS s), .int .i64 (i + 1), St' ([] : LB), .int .i64 ((s.length : Int))]
def roOa_0 (s : LB) (al : List Int) (t i : Int) : List Value := [cg .u8 al, af ([] : List LB), af ([] : List LB), aN aO (aR s (t + ((aD s t (uG s t (kO al i))).length : Int))), af ([] : List LB), af ([] : List LB), aN aO (DS s), af ([] : List LB), af ([] : List LB)]
def jv : LA := [(0, .x 0), (1, .sr 4), (6, .p 6 0), (9, .s 0 0), (10, .ni), (11, .x 2), (12, .x 1)]
def jg : LE := [(4, .r 2000000 5 1 true), (6, bk 42 [I6 1000, .x 3, .sy 14, .aL, I6 0, .s 0 0, .aL, .b false, .b false]), (14, .t 4 5)]
def xQ (s : LB) (al : List Int) (t i : Int) : List Value := [St' s, .int .i64 (t), .int .i64 (i), .int .i64 (t), St' (aC s t), St' ([] : LB), .int .i64 ((s.length : Int)), .int .i64 ((al.length : Int)), .int .i64 (i % (al.length : Int)), .int .u8 (bW al (Int.toNat (i % (al.length : Int)))), .int .i64 ((bW al (Int.toNat (i % (al.length : Int))))), .int .i64 ((bW al (Int.toNat (i % (al.length : Int)))) + 1), .int .i64 ((bW al (Int.toNat (i % (al.length : Int)))) + t + 1), .int .i64 ((uG s t (kO al i))), St' (aD s t (uG s t (kO al i))), St' (aD s t (uG s t (kO al i))), .int .i64 ((t + ((aD s t (uG s t (kO al i))).length : Int))), St' (aC s (t + ((aD s t (uG s t (kO al i))).length : Int))), .int .i64 (i + 1), St' ([] : LB), .int .i64 ((s.length : Int)), .int .i64 ((al.length : Int)), .int .i64 (i % (al.length : Int)), .int .u8 (bW al (Int.toNat (i % (al.length : Int)))), .int .i64 ((bW al (Int.toNat (i % (al.length : Int))))), .int .i64 ((bW al (Int.toNat (i % (al.length : Int)))) + 1), .int .i64 ((bW al (Int.toNat (i % (al.length : Int)))) + t + 1), .int .i64 ((uG s t (kO al i))), St' (aD s t (uG s t (kO al i))), St' (aD s t (uG s t (kO al i))), .int .i64 ((t + ((aD s t (uG s t (kO al i))).length : Int))), St' (aC s (t + ((aD s t (uG s t (kO al i))).length : Int))), .int .i64 (i + 1), St' ([] : LB), .int .i64 ((s.length : Int)), .int .i64 ((al.length : Int)), .int .i64 (i % (al.length : Int)), .int .u8 (bW al (Int.toNat (i % (al.length : Int)))), .int .i64 ((bW al (Int.toNat (i % (al.length : Int))))), .int .i64 ((bW al (Int.toNat (i % (al.length : Int)))) + 1), .int .i64 ((bW al (Int.toNat (i % (al.length : Int)))) + t + 1), .int .i64 ((uG s t (kO al i))), St' (aD s t (uG s t (kO al i))), St' (List.drop (Int.toNat (JS s - t)) (aD s t (uG s t (kO al i)))), .int .i64 ((nS s)), St' (RS s), St' (List.drop (Int.toNat (JS s - t)) (aD s t (uG s t (kO al i)))), .int .i64 (i + 1), St' ([] : LB), .int .i64 ((s.length : Int)), .int .i64 ((al.length : Int)), .int .i64 (i % (al.length : Int)), .int .u8 (bW al (Int.toNat (i % (al.length : Int)))), .int .i64 ((bW al (Int.toNat (i % (al.length : Int))))), .int .i64 ((bW al (Int.toNat (i % (al.length : Int)))) + 1), .int .i64 ((bW al (Int.toNat (i % (al.length : Int)))) + t + 1), .int .i64 ((uG s t (kO al i))), St' (aD s t (uG s t (kO al i))), St' (List.drop (Int.toNat (JS s - t)) (aD s t (uG s t (kO al i)))), .int .i64 ((nS s)), St' (RS s), St' (List.drop (Int.toNat (JS s - t)) (aD s t (uG s t (kO al i)))), .int .i64 (i + 1), St' ([] : LB), .int .i64 ((s.length : Int)), .int .i64 ((al.length : Int)), .int .i64 (i % (al.length : Int)), .int .u8 (bW al (Int.toNat (i % (al.length : Int)))), .int .i64 ((bW al (Int.toNat (i % (al.length : Int))))), .int .i64 ((bW al (Int.toNat (i % (al.length : Int)))) + 1), .int .i64 ((bW al (Int.toNat (i % (al.length : Int)))) + t + 1), .int .i64 ((uG s t (kO al i))), St' (aD s t (uG s t (kO al i))), .int .i64 ((kS s)), St' (mS s), .int .i64 (i + 1), St' ([] : LB), .int .i64 ((s.length : Int))]
def roOa_1 (s : LB) (al : List Int) (t i : Int) : List Value := [cg .u8 al, af ([] : List LB), af ([] : List LB), aN aO (aR s (t + ((aD s t (uG s t (kO al i))).length : Int))), af ([] : List LB), af ([] : List LB), aN aO (DS s), af ([] : List LB), af ([] : List LB)]
def ju : LA := [(0, .x 0), (1, .sr 4), (6, .p 6 0), (9, .s 0 0), (10, .ni), (11, .x 2), (12, .x 1)]
def jf : LE := [(4, .r 2000000 5 1 true), (6, bk 42 [I6 1000, .x 3, .sy 14, .sr 15, I6 0, .s 0 0, .aL, .b false, .b false]), (14, .t 4 5), (15, .r 2000001 50 2 false)]
def xP (s : LB) (al : List Int) (t i : Int) : List Value := [St' s, .int .i64 (t), .int .i64 (i), .int .i64 (t), St' (aC s t), St' ([] : LB), .int .i64 ((s.length : Int)), .int .i64 ((al.length : Int)), .int .i64 (i % (al.length : Int)), .int .u8 (bW al (Int.toNat (i % (al.length : Int)))), .int .i64 ((bW al (Int.toNat (i % (al.length : Int))))), .int .i64 ((bW al (Int.toNat (i % (al.length : Int)))) + 1), .int .i64 ((bW al (Int.toNat (i % (al.length : Int)))) + t + 1), .int .i64 ((uG s t (kO al i))), St' (aD s t (uG s t (kO al i))), St' (aD s t (uG s t (kO al i))), .int .i64 ((t + ((aD s t (uG s t (kO al i))).length : Int))), St' (aC s (t + ((aD s t (uG s t (kO al i))).length : Int))), .int .i64 (i + 1), St' ([] : LB), .int .i64 ((s.length : Int)), .int .i64 ((al.length : Int)), .int .i64 (i % (al.length : Int)), .int .u8 (bW al (Int.toNat (i % (al.length : Int)))), .int .i64 ((bW al (Int.toNat (i % (al.length : Int))))), .int .i64 ((bW al (Int.toNat (i % (al.length : Int)))) + 1), .int .i64 ((bW al (Int.toNat (i % (al.length : Int)))) + t + 1), .int .i64 ((uG s t (kO al i))), St' (aD s t (uG s t (kO al i))), St' (aD s t (uG s t (kO al i))), .int .i64 ((t + ((aD s t (uG s t (kO al i))).length : Int))), St' (aC s (t + ((aD s t (uG s t (kO al i))).length : Int))), .int .i64 (i + 1), St' ([] : LB), .int .i64 ((s.length : Int)), .int .i64 ((al.length : Int)), .int .i64 (i % (al.length : Int)), .int .u8 (bW al (Int.toNat (i % (al.length : Int)))), .int .i64 ((bW al (Int.toNat (i % (al.length : Int))))), .int .i64 ((bW al (Int.toNat (i % (al.length : Int)))) + 1), .int .i64 ((bW al (Int.toNat (i % (al.length : Int)))) + t + 1), .int .i64 ((uG s t (kO al i))), St' (aD s t (uG s t (kO al i))), St' (List.drop (Int.toNat (JS s - t)) (aD s t (uG s t (kO al i)))), .int .i64 ((nS s)), St' (RS s), St' (List.drop (Int.toNat (JS s - t)) (aD s t (uG s t (kO al i)))), .int .i64 (i + 1), St' ([] : LB), .int .i64 ((s.length : Int)), .int .i64 ((al.length : Int)), .int .i64 (i % (al.length : Int)), .int .u8 (bW al (Int.toNat (i % (al.length : Int)))), .int .i64 ((bW al (Int.toNat (i % (al.length : Int))))), .int .i64 ((bW al (Int.toNat (i % (al.length : Int)))) + 1), .int .i64 ((bW al (Int.toNat (i % (al.length : Int)))) + t + 1), .int .i64 ((uG s t (kO al i))), St' (aD s t (uG s t (kO al i))), St' (List.drop (Int.toNat (JS s - t)) (aD s t (uG s t (kO al i)))), .int .i64 ((nS s)), St' (RS s), St' (List.drop (Int.toNat (JS s - t)) (aD s t (uG s t (kO al i)))), .int .i64 (i + 1), St' ([] : LB), .int .i64 ((s.length : Int)), .int .i64 ((al.length : Int)), .int .i64 (i % (al.length : Int)), .int .u8 (bW al (Int.toNat (i % (al.length : Int)))), .int .i64 ((bW al (Int.toNat (i % (al.length : Int))))), .int .i64 ((bW al (Int.toNat (i % (al.length : Int)))) + 1), .int .i64 ((bW al (Int.toNat (i % (al.length : Int)))) + t + 1), .int .i64 ((uG s t (kO al i))), St' (aD s t (uG s t (kO al i))), .int .i64 ((kS s)), St' (mS s), .int .i64 (i + 1), St' ([] : LB), .int .i64 ((s.length : Int))]
def roOa_2 (s : LB) (al : List Int) (t i : Int) : List Value := [cg .u8 al, aN aO (aR s t), af ([] : List LB), af ([] : List LB), aN aO (aR s (t + ((aD s t (uG s t (kO al i))).length : Int))), af ([] : List LB), af ([] : List LB), aN aO (DS s), af ([] : List LB), af ([] : List LB)]
def qV : LA := [(0, .x 0), (1, .sr 4), (6, .p 6 0), (9, .x 3), (10, .ni), (11, .x 2), (12, .x 1)]
def qE : LE := [(4, .r 2000000 5 1 true), (6, bk 42 [.und, .und, .und, .und, .x 4, .x 5, .aL, .b true, .b false])]
def xO (s : LB) (al : List Int) (t i : Int) : List Value := [St' s, .int .i64 (t), .int .i64 (i), St' (List.drop (Int.toNat (JS s)) (List.take t.toNat s)), .int .i64 ((nS s)), St' (RS s), St' ([] : LB), .int .i64 ((s.length : Int)), .int .i64 ((al.length : Int)), .int .i64 (i % (al.length : Int)), .int .u8 (bW al (Int.toNat (i % (al.length : Int)))), .int .i64 ((bW al (Int.toNat (i % (al.length : Int))))), .int .i64 ((bW al (Int.toNat (i % (al.length : Int)))) + 1), .int .i64 ((bW al (Int.toNat (i % (al.length : Int)))) + t + 1), .int .i64 ((uG s t (kO al i))), St' (aD s t (uG s t (kO al i))), .int .i64 ((uG s t (kO al i)) - t), St' ((List.drop (Int.toNat (JS s)) (List.take t.toNat s)) ++ (aD s t (uG s t (kO al i)))), .int .i64 (i + 1), St' ([] : LB), .int .i64 ((s.length : Int))]
def roOa_3 (s : LB) (al : List Int) (t i : Int) : List Value := [cg .u8 al, af ([] : List LB), af ([] : List LB)]
def qU : LA := [(0, .x 0), (1, .sr 4), (6, .p 6 0), (9, .x 3), (10, .ni), (11, .x 2), (12, .x 1)]
def qD : LE := [(4, .r 2000000 5 1 true), (6, bk 42 [.und, .und, .und, .und, .x 4, .x 5, .sr 15, .b true, .b false]), (15, .r 2000001 50 2 false)]
def xN (s : LB) (al : List Int) (t i : Int) : List Value := [St' s, .int .i64 (t), .int .i64 (i), St' (List.drop (Int.toNat (JS s)) (List.take t.toNat s)), .int .i64 ((nS s)), St' (RS s), St' ([] : LB), .int .i64 ((s.length : Int)), .int .i64 ((al.length : Int)), .int .i64 (i % (al.length : Int)), .int .u8 (bW al (Int.toNat (i % (al.length : Int)))), .int .i64 ((bW al (Int.toNat (i % (al.length : Int))))), .int .i64 ((bW al (Int.toNat (i % (al.length : Int)))) + 1), .int .i64 ((bW al (Int.toNat (i % (al.length : Int)))) + t + 1), .int .i64 ((uG s t (kO al i))), St' (aD s t (uG s t (kO al i))), .int .i64 ((uG s t (kO al i)) - t), St' ((List.drop (Int.toNat (JS s)) (List.take t.toNat s)) ++ (aD s t (uG s t (kO al i)))), .int .i64 (i + 1), St' ([] : LB), .int .i64 ((s.length : Int))]
def roOa_4 (s : LB) (al : List Int) (t i : Int) : List Value := [cg .u8 al, aN aO (DS s), af ([] : List LB), af ([] : List LB)]
def uB : LA := [(0, .x 0), (10, .aZ 63 (.ag [.x 3, .x 4])), (12, .x 1)]
def tM : LE := [(4, .r 2000000 5 1 true)]
def xM (s : LB) (al : List Int) (t i : Int) : List Value := [St' s, .int .i64 (t), .int .i64 (i), .int .i64 ((kS s)), St' (mS s), St' ([] : LB), .int .i64 ((s.length : Int)), St' ([] : LB), .int .i64 ((s.length : Int))]
def roOa_5 (s : LB) (al : List Int) (t i : Int) : List Value := [cg .u8 al, af ([] : List LB), af ([] : List LB)]
def jH (st : Nat × Int × Int) : LA := if st.1 = 0 then nD else if st.1 = 1 then jv else if st.1 = 2 then ju else if st.1 = 3 then qV else if st.1 = 4 then qU else uB
def kQ (st : Nat × Int × Int) : LE := if st.1 = 0 then mw else if st.1 = 1 then jg else if st.1 = 2 then jf else if st.1 = 3 then qE else if st.1 = 4 then qD else tM
def nuOa (s : LB) (al : List Int) (st : Nat × Int × Int) : List Value := if st.1 = 0 then xR s al (st.2.1) (st.2.2) else if st.1 = 1 then xQ s al (st.2.1) (st.2.2) else if st.1 = 2 then xP s al (st.2.1) (st.2.2) else if st.1 = 3 then xO s al (st.2.1) (st.2.2) else if st.1 = 4 then xN s al (st.2.1) (st.2.2) else xM s al (st.2.1) (st.2.2)
def roOa (s : LB) (al : List Int) (st : Nat × Int × Int) : List Value := if st.1 = 0 then roOa_0 s al (st.2.1) (st.2.2) else if st.1 = 1 then roOa_1 s al (st.2.1) (st.2.2) else if st.1 = 2 then roOa_2 s al (st.2.1) (st.2.2) else if st.1 = 3 then roOa_3 s al (st.2.1) (st.2.2) else if st.1 = 4 then roOa_4 s al (st.2.1) (st.2.2) else roOa_5 s al (st.2.1) (st.2.2)
theorem onOa (s : LB) (al : List Int) (st : Nat × Int × Int) : ∀ j, (bA (nuOa s al st) j).oneCell' = true := by
 intro j
 unfold nuOa
 by_cases g0 : st.1 = 0
 ·rw [if_pos g0]; exact aV (l := xR s al (st.2.1) (st.2.2)) rfl j
 rw [if_neg g0]
 by_cases g1 : st.1 = 1
 ·rw [if_pos g1]; exact aV (l := xQ s al (st.2.1) (st.2.2)) rfl j
 rw [if_neg g1]
 by_cases g2 : st.1 = 2
 ·rw [if_pos g2]; exact aV (l := xP s al (st.2.1) (st.2.2)) rfl j
 rw [if_neg g2]
 by_cases g3 : st.1 = 3
 ·rw [if_pos g3]; exact aV (l := xO s al (st.2.1) (st.2.2)) rfl j
 rw [if_neg g3]
 by_cases g4 : st.1 = 4
 ·rw [if_pos g4]; exact aV (l := xN s al (st.2.1) (st.2.2)) rfl j
 rw [if_neg g4]
 exact aV (l := xM s al (st.2.1) (st.2.2)) rfl j
theorem Aa (st : Nat × Int × Int) : (dX (jH st) && ef cA) = true := by
 unfold jH
 by_cases g0 : st.1 = 0
 ·rw [if_pos g0]; rfl
 rw [if_neg g0]
 by_cases g1 : st.1 = 1
 ·rw [if_pos g1]; rfl
 rw [if_neg g1]
 by_cases g2 : st.1 = 2
 ·rw [if_pos g2]; rfl
 rw [if_neg g2]
 by_cases g3 : st.1 = 3
 ·rw [if_pos g3]; rfl
 rw [if_neg g3]
 by_cases g4 : st.1 = 4
 ·rw [if_pos g4]; rfl
 rw [if_neg g4]
 rfl
noncomputable def kp (s : LB) (al : List Int) (st : Nat × Int × Int) (X : Nat → Value) : Cx := cx (bG (nuOa s al st) (rX (roOa s al st) X)) (bJ (onOa s al st)) 1 aH aQ
abbrev CjOa (s : LB) (al : List Int) (tag : Nat) (t i : Int) : Prop := (0 ≤ t) ∧ (t ≤ (s.length : Int)) ∧ (0 ≤ i) ∧ (i ≤ t) ∧ (s.length ≤ 1500) ∧ (tag ≤ 2 → wG s t = 0) ∧ (tag = 0 → t = 0) ∧ (tag = 1 ∨ tag = 2 → 1 ≤ t) ∧ (tag = 1 → aR s t = []) ∧ (tag = 2 → ¬ aR s t = []) ∧ (tag = 3 ∨ tag = 4 → wG s t = 1) ∧ (tag = 3 → DS s = []) ∧ (tag = 4 → ¬ DS s = []) ∧ (tag = 3 ∨ tag = 4 → 0 ≤ JS s ∧ JS s ≤ t) ∧ (tag = 5 → wG s t = 2) ∧ (∀ n, n ∈ al → 0 ≤ n ∧ n ≤ 255) ∧ (1 ≤ al.length) ∧ (al.length ≤ 9223372036854775807) ∧ (tag < 6)
def cv (s : LB) (al : List Int) (st : Nat × Int × Int) : Prop := CjOa s al st.1 (st.2.1) (st.2.2)
theorem eG {s : LB} {al : List Int} {tag : Nat} {t i : Int} (h : CjOa s al tag t i) : cv s al (tag, t, i) := h
theorem eD (s : LB) (al : List Int) (tag : Nat) (t i : Int) (h : cv s al (tag, t, i)) : CjOa s al tag t i := h
def gE (s : LB) (al : List Int) (st : Nat × Int × Int) : Nat := (s.length - (st.2.1).toNat)
abbrev c9 (s : LB) (al : List Int) (E' : Cx) (ex' : Ex) (epx' : LA) (hpx' : LE) (st : Nat × Int × Int) (X : Nat → Value) : Prop := bj E' cy cA 105 ex' 4 14 16 1004 jH kQ epx' hpx' (cv s al) (gE s al) (kp s al) st X
noncomputable abbrev lB (s : LB) (al : List Int) (t i : Int) (X : Nat → Value) : Cx := cx (bG (xR s al t i) (rX (roOa_0 s al t i) X)) (bJ (aV (l := xR s al t i) rfl)) 1 aH aQ
theorem rP {s : LB} {al : List Int} {t i : Int} {X : Nat → Value} {tb : Tab} {L : List LF} (y : Nat × Int × Int) {th : LA} {sg : List (Nat × Nat)} (hall : aq (lB s al t i X) tb) (hlp : bV (lB s al t i X) L cy) (aW : tb.ng = 4) (hy : cv s al y) (lt : gE s al y < gE s al (0, t, i)) (ht : bE (lB s al t i X) (kp s al y X) th) (run : bP (code tb 6000 L cy (bD (bH nD cA) 105) ⟨ae mw .leaf, 16, 0, 0⟩) .normal cA 105 1004 th sg 14 16 (jH y) (kQ y) = true) : c9 s al E' x' e' h' (0, t, i) X :=
 bj.next (tb := tb) (L := L) (f := 6000) y hall hlp aW hy lt ht run
noncomputable abbrev RNOa_0 (h : LK) (x : Ex) (th : LA) (sg : List (Nat × Nat)) (m : Nat) (ep : LA) (hp : LE) : Bool := bP (code (aT h) 6000 [] cy (bD (bH nD cA) 105) ⟨ae mw .leaf, 16, 0, 0⟩) x cA 105 1004 th sg 14 m ep hp
theorem lvOa_0 {s : LB} {al : List Int} {t i : Int} {X : Nat → Value} {h : LK} {th : LA} {sg : List (Nat × Nat)} (hne : cn x' .normal = false) (ho : ∀ a' r', (a', r') ∈ h → aM (lB s al t i X) a' r') (ht : bE (lB s al t i X) E' th) (run : RNOa_0 h x' th sg 1004 e' h' = true) : c9 s al E' x' e' h' (0, t, i) X :=
 bj.leave (tb := aT h) (L := []) (f := 6000) ((ab _ _).hyps ho) (bV.nil _) rfl hne ht run
noncomputable abbrev lA (s : LB) (al : List Int) (t i : Int) (X : Nat → Value) : Cx := cx (bG (xQ s al t i) (rX (roOa_1 s al t i) X)) (bJ (aV (l := xQ s al t i) rfl)) 1 aH aQ
theorem rN {s : LB} {al : List Int} {t i : Int} {X : Nat → Value} {tb : Tab} {L : List LF} (y : Nat × Int × Int) {th : LA} {sg : List (Nat × Nat)} (hall : aq (lA s al t i X) tb) (hlp : bV (lA s al t i X) L cy) (aW : tb.ng = 4) (hy : cv s al y) (lt : gE s al y < gE s al (1, t, i)) (ht : bE (lA s al t i X) (kp s al y X) th) (run : bP (code tb 6000 L cy (bD (bH jv cA) 105) ⟨ae jg .leaf, 16, 0, 0⟩) .normal cA 105 1004 th sg 14 16 (jH y) (kQ y) = true) : c9 s al E' x' e' h' (1, t, i) X :=
 bj.next (tb := tb) (L := L) (f := 6000) y hall hlp aW hy lt ht run
noncomputable abbrev RNOa_1 (h : LK) (x : Ex) (th : LA) (sg : List (Nat × Nat)) (m : Nat) (ep : LA) (hp : LE) : Bool := bP (code (aT h) 6000 [] cy (bD (bH jv cA) 105) ⟨ae jg .leaf, 16, 0, 0⟩) x cA 105 1004 th sg 14 m ep hp
theorem lvOa_1 {s : LB} {al : List Int} {t i : Int} {X : Nat → Value} {h : LK} {th : LA} {sg : List (Nat × Nat)} (hne : cn x' .normal = false) (ho : ∀ a' r', (a', r') ∈ h → aM (lA s al t i X) a' r') (ht : bE (lA s al t i X) E' th) (run : RNOa_1 h x' th sg 1004 e' h' = true) : c9 s al E' x' e' h' (1, t, i) X :=
 bj.leave (tb := aT h) (L := []) (f := 6000) ((ab _ _).hyps ho) (bV.nil _) rfl hne ht run
noncomputable abbrev kz (s : LB) (al : List Int) (t i : Int) (X : Nat → Value) : Cx := cx (bG (xP s al t i) (rX (roOa_2 s al t i) X)) (bJ (aV (l := xP s al t i) rfl)) 1 aH aQ
theorem rM {s : LB} {al : List Int} {t i : Int} {X : Nat → Value} {tb : Tab} {L : List LF} (y : Nat × Int × Int) {th : LA} {sg : List (Nat × Nat)} (hall : aq (kz s al t i X) tb) (hlp : bV (kz s al t i X) L cy) (aW : tb.ng = 4) (hy : cv s al y) (lt : gE s al y < gE s al (2, t, i)) (ht : bE (kz s al t i X) (kp s al y X) th) (run : bP (code tb 6000 L cy (bD (bH ju cA) 105) ⟨ae jf .leaf, 16, 0, 0⟩) .normal cA 105 1004 th sg 14 16 (jH y) (kQ y) = true) : c9 s al E' x' e' h' (2, t, i) X :=
 bj.next (tb := tb) (L := L) (f := 6000) y hall hlp aW hy lt ht run
noncomputable abbrev RNOa_2 (h : LK) (x : Ex) (th : LA) (sg : List (Nat × Nat)) (m : Nat) (ep : LA) (hp : LE) : Bool := bP (code (aT h) 6000 [] cy (bD (bH ju cA) 105) ⟨ae jf .leaf, 16, 0, 0⟩) x cA 105 1004 th sg 14 m ep hp
theorem lvOa_2 {s : LB} {al : List Int} {t i : Int} {X : Nat → Value} {h : LK} {th : LA} {sg : List (Nat × Nat)} (hne : cn x' .normal = false) (ho : ∀ a' r', (a', r') ∈ h → aM (kz s al t i X) a' r') (ht : bE (kz s al t i X) E' th) (run : RNOa_2 h x' th sg 1004 e' h' = true) : c9 s al E' x' e' h' (2, t, i) X :=
 bj.leave (tb := aT h) (L := []) (f := 6000) ((ab _ _).hyps ho) (bV.nil _) rfl hne ht run
noncomputable abbrev BR (s : LB) (al : List Int) (t i : Int) (X : Nat → Value) : Cx := cx (bG (xO s al t i) (rX (roOa_3 s al t i) X)) (bJ (aV (l := xO s al t i) rfl)) 1 aH aQ
noncomputable abbrev A6 (h : LK) (x : Ex) (th : LA) (sg : List (Nat × Nat)) (m : Nat) (ep : LA) (hp : LE) : Bool := bP (code (aT h) 6000 [] cy (bD (bH qV cA) 105) ⟨ae qE .leaf, 16, 0, 0⟩) x cA 105 1004 th sg 14 m ep hp
theorem stOa_3 {s : LB} {al : List Int} {t i : Int} {X : Nat → Value} {h : LK} (y : Nat × Int × Int) {th : LA} {sg : List (Nat × Nat)} (ho : ∀ a' r', (a', r') ∈ h → aM (BR s al t i X) a' r') (hy : cv s al y) (lt : gE s al y < gE s al (3, t, i)) (ht : bE (BR s al t i X) (kp s al y X) th) (run : A6 h .normal th sg 16 (jH y) (kQ y) = true) : c9 s al E' x' e' h' (3, t, i) X :=
 bj.next (tb := aT h) (L := []) (f := 6000) y ((ab _ _).hyps ho) (bV.nil _) rfl hy lt ht run
theorem lvOa_3 {s : LB} {al : List Int} {t i : Int} {X : Nat → Value} {h : LK} {th : LA} {sg : List (Nat × Nat)} (hne : cn x' .normal = false) (ho : ∀ a' r', (a', r') ∈ h → aM (BR s al t i X) a' r') (ht : bE (BR s al t i X) E' th) (run : A6 h x' th sg 1004 e' h' = true) : c9 s al E' x' e' h' (3, t, i) X :=
 bj.leave (tb := aT h) (L := []) (f := 6000) ((ab _ _).hyps ho) (bV.nil _) rfl hne ht run
noncomputable abbrev BQ (s : LB) (al : List Int) (t i : Int) (X : Nat → Value) : Cx := cx (bG (xN s al t i) (rX (roOa_4 s al t i) X)) (bJ (aV (l := xN s al t i) rfl)) 1 aH aQ
noncomputable abbrev A5 (h : LK) (x : Ex) (th : LA) (sg : List (Nat × Nat)) (m : Nat) (ep : LA) (hp : LE) : Bool := bP (code (aT h) 6000 [] cy (bD (bH qU cA) 105) ⟨ae qD .leaf, 16, 0, 0⟩) x cA 105 1004 th sg 14 m ep hp
theorem stOa_4 {s : LB} {al : List Int} {t i : Int} {X : Nat → Value} {h : LK} (y : Nat × Int × Int) {th : LA} {sg : List (Nat × Nat)} (ho : ∀ a' r', (a', r') ∈ h → aM (BQ s al t i X) a' r') (hy : cv s al y) (lt : gE s al y < gE s al (4, t, i)) (ht : bE (BQ s al t i X) (kp s al y X) th) (run : A5 h .normal th sg 16 (jH y) (kQ y) = true) : c9 s al E' x' e' h' (4, t, i) X :=
 bj.next (tb := aT h) (L := []) (f := 6000) y ((ab _ _).hyps ho) (bV.nil _) rfl hy lt ht run
theorem lvOa_4 {s : LB} {al : List Int} {t i : Int} {X : Nat → Value} {h : LK} {th : LA} {sg : List (Nat × Nat)} (hne : cn x' .normal = false) (ho : ∀ a' r', (a', r') ∈ h → aM (BQ s al t i X) a' r') (ht : bE (BQ s al t i X) E' th) (run : A5 h x' th sg 1004 e' h' = true) : c9 s al E' x' e' h' (4, t, i) X :=
 bj.leave (tb := aT h) (L := []) (f := 6000) ((ab _ _).hyps ho) (bV.nil _) rfl hne ht run
noncomputable abbrev CXOa_5 (s : LB) (al : List Int) (t i : Int) (X : Nat → Value) : Cx := cx (bG (xM s al t i) (rX (roOa_5 s al t i) X)) (bJ (aV (l := xM s al t i) rfl)) 1 aH aQ
noncomputable abbrev Gg (h : LK) (x : Ex) (th : LA) (sg : List (Nat × Nat)) (m : Nat) (ep : LA) (hp : LE) : Bool := bP (code (aT h) 6000 [] cy (bD (bH uB cA) 105) ⟨ae tM .leaf, 16, 0, 0⟩) x cA 105 1004 th sg 14 m ep hp
theorem lvOa_5 {s : LB} {al : List Int} {t i : Int} {X : Nat → Value} {h : LK} {th : LA} {sg : List (Nat × Nat)} (hne : cn x' .normal = false) (ho : ∀ a' r', (a', r') ∈ h → aM (CXOa_5 s al t i X) a' r') (ht : bE (CXOa_5 s al t i X) E' th) (run : Gg h x' th sg 1004 e' h' = true) : c9 s al E' x' e' h' (5, t, i) X :=
 bj.leave (tb := aT h) (L := []) (f := 6000) ((ab _ _).hyps ho) (bV.nil _) rfl hne ht run
def EU : LK := [(.len (.x 0), .x 5), (.bin .lss (.x 1) (.x 5), .b true), (.rl (.x 2000000) 1, .x 6), (.bin .gtr (.x 6) (I6 0), .b true), (.bin .rem (.x 2) (.x 6), .x 7), (.el (.x 2000000) (.x 7) 1 0, .x 8), (.conv 3 (.x 8), .x 9), (.bin .add (.x 9) (I6 1), .x 10), (.bin .add (.x 1) (.x 10), .x 11), (.mm false (.x 5) (.x 11), .x 12), (.sub (.x 0) (some (.x 1)) (some (.x 12)), .x 13), (.bin .add (.x 2) (I6 1), .x 17)]
def lh125 : LH := ⟨4, 40, 904, [(6, bk 42 [I6 1000, .x 3, .aL, .aL, I6 0, .s 0 0, .aL, .b false, .b false])], [(6, bk 42 [I6 1000, .x 15, .sy 40, .aL, I6 0, .s 0 0, .aL, .b false, .b false]), (40, .t 16 5)]⟩
def lf125 : LF := ⟨4, 58, [(0, .p 6 0), (1, .x 13), (6, I6 0)], [], (.exit 0), [(0, .p 6 0), (1, .x 14)], some lh125⟩
noncomputable def aQ0 : Tab := bL ((aT EU)) 6 cS [lf125]
def LOa_p0 : List LF := []
theorem runOa_p0 : bP (code aQ0 6000 LOa_p0 cy (bD (bH nD cA) 105) ⟨ae mw .leaf, 16, 0, 0⟩) .normal cA 105 1004 [(0, .x 0), (1, .x 12), (2, .x 17), (3, .x 15), (4, .x 16), (2000000, .x 2000000)] [(14, 40)] 14 16 jv jg = true := by kernel_rfl
def ET : LK := [(.len (.x 0), .x 6), (.bin .lss (.x 1) (.x 6), .b true), (.rl (.x 2000000) 1, .x 7), (.bin .gtr (.x 7) (I6 0), .b true), (.bin .rem (.x 2) (.x 7), .x 8), (.el (.x 2000000) (.x 8) 1 0, .x 9), (.conv 3 (.x 9), .x 10), (.bin .add (.x 10) (I6 1), .x 11), (.bin .add (.x 1) (.x 11), .x 12), (.mm false (.x 6) (.x 12), .x 13), (.sub (.x 0) (some (.x 1)) (some (.x 13)), .x 14), (.bin .add (.x 2) (I6 1), .x 18)]
def lh128 : LH := ⟨4, 40, 904, [(6, bk 42 [I6 1000, .x 3, .sy 14, .aL, I6 0, .s 0 0, .aL, .b false, .b false]), (14, .t 4 5)], [(6, bk 42 [I6 1000, .x 16, .sy 40, .aL, I6 0, .s 0 0, .aL, .b false, .b false]), (40, .t 17 5)]⟩
def lf128 : LF := ⟨4, 58, [(0, .p 6 0), (1, .x 14), (6, I6 0)], [], (.exit 0), [(0, .p 6 0), (1, .x 15)], some lh128⟩
noncomputable def aP9 : Tab := bL ((aT ET)) 6 cS [lf128]
def LOa_p1 : List LF := []
theorem runOa_p1 : bP (code aP9 6000 LOa_p1 cy (bD (bH jv cA) 105) ⟨ae jg .leaf, 16, 0, 0⟩) .normal cA 105 1004 [(0, .x 0), (1, .x 13), (2, .x 18), (3, .x 16), (4, .x 17), (2000000, .x 2000000)] [(14, 40)] 14 16 jv jg = true := by kernel_rfl
def EH : LK := [(.len (.x 0), .x 6), (.bin .lss (.x 1) (.x 6), .b true), (.rl (.x 2000000) 1, .x 7), (.bin .gtr (.x 7) (I6 0), .b true), (.bin .rem (.x 2) (.x 7), .x 8), (.el (.x 2000000) (.x 8) 1 0, .x 9), (.conv 3 (.x 9), .x 10), (.bin .add (.x 10) (I6 1), .x 11), (.bin .add (.x 1) (.x 11), .x 12), (.mm false (.x 6) (.x 12), .x 13), (.sub (.x 0) (some (.x 1)) (some (.x 13)), .x 14), (.bin .add (.x 2) (I6 1), .x 18)]
def lh131 : LH := ⟨4, 40, 904, [(6, bk 42 [I6 1000, .x 3, .sy 14, .sr 15, I6 0, .s 0 0, .aL, .b false, .b false]), (14, .t 4 5), (15, .r 2000001 50 2 false)], [(6, bk 42 [I6 1000, .x 16, .sy 40, .aL, I6 0, .s 0 0, .aL, .b false, .b false]), (40, .t 17 5)]⟩
def lf131 : LF := ⟨4, 58, [(0, .p 6 0), (1, .x 14), (6, I6 0)], [], (.exit 0), [(0, .p 6 0), (1, .x 15)], some lh131⟩
noncomputable def aP8 : Tab := bL ((aT EH)) 6 cS [lf131]
def LOa_p2 : List LF := []
theorem runOa_p2 : bP (code aP8 6000 LOa_p2 cy (bD (bH ju cA) 105) ⟨ae jf .leaf, 16, 0, 0⟩) .normal cA 105 1004 [(0, .x 0), (1, .x 13), (2, .x 18), (3, .x 16), (4, .x 17), (2000000, .x 2000000)] [(14, 40)] 14 16 jv jg = true := by kernel_rfl
def EC : LK := [(.len (.x 0), .x 19), (.bin .lss (.x 1) (.x 19), .b true), (.rl (.x 2000000) 1, .x 20), (.bin .gtr (.x 20) (I6 0), .b true), (.bin .rem (.x 2) (.x 20), .x 21), (.el (.x 2000000) (.x 21) 1 0, .x 22), (.conv 3 (.x 22), .x 23), (.bin .add (.x 23) (I6 1), .x 24), (.bin .add (.x 1) (.x 24), .x 25), (.mm false (.x 19) (.x 25), .x 26), (.sub (.x 0) (some (.x 1)) (some (.x 26)), .x 27), (.bin .add (.x 2) (I6 1), .x 31)]
def lh134 : LH := ⟨4, 40, 904, [(6, bk 42 [I6 1000, .x 3, .aL, .aL, I6 0, .s 0 0, .aL, .b false, .b false])], [(6, bk 42 [I6 1000, .x 29, .sy 40, .sr 41, I6 0, .s 0 0, .aL, .b false, .b false]), (40, .t 30 5), (41, .r 2000003 50 2 false)]⟩
def lf134 : LF := ⟨4, 58, [(0, .p 6 0), (1, .x 27), (6, I6 0)], [], (.exit 0), [(0, .p 6 0), (1, .x 28)], some lh134⟩
noncomputable def aP7 : Tab := bL ((aT EC)) 6 cS [lf134]
def LOa_p3 : List LF := []
theorem runOa_p3 : bP (code aP7 6000 LOa_p3 cy (bD (bH nD cA) 105) ⟨ae mw .leaf, 16, 0, 0⟩) .normal cA 105 1004 [(0, .x 0), (1, .x 26), (2, .x 31), (3, .x 29), (4, .x 30), (2000000, .x 2000000), (2000001, .x 2000003)] [(14, 40), (15, 41)] 14 16 ju jf = true := by kernel_rfl
def EB : LK := [(.len (.x 0), .x 20), (.bin .lss (.x 1) (.x 20), .b true), (.rl (.x 2000000) 1, .x 21), (.bin .gtr (.x 21) (I6 0), .b true), (.bin .rem (.x 2) (.x 21), .x 22), (.el (.x 2000000) (.x 22) 1 0, .x 23), (.conv 3 (.x 23), .x 24), (.bin .add (.x 24) (I6 1), .x 25), (.bin .add (.x 1) (.x 25), .x 26), (.mm false (.x 20) (.x 26), .x 27), (.sub (.x 0) (some (.x 1)) (some (.x 27)), .x 28), (.bin .add (.x 2) (I6 1), .x 32)]
def lh137 : LH := ⟨4, 40, 904, [(6, bk 42 [I6 1000, .x 3, .sy 14, .aL, I6 0, .s 0 0, .aL, .b false, .b false]), (14, .t 4 5)], [(6, bk 42 [I6 1000, .x 30, .sy 40, .sr 41, I6 0, .s 0 0, .aL, .b false, .b false]), (40, .t 31 5), (41, .r 2000003 50 2 false)]⟩
def lf137 : LF := ⟨4, 58, [(0, .p 6 0), (1, .x 28), (6, I6 0)], [], (.exit 0), [(0, .p 6 0), (1, .x 29)], some lh137⟩
noncomputable def aP6 : Tab := bL ((aT EB)) 6 cS [lf137]
def LOa_p4 : List LF := []
theorem runOa_p4 : bP (code aP6 6000 LOa_p4 cy (bD (bH jv cA) 105) ⟨ae jg .leaf, 16, 0, 0⟩) .normal cA 105 1004 [(0, .x 0), (1, .x 27), (2, .x 32), (3, .x 30), (4, .x 31), (2000000, .x 2000000), (2000001, .x 2000003)] [(14, 40), (15, 41)] 14 16 ju jf = true := by kernel_rfl
def EA : LK := [(.len (.x 0), .x 20), (.bin .lss (.x 1) (.x 20), .b true), (.rl (.x 2000000) 1, .x 21), (.bin .gtr (.x 21) (I6 0), .b true), (.bin .rem (.x 2) (.x 21), .x 22), (.el (.x 2000000) (.x 22) 1 0, .x 23), (.conv 3 (.x 23), .x 24), (.bin .add (.x 24) (I6 1), .x 25), (.bin .add (.x 1) (.x 25), .x 26), (.mm false (.x 20) (.x 26), .x 27), (.sub (.x 0) (some (.x 1)) (some (.x 27)), .x 28), (.bin .add (.x 2) (I6 1), .x 32)]
def lh140 : LH := ⟨4, 40, 904, [(6, bk 42 [I6 1000, .x 3, .sy 14, .sr 15, I6 0, .s 0 0, .aL, .b false, .b false]), (14, .t 4 5), (15, .r 2000001 50 2 false)], [(6, bk 42 [I6 1000, .x 30, .sy 40, .sr 41, I6 0, .s 0 0, .aL, .b false, .b false]), (40, .t 31 5), (41, .r 2000004 50 2 false)]⟩
def lf140 : LF := ⟨4, 58, [(0, .p 6 0), (1, .x 28), (6, I6 0)], [], (.exit 0), [(0, .p 6 0), (1, .x 29)], some lh140⟩
noncomputable def aP5 : Tab := bL ((aT EA)) 6 cS [lf140]
def LOa_p5 : List LF := []
theorem runOa_p5 : bP (code aP5 6000 LOa_p5 cy (bD (bH ju cA) 105) ⟨ae jf .leaf, 16, 0, 0⟩) .normal cA 105 1004 [(0, .x 0), (1, .x 27), (2, .x 32), (3, .x 30), (4, .x 31), (2000000, .x 2000000), (2000001, .x 2000004)] [(14, 40), (15, 41)] 14 16 ju jf = true := by kernel_rfl
def D9 : LK := [(.len (.x 0), .x 33), (.bin .lss (.x 1) (.x 33), .b true), (.rl (.x 2000000) 1, .x 34), (.bin .gtr (.x 34) (I6 0), .b true), (.bin .rem (.x 2) (.x 34), .x 35), (.el (.x 2000000) (.x 35) 1 0, .x 36), (.conv 3 (.x 36), .x 37), (.bin .add (.x 37) (I6 1), .x 38), (.bin .add (.x 1) (.x 38), .x 39), (.mm false (.x 33) (.x 39), .x 40), (.sub (.x 0) (some (.x 1)) (some (.x 40)), .x 41), (.bin .add (.s 0 0) (.x 42), .x 45), (.bin .add (.x 2) (I6 1), .x 46)]
def lh143 : LH := ⟨4, 40, 904, [(6, bk 42 [I6 1000, .x 3, .aL, .aL, I6 0, .s 0 0, .aL, .b false, .b false])], [(6, bk 42 [.und, .und, .und, .und, .x 43, .x 44, .aL, .b true, .b false])]⟩
def lf143 : LF := ⟨4, 58, [(0, .p 6 0), (1, .x 41), (6, I6 0)], [], .ret, [(4, .x 42), (5, .ni)], some lh143⟩
noncomputable def aP4 : Tab := bL ((aT D9)) 6 cS [lf143]
def LOa_p6 : List LF := []
theorem runOa_p6 : bP (code aP4 6000 LOa_p6 cy (bD (bH nD cA) 105) ⟨ae mw .leaf, 16, 0, 0⟩) .normal cA 105 1004 [(0, .x 0), (1, .x 40), (2, .x 46), (3, .x 45), (4, .x 43), (5, .x 44), (2000000, .x 2000000)] [] 14 16 qV qE = true := by kernel_rfl
def D8 : LK := [(.len (.x 0), .x 34), (.bin .lss (.x 1) (.x 34), .b true), (.rl (.x 2000000) 1, .x 35), (.bin .gtr (.x 35) (I6 0), .b true), (.bin .rem (.x 2) (.x 35), .x 36), (.el (.x 2000000) (.x 36) 1 0, .x 37), (.conv 3 (.x 37), .x 38), (.bin .add (.x 38) (I6 1), .x 39), (.bin .add (.x 1) (.x 39), .x 40), (.mm false (.x 34) (.x 40), .x 41), (.sub (.x 0) (some (.x 1)) (some (.x 41)), .x 42), (.bin .add (.s 0 0) (.x 43), .x 46), (.bin .add (.x 2) (I6 1), .x 47)]
def lh146 : LH := ⟨4, 40, 904, [(6, bk 42 [I6 1000, .x 3, .sy 14, .aL, I6 0, .s 0 0, .aL, .b false, .b false]), (14, .t 4 5)], [(6, bk 42 [.und, .und, .und, .und, .x 44, .x 45, .aL, .b true, .b false])]⟩
def lf146 : LF := ⟨4, 58, [(0, .p 6 0), (1, .x 42), (6, I6 0)], [], .ret, [(4, .x 43), (5, .ni)], some lh146⟩
noncomputable def aP3 : Tab := bL ((aT D8)) 6 cS [lf146]
def LOa_p7 : List LF := []
theorem runOa_p7 : bP (code aP3 6000 LOa_p7 cy (bD (bH jv cA) 105) ⟨ae jg .leaf, 16, 0, 0⟩) .normal cA 105 1004 [(0, .x 0), (1, .x 41), (2, .x 47), (3, .x 46), (4, .x 44), (5, .x 45), (2000000, .x 2000000)] [] 14 16 qV qE = true := by kernel_rfl
def D7 : LK := [(.len (.x 0), .x 34), (.bin .lss (.x 1) (.x 34), .b true), (.rl (.x 2000000) 1, .x 35), (.bin .gtr (.x 35) (I6 0), .b true), (.bin .rem (.x 2) (.x 35), .x 36), (.el (.x 2000000) (.x 36) 1 0, .x 37), (.conv 3 (.x 37), .x 38), (.bin .add (.x 38) (I6 1), .x 39), (.bin .add (.x 1) (.x 39), .x 40), (.mm false (.x 34) (.x 40), .x 41), (.sub (.x 0) (some (.x 1)) (some (.x 41)), .x 42), (.bin .add (.s 0 0) (.x 43), .x 46), (.bin .add (.x 2) (I6 1), .x 47)]
def lh149 : LH := ⟨4, 40, 904, [(6, bk 42 [I6 1000, .x 3, .sy 14, .sr 15, I6 0, .s 0 0, .aL, .b false, .b false]), (14, .t 4 5), (15, .r 2000001 50 2 false)], [(6, bk 42 [.und, .und, .und, .und, .x 44, .x 45, .aL, .b true, .b false])]⟩
def lf149 : LF := ⟨4, 58, [(0, .p 6 0), (1, .x 42), (6, I6 0)], [], .ret, [(4, .x 43), (5, .ni)], some lh149⟩
noncomputable def aP2 : Tab := bL ((aT D7)) 6 cS [lf149]
def LOa_p8 : List LF := []
theorem runOa_p8 : bP (code aP2 6000 LOa_p8 cy (bD (bH ju cA) 105) ⟨ae jf .leaf, 16, 0, 0⟩) .normal cA 105 1004 [(0, .x 0), (1, .x 41), (2, .x 47), (3, .x 46), (4, .x 44), (5, .x 45), (2000000, .x 2000000)] [] 14 16 qV qE = true := by kernel_rfl
def D6 : LK := [(.len (.x 0), .x 48), (.bin .lss (.x 1) (.x 48), .b true), (.rl (.x 2000000) 1, .x 49), (.bin .gtr (.x 49) (I6 0), .b true), (.bin .rem (.x 2) (.x 49), .x 50), (.el (.x 2000000) (.x 50) 1 0, .x 51), (.conv 3 (.x 51), .x 52), (.bin .add (.x 52) (I6 1), .x 53), (.bin .add (.x 1) (.x 53), .x 54), (.mm false (.x 48) (.x 54), .x 55), (.sub (.x 0) (some (.x 1)) (some (.x 55)), .x 56), (.bin .add (.s 0 0) (.x 57), .x 60), (.bin .add (.x 2) (I6 1), .x 61)]
def lh152 : LH := ⟨4, 40, 904, [(6, bk 42 [I6 1000, .x 3, .aL, .aL, I6 0, .s 0 0, .aL, .b false, .b false])], [(6, bk 42 [.und, .und, .und, .und, .x 58, .x 59, .sr 41, .b true, .b false]), (41, .r 2000006 50 2 false)]⟩
def lf152 : LF := ⟨4, 58, [(0, .p 6 0), (1, .x 56), (6, I6 0)], [], .ret, [(4, .x 57), (5, .ni)], some lh152⟩
noncomputable def aP1 : Tab := bL ((aT D6)) 6 cS [lf152]
def LOa_p9 : List LF := []
theorem runOa_p9 : bP (code aP1 6000 LOa_p9 cy (bD (bH nD cA) 105) ⟨ae mw .leaf, 16, 0, 0⟩) .normal cA 105 1004 [(0, .x 0), (1, .x 55), (2, .x 61), (3, .x 60), (4, .x 58), (5, .x 59), (2000000, .x 2000000), (2000001, .x 2000006)] [(15, 41)] 14 16 qU qD = true := by kernel_rfl
def ES : LK := [(.len (.x 0), .x 49), (.bin .lss (.x 1) (.x 49), .b true), (.rl (.x 2000000) 1, .x 50), (.bin .gtr (.x 50) (I6 0), .b true), (.bin .rem (.x 2) (.x 50), .x 51), (.el (.x 2000000) (.x 51) 1 0, .x 52), (.conv 3 (.x 52), .x 53), (.bin .add (.x 53) (I6 1), .x 54), (.bin .add (.x 1) (.x 54), .x 55), (.mm false (.x 49) (.x 55), .x 56), (.sub (.x 0) (some (.x 1)) (some (.x 56)), .x 57), (.bin .add (.s 0 0) (.x 58), .x 61), (.bin .add (.x 2) (I6 1), .x 62)]
def lh155 : LH := ⟨4, 40, 904, [(6, bk 42 [I6 1000, .x 3, .sy 14, .aL, I6 0, .s 0 0, .aL, .b false, .b false]), (14, .t 4 5)], [(6, bk 42 [.und, .und, .und, .und, .x 59, .x 60, .sr 41, .b true, .b false]), (41, .r 2000006 50 2 false)]⟩
def lf155 : LF := ⟨4, 58, [(0, .p 6 0), (1, .x 57), (6, I6 0)], [], .ret, [(4, .x 58), (5, .ni)], some lh155⟩
noncomputable def aH9 : Tab := bL ((aT ES)) 6 cS [lf155]
def aZ3 : List LF := []
theorem runOa_p10 : bP (code aH9 6000 aZ3 cy (bD (bH jv cA) 105) ⟨ae jg .leaf, 16, 0, 0⟩) .normal cA 105 1004 [(0, .x 0), (1, .x 56), (2, .x 62), (3, .x 61), (4, .x 59), (5, .x 60), (2000000, .x 2000000), (2000001, .x 2000006)] [(15, 41)] 14 16 qU qD = true := by kernel_rfl
def ER : LK := [(.len (.x 0), .x 49), (.bin .lss (.x 1) (.x 49), .b true), (.rl (.x 2000000) 1, .x 50), (.bin .gtr (.x 50) (I6 0), .b true), (.bin .rem (.x 2) (.x 50), .x 51), (.el (.x 2000000) (.x 51) 1 0, .x 52), (.conv 3 (.x 52), .x 53), (.bin .add (.x 53) (I6 1), .x 54), (.bin .add (.x 1) (.x 54), .x 55), (.mm false (.x 49) (.x 55), .x 56), (.sub (.x 0) (some (.x 1)) (some (.x 56)), .x 57), (.bin .add (.s 0 0) (.x 58), .x 61), (.bin .add (.x 2) (I6 1), .x 62)]
def lh158 : LH := ⟨4, 40, 904, [(6, bk 42 [I6 1000, .x 3, .sy 14, .sr 15, I6 0, .s 0 0, .aL, .b false, .b false]), (14, .t 4 5), (15, .r 2000001 50 2 false)], [(6, bk 42 [.und, .und, .und, .und, .x 59, .x 60, .sr 41, .b true, .b false]), (41, .r 2000007 50 2 false)]⟩
def lf158 : LF := ⟨4, 58, [(0, .p 6 0), (1, .x 57), (6, I6 0)], [], .ret, [(4, .x 58), (5, .ni)], some lh158⟩
noncomputable def aH8 : Tab := bL ((aT ER)) 6 cS [lf158]
def aZ2 : List LF := []
theorem runOa_p11 : bP (code aH8 6000 aZ2 cy (bD (bH ju cA) 105) ⟨ae jf .leaf, 16, 0, 0⟩) .normal cA 105 1004 [(0, .x 0), (1, .x 56), (2, .x 62), (3, .x 61), (4, .x 59), (5, .x 60), (2000000, .x 2000000), (2000001, .x 2000007)] [(15, 41)] 14 16 qU qD = true := by kernel_rfl
def EP : LK := [(.len (.x 0), .x 63), (.bin .lss (.x 1) (.x 63), .b true), (.rl (.x 2000000) 1, .x 64), (.bin .gtr (.x 64) (I6 0), .b true), (.bin .rem (.x 2) (.x 64), .x 65), (.el (.x 2000000) (.x 65) 1 0, .x 66), (.conv 3 (.x 66), .x 67), (.bin .add (.x 67) (I6 1), .x 68), (.bin .add (.x 1) (.x 68), .x 69), (.mm false (.x 63) (.x 69), .x 70), (.sub (.x 0) (some (.x 1)) (some (.x 70)), .x 71), (.bin .add (.x 2) (I6 1), .x 74)]
def lh161 : LH := ⟨4, 40, 904, [(6, bk 42 [I6 1000, .x 3, .aL, .aL, I6 0, .s 0 0, .aL, .b false, .b false])], []⟩
def lf161 : LF := ⟨4, 58, [(0, .p 6 0), (1, .x 71), (6, I6 0)], [], .ret, [(4, .s 0 0), (5, .aZ 63 (.ag [.x 72, .x 73]))], some lh161⟩
noncomputable def aH7 : Tab := bL ((aT EP)) 6 cS [lf161]
def aZ1 : List LF := []
theorem runOa_p12 : bP (code aH7 6000 aZ1 cy (bD (bH nD cA) 105) ⟨ae mw .leaf, 16, 0, 0⟩) .normal cA 105 1004 [(0, .x 0), (1, .x 70), (3, .x 72), (4, .x 73), (2000000, .x 2000000)] [] 14 16 uB tM = true := by kernel_rfl
def EO : LK := [(.len (.x 0), .x 64), (.bin .lss (.x 1) (.x 64), .b true), (.rl (.x 2000000) 1, .x 65), (.bin .gtr (.x 65) (I6 0), .b true), (.bin .rem (.x 2) (.x 65), .x 66), (.el (.x 2000000) (.x 66) 1 0, .x 67), (.conv 3 (.x 67), .x 68), (.bin .add (.x 68) (I6 1), .x 69), (.bin .add (.x 1) (.x 69), .x 70), (.mm false (.x 64) (.x 70), .x 71), (.sub (.x 0) (some (.x 1)) (some (.x 71)), .x 72), (.bin .add (.x 2) (I6 1), .x 75)]
def lh164 : LH := ⟨4, 40, 904, [(6, bk 42 [I6 1000, .x 3, .sy 14, .aL, I6 0, .s 0 0, .aL, .b false, .b false]), (14, .t 4 5)], []⟩
def lf164 : LF := ⟨4, 58, [(0, .p 6 0), (1, .x 72), (6, I6 0)], [], .ret, [(4, .s 0 0), (5, .aZ 63 (.ag [.x 73, .x 74]))], some lh164⟩
noncomputable def aH6 : Tab := bL ((aT EO)) 6 cS [lf164]
def aZ0 : List LF := []
theorem runOa_p13 : bP (code aH6 6000 aZ0 cy (bD (bH jv cA) 105) ⟨ae jg .leaf, 16, 0, 0⟩) .normal cA 105 1004 [(0, .x 0), (1, .x 71), (3, .x 73), (4, .x 74), (2000000, .x 2000000)] [] 14 16 uB tM = true := by kernel_rfl
def EN : LK := [(.len (.x 0), .x 64), (.bin .lss (.x 1) (.x 64), .b true), (.rl (.x 2000000) 1, .x 65), (.bin .gtr (.x 65) (I6 0), .b true), (.bin .rem (.x 2) (.x 65), .x 66), (.el (.x 2000000) (.x 66) 1 0, .x 67), (.conv 3 (.x 67), .x 68), (.bin .add (.x 68) (I6 1), .x 69), (.bin .add (.x 1) (.x 69), .x 70), (.mm false (.x 64) (.x 70), .x 71), (.sub (.x 0) (some (.x 1)) (some (.x 71)), .x 72), (.bin .add (.x 2) (I6 1), .x 75)]
def lh167 : LH := ⟨4, 40, 904, [(6, bk 42 [I6 1000, .x 3, .sy 14, .sr 15, I6 0, .s 0 0, .aL, .b false, .b false]), (14, .t 4 5), (15, .r 2000001 50 2 false)], []⟩
def lf167 : LF := ⟨4, 58, [(0, .p 6 0), (1, .x 72), (6, I6 0)], [], .ret, [(4, .s 0 0), (5, .aZ 63 (.ag [.x 73, .x 74]))], some lh167⟩
noncomputable def aH5 : Tab := bL ((aT EN)) 6 cS [lf167]
def aY9 : List LF := []
theorem runOa_p14 : bP (code aH5 6000 aY9 cy (bD (bH ju cA) 105) ⟨ae jf .leaf, 16, 0, 0⟩) .normal cA 105 1004 [(0, .x 0), (1, .x 71), (3, .x 73), (4, .x 74), (2000000, .x 2000000)] [] 14 16 uB tM = true := by kernel_rfl
def EM : LK := [(.len (.x 0), .x 76), (.bin .lss (.x 1) (.x 76), .b false)]
theorem runOa_p15 : RNOa_0 EM (.exit 0) [] [] 1004 [(6, .p 6 0), (9, .s 0 0), (10, .ni)] [(6, bk 42 [.und, .und, .und, .und, .und, .und, .und, .b false, .b false])] = true := by kernel_rfl
def EL : LK := [(.len (.x 0), .x 77), (.bin .lss (.x 1) (.x 77), .b false)]
theorem runOa_p16 : RNOa_1 EL (.exit 0) [] [] 1004 [(6, .p 6 0), (9, .s 0 0), (10, .ni)] [(6, bk 42 [.und, .und, .und, .und, .und, .und, .und, .b false, .b false])] = true := by kernel_rfl
def EK : LK := [(.len (.x 0), .x 77), (.bin .lss (.x 1) (.x 77), .b false)]
theorem runOa_p17 : RNOa_2 EK (.exit 0) [] [] 1004 [(6, .p 6 0), (9, .s 0 0), (10, .ni)] [(6, bk 42 [.und, .und, .und, .und, .und, .und, .und, .b false, .b false])] = true := by kernel_rfl
def EJ : LK := [(.len (.x 0), .x 7), (.bin .lss (.x 1) (.x 7), .b true), (.rl (.x 2000000) 1, .x 8), (.bin .gtr (.x 8) (I6 0), .b true), (.bin .rem (.x 2) (.x 8), .x 9), (.el (.x 2000000) (.x 9) 1 0, .x 10), (.conv 3 (.x 10), .x 11), (.bin .add (.x 11) (I6 1), .x 12), (.bin .add (.x 1) (.x 12), .x 13), (.mm false (.x 7) (.x 13), .x 14), (.sub (.x 0) (some (.x 1)) (some (.x 14)), .x 15), (.len (.x 15), .x 16), (.bin .lss (I6 0) (.x 16), .b true), (.bin .add (.x 3) (.x 15), .x 17), (.bin .add (.x 2) (I6 1), .x 18)]
theorem runOa_p18 : A6 EJ .normal [(0, .x 0), (1, .x 14), (2, .x 18), (3, .x 17), (4, .x 4), (5, .x 5), (2000000, .x 2000000)] [] 16 qV qE = true := by kernel_rfl
def EI : LK := [(.len (.x 0), .x 20), (.bin .lss (.x 1) (.x 20), .b false)]
theorem runOa_p19 : A6 EI (.exit 0) [(0, .x 3), (1, .x 4), (2, .x 5)] [] 1004 [(6, .p 6 0), (9, .x 0), (10, .ni)] [(6, bk 42 [.und, .und, .und, .und, .x 1, .x 2, .aL, .b true, .b false])] = true := by kernel_rfl
def EG : LK := [(.len (.x 0), .x 7), (.bin .lss (.x 1) (.x 7), .b true), (.rl (.x 2000000) 1, .x 8), (.bin .gtr (.x 8) (I6 0), .b true), (.bin .rem (.x 2) (.x 8), .x 9), (.el (.x 2000000) (.x 9) 1 0, .x 10), (.conv 3 (.x 10), .x 11), (.bin .add (.x 11) (I6 1), .x 12), (.bin .add (.x 1) (.x 12), .x 13), (.mm false (.x 7) (.x 13), .x 14), (.sub (.x 0) (some (.x 1)) (some (.x 14)), .x 15), (.len (.x 15), .x 16), (.bin .lss (I6 0) (.x 16), .b true), (.bin .add (.x 3) (.x 15), .x 17), (.bin .add (.x 2) (I6 1), .x 18)]
theorem runOa_p20 : A5 EG .normal [(0, .x 0), (1, .x 14), (2, .x 18), (3, .x 17), (4, .x 4), (5, .x 5), (2000000, .x 2000000), (2000001, .x 2000001)] [(15, 15)] 16 qU qD = true := by kernel_rfl
def EF : LK := [(.len (.x 0), .x 20), (.bin .lss (.x 1) (.x 20), .b false)]
theorem runOa_p21 : A5 EF (.exit 0) [(0, .x 3), (1, .x 4), (2, .x 5), (2000000, .x 2000001)] [(15, 15)] 1004 [(6, .p 6 0), (9, .x 0), (10, .ni)] [(6, bk 42 [.und, .und, .und, .und, .x 1, .x 2, .sr 15, .b true, .b false]), (15, .r 2000000 50 2 false)] = true := by kernel_rfl
def EE : LK := [(.len (.x 0), .x 6), (.bin .lss (.x 1) (.x 6), .b true)]
theorem runOa_p22 : Gg EE (.exit 0) [(0, .x 3), (1, .x 4)] [] 1004 [(10, .aZ 63 (.ag [.x 0, .x 1]))] [] = true := by kernel_rfl
def ED : LK := [(.len (.x 0), .x 8), (.bin .lss (.x 1) (.x 8), .b false)]
theorem runOa_p23 : Gg ED (.exit 0) [(0, .x 3), (1, .x 4)] [] 1004 [(10, .aZ 63 (.ag [.x 0, .x 1]))] [] = true := by kernel_rfl
section
variable {s : LB} {al : List Int} {t i : Int} {X : Nat → Value}
theorem wX (hI : cv s al (0, t, i)) (h0 : t < (s.length : Int)) (h2 : wG s (t + ((aD s t (uG s t (kO al i))).length : Int)) = 0) (h3 : aR s (t + ((aD s t (uG s t (kO al i))).length : Int)) = []) : c9 s al E' x' e' h' (0, t, i) X := by
 obtain ⟨i0, i1, i2, i3, i4, i5, i6, i7, i8, i9, cI, i11, i12, cM, cH, cG, i16, i17, it⟩ := eD s al 0 t i hI
 have hn0 := hN0
 obtain ⟨hm0, hm1, hm2, fp⟩ := rO i2 cG i16
 obtain ⟨bf, hpc, bn, bF, hw2, hdl⟩ := cj (k := (kO al i)) i0 (by assumption) i4 (by omega)
 have bd := wA (s := s) (w := 0) bF (by omega)
 have ho : ∀ a' r', (a', r') ∈ EU → aM (lB s al t i X) a' r' := by
  unfold EU
  exact hc av <|hc bU <|hc (fP (aA rfl) (aG rfl) (by first | omega | (simp <;> omega))) <|hc cZ <|hc (fR (aA rfl) (aA rfl) (aG rfl) (by omega) (by omega) rfl) <|hc (fS (j := (Int.toNat (i % (al.length : Int)))) (aA rfl) (aA rfl) (aG rfl) (by omega) (by omega)) <|hc (fT (aA rfl) fM (aG rfl) (eS (by omega) (by omega))) <|hc au <|hc fG <|hc (cm (aA rfl) (aA rfl) (aG rfl) (by rw [bf]; try omega)) <|hc ck <|hc au <|hnil
 exact rP (tb := aQ0) (L := LOa_p0) (1, (uG s t (kO al i)), (i + 1)) (aq.bz ((ab _ _).hyps ho) (by omega) cY cX (bK (bx rfl ⟨0, cW, bI.use (l := lf125) (h := lh125) (pe 6 s (aD s t (uG s t (kO al i))) t (by omega) (by omega) (by omega) bn (by decide) (by assumption) (⟨by assumption, by omega⟩)) (0, (0 : Int)) (dI (by omega) (by omega) i5 i6 i7 i8 i9 (by decide)) rfl (by kernel_rfl) (ao := [(0, .x 13), (1, I6 0), (2, .x 3)]) (ai := []) (fun X => aB (v := St' (aD s t (uG s t (kO al i)))) (ad bS (ah (v := .int .i64 (t)) (u := .int .i64 ((t + (0 : Int)))) rfl rfl (by rw [bm]) (aI)))) (by kernel_rfl) (ak := [(14, .x 0), (15, .x 1), (16, .x 2)]) (aB (v := St' (aD s t (uG s t (kO al i)))) (aB (v := .int .i64 ((t + ((aD s t (uG s t (kO al i))).length : Int)))) (aB (v := St' (aC s (t + ((aD s t (uG s t (kO al i))).length : Int)))) (aI)))) (by kernel_rfl)⟩) aj)) (cK aj) rfl (eG ⟨by omega, by omega, by omega, by omega, i4, fun _ => bd, by omega, fun _ => by omega, fun _ => by rw [← bF]; assumption, by omega, by omega, by omega, by omega, by omega, by omega, cG, i16, i17, by omega⟩) (by show (s.length - (uG s t (kO al i)).toNat) < s.length - t.toNat; omega) (aB (v := St' s) (aB (v := .int .i64 ((uG s t (kO al i)))) (bc (b := ((i + 1))) rfl rfl (by omega) (bc (b := ((uG s t (kO al i)))) rfl rfl (by omega) (ah (v := St' (aC s (t + ((aD s t (uG s t (kO al i))).length : Int)))) (u := St' (aC s (uG s t (kO al i)))) rfl rfl (congrArg (fun l => St' l) (by rw [bF])) (aB (v := cg .u8 al) (aI))))))) runOa_p0
theorem wW (hI : cv s al (1, t, i)) (h0 : t < (s.length : Int)) (h2 : wG s (t + ((aD s t (uG s t (kO al i))).length : Int)) = 0) (h3 : aR s (t + ((aD s t (uG s t (kO al i))).length : Int)) = []) : c9 s al E' x' e' h' (1, t, i) X := by
 obtain ⟨i0, i1, i2, i3, i4, i5, i6, i7, i8, i9, cI, i11, i12, cM, cH, cG, i16, i17, it⟩ := eD s al 1 t i hI
 have hn0 := hN0
 obtain ⟨hm0, hm1, hm2, fp⟩ := rO i2 cG i16
 obtain ⟨bf, hpc, bn, bF, hw2, hdl⟩ := cj (k := (kO al i)) i0 (by assumption) i4 (by omega)
 have bd := wA (s := s) (w := 0) bF (by omega)
 have ho : ∀ a' r', (a', r') ∈ ET → aM (lA s al t i X) a' r' := by
  unfold ET
  exact hc av <|hc bU <|hc (fP (aA rfl) (aG rfl) (by first | omega | (simp <;> omega))) <|hc cZ <|hc (fR (aA rfl) (aA rfl) (aG rfl) (by omega) (by omega) rfl) <|hc (fS (j := (Int.toNat (i % (al.length : Int)))) (aA rfl) (aA rfl) (aG rfl) (by omega) (by omega)) <|hc (fT (aA rfl) fM (aG rfl) (eS (by omega) (by omega))) <|hc au <|hc fG <|hc (cm (aA rfl) (aA rfl) (aG rfl) (by rw [bf]; try omega)) <|hc ck <|hc au <|hnil
 exact rN (tb := aP9) (L := LOa_p1) (1, (uG s t (kO al i)), (i + 1)) (aq.bz ((ab _ _).hyps ho) (by omega) cY cX (bK (bx rfl ⟨0, cW, bI.use (l := lf128) (h := lh128) (pe 6 s (aD s t (uG s t (kO al i))) t (by omega) (by omega) (by omega) bn (by decide) (by assumption) (⟨by assumption, by omega⟩)) (1, (0 : Int)) (dI (by omega) (by omega) i5 i6 i7 i8 i9 (by decide)) rfl (by kernel_rfl) (ao := [(0, .x 14), (1, I6 0), (2, .x 3), (3, .x 4)]) (ai := [(40, 14)]) (fun X => aB (v := St' (aD s t (uG s t (kO al i)))) (ad bS (ah (v := .int .i64 (t)) (u := .int .i64 ((t + (0 : Int)))) rfl rfl (by rw [bm]) (ah (v := St' (aC s t)) (u := St' (aC s (t + (0 : Int)))) rfl rfl (by rw [bm]) (aI))))) (by kernel_rfl) (ak := [(15, .x 0), (16, .x 1), (17, .x 2)]) (aB (v := St' (aD s t (uG s t (kO al i)))) (aB (v := .int .i64 ((t + ((aD s t (uG s t (kO al i))).length : Int)))) (aB (v := St' (aC s (t + ((aD s t (uG s t (kO al i))).length : Int)))) (aI)))) (by kernel_rfl)⟩) aj)) (cK aj) rfl (eG ⟨by omega, by omega, by omega, by omega, i4, fun _ => bd, by omega, fun _ => by omega, fun _ => by rw [← bF]; assumption, by omega, by omega, by omega, by omega, by omega, by omega, cG, i16, i17, by omega⟩) (by show (s.length - (uG s t (kO al i)).toNat) < s.length - t.toNat; omega) (aB (v := St' s) (aB (v := .int .i64 ((uG s t (kO al i)))) (bc (b := ((i + 1))) rfl rfl (by omega) (bc (b := ((uG s t (kO al i)))) rfl rfl (by omega) (ah (v := St' (aC s (t + ((aD s t (uG s t (kO al i))).length : Int)))) (u := St' (aC s (uG s t (kO al i)))) rfl rfl (congrArg (fun l => St' l) (by rw [bF])) (aB (v := cg .u8 al) (aI))))))) runOa_p1
theorem wP (hI : cv s al (2, t, i)) (h0 : t < (s.length : Int)) (h2 : wG s (t + ((aD s t (uG s t (kO al i))).length : Int)) = 0) (h3 : aR s (t + ((aD s t (uG s t (kO al i))).length : Int)) = []) : c9 s al E' x' e' h' (2, t, i) X := by
 obtain ⟨i0, i1, i2, i3, i4, i5, i6, i7, i8, i9, cI, i11, i12, cM, cH, cG, i16, i17, it⟩ := eD s al 2 t i hI
 have hn0 := hN0
 obtain ⟨hm0, hm1, hm2, fp⟩ := rO i2 cG i16
 obtain ⟨bf, hpc, bn, bF, hw2, hdl⟩ := cj (k := (kO al i)) i0 (by assumption) i4 (by omega)
 have bd := wA (s := s) (w := 0) bF (by omega)
 have ho : ∀ a' r', (a', r') ∈ EH → aM (kz s al t i X) a' r' := by
  unfold EH
  exact hc av <|hc bU <|hc (fP (aA rfl) (aG rfl) (by first | omega | (simp <;> omega))) <|hc cZ <|hc (fR (aA rfl) (aA rfl) (aG rfl) (by omega) (by omega) rfl) <|hc (fS (j := (Int.toNat (i % (al.length : Int)))) (aA rfl) (aA rfl) (aG rfl) (by omega) (by omega)) <|hc (fT (aA rfl) fM (aG rfl) (eS (by omega) (by omega))) <|hc au <|hc fG <|hc (cm (aA rfl) (aA rfl) (aG rfl) (by rw [bf]; try omega)) <|hc ck <|hc au <|hnil
 exact rM (tb := aP8) (L := LOa_p2) (1, (uG s t (kO al i)), (i + 1)) (aq.bz ((ab _ _).hyps ho) (by omega) cY cX (bK (bx rfl ⟨0, cW, bI.use (l := lf131) (h := lh131) (pe 6 s (aD s t (uG s t (kO al i))) t (by omega) (by omega) (by omega) bn (by decide) (by assumption) (⟨by assumption, by omega⟩)) (2, (0 : Int)) (dI (by omega) (by omega) i5 i6 i7 i8 i9 (by decide)) rfl (by kernel_rfl) (ao := [(0, .x 14), (1, I6 0), (2, .x 3), (3, .x 4), (2000000, .x 2000001)]) (ai := [(40, 14), (41, 15)]) (fun X => aB (v := St' (aD s t (uG s t (kO al i)))) (ad bS (ah (v := .int .i64 (t)) (u := .int .i64 ((t + (0 : Int)))) rfl rfl (by rw [bm]) (ah (v := St' (aC s t)) (u := St' (aC s (t + (0 : Int)))) rfl rfl (by rw [bm]) (ah (v := aN aO (aR s t)) (u := aN aO (aR s (t + (0 : Int)))) rfl rfl (by rw [bm]) (aI)))))) (by kernel_rfl) (ak := [(15, .x 0), (16, .x 1), (17, .x 2)]) (aB (v := St' (aD s t (uG s t (kO al i)))) (aB (v := .int .i64 ((t + ((aD s t (uG s t (kO al i))).length : Int)))) (aB (v := St' (aC s (t + ((aD s t (uG s t (kO al i))).length : Int)))) (aI)))) (by kernel_rfl)⟩) aj)) (cK aj) rfl (eG ⟨by omega, by omega, by omega, by omega, i4, fun _ => bd, by omega, fun _ => by omega, fun _ => by rw [← bF]; assumption, by omega, by omega, by omega, by omega, by omega, by omega, cG, i16, i17, by omega⟩) (by show (s.length - (uG s t (kO al i)).toNat) < s.length - t.toNat; omega) (aB (v := St' s) (aB (v := .int .i64 ((uG s t (kO al i)))) (bc (b := ((i + 1))) rfl rfl (by omega) (bc (b := ((uG s t (kO al i)))) rfl rfl (by omega) (ah (v := St' (aC s (t + ((aD s t (uG s t (kO al i))).length : Int)))) (u := St' (aC s (uG s t (kO al i)))) rfl rfl (congrArg (fun l => St' l) (by rw [bF])) (aB (v := cg .u8 al) (aI))))))) runOa_p2
theorem wN (hI : cv s al (0, t, i)) (h0 : t < (s.length : Int)) (h2 : wG s (t + ((aD s t (uG s t (kO al i))).length : Int)) = 0) (h3 : ¬ (aR s (t + ((aD s t (uG s t (kO al i))).length : Int)) = [])) : c9 s al E' x' e' h' (0, t, i) X := by
 obtain ⟨i0, i1, i2, i3, i4, i5, i6, i7, i8, i9, cI, i11, i12, cM, cH, cG, i16, i17, it⟩ := eD s al 0 t i hI
 have hn0 := hN0
 obtain ⟨hm0, hm1, hm2, fp⟩ := rO i2 cG i16
 obtain ⟨bf, hpc, bn, bF, hw2, hdl⟩ := cj (k := (kO al i)) i0 (by assumption) i4 (by omega)
 have bd := wA (s := s) (w := 0) bF (by omega)
 have ho : ∀ a' r', (a', r') ∈ EC → aM (lB s al t i X) a' r' := by
  unfold EC
  exact hc av <|hc bU <|hc (fP (aA rfl) (aG rfl) (by first | omega | (simp <;> omega))) <|hc cZ <|hc (fR (aA rfl) (aA rfl) (aG rfl) (by omega) (by omega) rfl) <|hc (fS (j := (Int.toNat (i % (al.length : Int)))) (aA rfl) (aA rfl) (aG rfl) (by omega) (by omega)) <|hc (fT (aA rfl) fM (aG rfl) (eS (by omega) (by omega))) <|hc au <|hc fG <|hc (cm (aA rfl) (aA rfl) (aG rfl) (by rw [bf]; try omega)) <|hc ck <|hc au <|hnil
 exact rP (tb := aP7) (L := LOa_p3) (2, (uG s t (kO al i)), (i + 1)) (aq.bz ((ab _ _).hyps ho) (by omega) cY cX (bK (bx rfl ⟨0, cW, bI.use (l := lf134) (h := lh134) (pd 6 s (aD s t (uG s t (kO al i))) t (by omega) (by omega) (by omega) bn (by decide) (by assumption) (by assumption)) (0, (0 : Int)) (dI (by omega) (by omega) i5 i6 i7 i8 i9 (by decide)) rfl (by kernel_rfl) (ao := [(0, .x 27), (1, I6 0), (2, .x 3)]) (ai := []) (fun X => aB (v := St' (aD s t (uG s t (kO al i)))) (ad bS (ah (v := .int .i64 (t)) (u := .int .i64 ((t + (0 : Int)))) rfl rfl (by rw [bm]) (aI)))) (by kernel_rfl) (ak := [(28, .x 0), (29, .x 1), (30, .x 2), (2000003, .x 2000000)]) (aB (v := St' (aD s t (uG s t (kO al i)))) (aB (v := .int .i64 ((t + ((aD s t (uG s t (kO al i))).length : Int)))) (aB (v := St' (aC s (t + ((aD s t (uG s t (kO al i))).length : Int)))) (aB (v := aN aO (aR s (t + ((aD s t (uG s t (kO al i))).length : Int)))) (aI))))) (by kernel_rfl)⟩) aj)) (cK aj) rfl (eG ⟨by omega, by omega, by omega, by omega, i4, fun _ => bd, by omega, fun _ => by omega, by omega, fun _ => by rw [← bF]; assumption, by omega, by omega, by omega, by omega, by omega, cG, i16, i17, by omega⟩) (by show (s.length - (uG s t (kO al i)).toNat) < s.length - t.toNat; omega) (aB (v := St' s) (aB (v := .int .i64 ((uG s t (kO al i)))) (bc (b := ((i + 1))) rfl rfl (by omega) (bc (b := ((uG s t (kO al i)))) rfl rfl (by omega) (ah (v := St' (aC s (t + ((aD s t (uG s t (kO al i))).length : Int)))) (u := St' (aC s (uG s t (kO al i)))) rfl rfl (congrArg (fun l => St' l) (by rw [bF])) (aB (v := cg .u8 al) (ah (v := aN aO (aR s (t + ((aD s t (uG s t (kO al i))).length : Int)))) (u := aN aO (aR s (uG s t (kO al i)))) rfl rfl (congrArg (aN aO) (by rw [bF])) (aI)))))))) runOa_p3
theorem wM (hI : cv s al (1, t, i)) (h0 : t < (s.length : Int)) (h2 : wG s (t + ((aD s t (uG s t (kO al i))).length : Int)) = 0) (h3 : ¬ (aR s (t + ((aD s t (uG s t (kO al i))).length : Int)) = [])) : c9 s al E' x' e' h' (1, t, i) X := by
 obtain ⟨i0, i1, i2, i3, i4, i5, i6, i7, i8, i9, cI, i11, i12, cM, cH, cG, i16, i17, it⟩ := eD s al 1 t i hI
 have hn0 := hN0
 obtain ⟨hm0, hm1, hm2, fp⟩ := rO i2 cG i16
 obtain ⟨bf, hpc, bn, bF, hw2, hdl⟩ := cj (k := (kO al i)) i0 (by assumption) i4 (by omega)
 have bd := wA (s := s) (w := 0) bF (by omega)
 have ho : ∀ a' r', (a', r') ∈ EB → aM (lA s al t i X) a' r' := by
  unfold EB
  exact hc av <|hc bU <|hc (fP (aA rfl) (aG rfl) (by first | omega | (simp <;> omega))) <|hc cZ <|hc (fR (aA rfl) (aA rfl) (aG rfl) (by omega) (by omega) rfl) <|hc (fS (j := (Int.toNat (i % (al.length : Int)))) (aA rfl) (aA rfl) (aG rfl) (by omega) (by omega)) <|hc (fT (aA rfl) fM (aG rfl) (eS (by omega) (by omega))) <|hc au <|hc fG <|hc (cm (aA rfl) (aA rfl) (aG rfl) (by rw [bf]; try omega)) <|hc ck <|hc au <|hnil
 exact rN (tb := aP6) (L := LOa_p4) (2, (uG s t (kO al i)), (i + 1)) (aq.bz ((ab _ _).hyps ho) (by omega) cY cX (bK (bx rfl ⟨0, cW, bI.use (l := lf137) (h := lh137) (pd 6 s (aD s t (uG s t (kO al i))) t (by omega) (by omega) (by omega) bn (by decide) (by assumption) (by assumption)) (1, (0 : Int)) (dI (by omega) (by omega) i5 i6 i7 i8 i9 (by decide)) rfl (by kernel_rfl) (ao := [(0, .x 28), (1, I6 0), (2, .x 3), (3, .x 4)]) (ai := [(40, 14)]) (fun X => aB (v := St' (aD s t (uG s t (kO al i)))) (ad bS (ah (v := .int .i64 (t)) (u := .int .i64 ((t + (0 : Int)))) rfl rfl (by rw [bm]) (ah (v := St' (aC s t)) (u := St' (aC s (t + (0 : Int)))) rfl rfl (by rw [bm]) (aI))))) (by kernel_rfl) (ak := [(29, .x 0), (30, .x 1), (31, .x 2), (2000003, .x 2000000)]) (aB (v := St' (aD s t (uG s t (kO al i)))) (aB (v := .int .i64 ((t + ((aD s t (uG s t (kO al i))).length : Int)))) (aB (v := St' (aC s (t + ((aD s t (uG s t (kO al i))).length : Int)))) (aB (v := aN aO (aR s (t + ((aD s t (uG s t (kO al i))).length : Int)))) (aI))))) (by kernel_rfl)⟩) aj)) (cK aj) rfl (eG ⟨by omega, by omega, by omega, by omega, i4, fun _ => bd, by omega, fun _ => by omega, by omega, fun _ => by rw [← bF]; assumption, by omega, by omega, by omega, by omega, by omega, cG, i16, i17, by omega⟩) (by show (s.length - (uG s t (kO al i)).toNat) < s.length - t.toNat; omega) (aB (v := St' s) (aB (v := .int .i64 ((uG s t (kO al i)))) (bc (b := ((i + 1))) rfl rfl (by omega) (bc (b := ((uG s t (kO al i)))) rfl rfl (by omega) (ah (v := St' (aC s (t + ((aD s t (uG s t (kO al i))).length : Int)))) (u := St' (aC s (uG s t (kO al i)))) rfl rfl (congrArg (fun l => St' l) (by rw [bF])) (aB (v := cg .u8 al) (ah (v := aN aO (aR s (t + ((aD s t (uG s t (kO al i))).length : Int)))) (u := aN aO (aR s (uG s t (kO al i)))) rfl rfl (congrArg (aN aO) (by rw [bF])) (aI)))))))) runOa_p4
theorem wL (hI : cv s al (2, t, i)) (h0 : t < (s.length : Int)) (h2 : wG s (t + ((aD s t (uG s t (kO al i))).length : Int)) = 0) (h3 : ¬ (aR s (t + ((aD s t (uG s t (kO al i))).length : Int)) = [])) : c9 s al E' x' e' h' (2, t, i) X := by
 obtain ⟨i0, i1, i2, i3, i4, i5, i6, i7, i8, i9, cI, i11, i12, cM, cH, cG, i16, i17, it⟩ := eD s al 2 t i hI
 have hn0 := hN0
 obtain ⟨hm0, hm1, hm2, fp⟩ := rO i2 cG i16
 obtain ⟨bf, hpc, bn, bF, hw2, hdl⟩ := cj (k := (kO al i)) i0 (by assumption) i4 (by omega)
 have bd := wA (s := s) (w := 0) bF (by omega)
 have ho : ∀ a' r', (a', r') ∈ EA → aM (kz s al t i X) a' r' := by
  unfold EA
  exact hc av <|hc bU <|hc (fP (aA rfl) (aG rfl) (by first | omega | (simp <;> omega))) <|hc cZ <|hc (fR (aA rfl) (aA rfl) (aG rfl) (by omega) (by omega) rfl) <|hc (fS (j := (Int.toNat (i % (al.length : Int)))) (aA rfl) (aA rfl) (aG rfl) (by omega) (by omega)) <|hc (fT (aA rfl) fM (aG rfl) (eS (by omega) (by omega))) <|hc au <|hc fG <|hc (cm (aA rfl) (aA rfl) (aG rfl) (by rw [bf]; try omega)) <|hc ck <|hc au <|hnil
 exact rM (tb := aP5) (L := LOa_p5) (2, (uG s t (kO al i)), (i + 1)) (aq.bz ((ab _ _).hyps ho) (by omega) cY cX (bK (bx rfl ⟨0, cW, bI.use (l := lf140) (h := lh140) (pd 6 s (aD s t (uG s t (kO al i))) t (by omega) (by omega) (by omega) bn (by decide) (by assumption) (by assumption)) (2, (0 : Int)) (dI (by omega) (by omega) i5 i6 i7 i8 i9 (by decide)) rfl (by kernel_rfl) (ao := [(0, .x 28), (1, I6 0), (2, .x 3), (3, .x 4), (2000000, .x 2000001)]) (ai := [(40, 14), (41, 15)]) (fun X => aB (v := St' (aD s t (uG s t (kO al i)))) (ad bS (ah (v := .int .i64 (t)) (u := .int .i64 ((t + (0 : Int)))) rfl rfl (by rw [bm]) (ah (v := St' (aC s t)) (u := St' (aC s (t + (0 : Int)))) rfl rfl (by rw [bm]) (ah (v := aN aO (aR s t)) (u := aN aO (aR s (t + (0 : Int)))) rfl rfl (by rw [bm]) (aI)))))) (by kernel_rfl) (ak := [(29, .x 0), (30, .x 1), (31, .x 2), (2000004, .x 2000000)]) (aB (v := St' (aD s t (uG s t (kO al i)))) (aB (v := .int .i64 ((t + ((aD s t (uG s t (kO al i))).length : Int)))) (aB (v := St' (aC s (t + ((aD s t (uG s t (kO al i))).length : Int)))) (aB (v := aN aO (aR s (t + ((aD s t (uG s t (kO al i))).length : Int)))) (aI))))) (by kernel_rfl)⟩) aj)) (cK aj) rfl (eG ⟨by omega, by omega, by omega, by omega, i4, fun _ => bd, by omega, fun _ => by omega, by omega, fun _ => by rw [← bF]; assumption, by omega, by omega, by omega, by omega, by omega, cG, i16, i17, by omega⟩) (by show (s.length - (uG s t (kO al i)).toNat) < s.length - t.toNat; omega) (aB (v := St' s) (aB (v := .int .i64 ((uG s t (kO al i)))) (bc (b := ((i + 1))) rfl rfl (by omega) (bc (b := ((uG s t (kO al i)))) rfl rfl (by omega) (ah (v := St' (aC s (t + ((aD s t (uG s t (kO al i))).length : Int)))) (u := St' (aC s (uG s t (kO al i)))) rfl rfl (congrArg (fun l => St' l) (by rw [bF])) (aB (v := cg .u8 al) (ah (v := aN aO (aR s (t + ((aD s t (uG s t (kO al i))).length : Int)))) (u := aN aO (aR s (uG s t (kO al i)))) rfl rfl (congrArg (aN aO) (by rw [bF])) (aI)))))))) runOa_p5
theorem wK (hI : cv s al (0, t, i)) (h0 : t < (s.length : Int)) (h2 : ¬ (wG s (t + ((aD s t (uG s t (kO al i))).length : Int)) = 0)) (h3 : wG s (t + ((aD s t (uG s t (kO al i))).length : Int)) = 1) (h4 : DS s = []) : c9 s al E' x' e' h' (0, t, i) X := by
 obtain ⟨i0, i1, i2, i3, i4, i5, i6, i7, i8, i9, cI, i11, i12, cM, cH, cG, i16, i17, it⟩ := eD s al 0 t i hI
 have hn0 := hN0
 obtain ⟨hm0, hm1, hm2, fp⟩ := rO i2 cG i16
 obtain ⟨bf, hpc, bn, bF, hw2, hdl⟩ := cj (k := (kO al i)) i0 (by assumption) i4 (by omega)
 obtain ⟨bd, hJ⟩ := jA (by omega) (by omega) (by omega) (i5 (by omega)) bF (by assumption)
 have ho : ∀ a' r', (a', r') ∈ D9 → aM (lB s al t i X) a' r' := by
  unfold D9
  exact hc av <|hc bU <|hc (fP (aA rfl) (aG rfl) (by first | omega | (simp <;> omega))) <|hc cZ <|hc (fR (aA rfl) (aA rfl) (aG rfl) (by omega) (by omega) rfl) <|hc (fS (j := (Int.toNat (i % (al.length : Int)))) (aA rfl) (aA rfl) (aG rfl) (by omega) (by omega)) <|hc (fT (aA rfl) fM (aG rfl) (eS (by omega) (by omega))) <|hc au <|hc fG <|hc (cm (aA rfl) (aA rfl) (aG rfl) (by rw [bf]; try omega)) <|hc ck <|hc (fh (ar (l := ([] : LB)) 0 0 rfl) (aA rfl) (aG rfl) (by first | rfl | (simp; done)) (by omega)) <|hc au <|hnil
 exact rP (tb := aP4) (L := LOa_p6) (3, (uG s t (kO al i)), (i + 1)) (aq.bz ((ab _ _).hyps ho) (by omega) cY cX (bK (bx rfl ⟨0, cW, bI.use (l := lf143) (h := lh143) (mc 6 s (aD s t (uG s t (kO al i))) t (by omega) (by omega) (by omega) bn (by decide) (by assumption) (by assumption)) (0, (0 : Int)) (dI (by omega) (by omega) i5 i6 i7 i8 i9 (by decide)) rfl (by kernel_rfl) (ao := [(0, .x 41), (1, I6 0), (2, .x 3)]) (ai := []) (fun X => aB (v := St' (aD s t (uG s t (kO al i)))) (ad bS (ah (v := .int .i64 (t)) (u := .int .i64 ((t + (0 : Int)))) rfl rfl (by rw [bm]) (aI)))) (by kernel_rfl) (ak := [(42, .x 0), (43, .x 1), (44, .x 2)]) (aB (v := St' (List.drop (Int.toNat (JS s - t)) (aD s t (uG s t (kO al i))))) (aB (v := .int .i64 ((nS s))) (aB (v := St' (RS s)) (aI)))) (by kernel_rfl)⟩) aj)) (cK aj) rfl (eG ⟨by omega, by omega, by omega, by omega, i4, by omega, by omega, by omega, by omega, by omega, fun _ => bd, fun _ => by assumption, by omega, fun _ => ⟨by omega, by omega⟩, by omega, cG, i16, i17, by omega⟩) (by show (s.length - (uG s t (kO al i)).toNat) < s.length - t.toNat; omega) (aB (v := St' s) (aB (v := .int .i64 ((uG s t (kO al i)))) (bc (b := ((i + 1))) rfl rfl (by omega) (ah (v := St' (List.drop (Int.toNat (JS s - t)) (aD s t (uG s t (kO al i))))) (u := St' (List.drop (Int.toNat (JS s)) (List.take (Int.toNat ((uG s t (kO al i)))) s))) rfl rfl (congrArg (fun l => St' l) (iW (by omega) (by omega) (by omega) (by omega))) (aB (v := .int .i64 ((nS s))) (aB (v := St' (RS s)) (aB (v := cg .u8 al) (aI)))))))) runOa_p6
theorem wJ (hI : cv s al (1, t, i)) (h0 : t < (s.length : Int)) (h2 : ¬ (wG s (t + ((aD s t (uG s t (kO al i))).length : Int)) = 0)) (h3 : wG s (t + ((aD s t (uG s t (kO al i))).length : Int)) = 1) (h4 : DS s = []) : c9 s al E' x' e' h' (1, t, i) X := by
 obtain ⟨i0, i1, i2, i3, i4, i5, i6, i7, i8, i9, cI, i11, i12, cM, cH, cG, i16, i17, it⟩ := eD s al 1 t i hI
 have hn0 := hN0
 obtain ⟨hm0, hm1, hm2, fp⟩ := rO i2 cG i16
 obtain ⟨bf, hpc, bn, bF, hw2, hdl⟩ := cj (k := (kO al i)) i0 (by assumption) i4 (by omega)
 obtain ⟨bd, hJ⟩ := jA (by omega) (by omega) (by omega) (i5 (by omega)) bF (by assumption)
 have ho : ∀ a' r', (a', r') ∈ D8 → aM (lA s al t i X) a' r' := by
  unfold D8
  exact hc av <|hc bU <|hc (fP (aA rfl) (aG rfl) (by first | omega | (simp <;> omega))) <|hc cZ <|hc (fR (aA rfl) (aA rfl) (aG rfl) (by omega) (by omega) rfl) <|hc (fS (j := (Int.toNat (i % (al.length : Int)))) (aA rfl) (aA rfl) (aG rfl) (by omega) (by omega)) <|hc (fT (aA rfl) fM (aG rfl) (eS (by omega) (by omega))) <|hc au <|hc fG <|hc (cm (aA rfl) (aA rfl) (aG rfl) (by rw [bf]; try omega)) <|hc ck <|hc (fh (ar (l := ([] : LB)) 0 0 rfl) (aA rfl) (aG rfl) (by first | rfl | (simp; done)) (by omega)) <|hc au <|hnil
 exact rN (tb := aP3) (L := LOa_p7) (3, (uG s t (kO al i)), (i + 1)) (aq.bz ((ab _ _).hyps ho) (by omega) cY cX (bK (bx rfl ⟨0, cW, bI.use (l := lf146) (h := lh146) (mc 6 s (aD s t (uG s t (kO al i))) t (by omega) (by omega) (by omega) bn (by decide) (by assumption) (by assumption)) (1, (0 : Int)) (dI (by omega) (by omega) i5 i6 i7 i8 i9 (by decide)) rfl (by kernel_rfl) (ao := [(0, .x 42), (1, I6 0), (2, .x 3), (3, .x 4)]) (ai := [(40, 14)]) (fun X => aB (v := St' (aD s t (uG s t (kO al i)))) (ad bS (ah (v := .int .i64 (t)) (u := .int .i64 ((t + (0 : Int)))) rfl rfl (by rw [bm]) (ah (v := St' (aC s t)) (u := St' (aC s (t + (0 : Int)))) rfl rfl (by rw [bm]) (aI))))) (by kernel_rfl) (ak := [(43, .x 0), (44, .x 1), (45, .x 2)]) (aB (v := St' (List.drop (Int.toNat (JS s - t)) (aD s t (uG s t (kO al i))))) (aB (v := .int .i64 ((nS s))) (aB (v := St' (RS s)) (aI)))) (by kernel_rfl)⟩) aj)) (cK aj) rfl (eG ⟨by omega, by omega, by omega, by omega, i4, by omega, by omega, by omega, by omega, by omega, fun _ => bd, fun _ => by assumption, by omega, fun _ => ⟨by omega, by omega⟩, by omega, cG, i16, i17, by omega⟩) (by show (s.length - (uG s t (kO al i)).toNat) < s.length - t.toNat; omega) (aB (v := St' s) (aB (v := .int .i64 ((uG s t (kO al i)))) (bc (b := ((i + 1))) rfl rfl (by omega) (ah (v := St' (List.drop (Int.toNat (JS s - t)) (aD s t (uG s t (kO al i))))) (u := St' (List.drop (Int.toNat (JS s)) (List.take (Int.toNat ((uG s t (kO al i)))) s))) rfl rfl (congrArg (fun l => St' l) (iW (by omega) (by omega) (by omega) (by omega))) (aB (v := .int .i64 ((nS s))) (aB (v := St' (RS s)) (aB (v := cg .u8 al) (aI)))))))) runOa_p7
theorem wI (hI : cv s al (2, t, i)) (h0 : t < (s.length : Int)) (h2 : ¬ (wG s (t + ((aD s t (uG s t (kO al i))).length : Int)) = 0)) (h3 : wG s (t + ((aD s t (uG s t (kO al i))).length : Int)) = 1) (h4 : DS s = []) : c9 s al E' x' e' h' (2, t, i) X := by
 obtain ⟨i0, i1, i2, i3, i4, i5, i6, i7, i8, i9, cI, i11, i12, cM, cH, cG, i16, i17, it⟩ := eD s al 2 t i hI
 have hn0 := hN0
 obtain ⟨hm0, hm1, hm2, fp⟩ := rO i2 cG i16
 obtain ⟨bf, hpc, bn, bF, hw2, hdl⟩ := cj (k := (kO al i)) i0 (by assumption) i4 (by omega)
 obtain ⟨bd, hJ⟩ := jA (by omega) (by omega) (by omega) (i5 (by omega)) bF (by assumption)
 have ho : ∀ a' r', (a', r') ∈ D7 → aM (kz s al t i X) a' r' := by
  unfold D7
  exact hc av <|hc bU <|hc (fP (aA rfl) (aG rfl) (by first | omega | (simp <;> omega))) <|hc cZ <|hc (fR (aA rfl) (aA rfl) (aG rfl) (by omega) (by omega) rfl) <|hc (fS (j := (Int.toNat (i % (al.length : Int)))) (aA rfl) (aA rfl) (aG rfl) (by omega) (by omega)) <|hc (fT (aA rfl) fM (aG rfl) (eS (by omega) (by omega))) <|hc au <|hc fG <|hc (cm (aA rfl) (aA rfl) (aG rfl) (by rw [bf]; try omega)) <|hc ck <|hc (fh (ar (l := ([] : LB)) 0 0 rfl) (aA rfl) (aG rfl) (by first | rfl | (simp; done)) (by omega)) <|hc au <|hnil
 exact rM (tb := aP2) (L := LOa_p8) (3, (uG s t (kO al i)), (i + 1)) (aq.bz ((ab _ _).hyps ho) (by omega) cY cX (bK (bx rfl ⟨0, cW, bI.use (l := lf149) (h := lh149) (mc 6 s (aD s t (uG s t (kO al i))) t (by omega) (by omega) (by omega) bn (by decide) (by assumption) (by assumption)) (2, (0 : Int)) (dI (by omega) (by omega) i5 i6 i7 i8 i9 (by decide)) rfl (by kernel_rfl) (ao := [(0, .x 42), (1, I6 0), (2, .x 3), (3, .x 4), (2000000, .x 2000001)]) (ai := [(40, 14), (41, 15)]) (fun X => aB (v := St' (aD s t (uG s t (kO al i)))) (ad bS (ah (v := .int .i64 (t)) (u := .int .i64 ((t + (0 : Int)))) rfl rfl (by rw [bm]) (ah (v := St' (aC s t)) (u := St' (aC s (t + (0 : Int)))) rfl rfl (by rw [bm]) (ah (v := aN aO (aR s t)) (u := aN aO (aR s (t + (0 : Int)))) rfl rfl (by rw [bm]) (aI)))))) (by kernel_rfl) (ak := [(43, .x 0), (44, .x 1), (45, .x 2)]) (aB (v := St' (List.drop (Int.toNat (JS s - t)) (aD s t (uG s t (kO al i))))) (aB (v := .int .i64 ((nS s))) (aB (v := St' (RS s)) (aI)))) (by kernel_rfl)⟩) aj)) (cK aj) rfl (eG ⟨by omega, by omega, by omega, by omega, i4, by omega, by omega, by omega, by omega, by omega, fun _ => bd, fun _ => by assumption, by omega, fun _ => ⟨by omega, by omega⟩, by omega, cG, i16, i17, by omega⟩) (by show (s.length - (uG s t (kO al i)).toNat) < s.length - t.toNat; omega) (aB (v := St' s) (aB (v := .int .i64 ((uG s t (kO al i)))) (bc (b := ((i + 1))) rfl rfl (by omega) (ah (v := St' (List.drop (Int.toNat (JS s - t)) (aD s t (uG s t (kO al i))))) (u := St' (List.drop (Int.toNat (JS s)) (List.take (Int.toNat ((uG s t (kO al i)))) s))) rfl rfl (congrArg (fun l => St' l) (iW (by omega) (by omega) (by omega) (by omega))) (aB (v := .int .i64 ((nS s))) (aB (v := St' (RS s)) (aB (v := cg .u8 al) (aI)))))))) runOa_p8
theorem wH (hI : cv s al (0, t, i)) (h0 : t < (s.length : Int)) (h2 : ¬ (wG s (t + ((aD s t (uG s t (kO al i))).length : Int)) = 0)) (h3 : wG s (t + ((aD s t (uG s t (kO al i))).length : Int)) = 1) (h4 : ¬ (DS s = [])) : c9 s al E' x' e' h' (0, t, i) X := by
 obtain ⟨i0, i1, i2, i3, i4, i5, i6, i7, i8, i9, cI, i11, i12, cM, cH, cG, i16, i17, it⟩ := eD s al 0 t i hI
 have hn0 := hN0
 obtain ⟨hm0, hm1, hm2, fp⟩ := rO i2 cG i16
 obtain ⟨bf, hpc, bn, bF, hw2, hdl⟩ := cj (k := (kO al i)) i0 (by assumption) i4 (by omega)
 obtain ⟨bd, hJ⟩ := jA (by omega) (by omega) (by omega) (i5 (by omega)) bF (by assumption)
 have ho : ∀ a' r', (a', r') ∈ D6 → aM (lB s al t i X) a' r' := by
  unfold D6
  exact hc av <|hc bU <|hc (fP (aA rfl) (aG rfl) (by first | omega | (simp <;> omega))) <|hc cZ <|hc (fR (aA rfl) (aA rfl) (aG rfl) (by omega) (by omega) rfl) <|hc (fS (j := (Int.toNat (i % (al.length : Int)))) (aA rfl) (aA rfl) (aG rfl) (by omega) (by omega)) <|hc (fT (aA rfl) fM (aG rfl) (eS (by omega) (by omega))) <|hc au <|hc fG <|hc (cm (aA rfl) (aA rfl) (aG rfl) (by rw [bf]; try omega)) <|hc ck <|hc (fh (ar (l := ([] : LB)) 0 0 rfl) (aA rfl) (aG rfl) (by first | rfl | (simp; done)) (by omega)) <|hc au <|hnil
 exact rP (tb := aP1) (L := LOa_p9) (4, (uG s t (kO al i)), (i + 1)) (aq.bz ((ab _ _).hyps ho) (by omega) cY cX (bK (bx rfl ⟨0, cW, bI.use (l := lf152) (h := lh152) (mb 6 s (aD s t (uG s t (kO al i))) t (by omega) (by omega) (by omega) bn (by decide) (by assumption) (by assumption)) (0, (0 : Int)) (dI (by omega) (by omega) i5 i6 i7 i8 i9 (by decide)) rfl (by kernel_rfl) (ao := [(0, .x 56), (1, I6 0), (2, .x 3)]) (ai := []) (fun X => aB (v := St' (aD s t (uG s t (kO al i)))) (ad bS (ah (v := .int .i64 (t)) (u := .int .i64 ((t + (0 : Int)))) rfl rfl (by rw [bm]) (aI)))) (by kernel_rfl) (ak := [(57, .x 0), (58, .x 1), (59, .x 2), (2000006, .x 2000000)]) (aB (v := St' (List.drop (Int.toNat (JS s - t)) (aD s t (uG s t (kO al i))))) (aB (v := .int .i64 ((nS s))) (aB (v := St' (RS s)) (aB (v := aN aO (DS s)) (aI))))) (by kernel_rfl)⟩) aj)) (cK aj) rfl (eG ⟨by omega, by omega, by omega, by omega, i4, by omega, by omega, by omega, by omega, by omega, fun _ => bd, by omega, fun _ => by assumption, fun _ => ⟨by omega, by omega⟩, by omega, cG, i16, i17, by omega⟩) (by show (s.length - (uG s t (kO al i)).toNat) < s.length - t.toNat; omega) (aB (v := St' s) (aB (v := .int .i64 ((uG s t (kO al i)))) (bc (b := ((i + 1))) rfl rfl (by omega) (ah (v := St' (List.drop (Int.toNat (JS s - t)) (aD s t (uG s t (kO al i))))) (u := St' (List.drop (Int.toNat (JS s)) (List.take (Int.toNat ((uG s t (kO al i)))) s))) rfl rfl (congrArg (fun l => St' l) (iW (by omega) (by omega) (by omega) (by omega))) (aB (v := .int .i64 ((nS s))) (aB (v := St' (RS s)) (aB (v := cg .u8 al) (aB (v := aN aO (DS s)) (aI))))))))) runOa_p9
theorem wV (hI : cv s al (1, t, i)) (h0 : t < (s.length : Int)) (h2 : ¬ (wG s (t + ((aD s t (uG s t (kO al i))).length : Int)) = 0)) (h3 : wG s (t + ((aD s t (uG s t (kO al i))).length : Int)) = 1) (h4 : ¬ (DS s = [])) : c9 s al E' x' e' h' (1, t, i) X := by
 obtain ⟨i0, i1, i2, i3, i4, i5, i6, i7, i8, i9, cI, i11, i12, cM, cH, cG, i16, i17, it⟩ := eD s al 1 t i hI
 have hn0 := hN0
 obtain ⟨hm0, hm1, hm2, fp⟩ := rO i2 cG i16
 obtain ⟨bf, hpc, bn, bF, hw2, hdl⟩ := cj (k := (kO al i)) i0 (by assumption) i4 (by omega)
 obtain ⟨bd, hJ⟩ := jA (by omega) (by omega) (by omega) (i5 (by omega)) bF (by assumption)
 have ho : ∀ a' r', (a', r') ∈ ES → aM (lA s al t i X) a' r' := by
  unfold ES
  exact hc av <|hc bU <|hc (fP (aA rfl) (aG rfl) (by first | omega | (simp <;> omega))) <|hc cZ <|hc (fR (aA rfl) (aA rfl) (aG rfl) (by omega) (by omega) rfl) <|hc (fS (j := (Int.toNat (i % (al.length : Int)))) (aA rfl) (aA rfl) (aG rfl) (by omega) (by omega)) <|hc (fT (aA rfl) fM (aG rfl) (eS (by omega) (by omega))) <|hc au <|hc fG <|hc (cm (aA rfl) (aA rfl) (aG rfl) (by rw [bf]; try omega)) <|hc ck <|hc (fh (ar (l := ([] : LB)) 0 0 rfl) (aA rfl) (aG rfl) (by first | rfl | (simp; done)) (by omega)) <|hc au <|hnil
 exact rN (tb := aH9) (L := aZ3) (4, (uG s t (kO al i)), (i + 1)) (aq.bz ((ab _ _).hyps ho) (by omega) cY cX (bK (bx rfl ⟨0, cW, bI.use (l := lf155) (h := lh155) (mb 6 s (aD s t (uG s t (kO al i))) t (by omega) (by omega) (by omega) bn (by decide) (by assumption) (by assumption)) (1, (0 : Int)) (dI (by omega) (by omega) i5 i6 i7 i8 i9 (by decide)) rfl (by kernel_rfl) (ao := [(0, .x 57), (1, I6 0), (2, .x 3), (3, .x 4)]) (ai := [(40, 14)]) (fun X => aB (v := St' (aD s t (uG s t (kO al i)))) (ad bS (ah (v := .int .i64 (t)) (u := .int .i64 ((t + (0 : Int)))) rfl rfl (by rw [bm]) (ah (v := St' (aC s t)) (u := St' (aC s (t + (0 : Int)))) rfl rfl (by rw [bm]) (aI))))) (by kernel_rfl) (ak := [(58, .x 0), (59, .x 1), (60, .x 2), (2000006, .x 2000000)]) (aB (v := St' (List.drop (Int.toNat (JS s - t)) (aD s t (uG s t (kO al i))))) (aB (v := .int .i64 ((nS s))) (aB (v := St' (RS s)) (aB (v := aN aO (DS s)) (aI))))) (by kernel_rfl)⟩) aj)) (cK aj) rfl (eG ⟨by omega, by omega, by omega, by omega, i4, by omega, by omega, by omega, by omega, by omega, fun _ => bd, by omega, fun _ => by assumption, fun _ => ⟨by omega, by omega⟩, by omega, cG, i16, i17, by omega⟩) (by show (s.length - (uG s t (kO al i)).toNat) < s.length - t.toNat; omega) (aB (v := St' s) (aB (v := .int .i64 ((uG s t (kO al i)))) (bc (b := ((i + 1))) rfl rfl (by omega) (ah (v := St' (List.drop (Int.toNat (JS s - t)) (aD s t (uG s t (kO al i))))) (u := St' (List.drop (Int.toNat (JS s)) (List.take (Int.toNat ((uG s t (kO al i)))) s))) rfl rfl (congrArg (fun l => St' l) (iW (by omega) (by omega) (by omega) (by omega))) (aB (v := .int .i64 ((nS s))) (aB (v := St' (RS s)) (aB (v := cg .u8 al) (aB (v := aN aO (DS s)) (aI))))))))) runOa_p10
theorem wU (hI : cv s al (2, t, i)) (h0 : t < (s.length : Int)) (h2 : ¬ (wG s (t + ((aD s t (uG s t (kO al i))).length : Int)) = 0)) (h3 : wG s (t + ((aD s t (uG s t (kO al i))).length : Int)) = 1) (h4 : ¬ (DS s = [])) : c9 s al E' x' e' h' (2, t, i) X := by
 obtain ⟨i0, i1, i2, i3, i4, i5, i6, i7, i8, i9, cI, i11, i12, cM, cH, cG, i16, i17, it⟩ := eD s al 2 t i hI
 have hn0 := hN0
 obtain ⟨hm0, hm1, hm2, fp⟩ := rO i2 cG i16
 obtain ⟨bf, hpc, bn, bF, hw2, hdl⟩ := cj (k := (kO al i)) i0 (by assumption) i4 (by omega)
 obtain ⟨bd, hJ⟩ := jA (by omega) (by omega) (by omega) (i5 (by omega)) bF (by assumption)
 have ho : ∀ a' r', (a', r') ∈ ER → aM (kz s al t i X) a' r' := by
  unfold ER
  exact hc av <|hc bU <|hc (fP (aA rfl) (aG rfl) (by first | omega | (simp <;> omega))) <|hc cZ <|hc (fR (aA rfl) (aA rfl) (aG rfl) (by omega) (by omega) rfl) <|hc (fS (j := (Int.toNat (i % (al.length : Int)))) (aA rfl) (aA rfl) (aG rfl) (by omega) (by omega)) <|hc (fT (aA rfl) fM (aG rfl) (eS (by omega) (by omega))) <|hc au <|hc fG <|hc (cm (aA rfl) (aA rfl) (aG rfl) (by rw [bf]; try omega)) <|hc ck <|hc (fh (ar (l := ([] : LB)) 0 0 rfl) (aA rfl) (aG rfl) (by first | rfl | (simp; done)) (by omega)) <|hc au <|hnil
 exact rM (tb := aH8) (L := aZ2) (4, (uG s t (kO al i)), (i + 1)) (aq.bz ((ab _ _).hyps ho) (by omega) cY cX (bK (bx rfl ⟨0, cW, bI.use (l := lf158) (h := lh158) (mb 6 s (aD s t (uG s t (kO al i))) t (by omega) (by omega) (by omega) bn (by decide) (by assumption) (by assumption)) (2, (0 : Int)) (dI (by omega) (by omega) i5 i6 i7 i8 i9 (by decide)) rfl (by kernel_rfl) (ao := [(0, .x 57), (1, I6 0), (2, .x 3), (3, .x 4), (2000000, .x 2000001)]) (ai := [(40, 14), (41, 15)]) (fun X => aB (v := St' (aD s t (uG s t (kO al i)))) (ad bS (ah (v := .int .i64 (t)) (u := .int .i64 ((t + (0 : Int)))) rfl rfl (by rw [bm]) (ah (v := St' (aC s t)) (u := St' (aC s (t + (0 : Int)))) rfl rfl (by rw [bm]) (ah (v := aN aO (aR s t)) (u := aN aO (aR s (t + (0 : Int)))) rfl rfl (by rw [bm]) (aI)))))) (by kernel_rfl) (ak := [(58, .x 0), (59, .x 1), (60, .x 2), (2000007, .x 2000000)]) (aB (v := St' (List.drop (Int.toNat (JS s - t)) (aD s t (uG s t (kO al i))))) (aB (v := .int .i64 ((nS s))) (aB (v := St' (RS s)) (aB (v := aN aO (DS s)) (aI))))) (by kernel_rfl)⟩) aj)) (cK aj) rfl (eG ⟨by omega, by omega, by omega, by omega, i4, by omega, by omega, by omega, by omega, by omega, fun _ => bd, by omega, fun _ => by assumption, fun _ => ⟨by omega, by omega⟩, by omega, cG, i16, i17, by omega⟩) (by show (s.length - (uG s t (kO al i)).toNat) < s.length - t.toNat; omega) (aB (v := St' s) (aB (v := .int .i64 ((uG s t (kO al i)))) (bc (b := ((i + 1))) rfl rfl (by omega) (ah (v := St' (List.drop (Int.toNat (JS s - t)) (aD s t (uG s t (kO al i))))) (u := St' (List.drop (Int.toNat (JS s)) (List.take (Int.toNat ((uG s t (kO al i)))) s))) rfl rfl (congrArg (fun l => St' l) (iW (by omega) (by omega) (by omega) (by omega))) (aB (v := .int .i64 ((nS s))) (aB (v := St' (RS s)) (aB (v := cg .u8 al) (aB (v := aN aO (DS s)) (aI))))))))) runOa_p11
theorem wT (hI : cv s al (0, t, i)) (h0 : t < (s.length : Int)) (h2 : ¬ (wG s (t + ((aD s t (uG s t (kO al i))).length : Int)) = 0)) (h3 : ¬ (wG s (t + ((aD s t (uG s t (kO al i))).length : Int)) = 1)) : c9 s al E' x' e' h' (0, t, i) X := by
 obtain ⟨i0, i1, i2, i3, i4, i5, i6, i7, i8, i9, cI, i11, i12, cM, cH, cG, i16, i17, it⟩ := eD s al 0 t i hI
 have hn0 := hN0
 obtain ⟨hm0, hm1, hm2, fp⟩ := rO i2 cG i16
 obtain ⟨bf, hpc, bn, bF, hw2, hdl⟩ := cj (k := (kO al i)) i0 (by assumption) i4 (by omega)
 have bd := wA (s := s) (w := 2) bF (by omega)
 have ho : ∀ a' r', (a', r') ∈ EP → aM (lB s al t i X) a' r' := by
  unfold EP
  exact hc av <|hc bU <|hc (fP (aA rfl) (aG rfl) (by first | omega | (simp <;> omega))) <|hc cZ <|hc (fR (aA rfl) (aA rfl) (aG rfl) (by omega) (by omega) rfl) <|hc (fS (j := (Int.toNat (i % (al.length : Int)))) (aA rfl) (aA rfl) (aG rfl) (by omega) (by omega)) <|hc (fT (aA rfl) fM (aG rfl) (eS (by omega) (by omega))) <|hc au <|hc fG <|hc (cm (aA rfl) (aA rfl) (aG rfl) (by rw [bf]; try omega)) <|hc ck <|hc au <|hnil
 exact rP (tb := aH7) (L := aZ1) (5, (uG s t (kO al i)), (i + 1)) (aq.bz ((ab _ _).hyps ho) (by omega) cY cX (bK (bx rfl ⟨0, cW, bI.use (l := lf161) (h := lh161) (ma 6 s (aD s t (uG s t (kO al i))) t (by omega) (by omega) (by omega) bn (by decide) (by omega)) (0, (0 : Int)) (dI (by omega) (by omega) i5 i6 i7 i8 i9 (by decide)) rfl (by kernel_rfl) (ao := [(0, .x 71), (1, I6 0), (2, .x 3)]) (ai := []) (fun X => aB (v := St' (aD s t (uG s t (kO al i)))) (ad bS (ah (v := .int .i64 (t)) (u := .int .i64 ((t + (0 : Int)))) rfl rfl (by rw [bm]) (aI)))) (by kernel_rfl) (ak := [(72, .x 0), (73, .x 1)]) (aB (v := .int .i64 ((kS s))) (aB (v := St' (mS s)) (aI))) (by kernel_rfl)⟩) aj)) (cK aj) rfl (eG ⟨by omega, by omega, by omega, by omega, i4, by omega, by omega, by omega, by omega, by omega, by omega, by omega, by omega, by omega, fun _ => bd, cG, i16, i17, by omega⟩) (by show (s.length - (uG s t (kO al i)).toNat) < s.length - t.toNat; omega) (aB (v := St' s) (aB (v := .int .i64 ((uG s t (kO al i)))) (aB (v := .int .i64 ((kS s))) (aB (v := St' (mS s)) (aB (v := cg .u8 al) (aI)))))) runOa_p12
theorem wS (hI : cv s al (1, t, i)) (h0 : t < (s.length : Int)) (h2 : ¬ (wG s (t + ((aD s t (uG s t (kO al i))).length : Int)) = 0)) (h3 : ¬ (wG s (t + ((aD s t (uG s t (kO al i))).length : Int)) = 1)) : c9 s al E' x' e' h' (1, t, i) X := by
 obtain ⟨i0, i1, i2, i3, i4, i5, i6, i7, i8, i9, cI, i11, i12, cM, cH, cG, i16, i17, it⟩ := eD s al 1 t i hI
 have hn0 := hN0
 obtain ⟨hm0, hm1, hm2, fp⟩ := rO i2 cG i16
 obtain ⟨bf, hpc, bn, bF, hw2, hdl⟩ := cj (k := (kO al i)) i0 (by assumption) i4 (by omega)
 have bd := wA (s := s) (w := 2) bF (by omega)
 have ho : ∀ a' r', (a', r') ∈ EO → aM (lA s al t i X) a' r' := by
  unfold EO
  exact hc av <|hc bU <|hc (fP (aA rfl) (aG rfl) (by first | omega | (simp <;> omega))) <|hc cZ <|hc (fR (aA rfl) (aA rfl) (aG rfl) (by omega) (by omega) rfl) <|hc (fS (j := (Int.toNat (i % (al.length : Int)))) (aA rfl) (aA rfl) (aG rfl) (by omega) (by omega)) <|hc (fT (aA rfl) fM (aG rfl) (eS (by omega) (by omega))) <|hc au <|hc fG <|hc (cm (aA rfl) (aA rfl) (aG rfl) (by rw [bf]; try omega)) <|hc ck <|hc au <|hnil
 exact rN (tb := aH6) (L := aZ0) (5, (uG s t (kO al i)), (i + 1)) (aq.bz ((ab _ _).hyps ho) (by omega) cY cX (bK (bx rfl ⟨0, cW, bI.use (l := lf164) (h := lh164) (ma 6 s (aD s t (uG s t (kO al i))) t (by omega) (by omega) (by omega) bn (by decide) (by omega)) (1, (0 : Int)) (dI (by omega) (by omega) i5 i6 i7 i8 i9 (by decide)) rfl (by kernel_rfl) (ao := [(0, .x 72), (1, I6 0), (2, .x 3), (3, .x 4)]) (ai := [(40, 14)]) (fun X => aB (v := St' (aD s t (uG s t (kO al i)))) (ad bS (ah (v := .int .i64 (t)) (u := .int .i64 ((t + (0 : Int)))) rfl rfl (by rw [bm]) (ah (v := St' (aC s t)) (u := St' (aC s (t + (0 : Int)))) rfl rfl (by rw [bm]) (aI))))) (by kernel_rfl) (ak := [(73, .x 0), (74, .x 1)]) (aB (v := .int .i64 ((kS s))) (aB (v := St' (mS s)) (aI))) (by kernel_rfl)⟩) aj)) (cK aj) rfl (eG ⟨by omega, by omega, by omega, by omega, i4, by omega, by omega, by omega, by omega, by omega, by omega, by omega, by omega, by omega, fun _ => bd, cG, i16, i17, by omega⟩) (by show (s.length - (uG s t (kO al i)).toNat) < s.length - t.toNat; omega) (aB (v := St' s) (aB (v := .int .i64 ((uG s t (kO al i)))) (aB (v := .int .i64 ((kS s))) (aB (v := St' (mS s)) (aB (v := cg .u8 al) (aI)))))) runOa_p13
theorem wR (hI : cv s al (2, t, i)) (h0 : t < (s.length : Int)) (h2 : ¬ (wG s (t + ((aD s t (uG s t (kO al i))).length : Int)) = 0)) (h3 : ¬ (wG s (t + ((aD s t (uG s t (kO al i))).length : Int)) = 1)) : c9 s al E' x' e' h' (2, t, i) X := by
 obtain ⟨i0, i1, i2, i3, i4, i5, i6, i7, i8, i9, cI, i11, i12, cM, cH, cG, i16, i17, it⟩ := eD s al 2 t i hI
 have hn0 := hN0
 obtain ⟨hm0, hm1, hm2, fp⟩ := rO i2 cG i16
 obtain ⟨bf, hpc, bn, bF, hw2, hdl⟩ := cj (k := (kO al i)) i0 (by assumption) i4 (by omega)
 have bd := wA (s := s) (w := 2) bF (by omega)
 have ho : ∀ a' r', (a', r') ∈ EN → aM (kz s al t i X) a' r' := by
  unfold EN
  exact hc av <|hc bU <|hc (fP (aA rfl) (aG rfl) (by first | omega | (simp <;> omega))) <|hc cZ <|hc (fR (aA rfl) (aA rfl) (aG rfl) (by omega) (by omega) rfl) <|hc (fS (j := (Int.toNat (i % (al.length : Int)))) (aA rfl) (aA rfl) (aG rfl) (by omega) (by omega)) <|hc (fT (aA rfl) fM (aG rfl) (eS (by omega) (by omega))) <|hc au <|hc fG <|hc (cm (aA rfl) (aA rfl) (aG rfl) (by rw [bf]; try omega)) <|hc ck <|hc au <|hnil
 exact rM (tb := aH5) (L := aY9) (5, (uG s t (kO al i)), (i + 1)) (aq.bz ((ab _ _).hyps ho) (by omega) cY cX (bK (bx rfl ⟨0, cW, bI.use (l := lf167) (h := lh167) (ma 6 s (aD s t (uG s t (kO al i))) t (by omega) (by omega) (by omega) bn (by decide) (by omega)) (2, (0 : Int)) (dI (by omega) (by omega) i5 i6 i7 i8 i9 (by decide)) rfl (by kernel_rfl) (ao := [(0, .x 72), (1, I6 0), (2, .x 3), (3, .x 4), (2000000, .x 2000001)]) (ai := [(40, 14), (41, 15)]) (fun X => aB (v := St' (aD s t (uG s t (kO al i)))) (ad bS (ah (v := .int .i64 (t)) (u := .int .i64 ((t + (0 : Int)))) rfl rfl (by rw [bm]) (ah (v := St' (aC s t)) (u := St' (aC s (t + (0 : Int)))) rfl rfl (by rw [bm]) (ah (v := aN aO (aR s t)) (u := aN aO (aR s (t + (0 : Int)))) rfl rfl (by rw [bm]) (aI)))))) (by kernel_rfl) (ak := [(73, .x 0), (74, .x 1)]) (aB (v := .int .i64 ((kS s))) (aB (v := St' (mS s)) (aI))) (by kernel_rfl)⟩) aj)) (cK aj) rfl (eG ⟨by omega, by omega, by omega, by omega, i4, by omega, by omega, by omega, by omega, by omega, by omega, by omega, by omega, by omega, fun _ => bd, cG, i16, i17, by omega⟩) (by show (s.length - (uG s t (kO al i)).toNat) < s.length - t.toNat; omega) (aB (v := St' s) (aB (v := .int .i64 ((uG s t (kO al i)))) (aB (v := .int .i64 ((kS s))) (aB (v := St' (mS s)) (aB (v := cg .u8 al) (aI)))))) runOa_p14
theorem wQ (hI : cv s al (3, t, i)) (h0 : t < (s.length : Int)) : c9 s al E' x' e' h' (3, t, i) X := by
 obtain ⟨i0, i1, i2, i3, i4, i5, i6, i7, i8, i9, cI, i11, i12, cM, cH, cG, i16, i17, it⟩ := eD s al 3 t i hI
 have hn0 := hN0
 obtain ⟨hm0, hm1, hm2, fp⟩ := rO i2 cG i16
 obtain ⟨bf, hpc, bn, bF, hw2, hdl⟩ := cj (k := (kO al i)) i0 (by assumption) i4 (by omega)
 have bd := wst (k := (uG s t (kO al i))) (cI (by omega)); have hJ := cM (by omega); have hdk := dkL (t := t) i4
 refine stOa_3 (h := EJ) (3, (uG s t (kO al i)), (i + 1)) ?_ (eG ⟨by omega, by omega, by omega, by omega, i4, by omega, by omega, by omega, by omega, by omega, fun _ => bd, fun _ => i11 (by omega), by omega, fun _ => ⟨by omega, by omega⟩, by omega, cG, i16, i17, by omega⟩) (by show (s.length - (uG s t (kO al i)).toNat) < s.length - t.toNat; omega) (aB (v := St' s) (aB (v := .int .i64 ((uG s t (kO al i)))) (bc (b := ((i + 1))) rfl rfl (by omega) (ah (v := St' ((List.drop (Int.toNat (JS s)) (List.take t.toNat s)) ++ (aD s t (uG s t (kO al i))))) (u := St' (List.drop (Int.toNat (JS s)) (List.take (Int.toNat ((uG s t (kO al i)))) s))) rfl rfl (congrArg (fun l => St' l) (y1G (by omega) (by omega) (by omega) (by omega) (by omega))) (aB (v := .int .i64 ((nS s))) (aB (v := St' (RS s)) (aB (v := cg .u8 al) (aI)))))))) runOa_p18
 unfold EJ
 exact hc av <|hc bU <|hc (fP (aA rfl) (aG rfl) (by first | omega | (simp <;> omega))) <|hc cZ <|hc (fR (aA rfl) (aA rfl) (aG rfl) (by omega) (by omega) rfl) <|hc (fS (j := (Int.toNat (i % (al.length : Int)))) (aA rfl) (aA rfl) (aG rfl) (by omega) (by omega)) <|hc (fT (aA rfl) fM (aG rfl) (eS (by omega) (by omega))) <|hc au <|hc fG <|hc (cm (aA rfl) (aA rfl) (aG rfl) (by rw [bf]; try omega)) <|hc ck <|hc av <|hc (mj (b7 (m := 0) rfl) (aA rfl) (decide_eq_true (by omega))) <|hc (fh (aA rfl) (aA rfl) (aG rfl) (by first | rfl | (simp; done)) (by omega)) <|hc au <|hnil
theorem wO (hI : cv s al (4, t, i)) (h0 : t < (s.length : Int)) : c9 s al E' x' e' h' (4, t, i) X := by
 obtain ⟨i0, i1, i2, i3, i4, i5, i6, i7, i8, i9, cI, i11, i12, cM, cH, cG, i16, i17, it⟩ := eD s al 4 t i hI
 have hn0 := hN0
 obtain ⟨hm0, hm1, hm2, fp⟩ := rO i2 cG i16
 obtain ⟨bf, hpc, bn, bF, hw2, hdl⟩ := cj (k := (kO al i)) i0 (by assumption) i4 (by omega)
 have bd := wst (k := (uG s t (kO al i))) (cI (by omega)); have hJ := cM (by omega); have hdk := dkL (t := t) i4
 refine stOa_4 (h := EG) (4, (uG s t (kO al i)), (i + 1)) ?_ (eG ⟨by omega, by omega, by omega, by omega, i4, by omega, by omega, by omega, by omega, by omega, fun _ => bd, by omega, fun _ => i12 (by omega), fun _ => ⟨by omega, by omega⟩, by omega, cG, i16, i17, by omega⟩) (by show (s.length - (uG s t (kO al i)).toNat) < s.length - t.toNat; omega) (aB (v := St' s) (aB (v := .int .i64 ((uG s t (kO al i)))) (bc (b := ((i + 1))) rfl rfl (by omega) (ah (v := St' ((List.drop (Int.toNat (JS s)) (List.take t.toNat s)) ++ (aD s t (uG s t (kO al i))))) (u := St' (List.drop (Int.toNat (JS s)) (List.take (Int.toNat ((uG s t (kO al i)))) s))) rfl rfl (congrArg (fun l => St' l) (y1G (by omega) (by omega) (by omega) (by omega) (by omega))) (aB (v := .int .i64 ((nS s))) (aB (v := St' (RS s)) (aB (v := cg .u8 al) (aB (v := aN aO (DS s)) (aI))))))))) runOa_p20
 unfold EG
 exact hc av <|hc bU <|hc (fP (aA rfl) (aG rfl) (by first | omega | (simp <;> omega))) <|hc cZ <|hc (fR (aA rfl) (aA rfl) (aG rfl) (by omega) (by omega) rfl) <|hc (fS (j := (Int.toNat (i % (al.length : Int)))) (aA rfl) (aA rfl) (aG rfl) (by omega) (by omega)) <|hc (fT (aA rfl) fM (aG rfl) (eS (by omega) (by omega))) <|hc au <|hc fG <|hc (cm (aA rfl) (aA rfl) (aG rfl) (by rw [bf]; try omega)) <|hc ck <|hc av <|hc (mj (b7 (m := 0) rfl) (aA rfl) (decide_eq_true (by omega))) <|hc (fh (aA rfl) (aA rfl) (aG rfl) (by first | rfl | (simp; done)) (by omega)) <|hc au <|hnil
end
def aU6 (s : LB) (al : List Int) : List Value := []
def roEOa_0 (s : LB) (al : List Int) : List Value := []
noncomputable def EOa_0 (s : LB) (al : List Int) : Cx := cx (bG (aU6 s al) (rX (roEOa_0 s al) (fun _ => .bool true))) (bJ (aV (l := aU6 s al) rfl)) 1 aH aQ
theorem roundsOa_0 (s : LB) (al : List Int) (x0 : wG s ((0 : Int) + (s.length : Int)) = 0) (st : Nat × Int × Int) (X : Nat → Value) (hI : cv s al st) : c9 s al (EOa_0 s al) (.exit 0) [(6, .p 6 0), (9, .s 0 0), (10, .ni)] [(6, bk 42 [.und, .und, .und, .und, .und, .und, .und, .b false, .b false])] st X := by
 obtain ⟨tag, t, i⟩ := st
 have hI0 := hI
 obtain ⟨i0, i1, i2, i3, i4, i5, i6, i7, i8, i9, cI, i11, i12, cM, cH, cG, i16, i17, it⟩ := eD s al tag t i hI
 rcases (show tag = 0 ∨ tag = 1 ∨ tag = 2 ∨ tag = 3 ∨ tag = 4 ∨ tag = 5 from by omega) with rfl | rfl | rfl | rfl | rfl | rfl
 ·have hn0 := hN0
  by_cases h0 : t < (s.length : Int)
  ·by_cases h2 : wG s (t + ((aD s t (uG s t (kO al i))).length : Int)) = 0
   ·by_cases h3 : aR s (t + ((aD s t (uG s t (kO al i))).length : Int)) = []
    ·exact wX hI0 h0 h2 h3
    ·exact wN hI0 h0 h2 h3
   ·by_cases h3 : wG s (t + ((aD s t (uG s t (kO al i))).length : Int)) = 1
    ·by_cases h4 : DS s = []
     ·exact wK hI0 h0 h2 h3 h4
     ·exact wH hI0 h0 h2 h3 h4
    ·exact wT hI0 h0 h2 h3
  ·refine lvOa_0 (h := EM) rfl ?_ (aI) runOa_p15
   unfold EM
   exact hc av <|hc dV <|hnil
 ·have hn0 := hN0
  by_cases h0 : t < (s.length : Int)
  ·by_cases h2 : wG s (t + ((aD s t (uG s t (kO al i))).length : Int)) = 0
   ·by_cases h3 : aR s (t + ((aD s t (uG s t (kO al i))).length : Int)) = []
    ·exact wW hI0 h0 h2 h3
    ·exact wM hI0 h0 h2 h3
   ·by_cases h3 : wG s (t + ((aD s t (uG s t (kO al i))).length : Int)) = 1
    ·by_cases h4 : DS s = []
     ·exact wJ hI0 h0 h2 h3 h4
     ·exact wV hI0 h0 h2 h3 h4
    ·exact wS hI0 h0 h2 h3
  ·refine lvOa_1 (h := EL) rfl ?_ (aI) runOa_p16
   unfold EL
   exact hc av <|hc dV <|hnil
 ·have hn0 := hN0
  by_cases h0 : t < (s.length : Int)
  ·by_cases h2 : wG s (t + ((aD s t (uG s t (kO al i))).length : Int)) = 0
   ·by_cases h3 : aR s (t + ((aD s t (uG s t (kO al i))).length : Int)) = []
    ·exact wP hI0 h0 h2 h3
    ·exact wL hI0 h0 h2 h3
   ·by_cases h3 : wG s (t + ((aD s t (uG s t (kO al i))).length : Int)) = 1
    ·by_cases h4 : DS s = []
     ·exact wI hI0 h0 h2 h3 h4
     ·exact wU hI0 h0 h2 h3 h4
    ·exact wR hI0 h0 h2 h3
  ·refine lvOa_2 (h := EK) rfl ?_ (aI) runOa_p17
   unfold EK
   exact hc av <|hc dV <|hnil
 ·have hn0 := hN0
  by_cases h0 : t < (s.length : Int)
  ·exact wQ hI0 h0
  ·exfalso; have hE : t = ((0 : Int) + (s.length : Int)) := (by omega); have h5 := cI (by omega); rw [hE] at h5; omega
 ·have hn0 := hN0
  by_cases h0 : t < (s.length : Int)
  ·exact wO hI0 h0
  ·exfalso; have hE : t = ((0 : Int) + (s.length : Int)) := (by omega); have h5 := cI (by omega); rw [hE] at h5; omega
 ·have hn0 := hN0
  by_cases h0 : t < (s.length : Int)
  ·exfalso; have h5 := wst (k := ((0 : Int) + (s.length : Int))) (cH (by omega)); omega
  ·exfalso; have h5 := wst (k := ((0 : Int) + (s.length : Int))) (cH (by omega)); omega
theorem lfOkOa_0 (s : LB) (al : List Int) (x0 : wG s ((0 : Int) + (s.length : Int)) = 0) : bI (cx nu one 1 aH aQ) (EOa_0 s al) cy cA 105 (.exit 0) 4 14 16 1004 jH kQ [(6, .p 6 0), (9, .s 0 0), (10, .ni)] [(6, bk 42 [.und, .und, .und, .und, .und, .und, .und, .b false, .b false])] (cv s al) (kp s al) :=
 dW (gE s al) (fun _ _ => rfl) (fun _ _ => rfl) (fun _ _ => rfl) (fun st X t ht => dT.trans (dS ((by decide : ∀ t, t ∈ cA → t < 1000000) t ht))) rfl rfl rfl Aa rfl rfl (roundsOa_0 s al x0)
def aU5 (s : LB) (al : List Int) : List Value := [St' (List.drop (Int.toNat (JS s - (0 : Int))) s), .int .i64 ((nS s)), St' (RS s)]
def roEOa_1 (s : LB) (al : List Int) : List Value := []
noncomputable def EOa_1 (s : LB) (al : List Int) : Cx := cx (bG (aU5 s al) (rX (roEOa_1 s al) (fun _ => .bool true))) (bJ (aV (l := aU5 s al) rfl)) 1 aH aQ
theorem roundsOa_1 (s : LB) (al : List Int) (x0 : wG s ((0 : Int) + (s.length : Int)) = 1) (x1 : DS s = []) (st : Nat × Int × Int) (X : Nat → Value) (hI : cv s al st) : c9 s al (EOa_1 s al) (.exit 0) [(6, .p 6 0), (9, .x 0), (10, .ni)] [(6, bk 42 [.und, .und, .und, .und, .x 1, .x 2, .aL, .b true, .b false])] st X := by
 obtain ⟨tag, t, i⟩ := st
 have hI0 := hI
 obtain ⟨i0, i1, i2, i3, i4, i5, i6, i7, i8, i9, cI, i11, i12, cM, cH, cG, i16, i17, it⟩ := eD s al tag t i hI
 rcases (show tag = 0 ∨ tag = 1 ∨ tag = 2 ∨ tag = 3 ∨ tag = 4 ∨ tag = 5 from by omega) with rfl | rfl | rfl | rfl | rfl | rfl
 ·have hn0 := hN0
  by_cases h0 : t < (s.length : Int)
  ·by_cases h2 : wG s (t + ((aD s t (uG s t (kO al i))).length : Int)) = 0
   ·by_cases h3 : aR s (t + ((aD s t (uG s t (kO al i))).length : Int)) = []
    ·exact wX hI0 h0 h2 h3
    ·exact wN hI0 h0 h2 h3
   ·by_cases h3 : wG s (t + ((aD s t (uG s t (kO al i))).length : Int)) = 1
    ·by_cases h4 : DS s = []
     ·exact wK hI0 h0 h2 h3 h4
     ·exact wH hI0 h0 h2 h3 h4
    ·exact wT hI0 h0 h2 h3
  ·exfalso; have hE : t = ((0 : Int) + (s.length : Int)) := (by omega); have h5 := i5 (by omega); rw [hE] at h5; omega
 ·have hn0 := hN0
  by_cases h0 : t < (s.length : Int)
  ·by_cases h2 : wG s (t + ((aD s t (uG s t (kO al i))).length : Int)) = 0
   ·by_cases h3 : aR s (t + ((aD s t (uG s t (kO al i))).length : Int)) = []
    ·exact wW hI0 h0 h2 h3
    ·exact wM hI0 h0 h2 h3
   ·by_cases h3 : wG s (t + ((aD s t (uG s t (kO al i))).length : Int)) = 1
    ·by_cases h4 : DS s = []
     ·exact wJ hI0 h0 h2 h3 h4
     ·exact wV hI0 h0 h2 h3 h4
    ·exact wS hI0 h0 h2 h3
  ·exfalso; have hE : t = ((0 : Int) + (s.length : Int)) := (by omega); have h5 := i5 (by omega); rw [hE] at h5; omega
 ·have hn0 := hN0
  by_cases h0 : t < (s.length : Int)
  ·by_cases h2 : wG s (t + ((aD s t (uG s t (kO al i))).length : Int)) = 0
   ·by_cases h3 : aR s (t + ((aD s t (uG s t (kO al i))).length : Int)) = []
    ·exact wP hI0 h0 h2 h3
    ·exact wL hI0 h0 h2 h3
   ·by_cases h3 : wG s (t + ((aD s t (uG s t (kO al i))).length : Int)) = 1
    ·by_cases h4 : DS s = []
     ·exact wI hI0 h0 h2 h3 h4
     ·exact wU hI0 h0 h2 h3 h4
    ·exact wR hI0 h0 h2 h3
  ·exfalso; have hE : t = ((0 : Int) + (s.length : Int)) := (by omega); have h5 := i5 (by omega); rw [hE] at h5; omega
 ·have hn0 := hN0
  by_cases h0 : t < (s.length : Int)
  ·exact wQ hI0 h0
  ·refine lvOa_3 (h := EI) rfl ?_ (ah (v := St' (List.drop (Int.toNat (JS s)) (List.take t.toNat s))) (u := St' (List.drop (Int.toNat (JS s - (0 : Int))) s)) rfl rfl (congrArg (fun l => St' l) (yEG (by omega))) (aB (v := .int .i64 ((nS s))) (aB (v := St' (RS s)) (aI)))) runOa_p19
   unfold EI
   exact hc av <|hc dV <|hnil
 ·have hn0 := hN0
  by_cases h0 : t < (s.length : Int)
  ·exact wO hI0 h0
  ·exfalso; exact i12 (by omega) x1
 ·have hn0 := hN0
  by_cases h0 : t < (s.length : Int)
  ·exfalso; have h5 := wst (k := ((0 : Int) + (s.length : Int))) (cH (by omega)); omega
  ·exfalso; have h5 := wst (k := ((0 : Int) + (s.length : Int))) (cH (by omega)); omega
theorem lfOkOa_1 (s : LB) (al : List Int) (x0 : wG s ((0 : Int) + (s.length : Int)) = 1) (x1 : DS s = []) : bI (cx nu one 1 aH aQ) (EOa_1 s al) cy cA 105 (.exit 0) 4 14 16 1004 jH kQ [(6, .p 6 0), (9, .x 0), (10, .ni)] [(6, bk 42 [.und, .und, .und, .und, .x 1, .x 2, .aL, .b true, .b false])] (cv s al) (kp s al) :=
 dW (gE s al) (fun _ _ => rfl) (fun _ _ => rfl) (fun _ _ => rfl) (fun st X t ht => dT.trans (dS ((by decide : ∀ t, t ∈ cA → t < 1000000) t ht))) rfl rfl rfl Aa rfl rfl (roundsOa_1 s al x0 x1)
def aU4 (s : LB) (al : List Int) : List Value := [St' (List.drop (Int.toNat (JS s - (0 : Int))) s), .int .i64 ((nS s)), St' (RS s)]
def roEOa_2 (s : LB) (al : List Int) : List Value := [aN aO (DS s)]
noncomputable def EOa_2 (s : LB) (al : List Int) : Cx := cx (bG (aU4 s al) (rX (roEOa_2 s al) (fun _ => .bool true))) (bJ (aV (l := aU4 s al) rfl)) 1 aH aQ
theorem roundsOa_2 (s : LB) (al : List Int) (x0 : wG s ((0 : Int) + (s.length : Int)) = 1) (x1 : ¬ DS s = []) (st : Nat × Int × Int) (X : Nat → Value) (hI : cv s al st) : c9 s al (EOa_2 s al) (.exit 0) [(6, .p 6 0), (9, .x 0), (10, .ni)] [(6, bk 42 [.und, .und, .und, .und, .x 1, .x 2, .sr 15, .b true, .b false]), (15, .r 2000000 50 2 false)] st X := by
 obtain ⟨tag, t, i⟩ := st
 have hI0 := hI
 obtain ⟨i0, i1, i2, i3, i4, i5, i6, i7, i8, i9, cI, i11, i12, cM, cH, cG, i16, i17, it⟩ := eD s al tag t i hI
 rcases (show tag = 0 ∨ tag = 1 ∨ tag = 2 ∨ tag = 3 ∨ tag = 4 ∨ tag = 5 from by omega) with rfl | rfl | rfl | rfl | rfl | rfl
 ·have hn0 := hN0
  by_cases h0 : t < (s.length : Int)
  ·by_cases h2 : wG s (t + ((aD s t (uG s t (kO al i))).length : Int)) = 0
   ·by_cases h3 : aR s (t + ((aD s t (uG s t (kO al i))).length : Int)) = []
    ·exact wX hI0 h0 h2 h3
    ·exact wN hI0 h0 h2 h3
   ·by_cases h3 : wG s (t + ((aD s t (uG s t (kO al i))).length : Int)) = 1
    ·by_cases h4 : DS s = []
     ·exact wK hI0 h0 h2 h3 h4
     ·exact wH hI0 h0 h2 h3 h4
    ·exact wT hI0 h0 h2 h3
  ·exfalso; have hE : t = ((0 : Int) + (s.length : Int)) := (by omega); have h5 := i5 (by omega); rw [hE] at h5; omega
 ·have hn0 := hN0
  by_cases h0 : t < (s.length : Int)
  ·by_cases h2 : wG s (t + ((aD s t (uG s t (kO al i))).length : Int)) = 0
   ·by_cases h3 : aR s (t + ((aD s t (uG s t (kO al i))).length : Int)) = []
    ·exact wW hI0 h0 h2 h3
    ·exact wM hI0 h0 h2 h3
   ·by_cases h3 : wG s (t + ((aD s t (uG s t (kO al i))).length : Int)) = 1
    ·by_cases h4 : DS s = []
     ·exact wJ hI0 h0 h2 h3 h4
     ·exact wV hI0 h0 h2 h3 h4
    ·exact wS hI0 h0 h2 h3
  ·exfalso; have hE : t = ((0 : Int) + (s.length : Int)) := (by omega); have h5 := i5 (by omega); rw [hE] at h5; omega
 ·have hn0 := hN0
  by_cases h0 : t < (s.length : Int)
  ·by_cases h2 : wG s (t + ((aD s t (uG s t (kO al i))).length : Int)) = 0
   ·by_cases h3 : aR s (t + ((aD s t (uG s t (kO al i))).length : Int)) = []
    ·exact wP hI0 h0 h2 h3
    ·exact wL hI0 h0 h2 h3
   ·by_cases h3 : wG s (t + ((aD s t (uG s t (kO al i))).length : Int)) = 1
    ·by_cases h4 : DS s = []
     ·exact wI hI0 h0 h2 h3 h4
     ·exact wU hI0 h0 h2 h3 h4
    ·exact wR hI0 h0 h2 h3
  ·exfalso; have hE : t = ((0 : Int) + (s.length : Int)) := (by omega); have h5 := i5 (by omega); rw [hE] at h5; omega
 ·have hn0 := hN0
  by_cases h0 : t < (s.length : Int)
  ·exact wQ hI0 h0
  ·exfalso; exact x1 (i11 (by omega))
 ·have hn0 := hN0
  by_cases h0 : t < (s.length : Int)
  ·exact wO hI0 h0
  ·refine lvOa_4 (h := EF) rfl ?_ (ah (v := St' (List.drop (Int.toNat (JS s)) (List.take t.toNat s))) (u := St' (List.drop (Int.toNat (JS s - (0 : Int))) s)) rfl rfl (congrArg (fun l => St' l) (yEG (by omega))) (aB (v := .int .i64 ((nS s))) (aB (v := St' (RS s)) (aB (v := aN aO (DS s)) (aI))))) runOa_p21
   unfold EF
   exact hc av <|hc dV <|hnil
 ·have hn0 := hN0
  by_cases h0 : t < (s.length : Int)
  ·exfalso; have h5 := wst (k := ((0 : Int) + (s.length : Int))) (cH (by omega)); omega
  ·exfalso; have h5 := wst (k := ((0 : Int) + (s.length : Int))) (cH (by omega)); omega
theorem lfOkOa_2 (s : LB) (al : List Int) (x0 : wG s ((0 : Int) + (s.length : Int)) = 1) (x1 : ¬ DS s = []) : bI (cx nu one 1 aH aQ) (EOa_2 s al) cy cA 105 (.exit 0) 4 14 16 1004 jH kQ [(6, .p 6 0), (9, .x 0), (10, .ni)] [(6, bk 42 [.und, .und, .und, .und, .x 1, .x 2, .sr 15, .b true, .b false]), (15, .r 2000000 50 2 false)] (cv s al) (kp s al) :=
 dW (gE s al) (fun _ _ => rfl) (fun _ _ => rfl) (fun _ _ => rfl) (fun st X t ht => dT.trans (dS ((by decide : ∀ t, t ∈ cA → t < 1000000) t ht))) rfl rfl rfl Aa rfl rfl (roundsOa_2 s al x0 x1)
def aU3 (s : LB) (al : List Int) : List Value := [.int .i64 ((kS s)), St' (mS s)]
def roEOa_3 (s : LB) (al : List Int) : List Value := []
noncomputable def EOa_3 (s : LB) (al : List Int) : Cx := cx (bG (aU3 s al) (rX (roEOa_3 s al) (fun _ => .bool true))) (bJ (aV (l := aU3 s al) rfl)) 1 aH aQ
theorem roundsOa_3 (s : LB) (al : List Int) (x0 : wG s ((0 : Int) + (s.length : Int)) = 2) (st : Nat × Int × Int) (X : Nat → Value) (hI : cv s al st) : c9 s al (EOa_3 s al) (.exit 0) [(10, .aZ 63 (.ag [.x 0, .x 1]))] [] st X := by
 obtain ⟨tag, t, i⟩ := st
 have hI0 := hI
 obtain ⟨i0, i1, i2, i3, i4, i5, i6, i7, i8, i9, cI, i11, i12, cM, cH, cG, i16, i17, it⟩ := eD s al tag t i hI
 rcases (show tag = 0 ∨ tag = 1 ∨ tag = 2 ∨ tag = 3 ∨ tag = 4 ∨ tag = 5 from by omega) with rfl | rfl | rfl | rfl | rfl | rfl
 ·have hn0 := hN0
  by_cases h0 : t < (s.length : Int)
  ·by_cases h2 : wG s (t + ((aD s t (uG s t (kO al i))).length : Int)) = 0
   ·by_cases h3 : aR s (t + ((aD s t (uG s t (kO al i))).length : Int)) = []
    ·exact wX hI0 h0 h2 h3
    ·exact wN hI0 h0 h2 h3
   ·by_cases h3 : wG s (t + ((aD s t (uG s t (kO al i))).length : Int)) = 1
    ·by_cases h4 : DS s = []
     ·exact wK hI0 h0 h2 h3 h4
     ·exact wH hI0 h0 h2 h3 h4
    ·exact wT hI0 h0 h2 h3
  ·exfalso; have hE : t = ((0 : Int) + (s.length : Int)) := (by omega); have h5 := i5 (by omega); rw [hE] at h5; omega
 ·have hn0 := hN0
  by_cases h0 : t < (s.length : Int)
  ·by_cases h2 : wG s (t + ((aD s t (uG s t (kO al i))).length : Int)) = 0
   ·by_cases h3 : aR s (t + ((aD s t (uG s t (kO al i))).length : Int)) = []
    ·exact wW hI0 h0 h2 h3
    ·exact wM hI0 h0 h2 h3
   ·by_cases h3 : wG s (t + ((aD s t (uG s t (kO al i))).length : Int)) = 1
    ·by_cases h4 : DS s = []
     ·exact wJ hI0 h0 h2 h3 h4
     ·exact wV hI0 h0 h2 h3 h4
    ·exact wS hI0 h0 h2 h3
  ·exfalso; have hE : t = ((0 : Int) + (s.length : Int)) := (by omega); have h5 := i5 (by omega); rw [hE] at h5; omega
 ·have hn0 := hN0
  by_cases h0 : t < (s.length : Int)
  ·by_cases h2 : wG s (t + ((aD s t (uG s t (kO al i))).length : Int)) = 0
   ·by_cases h3 : aR s (t + ((aD s t (uG s t (kO al i))).length : Int)) = []
    ·exact wP hI0 h0 h2 h3
    ·exact wL hI0 h0 h2 h3
   ·by_cases h3 : wG s (t + ((aD s t (uG s t (kO al i))).length : Int)) = 1
    ·by_cases h4 : DS s = []
     ·exact wI hI0 h0 h2 h3 h4
     ·exact wU hI0 h0 h2 h3 h4
    ·exact wR hI0 h0 h2 h3
  ·exfalso; have hE : t = ((0 : Int) + (s.length : Int)) := (by omega); have h5 := i5 (by omega); rw [hE] at h5; omega
 ·have hn0 := hN0
  by_cases h0 : t < (s.length : Int)
  ·exact wQ hI0 h0
  ·exfalso; have hE : t = ((0 : Int) + (s.length : Int)) := (by omega); have h5 := cI (by omega); rw [hE] at h5; omega
 ·have hn0 := hN0
  by_cases h0 : t < (s.length : Int)
  ·exact wO hI0 h0
  ·exfalso; have hE : t = ((0 : Int) + (s.length : Int)) := (by omega); have h5 := cI (by omega); rw [hE] at h5; omega
 ·have hn0 := hN0
  by_cases h0 : t < (s.length : Int)
  ·refine lvOa_5 (h := EE) rfl ?_ (aB (v := .int .i64 ((kS s))) (aB (v := St' (mS s)) (aI))) runOa_p22
   unfold EE
   exact hc av <|hc bU <|hnil
  ·refine lvOa_5 (h := ED) rfl ?_ (aB (v := .int .i64 ((kS s))) (aB (v := St' (mS s)) (aI))) runOa_p23
   unfold ED
   exact hc av <|hc dV <|hnil
theorem lfOkOa_3 (s : LB) (al : List Int) (x0 : wG s ((0 : Int) + (s.length : Int)) = 2) : bI (cx nu one 1 aH aQ) (EOa_3 s al) cy cA 105 (.exit 0) 4 14 16 1004 jH kQ [(10, .aZ 63 (.ag [.x 0, .x 1]))] [] (cv s al) (kp s al) :=
 dW (gE s al) (fun _ _ => rfl) (fun _ _ => rfl) (fun _ _ => rfl) (fun st X t ht => dT.trans (dS ((by decide : ∀ t, t ∈ cA → t < 1000000) t ht))) rfl rfl rfl Aa rfl rfl (roundsOa_3 s al x0)
noncomputable def GQ : Code := gi (Tryd.f16.body.getD .skip) 0
theorem keySm0 : gC (di (Tryd.f16.body.getD .skip)) 4 0 0 = true := by kernel_rfl
def po : List Nat := []
def F8 : LA := [(0, .sr 1007), (1, .sr 1011), (5, .x 0)]
def FZ : LE := [(1007, .r 2000000 50 2 false), (1011, .r 2000001 50 2 false)]
def w7 (T : List (LB × LB)) (i : Int) : List Value := [.int .i64 (i), .int .i64 ((T.length : Int)), St' ((ay T i.toNat).1), St' ((ay T i.toNat).2), St' ((ay T i.toNat).1), St' ((ay T i.toNat).2), .int .i64 (i + 1), .int .i64 ((T.length : Int))]
def aR4 (T : List (LB × LB)) (i : Int) : List Value := [aN aO T, aN aO T]
def tz (st : Nat × Int) : LA := F8
def Fa (st : Nat × Int) : LE := FZ
def CM (T : List (LB × LB)) (st : Nat × Int) : List Value := w7 T (st.2)
def roSm0 (T : List (LB × LB)) (st : Nat × Int) : List Value := aR4 T (st.2)
theorem onSm0 (T : List (LB × LB)) (st : Nat × Int) : ∀ j, (bA (CM T st) j).oneCell' = true := by
 intro j
 unfold CM
 exact aV (l := w7 T (st.2)) rfl j
theorem ebSm0 (st : Nat × Int) : (dX (tz st) && ef po) = true := by
 unfold tz
 rfl
noncomputable def DSm0 (T : List (LB × LB)) (st : Nat × Int) (X : Nat → Value) : Cx := cx (bG (CM T st) (rX (roSm0 T st) X)) (bJ (onSm0 T st)) 1 aH aQ
abbrev Gm (T : List (LB × LB)) (tag : Nat) (i : Int) : Prop := (0 ≤ i) ∧ (i ≤ (T.length : Int)) ∧ (T.length ≤ 1000) ∧ (∀ q, q ∈ T → jW q) ∧ (tag < 1)
def ov (T : List (LB × LB)) (st : Nat × Int) : Prop := Gm T st.1 (st.2)
theorem Cg {T : List (LB × LB)} {tag : Nat} {i : Int} (h : Gm T tag i) : ov T (tag, i) := h
theorem unISm0 (T : List (LB × LB)) (tag : Nat) (i : Int) (h : ov T (tag, i)) : Gm T tag i := h
def yL (T : List (LB × LB)) (st : Nat × Int) : Nat := (T.length - (st.2).toNat)
abbrev A8 (T : List (LB × LB)) (E' : Cx) (ex' : Ex) (epx' : LA) (hpx' : LE) (st : Nat × Int) (X : Nat → Value) : Prop := bj E' GQ po 26 ex' 4 1014 1014 1014 tz Fa epx' hpx' (ov T) (yL T) (DSm0 T) st X
noncomputable abbrev BN (T : List (LB × LB)) (i : Int) (X : Nat → Value) : Cx := cx (bG (w7 T i) (rX (aR4 T i) X)) (bJ (aV (l := w7 T i) rfl)) 1 aH aQ
noncomputable abbrev A1 (h : LK) (x : Ex) (th : LA) (sg : List (Nat × Nat)) (m : Nat) (ep : LA) (hp : LE) : Bool := bP (code (aT h) 900 [] GQ (bD (bH F8 po) 26) ⟨ae FZ .leaf, 1014, 0, 0⟩) x po 26 1014 th sg 1014 m ep hp
theorem stSm0_0 {T : List (LB × LB)} {i : Int} {X : Nat → Value} {h : LK} (y : Nat × Int) {th : LA} {sg : List (Nat × Nat)} (ho : ∀ a' r', (a', r') ∈ h → aM (BN T i X) a' r') (hy : ov T y) (lt : yL T y < yL T (0, i)) (ht : bE (BN T i X) (DSm0 T y X) th) (run : A1 h .normal th sg 1014 (tz y) (Fa y) = true) : A8 T E' x' e' h' (0, i) X :=
 bj.next (tb := aT h) (L := []) (f := 900) y ((ab _ _).hyps ho) (bV.nil _) rfl hy lt ht run
theorem lvSm0_0 {T : List (LB × LB)} {i : Int} {X : Nat → Value} {h : LK} {th : LA} {sg : List (Nat × Nat)} (hne : cn x' .normal = false) (ho : ∀ a' r', (a', r') ∈ h → aM (BN T i X) a' r') (ht : bE (BN T i X) E' th) (run : A1 h x' th sg 1014 e' h' = true) : A8 T E' x' e' h' (0, i) X :=
 bj.leave (tb := aT h) (L := []) (f := 900) ((ab _ _).hyps ho) (bV.nil _) rfl hne ht run
def Dg : LK := [(.rl (.x 2000000) 2, .x 1), (.bin .lss (.x 0) (.x 1), .b true), (.el (.x 2000000) (.x 0) 2 0, .x 2), (.el (.x 2000000) (.x 0) 2 1, .x 3), (.el (.x 2000001) (.x 0) 2 0, .x 4), (.el (.x 2000001) (.x 0) 2 1, .x 5), (.eq 9 (.x 2) (.x 4), .b true), (.eq 9 (.x 3) (.x 5), .b true), (.bin .add (.x 0) (I6 1), .x 6)]
theorem runSm0_p0 : A1 Dg .normal [(0, .x 6), (2000000, .x 2000000), (2000001, .x 2000001)] [] 1014 F8 FZ = true := by kernel_rfl
def Df : LK := [(.rl (.x 2000000) 2, .x 7), (.bin .lss (.x 0) (.x 7), .b false)]
theorem runSm0_p1 : A1 Df (.exit 0) [(2000000, .x 2000000), (2000001, .x 2000001)] [] 1014 [] [(1007, .r 2000000 50 2 false), (1011, .r 2000001 50 2 false)] = true := by kernel_rfl
section
variable {T : List (LB × LB)} {i : Int} {X : Nat → Value}
theorem nxSm0_p0 (hI : ov T (0, i)) (h0 : i < (T.length : Int)) : A8 T E' x' e' h' (0, i) X := by
 obtain ⟨i0, i1, i2, i3, it⟩ := unISm0 T 0 i hI
 have := lL (l := T) (by assumption) i.toNat
 refine stSm0_0 (h := Dg) (0, (i + 1)) ?_ (Cg ⟨by omega, by omega, by omega, i3, by omega⟩) (by show T.length - (i + 1).toNat < T.length - i.toNat; omega) (bc (b := ((i + 1))) rfl rfl (by omega) (aB (v := aN aO T) (aB (v := aN aO T) (aI)))) runSm0_p0
 unfold Dg
 exact hc (fQ cL (aA rfl) (aG rfl) (by first | omega | (simp <;> omega))) <|hc bU <|hc (eP (j := i.toNat) (d := ([], [])) cL (by decide) (aA rfl) (aA rfl) (aG rfl) (by omega) (by omega) rfl) <|hc (eP (j := i.toNat) (d := ([], [])) cL (by decide) (aA rfl) (aA rfl) (aG rfl) (by omega) (by omega) rfl) <|hc (eP (j := i.toNat) (d := ([], [])) cL (by decide) (aA rfl) (aA rfl) (aG rfl) (by omega) (by omega) rfl) <|hc (eP (j := i.toNat) (d := ([], [])) cL (by decide) (aA rfl) (aA rfl) (aG rfl) (by omega) (by omega) rfl) <|hc (kEqTS (aA rfl) (aA rfl) tu9 (decide_eq_true rfl)) <|hc (kEqTS (aA rfl) (aA rfl) tu9 (decide_eq_true rfl)) <|hc au <|hnil
end
def aK8 (T : List (LB × LB)) : List Value := []
def roESm0_0 (T : List (LB × LB)) : List Value := [aN aO T, aN aO T]
noncomputable def ESm0_0 (T : List (LB × LB)) : Cx := cx (bG (aK8 T) (rX (roESm0_0 T) (fun _ => .bool true))) (bJ (aV (l := aK8 T) rfl)) 1 aH aQ
theorem roundsSm0_0 (T : List (LB × LB)) (st : Nat × Int) (X : Nat → Value) (hI : ov T st) : A8 T (ESm0_0 T) (.exit 0) [] [(1007, .r 2000000 50 2 false), (1011, .r 2000001 50 2 false)] st X := by
 obtain ⟨tag, i⟩ := st
 have hI0 := hI
 obtain ⟨i0, i1, i2, i3, it⟩ := unISm0 T tag i hI
 obtain rfl : tag = 0 := by omega
 skip
 by_cases h0 : i < (T.length : Int)
 ·exact nxSm0_p0 hI0 h0
 ·refine lvSm0_0 (h := Df) rfl ?_ (aB (v := aN aO T) (aB (v := aN aO T) (aI))) runSm0_p1
  unfold Df
  exact hc (fQ cL (aA rfl) (aG rfl) (by first | omega | (simp <;> omega))) <|hc dV <|hnil
theorem aF5 (T : List (LB × LB)) : bI (cx nu one 1 aH aQ) (ESm0_0 T) GQ po 26 (.exit 0) 4 1014 1014 1014 tz Fa [] [(1007, .r 2000000 50 2 false), (1011, .r 2000001 50 2 false)] (ov T) (DSm0 T) :=
 dW (yL T) (fun _ _ => rfl) (fun _ _ => rfl) (fun _ _ => rfl) (fun st X t ht => dT.trans (dS ((by decide : ∀ t, t ∈ po → t < 1000000) t ht))) rfl rfl rfl ebSm0 rfl rfl (roundsSm0_0 T)
noncomputable def AK : FI := (cD.fn.get 16).getD default
theorem aX5 : cD.fn.get 16 = some AK := by kernel_rfl
theorem aG2 : AK.body = some (Tryd.f16.body.getD .skip) := by kernel_rfl
end Go.Proofs.YtcjanblpboaleaaDoor.cgiCuts

