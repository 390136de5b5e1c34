/- A part of the proof: what an interpreter answers on partly known states is what the program answers. No condition. -/
import Derived.Test.YtcjanblpboaleaaDoorU1CgiCutsO11
set_option maxRecDepth 100000
set_option linter.unusedVariables false
set_option linter.unusedSimpArgs false
set_option maxHeartbeats 4000000
namespace Go.Proofs.YtcjanblpboaleaaDoor.cgiCuts
open Go Go.AX Go.Proofs Go.Proofs.YtcjanblpboaleaaDoor
def hy3 : LK := [(.bytes [], .x 1),
 (.rn, .x 2000000),
 (.len (.x 0), .x 2),
 (.bin .gtr (.x 2) (I6 1500), .b false),
 (.call 7 [.aZ 63 (.ag [.x 3, .x 4])], .x 3),
 (.call 7 [.aZ 63 (.ag [.x 5, .x 6])], .x 5),
 (.bin .eql (.x 3) (.x 5), .b true)]
def yX : LH := ⟨4, 40, 904, [(4, bk 42 [I6 1000, I6 0, .aL, .aL, I6 0, .s 0 0, .aL, .b false, .b false])], []⟩
def lf99 : LF := ⟨4, 58, [(0, .p 4 0), (1, .x 0), (6, I6 0)], [], .ret, [(4, .s 0 0), (5, .aZ 63 (.ag [.x 3, .x 4]))], some yX⟩
def lh100 : LH := ⟨4, 6, 6, yX.pre, []⟩
def lf100 : LF := ⟨4, 58, lf99.pre, [], .ret, [(4, .s 0 0), (5, .aZ 63 (.ag [.x 3, .x 4]))], some lh100⟩
def lh101 : LH := ⟨4, 14, 1004, [(5, bk 42 [I6 1000, I6 0, .aL, .aL, I6 0, .s 0 0, .aL, .b false, .b false])], []⟩
def lf101 : LF := ⟨9, 105, [(0, .x 0), (1, .es), (6, .p 5 0), (9, .s 0 0), (10, .ni), (11, I6 0), (12, I6 0)], [5, 7, 8], (.exit 0), [(10, .aZ 63 (.ag [.x 5, .x 6]))], some lh101⟩
noncomputable def tab3 : Tab := bL (bL ({ cD with hyp := hy3 }) 6 cS [lf100]) 3 jr [lf101]
theorem run3 (e : Nat) : Go.AX.okB (call tab3 9000 3 [.x 0, .es] ⟨H0 e , 4, 0, 0⟩) = true := by kernel_rfl
def nu3 (s : LB) (ba : Option Addr) (bY : Nat) : List Value := [St' s,
 St' ([] : LB),
 .int .i64 ((s.length : Int)),
 .int .i64 ((kS s)),
 St' (mS s),
 .int .i64 ((kS s)),
 St' (mS s)]
def ro3 (s : LB) (ba : Option Addr) (bY : Nat) : List Value := [af ([] : List LB)]
theorem on3 (s : LB) (ba : Option Addr) (bY : Nat) : ∀ j, (bA (nu3 s ba bY) j).oneCell' = true := aV (l := nu3 s ba bY) rfl
theorem path3 (s : LB) (ba : Option Addr) (bY : Nat) (b0 : s.length ≤ 9223372036854775807) (h0 : ¬ (1500 < (s.length : Int))) (h1 : ¬ (wG s ((0 : Int) + (s.length : Int)) = 0)) (h2 : ¬ (wG s ((0 : Int) + (s.length : Int)) = 1)) (w : World) (hl : aH w) : bp 3 #[St' s, .slice ba 0 bY] w (.bool true) := by
 have hn0 := hN0
 have hw2 := nR s ((0 : Int) + (s.length : Int))
 have ho : ∀ k r, (k, r) ∈ hy3 → aM (cx (bG (nu3 s ba bY) (rX (ro3 s ba bY) (fun _ => .bool true))) (bJ (on3 s ba bY)) 1 aH aQ) k r := by
  unfold hy3
  exact hc (kB0 rfl) <|hc (iI (aG rfl)) <|hc av <|hc cN <|hc (zt (kv := (kS s)) (m := (mS s)) (isErr (aA rfl) (aA rfl)) (aG rfl)) <|hc (zt (kv := (kS s)) (m := (mS s)) (isErr (aA rfl) (aA rfl)) (aG rfl)) <|hc qQ <|hnil
 exact pG (tb := tab3) (aq.bz (aq.bz ((ab (bG (nu3 s ba bY) (rX (ro3 s ba bY) (fun _ => .bool true))) (bJ (on3 s ba bY))).hyps ho) (by omega) cY cX (bK (bx rfl ⟨0, cW, mZ (l := lf99) (l' := lf100) (h := yX) (h' := lh100) (m := 6) (ids := [0]) (gH := [3, 4]) (sg1 := []) (sg2 := []) (bI.use (l := lf99) (h := yX) (ma 4 s s (0 : Int) (by omega) (by omega) (by omega) mG (by decide) (by omega)) (0, (0 : Int)) (gd ⟨by omega, by omega, fc s, fun _ => by omega, by omega, by omega, by omega, by omega⟩) rfl (by kernel_rfl) (ao := [(0, .x 0), (1, I6 0), (2, I6 0)]) (ai := []) (fun X => aB (v := St' s) (ad bS (ad (show Is _ (I6 0) (.int .i64 (((0 : Int) + (0 : Int)))) from bg (v := .int .i64 0) (ct _ _) (by first | rfl | (congr 1; omega))) (aI)))) (by kernel_rfl) (ak := [(3, .x 0), (4, .x 1)]) (aB (v := .int .i64 ((kS s))) (aB (v := St' (mS s)) (aI))) (by kernel_rfl)) rfl rfl (by kernel_rfl)⟩) aj)) (by omega) (dv (by omega) (by omega) m8) lv (bK (bx rfl ⟨0, yu, bI.use (l := lf101) (h := lh101) (lfOkOe_3 s (by omega)) (0, (0 : Int), (0 : Int)) (eF ⟨by omega, by omega, by omega, by omega, by omega, fun _ => fc s, fun _ => rfl, by omega, by omega, by omega, by omega, by omega, by omega, by omega, by omega, by omega⟩) rfl (by kernel_rfl) (ao := [(0, .x 0), (1, I6 0), (2, I6 0), (3, I6 0)]) (ai := []) (fun X => aB (v := St' s) (ad bS (ad bS (ad bS (aI))))) (by kernel_rfl) (ak := [(5, .x 0), (6, .x 1)]) (aB (v := .int .i64 ((kS s))) (aB (v := St' (mS s)) (aI))) (by kernel_rfl)⟩) aj)) rfl (ez (by omega)) m0 (fun e => run3 e ) (args := [St' s, .slice ba 0 bY]) (by simp only [aJ, Rel]; exact ⟨_, _, rfl, rfl, ⟨_, _, rfl, ⟨_, _, rfl⟩, rfl⟩⟩) w hl
def hy4 : LK := [(.bytes [], .x 1),
 (.rn, .x 2000000),
 (.len (.x 0), .x 2),
 (.bin .gtr (.x 2) (I6 1500), .b true)]
theorem run4 (e : Nat) : Go.AX.okB (call (aT hy4) 9000 3 [.x 0, .es] ⟨H0 e , 4, 0, 0⟩) = true := by kernel_rfl
def nu4 (s : LB) (ba : Option Addr) (bY : Nat) : List Value := [St' s,
 St' ([] : LB),
 .int .i64 ((s.length : Int))]
def ro4 (s : LB) (ba : Option Addr) (bY : Nat) : List Value := [af ([] : List LB)]
theorem on4 (s : LB) (ba : Option Addr) (bY : Nat) : ∀ j, (bA (nu4 s ba bY) j).oneCell' = true := aV (l := nu4 s ba bY) rfl
theorem path4 (s : LB) (ba : Option Addr) (bY : Nat) (b0 : s.length ≤ 9223372036854775807) (h0 : 1500 < (s.length : Int)) (w : World) (hl : aH w) : bp 3 #[St' s, .slice ba 0 bY] w (.bool true) := by
 have hn0 := hN0
 have ho : ∀ k r, (k, r) ∈ hy4 → aM (cx (bG (nu4 s ba bY) (rX (ro4 s ba bY) (fun _ => .bool true))) (bJ (on4 s ba bY)) 1 aH aQ) k r := by
  unfold hy4
  exact hc (kB0 rfl) <|hc (iI (aG rfl)) <|hc av <|hc cZ <|hnil
 obtain ⟨fi, hfi, hb⟩ := fiE
 exact pG (tb := (aT hy4)) ((ab (bG (nu4 s ba bY) (rX (ro4 s ba bY) (fun _ => .bool true))) (bJ (on4 s ba bY))).hyps ho) rfl hfi hb (fun e => run4 e ) (args := [St' s, .slice ba 0 bY]) (by simp only [aJ, Rel]; exact ⟨_, _, rfl, rfl, ⟨_, _, rfl, ⟨_, _, rfl⟩, rfl⟩⟩) w hl
def hy5 : LK := [(.bytes [], .x 1),
 (.rn, .x 2000001),
 (.len (.x 0), .x 2),
 (.bin .gtr (.x 2) (I6 1500), .b false)]
def ym : LH := ⟨4, 40, 904, [(5, bk 42 [I6 1000, I6 0, .aL, .aL, I6 0, .s 0 0, .aL, .b false, .b false])], [(5, bk 42 [.und, .und, .und, .und, .und, .und, .und, .b false, .b false])]⟩
def C6 : LF := ⟨4, 58, [(0, .p 5 0), (1, .x 0), (6, I6 0)], [], (.exit 0), [(0, .p 5 0), (1, .x 3)], some ym⟩
def lh103 : LH := ⟨4, 7, 7, ym.pre, [(5, bk 42 [.und, .und, .und, .und, .und, .und, .und, .b false, .b false])]⟩
def lf103 : LF := ⟨4, 58, C6.pre, [], (.exit 0), [(0, .p 5 0), (1, .x 3)], some lh103⟩
def lh170 : LH := ⟨4, 14, 1004, [(4, .r 2000000 5 1 true), (6, bk 42 [I6 1000, I6 0, .aL, .aL, I6 0, .s 0 0, .aL, .b false, .b false])], [(6, bk 42 [.und, .und, .und, .und, .und, .und, .und, .b false, .b false])]⟩
def lf170 : LF := ⟨9, 105, [(0, .x 0), (1, .sr 4), (6, .p 6 0), (9, .s 0 0), (10, .ni), (11, I6 0), (12, I6 0)], [5, 7, 8], (.exit 0), [(6, .p 6 0), (9, .s 0 0), (10, .ni)], some lh170⟩
noncomputable def tab5 : Tab := bL (bL ({ cD with hyp := hy5 }) 6 cS [lf103]) 3 jr [lf170]
theorem run5 : Go.AX.okB (call tab5 9000 3 [.x 0, .sr 4] ⟨j9 4 [.r 2000000 5 1 true] .leaf, 4 + List.length (α := aS) [.r 2000000 5 1 true], 0, 0⟩) = true := by kernel_rfl
def nu5 (s : LB) (bN : Nat) (bO : Nat) (bM : Nat) (at_ : List Int) : List Value := [St' s,
 St' ([] : LB),
 .int .i64 ((s.length : Int)),
 St' s]
def ro5 (s : LB) (bN : Nat) (bO : Nat) (bM : Nat) (at_ : List Int) : List Value := [cg .u8 at_,
 af ([] : List LB)]
theorem on5 (s : LB) (bN : Nat) (bO : Nat) (bM : Nat) (at_ : List Int) : ∀ j, (bA (nu5 s bN bO bM at_) j).oneCell' = true := aV (l := nu5 s bN bO bM at_) rfl
theorem path5 (s : LB) (bN : Nat) (bO : Nat) (bM : Nat) (at_ : List Int) (b0 : s.length ≤ 9223372036854775807) (b1 : 1 ≤ at_.length) (b2 : ∀ n, n ∈ at_ → 0 ≤ n ∧ n ≤ 255) (b3 : at_.length ≤ 9223372036854775807) (h0 : ¬ (1500 < (s.length : Int))) (h1 : wG s ((0 : Int) + (s.length : Int)) = 0) (w : World) (hl : aH w) (eL : nO w 1 (at_.map (Value.int .u8)) bN bO at_.length bM) : bp 3 #[St' s, .slice (some ⟨bN, bO, none⟩) at_.length bM] w (.bool true) := by
 have hn0 := hN0
 have ho : ∀ k r, (k, r) ∈ hy5 → aM (cx (bG (nu5 s bN bO bM at_) (rX (ro5 s bN bO bM at_) (fun _ => .bool true))) (bJ (on5 s bN bO bM at_)) 1 aH aQ) k r := by
  unfold hy5
  exact hc (kB0 rfl) <|hc (iI (aG rfl)) <|hc av <|hc cN <|hnil
 exact rU (tb := tab5) (aq.bz (aq.bz ((ab (bG (nu5 s bN bO bM at_) (rX (ro5 s bN bO bM at_) (fun _ => .bool true))) (bJ (on5 s bN bO bM at_))).hyps ho) (by omega) cY cX (bK (bx rfl ⟨0, cW, mZ (l := C6) (l' := lf103) (h := ym) (h' := lh103) (m := 7) (ids := [0]) (gH := [3]) (sg1 := []) (sg2 := []) (bI.use (l := C6) (h := ym) (aL9 5 s s (0 : Int) (by omega) (by omega) (by omega) mG (by decide) (by assumption)) (0, (0 : Int)) (gd ⟨by omega, by omega, fc s, fun _ => by omega, by omega, by omega, by omega, by omega⟩) rfl (by kernel_rfl) (ao := [(0, .x 0), (1, I6 0), (2, I6 0)]) (ai := []) (fun X => aB (v := St' s) (ad bS (ad (show Is _ (I6 0) (.int .i64 (((0 : Int) + (0 : Int)))) from bg (v := .int .i64 0) (ct _ _) (by first | rfl | (congr 1; omega))) (aI)))) (by kernel_rfl) (ak := [(3, .x 0)]) (aB (v := St' s) (aI)) (by kernel_rfl)) rfl rfl (by kernel_rfl)⟩) aj)) (by omega) (dv (by omega) (by omega) m8) lv (bK (bx rfl ⟨0, yw, bI.use (l := lf170) (h := lh170) (lfOkOa_0 s at_ (by assumption)) (0, (0 : Int), (0 : Int)) (eG ⟨by omega, by omega, by omega, by omega, by omega, fun _ => fc s, fun _ => rfl, by omega, by omega, by omega, by omega, by omega, by omega, by omega, by omega, by assumption, by omega, by omega, by omega⟩) rfl (by kernel_rfl) (ao := [(0, .x 0), (1, I6 0), (2, I6 0), (3, I6 0), (2000000, .x 2000000)]) (ai := []) (fun X => aB (v := St' s) (ad bS (ad bS (ad bS (aB (v := cg .u8 at_) (aI)))))) (by kernel_rfl) (ak := []) (aI) (by kernel_rfl)⟩) aj)) rfl (ez (by omega)) m0 [.r 2000000 5 1 true] [⟨bN, bO, at_.length, bM⟩] run5 (args := [St' s, .slice (some ⟨bN, bO, none⟩) at_.length bM]) ⟨_, _, rfl, rfl, ⟨_, _, rfl, rk (by decide) rfl eL.room, rfl⟩⟩ w hl rfl (by decide) (uW (eL.arg (T.dH _) rfl) uV) rfl
end Go.Proofs.YtcjanblpboaleaaDoor.cgiCuts
