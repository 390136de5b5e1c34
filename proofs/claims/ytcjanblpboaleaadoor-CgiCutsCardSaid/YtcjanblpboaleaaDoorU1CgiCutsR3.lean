/- A part of the proof: what an interpreter answers on partly known states is what the program answers. No condition. -/
import Derived.Test.YtcjanblpboaleaaDoorU1CgiCutsO11
set_option maxRecDepth 100000
set_option linter.unusedVariables false
set_option linter.unusedSimpArgs false
set_option maxHeartbeats 4000000
namespace Go.Proofs.YtcjanblpboaleaaDoor.cgiCuts
open Go Go.AX Go.Proofs Go.Proofs.YtcjanblpboaleaaDoor
def hy9 : LK := [(.bytes [], .x 1),
 (.rn, .x 2000001),
 (.len (.x 0), .x 2),
 (.bin .gtr (.x 2) (I6 1500), .b true)]
theorem run9 : Go.AX.okB (call (aT hy9) 9000 3 [.x 0, .sr 4] ⟨j9 4 [.r 2000000 5 1 true] .leaf, 4 + List.length (α := aS) [.r 2000000 5 1 true], 0, 0⟩) = true := by kernel_rfl
def nu9 (s : LB) (bN : Nat) (bO : Nat) (bM : Nat) (at_ : List Int) : List Value := [St' s,
 St' ([] : LB),
 .int .i64 ((s.length : Int))]
def ro9 (s : LB) (bN : Nat) (bO : Nat) (bM : Nat) (at_ : List Int) : List Value := [cg .u8 at_,
 af ([] : List LB)]
theorem on9 (s : LB) (bN : Nat) (bO : Nat) (bM : Nat) (at_ : List Int) : ∀ j, (bA (nu9 s bN bO bM at_) j).oneCell' = true := aV (l := nu9 s bN bO bM at_) rfl
theorem path9 (s : LB) (bN : Nat) (bO : Nat) (bM : Nat) (at_ : List Int) (b0 : s.length ≤ 9223372036854775807) (b1 : 1 ≤ at_.length) (b2 : ∀ n, n ∈ at_ → 0 ≤ n ∧ n ≤ 255) (b3 : at_.length ≤ 9223372036854775807) (h0 : 1500 < (s.length : Int)) (w : World) (hl : aH w) (eL : nO w 1 (at_.map (Value.int .u8)) bN bO at_.length bM) : bp 3 #[St' s, .slice (some ⟨bN, bO, none⟩) at_.length bM] w (.bool true) := by
 have hn0 := hN0
 have ho : ∀ k r, (k, r) ∈ hy9 → aM (cx (bG (nu9 s bN bO bM at_) (rX (ro9 s bN bO bM at_) (fun _ => .bool true))) (bJ (on9 s bN bO bM at_)) 1 aH aQ) k r := by
  unfold hy9
  exact hc (kB0 rfl) <|hc (iI (aG rfl)) <|hc av <|hc cZ <|hnil
 obtain ⟨fi, hfi, hb⟩ := fiE
 exact rU (tb := (aT hy9)) ((ab (bG (nu9 s bN bO bM at_) (rX (ro9 s bN bO bM at_) (fun _ => .bool true))) (bJ (on9 s bN bO bM at_))).hyps ho) rfl hfi hb [.r 2000000 5 1 true] [⟨bN, bO, at_.length, bM⟩] run9 (args := [St' s, .slice (some ⟨bN, bO, none⟩) at_.length bM]) ⟨_, _, rfl, rfl, ⟨_, _, rfl, rk (by decide) rfl eL.room, rfl⟩⟩ w hl rfl (by decide) (uW (eL.arg (T.dH _) rfl) uV) rfl
end Go.Proofs.YtcjanblpboaleaaDoor.cgiCuts
