/- A part of the proof: an interpreter of the model's own code on partly known states, and that what it answers is what the program answers. No condition of its own. -/
import Derived.Test.YteoafgajdfbenaaKindN
set_option maxRecDepth 100000
set_option linter.unusedVariables false
namespace Go.Proofs.Yteoafgajdfbenaa
open Go Go.AX Go.Proofs
open Go.RowKit (Below)
namespace kinds
open recordLimits (isTrue)
def S0 : St := ⟨.leaf, 1, 0, 0⟩
def cmpH (i : Nat) (lo : Bool) : List (HK × AV) := [(.bin .lss (.x i) (.i .i64 1), .b lo), (.bin .gtr (.x i) (.i .i64 11), .b (!lo)), (.bin .geq (.x i) (.i .i64 1), .b (!lo)), (.bin .leq (.x i) (.i .i64 11), .b lo)]
def h01 (j : Nat) (lo : Bool) : List (HK × AV) := (.bin .eql (.i .i64 (.ofNat (j + 1))) (.x 1), .b false) :: cmpH 1 lo
def h10 (k : Nat) (lo : Bool) : List (HK × AV) := (.bin .eql (.x 0) (.i .i64 (.ofNat (k + 1))), .b false) :: cmpH 0 lo
def h00 (e l0 l1 : Bool) : List (HK × AV) := (.bin .eql (.x 0) (.x 1), .b e) :: (cmpH 0 l0 ++ cmpH 1 l1)
theorem mm : ((List.range 11).all fun j => (List.range 11).all fun k => isTrue (call tab4 400 7 [.i .i64 (.ofNat (j + 1)), .i .i64 (.ofNat (k + 1))] S0)) = true := by kernel_rfl
theorem mo : ((List.range 11).all fun j => [true, false].all fun l => isTrue (call { tab4 with hyp := h01 j l } 400 7 [.i .i64 (.ofNat (j + 1)), .x 1] S0)) = true := by kernel_rfl
theorem om : ((List.range 11).all fun j => [true, false].all fun l => isTrue (call { tab4 with hyp := h10 j l } 400 7 [.x 0, .i .i64 (.ofNat (j + 1))] S0)) = true := by kernel_rfl
theorem oo : ([true, false].all fun e => [true, false].all fun l => [true, false].all fun m => isTrue (call { tab4 with hyp := h00 e l m } 400 7 [.x 0, .x 1] S0)) = true := by kernel_rfl
end kinds
end Go.Proofs.Yteoafgajdfbenaa
