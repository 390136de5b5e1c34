/- A part of the proof: an interpreter of the model's own code on partly known states, and that what it answers is what the program answers. No condition of its own. -/
import Derived.Test.YtojgdbbjblaalaaDoorAXq
set_option linter.unusedSimpArgs false
set_option linter.unusedVariables false
namespace Go.AX
open Go.RowKit (Below)
section
variable {P : Program} {w : World}
/-- what is appended: how many, and its cells, in whatever world has this heap -/
structure Apd (P : Program) (w : World) (ats : Array Nat) (e : Nat) (ie : TypeInfo) (x : Value) (n : Nat) (news : List Value) : Prop where
  ex : ∃ xt dx, ats[1]? = some xt ∧ P.underlying xt = some dx ∧
    (((∀ k, dx ≠ .int k) ∧ (∀ w', (Builtin.lenOf x).run P w' = .ok n w') ∧ ∀ w', w'.heap = w.heap → (Builtin.firstCells ie.size n x).run P w' = .ok news.toArray w') ∨
     ((∃ k, dx = .int k) ∧ (∃ k, x = .int k (n : Int)) ∧ n ≤ 140737488355328 ∧ n * ie.bytes ≤ 140737488355328 ∧ ∃ z, ie.zero = some z ∧ z.cells.toList.length = ie.size ∧ news = (madeCells z.cells (n * ie.size)).toList))
theorem zeroCells_made (z : Array Value) (n s : Nat) (h : z.toList.length = s) : Builtin.zeroCells z n = madeCells z (n * s) := by
  unfold Builtin.zeroCells madeCells
  rw [← h]; simp
set_option maxHeartbeats 2000000 in
theorem app_room {ats : Array Nat} {st e ty n : Nat} {ie : TypeInfo} {a : Addr} {sLen sCap : Nat} {x : Value} {news : List Value} (h0 : ats[0]? = some st) (hst : P.underlying st = some (.slice e)) (hie : P.info? e = some ie)
    (hA : Apd P w ats e ie x n news) (hroom : sLen + n ≤ sCap) :
    (Builtin.append_ ats ty #[.slice (some a) sLen sCap, x]).run P w = ((storeCells (a.add (sLen * ie.size)) news).run P w).andThen fun _ w' => .ok (.slice (some a) (sLen + n) sCap) w' := by
  obtain ⟨xt, dx, h1, hx, hor⟩ := hA.ex
  rcases hor with ⟨hni, hlen, hnew⟩ | ⟨⟨k, rfl⟩, ⟨kx, rfl⟩, hb1, hb2, z, hz, hzl, rfl⟩
  · cases dx <;> first
      | exact absurd rfl (hni _)
      | (simp [Builtin.append_, h0, h1, run_underlying hst, run_underlying hx, run_size hie, hlen, hroom, hnew w rfl]; done)
      | (simp [Builtin.append_, h0, h1, run_underlying hst, run_underlying hx, run_size hie, hlen, hroom, hnew w rfl]; rfl)
  · have hw : IntKind.i64.wrap (n : Int) = n := by rw [IntKind.wrap_i64]; omega
    have hnb : ¬ (281474976710656 < (n : Int) * (ie.bytes : Int)) := by
      rw [← Int.natCast_mul]; omega
    have hneg : ¬ ((n : Int) < 0) := by omega
    by_cases hz0 : n * ie.size = 0
    · have : madeCells z.cells (n * ie.size) = #[] := by rw [hz0]; exact Array.eq_empty_of_size_eq_zero (size_madeCells _ _)
      rw [this]
      simp [Builtin.append_, h0, h1, run_underlying hst, run_underlying hx, run_size hie, asInt, asIntOf, hw, run_info hie, hroom, hz0, hnb, hneg]
    · have hzc := zeroCells_made z.cells n ie.size hzl
      simp [Builtin.append_, h0, h1, run_underlying hst, run_underlying hx, run_size hie, asInt, asIntOf, hw, run_info hie, hroom, hz0, hnb, hneg, zeroValue, hz, hzc]
set_option maxHeartbeats 2000000 in
theorem app_roomN {ats : Array Nat} {st e ty n : Nat} {ie : TypeInfo} {sLen sCap : Nat} {x : Value} {news : List Value} (h0 : ats[0]? = some st) (hst : P.underlying st = some (.slice e)) (hie : P.info? e = some ie)
    (hA : Apd P w ats e ie x n news) (hroom : sLen + n ≤ sCap) :
    (Builtin.append_ ats ty #[.slice none sLen sCap, x]).run P w = .ok (.slice none (sLen + n) sCap) w := by
  obtain ⟨xt, dx, h1, hx, hor⟩ := hA.ex
  rcases hor with ⟨hni, hlen, hnew⟩ | ⟨⟨k, rfl⟩, ⟨kx, rfl⟩, hb1, hb2, z, hz, hzl, rfl⟩
  · cases dx <;> first
      | exact absurd rfl (hni _)
      | (simp [Builtin.append_, h0, h1, run_underlying hst, run_underlying hx, run_size hie, hlen, hroom, hnew w rfl]; done)
      | (simp [Builtin.append_, h0, h1, run_underlying hst, run_underlying hx, run_size hie, hlen, hroom, hnew w rfl]; rfl)
  · have hw : IntKind.i64.wrap (n : Int) = n := by rw [IntKind.wrap_i64]; omega
    have hnb : ¬ (281474976710656 < (n : Int) * (ie.bytes : Int)) := by
      rw [← Int.natCast_mul]; omega
    have hneg : ¬ ((n : Int) < 0) := by omega
    by_cases hz0 : n * ie.size = 0
    · have : madeCells z.cells (n * ie.size) = #[] := by rw [hz0]; exact Array.eq_empty_of_size_eq_zero (size_madeCells _ _)
      try rw [this]
      simp [Builtin.append_, h0, h1, run_underlying hst, run_underlying hx, run_size hie, asInt, asIntOf, hw, run_info hie, hroom, hz0, hnb, hneg]
    · have hzc := zeroCells_made z.cells n ie.size hzl
      simp [Builtin.append_, h0, h1, run_underlying hst, run_underlying hx, run_size hie, asInt, asIntOf, hw, run_info hie, hroom, hz0, hnb, hneg, zeroValue, hz, hzc]
set_option maxHeartbeats 2000000 in
theorem app_grow {ats : Array Nat} {st e ty n : Nat} {ie : TypeInfo} {base : Option Addr} {sLen sCap : Nat} {x : Value} {olds news : List Value} {z : Value} (h0 : ats[0]? = some st) (hst : P.underlying st = some (.slice e)) (hie : P.info? e = some ie)
    (hz : ie.zero = some z) (hzl : z.cells.toList.length = ie.size) (hA : Apd P w ats e ie x n news) (hroom : sCap < sLen + n) (hold : ∀ w', w'.heap = w.heap → (Builtin.firstCells ie.size sLen (.slice base sLen sCap)).run P w' = .ok olds.toArray w')
    (hb1 : (sLen + n) * ie.bytes ≤ 140737488355328) (hb2 : sLen + n ≤ 140737488355328) :
    (Builtin.append_ ats ty #[.slice base sLen sCap, x]).run P w = .ok (.slice (some ⟨w.heap.size, 0, none⟩) (sLen + n) (grownCap w (sLen + n) sCap e))
      (w.drew.alloc (.cells (olds.toArray ++ (news.toArray ++ madeCells z.cells ((grownCap w (sLen + n) sCap e - (sLen + n)) * ie.size))) e)) := by
  obtain ⟨xt, dx, h1, hx, hor⟩ := hA.ex
  have hnr : ¬ (sLen + n ≤ sCap) := by omega
  have hfit := growslice_fits hroom hb1
  have hfit' : ¬ (281474976710656 < Builtin.nextslicecap (sLen + n) sCap * ie.bytes) := by omega
  have h63 : ¬ ((9223372036854775807 : Int) < (sLen : Int) + (n : Int)) := by omega
  have hzc := zeroCells_made z.cells (grownCap w (sLen + n) sCap e - (sLen + n)) ie.size hzl
  have hd : w.drew.heap = w.heap := rfl
  have hch : (choose (.appendCap (sLen + n) sCap e)).run P w = .ok (grownCap w (sLen + n) sCap e) w.drew := by
    simp [Question.forced, grownCap]
  rcases hor with ⟨hni, hlen, hnew⟩ | ⟨⟨k, rfl⟩, ⟨kx, rfl⟩, hb1, hb2, z', hz', hzl', rfl⟩
  · cases dx <;> first
      | exact absurd rfl (hni _)
      | (simp [-run_choose, Builtin.append_, h0, h1, run_underlying hst, run_underlying hx, run_size hie, run_info hie, hlen, hnr, h63, hfit', hch, hnew _ hd, hold _ hd, zeroValue, hz, hzc, newRow]; done)
      | (simp [-run_choose, Builtin.append_, h0, h1, run_underlying hst, run_underlying hx, run_size hie, run_info hie, hlen, hnr, h63, hfit', hch, hnew _ hd, hold _ hd, zeroValue, hz, hzc, newRow]; rfl)
  · have hw : IntKind.i64.wrap (n : Int) = n := by rw [IntKind.wrap_i64]; omega
    have hnb : ¬ (281474976710656 < (n : Int) * (ie.bytes : Int)) := by
      rw [← Int.natCast_mul]; omega
    have hneg : ¬ ((n : Int) < 0) := by omega
    rw [hz] at hz'; injection hz' with hz'; subst hz'
    by_cases hz0 : n * ie.size = 0
    · have : madeCells z.cells (n * ie.size) = #[] := by rw [hz0]; exact Array.eq_empty_of_size_eq_zero (size_madeCells _ _)
      rw [this]
      simp [-run_choose, Builtin.append_, h0, h1, run_underlying hst, run_underlying hx, run_size hie, run_info hie, asInt, asIntOf, hw, hz0, hnb, hneg, hnr, h63, hfit', hch, hold _ hd, zeroValue, hz, hzc, newRow]
    · have hzc2 := zeroCells_made z.cells n ie.size hzl
      simp [-run_choose, Builtin.append_, h0, h1, run_underlying hst, run_underlying hx, run_size hie, run_info hie, asInt, asIntOf, hw, hz0, hnb, hneg, hnr, h63, hfit', hch, hold _ hd, zeroValue, hz, hzc, hzc2, newRow]
      try rfl
end
end Go.AX
