/- A part of the proof: an interpreter of the model's own code on partly known states, and that what it answers is what the program answers. No condition of its own. -/
import Derived.Test.YtipdlfkjablekaaDoorHXpart4
import Derived.Test.YtipdlfkjablekaaDoorTD
namespace Go.AX
theorem num_step {B : Int} {s : List UInt8} {i n V : Int} (hB : B = 10 ∨ B = 16) (c1 : okD B s) (hl : s.length ≤ 9) (i0 : 0 ≤ i) (h0 : i < (s.length : Int)) (i2 : 0 ≤ n) (i3 : n < (16 : Int) ^ i.toNat) (i4 : valF B (s.drop i.toNat) n = V) :
    (0 ≤ i + 1) ∧ (i + 1 ≤ (s.length : Int)) ∧ (0 ≤ n * B + digI (bt s i.toNat)) ∧ (n * B + digI (bt s i.toNat) < (16 : Int) ^ (i + 1).toNat) ∧ (valF B (s.drop (i + 1).toNat) (n * B + digI (bt s i.toNat)) = V) := by
  have e : (i + 1).toNat = i.toNat + 1 := by omega
  have hd := okD_at (B := B) c1 (i := i.toNat) (by omega)
  have hb := numBd (i := i.toNat) (B := B) hB i2 i3 (by omega)
  have hg := digI_bd (bt s i.toNat)
  rw [e]
  refine ⟨by omega, by omega, by omega, numPow hB i2 i3 hd, ?_⟩
  rw [← i4, valDrop (i := i.toNat) (by omega)]
theorem digs_dec4 {b : Bool} {k : Int} (h0 : 0 ≤ k) (h1 : k < 10000) : ((digs 10 b k).length = 1 ∧ 0 ≤ k ∧ k < 10) ∨ ((digs 10 b k).length = 2 ∧ 10 ≤ k ∧ k < 100) ∨ ((digs 10 b k).length = 3 ∧ 100 ≤ k ∧ k < 1000) ∨ ((digs 10 b k).length = 4 ∧ 1000 ≤ k ∧ k < 10000) := by
  unfold digs
  by_cases g1 : k < 10
  · rw [digs_step (x := k) (by omega) (fun h => h.2 rfl)]
    rw [show k / 10 = 0 by omega, digs_end (by simp)]
    left; exact ⟨rfl, by omega, by omega⟩
  by_cases g2 : k < 100
  · rw [digs_step (x := k) (by omega) (fun h => h.2 rfl)]
    rw [digs_step (x := k / 10) (by omega) (fun h => by omega)]
    rw [show k / 10 / 10 = 0 by omega, digs_end (by simp)]
    right; left; exact ⟨rfl, by omega, by omega⟩
  by_cases g3 : k < 1000
  · rw [digs_step (x := k) (by omega) (fun h => h.2 rfl)]
    rw [digs_step (x := k / 10) (by omega) (fun h => by omega)]
    rw [digs_step (x := k / 10 / 10) (by omega) (fun h => by omega)]
    rw [show k / 10 / 10 / 10 = 0 by omega, digs_end (by simp)]
    right; right; left; exact ⟨rfl, by omega, by omega⟩
  rw [digs_step (x := k) (by omega) (fun h => h.2 rfl)]
  rw [digs_step (x := k / 10) (by omega) (fun h => by omega)]
  rw [digs_step (x := k / 10 / 10) (by omega) (fun h => by omega)]
  rw [digs_step (x := k / 10 / 10 / 10) (by omega) (fun h => by omega)]
  rw [show k / 10 / 10 / 10 / 10 = 0 by omega, digs_end (by simp)]
  right; right; right; exact ⟨rfl, by omega, by omega⟩
theorem digs_hex4 {b : Bool} {k : Int} (h0 : 0 ≤ k) (h1 : k < 10000) : ((digs 16 b k).length = 1 ∧ 0 ≤ k ∧ k < 16) ∨ ((digs 16 b k).length = 2 ∧ 16 ≤ k ∧ k < 256) ∨ ((digs 16 b k).length = 3 ∧ 256 ≤ k ∧ k < 4096) ∨ ((digs 16 b k).length = 4 ∧ 4096 ≤ k ∧ k < 65536) := by
  unfold digs
  by_cases g1 : k < 16
  · rw [digs_step (x := k) (by omega) (fun h => h.2 rfl)]
    rw [show k / 16 = 0 by omega, digs_end (by simp)]
    left; exact ⟨rfl, by omega, by omega⟩
  by_cases g2 : k < 256
  · rw [digs_step (x := k) (by omega) (fun h => h.2 rfl)]
    rw [digs_step (x := k / 16) (by omega) (fun h => by omega)]
    rw [show k / 16 / 16 = 0 by omega, digs_end (by simp)]
    right; left; exact ⟨rfl, by omega, by omega⟩
  by_cases g3 : k < 4096
  · rw [digs_step (x := k) (by omega) (fun h => h.2 rfl)]
    rw [digs_step (x := k / 16) (by omega) (fun h => by omega)]
    rw [digs_step (x := k / 16 / 16) (by omega) (fun h => by omega)]
    rw [show k / 16 / 16 / 16 = 0 by omega, digs_end (by simp)]
    right; right; left; exact ⟨rfl, by omega, by omega⟩
  rw [digs_step (x := k) (by omega) (fun h => h.2 rfl)]
  rw [digs_step (x := k / 16) (by omega) (fun h => by omega)]
  rw [digs_step (x := k / 16 / 16) (by omega) (fun h => by omega)]
  rw [digs_step (x := k / 16 / 16 / 16) (by omega) (fun h => by omega)]
  rw [show k / 16 / 16 / 16 / 16 = 0 by omega, digs_end (by simp)]
  right; right; right; exact ⟨rfl, by omega, by omega⟩

end Go.AX
