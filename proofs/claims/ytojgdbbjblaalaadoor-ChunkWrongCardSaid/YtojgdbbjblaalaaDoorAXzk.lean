/- A part of the proof: an interpreter of the model's own code on partly known states, and that what it answers is what the program answers. No condition of its own. -/
import Derived.Test.YtojgdbbjblaalaaDoorAXzj
import Derived.Lib.Bytealg
set_option linter.unusedSimpArgs false
set_option linter.unusedVariables false
namespace Go.AX
open Go.RowKit (Below)
open Go.Extern
theorem strB_cons (k n : Nat) : strB (k + 1) n = UInt8.ofNat (n % 256) :: strB k (Nat.shiftRight n 8) := by
  unfold strB
  rw [List.range_succ_eq_map, List.map_cons, List.map_map]
  congr 1
  apply List.map_congr_left
  intro j _
  show UInt8.ofNat (byteAt n (j + 1)) = UInt8.ofNat (byteAt (n >>> 8) j)
  rw [byteAt_eq, byteAt_eq, Nat.shiftRight_eq_div_pow, Nat.div_div_eq_div_mul, ← Nat.pow_add, show 8 + 8 * j = 8 * (j + 1) by omega]
theorem ofNat_beq (a c : Nat) (ha : a < 256) (hc : c < 256) : (UInt8.ofNat a == UInt8.ofNat c) = Nat.beq a c := by
  have e : (UInt8.ofNat a = UInt8.ofNat c) ↔ a = c := by
    rw [← UInt8.toNat_inj]; simp [Nat.mod_eq_of_lt ha, Nat.mod_eq_of_lt hc]
  by_cases h : a = c
  · subst h; simp
  · have h2 : Nat.beq a c = false := by
      cases hb : Nat.beq a c with
      | false => rfl
      | true => exact absurd (Nat.eq_of_beq_eq_true hb) h
    rw [h2, beq_eq_false_iff_ne]; exact fun e' => h (e.1 e')
theorem find_spec (c : Nat) (hc : c < 256) : ∀ (k n j : Nat), (match findByte k n c j with | some i => ((i - j : Nat) : Int) | none => -1) = Lib.indexByte (strB k n) (UInt8.ofNat c) ∧ ∀ i, findByte k n c j = some i → j ≤ i
  | 0, n, j => ⟨rfl, fun i h => by simp [findByte] at h⟩
  | k + 1, n, j => by
    rw [strB_cons]
    unfold Lib.indexByte findByte
    rw [ofNat_beq _ _ (Nat.mod_lt _ (by omega)) hc]
    show (match cond (Nat.beq (n % 256) c) (some j) (findByte k (Nat.shiftRight n 8) c (Nat.succ j)) with | some i => ((i - j : Nat) : Int) | none => -1) = _ ∧ ∀ i, cond (Nat.beq (n % 256) c) (some j) (findByte k (Nat.shiftRight n 8) c (Nat.succ j)) = some i → j ≤ i
    cases hb : Nat.beq (n % 256) c with
    | true =>
      simp only [cond_true, if_true]
      refine ⟨by simp, fun i h => by injection h with h; omega⟩
    | false =>
      simp only [cond_false, Bool.false_eq_true, if_false]
      obtain ⟨h1, h2⟩ := find_spec c hc k (Nat.shiftRight n 8) (Nat.succ j)
      refine ⟨?_, fun i h => by have := h2 i h; omega⟩
      rw [← h1]
      cases hf : findByte k (Nat.shiftRight n 8) c (Nat.succ j) with
      | none => rfl
      | some i =>
        have := h2 i hf
        simp only []
        have hne : (((i - Nat.succ j : Nat) : Int) == -1) = false := by
          rw [beq_eq_false_iff_ne]; omega
        rw [hne]
        simp only [Bool.false_eq_true, if_false]
        omega
theorem cnt_spec (c : Nat) (hc : c < 256) : ∀ (k n : Nat), cntByte k n c = Lib.countByte (strB k n) (UInt8.ofNat c)
  | 0, n => rfl
  | k + 1, n => by
    rw [strB_cons]
    unfold cntByte Lib.countByte
    rw [List.count_cons, ofNat_beq _ _ (Nat.mod_lt _ (by omega)) hc]
    have ih := cnt_spec c hc k (Nat.shiftRight n 8)
    unfold Lib.countByte at ih
    show cond (Nat.beq (n % 256) c) _ _ = _
    cases hb : Nat.beq (n % 256) c with
    | true => simp only [cond_true, if_true, ih]
    | false => simp only [cond_false, Bool.false_eq_true, if_false, ih]; rfl
section
variable {C : Cx} {tb : Tab} {fn : Func} {ρ : Rho}
theorem inv3 {l : List AV} {S S' : St} {v : AV} (h : ext tb 3 l S = some (v, S')) : ∃ x y, l = [x, y] ∧ x3 x y S = some (v, S') := by
  match l, h with
  | [x, y], h => exact ⟨x, y, rfl, h⟩
  | [], h => simp only [ext] at h; exact (fail_inv h).elim
  | [_], h => simp only [ext] at h; exact (fail_inv h).elim
  | _ :: _ :: _ :: _, h => simp only [ext] at h; exact (fail_inv h).elim
theorem inv4 {l : List AV} {S S' : St} {v : AV} (h : ext tb 4 l S = some (v, S')) : ∃ x y, l = [x, y] ∧ x4 x y S = some (v, S') := by
  match l, h with
  | [x, y], h => exact ⟨x, y, rfl, h⟩
  | [], h => simp only [ext] at h; exact (fail_inv h).elim
  | [_], h => simp only [ext] at h; exact (fail_inv h).elim
  | _ :: _ :: _ :: _, h => simp only [ext] at h; exact (fail_inv h).elim
theorem byQ_inv {f : Nat → AV} {y : AV} {S S' : St} {v : AV} (h : byQ f y S = some (v, S')) : ∃ c, y = .i .u8 (.ofNat c) ∧ c < 256 ∧ v = f c ∧ S' = S := by
  unfold byQ at h
  split at h
  · obtain ⟨hc, h2⟩ := cond_inv h
    obtain ⟨rfl, rfl⟩ := ret_inv h2
    exact ⟨_, rfl, Nat.le_of_ble_eq_true hc, rfl, rfl⟩
  · exact (fail_inv h).elim
theorem ext3_ok (h1 : (Extern.findNext fn).isNone = true) (h2 : Extern.find fn = some BytealgIndexByte.indexByte) : ExtOk C tb 3 fn := by
  refine ⟨none_of h1, _, h2, fun B l S v S' ρ w args h hF hng hl hfree => ?_⟩
  obtain ⟨x, y, rfl, h0⟩ := inv3 h
  clear h
  obtain ⟨x', y', rfl, hx, hy⟩ := rel2 hl
  unfold x3 at h0
  split at h0
  · rename_i k n
    obtain ⟨c, rfl, hc, rfl, rfl⟩ := byQ_inv h0
    simp only [Rel] at hx hy
    obtain ⟨rfl, hn⟩ := hx
    subst hy
    refine ⟨ρ, _, w, Lib.run_indexByteString _ _ w, ?_, hF, Ext.refl _ _ _, Below.refl _ _⟩
    have := (find_spec c hc k n 0).1
    show Rel C ρ (idxAV (findByte k n c 0)) (.int .i64 (Lib.indexByte (strB k n) (UInt8.ofNat c)))
    rw [← this]
    cases findByte k n c 0 <;> simp [idxAV, Rel]
  · exact (fail_inv h0).elim
theorem ext4_ok (h1 : (Extern.findNext fn).isNone = true) (h2 : Extern.find fn = some BytealgCount.count) : ExtOk C tb 4 fn := by
  refine ⟨none_of h1, _, h2, fun B l S v S' ρ w args h hF hng hl hfree => ?_⟩
  obtain ⟨x, y, rfl, h0⟩ := inv4 h
  clear h
  obtain ⟨x', y', rfl, hx, hy⟩ := rel2 hl
  unfold x4 at h0
  split at h0
  · rename_i k n
    obtain ⟨c, rfl, hc, rfl, rfl⟩ := byQ_inv h0
    simp only [Rel] at hx hy
    obtain ⟨rfl, hn⟩ := hx
    subst hy
    refine ⟨ρ, _, w, Lib.run_countString _ _ w, ?_, hF, Ext.refl _ _ _, Below.refl _ _⟩
    show Rel C ρ (.i .i64 (.ofNat (cntByte k n c))) (.int .i64 (Lib.countByte (strB k n) (UInt8.ofNat c) : Nat))
    rw [cnt_spec c hc k n]
    simp [Rel]
  · exact (fail_inv h0).elim
end
end Go.AX
