/- A part of the proof: an interpreter of the model's own code on partly known states, and that what it answers is what the program answers. No condition of its own. -/
import Derived.Test.YtipdlfkjablekaaDoorHXpart4
set_option linter.unusedSimpArgs false
set_option linter.unusedVariables false
namespace Go.AX
/-- the digits of a number, to a base -/
def dgc (big : Bool) (x : Int) : Int := if x ≤ 9 then x + 48 else if big then x + 55 else x + 87
def digsF (B : Int) (big : Bool) : Nat → Int → List UInt8 → List UInt8
  | 0, _, s => s
  | f + 1, x, s => if x = 0 ∧ s ≠ [] then s else digsF B big f (x / B) (u8 (dgc big (x % B)) :: s)
theorem digs_step {B : Int} {big : Bool} {f : Nat} {x : Int} {s : List UInt8} (hf : 1 ≤ f) (h : ¬ (x = 0 ∧ s ≠ [])) : digsF B big f x s = digsF B big (f - 1) (x / B) (u8 (dgc big (x % B)) :: s) := by
  obtain ⟨g, rfl⟩ : ∃ g, f = g + 1 := ⟨f - 1, by omega⟩
  rw [digsF, if_neg h]; rfl
theorem digs_end {B : Int} {big : Bool} {f : Nat} {s : List UInt8} (h : s ≠ []) : digsF B big f 0 s = s := by
  cases f with
  | zero => rfl
  | succ g => rw [digsF, if_pos ⟨rfl, h⟩]
theorem neNil {s : List UInt8} (h : ¬ (s.length : Int) = 0) : s ≠ [] := fun e => h (by rw [e]; rfl)
theorem dgc_lo {big : Bool} {x : Int} (h : x ≤ 9) : dgc big x = x + 48 := if_pos h
theorem dgc_up {x : Int} (h : ¬ x ≤ 9) : dgc true x = x + 55 := by unfold dgc; rw [if_neg h]; rfl
theorem dgc_dn {x : Int} (h : ¬ x ≤ 9) : dgc false x = x + 87 := by unfold dgc; rw [if_neg h]; rfl
theorem dgc_bd {big : Bool} {x : Int} (h0 : 0 ≤ x) (h1 : x < 16) : 0 ≤ dgc big x ∧ dgc big x ≤ 255 := by
  by_cases h : x ≤ 9
  · rw [dgc_lo h]; omega
  · cases big
    · rw [dgc_dn h]; omega
    · rw [dgc_up h]; omega
/-- what a digit tells -/
def digI (n : Int) : Int := if 65 ≤ n ∧ n ≤ 70 then n - 55 else if 97 ≤ n ∧ n ≤ 102 then n - 87 else if 48 ≤ n ∧ n ≤ 57 then n - 48 else 16
theorem digI_bd (n : Int) : 0 ≤ digI n ∧ digI n ≤ 16 := by
  unfold digI
  split
  · omega
  · split
    · omega
    · split <;> omega
theorem digI_dgc {big : Bool} {x : Int} (h0 : 0 ≤ x) (h1 : x < 16) : digI (dgc big x) = x := by
  unfold digI
  by_cases h : x ≤ 9
  · rw [dgc_lo h, if_neg (by omega), if_neg (by omega), if_pos (by omega)]; omega
  · cases big
    · rw [dgc_dn h, if_neg (by omega), if_pos (by omega)]; omega
    · rw [dgc_up h, if_pos (by omega)]; omega
/-- the number that digits tell, behind n -/
def valF (B : Int) : List UInt8 → Int → Int
  | [], n => n
  | b :: r, n => valF B r (n * B + digI (b.toNat : Int))
def okD (B : Int) (s : List UInt8) : Prop := ∀ b, b ∈ s → digI (b.toNat : Int) < B
theorem okD_nil {B : Int} : okD B [] := fun b h => by cases h
theorem okD_cons {B : Int} {b : UInt8} {s : List UInt8} (h : digI (b.toNat : Int) < B) (hs : okD B s) : okD B (b :: s) := fun c hc => by
  rcases List.mem_cons.1 hc with e | hc
  · rw [e]; exact h
  · exact hs c hc
theorem digAt {big : Bool} {x : Int} (h0 : 0 ≤ x) (h1 : x < 16) : digI ((u8 (dgc big x)).toNat : Int) = x := by
  rw [u8_toNat (dgc_bd h0 h1).1 (dgc_bd h0 h1).2, digI_dgc h0 h1]
theorem remB {B x : Int} (hB : B = 10 ∨ B = 16) : 0 ≤ x % B ∧ x % B < B ∧ x % B < 16 := by
  rcases hB with rfl | rfl <;> omega
theorem okD_digs {B : Int} {big : Bool} (hB : B = 10 ∨ B = 16) : ∀ (f : Nat) (x : Int) (s : List UInt8), okD B s → okD B (digsF B big f x s)
  | 0, _, _, h => h
  | f + 1, x, s, h => by
    rw [digsF]
    split
    · exact h
    · refine okD_digs hB f _ _ (okD_cons ?_ h)
      obtain ⟨h1, h2, h3⟩ := remB (x := x) hB
      rw [digAt h1 h3]; exact h2
theorem divB {B x : Int} (hB : B = 10 ∨ B = 16) : x / B * B + x % B = x := by
  rcases hB with rfl | rfl <;> omega
theorem divLe {B x : Int} {f : Nat} (hB : B = 10 ∨ B = 16) (h0 : 0 ≤ x) (h : x ≤ (f : Int) + 1) : 0 ≤ x / B ∧ x / B ≤ (f : Int) := by
  rcases hB with rfl | rfl <;> omega
theorem val_digs {B : Int} {big : Bool} (hB : B = 10 ∨ B = 16) : ∀ (f : Nat) (x : Int) (s : List UInt8), 0 ≤ x → x ≤ (f : Int) → valF B (digsF B big f x s) 0 = valF B s x
  | 0, x, s, h0, h1 => by
    have : x = 0 := by omega
    subst this; rfl
  | f + 1, x, s, h0, h1 => by
    rw [digsF]
    split
    · rename_i h; rw [h.1]
    · obtain ⟨d0, d1⟩ := divLe (f := f) hB h0 (by omega)
      rw [val_digs hB f _ _ d0 d1, valF]
      obtain ⟨r1, r2, r3⟩ := remB (x := x) hB
      rw [digAt r1 r3, divB hB]
theorem digs_len {B : Int} {big : Bool} : ∀ (f : Nat) (x : Int) (s : List UInt8), s.length ≤ (digsF B big f x s).length ∧ (digsF B big f x s).length ≤ s.length + f
  | 0, _, _ => ⟨Nat.le_refl _, Nat.le_refl _⟩
  | f + 1, x, s => by
    rw [digsF]
    split
    · omega
    · have := digs_len (B := B) (big := big) f (x / B) (u8 (dgc big (x % B)) :: s)
      rw [List.length_cons] at this
      omega
theorem digs_len1 {B : Int} {big : Bool} {f : Nat} {x : Int} : 1 ≤ (digsF B big (f + 1) x []).length := by
  rw [digsF, if_neg (fun h => h.2 rfl)]
  have := digs_len (B := B) (big := big) f (x / B) [u8 (dgc big (x % B))]
  simpa using this.1
def digs (B : Int) (big : Bool) (k : Int) : List UInt8 := digsF B big 10002 k []
theorem digs_bd {B : Int} {big : Bool} (k : Int) : 1 ≤ (digs B big k).length ∧ (digs B big k).length ≤ 10002 := by
  refine ⟨digs_len1, ?_⟩
  have := (digs_len (B := B) (big := big) 10002 k []).2
  unfold digs
  simpa using this
theorem okD_at {B : Int} {s : List UInt8} {i : Nat} (h : okD B s) (hi : i < s.length) : digI (bt s i) < B := by
  unfold bt
  rw [List.getD_eq_getElem?_getD, List.getElem?_eq_getElem hi]
  exact h _ (List.getElem_mem hi)
theorem valDrop {B : Int} {s : List UInt8} {i : Nat} {n : Int} (hi : i < s.length) : valF B (s.drop i) n = valF B (s.drop (i + 1)) (n * B + digI (bt s i)) := by
  rw [List.drop_eq_getElem_cons hi, valF]
  unfold bt
  rw [List.getD_eq_getElem?_getD, List.getElem?_eq_getElem hi]; rfl
theorem valEnd {B : Int} {s : List UInt8} {i : Nat} {n : Int} (hi : s.length ≤ i) : valF B (s.drop i) n = n := by
  rw [List.drop_eq_nil_of_le hi]; rfl
theorem okD_app {B : Int} {s t : List UInt8} (h : okD B s) (h' : okD B t) : okD B (s ++ t) := fun b hb => by
  rcases List.mem_append.1 hb with hb | hb
  · exact h b hb
  · exact h' b hb
theorem dig48 : digI ((u8 48).toNat : Int) = 0 := by rw [u8_toNat (by omega) (by omega)]; rfl
theorem okD_zeros {B : Int} (hB : B = 10 ∨ B = 16) (n : Nat) : okD B (List.replicate n (u8 48)) := fun b hb => by
  rw [(List.mem_replicate.1 hb).2, dig48]; rcases hB with rfl | rfl <;> omega
theorem valZeros {B : Int} {s : List UInt8} : ∀ n : Nat, valF B (List.replicate n (u8 48) ++ s) 0 = valF B s 0
  | 0 => rfl
  | n + 1 => by
    rw [List.replicate_succ, List.cons_append, valF, dig48, Int.zero_mul]
    exact valZeros n
theorem okD_dz {B : Int} {big : Bool} (hB : B = 10 ∨ B = 16) (n : Nat) (k : Int) : okD B (List.replicate n (u8 48) ++ digs B big k) := okD_app (okD_zeros hB n) (okD_digs hB _ _ _ okD_nil)
theorem val_dz {B : Int} {big : Bool} (hB : B = 10 ∨ B = 16) {k : Int} (h0 : 0 ≤ k) (h1 : k ≤ 10002) (n : Nat) : valF B (List.replicate n (u8 48) ++ digs B big k) 0 = k := by
  rw [valZeros]; unfold digs; rw [val_digs hB _ _ _ h0 (by omega)]; rfl
/-- one more zero ahead -/
theorem repStep {e i : Int} {s : List UInt8} (h : i < e) : List.replicate (Int.toNat (e - i)) (u8 48) ++ s = List.replicate (Int.toNat (e - (i + 1))) (u8 48) ++ (u8 48 :: s) := by
  have : Int.toNat (e - i) = Int.toNat (e - (i + 1)) + 1 := by omega
  rw [this, List.replicate_succ', List.append_assoc]; rfl
theorem pow16 : (16 : Int) ^ 8 = 4294967296 := rfl
theorem powLe {i : Nat} (h : i ≤ 8) : (16 : Int) ^ i ≤ 4294967296 := by
  have : i = 0 ∨ i = 1 ∨ i = 2 ∨ i = 3 ∨ i = 4 ∨ i = 5 ∨ i = 6 ∨ i = 7 ∨ i = 8 := by omega
  rcases this with rfl | rfl | rfl | rfl | rfl | rfl | rfl | rfl | rfl <;> decide
theorem numBd {i : Nat} {n B : Int} (hB : B = 10 ∨ B = 16) (h0 : 0 ≤ n) (h1 : n < (16 : Int) ^ i) (h : i ≤ 8) : 0 ≤ n * B ∧ n * B ≤ 68719476736 ∧ n ≤ 4294967296 := by
  have := powLe h
  rcases hB with rfl | rfl <;> omega
theorem numPow {i : Nat} {n B d : Int} (hB : B = 10 ∨ B = 16) (h0 : 0 ≤ n) (h1 : n < (16 : Int) ^ i) (hd : d < B) : n * B + d < (16 : Int) ^ (i + 1) := by
  rw [Int.pow_succ]
  rcases hB with rfl | rfl <;> omega
end Go.AX
