/- A part of the proof: an interpreter of the model's own code on partly known states, and that what it answers is what the program answers. No condition of its own. -/
import Derived.Test.YtbipkiiaajklhaaDoorS1PathTellsO7
set_option maxRecDepth 100000
set_option linter.unusedVariables false
set_option linter.unusedSimpArgs false
set_option maxHeartbeats 4000000
namespace Go.Proofs.YtbipkiiaajklhaaDoor.pathTells
open Go Go.AX Go.Proofs Go.Proofs.YtbipkiiaajklhaaDoor
variable {nu : Nat → Value} {one : ∀ i, i < 1000000 → (nu i).oneCell' = true} {E' : Cx} {x' : Ex} {e' : LA} {h' : LE}
def LNib : List Int := [(-1), (-1), (-1), (-1), (-1), (-1), (-1), (-1), (-1), (-1), (-1), (-1), (-1), (-1), (-1), (-1), (-1), (-1), (-1), (-1), (-1), (-1), (-1), (-1), (-1), (-1), (-1), (-1), (-1), (-1), (-1), (-1), (-1), (-1), (-1), (-1), (-1), (-1), (-1), (-1), (-1), (-1), (-1), (-1), (-1), (-1), (-1), (-1), 0, 1, 2, 3, 4, 5, 6, 7, 8, 9, (-1), (-1), (-1), (-1), (-1), (-1), (-1), 10, 11, 12, 13, 14, 15, (-1), (-1), (-1), (-1), (-1), (-1), (-1), (-1), (-1), (-1), (-1), (-1), (-1), (-1), (-1), (-1), (-1), (-1), (-1), (-1), (-1), (-1), (-1), (-1), (-1), (-1), 10, 11, 12, 13, 14, 15, (-1), (-1), (-1), (-1), (-1), (-1), (-1), (-1), (-1), (-1), (-1), (-1), (-1), (-1), (-1), (-1), (-1), (-1), (-1), (-1), (-1), (-1), (-1), (-1), (-1), (-1), (-1), (-1), (-1), (-1), (-1), (-1), (-1), (-1), (-1), (-1), (-1), (-1), (-1), (-1), (-1), (-1), (-1), (-1), (-1), (-1), (-1), (-1), (-1), (-1), (-1), (-1), (-1), (-1), (-1), (-1), (-1), (-1), (-1), (-1), (-1), (-1), (-1), (-1), (-1), (-1), (-1), (-1), (-1), (-1), (-1), (-1), (-1), (-1), (-1), (-1), (-1), (-1), (-1), (-1), (-1), (-1), (-1), (-1), (-1), (-1), (-1), (-1), (-1), (-1), (-1), (-1), (-1), (-1), (-1), (-1), (-1), (-1), (-1), (-1), (-1), (-1), (-1), (-1), (-1), (-1), (-1), (-1), (-1), (-1), (-1), (-1), (-1), (-1), (-1), (-1), (-1), (-1), (-1), (-1), (-1), (-1), (-1), (-1), (-1), (-1), (-1), (-1), (-1), (-1), (-1), (-1), (-1), (-1), (-1), (-1), (-1), (-1), (-1), (-1), (-1), (-1), (-1), (-1), (-1), (-1), (-1), (-1), (-1), (-1), (-1), (-1), (-1)]
def vNib (c : Int) : Int := LNib.getD c.toNat 0
noncomputable def eM4 (e : Nat) (n : Nat) : Bool := okA (call tabk 9000 44 [.i .u8 (.ofNat n)] ⟨H0 e , 4, 0, 0⟩) (.i .i64 (LNib.getD n 0))
theorem bfNib_0 (e : Nat) : allN (eM4 e ) 0 64 = true := by kernel_rfl
theorem bfNib_1 (e : Nat) : allN (eM4 e ) 64 64 = true := by kernel_rfl
theorem bfNib_2 (e : Nat) : allN (eM4 e ) 128 64 = true := by kernel_rfl
theorem bfNib_3 (e : Nat) : allN (eM4 e ) 192 64 = true := by kernel_rfl
theorem bfNib_all (e : Nat) (n : Nat) (h : n < 256) : eM4 e n = true := by
  rcases (show n / 64 = 0 ∨ n / 64 = 1 ∨ n / 64 = 2 ∨ n / 64 = 3 by omega) with h | h | h | h
  · exact aO8 (bfNib_0 e ) n (by omega) (by omega)
  · exact aO8 (bfNib_1 e ) n (by omega) (by omega)
  · exact aO8 (bfNib_2 e ) n (by omega) (by omega)
  · exact aO8 (bfNib_3 e ) n (by omega) (by omega)
theorem callsNib (n : Nat) (h : n < 256) (w : World) (hl : aA3 w) : CwR 44 #[.int .u8 (n : Int)] w (.int .i64 (vNib (n : Int))) := by
  refine runC (tb := tabk) rfl (aB0 (nuL []) (fun j _ => aA2 (l := []) rfl j)) rfl (fi := fI Tryd.f44 0) rfl (by kernel_rfl) (fun e => bfNib_all e n h) (args := [.int .u8 (n : Int)]) (by simp only [RelL, Rel]; exact ⟨_, _, rfl, rfl, rfl⟩) w hl fun x hx => ?_
  simp only [Rel] at hx
  rw [hx]; rfl
theorem aL9 {x0 r : AV} {c : Int} (i0 : Is (cx nu one 1 aA3 aA0) x0 (.int .u8 c)) (b0 : 0 ≤ c) (b1 : c ≤ 255) (hr : Den (cx nu one 1 aA3 aA0) r (.int .i64 (vNib c))) : HOk (cx nu one 1 aA3 aA0) (.call 44 [x0]) r := by
  intro ρ args ha w hl _
  simp only [RelL] at ha
  obtain ⟨v0, t0, rfl, a0, rfl⟩ := ha
  have e0 := i0 ρ _ a0; subst e0
  obtain ⟨n, rfl⟩ := Int.eq_ofNat_of_zero_le b0
  exact (callsNib n (by omega) w hl).mono fun e w' he => ⟨_, he.1, hr ρ, he.2⟩
theorem rNib {c : Int} (b0 : 0 ≤ c) (b1 : c ≤ 255) : (-1) ≤ vNib c ∧ vNib c ≤ 15 := by
  obtain ⟨n, rfl⟩ := Int.eq_ofNat_of_zero_le b0
  have h : ∀ m : Fin 256, (-1) ≤ LNib.getD m.val 0 ∧ LNib.getD m.val 0 ≤ 15 := by decide +kernel
  exact h ⟨n, by omega⟩
theorem nibD {c : Int} (b0 : 0 ≤ c) (b1 : c ≤ 255) : (vNib c < 0 ∧ ¬ vDgt c < 16) ∨ (0 ≤ vNib c ∧ vNib c = vDgt c ∧ vDgt c < 16) := by
  obtain ⟨n, rfl⟩ := Int.eq_ofNat_of_zero_le b0
  have h : ∀ m : Fin 256, (LNib.getD m.val 0 < 0 ∧ ¬ LDgt.getD m.val 0 < 16) ∨ (0 ≤ LNib.getD m.val 0 ∧ LNib.getD m.val 0 = LDgt.getD m.val 0 ∧ LDgt.getD m.val 0 < 16) := by decide +kernel
  exact h ⟨n, by omega⟩
theorem dgt0 {c : Int} (b0 : 0 ≤ c) (b1 : c ≤ 255) : 0 ≤ vDgt c := by
  obtain ⟨n, rfl⟩ := Int.eq_ofNat_of_zero_le b0
  have h : ∀ m : Fin 256, 0 ≤ LDgt.getD m.val 0 := by decide +kernel
  exact h ⟨n, by omega⟩
theorem bt_dropI {l : LB} {i j : Nat} : bt (l.drop i) j = bt l (i + j) := by
  unfold bt; rw [List.getD_eq_getElem?_getD, List.getD_eq_getElem?_getD, List.getElem?_drop]
section
variable {s : LB} {i j E : Int}
theorem ur_b (h0 : 0 ≤ i) (k : Nat) (hj : j = i + k) : bt (s.drop i.toNat) k = bt s j.toNat := by
  rw [bt_dropI, show i.toNat + k = j.toNat by omega]
theorem ur_d (h0 : 0 ≤ i) (k : Nat) (hj : j = i + k) : (s.drop i.toNat).drop k = s.drop j.toNat := by
  rw [List.drop_drop, show i.toNat + k = j.toNat by omega]
theorem dJ7 (h0 : 0 ≤ i) (h : i < (s.length : Int)) (h1 : ¬ bt s (Int.toNat (i)) = 37) (hj : j = i + 1) : unS (s.drop (Int.toNat i)) = (unS (s.drop (Int.toNat j))).map (u8 (bt s (Int.toNat (i))) :: ·) := by
  have e := ur_b (s := s) (j := i) h0 0 (by omega)
  rw [cB4 (by rw [List.length_drop]; omega) (by rw [e]; exact h1), e, ur_d (j := j) h0 1 (by omega)]
theorem bL7 (h0 : 0 ≤ i) (h : i < (s.length : Int)) (h1 : bt s (Int.toNat (i)) = 37) (h2 : (s.length : Int) ≤ i + 2) : unS (s.drop (Int.toNat i)) = none := by
  have e := ur_b (s := s) (j := i) h0 0 (by omega)
  exact bA8 (by rw [List.length_drop]; omega) (by rw [e]; exact h1) (by rw [List.length_drop]; omega)
theorem ur_bad (h0 : 0 ≤ i) (h1 : bt s (Int.toNat (i)) = 37) (h2 : ¬ (s.length : Int) ≤ i + 2) (h3 : ¬ (vDgt (bt s (Int.toNat (i + 1))) < 16 ∧ vDgt (bt s (Int.toNat (i + 2))) < 16 ∧ ¬ (vDgt (bt s (Int.toNat (i + 1))) * 16 + vDgt (bt s (Int.toNat (i + 2))) = 0))) : unS (s.drop (Int.toNat i)) = none := by
  have e := ur_b (s := s) (j := i) h0 0 (by omega)
  have e1 := ur_b (s := s) (j := i + 1) h0 1 (by omega)
  have e2 := ur_b (s := s) (j := i + 2) h0 2 (by omega)
  exact aP0 (by rw [e]; exact h1) (by rw [List.length_drop]; omega) (by rw [e1, e2]; exact h3)
theorem ur_esc (h0 : 0 ≤ i) (h1 : bt s (Int.toNat (i)) = 37) (h2 : ¬ (s.length : Int) ≤ i + 2) (h3 : vDgt (bt s (Int.toNat (i + 1))) < 16 ∧ vDgt (bt s (Int.toNat (i + 2))) < 16 ∧ ¬ (vDgt (bt s (Int.toNat (i + 1))) * 16 + vDgt (bt s (Int.toNat (i + 2))) = 0)) (hE : E = vDgt (bt s (Int.toNat (i + 1))) * 16 + vDgt (bt s (Int.toNat (i + 2)))) (hj : j = i + 3) : unS (s.drop (Int.toNat i)) = (unS (s.drop (Int.toNat j))).map (u8 (E % 256) :: ·) := by
  have e := ur_b (s := s) (j := i) h0 0 (by omega)
  have e1 := ur_b (s := s) (j := i + 1) h0 1 (by omega)
  have e2 := ur_b (s := s) (j := i + 2) h0 2 (by omega)
  rw [dW6 (by rw [e]; exact h1) (by rw [List.length_drop]; omega) (by rw [e1, e2]; exact h3), e1, e2, ur_d (j := j) h0 3 (by omega), hE]
theorem bK9 (h0 : 0 ≤ i) (h1 : bt s (Int.toNat (i)) = 37) (h2 : ¬ (s.length : Int) ≤ i + 2) (h3 : vNib (bt s (Int.toNat (i + 1))) < 0 ∨ vNib (bt s (Int.toNat (i + 2))) < 0 ∨ vNib (bt s (Int.toNat (i + 1))) + vNib (bt s (Int.toNat (i + 2))) = 0) : unS (s.drop (Int.toNat i)) = none := by
  refine ur_bad h0 h1 h2 fun h => ?_
  have D1 := nibD (c := bt s (Int.toNat (i + 1))) (aB6 _ _) (aB7 _ _); have Z1 := dgt0 (c := bt s (Int.toNat (i + 1))) (aB6 _ _) (aB7 _ _)
  have D2 := nibD (c := bt s (Int.toNat (i + 2))) (aB6 _ _) (aB7 _ _); have Z2 := dgt0 (c := bt s (Int.toNat (i + 2))) (aB6 _ _) (aB7 _ _)
  have := h.1; have := h.2.1; have := h.2.2; omega
end
noncomputable def cA0 : Code := aL8 (Tryd.f32.body.getD .skip) 0
theorem keyUr : aK6 (aC0 (Tryd.f32.body.getD .skip)) 3 0 0 = true := by kernel_rfl
def aS0 : List Nat := []
def epUr_0 : LA := [(0, .x 0), (2, .s 0 0), (3, I6 0), (4, .nils), (5, .x 1)]
def hpUr_0 : LE := []
def aX9 (s T : LB) (i : Int) (b : LB) : List Value := [St' s, .int .i64 (i), St' ([] : LB), .int .i64 ((s.length : Int)), .int .u8 (bt s (Int.toNat (i))), St' ([u8 (bt s (Int.toNat (i)))]), .int .u8 (bt s (Int.toNat (i))), .int .i64 (i + 1), St' ([] : LB), .int .i64 ((s.length : Int)), St' ([] : LB), .int .i64 ((s.length : Int)), .int .u8 (bt s (Int.toNat (i))), .int .i64 (i + 2), St' ([] : LB), .int .i64 ((s.length : Int)), .int .u8 (bt s (Int.toNat (i))), .int .i64 (i + 2), .int .i64 (i + 1), .int .u8 (bt s (Int.toNat (i + 1))), .int .i64 (vNib (bt s (Int.toNat (i + 1)))), .int .u8 (bt s (Int.toNat (i + 2))), .int .i64 (vNib (bt s (Int.toNat (i + 2)))), St' ([] : LB), .int .i64 ((s.length : Int)), .int .u8 (bt s (Int.toNat (i))), .int .i64 (i + 2), .int .i64 (i + 1), .int .u8 (bt s (Int.toNat (i + 1))), .int .i64 (vNib (bt s (Int.toNat (i + 1)))), .int .u8 (bt s (Int.toNat (i + 2))), .int .i64 (vNib (bt s (Int.toNat (i + 2)))), St' ([] : LB), .int .i64 ((s.length : Int)), .int .u8 (bt s (Int.toNat (i))), .int .i64 (i + 2), .int .i64 (i + 1), .int .u8 (bt s (Int.toNat (i + 1))), .int .i64 (vNib (bt s (Int.toNat (i + 1)))), .int .u8 (bt s (Int.toNat (i + 2))), .int .i64 (vNib (bt s (Int.toNat (i + 2)))), .int .i64 ((vNib (bt s (Int.toNat (i + 1)))) + (vNib (bt s (Int.toNat (i + 2))))), St' ([] : LB), .int .i64 ((s.length : Int)), .int .u8 (bt s (Int.toNat (i))), .int .i64 (i + 2), .int .i64 (i + 1), .int .u8 (bt s (Int.toNat (i + 1))), .int .i64 (vNib (bt s (Int.toNat (i + 1)))), .int .u8 (bt s (Int.toNat (i + 2))), .int .i64 (vNib (bt s (Int.toNat (i + 2)))), .int .i64 ((vNib (bt s (Int.toNat (i + 1)))) + (vNib (bt s (Int.toNat (i + 2))))), .int .i64 ((vNib (bt s (Int.toNat (i + 1)))) * 16), .int .i64 ((vNib (bt s (Int.toNat (i + 1)))) * 16 + (vNib (bt s (Int.toNat (i + 2))))), .int .u8 (((vNib (bt s (Int.toNat (i + 1)))) * 16 + (vNib (bt s (Int.toNat (i + 2))))) % 256), St' ([u8 (((vNib (bt s (Int.toNat (i + 1)))) * 16 + (vNib (bt s (Int.toNat (i + 2))))) % 256)]), .int .u8 (((vNib (bt s (Int.toNat (i + 1)))) * 16 + (vNib (bt s (Int.toNat (i + 2))))) % 256), .int .i64 (i + 3)]
def cM9 (s T : LB) (i : Int) (b : LB) : List Value := []
def bZ5 : LA := [(0, .x 0), (2, .s 0 0), (3, I6 0), (4, .sy 4), (5, .x 1)]
def bY7 : LE := [(4, .t 2 5)]
def aX8 (s T : LB) (i : Int) (b : LB) : List Value := [St' s, .int .i64 (i), St' b, St' ([] : LB), .int .i64 ((s.length : Int)), .int .u8 (bt s (Int.toNat (i))), St' (b ++ [u8 (bt s (Int.toNat (i)))]), .int .i64 (i + 1), St' ([] : LB), .int .i64 ((s.length : Int)), St' ([] : LB), .int .i64 ((s.length : Int)), .int .u8 (bt s (Int.toNat (i))), .int .i64 (i + 2), St' ([] : LB), .int .i64 ((s.length : Int)), .int .u8 (bt s (Int.toNat (i))), .int .i64 (i + 2), .int .i64 (i + 1), .int .u8 (bt s (Int.toNat (i + 1))), .int .i64 (vNib (bt s (Int.toNat (i + 1)))), .int .u8 (bt s (Int.toNat (i + 2))), .int .i64 (vNib (bt s (Int.toNat (i + 2)))), St' ([] : LB), .int .i64 ((s.length : Int)), .int .u8 (bt s (Int.toNat (i))), .int .i64 (i + 2), .int .i64 (i + 1), .int .u8 (bt s (Int.toNat (i + 1))), .int .i64 (vNib (bt s (Int.toNat (i + 1)))), .int .u8 (bt s (Int.toNat (i + 2))), .int .i64 (vNib (bt s (Int.toNat (i + 2)))), St' ([] : LB), .int .i64 ((s.length : Int)), .int .u8 (bt s (Int.toNat (i))), .int .i64 (i + 2), .int .i64 (i + 1), .int .u8 (bt s (Int.toNat (i + 1))), .int .i64 (vNib (bt s (Int.toNat (i + 1)))), .int .u8 (bt s (Int.toNat (i + 2))), .int .i64 (vNib (bt s (Int.toNat (i + 2)))), .int .i64 ((vNib (bt s (Int.toNat (i + 1)))) + (vNib (bt s (Int.toNat (i + 2))))), St' ([] : LB), .int .i64 ((s.length : Int)), .int .u8 (bt s (Int.toNat (i))), .int .i64 (i + 2), .int .i64 (i + 1), .int .u8 (bt s (Int.toNat (i + 1))), .int .i64 (vNib (bt s (Int.toNat (i + 1)))), .int .u8 (bt s (Int.toNat (i + 2))), .int .i64 (vNib (bt s (Int.toNat (i + 2)))), .int .i64 ((vNib (bt s (Int.toNat (i + 1)))) + (vNib (bt s (Int.toNat (i + 2))))), .int .i64 ((vNib (bt s (Int.toNat (i + 1)))) * 16), .int .i64 ((vNib (bt s (Int.toNat (i + 1)))) * 16 + (vNib (bt s (Int.toNat (i + 2))))), .int .u8 (((vNib (bt s (Int.toNat (i + 1)))) * 16 + (vNib (bt s (Int.toNat (i + 2))))) % 256), St' (b ++ [u8 (((vNib (bt s (Int.toNat (i + 1)))) * 16 + (vNib (bt s (Int.toNat (i + 2))))) % 256)]), .int .i64 (i + 3)]
def cM8 (s T : LB) (i : Int) (b : LB) : List Value := []
def epUr (st : Nat × Int × LB) : LA := if st.1 = 0 then epUr_0 else bZ5
def hpUr (st : Nat × Int × LB) : LE := if st.1 = 0 then hpUr_0 else bY7
def nuUr (s T : LB) (st : Nat × Int × LB) : List Value := if st.1 = 0 then aX9 s T (st.2.1) (st.2.2) else aX8 s T (st.2.1) (st.2.2)
def roUr (s T : LB) (st : Nat × Int × LB) : List Value := if st.1 = 0 then cM9 s T (st.2.1) (st.2.2) else cM8 s T (st.2.1) (st.2.2)
theorem onUr (s T : LB) (st : Nat × Int × LB) : ∀ j, (nuL (nuUr s T st) j).oneCell' = true := by
  intro j
  unfold nuUr
  by_cases g0 : st.1 = 0
  · rw [if_pos g0]; exact aA2 (l := aX9 s T (st.2.1) (st.2.2)) rfl j
  rw [if_neg g0]
  exact aA2 (l := aX8 s T (st.2.1) (st.2.2)) rfl j
theorem ebUr (st : Nat × Int × LB) : (lfB (epUr st) && lfC aS0) = true := by
  unfold epUr
  by_cases g0 : st.1 = 0
  · rw [if_pos g0]; rfl
  rw [if_neg g0]
  rfl
noncomputable def DUr (s T : LB) (st : Nat × Int × LB) (X : Nat → Value) : Cx := cx (nuX (nuUr s T st) (rX (roUr s T st) X)) (aA4 (onUr s T st)) 1 aA3 aA0
def aS8 (s T : LB) (st : Nat × Int × LB) : Prop := (0 ≤ (st.2.1)) ∧ ((st.2.1) ≤ (s.length : Int)) ∧ (unO (st.2.2) (s.drop (Int.toNat (st.2.1))) = unS s) ∧ ((st.1) = 0 → (st.2.2) = []) ∧ ((st.1) = 1 → 1 ≤ (st.2.2).length) ∧ (((st.2.2).length : Int) ≤ (st.2.1)) ∧ ((st.1) < 2)
abbrev CjUr (s T : LB) (tag : Nat) (i : Int) (b : LB) : Prop := (0 ≤ i) ∧ (i ≤ (s.length : Int)) ∧ (unO b (s.drop (Int.toNat i)) = unS s) ∧ (tag = 0 → b = []) ∧ (tag = 1 → 1 ≤ b.length) ∧ ((b.length : Int) ≤ i) ∧ (tag < 2)
theorem cY0 {s T : LB} {tag : Nat} {i : Int} {b : LB} (h : CjUr s T tag i b) : aS8 s T (tag, i, b) := h
theorem cU7 (s T : LB) (tag : Nat) (i : Int) (b : LB) (h : aS8 s T (tag, i, b)) : (0 ≤ i) ∧ (i ≤ (s.length : Int)) ∧ (unO b (s.drop (Int.toNat i)) = unS s) ∧ (tag = 0 → b = []) ∧ (tag = 1 → 1 ≤ b.length) ∧ ((b.length : Int) ≤ i) ∧ (tag < 2) := h
def muUr (s T : LB) (st : Nat × Int × LB) : Nat := (s.length - (st.2.1).toNat)
abbrev RHUr (s T : LB) (E' : Cx) (ex' : Ex) (epx' : LA) (hpx' : LE) (st : Nat × Int × LB) (X : Nat → Value) : Prop := aC3 E' cA0 aS0 63 ex' 4 4 5 8 epUr hpUr epx' hpx' (aS8 s T) (muUr s T) (DUr s T) st X
noncomputable abbrev bE3 (h : LK) (x : Ex) (th : LA) (sg : List (Nat × Nat)) (m : Nat) (ep : LA) (hp : LE) : Bool := aL4 (code (tbl h) 2000 [] cA0 (aH4 (aE4 epUr_0 aS0) 63) ⟨aD1 hpUr_0 .leaf, 5, 0, 0⟩) x aS0 63 8 th sg 4 m ep hp
theorem stUr_0 {s T : LB} {i : Int} {b : LB} {X : Nat → Value} {h : LK} (y : Nat × Int × LB) {th : LA} {sg : List (Nat × Nat)} (ho : ∀ a' r', (a', r') ∈ h → HOk (cx (nuX (aX9 s T i b) (rX (cM9 s T i b) X)) (aA4 (aA2 (l := aX9 s T i b) rfl)) 1 aA3 aA0) a' r') (hy : aS8 s T y) (lt : muUr s T y < muUr s T (0, i, b)) (ht : ThOk (cx (nuX (aX9 s T i b) (rX (cM9 s T i b) X)) (aA4 (aA2 (l := aX9 s T i b) rfl)) 1 aA3 aA0) (DUr s T y X) th) (run : bE3 h .normal th sg 5 (epUr y) (hpUr y) = true) : RHUr s T E' x' e' h' (0, i, b) X :=
  aC3.next (tb := tbl h) (L := []) (f := 2000) y ((aB0 _ _).hyps ho) (LpOk.nil _) rfl hy lt ht run
theorem cQ4 {s T : LB} {i : Int} {b : LB} {X : Nat → Value} {h : LK} {th : LA} {sg : List (Nat × Nat)} (hne : exB x' .normal = false) (ho : ∀ a' r', (a', r') ∈ h → HOk (cx (nuX (aX9 s T i b) (rX (cM9 s T i b) X)) (aA4 (aA2 (l := aX9 s T i b) rfl)) 1 aA3 aA0) a' r') (ht : ThOk (cx (nuX (aX9 s T i b) (rX (cM9 s T i b) X)) (aA4 (aA2 (l := aX9 s T i b) rfl)) 1 aA3 aA0) E' th) (run : bE3 h x' th sg 8 e' h' = true) : RHUr s T E' x' e' h' (0, i, b) X :=
  aC3.leave (tb := tbl h) (L := []) (f := 2000) ((aB0 _ _).hyps ho) (LpOk.nil _) rfl hne ht run
noncomputable abbrev bE2 (h : LK) (x : Ex) (th : LA) (sg : List (Nat × Nat)) (m : Nat) (ep : LA) (hp : LE) : Bool := aL4 (code (tbl h) 2000 [] cA0 (aH4 (aE4 bZ5 aS0) 63) ⟨aD1 bY7 .leaf, 5, 0, 0⟩) x aS0 63 8 th sg 4 m ep hp
theorem stUr_1 {s T : LB} {i : Int} {b : LB} {X : Nat → Value} {h : LK} (y : Nat × Int × LB) {th : LA} {sg : List (Nat × Nat)} (ho : ∀ a' r', (a', r') ∈ h → HOk (cx (nuX (aX8 s T i b) (rX (cM8 s T i b) X)) (aA4 (aA2 (l := aX8 s T i b) rfl)) 1 aA3 aA0) a' r') (hy : aS8 s T y) (lt : muUr s T y < muUr s T (1, i, b)) (ht : ThOk (cx (nuX (aX8 s T i b) (rX (cM8 s T i b) X)) (aA4 (aA2 (l := aX8 s T i b) rfl)) 1 aA3 aA0) (DUr s T y X) th) (run : bE2 h .normal th sg 5 (epUr y) (hpUr y) = true) : RHUr s T E' x' e' h' (1, i, b) X :=
  aC3.next (tb := tbl h) (L := []) (f := 2000) y ((aB0 _ _).hyps ho) (LpOk.nil _) rfl hy lt ht run
theorem cQ3 {s T : LB} {i : Int} {b : LB} {X : Nat → Value} {h : LK} {th : LA} {sg : List (Nat × Nat)} (hne : exB x' .normal = false) (ho : ∀ a' r', (a', r') ∈ h → HOk (cx (nuX (aX8 s T i b) (rX (cM8 s T i b) X)) (aA4 (aA2 (l := aX8 s T i b) rfl)) 1 aA3 aA0) a' r') (ht : ThOk (cx (nuX (aX8 s T i b) (rX (cM8 s T i b) X)) (aA4 (aA2 (l := aX8 s T i b) rfl)) 1 aA3 aA0) E' th) (run : bE2 h x' th sg 8 e' h' = true) : RHUr s T E' x' e' h' (1, i, b) X :=
  aC3.leave (tb := tbl h) (L := []) (f := 2000) ((aB0 _ _).hyps ho) (LpOk.nil _) rfl hne ht run
def cZ9 : LK := [(.bytes [], .x 2), (.len (.x 0), .x 3), (.bin .lss (.x 1) (.x 3), .b true), (.idx (.x 0) (.x 1), .x 4), (.bin .neq (.x 4) (.i .u8 (.ofNat 37)), .b true), (.app (.x 2) [.x 4], .x 5), (.byt (.x 5) (I6 0), .x 6), (.fit (.x 5), .b true), (.bin .add (.x 1) (I6 1), .x 7)]
theorem runUr_p0 : bE3 cZ9 .normal [(0, .x 0), (1, .x 7), (2, .x 5)] [(4, 6)] 5 bZ5 bY7 = true := by kernel_rfl
def cZ8 : LK := [(.len (.x 0), .x 9), (.bin .lss (.x 1) (.x 9), .b false)]
theorem runUr_p1 : bE3 cZ8 (.exit 0) [] [] 8 [(2, .s 0 0), (3, I6 0), (4, .nils)] [] = true := by kernel_rfl
def cZ7 : LK := [(.len (.x 0), .x 11), (.bin .lss (.x 1) (.x 11), .b true), (.idx (.x 0) (.x 1), .x 12), (.bin .neq (.x 12) (.i .u8 (.ofNat 37)), .b false), (.bin .add (.x 1) (I6 2), .x 13), (.bin .geq (.x 13) (.x 11), .b true)]
theorem runUr_p2 : bE3 cZ7 .ret [] [] 8 [(2, .s 0 0), (3, I6 10)] [] = true := by kernel_rfl
def cZ6 : LK := [(.len (.x 0), .x 15), (.bin .lss (.x 1) (.x 15), .b true), (.idx (.x 0) (.x 1), .x 16), (.bin .neq (.x 16) (.i .u8 (.ofNat 37)), .b false), (.bin .add (.x 1) (I6 2), .x 17), (.bin .geq (.x 17) (.x 15), .b false), (.bin .add (.x 1) (I6 1), .x 18), (.idx (.x 0) (.x 18), .x 19), (.call 44 [.x 19], .x 20), (.idx (.x 0) (.x 17), .x 21), (.call 44 [.x 21], .x 22), (.bin .lss (.x 20) (I6 0), .b false), (.bin .lss (.x 22) (I6 0), .b true)]
theorem runUr_p3 : bE3 cZ6 .ret [] [] 8 [(2, .s 0 0), (3, I6 10)] [] = true := by kernel_rfl
def cZ5 : LK := [(.len (.x 0), .x 24), (.bin .lss (.x 1) (.x 24), .b true), (.idx (.x 0) (.x 1), .x 25), (.bin .neq (.x 25) (.i .u8 (.ofNat 37)), .b false), (.bin .add (.x 1) (I6 2), .x 26), (.bin .geq (.x 26) (.x 24), .b false), (.bin .add (.x 1) (I6 1), .x 27), (.idx (.x 0) (.x 27), .x 28), (.call 44 [.x 28], .x 29), (.idx (.x 0) (.x 26), .x 30), (.call 44 [.x 30], .x 31), (.bin .lss (.x 29) (I6 0), .b true)]
theorem runUr_p4 : bE3 cZ5 .ret [] [] 8 [(2, .s 0 0), (3, I6 10)] [] = true := by kernel_rfl
def cZ4 : LK := [(.len (.x 0), .x 33), (.bin .lss (.x 1) (.x 33), .b true), (.idx (.x 0) (.x 1), .x 34), (.bin .neq (.x 34) (.i .u8 (.ofNat 37)), .b false), (.bin .add (.x 1) (I6 2), .x 35), (.bin .geq (.x 35) (.x 33), .b false), (.bin .add (.x 1) (I6 1), .x 36), (.idx (.x 0) (.x 36), .x 37), (.call 44 [.x 37], .x 38), (.idx (.x 0) (.x 35), .x 39), (.call 44 [.x 39], .x 40), (.bin .lss (.x 38) (I6 0), .b false), (.bin .lss (.x 40) (I6 0), .b false), (.bin .add (.x 38) (.x 40), .x 41), (.bin .eql (.x 41) (I6 0), .b true)]
theorem runUr_p5 : bE3 cZ4 .ret [] [] 8 [(2, .s 0 0), (3, I6 10)] [] = true := by kernel_rfl
def cZ3 : LK := [(.bytes [], .x 42), (.len (.x 0), .x 43), (.bin .lss (.x 1) (.x 43), .b true), (.idx (.x 0) (.x 1), .x 44), (.bin .neq (.x 44) (.i .u8 (.ofNat 37)), .b false), (.bin .add (.x 1) (I6 2), .x 45), (.bin .geq (.x 45) (.x 43), .b false), (.bin .add (.x 1) (I6 1), .x 46), (.idx (.x 0) (.x 46), .x 47), (.call 44 [.x 47], .x 48), (.idx (.x 0) (.x 45), .x 49), (.call 44 [.x 49], .x 50), (.bin .lss (.x 48) (I6 0), .b false), (.bin .lss (.x 50) (I6 0), .b false), (.bin .add (.x 48) (.x 50), .x 51), (.bin .eql (.x 51) (I6 0), .b false), (.bin .mul (I6 16) (.x 48), .x 52), (.bin .add (.x 52) (.x 50), .x 53), (.conv 5 (.x 53), .x 54), (.app (.x 42) [.x 54], .x 55), (.byt (.x 55) (I6 0), .x 56), (.fit (.x 55), .b true), (.bin .add (.x 45) (I6 1), .x 57)]
theorem runUr_p6 : bE3 cZ3 .normal [(0, .x 0), (1, .x 57), (2, .x 55)] [(4, 6)] 5 bZ5 bY7 = true := by kernel_rfl
def cZ2 : LK := [(.len (.x 0), .x 4), (.bin .lss (.x 1) (.x 4), .b true), (.idx (.x 0) (.x 1), .x 5), (.bin .neq (.x 5) (.i .u8 (.ofNat 37)), .b true), (.app (.x 2) [.x 5], .x 6), (.fit (.x 6), .b true), (.bin .add (.x 1) (I6 1), .x 7)]
theorem runUr_p7 : bE2 cZ2 .normal [(0, .x 0), (1, .x 7), (2, .x 6)] [(4, 6)] 5 bZ5 bY7 = true := by kernel_rfl
def cZ1 : LK := [(.len (.x 0), .x 9), (.bin .lss (.x 1) (.x 9), .b false)]
theorem runUr_p8 : bE2 cZ1 (.exit 0) [(0, .x 2)] [(4, 4)] 8 [(2, .s 0 0), (3, I6 0), (4, .sy 4)] [(4, .t 0 5)] = true := by kernel_rfl
def cZ0 : LK := [(.len (.x 0), .x 11), (.bin .lss (.x 1) (.x 11), .b true), (.idx (.x 0) (.x 1), .x 12), (.bin .neq (.x 12) (.i .u8 (.ofNat 37)), .b false), (.bin .add (.x 1) (I6 2), .x 13), (.bin .geq (.x 13) (.x 11), .b true)]
theorem runUr_p9 : bE2 cZ0 .ret [] [] 8 [(2, .s 0 0), (3, I6 10)] [] = true := by kernel_rfl
def cH6 : LK := [(.len (.x 0), .x 15), (.bin .lss (.x 1) (.x 15), .b true), (.idx (.x 0) (.x 1), .x 16), (.bin .neq (.x 16) (.i .u8 (.ofNat 37)), .b false), (.bin .add (.x 1) (I6 2), .x 17), (.bin .geq (.x 17) (.x 15), .b false), (.bin .add (.x 1) (I6 1), .x 18), (.idx (.x 0) (.x 18), .x 19), (.call 44 [.x 19], .x 20), (.idx (.x 0) (.x 17), .x 21), (.call 44 [.x 21], .x 22), (.bin .lss (.x 20) (I6 0), .b false), (.bin .lss (.x 22) (I6 0), .b true)]
theorem runUr_p10 : bE2 cH6 .ret [] [] 8 [(2, .s 0 0), (3, I6 10)] [] = true := by kernel_rfl
def cH5 : LK := [(.len (.x 0), .x 24), (.bin .lss (.x 1) (.x 24), .b true), (.idx (.x 0) (.x 1), .x 25), (.bin .neq (.x 25) (.i .u8 (.ofNat 37)), .b false), (.bin .add (.x 1) (I6 2), .x 26), (.bin .geq (.x 26) (.x 24), .b false), (.bin .add (.x 1) (I6 1), .x 27), (.idx (.x 0) (.x 27), .x 28), (.call 44 [.x 28], .x 29), (.idx (.x 0) (.x 26), .x 30), (.call 44 [.x 30], .x 31), (.bin .lss (.x 29) (I6 0), .b true)]
theorem runUr_p11 : bE2 cH5 .ret [] [] 8 [(2, .s 0 0), (3, I6 10)] [] = true := by kernel_rfl
def cH4 : LK := [(.len (.x 0), .x 33), (.bin .lss (.x 1) (.x 33), .b true), (.idx (.x 0) (.x 1), .x 34), (.bin .neq (.x 34) (.i .u8 (.ofNat 37)), .b false), (.bin .add (.x 1) (I6 2), .x 35), (.bin .geq (.x 35) (.x 33), .b false), (.bin .add (.x 1) (I6 1), .x 36), (.idx (.x 0) (.x 36), .x 37), (.call 44 [.x 37], .x 38), (.idx (.x 0) (.x 35), .x 39), (.call 44 [.x 39], .x 40), (.bin .lss (.x 38) (I6 0), .b false), (.bin .lss (.x 40) (I6 0), .b false), (.bin .add (.x 38) (.x 40), .x 41), (.bin .eql (.x 41) (I6 0), .b true)]
theorem runUr_p12 : bE2 cH4 .ret [] [] 8 [(2, .s 0 0), (3, I6 10)] [] = true := by kernel_rfl
def cH3 : LK := [(.len (.x 0), .x 43), (.bin .lss (.x 1) (.x 43), .b true), (.idx (.x 0) (.x 1), .x 44), (.bin .neq (.x 44) (.i .u8 (.ofNat 37)), .b false), (.bin .add (.x 1) (I6 2), .x 45), (.bin .geq (.x 45) (.x 43), .b false), (.bin .add (.x 1) (I6 1), .x 46), (.idx (.x 0) (.x 46), .x 47), (.call 44 [.x 47], .x 48), (.idx (.x 0) (.x 45), .x 49), (.call 44 [.x 49], .x 50), (.bin .lss (.x 48) (I6 0), .b false), (.bin .lss (.x 50) (I6 0), .b false), (.bin .add (.x 48) (.x 50), .x 51), (.bin .eql (.x 51) (I6 0), .b false), (.bin .mul (I6 16) (.x 48), .x 52), (.bin .add (.x 52) (.x 50), .x 53), (.conv 5 (.x 53), .x 54), (.app (.x 2) [.x 54], .x 55), (.fit (.x 55), .b true), (.bin .add (.x 45) (I6 1), .x 56)]
theorem runUr_p13 : bE2 cH3 .normal [(0, .x 0), (1, .x 56), (2, .x 55)] [(4, 6)] 5 bZ5 bY7 = true := by kernel_rfl
section
variable {s T : LB} (c0 : s.length ≤ 400) {i : Int} {b : LB} {X : Nat → Value}
include c0
theorem cV9 (hI : aS8 s T (0, i, b)) (h0 : i < (s.length : Int)) (h1 : ¬ (bt s (Int.toNat (i)) = 37)) : RHUr s T E' x' e' h' (0, i, b) X := by
  obtain ⟨i0, i1, i2, i3, i4, i5, it⟩ := cU7 s T 0 i b hI
  have := aB6 s (Int.toNat (i)); have := aB7 s (Int.toNat (i))
  refine stUr_0 (h := cZ9) (1, i + 1, [u8 (bt s (Int.toNat (i)))]) ?_ (cY0 ⟨by omega, by omega, by rw [← i2, i3 rfl]; exact bA9 (dJ7 (by omega) (by omega) (by omega) (by omega)), fun h => by omega, fun _ => by simp, by simp only [List.length_append, List.length_cons, List.length_nil]; omega, by omega⟩) (by show s.length - (i + 1).toNat < s.length - i.toNat; omega) (thXv (v := St' s) rfl rfl (thXi (b := ((i + 1))) rfl rfl (by omega) (thXv (v := St' ([u8 (bt s (Int.toNat (i)))])) rfl rfl (aA6)))) runUr_p0
  unfold cZ9
  exact hc (kB0 rfl) <|hc (lnV rfl rfl (by omega)) <|hc (ltT rfl rfl (by omega)) <|hc (ixV rfl rfl rfl (by omega)) <|hc (necT rfl (by omega)) <|hc (kApp (bs := [u8 (bt s (Int.toNat (i)))]) (isX rfl) (.cons (isB8 (isX rfl) (by omega) (by omega)) .nil) (denX rfl) (by first | rfl | (simp; done))) <|hc (kByt (i := 0) (isX rfl) (isZ (m := 0) rfl) (denX rfl) rfl (by simp) (aS6 rfl (by omega) (by omega))) <|hc (kFit (isX rfl) (by first | omega | (simp <;> omega))) <|hc (adC rfl rfl (by omega)) <|hnil
theorem cV8 (hI : aS8 s T (0, i, b)) (h0 : i < (s.length : Int)) (h1 : bt s (Int.toNat (i)) = 37) (h2 : ¬ ((s.length : Int) ≤ i + 2)) (h3 : ¬ (vNib (bt s (Int.toNat (i + 1))) < 0)) (h4 : ¬ (vNib (bt s (Int.toNat (i + 2))) < 0)) (h5 : ¬ ((vNib (bt s (Int.toNat (i + 1)))) + (vNib (bt s (Int.toNat (i + 2)))) = 0)) : RHUr s T E' x' e' h' (0, i, b) X := by
  obtain ⟨i0, i1, i2, i3, i4, i5, it⟩ := cU7 s T 0 i b hI
  have := aB6 s (Int.toNat (i)); have := aB7 s (Int.toNat (i))
  have := aB6 s (Int.toNat (i + 1)); have := aB7 s (Int.toNat (i + 1))
  have := rNib (c := bt s (Int.toNat (i + 1))) (by omega) (by omega)
  have := aB6 s (Int.toNat (i + 2)); have := aB7 s (Int.toNat (i + 2))
  have := rNib (c := bt s (Int.toNat (i + 2))) (by omega) (by omega)
  refine stUr_0 (h := cZ3) (1, i + 3, [u8 (((vNib (bt s (Int.toNat (i + 1)))) * 16 + (vNib (bt s (Int.toNat (i + 2))))) % 256)]) ?_ (cY0 ⟨by omega, by omega, by rw [← i2, i3 rfl]; exact bA9 ((by have D1 := nibD (c := bt s (Int.toNat (i + 1))) (aB6 _ _) (aB7 _ _); have Z1 := dgt0 (c := bt s (Int.toNat (i + 1))) (aB6 _ _) (aB7 _ _); have D2 := nibD (c := bt s (Int.toNat (i + 2))) (aB6 _ _) (aB7 _ _); have Z2 := dgt0 (c := bt s (Int.toNat (i + 2))) (aB6 _ _) (aB7 _ _); exact ur_esc (by omega) (by omega) (by omega) ⟨by omega, by omega, by omega⟩ (by omega) (by omega))), fun h => by omega, fun _ => by simp, by simp only [List.length_append, List.length_cons, List.length_nil]; omega, by omega⟩) (by show s.length - (i + 3).toNat < s.length - i.toNat; omega) (thXv (v := St' s) rfl rfl (thXi (b := ((i + 3))) rfl rfl (by omega) (thXv (v := St' ([u8 (((vNib (bt s (Int.toNat (i + 1)))) * 16 + (vNib (bt s (Int.toNat (i + 2))))) % 256)])) rfl rfl (aA6)))) runUr_p6
  unfold cZ3
  exact hc (kB0 rfl) <|hc (lnV rfl rfl (by omega)) <|hc (ltT rfl rfl (by omega)) <|hc (ixV rfl rfl rfl (by omega)) <|hc (necF rfl (by omega)) <|hc (adC rfl rfl (by omega)) <|hc (geF rfl rfl (by omega)) <|hc (adC rfl rfl (by omega)) <|hc (ixV rfl rfl rfl (by omega)) <|hc (aL9 (isX rfl) (by omega) (by omega) (denX rfl)) <|hc (ixV rfl rfl rfl (by omega)) <|hc (aL9 (isX rfl) (by omega) (by omega) (denX rfl)) <|hc (ltcF rfl (by omega)) <|hc (ltcF rfl (by omega)) <|hc (adX rfl rfl rfl (by omega)) <|hc (eqcF rfl (by omega)) <|hc (kMul (isZ (m := 16) rfl) (isX rfl) (denX rfl) (by omega) (fI64 (by omega) (by omega))) <|hc (adX rfl rfl rfl (by omega)) <|hc (dS0 (isX rfl) tu5 (denX rfl) rfl) <|hc (kApp (bs := [u8 (((vNib (bt s (Int.toNat (i + 1)))) * 16 + (vNib (bt s (Int.toNat (i + 2))))) % 256)]) (isX rfl) (.cons (isB8 (isX rfl) (by omega) (by omega)) .nil) (denX rfl) (by first | rfl | (simp; done))) <|hc (kByt (i := 0) (isX rfl) (isZ (m := 0) rfl) (denX rfl) rfl (by simp) (aS6 rfl (by omega) (by omega))) <|hc (kFit (isX rfl) (by first | omega | (simp <;> omega))) <|hc (adC rfl rfl (by omega)) <|hnil
theorem cV7 (hI : aS8 s T (1, i, b)) (h0 : i < (s.length : Int)) (h1 : ¬ (bt s (Int.toNat (i)) = 37)) : RHUr s T E' x' e' h' (1, i, b) X := by
  obtain ⟨i0, i1, i2, i3, i4, i5, it⟩ := cU7 s T 1 i b hI
  have := aB6 s (Int.toNat (i)); have := aB7 s (Int.toNat (i))
  refine stUr_1 (h := cZ2) (1, i + 1, (b ++ [u8 (bt s (Int.toNat (i)))])) ?_ (cY0 ⟨by omega, by omega, by rw [← i2]; exact bB0 (dJ7 (by omega) (by omega) (by omega) (by omega)), fun h => by omega, fun _ => by simp, by simp only [List.length_append, List.length_cons, List.length_nil]; omega, by omega⟩) (by show s.length - (i + 1).toNat < s.length - i.toNat; omega) (thXv (v := St' s) rfl rfl (thXi (b := ((i + 1))) rfl rfl (by omega) (thXv (v := St' (b ++ [u8 (bt s (Int.toNat (i)))])) rfl rfl (aA6)))) runUr_p7
  unfold cZ2
  exact hc (lnV rfl rfl (by omega)) <|hc (ltT rfl rfl (by omega)) <|hc (ixV rfl rfl rfl (by omega)) <|hc (necT rfl (by omega)) <|hc (kApp (bs := [u8 (bt s (Int.toNat (i)))]) (isX rfl) (.cons (isB8 (isX rfl) (by omega) (by omega)) .nil) (denX rfl) (by first | rfl | (simp; done))) <|hc (kFit (isX rfl) (by first | omega | (simp <;> omega))) <|hc (adC rfl rfl (by omega)) <|hnil
theorem cB9 (hI : aS8 s T (1, i, b)) (h0 : i < (s.length : Int)) (h1 : bt s (Int.toNat (i)) = 37) (h2 : ¬ ((s.length : Int) ≤ i + 2)) (h3 : ¬ (vNib (bt s (Int.toNat (i + 1))) < 0)) (h4 : ¬ (vNib (bt s (Int.toNat (i + 2))) < 0)) (h5 : ¬ ((vNib (bt s (Int.toNat (i + 1)))) + (vNib (bt s (Int.toNat (i + 2)))) = 0)) : RHUr s T E' x' e' h' (1, i, b) X := by
  obtain ⟨i0, i1, i2, i3, i4, i5, it⟩ := cU7 s T 1 i b hI
  have := aB6 s (Int.toNat (i)); have := aB7 s (Int.toNat (i))
  have := aB6 s (Int.toNat (i + 1)); have := aB7 s (Int.toNat (i + 1))
  have := rNib (c := bt s (Int.toNat (i + 1))) (by omega) (by omega)
  have := aB6 s (Int.toNat (i + 2)); have := aB7 s (Int.toNat (i + 2))
  have := rNib (c := bt s (Int.toNat (i + 2))) (by omega) (by omega)
  refine stUr_1 (h := cH3) (1, i + 3, (b ++ [u8 (((vNib (bt s (Int.toNat (i + 1)))) * 16 + (vNib (bt s (Int.toNat (i + 2))))) % 256)])) ?_ (cY0 ⟨by omega, by omega, by rw [← i2]; exact bB0 ((by have D1 := nibD (c := bt s (Int.toNat (i + 1))) (aB6 _ _) (aB7 _ _); have Z1 := dgt0 (c := bt s (Int.toNat (i + 1))) (aB6 _ _) (aB7 _ _); have D2 := nibD (c := bt s (Int.toNat (i + 2))) (aB6 _ _) (aB7 _ _); have Z2 := dgt0 (c := bt s (Int.toNat (i + 2))) (aB6 _ _) (aB7 _ _); exact ur_esc (by omega) (by omega) (by omega) ⟨by omega, by omega, by omega⟩ (by omega) (by omega))), fun h => by omega, fun _ => by simp, by simp only [List.length_append, List.length_cons, List.length_nil]; omega, by omega⟩) (by show s.length - (i + 3).toNat < s.length - i.toNat; omega) (thXv (v := St' s) rfl rfl (thXi (b := ((i + 3))) rfl rfl (by omega) (thXv (v := St' (b ++ [u8 (((vNib (bt s (Int.toNat (i + 1)))) * 16 + (vNib (bt s (Int.toNat (i + 2))))) % 256)])) rfl rfl (aA6)))) runUr_p13
  unfold cH3
  exact hc (lnV rfl rfl (by omega)) <|hc (ltT rfl rfl (by omega)) <|hc (ixV rfl rfl rfl (by omega)) <|hc (necF rfl (by omega)) <|hc (adC rfl rfl (by omega)) <|hc (geF rfl rfl (by omega)) <|hc (adC rfl rfl (by omega)) <|hc (ixV rfl rfl rfl (by omega)) <|hc (aL9 (isX rfl) (by omega) (by omega) (denX rfl)) <|hc (ixV rfl rfl rfl (by omega)) <|hc (aL9 (isX rfl) (by omega) (by omega) (denX rfl)) <|hc (ltcF rfl (by omega)) <|hc (ltcF rfl (by omega)) <|hc (adX rfl rfl rfl (by omega)) <|hc (eqcF rfl (by omega)) <|hc (kMul (isZ (m := 16) rfl) (isX rfl) (denX rfl) (by omega) (fI64 (by omega) (by omega))) <|hc (adX rfl rfl rfl (by omega)) <|hc (dS0 (isX rfl) tu5 (denX rfl) rfl) <|hc (kApp (bs := [u8 (((vNib (bt s (Int.toNat (i + 1)))) * 16 + (vNib (bt s (Int.toNat (i + 2))))) % 256)]) (isX rfl) (.cons (isB8 (isX rfl) (by omega) (by omega)) .nil) (denX rfl) (by first | rfl | (simp; done))) <|hc (kFit (isX rfl) (by first | omega | (simp <;> omega))) <|hc (adC rfl rfl (by omega)) <|hnil
end
def eF3 (s T : LB) : List Value := []
def roEUr_0 (s T : LB) : List Value := []
noncomputable def EUr_0 (s T : LB) : Cx := cx (nuX (eF3 s T) (rX (roEUr_0 s T) (fun _ => .bool true))) (aA4 (aA2 (l := eF3 s T) rfl)) 1 aA3 aA0
theorem roundsUr_0 (s T : LB) (c0 : s.length ≤ 400) (x0 : unS s = some []) (st : Nat × Int × LB) (X : Nat → Value) (hI : aS8 s T st) : RHUr s T (EUr_0 s T) (.exit 0) [(2, .s 0 0), (3, I6 0), (4, .nils)] [] st X := by
  obtain ⟨tag, i, b⟩ := st
  have hI0 := hI
  obtain ⟨i0, i1, i2, i3, i4, i5, it⟩ := cU7 s T tag i b hI
  rcases (show tag = 0 ∨ tag = 1 from by omega) with rfl | rfl
  · skip
    by_cases h0 : i < (s.length : Int)
    · by_cases h1 : bt s (Int.toNat (i)) = 37
      · by_cases h2 : (s.length : Int) ≤ i + 2
        · exfalso; rw [aC4 (bL7 (by omega) (by omega) (by omega) (by omega)), x0] at i2; cases i2
        · by_cases h3 : vNib (bt s (Int.toNat (i + 1))) < 0
          · exfalso; rw [aC4 (bK9 (by omega) (by omega) (by omega) (by omega)), x0] at i2; cases i2
          · by_cases h4 : vNib (bt s (Int.toNat (i + 2))) < 0
            · exfalso; rw [aC4 (bK9 (by omega) (by omega) (by omega) (by omega)), x0] at i2; cases i2
            · by_cases h5 : (vNib (bt s (Int.toNat (i + 1)))) + (vNib (bt s (Int.toNat (i + 2)))) = 0
              · exfalso; rw [aC4 (bK9 (by omega) (by omega) (by omega) (by omega)), x0] at i2; cases i2
              · exact cV8 c0 hI0 h0 h1 h2 h3 h4 h5
      · exact cV9 c0 hI0 h0 h1
    · skip
      refine cQ4 (h := cZ8) rfl ?_ (aA6) runUr_p1
      unfold cZ8
      exact hc (lnV rfl rfl (by omega)) <|hc (ltF rfl rfl (by omega)) <|hnil
  · skip
    by_cases h0 : i < (s.length : Int)
    · by_cases h1 : bt s (Int.toNat (i)) = 37
      · by_cases h2 : (s.length : Int) ≤ i + 2
        · exfalso; rw [aC4 (bL7 (by omega) (by omega) (by omega) (by omega)), x0] at i2; cases i2
        · by_cases h3 : vNib (bt s (Int.toNat (i + 1))) < 0
          · exfalso; rw [aC4 (bK9 (by omega) (by omega) (by omega) (by omega)), x0] at i2; cases i2
          · by_cases h4 : vNib (bt s (Int.toNat (i + 2))) < 0
            · exfalso; rw [aC4 (bK9 (by omega) (by omega) (by omega) (by omega)), x0] at i2; cases i2
            · by_cases h5 : (vNib (bt s (Int.toNat (i + 1)))) + (vNib (bt s (Int.toNat (i + 2)))) = 0
              · exfalso; rw [aC4 (bK9 (by omega) (by omega) (by omega) (by omega)), x0] at i2; cases i2
              · exact cB9 c0 hI0 h0 h1 h2 h3 h4 h5
      · exact cV7 c0 hI0 h0 h1
    · exfalso; rw [aT1 (by rw [List.length_drop]; omega), x0] at i2; injection i2 with h; have := i4 rfl; rw [h] at this; simp at this
theorem lfOkUr_0 {l : LF} {h : LH} (s T : LB) (c0 : s.length ≤ 400) (x0 : unS s = some []) (st : Nat × Int × LB) (hI : aS8 s T st) (hl : l.hp = some h) (hs : aF3 l h 63 aS0 (.exit 0) 4 4 8 = true) {th0 : LA} {sg0 : List (Nat × Nat)} (hth0 : ∀ X, ThOk (cx nu one 1 aA3 aA0) (DUr s T st X) th0) (h0 : aD9 l h 63 4 5 th0 sg0 (epUr st) (hpUr st) = true) {thx : LA} (hthx : ThOk (EUr_0 s T) (cx nu one 1 aA3 aA0) thx) (hx : aF5 l h 63 4 8 thx [(2, .s 0 0), (3, I6 0), (4, .nils)] [] = true) : LfOk (cx nu one 1 aA3 aA0) cA0 l :=
  aL5 (E := EUr_0 s T) (aS8 s T) (muUr s T) (DUr s T) (fun _ _ => rfl) (fun _ _ => rfl) (fun _ _ => rfl) (fun st X t ht => aD3.trans (aE2 ((by decide : ∀ t, t ∈ aS0 → t < 1000000) t ht))) rfl rfl rfl hl hs ebUr rfl rfl st hI hth0 h0 hthx hx (roundsUr_0 s T c0 x0)
def eF2 (s T : LB) : List Value := [St' T]
def roEUr_1 (s T : LB) : List Value := []
noncomputable def EUr_1 (s T : LB) : Cx := cx (nuX (eF2 s T) (rX (roEUr_1 s T) (fun _ => .bool true))) (aA4 (aA2 (l := eF2 s T) rfl)) 1 aA3 aA0
theorem roundsUr_1 (s T : LB) (c0 : s.length ≤ 400) (x0 : unS s = some T) (x1 : 1 ≤ T.length) (st : Nat × Int × LB) (X : Nat → Value) (hI : aS8 s T st) : RHUr s T (EUr_1 s T) (.exit 0) [(2, .s 0 0), (3, I6 0), (4, .sy 4)] [(4, .t 0 5)] st X := by
  obtain ⟨tag, i, b⟩ := st
  have hI0 := hI
  obtain ⟨i0, i1, i2, i3, i4, i5, it⟩ := cU7 s T tag i b hI
  rcases (show tag = 0 ∨ tag = 1 from by omega) with rfl | rfl
  · skip
    by_cases h0 : i < (s.length : Int)
    · by_cases h1 : bt s (Int.toNat (i)) = 37
      · by_cases h2 : (s.length : Int) ≤ i + 2
        · exfalso; rw [aC4 (bL7 (by omega) (by omega) (by omega) (by omega)), x0] at i2; cases i2
        · by_cases h3 : vNib (bt s (Int.toNat (i + 1))) < 0
          · exfalso; rw [aC4 (bK9 (by omega) (by omega) (by omega) (by omega)), x0] at i2; cases i2
          · by_cases h4 : vNib (bt s (Int.toNat (i + 2))) < 0
            · exfalso; rw [aC4 (bK9 (by omega) (by omega) (by omega) (by omega)), x0] at i2; cases i2
            · by_cases h5 : (vNib (bt s (Int.toNat (i + 1)))) + (vNib (bt s (Int.toNat (i + 2)))) = 0
              · exfalso; rw [aC4 (bK9 (by omega) (by omega) (by omega) (by omega)), x0] at i2; cases i2
              · exact cV8 c0 hI0 h0 h1 h2 h3 h4 h5
      · exact cV9 c0 hI0 h0 h1
    · exfalso; rw [aT1 (by rw [List.length_drop]; omega), i3 rfl, x0] at i2; injection i2 with h; rw [← h] at x1; simp at x1
  · skip
    by_cases h0 : i < (s.length : Int)
    · by_cases h1 : bt s (Int.toNat (i)) = 37
      · by_cases h2 : (s.length : Int) ≤ i + 2
        · exfalso; rw [aC4 (bL7 (by omega) (by omega) (by omega) (by omega)), x0] at i2; cases i2
        · by_cases h3 : vNib (bt s (Int.toNat (i + 1))) < 0
          · exfalso; rw [aC4 (bK9 (by omega) (by omega) (by omega) (by omega)), x0] at i2; cases i2
          · by_cases h4 : vNib (bt s (Int.toNat (i + 2))) < 0
            · exfalso; rw [aC4 (bK9 (by omega) (by omega) (by omega) (by omega)), x0] at i2; cases i2
            · by_cases h5 : (vNib (bt s (Int.toNat (i + 1)))) + (vNib (bt s (Int.toNat (i + 2)))) = 0
              · exfalso; rw [aC4 (bK9 (by omega) (by omega) (by omega) (by omega)), x0] at i2; cases i2
              · exact cB9 c0 hI0 h0 h1 h2 h3 h4 h5
      · exact cV7 c0 hI0 h0 h1
    · skip
      refine cQ3 (h := cZ1) rfl ?_ (thXe (v := St' b) (u := St' T) rfl rfl (congrArg (fun l => St' l) (by have h := i2; rw [aT1 (by rw [List.length_drop]; omega), x0] at h; injection h)) (aA6)) runUr_p8
      unfold cZ1
      exact hc (lnV rfl rfl (by omega)) <|hc (ltF rfl rfl (by omega)) <|hnil
theorem lfOkUr_1 {l : LF} {h : LH} (s T : LB) (c0 : s.length ≤ 400) (x0 : unS s = some T) (x1 : 1 ≤ T.length) (st : Nat × Int × LB) (hI : aS8 s T st) (hl : l.hp = some h) (hs : aF3 l h 63 aS0 (.exit 0) 4 4 8 = true) {th0 : LA} {sg0 : List (Nat × Nat)} (hth0 : ∀ X, ThOk (cx nu one 1 aA3 aA0) (DUr s T st X) th0) (h0 : aD9 l h 63 4 5 th0 sg0 (epUr st) (hpUr st) = true) {thx : LA} (hthx : ThOk (EUr_1 s T) (cx nu one 1 aA3 aA0) thx) (hx : aF5 l h 63 4 8 thx [(2, .s 0 0), (3, I6 0), (4, .sy 4)] [(4, .t 0 5)] = true) : LfOk (cx nu one 1 aA3 aA0) cA0 l :=
  aL5 (E := EUr_1 s T) (aS8 s T) (muUr s T) (DUr s T) (fun _ _ => rfl) (fun _ _ => rfl) (fun _ _ => rfl) (fun st X t ht => aD3.trans (aE2 ((by decide : ∀ t, t ∈ aS0 → t < 1000000) t ht))) rfl rfl rfl hl hs ebUr rfl rfl st hI hth0 h0 hthx hx (roundsUr_1 s T c0 x0 x1)
def eF1 (s T : LB) : List Value := []
def roEUr_2 (s T : LB) : List Value := []
noncomputable def EUr_2 (s T : LB) : Cx := cx (nuX (eF1 s T) (rX (roEUr_2 s T) (fun _ => .bool true))) (aA4 (aA2 (l := eF1 s T) rfl)) 1 aA3 aA0
theorem roundsUr_2 (s T : LB) (c0 : s.length ≤ 400) (x0 : unS s = none) (st : Nat × Int × LB) (X : Nat → Value) (hI : aS8 s T st) : RHUr s T (EUr_2 s T) .ret [(2, .s 0 0), (3, I6 10)] [] st X := by
  obtain ⟨tag, i, b⟩ := st
  have hI0 := hI
  obtain ⟨i0, i1, i2, i3, i4, i5, it⟩ := cU7 s T tag i b hI
  rcases (show tag = 0 ∨ tag = 1 from by omega) with rfl | rfl
  · skip
    by_cases h0 : i < (s.length : Int)
    · by_cases h1 : bt s (Int.toNat (i)) = 37
      · by_cases h2 : (s.length : Int) ≤ i + 2
        · skip
          have := aB6 s (Int.toNat (i)); have := aB7 s (Int.toNat (i))
          refine cQ4 (h := cZ7) rfl ?_ (aA6) runUr_p2
          unfold cZ7
          exact hc (lnV rfl rfl (by omega)) <|hc (ltT rfl rfl (by omega)) <|hc (ixV rfl rfl rfl (by omega)) <|hc (necF rfl (by omega)) <|hc (adC rfl rfl (by omega)) <|hc (geT rfl rfl (by omega)) <|hnil
        · by_cases h3 : vNib (bt s (Int.toNat (i + 1))) < 0
          · skip
            have := aB6 s (Int.toNat (i)); have := aB7 s (Int.toNat (i))
            have := aB6 s (Int.toNat (i + 1)); have := aB7 s (Int.toNat (i + 1))
            have := rNib (c := bt s (Int.toNat (i + 1))) (by omega) (by omega)
            have := aB6 s (Int.toNat (i + 2)); have := aB7 s (Int.toNat (i + 2))
            have := rNib (c := bt s (Int.toNat (i + 2))) (by omega) (by omega)
            refine cQ4 (h := cZ5) rfl ?_ (aA6) runUr_p4
            unfold cZ5
            exact hc (lnV rfl rfl (by omega)) <|hc (ltT rfl rfl (by omega)) <|hc (ixV rfl rfl rfl (by omega)) <|hc (necF rfl (by omega)) <|hc (adC rfl rfl (by omega)) <|hc (geF rfl rfl (by omega)) <|hc (adC rfl rfl (by omega)) <|hc (ixV rfl rfl rfl (by omega)) <|hc (aL9 (isX rfl) (by omega) (by omega) (denX rfl)) <|hc (ixV rfl rfl rfl (by omega)) <|hc (aL9 (isX rfl) (by omega) (by omega) (denX rfl)) <|hc (ltcT rfl (by omega)) <|hnil
          · by_cases h4 : vNib (bt s (Int.toNat (i + 2))) < 0
            · skip
              have := aB6 s (Int.toNat (i)); have := aB7 s (Int.toNat (i))
              have := aB6 s (Int.toNat (i + 1)); have := aB7 s (Int.toNat (i + 1))
              have := rNib (c := bt s (Int.toNat (i + 1))) (by omega) (by omega)
              have := aB6 s (Int.toNat (i + 2)); have := aB7 s (Int.toNat (i + 2))
              have := rNib (c := bt s (Int.toNat (i + 2))) (by omega) (by omega)
              refine cQ4 (h := cZ6) rfl ?_ (aA6) runUr_p3
              unfold cZ6
              exact hc (lnV rfl rfl (by omega)) <|hc (ltT rfl rfl (by omega)) <|hc (ixV rfl rfl rfl (by omega)) <|hc (necF rfl (by omega)) <|hc (adC rfl rfl (by omega)) <|hc (geF rfl rfl (by omega)) <|hc (adC rfl rfl (by omega)) <|hc (ixV rfl rfl rfl (by omega)) <|hc (aL9 (isX rfl) (by omega) (by omega) (denX rfl)) <|hc (ixV rfl rfl rfl (by omega)) <|hc (aL9 (isX rfl) (by omega) (by omega) (denX rfl)) <|hc (ltcF rfl (by omega)) <|hc (ltcT rfl (by omega)) <|hnil
            · by_cases h5 : (vNib (bt s (Int.toNat (i + 1)))) + (vNib (bt s (Int.toNat (i + 2)))) = 0
              · skip
                have := aB6 s (Int.toNat (i)); have := aB7 s (Int.toNat (i))
                have := aB6 s (Int.toNat (i + 1)); have := aB7 s (Int.toNat (i + 1))
                have := rNib (c := bt s (Int.toNat (i + 1))) (by omega) (by omega)
                have := aB6 s (Int.toNat (i + 2)); have := aB7 s (Int.toNat (i + 2))
                have := rNib (c := bt s (Int.toNat (i + 2))) (by omega) (by omega)
                refine cQ4 (h := cZ4) rfl ?_ (aA6) runUr_p5
                unfold cZ4
                exact hc (lnV rfl rfl (by omega)) <|hc (ltT rfl rfl (by omega)) <|hc (ixV rfl rfl rfl (by omega)) <|hc (necF rfl (by omega)) <|hc (adC rfl rfl (by omega)) <|hc (geF rfl rfl (by omega)) <|hc (adC rfl rfl (by omega)) <|hc (ixV rfl rfl rfl (by omega)) <|hc (aL9 (isX rfl) (by omega) (by omega) (denX rfl)) <|hc (ixV rfl rfl rfl (by omega)) <|hc (aL9 (isX rfl) (by omega) (by omega) (denX rfl)) <|hc (ltcF rfl (by omega)) <|hc (ltcF rfl (by omega)) <|hc (adX rfl rfl rfl (by omega)) <|hc (eqcT rfl (by omega)) <|hnil
              · exact cV8 c0 hI0 h0 h1 h2 h3 h4 h5
      · exact cV9 c0 hI0 h0 h1
    · exfalso; rw [aT1 (by rw [List.length_drop]; omega), x0] at i2; cases i2
  · skip
    by_cases h0 : i < (s.length : Int)
    · by_cases h1 : bt s (Int.toNat (i)) = 37
      · by_cases h2 : (s.length : Int) ≤ i + 2
        · skip
          have := aB6 s (Int.toNat (i)); have := aB7 s (Int.toNat (i))
          refine cQ3 (h := cZ0) rfl ?_ (aA6) runUr_p9
          unfold cZ0
          exact hc (lnV rfl rfl (by omega)) <|hc (ltT rfl rfl (by omega)) <|hc (ixV rfl rfl rfl (by omega)) <|hc (necF rfl (by omega)) <|hc (adC rfl rfl (by omega)) <|hc (geT rfl rfl (by omega)) <|hnil
        · by_cases h3 : vNib (bt s (Int.toNat (i + 1))) < 0
          · skip
            have := aB6 s (Int.toNat (i)); have := aB7 s (Int.toNat (i))
            have := aB6 s (Int.toNat (i + 1)); have := aB7 s (Int.toNat (i + 1))
            have := rNib (c := bt s (Int.toNat (i + 1))) (by omega) (by omega)
            have := aB6 s (Int.toNat (i + 2)); have := aB7 s (Int.toNat (i + 2))
            have := rNib (c := bt s (Int.toNat (i + 2))) (by omega) (by omega)
            refine cQ3 (h := cH5) rfl ?_ (aA6) runUr_p11
            unfold cH5
            exact hc (lnV rfl rfl (by omega)) <|hc (ltT rfl rfl (by omega)) <|hc (ixV rfl rfl rfl (by omega)) <|hc (necF rfl (by omega)) <|hc (adC rfl rfl (by omega)) <|hc (geF rfl rfl (by omega)) <|hc (adC rfl rfl (by omega)) <|hc (ixV rfl rfl rfl (by omega)) <|hc (aL9 (isX rfl) (by omega) (by omega) (denX rfl)) <|hc (ixV rfl rfl rfl (by omega)) <|hc (aL9 (isX rfl) (by omega) (by omega) (denX rfl)) <|hc (ltcT rfl (by omega)) <|hnil
          · by_cases h4 : vNib (bt s (Int.toNat (i + 2))) < 0
            · skip
              have := aB6 s (Int.toNat (i)); have := aB7 s (Int.toNat (i))
              have := aB6 s (Int.toNat (i + 1)); have := aB7 s (Int.toNat (i + 1))
              have := rNib (c := bt s (Int.toNat (i + 1))) (by omega) (by omega)
              have := aB6 s (Int.toNat (i + 2)); have := aB7 s (Int.toNat (i + 2))
              have := rNib (c := bt s (Int.toNat (i + 2))) (by omega) (by omega)
              refine cQ3 (h := cH6) rfl ?_ (aA6) runUr_p10
              unfold cH6
              exact hc (lnV rfl rfl (by omega)) <|hc (ltT rfl rfl (by omega)) <|hc (ixV rfl rfl rfl (by omega)) <|hc (necF rfl (by omega)) <|hc (adC rfl rfl (by omega)) <|hc (geF rfl rfl (by omega)) <|hc (adC rfl rfl (by omega)) <|hc (ixV rfl rfl rfl (by omega)) <|hc (aL9 (isX rfl) (by omega) (by omega) (denX rfl)) <|hc (ixV rfl rfl rfl (by omega)) <|hc (aL9 (isX rfl) (by omega) (by omega) (denX rfl)) <|hc (ltcF rfl (by omega)) <|hc (ltcT rfl (by omega)) <|hnil
            · by_cases h5 : (vNib (bt s (Int.toNat (i + 1)))) + (vNib (bt s (Int.toNat (i + 2)))) = 0
              · skip
                have := aB6 s (Int.toNat (i)); have := aB7 s (Int.toNat (i))
                have := aB6 s (Int.toNat (i + 1)); have := aB7 s (Int.toNat (i + 1))
                have := rNib (c := bt s (Int.toNat (i + 1))) (by omega) (by omega)
                have := aB6 s (Int.toNat (i + 2)); have := aB7 s (Int.toNat (i + 2))
                have := rNib (c := bt s (Int.toNat (i + 2))) (by omega) (by omega)
                refine cQ3 (h := cH4) rfl ?_ (aA6) runUr_p12
                unfold cH4
                exact hc (lnV rfl rfl (by omega)) <|hc (ltT rfl rfl (by omega)) <|hc (ixV rfl rfl rfl (by omega)) <|hc (necF rfl (by omega)) <|hc (adC rfl rfl (by omega)) <|hc (geF rfl rfl (by omega)) <|hc (adC rfl rfl (by omega)) <|hc (ixV rfl rfl rfl (by omega)) <|hc (aL9 (isX rfl) (by omega) (by omega) (denX rfl)) <|hc (ixV rfl rfl rfl (by omega)) <|hc (aL9 (isX rfl) (by omega) (by omega) (denX rfl)) <|hc (ltcF rfl (by omega)) <|hc (ltcF rfl (by omega)) <|hc (adX rfl rfl rfl (by omega)) <|hc (eqcT rfl (by omega)) <|hnil
              · exact cB9 c0 hI0 h0 h1 h2 h3 h4 h5
      · exact cV7 c0 hI0 h0 h1
    · exfalso; rw [aT1 (by rw [List.length_drop]; omega), x0] at i2; cases i2
theorem lfOkUr_2 {l : LF} {h : LH} (s T : LB) (c0 : s.length ≤ 400) (x0 : unS s = none) (st : Nat × Int × LB) (hI : aS8 s T st) (hl : l.hp = some h) (hs : aF3 l h 63 aS0 .ret 4 4 8 = true) {th0 : LA} {sg0 : List (Nat × Nat)} (hth0 : ∀ X, ThOk (cx nu one 1 aA3 aA0) (DUr s T st X) th0) (h0 : aD9 l h 63 4 5 th0 sg0 (epUr st) (hpUr st) = true) {thx : LA} (hthx : ThOk (EUr_2 s T) (cx nu one 1 aA3 aA0) thx) (hx : aF5 l h 63 4 8 thx [(2, .s 0 0), (3, I6 10)] [] = true) : LfOk (cx nu one 1 aA3 aA0) cA0 l :=
  aL5 (E := EUr_2 s T) (aS8 s T) (muUr s T) (DUr s T) (fun _ _ => rfl) (fun _ _ => rfl) (fun _ _ => rfl) (fun st X t ht => aD3.trans (aE2 ((by decide : ∀ t, t ∈ aS0 → t < 1000000) t ht))) rfl rfl rfl hl hs ebUr rfl rfl st hI hth0 h0 hthx hx (roundsUr_2 s T c0 x0)
noncomputable def fi32 : FI := (tabk.fn.get 32).getD default
theorem dI2 : tabk.fn.get 32 = some fi32 := by kernel_rfl
theorem bD3 : fi32.body = some (Tryd.f32.body.getD .skip) := by kernel_rfl
theorem fiB32 : fi32.body.isSome = true := by rw [bD3]; rfl
theorem cfA32 : (aC0 (Tryd.f32.body.getD .skip)).all (fun b => !(aM1 (Go.AX.keyOf b) 8888888)) = true := by kernel_rfl
def dB2 : LK := []
def lh59 : LH := ⟨4, 4, 8, [], []⟩
def lf59 : LF := ⟨3, 63, [(0, .x 0), (2, .s 0 0), (3, I6 0), (4, .nils), (5, I6 0)], [], (.exit 0), [(2, .s 0 0), (3, I6 0), (4, .nils)], some lh59⟩
noncomputable def dK4 : Tab := aB2 ({ tabk with hyp := dB2 }) 32 fi32 [lf59]
theorem runUnR_0 (e : Nat) : okA (call dK4 9000 32 [.x 0] ⟨H0 e , 4, 0, 0⟩) (.tu [.s 0 0, I6 0]) = true := by kernel_rfl
def cC5 (s : LB) : List Value := [St' s]
theorem pathUnR_0 (s : LB) (b0 : s.length ≤ 9223372036854775807) (p0 : s.length ≤ 400) (h0 : ¬ (unS s = none)) (h1 : unS s = some []) (w : World) (hl : aA3 w) : CwR 32 #[St' s] w (.tuple #[St' ([] : LB), .int .i64 0]) := by
  have ho : ∀ k r, (k, r) ∈ dB2 → HOk (cx (nuL (cC5 s)) (fun j _ => aA2 (l := cC5 s) rfl j) 1 aA3 aA0) k r := by
    unfold dB2
    exact hnil
  refine runC (tb := dK4) (ra := .tu [.s 0 0, I6 0]) rfl (aB3.lp1 ((aB0 (nuL (cC5 s)) (fun j _ => aA2 (l := cC5 s) rfl j)).hyps ho) (by omega) dI2 bD3 (aB1 (aB9 rfl ⟨0, keyUr, lfOkUr_0 (l := lf59) (h := lh59) s ([] : LB) (by omega) (by assumption) (0, (0 : Int), ([] : LB)) (cY0 ⟨by omega, by omega, by show unO [] s = unS s; unfold unO; cases unS s <;> simp, fun _ => rfl, fun h => by omega, by simp, by omega⟩) rfl (by kernel_rfl) (th0 := [(0, .x 0), (1, I6 0)]) (sg0 := []) (fun X => thXv (v := St' s) rfl rfl (aC2 (show Is _ (I6 0) (.int .i64 ((0 : Int))) from isTo (v := .int .i64 0) (isI _ _) (by first | rfl | (congr 1; omega))) (aA6))) (by kernel_rfl) (thx := []) (aA6) (by kernel_rfl)⟩) aC1)) rfl (aC7 (by omega)) fiB32 (fun e => runUnR_0 e ) (args := [St' s]) (by simp only [RelL, Rel]; exact ⟨_, _, rfl, rfl, rfl⟩) w hl fun x hx => ?_
  simp only [Rel, RelL] at hx
  obtain ⟨_, rfl, ⟨_, _, rfl, ⟨rfl, _⟩, ⟨_, _, rfl, rfl, rfl⟩⟩⟩ := hx
  rfl
def dB1 : LK := []
def lh60 : LH := ⟨4, 4, 8, [], [(4, .t 1 5)]⟩
def lf60 : LF := ⟨3, 63, [(0, .x 0), (2, .s 0 0), (3, I6 0), (4, .nils), (5, I6 0)], [], (.exit 0), [(2, .s 0 0), (3, I6 0), (4, .sy 4)], some lh60⟩
noncomputable def dK3 : Tab := aB2 ({ tabk with hyp := dB1 }) 32 fi32 [lf60]
theorem runUnR_1 (e : Nat) : okA (call dK3 9000 32 [.x 0] ⟨H0 e , 4, 0, 0⟩) (.tu [.x 1, I6 0]) = true := by kernel_rfl
def cC4 (s : LB) : List Value := [St' s, St' ((unS s).getD [])]
theorem pathUnR_1 (s : LB) (b0 : s.length ≤ 9223372036854775807) (p0 : s.length ≤ 400) (h0 : ¬ (unS s = none)) (h1 : ¬ (unS s = some [])) (w : World) (hl : aA3 w) : CwR 32 #[St' s] w (.tuple #[St' ((unS s).getD []), .int .i64 0]) := by
  obtain ⟨T, hT⟩ : ∃ T, unS s = some T := by cases h : unS s with | none => exact absurd h (by assumption) | some T => exact ⟨T, rfl⟩
  have hTg : (unS s).getD [] = T := by rw [hT]; rfl
  have hTp : 1 ≤ ((unS s).getD []).length := by rw [hTg]; exact List.length_pos_iff.2 (fun h => (by assumption : ¬ unS s = some []) (by rw [hT, h]))
  have := cB5 hT
  rw [← hTg] at this
  have ho : ∀ k r, (k, r) ∈ dB1 → HOk (cx (nuL (cC4 s)) (fun j _ => aA2 (l := cC4 s) rfl j) 1 aA3 aA0) k r := by
    unfold dB1
    exact hnil
  refine runC (tb := dK3) (ra := .tu [.x 1, I6 0]) rfl (aB3.lp1 ((aB0 (nuL (cC4 s)) (fun j _ => aA2 (l := cC4 s) rfl j)).hyps ho) (by omega) dI2 bD3 (aB1 (aB9 rfl ⟨0, keyUr, lfOkUr_1 (l := lf60) (h := lh60) s ((unS s).getD []) (by omega) (by rw [hT]; rfl) hTp (0, (0 : Int), ([] : LB)) (cY0 ⟨by omega, by omega, by show unO [] s = unS s; unfold unO; cases unS s <;> simp, fun _ => rfl, fun h => by omega, by simp, by omega⟩) rfl (by kernel_rfl) (th0 := [(0, .x 0), (1, I6 0)]) (sg0 := []) (fun X => thXv (v := St' s) rfl rfl (aC2 (show Is _ (I6 0) (.int .i64 ((0 : Int))) from isTo (v := .int .i64 0) (isI _ _) (by first | rfl | (congr 1; omega))) (aA6))) (by kernel_rfl) (thx := [(1, .x 0)]) (thXv (v := St' ((unS s).getD [])) rfl rfl (aA6)) (by kernel_rfl)⟩) aC1)) rfl (aC7 (by omega)) fiB32 (fun e => runUnR_1 e ) (args := [St' s]) (by simp only [RelL, Rel]; exact ⟨_, _, rfl, rfl, rfl⟩) w hl fun x hx => ?_
  simp only [Rel, RelL] at hx
  obtain ⟨_, rfl, ⟨_, _, rfl, rfl, ⟨_, _, rfl, rfl, rfl⟩⟩⟩ := hx
  rfl
def dB0 : LK := []
def lf61 : LF := ⟨3, 63, [(0, .x 0), (2, .s 0 0), (3, I6 0), (4, .nils), (5, I6 0)], [], .ret, [(2, .s 0 0), (3, I6 10)], some lh59⟩
noncomputable def dK2 : Tab := aB2 ({ tabk with hyp := dB0 }) 32 fi32 [lf61]
theorem runUnR_2 (e : Nat) : okA (call dK2 9000 32 [.x 0] ⟨H0 e , 4, 0, 0⟩) (.tu [.s 0 0, I6 10]) = true := by kernel_rfl
def cC3 (s : LB) : List Value := [St' s]
theorem pathUnR_2 (s : LB) (b0 : s.length ≤ 9223372036854775807) (p0 : s.length ≤ 400) (h0 : unS s = none) (w : World) (hl : aA3 w) : CwR 32 #[St' s] w (.tuple #[St' ([] : LB), .int .i64 10]) := by
  have ho : ∀ k r, (k, r) ∈ dB0 → HOk (cx (nuL (cC3 s)) (fun j _ => aA2 (l := cC3 s) rfl j) 1 aA3 aA0) k r := by
    unfold dB0
    exact hnil
  refine runC (tb := dK2) (ra := .tu [.s 0 0, I6 10]) rfl (aB3.lp1 ((aB0 (nuL (cC3 s)) (fun j _ => aA2 (l := cC3 s) rfl j)).hyps ho) (by omega) dI2 bD3 (aB1 (aB9 rfl ⟨0, keyUr, lfOkUr_2 (l := lf61) (h := lh59) s ([] : LB) (by omega) (by assumption) (0, (0 : Int), ([] : LB)) (cY0 ⟨by omega, by omega, by show unO [] s = unS s; unfold unO; cases unS s <;> simp, fun _ => rfl, fun h => by omega, by simp, by omega⟩) rfl (by kernel_rfl) (th0 := [(0, .x 0), (1, I6 0)]) (sg0 := []) (fun X => thXv (v := St' s) rfl rfl (aC2 (show Is _ (I6 0) (.int .i64 ((0 : Int))) from isTo (v := .int .i64 0) (isI _ _) (by first | rfl | (congr 1; omega))) (aA6))) (by kernel_rfl) (thx := []) (aA6) (by kernel_rfl)⟩) aC1)) rfl (aC7 (by omega)) fiB32 (fun e => runUnR_2 e ) (args := [St' s]) (by simp only [RelL, Rel]; exact ⟨_, _, rfl, rfl, rfl⟩) w hl fun x hx => ?_
  simp only [Rel, RelL] at hx
  obtain ⟨_, rfl, ⟨_, _, rfl, ⟨rfl, _⟩, ⟨_, _, rfl, rfl, rfl⟩⟩⟩ := hx
  rfl
theorem callsUnR (s : LB) (b0 : s.length ≤ 9223372036854775807) (p0 : s.length ≤ 400) (w : World) (hl : aA3 w) : CwR 32 #[St' s] w (if unS s = none then .tuple #[St' [], .int .i64 10] else .tuple #[St' ((unS s).getD []), .int .i64 0]) := by
  by_cases h0 : unS s = none
  · rw [show (if unS s = none then .tuple #[St' [], .int .i64 10] else .tuple #[St' ((unS s).getD []), .int .i64 0] : Value) = (.tuple #[St' ([] : LB), .int .i64 10] : Value) from by first | (rw [if_pos (by assumption)]; done) | (rw [if_neg (by assumption)]; done) | (rw [if_neg (by assumption), (by assumption : unS s = some [])]; rfl)]
    exact pathUnR_2 s b0 p0 h0 w hl
  · by_cases h1 : unS s = some []
    · rw [show (if unS s = none then .tuple #[St' [], .int .i64 10] else .tuple #[St' ((unS s).getD []), .int .i64 0] : Value) = (.tuple #[St' ([] : LB), .int .i64 0] : Value) from by first | (rw [if_pos (by assumption)]; done) | (rw [if_neg (by assumption)]; done) | (rw [if_neg (by assumption), (by assumption : unS s = some [])]; rfl)]
      exact pathUnR_0 s b0 p0 h0 h1 w hl
    · rw [show (if unS s = none then .tuple #[St' [], .int .i64 10] else .tuple #[St' ((unS s).getD []), .int .i64 0] : Value) = (.tuple #[St' ((unS s).getD []), .int .i64 0] : Value) from by first | (rw [if_pos (by assumption)]; done) | (rw [if_neg (by assumption)]; done) | (rw [if_neg (by assumption), (by assumption : unS s = some [])]; rfl)]
      exact pathUnR_1 s b0 p0 h0 h1 w hl
theorem eJ5 {x0 r : AV} {s : LB} (i0 : Is (cx nu one 1 aA3 aA0) x0 (St' s)) (hr : Den (cx nu one 1 aA3 aA0) r (if unS s = none then .tuple #[St' [], .int .i64 10] else .tuple #[St' ((unS s).getD []), .int .i64 0])) (b0 : s.length ≤ 9223372036854775807) (p0 : s.length ≤ 400) : HOk (cx nu one 1 aA3 aA0) (.call 32 [x0]) r := by
  intro ρ args ha w hl _
  simp only [RelL] at ha
  obtain ⟨v0, t0, rfl, a0, rfl⟩ := ha
  have e0 := i0 ρ _ a0; subst e0
  exact (callsUnR s b0 p0 w hl).mono fun e w' he => ⟨_, he.1, hr ρ, he.2⟩
theorem rp_n {s : LB} (h : dcS s = none) : (.tuple #[St' (gS s), .bool (decide (¬ dcS s = none))] : Value) = .tuple #[St' [], .bool false] := by
  unfold gS; rw [h]; rfl
theorem rp_y {s : LB} (h : ¬ dcS s = none) : (.tuple #[St' (gS s), .bool (decide (¬ dcS s = none))] : Value) = .tuple #[St' (gS s), .bool true] := by
  rw [decide_eq_true h]
abbrev mdS (s : LB) (f i : Int) : LB := List.take (Int.toNat (i - f)) (List.drop (Int.toNat (f)) s)
section
variable {s : LB} {f i : Int} {o T : LL}
theorem md_step (h0 : 0 ≤ f) (h1 : f ≤ i) (h2 : i < (s.length : Int)) : mdS s f (i + 1) = mdS s f i ++ [u8 (bt s (Int.toNat (i)))] := by
  unfold mdS
  have e : (i + 1 - f).toNat = (i - f).toNat + 1 := by omega
  rw [e, List.take_add_one, List.getElem?_drop, show f.toNat + (i - f).toNat = i.toNat by omega, dW7, List.getD_eq_getElem?_getD, List.getElem?_eq_getElem (by omega), Option.getD_some]; rfl
theorem bP0 (j : Int) : mdS s j j = [] := by unfold mdS; rw [show (j - j).toNat = 0 by omega]; rfl
theorem dr_at (h0 : 0 ≤ i) (h2 : i < (s.length : Int)) : s.drop (Int.toNat i) = u8 (bt s (Int.toNat (i))) :: s.drop (Int.toNat (i + 1)) := by
  rw [List.drop_eq_getElem_cons (by omega), dW7, List.getD_eq_getElem?_getD, List.getElem?_eq_getElem (by omega), Option.getD_some, show (i + 1).toNat = i.toNat + 1 by omega]
theorem rs_a (h0 : 0 ≤ f) (h1 : f ≤ i) (h2 : i < (s.length : Int)) (hb : ¬ bt s (Int.toNat (i)) = 47) (h : o ++ sp47 (mdS s f i) (s.drop (Int.toNat i)) = T) : o ++ sp47 (mdS s f (i + 1)) (s.drop (Int.toNat (i + 1))) = T := by
  have hne : ¬ u8 (bt s (Int.toNat (i))) = 47 := fun e => hb (by
    have h : ((u8 (bt s (Int.toNat (i)))).toNat : Int) = ((47 : UInt8).toNat : Int) := by rw [e]
    rw [bM0 (aB6 _ _) (aB7 _ _)] at h; exact h)
  rw [md_step h0 h1 h2, ← h, dr_at (by omega) h2, sp47, if_neg hne]
theorem rs_b (h0 : 0 ≤ i) (h2 : i < (s.length : Int)) (hb : bt s (Int.toNat (i)) = 47) (h : o ++ sp47 (mdS s f i) (s.drop (Int.toNat i)) = T) : (o ++ [mdS s f i]) ++ sp47 (mdS s (i + 1) (i + 1)) (s.drop (Int.toNat (i + 1))) = T := by
  rw [bP0, ← h, dr_at h0 h2, hb, sp47, if_pos (by rfl)]; simp
theorem rs_c (h2 : i = (s.length : Int)) (h : o ++ sp47 (mdS s f i) (s.drop (Int.toNat i)) = T) : o ++ [mdS s f i] = T := by
  rw [← h, List.drop_eq_nil_of_le (by omega), sp47]
theorem ft_y {l : LL} (h0 : 0 ≤ i) (h2 : i < (l.length : Int)) (hk : ¬ ((List.getD l (Int.toNat (i)) []).length : Int) = 0) (h : o ++ (l.drop (Int.toNat i)).filter (fun p => !(p == [])) = T) : (o ++ [List.getD l (Int.toNat (i)) []]) ++ (l.drop (Int.toNat (i + 1))).filter (fun p => !(p == [])) = T := by
  have e : List.getD l (Int.toNat (i)) [] = l[i.toNat]'(by omega) := by rw [List.getD_eq_getElem?_getD, List.getElem?_eq_getElem (by omega), Option.getD_some]
  rw [e] at hk ⊢
  rw [← h, List.drop_eq_getElem_cons (by omega : i.toNat < l.length), show (i + 1).toNat = i.toNat + 1 by omega, List.filter_cons, if_pos (by simp; intro e; exact hk (by rw [e]; rfl))]; simp
theorem ft_n {l : LL} (h0 : 0 ≤ i) (h2 : i < (l.length : Int)) (hk : ((List.getD l (Int.toNat (i)) []).length : Int) = 0) (h : o ++ (l.drop (Int.toNat i)).filter (fun p => !(p == [])) = T) : o ++ (l.drop (Int.toNat (i + 1))).filter (fun p => !(p == [])) = T := by
  have e : List.getD l (Int.toNat (i)) [] = l[i.toNat]'(by omega) := by rw [List.getD_eq_getElem?_getD, List.getElem?_eq_getElem (by omega), Option.getD_some]
  rw [e] at hk
  have hz : l[i.toNat]'(by omega) = [] := List.eq_nil_of_length_eq_zero (by omega)
  rw [← h, List.drop_eq_getElem_cons (by omega : i.toNat < l.length), show (i + 1).toNat = i.toNat + 1 by omega, List.filter_cons, if_neg (by rw [hz]; simp)]
theorem ft_e {l : LL} (h2 : ¬ i < (l.length : Int)) (h : o ++ (l.drop (Int.toNat i)).filter (fun p => !(p == [])) = T) : o = T := by
  rw [← h, List.drop_eq_nil_of_le (by omega)]; simp
end
/-- the reference's fold -/
def rfF : LL → LL → Bool → Option (LL × Bool)
  | [], k, b => some (k, b)
  | r :: rs, k, _ => match stpG unS r k with | none => none | some k' => rfF rs k' (psB (gS r) || ddB (gS r))
def apF : LL → Bool
  | [] => false
  | r :: rs => kpB unS r || apF rs
theorem rfF_cl : ∀ (rs k : LL) (b : Bool), rs ≠ [] → rfF rs k b = (match clL unS rs k with | none => none | some (k', t) => match stpG unS t k' with | none => none | some k2 => some (k2, psB (gS t) || ddB (gS t)))
  | [], _, _, h => absurd rfl h
  | r :: rs, k, b, _ => by
    rw [rfF, clL]
    by_cases hr : rs = []
    · subst hr; rw [if_pos rfl]; simp only; cases stpG unS r k <;> rfl
    · rw [if_neg hr]
      cases h : stpG unS r k with
      | none => rfl
      | some k' => exact rfF_cl rs k' _ hr
theorem eM8 : ∀ (rs : LL) (b : Bool) (o : LL × Bool), apF rs = false → rfF rs [] b = some o → o.1 = []
  | [], b, o, _, e => by simp only [rfF, Option.some.injEq] at e; subst e; rfl
  | r :: rs, b, o, h, e => by
    rw [apF, Bool.or_eq_false_iff] at h
    rw [rfF] at e
    split at e
    · cases e
    · rename_i k' hk
      have : k' = [] := by
        have h1 := h.1
        unfold stpG at hk; unfold kpB at h1
        split at hk
        · cases hk
        · rename_i p hp
          rw [hp] at h1
          split at hk
          · rw [if_pos rfl] at hk; cases hk
          · split at hk
            · injection hk with hk; exact hk.symm
            · rename_i a b
              simp only [Bool.not_eq_true] at a b
              simp only [a, b] at h1; exact absurd h1 (by decide)
      subst this
      exact eM8 rs _ o h.2 e
section
variable {l o k' To : LL} {i : Int} {A Bh B C : Bool} {Q : Option (LL × Bool)}
abbrev lI (l : LL) (i : Int) : LB := List.getD l (Int.toNat (i)) []
theorem cR7 (h0 : 0 ≤ i) (h2 : i < (l.length : Int)) : l.drop (Int.toNat i) = lI l i :: l.drop (Int.toNat (i + 1)) := by
  unfold lI
  rw [List.drop_eq_getElem_cons (by omega : i.toNat < l.length), show (i + 1).toNat = i.toNat + 1 by omega, List.getD_eq_getElem?_getD, List.getElem?_eq_getElem (by omega), Option.getD_some]
theorem cO1 (h0 : 0 ≤ i) (h2 : i < (l.length : Int)) (hs : stpG unS (lI l i) o = some k') (hA : (psB (gS (lI l i)) || ddB (gS (lI l i))) = C) (h : rfF (l.drop (Int.toNat i)) o A = Q) : rfF (l.drop (Int.toNat (i + 1))) k' C = Q := by
  rw [← h, cR7 h0 h2, rfF, hs]; simp only; rw [hA]
theorem bJ0 (h0 : 0 ≤ i) (h2 : i < (l.length : Int)) (hs : stpG unS (lI l i) o = none) (h : rfF (l.drop (Int.toNat i)) o A = Q) : Q = none := by rw [← h, cR7 h0 h2, rfF, hs]
theorem cO2 (h2 : ¬ i < (l.length : Int)) (h : rfF (l.drop (Int.toNat i)) o A = Q) : Q = some (o, A) := by rw [← h, List.drop_eq_nil_of_le (by omega), rfF]
theorem af_yes (h0 : 0 ≤ i) (h2 : i < (l.length : Int)) (hk : kpB unS (lI l i) = true) (h : (A || apF (l.drop (Int.toNat i))) = B) : B = true := by rw [← h, cR7 h0 h2, apF, hk]; simp
theorem eN2 (h0 : 0 ≤ i) (h2 : i < (l.length : Int)) (hk : kpB unS (lI l i) = false) (h : (A || apF (l.drop (Int.toNat i))) = B) : (A || apF (l.drop (Int.toNat (i + 1)))) = B := by rw [← h, cR7 h0 h2, apF, hk, Bool.false_or]
theorem af_end (h2 : ¬ i < (l.length : Int)) (h : (A || apF (l.drop (Int.toNat i))) = B) : B = A := by rw [← h, List.drop_eq_nil_of_le (by omega), apF, Bool.or_false]
theorem ex_f (h1 : Q = some (o, A)) (h2 : Q = some (To, Bh)) : o = To ∧ A = Bh := by
  rw [h1] at h2; injection h2 with h; injection h with h3 h4; exact ⟨h3, h4⟩
end
theorem cV3 : ∀ (rs k : LL) (b : Bool) (o : LL × Bool), rfF rs k b = some o → (rs = [] ∧ o = (k, b)) ∨ ((apF rs = false → o.2 = true) ∧ (o.2 = false → 1 ≤ o.1.length))
  | [], k, b, o, e => by simp only [rfF, Option.some.injEq] at e; exact .inl ⟨rfl, e.symm⟩
  | r :: rs, k, b, o, e => by
    right
    rw [rfF] at e
    cases hs : stpG unS r k with
    | none => rw [hs] at e; cases e
    | some k' =>
      rw [hs] at e
      simp only at e
      have hC : (kpB unS r = false → (psB (gS r) || ddB (gS r)) = true) ∧ ((psB (gS r) || ddB (gS r)) = false → 1 ≤ k'.length) := by
        by_cases hd : dcS r = none
        · rw [(aM5 hd).1] at hs; cases hs
        · by_cases h1 : gS r = [u8 46, u8 46]
          · have := dd_y h1; rw [this]; exact ⟨fun _ => rfl, fun h => by cases h⟩
          · by_cases h2 : psB (gS r) = true
            · have := (aM4 (o := k) hd h2).2.2; rw [this]; exact ⟨fun _ => rfl, fun h => by cases h⟩
            · have := aT3 (o := k) hd h1 h2
              rw [this.1] at hs; injection hs with hs
              refine ⟨fun h => ?_, fun _ => by rw [← hs]; simp⟩
              rw [this.2.1] at h; cases h
      rcases cV3 rs k' _ o e with ⟨h1, h2⟩ | ⟨h1, h2⟩
      · subst h1; subst h2
        refine ⟨fun h => hC.1 ?_, hC.2⟩
        rw [apF, Bool.or_eq_false_iff] at h; exact h.1
      · refine ⟨fun h => h1 ?_, h2⟩
        rw [apF, Bool.or_eq_false_iff] at h; exact h.2
abbrev rQx (s : LB) : Option (LL × Bool) := rfF (sp47 [] (List.drop (Int.toNat (1)) s)) [] false
abbrev rBx (s : LB) : Bool := apF (sp47 [] (List.drop (Int.toNat (1)) s))
def rKx (s : LB) : LL × Bool := (rQx s).getD ([], false)
abbrev rTx (s : LB) : LL := (rKx s).1
theorem aQ8 {s : LB} (h : ¬ rQx s = none) : rQx s = some (rTx s, (rKx s).2) := by
  unfold rTx rKx
  cases e : rQx s with
  | none => exact absurd e h
  | some o => rfl
theorem rKx_b {s : LB} {b : Bool} (h : ¬ rQx s = none) (hb : (rKx s).2 = b) : rQx s = some (rTx s, b) := by rw [← hb]; exact aQ8 h
theorem eB3 {s : LB} (h : ¬ rQx s = none) (ha : rBx s = false) : rTx s = [] := eM8 _ _ _ ha (aQ8 h)
theorem rKx_n {s : LB} {b : Bool} (h : ¬ rQx s = none) (ha : rBx s = false) (hb : (rKx s).2 = b) : rQx s = some ([], b) := by have := rKx_b h hb; rw [eB3 h ha] at this; exact this
theorem rKx_t {s : LB} (h : ¬ rQx s = none) (ha : rBx s = false) : (rKx s).2 = true := by
  rcases cV3 _ _ _ _ (aQ8 h) with ⟨h1, _⟩ | ⟨h1, _⟩
  · exact absurd h1 (aZ9 _ _)
  · exact h1 ha
theorem rKx_f {s : LB} (h : ¬ rQx s = none) (hb : (rKx s).2 = false) : 1 ≤ (rTx s).length := by
  rcases cV3 _ _ _ _ (aQ8 h) with ⟨h1, _⟩ | ⟨_, h1⟩
  · exact absurd h1 (aZ9 _ _)
  · exact h1 hb
def outB (k : LL) (b : Bool) : LB := fl47 k ++ (if b = true ∨ fl47 k = [] then [47] else [])
theorem eB2 (s : LB) : aB4 unS s = if s.head? = some 47 then (match rQx s with | none => none | some (k, b) => some (outB k b)) else none := by
  unfold aB4
  by_cases h : s.head? = some 47
  · rw [if_pos h, if_pos h]
    cases s with
    | nil => cases h
    | cons c r =>
      have hc : c = 47 := by simpa using h
      subst hc
      have hs0 : stpG unS [] [] = some [] := by
        have hd0 : decG unS [] = some [] := by unfold decG; rw [aN7 rfl]; rfl
        unfold stpG; rw [hd0]; rfl
      have e : clL unS (sp47 [] (47 :: r)) [] = clL unS (sp47 [] r) [] := by
        rw [sp47, if_pos rfl, clL, if_neg (aZ9 _ _), hs0]
      rw [e, show rQx (47 :: r) = rfF (sp47 [] r) [] false from rfl, rfF_cl _ _ _ (aZ9 _ _)]
      cases clL unS (sp47 [] r) [] with
      | none => rfl
      | some kt =>
        obtain ⟨k, t⟩ := kt
        simp only
        cases stpG unS t k with
        | none => rfl
        | some k2 =>
          simp only
          rw [out_eq]; rfl
  · rw [if_neg h, if_neg h]
theorem hd0 {s : LB} (h : ¬ (s.length : Int) = 0) : s.head? = some 47 ↔ bt s 0 = 47 := by
  cases s with
  | nil => simp at h
  | cons c r =>
    show some c = some 47 ↔ ((c.toNat : Int) = 47)
    constructor
    · intro e; injection e with e; subst e; rfl
    · intro e; congr 1; exact UInt8.toNat_inj.1 (by have : c.toNat = 47 := by omega
                                                    exact this)
theorem rc_0 {s : LB} (h : (s.length : Int) = 0) : aB4 unS s = none := by
  rw [List.eq_nil_of_length_eq_zero (by omega : s.length = 0)]; rfl
theorem rc_h {s : LB} (h : ¬ (s.length : Int) = 0) (h1 : ¬ bt s 0 = 47) : aB4 unS s = none := by rw [eB2, if_neg (fun e => h1 ((hd0 h).1 e))]
theorem rc_n {s : LB} (h : ¬ (s.length : Int) = 0) (h1 : bt s 0 = 47) (hx : rQx s = none) : aB4 unS s = none := by rw [eB2, if_pos ((hd0 h).2 h1), hx]
theorem rc_y {s : LB} {b : Bool} (h : ¬ (s.length : Int) = 0) (h1 : bt s 0 = 47) (hx : ¬ rQx s = none) (hb : (rKx s).2 = b) : aB4 unS s = some (outB (rTx s) b) := by rw [eB2, if_pos ((hd0 h).2 h1), rKx_b hx hb]
theorem ob_t (k : LL) : outB k true = fl47 k ++ [u8 47] := by unfold outB; rw [if_pos (Or.inl rfl)]; rfl
theorem ob_e {k : LL} {b : Bool} (h : ((fl47 k).length : Int) = 0) : outB k b = fl47 k ++ [u8 47] := by unfold outB; rw [if_pos (Or.inr (List.eq_nil_of_length_eq_zero (by omega)))]; rfl
theorem ob_f {k : LL} (h : ¬ ((fl47 k).length : Int) = 0) : outB k false = fl47 k := by
  unfold outB; rw [if_neg (by rintro (e | e); · cases e
                              · exact h (by rw [e]; rfl)), List.append_nil]
theorem bV9 (s : LB) : (sp47 [] s).length ≤ s.length + 1 := by
  have := bI8 s []; have h : ∀ l : LL, l.length ≤ tot l := fun l => by
    induction l with
    | nil => exact Nat.le_refl _
    | cons a r ih => simp only [tot, List.length_cons]; omega
  have := h (sp47 [] s); simp only [List.length_nil] at *; omega
theorem dN8 (s : LB) : ∀ q ∈ sp47 [] s, q.length ≤ s.length := by
  have h : ∀ l : LL, ∀ q ∈ l, q.length + 1 ≤ tot l := fun l => by
    induction l with
    | nil => intro q hq; cases hq
    | cons a r ih =>
      intro q hq
      rcases List.mem_cons.1 hq with e | e
      · subst e; simp only [tot]; omega
      · have := ih q e; simp only [tot]; omega
  intro q hq
  have := h _ q hq; rw [bI8] at this; simp only [List.length_nil] at this; omega
theorem aR9 {l : LL} {n : Nat} (h : ∀ q ∈ l, q.length ≤ n) (i : Int) : (lI l i).length ≤ n := by
  unfold lI
  rw [List.getD_eq_getElem?_getD]
  cases e : l[Int.toNat i]? with
  | none => simp
  | some q => exact h q (List.mem_of_getElem? e)
theorem dT4 {l : LL} {i : Int} {s : LB} (h0 : 0 ≤ i) (h : i < (l.length : Int)) (hs : s = fl47 (l.take i.toNat)) : s ++ ([u8 47] ++ List.getD l (Int.toNat (i)) []) = fl47 (l.take (i + 1).toNat) ∧ (s ++ ([u8 47] ++ List.getD l (Int.toNat (i)) [])).length ≤ (fl47 l).length := by
  have hlt : i.toNat < l.length := by omega
  have e : s ++ ([u8 47] ++ List.getD l (Int.toNat (i)) []) = fl47 (l.take (i + 1).toNat) := by
    rw [hs, show (i + 1).toNat = i.toNat + 1 by omega, List.take_add_one, List.getElem?_eq_getElem hlt, Option.toList_some, aW9, List.getD_eq_getElem?_getD, List.getElem?_eq_getElem hlt, Option.getD_some]
    show _ ++ _ = _ ++ (47 :: (_ ++ [])); rw [List.append_nil]; rfl
  exact ⟨e, by rw [e]; exact fl_tk l _⟩
theorem fl_end {l : LL} {i : Int} {s : LB} (h : ¬ i < (l.length : Int)) (hs : s = fl47 (l.take i.toNat)) : s = fl47 l := by rw [hs, List.take_of_length_le (by omega)]
theorem rf_len : ∀ (rs k : LL) (b : Bool) (o : LL × Bool), rfF rs k b = some o → (fl47 o.1).length ≤ (fl47 k).length + tot rs
  | [], k, b, o, e => by simp only [rfF, Option.some.injEq] at e; subst e; simp [tot]
  | r :: rs, k, b, o, e => by
    rw [rfF] at e
    split at e
    · cases e
    · rename_i k' hk
      have h1 := (cV1 (un := unS) (fun r p => un_le) hk).1
      have h2 := rf_len rs k' _ o e
      rw [tot]; omega
theorem dP2 (s : LB) : (fl47 (rTx s)).length ≤ s.length + 1 ∧ (rTx s).length ≤ (fl47 (rTx s)).length := by
  refine ⟨?_, aZ3 _⟩
  by_cases h : rQx s = none
  · unfold rTx rKx; rw [h]; simp [fl47]
  · have := rf_len _ _ _ _ (aQ8 h)
    rw [bI8] at this; simp only [fl47, List.length_nil, List.length_drop] at this; show (fl47 (rTx s)).length ≤ _; omega
noncomputable def dU4 : Code := aL8 (Tryd.f21.body.getD .skip) 0
theorem keyRp : aK6 (aC0 (Tryd.f21.body.getD .skip)) 5 0 0 = true := by kernel_rfl
def bJ6 : List Nat := []
def eK7 : LA := [(2, .s 0 0), (3, .b false), (4, .x 0), (6, .x 1)]
def eJ1 : LE := []
def aY4 (s : LB) (A : Bool) (i : Int) : List Value := [St' s, .int .i64 (i), St' ([] : LB), .int .i64 ((s.length : Int)), St' ([] : LB), .int .i64 ((s.length : Int)), .int .u8 (bt s (Int.toNat (i))), .int .i64 (i + 1), St' ([] : LB), .int .i64 ((s.length : Int)), .int .u8 (bt s (Int.toNat (i))), St' ([] : LB), .int .i64 ((s.length : Int)), .int .u8 (bt s (Int.toNat (i))), St' ([] : LB), .int .i64 ((s.length : Int)), .int .u8 (bt s (Int.toNat (i)))]
def cN4 (s : LB) (A : Bool) (i : Int) : List Value := []
def epRp (st : Nat × Int) : LA := eK7
def hpRp (st : Nat × Int) : LE := eJ1
def nuRp (s : LB) (A : Bool) (st : Nat × Int) : List Value := aY4 s A (st.2)
def roRp (s : LB) (A : Bool) (st : Nat × Int) : List Value := cN4 s A (st.2)
theorem onRp (s : LB) (A : Bool) (st : Nat × Int) : ∀ j, (nuL (nuRp s A st) j).oneCell' = true := by
  intro j
  unfold nuRp
  exact aA2 (l := aY4 s A (st.2)) rfl j
theorem ebRp (st : Nat × Int) : (lfB (epRp st) && lfC bJ6) = true := by
  unfold epRp
  rfl
noncomputable def DRp (s : LB) (A : Bool) (st : Nat × Int) (X : Nat → Value) : Cx := cx (nuX (nuRp s A st) (rX (roRp s A st) X)) (aA4 (onRp s A st)) 1 aA3 aA0
def bU2 (s : LB) (A : Bool) (st : Nat × Int) : Prop := (0 ≤ (st.2)) ∧ ((st.2) ≤ (s.length : Int)) ∧ ((s.drop (Int.toNat (st.2))).any pbB = A) ∧ ((st.1) < 1)
abbrev CjRp (s : LB) (A : Bool) (tag : Nat) (i : Int) : Prop := (0 ≤ i) ∧ (i ≤ (s.length : Int)) ∧ ((s.drop (Int.toNat i)).any pbB = A) ∧ (tag < 1)
theorem mkIRp {s : LB} {A : Bool} {tag : Nat} {i : Int} (h : CjRp s A tag i) : bU2 s A (tag, i) := h
theorem unIRp (s : LB) (A : Bool) (tag : Nat) (i : Int) (h : bU2 s A (tag, i)) : (0 ≤ i) ∧ (i ≤ (s.length : Int)) ∧ ((s.drop (Int.toNat i)).any pbB = A) ∧ (tag < 1) := h
def muRp (s : LB) (A : Bool) (st : Nat × Int) : Nat := (s.length - (st.2).toNat)
abbrev RHRp (s : LB) (A : Bool) (E' : Cx) (ex' : Ex) (epx' : LA) (hpx' : LE) (st : Nat × Int) (X : Nat → Value) : Prop := aC3 E' dU4 bJ6 37 ex' 4 4 4 4 epRp hpRp epx' hpx' (bU2 s A) (muRp s A) (DRp s A) st X
noncomputable abbrev bT8 (h : LK) (x : Ex) (th : LA) (sg : List (Nat × Nat)) (m : Nat) (ep : LA) (hp : LE) : Bool := aL4 (code (tbl h) 900 [] dU4 (aH4 (aE4 eK7 bJ6) 37) ⟨aD1 eJ1 .leaf, 4, 0, 0⟩) x bJ6 37 4 th sg 4 m ep hp
theorem stRp_0 {s : LB} {A : Bool} {i : Int} {X : Nat → Value} {h : LK} (y : Nat × Int) {th : LA} {sg : List (Nat × Nat)} (ho : ∀ a' r', (a', r') ∈ h → HOk (cx (nuX (aY4 s A i) (rX (cN4 s A i) X)) (aA4 (aA2 (l := aY4 s A i) rfl)) 1 aA3 aA0) a' r') (hy : bU2 s A y) (lt : muRp s A y < muRp s A (0, i)) (ht : ThOk (cx (nuX (aY4 s A i) (rX (cN4 s A i) X)) (aA4 (aA2 (l := aY4 s A i) rfl)) 1 aA3 aA0) (DRp s A y X) th) (run : bT8 h .normal th sg 4 (epRp y) (hpRp y) = true) : RHRp s A E' x' e' h' (0, i) X :=
  aC3.next (tb := tbl h) (L := []) (f := 900) y ((aB0 _ _).hyps ho) (LpOk.nil _) rfl hy lt ht run
theorem dQ6 {s : LB} {A : Bool} {i : Int} {X : Nat → Value} {h : LK} {th : LA} {sg : List (Nat × Nat)} (hne : exB x' .normal = false) (ho : ∀ a' r', (a', r') ∈ h → HOk (cx (nuX (aY4 s A i) (rX (cN4 s A i) X)) (aA4 (aA2 (l := aY4 s A i) rfl)) 1 aA3 aA0) a' r') (ht : ThOk (cx (nuX (aY4 s A i) (rX (cN4 s A i) X)) (aA4 (aA2 (l := aY4 s A i) rfl)) 1 aA3 aA0) E' th) (run : bT8 h x' th sg 4 e' h' = true) : RHRp s A E' x' e' h' (0, i) X :=
  aC3.leave (tb := tbl h) (L := []) (f := 900) ((aB0 _ _).hyps ho) (LpOk.nil _) rfl hne ht run
def dC5 : LK := [(.len (.x 0), .x 3), (.bin .lss (.x 1) (.x 3), .b false)]
theorem runRp_p0 : bT8 dC5 (.exit 0) [(0, .x 0)] [] 4 [(4, .x 0)] [] = true := by kernel_rfl
def dC4 : LK := [(.len (.x 0), .x 5), (.bin .lss (.x 1) (.x 5), .b true), (.idx (.x 0) (.x 1), .x 6), (.bin .eql (.x 6) (.i .u8 (.ofNat 47)), .b false), (.bin .lss (.x 6) (.i .u8 (.ofNat 32)), .b false), (.bin .eql (.x 6) (.i .u8 (.ofNat 127)), .b false), (.bin .add (.x 1) (I6 1), .x 7)]
theorem runRp_p1 : bT8 dC4 .normal [(0, .x 0), (1, .x 7)] [] 4 eK7 eJ1 = true := by kernel_rfl
def dC3 : LK := [(.len (.x 0), .x 9), (.bin .lss (.x 1) (.x 9), .b true), (.idx (.x 0) (.x 1), .x 10), (.bin .eql (.x 10) (.i .u8 (.ofNat 47)), .b true)]
theorem runRp_p2 : bT8 dC3 .ret [] [] 4 [(2, .s 0 0), (3, .b false)] [] = true := by kernel_rfl
def dC2 : LK := [(.len (.x 0), .x 12), (.bin .lss (.x 1) (.x 12), .b true), (.idx (.x 0) (.x 1), .x 13), (.bin .eql (.x 13) (.i .u8 (.ofNat 47)), .b false), (.bin .lss (.x 13) (.i .u8 (.ofNat 32)), .b false), (.bin .eql (.x 13) (.i .u8 (.ofNat 127)), .b true)]
theorem runRp_p3 : bT8 dC2 .ret [] [] 4 [(2, .s 0 0), (3, .b false)] [] = true := by kernel_rfl
def dC1 : LK := [(.len (.x 0), .x 15), (.bin .lss (.x 1) (.x 15), .b true), (.idx (.x 0) (.x 1), .x 16), (.bin .eql (.x 16) (.i .u8 (.ofNat 47)), .b false), (.bin .lss (.x 16) (.i .u8 (.ofNat 32)), .b true)]
theorem runRp_p4 : bT8 dC1 .ret [] [] 4 [(2, .s 0 0), (3, .b false)] [] = true := by kernel_rfl
section
variable {s : LB} {A : Bool} (c0 : s.length ≤ 1000) {i : Int} {X : Nat → Value}
include c0
theorem eE6 (hI : bU2 s A (0, i)) (h0 : i < (s.length : Int)) (h1 : ¬ (bt s (Int.toNat (i)) = 47)) (h2 : ¬ (bt s (Int.toNat (i)) < 32)) (h3 : ¬ (bt s (Int.toNat (i)) = 127)) : RHRp s A E' x' e' h' (0, i) X := by
  obtain ⟨i0, i1, i2, it⟩ := unIRp s A 0 i hI
  have := aB6 s (Int.toNat (i)); have := aB7 s (Int.toNat (i))
  refine stRp_0 (h := dC4) (0, (i + 1)) ?_ (mkIRp ⟨by omega, by omega, pb_no (by omega) (by omega) (pbF3 (aB6 _ _) (aB7 _ _) (by assumption) (by assumption) (by assumption)) i2, by omega⟩) (by show s.length - (i + 1).toNat < s.length - i.toNat; omega) (thXv (v := St' s) rfl rfl (thXi (b := ((i + 1))) rfl rfl (by omega) (aA6))) runRp_p1
  unfold dC4
  exact hc (lnV rfl rfl (by omega)) <|hc (ltT rfl rfl (by omega)) <|hc (ixV rfl rfl rfl (by omega)) <|hc (eqcF rfl (by omega)) <|hc (ltcF rfl (by omega)) <|hc (eqcF rfl (by omega)) <|hc (adC rfl rfl (by omega)) <|hnil
end
def eG1 (s : LB) (A : Bool) : List Value := [St' s]
def roERp_0 (s : LB) (A : Bool) : List Value := []
noncomputable def ERp_0 (s : LB) (A : Bool) : Cx := cx (nuX (eG1 s A) (rX (roERp_0 s A) (fun _ => .bool true))) (aA4 (aA2 (l := eG1 s A) rfl)) 1 aA3 aA0
theorem roundsRp_0 (s : LB) (A : Bool) (c0 : s.length ≤ 1000) (x0 : A = false) (st : Nat × Int) (X : Nat → Value) (hI : bU2 s A st) : RHRp s A (ERp_0 s A) (.exit 0) [(4, .x 0)] [] st X := by
  obtain ⟨tag, i⟩ := st
  have hI0 := hI
  obtain ⟨i0, i1, i2, it⟩ := unIRp s A tag i hI
  obtain rfl : tag = 0 := by omega
  skip
  by_cases h0 : i < (s.length : Int)
  · by_cases h1 : bt s (Int.toNat (i)) = 47
    · exfalso; have e := bW1 (by omega) (by omega) (by first | exact pbF0 (aB6 _ _) (aB7 _ _) (by assumption) | exact pbF1 (aB6 _ _) (aB7 _ _) (by assumption) | exact pbF2 (aB6 _ _) (aB7 _ _) (by assumption)) i2; rw [e] at x0; exact absurd x0 (by simp)
    · by_cases h2 : bt s (Int.toNat (i)) < 32
      · exfalso; have e := bW1 (by omega) (by omega) (by first | exact pbF0 (aB6 _ _) (aB7 _ _) (by assumption) | exact pbF1 (aB6 _ _) (aB7 _ _) (by assumption) | exact pbF2 (aB6 _ _) (aB7 _ _) (by assumption)) i2; rw [e] at x0; exact absurd x0 (by simp)
      · by_cases h3 : bt s (Int.toNat (i)) = 127
        · exfalso; have e := bW1 (by omega) (by omega) (by first | exact pbF0 (aB6 _ _) (aB7 _ _) (by assumption) | exact pbF1 (aB6 _ _) (aB7 _ _) (by assumption) | exact pbF2 (aB6 _ _) (aB7 _ _) (by assumption)) i2; rw [e] at x0; exact absurd x0 (by simp)
        · exact eE6 c0 hI0 h0 h1 h2 h3
  · skip
    refine dQ6 (h := dC5) rfl ?_ (thXv (v := St' s) rfl rfl (aA6)) runRp_p0
    unfold dC5
    exact hc (lnV rfl rfl (by omega)) <|hc (ltF rfl rfl (by omega)) <|hnil
theorem lfOkRp_0 {l : LF} {h : LH} (s : LB) (A : Bool) (c0 : s.length ≤ 1000) (x0 : A = false) (st : Nat × Int) (hI : bU2 s A st) (hl : l.hp = some h) (hs : aF3 l h 37 bJ6 (.exit 0) 4 4 4 = true) {th0 : LA} {sg0 : List (Nat × Nat)} (hth0 : ∀ X, ThOk (cx nu one 1 aA3 aA0) (DRp s A st X) th0) (h0 : aD9 l h 37 4 4 th0 sg0 (epRp st) (hpRp st) = true) {thx : LA} (hthx : ThOk (ERp_0 s A) (cx nu one 1 aA3 aA0) thx) (hx : aF5 l h 37 4 4 thx [(4, .x 0)] [] = true) : LfOk (cx nu one 1 aA3 aA0) dU4 l :=
  aL5 (E := ERp_0 s A) (bU2 s A) (muRp s A) (DRp s A) (fun _ _ => rfl) (fun _ _ => rfl) (fun _ _ => rfl) (fun st X t ht => aD3.trans (aE2 ((by decide : ∀ t, t ∈ bJ6 → t < 1000000) t ht))) rfl rfl rfl hl hs ebRp rfl rfl st hI hth0 h0 hthx hx (roundsRp_0 s A c0 x0)
def eG0 (s : LB) (A : Bool) : List Value := []
def roERp_1 (s : LB) (A : Bool) : List Value := []
noncomputable def ERp_1 (s : LB) (A : Bool) : Cx := cx (nuX (eG0 s A) (rX (roERp_1 s A) (fun _ => .bool true))) (aA4 (aA2 (l := eG0 s A) rfl)) 1 aA3 aA0
theorem roundsRp_1 (s : LB) (A : Bool) (c0 : s.length ≤ 1000) (x0 : A = true) (st : Nat × Int) (X : Nat → Value) (hI : bU2 s A st) : RHRp s A (ERp_1 s A) .ret [(2, .s 0 0), (3, .b false)] [] st X := by
  obtain ⟨tag, i⟩ := st
  have hI0 := hI
  obtain ⟨i0, i1, i2, it⟩ := unIRp s A tag i hI
  obtain rfl : tag = 0 := by omega
  skip
  by_cases h0 : i < (s.length : Int)
  · by_cases h1 : bt s (Int.toNat (i)) = 47
    · skip
      have := aB6 s (Int.toNat (i)); have := aB7 s (Int.toNat (i))
      refine dQ6 (h := dC3) rfl ?_ (aA6) runRp_p2
      unfold dC3
      exact hc (lnV rfl rfl (by omega)) <|hc (ltT rfl rfl (by omega)) <|hc (ixV rfl rfl rfl (by omega)) <|hc (eqcT rfl (by omega)) <|hnil
    · by_cases h2 : bt s (Int.toNat (i)) < 32
      · skip
        have := aB6 s (Int.toNat (i)); have := aB7 s (Int.toNat (i))
        refine dQ6 (h := dC1) rfl ?_ (aA6) runRp_p4
        unfold dC1
        exact hc (lnV rfl rfl (by omega)) <|hc (ltT rfl rfl (by omega)) <|hc (ixV rfl rfl rfl (by omega)) <|hc (eqcF rfl (by omega)) <|hc (ltcT rfl (by omega)) <|hnil
      · by_cases h3 : bt s (Int.toNat (i)) = 127
        · skip
          have := aB6 s (Int.toNat (i)); have := aB7 s (Int.toNat (i))
          refine dQ6 (h := dC2) rfl ?_ (aA6) runRp_p3
          unfold dC2
          exact hc (lnV rfl rfl (by omega)) <|hc (ltT rfl rfl (by omega)) <|hc (ixV rfl rfl rfl (by omega)) <|hc (eqcF rfl (by omega)) <|hc (ltcF rfl (by omega)) <|hc (eqcT rfl (by omega)) <|hnil
        · exact eE6 c0 hI0 h0 h1 h2 h3
  · exfalso; have e := pb_end (by omega) i2; rw [e] at x0; exact absurd x0 (by simp)
theorem lfOkRp_1 {l : LF} {h : LH} (s : LB) (A : Bool) (c0 : s.length ≤ 1000) (x0 : A = true) (st : Nat × Int) (hI : bU2 s A st) (hl : l.hp = some h) (hs : aF3 l h 37 bJ6 .ret 4 4 4 = true) {th0 : LA} {sg0 : List (Nat × Nat)} (hth0 : ∀ X, ThOk (cx nu one 1 aA3 aA0) (DRp s A st X) th0) (h0 : aD9 l h 37 4 4 th0 sg0 (epRp st) (hpRp st) = true) {thx : LA} (hthx : ThOk (ERp_1 s A) (cx nu one 1 aA3 aA0) thx) (hx : aF5 l h 37 4 4 thx [(2, .s 0 0), (3, .b false)] [] = true) : LfOk (cx nu one 1 aA3 aA0) dU4 l :=
  aL5 (E := ERp_1 s A) (bU2 s A) (muRp s A) (DRp s A) (fun _ _ => rfl) (fun _ _ => rfl) (fun _ _ => rfl) (fun st X t ht => aD3.trans (aE2 ((by decide : ∀ t, t ∈ bJ6 → t < 1000000) t ht))) rfl rfl rfl hl hs ebRp rfl rfl st hI hth0 h0 hthx hx (roundsRp_1 s A c0 x0)
noncomputable def fi21 : FI := (tabk.fn.get 21).getD default
theorem eK0 : tabk.fn.get 21 = some fi21 := by kernel_rfl
theorem bR9 : fi21.body = some (Tryd.f21.body.getD .skip) := by kernel_rfl
theorem fiB21 : fi21.body.isSome = true := by rw [bR9]; rfl
theorem cfA21 : (aC0 (Tryd.f21.body.getD .skip)).all (fun b => !(aM1 (Go.AX.keyOf b) 8888888)) = true := by kernel_rfl
theorem fiNRpt : tabk.fn.get 21 = some (fI Tryd.f21 0) ∧ (fI Tryd.f21 0).body.isSome = true := ⟨rfl, by kernel_rfl⟩
def dC0 : LK := [(.call 32 [.x 0], .tu [.x 1, I6 0])]
def lh62 : LH := ⟨4, 4, 4, [], []⟩
def lf62 : LF := ⟨5, 37, [(2, .s 0 0), (3, .b false), (4, .x 1), (6, I6 0)], [], (.exit 0), [(4, .x 2)], some lh62⟩
noncomputable def dK6 : Tab := aB2 ({ tabk with hyp := dC0 }) 21 fi21 [lf62]
theorem runRpt_0 (e : Nat) : okA (call dK6 9000 21 [.x 0] ⟨H0 e , 4, 0, 0⟩) (.tu [.x 2, .b true]) = true := by kernel_rfl
def cC8 (s : LB) : List Value := [St' s, St' ((unS s).getD []), St' ((unS s).getD [])]
theorem pathRpt_0 (s : LB) (b0 : s.length ≤ 9223372036854775807) (p0 : s.length ≤ 400) (h0 : ¬ (unS s = none)) (h1 : ¬ (((unS s).getD []).any pbB = true)) (w : World) (hl : aA3 w) : CwR 21 #[St' s] w (.tuple #[St' ((unS s).getD []), .bool true]) := by
  have hun := aG8 s
  have ho : ∀ k r, (k, r) ∈ dC0 → HOk (cx (nuL (cC8 s)) (fun j _ => aA2 (l := cC8 s) rfl j) 1 aA3 aA0) k r := by
    unfold dC0
    exact hc (eJ5 (s := s) (isX rfl) (by rw [if_neg (by assumption)]; exact aE6 (denX rfl) (denI .i64 0)) (by omega) (by omega)) <|hnil
  refine runC (tb := dK6) (ra := .tu [.x 2, .b true]) rfl (aB3.lp1 ((aB0 (nuL (cC8 s)) (fun j _ => aA2 (l := cC8 s) rfl j)).hyps ho) (by omega) eK0 bR9 (aB1 (aB9 rfl ⟨0, keyRp, lfOkRp_0 (l := lf62) (h := lh62) ((unS s).getD []) (((unS s).getD []).any pbB) (by omega) (by simpa using (by assumption : ¬ (((unS s).getD []).any pbB = true))) (0, (0 : Int)) (mkIRp ⟨by omega, by omega, rfl, by omega⟩) rfl (by kernel_rfl) (th0 := [(0, .x 1), (1, I6 0)]) (sg0 := []) (fun X => thXv (v := St' ((unS s).getD [])) rfl rfl (aC2 (show Is _ (I6 0) (.int .i64 ((0 : Int))) from isTo (v := .int .i64 0) (isI _ _) (by first | rfl | (congr 1; omega))) (aA6))) (by kernel_rfl) (thx := [(2, .x 0)]) (thXv (v := St' ((unS s).getD [])) rfl rfl (aA6)) (by kernel_rfl)⟩) aC1)) rfl (aC7 (by omega)) fiB21 (fun e => runRpt_0 e ) (args := [St' s]) (by simp only [RelL, Rel]; exact ⟨_, _, rfl, rfl, rfl⟩) w hl fun x hx => ?_
  simp only [Rel, RelL] at hx
  obtain ⟨_, rfl, ⟨_, _, rfl, rfl, ⟨_, _, rfl, rfl, rfl⟩⟩⟩ := hx
  rfl
def cI1 : LK := [(.call 32 [.x 0], .tu [.s 0 0, I6 10])]
theorem runRpt_1 (e : Nat) : okA (call (tbl cI1) 9000 21 [.x 0] ⟨H0 e , 4, 0, 0⟩) (.tu [.s 0 0, .b false]) = true := by kernel_rfl
def cC7 (s : LB) : List Value := [St' s]
theorem pathRpt_1 (s : LB) (b0 : s.length ≤ 9223372036854775807) (p0 : s.length ≤ 400) (h0 : unS s = none) (w : World) (hl : aA3 w) : CwR 21 #[St' s] w (.tuple #[St' ([] : LB), .bool false]) := by
  have hun := aG8 s
  have ho : ∀ k r, (k, r) ∈ cI1 → HOk (cx (nuL (cC7 s)) (fun j _ => aA2 (l := cC7 s) rfl j) 1 aA3 aA0) k r := by
    unfold cI1
    exact hc (eJ5 (s := s) (isX rfl) (by rw [if_pos (by assumption)]; exact aE6 bL4 (denI .i64 10)) (by omega) (by omega)) <|hnil
  refine runC (tb := (tbl cI1)) (ra := .tu [.s 0 0, .b false]) rfl ((aB0 (nuL (cC7 s)) (fun j _ => aA2 (l := cC7 s) rfl j)).hyps ho) rfl fiNRpt.1 fiNRpt.2 (fun e => runRpt_1 e ) (args := [St' s]) (by simp only [RelL, Rel]; exact ⟨_, _, rfl, rfl, rfl⟩) w hl fun x hx => ?_
  simp only [Rel, RelL] at hx
  obtain ⟨_, rfl, ⟨_, _, rfl, ⟨rfl, _⟩, ⟨_, _, rfl, rfl, rfl⟩⟩⟩ := hx
  rfl
def dB9 : LK := [(.call 32 [.x 0], .tu [.x 1, I6 0])]
def lf63 : LF := ⟨5, 37, [(2, .s 0 0), (3, .b false), (4, .x 1), (6, I6 0)], [], .ret, [(2, .s 0 0), (3, .b false)], some lh62⟩
noncomputable def dK5 : Tab := aB2 ({ tabk with hyp := dB9 }) 21 fi21 [lf63]
theorem runRpt_2 (e : Nat) : okA (call dK5 9000 21 [.x 0] ⟨H0 e , 4, 0, 0⟩) (.tu [.s 0 0, .b false]) = true := by kernel_rfl
def cC6 (s : LB) : List Value := [St' s, St' ((unS s).getD [])]
theorem pathRpt_2 (s : LB) (b0 : s.length ≤ 9223372036854775807) (p0 : s.length ≤ 400) (h0 : ¬ (unS s = none)) (h1 : ((unS s).getD []).any pbB = true) (w : World) (hl : aA3 w) : CwR 21 #[St' s] w (.tuple #[St' ([] : LB), .bool false]) := by
  have hun := aG8 s
  have ho : ∀ k r, (k, r) ∈ dB9 → HOk (cx (nuL (cC6 s)) (fun j _ => aA2 (l := cC6 s) rfl j) 1 aA3 aA0) k r := by
    unfold dB9
    exact hc (eJ5 (s := s) (isX rfl) (by rw [if_neg (by assumption)]; exact aE6 (denX rfl) (denI .i64 0)) (by omega) (by omega)) <|hnil
  refine runC (tb := dK5) (ra := .tu [.s 0 0, .b false]) rfl (aB3.lp1 ((aB0 (nuL (cC6 s)) (fun j _ => aA2 (l := cC6 s) rfl j)).hyps ho) (by omega) eK0 bR9 (aB1 (aB9 rfl ⟨0, keyRp, lfOkRp_1 (l := lf63) (h := lh62) ((unS s).getD []) (((unS s).getD []).any pbB) (by omega) (by assumption) (0, (0 : Int)) (mkIRp ⟨by omega, by omega, rfl, by omega⟩) rfl (by kernel_rfl) (th0 := [(0, .x 1), (1, I6 0)]) (sg0 := []) (fun X => thXv (v := St' ((unS s).getD [])) rfl rfl (aC2 (show Is _ (I6 0) (.int .i64 ((0 : Int))) from isTo (v := .int .i64 0) (isI _ _) (by first | rfl | (congr 1; omega))) (aA6))) (by kernel_rfl) (thx := []) (aA6) (by kernel_rfl)⟩) aC1)) rfl (aC7 (by omega)) fiB21 (fun e => runRpt_2 e ) (args := [St' s]) (by simp only [RelL, Rel]; exact ⟨_, _, rfl, rfl, rfl⟩) w hl fun x hx => ?_
  simp only [Rel, RelL] at hx
  obtain ⟨_, rfl, ⟨_, _, rfl, ⟨rfl, _⟩, ⟨_, _, rfl, rfl, rfl⟩⟩⟩ := hx
  rfl
theorem callsRpt (s : LB) (b0 : s.length ≤ 9223372036854775807) (p0 : s.length ≤ 400) (w : World) (hl : aA3 w) : CwR 21 #[St' s] w (.tuple #[St' (gS s), .bool (decide (¬ dcS s = none))]) := by
  by_cases h0 : unS s = none
  · rw [show (.tuple #[St' (gS s), .bool (decide (¬ dcS s = none))] : Value) = (.tuple #[St' ([] : LB), .bool false] : Value) from by first | (rw [rp_n (dI6 (by assumption)).1]; done) | (rw [rp_n (dI5 (by assumption) (by assumption)).1]; done) | (rw [rp_y (dc_s (by assumption) (by assumption)).1, (dc_s (by assumption) (by assumption)).2])]
    exact pathRpt_1 s b0 p0 h0 w hl
  · by_cases h1 : ((unS s).getD []).any pbB = true
    · rw [show (.tuple #[St' (gS s), .bool (decide (¬ dcS s = none))] : Value) = (.tuple #[St' ([] : LB), .bool false] : Value) from by first | (rw [rp_n (dI6 (by assumption)).1]; done) | (rw [rp_n (dI5 (by assumption) (by assumption)).1]; done) | (rw [rp_y (dc_s (by assumption) (by assumption)).1, (dc_s (by assumption) (by assumption)).2])]
      exact pathRpt_2 s b0 p0 h0 h1 w hl
    · rw [show (.tuple #[St' (gS s), .bool (decide (¬ dcS s = none))] : Value) = (.tuple #[St' ((unS s).getD []), .bool true] : Value) from by first | (rw [rp_n (dI6 (by assumption)).1]; done) | (rw [rp_n (dI5 (by assumption) (by assumption)).1]; done) | (rw [rp_y (dc_s (by assumption) (by assumption)).1, (dc_s (by assumption) (by assumption)).2])]
      exact pathRpt_0 s b0 p0 h0 h1 w hl
theorem aS4 {x0 r : AV} {s : LB} (i0 : Is (cx nu one 1 aA3 aA0) x0 (St' s)) (hr : Den (cx nu one 1 aA3 aA0) r (.tuple #[St' (gS s), .bool (decide (¬ dcS s = none))])) (b0 : s.length ≤ 9223372036854775807) (p0 : s.length ≤ 400) : HOk (cx nu one 1 aA3 aA0) (.call 21 [x0]) r := by
  intro ρ args ha w hl _
  simp only [RelL] at ha
  obtain ⟨v0, t0, rfl, a0, rfl⟩ := ha
  have e0 := i0 ρ _ a0; subst e0
  exact (callsRpt s b0 p0 w hl).mono fun e w' he => ⟨_, he.1, hr ρ, he.2⟩
end Go.Proofs.YtbipkiiaajklhaaDoor.pathTells
