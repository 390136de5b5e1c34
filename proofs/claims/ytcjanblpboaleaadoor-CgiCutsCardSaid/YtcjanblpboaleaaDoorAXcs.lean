/- A part of the proof: what an interpreter answers on partly known states is what the program answers. No condition. -/
import Derived.Test.YtcjanblpboaleaaDoorAXcf
namespace Go.AX
theorem below_of {w w' : World} (h : Go.RowKit.Below w.heap.size w w') : Below (Fz.lt w.heap.size) w w' :=
 ⟨h.os, h.tape, h.output, h.size, h.block, fun i o hi ho => by
   have hlt : i < w.heap.size := by
    rcases Nat.lt_or_ge i w.heap.size with hh | hh
    ·exact hh
    ·rw [Array.getElem?_eq_none hh] at hi; cases hi
   exact (h.block i hlt).trans hi⟩
theorem aF3 : ∀ {l : List (Nat × aS)} {v : Nat}, isK l v = true → ∃ j, eH l v = some j
 | [], v, h => by simp [isK] at h
 | p :: r, v, h => by
  simp only [isK, Bool.or_eq_true] at h
  unfold eH
  cases hr : eH r v with
  | some k => exact ⟨k, rfl⟩
  | none =>
   rcases h with h | h
   ·have := Nat.eq_of_beq_eq_true h; exact ⟨p.2, by simp [this]⟩
   ·obtain ⟨j, hj⟩ := aF3 h; rw [hr] at hj; cases hj
theorem Fits.sup {C : Cx} {ng : Nat} {B : Fz} {ρ ρ' : aY} {H : T aS} {w : World} (h : Fits C ng B ρ H w) (hs : Sub ρ ρ') : Fits C ng B ρ' H w := by
 have hg : ∀ v k r, H.get v = some k → ρ' v = some r → ρ v = some r := fun v k r hv hr => by
  obtain ⟨r1, h1, _⟩ := h.blk v k hv
  have := hs _ _ h1
  rw [hr] at this; injection this with e; subst e; exact h1
 refine ⟨h.size, fun g hg => hs _ _ (h.glob g hg), fun v k hv => ?_, fun v v' k k' r r' h1 h2 h3 h4 => h.inj v v' k k' r r' h1 h2 (hg v k r h1 h3) (hg v' k' r' h2 h4), h.low, h.inv⟩
 obtain ⟨r, h1, o, h2, h3⟩ := h.blk v k hv
 exact ⟨r, hs _ _ h1, o, h2, h3.mono hs⟩
def lE : List Nat → List (Nat × AV)
 | [] => []
 | i :: l => (i, .x i) :: lE l
theorem vK {C : Cx} : ∀ l : List Nat, bE C C (lE l)
 | [], i, c, h => by cases h
 | j :: l, i, c, h => by
  unfold lE lF at h
  cases hb : Nat.beq j i with
  | true =>
   have e := Nat.eq_of_beq_eq_true hb
   subst e
   simp only [hb, cond_true, Option.some.injEq] at h
   subst h; exact aA rfl
  | false =>
   simp only [hb, cond_false] at h
   exact vK l i c h
def ig (a : Nat) : Nat → List (Nat × Nat)
 | 0 => []
 | n + 1 => (a, 16777213) :: ig (a + 1) n
where eqArgs : List AV → List AV → Bool
 | [], [] => true
 | a :: l, b :: m => fe 8 a b && eqArgs l m
 | _, _ => false
theorem kB0 {C : Cx} {i : Nat} (h : C.nu i = St' []) : aM C (.bytes []) (.x i) := kBytesB (bs := []) .nil (aG h)
def bk (t : Nat) (l : List AV) : aS := .b ⟨t, .l l, 0, 0, 0, false, false⟩
abbrev I6 (n : Nat) : AV := .i .i64 (.ofNat n)
end Go.AX

