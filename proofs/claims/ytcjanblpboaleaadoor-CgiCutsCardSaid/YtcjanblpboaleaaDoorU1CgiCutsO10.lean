/- A part of the proof: what an interpreter answers on partly known states is what the program answers. No condition. -/
import Derived.Test.YtcjanblpboaleaaDoorU1CgiCutsO9
set_option maxRecDepth 100000
set_option linter.unusedVariables false
set_option linter.unusedSimpArgs false
set_option maxHeartbeats 4000000
namespace Go.Proofs.YtcjanblpboaleaaDoor.cgiCuts
open Go Go.AX Go.Proofs Go.Proofs.YtcjanblpboaleaaDoor
variable {nu : Nat → Value} {one : ∀ i, i < 1000000 → (nu i).oneCell' = true} {E' : Cx} {x' : Ex} {e' : LA} {h' : LE}
theorem nR (s : LB) (i : Int) : wG s i ≤ 2 := by
 unfold wG
 have h : ∀ j : Nat, (bw s j).w ≤ 2 := fun j => by
  induction j with
  | zero => show (0 : Nat) ≤ 2; omega
  | succ j ih =>
   unfold bw; split
   ·unfold kE iu; repeat' (first | exact (show 0 ≤ 2 by decide) | exact (show 1 ≤ 2 by decide) | exact (show 2 ≤ 2 by decide) | exact ih | split)
   ·exact ih
 exact h _
theorem mG {s : LB} : xG s s 0 := by unfold xG; rw [show (0 : Int).toNat = 0 from rfl, List.drop_zero, List.take_length]
def uG (s : LB) (t k : Int) : Int := min (s.length : Int) (t + k)
def aD (s : LB) (t u : Int) : LB := (s.drop t.toNat).take (Int.toNat (u - t))
theorem pcG_ok {s : LB} {t u : Int} (h0 : 0 ≤ t) (h1 : t ≤ u) (h2 : u ≤ (s.length : Int)) : ((aD s t u).length : Int) = u - t ∧ xG s (aD s t u) t := by
 have h : (aD s t u).length = (u - t).toNat := by unfold aD; rw [List.length_take, List.length_drop]; omega
 refine ⟨by omega, ?_⟩
 unfold xG; rw [h]; rfl
theorem jN (s : LB) (i : Nat) (hw : (bw s i).w = 0) : ∀ d, (bw s (i + d)).w = 1 → (i : Int) < (bw s (i + d)).J ∧ (bw s (i + d)).J ≤ ((i + d : Nat) : Int)
 | 0, h => by rw [Nat.add_zero, hw] at h; cases h
 | d + 1, h => by
  by_cases h0 : (bw s (i + d)).w = 0
  ·have e : bw s (i + d + 1) = kE (bw s (i + d)).L (bw s (i + d)).F (i + d) (bt s (i + d)) := by rw [bw, if_pos h0]
   show (i : Int) < (bw s (i + d + 1)).J ∧ _
   rw [show i + (d + 1) = i + d + 1 from rfl] at h ⊢
   rw [e] at h ⊢
   unfold kE iu m9 at h ⊢
   split at h
   ·cases h
   ·rename_i a
    rw [if_neg a]
    split at h
    ·cases h
    ·rename_i b
     rw [if_neg b]
     split at h
     ·rename_i c
      rw [if_pos c]
      split at h
      ·rename_i f
       rw [if_pos f]; exact ⟨by show (i : Int) < ((i + d : Nat) : Int) + 1; omega, by show ((i + d : Nat) : Int) + 1 ≤ _; omega⟩
      ·cases h
     ·split at h
      ·cases h
      ·split at h
       ·cases h
       ·split at h <;> cases h
  ·have e : bw s (i + d + 1) = bw s (i + d) := by rw [bw, if_neg h0]
   rw [show i + (d + 1) = i + d + 1 from rfl, e] at h ⊢
   have := jN s i hw d h
   exact ⟨this.1, by omega⟩
theorem jG {s : LB} {t u : Int} (h0 : 0 ≤ t) (h1 : t ≤ u) (h2 : u ≤ (s.length : Int)) (hw : wG s t = 0) (hu : wG s u = 1) : t < JS s ∧ JS s ≤ u := by
 have f := AD (s := s) (i := u) (by omega) (by omega) h2
 have h := jN s t.toNat hw (u.toNat - t.toNat) (by rw [show t.toNat + (u.toNat - t.toNat) = u.toNat by omega]; exact hu)
 rw [show t.toNat + (u.toNat - t.toNat) = u.toNat by omega] at h
 unfold JS; rw [f]; omega
theorem iW {s : LB} {t u : Int} (h0 : 0 ≤ t) (h1 : t ≤ u) (h2 : u ≤ (s.length : Int)) (h3 : t ≤ JS s) : List.drop (Int.toNat (JS s - t)) (aD s t u) = List.drop (Int.toNat (JS s)) (List.take u.toNat s) := by
 rw [show Int.toNat (JS s - t) = Int.toNat (JS s) - Int.toNat (t) by omega, aD, show Int.toNat (u - t) = Int.toNat (u) - Int.toNat (t) by omega, List.drop_take, List.drop_drop, List.drop_take]
 congr 1
 ·omega
 ·congr 1; omega
theorem y1G {s : LB} {t u : Int} (h0 : 0 ≤ t) (h1 : t ≤ u) (h2 : u ≤ (s.length : Int)) (h3 : 0 ≤ JS s) (h4 : JS s ≤ t) : List.drop (Int.toNat (JS s)) (List.take t.toNat s) ++ aD s t u = List.drop (Int.toNat (JS s)) (List.take u.toNat s) := by
 have e : List.take u.toNat s = List.take t.toNat s ++ aD s t u := by
  have := List.take_add (l := s) (i := Int.toNat (t)) (j := Int.toNat (u - t))
  rw [show Int.toNat (t) + Int.toNat (u - t) = Int.toNat (u) by omega] at this; exact this
 rw [e, List.drop_append_of_le_length (by rw [List.length_take]; omega)]
theorem gbD (s : LB) : ∀ i : Nat, (bw s i).D.length ≤ 32 ∧ ∀ q, q ∈ (bw s i).D → q.1.length ≤ 64 ∧ q.2.length ≤ 512
 | 0 => ⟨by show (0 : Nat) ≤ 32; omega, fun q hq => by cases hq⟩
 | i + 1 => by
  have z : ([] : List (LB × LB)).length ≤ 32 ∧ ∀ q, q ∈ ([] : List (LB × LB)) → q.1.length ≤ 64 ∧ q.2.length ≤ 512 := ⟨by show (0 : Nat) ≤ 32; omega, fun q hq => by cases hq⟩
  unfold bw
  split
  ·rename_i h
   have g := gbN s i h
   unfold kE iu m9
   repeat' (first | exact z | split)
   refine ⟨Nat.le_trans (lz _ _) g.2.1, fun q hq => g.2.2 q ?_⟩
   exact (List.mem_filter.1 hq).1
  ·exact gbD s i
theorem BH (s : LB) : ∀ q, q ∈ DS s → jW q := fun q hq => by
 have := (gbD s s.length).2 q hq; exact ⟨by omega, by omega⟩
theorem BI (s : LB) : (DS s).length ≤ 32 := (gbD s s.length).1
theorem yEG {s : LB} {t : Int} (h : (s.length : Int) ≤ t) : List.drop (Int.toNat (JS s)) (List.take t.toNat s) = List.drop (Int.toNat (JS s - (0 : Int))) s := by
 rw [List.take_of_length_le (by omega), show JS s - (0 : Int) = JS s by omega]
theorem cj {s : LB} {t k : Int} (h0 : 0 ≤ t) (h1 : t < (s.length : Int)) (hs : s.length ≤ 1500) (hk : 1 ≤ k) : uG s t k = min (s.length : Int) (t + k) ∧ ((aD s t (uG s t k)).length : Int) = uG s t k - t ∧ xG s (aD s t (uG s t k)) t ∧ t + ((aD s t (uG s t k)).length : Int) = uG s t k ∧ wG s (t + ((aD s t (uG s t k)).length : Int)) ≤ 2 ∧ (List.drop (Int.toNat (JS s - t)) (aD s t (uG s t k))).length ≤ 1500 := by
 have hu : uG s t k = min (s.length : Int) (t + k) := rfl
 obtain ⟨a, b⟩ := pcG_ok (s := s) (t := t) (u := uG s t k) (by omega) (by omega) (by omega)
 exact ⟨hu, a, b, by omega, nR s _, by rw [List.length_drop]; omega⟩
theorem wA {s : LB} {p u : Int} {w : Nat} (h : p = u) (g : wG s p = w) : wG s u = w := h ▸ g
theorem jA {s : LB} {t u p : Int} (h0 : 0 ≤ t) (h1 : t ≤ u) (h2 : u ≤ (s.length : Int)) (hw : wG s t = 0) (h : p = u) (g : wG s p = 1) : wG s u = 1 ∧ t < JS s ∧ JS s ≤ u := ⟨wA h g, jG h0 h1 h2 hw (wA h g)⟩
theorem dkL {s : LB} {t : Int} (hs : s.length ≤ 1500) : (List.drop (Int.toNat (JS s)) (List.take t.toNat s)).length ≤ 1500 := by
 rw [List.length_drop, List.length_take]; omega
def kO (al : List Int) (i : Int) : Int := bW al (Int.toNat (i % (al.length : Int))) + 1
theorem rO {al : List Int} {i : Int} (hi : 0 ≤ i) (ha : ∀ n, n ∈ al → 0 ≤ n ∧ n ≤ 255) (hl : 1 ≤ al.length) : 0 ≤ i % (al.length : Int) ∧ i % (al.length : Int) < (al.length : Int) ∧ (0 ≤ bW al (Int.toNat (i % (al.length : Int))) ∧ bW al (Int.toNat (i % (al.length : Int))) ≤ 255) ∧ kO al i = bW al (Int.toNat (i % (al.length : Int))) + 1 :=
 ⟨Int.emod_nonneg i (by omega), Int.emod_lt_of_pos i (by omega), rngAt (lo := 0) (hi := 255) (l := al) (by decide) (by decide) ha _, rfl⟩
theorem dI {qb : Nat} {s x : LB} {t : Int} {k : Nat} (h0 : 0 ≤ t) (hx : 0 ≤ (x.length : Int)) (a5 : k ≤ 2 → wG s t = 0) (a6 : k = 0 → t = 0) (a7 : k = 1 ∨ k = 2 → 1 ≤ t) (a8 : k = 1 → aR s t = []) (a9 : k = 2 → ¬ aR s t = []) (hk : k < 3) : cO qb s x t (k, 0) := by
 exact gd ⟨by omega, hx, by rw [bm]; exact a5 (by omega), fun h => by rw [bm]; exact a6 h, fun h => by rw [bm]; exact a7 (by omega), fun h => by rw [bm]; exact a8 h, fun h => by rw [bm]; exact a9 h, hk⟩
noncomputable def jr : FI := (cD.fn.get 3).getD default
theorem m8 : cD.fn.get 3 = some jr := by kernel_rfl
theorem lv : jr.body = some (Tryd.f3.body.getD .skip) := by kernel_rfl
theorem m0 : jr.body.isSome = true := by rw [lv]; rfl
noncomputable def cw : Code := gi (Tryd.f3.body.getD .skip) 0
theorem yu : gC (di (Tryd.f3.body.getD .skip)) 9 0 0 = true := by kernel_rfl
def b9 : List Nat := [5, 7, 8]
def nC : LA := [(0, .x 0), (1, .es), (6, .p 5 0), (9, .s 0 0), (10, .ni), (11, .x 2), (12, .x 1)]
def mv : LE := [(5, bk 42 [I6 1000, .x 3, .aL, .aL, I6 0, .s 0 0, .aL, .b false, .b false])]
def xL (s : LB) (t i : Int) : List Value := [St' s, .int .i64 (t), .int .i64 (i), .int .i64 (t), St' ([] : LB), .int .i64 ((s.length : Int)), .int .i64 (t + 1), .int .i64 ((uG s t 1)), St' (aD s t (uG s t 1)), St' (aD s t (uG s t 1)), .int .i64 ((t + ((aD s t (uG s t 1)).length : Int))), St' (aC s (t + ((aD s t (uG s t 1)).length : Int))), .int .i64 (i + 1), St' ([] : LB), .int .i64 ((s.length : Int)), .int .i64 (t + 1), .int .i64 ((uG s t 1)), St' (aD s t (uG s t 1)), St' (aD s t (uG s t 1)), .int .i64 ((t + ((aD s t (uG s t 1)).length : Int))), St' (aC s (t + ((aD s t (uG s t 1)).length : Int))), .int .i64 (i + 1), St' ([] : LB), .int .i64 ((s.length : Int)), .int .i64 (t + 1), .int .i64 ((uG s t 1)), St' (aD s t (uG s t 1)), St' (List.drop (Int.toNat (JS s - t)) (aD s t (uG s t 1))), .int .i64 ((nS s)), St' (RS s), St' (List.drop (Int.toNat (JS s - t)) (aD s t (uG s t 1))), .int .i64 (i + 1), St' ([] : LB), .int .i64 ((s.length : Int)), .int .i64 (t + 1), .int .i64 ((uG s t 1)), St' (aD s t (uG s t 1)), St' (List.drop (Int.toNat (JS s - t)) (aD s t (uG s t 1))), .int .i64 ((nS s)), St' (RS s), St' (List.drop (Int.toNat (JS s - t)) (aD s t (uG s t 1))), .int .i64 (i + 1), St' ([] : LB), .int .i64 ((s.length : Int)), .int .i64 (t + 1), .int .i64 ((uG s t 1)), St' (aD s t (uG s t 1)), .int .i64 ((kS s)), St' (mS s), .int .i64 (i + 1), St' ([] : LB), .int .i64 ((s.length : Int))]
def roOe_0 (s : LB) (t i : Int) : List Value := [af ([] : List LB), af ([] : List LB), aN aO (aR s (t + ((aD s t (uG s t 1)).length : Int))), af ([] : List LB), af ([] : List LB), aN aO (DS s), af ([] : List LB), af ([] : List LB)]
def jt : LA := [(0, .x 0), (1, .es), (6, .p 5 0), (9, .s 0 0), (10, .ni), (11, .x 2), (12, .x 1)]
def je : LE := [(5, bk 42 [I6 1000, .x 3, .sy 14, .aL, I6 0, .s 0 0, .aL, .b false, .b false]), (14, .t 4 5)]
def xK (s : LB) (t i : Int) : List Value := [St' s, .int .i64 (t), .int .i64 (i), .int .i64 (t), St' (aC s t), St' ([] : LB), .int .i64 ((s.length : Int)), .int .i64 (t + 1), .int .i64 ((uG s t 1)), St' (aD s t (uG s t 1)), St' (aD s t (uG s t 1)), .int .i64 ((t + ((aD s t (uG s t 1)).length : Int))), St' (aC s (t + ((aD s t (uG s t 1)).length : Int))), .int .i64 (i + 1), St' ([] : LB), .int .i64 ((s.length : Int)), .int .i64 (t + 1), .int .i64 ((uG s t 1)), St' (aD s t (uG s t 1)), St' (aD s t (uG s t 1)), .int .i64 ((t + ((aD s t (uG s t 1)).length : Int))), St' (aC s (t + ((aD s t (uG s t 1)).length : Int))), .int .i64 (i + 1), St' ([] : LB), .int .i64 ((s.length : Int)), .int .i64 (t + 1), .int .i64 ((uG s t 1)), St' (aD s t (uG s t 1)), St' (List.drop (Int.toNat (JS s - t)) (aD s t (uG s t 1))), .int .i64 ((nS s)), St' (RS s), St' (List.drop (Int.toNat (JS s - t)) (aD s t (uG s t 1))), .int .i64 (i + 1), St' ([] : LB), .int .i64 ((s.length : Int)), .int .i64 (t + 1), .int .i64 ((uG s t 1)), St' (aD s t (uG s t 1)), St' (List.drop (Int.toNat (JS s - t)) (aD s t (uG s t 1))), .int .i64 ((nS s)), St' (RS s), St' (List.drop (Int.toNat (JS s - t)) (aD s t (uG s t 1))), .int .i64 (i + 1), St' ([] : LB), .int .i64 ((s.length : Int)), .int .i64 (t + 1), .int .i64 ((uG s t 1)), St' (aD s t (uG s t 1)), .int .i64 ((kS s)), St' (mS s), .int .i64 (i + 1), St' ([] : LB), .int .i64 ((s.length : Int))]
def roOe_1 (s : LB) (t i : Int) : List Value := [af ([] : List LB), af ([] : List LB), aN aO (aR s (t + ((aD s t (uG s t 1)).length : Int))), af ([] : List LB), af ([] : List LB), aN aO (DS s), af ([] : List LB), af ([] : List LB)]
def js : LA := [(0, .x 0), (1, .es), (6, .p 5 0), (9, .s 0 0), (10, .ni), (11, .x 2), (12, .x 1)]
def jc : LE := [(5, bk 42 [I6 1000, .x 3, .sy 14, .sr 15, I6 0, .s 0 0, .aL, .b false, .b false]), (14, .t 4 5), (15, .r 2000000 50 2 false)]
def xJ (s : LB) (t i : Int) : List Value := [St' s, .int .i64 (t), .int .i64 (i), .int .i64 (t), St' (aC s t), St' ([] : LB), .int .i64 ((s.length : Int)), .int .i64 (t + 1), .int .i64 ((uG s t 1)), St' (aD s t (uG s t 1)), St' (aD s t (uG s t 1)), .int .i64 ((t + ((aD s t (uG s t 1)).length : Int))), St' (aC s (t + ((aD s t (uG s t 1)).length : Int))), .int .i64 (i + 1), St' ([] : LB), .int .i64 ((s.length : Int)), .int .i64 (t + 1), .int .i64 ((uG s t 1)), St' (aD s t (uG s t 1)), St' (aD s t (uG s t 1)), .int .i64 ((t + ((aD s t (uG s t 1)).length : Int))), St' (aC s (t + ((aD s t (uG s t 1)).length : Int))), .int .i64 (i + 1), St' ([] : LB), .int .i64 ((s.length : Int)), .int .i64 (t + 1), .int .i64 ((uG s t 1)), St' (aD s t (uG s t 1)), St' (List.drop (Int.toNat (JS s - t)) (aD s t (uG s t 1))), .int .i64 ((nS s)), St' (RS s), St' (List.drop (Int.toNat (JS s - t)) (aD s t (uG s t 1))), .int .i64 (i + 1), St' ([] : LB), .int .i64 ((s.length : Int)), .int .i64 (t + 1), .int .i64 ((uG s t 1)), St' (aD s t (uG s t 1)), St' (List.drop (Int.toNat (JS s - t)) (aD s t (uG s t 1))), .int .i64 ((nS s)), St' (RS s), St' (List.drop (Int.toNat (JS s - t)) (aD s t (uG s t 1))), .int .i64 (i + 1), St' ([] : LB), .int .i64 ((s.length : Int)), .int .i64 (t + 1), .int .i64 ((uG s t 1)), St' (aD s t (uG s t 1)), .int .i64 ((kS s)), St' (mS s), .int .i64 (i + 1), St' ([] : LB), .int .i64 ((s.length : Int))]
def roOe_2 (s : LB) (t i : Int) : List Value := [aN aO (aR s t), af ([] : List LB), af ([] : List LB), aN aO (aR s (t + ((aD s t (uG s t 1)).length : Int))), af ([] : List LB), af ([] : List LB), aN aO (DS s), af ([] : List LB), af ([] : List LB)]
def qT : LA := [(0, .x 0), (1, .es), (6, .p 5 0), (9, .x 3), (10, .ni), (11, .x 2), (12, .x 1)]
def qC : LE := [(5, bk 42 [.und, .und, .und, .und, .x 4, .x 5, .aL, .b true, .b false])]
def xI (s : LB) (t i : Int) : List Value := [St' s, .int .i64 (t), .int .i64 (i), St' (List.drop (Int.toNat (JS s)) (List.take t.toNat s)), .int .i64 ((nS s)), St' (RS s), St' ([] : LB), .int .i64 ((s.length : Int)), .int .i64 (t + 1), .int .i64 ((uG s t 1)), St' (aD s t (uG s t 1)), .int .i64 ((uG s t 1) - t), St' ((List.drop (Int.toNat (JS s)) (List.take t.toNat s)) ++ (aD s t (uG s t 1))), .int .i64 (i + 1), St' ([] : LB), .int .i64 ((s.length : Int))]
def roOe_3 (s : LB) (t i : Int) : List Value := [af ([] : List LB), af ([] : List LB)]
def qS : LA := [(0, .x 0), (1, .es), (6, .p 5 0), (9, .x 3), (10, .ni), (11, .x 2), (12, .x 1)]
def qB : LE := [(5, bk 42 [.und, .und, .und, .und, .x 4, .x 5, .sr 15, .b true, .b false]), (15, .r 2000000 50 2 false)]
def xH (s : LB) (t i : Int) : List Value := [St' s, .int .i64 (t), .int .i64 (i), St' (List.drop (Int.toNat (JS s)) (List.take t.toNat s)), .int .i64 ((nS s)), St' (RS s), St' ([] : LB), .int .i64 ((s.length : Int)), .int .i64 (t + 1), .int .i64 ((uG s t 1)), St' (aD s t (uG s t 1)), .int .i64 ((uG s t 1) - t), St' ((List.drop (Int.toNat (JS s)) (List.take t.toNat s)) ++ (aD s t (uG s t 1))), .int .i64 (i + 1), St' ([] : LB), .int .i64 ((s.length : Int))]
def roOe_4 (s : LB) (t i : Int) : List Value := [aN aO (DS s), af ([] : List LB), af ([] : List LB)]
def uA : LA := [(0, .x 0), (10, .aZ 63 (.ag [.x 3, .x 4])), (12, .x 1)]
def tL : LE := []
def xF (s : LB) (t i : Int) : List Value := [St' s, .int .i64 (t), .int .i64 (i), .int .i64 ((kS s)), St' (mS s), St' ([] : LB), .int .i64 ((s.length : Int)), St' ([] : LB), .int .i64 ((s.length : Int))]
def roOe_5 (s : LB) (t i : Int) : List Value := [af ([] : List LB), af ([] : List LB)]
def jF (st : Nat × Int × Int) : LA := if st.1 = 0 then nC else if st.1 = 1 then jt else if st.1 = 2 then js else if st.1 = 3 then qT else if st.1 = 4 then qS else uA
def kP (st : Nat × Int × Int) : LE := if st.1 = 0 then mv else if st.1 = 1 then je else if st.1 = 2 then jc else if st.1 = 3 then qC else if st.1 = 4 then qB else tL
def nuOe (s : LB) (st : Nat × Int × Int) : List Value := if st.1 = 0 then xL s (st.2.1) (st.2.2) else if st.1 = 1 then xK s (st.2.1) (st.2.2) else if st.1 = 2 then xJ s (st.2.1) (st.2.2) else if st.1 = 3 then xI s (st.2.1) (st.2.2) else if st.1 = 4 then xH s (st.2.1) (st.2.2) else xF s (st.2.1) (st.2.2)
def roOe (s : LB) (st : Nat × Int × Int) : List Value := if st.1 = 0 then roOe_0 s (st.2.1) (st.2.2) else if st.1 = 1 then roOe_1 s (st.2.1) (st.2.2) else if st.1 = 2 then roOe_2 s (st.2.1) (st.2.2) else if st.1 = 3 then roOe_3 s (st.2.1) (st.2.2) else if st.1 = 4 then roOe_4 s (st.2.1) (st.2.2) else roOe_5 s (st.2.1) (st.2.2)
theorem onOe (s : LB) (st : Nat × Int × Int) : ∀ j, (bA (nuOe s st) j).oneCell' = true := by
 intro j
 unfold nuOe
 by_cases g0 : st.1 = 0
 ·rw [if_pos g0]; exact aV (l := xL s (st.2.1) (st.2.2)) rfl j
 rw [if_neg g0]
 by_cases g1 : st.1 = 1
 ·rw [if_pos g1]; exact aV (l := xK s (st.2.1) (st.2.2)) rfl j
 rw [if_neg g1]
 by_cases g2 : st.1 = 2
 ·rw [if_pos g2]; exact aV (l := xJ s (st.2.1) (st.2.2)) rfl j
 rw [if_neg g2]
 by_cases g3 : st.1 = 3
 ·rw [if_pos g3]; exact aV (l := xI s (st.2.1) (st.2.2)) rfl j
 rw [if_neg g3]
 by_cases g4 : st.1 = 4
 ·rw [if_pos g4]; exact aV (l := xH s (st.2.1) (st.2.2)) rfl j
 rw [if_neg g4]
 exact aV (l := xF s (st.2.1) (st.2.2)) rfl j
theorem AZ (st : Nat × Int × Int) : (dX (jF st) && ef b9) = true := by
 unfold jF
 by_cases g0 : st.1 = 0
 ·rw [if_pos g0]; rfl
 rw [if_neg g0]
 by_cases g1 : st.1 = 1
 ·rw [if_pos g1]; rfl
 rw [if_neg g1]
 by_cases g2 : st.1 = 2
 ·rw [if_pos g2]; rfl
 rw [if_neg g2]
 by_cases g3 : st.1 = 3
 ·rw [if_pos g3]; rfl
 rw [if_neg g3]
 by_cases g4 : st.1 = 4
 ·rw [if_pos g4]; rfl
 rw [if_neg g4]
 rfl
noncomputable def ko (s : LB) (st : Nat × Int × Int) (X : Nat → Value) : Cx := cx (bG (nuOe s st) (rX (roOe s st) X)) (bJ (onOe s st)) 1 aH aQ
abbrev CjOe (s : LB) (tag : Nat) (t i : Int) : Prop := (0 ≤ t) ∧ (t ≤ (s.length : Int)) ∧ (0 ≤ i) ∧ (i ≤ t) ∧ (s.length ≤ 1500) ∧ (tag ≤ 2 → wG s t = 0) ∧ (tag = 0 → t = 0) ∧ (tag = 1 ∨ tag = 2 → 1 ≤ t) ∧ (tag = 1 → aR s t = []) ∧ (tag = 2 → ¬ aR s t = []) ∧ (tag = 3 ∨ tag = 4 → wG s t = 1) ∧ (tag = 3 → DS s = []) ∧ (tag = 4 → ¬ DS s = []) ∧ (tag = 3 ∨ tag = 4 → 0 ≤ JS s ∧ JS s ≤ t) ∧ (tag = 5 → wG s t = 2) ∧ (tag < 6)
def cu (s : LB) (st : Nat × Int × Int) : Prop := CjOe s st.1 (st.2.1) (st.2.2)
theorem eF {s : LB} {tag : Nat} {t i : Int} (h : CjOe s tag t i) : cu s (tag, t, i) := h
theorem eC (s : LB) (tag : Nat) (t i : Int) (h : cu s (tag, t, i)) : CjOe s tag t i := h
def gD (s : LB) (st : Nat × Int × Int) : Nat := (s.length - (st.2.1).toNat)
abbrev c8 (s : LB) (E' : Cx) (ex' : Ex) (epx' : LA) (hpx' : LE) (st : Nat × Int × Int) (X : Nat → Value) : Prop := bj E' cw b9 105 ex' 4 14 16 1004 jF kP epx' hpx' (cu s) (gD s) (ko s) st X
noncomputable abbrev ky (s : LB) (t i : Int) (X : Nat → Value) : Cx := cx (bG (xL s t i) (rX (roOe_0 s t i) X)) (bJ (aV (l := xL s t i) rfl)) 1 aH aQ
theorem rL {s : LB} {t i : Int} {X : Nat → Value} {tb : Tab} {L : List LF} (y : Nat × Int × Int) {th : LA} {sg : List (Nat × Nat)} (hall : aq (ky s t i X) tb) (hlp : bV (ky s t i X) L cw) (aW : tb.ng = 4) (hy : cu s y) (lt : gD s y < gD s (0, t, i)) (ht : bE (ky s t i X) (ko s y X) th) (run : bP (code tb 6000 L cw (bD (bH nC b9) 105) ⟨ae mv .leaf, 16, 0, 0⟩) .normal b9 105 1004 th sg 14 16 (jF y) (kP y) = true) : c8 s E' x' e' h' (0, t, i) X :=
 bj.next (tb := tb) (L := L) (f := 6000) y hall hlp aW hy lt ht run
noncomputable abbrev RNOe_0 (h : LK) (x : Ex) (th : LA) (sg : List (Nat × Nat)) (m : Nat) (ep : LA) (hp : LE) : Bool := bP (code (aT h) 6000 [] cw (bD (bH nC b9) 105) ⟨ae mv .leaf, 16, 0, 0⟩) x b9 105 1004 th sg 14 m ep hp
theorem lvOe_0 {s : LB} {t i : Int} {X : Nat → Value} {h : LK} {th : LA} {sg : List (Nat × Nat)} (hne : cn x' .normal = false) (ho : ∀ a' r', (a', r') ∈ h → aM (ky s t i X) a' r') (ht : bE (ky s t i X) E' th) (run : RNOe_0 h x' th sg 1004 e' h' = true) : c8 s E' x' e' h' (0, t, i) X :=
 bj.leave (tb := aT h) (L := []) (f := 6000) ((ab _ _).hyps ho) (bV.nil _) rfl hne ht run
noncomputable abbrev kt (s : LB) (t i : Int) (X : Nat → Value) : Cx := cx (bG (xK s t i) (rX (roOe_1 s t i) X)) (bJ (aV (l := xK s t i) rfl)) 1 aH aQ
theorem rK {s : LB} {t i : Int} {X : Nat → Value} {tb : Tab} {L : List LF} (y : Nat × Int × Int) {th : LA} {sg : List (Nat × Nat)} (hall : aq (kt s t i X) tb) (hlp : bV (kt s t i X) L cw) (aW : tb.ng = 4) (hy : cu s y) (lt : gD s y < gD s (1, t, i)) (ht : bE (kt s t i X) (ko s y X) th) (run : bP (code tb 6000 L cw (bD (bH jt b9) 105) ⟨ae je .leaf, 16, 0, 0⟩) .normal b9 105 1004 th sg 14 16 (jF y) (kP y) = true) : c8 s E' x' e' h' (1, t, i) X :=
 bj.next (tb := tb) (L := L) (f := 6000) y hall hlp aW hy lt ht run
noncomputable abbrev RNOe_1 (h : LK) (x : Ex) (th : LA) (sg : List (Nat × Nat)) (m : Nat) (ep : LA) (hp : LE) : Bool := bP (code (aT h) 6000 [] cw (bD (bH jt b9) 105) ⟨ae je .leaf, 16, 0, 0⟩) x b9 105 1004 th sg 14 m ep hp
theorem lvOe_1 {s : LB} {t i : Int} {X : Nat → Value} {h : LK} {th : LA} {sg : List (Nat × Nat)} (hne : cn x' .normal = false) (ho : ∀ a' r', (a', r') ∈ h → aM (kt s t i X) a' r') (ht : bE (kt s t i X) E' th) (run : RNOe_1 h x' th sg 1004 e' h' = true) : c8 s E' x' e' h' (1, t, i) X :=
 bj.leave (tb := aT h) (L := []) (f := 6000) ((ab _ _).hyps ho) (bV.nil _) rfl hne ht run
noncomputable abbrev kr (s : LB) (t i : Int) (X : Nat → Value) : Cx := cx (bG (xJ s t i) (rX (roOe_2 s t i) X)) (bJ (aV (l := xJ s t i) rfl)) 1 aH aQ
theorem rJ {s : LB} {t i : Int} {X : Nat → Value} {tb : Tab} {L : List LF} (y : Nat × Int × Int) {th : LA} {sg : List (Nat × Nat)} (hall : aq (kr s t i X) tb) (hlp : bV (kr s t i X) L cw) (aW : tb.ng = 4) (hy : cu s y) (lt : gD s y < gD s (2, t, i)) (ht : bE (kr s t i X) (ko s y X) th) (run : bP (code tb 6000 L cw (bD (bH js b9) 105) ⟨ae jc .leaf, 16, 0, 0⟩) .normal b9 105 1004 th sg 14 16 (jF y) (kP y) = true) : c8 s E' x' e' h' (2, t, i) X :=
 bj.next (tb := tb) (L := L) (f := 6000) y hall hlp aW hy lt ht run
noncomputable abbrev RNOe_2 (h : LK) (x : Ex) (th : LA) (sg : List (Nat × Nat)) (m : Nat) (ep : LA) (hp : LE) : Bool := bP (code (aT h) 6000 [] cw (bD (bH js b9) 105) ⟨ae jc .leaf, 16, 0, 0⟩) x b9 105 1004 th sg 14 m ep hp
theorem lvOe_2 {s : LB} {t i : Int} {X : Nat → Value} {h : LK} {th : LA} {sg : List (Nat × Nat)} (hne : cn x' .normal = false) (ho : ∀ a' r', (a', r') ∈ h → aM (kr s t i X) a' r') (ht : bE (kr s t i X) E' th) (run : RNOe_2 h x' th sg 1004 e' h' = true) : c8 s E' x' e' h' (2, t, i) X :=
 bj.leave (tb := aT h) (L := []) (f := 6000) ((ab _ _).hyps ho) (bV.nil _) rfl hne ht run
noncomputable abbrev BP (s : LB) (t i : Int) (X : Nat → Value) : Cx := cx (bG (xI s t i) (rX (roOe_3 s t i) X)) (bJ (aV (l := xI s t i) rfl)) 1 aH aQ
noncomputable abbrev A4 (h : LK) (x : Ex) (th : LA) (sg : List (Nat × Nat)) (m : Nat) (ep : LA) (hp : LE) : Bool := bP (code (aT h) 6000 [] cw (bD (bH qT b9) 105) ⟨ae qC .leaf, 16, 0, 0⟩) x b9 105 1004 th sg 14 m ep hp
theorem stOe_3 {s : LB} {t i : Int} {X : Nat → Value} {h : LK} (y : Nat × Int × Int) {th : LA} {sg : List (Nat × Nat)} (ho : ∀ a' r', (a', r') ∈ h → aM (BP s t i X) a' r') (hy : cu s y) (lt : gD s y < gD s (3, t, i)) (ht : bE (BP s t i X) (ko s y X) th) (run : A4 h .normal th sg 16 (jF y) (kP y) = true) : c8 s E' x' e' h' (3, t, i) X :=
 bj.next (tb := aT h) (L := []) (f := 6000) y ((ab _ _).hyps ho) (bV.nil _) rfl hy lt ht run
theorem lvOe_3 {s : LB} {t i : Int} {X : Nat → Value} {h : LK} {th : LA} {sg : List (Nat × Nat)} (hne : cn x' .normal = false) (ho : ∀ a' r', (a', r') ∈ h → aM (BP s t i X) a' r') (ht : bE (BP s t i X) E' th) (run : A4 h x' th sg 1004 e' h' = true) : c8 s E' x' e' h' (3, t, i) X :=
 bj.leave (tb := aT h) (L := []) (f := 6000) ((ab _ _).hyps ho) (bV.nil _) rfl hne ht run
noncomputable abbrev BO (s : LB) (t i : Int) (X : Nat → Value) : Cx := cx (bG (xH s t i) (rX (roOe_4 s t i) X)) (bJ (aV (l := xH s t i) rfl)) 1 aH aQ
noncomputable abbrev A3 (h : LK) (x : Ex) (th : LA) (sg : List (Nat × Nat)) (m : Nat) (ep : LA) (hp : LE) : Bool := bP (code (aT h) 6000 [] cw (bD (bH qS b9) 105) ⟨ae qB .leaf, 16, 0, 0⟩) x b9 105 1004 th sg 14 m ep hp
theorem stOe_4 {s : LB} {t i : Int} {X : Nat → Value} {h : LK} (y : Nat × Int × Int) {th : LA} {sg : List (Nat × Nat)} (ho : ∀ a' r', (a', r') ∈ h → aM (BO s t i X) a' r') (hy : cu s y) (lt : gD s y < gD s (4, t, i)) (ht : bE (BO s t i X) (ko s y X) th) (run : A3 h .normal th sg 16 (jF y) (kP y) = true) : c8 s E' x' e' h' (4, t, i) X :=
 bj.next (tb := aT h) (L := []) (f := 6000) y ((ab _ _).hyps ho) (bV.nil _) rfl hy lt ht run
theorem lvOe_4 {s : LB} {t i : Int} {X : Nat → Value} {h : LK} {th : LA} {sg : List (Nat × Nat)} (hne : cn x' .normal = false) (ho : ∀ a' r', (a', r') ∈ h → aM (BO s t i X) a' r') (ht : bE (BO s t i X) E' th) (run : A3 h x' th sg 1004 e' h' = true) : c8 s E' x' e' h' (4, t, i) X :=
 bj.leave (tb := aT h) (L := []) (f := 6000) ((ab _ _).hyps ho) (bV.nil _) rfl hne ht run
noncomputable abbrev CXOe_5 (s : LB) (t i : Int) (X : Nat → Value) : Cx := cx (bG (xF s t i) (rX (roOe_5 s t i) X)) (bJ (aV (l := xF s t i) rfl)) 1 aH aQ
noncomputable abbrev Ge (h : LK) (x : Ex) (th : LA) (sg : List (Nat × Nat)) (m : Nat) (ep : LA) (hp : LE) : Bool := bP (code (aT h) 6000 [] cw (bD (bH uA b9) 105) ⟨ae tL .leaf, 16, 0, 0⟩) x b9 105 1004 th sg 14 m ep hp
theorem lvOe_5 {s : LB} {t i : Int} {X : Nat → Value} {h : LK} {th : LA} {sg : List (Nat × Nat)} (hne : cn x' .normal = false) (ho : ∀ a' r', (a', r') ∈ h → aM (CXOe_5 s t i X) a' r') (ht : bE (CXOe_5 s t i X) E' th) (run : Ge h x' th sg 1004 e' h' = true) : c8 s E' x' e' h' (5, t, i) X :=
 bj.leave (tb := aT h) (L := []) (f := 6000) ((ab _ _).hyps ho) (bV.nil _) rfl hne ht run
def D5 : LK := [(.len (.x 0), .x 5), (.bin .lss (.x 1) (.x 5), .b true), (.bin .add (.x 1) (I6 1), .x 6), (.mm false (.x 5) (.x 6), .x 7), (.sub (.x 0) (some (.x 1)) (some (.x 7)), .x 8), (.bin .add (.x 2) (I6 1), .x 12)]
def lh76 : LH := ⟨4, 40, 904, [(5, bk 42 [I6 1000, .x 3, .aL, .aL, I6 0, .s 0 0, .aL, .b false, .b false])], [(5, bk 42 [I6 1000, .x 10, .sy 40, .aL, I6 0, .s 0 0, .aL, .b false, .b false]), (40, .t 11 5)]⟩
def lf76 : LF := ⟨4, 58, [(0, .p 5 0), (1, .x 8), (6, I6 0)], [], (.exit 0), [(0, .p 5 0), (1, .x 9)], some lh76⟩
noncomputable def aP0 : Tab := bL ((aT D5)) 6 cS [lf76]
def LOe_p0 : List LF := []
theorem runOe_p0 : bP (code aP0 6000 LOe_p0 cw (bD (bH nC b9) 105) ⟨ae mv .leaf, 16, 0, 0⟩) .normal b9 105 1004 [(0, .x 0), (1, .x 7), (2, .x 12), (3, .x 10), (4, .x 11)] [(14, 40)] 14 16 jt je = true := by kernel_rfl
def D4 : LK := [(.len (.x 0), .x 6), (.bin .lss (.x 1) (.x 6), .b true), (.bin .add (.x 1) (I6 1), .x 7), (.mm false (.x 6) (.x 7), .x 8), (.sub (.x 0) (some (.x 1)) (some (.x 8)), .x 9), (.bin .add (.x 2) (I6 1), .x 13)]
def lh77 : LH := ⟨4, 40, 904, [(5, bk 42 [I6 1000, .x 3, .sy 14, .aL, I6 0, .s 0 0, .aL, .b false, .b false]), (14, .t 4 5)], [(5, bk 42 [I6 1000, .x 11, .sy 40, .aL, I6 0, .s 0 0, .aL, .b false, .b false]), (40, .t 12 5)]⟩
def lf77 : LF := ⟨4, 58, [(0, .p 5 0), (1, .x 9), (6, I6 0)], [], (.exit 0), [(0, .p 5 0), (1, .x 10)], some lh77⟩
noncomputable def aO9 : Tab := bL ((aT D4)) 6 cS [lf77]
def LOe_p1 : List LF := []
theorem runOe_p1 : bP (code aO9 6000 LOe_p1 cw (bD (bH jt b9) 105) ⟨ae je .leaf, 16, 0, 0⟩) .normal b9 105 1004 [(0, .x 0), (1, .x 8), (2, .x 13), (3, .x 11), (4, .x 12)] [(14, 40)] 14 16 jt je = true := by kernel_rfl
def Dt : LK := [(.len (.x 0), .x 6), (.bin .lss (.x 1) (.x 6), .b true), (.bin .add (.x 1) (I6 1), .x 7), (.mm false (.x 6) (.x 7), .x 8), (.sub (.x 0) (some (.x 1)) (some (.x 8)), .x 9), (.bin .add (.x 2) (I6 1), .x 13)]
def lh78 : LH := ⟨4, 40, 904, [(5, bk 42 [I6 1000, .x 3, .sy 14, .sr 15, I6 0, .s 0 0, .aL, .b false, .b false]), (14, .t 4 5), (15, .r 2000000 50 2 false)], [(5, bk 42 [I6 1000, .x 11, .sy 40, .aL, I6 0, .s 0 0, .aL, .b false, .b false]), (40, .t 12 5)]⟩
def lf78 : LF := ⟨4, 58, [(0, .p 5 0), (1, .x 9), (6, I6 0)], [], (.exit 0), [(0, .p 5 0), (1, .x 10)], some lh78⟩
noncomputable def aO8 : Tab := bL ((aT Dt)) 6 cS [lf78]
def LOe_p2 : List LF := []
theorem runOe_p2 : bP (code aO8 6000 LOe_p2 cw (bD (bH js b9) 105) ⟨ae jc .leaf, 16, 0, 0⟩) .normal b9 105 1004 [(0, .x 0), (1, .x 8), (2, .x 13), (3, .x 11), (4, .x 12)] [(14, 40)] 14 16 jt je = true := by kernel_rfl
def Dn : LK := [(.len (.x 0), .x 14), (.bin .lss (.x 1) (.x 14), .b true), (.bin .add (.x 1) (I6 1), .x 15), (.mm false (.x 14) (.x 15), .x 16), (.sub (.x 0) (some (.x 1)) (some (.x 16)), .x 17), (.bin .add (.x 2) (I6 1), .x 21)]
def lh79 : LH := ⟨4, 40, 904, [(5, bk 42 [I6 1000, .x 3, .aL, .aL, I6 0, .s 0 0, .aL, .b false, .b false])], [(5, bk 42 [I6 1000, .x 19, .sy 40, .sr 41, I6 0, .s 0 0, .aL, .b false, .b false]), (40, .t 20 5), (41, .r 2000002 50 2 false)]⟩
def lf79 : LF := ⟨4, 58, [(0, .p 5 0), (1, .x 17), (6, I6 0)], [], (.exit 0), [(0, .p 5 0), (1, .x 18)], some lh79⟩
noncomputable def aO7 : Tab := bL ((aT Dn)) 6 cS [lf79]
def LOe_p3 : List LF := []
theorem runOe_p3 : bP (code aO7 6000 LOe_p3 cw (bD (bH nC b9) 105) ⟨ae mv .leaf, 16, 0, 0⟩) .normal b9 105 1004 [(0, .x 0), (1, .x 16), (2, .x 21), (3, .x 19), (4, .x 20), (2000000, .x 2000002)] [(14, 40), (15, 41)] 14 16 js jc = true := by kernel_rfl
def Dm : LK := [(.len (.x 0), .x 15), (.bin .lss (.x 1) (.x 15), .b true), (.bin .add (.x 1) (I6 1), .x 16), (.mm false (.x 15) (.x 16), .x 17), (.sub (.x 0) (some (.x 1)) (some (.x 17)), .x 18), (.bin .add (.x 2) (I6 1), .x 22)]
def lh80 : LH := ⟨4, 40, 904, [(5, bk 42 [I6 1000, .x 3, .sy 14, .aL, I6 0, .s 0 0, .aL, .b false, .b false]), (14, .t 4 5)], [(5, bk 42 [I6 1000, .x 20, .sy 40, .sr 41, I6 0, .s 0 0, .aL, .b false, .b false]), (40, .t 21 5), (41, .r 2000002 50 2 false)]⟩
def lf80 : LF := ⟨4, 58, [(0, .p 5 0), (1, .x 18), (6, I6 0)], [], (.exit 0), [(0, .p 5 0), (1, .x 19)], some lh80⟩
noncomputable def aO6 : Tab := bL ((aT Dm)) 6 cS [lf80]
def LOe_p4 : List LF := []
theorem runOe_p4 : bP (code aO6 6000 LOe_p4 cw (bD (bH jt b9) 105) ⟨ae je .leaf, 16, 0, 0⟩) .normal b9 105 1004 [(0, .x 0), (1, .x 17), (2, .x 22), (3, .x 20), (4, .x 21), (2000000, .x 2000002)] [(14, 40), (15, 41)] 14 16 js jc = true := by kernel_rfl
def Dl : LK := [(.len (.x 0), .x 15), (.bin .lss (.x 1) (.x 15), .b true), (.bin .add (.x 1) (I6 1), .x 16), (.mm false (.x 15) (.x 16), .x 17), (.sub (.x 0) (some (.x 1)) (some (.x 17)), .x 18), (.bin .add (.x 2) (I6 1), .x 22)]
def lh81 : LH := ⟨4, 40, 904, [(5, bk 42 [I6 1000, .x 3, .sy 14, .sr 15, I6 0, .s 0 0, .aL, .b false, .b false]), (14, .t 4 5), (15, .r 2000000 50 2 false)], [(5, bk 42 [I6 1000, .x 20, .sy 40, .sr 41, I6 0, .s 0 0, .aL, .b false, .b false]), (40, .t 21 5), (41, .r 2000003 50 2 false)]⟩
def lf81 : LF := ⟨4, 58, [(0, .p 5 0), (1, .x 18), (6, I6 0)], [], (.exit 0), [(0, .p 5 0), (1, .x 19)], some lh81⟩
noncomputable def aO5 : Tab := bL ((aT Dl)) 6 cS [lf81]
def LOe_p5 : List LF := []
theorem runOe_p5 : bP (code aO5 6000 LOe_p5 cw (bD (bH js b9) 105) ⟨ae jc .leaf, 16, 0, 0⟩) .normal b9 105 1004 [(0, .x 0), (1, .x 17), (2, .x 22), (3, .x 20), (4, .x 21), (2000000, .x 2000003)] [(14, 40), (15, 41)] 14 16 js jc = true := by kernel_rfl
def Dk : LK := [(.len (.x 0), .x 23), (.bin .lss (.x 1) (.x 23), .b true), (.bin .add (.x 1) (I6 1), .x 24), (.mm false (.x 23) (.x 24), .x 25), (.sub (.x 0) (some (.x 1)) (some (.x 25)), .x 26), (.bin .add (.s 0 0) (.x 27), .x 30), (.bin .add (.x 2) (I6 1), .x 31)]
def lh82 : LH := ⟨4, 40, 904, [(5, bk 42 [I6 1000, .x 3, .aL, .aL, I6 0, .s 0 0, .aL, .b false, .b false])], [(5, bk 42 [.und, .und, .und, .und, .x 28, .x 29, .aL, .b true, .b false])]⟩
def lf82 : LF := ⟨4, 58, [(0, .p 5 0), (1, .x 26), (6, I6 0)], [], .ret, [(4, .x 27), (5, .ni)], some lh82⟩
noncomputable def aO4 : Tab := bL ((aT Dk)) 6 cS [lf82]
def LOe_p6 : List LF := []
theorem runOe_p6 : bP (code aO4 6000 LOe_p6 cw (bD (bH nC b9) 105) ⟨ae mv .leaf, 16, 0, 0⟩) .normal b9 105 1004 [(0, .x 0), (1, .x 25), (2, .x 31), (3, .x 30), (4, .x 28), (5, .x 29)] [] 14 16 qT qC = true := by kernel_rfl
def Dj : LK := [(.len (.x 0), .x 24), (.bin .lss (.x 1) (.x 24), .b true), (.bin .add (.x 1) (I6 1), .x 25), (.mm false (.x 24) (.x 25), .x 26), (.sub (.x 0) (some (.x 1)) (some (.x 26)), .x 27), (.bin .add (.s 0 0) (.x 28), .x 31), (.bin .add (.x 2) (I6 1), .x 32)]
def lh83 : LH := ⟨4, 40, 904, [(5, bk 42 [I6 1000, .x 3, .sy 14, .aL, I6 0, .s 0 0, .aL, .b false, .b false]), (14, .t 4 5)], [(5, bk 42 [.und, .und, .und, .und, .x 29, .x 30, .aL, .b true, .b false])]⟩
def lf83 : LF := ⟨4, 58, [(0, .p 5 0), (1, .x 27), (6, I6 0)], [], .ret, [(4, .x 28), (5, .ni)], some lh83⟩
noncomputable def aO3 : Tab := bL ((aT Dj)) 6 cS [lf83]
def LOe_p7 : List LF := []
theorem runOe_p7 : bP (code aO3 6000 LOe_p7 cw (bD (bH jt b9) 105) ⟨ae je .leaf, 16, 0, 0⟩) .normal b9 105 1004 [(0, .x 0), (1, .x 26), (2, .x 32), (3, .x 31), (4, .x 29), (5, .x 30)] [] 14 16 qT qC = true := by kernel_rfl
def Di : LK := [(.len (.x 0), .x 24), (.bin .lss (.x 1) (.x 24), .b true), (.bin .add (.x 1) (I6 1), .x 25), (.mm false (.x 24) (.x 25), .x 26), (.sub (.x 0) (some (.x 1)) (some (.x 26)), .x 27), (.bin .add (.s 0 0) (.x 28), .x 31), (.bin .add (.x 2) (I6 1), .x 32)]
def lh84 : LH := ⟨4, 40, 904, [(5, bk 42 [I6 1000, .x 3, .sy 14, .sr 15, I6 0, .s 0 0, .aL, .b false, .b false]), (14, .t 4 5), (15, .r 2000000 50 2 false)], [(5, bk 42 [.und, .und, .und, .und, .x 29, .x 30, .aL, .b true, .b false])]⟩
def lf84 : LF := ⟨4, 58, [(0, .p 5 0), (1, .x 27), (6, I6 0)], [], .ret, [(4, .x 28), (5, .ni)], some lh84⟩
noncomputable def aO2 : Tab := bL ((aT Di)) 6 cS [lf84]
def LOe_p8 : List LF := []
theorem runOe_p8 : bP (code aO2 6000 LOe_p8 cw (bD (bH js b9) 105) ⟨ae jc .leaf, 16, 0, 0⟩) .normal b9 105 1004 [(0, .x 0), (1, .x 26), (2, .x 32), (3, .x 31), (4, .x 29), (5, .x 30)] [] 14 16 qT qC = true := by kernel_rfl
def Dh : LK := [(.len (.x 0), .x 33), (.bin .lss (.x 1) (.x 33), .b true), (.bin .add (.x 1) (I6 1), .x 34), (.mm false (.x 33) (.x 34), .x 35), (.sub (.x 0) (some (.x 1)) (some (.x 35)), .x 36), (.bin .add (.s 0 0) (.x 37), .x 40), (.bin .add (.x 2) (I6 1), .x 41)]
def lh85 : LH := ⟨4, 40, 904, [(5, bk 42 [I6 1000, .x 3, .aL, .aL, I6 0, .s 0 0, .aL, .b false, .b false])], [(5, bk 42 [.und, .und, .und, .und, .x 38, .x 39, .sr 41, .b true, .b false]), (41, .r 2000005 50 2 false)]⟩
def lf85 : LF := ⟨4, 58, [(0, .p 5 0), (1, .x 36), (6, I6 0)], [], .ret, [(4, .x 37), (5, .ni)], some lh85⟩
noncomputable def aO1 : Tab := bL ((aT Dh)) 6 cS [lf85]
def LOe_p9 : List LF := []
theorem runOe_p9 : bP (code aO1 6000 LOe_p9 cw (bD (bH nC b9) 105) ⟨ae mv .leaf, 16, 0, 0⟩) .normal b9 105 1004 [(0, .x 0), (1, .x 35), (2, .x 41), (3, .x 40), (4, .x 38), (5, .x 39), (2000000, .x 2000005)] [(15, 41)] 14 16 qS qB = true := by kernel_rfl
def D3 : LK := [(.len (.x 0), .x 34), (.bin .lss (.x 1) (.x 34), .b true), (.bin .add (.x 1) (I6 1), .x 35), (.mm false (.x 34) (.x 35), .x 36), (.sub (.x 0) (some (.x 1)) (some (.x 36)), .x 37), (.bin .add (.s 0 0) (.x 38), .x 41), (.bin .add (.x 2) (I6 1), .x 42)]
def lh86 : LH := ⟨4, 40, 904, [(5, bk 42 [I6 1000, .x 3, .sy 14, .aL, I6 0, .s 0 0, .aL, .b false, .b false]), (14, .t 4 5)], [(5, bk 42 [.und, .und, .und, .und, .x 39, .x 40, .sr 41, .b true, .b false]), (41, .r 2000005 50 2 false)]⟩
def lf86 : LF := ⟨4, 58, [(0, .p 5 0), (1, .x 37), (6, I6 0)], [], .ret, [(4, .x 38), (5, .ni)], some lh86⟩
noncomputable def aH4 : Tab := bL ((aT D3)) 6 cS [lf86]
def aY8 : List LF := []
theorem runOe_p10 : bP (code aH4 6000 aY8 cw (bD (bH jt b9) 105) ⟨ae je .leaf, 16, 0, 0⟩) .normal b9 105 1004 [(0, .x 0), (1, .x 36), (2, .x 42), (3, .x 41), (4, .x 39), (5, .x 40), (2000000, .x 2000005)] [(15, 41)] 14 16 qS qB = true := by kernel_rfl
def D2 : LK := [(.len (.x 0), .x 34), (.bin .lss (.x 1) (.x 34), .b true), (.bin .add (.x 1) (I6 1), .x 35), (.mm false (.x 34) (.x 35), .x 36), (.sub (.x 0) (some (.x 1)) (some (.x 36)), .x 37), (.bin .add (.s 0 0) (.x 38), .x 41), (.bin .add (.x 2) (I6 1), .x 42)]
def lh87 : LH := ⟨4, 40, 904, [(5, bk 42 [I6 1000, .x 3, .sy 14, .sr 15, I6 0, .s 0 0, .aL, .b false, .b false]), (14, .t 4 5), (15, .r 2000000 50 2 false)], [(5, bk 42 [.und, .und, .und, .und, .x 39, .x 40, .sr 41, .b true, .b false]), (41, .r 2000006 50 2 false)]⟩
def lf87 : LF := ⟨4, 58, [(0, .p 5 0), (1, .x 37), (6, I6 0)], [], .ret, [(4, .x 38), (5, .ni)], some lh87⟩
noncomputable def aH3 : Tab := bL ((aT D2)) 6 cS [lf87]
def aY7 : List LF := []
theorem runOe_p11 : bP (code aH3 6000 aY7 cw (bD (bH js b9) 105) ⟨ae jc .leaf, 16, 0, 0⟩) .normal b9 105 1004 [(0, .x 0), (1, .x 36), (2, .x 42), (3, .x 41), (4, .x 39), (5, .x 40), (2000000, .x 2000006)] [(15, 41)] 14 16 qS qB = true := by kernel_rfl
def D1 : LK := [(.len (.x 0), .x 43), (.bin .lss (.x 1) (.x 43), .b true), (.bin .add (.x 1) (I6 1), .x 44), (.mm false (.x 43) (.x 44), .x 45), (.sub (.x 0) (some (.x 1)) (some (.x 45)), .x 46), (.bin .add (.x 2) (I6 1), .x 49)]
def lh88 : LH := ⟨4, 40, 904, [(5, bk 42 [I6 1000, .x 3, .aL, .aL, I6 0, .s 0 0, .aL, .b false, .b false])], []⟩
def lf88 : LF := ⟨4, 58, [(0, .p 5 0), (1, .x 46), (6, I6 0)], [], .ret, [(4, .s 0 0), (5, .aZ 63 (.ag [.x 47, .x 48]))], some lh88⟩
noncomputable def aH2 : Tab := bL ((aT D1)) 6 cS [lf88]
def aY6 : List LF := []
theorem runOe_p12 : bP (code aH2 6000 aY6 cw (bD (bH nC b9) 105) ⟨ae mv .leaf, 16, 0, 0⟩) .normal b9 105 1004 [(0, .x 0), (1, .x 45), (3, .x 47), (4, .x 48)] [] 14 16 uA tL = true := by kernel_rfl
def D0 : LK := [(.len (.x 0), .x 44), (.bin .lss (.x 1) (.x 44), .b true), (.bin .add (.x 1) (I6 1), .x 45), (.mm false (.x 44) (.x 45), .x 46), (.sub (.x 0) (some (.x 1)) (some (.x 46)), .x 47), (.bin .add (.x 2) (I6 1), .x 50)]
def lh89 : LH := ⟨4, 40, 904, [(5, bk 42 [I6 1000, .x 3, .sy 14, .aL, I6 0, .s 0 0, .aL, .b false, .b false]), (14, .t 4 5)], []⟩
def lf89 : LF := ⟨4, 58, [(0, .p 5 0), (1, .x 47), (6, I6 0)], [], .ret, [(4, .s 0 0), (5, .aZ 63 (.ag [.x 48, .x 49]))], some lh89⟩
noncomputable def aH1 : Tab := bL ((aT D0)) 6 cS [lf89]
def aY5 : List LF := []
theorem runOe_p13 : bP (code aH1 6000 aY5 cw (bD (bH jt b9) 105) ⟨ae je .leaf, 16, 0, 0⟩) .normal b9 105 1004 [(0, .x 0), (1, .x 46), (3, .x 48), (4, .x 49)] [] 14 16 uA tL = true := by kernel_rfl
def Dz : LK := [(.len (.x 0), .x 44), (.bin .lss (.x 1) (.x 44), .b true), (.bin .add (.x 1) (I6 1), .x 45), (.mm false (.x 44) (.x 45), .x 46), (.sub (.x 0) (some (.x 1)) (some (.x 46)), .x 47), (.bin .add (.x 2) (I6 1), .x 50)]
def lh90 : LH := ⟨4, 40, 904, [(5, bk 42 [I6 1000, .x 3, .sy 14, .sr 15, I6 0, .s 0 0, .aL, .b false, .b false]), (14, .t 4 5), (15, .r 2000000 50 2 false)], []⟩
def lf90 : LF := ⟨4, 58, [(0, .p 5 0), (1, .x 47), (6, I6 0)], [], .ret, [(4, .s 0 0), (5, .aZ 63 (.ag [.x 48, .x 49]))], some lh90⟩
noncomputable def aH0 : Tab := bL ((aT Dz)) 6 cS [lf90]
def aY4 : List LF := []
theorem runOe_p14 : bP (code aH0 6000 aY4 cw (bD (bH js b9) 105) ⟨ae jc .leaf, 16, 0, 0⟩) .normal b9 105 1004 [(0, .x 0), (1, .x 46), (3, .x 48), (4, .x 49)] [] 14 16 uA tL = true := by kernel_rfl
def Dy : LK := [(.len (.x 0), .x 51), (.bin .lss (.x 1) (.x 51), .b false)]
theorem runOe_p15 : RNOe_0 Dy (.exit 0) [] [] 1004 [(6, .p 5 0), (9, .s 0 0), (10, .ni)] [(5, bk 42 [.und, .und, .und, .und, .und, .und, .und, .b false, .b false])] = true := by kernel_rfl
def Dx : LK := [(.len (.x 0), .x 52), (.bin .lss (.x 1) (.x 52), .b false)]
theorem runOe_p16 : RNOe_1 Dx (.exit 0) [] [] 1004 [(6, .p 5 0), (9, .s 0 0), (10, .ni)] [(5, bk 42 [.und, .und, .und, .und, .und, .und, .und, .b false, .b false])] = true := by kernel_rfl
def Dw : LK := [(.len (.x 0), .x 52), (.bin .lss (.x 1) (.x 52), .b false)]
theorem runOe_p17 : RNOe_2 Dw (.exit 0) [] [] 1004 [(6, .p 5 0), (9, .s 0 0), (10, .ni)] [(5, bk 42 [.und, .und, .und, .und, .und, .und, .und, .b false, .b false])] = true := by kernel_rfl
def Dv : LK := [(.len (.x 0), .x 7), (.bin .lss (.x 1) (.x 7), .b true), (.bin .add (.x 1) (I6 1), .x 8), (.mm false (.x 7) (.x 8), .x 9), (.sub (.x 0) (some (.x 1)) (some (.x 9)), .x 10), (.len (.x 10), .x 11), (.bin .lss (I6 0) (.x 11), .b true), (.bin .add (.x 3) (.x 10), .x 12), (.bin .add (.x 2) (I6 1), .x 13)]
theorem runOe_p18 : A4 Dv .normal [(0, .x 0), (1, .x 9), (2, .x 13), (3, .x 12), (4, .x 4), (5, .x 5)] [] 16 qT qC = true := by kernel_rfl
def Du : LK := [(.len (.x 0), .x 15), (.bin .lss (.x 1) (.x 15), .b false)]
theorem runOe_p19 : A4 Du (.exit 0) [(0, .x 3), (1, .x 4), (2, .x 5)] [] 1004 [(6, .p 5 0), (9, .x 0), (10, .ni)] [(5, bk 42 [.und, .und, .und, .und, .x 1, .x 2, .aL, .b true, .b false])] = true := by kernel_rfl
def Ds : LK := [(.len (.x 0), .x 7), (.bin .lss (.x 1) (.x 7), .b true), (.bin .add (.x 1) (I6 1), .x 8), (.mm false (.x 7) (.x 8), .x 9), (.sub (.x 0) (some (.x 1)) (some (.x 9)), .x 10), (.len (.x 10), .x 11), (.bin .lss (I6 0) (.x 11), .b true), (.bin .add (.x 3) (.x 10), .x 12), (.bin .add (.x 2) (I6 1), .x 13)]
theorem runOe_p20 : A3 Ds .normal [(0, .x 0), (1, .x 9), (2, .x 13), (3, .x 12), (4, .x 4), (5, .x 5), (2000000, .x 2000000)] [(15, 15)] 16 qS qB = true := by kernel_rfl
def Dr : LK := [(.len (.x 0), .x 15), (.bin .lss (.x 1) (.x 15), .b false)]
theorem runOe_p21 : A3 Dr (.exit 0) [(0, .x 3), (1, .x 4), (2, .x 5), (2000000, .x 2000000)] [(15, 15)] 1004 [(6, .p 5 0), (9, .x 0), (10, .ni)] [(5, bk 42 [.und, .und, .und, .und, .x 1, .x 2, .sr 15, .b true, .b false]), (15, .r 2000000 50 2 false)] = true := by kernel_rfl
def Dq : LK := [(.len (.x 0), .x 6), (.bin .lss (.x 1) (.x 6), .b true)]
theorem runOe_p22 : Ge Dq (.exit 0) [(0, .x 3), (1, .x 4)] [] 1004 [(10, .aZ 63 (.ag [.x 0, .x 1]))] [] = true := by kernel_rfl
def Dp : LK := [(.len (.x 0), .x 8), (.bin .lss (.x 1) (.x 8), .b false)]
theorem runOe_p23 : Ge Dp (.exit 0) [(0, .x 3), (1, .x 4)] [] 1004 [(10, .aZ 63 (.ag [.x 0, .x 1]))] [] = true := by kernel_rfl
section
variable {s : LB} {t i : Int} {X : Nat → Value}
theorem wF (hI : cu s (0, t, i)) (h0 : t < (s.length : Int)) (h1 : wG s (t + ((aD s t (uG s t 1)).length : Int)) = 0) (h2 : aR s (t + ((aD s t (uG s t 1)).length : Int)) = []) : c8 s E' x' e' h' (0, t, i) X := by
 obtain ⟨i0, i1, i2, i3, i4, i5, i6, i7, i8, i9, cI, i11, i12, cM, cH, it⟩ := eC s 0 t i hI
 have hn0 := hN0
 obtain ⟨bf, hpc, bn, bF, hw2, hdl⟩ := cj (k := 1) i0 (by assumption) i4 (by omega)
 have bd := wA (s := s) (w := 0) bF (by omega)
 have ho : ∀ a' r', (a', r') ∈ D5 → aM (ky s t i X) a' r' := by
  unfold D5
  exact hc av <|hc bU <|hc au <|hc (cm (aA rfl) (aA rfl) (aG rfl) (by rw [bf]; try omega)) <|hc ck <|hc au <|hnil
 exact rL (tb := aP0) (L := LOe_p0) (1, (uG s t 1), (i + 1)) (aq.bz ((ab _ _).hyps ho) (by omega) cY cX (bK (bx rfl ⟨0, cW, bI.use (l := lf76) (h := lh76) (pe 5 s (aD s t (uG s t 1)) t (by omega) (by omega) (by omega) bn (by decide) (by assumption) (⟨by assumption, by omega⟩)) (0, (0 : Int)) (dI (by omega) (by omega) i5 i6 i7 i8 i9 (by decide)) rfl (by kernel_rfl) (ao := [(0, .x 8), (1, I6 0), (2, .x 3)]) (ai := []) (fun X => aB (v := St' (aD s t (uG s t 1))) (ad bS (ah (v := .int .i64 (t)) (u := .int .i64 ((t + (0 : Int)))) rfl rfl (by rw [bm]) (aI)))) (by kernel_rfl) (ak := [(9, .x 0), (10, .x 1), (11, .x 2)]) (aB (v := St' (aD s t (uG s t 1))) (aB (v := .int .i64 ((t + ((aD s t (uG s t 1)).length : Int)))) (aB (v := St' (aC s (t + ((aD s t (uG s t 1)).length : Int)))) (aI)))) (by kernel_rfl)⟩) aj)) (cK aj) rfl (eF ⟨by omega, by omega, by omega, by omega, i4, fun _ => bd, by omega, fun _ => by omega, fun _ => by rw [← bF]; assumption, by omega, by omega, by omega, by omega, by omega, by omega, by omega⟩) (by show (s.length - (uG s t 1).toNat) < s.length - t.toNat; omega) (aB (v := St' s) (aB (v := .int .i64 ((uG s t 1))) (bc (b := ((i + 1))) rfl rfl (by omega) (bc (b := ((uG s t 1))) rfl rfl (by omega) (ah (v := St' (aC s (t + ((aD s t (uG s t 1)).length : Int)))) (u := St' (aC s (uG s t 1))) rfl rfl (congrArg (fun l => St' l) (by rw [bF])) (aI)))))) runOe_p0
theorem wE (hI : cu s (1, t, i)) (h0 : t < (s.length : Int)) (h1 : wG s (t + ((aD s t (uG s t 1)).length : Int)) = 0) (h2 : aR s (t + ((aD s t (uG s t 1)).length : Int)) = []) : c8 s E' x' e' h' (1, t, i) X := by
 obtain ⟨i0, i1, i2, i3, i4, i5, i6, i7, i8, i9, cI, i11, i12, cM, cH, it⟩ := eC s 1 t i hI
 have hn0 := hN0
 obtain ⟨bf, hpc, bn, bF, hw2, hdl⟩ := cj (k := 1) i0 (by assumption) i4 (by omega)
 have bd := wA (s := s) (w := 0) bF (by omega)
 have ho : ∀ a' r', (a', r') ∈ D4 → aM (kt s t i X) a' r' := by
  unfold D4
  exact hc av <|hc bU <|hc au <|hc (cm (aA rfl) (aA rfl) (aG rfl) (by rw [bf]; try omega)) <|hc ck <|hc au <|hnil
 exact rK (tb := aO9) (L := LOe_p1) (1, (uG s t 1), (i + 1)) (aq.bz ((ab _ _).hyps ho) (by omega) cY cX (bK (bx rfl ⟨0, cW, bI.use (l := lf77) (h := lh77) (pe 5 s (aD s t (uG s t 1)) t (by omega) (by omega) (by omega) bn (by decide) (by assumption) (⟨by assumption, by omega⟩)) (1, (0 : Int)) (dI (by omega) (by omega) i5 i6 i7 i8 i9 (by decide)) rfl (by kernel_rfl) (ao := [(0, .x 9), (1, I6 0), (2, .x 3), (3, .x 4)]) (ai := [(40, 14)]) (fun X => aB (v := St' (aD s t (uG s t 1))) (ad bS (ah (v := .int .i64 (t)) (u := .int .i64 ((t + (0 : Int)))) rfl rfl (by rw [bm]) (ah (v := St' (aC s t)) (u := St' (aC s (t + (0 : Int)))) rfl rfl (by rw [bm]) (aI))))) (by kernel_rfl) (ak := [(10, .x 0), (11, .x 1), (12, .x 2)]) (aB (v := St' (aD s t (uG s t 1))) (aB (v := .int .i64 ((t + ((aD s t (uG s t 1)).length : Int)))) (aB (v := St' (aC s (t + ((aD s t (uG s t 1)).length : Int)))) (aI)))) (by kernel_rfl)⟩) aj)) (cK aj) rfl (eF ⟨by omega, by omega, by omega, by omega, i4, fun _ => bd, by omega, fun _ => by omega, fun _ => by rw [← bF]; assumption, by omega, by omega, by omega, by omega, by omega, by omega, by omega⟩) (by show (s.length - (uG s t 1).toNat) < s.length - t.toNat; omega) (aB (v := St' s) (aB (v := .int .i64 ((uG s t 1))) (bc (b := ((i + 1))) rfl rfl (by omega) (bc (b := ((uG s t 1))) rfl rfl (by omega) (ah (v := St' (aC s (t + ((aD s t (uG s t 1)).length : Int)))) (u := St' (aC s (uG s t 1))) rfl rfl (congrArg (fun l => St' l) (by rw [bF])) (aI)))))) runOe_p1
theorem vw (hI : cu s (2, t, i)) (h0 : t < (s.length : Int)) (h1 : wG s (t + ((aD s t (uG s t 1)).length : Int)) = 0) (h2 : aR s (t + ((aD s t (uG s t 1)).length : Int)) = []) : c8 s E' x' e' h' (2, t, i) X := by
 obtain ⟨i0, i1, i2, i3, i4, i5, i6, i7, i8, i9, cI, i11, i12, cM, cH, it⟩ := eC s 2 t i hI
 have hn0 := hN0
 obtain ⟨bf, hpc, bn, bF, hw2, hdl⟩ := cj (k := 1) i0 (by assumption) i4 (by omega)
 have bd := wA (s := s) (w := 0) bF (by omega)
 have ho : ∀ a' r', (a', r') ∈ Dt → aM (kr s t i X) a' r' := by
  unfold Dt
  exact hc av <|hc bU <|hc au <|hc (cm (aA rfl) (aA rfl) (aG rfl) (by rw [bf]; try omega)) <|hc ck <|hc au <|hnil
 exact rJ (tb := aO8) (L := LOe_p2) (1, (uG s t 1), (i + 1)) (aq.bz ((ab _ _).hyps ho) (by omega) cY cX (bK (bx rfl ⟨0, cW, bI.use (l := lf78) (h := lh78) (pe 5 s (aD s t (uG s t 1)) t (by omega) (by omega) (by omega) bn (by decide) (by assumption) (⟨by assumption, by omega⟩)) (2, (0 : Int)) (dI (by omega) (by omega) i5 i6 i7 i8 i9 (by decide)) rfl (by kernel_rfl) (ao := [(0, .x 9), (1, I6 0), (2, .x 3), (3, .x 4), (2000000, .x 2000000)]) (ai := [(40, 14), (41, 15)]) (fun X => aB (v := St' (aD s t (uG s t 1))) (ad bS (ah (v := .int .i64 (t)) (u := .int .i64 ((t + (0 : Int)))) rfl rfl (by rw [bm]) (ah (v := St' (aC s t)) (u := St' (aC s (t + (0 : Int)))) rfl rfl (by rw [bm]) (ah (v := aN aO (aR s t)) (u := aN aO (aR s (t + (0 : Int)))) rfl rfl (by rw [bm]) (aI)))))) (by kernel_rfl) (ak := [(10, .x 0), (11, .x 1), (12, .x 2)]) (aB (v := St' (aD s t (uG s t 1))) (aB (v := .int .i64 ((t + ((aD s t (uG s t 1)).length : Int)))) (aB (v := St' (aC s (t + ((aD s t (uG s t 1)).length : Int)))) (aI)))) (by kernel_rfl)⟩) aj)) (cK aj) rfl (eF ⟨by omega, by omega, by omega, by omega, i4, fun _ => bd, by omega, fun _ => by omega, fun _ => by rw [← bF]; assumption, by omega, by omega, by omega, by omega, by omega, by omega, by omega⟩) (by show (s.length - (uG s t 1).toNat) < s.length - t.toNat; omega) (aB (v := St' s) (aB (v := .int .i64 ((uG s t 1))) (bc (b := ((i + 1))) rfl rfl (by omega) (bc (b := ((uG s t 1))) rfl rfl (by omega) (ah (v := St' (aC s (t + ((aD s t (uG s t 1)).length : Int)))) (u := St' (aC s (uG s t 1))) rfl rfl (congrArg (fun l => St' l) (by rw [bF])) (aI)))))) runOe_p2
theorem vr (hI : cu s (0, t, i)) (h0 : t < (s.length : Int)) (h1 : wG s (t + ((aD s t (uG s t 1)).length : Int)) = 0) (h2 : ¬ (aR s (t + ((aD s t (uG s t 1)).length : Int)) = [])) : c8 s E' x' e' h' (0, t, i) X := by
 obtain ⟨i0, i1, i2, i3, i4, i5, i6, i7, i8, i9, cI, i11, i12, cM, cH, it⟩ := eC s 0 t i hI
 have hn0 := hN0
 obtain ⟨bf, hpc, bn, bF, hw2, hdl⟩ := cj (k := 1) i0 (by assumption) i4 (by omega)
 have bd := wA (s := s) (w := 0) bF (by omega)
 have ho : ∀ a' r', (a', r') ∈ Dn → aM (ky s t i X) a' r' := by
  unfold Dn
  exact hc av <|hc bU <|hc au <|hc (cm (aA rfl) (aA rfl) (aG rfl) (by rw [bf]; try omega)) <|hc ck <|hc au <|hnil
 exact rL (tb := aO7) (L := LOe_p3) (2, (uG s t 1), (i + 1)) (aq.bz ((ab _ _).hyps ho) (by omega) cY cX (bK (bx rfl ⟨0, cW, bI.use (l := lf79) (h := lh79) (pd 5 s (aD s t (uG s t 1)) t (by omega) (by omega) (by omega) bn (by decide) (by assumption) (by assumption)) (0, (0 : Int)) (dI (by omega) (by omega) i5 i6 i7 i8 i9 (by decide)) rfl (by kernel_rfl) (ao := [(0, .x 17), (1, I6 0), (2, .x 3)]) (ai := []) (fun X => aB (v := St' (aD s t (uG s t 1))) (ad bS (ah (v := .int .i64 (t)) (u := .int .i64 ((t + (0 : Int)))) rfl rfl (by rw [bm]) (aI)))) (by kernel_rfl) (ak := [(18, .x 0), (19, .x 1), (20, .x 2), (2000002, .x 2000000)]) (aB (v := St' (aD s t (uG s t 1))) (aB (v := .int .i64 ((t + ((aD s t (uG s t 1)).length : Int)))) (aB (v := St' (aC s (t + ((aD s t (uG s t 1)).length : Int)))) (aB (v := aN aO (aR s (t + ((aD s t (uG s t 1)).length : Int)))) (aI))))) (by kernel_rfl)⟩) aj)) (cK aj) rfl (eF ⟨by omega, by omega, by omega, by omega, i4, fun _ => bd, by omega, fun _ => by omega, by omega, fun _ => by rw [← bF]; assumption, by omega, by omega, by omega, by omega, by omega, by omega⟩) (by show (s.length - (uG s t 1).toNat) < s.length - t.toNat; omega) (aB (v := St' s) (aB (v := .int .i64 ((uG s t 1))) (bc (b := ((i + 1))) rfl rfl (by omega) (bc (b := ((uG s t 1))) rfl rfl (by omega) (ah (v := St' (aC s (t + ((aD s t (uG s t 1)).length : Int)))) (u := St' (aC s (uG s t 1))) rfl rfl (congrArg (fun l => St' l) (by rw [bF])) (ah (v := aN aO (aR s (t + ((aD s t (uG s t 1)).length : Int)))) (u := aN aO (aR s (uG s t 1))) rfl rfl (congrArg (aN aO) (by rw [bF])) (aI))))))) runOe_p3
theorem vq (hI : cu s (1, t, i)) (h0 : t < (s.length : Int)) (h1 : wG s (t + ((aD s t (uG s t 1)).length : Int)) = 0) (h2 : ¬ (aR s (t + ((aD s t (uG s t 1)).length : Int)) = [])) : c8 s E' x' e' h' (1, t, i) X := by
 obtain ⟨i0, i1, i2, i3, i4, i5, i6, i7, i8, i9, cI, i11, i12, cM, cH, it⟩ := eC s 1 t i hI
 have hn0 := hN0
 obtain ⟨bf, hpc, bn, bF, hw2, hdl⟩ := cj (k := 1) i0 (by assumption) i4 (by omega)
 have bd := wA (s := s) (w := 0) bF (by omega)
 have ho : ∀ a' r', (a', r') ∈ Dm → aM (kt s t i X) a' r' := by
  unfold Dm
  exact hc av <|hc bU <|hc au <|hc (cm (aA rfl) (aA rfl) (aG rfl) (by rw [bf]; try omega)) <|hc ck <|hc au <|hnil
 exact rK (tb := aO6) (L := LOe_p4) (2, (uG s t 1), (i + 1)) (aq.bz ((ab _ _).hyps ho) (by omega) cY cX (bK (bx rfl ⟨0, cW, bI.use (l := lf80) (h := lh80) (pd 5 s (aD s t (uG s t 1)) t (by omega) (by omega) (by omega) bn (by decide) (by assumption) (by assumption)) (1, (0 : Int)) (dI (by omega) (by omega) i5 i6 i7 i8 i9 (by decide)) rfl (by kernel_rfl) (ao := [(0, .x 18), (1, I6 0), (2, .x 3), (3, .x 4)]) (ai := [(40, 14)]) (fun X => aB (v := St' (aD s t (uG s t 1))) (ad bS (ah (v := .int .i64 (t)) (u := .int .i64 ((t + (0 : Int)))) rfl rfl (by rw [bm]) (ah (v := St' (aC s t)) (u := St' (aC s (t + (0 : Int)))) rfl rfl (by rw [bm]) (aI))))) (by kernel_rfl) (ak := [(19, .x 0), (20, .x 1), (21, .x 2), (2000002, .x 2000000)]) (aB (v := St' (aD s t (uG s t 1))) (aB (v := .int .i64 ((t + ((aD s t (uG s t 1)).length : Int)))) (aB (v := St' (aC s (t + ((aD s t (uG s t 1)).length : Int)))) (aB (v := aN aO (aR s (t + ((aD s t (uG s t 1)).length : Int)))) (aI))))) (by kernel_rfl)⟩) aj)) (cK aj) rfl (eF ⟨by omega, by omega, by omega, by omega, i4, fun _ => bd, by omega, fun _ => by omega, by omega, fun _ => by rw [← bF]; assumption, by omega, by omega, by omega, by omega, by omega, by omega⟩) (by show (s.length - (uG s t 1).toNat) < s.length - t.toNat; omega) (aB (v := St' s) (aB (v := .int .i64 ((uG s t 1))) (bc (b := ((i + 1))) rfl rfl (by omega) (bc (b := ((uG s t 1))) rfl rfl (by omega) (ah (v := St' (aC s (t + ((aD s t (uG s t 1)).length : Int)))) (u := St' (aC s (uG s t 1))) rfl rfl (congrArg (fun l => St' l) (by rw [bF])) (ah (v := aN aO (aR s (t + ((aD s t (uG s t 1)).length : Int)))) (u := aN aO (aR s (uG s t 1))) rfl rfl (congrArg (aN aO) (by rw [bF])) (aI))))))) runOe_p4
theorem vp (hI : cu s (2, t, i)) (h0 : t < (s.length : Int)) (h1 : wG s (t + ((aD s t (uG s t 1)).length : Int)) = 0) (h2 : ¬ (aR s (t + ((aD s t (uG s t 1)).length : Int)) = [])) : c8 s E' x' e' h' (2, t, i) X := by
 obtain ⟨i0, i1, i2, i3, i4, i5, i6, i7, i8, i9, cI, i11, i12, cM, cH, it⟩ := eC s 2 t i hI
 have hn0 := hN0
 obtain ⟨bf, hpc, bn, bF, hw2, hdl⟩ := cj (k := 1) i0 (by assumption) i4 (by omega)
 have bd := wA (s := s) (w := 0) bF (by omega)
 have ho : ∀ a' r', (a', r') ∈ Dl → aM (kr s t i X) a' r' := by
  unfold Dl
  exact hc av <|hc bU <|hc au <|hc (cm (aA rfl) (aA rfl) (aG rfl) (by rw [bf]; try omega)) <|hc ck <|hc au <|hnil
 exact rJ (tb := aO5) (L := LOe_p5) (2, (uG s t 1), (i + 1)) (aq.bz ((ab _ _).hyps ho) (by omega) cY cX (bK (bx rfl ⟨0, cW, bI.use (l := lf81) (h := lh81) (pd 5 s (aD s t (uG s t 1)) t (by omega) (by omega) (by omega) bn (by decide) (by assumption) (by assumption)) (2, (0 : Int)) (dI (by omega) (by omega) i5 i6 i7 i8 i9 (by decide)) rfl (by kernel_rfl) (ao := [(0, .x 18), (1, I6 0), (2, .x 3), (3, .x 4), (2000000, .x 2000000)]) (ai := [(40, 14), (41, 15)]) (fun X => aB (v := St' (aD s t (uG s t 1))) (ad bS (ah (v := .int .i64 (t)) (u := .int .i64 ((t + (0 : Int)))) rfl rfl (by rw [bm]) (ah (v := St' (aC s t)) (u := St' (aC s (t + (0 : Int)))) rfl rfl (by rw [bm]) (ah (v := aN aO (aR s t)) (u := aN aO (aR s (t + (0 : Int)))) rfl rfl (by rw [bm]) (aI)))))) (by kernel_rfl) (ak := [(19, .x 0), (20, .x 1), (21, .x 2), (2000003, .x 2000000)]) (aB (v := St' (aD s t (uG s t 1))) (aB (v := .int .i64 ((t + ((aD s t (uG s t 1)).length : Int)))) (aB (v := St' (aC s (t + ((aD s t (uG s t 1)).length : Int)))) (aB (v := aN aO (aR s (t + ((aD s t (uG s t 1)).length : Int)))) (aI))))) (by kernel_rfl)⟩) aj)) (cK aj) rfl (eF ⟨by omega, by omega, by omega, by omega, i4, fun _ => bd, by omega, fun _ => by omega, by omega, fun _ => by rw [← bF]; assumption, by omega, by omega, by omega, by omega, by omega, by omega⟩) (by show (s.length - (uG s t 1).toNat) < s.length - t.toNat; omega) (aB (v := St' s) (aB (v := .int .i64 ((uG s t 1))) (bc (b := ((i + 1))) rfl rfl (by omega) (bc (b := ((uG s t 1))) rfl rfl (by omega) (ah (v := St' (aC s (t + ((aD s t (uG s t 1)).length : Int)))) (u := St' (aC s (uG s t 1))) rfl rfl (congrArg (fun l => St' l) (by rw [bF])) (ah (v := aN aO (aR s (t + ((aD s t (uG s t 1)).length : Int)))) (u := aN aO (aR s (uG s t 1))) rfl rfl (congrArg (aN aO) (by rw [bF])) (aI))))))) runOe_p5
theorem vo (hI : cu s (0, t, i)) (h0 : t < (s.length : Int)) (h1 : ¬ (wG s (t + ((aD s t (uG s t 1)).length : Int)) = 0)) (h2 : wG s (t + ((aD s t (uG s t 1)).length : Int)) = 1) (h3 : DS s = []) : c8 s E' x' e' h' (0, t, i) X := by
 obtain ⟨i0, i1, i2, i3, i4, i5, i6, i7, i8, i9, cI, i11, i12, cM, cH, it⟩ := eC s 0 t i hI
 have hn0 := hN0
 obtain ⟨bf, hpc, bn, bF, hw2, hdl⟩ := cj (k := 1) i0 (by assumption) i4 (by omega)
 obtain ⟨bd, hJ⟩ := jA (by omega) (by omega) (by omega) (i5 (by omega)) bF (by assumption)
 have ho : ∀ a' r', (a', r') ∈ Dk → aM (ky s t i X) a' r' := by
  unfold Dk
  exact hc av <|hc bU <|hc au <|hc (cm (aA rfl) (aA rfl) (aG rfl) (by rw [bf]; try omega)) <|hc ck <|hc (fh (ar (l := ([] : LB)) 0 0 rfl) (aA rfl) (aG rfl) (by first | rfl | (simp; done)) (by omega)) <|hc au <|hnil
 exact rL (tb := aO4) (L := LOe_p6) (3, (uG s t 1), (i + 1)) (aq.bz ((ab _ _).hyps ho) (by omega) cY cX (bK (bx rfl ⟨0, cW, bI.use (l := lf82) (h := lh82) (mc 5 s (aD s t (uG s t 1)) t (by omega) (by omega) (by omega) bn (by decide) (by assumption) (by assumption)) (0, (0 : Int)) (dI (by omega) (by omega) i5 i6 i7 i8 i9 (by decide)) rfl (by kernel_rfl) (ao := [(0, .x 26), (1, I6 0), (2, .x 3)]) (ai := []) (fun X => aB (v := St' (aD s t (uG s t 1))) (ad bS (ah (v := .int .i64 (t)) (u := .int .i64 ((t + (0 : Int)))) rfl rfl (by rw [bm]) (aI)))) (by kernel_rfl) (ak := [(27, .x 0), (28, .x 1), (29, .x 2)]) (aB (v := St' (List.drop (Int.toNat (JS s - t)) (aD s t (uG s t 1)))) (aB (v := .int .i64 ((nS s))) (aB (v := St' (RS s)) (aI)))) (by kernel_rfl)⟩) aj)) (cK aj) rfl (eF ⟨by omega, by omega, by omega, by omega, i4, by omega, by omega, by omega, by omega, by omega, fun _ => bd, fun _ => by assumption, by omega, fun _ => ⟨by omega, by omega⟩, by omega, by omega⟩) (by show (s.length - (uG s t 1).toNat) < s.length - t.toNat; omega) (aB (v := St' s) (aB (v := .int .i64 ((uG s t 1))) (bc (b := ((i + 1))) rfl rfl (by omega) (ah (v := St' (List.drop (Int.toNat (JS s - t)) (aD s t (uG s t 1)))) (u := St' (List.drop (Int.toNat (JS s)) (List.take (Int.toNat ((uG s t 1))) s))) rfl rfl (congrArg (fun l => St' l) (iW (by omega) (by omega) (by omega) (by omega))) (aB (v := .int .i64 ((nS s))) (aB (v := St' (RS s)) (aI))))))) runOe_p6
theorem vm (hI : cu s (1, t, i)) (h0 : t < (s.length : Int)) (h1 : ¬ (wG s (t + ((aD s t (uG s t 1)).length : Int)) = 0)) (h2 : wG s (t + ((aD s t (uG s t 1)).length : Int)) = 1) (h3 : DS s = []) : c8 s E' x' e' h' (1, t, i) X := by
 obtain ⟨i0, i1, i2, i3, i4, i5, i6, i7, i8, i9, cI, i11, i12, cM, cH, it⟩ := eC s 1 t i hI
 have hn0 := hN0
 obtain ⟨bf, hpc, bn, bF, hw2, hdl⟩ := cj (k := 1) i0 (by assumption) i4 (by omega)
 obtain ⟨bd, hJ⟩ := jA (by omega) (by omega) (by omega) (i5 (by omega)) bF (by assumption)
 have ho : ∀ a' r', (a', r') ∈ Dj → aM (kt s t i X) a' r' := by
  unfold Dj
  exact hc av <|hc bU <|hc au <|hc (cm (aA rfl) (aA rfl) (aG rfl) (by rw [bf]; try omega)) <|hc ck <|hc (fh (ar (l := ([] : LB)) 0 0 rfl) (aA rfl) (aG rfl) (by first | rfl | (simp; done)) (by omega)) <|hc au <|hnil
 exact rK (tb := aO3) (L := LOe_p7) (3, (uG s t 1), (i + 1)) (aq.bz ((ab _ _).hyps ho) (by omega) cY cX (bK (bx rfl ⟨0, cW, bI.use (l := lf83) (h := lh83) (mc 5 s (aD s t (uG s t 1)) t (by omega) (by omega) (by omega) bn (by decide) (by assumption) (by assumption)) (1, (0 : Int)) (dI (by omega) (by omega) i5 i6 i7 i8 i9 (by decide)) rfl (by kernel_rfl) (ao := [(0, .x 27), (1, I6 0), (2, .x 3), (3, .x 4)]) (ai := [(40, 14)]) (fun X => aB (v := St' (aD s t (uG s t 1))) (ad bS (ah (v := .int .i64 (t)) (u := .int .i64 ((t + (0 : Int)))) rfl rfl (by rw [bm]) (ah (v := St' (aC s t)) (u := St' (aC s (t + (0 : Int)))) rfl rfl (by rw [bm]) (aI))))) (by kernel_rfl) (ak := [(28, .x 0), (29, .x 1), (30, .x 2)]) (aB (v := St' (List.drop (Int.toNat (JS s - t)) (aD s t (uG s t 1)))) (aB (v := .int .i64 ((nS s))) (aB (v := St' (RS s)) (aI)))) (by kernel_rfl)⟩) aj)) (cK aj) rfl (eF ⟨by omega, by omega, by omega, by omega, i4, by omega, by omega, by omega, by omega, by omega, fun _ => bd, fun _ => by assumption, by omega, fun _ => ⟨by omega, by omega⟩, by omega, by omega⟩) (by show (s.length - (uG s t 1).toNat) < s.length - t.toNat; omega) (aB (v := St' s) (aB (v := .int .i64 ((uG s t 1))) (bc (b := ((i + 1))) rfl rfl (by omega) (ah (v := St' (List.drop (Int.toNat (JS s - t)) (aD s t (uG s t 1)))) (u := St' (List.drop (Int.toNat (JS s)) (List.take (Int.toNat ((uG s t 1))) s))) rfl rfl (congrArg (fun l => St' l) (iW (by omega) (by omega) (by omega) (by omega))) (aB (v := .int .i64 ((nS s))) (aB (v := St' (RS s)) (aI))))))) runOe_p7
theorem vk (hI : cu s (2, t, i)) (h0 : t < (s.length : Int)) (h1 : ¬ (wG s (t + ((aD s t (uG s t 1)).length : Int)) = 0)) (h2 : wG s (t + ((aD s t (uG s t 1)).length : Int)) = 1) (h3 : DS s = []) : c8 s E' x' e' h' (2, t, i) X := by
 obtain ⟨i0, i1, i2, i3, i4, i5, i6, i7, i8, i9, cI, i11, i12, cM, cH, it⟩ := eC s 2 t i hI
 have hn0 := hN0
 obtain ⟨bf, hpc, bn, bF, hw2, hdl⟩ := cj (k := 1) i0 (by assumption) i4 (by omega)
 obtain ⟨bd, hJ⟩ := jA (by omega) (by omega) (by omega) (i5 (by omega)) bF (by assumption)
 have ho : ∀ a' r', (a', r') ∈ Di → aM (kr s t i X) a' r' := by
  unfold Di
  exact hc av <|hc bU <|hc au <|hc (cm (aA rfl) (aA rfl) (aG rfl) (by rw [bf]; try omega)) <|hc ck <|hc (fh (ar (l := ([] : LB)) 0 0 rfl) (aA rfl) (aG rfl) (by first | rfl | (simp; done)) (by omega)) <|hc au <|hnil
 exact rJ (tb := aO2) (L := LOe_p8) (3, (uG s t 1), (i + 1)) (aq.bz ((ab _ _).hyps ho) (by omega) cY cX (bK (bx rfl ⟨0, cW, bI.use (l := lf84) (h := lh84) (mc 5 s (aD s t (uG s t 1)) t (by omega) (by omega) (by omega) bn (by decide) (by assumption) (by assumption)) (2, (0 : Int)) (dI (by omega) (by omega) i5 i6 i7 i8 i9 (by decide)) rfl (by kernel_rfl) (ao := [(0, .x 27), (1, I6 0), (2, .x 3), (3, .x 4), (2000000, .x 2000000)]) (ai := [(40, 14), (41, 15)]) (fun X => aB (v := St' (aD s t (uG s t 1))) (ad bS (ah (v := .int .i64 (t)) (u := .int .i64 ((t + (0 : Int)))) rfl rfl (by rw [bm]) (ah (v := St' (aC s t)) (u := St' (aC s (t + (0 : Int)))) rfl rfl (by rw [bm]) (ah (v := aN aO (aR s t)) (u := aN aO (aR s (t + (0 : Int)))) rfl rfl (by rw [bm]) (aI)))))) (by kernel_rfl) (ak := [(28, .x 0), (29, .x 1), (30, .x 2)]) (aB (v := St' (List.drop (Int.toNat (JS s - t)) (aD s t (uG s t 1)))) (aB (v := .int .i64 ((nS s))) (aB (v := St' (RS s)) (aI)))) (by kernel_rfl)⟩) aj)) (cK aj) rfl (eF ⟨by omega, by omega, by omega, by omega, i4, by omega, by omega, by omega, by omega, by omega, fun _ => bd, fun _ => by assumption, by omega, fun _ => ⟨by omega, by omega⟩, by omega, by omega⟩) (by show (s.length - (uG s t 1).toNat) < s.length - t.toNat; omega) (aB (v := St' s) (aB (v := .int .i64 ((uG s t 1))) (bc (b := ((i + 1))) rfl rfl (by omega) (ah (v := St' (List.drop (Int.toNat (JS s - t)) (aD s t (uG s t 1)))) (u := St' (List.drop (Int.toNat (JS s)) (List.take (Int.toNat ((uG s t 1))) s))) rfl rfl (congrArg (fun l => St' l) (iW (by omega) (by omega) (by omega) (by omega))) (aB (v := .int .i64 ((nS s))) (aB (v := St' (RS s)) (aI))))))) runOe_p8
theorem vj (hI : cu s (0, t, i)) (h0 : t < (s.length : Int)) (h1 : ¬ (wG s (t + ((aD s t (uG s t 1)).length : Int)) = 0)) (h2 : wG s (t + ((aD s t (uG s t 1)).length : Int)) = 1) (h3 : ¬ (DS s = [])) : c8 s E' x' e' h' (0, t, i) X := by
 obtain ⟨i0, i1, i2, i3, i4, i5, i6, i7, i8, i9, cI, i11, i12, cM, cH, it⟩ := eC s 0 t i hI
 have hn0 := hN0
 obtain ⟨bf, hpc, bn, bF, hw2, hdl⟩ := cj (k := 1) i0 (by assumption) i4 (by omega)
 obtain ⟨bd, hJ⟩ := jA (by omega) (by omega) (by omega) (i5 (by omega)) bF (by assumption)
 have ho : ∀ a' r', (a', r') ∈ Dh → aM (ky s t i X) a' r' := by
  unfold Dh
  exact hc av <|hc bU <|hc au <|hc (cm (aA rfl) (aA rfl) (aG rfl) (by rw [bf]; try omega)) <|hc ck <|hc (fh (ar (l := ([] : LB)) 0 0 rfl) (aA rfl) (aG rfl) (by first | rfl | (simp; done)) (by omega)) <|hc au <|hnil
 exact rL (tb := aO1) (L := LOe_p9) (4, (uG s t 1), (i + 1)) (aq.bz ((ab _ _).hyps ho) (by omega) cY cX (bK (bx rfl ⟨0, cW, bI.use (l := lf85) (h := lh85) (mb 5 s (aD s t (uG s t 1)) t (by omega) (by omega) (by omega) bn (by decide) (by assumption) (by assumption)) (0, (0 : Int)) (dI (by omega) (by omega) i5 i6 i7 i8 i9 (by decide)) rfl (by kernel_rfl) (ao := [(0, .x 36), (1, I6 0), (2, .x 3)]) (ai := []) (fun X => aB (v := St' (aD s t (uG s t 1))) (ad bS (ah (v := .int .i64 (t)) (u := .int .i64 ((t + (0 : Int)))) rfl rfl (by rw [bm]) (aI)))) (by kernel_rfl) (ak := [(37, .x 0), (38, .x 1), (39, .x 2), (2000005, .x 2000000)]) (aB (v := St' (List.drop (Int.toNat (JS s - t)) (aD s t (uG s t 1)))) (aB (v := .int .i64 ((nS s))) (aB (v := St' (RS s)) (aB (v := aN aO (DS s)) (aI))))) (by kernel_rfl)⟩) aj)) (cK aj) rfl (eF ⟨by omega, by omega, by omega, by omega, i4, by omega, by omega, by omega, by omega, by omega, fun _ => bd, by omega, fun _ => by assumption, fun _ => ⟨by omega, by omega⟩, by omega, by omega⟩) (by show (s.length - (uG s t 1).toNat) < s.length - t.toNat; omega) (aB (v := St' s) (aB (v := .int .i64 ((uG s t 1))) (bc (b := ((i + 1))) rfl rfl (by omega) (ah (v := St' (List.drop (Int.toNat (JS s - t)) (aD s t (uG s t 1)))) (u := St' (List.drop (Int.toNat (JS s)) (List.take (Int.toNat ((uG s t 1))) s))) rfl rfl (congrArg (fun l => St' l) (iW (by omega) (by omega) (by omega) (by omega))) (aB (v := .int .i64 ((nS s))) (aB (v := St' (RS s)) (aB (v := aN aO (DS s)) (aI)))))))) runOe_p9
theorem wD (hI : cu s (1, t, i)) (h0 : t < (s.length : Int)) (h1 : ¬ (wG s (t + ((aD s t (uG s t 1)).length : Int)) = 0)) (h2 : wG s (t + ((aD s t (uG s t 1)).length : Int)) = 1) (h3 : ¬ (DS s = [])) : c8 s E' x' e' h' (1, t, i) X := by
 obtain ⟨i0, i1, i2, i3, i4, i5, i6, i7, i8, i9, cI, i11, i12, cM, cH, it⟩ := eC s 1 t i hI
 have hn0 := hN0
 obtain ⟨bf, hpc, bn, bF, hw2, hdl⟩ := cj (k := 1) i0 (by assumption) i4 (by omega)
 obtain ⟨bd, hJ⟩ := jA (by omega) (by omega) (by omega) (i5 (by omega)) bF (by assumption)
 have ho : ∀ a' r', (a', r') ∈ D3 → aM (kt s t i X) a' r' := by
  unfold D3
  exact hc av <|hc bU <|hc au <|hc (cm (aA rfl) (aA rfl) (aG rfl) (by rw [bf]; try omega)) <|hc ck <|hc (fh (ar (l := ([] : LB)) 0 0 rfl) (aA rfl) (aG rfl) (by first | rfl | (simp; done)) (by omega)) <|hc au <|hnil
 exact rK (tb := aH4) (L := aY8) (4, (uG s t 1), (i + 1)) (aq.bz ((ab _ _).hyps ho) (by omega) cY cX (bK (bx rfl ⟨0, cW, bI.use (l := lf86) (h := lh86) (mb 5 s (aD s t (uG s t 1)) t (by omega) (by omega) (by omega) bn (by decide) (by assumption) (by assumption)) (1, (0 : Int)) (dI (by omega) (by omega) i5 i6 i7 i8 i9 (by decide)) rfl (by kernel_rfl) (ao := [(0, .x 37), (1, I6 0), (2, .x 3), (3, .x 4)]) (ai := [(40, 14)]) (fun X => aB (v := St' (aD s t (uG s t 1))) (ad bS (ah (v := .int .i64 (t)) (u := .int .i64 ((t + (0 : Int)))) rfl rfl (by rw [bm]) (ah (v := St' (aC s t)) (u := St' (aC s (t + (0 : Int)))) rfl rfl (by rw [bm]) (aI))))) (by kernel_rfl) (ak := [(38, .x 0), (39, .x 1), (40, .x 2), (2000005, .x 2000000)]) (aB (v := St' (List.drop (Int.toNat (JS s - t)) (aD s t (uG s t 1)))) (aB (v := .int .i64 ((nS s))) (aB (v := St' (RS s)) (aB (v := aN aO (DS s)) (aI))))) (by kernel_rfl)⟩) aj)) (cK aj) rfl (eF ⟨by omega, by omega, by omega, by omega, i4, by omega, by omega, by omega, by omega, by omega, fun _ => bd, by omega, fun _ => by assumption, fun _ => ⟨by omega, by omega⟩, by omega, by omega⟩) (by show (s.length - (uG s t 1).toNat) < s.length - t.toNat; omega) (aB (v := St' s) (aB (v := .int .i64 ((uG s t 1))) (bc (b := ((i + 1))) rfl rfl (by omega) (ah (v := St' (List.drop (Int.toNat (JS s - t)) (aD s t (uG s t 1)))) (u := St' (List.drop (Int.toNat (JS s)) (List.take (Int.toNat ((uG s t 1))) s))) rfl rfl (congrArg (fun l => St' l) (iW (by omega) (by omega) (by omega) (by omega))) (aB (v := .int .i64 ((nS s))) (aB (v := St' (RS s)) (aB (v := aN aO (DS s)) (aI)))))))) runOe_p10
theorem wC (hI : cu s (2, t, i)) (h0 : t < (s.length : Int)) (h1 : ¬ (wG s (t + ((aD s t (uG s t 1)).length : Int)) = 0)) (h2 : wG s (t + ((aD s t (uG s t 1)).length : Int)) = 1) (h3 : ¬ (DS s = [])) : c8 s E' x' e' h' (2, t, i) X := by
 obtain ⟨i0, i1, i2, i3, i4, i5, i6, i7, i8, i9, cI, i11, i12, cM, cH, it⟩ := eC s 2 t i hI
 have hn0 := hN0
 obtain ⟨bf, hpc, bn, bF, hw2, hdl⟩ := cj (k := 1) i0 (by assumption) i4 (by omega)
 obtain ⟨bd, hJ⟩ := jA (by omega) (by omega) (by omega) (i5 (by omega)) bF (by assumption)
 have ho : ∀ a' r', (a', r') ∈ D2 → aM (kr s t i X) a' r' := by
  unfold D2
  exact hc av <|hc bU <|hc au <|hc (cm (aA rfl) (aA rfl) (aG rfl) (by rw [bf]; try omega)) <|hc ck <|hc (fh (ar (l := ([] : LB)) 0 0 rfl) (aA rfl) (aG rfl) (by first | rfl | (simp; done)) (by omega)) <|hc au <|hnil
 exact rJ (tb := aH3) (L := aY7) (4, (uG s t 1), (i + 1)) (aq.bz ((ab _ _).hyps ho) (by omega) cY cX (bK (bx rfl ⟨0, cW, bI.use (l := lf87) (h := lh87) (mb 5 s (aD s t (uG s t 1)) t (by omega) (by omega) (by omega) bn (by decide) (by assumption) (by assumption)) (2, (0 : Int)) (dI (by omega) (by omega) i5 i6 i7 i8 i9 (by decide)) rfl (by kernel_rfl) (ao := [(0, .x 37), (1, I6 0), (2, .x 3), (3, .x 4), (2000000, .x 2000000)]) (ai := [(40, 14), (41, 15)]) (fun X => aB (v := St' (aD s t (uG s t 1))) (ad bS (ah (v := .int .i64 (t)) (u := .int .i64 ((t + (0 : Int)))) rfl rfl (by rw [bm]) (ah (v := St' (aC s t)) (u := St' (aC s (t + (0 : Int)))) rfl rfl (by rw [bm]) (ah (v := aN aO (aR s t)) (u := aN aO (aR s (t + (0 : Int)))) rfl rfl (by rw [bm]) (aI)))))) (by kernel_rfl) (ak := [(38, .x 0), (39, .x 1), (40, .x 2), (2000006, .x 2000000)]) (aB (v := St' (List.drop (Int.toNat (JS s - t)) (aD s t (uG s t 1)))) (aB (v := .int .i64 ((nS s))) (aB (v := St' (RS s)) (aB (v := aN aO (DS s)) (aI))))) (by kernel_rfl)⟩) aj)) (cK aj) rfl (eF ⟨by omega, by omega, by omega, by omega, i4, by omega, by omega, by omega, by omega, by omega, fun _ => bd, by omega, fun _ => by assumption, fun _ => ⟨by omega, by omega⟩, by omega, by omega⟩) (by show (s.length - (uG s t 1).toNat) < s.length - t.toNat; omega) (aB (v := St' s) (aB (v := .int .i64 ((uG s t 1))) (bc (b := ((i + 1))) rfl rfl (by omega) (ah (v := St' (List.drop (Int.toNat (JS s - t)) (aD s t (uG s t 1)))) (u := St' (List.drop (Int.toNat (JS s)) (List.take (Int.toNat ((uG s t 1))) s))) rfl rfl (congrArg (fun l => St' l) (iW (by omega) (by omega) (by omega) (by omega))) (aB (v := .int .i64 ((nS s))) (aB (v := St' (RS s)) (aB (v := aN aO (DS s)) (aI)))))))) runOe_p11
theorem wB (hI : cu s (0, t, i)) (h0 : t < (s.length : Int)) (h1 : ¬ (wG s (t + ((aD s t (uG s t 1)).length : Int)) = 0)) (h2 : ¬ (wG s (t + ((aD s t (uG s t 1)).length : Int)) = 1)) : c8 s E' x' e' h' (0, t, i) X := by
 obtain ⟨i0, i1, i2, i3, i4, i5, i6, i7, i8, i9, cI, i11, i12, cM, cH, it⟩ := eC s 0 t i hI
 have hn0 := hN0
 obtain ⟨bf, hpc, bn, bF, hw2, hdl⟩ := cj (k := 1) i0 (by assumption) i4 (by omega)
 have bd := wA (s := s) (w := 2) bF (by omega)
 have ho : ∀ a' r', (a', r') ∈ D1 → aM (ky s t i X) a' r' := by
  unfold D1
  exact hc av <|hc bU <|hc au <|hc (cm (aA rfl) (aA rfl) (aG rfl) (by rw [bf]; try omega)) <|hc ck <|hc au <|hnil
 exact rL (tb := aH2) (L := aY6) (5, (uG s t 1), (i + 1)) (aq.bz ((ab _ _).hyps ho) (by omega) cY cX (bK (bx rfl ⟨0, cW, bI.use (l := lf88) (h := lh88) (ma 5 s (aD s t (uG s t 1)) t (by omega) (by omega) (by omega) bn (by decide) (by omega)) (0, (0 : Int)) (dI (by omega) (by omega) i5 i6 i7 i8 i9 (by decide)) rfl (by kernel_rfl) (ao := [(0, .x 46), (1, I6 0), (2, .x 3)]) (ai := []) (fun X => aB (v := St' (aD s t (uG s t 1))) (ad bS (ah (v := .int .i64 (t)) (u := .int .i64 ((t + (0 : Int)))) rfl rfl (by rw [bm]) (aI)))) (by kernel_rfl) (ak := [(47, .x 0), (48, .x 1)]) (aB (v := .int .i64 ((kS s))) (aB (v := St' (mS s)) (aI))) (by kernel_rfl)⟩) aj)) (cK aj) rfl (eF ⟨by omega, by omega, by omega, by omega, i4, by omega, by omega, by omega, by omega, by omega, by omega, by omega, by omega, by omega, fun _ => bd, by omega⟩) (by show (s.length - (uG s t 1).toNat) < s.length - t.toNat; omega) (aB (v := St' s) (aB (v := .int .i64 ((uG s t 1))) (aB (v := .int .i64 ((kS s))) (aB (v := St' (mS s)) (aI))))) runOe_p12
theorem v8 (hI : cu s (1, t, i)) (h0 : t < (s.length : Int)) (h1 : ¬ (wG s (t + ((aD s t (uG s t 1)).length : Int)) = 0)) (h2 : ¬ (wG s (t + ((aD s t (uG s t 1)).length : Int)) = 1)) : c8 s E' x' e' h' (1, t, i) X := by
 obtain ⟨i0, i1, i2, i3, i4, i5, i6, i7, i8, i9, cI, i11, i12, cM, cH, it⟩ := eC s 1 t i hI
 have hn0 := hN0
 obtain ⟨bf, hpc, bn, bF, hw2, hdl⟩ := cj (k := 1) i0 (by assumption) i4 (by omega)
 have bd := wA (s := s) (w := 2) bF (by omega)
 have ho : ∀ a' r', (a', r') ∈ D0 → aM (kt s t i X) a' r' := by
  unfold D0
  exact hc av <|hc bU <|hc au <|hc (cm (aA rfl) (aA rfl) (aG rfl) (by rw [bf]; try omega)) <|hc ck <|hc au <|hnil
 exact rK (tb := aH1) (L := aY5) (5, (uG s t 1), (i + 1)) (aq.bz ((ab _ _).hyps ho) (by omega) cY cX (bK (bx rfl ⟨0, cW, bI.use (l := lf89) (h := lh89) (ma 5 s (aD s t (uG s t 1)) t (by omega) (by omega) (by omega) bn (by decide) (by omega)) (1, (0 : Int)) (dI (by omega) (by omega) i5 i6 i7 i8 i9 (by decide)) rfl (by kernel_rfl) (ao := [(0, .x 47), (1, I6 0), (2, .x 3), (3, .x 4)]) (ai := [(40, 14)]) (fun X => aB (v := St' (aD s t (uG s t 1))) (ad bS (ah (v := .int .i64 (t)) (u := .int .i64 ((t + (0 : Int)))) rfl rfl (by rw [bm]) (ah (v := St' (aC s t)) (u := St' (aC s (t + (0 : Int)))) rfl rfl (by rw [bm]) (aI))))) (by kernel_rfl) (ak := [(48, .x 0), (49, .x 1)]) (aB (v := .int .i64 ((kS s))) (aB (v := St' (mS s)) (aI))) (by kernel_rfl)⟩) aj)) (cK aj) rfl (eF ⟨by omega, by omega, by omega, by omega, i4, by omega, by omega, by omega, by omega, by omega, by omega, by omega, by omega, by omega, fun _ => bd, by omega⟩) (by show (s.length - (uG s t 1).toNat) < s.length - t.toNat; omega) (aB (v := St' s) (aB (v := .int .i64 ((uG s t 1))) (aB (v := .int .i64 ((kS s))) (aB (v := St' (mS s)) (aI))))) runOe_p13
theorem v7 (hI : cu s (2, t, i)) (h0 : t < (s.length : Int)) (h1 : ¬ (wG s (t + ((aD s t (uG s t 1)).length : Int)) = 0)) (h2 : ¬ (wG s (t + ((aD s t (uG s t 1)).length : Int)) = 1)) : c8 s E' x' e' h' (2, t, i) X := by
 obtain ⟨i0, i1, i2, i3, i4, i5, i6, i7, i8, i9, cI, i11, i12, cM, cH, it⟩ := eC s 2 t i hI
 have hn0 := hN0
 obtain ⟨bf, hpc, bn, bF, hw2, hdl⟩ := cj (k := 1) i0 (by assumption) i4 (by omega)
 have bd := wA (s := s) (w := 2) bF (by omega)
 have ho : ∀ a' r', (a', r') ∈ Dz → aM (kr s t i X) a' r' := by
  unfold Dz
  exact hc av <|hc bU <|hc au <|hc (cm (aA rfl) (aA rfl) (aG rfl) (by rw [bf]; try omega)) <|hc ck <|hc au <|hnil
 exact rJ (tb := aH0) (L := aY4) (5, (uG s t 1), (i + 1)) (aq.bz ((ab _ _).hyps ho) (by omega) cY cX (bK (bx rfl ⟨0, cW, bI.use (l := lf90) (h := lh90) (ma 5 s (aD s t (uG s t 1)) t (by omega) (by omega) (by omega) bn (by decide) (by omega)) (2, (0 : Int)) (dI (by omega) (by omega) i5 i6 i7 i8 i9 (by decide)) rfl (by kernel_rfl) (ao := [(0, .x 47), (1, I6 0), (2, .x 3), (3, .x 4), (2000000, .x 2000000)]) (ai := [(40, 14), (41, 15)]) (fun X => aB (v := St' (aD s t (uG s t 1))) (ad bS (ah (v := .int .i64 (t)) (u := .int .i64 ((t + (0 : Int)))) rfl rfl (by rw [bm]) (ah (v := St' (aC s t)) (u := St' (aC s (t + (0 : Int)))) rfl rfl (by rw [bm]) (ah (v := aN aO (aR s t)) (u := aN aO (aR s (t + (0 : Int)))) rfl rfl (by rw [bm]) (aI)))))) (by kernel_rfl) (ak := [(48, .x 0), (49, .x 1)]) (aB (v := .int .i64 ((kS s))) (aB (v := St' (mS s)) (aI))) (by kernel_rfl)⟩) aj)) (cK aj) rfl (eF ⟨by omega, by omega, by omega, by omega, i4, by omega, by omega, by omega, by omega, by omega, by omega, by omega, by omega, by omega, fun _ => bd, by omega⟩) (by show (s.length - (uG s t 1).toNat) < s.length - t.toNat; omega) (aB (v := St' s) (aB (v := .int .i64 ((uG s t 1))) (aB (v := .int .i64 ((kS s))) (aB (v := St' (mS s)) (aI))))) runOe_p14
theorem vz (hI : cu s (3, t, i)) (h0 : t < (s.length : Int)) : c8 s E' x' e' h' (3, t, i) X := by
 obtain ⟨i0, i1, i2, i3, i4, i5, i6, i7, i8, i9, cI, i11, i12, cM, cH, it⟩ := eC s 3 t i hI
 have hn0 := hN0
 obtain ⟨bf, hpc, bn, bF, hw2, hdl⟩ := cj (k := 1) i0 (by assumption) i4 (by omega)
 have bd := wst (k := (uG s t 1)) (cI (by omega)); have hJ := cM (by omega); have hdk := dkL (t := t) i4
 refine stOe_3 (h := Dv) (3, (uG s t 1), (i + 1)) ?_ (eF ⟨by omega, by omega, by omega, by omega, i4, by omega, by omega, by omega, by omega, by omega, fun _ => bd, fun _ => i11 (by omega), by omega, fun _ => ⟨by omega, by omega⟩, by omega, by omega⟩) (by show (s.length - (uG s t 1).toNat) < s.length - t.toNat; omega) (aB (v := St' s) (aB (v := .int .i64 ((uG s t 1))) (bc (b := ((i + 1))) rfl rfl (by omega) (ah (v := St' ((List.drop (Int.toNat (JS s)) (List.take t.toNat s)) ++ (aD s t (uG s t 1)))) (u := St' (List.drop (Int.toNat (JS s)) (List.take (Int.toNat ((uG s t 1))) s))) rfl rfl (congrArg (fun l => St' l) (y1G (by omega) (by omega) (by omega) (by omega) (by omega))) (aB (v := .int .i64 ((nS s))) (aB (v := St' (RS s)) (aI))))))) runOe_p18
 unfold Dv
 exact hc av <|hc bU <|hc au <|hc (cm (aA rfl) (aA rfl) (aG rfl) (by rw [bf]; try omega)) <|hc ck <|hc av <|hc (mj (b7 (m := 0) rfl) (aA rfl) (decide_eq_true (by omega))) <|hc (fh (aA rfl) (aA rfl) (aG rfl) (by first | rfl | (simp; done)) (by omega)) <|hc au <|hnil
theorem vu (hI : cu s (4, t, i)) (h0 : t < (s.length : Int)) : c8 s E' x' e' h' (4, t, i) X := by
 obtain ⟨i0, i1, i2, i3, i4, i5, i6, i7, i8, i9, cI, i11, i12, cM, cH, it⟩ := eC s 4 t i hI
 have hn0 := hN0
 obtain ⟨bf, hpc, bn, bF, hw2, hdl⟩ := cj (k := 1) i0 (by assumption) i4 (by omega)
 have bd := wst (k := (uG s t 1)) (cI (by omega)); have hJ := cM (by omega); have hdk := dkL (t := t) i4
 refine stOe_4 (h := Ds) (4, (uG s t 1), (i + 1)) ?_ (eF ⟨by omega, by omega, by omega, by omega, i4, by omega, by omega, by omega, by omega, by omega, fun _ => bd, by omega, fun _ => i12 (by omega), fun _ => ⟨by omega, by omega⟩, by omega, by omega⟩) (by show (s.length - (uG s t 1).toNat) < s.length - t.toNat; omega) (aB (v := St' s) (aB (v := .int .i64 ((uG s t 1))) (bc (b := ((i + 1))) rfl rfl (by omega) (ah (v := St' ((List.drop (Int.toNat (JS s)) (List.take t.toNat s)) ++ (aD s t (uG s t 1)))) (u := St' (List.drop (Int.toNat (JS s)) (List.take (Int.toNat ((uG s t 1))) s))) rfl rfl (congrArg (fun l => St' l) (y1G (by omega) (by omega) (by omega) (by omega) (by omega))) (aB (v := .int .i64 ((nS s))) (aB (v := St' (RS s)) (aB (v := aN aO (DS s)) (aI)))))))) runOe_p20
 unfold Ds
 exact hc av <|hc bU <|hc au <|hc (cm (aA rfl) (aA rfl) (aG rfl) (by rw [bf]; try omega)) <|hc ck <|hc av <|hc (mj (b7 (m := 0) rfl) (aA rfl) (decide_eq_true (by omega))) <|hc (fh (aA rfl) (aA rfl) (aG rfl) (by first | rfl | (simp; done)) (by omega)) <|hc au <|hnil
end
def aU2 (s : LB) : List Value := []
def roEOe_0 (s : LB) : List Value := []
noncomputable def EOe_0 (s : LB) : Cx := cx (bG (aU2 s) (rX (roEOe_0 s) (fun _ => .bool true))) (bJ (aV (l := aU2 s) rfl)) 1 aH aQ
theorem roundsOe_0 (s : LB) (x0 : wG s ((0 : Int) + (s.length : Int)) = 0) (st : Nat × Int × Int) (X : Nat → Value) (hI : cu s st) : c8 s (EOe_0 s) (.exit 0) [(6, .p 5 0), (9, .s 0 0), (10, .ni)] [(5, bk 42 [.und, .und, .und, .und, .und, .und, .und, .b false, .b false])] st X := by
 obtain ⟨tag, t, i⟩ := st
 have hI0 := hI
 obtain ⟨i0, i1, i2, i3, i4, i5, i6, i7, i8, i9, cI, i11, i12, cM, cH, it⟩ := eC s tag t i hI
 rcases (show tag = 0 ∨ tag = 1 ∨ tag = 2 ∨ tag = 3 ∨ tag = 4 ∨ tag = 5 from by omega) with rfl | rfl | rfl | rfl | rfl | rfl
 ·have hn0 := hN0
  by_cases h0 : t < (s.length : Int)
  ·by_cases h1 : wG s (t + ((aD s t (uG s t 1)).length : Int)) = 0
   ·by_cases h2 : aR s (t + ((aD s t (uG s t 1)).length : Int)) = []
    ·exact wF hI0 h0 h1 h2
    ·exact vr hI0 h0 h1 h2
   ·by_cases h2 : wG s (t + ((aD s t (uG s t 1)).length : Int)) = 1
    ·by_cases h3 : DS s = []
     ·exact vo hI0 h0 h1 h2 h3
     ·exact vj hI0 h0 h1 h2 h3
    ·exact wB hI0 h0 h1 h2
  ·refine lvOe_0 (h := Dy) rfl ?_ (aI) runOe_p15
   unfold Dy
   exact hc av <|hc dV <|hnil
 ·have hn0 := hN0
  by_cases h0 : t < (s.length : Int)
  ·by_cases h1 : wG s (t + ((aD s t (uG s t 1)).length : Int)) = 0
   ·by_cases h2 : aR s (t + ((aD s t (uG s t 1)).length : Int)) = []
    ·exact wE hI0 h0 h1 h2
    ·exact vq hI0 h0 h1 h2
   ·by_cases h2 : wG s (t + ((aD s t (uG s t 1)).length : Int)) = 1
    ·by_cases h3 : DS s = []
     ·exact vm hI0 h0 h1 h2 h3
     ·exact wD hI0 h0 h1 h2 h3
    ·exact v8 hI0 h0 h1 h2
  ·refine lvOe_1 (h := Dx) rfl ?_ (aI) runOe_p16
   unfold Dx
   exact hc av <|hc dV <|hnil
 ·have hn0 := hN0
  by_cases h0 : t < (s.length : Int)
  ·by_cases h1 : wG s (t + ((aD s t (uG s t 1)).length : Int)) = 0
   ·by_cases h2 : aR s (t + ((aD s t (uG s t 1)).length : Int)) = []
    ·exact vw hI0 h0 h1 h2
    ·exact vp hI0 h0 h1 h2
   ·by_cases h2 : wG s (t + ((aD s t (uG s t 1)).length : Int)) = 1
    ·by_cases h3 : DS s = []
     ·exact vk hI0 h0 h1 h2 h3
     ·exact wC hI0 h0 h1 h2 h3
    ·exact v7 hI0 h0 h1 h2
  ·refine lvOe_2 (h := Dw) rfl ?_ (aI) runOe_p17
   unfold Dw
   exact hc av <|hc dV <|hnil
 ·have hn0 := hN0
  by_cases h0 : t < (s.length : Int)
  ·exact vz hI0 h0
  ·exfalso; have hE : t = ((0 : Int) + (s.length : Int)) := (by omega); have h5 := cI (by omega); rw [hE] at h5; omega
 ·have hn0 := hN0
  by_cases h0 : t < (s.length : Int)
  ·exact vu hI0 h0
  ·exfalso; have hE : t = ((0 : Int) + (s.length : Int)) := (by omega); have h5 := cI (by omega); rw [hE] at h5; omega
 ·have hn0 := hN0
  by_cases h0 : t < (s.length : Int)
  ·exfalso; have h5 := wst (k := ((0 : Int) + (s.length : Int))) (cH (by omega)); omega
  ·exfalso; have h5 := wst (k := ((0 : Int) + (s.length : Int))) (cH (by omega)); omega
theorem lfOkOe_0 (s : LB) (x0 : wG s ((0 : Int) + (s.length : Int)) = 0) : bI (cx nu one 1 aH aQ) (EOe_0 s) cw b9 105 (.exit 0) 4 14 16 1004 jF kP [(6, .p 5 0), (9, .s 0 0), (10, .ni)] [(5, bk 42 [.und, .und, .und, .und, .und, .und, .und, .b false, .b false])] (cu s) (ko s) :=
 dW (gD s) (fun _ _ => rfl) (fun _ _ => rfl) (fun _ _ => rfl) (fun st X t ht => dT.trans (dS ((by decide : ∀ t, t ∈ b9 → t < 1000000) t ht))) rfl rfl rfl AZ rfl rfl (roundsOe_0 s x0)
def aU1 (s : LB) : List Value := [St' (List.drop (Int.toNat (JS s - (0 : Int))) s), .int .i64 ((nS s)), St' (RS s)]
def roEOe_1 (s : LB) : List Value := []
noncomputable def EOe_1 (s : LB) : Cx := cx (bG (aU1 s) (rX (roEOe_1 s) (fun _ => .bool true))) (bJ (aV (l := aU1 s) rfl)) 1 aH aQ
theorem roundsOe_1 (s : LB) (x0 : wG s ((0 : Int) + (s.length : Int)) = 1) (x1 : DS s = []) (st : Nat × Int × Int) (X : Nat → Value) (hI : cu s st) : c8 s (EOe_1 s) (.exit 0) [(6, .p 5 0), (9, .x 0), (10, .ni)] [(5, bk 42 [.und, .und, .und, .und, .x 1, .x 2, .aL, .b true, .b false])] st X := by
 obtain ⟨tag, t, i⟩ := st
 have hI0 := hI
 obtain ⟨i0, i1, i2, i3, i4, i5, i6, i7, i8, i9, cI, i11, i12, cM, cH, it⟩ := eC s tag t i hI
 rcases (show tag = 0 ∨ tag = 1 ∨ tag = 2 ∨ tag = 3 ∨ tag = 4 ∨ tag = 5 from by omega) with rfl | rfl | rfl | rfl | rfl | rfl
 ·have hn0 := hN0
  by_cases h0 : t < (s.length : Int)
  ·by_cases h1 : wG s (t + ((aD s t (uG s t 1)).length : Int)) = 0
   ·by_cases h2 : aR s (t + ((aD s t (uG s t 1)).length : Int)) = []
    ·exact wF hI0 h0 h1 h2
    ·exact vr hI0 h0 h1 h2
   ·by_cases h2 : wG s (t + ((aD s t (uG s t 1)).length : Int)) = 1
    ·by_cases h3 : DS s = []
     ·exact vo hI0 h0 h1 h2 h3
     ·exact vj hI0 h0 h1 h2 h3
    ·exact wB hI0 h0 h1 h2
  ·exfalso; have hE : t = ((0 : Int) + (s.length : Int)) := (by omega); have h5 := i5 (by omega); rw [hE] at h5; omega
 ·have hn0 := hN0
  by_cases h0 : t < (s.length : Int)
  ·by_cases h1 : wG s (t + ((aD s t (uG s t 1)).length : Int)) = 0
   ·by_cases h2 : aR s (t + ((aD s t (uG s t 1)).length : Int)) = []
    ·exact wE hI0 h0 h1 h2
    ·exact vq hI0 h0 h1 h2
   ·by_cases h2 : wG s (t + ((aD s t (uG s t 1)).length : Int)) = 1
    ·by_cases h3 : DS s = []
     ·exact vm hI0 h0 h1 h2 h3
     ·exact wD hI0 h0 h1 h2 h3
    ·exact v8 hI0 h0 h1 h2
  ·exfalso; have hE : t = ((0 : Int) + (s.length : Int)) := (by omega); have h5 := i5 (by omega); rw [hE] at h5; omega
 ·have hn0 := hN0
  by_cases h0 : t < (s.length : Int)
  ·by_cases h1 : wG s (t + ((aD s t (uG s t 1)).length : Int)) = 0
   ·by_cases h2 : aR s (t + ((aD s t (uG s t 1)).length : Int)) = []
    ·exact vw hI0 h0 h1 h2
    ·exact vp hI0 h0 h1 h2
   ·by_cases h2 : wG s (t + ((aD s t (uG s t 1)).length : Int)) = 1
    ·by_cases h3 : DS s = []
     ·exact vk hI0 h0 h1 h2 h3
     ·exact wC hI0 h0 h1 h2 h3
    ·exact v7 hI0 h0 h1 h2
  ·exfalso; have hE : t = ((0 : Int) + (s.length : Int)) := (by omega); have h5 := i5 (by omega); rw [hE] at h5; omega
 ·have hn0 := hN0
  by_cases h0 : t < (s.length : Int)
  ·exact vz hI0 h0
  ·refine lvOe_3 (h := Du) rfl ?_ (ah (v := St' (List.drop (Int.toNat (JS s)) (List.take t.toNat s))) (u := St' (List.drop (Int.toNat (JS s - (0 : Int))) s)) rfl rfl (congrArg (fun l => St' l) (yEG (by omega))) (aB (v := .int .i64 ((nS s))) (aB (v := St' (RS s)) (aI)))) runOe_p19
   unfold Du
   exact hc av <|hc dV <|hnil
 ·have hn0 := hN0
  by_cases h0 : t < (s.length : Int)
  ·exact vu hI0 h0
  ·exfalso; exact i12 (by omega) x1
 ·have hn0 := hN0
  by_cases h0 : t < (s.length : Int)
  ·exfalso; have h5 := wst (k := ((0 : Int) + (s.length : Int))) (cH (by omega)); omega
  ·exfalso; have h5 := wst (k := ((0 : Int) + (s.length : Int))) (cH (by omega)); omega
theorem lfOkOe_1 (s : LB) (x0 : wG s ((0 : Int) + (s.length : Int)) = 1) (x1 : DS s = []) : bI (cx nu one 1 aH aQ) (EOe_1 s) cw b9 105 (.exit 0) 4 14 16 1004 jF kP [(6, .p 5 0), (9, .x 0), (10, .ni)] [(5, bk 42 [.und, .und, .und, .und, .x 1, .x 2, .aL, .b true, .b false])] (cu s) (ko s) :=
 dW (gD s) (fun _ _ => rfl) (fun _ _ => rfl) (fun _ _ => rfl) (fun st X t ht => dT.trans (dS ((by decide : ∀ t, t ∈ b9 → t < 1000000) t ht))) rfl rfl rfl AZ rfl rfl (roundsOe_1 s x0 x1)
def aU0 (s : LB) : List Value := [St' (List.drop (Int.toNat (JS s - (0 : Int))) s), .int .i64 ((nS s)), St' (RS s)]
def roEOe_2 (s : LB) : List Value := [aN aO (DS s)]
noncomputable def EOe_2 (s : LB) : Cx := cx (bG (aU0 s) (rX (roEOe_2 s) (fun _ => .bool true))) (bJ (aV (l := aU0 s) rfl)) 1 aH aQ
theorem roundsOe_2 (s : LB) (x0 : wG s ((0 : Int) + (s.length : Int)) = 1) (x1 : ¬ DS s = []) (st : Nat × Int × Int) (X : Nat → Value) (hI : cu s st) : c8 s (EOe_2 s) (.exit 0) [(6, .p 5 0), (9, .x 0), (10, .ni)] [(5, bk 42 [.und, .und, .und, .und, .x 1, .x 2, .sr 15, .b true, .b false]), (15, .r 2000000 50 2 false)] st X := by
 obtain ⟨tag, t, i⟩ := st
 have hI0 := hI
 obtain ⟨i0, i1, i2, i3, i4, i5, i6, i7, i8, i9, cI, i11, i12, cM, cH, it⟩ := eC s tag t i hI
 rcases (show tag = 0 ∨ tag = 1 ∨ tag = 2 ∨ tag = 3 ∨ tag = 4 ∨ tag = 5 from by omega) with rfl | rfl | rfl | rfl | rfl | rfl
 ·have hn0 := hN0
  by_cases h0 : t < (s.length : Int)
  ·by_cases h1 : wG s (t + ((aD s t (uG s t 1)).length : Int)) = 0
   ·by_cases h2 : aR s (t + ((aD s t (uG s t 1)).length : Int)) = []
    ·exact wF hI0 h0 h1 h2
    ·exact vr hI0 h0 h1 h2
   ·by_cases h2 : wG s (t + ((aD s t (uG s t 1)).length : Int)) = 1
    ·by_cases h3 : DS s = []
     ·exact vo hI0 h0 h1 h2 h3
     ·exact vj hI0 h0 h1 h2 h3
    ·exact wB hI0 h0 h1 h2
  ·exfalso; have hE : t = ((0 : Int) + (s.length : Int)) := (by omega); have h5 := i5 (by omega); rw [hE] at h5; omega
 ·have hn0 := hN0
  by_cases h0 : t < (s.length : Int)
  ·by_cases h1 : wG s (t + ((aD s t (uG s t 1)).length : Int)) = 0
   ·by_cases h2 : aR s (t + ((aD s t (uG s t 1)).length : Int)) = []
    ·exact wE hI0 h0 h1 h2
    ·exact vq hI0 h0 h1 h2
   ·by_cases h2 : wG s (t + ((aD s t (uG s t 1)).length : Int)) = 1
    ·by_cases h3 : DS s = []
     ·exact vm hI0 h0 h1 h2 h3
     ·exact wD hI0 h0 h1 h2 h3
    ·exact v8 hI0 h0 h1 h2
  ·exfalso; have hE : t = ((0 : Int) + (s.length : Int)) := (by omega); have h5 := i5 (by omega); rw [hE] at h5; omega
 ·have hn0 := hN0
  by_cases h0 : t < (s.length : Int)
  ·by_cases h1 : wG s (t + ((aD s t (uG s t 1)).length : Int)) = 0
   ·by_cases h2 : aR s (t + ((aD s t (uG s t 1)).length : Int)) = []
    ·exact vw hI0 h0 h1 h2
    ·exact vp hI0 h0 h1 h2
   ·by_cases h2 : wG s (t + ((aD s t (uG s t 1)).length : Int)) = 1
    ·by_cases h3 : DS s = []
     ·exact vk hI0 h0 h1 h2 h3
     ·exact wC hI0 h0 h1 h2 h3
    ·exact v7 hI0 h0 h1 h2
  ·exfalso; have hE : t = ((0 : Int) + (s.length : Int)) := (by omega); have h5 := i5 (by omega); rw [hE] at h5; omega
 ·have hn0 := hN0
  by_cases h0 : t < (s.length : Int)
  ·exact vz hI0 h0
  ·exfalso; exact x1 (i11 (by omega))
 ·have hn0 := hN0
  by_cases h0 : t < (s.length : Int)
  ·exact vu hI0 h0
  ·refine lvOe_4 (h := Dr) rfl ?_ (ah (v := St' (List.drop (Int.toNat (JS s)) (List.take t.toNat s))) (u := St' (List.drop (Int.toNat (JS s - (0 : Int))) s)) rfl rfl (congrArg (fun l => St' l) (yEG (by omega))) (aB (v := .int .i64 ((nS s))) (aB (v := St' (RS s)) (aB (v := aN aO (DS s)) (aI))))) runOe_p21
   unfold Dr
   exact hc av <|hc dV <|hnil
 ·have hn0 := hN0
  by_cases h0 : t < (s.length : Int)
  ·exfalso; have h5 := wst (k := ((0 : Int) + (s.length : Int))) (cH (by omega)); omega
  ·exfalso; have h5 := wst (k := ((0 : Int) + (s.length : Int))) (cH (by omega)); omega
theorem lfOkOe_2 (s : LB) (x0 : wG s ((0 : Int) + (s.length : Int)) = 1) (x1 : ¬ DS s = []) : bI (cx nu one 1 aH aQ) (EOe_2 s) cw b9 105 (.exit 0) 4 14 16 1004 jF kP [(6, .p 5 0), (9, .x 0), (10, .ni)] [(5, bk 42 [.und, .und, .und, .und, .x 1, .x 2, .sr 15, .b true, .b false]), (15, .r 2000000 50 2 false)] (cu s) (ko s) :=
 dW (gD s) (fun _ _ => rfl) (fun _ _ => rfl) (fun _ _ => rfl) (fun st X t ht => dT.trans (dS ((by decide : ∀ t, t ∈ b9 → t < 1000000) t ht))) rfl rfl rfl AZ rfl rfl (roundsOe_2 s x0 x1)
def aT9 (s : LB) : List Value := [.int .i64 ((kS s)), St' (mS s)]
def roEOe_3 (s : LB) : List Value := []
noncomputable def EOe_3 (s : LB) : Cx := cx (bG (aT9 s) (rX (roEOe_3 s) (fun _ => .bool true))) (bJ (aV (l := aT9 s) rfl)) 1 aH aQ
theorem roundsOe_3 (s : LB) (x0 : wG s ((0 : Int) + (s.length : Int)) = 2) (st : Nat × Int × Int) (X : Nat → Value) (hI : cu s st) : c8 s (EOe_3 s) (.exit 0) [(10, .aZ 63 (.ag [.x 0, .x 1]))] [] st X := by
 obtain ⟨tag, t, i⟩ := st
 have hI0 := hI
 obtain ⟨i0, i1, i2, i3, i4, i5, i6, i7, i8, i9, cI, i11, i12, cM, cH, it⟩ := eC s tag t i hI
 rcases (show tag = 0 ∨ tag = 1 ∨ tag = 2 ∨ tag = 3 ∨ tag = 4 ∨ tag = 5 from by omega) with rfl | rfl | rfl | rfl | rfl | rfl
 ·have hn0 := hN0
  by_cases h0 : t < (s.length : Int)
  ·by_cases h1 : wG s (t + ((aD s t (uG s t 1)).length : Int)) = 0
   ·by_cases h2 : aR s (t + ((aD s t (uG s t 1)).length : Int)) = []
    ·exact wF hI0 h0 h1 h2
    ·exact vr hI0 h0 h1 h2
   ·by_cases h2 : wG s (t + ((aD s t (uG s t 1)).length : Int)) = 1
    ·by_cases h3 : DS s = []
     ·exact vo hI0 h0 h1 h2 h3
     ·exact vj hI0 h0 h1 h2 h3
    ·exact wB hI0 h0 h1 h2
  ·exfalso; have hE : t = ((0 : Int) + (s.length : Int)) := (by omega); have h5 := i5 (by omega); rw [hE] at h5; omega
 ·have hn0 := hN0
  by_cases h0 : t < (s.length : Int)
  ·by_cases h1 : wG s (t + ((aD s t (uG s t 1)).length : Int)) = 0
   ·by_cases h2 : aR s (t + ((aD s t (uG s t 1)).length : Int)) = []
    ·exact wE hI0 h0 h1 h2
    ·exact vq hI0 h0 h1 h2
   ·by_cases h2 : wG s (t + ((aD s t (uG s t 1)).length : Int)) = 1
    ·by_cases h3 : DS s = []
     ·exact vm hI0 h0 h1 h2 h3
     ·exact wD hI0 h0 h1 h2 h3
    ·exact v8 hI0 h0 h1 h2
  ·exfalso; have hE : t = ((0 : Int) + (s.length : Int)) := (by omega); have h5 := i5 (by omega); rw [hE] at h5; omega
 ·have hn0 := hN0
  by_cases h0 : t < (s.length : Int)
  ·by_cases h1 : wG s (t + ((aD s t (uG s t 1)).length : Int)) = 0
   ·by_cases h2 : aR s (t + ((aD s t (uG s t 1)).length : Int)) = []
    ·exact vw hI0 h0 h1 h2
    ·exact vp hI0 h0 h1 h2
   ·by_cases h2 : wG s (t + ((aD s t (uG s t 1)).length : Int)) = 1
    ·by_cases h3 : DS s = []
     ·exact vk hI0 h0 h1 h2 h3
     ·exact wC hI0 h0 h1 h2 h3
    ·exact v7 hI0 h0 h1 h2
  ·exfalso; have hE : t = ((0 : Int) + (s.length : Int)) := (by omega); have h5 := i5 (by omega); rw [hE] at h5; omega
 ·have hn0 := hN0
  by_cases h0 : t < (s.length : Int)
  ·exact vz hI0 h0
  ·exfalso; have hE : t = ((0 : Int) + (s.length : Int)) := (by omega); have h5 := cI (by omega); rw [hE] at h5; omega
 ·have hn0 := hN0
  by_cases h0 : t < (s.length : Int)
  ·exact vu hI0 h0
  ·exfalso; have hE : t = ((0 : Int) + (s.length : Int)) := (by omega); have h5 := cI (by omega); rw [hE] at h5; omega
 ·have hn0 := hN0
  by_cases h0 : t < (s.length : Int)
  ·refine lvOe_5 (h := Dq) rfl ?_ (aB (v := .int .i64 ((kS s))) (aB (v := St' (mS s)) (aI))) runOe_p22
   unfold Dq
   exact hc av <|hc bU <|hnil
  ·refine lvOe_5 (h := Dp) rfl ?_ (aB (v := .int .i64 ((kS s))) (aB (v := St' (mS s)) (aI))) runOe_p23
   unfold Dp
   exact hc av <|hc dV <|hnil
theorem lfOkOe_3 (s : LB) (x0 : wG s ((0 : Int) + (s.length : Int)) = 2) : bI (cx nu one 1 aH aQ) (EOe_3 s) cw b9 105 (.exit 0) 4 14 16 1004 jF kP [(10, .aZ 63 (.ag [.x 0, .x 1]))] [] (cu s) (ko s) :=
 dW (gD s) (fun _ _ => rfl) (fun _ _ => rfl) (fun _ _ => rfl) (fun st X t ht => dT.trans (dS ((by decide : ∀ t, t ∈ b9 → t < 1000000) t ht))) rfl rfl rfl AZ rfl rfl (roundsOe_3 s x0)
end Go.Proofs.YtcjanblpboaleaaDoor.cgiCuts

