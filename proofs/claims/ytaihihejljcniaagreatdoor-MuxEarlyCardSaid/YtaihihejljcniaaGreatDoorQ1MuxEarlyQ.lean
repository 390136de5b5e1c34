/- A part of the proof: an interpreter of the model's own code on partly known states, and that what it answers is what the program answers. No condition of its own. -/
import Derived.Test.YtaihihejljcniaaGreatDoorQ1MuxEarlyR0
import Derived.Test.YtaihihejljcniaaGreatDoorQ1MuxEarlyR1
import Derived.Test.YtaihihejljcniaaGreatDoorQ1MuxEarlyR2
import Derived.Test.YtaihihejljcniaaGreatDoorQ1MuxEarlyR3
import Derived.Test.YtaihihejljcniaaGreatDoorQ1MuxEarlyR4
import Derived.Test.YtaihihejljcniaaGreatDoorQ1MuxEarlyR5
import Derived.Test.YtaihihejljcniaaGreatDoorQ1MuxEarlyR6
import Derived.Test.YtaihihejljcniaaGreatDoorQ1MuxEarlyR7
set_option maxRecDepth 100000
set_option linter.unusedVariables false
set_option linter.unusedSimpArgs false
set_option maxHeartbeats 4000000
namespace Go.Proofs.YtaihihejljcniaaGreatDoor.muxEarly
open Go Go.AX Go.Proofs Go.Proofs.YtaihihejljcniaaGreatDoor
theorem eA1 {a b : Bool} (h : (a && b) = true) : a = true := (Bool.and_eq_true _ _ ▸ h).1
theorem eA2 {a b : Bool} (h : (a && b) = true) : b = true := (Bool.and_eq_true _ _ ▸ h).2
theorem tv3 : Tryz.prog.underlying 3 = some (.int .i64) := by kernel_rfl
theorem isAg4 {C : Cx} {a b c d : AV} {va vb vc vd : Value} (ha : Is C a va) (hb : Is C b vb) (hc : Is C c vc) (hd : Is C d vd) : Is C (.ag [a, b, c, d]) (.agg #[va, vb, vc, vd]) := fun ρ x hx => by
  simp only [Rel, RelL] at hx
  obtain ⟨vs, rfl, v0, t0, rfl, h0, v1, t1, rfl, h1, v2, t2, rfl, h2, v3, t3, rfl, h3, rfl⟩ := hx
  rw [ha ρ _ h0, hb ρ _ h1, hc ρ _ h2, hd ρ _ h3]
def tyK (kd : Nat) : Nat := List.getD [1, 4, 5, 5, 5] kd 2
def cnS (z5 zr : LB) (pd : Int) (kd : Nat) : LB := List.getD [[u8 0, u8 1, u8 1, u8 0, u8 0, u8 0, u8 0, u8 0], [], z5, zr, []] kd []
def pdS (pd : Int) (kd : Nat) : Int := List.getD [0, 0, 0, pd, 0] kd 0
def rcS (z5 zr : LB) (pd : Int) (kd : Nat) : LB := rbF (tyK kd : Int) 1 (cnS z5 zr pd kd) (pdS pd kd)
def sq (f : Nat → LB) : Nat → LB
  | 0 => []
  | j + 1 => sq f j ++ f j
theorem kd6 {kd : Nat} (h : kd ≤ 5) : kd = 0 ∨ kd = 1 ∨ kd = 2 ∨ kd = 3 ∨ kd = 4 ∨ kd = 5 := by omega
theorem kdF_le (m i : Nat) : kdF m i ≤ 5 := by
  unfold kdF
  cases Nat.beq i 0 <;> cases Nat.beq i 1 <;> cases Nat.beq i (Nat.add m 2) <;> cases Nat.beq i (Nat.add m 1) <;> decide
theorem cnS_len {z5 zr : LB} {pd : Int} (h5 : z5.length = 512) (hr : zr.length ≤ 512) (kd : Nat) (hk : kd ≤ 5) : (cnS z5 zr pd kd).length ≤ 512 := by
  rcases kd6 hk with rfl | rfl | rfl | rfl | rfl | rfl
  · show (8 : Nat) ≤ 512; omega
  · show (0 : Nat) ≤ 512; omega
  · show z5.length ≤ 512; omega
  · show zr.length ≤ 512; omega
  · show (0 : Nat) ≤ 512; omega
  · show (0 : Nat) ≤ 512; omega
theorem pdS_bd {pd : Int} (p0 : 0 ≤ pd) (p7 : pd ≤ 7) (kd : Nat) (hk : kd ≤ 5) : 0 ≤ pdS pd kd ∧ pdS pd kd ≤ 7 := by
  have z : (0 : Int) ≤ 0 ∧ (0 : Int) ≤ 7 := by omega
  rcases kd6 hk with rfl | rfl | rfl | rfl | rfl | rfl
  · exact z
  · exact z
  · exact z
  · exact ⟨p0, p7⟩
  · exact z
  · exact z
theorem tyK_bd (kd : Nat) (hk : kd ≤ 5) : 1 ≤ tyK kd ∧ tyK kd ≤ 11 := by
  rcases kd6 hk with rfl | rfl | rfl | rfl | rfl | rfl <;> decide
theorem rcS_len {z5 zr : LB} {pd : Int} (h5 : z5.length = 512) (hr : zr.length ≤ 512) (p0 : 0 ≤ pd) (p7 : pd ≤ 7) (kd : Nat) (hk : kd ≤ 5) : 8 ≤ (rcS z5 zr pd kd).length ∧ (rcS z5 zr pd kd).length ≤ 528 := by
  have h1 := cnS_len (pd := pd) h5 hr kd hk; have h2 := pdS_bd p0 p7 kd hk
  have h3 := rbF_len (ty := (tyK kd : Int)) (id := 1) (c := cnS z5 zr pd kd) h2.1
  show 8 ≤ (rbF _ _ _ _).length ∧ (rbF _ _ _ _).length ≤ 528
  omega
theorem rb_bt0 {ty id pd : Int} {c : LB} : bt (rbF ty id c pd) 0 = 1 := bt_at rfl (by omega) (by omega)
def nuD (T R : LB) (n : Int) (z5 zr : LB) (pd : Int) (rc y : LB) : List Value := [St' T, .int .i64 n, St' R, St' z5, St' zr, .int .i64 pd, .bool true, St' rc, .int .i64 (y.length : Int), St' (T ++ y.take (min n (y.length : Int)).toNat), St' (List.drop (Int.toNat (min n (y.length : Int))) y), .int .i64 (n - min n (y.length : Int)), .int .i64 (min n (y.length : Int)), St' (y.take (min n (y.length : Int)).toNat), .int .u8 (bt (y.take (min n (y.length : Int)).toNat) 0)]
noncomputable abbrev DD (T R : LB) (n : Int) (z5 zr : LB) (pd : Int) (rc y : LB) : Cx := cx (nuL (nuD T R n z5 zr pd rc y)) (fun j _ => nuL_one (l := nuD T R n z5 zr pd rc y) rfl j) 1 laidE laidE_stab
theorem recIs {T R : LB} {n : Int} {z5 zr : LB} {pd : Int} {rc y : LB} (kd : Nat) (hk : kd ≤ 5) : Is (DD T R n z5 zr pd rc y) (.ag (recA (.x 3) (.x 4) (.x 5) kd)) (.agg #[.int .i64 (tyK kd : Int), .int .i64 1, St' (cnS z5 zr pd kd), .int .i64 (pdS pd kd)]) := by
  rcases kd6 hk with rfl | rfl | rfl | rfl | rfl | rfl
  · exact isAg4 (isI .i64 (.ofNat 1)) (isI .i64 (.ofNat 1)) (isSx (l := [u8 0, u8 1, u8 1, u8 0, u8 0, u8 0, u8 0, u8 0]) 8 65792 rfl) (isI .i64 (.ofNat 0))
  · exact isAg4 (isI .i64 (.ofNat 4)) (isI .i64 (.ofNat 1)) (isSx (l := []) 0 0 rfl) (isI .i64 (.ofNat 0))
  · exact isAg4 (isI .i64 (.ofNat 5)) (isI .i64 (.ofNat 1)) (isX rfl) (isI .i64 (.ofNat 0))
  · exact isAg4 (isI .i64 (.ofNat 5)) (isI .i64 (.ofNat 1)) (isX rfl) (isX rfl)
  · exact isAg4 (isI .i64 (.ofNat 5)) (isI .i64 (.ofNat 1)) (isSx (l := []) 0 0 rfl) (isI .i64 (.ofNat 0))
  · exact isAg4 (isI .i64 (.ofNat 2)) (isI .i64 (.ofNat 1)) (isSx (l := []) 0 0 rfl) (isI .i64 (.ofNat 0))
theorem tk_len {y : LB} {q : Int} (h0 : 0 ≤ q) (h1 : q ≤ (y.length : Int)) : ((y.take q.toNat).length : Int) = q := by rw [List.length_take]; omega
theorem tail_ok {T R : LB} {n : Int} {z5 zr : LB} {pd : Int} {rc y : LB} {ya : AV} {l : LK} (hy : Is (DD T R n z5 zr pd rc y) ya (St' y)) (n1 : 1 ≤ n) (n2 : n ≤ 1000000) (y1 : 1 ≤ y.length) (y2 : y.length ≤ 600) (hT : T.length ≤ 100000) : ∀ k r, (k, r) ∈ ([(.mm false (.x 1) (.x 8), .x 12), (.sub ya none (some (.x 12)), .x 13), (.len (.x 13), .x 12), (.bin .add (.x 0) (.x 13), .x 9), (.fit (.x 9), .b true), (.fit (.x 13), .b true), (.byt (.x 13) (.i .i64 (.ofNat 0)), .x 14), (.sub ya (some (.x 12)) none, .x 10), (.bin .sub (.x 1) (.x 12), .x 11)] : LK) → HOk (DD T R n z5 zr pd rc y) k r := by
  have hq0 : 0 ≤ min n (y.length : Int) := by omega
  have hq1 : min n (y.length : Int) ≤ (y.length : Int) := by omega
  have hl := tk_len hq0 hq1
  exact hc (kMin (isX rfl) (isX rfl) (denX rfl) rfl) <| hc (kTake hy (isX rfl) hq0 hq1 (denX rfl)) <| hc (kLenE (isX rfl) (denX rfl) hl) <| hc (kCat (isX rfl) (isX rfl) (denX rfl) rfl (by omega)) <| hc (kFit (isX rfl) (by rw [List.length_append]; omega)) <| hc (kFit (isX rfl) (by omega)) <| hc (kByt (i := 0) (isX rfl) (isZ (m := 0) rfl) (denX rfl) rfl (by omega) rfl) <|
    hc (kMid (P := min n (y.length : Int)) (Q := (y.length : Int)) hy (.inr ⟨_, _, rfl, isX rfl⟩) (.inl ⟨rfl, rfl⟩) hq0 hq1 (Int.le_refl _) (denX (congrArg (fun l => St' l) dropE))) <| hc (kSub (isX rfl) (isX rfl) (denX rfl) rfl (fI64 (by omega) (by omega))) hnil
theorem hyA_ok {T : LB} {n : Int} {z5 zr : LB} {pd : Int} (h5 : z5.length = 512) (hr : zr.length ≤ 512) (p0 : 0 ≤ pd) (p7 : pd ≤ 7) (kd : Nat) (hk : kd ≤ 5) (n1 : 1 ≤ n) (n2 : n ≤ 1000000) (hT : T.length ≤ 100000) : ∀ k r, (k, r) ∈ hyA kd → HOk (DD T [] n z5 zr pd (rcS z5 zr pd kd) (rcS z5 zr pd kd)) k r := by
  have hl := rcS_len h5 hr p0 p7 kd hk
  have hcl := cnS_len (pd := pd) h5 hr kd hk
  have hp := pdS_bd p0 p7 kd hk
  have ht := tyK_bd kd hk
  unfold hyA
  exact hc (kGt (isX rfl) (isZ (m := 0) rfl) (decide_eq_true (by omega))) <| hc (kNeS (isX rfl) (isSx (l := []) 0 0 rfl) (bnF (decide_eq_true rfl))) <| hc (kEqS (isX rfl) (isSx (l := []) 0 0 rfl) (decide_eq_true rfl)) <| hc (hokRb (recIs kd hk) (denX rfl) (by omega) (by omega) (by omega) (by omega) (by omega) (by omega) (by omega)) <| hc (kLenE (isX rfl) (denX rfl) rfl) <| tail_ok (l := []) (isX rfl) n1 n2 (by omega) (by omega) hT
theorem hyR_ok {T R : LB} {n : Int} {z5 zr : LB} {pd : Int} {rc : LB} (n1 : 1 ≤ n) (n2 : n ≤ 1000000) (r1 : 1 ≤ R.length) (r2 : R.length ≤ 600) (hT : T.length ≤ 100000) : ∀ k r, (k, r) ∈ hyR → HOk (DD T R n z5 zr pd rc R) k r := by
  unfold hyR
  exact hc (kGt (isX rfl) (isZ (m := 0) rfl) (decide_eq_true (by omega))) <| hc (kNeS (isX rfl) (isSx (l := []) 0 0 rfl) (bnT (nilF (by omega)))) <| hc (kEqS (isX rfl) (isSx (l := []) 0 0 rfl) (nilF (by omega))) <| hc (kLenE (isX rfl) (denX rfl) rfl) <| tail_ok (l := []) (isX rfl) n1 n2 (by omega) (by omega) hT
theorem hyX_ok {T R : LB} {n : Int} {z5 zr : LB} {pd : Int} {rc y : LB} {b : Bool} (h : b = false → n ≤ 0) (h2 : b = true → 1 ≤ n ∧ R = []) : ∀ k r, (k, r) ∈ hyX b → HOk (DD T R n z5 zr pd rc y) k r := by
  unfold hyX
  cases b with
  | true =>
    obtain ⟨g1, rfl⟩ := h2 rfl
    exact hc (kGt (isX rfl) (isZ (m := 0) rfl) (decide_eq_true (by omega))) <| hc (kNeS (isX rfl) (isSx (l := []) 0 0 rfl) (bnF (decide_eq_true rfl))) hnil
  | false => have := h rfl; exact hc (kGt (isX rfl) (isZ (m := 0) rfl) (decide_eq_false (by omega))) hnil
theorem sq_mono {f : Nat → LB} : ∀ {i j : Nat}, i ≤ j → (sq f i).length ≤ (sq f j).length
  | i, 0, h => by rw [show i = 0 by omega]; exact Nat.le_refl _
  | i, j + 1, h => by
    rcases Nat.lt_or_ge i (j + 1) with h1 | h1
    · have := sq_mono (f := f) (show i ≤ j by omega)
      rw [show sq f (j + 1) = sq f j ++ f j from rfl, List.length_append]; omega
    · rw [show i = j + 1 by omega]; exact Nat.le_refl _
theorem sq_len {f : Nat → LB} (h : ∀ j, (f j).length ≤ 528) : ∀ j, (sq f j).length ≤ 528 * j
  | 0 => Nat.le_refl _
  | j + 1 => by have := h j; have := sq_len h j; rw [show sq f (j + 1) = sq f j ++ f j from rfl, List.length_append]; omega
def InvD (f : Nat → LB) (R0 : LB) (N : Int) (K : Nat) (st : Nat × Nat × LB × LB × Int) : Prop := st.1 ≤ K ∧ st.2.1 ≤ 1 ∧ (st.2.1 = 0 → st.1 = 0 ∧ st.2.2.1 = []) ∧ 0 ≤ st.2.2.2.2 ∧ st.2.2.1 ++ st.2.2.2.1 = R0 ++ sq f st.1 ∧ (st.2.2.1.length : Int) + st.2.2.2.2 = N ∧ (st.2.2.2.1 ≠ [] → st.2.2.2.2 = 0 ∨ st.2.1 = 0) ∧ (1 ≤ st.1 → (R0.length : Int) + (sq f (st.1 - 1)).length < N) ∧ (st.2.1 = 1 → st.1 = 0 → R0 ≠ [])
noncomputable def DS (kf : Nat → Nat) (z5 zr : LB) (pd : Int) (st : Nat × Nat × LB × LB × Int) (X : Nat → Value) : Cx := cond (st.2.2.2.1.isEmpty) (DD st.2.2.1 [] st.2.2.2.2 z5 zr pd (rcS z5 zr pd (kf st.1)) (rcS z5 zr pd (kf st.1))) (DD st.2.2.1 st.2.2.2.1 st.2.2.2.2 z5 zr pd (rcS z5 zr pd (kf st.1)) st.2.2.2.1)
theorem DS_nil {kf : Nat → Nat} {z5 zr : LB} {pd : Int} {j w : Nat} {T : LB} {n : Int} {X : Nat → Value} : DS kf z5 zr pd (j, w, T, [], n) X = DD T [] n z5 zr pd (rcS z5 zr pd (kf j)) (rcS z5 zr pd (kf j)) := rfl
theorem DS_ne {kf : Nat → Nat} {z5 zr : LB} {pd : Int} {j w : Nat} {T R : LB} {n : Int} {X : Nat → Value} (h : R ≠ []) : DS kf z5 zr pd (j, w, T, R, n) X = DD T R n z5 zr pd (rcS z5 zr pd (kf j)) R := by
  cases R with
  | nil => exact absurd rfl h
  | cons a l => rfl
theorem DS_ex (kf : Nat → Nat) (z5 zr : LB) (pd : Int) (j w : Nat) (T R : LB) (n : Int) (X : Nat → Value) : ∃ y, DS kf z5 zr pd (j, w, T, R, n) X = DD T R n z5 zr pd (rcS z5 zr pd (kf j)) y := by
  cases R with
  | nil => exact ⟨_, rfl⟩
  | cons a l => exact ⟨_, rfl⟩
noncomputable def ED (T R : LB) (z5 zr : LB) (pd : Int) : Cx := cx (nuL [St' T, .bool true, St' R, St' z5, St' zr, .int .i64 pd]) (fun j _ => nuL_one (l := [St' T, .bool true, St' R, St' z5, St' zr, .int .i64 pd]) rfl j) 1 laidE laidE_stab
theorem thA_ok {T R T2 R2 : LB} {n n2 : Int} {z5 zr : LB} {pd : Int} {rc rc2 y y2 : LB} {w : Nat} (hT : T2 = T ++ y.take (min n (y.length : Int)).toNat) (hw : w = 0 → T = []) (hR : R2 = List.drop (Int.toNat (min n (y.length : Int))) y) (hn : n2 = n - min n (y.length : Int)) : ThOk (DD T R n z5 zr pd rc y) (DD T2 R2 n2 z5 zr pd rc2 y2) (thA w) := by
  subst hT; subst hR; subst hn
  unfold thA
  cases hb : Nat.beq w 0 with
  | true =>
    have e := hw (Nat.eq_of_beq_eq_true hb)
    subst e
    exact thXe (v := St' (y.take (min n (y.length : Int)).toNat)) (u := St' ([] ++ y.take (min n (y.length : Int)).toNat)) rfl rfl (congrArg (fun l => St' l) (List.nil_append _).symm) <| thXv (v := .int .i64 (n - min n (y.length : Int))) rfl rfl <| thXv (v := St' (List.drop (Int.toNat (min n (y.length : Int))) y)) rfl rfl <| thXv (v := St' z5) rfl rfl <| thXv (v := St' zr) rfl rfl <| thXv (v := .int .i64 pd) rfl rfl thNil
  | false => exact thXv (v := St' (T ++ y.take (min n (y.length : Int)).toNat)) rfl rfl <| thXv (v := .int .i64 (n - min n (y.length : Int))) rfl rfl <| thXv (v := St' (List.drop (Int.toNat (min n (y.length : Int))) y)) rfl rfl <| thXv (v := St' z5) rfl rfl <| thXv (v := St' zr) rfl rfl <| thXv (v := .int .i64 pd) rfl rfl thNil
theorem thX_ok {T R : LB} {n : Int} {z5 zr : LB} {pd : Int} {rc y : LB} : ThOk (DD T R n z5 zr pd rc y) (ED T R z5 zr pd) thDX := thXv (v := St' T) rfl rfl <| thXv (v := St' R) rfl rfl <| thXv (v := St' z5) rfl rfl <| thXv (v := St' zr) rfl rfl <| thXv (v := .int .i64 pd) rfl rfl thNil
structure JOk (f : Nat → LB) (R0 : LB) (N : Int) (K J : Nat) : Prop where
  le : J ≤ K
  lo : 1 ≤ J → (R0.length : Int) + (sq f (J - 1)).length < N
  hi : N ≤ (R0.length : Int) + (sq f J).length ∨ J = K
def tkD (f : Nat → LB) (R0 : LB) (N : Int) (J : Nat) : LB := (R0 ++ sq f J).take N.toNat
def dpD (f : Nat → LB) (R0 : LB) (N : Int) (J : Nat) : LB := (R0 ++ sq f J).drop N.toNat
theorem rdD (z5 zr : LB) (pd : Int) (h5 : z5.length = 512) (hr : zr.length ≤ 512) (p0 : 0 ≤ pd) (p7 : pd ≤ 7) (mu n0 : Nat) (hp : Nat → Nat → LE) (kf : Nat → Nat) (hkf : ∀ j, kf j ≤ 5) (K : Nat) (K1 : 1 ≤ K) (K9 : K ≤ 9) (R0 : LB) (hR0 : R0.length ≤ 600) (N : Int) (N1 : 1 ≤ N) (N2 : N ≤ 1000000) (J : Nat) (hJ : JOk (fun j => rcS z5 zr pd (kf j)) R0 N K J)
    (A0 : rnA mu n0 hp kf 0 0 = true) (A1 : ∀ j, j < K → (1 ≤ j ∨ R0 ≠ []) → rnA mu n0 hp kf j 1 = true) (RR : R0 ≠ [] → rnR mu n0 hp = true) (X1 : ∀ j, j ≤ K → (1 ≤ j ∨ R0 ≠ []) → rnX mu n0 false (hp j 1) = true) (X2 : rnX mu n0 true (hp K 1) = true) (st : Nat × Nat × LB × LB × Int) (X : Nat → Value) (hI : InvD (fun j => rcS z5 zr pd (kf j)) R0 N K st) :
    RoundH (ED (tkD (fun j => rcS z5 zr pd (kf j)) R0 N J) (dpD (fun j => rcS z5 zr pd (kf j)) R0 N J) z5 zr pd) bodyD [] 47 (.exit 0) 2 n0 (n0 + 10) (n0 + 190) (fun _ => epD mu n0) (fun st => hp st.1 st.2.1) (epDX n0) (hp J 1) (InvD (fun j => rcS z5 zr pd (kf j)) R0 N K) (fun st => 2 * (K - st.1) + (1 - st.2.1)) (DS kf z5 zr pd) st X := by
  obtain ⟨j, w, T, R, n⟩ := st
  obtain ⟨i1, i2, i3, i4, i5, i6, i7, i8, i9⟩ := hI
  simp only [] at i1 i2 i3 i4 i5 i6 i7 i8 i9
  have hlf : ∀ j, (rcS z5 zr pd (kf j)).length ≤ 528 := fun j => (rcS_len h5 hr p0 p7 (kf j) (hkf j)).2
  have hsl := sq_len (f := fun j => rcS z5 zr pd (kf j)) hlf
  have hlen := congrArg List.length i5
  rw [List.length_append, List.length_append] at hlen
  have hsj := hsl j
  have hw1 : w = 0 ∨ w = 1 := by omega
  have leave : w = 1 → (b : Bool) → (b = false → n ≤ 0) → (b = true → 1 ≤ n ∧ R = []) → j = J → rnX mu n0 b (hp j 1) = true → RoundH (ED (tkD (fun j => rcS z5 zr pd (kf j)) R0 N J) (dpD (fun j => rcS z5 zr pd (kf j)) R0 N J) z5 zr pd) bodyD [] 47 (.exit 0) 2 n0 (n0 + 10) (n0 + 190) (fun _ => epD mu n0) (fun st => hp st.1 st.2.1) (epDX n0) (hp J 1) (InvD (fun j => rcS z5 zr pd (kf j)) R0 N K) (fun st => 2 * (K - st.1) + (1 - st.2.1)) (DS kf z5 zr pd) (j, w, T, R, n) X := fun hw b g1 g2 gj gr => by
    subst hw; subst gj
    have eT : tkD (fun j => rcS z5 zr pd (kf j)) R0 N j = T ∧ dpD (fun j => rcS z5 zr pd (kf j)) R0 N j = R := by
      unfold tkD dpD
      rw [← i5]
      cases b with
      | false =>
        have := g1 rfl
        rw [show N.toNat = T.length by omega]
        exact ⟨List.take_left, List.drop_left⟩
      | true =>
        obtain ⟨g3, rfl⟩ := g2 rfl
        rw [List.append_nil]
        exact ⟨List.take_of_length_le (by omega), List.drop_eq_nil_of_le (by omega)⟩
    rw [eT.1, eT.2]
    obtain ⟨y, ey⟩ := DS_ex kf z5 zr pd j 1 T R n X
    have HT : AllOk (DS kf z5 zr pd (j, 1, T, R, n) X) (tbl (hyX b)) := by
      rw [ey]; exact (tabkOk _ _).hyps (hyX_ok g1 g2)
    exact RoundH.leave (tb := tbl (hyX b)) (L := []) (f := 3000) (th := thDX) (sg := []) HT (LpOk.nil _) rfl rfl (by rw [ey]; exact thX_ok) gr
  rcases Int.lt_or_le 0 n with hn | hn
  · by_cases hR : R = []
    · subst hR
      rw [List.append_nil] at i5
      by_cases hj : j < K
      · have hl := rcS_len h5 hr p0 p7 (kf j) (hkf j)
        have HT : AllOk (DS kf z5 zr pd (j, w, T, [], n) X) (tbl (hyA (kf j))) := by
          rw [DS_nil]; exact (tabkOk _ _).hyps (hyA_ok h5 hr p0 p7 (kf j) (hkf j) (by omega) (by omega) (by omega))
        have hq := tk_len (y := rcS z5 zr pd (kf j)) (q := min n ((rcS z5 zr pd (kf j)).length : Int)) (by omega) (by omega)
        have hrn : rnA mu n0 hp kf j w = true := by
          rcases hw1 with rfl | rfl
          · obtain ⟨rfl, -⟩ := i3 rfl; exact A0
          · exact A1 j hj (by rcases Nat.eq_zero_or_pos j with h | h; exact .inr (i9 rfl h); exact .inl h)
        obtain ⟨y2, ey2⟩ := DS_ex kf z5 zr pd (j + 1) 1 (T ++ (rcS z5 zr pd (kf j)).take (min n ((rcS z5 zr pd (kf j)).length : Int)).toNat) (List.drop (Int.toNat (min n ((rcS z5 zr pd (kf j)).length : Int))) (rcS z5 zr pd (kf j))) (n - min n ((rcS z5 zr pd (kf j)).length : Int)) X
        refine RoundH.next (tb := tbl (hyA (kf j))) (L := []) (f := 3000) (th := thA w) (sg := [(n0 + 1, n0 + 19)]) (j + 1, 1, T ++ (rcS z5 zr pd (kf j)).take (min n ((rcS z5 zr pd (kf j)).length : Int)).toNat, List.drop (Int.toNat (min n ((rcS z5 zr pd (kf j)).length : Int))) (rcS z5 zr pd (kf j)), n - min n ((rcS z5 zr pd (kf j)).length : Int)) HT (LpOk.nil _) rfl ?_ (by show 2 * (K - (j + 1)) + (1 - 1) < 2 * (K - j) + (1 - w); omega) ?_ hrn
        · refine ⟨by show j + 1 ≤ K; omega, Nat.le_refl _, fun h => (by cases h), by show 0 ≤ n - _; omega, ?_, ?_, fun h => .inl ?_, fun _ => ?_, fun _ h => by cases h⟩
          · show (T ++ _) ++ _ = R0 ++ (sq _ j ++ _)
            rw [List.append_assoc, List.take_append_drop, i5, List.append_assoc]
          · show ((T ++ _ : LB).length : Int) + (n - _) = N
            rw [List.length_append]; omega
          · show n - _ = 0
            rcases Int.lt_or_le n ((rcS z5 zr pd (kf j)).length : Int) with g | g
            · omega
            · exact absurd (List.drop_eq_nil_of_le (by omega)) h
          · show (R0.length : Int) + (sq _ (j + 1 - 1)).length < N
            rw [Nat.add_sub_cancel]
            simp only [List.length_nil] at hlen
            omega
        · show ThOk (DS kf z5 zr pd (j, w, T, [], n) X) (DS kf z5 zr pd (j + 1, 1, T ++ (rcS z5 zr pd (kf j)).take (min n ((rcS z5 zr pd (kf j)).length : Int)).toNat, List.drop (Int.toNat (min n ((rcS z5 zr pd (kf j)).length : Int))) (rcS z5 zr pd (kf j)), n - min n ((rcS z5 zr pd (kf j)).length : Int)) X) (thA w)
          rw [DS_nil, ey2]
          exact thA_ok rfl (fun h => (i3 h).2) rfl rfl
      · have ej : j = K := by omega
        subst ej
        have hw : w = 1 := by
          rcases hw1 with h | h
          · have := (i3 h).1; omega
          · exact h
        have hJJ : j = J := by
          rcases hJ.hi with h | h
          · have := sq_mono (f := fun j => rcS z5 zr pd (kf j)) hJ.le
            simp only [List.length_nil] at hlen
            omega
          · exact h.symm
        exact leave hw true (fun h => by cases h) (fun _ => ⟨by omega, rfl⟩) hJJ X2
    · rcases i7 hR with h | h
      · omega
      · subst h
        obtain ⟨rfl, rfl⟩ := i3 rfl
        have eR : R = R0 := by rw [List.nil_append] at i5; rw [i5]; exact List.append_nil _
        subst eR
        have hRl : 1 ≤ R.length := by
          rcases Nat.eq_zero_or_pos R.length with h | h
          · exact absurd (List.eq_nil_of_length_eq_zero h) hR
          · exact h
        have hq := tk_len (y := R) (q := min n (R.length : Int)) (by omega) (by omega)
        have HT : AllOk (DS kf z5 zr pd (0, 0, [], R, n) X) (tbl hyR) := by
          rw [DS_ne hR]; exact (tabkOk _ _).hyps (hyR_ok (by omega) (by omega) hRl hR0 (by simp only [List.length_nil]; omega))
        obtain ⟨y2, ey2⟩ := DS_ex kf z5 zr pd 0 1 ([] ++ R.take (min n (R.length : Int)).toNat) (List.drop (Int.toNat (min n (R.length : Int))) R) (n - min n (R.length : Int)) X
        refine RoundH.next (tb := tbl hyR) (L := []) (f := 3000) (th := thA 0) (sg := [(n0 + 1, n0 + 10)]) (0, 1, [] ++ R.take (min n (R.length : Int)).toNat, List.drop (Int.toNat (min n (R.length : Int))) R, n - min n (R.length : Int)) HT (LpOk.nil _) rfl ?_ (by show 2 * (K - 0) + (1 - 1) < 2 * (K - 0) + (1 - 0); omega) ?_ (RR hR)
        · refine ⟨Nat.zero_le _, Nat.le_refl _, fun h => (by cases h), by show 0 ≤ n - _; omega, ?_, ?_, fun h => .inl ?_, fun h => by have h : 1 ≤ 0 := h; omega, fun _ _ => hR⟩
          · show ([] ++ _) ++ _ = R ++ []
            rw [List.nil_append, List.append_nil]; exact List.take_append_drop _ _
          · show (([] ++ _ : LB).length : Int) + (n - _) = N
            rw [List.nil_append]; simp only [List.length_nil] at i6; omega
          · show n - _ = 0
            rcases Int.lt_or_le n (R.length : Int) with g | g
            · omega
            · exact absurd (List.drop_eq_nil_of_le (by omega)) h
        · show ThOk (DS kf z5 zr pd (0, 0, [], R, n) X) (DS kf z5 zr pd (0, 1, [] ++ R.take (min n (R.length : Int)).toNat, List.drop (Int.toNat (min n (R.length : Int))) R, n - min n (R.length : Int)) X) (thA 0)
          rw [DS_ne hR, ey2]
          exact thA_ok rfl (fun _ => rfl) rfl rfl
  · have hw : w = 1 := by
      rcases hw1 with h | h
      · obtain ⟨-, rfl⟩ := i3 h; simp only [List.length_nil] at i6; omega
      · exact h
    have hJJ : j = J := by
      rcases Nat.lt_trichotomy j J with h | h | h
      · have h1 := hJ.lo (by omega)
        have h2 := sq_mono (f := fun j => rcS z5 zr pd (kf j)) (show j ≤ J - 1 by omega)
        omega
      · exact h
      · have h1 := i8 (by omega)
        have h2 := sq_mono (f := fun j => rcS z5 zr pd (kf j)) (show J ≤ j - 1 by omega)
        rcases hJ.hi with h3 | h3
        · omega
        · omega
    exact leave hw false (fun _ => hn) (fun h => by cases h) hJJ (X1 j i1 (by rcases Nat.eq_zero_or_pos j with h | h; exact .inr (i9 hw h); exact .inl h))
theorem th0_ok {nu : Nat → Value} {one : ∀ i, i < 1000000 → (nu i).oneCell' = true} {z5 zr : LB} {pd : Int} {kf : Nat → Nat} {R0 : LB} {N : Int} {X : Nat → Value} {n r a b c : AV} (hn : Is (cx nu one 1 laidE laidE_stab) n (.int .i64 N)) (hr : Is (cx nu one 1 laidE laidE_stab) r (St' R0)) (ha : Is (cx nu one 1 laidE laidE_stab) a (St' z5)) (hb : Is (cx nu one 1 laidE laidE_stab) b (St' zr)) (hc' : Is (cx nu one 1 laidE laidE_stab) c (.int .i64 pd)) : ThOk (cx nu one 1 laidE laidE_stab) (DS kf z5 zr pd (0, 0, [], R0, N) X) [(1, n), (2, r), (3, a), (4, b), (5, c)] := by
  obtain ⟨y, ey⟩ := DS_ex kf z5 zr pd 0 0 [] R0 N X
  rw [ey]
  exact thCons (show Is _ n (.int .i64 N) from hn) <| thCons (show Is _ r (St' R0) from hr) <| thCons (show Is _ a (St' z5) from ha) <| thCons (show Is _ b (St' zr) from hb) <| thCons (show Is _ c (.int .i64 pd) from hc') thNil
theorem thx2 {nu : Nat → Value} {one : ∀ i, i < 1000000 → (nu i).oneCell' = true} {z5 zr : LB} {pd : Int} {T R : LB} {a b : Nat} (ha : nu a = St' T) (hb : nu b = St' R) : ThOk (ED T R z5 zr pd) (cx nu one 1 laidE laidE_stab) [(a, .x 0), (b, .x 2)] := thXv (v := St' T) rfl ha <| thXv (v := St' R) rfl hb thNil
theorem thx4 {nu : Nat → Value} {one : ∀ i, i < 1000000 → (nu i).oneCell' = true} {z5 zr : LB} {pd : Int} {T R : LB} {a b d e : Nat} (ha : nu a = St' T) (hb : nu b = St' R) (hd : nu d = St' zr) (he : nu e = .int .i64 pd) : ThOk (ED T R z5 zr pd) (cx nu one 1 laidE laidE_stab) [(a, .x 0), (b, .x 2), (d, .x 4), (e, .x 5)] := thXv (v := St' T) rfl ha <| thXv (v := St' R) rfl hb <| thXv (v := St' zr) rfl hd <| thXv (v := .int .i64 pd) rfl he thNil
theorem thx5 {nu : Nat → Value} {one : ∀ i, i < 1000000 → (nu i).oneCell' = true} {z5 zr : LB} {pd : Int} {T R : LB} {a b c d e : Nat} (ha : nu a = St' T) (hb : nu b = St' R) (hc' : nu c = St' z5) (hd : nu d = St' zr) (he : nu e = .int .i64 pd) : ThOk (ED T R z5 zr pd) (cx nu one 1 laidE laidE_stab) [(a, .x 0), (b, .x 2), (c, .x 3), (d, .x 4), (e, .x 5)] := thXv (v := St' T) rfl ha <| thXv (v := St' R) rfl hb <| thXv (v := St' z5) rfl hc' <| thXv (v := St' zr) rfl hd <| thXv (v := .int .i64 pd) rfl he thNil
def cat (z5 zr : LB) (pd : Int) (ks : List Nat) : LB := ks.flatMap (rcS z5 zr pd)
def nuC (s c : LB) (p : Int) (W : LB) (z5 zr : LB) (pd : Int) : List Value := [St' s, .int .i64 (s.length : Int), .int .u8 ((c.length : Int) / 256), .int .i64 ((c.length : Int) / 256), .int .i64 (((c.length : Int) / 256) * 256), .int .u8 ((c.length : Int) % 256), .int .i64 ((c.length : Int) % 256), .int .i64 (c.length : Int), .int .u8 p, .bool true, .int .i64 (8 + (c.length : Int)), .int .i64 (8 + (c.length : Int) + p), .bool true, St' W, .bool true, .bool true, .bool true, .bool true, .bool true, .bool true, St' z5, St' zr, .int .i64 pd]
noncomputable abbrev DC (s c : LB) (p : Int) (W : LB) (z5 zr : LB) (pd : Int) : Cx := cx (nuL (nuC s c p W z5 zr pd)) (fun j _ => nuL_one (l := nuC s c p W z5 zr pd) rfl j) 1 laidE laidE_stab
theorem hok_app {C : Cx} {A B : LK} (ha : ∀ k r, (k, r) ∈ A → HOk C k r) (hb : ∀ k r, (k, r) ∈ B → HOk C k r) : ∀ k r, (k, r) ∈ A ++ B → HOk C k r := fun k r h => by
  rcases List.mem_append.1 h with h | h
  · exact ha k r h
  · exact hb k r h
theorem hyC_gen {ty : Nat} {c W : LB} {p : Int} {z5 zr : LB} {pd : Int} {pb ca : AV} {p6 : LK} (t1 : 1 ≤ ty) (t2 : ty ≤ 11) (hcl : c.length ≤ 512) (p0 : 0 ≤ p) (p7 : p ≤ 7) (hW : W.length ≤ 100000)
    (h6 : bt (rbF (ty : Int) 1 c p ++ W) 6 = p → 8 ≤ (rbF (ty : Int) 1 c p ++ W).length → ∀ k r, (k, r) ∈ p6 → HOk (DC (rbF (ty : Int) 1 c p ++ W) c p W z5 zr pd) k r) (hpb : Is (DC (rbF (ty : Int) 1 c p ++ W) c p W z5 zr pd) pb (.int .i64 p)) (hca : Den (DC (rbF (ty : Int) 1 c p ++ W) c p W z5 zr pd) ca (St' c)) : ∀ k r, (k, r) ∈ hyCA ++ (p6 ++ hyCB pb ca ty) → HOk (DC (rbF (ty : Int) 1 c p ++ W) c p W z5 zr pd) k r := by
  have hl := rbF_len (ty := (ty : Int)) (id := 1) (c := c) p0
  have hs : ((rbF (ty : Int) 1 c p ++ W).length : Int) = 8 + (c.length : Int) + p + (W.length : Int) := by rw [List.length_append]; omega
  refine hok_app ?_ (hok_app (h6 (bt_at rfl (by omega) (by omega)) (by omega)) ?_)
  · unfold hyCA
    exact hc (kLenE (isX rfl) (denX rfl) rfl) <| hc (kGe (isX rfl) (isZ (m := 6) rfl) (decide_eq_true (by omega))) <| hc (kIdxE (i := 0) (isX rfl) (isZ (m := 0) rfl) (denZ (m := 1) rfl) rfl (by omega) (bt_at rfl (by omega) (by omega))) <| hc (kIdxE (i := 4) (isX rfl) (isZ (m := 4) rfl) (denX rfl) rfl (by omega) (bt_at rfl (by omega) (by omega))) <| hc (kConvF (isX rfl) tv3 (denX rfl) (fI64 (by omega) (by omega))) <| hc (kMul (isX rfl) (isZ (m := 256) rfl) (denX rfl) rfl (fI64 (by omega) (by omega))) <| hc (kIdxE (i := 5) (isX rfl) (isZ (m := 5) rfl) (denX rfl) rfl (by omega) (bt_at rfl (by omega) (by omega))) <| hc (kConvF (isX rfl) tv3 (denX rfl) (fI64 (by omega) (by omega))) <| hc (kAdd (isX rfl) (isX rfl) (denX rfl) (by omega) (fI64 (by omega) (by omega))) <| hc (kGt (isX rfl) (isZ (m := 65535) rfl) (decide_eq_false (by omega))) <| hc (kGt (isX rfl) (isZ (m := 0) rfl) (decide_eq_true (by omega))) <| hc (kLt (isX rfl) (isZ (m := 8) rfl) (decide_eq_false (by omega))) hnil
  · unfold hyCB
    exact hc (kAdd (isZ (m := 8) rfl) (isX rfl) (denX rfl) rfl (fI64 (by omega) (by omega))) <| hc (kAdd (isX rfl) hpb (denX rfl) rfl (fI64 (by omega) (by omega))) <| hc (kLt (isX rfl) (isX rfl) (decide_eq_false (by omega))) <| hc (kIdxE (i := 1) (isX rfl) (isZ (m := 1) rfl) (denI .u8 (.ofNat ty)) rfl (by omega) (bt_at (q := (ty : Int)) rfl (by omega) (by omega))) <| hc (kIdxE (i := 2) (isX rfl) (isZ (m := 2) rfl) (denZ (m := 0) rfl) rfl (by omega) (bt_at rfl (by omega) (by omega))) <| hc (kIdxE (i := 3) (isX rfl) (isZ (m := 3) rfl) (denZ (m := 1) rfl) rfl (by omega) (bt_at rfl (by omega) (by omega))) <|
      hc (kCut (isX rfl) (.inr ⟨_, _, rfl, isZ (m := 8) rfl⟩) (.inr ⟨_, _, rfl, isX rfl⟩) (p := [u8 1, u8 (ty : Int), u8 0, u8 1, u8 ((c.length : Int) / 256), u8 ((c.length : Int) % 256), u8 p, u8 0]) (m := c) (q := List.replicate (Int.toNat p) 0 ++ W) (by simp [rbF]) (by simp) (by simp) hca) <|
      hc (kCut (isX rfl) (.inr ⟨_, _, rfl, isX rfl⟩) (.inl ⟨rfl, rfl⟩) (p := rbF (ty : Int) 1 c p) (m := W) (q := []) (by simp) (by omega) (by simp) (denX rfl)) hnil
theorem p6_0 {s c W : LB} {z5 zr : LB} {pd : Int} (h : bt s 6 = 0) (h8 : 8 ≤ s.length) : ∀ k r, (k, r) ∈ p6K 0 → HOk (DC s c 0 W z5 zr pd) k r := hc (kIdxE (i := 6) (isX rfl) (isZ (m := 6) rfl) (denZ (m := 0) rfl) rfl (by omega) h) hnil
theorem p6_3 {s c W : LB} {z5 zr : LB} {pd : Int} (p0 : 0 ≤ pd) (p7 : pd ≤ 7) (h : bt s 6 = pd) (h8 : 8 ≤ s.length) : ∀ k r, (k, r) ∈ p6K 3 → HOk (DC s c pd W z5 zr pd) k r := hc (kIdxE (i := 6) (isX rfl) (isZ (m := 6) rfl) (denX rfl) rfl (by omega) h) <| hc (kConvF (isX rfl) tv3 (denX rfl) (fI64 (by omega) (by omega))) hnil
theorem hyC_ok {W : LB} {z5 zr : LB} {pd : Int} (h5 : z5.length = 512) (hr : zr.length ≤ 512) (p0 : 0 ≤ pd) (p7 : pd ≤ 7) (kd : Nat) (hk : kd ≤ 5) (hW : W.length ≤ 100000) : ∀ k r, (k, r) ∈ hyC kd → HOk (DC (rcS z5 zr pd kd ++ W) (cnS z5 zr pd kd) (pdS pd kd) W z5 zr pd) k r := by
  have hcl := cnS_len (pd := pd) h5 hr kd hk
  have z : (0 : Int) ≤ 0 ∧ (0 : Int) ≤ 7 := by omega
  rcases kd6 hk with rfl | rfl | rfl | rfl | rfl | rfl
  · exact hyC_gen (ty := 1) (by decide) (by decide) hcl z.1 z.2 hW p6_0 (isI .i64 (.ofNat 0)) (denS (len := 8) (n := 65792) (by decide))
  · exact hyC_gen (ty := 4) (by decide) (by decide) hcl z.1 z.2 hW p6_0 (isI .i64 (.ofNat 0)) (denS (len := 0) (n := 0) (by decide))
  · exact hyC_gen (ty := 5) (by decide) (by decide) hcl z.1 z.2 hW p6_0 (isI .i64 (.ofNat 0)) (denX rfl)
  · exact hyC_gen (ty := 5) (by decide) (by decide) hcl p0 p7 hW (p6_3 p0 p7) (isX rfl) (denX rfl)
  · exact hyC_gen (ty := 5) (by decide) (by decide) hcl z.1 z.2 hW p6_0 (isI .i64 (.ofNat 0)) (denS (len := 0) (n := 0) (by decide))
  · exact hyC_gen (ty := 2) (by decide) (by decide) hcl z.1 z.2 hW p6_0 (isI .i64 (.ofNat 0)) (denS (len := 0) (n := 0) (by decide))
theorem hyCX_ok {c W : LB} {p : Int} {z5 zr : LB} {pd : Int} : ∀ k r, (k, r) ∈ hyCX → HOk (DC [] c p W z5 zr pd) k r := by
  unfold hyCX
  exact hc (kLenE (isX rfl) (denX rfl) rfl) <| hc (kGe (isX rfl) (isZ (m := 6) rfl) (decide_eq_false (by decide))) <| hc (kGt (isX rfl) (isZ (m := 0) rfl) (decide_eq_false (by decide))) <| hc (kLt (isX rfl) (isZ (m := 8) rfl) (decide_eq_true (by decide))) hnil
theorem cat_len {z5 zr : LB} {pd : Int} (h5 : z5.length = 512) (hr : zr.length ≤ 512) (p0 : 0 ≤ pd) (p7 : pd ≤ 7) : ∀ ks : List Nat, (∀ k, k ∈ ks → k ≤ 5) → (cat z5 zr pd ks).length ≤ 528 * ks.length
  | [], _ => Nat.le_refl _
  | k :: ks, h => by
    have h1 := rcS_len (pd := pd) h5 hr p0 p7 k (h k (List.mem_cons_self ..))
    have h2 := cat_len h5 hr p0 p7 ks fun x hx => h x (List.mem_cons_of_mem _ hx)
    rw [cat, List.flatMap_cons, List.length_append, List.length_cons]
    have : (cat z5 zr pd ks).length = (ks.flatMap (rcS z5 zr pd)).length := rfl
    omega
def InvC (z5 zr : LB) (pd : Int) (ks : List Nat) (st : Nat × LB) : Prop := st.1 ≤ ks.length ∧ st.2 = cat z5 zr pd (ks.drop st.1)
noncomputable def DSC (z5 zr : LB) (pd : Int) (ks : List Nat) (st : Nat × LB) (X : Nat → Value) : Cx := DC st.2 (cnS z5 zr pd (ks.getD st.1 0)) (pdS pd (ks.getD st.1 0)) (cat z5 zr pd (ks.drop (st.1 + 1))) z5 zr pd
noncomputable def EC (z5 zr : LB) (pd : Int) : Cx := DC [] [] 0 [] z5 zr pd
theorem thC_ok {s c W s2 c2 W2 : LB} {p p2 : Int} {z5 zr : LB} {pd : Int} (h : W = s2) : ThOk (DC s c p W z5 zr pd) (DC s2 c2 p2 W2 z5 zr pd) thC := by
  subst h
  exact thXv (v := St' W) rfl rfl <| thXv (v := St' z5) rfl rfl <| thXv (v := St' zr) rfl rfl <| thXv (v := .int .i64 pd) rfl rfl thNil
theorem rdC (z5 zr : LB) (pd : Int) (h5 : z5.length = 512) (hr : zr.length ≤ 512) (p0 : 0 ≤ pd) (p7 : pd ≤ 7) (ks : List Nat) (hks : ∀ k, k ∈ ks → k ≤ 5) (hl : ks.length ≤ 20) (R : ∀ j, j < ks.length → rnC ks j = true) (Xx : rxC ks = true) (st : Nat × LB) (X : Nat → Value) (hI : InvC z5 zr pd ks st) :
    RoundH (EC z5 zr pd) bodyC [] 87 .ret 2 1000 1010 1060 (fun st : Nat × LB => epC st.1) (fun st => hpC ks st.1) (epCX ks) [rowK (.x 20) (.x 21) (.x 22) ks] (InvC z5 zr pd ks) (fun st => ks.length - st.1) (DSC z5 zr pd ks) st X := by
  obtain ⟨j, s⟩ := st
  obtain ⟨i0, i1⟩ := hI
  simp only [] at i0 i1
  subst i1
  by_cases hj : j < ks.length
  · have hg : ks.getD j 0 = ks[j] := by rw [List.getD_eq_getElem?_getD, List.getElem?_eq_getElem hj]; rfl
    have hk := hks _ (List.getElem_mem hj)
    rw [← hg] at hk
    have hd : cat z5 zr pd (ks.drop j) = rcS z5 zr pd (ks.getD j 0) ++ cat z5 zr pd (ks.drop (j + 1)) := by
      rw [List.drop_eq_getElem_cons hj, hg]; rfl
    have hW := cat_len (pd := pd) h5 hr p0 p7 (ks.drop (j + 1)) fun k h => hks k (List.mem_of_mem_drop h)
    rw [List.length_drop] at hW
    have HT : AllOk (DSC z5 zr pd ks (j, cat z5 zr pd (ks.drop j)) X) (tbl (hyC (ks.getD j 0))) := by
      show AllOk (DC (cat z5 zr pd (ks.drop j)) (cnS z5 zr pd (ks.getD j 0)) (pdS pd (ks.getD j 0)) (cat z5 zr pd (ks.drop (j + 1))) z5 zr pd) _
      rw [hd]
      exact (tabkOk _ _).hyps (hyC_ok h5 hr p0 p7 _ hk (by omega))
    exact RoundH.next (tb := tbl (hyC (ks.getD j 0))) (L := []) (f := 3000) (th := thC) (sg := [(1001, 1013)]) (j + 1, cat z5 zr pd (ks.drop (j + 1))) HT (LpOk.nil _) rfl ⟨by show j + 1 ≤ ks.length; omega, rfl⟩ (by show ks.length - (j + 1) < ks.length - j; omega) (thC_ok rfl) (R j hj)
  · have e : j = ks.length := by omega
    subst e
    have hd : cat z5 zr pd (ks.drop ks.length) = [] := by rw [List.drop_length]; rfl
    have HT : AllOk (DSC z5 zr pd ks (ks.length, cat z5 zr pd (ks.drop ks.length)) X) (tbl hyCX) := by
      show AllOk (DC (cat z5 zr pd (ks.drop ks.length)) (cnS z5 zr pd (ks.getD ks.length 0)) (pdS pd (ks.getD ks.length 0)) (cat z5 zr pd (ks.drop (ks.length + 1))) z5 zr pd) _
      rw [hd]
      exact (tabkOk _ _).hyps hyCX_ok
    exact RoundH.leave (tb := tbl hyCX) (L := []) (f := 3000) (th := thCX) (sg := []) HT (LpOk.nil _) rfl rfl (thXv (v := St' z5) rfl rfl <| thXv (v := St' zr) rfl rfl <| thXv (v := .int .i64 pd) rfl rfl thNil) Xx
theorem lfOkC {nu : Nat → Value} {one : ∀ i, i < 1000000 → (nu i).oneCell' = true} {l : LF} {h : LH} (z5 zr : LB) (pd : Int) (h5 : z5.length = 512) (hr : zr.length ≤ 512) (p0 : 0 ≤ pd) (p7 : pd ≤ 7) (ks : List Nat) (hks : ∀ k, k ∈ ks → k ≤ 5) (hle : ks.length ≤ 20) (L : Nat) (hL : ks.length = L) (RX : (allN (rnC ks) 0 L && rxC ks) = true) (hl : l.hp = some h) (hsm : lfSame l h 87 [] .ret 2 1000 1060 = true) {xs : Nat} {sg0 : List (Nat × Nat)} (hxs : nu xs = St' (cat z5 zr pd ks)) (h0 : startOk l h 87 1000 1010 [(0, .x xs)] sg0 (epC 0) (hpC ks 0) = true) {thx : LA} (hthx : ThOk (EC z5 zr pd) (cx nu one 1 laidE laidE_stab) thx) (hx : exitOk l h 87 1000 1060 thx (epCX ks) [rowK (.x 20) (.x 21) (.x 22) ks] = true) : LfOk (cx nu one 1 laidE laidE_stab) bodyC l := by
  subst hL
  exact lfOkX (E := EC z5 zr pd) (ep := fun st : Nat × LB => epC st.1) (hp := fun st => hpC ks st.1) (epx := epCX ks) (hpx := [rowK (.x 20) (.x 21) (.x 22) ks]) (keep := []) (nh := 1010) (InvC z5 zr pd ks) (fun st => ks.length - st.1) (DSC z5 zr pd ks) (fun _ _ => rfl) (fun _ _ => rfl) (fun _ _ => rfl) (fun _ _ t ht => by cases ht) rfl rfl rfl hl hsm (fun st => by unfold epC; cases Nat.beq st.1 0 <;> rfl) rfl rfl (0, cat z5 zr pd ks) ⟨Nat.zero_le _, rfl⟩ (th0 := [(0, .x xs)]) (fun X => thXv (v := St' (cat z5 zr pd ks)) hxs rfl thNil) h0 hthx hx (rdC z5 zr pd h5 hr p0 p7 ks hks hle (fun j hj => allN_at (eA1 RX) j (by omega) (by omega)) (eA2 RX))
theorem lfOkD {nu : Nat → Value} {one : ∀ i, i < 1000000 → (nu i).oneCell' = true} {l : LF} {h : LH} (z5 zr : LB) (pd : Int) (h5 : z5.length = 512) (hr : zr.length ≤ 512) (p0 : 0 ≤ pd) (p7 : pd ≤ 7) (mu n0 : Nat) (hp : Nat → Nat → LE) (kf : Nat → Nat) (hkf : ∀ j, kf j ≤ 5) (K : Nat) (K1 : 1 ≤ K) (K9 : K ≤ 9) (R0 : LB) (hR0 : R0.length ≤ 600) (N : Int) (N1 : 1 ≤ N) (N2 : N ≤ 1000000) (J : Nat) (hJ : JOk (fun j => rcS z5 zr pd (kf j)) R0 N K J)
    (A0 : rnA mu n0 hp kf 0 0 = true) (A1 : ∀ j, j < K → (1 ≤ j ∨ R0 ≠ []) → rnA mu n0 hp kf j 1 = true) (RR : R0 ≠ [] → rnR mu n0 hp = true) (X1 : ∀ j, j ≤ K → (1 ≤ j ∨ R0 ≠ []) → rnX mu n0 false (hp j 1) = true) (X2 : rnX mu n0 true (hp K 1) = true)
    (hl : l.hp = some h) (hsm : lfSame l h 47 [] (.exit 0) 2 n0 (n0 + 190) = true) {n r a b c : AV} {sg0 : List (Nat × Nat)} (hn : Is (cx nu one 1 laidE laidE_stab) n (.int .i64 N)) (hrr : Is (cx nu one 1 laidE laidE_stab) r (St' R0)) (ha : Is (cx nu one 1 laidE laidE_stab) a (St' z5)) (hb : Is (cx nu one 1 laidE laidE_stab) b (St' zr)) (hc' : Is (cx nu one 1 laidE laidE_stab) c (.int .i64 pd)) (h0 : startOk l h 47 n0 (n0 + 10) [(1, n), (2, r), (3, a), (4, b), (5, c)] sg0 (epD mu n0) (hp 0 0) = true) {thx : LA} (hthx : ThOk (ED (tkD (fun j => rcS z5 zr pd (kf j)) R0 N J) (dpD (fun j => rcS z5 zr pd (kf j)) R0 N J) z5 zr pd) (cx nu one 1 laidE laidE_stab) thx) (hx : exitOk l h 47 n0 (n0 + 190) thx (epDX n0) (hp J 1) = true) : LfOk (cx nu one 1 laidE laidE_stab) bodyD l :=
  lfOkX (E := ED (tkD (fun j => rcS z5 zr pd (kf j)) R0 N J) (dpD (fun j => rcS z5 zr pd (kf j)) R0 N J) z5 zr pd) (ep := fun _ => epD mu n0) (hp := fun st : Nat × Nat × LB × LB × Int => hp st.1 st.2.1) (epx := epDX n0) (hpx := hp J 1) (keep := []) (nh := n0 + 10) (InvD (fun j => rcS z5 zr pd (kf j)) R0 N K) (fun st => 2 * (K - st.1) + (1 - st.2.1)) (DS kf z5 zr pd) (fun st X => by obtain ⟨j, w, T, R, n⟩ := st; obtain ⟨y, e⟩ := DS_ex kf z5 zr pd j w T R n X; rw [e]; rfl) (fun st X => by obtain ⟨j, w, T, R, n⟩ := st; obtain ⟨y, e⟩ := DS_ex kf z5 zr pd j w T R n X; rw [e]; rfl) (fun st X => by obtain ⟨j, w, T, R, n⟩ := st; obtain ⟨y, e⟩ := DS_ex kf z5 zr pd j w T R n X; rw [e]; rfl) (fun _ _ t ht => by cases ht) rfl rfl rfl hl hsm (fun _ => rfl) rfl (by rw [Bool.and_eq_true]; exact ⟨Nat.ble_eq_true_of_le (by omega), Nat.ble_eq_true_of_le (by omega)⟩) (0, 0, [], R0, N)
    ⟨Nat.zero_le _, Nat.zero_le _, fun _ => ⟨rfl, rfl⟩, by show 0 ≤ N; omega, by show [] ++ R0 = R0 ++ []; rw [List.nil_append, List.append_nil], by show ((([] : LB).length : Nat) : Int) + N = N; simp only [List.length_nil]; omega, fun _ => .inr rfl, fun h => by have h : 1 ≤ 0 := h; omega, fun h => by have h : (0 : Nat) = 1 := h; omega⟩ (fun X => th0_ok hn hrr ha hb hc') h0 hthx hx (rdD z5 zr pd h5 hr p0 p7 mu n0 hp kf hkf K K1 K9 R0 hR0 N N1 N2 J hJ A0 A1 RR X1 X2)
def fK (z5 zr : LB) (pd : Int) (m : Nat) : Nat → LB := fun j => rcS z5 zr pd (kdF m j)
theorem AL_ex (z5 zr : LB) (pd : Int) (m : Nat) : ∃ l : LB, l = sq (fK z5 zr pd m) (3 + m) := ⟨_, rfl⟩
noncomputable def AL (z5 zr : LB) (pd : Int) (m : Nat) : LB := Classical.choose (AL_ex z5 zr pd m)
theorem AL_eq (z5 zr : LB) (pd : Int) (m : Nat) : AL z5 zr pd m = sq (fK z5 zr pd m) (3 + m) := Classical.choose_spec (AL_ex z5 zr pd m)
theorem TT_ex (z5 zr : LB) (pd : Int) (m J : Nat) (N : Int) : ∃ l : LB, l = tkD (fK z5 zr pd m) [] N J := ⟨_, rfl⟩
noncomputable def TT (z5 zr : LB) (pd : Int) (m J : Nat) (N : Int) : LB := Classical.choose (TT_ex z5 zr pd m J N)
theorem TT_eq (z5 zr : LB) (pd : Int) (m J : Nat) (N : Int) : TT z5 zr pd m J N = tkD (fK z5 zr pd m) [] N J := Classical.choose_spec (TT_ex z5 zr pd m J N)
theorem RR_ex (z5 zr : LB) (pd : Int) (m J : Nat) (N : Int) : ∃ l : LB, l = dpD (fK z5 zr pd m) [] N J := ⟨_, rfl⟩
noncomputable def RR (z5 zr : LB) (pd : Int) (m J : Nat) (N : Int) : LB := Classical.choose (RR_ex z5 zr pd m J N)
theorem RR_eq (z5 zr : LB) (pd : Int) (m J : Nat) (N : Int) : RR z5 zr pd m J N = dpD (fK z5 zr pd m) [] N J := Classical.choose_spec (RR_ex z5 zr pd m J N)
theorem LC_ex (z5 zr : LB) (pd : Int) (m j : Nat) : ∃ n : Int, n = ((sq (fK z5 zr pd m) j).length : Int) := ⟨_, rfl⟩
noncomputable def LC (z5 zr : LB) (pd : Int) (m j : Nat) : Int := Classical.choose (LC_ex z5 zr pd m j)
theorem LC_eq (z5 zr : LB) (pd : Int) (m j : Nat) : LC z5 zr pd m j = ((sq (fK z5 zr pd m) j).length : Int) := Classical.choose_spec (LC_ex z5 zr pd m j)
theorem LC_0 (z5 zr : LB) (pd : Int) (m : Nat) : LC z5 zr pd m 0 = 0 := LC_eq z5 zr pd m 0
def abS : LB := [u8 1, u8 2, u8 0, u8 1, u8 0, u8 0, u8 0, u8 0]
theorem abS_eq (z5 zr : LB) (pd : Int) : rcS z5 zr pd 5 = abS := by
  show rbF 2 1 [] 0 = abS
  decide
theorem fK_len (z5 zr : LB) (pd : Int) (h5 : z5.length = 512) (hr : zr.length ≤ 512) (p0 : 0 ≤ pd) (p7 : pd ≤ 7) (m j : Nat) : 8 ≤ (fK z5 zr pd m j).length ∧ (fK z5 zr pd m j).length ≤ 528 := rcS_len h5 hr p0 p7 _ (kdF_le m j)
theorem sq_ge {f : Nat → LB} (h : ∀ j, 8 ≤ (f j).length) : ∀ j, 8 * j ≤ (sq f j).length
  | 0 => Nat.le_refl _
  | j + 1 => by have := h j; have := sq_ge h j; rw [show sq f (j + 1) = sq f j ++ f j from rfl, List.length_append]; omega
theorem AL_len (z5 zr : LB) (pd : Int) (h5 : z5.length = 512) (hr : zr.length ≤ 512) (p0 : 0 ≤ pd) (p7 : pd ≤ 7) (m : Nat) (hm : m ≤ 6) : 24 ≤ (AL z5 zr pd m).length ∧ (AL z5 zr pd m).length ≤ 4752 := by
  have h1 := sq_ge (fun j => (fK_len z5 zr pd h5 hr p0 p7 m j).1) (3 + m)
  have h2 := sq_len (fun j => (fK_len z5 zr pd h5 hr p0 p7 m j).2) (3 + m)
  rw [AL_eq]; omega
theorem jokW (z5 zr : LB) (pd : Int) (h5 : z5.length = 512) (hr : zr.length ≤ 512) (p0 : 0 ≤ pd) (p7 : pd ≤ 7) (m : Nat) (hm : m ≤ 6) : JOk (fK z5 zr pd m) [] 1000000 (3 + m) (3 + m) := by
  refine ⟨Nat.le_refl _, fun _ => ?_, .inr rfl⟩
  have h2 := sq_len (fun j => (fK_len z5 zr pd h5 hr p0 p7 m j).2) (3 + m - 1)
  simp only [List.length_nil]; omega
theorem AL_tk (z5 zr : LB) (pd : Int) (h5 : z5.length = 512) (hr : zr.length ≤ 512) (p0 : 0 ≤ pd) (p7 : pd ≤ 7) (m : Nat) (hm : m ≤ 6) : AL z5 zr pd m = tkD (fK z5 zr pd m) [] 1000000 (3 + m) ∧ ([] : LB) = dpD (fK z5 zr pd m) [] 1000000 (3 + m) := by
  have h2 := AL_len z5 zr pd h5 hr p0 p7 m hm
  unfold tkD dpD
  rw [List.nil_append, ← AL_eq]
  exact ⟨(List.take_of_length_le (by omega)).symm, (List.drop_eq_nil_of_le (by omega)).symm⟩
theorem jok (z5 zr : LB) (pd : Int) (m J : Nat) (N : Int) (hJ : J ≤ 3 + m) (lo : 1 ≤ J → LC z5 zr pd m (J - 1) < N) (hi : N ≤ LC z5 zr pd m J ∨ J = 3 + m) : JOk (fK z5 zr pd m) [] N (3 + m) J := by
  rw [LC_eq] at lo hi
  exact ⟨hJ, fun h => by have := lo h; simp only [List.length_nil]; omega, by simp only [List.length_nil]; rcases hi with h | h; exact .inl (by omega); exact .inr h⟩
theorem TR_sq (z5 zr : LB) (pd : Int) (m J : Nat) (N : Int) : TT z5 zr pd m J N ++ RR z5 zr pd m J N = sq (fK z5 zr pd m) J := by
  rw [TT_eq, RR_eq, tkD, dpD, List.take_append_drop]; rfl
theorem TT_len (z5 zr : LB) (pd : Int) (h5 : z5.length = 512) (hr : zr.length ≤ 512) (p0 : 0 ≤ pd) (p7 : pd ≤ 7) (m J : Nat) (N : Int) (N1 : 1 ≤ N) (hm : m ≤ 6) (h : JOk (fK z5 zr pd m) [] N (3 + m) J) : 1 ≤ (TT z5 zr pd m J N).length ∧ (TT z5 zr pd m J N).length ≤ 4752 ∧ (RR z5 zr pd m J N).length ≤ 528 := by
  have h2 := sq_len (fun j => (fK_len z5 zr pd h5 hr p0 p7 m j).2) J
  have h3 := sq_ge (fun j => (fK_len z5 zr pd h5 hr p0 p7 m j).1) J
  have hle := h.le
  have eT : (TT z5 zr pd m J N).length = min N.toNat (sq (fK z5 zr pd m) J).length := by rw [TT_eq, tkD, List.nil_append, List.length_take]
  have eR : (RR z5 zr pd m J N).length = (sq (fK z5 zr pd m) J).length - N.toNat := by rw [RR_eq, dpD, List.nil_append, List.length_drop]
  have hJ1 : 1 ≤ J := by
    rcases Nat.eq_zero_or_pos J with e | e
    · subst e
      rcases h.hi with g | g
      · have : (sq (fK z5 zr pd m) 0).length = 0 := rfl
        simp only [List.length_nil] at g; omega
      · omega
    · exact e
  obtain ⟨i, rfl⟩ : ∃ i, J = i + 1 := ⟨J - 1, by omega⟩
  have lo := h.lo hJ1
  have hf := fK_len z5 zr pd h5 hr p0 p7 m i
  rw [Nat.add_sub_cancel] at lo
  have es : (sq (fK z5 zr pd m) (i + 1)).length = (sq (fK z5 zr pd m) i).length + (fK z5 zr pd m i).length := by rw [show sq (fK z5 zr pd m) (i + 1) = sq (fK z5 zr pd m) i ++ fK z5 zr pd m i from rfl, List.length_append]
  simp only [List.length_nil] at lo
  omega
theorem cat_sq (z5 zr : LB) (pd : Int) (m : Nat) : ∀ J, cat z5 zr pd (ksM m J) = sq (fK z5 zr pd m) J
  | 0 => rfl
  | J + 1 => by
    have e : ksM m (J + 1) = ksM m J ++ [kdF m J] := by unfold ksM; rw [List.range_succ, List.map_append]; rfl
    rw [e, cat, List.flatMap_append, show sq (fK z5 zr pd m) (J + 1) = sq (fK z5 zr pd m) J ++ fK z5 zr pd m J from rfl, ← cat_sq z5 zr pd m J]
    rw [cat]; congr 1
    rw [List.flatMap_cons, List.flatMap_nil, List.append_nil]; rfl
theorem catJ (z5 zr : LB) (pd : Int) (m J : Nat) (N : Int) (h : Nat.beq J (Nat.add 3 m) = false) : TT z5 zr pd m J N ++ (RR z5 zr pd m J N ++ abS) = cat z5 zr pd (ksT m J) := by
  rw [← List.append_assoc, TR_sq, ← cat_sq, ksT, h, cond_false, cat, cat, List.flatMap_append, List.flatMap_cons, List.flatMap_nil, List.append_nil, abS_eq]
theorem catK (z5 zr : LB) (pd : Int) (m J : Nat) (N : Int) (h : Nat.beq J (Nat.add 3 m) = true) : TT z5 zr pd m J N ++ RR z5 zr pd m J N = cat z5 zr pd (ksT m J) := by
  rw [TR_sq, ← cat_sq, ksT, h, cond_true, List.append_nil]
theorem catK0 (z5 zr : LB) (pd : Int) (m J : Nat) (N : Int) (h : Nat.beq J (Nat.add 3 m) = true) (h0 : (RR z5 zr pd m J N).length = 0) : TT z5 zr pd m J N = cat z5 zr pd (ksT m J) := by
  rw [← catK z5 zr pd m J N h, List.eq_nil_of_length_eq_zero h0, List.append_nil]
theorem ab_tk (z5 zr : LB) (pd : Int) (R : LB) (hR : R.length ≤ 600) : R ++ abS = tkD (fun j => rcS z5 zr pd ((fun _ => 5) j)) R 1000000 1 ∧ ([] : LB) = dpD (fun j => rcS z5 zr pd ((fun _ => 5) j)) R 1000000 1 := by
  have e : sq (fun j => rcS z5 zr pd ((fun _ => 5) j)) 1 = abS := by
    show [] ++ rcS z5 zr pd 5 = abS
    rw [List.nil_append, abS_eq]
  have hl : abS.length = 8 := rfl
  unfold tkD dpD
  rw [e]
  exact ⟨(List.take_of_length_le (by rw [List.length_append]; omega)).symm, (List.drop_eq_nil_of_le (by rw [List.length_append]; omega)).symm⟩
theorem jokF (z5 zr : LB) (pd : Int) (R : LB) (hR : R.length ≤ 600) : JOk (fun j => rcS z5 zr pd ((fun _ => 5) j)) R 1000000 1 1 := ⟨Nat.le_refl _, fun _ => by show (R.length : Int) + ((0 : Nat) : Int) < 1000000; omega, .inr rfl⟩
theorem a1_of {mu n0 K K' : Nat} {hp : Nat → Nat → LE} {kf : Nat → Nat} (h : allN (fun j => rnA mu n0 hp kf j 1) 1 K' = true) (hK : K ≤ K' + 1) : ∀ j, j < K → (1 ≤ j ∨ ([] : LB) ≠ []) → rnA mu n0 hp kf j 1 = true := fun j hj hh => by
  rcases hh with g | g
  · exact allN_at h j g (by omega)
  · exact absurd rfl g
theorem x1_of {mu n0 K : Nat} {hp : Nat → Nat → LE} (h : allN (fun j => rnX mu n0 false (hp j 1)) 1 K = true) : ∀ j, j ≤ K → (1 ≤ j ∨ ([] : LB) ≠ []) → rnX mu n0 false (hp j 1) = true := fun j hj hh => by
  rcases hh with g | g
  · exact allN_at h j g (by omega)
  · exact absurd rfl g
theorem ks_le (m J : Nat) : ∀ k, k ∈ ksT m J → k ≤ 5 := fun k h => by
  rcases List.mem_append.1 h with h | h
  · unfold ksM at h
    obtain ⟨i, -, rfl⟩ := List.mem_map.1 h
    exact kdF_le m i
  · cases hb : Nat.beq J (Nat.add 3 m) with
    | true => rw [hb, cond_true] at h; cases h
    | false => rw [hb, cond_false, List.mem_singleton] at h; omega
theorem thc0 {nu : Nat → Value} {one : ∀ i, i < 1000000 → (nu i).oneCell' = true} {z5 zr : LB} {pd : Int} : ThOk (EC z5 zr pd) (cx nu one 1 laidE laidE_stab) [] := thNil
theorem thc2 {nu : Nat → Value} {one : ∀ i, i < 1000000 → (nu i).oneCell' = true} {z5 zr : LB} {pd : Int} {d e : Nat} (hd : nu d = St' zr) (he : nu e = .int .i64 pd) : ThOk (EC z5 zr pd) (cx nu one 1 laidE laidE_stab) [(d, .x 21), (e, .x 22)] := thXv (v := St' zr) rfl hd <| thXv (v := .int .i64 pd) rfl he thNil
theorem thc1 {nu : Nat → Value} {one : ∀ i, i < 1000000 → (nu i).oneCell' = true} {z5 zr : LB} {pd : Int} {c : Nat} (hc' : nu c = St' z5) : ThOk (EC z5 zr pd) (cx nu one 1 laidE laidE_stab) [(c, .x 20)] := thXv (v := St' z5) rfl hc' thNil
theorem thc3 {nu : Nat → Value} {one : ∀ i, i < 1000000 → (nu i).oneCell' = true} {z5 zr : LB} {pd : Int} {c d e : Nat} (hc' : nu c = St' z5) (hd : nu d = St' zr) (he : nu e = .int .i64 pd) : ThOk (EC z5 zr pd) (cx nu one 1 laidE laidE_stab) [(c, .x 20), (d, .x 21), (e, .x 22)] := thXv (v := St' z5) rfl hc' <| thXv (v := St' zr) rfl hd <| thXv (v := .int .i64 pd) rfl he thNil
def Z5 : LB := List.replicate (Int.toNat (512)) 0
theorem rT {C : Cx} {i m : Nat} {E : Int} (h : C.nu i = St' (List.replicate (Int.toNat E) 0)) (h1 : 512 ≤ E) (h2 : C.nu m = St' (List.replicate (Int.toNat (512)) 0)) : HOk C (.sub (.x i) none (some (.i .i64 (.ofNat 512)))) (.x m) := kMidR (E := E) (P := 0) (Q := 512) (isX h) (.inl ⟨rfl, rfl⟩) (.inr ⟨_, _, rfl, isZ (m := 512) rfl⟩) (by omega) (by omega) (by omega) (denX h2)
theorem rD {C : Cx} {i m : Nat} {E E2 : Int} (h : C.nu i = St' (List.replicate (Int.toNat E) 0)) (h2 : C.nu m = St' (List.replicate (Int.toNat E2) 0)) (h1 : 512 ≤ E ∧ E2 = E - 512) : HOk C (.sub (.x i) (some (.i .i64 (.ofNat 512))) none) (.x m) := kMidR (E := E) (P := 512) (Q := E) (isX h) (.inr ⟨_, _, rfl, isZ (m := 512) rfl⟩) (.inl ⟨rfl, by rw [List.length_replicate]; omega⟩) (by omega) (by omega) (by omega) (denX (h2.trans (congrArg (fun k : Int => St' (List.replicate k.toNat 0)) h1.2)))
theorem byC {C : Cx} {i m : Nat} {l : LB} (h : C.nu i = St' l) (h2 : C.nu m = .int .u8 (bt l 0)) (h1 : 1 ≤ l.length) : HOk C (.byt (.x i) (.i .i64 (.ofNat 0))) (.x m) := kByt (i := 0) (isX h) (isZ (m := 0) rfl) (denX h2) rfl (by omega) rfl
theorem ftV {C : Cx} {i : Nat} {l : LB} (h : C.nu i = St' l) (h1 : l.length ≤ 100000) : HOk C (.fit (.x i)) (.b true) := kFit (isX h) (by omega)
theorem ctV {C : Cx} {i j m : Nat} {a b : LB} (h : C.nu i = St' a) (h2 : C.nu j = St' b) (h3 : C.nu m = St' (a ++ b)) (h1 : a.length ≤ 100000 ∧ b.length ≤ 100000) : HOk C (.bin .add (.x i) (.x j)) (.x m) := kCat (isX h) (isX h2) (denX h3) rfl (by omega)
theorem ct0 {C : Cx} {i j : Nat} {a : LB} (h : C.nu i = St' a) (h2 : C.nu j = St' a) (h1 : a.length ≤ 100000) : HOk C (.bin .add (.s 0 0) (.x i)) (.x j) := kCat (isSx (l := []) 0 0 rfl) (isX h) (denX h2) (List.nil_append _) (by simp only [List.length_nil]; omega)
theorem dF {nu : Nat → Value} {one : ∀ i, i < 1000000 → (nu i).oneCell' = true} {l : LF} {h : LH} (R : LB) (hR : R.length ≤ 600) (hl : l.hp = some h) (hsm : lfSame l h 47 [] (.exit 0) 2 700 890 = true) {ri t rr : Nat} {sg0 : List (Nat × Nat)} (hr : nu ri = St' R) (h0 : startOk l h 47 700 710 [(1, .i .i64 (.ofNat 1000000)), (2, .x ri), (3, .s 512 0), (4, .s 0 0), (5, .i .i64 (.ofNat 0))] sg0 (epD 4 700) (stF (.sl 552 0 1 0 true) 700 0 0) = true) (ht : nu t = St' (R ++ abS)) (hrr : nu rr = St' []) (hx : exitOk l h 47 700 890 [(t, .x 0), (rr, .x 2)] (epDX 700) (stF (.sl 552 0 1 0 true) 700 1 1) = true) : LfOk (cx nu one 1 laidE laidE_stab) bodyD l :=
  lfOkD (List.replicate 512 0) [] 0 (List.length_replicate ..) (Nat.zero_le _) (by omega) (by omega) 4 700 (stF (.sl 552 0 1 0 true) 700) (fun _ => 5) (fun _ => Nat.le_refl _) 1 (by decide) (by decide) R hR 1000000 (by omega) (by omega) 1 (jokF _ _ _ R hR) (eA1 (eA1 fA)) (fun j hj _ => allN_at (eA2 (eA1 fA)) j (by omega) (by omega)) (fun _ => eA2 fA) (fun j hj _ => allN_at (eA1 fX) j (by omega) (by omega)) (eA2 fX) hl hsm (isZ (m := 1000000) rfl) (isX hr) (isSx (l := List.replicate 512 (0 : UInt8)) 512 0 (strB_zero 512)) (isSx (l := []) 0 0 rfl) (isZ (m := 0) rfl) h0 (thx2 (ht.trans (congrArg (fun l => St' l) (ab_tk _ _ _ R hR).1)) (hrr.trans (congrArg (fun l => St' l) (ab_tk _ _ _ R hR).2))) hx
theorem cvV {C : Cx} {i m : Nat} {k : IntKind} {a : Int} (hu : C.P.underlying 3 = some (.int .i64)) (h : C.nu i = .int k a) (h2 : C.nu m = .int .i64 a) (h1 : -1000000 ≤ a ∧ a ≤ 1000000) : HOk C (.conv 3 (.x i)) (.x m) := kConvF (isX h) hu (denX h2) (fI64 (by omega) (by omega))
theorem aG {C : Cx} {i m : Nat} {a : Int} (h : C.nu i = .int .i64 a) (h2 : C.nu m = .int .i64 (a % 8)) (h1 : -1000000 ≤ a ∧ a ≤ 1000000) : HOk C (.bin .and (.x i) (.i .i64 (.ofNat 7))) (.x m) := kAndG 3 8 rfl (by decide) (isX h) (isZ (m := 7) rfl) (denX h2) (fI64 (by omega) (by omega)) rfl rfl (fI64 (by omega) (by omega))
theorem c120 {C : Cx} {i m : Nat} {a : LB} (h : C.nu i = St' a) (h3 : C.nu m = St' (a ++ [u8 120])) (h1 : a.length ≤ 100000) : HOk C (.bin .add (.x i) (.s 1 120)) (.x m) := kCat (isX h) (isSx (l := [u8 120]) 1 120 rfl) (denX h3) rfl (by simp only [List.length_cons, List.length_nil]; omega)
theorem l120 {C : Cx} {i m : Nat} {a : LB} (h : C.nu i = St' (a ++ [u8 120])) (h2 : C.nu m = .int .i64 ((a.length : Int) + 1)) : HOk C (.len (.x i)) (.x m) := kLenE (isX h) (denX h2) (by rw [List.length_append]; rfl)
theorem lnR {C : Cx} {i m : Nat} {E : Int} (h : C.nu i = St' (List.replicate (Int.toNat E) 0)) (h2 : C.nu m = .int .i64 E) (h1 : 0 ≤ E) : HOk C (.len (.x i)) (.x m) := kLenE (isX h) (denX h2) (by rw [List.length_replicate]; omega)
theorem l512 {C : Cx} {i : Nat} (h : C.nu i = St' (List.replicate (Int.toNat (512)) 0)) : HOk C (.len (.x i)) (.i .i64 (.ofNat 512)) := kLenE (isX h) (denZ (m := 512) rfl) (by rw [List.length_replicate]; rfl)
theorem eqZ {C : Cx} {i : Nat} {E : Int} (h : C.nu i = St' (List.replicate (Int.toNat E) 0)) (h1 : 1 ≤ E) : HOk C (.bin .eql (.x i) (.s 0 0)) (.b false) := kEqS (isX h) (isSx (l := []) 0 0 rfl) (nilF (by rw [List.length_replicate]; omega))
theorem neZ {C : Cx} {i : Nat} {E : Int} (h : C.nu i = St' (List.replicate (Int.toNat E) 0)) (h1 : 1 ≤ E) : HOk C (.bin .neq (.x i) (.s 0 0)) (.b true) := kNeS (isX h) (isSx (l := []) 0 0 rfl) (bnT (nilF (by rw [List.length_replicate]; omega)))
theorem rm3 {C : Cx} {i m : Nat} {a : Int} (h : C.nu i = .int .u16 a) (h2 : C.nu m = .int .u16 (a % 3000)) (h1 : 0 ≤ a) : HOk C (.bin .rem (.x i) (.i .u16 (.ofNat 3000))) (.x m) := kRem (isX h) (isZ (m := 3000) rfl) (denX h2) h1 (by omega) rfl
theorem rmV {C : Cx} {i j m : Nat} {a b : Int} (h : C.nu i = .int .i64 a) (h3 : C.nu j = .int .i64 b) (h2 : C.nu m = .int .i64 (a % b)) (h1 : 0 ≤ a ∧ 0 < b) : HOk C (.bin .rem (.x i) (.x j)) (.x m) := kRem (isX h) (isX h3) (denX h2) h1.1 h1.2 rfl
theorem ngV {C : Cx} {i m : Nat} {a b : Int} (h : C.nu i = .int .i64 a) (h2 : C.nu m = .int .i64 b) (h1 : -1000000 ≤ a ∧ a ≤ 1000000 ∧ b = -a) : HOk C (.un .neg (.x i)) (.x m) := kNeg (isX h) (denX h2) (by omega) (fI64 (by omega) (by omega))
noncomputable def tabQ (hy : LK) (a b c d : LF) : Tab := addLps (addLps ({ tabk with hyp := hy }) 7 fi7 [a, b, c]) 29 fi29 [d]
noncomputable def tabU (hy : LK) (a b d : LF) : Tab := addLps (addLps ({ tabk with hyp := hy }) 7 fi7 [a, b]) 29 fi29 [d]
theorem fiQ (hy : LK) (a b c d : LF) : (tabQ hy a b c d).fn.get 3 = some fi3 := get_lps2 (by omega) (by omega) (get_lps2 (by omega) (by omega) fi3_at)
theorem fiU (hy : LK) (a b d : LF) : (tabU hy a b d).fn.get 3 = some fi3 := get_lps2 (by omega) (by omega) (get_lps2 (by omega) (by omega) fi3_at)
theorem lpD {nu : Nat → Value} {one : ∀ i, i < 1000000 → (nu i).oneCell' = true} {l : LF} (hk : l.key = 2) (hm : (isMk l || isCf l) = false) (h : LfOk (cx nu one 1 laidE laidE_stab) bodyD l) : LpKnown (cx nu one 1 laidE laidE_stab) (Tryz.f7.body.getD .skip) l := lpKnown hm ⟨0, by rw [hk]; exact keyD, h⟩
theorem lpC {nu : Nat → Value} {one : ∀ i, i < 1000000 → (nu i).oneCell' = true} {l : LF} (hk : l.key = 5) (hm : (isMk l || isCf l) = false) (h : LfOk (cx nu one 1 laidE laidE_stab) bodyC l) : LpKnown (cx nu one 1 laidE laidE_stab) (Tryz.f29.body.getD .skip) l := lpKnown hm ⟨0, by rw [hk]; exact keyC, h⟩
theorem finQ {nu : Nat → Value} {one : ∀ i, i < 1000000 → (nu i).oneCell' = true} {hy : LK} {a b c d : LF} {n body : Int} (h0 : nu 0 = .int .u16 n) (h1 : nu 1 = .int .u16 body) (ho : ∀ k r, (k, r) ∈ hy → HOk (cx nu one 1 laidE laidE_stab) k r) (hr : ∀ e, Go.AX.okB (call (tabQ hy a b c d) 9000 3 [.x 0, .x 1] ⟨H0 e , 2, 0, 0⟩) = true) (ka : a.key = 2) (ma : (isMk a || isCf a) = false) (A : LfOk (cx nu one 1 laidE laidE_stab) bodyD a) (kb : b.key = 2) (mb : (isMk b || isCf b) = false) (B : LfOk (cx nu one 1 laidE laidE_stab) bodyD b) (kc : c.key = 2) (mc : (isMk c || isCf c) = false) (Cc : LfOk (cx nu one 1 laidE laidE_stab) bodyD c) (kd : d.key = 5) (md : (isMk d || isCf d) = false) (D : LfOk (cx nu one 1 laidE laidE_stab) bodyC d) (w : World) (hl : laidE w) : CwR 3 #[.int .u16 n, .int .u16 body] w (.bool true) :=
  runP (tb := tabQ hy a b c d) (AllOk.lp1 (AllOk.lp1 ((tabkOk nu one).hyps ho) (by omega) fi7_at fi7_body (lfCons (lpD ka ma A) (lfCons (lpD kb mb B) (lfCons (lpD kc mc Cc) lfNil)))) (by omega) (get_lps2 (by omega) (by omega) fi29_at) fi29_body (lfCons (lpC kd md D) lfNil)) rfl (fiQ hy a b c d) fiB3 hr (args := [.int .u16 n, .int .u16 body]) (by simp only [RelL, Rel]; exact ⟨_, _, rfl, h0.symm, ⟨_, _, rfl, h1.symm, rfl⟩⟩) w hl
theorem finU {nu : Nat → Value} {one : ∀ i, i < 1000000 → (nu i).oneCell' = true} {hy : LK} {a b d : LF} {n body : Int} (h0 : nu 0 = .int .u16 n) (h1 : nu 1 = .int .u16 body) (ho : ∀ k r, (k, r) ∈ hy → HOk (cx nu one 1 laidE laidE_stab) k r) (hr : ∀ e, Go.AX.okB (call (tabU hy a b d) 9000 3 [.x 0, .x 1] ⟨H0 e , 2, 0, 0⟩) = true) (ka : a.key = 2) (ma : (isMk a || isCf a) = false) (A : LfOk (cx nu one 1 laidE laidE_stab) bodyD a) (kb : b.key = 2) (mb : (isMk b || isCf b) = false) (B : LfOk (cx nu one 1 laidE laidE_stab) bodyD b) (kd : d.key = 5) (md : (isMk d || isCf d) = false) (D : LfOk (cx nu one 1 laidE laidE_stab) bodyC d) (w : World) (hl : laidE w) : CwR 3 #[.int .u16 n, .int .u16 body] w (.bool true) :=
  runP (tb := tabU hy a b d) (AllOk.lp1 (AllOk.lp1 ((tabkOk nu one).hyps ho) (by omega) fi7_at fi7_body (lfCons (lpD ka ma A) (lfCons (lpD kb mb B) lfNil))) (by omega) (get_lps2 (by omega) (by omega) fi29_at) fi29_body (lfCons (lpC kd md D) lfNil)) rfl (fiU hy a b d) fiB3 hr (args := [.int .u16 n, .int .u16 body]) (by simp only [RelL, Rel]; exact ⟨_, _, rfl, h0.symm, ⟨_, _, rfl, h1.symm, rfl⟩⟩) w hl
def zr0 (body : Int) : LB := []
def pd0 (body : Int) : Int := 0
theorem pf0 (body : Int) : Z5.length = 512 ∧ (zr0 body).length ≤ 512 ∧ 0 ≤ pd0 body ∧ pd0 body ≤ 7 := by
  refine ⟨List.length_replicate .., ?_, by unfold pd0; omega, by unfold pd0; omega⟩
  unfold zr0
  first | exact Nat.zero_le _ | (rw [List.length_replicate]; omega)
noncomputable def AL0 (body : Int) : LB := AL Z5 (zr0 body) (pd0 body) 0
noncomputable def TT0 (body : Int) (J : Nat) (N : Int) : LB := TT Z5 (zr0 body) (pd0 body) 0 J N
noncomputable def RR0 (body : Int) (J : Nat) (N : Int) : LB := RR Z5 (zr0 body) (pd0 body) 0 J N
noncomputable def LC0 (body : Int) (j : Nat) : Int := LC Z5 (zr0 body) (pd0 body) 0 j
noncomputable def NN0 (n body : Int) : Int := (n % (((AL0 body).length : Int) + 1)) + 1
theorem em0 (n body : Int) : 0 ≤ n % (((AL0 body).length : Int) + 1) ∧ n % (((AL0 body).length : Int) + 1) < ((AL0 body).length : Int) + 1 := ⟨Int.emod_nonneg n (by omega), Int.emod_lt_of_pos n (by omega)⟩
def hp0 : LK := [(.bin .rem (.x 1) (.i .u16 (.ofNat 3000)), .x 2), (.conv 3 (.x 2), .x 3), (.zer (.x 3), .x 4), (.len (.x 4), .x 5), (.bin .gtr (.x 5) (i6 512), .b false), (.bin .neq (.x 4) (.s 0 0), .b false)]
def pn0 (n body : Int) : List Value := [.int .u16 (n), .int .u16 (body), .int .u16 (body % 3000), .int .i64 ((body % 3000)), St' (List.replicate (Int.toNat ((body % 3000))) 0), .int .i64 ((body % 3000))]
theorem al0 (body : Int) : 24 ≤ (AL0 body).length ∧ (AL0 body).length ≤ 4752 := AL_len Z5 (zr0 body) (pd0 body) (pf0 body).1 (pf0 body).2.1 (pf0 body).2.2.1 (pf0 body).2.2.2 0 (by decide)
theorem lc0 (body : Int) : LC0 body 0 = 0 := LC_0 Z5 (zr0 body) (pd0 body) 0
theorem jk0 (body : Int) (J : Nat) (N : Int) (hJ : J ≤ 3) (lo : 1 ≤ J → LC0 body (J - 1) < N) (hi : N ≤ LC0 body J ∨ J = 3) : JOk (fK Z5 (zr0 body) (pd0 body) 0) [] N 3 J := jok Z5 (zr0 body) (pd0 body) 0 J N hJ lo hi
theorem tt0 (body : Int) (J : Nat) (N : Int) (N1 : 1 ≤ N) (h : JOk (fK Z5 (zr0 body) (pd0 body) 0) [] N 3 J) : 1 ≤ (TT0 body J N).length ∧ (TT0 body J N).length ≤ 4752 ∧ (RR0 body J N).length ≤ 528 ∧ (RR0 body J N ++ abS).length = (RR0 body J N).length + 8 := by
  have := TT_len Z5 (zr0 body) (pd0 body) (pf0 body).1 (pf0 body).2.1 (pf0 body).2.2.1 (pf0 body).2.2.2 0 J N N1 (by decide) h
  exact ⟨this.1, this.2.1, this.2.2, List.length_append ..⟩
theorem dW0 {nu : Nat → Value} {one : ∀ i, i < 1000000 → (nu i).oneCell' = true} {l : LF} {h : LH} (body : Int) (hl : l.hp = some h) (hsm : lfSame l h 47 [] (.exit 0) 2 100 290 = true)  {sg0 : List (Nat × Nat)} {t rr : Nat} (h0 : startOk l h 47 100 110 [(1, .i .i64 (.ofNat 1000000)), (2, .s 0 0), (3, .s 512 0), (4, .s 0 0), (5, .i .i64 (.ofNat 0))] sg0 (epD 24 100) (stD 24 22 23 100 0 0 0) = true) (ht : nu t = St' (AL0 body)) (hrr : nu rr = St' (([] : LB))) (hx : exitOk l h 47 100 290 [(t, .x 0), (rr, .x 2)] (epDX 100) (stD 24 22 23 100 0 3 1) = true) : LfOk (cx nu one 1 laidE laidE_stab) bodyD l :=
  lfOkD Z5 (zr0 body) (pd0 body) (pf0 body).1 (pf0 body).2.1 (pf0 body).2.2.1 (pf0 body).2.2.2 24 100 (stD 24 22 23 100 0) (kdF 0) (kdF_le 0) 3 (by decide) (by decide) [] (Nat.zero_le _) 1000000 (by omega) (by omega) 3 (jokW Z5 (zr0 body) (pd0 body) (pf0 body).1 (pf0 body).2.1 (pf0 body).2.2.1 (pf0 body).2.2.2 0 (by decide)) (eA1 wA0) (a1_of (eA2 wA0) (by decide)) (fun h => absurd rfl h) (x1_of (eA1 wX0)) (eA2 wX0) hl hsm (isZ (m := 1000000) rfl) (isSx (l := []) 0 0 rfl) (isSx (l := Z5) 512 0 (strB_zero 512)) (isSx (l := []) 0 0 rfl) (isZ (m := 0) rfl) h0 (thx2 (ht.trans (congrArg (fun l => St' l) ((AL_tk Z5 (zr0 body) (pd0 body) (pf0 body).1 (pf0 body).2.1 (pf0 body).2.2.1 (pf0 body).2.2.2 0 (by decide)).1))) (hrr.trans (congrArg (fun l => St' l) ((AL_tk Z5 (zr0 body) (pd0 body) (pf0 body).1 (pf0 body).2.1 (pf0 body).2.2.1 (pf0 body).2.2.2 0 (by decide)).2)))) hx
theorem dD0 {nu : Nat → Value} {one : ∀ i, i < 1000000 → (nu i).oneCell' = true} {l : LF} {h : LH} (body : Int) (N : Int) (N1 : 1 ≤ N) (N2 : N ≤ 1000000) (J : Nat) (hjk : JOk (fK Z5 (zr0 body) (pd0 body) 0) [] N 3 J) (hl : l.hp = some h) (hsm : lfSame l h 47 [] (.exit 0) 2 320 510 = true) {ni : Nat} (hn : nu ni = .int .i64 N)  {sg0 : List (Nat × Nat)} {t rr : Nat} (h0 : startOk l h 47 320 330 [(1, .x ni), (2, .s 0 0), (3, .s 512 0), (4, .s 0 0), (5, .i .i64 (.ofNat 0))] sg0 (epD 4 320) (stD 4 2 3 320 0 0 0) = true) (ht : nu t = St' (TT0 body J N)) (hrr : nu rr = St' (RR0 body J N)) (hx : exitOk l h 47 320 510 [(t, .x 0), (rr, .x 2)] (epDX 320) (stD 4 2 3 320 0 J 1) = true) : LfOk (cx nu one 1 laidE laidE_stab) bodyD l :=
  lfOkD Z5 (zr0 body) (pd0 body) (pf0 body).1 (pf0 body).2.1 (pf0 body).2.2.1 (pf0 body).2.2.2 4 320 (stD 4 2 3 320 0) (kdF 0) (kdF_le 0) 3 (by decide) (by decide) [] (Nat.zero_le _) N N1 N2 J hjk (eA1 dA0) (a1_of (eA2 dA0) (by decide)) (fun h => absurd rfl h) (x1_of (eA1 dX0)) (eA2 dX0) hl hsm (isX hn) (isSx (l := []) 0 0 rfl) (isSx (l := Z5) 512 0 (strB_zero 512)) (isSx (l := []) 0 0 rfl) (isZ (m := 0) rfl) h0 (thx2 (ht.trans (congrArg (fun l => St' l) (TT_eq Z5 (zr0 body) (pd0 body) 0 J N))) (hrr.trans (congrArg (fun l => St' l) (RR_eq Z5 (zr0 body) (pd0 body) 0 J N)))) hx
theorem cJ0 (body : Int) (J : Nat) (N : Int) (h : Nat.beq J (Nat.add 3 0) = false) : TT0 body J N ++ (RR0 body J N ++ abS) = cat Z5 (zr0 body) (pd0 body) (ksT 0 J) := catJ Z5 (zr0 body) (pd0 body) 0 J N h
theorem cK0 (body : Int) (J : Nat) (N : Int) (h : Nat.beq J (Nat.add 3 0) = true) : TT0 body J N ++ RR0 body J N = cat Z5 (zr0 body) (pd0 body) (ksT 0 J) := catK Z5 (zr0 body) (pd0 body) 0 J N h
theorem cO0 (body : Int) (J : Nat) (N : Int) (h : Nat.beq J (Nat.add 3 0) = true) (h0 : (RR0 body J N).length = 0) : TT0 body J N = cat Z5 (zr0 body) (pd0 body) (ksT 0 J) := catK0 Z5 (zr0 body) (pd0 body) 0 J N h h0
theorem cC0 {nu : Nat → Value} {one : ∀ i, i < 1000000 → (nu i).oneCell' = true} {l : LF} {h : LH} (body : Int) (J L : Nat) (hle : (ksT 0 J).length ≤ 20) (hL : (ksT 0 J).length = L) (RX : (allN (rnC (ksT 0 J)) 0 L && rxC (ksT 0 J)) = true) (hl : l.hp = some h) (hsm : lfSame l h 87 [] .ret 2 1000 1060 = true) {xs : Nat} {x : LB} {sg0 : List (Nat × Nat)} (hx : nu xs = St' x) (he : x = cat Z5 (zr0 body) (pd0 body) (ksT 0 J)) (h0 : startOk l h 87 1000 1010 [(0, .x xs)] sg0 (epC 0) (hpC (ksT 0 J) 0) = true) {thx : LA} (hthx : ThOk (EC Z5 (zr0 body) (pd0 body)) (cx nu one 1 laidE laidE_stab) thx) (hxx : exitOk l h 87 1000 1060 thx (epCX (ksT 0 J)) [rowK (.x 20) (.x 21) (.x 22) (ksT 0 J)] = true) : LfOk (cx nu one 1 laidE laidE_stab) bodyC l :=
  lfOkC Z5 (zr0 body) (pd0 body) (pf0 body).1 (pf0 body).2.1 (pf0 body).2.2.1 (pf0 body).2.2.2 (ksT 0 J) (ks_le 0 J) hle L hL RX hl hsm (hx.trans (congrArg (fun l => St' l) he)) h0 hthx hxx
def zr1 (body : Int) : LB := (List.replicate (Int.toNat ((body % 3000))) 0)
def pd1 (body : Int) : Int := ((-((body % 3000))) % 8)
theorem pf1 (body : Int) (hb : 1 ≤ body % 3000 ∧ body % 3000 ≤ 512) : Z5.length = 512 ∧ (zr1 body).length ≤ 512 ∧ 0 ≤ pd1 body ∧ pd1 body ≤ 7 := by
  refine ⟨List.length_replicate .., ?_, by unfold pd1; omega, by unfold pd1; omega⟩
  unfold zr1
  first | exact Nat.zero_le _ | (rw [List.length_replicate]; omega)
noncomputable def AL1 (body : Int) : LB := AL Z5 (zr1 body) (pd1 body) 1
noncomputable def TT1 (body : Int) (J : Nat) (N : Int) : LB := TT Z5 (zr1 body) (pd1 body) 1 J N
noncomputable def RR1 (body : Int) (J : Nat) (N : Int) : LB := RR Z5 (zr1 body) (pd1 body) 1 J N
noncomputable def LC1 (body : Int) (j : Nat) : Int := LC Z5 (zr1 body) (pd1 body) 1 j
noncomputable def NN1 (n body : Int) : Int := (n % (((AL1 body).length : Int) + 1)) + 1
theorem em1 (n body : Int) : 0 ≤ n % (((AL1 body).length : Int) + 1) ∧ n % (((AL1 body).length : Int) + 1) < ((AL1 body).length : Int) + 1 := ⟨Int.emod_nonneg n (by omega), Int.emod_lt_of_pos n (by omega)⟩
def hp1 : LK := [(.bin .rem (.x 1) (.i .u16 (.ofNat 3000)), .x 2), (.conv 3 (.x 2), .x 3), (.zer (.x 3), .x 4), (.len (.x 4), .x 5), (.bin .gtr (.x 5) (i6 512), .b false), (.bin .neq (.x 4) (.s 0 0), .b true), (.mm true (.x 5) (i6 0), .x 6), (.un .neg (.x 6), .x 7), (.bin .and (.x 7) (i6 7), .x 8)]
def pn1 (n body : Int) : List Value := [.int .u16 (n), .int .u16 (body), .int .u16 (body % 3000), .int .i64 ((body % 3000)), St' (List.replicate (Int.toNat ((body % 3000))) 0), .int .i64 ((body % 3000)), .int .i64 ((body % 3000)), .int .i64 (-((body % 3000))), .int .i64 ((-((body % 3000))) % 8)]
theorem al1 (body : Int) (hb : 1 ≤ body % 3000 ∧ body % 3000 ≤ 512) : 24 ≤ (AL1 body).length ∧ (AL1 body).length ≤ 4752 := AL_len Z5 (zr1 body) (pd1 body) (pf1 body hb).1 (pf1 body hb).2.1 (pf1 body hb).2.2.1 (pf1 body hb).2.2.2 1 (by decide)
theorem lc1 (body : Int) : LC1 body 0 = 0 := LC_0 Z5 (zr1 body) (pd1 body) 1
theorem jk1 (body : Int) (J : Nat) (N : Int) (hJ : J ≤ 4) (lo : 1 ≤ J → LC1 body (J - 1) < N) (hi : N ≤ LC1 body J ∨ J = 4) : JOk (fK Z5 (zr1 body) (pd1 body) 1) [] N 4 J := jok Z5 (zr1 body) (pd1 body) 1 J N hJ lo hi
theorem tt1 (body : Int) (hb : 1 ≤ body % 3000 ∧ body % 3000 ≤ 512) (J : Nat) (N : Int) (N1 : 1 ≤ N) (h : JOk (fK Z5 (zr1 body) (pd1 body) 1) [] N 4 J) : 1 ≤ (TT1 body J N).length ∧ (TT1 body J N).length ≤ 4752 ∧ (RR1 body J N).length ≤ 528 ∧ (RR1 body J N ++ abS).length = (RR1 body J N).length + 8 := by
  have := TT_len Z5 (zr1 body) (pd1 body) (pf1 body hb).1 (pf1 body hb).2.1 (pf1 body hb).2.2.1 (pf1 body hb).2.2.2 1 J N N1 (by decide) h
  exact ⟨this.1, this.2.1, this.2.2, List.length_append ..⟩
theorem dW1 {nu : Nat → Value} {one : ∀ i, i < 1000000 → (nu i).oneCell' = true} {l : LF} {h : LH} (body : Int) (hb : 1 ≤ body % 3000 ∧ body % 3000 ≤ 512) (hl : l.hp = some h) (hsm : lfSame l h 47 [] (.exit 0) 2 100 290 = true) {ri pi : Nat} (hri : nu ri = St' (zr1 body)) (hpi : nu pi = .int .i64 (pd1 body)) {sg0 : List (Nat × Nat)} {t rr : Nat} (h0 : startOk l h 47 100 110 [(1, .i .i64 (.ofNat 1000000)), (2, .s 0 0), (3, .s 512 0), (4, .x ri), (5, .x pi)] sg0 (epD 27 100) (stD 27 25 26 100 1 0 0) = true) (ht : nu t = St' (AL1 body)) (hrr : nu rr = St' (([] : LB))) (hx : exitOk l h 47 100 290 [(t, .x 0), (rr, .x 2), (ri, .x 4), (pi, .x 5)] (epDX 100) (stD 27 25 26 100 1 4 1) = true) : LfOk (cx nu one 1 laidE laidE_stab) bodyD l :=
  lfOkD Z5 (zr1 body) (pd1 body) (pf1 body hb).1 (pf1 body hb).2.1 (pf1 body hb).2.2.1 (pf1 body hb).2.2.2 27 100 (stD 27 25 26 100 1) (kdF 1) (kdF_le 1) 4 (by decide) (by decide) [] (Nat.zero_le _) 1000000 (by omega) (by omega) 4 (jokW Z5 (zr1 body) (pd1 body) (pf1 body hb).1 (pf1 body hb).2.1 (pf1 body hb).2.2.1 (pf1 body hb).2.2.2 1 (by decide)) (eA1 wA1) (a1_of (eA2 wA1) (by decide)) (fun h => absurd rfl h) (x1_of (eA1 wX1)) (eA2 wX1) hl hsm (isZ (m := 1000000) rfl) (isSx (l := []) 0 0 rfl) (isSx (l := Z5) 512 0 (strB_zero 512)) (isX hri) (isX hpi) h0 (thx4 (ht.trans (congrArg (fun l => St' l) ((AL_tk Z5 (zr1 body) (pd1 body) (pf1 body hb).1 (pf1 body hb).2.1 (pf1 body hb).2.2.1 (pf1 body hb).2.2.2 1 (by decide)).1))) (hrr.trans (congrArg (fun l => St' l) ((AL_tk Z5 (zr1 body) (pd1 body) (pf1 body hb).1 (pf1 body hb).2.1 (pf1 body hb).2.2.1 (pf1 body hb).2.2.2 1 (by decide)).2))) hri hpi) hx
theorem dD1 {nu : Nat → Value} {one : ∀ i, i < 1000000 → (nu i).oneCell' = true} {l : LF} {h : LH} (body : Int) (hb : 1 ≤ body % 3000 ∧ body % 3000 ≤ 512) (N : Int) (N1 : 1 ≤ N) (N2 : N ≤ 1000000) (J : Nat) (hjk : JOk (fK Z5 (zr1 body) (pd1 body) 1) [] N 4 J) (hl : l.hp = some h) (hsm : lfSame l h 47 [] (.exit 0) 2 320 510 = true) {ni : Nat} (hn : nu ni = .int .i64 N) {ri pi : Nat} (hri : nu ri = St' (zr1 body)) (hpi : nu pi = .int .i64 (pd1 body)) {sg0 : List (Nat × Nat)} {t rr : Nat} (h0 : startOk l h 47 320 330 [(1, .x ni), (2, .s 0 0), (3, .s 512 0), (4, .x ri), (5, .x pi)] sg0 (epD 4 320) (stD 4 2 3 320 1 0 0) = true) (ht : nu t = St' (TT1 body J N)) (hrr : nu rr = St' (RR1 body J N)) (hx : exitOk l h 47 320 510 [(t, .x 0), (rr, .x 2), (ri, .x 4), (pi, .x 5)] (epDX 320) (stD 4 2 3 320 1 J 1) = true) : LfOk (cx nu one 1 laidE laidE_stab) bodyD l :=
  lfOkD Z5 (zr1 body) (pd1 body) (pf1 body hb).1 (pf1 body hb).2.1 (pf1 body hb).2.2.1 (pf1 body hb).2.2.2 4 320 (stD 4 2 3 320 1) (kdF 1) (kdF_le 1) 4 (by decide) (by decide) [] (Nat.zero_le _) N N1 N2 J hjk (eA1 dA1) (a1_of (eA2 dA1) (by decide)) (fun h => absurd rfl h) (x1_of (eA1 dX1)) (eA2 dX1) hl hsm (isX hn) (isSx (l := []) 0 0 rfl) (isSx (l := Z5) 512 0 (strB_zero 512)) (isX hri) (isX hpi) h0 (thx4 (ht.trans (congrArg (fun l => St' l) (TT_eq Z5 (zr1 body) (pd1 body) 1 J N))) (hrr.trans (congrArg (fun l => St' l) (RR_eq Z5 (zr1 body) (pd1 body) 1 J N))) hri hpi) hx
theorem cJ1 (body : Int) (J : Nat) (N : Int) (h : Nat.beq J (Nat.add 3 1) = false) : TT1 body J N ++ (RR1 body J N ++ abS) = cat Z5 (zr1 body) (pd1 body) (ksT 1 J) := catJ Z5 (zr1 body) (pd1 body) 1 J N h
theorem cK1 (body : Int) (J : Nat) (N : Int) (h : Nat.beq J (Nat.add 3 1) = true) : TT1 body J N ++ RR1 body J N = cat Z5 (zr1 body) (pd1 body) (ksT 1 J) := catK Z5 (zr1 body) (pd1 body) 1 J N h
theorem cO1 (body : Int) (J : Nat) (N : Int) (h : Nat.beq J (Nat.add 3 1) = true) (h0 : (RR1 body J N).length = 0) : TT1 body J N = cat Z5 (zr1 body) (pd1 body) (ksT 1 J) := catK0 Z5 (zr1 body) (pd1 body) 1 J N h h0
theorem cC1 {nu : Nat → Value} {one : ∀ i, i < 1000000 → (nu i).oneCell' = true} {l : LF} {h : LH} (body : Int) (hb : 1 ≤ body % 3000 ∧ body % 3000 ≤ 512) (J L : Nat) (hle : (ksT 1 J).length ≤ 20) (hL : (ksT 1 J).length = L) (RX : (allN (rnC (ksT 1 J)) 0 L && rxC (ksT 1 J)) = true) (hl : l.hp = some h) (hsm : lfSame l h 87 [] .ret 2 1000 1060 = true) {xs : Nat} {x : LB} {sg0 : List (Nat × Nat)} (hx : nu xs = St' x) (he : x = cat Z5 (zr1 body) (pd1 body) (ksT 1 J)) (h0 : startOk l h 87 1000 1010 [(0, .x xs)] sg0 (epC 0) (hpC (ksT 1 J) 0) = true) {thx : LA} (hthx : ThOk (EC Z5 (zr1 body) (pd1 body)) (cx nu one 1 laidE laidE_stab) thx) (hxx : exitOk l h 87 1000 1060 thx (epCX (ksT 1 J)) [rowK (.x 20) (.x 21) (.x 22) (ksT 1 J)] = true) : LfOk (cx nu one 1 laidE laidE_stab) bodyC l :=
  lfOkC Z5 (zr1 body) (pd1 body) (pf1 body hb).1 (pf1 body hb).2.1 (pf1 body hb).2.2.1 (pf1 body hb).2.2.2 (ksT 1 J) (ks_le 1 J) hle L hL RX hl hsm (hx.trans (congrArg (fun l => St' l) he)) h0 hthx hxx
def zr2 (body : Int) : LB := (List.replicate (Int.toNat ((body % 3000) - 512)) 0)
def pd2 (body : Int) : Int := ((512 - (body % 3000)) % 8)
theorem pf2 (body : Int) (hb : 1 ≤ body % 3000 - 512 ∧ body % 3000 - 512 ≤ 512) : Z5.length = 512 ∧ (zr2 body).length ≤ 512 ∧ 0 ≤ pd2 body ∧ pd2 body ≤ 7 := by
  refine ⟨List.length_replicate .., ?_, by unfold pd2; omega, by unfold pd2; omega⟩
  unfold zr2
  first | exact Nat.zero_le _ | (rw [List.length_replicate]; omega)
noncomputable def AL2 (body : Int) : LB := AL Z5 (zr2 body) (pd2 body) 2
noncomputable def TT2 (body : Int) (J : Nat) (N : Int) : LB := TT Z5 (zr2 body) (pd2 body) 2 J N
noncomputable def RR2 (body : Int) (J : Nat) (N : Int) : LB := RR Z5 (zr2 body) (pd2 body) 2 J N
noncomputable def LC2 (body : Int) (j : Nat) : Int := LC Z5 (zr2 body) (pd2 body) 2 j
noncomputable def NN2 (n body : Int) : Int := (n % (((AL2 body).length : Int) + 1)) + 1
theorem em2 (n body : Int) : 0 ≤ n % (((AL2 body).length : Int) + 1) ∧ n % (((AL2 body).length : Int) + 1) < ((AL2 body).length : Int) + 1 := ⟨Int.emod_nonneg n (by omega), Int.emod_lt_of_pos n (by omega)⟩
def hp2 : LK := [(.bin .rem (.x 1) (.i .u16 (.ofNat 3000)), .x 2), (.conv 3 (.x 2), .x 3), (.zer (.x 3), .x 4), (.len (.x 4), .x 5), (.bin .gtr (.x 5) (i6 512), .b true), (.sub (.x 4) none (some (i6 512)), .x 6), (.len (.x 6), i6 512), (.sub (.x 4) (some (i6 512)) none, .x 7), (.len (.x 7), .x 8), (.bin .gtr (.x 8) (i6 512), .b false), (.bin .neq (.x 7) (.s 0 0), .b true), (.mm true (.x 8) (i6 0), .x 9), (.un .neg (.x 9), .x 10), (.bin .and (.x 10) (i6 7), .x 11)]
def pn2 (n body : Int) : List Value := [.int .u16 (n), .int .u16 (body), .int .u16 (body % 3000), .int .i64 ((body % 3000)), St' (List.replicate (Int.toNat ((body % 3000))) 0), .int .i64 ((body % 3000)), St' (List.replicate (Int.toNat (512)) 0), St' (List.replicate (Int.toNat ((body % 3000) - 512)) 0), .int .i64 ((body % 3000) - 512), .int .i64 ((body % 3000) - 512), .int .i64 (512 - (body % 3000)), .int .i64 ((512 - (body % 3000)) % 8)]
theorem al2 (body : Int) (hb : 1 ≤ body % 3000 - 512 ∧ body % 3000 - 512 ≤ 512) : 24 ≤ (AL2 body).length ∧ (AL2 body).length ≤ 4752 := AL_len Z5 (zr2 body) (pd2 body) (pf2 body hb).1 (pf2 body hb).2.1 (pf2 body hb).2.2.1 (pf2 body hb).2.2.2 2 (by decide)
theorem lc2 (body : Int) : LC2 body 0 = 0 := LC_0 Z5 (zr2 body) (pd2 body) 2
theorem jk2 (body : Int) (J : Nat) (N : Int) (hJ : J ≤ 5) (lo : 1 ≤ J → LC2 body (J - 1) < N) (hi : N ≤ LC2 body J ∨ J = 5) : JOk (fK Z5 (zr2 body) (pd2 body) 2) [] N 5 J := jok Z5 (zr2 body) (pd2 body) 2 J N hJ lo hi
theorem tt2 (body : Int) (hb : 1 ≤ body % 3000 - 512 ∧ body % 3000 - 512 ≤ 512) (J : Nat) (N : Int) (N1 : 1 ≤ N) (h : JOk (fK Z5 (zr2 body) (pd2 body) 2) [] N 5 J) : 1 ≤ (TT2 body J N).length ∧ (TT2 body J N).length ≤ 4752 ∧ (RR2 body J N).length ≤ 528 ∧ (RR2 body J N ++ abS).length = (RR2 body J N).length + 8 := by
  have := TT_len Z5 (zr2 body) (pd2 body) (pf2 body hb).1 (pf2 body hb).2.1 (pf2 body hb).2.2.1 (pf2 body hb).2.2.2 2 J N N1 (by decide) h
  exact ⟨this.1, this.2.1, this.2.2, List.length_append ..⟩
theorem dW2 {nu : Nat → Value} {one : ∀ i, i < 1000000 → (nu i).oneCell' = true} {l : LF} {h : LH} (body : Int) (hb : 1 ≤ body % 3000 - 512 ∧ body % 3000 - 512 ≤ 512) (hl : l.hp = some h) (hsm : lfSame l h 47 [] (.exit 0) 2 100 290 = true) {zi ri pi : Nat} (hzi : nu zi = St' Z5) (hri : nu ri = St' (zr2 body)) (hpi : nu pi = .int .i64 (pd2 body)) {sg0 : List (Nat × Nat)} {t rr : Nat} (h0 : startOk l h 47 100 110 [(1, .i .i64 (.ofNat 1000000)), (2, .s 0 0), (3, .x zi), (4, .x ri), (5, .x pi)] sg0 (epD 30 100) (stD 30 28 29 100 2 0 0) = true) (ht : nu t = St' (AL2 body)) (hrr : nu rr = St' (([] : LB))) (hx : exitOk l h 47 100 290 [(t, .x 0), (rr, .x 2), (zi, .x 3), (ri, .x 4), (pi, .x 5)] (epDX 100) (stD 30 28 29 100 2 5 1) = true) : LfOk (cx nu one 1 laidE laidE_stab) bodyD l :=
  lfOkD Z5 (zr2 body) (pd2 body) (pf2 body hb).1 (pf2 body hb).2.1 (pf2 body hb).2.2.1 (pf2 body hb).2.2.2 30 100 (stD 30 28 29 100 2) (kdF 2) (kdF_le 2) 5 (by decide) (by decide) [] (Nat.zero_le _) 1000000 (by omega) (by omega) 5 (jokW Z5 (zr2 body) (pd2 body) (pf2 body hb).1 (pf2 body hb).2.1 (pf2 body hb).2.2.1 (pf2 body hb).2.2.2 2 (by decide)) (eA1 wA2) (a1_of (eA2 wA2) (by decide)) (fun h => absurd rfl h) (x1_of (eA1 wX2)) (eA2 wX2) hl hsm (isZ (m := 1000000) rfl) (isSx (l := []) 0 0 rfl) (isX hzi) (isX hri) (isX hpi) h0 (thx5 (ht.trans (congrArg (fun l => St' l) ((AL_tk Z5 (zr2 body) (pd2 body) (pf2 body hb).1 (pf2 body hb).2.1 (pf2 body hb).2.2.1 (pf2 body hb).2.2.2 2 (by decide)).1))) (hrr.trans (congrArg (fun l => St' l) ((AL_tk Z5 (zr2 body) (pd2 body) (pf2 body hb).1 (pf2 body hb).2.1 (pf2 body hb).2.2.1 (pf2 body hb).2.2.2 2 (by decide)).2))) hzi hri hpi) hx
theorem dD2 {nu : Nat → Value} {one : ∀ i, i < 1000000 → (nu i).oneCell' = true} {l : LF} {h : LH} (body : Int) (hb : 1 ≤ body % 3000 - 512 ∧ body % 3000 - 512 ≤ 512) (N : Int) (N1 : 1 ≤ N) (N2 : N ≤ 1000000) (J : Nat) (hjk : JOk (fK Z5 (zr2 body) (pd2 body) 2) [] N 5 J) (hl : l.hp = some h) (hsm : lfSame l h 47 [] (.exit 0) 2 320 510 = true) {ni : Nat} (hn : nu ni = .int .i64 N) {zi ri pi : Nat} (hzi : nu zi = St' Z5) (hri : nu ri = St' (zr2 body)) (hpi : nu pi = .int .i64 (pd2 body)) {sg0 : List (Nat × Nat)} {t rr : Nat} (h0 : startOk l h 47 320 330 [(1, .x ni), (2, .s 0 0), (3, .x zi), (4, .x ri), (5, .x pi)] sg0 (epD 4 320) (stD 4 2 3 320 2 0 0) = true) (ht : nu t = St' (TT2 body J N)) (hrr : nu rr = St' (RR2 body J N)) (hx : exitOk l h 47 320 510 [(t, .x 0), (rr, .x 2), (zi, .x 3), (ri, .x 4), (pi, .x 5)] (epDX 320) (stD 4 2 3 320 2 J 1) = true) : LfOk (cx nu one 1 laidE laidE_stab) bodyD l :=
  lfOkD Z5 (zr2 body) (pd2 body) (pf2 body hb).1 (pf2 body hb).2.1 (pf2 body hb).2.2.1 (pf2 body hb).2.2.2 4 320 (stD 4 2 3 320 2) (kdF 2) (kdF_le 2) 5 (by decide) (by decide) [] (Nat.zero_le _) N N1 N2 J hjk (eA1 dA2) (a1_of (eA2 dA2) (by decide)) (fun h => absurd rfl h) (x1_of (eA1 dX2)) (eA2 dX2) hl hsm (isX hn) (isSx (l := []) 0 0 rfl) (isX hzi) (isX hri) (isX hpi) h0 (thx5 (ht.trans (congrArg (fun l => St' l) (TT_eq Z5 (zr2 body) (pd2 body) 2 J N))) (hrr.trans (congrArg (fun l => St' l) (RR_eq Z5 (zr2 body) (pd2 body) 2 J N))) hzi hri hpi) hx
theorem cJ2 (body : Int) (J : Nat) (N : Int) (h : Nat.beq J (Nat.add 3 2) = false) : TT2 body J N ++ (RR2 body J N ++ abS) = cat Z5 (zr2 body) (pd2 body) (ksT 2 J) := catJ Z5 (zr2 body) (pd2 body) 2 J N h
theorem cK2 (body : Int) (J : Nat) (N : Int) (h : Nat.beq J (Nat.add 3 2) = true) : TT2 body J N ++ RR2 body J N = cat Z5 (zr2 body) (pd2 body) (ksT 2 J) := catK Z5 (zr2 body) (pd2 body) 2 J N h
theorem cO2 (body : Int) (J : Nat) (N : Int) (h : Nat.beq J (Nat.add 3 2) = true) (h0 : (RR2 body J N).length = 0) : TT2 body J N = cat Z5 (zr2 body) (pd2 body) (ksT 2 J) := catK0 Z5 (zr2 body) (pd2 body) 2 J N h h0
theorem cC2 {nu : Nat → Value} {one : ∀ i, i < 1000000 → (nu i).oneCell' = true} {l : LF} {h : LH} (body : Int) (hb : 1 ≤ body % 3000 - 512 ∧ body % 3000 - 512 ≤ 512) (J L : Nat) (hle : (ksT 2 J).length ≤ 20) (hL : (ksT 2 J).length = L) (RX : (allN (rnC (ksT 2 J)) 0 L && rxC (ksT 2 J)) = true) (hl : l.hp = some h) (hsm : lfSame l h 87 [] .ret 2 1000 1060 = true) {xs : Nat} {x : LB} {sg0 : List (Nat × Nat)} (hx : nu xs = St' x) (he : x = cat Z5 (zr2 body) (pd2 body) (ksT 2 J)) (h0 : startOk l h 87 1000 1010 [(0, .x xs)] sg0 (epC 0) (hpC (ksT 2 J) 0) = true) {thx : LA} (hthx : ThOk (EC Z5 (zr2 body) (pd2 body)) (cx nu one 1 laidE laidE_stab) thx) (hxx : exitOk l h 87 1000 1060 thx (epCX (ksT 2 J)) [rowK (.x 20) (.x 21) (.x 22) (ksT 2 J)] = true) : LfOk (cx nu one 1 laidE laidE_stab) bodyC l :=
  lfOkC Z5 (zr2 body) (pd2 body) (pf2 body hb).1 (pf2 body hb).2.1 (pf2 body hb).2.2.1 (pf2 body hb).2.2.2 (ksT 2 J) (ks_le 2 J) hle L hL RX hl hsm (hx.trans (congrArg (fun l => St' l) he)) h0 hthx hxx
def zr3 (body : Int) : LB := (List.replicate (Int.toNat ((body % 3000) - 1024)) 0)
def pd3 (body : Int) : Int := ((1024 - (body % 3000)) % 8)
theorem pf3 (body : Int) (hb : 1 ≤ body % 3000 - 1024 ∧ body % 3000 - 1024 ≤ 512) : Z5.length = 512 ∧ (zr3 body).length ≤ 512 ∧ 0 ≤ pd3 body ∧ pd3 body ≤ 7 := by
  refine ⟨List.length_replicate .., ?_, by unfold pd3; omega, by unfold pd3; omega⟩
  unfold zr3
  first | exact Nat.zero_le _ | (rw [List.length_replicate]; omega)
noncomputable def AL3 (body : Int) : LB := AL Z5 (zr3 body) (pd3 body) 3
noncomputable def TT3 (body : Int) (J : Nat) (N : Int) : LB := TT Z5 (zr3 body) (pd3 body) 3 J N
noncomputable def RR3 (body : Int) (J : Nat) (N : Int) : LB := RR Z5 (zr3 body) (pd3 body) 3 J N
noncomputable def LC3 (body : Int) (j : Nat) : Int := LC Z5 (zr3 body) (pd3 body) 3 j
noncomputable def NN3 (n body : Int) : Int := (n % (((AL3 body).length : Int) + 1)) + 1
theorem em3 (n body : Int) : 0 ≤ n % (((AL3 body).length : Int) + 1) ∧ n % (((AL3 body).length : Int) + 1) < ((AL3 body).length : Int) + 1 := ⟨Int.emod_nonneg n (by omega), Int.emod_lt_of_pos n (by omega)⟩
def hp3 : LK := [(.bin .rem (.x 1) (.i .u16 (.ofNat 3000)), .x 2), (.conv 3 (.x 2), .x 3), (.zer (.x 3), .x 4), (.len (.x 4), .x 5), (.bin .gtr (.x 5) (i6 512), .b true), (.sub (.x 4) none (some (i6 512)), .x 6), (.len (.x 6), i6 512), (.sub (.x 4) (some (i6 512)) none, .x 7), (.len (.x 7), .x 8), (.bin .gtr (.x 8) (i6 512), .b true), (.sub (.x 7) none (some (i6 512)), .x 6), (.sub (.x 7) (some (i6 512)) none, .x 9), (.len (.x 9), .x 10), (.bin .gtr (.x 10) (i6 512), .b false), (.bin .neq (.x 9) (.s 0 0), .b true), (.mm true (.x 10) (i6 0), .x 11), (.un .neg (.x 11), .x 12), (.bin .and (.x 12) (i6 7), .x 13)]
def pn3 (n body : Int) : List Value := [.int .u16 (n), .int .u16 (body), .int .u16 (body % 3000), .int .i64 ((body % 3000)), St' (List.replicate (Int.toNat ((body % 3000))) 0), .int .i64 ((body % 3000)), St' (List.replicate (Int.toNat (512)) 0), St' (List.replicate (Int.toNat ((body % 3000) - 512)) 0), .int .i64 ((body % 3000) - 512), St' (List.replicate (Int.toNat ((body % 3000) - 1024)) 0), .int .i64 ((body % 3000) - 1024), .int .i64 ((body % 3000) - 1024), .int .i64 (1024 - (body % 3000)), .int .i64 ((1024 - (body % 3000)) % 8)]
theorem al3 (body : Int) (hb : 1 ≤ body % 3000 - 1024 ∧ body % 3000 - 1024 ≤ 512) : 24 ≤ (AL3 body).length ∧ (AL3 body).length ≤ 4752 := AL_len Z5 (zr3 body) (pd3 body) (pf3 body hb).1 (pf3 body hb).2.1 (pf3 body hb).2.2.1 (pf3 body hb).2.2.2 3 (by decide)
theorem lc3 (body : Int) : LC3 body 0 = 0 := LC_0 Z5 (zr3 body) (pd3 body) 3
theorem jk3 (body : Int) (J : Nat) (N : Int) (hJ : J ≤ 6) (lo : 1 ≤ J → LC3 body (J - 1) < N) (hi : N ≤ LC3 body J ∨ J = 6) : JOk (fK Z5 (zr3 body) (pd3 body) 3) [] N 6 J := jok Z5 (zr3 body) (pd3 body) 3 J N hJ lo hi
theorem tt3 (body : Int) (hb : 1 ≤ body % 3000 - 1024 ∧ body % 3000 - 1024 ≤ 512) (J : Nat) (N : Int) (N1 : 1 ≤ N) (h : JOk (fK Z5 (zr3 body) (pd3 body) 3) [] N 6 J) : 1 ≤ (TT3 body J N).length ∧ (TT3 body J N).length ≤ 4752 ∧ (RR3 body J N).length ≤ 528 ∧ (RR3 body J N ++ abS).length = (RR3 body J N).length + 8 := by
  have := TT_len Z5 (zr3 body) (pd3 body) (pf3 body hb).1 (pf3 body hb).2.1 (pf3 body hb).2.2.1 (pf3 body hb).2.2.2 3 J N N1 (by decide) h
  exact ⟨this.1, this.2.1, this.2.2, List.length_append ..⟩
theorem dW3 {nu : Nat → Value} {one : ∀ i, i < 1000000 → (nu i).oneCell' = true} {l : LF} {h : LH} (body : Int) (hb : 1 ≤ body % 3000 - 1024 ∧ body % 3000 - 1024 ≤ 512) (hl : l.hp = some h) (hsm : lfSame l h 47 [] (.exit 0) 2 100 290 = true) {zi ri pi : Nat} (hzi : nu zi = St' Z5) (hri : nu ri = St' (zr3 body)) (hpi : nu pi = .int .i64 (pd3 body)) {sg0 : List (Nat × Nat)} {t rr : Nat} (h0 : startOk l h 47 100 110 [(1, .i .i64 (.ofNat 1000000)), (2, .s 0 0), (3, .x zi), (4, .x ri), (5, .x pi)] sg0 (epD 33 100) (stD 33 31 32 100 3 0 0) = true) (ht : nu t = St' (AL3 body)) (hrr : nu rr = St' (([] : LB))) (hx : exitOk l h 47 100 290 [(t, .x 0), (rr, .x 2), (zi, .x 3), (ri, .x 4), (pi, .x 5)] (epDX 100) (stD 33 31 32 100 3 6 1) = true) : LfOk (cx nu one 1 laidE laidE_stab) bodyD l :=
  lfOkD Z5 (zr3 body) (pd3 body) (pf3 body hb).1 (pf3 body hb).2.1 (pf3 body hb).2.2.1 (pf3 body hb).2.2.2 33 100 (stD 33 31 32 100 3) (kdF 3) (kdF_le 3) 6 (by decide) (by decide) [] (Nat.zero_le _) 1000000 (by omega) (by omega) 6 (jokW Z5 (zr3 body) (pd3 body) (pf3 body hb).1 (pf3 body hb).2.1 (pf3 body hb).2.2.1 (pf3 body hb).2.2.2 3 (by decide)) (eA1 wA3) (a1_of (eA2 wA3) (by decide)) (fun h => absurd rfl h) (x1_of (eA1 wX3)) (eA2 wX3) hl hsm (isZ (m := 1000000) rfl) (isSx (l := []) 0 0 rfl) (isX hzi) (isX hri) (isX hpi) h0 (thx5 (ht.trans (congrArg (fun l => St' l) ((AL_tk Z5 (zr3 body) (pd3 body) (pf3 body hb).1 (pf3 body hb).2.1 (pf3 body hb).2.2.1 (pf3 body hb).2.2.2 3 (by decide)).1))) (hrr.trans (congrArg (fun l => St' l) ((AL_tk Z5 (zr3 body) (pd3 body) (pf3 body hb).1 (pf3 body hb).2.1 (pf3 body hb).2.2.1 (pf3 body hb).2.2.2 3 (by decide)).2))) hzi hri hpi) hx
theorem dD3 {nu : Nat → Value} {one : ∀ i, i < 1000000 → (nu i).oneCell' = true} {l : LF} {h : LH} (body : Int) (hb : 1 ≤ body % 3000 - 1024 ∧ body % 3000 - 1024 ≤ 512) (N : Int) (N1 : 1 ≤ N) (N2 : N ≤ 1000000) (J : Nat) (hjk : JOk (fK Z5 (zr3 body) (pd3 body) 3) [] N 6 J) (hl : l.hp = some h) (hsm : lfSame l h 47 [] (.exit 0) 2 320 510 = true) {ni : Nat} (hn : nu ni = .int .i64 N) {zi ri pi : Nat} (hzi : nu zi = St' Z5) (hri : nu ri = St' (zr3 body)) (hpi : nu pi = .int .i64 (pd3 body)) {sg0 : List (Nat × Nat)} {t rr : Nat} (h0 : startOk l h 47 320 330 [(1, .x ni), (2, .s 0 0), (3, .x zi), (4, .x ri), (5, .x pi)] sg0 (epD 4 320) (stD 4 2 3 320 3 0 0) = true) (ht : nu t = St' (TT3 body J N)) (hrr : nu rr = St' (RR3 body J N)) (hx : exitOk l h 47 320 510 [(t, .x 0), (rr, .x 2), (zi, .x 3), (ri, .x 4), (pi, .x 5)] (epDX 320) (stD 4 2 3 320 3 J 1) = true) : LfOk (cx nu one 1 laidE laidE_stab) bodyD l :=
  lfOkD Z5 (zr3 body) (pd3 body) (pf3 body hb).1 (pf3 body hb).2.1 (pf3 body hb).2.2.1 (pf3 body hb).2.2.2 4 320 (stD 4 2 3 320 3) (kdF 3) (kdF_le 3) 6 (by decide) (by decide) [] (Nat.zero_le _) N N1 N2 J hjk (eA1 dA3) (a1_of (eA2 dA3) (by decide)) (fun h => absurd rfl h) (x1_of (eA1 dX3)) (eA2 dX3) hl hsm (isX hn) (isSx (l := []) 0 0 rfl) (isX hzi) (isX hri) (isX hpi) h0 (thx5 (ht.trans (congrArg (fun l => St' l) (TT_eq Z5 (zr3 body) (pd3 body) 3 J N))) (hrr.trans (congrArg (fun l => St' l) (RR_eq Z5 (zr3 body) (pd3 body) 3 J N))) hzi hri hpi) hx
theorem cJ3 (body : Int) (J : Nat) (N : Int) (h : Nat.beq J (Nat.add 3 3) = false) : TT3 body J N ++ (RR3 body J N ++ abS) = cat Z5 (zr3 body) (pd3 body) (ksT 3 J) := catJ Z5 (zr3 body) (pd3 body) 3 J N h
theorem cK3 (body : Int) (J : Nat) (N : Int) (h : Nat.beq J (Nat.add 3 3) = true) : TT3 body J N ++ RR3 body J N = cat Z5 (zr3 body) (pd3 body) (ksT 3 J) := catK Z5 (zr3 body) (pd3 body) 3 J N h
theorem cO3 (body : Int) (J : Nat) (N : Int) (h : Nat.beq J (Nat.add 3 3) = true) (h0 : (RR3 body J N).length = 0) : TT3 body J N = cat Z5 (zr3 body) (pd3 body) (ksT 3 J) := catK0 Z5 (zr3 body) (pd3 body) 3 J N h h0
theorem cC3 {nu : Nat → Value} {one : ∀ i, i < 1000000 → (nu i).oneCell' = true} {l : LF} {h : LH} (body : Int) (hb : 1 ≤ body % 3000 - 1024 ∧ body % 3000 - 1024 ≤ 512) (J L : Nat) (hle : (ksT 3 J).length ≤ 20) (hL : (ksT 3 J).length = L) (RX : (allN (rnC (ksT 3 J)) 0 L && rxC (ksT 3 J)) = true) (hl : l.hp = some h) (hsm : lfSame l h 87 [] .ret 2 1000 1060 = true) {xs : Nat} {x : LB} {sg0 : List (Nat × Nat)} (hx : nu xs = St' x) (he : x = cat Z5 (zr3 body) (pd3 body) (ksT 3 J)) (h0 : startOk l h 87 1000 1010 [(0, .x xs)] sg0 (epC 0) (hpC (ksT 3 J) 0) = true) {thx : LA} (hthx : ThOk (EC Z5 (zr3 body) (pd3 body)) (cx nu one 1 laidE laidE_stab) thx) (hxx : exitOk l h 87 1000 1060 thx (epCX (ksT 3 J)) [rowK (.x 20) (.x 21) (.x 22) (ksT 3 J)] = true) : LfOk (cx nu one 1 laidE laidE_stab) bodyC l :=
  lfOkC Z5 (zr3 body) (pd3 body) (pf3 body hb).1 (pf3 body hb).2.1 (pf3 body hb).2.2.1 (pf3 body hb).2.2.2 (ksT 3 J) (ks_le 3 J) hle L hL RX hl hsm (hx.trans (congrArg (fun l => St' l) he)) h0 hthx hxx
def zr4 (body : Int) : LB := (List.replicate (Int.toNat ((body % 3000) - 1536)) 0)
def pd4 (body : Int) : Int := ((1536 - (body % 3000)) % 8)
theorem pf4 (body : Int) (hb : 1 ≤ body % 3000 - 1536 ∧ body % 3000 - 1536 ≤ 512) : Z5.length = 512 ∧ (zr4 body).length ≤ 512 ∧ 0 ≤ pd4 body ∧ pd4 body ≤ 7 := by
  refine ⟨List.length_replicate .., ?_, by unfold pd4; omega, by unfold pd4; omega⟩
  unfold zr4
  first | exact Nat.zero_le _ | (rw [List.length_replicate]; omega)
noncomputable def AL4 (body : Int) : LB := AL Z5 (zr4 body) (pd4 body) 4
noncomputable def TT4 (body : Int) (J : Nat) (N : Int) : LB := TT Z5 (zr4 body) (pd4 body) 4 J N
noncomputable def RR4 (body : Int) (J : Nat) (N : Int) : LB := RR Z5 (zr4 body) (pd4 body) 4 J N
noncomputable def LC4 (body : Int) (j : Nat) : Int := LC Z5 (zr4 body) (pd4 body) 4 j
noncomputable def NN4 (n body : Int) : Int := (n % (((AL4 body).length : Int) + 1)) + 1
theorem em4 (n body : Int) : 0 ≤ n % (((AL4 body).length : Int) + 1) ∧ n % (((AL4 body).length : Int) + 1) < ((AL4 body).length : Int) + 1 := ⟨Int.emod_nonneg n (by omega), Int.emod_lt_of_pos n (by omega)⟩
def hp4 : LK := [(.bin .rem (.x 1) (.i .u16 (.ofNat 3000)), .x 2), (.conv 3 (.x 2), .x 3), (.zer (.x 3), .x 4), (.len (.x 4), .x 5), (.bin .gtr (.x 5) (i6 512), .b true), (.sub (.x 4) none (some (i6 512)), .x 6), (.len (.x 6), i6 512), (.sub (.x 4) (some (i6 512)) none, .x 7), (.len (.x 7), .x 8), (.bin .gtr (.x 8) (i6 512), .b true), (.sub (.x 7) none (some (i6 512)), .x 6), (.sub (.x 7) (some (i6 512)) none, .x 9), (.len (.x 9), .x 10), (.bin .gtr (.x 10) (i6 512), .b true), (.sub (.x 9) none (some (i6 512)), .x 6), (.sub (.x 9) (some (i6 512)) none, .x 11), (.len (.x 11), .x 12), (.bin .gtr (.x 12) (i6 512), .b false), (.bin .neq (.x 11) (.s 0 0), .b true), (.mm true (.x 12) (i6 0), .x 13), (.un .neg (.x 13), .x 14), (.bin .and (.x 14) (i6 7), .x 15)]
def pn4 (n body : Int) : List Value := [.int .u16 (n), .int .u16 (body), .int .u16 (body % 3000), .int .i64 ((body % 3000)), St' (List.replicate (Int.toNat ((body % 3000))) 0), .int .i64 ((body % 3000)), St' (List.replicate (Int.toNat (512)) 0), St' (List.replicate (Int.toNat ((body % 3000) - 512)) 0), .int .i64 ((body % 3000) - 512), St' (List.replicate (Int.toNat ((body % 3000) - 1024)) 0), .int .i64 ((body % 3000) - 1024), St' (List.replicate (Int.toNat ((body % 3000) - 1536)) 0), .int .i64 ((body % 3000) - 1536), .int .i64 ((body % 3000) - 1536), .int .i64 (1536 - (body % 3000)), .int .i64 ((1536 - (body % 3000)) % 8)]
theorem al4 (body : Int) (hb : 1 ≤ body % 3000 - 1536 ∧ body % 3000 - 1536 ≤ 512) : 24 ≤ (AL4 body).length ∧ (AL4 body).length ≤ 4752 := AL_len Z5 (zr4 body) (pd4 body) (pf4 body hb).1 (pf4 body hb).2.1 (pf4 body hb).2.2.1 (pf4 body hb).2.2.2 4 (by decide)
theorem lc4 (body : Int) : LC4 body 0 = 0 := LC_0 Z5 (zr4 body) (pd4 body) 4
theorem jk4 (body : Int) (J : Nat) (N : Int) (hJ : J ≤ 7) (lo : 1 ≤ J → LC4 body (J - 1) < N) (hi : N ≤ LC4 body J ∨ J = 7) : JOk (fK Z5 (zr4 body) (pd4 body) 4) [] N 7 J := jok Z5 (zr4 body) (pd4 body) 4 J N hJ lo hi
theorem tt4 (body : Int) (hb : 1 ≤ body % 3000 - 1536 ∧ body % 3000 - 1536 ≤ 512) (J : Nat) (N : Int) (N1 : 1 ≤ N) (h : JOk (fK Z5 (zr4 body) (pd4 body) 4) [] N 7 J) : 1 ≤ (TT4 body J N).length ∧ (TT4 body J N).length ≤ 4752 ∧ (RR4 body J N).length ≤ 528 ∧ (RR4 body J N ++ abS).length = (RR4 body J N).length + 8 := by
  have := TT_len Z5 (zr4 body) (pd4 body) (pf4 body hb).1 (pf4 body hb).2.1 (pf4 body hb).2.2.1 (pf4 body hb).2.2.2 4 J N N1 (by decide) h
  exact ⟨this.1, this.2.1, this.2.2, List.length_append ..⟩
theorem dW4 {nu : Nat → Value} {one : ∀ i, i < 1000000 → (nu i).oneCell' = true} {l : LF} {h : LH} (body : Int) (hb : 1 ≤ body % 3000 - 1536 ∧ body % 3000 - 1536 ≤ 512) (hl : l.hp = some h) (hsm : lfSame l h 47 [] (.exit 0) 2 100 290 = true) {zi ri pi : Nat} (hzi : nu zi = St' Z5) (hri : nu ri = St' (zr4 body)) (hpi : nu pi = .int .i64 (pd4 body)) {sg0 : List (Nat × Nat)} {t rr : Nat} (h0 : startOk l h 47 100 110 [(1, .i .i64 (.ofNat 1000000)), (2, .s 0 0), (3, .x zi), (4, .x ri), (5, .x pi)] sg0 (epD 36 100) (stD 36 34 35 100 4 0 0) = true) (ht : nu t = St' (AL4 body)) (hrr : nu rr = St' (([] : LB))) (hx : exitOk l h 47 100 290 [(t, .x 0), (rr, .x 2), (zi, .x 3), (ri, .x 4), (pi, .x 5)] (epDX 100) (stD 36 34 35 100 4 7 1) = true) : LfOk (cx nu one 1 laidE laidE_stab) bodyD l :=
  lfOkD Z5 (zr4 body) (pd4 body) (pf4 body hb).1 (pf4 body hb).2.1 (pf4 body hb).2.2.1 (pf4 body hb).2.2.2 36 100 (stD 36 34 35 100 4) (kdF 4) (kdF_le 4) 7 (by decide) (by decide) [] (Nat.zero_le _) 1000000 (by omega) (by omega) 7 (jokW Z5 (zr4 body) (pd4 body) (pf4 body hb).1 (pf4 body hb).2.1 (pf4 body hb).2.2.1 (pf4 body hb).2.2.2 4 (by decide)) (eA1 wA4) (a1_of (eA2 wA4) (by decide)) (fun h => absurd rfl h) (x1_of (eA1 wX4)) (eA2 wX4) hl hsm (isZ (m := 1000000) rfl) (isSx (l := []) 0 0 rfl) (isX hzi) (isX hri) (isX hpi) h0 (thx5 (ht.trans (congrArg (fun l => St' l) ((AL_tk Z5 (zr4 body) (pd4 body) (pf4 body hb).1 (pf4 body hb).2.1 (pf4 body hb).2.2.1 (pf4 body hb).2.2.2 4 (by decide)).1))) (hrr.trans (congrArg (fun l => St' l) ((AL_tk Z5 (zr4 body) (pd4 body) (pf4 body hb).1 (pf4 body hb).2.1 (pf4 body hb).2.2.1 (pf4 body hb).2.2.2 4 (by decide)).2))) hzi hri hpi) hx
theorem dD4 {nu : Nat → Value} {one : ∀ i, i < 1000000 → (nu i).oneCell' = true} {l : LF} {h : LH} (body : Int) (hb : 1 ≤ body % 3000 - 1536 ∧ body % 3000 - 1536 ≤ 512) (N : Int) (N1 : 1 ≤ N) (N2 : N ≤ 1000000) (J : Nat) (hjk : JOk (fK Z5 (zr4 body) (pd4 body) 4) [] N 7 J) (hl : l.hp = some h) (hsm : lfSame l h 47 [] (.exit 0) 2 320 510 = true) {ni : Nat} (hn : nu ni = .int .i64 N) {zi ri pi : Nat} (hzi : nu zi = St' Z5) (hri : nu ri = St' (zr4 body)) (hpi : nu pi = .int .i64 (pd4 body)) {sg0 : List (Nat × Nat)} {t rr : Nat} (h0 : startOk l h 47 320 330 [(1, .x ni), (2, .s 0 0), (3, .x zi), (4, .x ri), (5, .x pi)] sg0 (epD 4 320) (stD 4 2 3 320 4 0 0) = true) (ht : nu t = St' (TT4 body J N)) (hrr : nu rr = St' (RR4 body J N)) (hx : exitOk l h 47 320 510 [(t, .x 0), (rr, .x 2), (zi, .x 3), (ri, .x 4), (pi, .x 5)] (epDX 320) (stD 4 2 3 320 4 J 1) = true) : LfOk (cx nu one 1 laidE laidE_stab) bodyD l :=
  lfOkD Z5 (zr4 body) (pd4 body) (pf4 body hb).1 (pf4 body hb).2.1 (pf4 body hb).2.2.1 (pf4 body hb).2.2.2 4 320 (stD 4 2 3 320 4) (kdF 4) (kdF_le 4) 7 (by decide) (by decide) [] (Nat.zero_le _) N N1 N2 J hjk (eA1 dA4) (a1_of (eA2 dA4) (by decide)) (fun h => absurd rfl h) (x1_of (eA1 dX4)) (eA2 dX4) hl hsm (isX hn) (isSx (l := []) 0 0 rfl) (isX hzi) (isX hri) (isX hpi) h0 (thx5 (ht.trans (congrArg (fun l => St' l) (TT_eq Z5 (zr4 body) (pd4 body) 4 J N))) (hrr.trans (congrArg (fun l => St' l) (RR_eq Z5 (zr4 body) (pd4 body) 4 J N))) hzi hri hpi) hx
theorem cJ4 (body : Int) (J : Nat) (N : Int) (h : Nat.beq J (Nat.add 3 4) = false) : TT4 body J N ++ (RR4 body J N ++ abS) = cat Z5 (zr4 body) (pd4 body) (ksT 4 J) := catJ Z5 (zr4 body) (pd4 body) 4 J N h
theorem cK4 (body : Int) (J : Nat) (N : Int) (h : Nat.beq J (Nat.add 3 4) = true) : TT4 body J N ++ RR4 body J N = cat Z5 (zr4 body) (pd4 body) (ksT 4 J) := catK Z5 (zr4 body) (pd4 body) 4 J N h
theorem cO4 (body : Int) (J : Nat) (N : Int) (h : Nat.beq J (Nat.add 3 4) = true) (h0 : (RR4 body J N).length = 0) : TT4 body J N = cat Z5 (zr4 body) (pd4 body) (ksT 4 J) := catK0 Z5 (zr4 body) (pd4 body) 4 J N h h0
theorem cC4 {nu : Nat → Value} {one : ∀ i, i < 1000000 → (nu i).oneCell' = true} {l : LF} {h : LH} (body : Int) (hb : 1 ≤ body % 3000 - 1536 ∧ body % 3000 - 1536 ≤ 512) (J L : Nat) (hle : (ksT 4 J).length ≤ 20) (hL : (ksT 4 J).length = L) (RX : (allN (rnC (ksT 4 J)) 0 L && rxC (ksT 4 J)) = true) (hl : l.hp = some h) (hsm : lfSame l h 87 [] .ret 2 1000 1060 = true) {xs : Nat} {x : LB} {sg0 : List (Nat × Nat)} (hx : nu xs = St' x) (he : x = cat Z5 (zr4 body) (pd4 body) (ksT 4 J)) (h0 : startOk l h 87 1000 1010 [(0, .x xs)] sg0 (epC 0) (hpC (ksT 4 J) 0) = true) {thx : LA} (hthx : ThOk (EC Z5 (zr4 body) (pd4 body)) (cx nu one 1 laidE laidE_stab) thx) (hxx : exitOk l h 87 1000 1060 thx (epCX (ksT 4 J)) [rowK (.x 20) (.x 21) (.x 22) (ksT 4 J)] = true) : LfOk (cx nu one 1 laidE laidE_stab) bodyC l :=
  lfOkC Z5 (zr4 body) (pd4 body) (pf4 body hb).1 (pf4 body hb).2.1 (pf4 body hb).2.2.1 (pf4 body hb).2.2.2 (ksT 4 J) (ks_le 4 J) hle L hL RX hl hsm (hx.trans (congrArg (fun l => St' l) he)) h0 hthx hxx
def zr5 (body : Int) : LB := (List.replicate (Int.toNat ((body % 3000) - 2048)) 0)
def pd5 (body : Int) : Int := ((2048 - (body % 3000)) % 8)
theorem pf5 (body : Int) (hb : 1 ≤ body % 3000 - 2048 ∧ body % 3000 - 2048 ≤ 512) : Z5.length = 512 ∧ (zr5 body).length ≤ 512 ∧ 0 ≤ pd5 body ∧ pd5 body ≤ 7 := by
  refine ⟨List.length_replicate .., ?_, by unfold pd5; omega, by unfold pd5; omega⟩
  unfold zr5
  first | exact Nat.zero_le _ | (rw [List.length_replicate]; omega)
noncomputable def AL5 (body : Int) : LB := AL Z5 (zr5 body) (pd5 body) 5
noncomputable def TT5 (body : Int) (J : Nat) (N : Int) : LB := TT Z5 (zr5 body) (pd5 body) 5 J N
noncomputable def RR5 (body : Int) (J : Nat) (N : Int) : LB := RR Z5 (zr5 body) (pd5 body) 5 J N
noncomputable def LC5 (body : Int) (j : Nat) : Int := LC Z5 (zr5 body) (pd5 body) 5 j
noncomputable def NN5 (n body : Int) : Int := (n % (((AL5 body).length : Int) + 1)) + 1
theorem em5 (n body : Int) : 0 ≤ n % (((AL5 body).length : Int) + 1) ∧ n % (((AL5 body).length : Int) + 1) < ((AL5 body).length : Int) + 1 := ⟨Int.emod_nonneg n (by omega), Int.emod_lt_of_pos n (by omega)⟩
def hp5 : LK := [(.bin .rem (.x 1) (.i .u16 (.ofNat 3000)), .x 2), (.conv 3 (.x 2), .x 3), (.zer (.x 3), .x 4), (.len (.x 4), .x 5), (.bin .gtr (.x 5) (i6 512), .b true), (.sub (.x 4) none (some (i6 512)), .x 6), (.len (.x 6), i6 512), (.sub (.x 4) (some (i6 512)) none, .x 7), (.len (.x 7), .x 8), (.bin .gtr (.x 8) (i6 512), .b true), (.sub (.x 7) none (some (i6 512)), .x 6), (.sub (.x 7) (some (i6 512)) none, .x 9), (.len (.x 9), .x 10), (.bin .gtr (.x 10) (i6 512), .b true), (.sub (.x 9) none (some (i6 512)), .x 6), (.sub (.x 9) (some (i6 512)) none, .x 11), (.len (.x 11), .x 12), (.bin .gtr (.x 12) (i6 512), .b true), (.sub (.x 11) none (some (i6 512)), .x 6), (.sub (.x 11) (some (i6 512)) none, .x 13), (.len (.x 13), .x 14), (.bin .gtr (.x 14) (i6 512), .b false), (.bin .neq (.x 13) (.s 0 0), .b true), (.mm true (.x 14) (i6 0), .x 15), (.un .neg (.x 15), .x 16), (.bin .and (.x 16) (i6 7), .x 17)]
def pn5 (n body : Int) : List Value := [.int .u16 (n), .int .u16 (body), .int .u16 (body % 3000), .int .i64 ((body % 3000)), St' (List.replicate (Int.toNat ((body % 3000))) 0), .int .i64 ((body % 3000)), St' (List.replicate (Int.toNat (512)) 0), St' (List.replicate (Int.toNat ((body % 3000) - 512)) 0), .int .i64 ((body % 3000) - 512), St' (List.replicate (Int.toNat ((body % 3000) - 1024)) 0), .int .i64 ((body % 3000) - 1024), St' (List.replicate (Int.toNat ((body % 3000) - 1536)) 0), .int .i64 ((body % 3000) - 1536), St' (List.replicate (Int.toNat ((body % 3000) - 2048)) 0), .int .i64 ((body % 3000) - 2048), .int .i64 ((body % 3000) - 2048), .int .i64 (2048 - (body % 3000)), .int .i64 ((2048 - (body % 3000)) % 8)]
theorem al5 (body : Int) (hb : 1 ≤ body % 3000 - 2048 ∧ body % 3000 - 2048 ≤ 512) : 24 ≤ (AL5 body).length ∧ (AL5 body).length ≤ 4752 := AL_len Z5 (zr5 body) (pd5 body) (pf5 body hb).1 (pf5 body hb).2.1 (pf5 body hb).2.2.1 (pf5 body hb).2.2.2 5 (by decide)
theorem lc5 (body : Int) : LC5 body 0 = 0 := LC_0 Z5 (zr5 body) (pd5 body) 5
theorem jk5 (body : Int) (J : Nat) (N : Int) (hJ : J ≤ 8) (lo : 1 ≤ J → LC5 body (J - 1) < N) (hi : N ≤ LC5 body J ∨ J = 8) : JOk (fK Z5 (zr5 body) (pd5 body) 5) [] N 8 J := jok Z5 (zr5 body) (pd5 body) 5 J N hJ lo hi
theorem tt5 (body : Int) (hb : 1 ≤ body % 3000 - 2048 ∧ body % 3000 - 2048 ≤ 512) (J : Nat) (N : Int) (N1 : 1 ≤ N) (h : JOk (fK Z5 (zr5 body) (pd5 body) 5) [] N 8 J) : 1 ≤ (TT5 body J N).length ∧ (TT5 body J N).length ≤ 4752 ∧ (RR5 body J N).length ≤ 528 ∧ (RR5 body J N ++ abS).length = (RR5 body J N).length + 8 := by
  have := TT_len Z5 (zr5 body) (pd5 body) (pf5 body hb).1 (pf5 body hb).2.1 (pf5 body hb).2.2.1 (pf5 body hb).2.2.2 5 J N N1 (by decide) h
  exact ⟨this.1, this.2.1, this.2.2, List.length_append ..⟩
theorem dW5 {nu : Nat → Value} {one : ∀ i, i < 1000000 → (nu i).oneCell' = true} {l : LF} {h : LH} (body : Int) (hb : 1 ≤ body % 3000 - 2048 ∧ body % 3000 - 2048 ≤ 512) (hl : l.hp = some h) (hsm : lfSame l h 47 [] (.exit 0) 2 100 290 = true) {zi ri pi : Nat} (hzi : nu zi = St' Z5) (hri : nu ri = St' (zr5 body)) (hpi : nu pi = .int .i64 (pd5 body)) {sg0 : List (Nat × Nat)} {t rr : Nat} (h0 : startOk l h 47 100 110 [(1, .i .i64 (.ofNat 1000000)), (2, .s 0 0), (3, .x zi), (4, .x ri), (5, .x pi)] sg0 (epD 39 100) (stD 39 37 38 100 5 0 0) = true) (ht : nu t = St' (AL5 body)) (hrr : nu rr = St' (([] : LB))) (hx : exitOk l h 47 100 290 [(t, .x 0), (rr, .x 2), (zi, .x 3), (ri, .x 4), (pi, .x 5)] (epDX 100) (stD 39 37 38 100 5 8 1) = true) : LfOk (cx nu one 1 laidE laidE_stab) bodyD l :=
  lfOkD Z5 (zr5 body) (pd5 body) (pf5 body hb).1 (pf5 body hb).2.1 (pf5 body hb).2.2.1 (pf5 body hb).2.2.2 39 100 (stD 39 37 38 100 5) (kdF 5) (kdF_le 5) 8 (by decide) (by decide) [] (Nat.zero_le _) 1000000 (by omega) (by omega) 8 (jokW Z5 (zr5 body) (pd5 body) (pf5 body hb).1 (pf5 body hb).2.1 (pf5 body hb).2.2.1 (pf5 body hb).2.2.2 5 (by decide)) (eA1 wA5) (a1_of (eA2 wA5) (by decide)) (fun h => absurd rfl h) (x1_of (eA1 wX5)) (eA2 wX5) hl hsm (isZ (m := 1000000) rfl) (isSx (l := []) 0 0 rfl) (isX hzi) (isX hri) (isX hpi) h0 (thx5 (ht.trans (congrArg (fun l => St' l) ((AL_tk Z5 (zr5 body) (pd5 body) (pf5 body hb).1 (pf5 body hb).2.1 (pf5 body hb).2.2.1 (pf5 body hb).2.2.2 5 (by decide)).1))) (hrr.trans (congrArg (fun l => St' l) ((AL_tk Z5 (zr5 body) (pd5 body) (pf5 body hb).1 (pf5 body hb).2.1 (pf5 body hb).2.2.1 (pf5 body hb).2.2.2 5 (by decide)).2))) hzi hri hpi) hx
theorem dD5 {nu : Nat → Value} {one : ∀ i, i < 1000000 → (nu i).oneCell' = true} {l : LF} {h : LH} (body : Int) (hb : 1 ≤ body % 3000 - 2048 ∧ body % 3000 - 2048 ≤ 512) (N : Int) (N1 : 1 ≤ N) (N2 : N ≤ 1000000) (J : Nat) (hjk : JOk (fK Z5 (zr5 body) (pd5 body) 5) [] N 8 J) (hl : l.hp = some h) (hsm : lfSame l h 47 [] (.exit 0) 2 320 510 = true) {ni : Nat} (hn : nu ni = .int .i64 N) {zi ri pi : Nat} (hzi : nu zi = St' Z5) (hri : nu ri = St' (zr5 body)) (hpi : nu pi = .int .i64 (pd5 body)) {sg0 : List (Nat × Nat)} {t rr : Nat} (h0 : startOk l h 47 320 330 [(1, .x ni), (2, .s 0 0), (3, .x zi), (4, .x ri), (5, .x pi)] sg0 (epD 4 320) (stD 4 2 3 320 5 0 0) = true) (ht : nu t = St' (TT5 body J N)) (hrr : nu rr = St' (RR5 body J N)) (hx : exitOk l h 47 320 510 [(t, .x 0), (rr, .x 2), (zi, .x 3), (ri, .x 4), (pi, .x 5)] (epDX 320) (stD 4 2 3 320 5 J 1) = true) : LfOk (cx nu one 1 laidE laidE_stab) bodyD l :=
  lfOkD Z5 (zr5 body) (pd5 body) (pf5 body hb).1 (pf5 body hb).2.1 (pf5 body hb).2.2.1 (pf5 body hb).2.2.2 4 320 (stD 4 2 3 320 5) (kdF 5) (kdF_le 5) 8 (by decide) (by decide) [] (Nat.zero_le _) N N1 N2 J hjk (eA1 dA5) (a1_of (eA2 dA5) (by decide)) (fun h => absurd rfl h) (x1_of (eA1 dX5)) (eA2 dX5) hl hsm (isX hn) (isSx (l := []) 0 0 rfl) (isX hzi) (isX hri) (isX hpi) h0 (thx5 (ht.trans (congrArg (fun l => St' l) (TT_eq Z5 (zr5 body) (pd5 body) 5 J N))) (hrr.trans (congrArg (fun l => St' l) (RR_eq Z5 (zr5 body) (pd5 body) 5 J N))) hzi hri hpi) hx
theorem cJ5 (body : Int) (J : Nat) (N : Int) (h : Nat.beq J (Nat.add 3 5) = false) : TT5 body J N ++ (RR5 body J N ++ abS) = cat Z5 (zr5 body) (pd5 body) (ksT 5 J) := catJ Z5 (zr5 body) (pd5 body) 5 J N h
theorem cK5 (body : Int) (J : Nat) (N : Int) (h : Nat.beq J (Nat.add 3 5) = true) : TT5 body J N ++ RR5 body J N = cat Z5 (zr5 body) (pd5 body) (ksT 5 J) := catK Z5 (zr5 body) (pd5 body) 5 J N h
theorem cO5 (body : Int) (J : Nat) (N : Int) (h : Nat.beq J (Nat.add 3 5) = true) (h0 : (RR5 body J N).length = 0) : TT5 body J N = cat Z5 (zr5 body) (pd5 body) (ksT 5 J) := catK0 Z5 (zr5 body) (pd5 body) 5 J N h h0
theorem cC5 {nu : Nat → Value} {one : ∀ i, i < 1000000 → (nu i).oneCell' = true} {l : LF} {h : LH} (body : Int) (hb : 1 ≤ body % 3000 - 2048 ∧ body % 3000 - 2048 ≤ 512) (J L : Nat) (hle : (ksT 5 J).length ≤ 20) (hL : (ksT 5 J).length = L) (RX : (allN (rnC (ksT 5 J)) 0 L && rxC (ksT 5 J)) = true) (hl : l.hp = some h) (hsm : lfSame l h 87 [] .ret 2 1000 1060 = true) {xs : Nat} {x : LB} {sg0 : List (Nat × Nat)} (hx : nu xs = St' x) (he : x = cat Z5 (zr5 body) (pd5 body) (ksT 5 J)) (h0 : startOk l h 87 1000 1010 [(0, .x xs)] sg0 (epC 0) (hpC (ksT 5 J) 0) = true) {thx : LA} (hthx : ThOk (EC Z5 (zr5 body) (pd5 body)) (cx nu one 1 laidE laidE_stab) thx) (hxx : exitOk l h 87 1000 1060 thx (epCX (ksT 5 J)) [rowK (.x 20) (.x 21) (.x 22) (ksT 5 J)] = true) : LfOk (cx nu one 1 laidE laidE_stab) bodyC l :=
  lfOkC Z5 (zr5 body) (pd5 body) (pf5 body hb).1 (pf5 body hb).2.1 (pf5 body hb).2.2.1 (pf5 body hb).2.2.2 (ksT 5 J) (ks_le 5 J) hle L hL RX hl hsm (hx.trans (congrArg (fun l => St' l) he)) h0 hthx hxx
def zr6 (body : Int) : LB := (List.replicate (Int.toNat ((body % 3000) - 2560)) 0)
def pd6 (body : Int) : Int := ((2560 - (body % 3000)) % 8)
theorem pf6 (body : Int) (hb : 1 ≤ body % 3000 - 2560 ∧ body % 3000 - 2560 ≤ 512) : Z5.length = 512 ∧ (zr6 body).length ≤ 512 ∧ 0 ≤ pd6 body ∧ pd6 body ≤ 7 := by
  refine ⟨List.length_replicate .., ?_, by unfold pd6; omega, by unfold pd6; omega⟩
  unfold zr6
  first | exact Nat.zero_le _ | (rw [List.length_replicate]; omega)
noncomputable def AL6 (body : Int) : LB := AL Z5 (zr6 body) (pd6 body) 6
noncomputable def TT6 (body : Int) (J : Nat) (N : Int) : LB := TT Z5 (zr6 body) (pd6 body) 6 J N
noncomputable def RR6 (body : Int) (J : Nat) (N : Int) : LB := RR Z5 (zr6 body) (pd6 body) 6 J N
noncomputable def LC6 (body : Int) (j : Nat) : Int := LC Z5 (zr6 body) (pd6 body) 6 j
noncomputable def NN6 (n body : Int) : Int := (n % (((AL6 body).length : Int) + 1)) + 1
theorem em6 (n body : Int) : 0 ≤ n % (((AL6 body).length : Int) + 1) ∧ n % (((AL6 body).length : Int) + 1) < ((AL6 body).length : Int) + 1 := ⟨Int.emod_nonneg n (by omega), Int.emod_lt_of_pos n (by omega)⟩
def hp6 : LK := [(.bin .rem (.x 1) (.i .u16 (.ofNat 3000)), .x 2), (.conv 3 (.x 2), .x 3), (.zer (.x 3), .x 4), (.len (.x 4), .x 5), (.bin .gtr (.x 5) (i6 512), .b true), (.sub (.x 4) none (some (i6 512)), .x 6), (.len (.x 6), i6 512), (.sub (.x 4) (some (i6 512)) none, .x 7), (.len (.x 7), .x 8), (.bin .gtr (.x 8) (i6 512), .b true), (.sub (.x 7) none (some (i6 512)), .x 6), (.sub (.x 7) (some (i6 512)) none, .x 9), (.len (.x 9), .x 10), (.bin .gtr (.x 10) (i6 512), .b true), (.sub (.x 9) none (some (i6 512)), .x 6), (.sub (.x 9) (some (i6 512)) none, .x 11), (.len (.x 11), .x 12), (.bin .gtr (.x 12) (i6 512), .b true), (.sub (.x 11) none (some (i6 512)), .x 6), (.sub (.x 11) (some (i6 512)) none, .x 13), (.len (.x 13), .x 14), (.bin .gtr (.x 14) (i6 512), .b true), (.sub (.x 13) none (some (i6 512)), .x 6), (.sub (.x 13) (some (i6 512)) none, .x 15), (.len (.x 15), .x 16), (.bin .gtr (.x 16) (i6 512), .b false), (.bin .neq (.x 15) (.s 0 0), .b true), (.mm true (.x 16) (i6 0), .x 17), (.un .neg (.x 17), .x 18), (.bin .and (.x 18) (i6 7), .x 19)]
def pn6 (n body : Int) : List Value := [.int .u16 (n), .int .u16 (body), .int .u16 (body % 3000), .int .i64 ((body % 3000)), St' (List.replicate (Int.toNat ((body % 3000))) 0), .int .i64 ((body % 3000)), St' (List.replicate (Int.toNat (512)) 0), St' (List.replicate (Int.toNat ((body % 3000) - 512)) 0), .int .i64 ((body % 3000) - 512), St' (List.replicate (Int.toNat ((body % 3000) - 1024)) 0), .int .i64 ((body % 3000) - 1024), St' (List.replicate (Int.toNat ((body % 3000) - 1536)) 0), .int .i64 ((body % 3000) - 1536), St' (List.replicate (Int.toNat ((body % 3000) - 2048)) 0), .int .i64 ((body % 3000) - 2048), St' (List.replicate (Int.toNat ((body % 3000) - 2560)) 0), .int .i64 ((body % 3000) - 2560), .int .i64 ((body % 3000) - 2560), .int .i64 (2560 - (body % 3000)), .int .i64 ((2560 - (body % 3000)) % 8)]
theorem al6 (body : Int) (hb : 1 ≤ body % 3000 - 2560 ∧ body % 3000 - 2560 ≤ 512) : 24 ≤ (AL6 body).length ∧ (AL6 body).length ≤ 4752 := AL_len Z5 (zr6 body) (pd6 body) (pf6 body hb).1 (pf6 body hb).2.1 (pf6 body hb).2.2.1 (pf6 body hb).2.2.2 6 (by decide)
theorem lc6 (body : Int) : LC6 body 0 = 0 := LC_0 Z5 (zr6 body) (pd6 body) 6
theorem jk6 (body : Int) (J : Nat) (N : Int) (hJ : J ≤ 9) (lo : 1 ≤ J → LC6 body (J - 1) < N) (hi : N ≤ LC6 body J ∨ J = 9) : JOk (fK Z5 (zr6 body) (pd6 body) 6) [] N 9 J := jok Z5 (zr6 body) (pd6 body) 6 J N hJ lo hi
theorem tt6 (body : Int) (hb : 1 ≤ body % 3000 - 2560 ∧ body % 3000 - 2560 ≤ 512) (J : Nat) (N : Int) (N1 : 1 ≤ N) (h : JOk (fK Z5 (zr6 body) (pd6 body) 6) [] N 9 J) : 1 ≤ (TT6 body J N).length ∧ (TT6 body J N).length ≤ 4752 ∧ (RR6 body J N).length ≤ 528 ∧ (RR6 body J N ++ abS).length = (RR6 body J N).length + 8 := by
  have := TT_len Z5 (zr6 body) (pd6 body) (pf6 body hb).1 (pf6 body hb).2.1 (pf6 body hb).2.2.1 (pf6 body hb).2.2.2 6 J N N1 (by decide) h
  exact ⟨this.1, this.2.1, this.2.2, List.length_append ..⟩
theorem dW6 {nu : Nat → Value} {one : ∀ i, i < 1000000 → (nu i).oneCell' = true} {l : LF} {h : LH} (body : Int) (hb : 1 ≤ body % 3000 - 2560 ∧ body % 3000 - 2560 ≤ 512) (hl : l.hp = some h) (hsm : lfSame l h 47 [] (.exit 0) 2 100 290 = true) {zi ri pi : Nat} (hzi : nu zi = St' Z5) (hri : nu ri = St' (zr6 body)) (hpi : nu pi = .int .i64 (pd6 body)) {sg0 : List (Nat × Nat)} {t rr : Nat} (h0 : startOk l h 47 100 110 [(1, .i .i64 (.ofNat 1000000)), (2, .s 0 0), (3, .x zi), (4, .x ri), (5, .x pi)] sg0 (epD 42 100) (stD 42 40 41 100 6 0 0) = true) (ht : nu t = St' (AL6 body)) (hrr : nu rr = St' (([] : LB))) (hx : exitOk l h 47 100 290 [(t, .x 0), (rr, .x 2), (zi, .x 3), (ri, .x 4), (pi, .x 5)] (epDX 100) (stD 42 40 41 100 6 9 1) = true) : LfOk (cx nu one 1 laidE laidE_stab) bodyD l :=
  lfOkD Z5 (zr6 body) (pd6 body) (pf6 body hb).1 (pf6 body hb).2.1 (pf6 body hb).2.2.1 (pf6 body hb).2.2.2 42 100 (stD 42 40 41 100 6) (kdF 6) (kdF_le 6) 9 (by decide) (by decide) [] (Nat.zero_le _) 1000000 (by omega) (by omega) 9 (jokW Z5 (zr6 body) (pd6 body) (pf6 body hb).1 (pf6 body hb).2.1 (pf6 body hb).2.2.1 (pf6 body hb).2.2.2 6 (by decide)) (eA1 wA6) (a1_of (eA2 wA6) (by decide)) (fun h => absurd rfl h) (x1_of (eA1 wX6)) (eA2 wX6) hl hsm (isZ (m := 1000000) rfl) (isSx (l := []) 0 0 rfl) (isX hzi) (isX hri) (isX hpi) h0 (thx5 (ht.trans (congrArg (fun l => St' l) ((AL_tk Z5 (zr6 body) (pd6 body) (pf6 body hb).1 (pf6 body hb).2.1 (pf6 body hb).2.2.1 (pf6 body hb).2.2.2 6 (by decide)).1))) (hrr.trans (congrArg (fun l => St' l) ((AL_tk Z5 (zr6 body) (pd6 body) (pf6 body hb).1 (pf6 body hb).2.1 (pf6 body hb).2.2.1 (pf6 body hb).2.2.2 6 (by decide)).2))) hzi hri hpi) hx
theorem dD6 {nu : Nat → Value} {one : ∀ i, i < 1000000 → (nu i).oneCell' = true} {l : LF} {h : LH} (body : Int) (hb : 1 ≤ body % 3000 - 2560 ∧ body % 3000 - 2560 ≤ 512) (N : Int) (N1 : 1 ≤ N) (N2 : N ≤ 1000000) (J : Nat) (hjk : JOk (fK Z5 (zr6 body) (pd6 body) 6) [] N 9 J) (hl : l.hp = some h) (hsm : lfSame l h 47 [] (.exit 0) 2 320 510 = true) {ni : Nat} (hn : nu ni = .int .i64 N) {zi ri pi : Nat} (hzi : nu zi = St' Z5) (hri : nu ri = St' (zr6 body)) (hpi : nu pi = .int .i64 (pd6 body)) {sg0 : List (Nat × Nat)} {t rr : Nat} (h0 : startOk l h 47 320 330 [(1, .x ni), (2, .s 0 0), (3, .x zi), (4, .x ri), (5, .x pi)] sg0 (epD 4 320) (stD 4 2 3 320 6 0 0) = true) (ht : nu t = St' (TT6 body J N)) (hrr : nu rr = St' (RR6 body J N)) (hx : exitOk l h 47 320 510 [(t, .x 0), (rr, .x 2), (zi, .x 3), (ri, .x 4), (pi, .x 5)] (epDX 320) (stD 4 2 3 320 6 J 1) = true) : LfOk (cx nu one 1 laidE laidE_stab) bodyD l :=
  lfOkD Z5 (zr6 body) (pd6 body) (pf6 body hb).1 (pf6 body hb).2.1 (pf6 body hb).2.2.1 (pf6 body hb).2.2.2 4 320 (stD 4 2 3 320 6) (kdF 6) (kdF_le 6) 9 (by decide) (by decide) [] (Nat.zero_le _) N N1 N2 J hjk (eA1 dA6) (a1_of (eA2 dA6) (by decide)) (fun h => absurd rfl h) (x1_of (eA1 dX6)) (eA2 dX6) hl hsm (isX hn) (isSx (l := []) 0 0 rfl) (isX hzi) (isX hri) (isX hpi) h0 (thx5 (ht.trans (congrArg (fun l => St' l) (TT_eq Z5 (zr6 body) (pd6 body) 6 J N))) (hrr.trans (congrArg (fun l => St' l) (RR_eq Z5 (zr6 body) (pd6 body) 6 J N))) hzi hri hpi) hx
theorem cJ6 (body : Int) (J : Nat) (N : Int) (h : Nat.beq J (Nat.add 3 6) = false) : TT6 body J N ++ (RR6 body J N ++ abS) = cat Z5 (zr6 body) (pd6 body) (ksT 6 J) := catJ Z5 (zr6 body) (pd6 body) 6 J N h
theorem cK6 (body : Int) (J : Nat) (N : Int) (h : Nat.beq J (Nat.add 3 6) = true) : TT6 body J N ++ RR6 body J N = cat Z5 (zr6 body) (pd6 body) (ksT 6 J) := catK Z5 (zr6 body) (pd6 body) 6 J N h
theorem cO6 (body : Int) (J : Nat) (N : Int) (h : Nat.beq J (Nat.add 3 6) = true) (h0 : (RR6 body J N).length = 0) : TT6 body J N = cat Z5 (zr6 body) (pd6 body) (ksT 6 J) := catK0 Z5 (zr6 body) (pd6 body) 6 J N h h0
theorem cC6 {nu : Nat → Value} {one : ∀ i, i < 1000000 → (nu i).oneCell' = true} {l : LF} {h : LH} (body : Int) (hb : 1 ≤ body % 3000 - 2560 ∧ body % 3000 - 2560 ≤ 512) (J L : Nat) (hle : (ksT 6 J).length ≤ 20) (hL : (ksT 6 J).length = L) (RX : (allN (rnC (ksT 6 J)) 0 L && rxC (ksT 6 J)) = true) (hl : l.hp = some h) (hsm : lfSame l h 87 [] .ret 2 1000 1060 = true) {xs : Nat} {x : LB} {sg0 : List (Nat × Nat)} (hx : nu xs = St' x) (he : x = cat Z5 (zr6 body) (pd6 body) (ksT 6 J)) (h0 : startOk l h 87 1000 1010 [(0, .x xs)] sg0 (epC 0) (hpC (ksT 6 J) 0) = true) {thx : LA} (hthx : ThOk (EC Z5 (zr6 body) (pd6 body)) (cx nu one 1 laidE laidE_stab) thx) (hxx : exitOk l h 87 1000 1060 thx (epCX (ksT 6 J)) [rowK (.x 20) (.x 21) (.x 22) (ksT 6 J)] = true) : LfOk (cx nu one 1 laidE laidE_stab) bodyC l :=
  lfOkC Z5 (zr6 body) (pd6 body) (pf6 body hb).1 (pf6 body hb).2.1 (pf6 body hb).2.2.1 (pf6 body hb).2.2.2 (ksT 6 J) (ks_le 6 J) hle L hL RX hl hsm (hx.trans (congrArg (fun l => St' l) he)) h0 hthx hxx
end Go.Proofs.YtaihihejljcniaaGreatDoor.muxEarly
