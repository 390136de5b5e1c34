/- A part of the proof: an interpreter of the model's own code on partly known states, and that what it answers is what the program answers. No condition of its own. -/
import Derived.Test.YtalblkipoopdgaaDoorM1StartBackO4
set_option maxRecDepth 100000
set_option linter.unusedVariables false
set_option linter.unusedSimpArgs false
set_option maxHeartbeats 4000000
namespace Go.Proofs.YtalblkipoopdgaaDoor.startBack
open Go Go.AX Go.Proofs Go.Proofs.YtalblkipoopdgaaDoor
variable {nu : Nat → Value} {one : ∀ i, i < 1000000 → (nu i).oneCell' = true} {E' : Cx} {x' : Ex} {e' : LA} {h' : LE}
theorem fiNSpt : tabk.fn.get 8 = some (fI Tryd.f8 0) ∧ (fI Tryd.f8 0).body.isSome = true := ⟨rfl, by kernel_rfl⟩
def hySpt_0 : LK := [(.bin .eql (.s 1 63) (.x 0), .b false), (.ext 62 [.x 0, .i .u8 (.ofNat 63)], .x 1), (.bin .geq (.x 1) (.i .i64 (.ofNat 0)), .b false)]
theorem runSpt_0 (e : Nat) : okA (call (tbl hySpt_0) 9000 8 [.x 0] ⟨H0 e , 7, 0, 0⟩) (.tu [.x 0, .s 0 0]) = true := by kernel_rfl
def nuSpt_0 (t : LB) : List Value := [St' t, .int .i64 (idxB t 63)]
theorem pathSpt_0 (t : LB) (b0 : t.length ≤ 9223372036854775807) (p0 : t.length ≤ 140737488355328) (h0 : ¬ ([u8 63] = t)) (h1 : ¬ (0 ≤ idxB t 63)) (w : World) (hl : laidE w) : CwR 8 #[St' t] w (.tuple #[St' t, St' ([] : LB)]) := by
  have := ix_bd t 63
  have ho : ∀ k r, (k, r) ∈ hySpt_0 → HOk (cx (nuL (nuSpt_0 t)) (fun j _ => nuL_one (l := nuSpt_0 t) rfl j) 1 laidE laidE_stab) k r := by
    unfold hySpt_0
    exact hc (kEqS (isSx (l := [u8 63]) 1 63 rfl) (isX rfl) (by first | exact decide_eq_true rfl | exact decide_eq_true ‹_› | exact decide_eq_false ‹_›)) <|
     hc (kExtI (n := idxB t 63) exF62 exA62 exB62 (isX rfl) (isZ (m := 63) rfl) (denX rfl) rfl) <|
     hc (gecF rfl (by omega)) <|
     hnil
  refine runC (tb := (tbl hySpt_0)) (ra := .tu [.x 0, .s 0 0]) rfl ((tabkOk (nuL (nuSpt_0 t)) (fun j _ => nuL_one (l := nuSpt_0 t) rfl j)).hyps ho) rfl fiNSpt.1 fiNSpt.2 (fun e => runSpt_0 e ) (args := [St' t]) (by simp only [RelL, Rel]; exact ⟨_, _, rfl, rfl, rfl⟩) w hl fun x hx => ?_
  simp only [Rel, RelL] at hx
  obtain ⟨_, rfl, ⟨_, _, rfl, rfl, ⟨_, _, rfl, ⟨rfl, _⟩, rfl⟩⟩⟩ := hx
  rfl
def hySpt_1 : LK := [(.bin .eql (.s 1 63) (.x 0), .b true), (.sub (.x 0) none (some (.i .i64 (.ofNat 0))), .x 1), (.sub (.x 0) (some (.i .i64 (.ofNat 1))) none, .x 2)]
theorem runSpt_1 (e : Nat) : okA (call (tbl hySpt_1) 9000 8 [.x 0] ⟨H0 e , 7, 0, 0⟩) (.tu [.x 1, .x 2]) = true := by kernel_rfl
def nuSpt_1 (t : LB) : List Value := [St' t, St' (List.take (Int.toNat (0)) t), St' (List.drop (Int.toNat (1)) t)]
theorem pathSpt_1 (t : LB) (b0 : t.length ≤ 9223372036854775807) (p0 : t.length ≤ 140737488355328) (h0 : [u8 63] = t) (w : World) (hl : laidE w) : CwR 8 #[St' t] w (.tuple #[St' (List.take (Int.toNat (0)) t), St' (List.drop (Int.toNat (1)) t)]) := by
  have : t.length = 1 := by rw [← (by assumption : [u8 63] = t)]; rfl
  have := lenTake (l := t) (Q := 0) (by omega) (by omega)
  have := lenDrop (l := t) (P := 1) (by omega) (by omega)
  have ho : ∀ k r, (k, r) ∈ hySpt_1 → HOk (cx (nuL (nuSpt_1 t)) (fun j _ => nuL_one (l := nuSpt_1 t) rfl j) 1 laidE laidE_stab) k r := by
    unfold hySpt_1
    exact hc (kEqS (isSx (l := [u8 63]) 1 63 rfl) (isX rfl) (by first | exact decide_eq_true rfl | exact decide_eq_true ‹_› | exact decide_eq_false ‹_›)) <|
     hc (tkC rfl rfl (by omega)) <|
     hc (drC rfl rfl (by omega)) <|
     hnil
  refine runC (tb := (tbl hySpt_1)) (ra := .tu [.x 1, .x 2]) rfl ((tabkOk (nuL (nuSpt_1 t)) (fun j _ => nuL_one (l := nuSpt_1 t) rfl j)).hyps ho) rfl fiNSpt.1 fiNSpt.2 (fun e => runSpt_1 e ) (args := [St' t]) (by simp only [RelL, Rel]; exact ⟨_, _, rfl, rfl, rfl⟩) w hl fun x hx => ?_
  simp only [Rel, RelL] at hx
  obtain ⟨_, rfl, ⟨_, _, rfl, rfl, ⟨_, _, rfl, rfl, rfl⟩⟩⟩ := hx
  rfl
def hySpt_2 : LK := [(.bin .eql (.s 1 63) (.x 0), .b false), (.ext 62 [.x 0, .i .u8 (.ofNat 63)], .x 1), (.bin .geq (.x 1) (.i .i64 (.ofNat 0)), .b true), (.sub (.x 0) none (some (.x 1)), .x 2), (.bin .add (.x 1) (.i .i64 (.ofNat 1)), .x 3), (.sub (.x 0) (some (.x 3)) none, .x 4)]
theorem runSpt_2 (e : Nat) : okA (call (tbl hySpt_2) 9000 8 [.x 0] ⟨H0 e , 7, 0, 0⟩) (.tu [.x 2, .x 4]) = true := by kernel_rfl
def nuSpt_2 (t : LB) : List Value := [St' t, .int .i64 (idxB t 63), St' (List.take (Int.toNat (idxB t 63)) t), .int .i64 ((idxB t 63) + 1), St' (List.drop (Int.toNat ((idxB t 63) + 1)) t)]
theorem pathSpt_2 (t : LB) (b0 : t.length ≤ 9223372036854775807) (p0 : t.length ≤ 140737488355328) (h0 : ¬ ([u8 63] = t)) (h1 : 0 ≤ idxB t 63) (w : World) (hl : laidE w) : CwR 8 #[St' t] w (.tuple #[St' (List.take (Int.toNat (idxB t 63)) t), St' (List.drop (Int.toNat ((idxB t 63) + 1)) t)]) := by
  have := ix_bd t 63
  have := lenTake (l := t) (Q := idxB t 63) (by omega) (by omega)
  have := lenDrop (l := t) (P := (idxB t 63) + 1) (by omega) (by omega)
  have ho : ∀ k r, (k, r) ∈ hySpt_2 → HOk (cx (nuL (nuSpt_2 t)) (fun j _ => nuL_one (l := nuSpt_2 t) rfl j) 1 laidE laidE_stab) k r := by
    unfold hySpt_2
    exact hc (kEqS (isSx (l := [u8 63]) 1 63 rfl) (isX rfl) (by first | exact decide_eq_true rfl | exact decide_eq_true ‹_› | exact decide_eq_false ‹_›)) <|
     hc (kExtI (n := idxB t 63) exF62 exA62 exB62 (isX rfl) (isZ (m := 63) rfl) (denX rfl) rfl) <|
     hc (gecT rfl (by omega)) <|
     hc (tkV rfl rfl rfl (by omega)) <|
     hc (adC rfl rfl (by omega)) <|
     hc (drV rfl rfl rfl (by omega)) <|
     hnil
  refine runC (tb := (tbl hySpt_2)) (ra := .tu [.x 2, .x 4]) rfl ((tabkOk (nuL (nuSpt_2 t)) (fun j _ => nuL_one (l := nuSpt_2 t) rfl j)).hyps ho) rfl fiNSpt.1 fiNSpt.2 (fun e => runSpt_2 e ) (args := [St' t]) (by simp only [RelL, Rel]; exact ⟨_, _, rfl, rfl, rfl⟩) w hl fun x hx => ?_
  simp only [Rel, RelL] at hx
  obtain ⟨_, rfl, ⟨_, _, rfl, rfl, ⟨_, _, rfl, rfl, rfl⟩⟩⟩ := hx
  rfl
theorem callsSpt (t : LB) (b0 : t.length ≤ 9223372036854775807) (p0 : t.length ≤ 140737488355328) (w : World) (hl : laidE w) : CwR 8 #[St' t] w ((.tuple #[St' (qsA t), St' (qsB t)])) := by
  by_cases h0 : [u8 63] = t
  · rw [show ((.tuple #[St' (qsA t), St' (qsB t)]) : Value) = (.tuple #[St' (List.take (Int.toNat (0)) t), St' (List.drop (Int.toNat (1)) t)] : Value) from by first | exact qs_n (by assumption) | exact qs_n (by omega) | exact qs_y (by omega) | exact qs_1 (by assumption)]
    exact pathSpt_1 t b0 p0 h0 w hl
  · by_cases h1 : 0 ≤ idxB t 63
    · rw [show ((.tuple #[St' (qsA t), St' (qsB t)]) : Value) = (.tuple #[St' (List.take (Int.toNat (idxB t 63)) t), St' (List.drop (Int.toNat ((idxB t 63) + 1)) t)] : Value) from by first | exact qs_n (by assumption) | exact qs_n (by omega) | exact qs_y (by omega) | exact qs_1 (by assumption)]
      exact pathSpt_2 t b0 p0 h0 h1 w hl
    · rw [show ((.tuple #[St' (qsA t), St' (qsB t)]) : Value) = (.tuple #[St' t, St' ([] : LB)] : Value) from by first | exact qs_n (by assumption) | exact qs_n (by omega) | exact qs_y (by omega) | exact qs_1 (by assumption)]
      exact pathSpt_0 t b0 p0 h0 h1 w hl
theorem hokSpt {x0 r : AV} {t : LB} (i0 : Is (cx nu one 1 laidE laidE_stab) x0 (St' t)) (hr : Den (cx nu one 1 laidE laidE_stab) r ((.tuple #[St' (qsA t), St' (qsB t)]))) (b0 : t.length ≤ 9223372036854775807) (p0 : t.length ≤ 140737488355328) : HOk (cx nu one 1 laidE laidE_stab) (.call 8 [x0]) r := by
  intro ρ args ha w hl _
  simp only [RelL] at ha
  obtain ⟨v0, t0, rfl, a0, rfl⟩ := ha
  have e0 := i0 ρ _ a0; subst e0
  exact (callsSpt t b0 p0 w hl).mono fun e w' he => ⟨_, he.1, hr ρ, he.2⟩
noncomputable def fi4 : FI := (tabk.fn.get 4).getD default
theorem fi4_at : tabk.fn.get 4 = some fi4 := by kernel_rfl
theorem fi4_body : fi4.body = some (Tryd.f4.body.getD .skip) := by kernel_rfl
theorem fiB4 : fi4.body.isSome = true := by rw [fi4_body]; rfl
theorem cfA4 : (loopsOf (Tryd.f4.body.getD .skip)).all (fun b => !(keyEq (Go.AX.keyOf b) 8888888)) = true := by kernel_rfl
end Go.Proofs.YtalblkipoopdgaaDoor.startBack
