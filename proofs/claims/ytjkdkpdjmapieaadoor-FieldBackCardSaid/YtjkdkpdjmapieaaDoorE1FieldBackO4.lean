/- A part of the proof: an interpreter of the model's own code on partly known states, and that what it answers is what the program answers. No condition of its own. -/
import Derived.Test.YtjkdkpdjmapieaaDoorE1FieldBackO3
set_option maxRecDepth 100000
set_option linter.unusedVariables false
set_option linter.unusedSimpArgs false
set_option maxHeartbeats 4000000
namespace Go.Proofs.YtjkdkpdjmapieaaDoor.fieldBack
open Go Go.AX Go.Proofs Go.Proofs.YtjkdkpdjmapieaaDoor
variable {nu : Nat → Value} {one : ∀ i, i < 1000000 → (nu i).oneCell' = true} {E' : Cx} {x' : Ex} {e' : LA} {h' : LE}
def isF (a v : LB) : Bool := tokS a && (visS v && (decide (a.length ≤ 64) && (decide (v.length ≤ 512) && decide (trQ v = v))))
theorem trQ_len (l : LB) : (trQ l).length ≤ l.length := Nat.le_trans (trR_len _) (trL_len _)
theorem isAg2 {C : Cx} {x y : AV} {u v : Value} (hx : Is C x u) (hy : Is C y v) : Is C (.ag [x, y]) (.agg #[u, v]) := fun ρ w h => by
  simp only [Rel, RelL] at h
  obtain ⟨l, rfl, a, t, rfl, h1, b, u, rfl, h2, rfl⟩ := h
  rw [hx ρ _ h1, hy ρ _ h2]
theorem fiNIsA : tabk.fn.get 6 = some (fI Tryd.f6 0) ∧ (fI Tryd.f6 0).body.isSome = true := ⟨rfl, by kernel_rfl⟩
def hyIsA_0 : LK := [(.call 38 [.x 0], .b true), (.call 39 [.x 1], .b true), (.len (.x 0), .x 2), (.bin .gtr (.x 2) (.i .i64 (.ofNat 64)), .b false), (.len (.x 1), .x 3), (.bin .gtr (.x 3) (.i .i64 (.ofNat 512)), .b false), (.call 40 [.x 1, .s 2 2336], .x 4), (.bin .eql (.x 4) (.x 1), .b true)]
theorem runIsA_0 : okA (call (tbl hyIsA_0) 9000 6 [.ag [.x 0, .x 1]] ⟨H0 , 4, 0, 0⟩) (.b true) = true := by kernel_rfl
def nuIsA_0 (a v : LB) : List Value := [St' a, St' v, .int .i64 ((a.length : Int)), .int .i64 ((v.length : Int)), St' (trQ v)]
theorem pathIsA_0 (a v : LB) (b0 : a.length ≤ 140737488355328) (b1 : v.length ≤ 140737488355328) (h0 : tokS a = true) (h1 : visS v = true) (h2 : ¬ (64 < (a.length : Int))) (h3 : ¬ (512 < (v.length : Int))) (h4 : (trQ v) = v) (w : World) (hl : laidE w) : CwR 6 #[.agg #[St' a, St' v]] w (.bool true) := by
  have := trQ_len v
  have ho : ∀ k r, (k, r) ∈ hyIsA_0 → HOk (cx (nuL (nuIsA_0 a v)) (fun j _ => nuL_one (l := nuIsA_0 a v) rfl j) 0 laidE laidE_stab) k r := by
    unfold hyIsA_0
    exact hc (hokTokA (s := a) (isX rfl) (denBT (by assumption)) (by first | omega | (simp only [List.length_append, List.length_cons, List.length_nil, List.length_replicate]; omega)) (by first | omega | (simp only [List.length_append, List.length_cons, List.length_nil, List.length_replicate]; omega))) <|
     hc (hokVisible (s := v) (isX rfl) (denBT (by assumption)) (by first | omega | (simp only [List.length_append, List.length_cons, List.length_nil, List.length_replicate]; omega)) (by first | omega | (simp only [List.length_append, List.length_cons, List.length_nil, List.length_replicate]; omega))) <|
     hc (lnV rfl rfl (by omega)) <|
     hc (gtcF rfl (by omega)) <|
     hc (lnV rfl rfl (by omega)) <|
     hc (gtcF rfl (by omega)) <|
     hc (hokTrim (s := v) (isX rfl) (isSx (l := [u8 32, u8 9]) 2 2336 rfl) (denX (congrArg (fun l => St' l) ((trSQ _).symm))) (by first | omega | (simp only [List.length_append, List.length_cons, List.length_nil, List.length_replicate]; omega)) (by first | omega | (simp only [List.length_append, List.length_cons, List.length_nil, List.length_replicate]; omega))) <|
     hc (kEqS (isX rfl) (isX rfl) (by first | exact decide_eq_true rfl | exact decide_eq_true ‹_› | exact decide_eq_false ‹_›)) <|
     hnil
  refine runC (tb := (tbl hyIsA_0)) (ra := .b true) rfl ((tabkOk (nuL (nuIsA_0 a v)) (fun j _ => nuL_one (l := nuIsA_0 a v) rfl j)).hyps ho) rfl fiNIsA.1 fiNIsA.2 (runIsA_0 ) (args := [.agg #[St' a, St' v]]) (by simp only [RelL, Rel]; exact ⟨_, _, rfl, ⟨_, rfl, ⟨_, _, rfl, rfl, ⟨_, _, rfl, rfl, rfl⟩⟩⟩, rfl⟩) w hl fun x hx => ?_
  simp only [Rel, RelL] at hx
  exact hx
def hyIsA_1 : LK := [(.call 38 [.x 0], .b false)]
theorem runIsA_1 : okA (call (tbl hyIsA_1) 9000 6 [.ag [.x 0, .x 1]] ⟨H0 , 4, 0, 0⟩) (.b false) = true := by kernel_rfl
def nuIsA_1 (a v : LB) : List Value := [St' a, St' v]
theorem pathIsA_1 (a v : LB) (b0 : a.length ≤ 140737488355328) (b1 : v.length ≤ 140737488355328) (h0 : ¬ (tokS a = true)) (w : World) (hl : laidE w) : CwR 6 #[.agg #[St' a, St' v]] w (.bool false) := by
  have ho : ∀ k r, (k, r) ∈ hyIsA_1 → HOk (cx (nuL (nuIsA_1 a v)) (fun j _ => nuL_one (l := nuIsA_1 a v) rfl j) 0 laidE laidE_stab) k r := by
    unfold hyIsA_1
    exact hc (hokTokA (s := a) (isX rfl) (denBF (by assumption)) (by first | omega | (simp only [List.length_append, List.length_cons, List.length_nil, List.length_replicate]; omega)) (by first | omega | (simp only [List.length_append, List.length_cons, List.length_nil, List.length_replicate]; omega))) <|
     hnil
  refine runC (tb := (tbl hyIsA_1)) (ra := .b false) rfl ((tabkOk (nuL (nuIsA_1 a v)) (fun j _ => nuL_one (l := nuIsA_1 a v) rfl j)).hyps ho) rfl fiNIsA.1 fiNIsA.2 (runIsA_1 ) (args := [.agg #[St' a, St' v]]) (by simp only [RelL, Rel]; exact ⟨_, _, rfl, ⟨_, rfl, ⟨_, _, rfl, rfl, ⟨_, _, rfl, rfl, rfl⟩⟩⟩, rfl⟩) w hl fun x hx => ?_
  simp only [Rel, RelL] at hx
  exact hx
def hyIsA_2 : LK := [(.call 38 [.x 0], .b true), (.call 39 [.x 1], .b false)]
theorem runIsA_2 : okA (call (tbl hyIsA_2) 9000 6 [.ag [.x 0, .x 1]] ⟨H0 , 4, 0, 0⟩) (.b false) = true := by kernel_rfl
def nuIsA_2 (a v : LB) : List Value := [St' a, St' v]
theorem pathIsA_2 (a v : LB) (b0 : a.length ≤ 140737488355328) (b1 : v.length ≤ 140737488355328) (h0 : tokS a = true) (h1 : ¬ (visS v = true)) (w : World) (hl : laidE w) : CwR 6 #[.agg #[St' a, St' v]] w (.bool false) := by
  have ho : ∀ k r, (k, r) ∈ hyIsA_2 → HOk (cx (nuL (nuIsA_2 a v)) (fun j _ => nuL_one (l := nuIsA_2 a v) rfl j) 0 laidE laidE_stab) k r := by
    unfold hyIsA_2
    exact hc (hokTokA (s := a) (isX rfl) (denBT (by assumption)) (by first | omega | (simp only [List.length_append, List.length_cons, List.length_nil, List.length_replicate]; omega)) (by first | omega | (simp only [List.length_append, List.length_cons, List.length_nil, List.length_replicate]; omega))) <|
     hc (hokVisible (s := v) (isX rfl) (denBF (by assumption)) (by first | omega | (simp only [List.length_append, List.length_cons, List.length_nil, List.length_replicate]; omega)) (by first | omega | (simp only [List.length_append, List.length_cons, List.length_nil, List.length_replicate]; omega))) <|
     hnil
  refine runC (tb := (tbl hyIsA_2)) (ra := .b false) rfl ((tabkOk (nuL (nuIsA_2 a v)) (fun j _ => nuL_one (l := nuIsA_2 a v) rfl j)).hyps ho) rfl fiNIsA.1 fiNIsA.2 (runIsA_2 ) (args := [.agg #[St' a, St' v]]) (by simp only [RelL, Rel]; exact ⟨_, _, rfl, ⟨_, rfl, ⟨_, _, rfl, rfl, ⟨_, _, rfl, rfl, rfl⟩⟩⟩, rfl⟩) w hl fun x hx => ?_
  simp only [Rel, RelL] at hx
  exact hx
def hyIsA_3 : LK := [(.call 38 [.x 0], .b true), (.call 39 [.x 1], .b true), (.len (.x 0), .x 2), (.bin .gtr (.x 2) (.i .i64 (.ofNat 64)), .b true)]
theorem runIsA_3 : okA (call (tbl hyIsA_3) 9000 6 [.ag [.x 0, .x 1]] ⟨H0 , 4, 0, 0⟩) (.b false) = true := by kernel_rfl
def nuIsA_3 (a v : LB) : List Value := [St' a, St' v, .int .i64 ((a.length : Int))]
theorem pathIsA_3 (a v : LB) (b0 : a.length ≤ 140737488355328) (b1 : v.length ≤ 140737488355328) (h0 : tokS a = true) (h1 : visS v = true) (h2 : 64 < (a.length : Int)) (w : World) (hl : laidE w) : CwR 6 #[.agg #[St' a, St' v]] w (.bool false) := by
  have ho : ∀ k r, (k, r) ∈ hyIsA_3 → HOk (cx (nuL (nuIsA_3 a v)) (fun j _ => nuL_one (l := nuIsA_3 a v) rfl j) 0 laidE laidE_stab) k r := by
    unfold hyIsA_3
    exact hc (hokTokA (s := a) (isX rfl) (denBT (by assumption)) (by first | omega | (simp only [List.length_append, List.length_cons, List.length_nil, List.length_replicate]; omega)) (by first | omega | (simp only [List.length_append, List.length_cons, List.length_nil, List.length_replicate]; omega))) <|
     hc (hokVisible (s := v) (isX rfl) (denBT (by assumption)) (by first | omega | (simp only [List.length_append, List.length_cons, List.length_nil, List.length_replicate]; omega)) (by first | omega | (simp only [List.length_append, List.length_cons, List.length_nil, List.length_replicate]; omega))) <|
     hc (lnV rfl rfl (by omega)) <|
     hc (gtcT rfl (by omega)) <|
     hnil
  refine runC (tb := (tbl hyIsA_3)) (ra := .b false) rfl ((tabkOk (nuL (nuIsA_3 a v)) (fun j _ => nuL_one (l := nuIsA_3 a v) rfl j)).hyps ho) rfl fiNIsA.1 fiNIsA.2 (runIsA_3 ) (args := [.agg #[St' a, St' v]]) (by simp only [RelL, Rel]; exact ⟨_, _, rfl, ⟨_, rfl, ⟨_, _, rfl, rfl, ⟨_, _, rfl, rfl, rfl⟩⟩⟩, rfl⟩) w hl fun x hx => ?_
  simp only [Rel, RelL] at hx
  exact hx
def hyIsA_4 : LK := [(.call 38 [.x 0], .b true), (.call 39 [.x 1], .b true), (.len (.x 0), .x 2), (.bin .gtr (.x 2) (.i .i64 (.ofNat 64)), .b false), (.len (.x 1), .x 3), (.bin .gtr (.x 3) (.i .i64 (.ofNat 512)), .b true)]
theorem runIsA_4 : okA (call (tbl hyIsA_4) 9000 6 [.ag [.x 0, .x 1]] ⟨H0 , 4, 0, 0⟩) (.b false) = true := by kernel_rfl
def nuIsA_4 (a v : LB) : List Value := [St' a, St' v, .int .i64 ((a.length : Int)), .int .i64 ((v.length : Int))]
theorem pathIsA_4 (a v : LB) (b0 : a.length ≤ 140737488355328) (b1 : v.length ≤ 140737488355328) (h0 : tokS a = true) (h1 : visS v = true) (h2 : ¬ (64 < (a.length : Int))) (h3 : 512 < (v.length : Int)) (w : World) (hl : laidE w) : CwR 6 #[.agg #[St' a, St' v]] w (.bool false) := by
  have ho : ∀ k r, (k, r) ∈ hyIsA_4 → HOk (cx (nuL (nuIsA_4 a v)) (fun j _ => nuL_one (l := nuIsA_4 a v) rfl j) 0 laidE laidE_stab) k r := by
    unfold hyIsA_4
    exact hc (hokTokA (s := a) (isX rfl) (denBT (by assumption)) (by first | omega | (simp only [List.length_append, List.length_cons, List.length_nil, List.length_replicate]; omega)) (by first | omega | (simp only [List.length_append, List.length_cons, List.length_nil, List.length_replicate]; omega))) <|
     hc (hokVisible (s := v) (isX rfl) (denBT (by assumption)) (by first | omega | (simp only [List.length_append, List.length_cons, List.length_nil, List.length_replicate]; omega)) (by first | omega | (simp only [List.length_append, List.length_cons, List.length_nil, List.length_replicate]; omega))) <|
     hc (lnV rfl rfl (by omega)) <|
     hc (gtcF rfl (by omega)) <|
     hc (lnV rfl rfl (by omega)) <|
     hc (gtcT rfl (by omega)) <|
     hnil
  refine runC (tb := (tbl hyIsA_4)) (ra := .b false) rfl ((tabkOk (nuL (nuIsA_4 a v)) (fun j _ => nuL_one (l := nuIsA_4 a v) rfl j)).hyps ho) rfl fiNIsA.1 fiNIsA.2 (runIsA_4 ) (args := [.agg #[St' a, St' v]]) (by simp only [RelL, Rel]; exact ⟨_, _, rfl, ⟨_, rfl, ⟨_, _, rfl, rfl, ⟨_, _, rfl, rfl, rfl⟩⟩⟩, rfl⟩) w hl fun x hx => ?_
  simp only [Rel, RelL] at hx
  exact hx
def hyIsA_5 : LK := [(.call 38 [.x 0], .b true), (.call 39 [.x 1], .b true), (.len (.x 0), .x 2), (.bin .gtr (.x 2) (.i .i64 (.ofNat 64)), .b false), (.len (.x 1), .x 3), (.bin .gtr (.x 3) (.i .i64 (.ofNat 512)), .b false), (.call 40 [.x 1, .s 2 2336], .x 4), (.bin .eql (.x 4) (.x 1), .b false)]
theorem runIsA_5 : okA (call (tbl hyIsA_5) 9000 6 [.ag [.x 0, .x 1]] ⟨H0 , 4, 0, 0⟩) (.b false) = true := by kernel_rfl
def nuIsA_5 (a v : LB) : List Value := [St' a, St' v, .int .i64 ((a.length : Int)), .int .i64 ((v.length : Int)), St' (trQ v)]
theorem pathIsA_5 (a v : LB) (b0 : a.length ≤ 140737488355328) (b1 : v.length ≤ 140737488355328) (h0 : tokS a = true) (h1 : visS v = true) (h2 : ¬ (64 < (a.length : Int))) (h3 : ¬ (512 < (v.length : Int))) (h4 : ¬ ((trQ v) = v)) (w : World) (hl : laidE w) : CwR 6 #[.agg #[St' a, St' v]] w (.bool false) := by
  have := trQ_len v
  have ho : ∀ k r, (k, r) ∈ hyIsA_5 → HOk (cx (nuL (nuIsA_5 a v)) (fun j _ => nuL_one (l := nuIsA_5 a v) rfl j) 0 laidE laidE_stab) k r := by
    unfold hyIsA_5
    exact hc (hokTokA (s := a) (isX rfl) (denBT (by assumption)) (by first | omega | (simp only [List.length_append, List.length_cons, List.length_nil, List.length_replicate]; omega)) (by first | omega | (simp only [List.length_append, List.length_cons, List.length_nil, List.length_replicate]; omega))) <|
     hc (hokVisible (s := v) (isX rfl) (denBT (by assumption)) (by first | omega | (simp only [List.length_append, List.length_cons, List.length_nil, List.length_replicate]; omega)) (by first | omega | (simp only [List.length_append, List.length_cons, List.length_nil, List.length_replicate]; omega))) <|
     hc (lnV rfl rfl (by omega)) <|
     hc (gtcF rfl (by omega)) <|
     hc (lnV rfl rfl (by omega)) <|
     hc (gtcF rfl (by omega)) <|
     hc (hokTrim (s := v) (isX rfl) (isSx (l := [u8 32, u8 9]) 2 2336 rfl) (denX (congrArg (fun l => St' l) ((trSQ _).symm))) (by first | omega | (simp only [List.length_append, List.length_cons, List.length_nil, List.length_replicate]; omega)) (by first | omega | (simp only [List.length_append, List.length_cons, List.length_nil, List.length_replicate]; omega))) <|
     hc (kEqS (isX rfl) (isX rfl) (by first | exact decide_eq_true rfl | exact decide_eq_true ‹_› | exact decide_eq_false ‹_›)) <|
     hnil
  refine runC (tb := (tbl hyIsA_5)) (ra := .b false) rfl ((tabkOk (nuL (nuIsA_5 a v)) (fun j _ => nuL_one (l := nuIsA_5 a v) rfl j)).hyps ho) rfl fiNIsA.1 fiNIsA.2 (runIsA_5 ) (args := [.agg #[St' a, St' v]]) (by simp only [RelL, Rel]; exact ⟨_, _, rfl, ⟨_, rfl, ⟨_, _, rfl, rfl, ⟨_, _, rfl, rfl, rfl⟩⟩⟩, rfl⟩) w hl fun x hx => ?_
  simp only [Rel, RelL] at hx
  exact hx
theorem callsIsA (a v : LB) (b0 : a.length ≤ 140737488355328) (b1 : v.length ≤ 140737488355328) (w : World) (hl : laidE w) : CwR 6 #[.agg #[St' a, St' v]] w (.bool (isF a v)) := by
  by_cases h0 : tokS a = true
  · by_cases h1 : visS v = true
    · by_cases h2 : 64 < (a.length : Int)
      · rw [show (.bool (isF a v) : Value) = (.bool false : Value) from by unfold isF; (by_cases q1 : a.length ≤ 64 <;> by_cases q2 : v.length ≤ 512 <;> first | omega | (simp [*]; done))]
        exact pathIsA_3 a v b0 b1 h0 h1 h2 w hl
      · by_cases h3 : 512 < (v.length : Int)
        · rw [show (.bool (isF a v) : Value) = (.bool false : Value) from by unfold isF; (by_cases q1 : a.length ≤ 64 <;> by_cases q2 : v.length ≤ 512 <;> first | omega | (simp [*]; done))]
          exact pathIsA_4 a v b0 b1 h0 h1 h2 h3 w hl
        · by_cases h4 : (trQ v) = v
          · rw [show (.bool (isF a v) : Value) = (.bool true : Value) from by unfold isF; (by_cases q1 : a.length ≤ 64 <;> by_cases q2 : v.length ≤ 512 <;> first | omega | (simp [*]; done))]
            exact pathIsA_0 a v b0 b1 h0 h1 h2 h3 h4 w hl
          · rw [show (.bool (isF a v) : Value) = (.bool false : Value) from by unfold isF; (by_cases q1 : a.length ≤ 64 <;> by_cases q2 : v.length ≤ 512 <;> first | omega | (simp [*]; done))]
            exact pathIsA_5 a v b0 b1 h0 h1 h2 h3 h4 w hl
    · rw [show (.bool (isF a v) : Value) = (.bool false : Value) from by unfold isF; (by_cases q1 : a.length ≤ 64 <;> by_cases q2 : v.length ≤ 512 <;> first | omega | (simp [*]; done))]
      exact pathIsA_2 a v b0 b1 h0 h1 w hl
  · rw [show (.bool (isF a v) : Value) = (.bool false : Value) from by unfold isF; (by_cases q1 : a.length ≤ 64 <;> by_cases q2 : v.length ≤ 512 <;> first | omega | (simp [*]; done))]
    exact pathIsA_1 a v b0 b1 h0 w hl
theorem hokIsA {x0 r : AV} {a v : LB} (i0 : Is (cx nu one 0 laidE laidE_stab) x0 (.agg #[St' a, St' v])) (hr : Den (cx nu one 0 laidE laidE_stab) r (.bool (isF a v))) (b0 : a.length ≤ 140737488355328) (b1 : v.length ≤ 140737488355328) : HOk (cx nu one 0 laidE laidE_stab) (.call 6 [x0]) r := by
  intro ρ args ha w hl _
  simp only [RelL] at ha
  obtain ⟨v0, t0, rfl, a0, rfl⟩ := ha
  have e0 := i0 ρ _ a0; subst e0
  exact (callsIsA a v b0 b1 w hl).mono fun e w' he => ⟨_, he.1, hr ρ, he.2⟩
end Go.Proofs.YtjkdkpdjmapieaaDoor.fieldBack
