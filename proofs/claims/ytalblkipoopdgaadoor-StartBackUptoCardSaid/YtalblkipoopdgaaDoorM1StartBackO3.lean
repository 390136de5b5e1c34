/- A part of the proof: an interpreter of the model's own code on partly known states, and that what it answers is what the program answers. No condition of its own. -/
import Derived.Test.YtalblkipoopdgaaDoorM1StartBackO2
set_option maxRecDepth 100000
set_option linter.unusedVariables false
set_option linter.unusedSimpArgs false
set_option maxHeartbeats 4000000
namespace Go.Proofs.YtalblkipoopdgaaDoor.startBack
open Go Go.AX Go.Proofs Go.Proofs.YtalblkipoopdgaaDoor
variable {nu : Nat → Value} {one : ∀ i, i < 1000000 → (nu i).oneCell' = true} {E' : Cx} {x' : Ex} {e' : LA} {h' : LE}
theorem hGl {C : Cx} (hP : C.P = Tryd.prog) (hn : C.nst = 1) {w : World} (h : laidE w) : ∃ e : Nat, ∀ v k, (H0 e).get v = some k → v < 7 ∧ v < C.nst ∧ ∃ e' c m, k = gBlk e' c ∧ CellsAre m c ∧ GArr C w v e' m := by
  have hE := id h
  obtain ⟨e, g0⟩ := geOf (C := C) hP hE
  refine ⟨e, fun v k hv => ?_⟩
  unfold H0 at hv
  rw [get_set _ _ _ _ (by omega)] at hv
  split at hv
  · rename_i e0; subst e0; injection hv with hv; subst hv
    exact ⟨by omega, by rw [hn]; omega, e, _, _, rfl, ⟨trivial, rfl⟩, g0⟩
  · simp [T.get_leaf] at hv
theorem fiNMeth : tabk.fn.get 16 = some (fI Tryd.f16 0) ∧ (fI Tryd.f16 0).body.isSome = true := ⟨rfl, by kernel_rfl⟩
def hyMeth_0 : LK := [(.call 29 [.x 0], .b true), (.len (.x 0), .x 1), (.bin .gtr (.x 1) (.i .i64 (.ofNat 16)), .b false)]
theorem runMeth_0 (e : Nat) : okA (call (tbl hyMeth_0) 9000 16 [.x 0] ⟨H0 e , 7, 0, 0⟩) (.ni) = true := by kernel_rfl
def nuMeth_0 (s : LB) : List Value := [St' s, .int .i64 ((s.length : Int))]
theorem pathMeth_0 (s : LB) (b0 : s.length ≤ 9223372036854775807) (p0 : s.length ≤ 140737488355328) (h0 : tokS s = true) (h1 : ¬ (16 < (s.length : Int))) (w : World) (hl : laidE w) : CwR 16 #[St' s] w (.nilIface) := by
  have ho : ∀ k r, (k, r) ∈ hyMeth_0 → HOk (cx (nuL (nuMeth_0 s)) (fun j _ => nuL_one (l := nuMeth_0 s) rfl j) 1 laidE laidE_stab) k r := by
    unfold hyMeth_0
    exact hc (hokTokA (s := s) (isX rfl) (denBT (by assumption)) (by first | omega | (simp only [List.length_append, List.length_cons, List.length_nil, List.length_replicate]; omega)) (by first | omega | (simp only [List.length_append, List.length_cons, List.length_nil, List.length_replicate]; omega))) <|
     hc (lnV rfl rfl (by omega)) <|
     hc (gtcF rfl (by omega)) <|
     hnil
  refine runC (tb := (tbl hyMeth_0)) (ra := .ni) rfl ((tabkOk (nuL (nuMeth_0 s)) (fun j _ => nuL_one (l := nuMeth_0 s) rfl j)).hyps ho) rfl fiNMeth.1 fiNMeth.2 (fun e => runMeth_0 e ) (args := [St' s]) (by simp only [RelL, Rel]; exact ⟨_, _, rfl, rfl, rfl⟩) w hl fun x hx => ?_
  simp only [Rel, RelL] at hx
  exact hx
def hyMeth_1 : LK := [(.call 29 [.x 0], .b false)]
theorem runMeth_1 (e : Nat) : okA (call (tbl hyMeth_1) 9000 16 [.x 0] ⟨H0 e , 7, 0, 0⟩) (.ifc 60 (.ag [.i .i64 (.ofNat 10), .s 21 148242139331322749289446818328510565105317482143841])) = true := by kernel_rfl
def nuMeth_1 (s : LB) : List Value := [St' s]
theorem pathMeth_1 (s : LB) (b0 : s.length ≤ 9223372036854775807) (p0 : s.length ≤ 140737488355328) (h0 : ¬ (tokS s = true)) (w : World) (hl : laidE w) : CwR 16 #[St' s] w (.iface 60 (.agg #[.int .i64 10, St' [u8 97, u8 32, u8 109, u8 101, u8 116, u8 104, u8 111, u8 100, u8 32, u8 116, u8 104, u8 97, u8 116, u8 32, u8 105, u8 115, u8 32, u8 110, u8 111, u8 110, u8 101]])) := by
  have ho : ∀ k r, (k, r) ∈ hyMeth_1 → HOk (cx (nuL (nuMeth_1 s)) (fun j _ => nuL_one (l := nuMeth_1 s) rfl j) 1 laidE laidE_stab) k r := by
    unfold hyMeth_1
    exact hc (hokTokA (s := s) (isX rfl) (denBF (by assumption)) (by first | omega | (simp only [List.length_append, List.length_cons, List.length_nil, List.length_replicate]; omega)) (by first | omega | (simp only [List.length_append, List.length_cons, List.length_nil, List.length_replicate]; omega))) <|
     hnil
  refine runC (tb := (tbl hyMeth_1)) (ra := .ifc 60 (.ag [.i .i64 (.ofNat 10), .s 21 148242139331322749289446818328510565105317482143841])) rfl ((tabkOk (nuL (nuMeth_1 s)) (fun j _ => nuL_one (l := nuMeth_1 s) rfl j)).hyps ho) rfl fiNMeth.1 fiNMeth.2 (fun e => runMeth_1 e ) (args := [St' s]) (by simp only [RelL, Rel]; exact ⟨_, _, rfl, rfl, rfl⟩) w hl fun x hx => ?_
  simp only [Rel, RelL] at hx
  obtain ⟨_, rfl, ⟨_, rfl, ⟨_, _, rfl, rfl, ⟨_, _, rfl, ⟨rfl, _⟩, rfl⟩⟩⟩⟩ := hx
  rfl
def hyMeth_2 : LK := [(.call 29 [.x 0], .b true), (.len (.x 0), .x 1), (.bin .gtr (.x 1) (.i .i64 (.ofNat 16)), .b true)]
theorem runMeth_2 (e : Nat) : okA (call (tbl hyMeth_2) 9000 16 [.x 0] ⟨H0 e , 7, 0, 0⟩) (.ifc 60 (.ag [.i .i64 (.ofNat 10), .s 21 148242139331322749289446818328510565105317482143841])) = true := by kernel_rfl
def nuMeth_2 (s : LB) : List Value := [St' s, .int .i64 ((s.length : Int))]
theorem pathMeth_2 (s : LB) (b0 : s.length ≤ 9223372036854775807) (p0 : s.length ≤ 140737488355328) (h0 : tokS s = true) (h1 : 16 < (s.length : Int)) (w : World) (hl : laidE w) : CwR 16 #[St' s] w (.iface 60 (.agg #[.int .i64 10, St' [u8 97, u8 32, u8 109, u8 101, u8 116, u8 104, u8 111, u8 100, u8 32, u8 116, u8 104, u8 97, u8 116, u8 32, u8 105, u8 115, u8 32, u8 110, u8 111, u8 110, u8 101]])) := by
  have ho : ∀ k r, (k, r) ∈ hyMeth_2 → HOk (cx (nuL (nuMeth_2 s)) (fun j _ => nuL_one (l := nuMeth_2 s) rfl j) 1 laidE laidE_stab) k r := by
    unfold hyMeth_2
    exact hc (hokTokA (s := s) (isX rfl) (denBT (by assumption)) (by first | omega | (simp only [List.length_append, List.length_cons, List.length_nil, List.length_replicate]; omega)) (by first | omega | (simp only [List.length_append, List.length_cons, List.length_nil, List.length_replicate]; omega))) <|
     hc (lnV rfl rfl (by omega)) <|
     hc (gtcT rfl (by omega)) <|
     hnil
  refine runC (tb := (tbl hyMeth_2)) (ra := .ifc 60 (.ag [.i .i64 (.ofNat 10), .s 21 148242139331322749289446818328510565105317482143841])) rfl ((tabkOk (nuL (nuMeth_2 s)) (fun j _ => nuL_one (l := nuMeth_2 s) rfl j)).hyps ho) rfl fiNMeth.1 fiNMeth.2 (fun e => runMeth_2 e ) (args := [St' s]) (by simp only [RelL, Rel]; exact ⟨_, _, rfl, rfl, rfl⟩) w hl fun x hx => ?_
  simp only [Rel, RelL] at hx
  obtain ⟨_, rfl, ⟨_, rfl, ⟨_, _, rfl, rfl, ⟨_, _, rfl, ⟨rfl, _⟩, rfl⟩⟩⟩⟩ := hx
  rfl
theorem callsMeth (s : LB) (b0 : s.length ≤ 9223372036854775807) (p0 : s.length ≤ 140737488355328) (w : World) (hl : laidE w) : CwR 16 #[St' s] w ((erK (mtN s))) := by
  by_cases h0 : tokS s = true
  · by_cases h1 : 16 < (s.length : Int)
    · rw [show ((erK (mtN s)) : Value) = (.iface 60 (.agg #[.int .i64 10, St' [u8 97, u8 32, u8 109, u8 101, u8 116, u8 104, u8 111, u8 100, u8 32, u8 116, u8 104, u8 97, u8 116, u8 32, u8 105, u8 115, u8 32, u8 110, u8 111, u8 110, u8 101]]) : Value) from by first | exact congrArg erK (mt_ok (by assumption) (by omega)) | exact congrArg erK (mt_t (by assumption)) | exact congrArg erK (mt_l (by omega))]
      exact pathMeth_2 s b0 p0 h0 h1 w hl
    · rw [show ((erK (mtN s)) : Value) = (.nilIface : Value) from by first | exact congrArg erK (mt_ok (by assumption) (by omega)) | exact congrArg erK (mt_t (by assumption)) | exact congrArg erK (mt_l (by omega))]
      exact pathMeth_0 s b0 p0 h0 h1 w hl
  · rw [show ((erK (mtN s)) : Value) = (.iface 60 (.agg #[.int .i64 10, St' [u8 97, u8 32, u8 109, u8 101, u8 116, u8 104, u8 111, u8 100, u8 32, u8 116, u8 104, u8 97, u8 116, u8 32, u8 105, u8 115, u8 32, u8 110, u8 111, u8 110, u8 101]]) : Value) from by first | exact congrArg erK (mt_ok (by assumption) (by omega)) | exact congrArg erK (mt_t (by assumption)) | exact congrArg erK (mt_l (by omega))]
    exact pathMeth_1 s b0 p0 h0 w hl
theorem hokMeth {x0 r : AV} {s : LB} (i0 : Is (cx nu one 1 laidE laidE_stab) x0 (St' s)) (hr : Den (cx nu one 1 laidE laidE_stab) r ((erK (mtN s)))) (b0 : s.length ≤ 9223372036854775807) (p0 : s.length ≤ 140737488355328) : HOk (cx nu one 1 laidE laidE_stab) (.call 16 [x0]) r := by
  intro ρ args ha w hl _
  simp only [RelL] at ha
  obtain ⟨v0, t0, rfl, a0, rfl⟩ := ha
  have e0 := i0 ρ _ a0; subst e0
  exact (callsMeth s b0 p0 w hl).mono fun e w' he => ⟨_, he.1, hr ρ, he.2⟩
theorem fiNVers : tabk.fn.get 17 = some (fI Tryd.f17 0) ∧ (fI Tryd.f17 0).body.isSome = true := ⟨rfl, by kernel_rfl⟩
def hyVers_0 : LK := [(.bin .eql (.x 0) (.s 8 3471766442030158920), .b true)]
theorem runVers_0 (e : Nat) : okA (call (tbl hyVers_0) 9000 17 [.x 0] ⟨H0 e , 7, 0, 0⟩) (.ni) = true := by kernel_rfl
def nuVers_0 (s : LB) : List Value := [St' s]
theorem pathVers_0 (s : LB) (b0 : s.length ≤ 9223372036854775807) (p0 : s.length ≤ 140737488355328) (h0 : s = [u8 72, u8 84, u8 84, u8 80, u8 47, u8 49, u8 46, u8 48]) (w : World) (hl : laidE w) : CwR 17 #[St' s] w (.nilIface) := by
  have ho : ∀ k r, (k, r) ∈ hyVers_0 → HOk (cx (nuL (nuVers_0 s)) (fun j _ => nuL_one (l := nuVers_0 s) rfl j) 1 laidE laidE_stab) k r := by
    unfold hyVers_0
    exact hc (kEqS (isX rfl) (isSx (l := [u8 72, u8 84, u8 84, u8 80, u8 47, u8 49, u8 46, u8 48]) 8 3471766442030158920 rfl) (by first | exact decide_eq_true rfl | exact decide_eq_true ‹_› | exact decide_eq_false ‹_›)) <|
     hnil
  refine runC (tb := (tbl hyVers_0)) (ra := .ni) rfl ((tabkOk (nuL (nuVers_0 s)) (fun j _ => nuL_one (l := nuVers_0 s) rfl j)).hyps ho) rfl fiNVers.1 fiNVers.2 (fun e => runVers_0 e ) (args := [St' s]) (by simp only [RelL, Rel]; exact ⟨_, _, rfl, rfl, rfl⟩) w hl fun x hx => ?_
  simp only [Rel, RelL] at hx
  exact hx
def hyVers_1 : LK := [(.bin .eql (.x 0) (.s 8 3471766442030158920), .b false), (.bin .eql (.x 0) (.s 8 3543824036068086856), .b true)]
theorem runVers_1 (e : Nat) : okA (call (tbl hyVers_1) 9000 17 [.x 0] ⟨H0 e , 7, 0, 0⟩) (.ni) = true := by kernel_rfl
def nuVers_1 (s : LB) : List Value := [St' s]
theorem pathVers_1 (s : LB) (b0 : s.length ≤ 9223372036854775807) (p0 : s.length ≤ 140737488355328) (h0 : ¬ (s = [u8 72, u8 84, u8 84, u8 80, u8 47, u8 49, u8 46, u8 48])) (h1 : s = [u8 72, u8 84, u8 84, u8 80, u8 47, u8 49, u8 46, u8 49]) (w : World) (hl : laidE w) : CwR 17 #[St' s] w (.nilIface) := by
  have ho : ∀ k r, (k, r) ∈ hyVers_1 → HOk (cx (nuL (nuVers_1 s)) (fun j _ => nuL_one (l := nuVers_1 s) rfl j) 1 laidE laidE_stab) k r := by
    unfold hyVers_1
    exact hc (kEqS (isX rfl) (isSx (l := [u8 72, u8 84, u8 84, u8 80, u8 47, u8 49, u8 46, u8 48]) 8 3471766442030158920 rfl) (by first | exact decide_eq_true rfl | exact decide_eq_true ‹_› | exact decide_eq_false ‹_›)) <|
     hc (kEqS (isX rfl) (isSx (l := [u8 72, u8 84, u8 84, u8 80, u8 47, u8 49, u8 46, u8 49]) 8 3543824036068086856 rfl) (by first | exact decide_eq_true rfl | exact decide_eq_true ‹_› | exact decide_eq_false ‹_›)) <|
     hnil
  refine runC (tb := (tbl hyVers_1)) (ra := .ni) rfl ((tabkOk (nuL (nuVers_1 s)) (fun j _ => nuL_one (l := nuVers_1 s) rfl j)).hyps ho) rfl fiNVers.1 fiNVers.2 (fun e => runVers_1 e ) (args := [St' s]) (by simp only [RelL, Rel]; exact ⟨_, _, rfl, rfl, rfl⟩) w hl fun x hx => ?_
  simp only [Rel, RelL] at hx
  exact hx
def hyVers_2 : LK := [(.bin .eql (.x 0) (.s 8 3471766442030158920), .b false), (.bin .eql (.x 0) (.s 8 3543824036068086856), .b false), (.len (.x 0), .x 1), (.bin .geq (.x 1) (.i .i64 (.ofNat 5)), .b true), (.sub (.x 0) none (some (.i .i64 (.ofNat 5))), .x 2), (.bin .eql (.x 2) (.s 5 203211166792), .b true)]
theorem runVers_2 (e : Nat) : okA (call (tbl hyVers_2) 9000 17 [.x 0] ⟨H0 e , 7, 0, 0⟩) (.ifc 60 (.ag [.i .i64 (.ofNat 13), .s 23 7694029013446026437275817960271408410624107796103130721])) = true := by kernel_rfl
def nuVers_2 (s : LB) : List Value := [St' s, .int .i64 ((s.length : Int)), St' (List.take (Int.toNat (5)) s)]
theorem pathVers_2 (s : LB) (b0 : s.length ≤ 9223372036854775807) (p0 : s.length ≤ 140737488355328) (h0 : ¬ (s = [u8 72, u8 84, u8 84, u8 80, u8 47, u8 49, u8 46, u8 48])) (h1 : ¬ (s = [u8 72, u8 84, u8 84, u8 80, u8 47, u8 49, u8 46, u8 49])) (h2 : 5 ≤ (s.length : Int)) (h3 : (List.take (Int.toNat (5)) s) = [u8 72, u8 84, u8 84, u8 80, u8 47]) (w : World) (hl : laidE w) : CwR 17 #[St' s] w (.iface 60 (.agg #[.int .i64 13, St' [u8 97, u8 110, u8 111, u8 116, u8 104, u8 101, u8 114, u8 32, u8 118, u8 101, u8 114, u8 115, u8 105, u8 111, u8 110, u8 32, u8 111, u8 102, u8 32, u8 72, u8 84, u8 84, u8 80]])) := by
  have := lenTake (l := s) (Q := 5) (by omega) (by omega)
  have ho : ∀ k r, (k, r) ∈ hyVers_2 → HOk (cx (nuL (nuVers_2 s)) (fun j _ => nuL_one (l := nuVers_2 s) rfl j) 1 laidE laidE_stab) k r := by
    unfold hyVers_2
    exact hc (kEqS (isX rfl) (isSx (l := [u8 72, u8 84, u8 84, u8 80, u8 47, u8 49, u8 46, u8 48]) 8 3471766442030158920 rfl) (by first | exact decide_eq_true rfl | exact decide_eq_true ‹_› | exact decide_eq_false ‹_›)) <|
     hc (kEqS (isX rfl) (isSx (l := [u8 72, u8 84, u8 84, u8 80, u8 47, u8 49, u8 46, u8 49]) 8 3543824036068086856 rfl) (by first | exact decide_eq_true rfl | exact decide_eq_true ‹_› | exact decide_eq_false ‹_›)) <|
     hc (lnV rfl rfl (by omega)) <|
     hc (gecT rfl (by omega)) <|
     hc (tkC rfl rfl (by omega)) <|
     hc (kEqS (isX rfl) (isSx (l := [u8 72, u8 84, u8 84, u8 80, u8 47]) 5 203211166792 rfl) (by first | exact decide_eq_true rfl | exact decide_eq_true ‹_› | exact decide_eq_false ‹_›)) <|
     hnil
  refine runC (tb := (tbl hyVers_2)) (ra := .ifc 60 (.ag [.i .i64 (.ofNat 13), .s 23 7694029013446026437275817960271408410624107796103130721])) rfl ((tabkOk (nuL (nuVers_2 s)) (fun j _ => nuL_one (l := nuVers_2 s) rfl j)).hyps ho) rfl fiNVers.1 fiNVers.2 (fun e => runVers_2 e ) (args := [St' s]) (by simp only [RelL, Rel]; exact ⟨_, _, rfl, rfl, rfl⟩) w hl fun x hx => ?_
  simp only [Rel, RelL] at hx
  obtain ⟨_, rfl, ⟨_, rfl, ⟨_, _, rfl, rfl, ⟨_, _, rfl, ⟨rfl, _⟩, rfl⟩⟩⟩⟩ := hx
  rfl
def hyVers_3 : LK := [(.bin .eql (.x 0) (.s 8 3471766442030158920), .b false), (.bin .eql (.x 0) (.s 8 3543824036068086856), .b false), (.len (.x 0), .x 1), (.bin .geq (.x 1) (.i .i64 (.ofNat 5)), .b true), (.sub (.x 0) none (some (.i .i64 (.ofNat 5))), .x 2), (.bin .eql (.x 2) (.s 5 203211166792), .b false)]
theorem runVers_3 (e : Nat) : okA (call (tbl hyVers_3) 9000 17 [.x 0] ⟨H0 e , 7, 0, 0⟩) (.ifc 60 (.ag [.i .i64 (.ofNat 10), .s 22 37949987668818623818098385492098889134682443695399009])) = true := by kernel_rfl
def nuVers_3 (s : LB) : List Value := [St' s, .int .i64 ((s.length : Int)), St' (List.take (Int.toNat (5)) s)]
theorem pathVers_3 (s : LB) (b0 : s.length ≤ 9223372036854775807) (p0 : s.length ≤ 140737488355328) (h0 : ¬ (s = [u8 72, u8 84, u8 84, u8 80, u8 47, u8 49, u8 46, u8 48])) (h1 : ¬ (s = [u8 72, u8 84, u8 84, u8 80, u8 47, u8 49, u8 46, u8 49])) (h2 : 5 ≤ (s.length : Int)) (h3 : ¬ ((List.take (Int.toNat (5)) s) = [u8 72, u8 84, u8 84, u8 80, u8 47])) (w : World) (hl : laidE w) : CwR 17 #[St' s] w (.iface 60 (.agg #[.int .i64 10, St' [u8 97, u8 32, u8 118, u8 101, u8 114, u8 115, u8 105, u8 111, u8 110, u8 32, u8 116, u8 104, u8 97, u8 116, u8 32, u8 105, u8 115, u8 32, u8 110, u8 111, u8 110, u8 101]])) := by
  have := lenTake (l := s) (Q := 5) (by omega) (by omega)
  have ho : ∀ k r, (k, r) ∈ hyVers_3 → HOk (cx (nuL (nuVers_3 s)) (fun j _ => nuL_one (l := nuVers_3 s) rfl j) 1 laidE laidE_stab) k r := by
    unfold hyVers_3
    exact hc (kEqS (isX rfl) (isSx (l := [u8 72, u8 84, u8 84, u8 80, u8 47, u8 49, u8 46, u8 48]) 8 3471766442030158920 rfl) (by first | exact decide_eq_true rfl | exact decide_eq_true ‹_› | exact decide_eq_false ‹_›)) <|
     hc (kEqS (isX rfl) (isSx (l := [u8 72, u8 84, u8 84, u8 80, u8 47, u8 49, u8 46, u8 49]) 8 3543824036068086856 rfl) (by first | exact decide_eq_true rfl | exact decide_eq_true ‹_› | exact decide_eq_false ‹_›)) <|
     hc (lnV rfl rfl (by omega)) <|
     hc (gecT rfl (by omega)) <|
     hc (tkC rfl rfl (by omega)) <|
     hc (kEqS (isX rfl) (isSx (l := [u8 72, u8 84, u8 84, u8 80, u8 47]) 5 203211166792 rfl) (by first | exact decide_eq_true rfl | exact decide_eq_true ‹_› | exact decide_eq_false ‹_›)) <|
     hnil
  refine runC (tb := (tbl hyVers_3)) (ra := .ifc 60 (.ag [.i .i64 (.ofNat 10), .s 22 37949987668818623818098385492098889134682443695399009])) rfl ((tabkOk (nuL (nuVers_3 s)) (fun j _ => nuL_one (l := nuVers_3 s) rfl j)).hyps ho) rfl fiNVers.1 fiNVers.2 (fun e => runVers_3 e ) (args := [St' s]) (by simp only [RelL, Rel]; exact ⟨_, _, rfl, rfl, rfl⟩) w hl fun x hx => ?_
  simp only [Rel, RelL] at hx
  obtain ⟨_, rfl, ⟨_, rfl, ⟨_, _, rfl, rfl, ⟨_, _, rfl, ⟨rfl, _⟩, rfl⟩⟩⟩⟩ := hx
  rfl
def hyVers_4 : LK := [(.bin .eql (.x 0) (.s 8 3471766442030158920), .b false), (.bin .eql (.x 0) (.s 8 3543824036068086856), .b false), (.len (.x 0), .x 1), (.bin .geq (.x 1) (.i .i64 (.ofNat 5)), .b false)]
theorem runVers_4 (e : Nat) : okA (call (tbl hyVers_4) 9000 17 [.x 0] ⟨H0 e , 7, 0, 0⟩) (.ifc 60 (.ag [.i .i64 (.ofNat 10), .s 22 37949987668818623818098385492098889134682443695399009])) = true := by kernel_rfl
def nuVers_4 (s : LB) : List Value := [St' s, .int .i64 ((s.length : Int))]
theorem pathVers_4 (s : LB) (b0 : s.length ≤ 9223372036854775807) (p0 : s.length ≤ 140737488355328) (h0 : ¬ (s = [u8 72, u8 84, u8 84, u8 80, u8 47, u8 49, u8 46, u8 48])) (h1 : ¬ (s = [u8 72, u8 84, u8 84, u8 80, u8 47, u8 49, u8 46, u8 49])) (h2 : ¬ (5 ≤ (s.length : Int))) (w : World) (hl : laidE w) : CwR 17 #[St' s] w (.iface 60 (.agg #[.int .i64 10, St' [u8 97, u8 32, u8 118, u8 101, u8 114, u8 115, u8 105, u8 111, u8 110, u8 32, u8 116, u8 104, u8 97, u8 116, u8 32, u8 105, u8 115, u8 32, u8 110, u8 111, u8 110, u8 101]])) := by
  have ho : ∀ k r, (k, r) ∈ hyVers_4 → HOk (cx (nuL (nuVers_4 s)) (fun j _ => nuL_one (l := nuVers_4 s) rfl j) 1 laidE laidE_stab) k r := by
    unfold hyVers_4
    exact hc (kEqS (isX rfl) (isSx (l := [u8 72, u8 84, u8 84, u8 80, u8 47, u8 49, u8 46, u8 48]) 8 3471766442030158920 rfl) (by first | exact decide_eq_true rfl | exact decide_eq_true ‹_› | exact decide_eq_false ‹_›)) <|
     hc (kEqS (isX rfl) (isSx (l := [u8 72, u8 84, u8 84, u8 80, u8 47, u8 49, u8 46, u8 49]) 8 3543824036068086856 rfl) (by first | exact decide_eq_true rfl | exact decide_eq_true ‹_› | exact decide_eq_false ‹_›)) <|
     hc (lnV rfl rfl (by omega)) <|
     hc (gecF rfl (by omega)) <|
     hnil
  refine runC (tb := (tbl hyVers_4)) (ra := .ifc 60 (.ag [.i .i64 (.ofNat 10), .s 22 37949987668818623818098385492098889134682443695399009])) rfl ((tabkOk (nuL (nuVers_4 s)) (fun j _ => nuL_one (l := nuVers_4 s) rfl j)).hyps ho) rfl fiNVers.1 fiNVers.2 (fun e => runVers_4 e ) (args := [St' s]) (by simp only [RelL, Rel]; exact ⟨_, _, rfl, rfl, rfl⟩) w hl fun x hx => ?_
  simp only [Rel, RelL] at hx
  obtain ⟨_, rfl, ⟨_, rfl, ⟨_, _, rfl, rfl, ⟨_, _, rfl, ⟨rfl, _⟩, rfl⟩⟩⟩⟩ := hx
  rfl
theorem callsVers (s : LB) (b0 : s.length ≤ 9223372036854775807) (p0 : s.length ≤ 140737488355328) (w : World) (hl : laidE w) : CwR 17 #[St' s] w ((erK (verK s))) := by
  by_cases h0 : s = [u8 72, u8 84, u8 84, u8 80, u8 47, u8 49, u8 46, u8 48]
  · rw [show ((erK (verK s)) : Value) = (.nilIface : Value) from by first | exact congrArg erK (vr_0 (by assumption)) | exact congrArg erK (vr_1 (by assumption)) | exact congrArg erK (vr_3 (by assumption) (by assumption) (by assumption)) | exact congrArg erK (vr_s (by assumption) (by assumption) (by omega)) | exact congrArg erK (vr_4 (by assumption) (by assumption) (by assumption))]
    exact pathVers_0 s b0 p0 h0 w hl
  · by_cases h1 : s = [u8 72, u8 84, u8 84, u8 80, u8 47, u8 49, u8 46, u8 49]
    · rw [show ((erK (verK s)) : Value) = (.nilIface : Value) from by first | exact congrArg erK (vr_0 (by assumption)) | exact congrArg erK (vr_1 (by assumption)) | exact congrArg erK (vr_3 (by assumption) (by assumption) (by assumption)) | exact congrArg erK (vr_s (by assumption) (by assumption) (by omega)) | exact congrArg erK (vr_4 (by assumption) (by assumption) (by assumption))]
      exact pathVers_1 s b0 p0 h0 h1 w hl
    · by_cases h2 : 5 ≤ (s.length : Int)
      · by_cases h3 : (List.take (Int.toNat (5)) s) = [u8 72, u8 84, u8 84, u8 80, u8 47]
        · rw [show ((erK (verK s)) : Value) = (.iface 60 (.agg #[.int .i64 13, St' [u8 97, u8 110, u8 111, u8 116, u8 104, u8 101, u8 114, u8 32, u8 118, u8 101, u8 114, u8 115, u8 105, u8 111, u8 110, u8 32, u8 111, u8 102, u8 32, u8 72, u8 84, u8 84, u8 80]]) : Value) from by first | exact congrArg erK (vr_0 (by assumption)) | exact congrArg erK (vr_1 (by assumption)) | exact congrArg erK (vr_3 (by assumption) (by assumption) (by assumption)) | exact congrArg erK (vr_s (by assumption) (by assumption) (by omega)) | exact congrArg erK (vr_4 (by assumption) (by assumption) (by assumption))]
          exact pathVers_2 s b0 p0 h0 h1 h2 h3 w hl
        · rw [show ((erK (verK s)) : Value) = (.iface 60 (.agg #[.int .i64 10, St' [u8 97, u8 32, u8 118, u8 101, u8 114, u8 115, u8 105, u8 111, u8 110, u8 32, u8 116, u8 104, u8 97, u8 116, u8 32, u8 105, u8 115, u8 32, u8 110, u8 111, u8 110, u8 101]]) : Value) from by first | exact congrArg erK (vr_0 (by assumption)) | exact congrArg erK (vr_1 (by assumption)) | exact congrArg erK (vr_3 (by assumption) (by assumption) (by assumption)) | exact congrArg erK (vr_s (by assumption) (by assumption) (by omega)) | exact congrArg erK (vr_4 (by assumption) (by assumption) (by assumption))]
          exact pathVers_3 s b0 p0 h0 h1 h2 h3 w hl
      · rw [show ((erK (verK s)) : Value) = (.iface 60 (.agg #[.int .i64 10, St' [u8 97, u8 32, u8 118, u8 101, u8 114, u8 115, u8 105, u8 111, u8 110, u8 32, u8 116, u8 104, u8 97, u8 116, u8 32, u8 105, u8 115, u8 32, u8 110, u8 111, u8 110, u8 101]]) : Value) from by first | exact congrArg erK (vr_0 (by assumption)) | exact congrArg erK (vr_1 (by assumption)) | exact congrArg erK (vr_3 (by assumption) (by assumption) (by assumption)) | exact congrArg erK (vr_s (by assumption) (by assumption) (by omega)) | exact congrArg erK (vr_4 (by assumption) (by assumption) (by assumption))]
        exact pathVers_4 s b0 p0 h0 h1 h2 w hl
theorem hokVers {x0 r : AV} {s : LB} (i0 : Is (cx nu one 1 laidE laidE_stab) x0 (St' s)) (hr : Den (cx nu one 1 laidE laidE_stab) r ((erK (verK s)))) (b0 : s.length ≤ 9223372036854775807) (p0 : s.length ≤ 140737488355328) : HOk (cx nu one 1 laidE laidE_stab) (.call 17 [x0]) r := by
  intro ρ args ha w hl _
  simp only [RelL] at ha
  obtain ⟨v0, t0, rfl, a0, rfl⟩ := ha
  have e0 := i0 ρ _ a0; subst e0
  exact (callsVers s b0 p0 w hl).mono fun e w' he => ⟨_, he.1, hr ρ, he.2⟩
noncomputable def bodyTl : Code := loopNo (Tryd.f18.body.getD .skip) 0
theorem keyTl : oneKey (loopsOf (Tryd.f18.body.getD .skip)) 5 0 0 = true := by kernel_rfl
def keepTl : List Nat := []
def epTl_0 : LA := [(1, .p 12 0), (25, .x 3), (26, .x 2)]
def hpTl_0 : LE := [(12, .b ⟨25, .l [.x 0, .x 1, .i .i64 (.ofNat 0), .nils, .s 0 0], 0, 0, 0, false, false⟩)]
def nuTl_0 (m t : LB) (A : Bool) (i : Int) : List Value := [St' m, St' t, .int .i64 (i), .int .i64 ((t.length : Int)), .int .u8 (bt t (Int.toNat (i))), .int .i64 (i + 1), .int .u8 (bt t (Int.toNat (i))), .int .u8 (bt t (Int.toNat (i))), .int .u8 (bt t (Int.toNat (i)))]
def roTl_0 (m t : LB) (A : Bool) (i : Int) : List Value := []
def epTl (st : Nat × Int) : LA := epTl_0
def hpTl (st : Nat × Int) : LE := hpTl_0
def nuTl (m t : LB) (A : Bool) (st : Nat × Int) : List Value := nuTl_0 m t A (st.2)
def roTl (m t : LB) (A : Bool) (st : Nat × Int) : List Value := roTl_0 m t A (st.2)
theorem onTl (m t : LB) (A : Bool) (st : Nat × Int) : ∀ j, (nuL (nuTl m t A st) j).oneCell' = true := by
  intro j
  unfold nuTl
  exact nuL_one (l := nuTl_0 m t A (st.2)) rfl j
theorem ebTl (st : Nat × Int) : (lfB (epTl st) && lfC keepTl) = true := by
  unfold epTl
  rfl
noncomputable def DTl (m t : LB) (A : Bool) (st : Nat × Int) (X : Nat → Value) : Cx := cx (nuX (nuTl m t A st) (rX (roTl m t A st) X)) (nuX_one (onTl m t A st)) 1 laidE laidE_stab
def InvTl (m t : LB) (A : Bool) (st : Nat × Int) : Prop := (0 ≤ (st.2)) ∧ ((st.2) ≤ (t.length : Int)) ∧ ((t.drop (Int.toNat (st.2))).all (msk MTs) = A) ∧ ((st.1) < 1)
abbrev CjTl (m t : LB) (A : Bool) (tag : Nat) (i : Int) : Prop := (0 ≤ i) ∧ (i ≤ (t.length : Int)) ∧ ((t.drop (Int.toNat i)).all (msk MTs) = A) ∧ (tag < 1)
theorem mkITl (m t : LB) (A : Bool) (tag : Nat) (i : Int) (h : CjTl m t A tag i) : InvTl m t A (tag, i) := h
theorem unITl (m t : LB) (A : Bool) (tag : Nat) (i : Int) (h : InvTl m t A (tag, i)) : (0 ≤ i) ∧ (i ≤ (t.length : Int)) ∧ ((t.drop (Int.toNat i)).all (msk MTs) = A) ∧ (tag < 1) := h
def muTl (m t : LB) (A : Bool) (st : Nat × Int) : Nat := (t.length - (st.2).toNat)
abbrev RHTl (m t : LB) (A : Bool) (E' : Cx) (ex' : Ex) (epx' : LA) (hpx' : LE) (st : Nat × Int) (X : Nat → Value) : Prop := RoundH E' bodyTl keepTl 50 ex' 7 12 13 13 epTl hpTl epx' hpx' (InvTl m t A) (muTl m t A) (DTl m t A) st X
noncomputable abbrev RNTl_0 (h : LK) (x : Ex) (th : LA) (sg : List (Nat × Nat)) (m : Nat) (ep : LA) (hp : LE) : Bool := okRdH (code (tbl h) 900 [] bodyTl (envOf (headOf epTl_0 keepTl) 50) ⟨lhSet hpTl_0 .leaf, 13, 0, 0⟩) x keepTl 50 13 th sg 12 m ep hp
theorem stTl_0 (m t : LB) (A : Bool) (i : Int) {X : Nat → Value} {h : LK} (y : Nat × Int) {th : LA} {sg : List (Nat × Nat)} (ho : ∀ a' r', (a', r') ∈ h → HOk (cx (nuX (nuTl_0 m t A i) (rX (roTl_0 m t A i) X)) (nuX_one (nuL_one (l := nuTl_0 m t A i) rfl)) 1 laidE laidE_stab) a' r') (hy : InvTl m t A y) (lt : muTl m t A y < muTl m t A (0, i)) (ht : ThOk (cx (nuX (nuTl_0 m t A i) (rX (roTl_0 m t A i) X)) (nuX_one (nuL_one (l := nuTl_0 m t A i) rfl)) 1 laidE laidE_stab) (DTl m t A y X) th) (run : RNTl_0 h .normal th sg 13 (epTl y) (hpTl y) = true) : RHTl m t A E' x' e' h' (0, i) X :=
  RoundH.next (tb := tbl h) (L := []) (f := 900) y ((tabkOk _ _).hyps ho) (LpOk.nil _) rfl hy lt ht run
theorem lvTl_0 (m t : LB) (A : Bool) (i : Int) {X : Nat → Value} {h : LK} {th : LA} {sg : List (Nat × Nat)} (hne : exB x' .normal = false) (ho : ∀ a' r', (a', r') ∈ h → HOk (cx (nuX (nuTl_0 m t A i) (rX (roTl_0 m t A i) X)) (nuX_one (nuL_one (l := nuTl_0 m t A i) rfl)) 1 laidE laidE_stab) a' r') (ht : ThOk (cx (nuX (nuTl_0 m t A i) (rX (roTl_0 m t A i) X)) (nuX_one (nuL_one (l := nuTl_0 m t A i) rfl)) 1 laidE laidE_stab) E' th) (run : RNTl_0 h x' th sg 13 e' h' = true) : RHTl m t A E' x' e' h' (0, i) X :=
  RoundH.leave (tb := tbl h) (L := []) (f := 900) ((tabkOk _ _).hyps ho) (LpOk.nil _) rfl hne ht run
def hyTl_p0 : LK := [(.bin .lss (.x 2) (.x 3), .b false)]
theorem runTl_p0 : RNTl_0 hyTl_p0 (.exit 0) [(0, .x 0), (1, .x 1)] [(12, 12)] 13 [(1, .p 12 0)] [(12, .b ⟨25, .l [.x 0, .x 1, .i .i64 (.ofNat 0), .nils, .s 0 0], 0, 0, 0, false, false⟩)] = true := by kernel_rfl
def hyTl_p1 : LK := [(.bin .lss (.x 2) (.x 3), .b true), (.idx (.x 1) (.x 2), .x 4), (.bin .lss (.x 4) (.i .u8 (.ofNat 33)), .b false), (.bin .gtr (.x 4) (.i .u8 (.ofNat 126)), .b false), (.bin .eql (.x 4) (.i .u8 (.ofNat 35)), .b false), (.bin .add (.x 2) (.i .i64 (.ofNat 1)), .x 5)]
theorem runTl_p1 : RNTl_0 hyTl_p1 .normal [(0, .x 0), (1, .x 1), (2, .x 5), (3, .x 3)] [(12, 12)] 13 epTl_0 hpTl_0 = true := by kernel_rfl
theorem nxTl_p1 (m t : LB) (A : Bool) (c0 : t.length ≤ 140737488355328) (i : Int) (X : Nat → Value) (hI : InvTl m t A (0, i)) (h0 : i < (t.length : Int)) (h1 : ¬ (bt t (Int.toNat (i)) < 33)) (h2 : ¬ (126 < bt t (Int.toNat (i)))) (h3 : ¬ (bt t (Int.toNat (i)) = 35)) : RHTl m t A E' x' e' h' (0, i) X := by
  obtain ⟨i0, i1, i2, it⟩ := unITl m t A 0 i hI
  have := bt_lo t (Int.toNat (i)); have := bt_hi t (Int.toNat (i))
  refine stTl_0 m t A i (h := hyTl_p1) (0, (i + 1)) ?_ (mkITl m t A 0 (i + 1) ⟨by omega, by omega, al_yes (by omega) (by omega) (tg_y (bt_lo _ _) (bt_hi _ _) (by omega)) i2, by omega⟩) (by show t.length - (i + 1).toNat < t.length - i.toNat; omega) (thXv (v := St' m) rfl rfl (thXv (v := St' t) rfl rfl (thXi (b := ((i + 1))) rfl rfl (by omega) (thXv (v := .int .i64 ((t.length : Int))) rfl rfl (thNil))))) runTl_p1
  unfold hyTl_p1
  exact hc (ltT rfl rfl (by omega)) <|
   hc (ixV rfl rfl rfl (by omega)) <|
   hc (ltcF rfl (by omega)) <|
   hc (gtcF rfl (by omega)) <|
   hc (eqcF rfl (by omega)) <|
   hc (adC rfl rfl (by omega)) <|
   hnil
def hyTl_p2 : LK := [(.bin .lss (.x 2) (.x 3), .b true), (.idx (.x 1) (.x 2), .x 6), (.bin .lss (.x 6) (.i .u8 (.ofNat 33)), .b false), (.bin .gtr (.x 6) (.i .u8 (.ofNat 126)), .b false), (.bin .eql (.x 6) (.i .u8 (.ofNat 35)), .b true)]
theorem runTl_p2 : RNTl_0 hyTl_p2 .ret [] [] 13 [(2, .ifc 60 (.ag [.i .i64 (.ofNat 10), .s 36 196954198101182485193943607980673202969989419486444167134463484752728882060117583077473]))] [] = true := by kernel_rfl
def hyTl_p3 : LK := [(.bin .lss (.x 2) (.x 3), .b true), (.idx (.x 1) (.x 2), .x 7), (.bin .lss (.x 7) (.i .u8 (.ofNat 33)), .b true)]
theorem runTl_p3 : RNTl_0 hyTl_p3 .ret [] [] 13 [(2, .ifc 60 (.ag [.i .i64 (.ofNat 10), .s 36 196954198101182485193943607980673202969989419486444167134463484752728882060117583077473]))] [] = true := by kernel_rfl
def hyTl_p4 : LK := [(.bin .lss (.x 2) (.x 3), .b true), (.idx (.x 1) (.x 2), .x 8), (.bin .lss (.x 8) (.i .u8 (.ofNat 33)), .b false), (.bin .gtr (.x 8) (.i .u8 (.ofNat 126)), .b true)]
theorem runTl_p4 : RNTl_0 hyTl_p4 .ret [] [] 13 [(2, .ifc 60 (.ag [.i .i64 (.ofNat 10), .s 36 196954198101182485193943607980673202969989419486444167134463484752728882060117583077473]))] [] = true := by kernel_rfl
def nuETl_0 (m t : LB) (A : Bool) : List Value := [St' m, St' t]
def roETl_0 (m t : LB) (A : Bool) : List Value := []
noncomputable def ETl_0 (m t : LB) (A : Bool) : Cx := cx (nuX (nuETl_0 m t A) (rX (roETl_0 m t A) (fun _ => .bool true))) (nuX_one (nuL_one (l := nuETl_0 m t A) rfl)) 1 laidE laidE_stab
theorem roundsTl_0 (m t : LB) (A : Bool) (c0 : t.length ≤ 140737488355328) (x0 : A = true) (st : Nat × Int) (X : Nat → Value) (hI : InvTl m t A st) : RHTl m t A (ETl_0 m t A) (.exit 0) [(1, .p 12 0)] [(12, .b ⟨25, .l [.x 0, .x 1, .i .i64 (.ofNat 0), .nils, .s 0 0], 0, 0, 0, false, false⟩)] st X := by
  obtain ⟨tag, i⟩ := st
  have hI0 := hI
  obtain ⟨i0, i1, i2, it⟩ := unITl m t A tag i hI
  obtain rfl : tag = 0 := by omega
  skip
  by_cases h0 : i < (t.length : Int)
  · by_cases h1 : bt t (Int.toNat (i)) < 33
    · exfalso; have e := al_no (by omega) (by omega) (tg_n (bt_lo _ _) (bt_hi _ _) (by omega)) i2; rw [e] at x0; exact absurd x0 (by simp)
    · by_cases h2 : 126 < bt t (Int.toNat (i))
      · exfalso; have e := al_no (by omega) (by omega) (tg_n (bt_lo _ _) (bt_hi _ _) (by omega)) i2; rw [e] at x0; exact absurd x0 (by simp)
      · by_cases h3 : bt t (Int.toNat (i)) = 35
        · exfalso; have e := al_no (by omega) (by omega) (tg_n (bt_lo _ _) (bt_hi _ _) (by omega)) i2; rw [e] at x0; exact absurd x0 (by simp)
        · exact nxTl_p1 m t A c0 i X hI0 h0 h1 h2 h3
  · skip
    refine lvTl_0 m t A i (h := hyTl_p0) rfl ?_ (thXv (v := St' m) rfl rfl (thXv (v := St' t) rfl rfl (thNil))) runTl_p0
    unfold hyTl_p0
    exact hc (ltF rfl rfl (by omega)) <|
     hnil
theorem lfOkTl_0 {l : LF} {h : LH} (m t : LB) (A : Bool) (c0 : t.length ≤ 140737488355328) (x0 : A = true) (st : Nat × Int) (hI : InvTl m t A st) (hl : l.hp = some h) (hs : lfSame l h 50 keepTl (.exit 0) 7 12 13 = true) {th0 : LA} {sg0 : List (Nat × Nat)} (hth0 : ∀ X, ThOk (cx nu one 1 laidE laidE_stab) (DTl m t A st X) th0) (h0 : startOk l h 50 12 13 th0 sg0 (epTl st) (hpTl st) = true) {thx : LA} (hthx : ThOk (ETl_0 m t A) (cx nu one 1 laidE laidE_stab) thx) (hx : exitOk l h 50 12 13 thx [(1, .p 12 0)] [(12, .b ⟨25, .l [.x 0, .x 1, .i .i64 (.ofNat 0), .nils, .s 0 0], 0, 0, 0, false, false⟩)] = true) : LfOk (cx nu one 1 laidE laidE_stab) bodyTl l :=
  lfOkX (E := ETl_0 m t A) (InvTl m t A) (muTl m t A) (DTl m t A) (fun _ _ => rfl) (fun _ _ => rfl) (fun _ _ => rfl) (fun st X t ht => nuX_keep.trans (rX_keep ((by decide : ∀ t, t ∈ keepTl → t < 1000000) t ht))) rfl rfl rfl hl hs ebTl rfl rfl st hI hth0 h0 hthx hx (roundsTl_0 m t A c0 x0)
def nuETl_1 (m t : LB) (A : Bool) : List Value := []
def roETl_1 (m t : LB) (A : Bool) : List Value := []
noncomputable def ETl_1 (m t : LB) (A : Bool) : Cx := cx (nuX (nuETl_1 m t A) (rX (roETl_1 m t A) (fun _ => .bool true))) (nuX_one (nuL_one (l := nuETl_1 m t A) rfl)) 1 laidE laidE_stab
theorem roundsTl_1 (m t : LB) (A : Bool) (c0 : t.length ≤ 140737488355328) (x0 : A = false) (st : Nat × Int) (X : Nat → Value) (hI : InvTl m t A st) : RHTl m t A (ETl_1 m t A) .ret [(2, .ifc 60 (.ag [.i .i64 (.ofNat 10), .s 36 196954198101182485193943607980673202969989419486444167134463484752728882060117583077473]))] [] st X := by
  obtain ⟨tag, i⟩ := st
  have hI0 := hI
  obtain ⟨i0, i1, i2, it⟩ := unITl m t A tag i hI
  obtain rfl : tag = 0 := by omega
  skip
  by_cases h0 : i < (t.length : Int)
  · by_cases h1 : bt t (Int.toNat (i)) < 33
    · skip
      have := bt_lo t (Int.toNat (i)); have := bt_hi t (Int.toNat (i))
      refine lvTl_0 m t A i (h := hyTl_p3) rfl ?_ (thNil) runTl_p3
      unfold hyTl_p3
      exact hc (ltT rfl rfl (by omega)) <|
       hc (ixV rfl rfl rfl (by omega)) <|
       hc (ltcT rfl (by omega)) <|
       hnil
    · by_cases h2 : 126 < bt t (Int.toNat (i))
      · skip
        have := bt_lo t (Int.toNat (i)); have := bt_hi t (Int.toNat (i))
        refine lvTl_0 m t A i (h := hyTl_p4) rfl ?_ (thNil) runTl_p4
        unfold hyTl_p4
        exact hc (ltT rfl rfl (by omega)) <|
         hc (ixV rfl rfl rfl (by omega)) <|
         hc (ltcF rfl (by omega)) <|
         hc (gtcT rfl (by omega)) <|
         hnil
      · by_cases h3 : bt t (Int.toNat (i)) = 35
        · skip
          have := bt_lo t (Int.toNat (i)); have := bt_hi t (Int.toNat (i))
          refine lvTl_0 m t A i (h := hyTl_p2) rfl ?_ (thNil) runTl_p2
          unfold hyTl_p2
          exact hc (ltT rfl rfl (by omega)) <|
           hc (ixV rfl rfl rfl (by omega)) <|
           hc (ltcF rfl (by omega)) <|
           hc (gtcF rfl (by omega)) <|
           hc (eqcT rfl (by omega)) <|
           hnil
        · exact nxTl_p1 m t A c0 i X hI0 h0 h1 h2 h3
  · exfalso; have e := al_end (by omega) i2; rw [e] at x0; exact absurd x0 (by simp)
theorem lfOkTl_1 {l : LF} {h : LH} (m t : LB) (A : Bool) (c0 : t.length ≤ 140737488355328) (x0 : A = false) (st : Nat × Int) (hI : InvTl m t A st) (hl : l.hp = some h) (hs : lfSame l h 50 keepTl .ret 7 12 13 = true) {th0 : LA} {sg0 : List (Nat × Nat)} (hth0 : ∀ X, ThOk (cx nu one 1 laidE laidE_stab) (DTl m t A st X) th0) (h0 : startOk l h 50 12 13 th0 sg0 (epTl st) (hpTl st) = true) {thx : LA} (hthx : ThOk (ETl_1 m t A) (cx nu one 1 laidE laidE_stab) thx) (hx : exitOk l h 50 12 13 thx [(2, .ifc 60 (.ag [.i .i64 (.ofNat 10), .s 36 196954198101182485193943607980673202969989419486444167134463484752728882060117583077473]))] [] = true) : LfOk (cx nu one 1 laidE laidE_stab) bodyTl l :=
  lfOkX (E := ETl_1 m t A) (InvTl m t A) (muTl m t A) (DTl m t A) (fun _ _ => rfl) (fun _ _ => rfl) (fun _ _ => rfl) (fun st X t ht => nuX_keep.trans (rX_keep ((by decide : ∀ t, t ∈ keepTl → t < 1000000) t ht))) rfl rfl rfl hl hs ebTl rfl rfl st hI hth0 h0 hthx hx (roundsTl_1 m t A c0 x0)
noncomputable def fi18 : FI := (tabk.fn.get 18).getD default
theorem fi18_at : tabk.fn.get 18 = some fi18 := by kernel_rfl
theorem fi18_body : fi18.body = some (Tryd.f18.body.getD .skip) := by kernel_rfl
theorem fiB18 : fi18.body.isSome = true := by rw [fi18_body]; rfl
theorem cfA18 : (loopsOf (Tryd.f18.body.getD .skip)).all (fun b => !(keyEq (Go.AX.keyOf b) 8888888)) = true := by kernel_rfl
theorem fiNTarg : tabk.fn.get 18 = some (fI Tryd.f18 0) ∧ (fI Tryd.f18 0).body.isSome = true := ⟨rfl, by kernel_rfl⟩
def hyTarg_0 : LK := [(.bin .eql (.x 1) (.s 1 42), .b false), (.len (.x 1), .x 2), (.bin .geq (.x 2) (.i .i64 (.ofNat 1)), .b false)]
theorem runTarg_0 (e : Nat) : okA (call (tbl hyTarg_0) 9000 18 [.ag [.x 0, .x 1, .i .i64 (.ofNat 0), .nils, .s 0 0]] ⟨H0 e , 7, 0, 0⟩) (.ifc 60 (.ag [.i .i64 (.ofNat 10), .s 40 871505283004493870769806937757998125236887781506997808754714081589081906263377667276670613332065])) = true := by kernel_rfl
def nuTarg_0 (m t : LB) : List Value := [St' m, St' t, .int .i64 ((t.length : Int))]
theorem pathTarg_0 (m t : LB) (b0 : m.length ≤ 140737488355328) (b1 : t.length ≤ 140737488355328) (h0 : ¬ (t = [u8 42])) (h1 : ¬ (1 ≤ (t.length : Int))) (w : World) (hl : laidE w) : CwR 18 #[(rqV m t 0)] w (.iface 60 (.agg #[.int .i64 10, St' [u8 97, u8 32, u8 116, u8 97, u8 114, u8 103, u8 101, u8 116, u8 32, u8 116, u8 104, u8 97, u8 116, u8 32, u8 100, u8 111, u8 101, u8 115, u8 110, u8 39, u8 116, u8 32, u8 98, u8 101, u8 103, u8 105, u8 110, u8 32, u8 119, u8 105, u8 116, u8 104, u8 32, u8 97, u8 32, u8 115, u8 108, u8 97, u8 115, u8 104]])) := by
  have ho : ∀ k r, (k, r) ∈ hyTarg_0 → HOk (cx (nuL (nuTarg_0 m t)) (fun j _ => nuL_one (l := nuTarg_0 m t) rfl j) 1 laidE laidE_stab) k r := by
    unfold hyTarg_0
    exact hc (kEqS (isX rfl) (isSx (l := [u8 42]) 1 42 rfl) (by first | exact decide_eq_true rfl | exact decide_eq_true ‹_› | exact decide_eq_false ‹_›)) <|
     hc (lnV rfl rfl (by omega)) <|
     hc (gecF rfl (by omega)) <|
     hnil
  refine runC (tb := (tbl hyTarg_0)) (ra := .ifc 60 (.ag [.i .i64 (.ofNat 10), .s 40 871505283004493870769806937757998125236887781506997808754714081589081906263377667276670613332065])) rfl ((tabkOk (nuL (nuTarg_0 m t)) (fun j _ => nuL_one (l := nuTarg_0 m t) rfl j)).hyps ho) rfl fiNTarg.1 fiNTarg.2 (fun e => runTarg_0 e ) (args := [(rqV m t 0)]) (by simp only [RelL, Rel]; exact ⟨_, _, rfl, ⟨_, rfl, ⟨_, _, rfl, rfl, ⟨_, _, rfl, rfl, ⟨_, _, rfl, rfl, ⟨_, _, rfl, rfl, ⟨_, _, rfl, ⟨rfl, by decide⟩, rfl⟩⟩⟩⟩⟩⟩, rfl⟩) w hl fun x hx => ?_
  simp only [Rel, RelL] at hx
  obtain ⟨_, rfl, ⟨_, rfl, ⟨_, _, rfl, rfl, ⟨_, _, rfl, ⟨rfl, _⟩, rfl⟩⟩⟩⟩ := hx
  rfl
def hyTarg_1 : LK := [(.bin .eql (.x 1) (.s 1 42), .b false), (.len (.x 1), .x 2), (.bin .geq (.x 2) (.i .i64 (.ofNat 1)), .b true), (.sub (.x 1) none (some (.i .i64 (.ofNat 1))), .x 3), (.bin .eql (.x 3) (.s 1 47), .b true), (.len (.x 5), .x 6), (.bin .gtr (.x 6) (.i .i64 (.ofNat 256)), .b false)]
def lh7 : LH := ⟨7, 12, 13, [(7, .b ⟨25, .l [.x 0, .x 1, .i .i64 (.ofNat 0), .nils, .s 0 0], 0, 0, 0, false, false⟩)], [(12, .b ⟨25, .l [.x 4, .x 5, .i .i64 (.ofNat 0), .nils, .s 0 0], 0, 0, 0, false, false⟩)]⟩
def lf7 : LF := ⟨5, 50, [(1, .p 7 0), (25, .x 2), (26, .i .i64 (.ofNat 0))], [], (.exit 0), [(1, .p 12 0)], some lh7⟩
noncomputable def tabTarg_1 : Tab := addLps ({ tabk with hyp := hyTarg_1 }) 18 fi18 [lf7]
theorem runTarg_1 (e : Nat) : okA (call tabTarg_1 9000 18 [.ag [.x 0, .x 1, .i .i64 (.ofNat 0), .nils, .s 0 0]] ⟨H0 e , 7, 0, 0⟩) (.ni) = true := by kernel_rfl
def nuTarg_1 (m t : LB) : List Value := [St' m, St' t, .int .i64 ((t.length : Int)), St' (List.take (Int.toNat (1)) t), St' m, St' t, .int .i64 ((t.length : Int))]
theorem pathTarg_1 (m t : LB) (b0 : m.length ≤ 140737488355328) (b1 : t.length ≤ 140737488355328) (h0 : ¬ (t = [u8 42])) (h1 : 1 ≤ (t.length : Int)) (h2 : (List.take (Int.toNat (1)) t) = [u8 47]) (h3 : t.all (msk MTs) = true) (h4 : ¬ (256 < (t.length : Int))) (w : World) (hl : laidE w) : CwR 18 #[(rqV m t 0)] w (.nilIface) := by
  have := lenTake (l := t) (Q := 1) (by omega) (by omega)
  have ho : ∀ k r, (k, r) ∈ hyTarg_1 → HOk (cx (nuL (nuTarg_1 m t)) (fun j _ => nuL_one (l := nuTarg_1 m t) rfl j) 1 laidE laidE_stab) k r := by
    unfold hyTarg_1
    exact hc (kEqS (isX rfl) (isSx (l := [u8 42]) 1 42 rfl) (by first | exact decide_eq_true rfl | exact decide_eq_true ‹_› | exact decide_eq_false ‹_›)) <|
     hc (lnV rfl rfl (by omega)) <|
     hc (gecT rfl (by omega)) <|
     hc (tkC rfl rfl (by omega)) <|
     hc (kEqS (isX rfl) (isSx (l := [u8 47]) 1 47 rfl) (by first | exact decide_eq_true rfl | exact decide_eq_true ‹_› | exact decide_eq_false ‹_›)) <|
     hc (lnV rfl rfl (by omega)) <|
     hc (gtcF rfl (by omega)) <|
     hnil
  refine runC (tb := tabTarg_1) (ra := .ni) rfl (AllOk.lp1 ((tabkOk (nuL (nuTarg_1 m t)) (fun j _ => nuL_one (l := nuTarg_1 m t) rfl j)).hyps ho) (by omega) fi18_at fi18_body (lfCons (lpKnown rfl ⟨0, keyTl, lfOkTl_0 (l := lf7) (h := lh7) m t (t.all (msk MTs)) (by omega) (by assumption) (0, (0 : Int)) (mkITl m t (t.all (msk MTs)) 0 (0 : Int) ⟨by omega, by omega, rfl, by omega⟩) rfl (by kernel_rfl) (th0 := [(0, .x 0), (1, .x 1), (2, .i .i64 (.ofNat 0)), (3, .x 2)]) (sg0 := [(12, 7)]) (fun X => thXv (v := St' m) rfl rfl (thXv (v := St' t) rfl rfl (thCons (show Is _ (.i .i64 (.ofNat 0)) (.int .i64 ((0 : Int))) from isTo (v := .int .i64 0) (isI _ _) (by first | rfl | (congr 1; omega))) (thXv (v := .int .i64 ((t.length : Int))) rfl rfl (thNil))))) (by kernel_rfl) (thx := [(4, .x 0), (5, .x 1)]) (thXv (v := St' m) rfl rfl (thXv (v := St' t) rfl rfl (thNil))) (by kernel_rfl)⟩) lfNil)) rfl (get_lps (by omega)) fiB18 (fun e => runTarg_1 e ) (args := [(rqV m t 0)]) (by simp only [RelL, Rel]; exact ⟨_, _, rfl, ⟨_, rfl, ⟨_, _, rfl, rfl, ⟨_, _, rfl, rfl, ⟨_, _, rfl, rfl, ⟨_, _, rfl, rfl, ⟨_, _, rfl, ⟨rfl, by decide⟩, rfl⟩⟩⟩⟩⟩⟩, rfl⟩) w hl fun x hx => ?_
  simp only [Rel, RelL] at hx
  exact hx
def hyTarg_2 : LK := [(.bin .eql (.x 1) (.s 1 42), .b false), (.len (.x 1), .x 2), (.bin .geq (.x 2) (.i .i64 (.ofNat 1)), .b true), (.sub (.x 1) none (some (.i .i64 (.ofNat 1))), .x 3), (.bin .eql (.x 3) (.s 1 47), .b false)]
theorem runTarg_2 (e : Nat) : okA (call (tbl hyTarg_2) 9000 18 [.ag [.x 0, .x 1, .i .i64 (.ofNat 0), .nils, .s 0 0]] ⟨H0 e , 7, 0, 0⟩) (.ifc 60 (.ag [.i .i64 (.ofNat 10), .s 40 871505283004493870769806937757998125236887781506997808754714081589081906263377667276670613332065])) = true := by kernel_rfl
def nuTarg_2 (m t : LB) : List Value := [St' m, St' t, .int .i64 ((t.length : Int)), St' (List.take (Int.toNat (1)) t)]
theorem pathTarg_2 (m t : LB) (b0 : m.length ≤ 140737488355328) (b1 : t.length ≤ 140737488355328) (h0 : ¬ (t = [u8 42])) (h1 : 1 ≤ (t.length : Int)) (h2 : ¬ ((List.take (Int.toNat (1)) t) = [u8 47])) (w : World) (hl : laidE w) : CwR 18 #[(rqV m t 0)] w (.iface 60 (.agg #[.int .i64 10, St' [u8 97, u8 32, u8 116, u8 97, u8 114, u8 103, u8 101, u8 116, u8 32, u8 116, u8 104, u8 97, u8 116, u8 32, u8 100, u8 111, u8 101, u8 115, u8 110, u8 39, u8 116, u8 32, u8 98, u8 101, u8 103, u8 105, u8 110, u8 32, u8 119, u8 105, u8 116, u8 104, u8 32, u8 97, u8 32, u8 115, u8 108, u8 97, u8 115, u8 104]])) := by
  have := lenTake (l := t) (Q := 1) (by omega) (by omega)
  have ho : ∀ k r, (k, r) ∈ hyTarg_2 → HOk (cx (nuL (nuTarg_2 m t)) (fun j _ => nuL_one (l := nuTarg_2 m t) rfl j) 1 laidE laidE_stab) k r := by
    unfold hyTarg_2
    exact hc (kEqS (isX rfl) (isSx (l := [u8 42]) 1 42 rfl) (by first | exact decide_eq_true rfl | exact decide_eq_true ‹_› | exact decide_eq_false ‹_›)) <|
     hc (lnV rfl rfl (by omega)) <|
     hc (gecT rfl (by omega)) <|
     hc (tkC rfl rfl (by omega)) <|
     hc (kEqS (isX rfl) (isSx (l := [u8 47]) 1 47 rfl) (by first | exact decide_eq_true rfl | exact decide_eq_true ‹_› | exact decide_eq_false ‹_›)) <|
     hnil
  refine runC (tb := (tbl hyTarg_2)) (ra := .ifc 60 (.ag [.i .i64 (.ofNat 10), .s 40 871505283004493870769806937757998125236887781506997808754714081589081906263377667276670613332065])) rfl ((tabkOk (nuL (nuTarg_2 m t)) (fun j _ => nuL_one (l := nuTarg_2 m t) rfl j)).hyps ho) rfl fiNTarg.1 fiNTarg.2 (fun e => runTarg_2 e ) (args := [(rqV m t 0)]) (by simp only [RelL, Rel]; exact ⟨_, _, rfl, ⟨_, rfl, ⟨_, _, rfl, rfl, ⟨_, _, rfl, rfl, ⟨_, _, rfl, rfl, ⟨_, _, rfl, rfl, ⟨_, _, rfl, ⟨rfl, by decide⟩, rfl⟩⟩⟩⟩⟩⟩, rfl⟩) w hl fun x hx => ?_
  simp only [Rel, RelL] at hx
  obtain ⟨_, rfl, ⟨_, rfl, ⟨_, _, rfl, rfl, ⟨_, _, rfl, ⟨rfl, _⟩, rfl⟩⟩⟩⟩ := hx
  rfl
def hyTarg_3 : LK := [(.bin .eql (.x 1) (.s 1 42), .b false), (.len (.x 1), .x 2), (.bin .geq (.x 2) (.i .i64 (.ofNat 1)), .b true), (.sub (.x 1) none (some (.i .i64 (.ofNat 1))), .x 3), (.bin .eql (.x 3) (.s 1 47), .b true)]
def lh8 : LH := ⟨7, 12, 13, [(7, .b ⟨25, .l [.x 0, .x 1, .i .i64 (.ofNat 0), .nils, .s 0 0], 0, 0, 0, false, false⟩)], []⟩
def lf8 : LF := ⟨5, 50, [(1, .p 7 0), (25, .x 2), (26, .i .i64 (.ofNat 0))], [], .ret, [(2, .ifc 60 (.ag [.i .i64 (.ofNat 10), .s 36 196954198101182485193943607980673202969989419486444167134463484752728882060117583077473]))], some lh8⟩
noncomputable def tabTarg_3 : Tab := addLps ({ tabk with hyp := hyTarg_3 }) 18 fi18 [lf8]
theorem runTarg_3 (e : Nat) : okA (call tabTarg_3 9000 18 [.ag [.x 0, .x 1, .i .i64 (.ofNat 0), .nils, .s 0 0]] ⟨H0 e , 7, 0, 0⟩) (.ifc 60 (.ag [.i .i64 (.ofNat 10), .s 36 196954198101182485193943607980673202969989419486444167134463484752728882060117583077473])) = true := by kernel_rfl
def nuTarg_3 (m t : LB) : List Value := [St' m, St' t, .int .i64 ((t.length : Int)), St' (List.take (Int.toNat (1)) t)]
theorem pathTarg_3 (m t : LB) (b0 : m.length ≤ 140737488355328) (b1 : t.length ≤ 140737488355328) (h0 : ¬ (t = [u8 42])) (h1 : 1 ≤ (t.length : Int)) (h2 : (List.take (Int.toNat (1)) t) = [u8 47]) (h3 : ¬ (t.all (msk MTs) = true)) (w : World) (hl : laidE w) : CwR 18 #[(rqV m t 0)] w (.iface 60 (.agg #[.int .i64 10, St' [u8 97, u8 32, u8 116, u8 97, u8 114, u8 103, u8 101, u8 116, u8 32, u8 119, u8 105, u8 116, u8 104, u8 32, u8 97, u8 32, u8 98, u8 121, u8 116, u8 101, u8 32, u8 116, u8 104, u8 97, u8 116, u8 32, u8 109, u8 97, u8 121, u8 32, u8 110, u8 111, u8 116, u8 32, u8 98, u8 101]])) := by
  have := lenTake (l := t) (Q := 1) (by omega) (by omega)
  have ho : ∀ k r, (k, r) ∈ hyTarg_3 → HOk (cx (nuL (nuTarg_3 m t)) (fun j _ => nuL_one (l := nuTarg_3 m t) rfl j) 1 laidE laidE_stab) k r := by
    unfold hyTarg_3
    exact hc (kEqS (isX rfl) (isSx (l := [u8 42]) 1 42 rfl) (by first | exact decide_eq_true rfl | exact decide_eq_true ‹_› | exact decide_eq_false ‹_›)) <|
     hc (lnV rfl rfl (by omega)) <|
     hc (gecT rfl (by omega)) <|
     hc (tkC rfl rfl (by omega)) <|
     hc (kEqS (isX rfl) (isSx (l := [u8 47]) 1 47 rfl) (by first | exact decide_eq_true rfl | exact decide_eq_true ‹_› | exact decide_eq_false ‹_›)) <|
     hnil
  refine runC (tb := tabTarg_3) (ra := .ifc 60 (.ag [.i .i64 (.ofNat 10), .s 36 196954198101182485193943607980673202969989419486444167134463484752728882060117583077473])) rfl (AllOk.lp1 ((tabkOk (nuL (nuTarg_3 m t)) (fun j _ => nuL_one (l := nuTarg_3 m t) rfl j)).hyps ho) (by omega) fi18_at fi18_body (lfCons (lpKnown rfl ⟨0, keyTl, lfOkTl_1 (l := lf8) (h := lh8) m t (t.all (msk MTs)) (by omega) (by simpa using (by assumption : ¬ (t.all (msk MTs) = true))) (0, (0 : Int)) (mkITl m t (t.all (msk MTs)) 0 (0 : Int) ⟨by omega, by omega, rfl, by omega⟩) rfl (by kernel_rfl) (th0 := [(0, .x 0), (1, .x 1), (2, .i .i64 (.ofNat 0)), (3, .x 2)]) (sg0 := [(12, 7)]) (fun X => thXv (v := St' m) rfl rfl (thXv (v := St' t) rfl rfl (thCons (show Is _ (.i .i64 (.ofNat 0)) (.int .i64 ((0 : Int))) from isTo (v := .int .i64 0) (isI _ _) (by first | rfl | (congr 1; omega))) (thXv (v := .int .i64 ((t.length : Int))) rfl rfl (thNil))))) (by kernel_rfl) (thx := []) (thNil) (by kernel_rfl)⟩) lfNil)) rfl (get_lps (by omega)) fiB18 (fun e => runTarg_3 e ) (args := [(rqV m t 0)]) (by simp only [RelL, Rel]; exact ⟨_, _, rfl, ⟨_, rfl, ⟨_, _, rfl, rfl, ⟨_, _, rfl, rfl, ⟨_, _, rfl, rfl, ⟨_, _, rfl, rfl, ⟨_, _, rfl, ⟨rfl, by decide⟩, rfl⟩⟩⟩⟩⟩⟩, rfl⟩) w hl fun x hx => ?_
  simp only [Rel, RelL] at hx
  obtain ⟨_, rfl, ⟨_, rfl, ⟨_, _, rfl, rfl, ⟨_, _, rfl, ⟨rfl, _⟩, rfl⟩⟩⟩⟩ := hx
  rfl
def hyTarg_4 : LK := [(.bin .eql (.x 1) (.s 1 42), .b false), (.len (.x 1), .x 2), (.bin .geq (.x 2) (.i .i64 (.ofNat 1)), .b true), (.sub (.x 1) none (some (.i .i64 (.ofNat 1))), .x 3), (.bin .eql (.x 3) (.s 1 47), .b true), (.len (.x 5), .x 6), (.bin .gtr (.x 6) (.i .i64 (.ofNat 256)), .b true)]
def lh9 : LH := ⟨7, 12, 13, [(7, .b ⟨25, .l [.x 0, .x 1, .i .i64 (.ofNat 0), .nils, .s 0 0], 0, 0, 0, false, false⟩)], [(12, .b ⟨25, .l [.x 4, .x 5, .i .i64 (.ofNat 0), .nils, .s 0 0], 0, 0, 0, false, false⟩)]⟩
def lf9 : LF := ⟨5, 50, [(1, .p 7 0), (25, .x 2), (26, .i .i64 (.ofNat 0))], [], (.exit 0), [(1, .p 12 0)], some lh9⟩
noncomputable def tabTarg_4 : Tab := addLps ({ tabk with hyp := hyTarg_4 }) 18 fi18 [lf9]
theorem runTarg_4 (e : Nat) : okA (call tabTarg_4 9000 18 [.ag [.x 0, .x 1, .i .i64 (.ofNat 0), .nils, .s 0 0]] ⟨H0 e , 7, 0, 0⟩) (.ifc 60 (.ag [.i .i64 (.ofNat 12), .s 25 649249343039568344963490732249631573126175255935168103587937])) = true := by kernel_rfl
def nuTarg_4 (m t : LB) : List Value := [St' m, St' t, .int .i64 ((t.length : Int)), St' (List.take (Int.toNat (1)) t), St' m, St' t, .int .i64 ((t.length : Int))]
theorem pathTarg_4 (m t : LB) (b0 : m.length ≤ 140737488355328) (b1 : t.length ≤ 140737488355328) (h0 : ¬ (t = [u8 42])) (h1 : 1 ≤ (t.length : Int)) (h2 : (List.take (Int.toNat (1)) t) = [u8 47]) (h3 : t.all (msk MTs) = true) (h4 : 256 < (t.length : Int)) (w : World) (hl : laidE w) : CwR 18 #[(rqV m t 0)] w (.iface 60 (.agg #[.int .i64 12, St' [u8 97, u8 32, u8 116, u8 97, u8 114, u8 103, u8 101, u8 116, u8 32, u8 116, u8 104, u8 97, u8 116, u8 32, u8 105, u8 115, u8 32, u8 116, u8 111, u8 111, u8 32, u8 108, u8 111, u8 110, u8 103]])) := by
  have := lenTake (l := t) (Q := 1) (by omega) (by omega)
  have ho : ∀ k r, (k, r) ∈ hyTarg_4 → HOk (cx (nuL (nuTarg_4 m t)) (fun j _ => nuL_one (l := nuTarg_4 m t) rfl j) 1 laidE laidE_stab) k r := by
    unfold hyTarg_4
    exact hc (kEqS (isX rfl) (isSx (l := [u8 42]) 1 42 rfl) (by first | exact decide_eq_true rfl | exact decide_eq_true ‹_› | exact decide_eq_false ‹_›)) <|
     hc (lnV rfl rfl (by omega)) <|
     hc (gecT rfl (by omega)) <|
     hc (tkC rfl rfl (by omega)) <|
     hc (kEqS (isX rfl) (isSx (l := [u8 47]) 1 47 rfl) (by first | exact decide_eq_true rfl | exact decide_eq_true ‹_› | exact decide_eq_false ‹_›)) <|
     hc (lnV rfl rfl (by omega)) <|
     hc (gtcT rfl (by omega)) <|
     hnil
  refine runC (tb := tabTarg_4) (ra := .ifc 60 (.ag [.i .i64 (.ofNat 12), .s 25 649249343039568344963490732249631573126175255935168103587937])) rfl (AllOk.lp1 ((tabkOk (nuL (nuTarg_4 m t)) (fun j _ => nuL_one (l := nuTarg_4 m t) rfl j)).hyps ho) (by omega) fi18_at fi18_body (lfCons (lpKnown rfl ⟨0, keyTl, lfOkTl_0 (l := lf9) (h := lh9) m t (t.all (msk MTs)) (by omega) (by assumption) (0, (0 : Int)) (mkITl m t (t.all (msk MTs)) 0 (0 : Int) ⟨by omega, by omega, rfl, by omega⟩) rfl (by kernel_rfl) (th0 := [(0, .x 0), (1, .x 1), (2, .i .i64 (.ofNat 0)), (3, .x 2)]) (sg0 := [(12, 7)]) (fun X => thXv (v := St' m) rfl rfl (thXv (v := St' t) rfl rfl (thCons (show Is _ (.i .i64 (.ofNat 0)) (.int .i64 ((0 : Int))) from isTo (v := .int .i64 0) (isI _ _) (by first | rfl | (congr 1; omega))) (thXv (v := .int .i64 ((t.length : Int))) rfl rfl (thNil))))) (by kernel_rfl) (thx := [(4, .x 0), (5, .x 1)]) (thXv (v := St' m) rfl rfl (thXv (v := St' t) rfl rfl (thNil))) (by kernel_rfl)⟩) lfNil)) rfl (get_lps (by omega)) fiB18 (fun e => runTarg_4 e ) (args := [(rqV m t 0)]) (by simp only [RelL, Rel]; exact ⟨_, _, rfl, ⟨_, rfl, ⟨_, _, rfl, rfl, ⟨_, _, rfl, rfl, ⟨_, _, rfl, rfl, ⟨_, _, rfl, rfl, ⟨_, _, rfl, ⟨rfl, by decide⟩, rfl⟩⟩⟩⟩⟩⟩, rfl⟩) w hl fun x hx => ?_
  simp only [Rel, RelL] at hx
  obtain ⟨_, rfl, ⟨_, rfl, ⟨_, _, rfl, rfl, ⟨_, _, rfl, ⟨rfl, _⟩, rfl⟩⟩⟩⟩ := hx
  rfl
def hyTarg_5 : LK := [(.bin .eql (.x 1) (.s 1 42), .b true), (.bin .eql (.x 0) (.s 7 23448525506629711), .b false), (.len (.x 1), .x 2), (.bin .geq (.x 2) (.i .i64 (.ofNat 1)), .b true), (.sub (.x 1) none (some (.i .i64 (.ofNat 1))), .x 3), (.bin .eql (.x 3) (.s 1 47), .b false)]
theorem runTarg_5 (e : Nat) : okA (call (tbl hyTarg_5) 9000 18 [.ag [.x 0, .x 1, .i .i64 (.ofNat 0), .nils, .s 0 0]] ⟨H0 e , 7, 0, 0⟩) (.ifc 60 (.ag [.i .i64 (.ofNat 10), .s 40 871505283004493870769806937757998125236887781506997808754714081589081906263377667276670613332065])) = true := by kernel_rfl
def nuTarg_5 (m t : LB) : List Value := [St' m, St' t, .int .i64 ((t.length : Int)), St' (List.take (Int.toNat (1)) t)]
theorem pathTarg_5 (m t : LB) (b0 : m.length ≤ 140737488355328) (b1 : t.length ≤ 140737488355328) (h0 : t = [u8 42]) (h1 : ¬ (m = [u8 79, u8 80, u8 84, u8 73, u8 79, u8 78, u8 83])) (w : World) (hl : laidE w) : CwR 18 #[(rqV m t 0)] w (.iface 60 (.agg #[.int .i64 10, St' [u8 97, u8 32, u8 116, u8 97, u8 114, u8 103, u8 101, u8 116, u8 32, u8 116, u8 104, u8 97, u8 116, u8 32, u8 100, u8 111, u8 101, u8 115, u8 110, u8 39, u8 116, u8 32, u8 98, u8 101, u8 103, u8 105, u8 110, u8 32, u8 119, u8 105, u8 116, u8 104, u8 32, u8 97, u8 32, u8 115, u8 108, u8 97, u8 115, u8 104]])) := by
  have ht1 := star1 (by assumption)
  have ht2 : t.length = 1 := by rw [(by assumption : t = [u8 42])]; rfl
  have := lenTake (l := t) (Q := 1) (by omega) (by omega)
  have ho : ∀ k r, (k, r) ∈ hyTarg_5 → HOk (cx (nuL (nuTarg_5 m t)) (fun j _ => nuL_one (l := nuTarg_5 m t) rfl j) 1 laidE laidE_stab) k r := by
    unfold hyTarg_5
    exact hc (kEqS (isX rfl) (isSx (l := [u8 42]) 1 42 rfl) (by first | exact decide_eq_true rfl | exact decide_eq_true ‹_› | exact decide_eq_false ‹_›)) <|
     hc (kEqS (isX rfl) (isSx (l := [u8 79, u8 80, u8 84, u8 73, u8 79, u8 78, u8 83]) 7 23448525506629711 rfl) (by first | exact decide_eq_true rfl | exact decide_eq_true ‹_› | exact decide_eq_false ‹_›)) <|
     hc (lnV rfl rfl (by omega)) <|
     hc (gecT rfl (by omega)) <|
     hc (tkC rfl rfl (by omega)) <|
     hc (kEqS (isX rfl) (isSx (l := [u8 47]) 1 47 rfl) (decide_eq_false ht1)) <|
     hnil
  refine runC (tb := (tbl hyTarg_5)) (ra := .ifc 60 (.ag [.i .i64 (.ofNat 10), .s 40 871505283004493870769806937757998125236887781506997808754714081589081906263377667276670613332065])) rfl ((tabkOk (nuL (nuTarg_5 m t)) (fun j _ => nuL_one (l := nuTarg_5 m t) rfl j)).hyps ho) rfl fiNTarg.1 fiNTarg.2 (fun e => runTarg_5 e ) (args := [(rqV m t 0)]) (by simp only [RelL, Rel]; exact ⟨_, _, rfl, ⟨_, rfl, ⟨_, _, rfl, rfl, ⟨_, _, rfl, rfl, ⟨_, _, rfl, rfl, ⟨_, _, rfl, rfl, ⟨_, _, rfl, ⟨rfl, by decide⟩, rfl⟩⟩⟩⟩⟩⟩, rfl⟩) w hl fun x hx => ?_
  simp only [Rel, RelL] at hx
  obtain ⟨_, rfl, ⟨_, rfl, ⟨_, _, rfl, rfl, ⟨_, _, rfl, ⟨rfl, _⟩, rfl⟩⟩⟩⟩ := hx
  rfl
def hyTarg_6 : LK := [(.bin .eql (.x 1) (.s 1 42), .b true), (.bin .eql (.x 0) (.s 7 23448525506629711), .b true), (.len (.x 1), .x 2), (.len (.x 4), .x 5), (.bin .gtr (.x 5) (.i .i64 (.ofNat 256)), .b false)]
def lh10 : LH := ⟨7, 12, 13, [(7, .b ⟨25, .l [.x 0, .x 1, .i .i64 (.ofNat 0), .nils, .s 0 0], 0, 0, 0, false, false⟩)], [(12, .b ⟨25, .l [.x 3, .x 4, .i .i64 (.ofNat 0), .nils, .s 0 0], 0, 0, 0, false, false⟩)]⟩
def lf10 : LF := ⟨5, 50, [(1, .p 7 0), (25, .x 2), (26, .i .i64 (.ofNat 0))], [], (.exit 0), [(1, .p 12 0)], some lh10⟩
noncomputable def tabTarg_6 : Tab := addLps ({ tabk with hyp := hyTarg_6 }) 18 fi18 [lf10]
theorem runTarg_6 (e : Nat) : okA (call tabTarg_6 9000 18 [.ag [.x 0, .x 1, .i .i64 (.ofNat 0), .nils, .s 0 0]] ⟨H0 e , 7, 0, 0⟩) (.ni) = true := by kernel_rfl
def nuTarg_6 (m t : LB) : List Value := [St' m, St' t, .int .i64 ((t.length : Int)), St' m, St' t, .int .i64 ((t.length : Int))]
theorem pathTarg_6 (m t : LB) (b0 : m.length ≤ 140737488355328) (b1 : t.length ≤ 140737488355328) (h0 : t = [u8 42]) (h1 : m = [u8 79, u8 80, u8 84, u8 73, u8 79, u8 78, u8 83]) (w : World) (hl : laidE w) : CwR 18 #[(rqV m t 0)] w (.nilIface) := by
  have ht1 := star1 (by assumption)
  have ht2 : t.length = 1 := by rw [(by assumption : t = [u8 42])]; rfl
  have ho : ∀ k r, (k, r) ∈ hyTarg_6 → HOk (cx (nuL (nuTarg_6 m t)) (fun j _ => nuL_one (l := nuTarg_6 m t) rfl j) 1 laidE laidE_stab) k r := by
    unfold hyTarg_6
    exact hc (kEqS (isX rfl) (isSx (l := [u8 42]) 1 42 rfl) (by first | exact decide_eq_true rfl | exact decide_eq_true ‹_› | exact decide_eq_false ‹_›)) <|
     hc (kEqS (isX rfl) (isSx (l := [u8 79, u8 80, u8 84, u8 73, u8 79, u8 78, u8 83]) 7 23448525506629711 rfl) (by first | exact decide_eq_true rfl | exact decide_eq_true ‹_› | exact decide_eq_false ‹_›)) <|
     hc (lnV rfl rfl (by omega)) <|
     hc (lnV rfl rfl (by omega)) <|
     hc (gtcF rfl (by omega)) <|
     hnil
  refine runC (tb := tabTarg_6) (ra := .ni) rfl (AllOk.lp1 ((tabkOk (nuL (nuTarg_6 m t)) (fun j _ => nuL_one (l := nuTarg_6 m t) rfl j)).hyps ho) (by omega) fi18_at fi18_body (lfCons (lpKnown rfl ⟨0, keyTl, lfOkTl_0 (l := lf10) (h := lh10) m t (t.all (msk MTs)) (by omega) (by rw [(by assumption : t = [u8 42])]; decide) (0, (0 : Int)) (mkITl m t (t.all (msk MTs)) 0 (0 : Int) ⟨by omega, by omega, rfl, by omega⟩) rfl (by kernel_rfl) (th0 := [(0, .x 0), (1, .x 1), (2, .i .i64 (.ofNat 0)), (3, .x 2)]) (sg0 := [(12, 7)]) (fun X => thXv (v := St' m) rfl rfl (thXv (v := St' t) rfl rfl (thCons (show Is _ (.i .i64 (.ofNat 0)) (.int .i64 ((0 : Int))) from isTo (v := .int .i64 0) (isI _ _) (by first | rfl | (congr 1; omega))) (thXv (v := .int .i64 ((t.length : Int))) rfl rfl (thNil))))) (by kernel_rfl) (thx := [(3, .x 0), (4, .x 1)]) (thXv (v := St' m) rfl rfl (thXv (v := St' t) rfl rfl (thNil))) (by kernel_rfl)⟩) lfNil)) rfl (get_lps (by omega)) fiB18 (fun e => runTarg_6 e ) (args := [(rqV m t 0)]) (by simp only [RelL, Rel]; exact ⟨_, _, rfl, ⟨_, rfl, ⟨_, _, rfl, rfl, ⟨_, _, rfl, rfl, ⟨_, _, rfl, rfl, ⟨_, _, rfl, rfl, ⟨_, _, rfl, ⟨rfl, by decide⟩, rfl⟩⟩⟩⟩⟩⟩, rfl⟩) w hl fun x hx => ?_
  simp only [Rel, RelL] at hx
  exact hx
theorem callsTarg (m t : LB) (b0 : m.length ≤ 140737488355328) (b1 : t.length ≤ 140737488355328) (w : World) (hl : laidE w) : CwR 18 #[(rqV m t 0)] w ((erK (tgK m t))) := by
  by_cases h0 : t = [u8 42]
  · by_cases h1 : m = [u8 79, u8 80, u8 84, u8 73, u8 79, u8 78, u8 83]
    · rw [show ((erK (tgK m t)) : Value) = (.nilIface : Value) from by first | exact congrArg erK (tk_0 (by assumption) (by assumption) (by omega)) | exact congrArg erK (tk_0s (by assumption) (by assumption)) | exact congrArg erK (tk_6 (by assumption) (by assumption)) | exact congrArg erK (tk_7 (by assumption) (by assumption) (by omega)) | exact congrArg erK (tk_5 (by assumption) (by assumption)) | exact congrArg erK (tk_5m (by assumption) (by assumption)) | exact congrArg erK (tk_5l (by omega))]
      exact pathTarg_6 m t b0 b1 h0 h1 w hl
    · rw [show ((erK (tgK m t)) : Value) = (.iface 60 (.agg #[.int .i64 10, St' [u8 97, u8 32, u8 116, u8 97, u8 114, u8 103, u8 101, u8 116, u8 32, u8 116, u8 104, u8 97, u8 116, u8 32, u8 100, u8 111, u8 101, u8 115, u8 110, u8 39, u8 116, u8 32, u8 98, u8 101, u8 103, u8 105, u8 110, u8 32, u8 119, u8 105, u8 116, u8 104, u8 32, u8 97, u8 32, u8 115, u8 108, u8 97, u8 115, u8 104]]) : Value) from by first | exact congrArg erK (tk_0 (by assumption) (by assumption) (by omega)) | exact congrArg erK (tk_0s (by assumption) (by assumption)) | exact congrArg erK (tk_6 (by assumption) (by assumption)) | exact congrArg erK (tk_7 (by assumption) (by assumption) (by omega)) | exact congrArg erK (tk_5 (by assumption) (by assumption)) | exact congrArg erK (tk_5m (by assumption) (by assumption)) | exact congrArg erK (tk_5l (by omega))]
      exact pathTarg_5 m t b0 b1 h0 h1 w hl
  · by_cases h1 : 1 ≤ (t.length : Int)
    · by_cases h2 : (List.take (Int.toNat (1)) t) = [u8 47]
      · by_cases h3 : t.all (msk MTs) = true
        · by_cases h4 : 256 < (t.length : Int)
          · rw [show ((erK (tgK m t)) : Value) = (.iface 60 (.agg #[.int .i64 12, St' [u8 97, u8 32, u8 116, u8 97, u8 114, u8 103, u8 101, u8 116, u8 32, u8 116, u8 104, u8 97, u8 116, u8 32, u8 105, u8 115, u8 32, u8 116, u8 111, u8 111, u8 32, u8 108, u8 111, u8 110, u8 103]]) : Value) from by first | exact congrArg erK (tk_0 (by assumption) (by assumption) (by omega)) | exact congrArg erK (tk_0s (by assumption) (by assumption)) | exact congrArg erK (tk_6 (by assumption) (by assumption)) | exact congrArg erK (tk_7 (by assumption) (by assumption) (by omega)) | exact congrArg erK (tk_5 (by assumption) (by assumption)) | exact congrArg erK (tk_5m (by assumption) (by assumption)) | exact congrArg erK (tk_5l (by omega))]
            exact pathTarg_4 m t b0 b1 h0 h1 h2 h3 h4 w hl
          · rw [show ((erK (tgK m t)) : Value) = (.nilIface : Value) from by first | exact congrArg erK (tk_0 (by assumption) (by assumption) (by omega)) | exact congrArg erK (tk_0s (by assumption) (by assumption)) | exact congrArg erK (tk_6 (by assumption) (by assumption)) | exact congrArg erK (tk_7 (by assumption) (by assumption) (by omega)) | exact congrArg erK (tk_5 (by assumption) (by assumption)) | exact congrArg erK (tk_5m (by assumption) (by assumption)) | exact congrArg erK (tk_5l (by omega))]
            exact pathTarg_1 m t b0 b1 h0 h1 h2 h3 h4 w hl
        · rw [show ((erK (tgK m t)) : Value) = (.iface 60 (.agg #[.int .i64 10, St' [u8 97, u8 32, u8 116, u8 97, u8 114, u8 103, u8 101, u8 116, u8 32, u8 119, u8 105, u8 116, u8 104, u8 32, u8 97, u8 32, u8 98, u8 121, u8 116, u8 101, u8 32, u8 116, u8 104, u8 97, u8 116, u8 32, u8 109, u8 97, u8 121, u8 32, u8 110, u8 111, u8 116, u8 32, u8 98, u8 101]]) : Value) from by first | exact congrArg erK (tk_0 (by assumption) (by assumption) (by omega)) | exact congrArg erK (tk_0s (by assumption) (by assumption)) | exact congrArg erK (tk_6 (by assumption) (by assumption)) | exact congrArg erK (tk_7 (by assumption) (by assumption) (by omega)) | exact congrArg erK (tk_5 (by assumption) (by assumption)) | exact congrArg erK (tk_5m (by assumption) (by assumption)) | exact congrArg erK (tk_5l (by omega))]
          exact pathTarg_3 m t b0 b1 h0 h1 h2 h3 w hl
      · rw [show ((erK (tgK m t)) : Value) = (.iface 60 (.agg #[.int .i64 10, St' [u8 97, u8 32, u8 116, u8 97, u8 114, u8 103, u8 101, u8 116, u8 32, u8 116, u8 104, u8 97, u8 116, u8 32, u8 100, u8 111, u8 101, u8 115, u8 110, u8 39, u8 116, u8 32, u8 98, u8 101, u8 103, u8 105, u8 110, u8 32, u8 119, u8 105, u8 116, u8 104, u8 32, u8 97, u8 32, u8 115, u8 108, u8 97, u8 115, u8 104]]) : Value) from by first | exact congrArg erK (tk_0 (by assumption) (by assumption) (by omega)) | exact congrArg erK (tk_0s (by assumption) (by assumption)) | exact congrArg erK (tk_6 (by assumption) (by assumption)) | exact congrArg erK (tk_7 (by assumption) (by assumption) (by omega)) | exact congrArg erK (tk_5 (by assumption) (by assumption)) | exact congrArg erK (tk_5m (by assumption) (by assumption)) | exact congrArg erK (tk_5l (by omega))]
        exact pathTarg_2 m t b0 b1 h0 h1 h2 w hl
    · rw [show ((erK (tgK m t)) : Value) = (.iface 60 (.agg #[.int .i64 10, St' [u8 97, u8 32, u8 116, u8 97, u8 114, u8 103, u8 101, u8 116, u8 32, u8 116, u8 104, u8 97, u8 116, u8 32, u8 100, u8 111, u8 101, u8 115, u8 110, u8 39, u8 116, u8 32, u8 98, u8 101, u8 103, u8 105, u8 110, u8 32, u8 119, u8 105, u8 116, u8 104, u8 32, u8 97, u8 32, u8 115, u8 108, u8 97, u8 115, u8 104]]) : Value) from by first | exact congrArg erK (tk_0 (by assumption) (by assumption) (by omega)) | exact congrArg erK (tk_0s (by assumption) (by assumption)) | exact congrArg erK (tk_6 (by assumption) (by assumption)) | exact congrArg erK (tk_7 (by assumption) (by assumption) (by omega)) | exact congrArg erK (tk_5 (by assumption) (by assumption)) | exact congrArg erK (tk_5m (by assumption) (by assumption)) | exact congrArg erK (tk_5l (by omega))]
      exact pathTarg_0 m t b0 b1 h0 h1 w hl
theorem hokTarg {x0 r : AV} {m t : LB} (i0 : Is (cx nu one 1 laidE laidE_stab) x0 ((rqV m t 0))) (hr : Den (cx nu one 1 laidE laidE_stab) r ((erK (tgK m t)))) (b0 : m.length ≤ 140737488355328) (b1 : t.length ≤ 140737488355328) : HOk (cx nu one 1 laidE laidE_stab) (.call 18 [x0]) r := by
  intro ρ args ha w hl _
  simp only [RelL] at ha
  obtain ⟨v0, t0, rfl, a0, rfl⟩ := ha
  have e0 := i0 ρ _ a0; subst e0
  exact (callsTarg m t b0 b1 w hl).mono fun e w' he => ⟨_, he.1, hr ρ, he.2⟩
end Go.Proofs.YtalblkipoopdgaaDoor.startBack
