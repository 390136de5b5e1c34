/- A part of the proof: an interpreter of the model's own code on partly known states, and that what it answers is what the program answers. No condition of its own. -/
import Derived.Test.YtbipkiiaajklhaaDoorS1PathTellsO6
set_option maxRecDepth 100000
set_option linter.unusedVariables false
set_option linter.unusedSimpArgs false
set_option maxHeartbeats 4000000
namespace Go.Proofs.YtbipkiiaajklhaaDoor.pathTells
open Go Go.AX Go.Proofs Go.Proofs.YtbipkiiaajklhaaDoor
variable {nu : Nat → Value} {one : ∀ i, i < 1000000 → (nu i).oneCell' = true} {E' : Cx} {x' : Ex} {e' : LA} {h' : LE}
noncomputable def fi11 : FI := (tabk.fn.get 11).getD default
theorem bS5 : tabk.fn.get 11 = some fi11 := by kernel_rfl
theorem fi11_body : fi11.body = some (Tryd.f11.body.getD .skip) := by kernel_rfl
theorem eJ9 : fi11.body.isSome = true := by rw [fi11_body]; rfl
theorem cfA11 : (aC0 (Tryd.f11.body.getD .skip)).all (fun b => !(aM1 (Go.AX.keyOf b) 8888888)) = true := by kernel_rfl
noncomputable def fi23 : FI := (tabk.fn.get 23).getD default
theorem fi23_at : tabk.fn.get 23 = some fi23 := by kernel_rfl
theorem cS5 : fi23.body = some (Tryd.f23.body.getD .skip) := by kernel_rfl
theorem fiB23 : fi23.body.isSome = true := by rw [cS5]; rfl
theorem cfA23 : (aC0 (Tryd.f23.body.getD .skip)).all (fun b => !(aM1 (Go.AX.keyOf b) 8888888)) = true := by kernel_rfl
def dH8 : LK := [(.rl (.x 2000002) 1, .x 2), (.rl (.x 2000001) 1, .x 3), (.bin .leq (.x 2) (.x 3), .b true), (.rt (.x 2000001) (.x 2) 1, .x 2000003)]
def lh43 : LH := ⟨4, 64, 94, [], [(64, .r 2000001 9 1 false)]⟩
def lf43 : LF := ⟨8888888, 0, [(0, .x 0)], [], .normal, [(0, .sr 64)], some lh43⟩
def lh44 : LH := ⟨4, 64, 94, [], [(64, .r 2000002 9 1 false)]⟩
def lf44 : LF := ⟨8888888, 0, [(0, .x 1)], [], .normal, [(0, .sr 64)], some lh44⟩
def lh45 : LH := ⟨4, 94, 124, [], [(94, .r 2000002 9 1 false)]⟩
def lf45 : LF := ⟨8888888, 0, [(0, .x 1)], [], .normal, [(0, .sr 94)], some lh45⟩
def lh46 : LH := ⟨4, 134, 134, [(124, .r 2000003 9 1 false), (94, .r 2000002 9 1 false)], [(124, .r 2000003 9 1 false), (94, .r 2000002 9 1 false)]⟩
def lf46 : LF := ⟨8888888, 0, [(0, .sr 124), (1, .sr 94)], [], .normal, [(0, .x 4)], some lh46⟩
noncomputable def dN2 : Tab := aB2 (aB2 ({ tabk with hyp := dH8 }) 9 fi9 [lf43, lf45]) 23 fi23 [lf46]
theorem runBeg_0 (e : Nat) : okA (call dN2 9000 11 [.x 0, .x 1] ⟨H0 e , 4, 0, 0⟩) (.x 4) = true := by kernel_rfl
def cG2 (s q : LB) : List Value := [St' s, St' q, .int .i64 (((segS q).length : Int)), .int .i64 (((segS s).length : Int)), .bool (decide (((segS s).take (Int.toNat (((segS q).length : Int)))) = (segS q)))]
def eA7 (s q : LB) : List Value := [rwS ([] : List LB), rwS (segS s), rwS (segS q), rwS ((segS s).take (Int.toNat (((segS q).length : Int))))]
theorem eE3 (s q : LB) : ∀ j, (nuL (cG2 s q) j).oneCell' = true := aA2 (l := cG2 s q) rfl
theorem pathBeg_0 (s q : LB) (b0 : s.length ≤ 9223372036854775807) (b1 : q.length ≤ 9223372036854775807) (p0 : s.length ≤ 1000000) (p1 : q.length ≤ 1000000) (h0 : ¬ ((segS s).length = 0)) (h1 : ¬ ((segS q).length = 0)) (h2 : ((segS q).length : Int) ≤ ((segS s).length : Int)) (w : World) (hl : aA3 w) : CwR 11 #[St' s, St' q] w (.bool (decide (((segS s).take (Int.toNat (((segS q).length : Int)))) = (segS q)))) := by
  have := aD5 s
  have := aD5 q
  have := List.length_take_le (Int.toNat (((segS q).length : Int))) (segS s)
  have ho : ∀ k r, (k, r) ∈ dH8 → HOk (cx (nuX (cG2 s q) (rX (eA7 s q) (fun _ => .bool true))) (aA4 (eE3 s q)) 1 aA3 aA0) k r := by
    unfold dH8
    exact hc (kRl (isX rfl) (denX rfl) (by first | omega | (simp <;> omega))) <|hc (kRl (isX rfl) (denX rfl) (by first | omega | (simp <;> omega))) <|hc (leT rfl rfl (by omega)) <|hc (kRtS (j := (Int.toNat (((segS q).length : Int)))) (isX rfl) (isX rfl) (denX rfl) (by omega) (by omega)) <|hnil
  refine runC (tb := dN2) (ra := .x 4) rfl (aB3.lp2 (aB3.lp2 ((aB0 (nuX (cG2 s q) (rX (eA7 s q) (fun _ => .bool true))) (aA4 (eE3 s q))).hyps ho) (by omega) aP8 aG6 (aB1 (.inr ⟨⟨rfl, rfl⟩, cfA9, aK9 (l := lf43) (h := lh43) (q := (0, .sr 64)) s (by omega) (by assumption) rfl rfl (by kernel_rfl) (th0 := [(0, .x 0)]) (sg0 := []) (thXv (v := St' s) rfl rfl (aA6)) (by kernel_rfl) (thx := [(2000001, .x 2000000)]) (thXv (v := rwS (segS s)) rfl rfl (aA6)) (by kernel_rfl)⟩) (aB1 (.inr ⟨⟨rfl, rfl⟩, cfA9, aO7 (l := lf44) (l' := lf45) (h := lh44) (h' := lh45) (q := (0, .sr 64)) (q' := (0, .sr 94)) (ids := [2000002]) (sg := [(94, 64)] ++ sgJ 4 90) (aK9 (l := lf44) (h := lh44) (q := (0, .sr 64)) q (by omega) (by assumption) rfl rfl (by kernel_rfl) (th0 := [(0, .x 1)]) (sg0 := []) (thXv (v := St' q) rfl rfl (aA6)) (by kernel_rfl) (thx := [(2000002, .x 2000000)]) (thXv (v := rwS (segS q)) rfl rfl (aA6)) (by kernel_rfl)) rfl rfl rfl rfl (by kernel_rfl) (by kernel_rfl)⟩) aC1))) (by omega) (aA8 (by omega) (by omega) fi23_at) cS5 (aB1 (.inr ⟨⟨rfl, rfl⟩, cfA23, cfE (l := lf46) (h := lh46) (K := ((segS s).take (Int.toNat (((segS q).length : Int))))) (J := (segS q)) rfl rfl rfl rfl rfl rfl rfl rfl rfl (by omega) (by omega)⟩) aC1)) rfl (aA8 (by omega) (by omega) (aA8 (by omega) (by omega) bS5)) eJ9 (fun e => runBeg_0 e ) (args := [St' s, St' q]) (by simp only [RelL, Rel]; exact ⟨_, _, rfl, rfl, ⟨_, _, rfl, rfl, rfl⟩⟩) w hl fun x hx => ?_
  simp only [Rel, RelL] at hx
  exact hx
def dH7 : LK := [(.rl (.x 2000002) 1, .x 2), (.rl (.x 2000001) 1, .x 3), (.bin .leq (.x 2) (.x 3), .b false)]
noncomputable def dN1 : Tab := aB2 ({ tabk with hyp := dH7 }) 9 fi9 [lf43, lf45]
theorem runBeg_1 (e : Nat) : okA (call dN1 9000 11 [.x 0, .x 1] ⟨H0 e , 4, 0, 0⟩) (.b false) = true := by kernel_rfl
def cG1 (s q : LB) : List Value := [St' s, St' q, .int .i64 (((segS q).length : Int)), .int .i64 (((segS s).length : Int))]
def eA6 (s q : LB) : List Value := [rwS ([] : List LB), rwS (segS s), rwS (segS q)]
theorem eE2 (s q : LB) : ∀ j, (nuL (cG1 s q) j).oneCell' = true := aA2 (l := cG1 s q) rfl
theorem pathBeg_1 (s q : LB) (b0 : s.length ≤ 9223372036854775807) (b1 : q.length ≤ 9223372036854775807) (p0 : s.length ≤ 1000000) (p1 : q.length ≤ 1000000) (h0 : ¬ ((segS s).length = 0)) (h1 : ¬ ((segS q).length = 0)) (h2 : ¬ (((segS q).length : Int) ≤ ((segS s).length : Int))) (w : World) (hl : aA3 w) : CwR 11 #[St' s, St' q] w (.bool false) := by
  have := aD5 s
  have := aD5 q
  have ho : ∀ k r, (k, r) ∈ dH7 → HOk (cx (nuX (cG1 s q) (rX (eA6 s q) (fun _ => .bool true))) (aA4 (eE2 s q)) 1 aA3 aA0) k r := by
    unfold dH7
    exact hc (kRl (isX rfl) (denX rfl) (by first | omega | (simp <;> omega))) <|hc (kRl (isX rfl) (denX rfl) (by first | omega | (simp <;> omega))) <|hc (leF rfl rfl (by omega)) <|hnil
  refine runC (tb := dN1) (ra := .b false) rfl (aB3.lp2 ((aB0 (nuX (cG1 s q) (rX (eA6 s q) (fun _ => .bool true))) (aA4 (eE2 s q))).hyps ho) (by omega) aP8 aG6 (aB1 (.inr ⟨⟨rfl, rfl⟩, cfA9, aK9 (l := lf43) (h := lh43) (q := (0, .sr 64)) s (by omega) (by assumption) rfl rfl (by kernel_rfl) (th0 := [(0, .x 0)]) (sg0 := []) (thXv (v := St' s) rfl rfl (aA6)) (by kernel_rfl) (thx := [(2000001, .x 2000000)]) (thXv (v := rwS (segS s)) rfl rfl (aA6)) (by kernel_rfl)⟩) (aB1 (.inr ⟨⟨rfl, rfl⟩, cfA9, aO7 (l := lf44) (l' := lf45) (h := lh44) (h' := lh45) (q := (0, .sr 64)) (q' := (0, .sr 94)) (ids := [2000002]) (sg := [(94, 64)] ++ sgJ 4 90) (aK9 (l := lf44) (h := lh44) (q := (0, .sr 64)) q (by omega) (by assumption) rfl rfl (by kernel_rfl) (th0 := [(0, .x 1)]) (sg0 := []) (thXv (v := St' q) rfl rfl (aA6)) (by kernel_rfl) (thx := [(2000002, .x 2000000)]) (thXv (v := rwS (segS q)) rfl rfl (aA6)) (by kernel_rfl)) rfl rfl rfl rfl (by kernel_rfl) (by kernel_rfl)⟩) aC1))) rfl (aA8 (by omega) (by omega) bS5) eJ9 (fun e => runBeg_1 e ) (args := [St' s, St' q]) (by simp only [RelL, Rel]; exact ⟨_, _, rfl, rfl, ⟨_, _, rfl, rfl, rfl⟩⟩) w hl fun x hx => ?_
  simp only [Rel, RelL] at hx
  exact hx
def dH6 : LK := [(.rl (.x 2000001) 1, .x 2), (.bin .leq (.x 2) (I6 0), .b false)]
def lh50 : LH := ⟨4, 64, 94, [], []⟩
def lf50 : LF := ⟨8888888, 0, [(0, .x 0)], [], .normal, [(0, .nils)], some lh50⟩
def lf51 : LF := ⟨8888888, 0, [(0, .x 1)], [], .normal, [(0, .sr 64)], some lh43⟩
def lh52 : LH := ⟨4, 94, 124, [], [(94, .r 2000001 9 1 false)]⟩
def lf52 : LF := ⟨8888888, 0, [(0, .x 1)], [], .normal, [(0, .sr 94)], some lh52⟩
noncomputable def dN0 : Tab := aB2 ({ tabk with hyp := dH6 }) 9 fi9 [lf50, lf52]
theorem runBeg_2 (e : Nat) : okA (call dN0 9000 11 [.x 0, .x 1] ⟨H0 e , 4, 0, 0⟩) (.b false) = true := by kernel_rfl
def cG0 (s q : LB) : List Value := [St' s, St' q, .int .i64 (((segS q).length : Int))]
def eA5 (s q : LB) : List Value := [rwS ([] : List LB), rwS (segS q)]
theorem eE1 (s q : LB) : ∀ j, (nuL (cG0 s q) j).oneCell' = true := aA2 (l := cG0 s q) rfl
theorem pathBeg_2 (s q : LB) (b0 : s.length ≤ 9223372036854775807) (b1 : q.length ≤ 9223372036854775807) (p0 : s.length ≤ 1000000) (p1 : q.length ≤ 1000000) (h0 : (segS s).length = 0) (h1 : ¬ ((segS q).length = 0)) (w : World) (hl : aA3 w) : CwR 11 #[St' s, St' q] w (.bool false) := by
  have := aD5 s
  have := aD5 q
  have ho : ∀ k r, (k, r) ∈ dH6 → HOk (cx (nuX (cG0 s q) (rX (eA5 s q) (fun _ => .bool true))) (aA4 (eE1 s q)) 1 aA3 aA0) k r := by
    unfold dH6
    exact hc (kRl (isX rfl) (denX rfl) (by first | omega | (simp <;> omega))) <|hc (lecF rfl (by omega)) <|hnil
  refine runC (tb := dN0) (ra := .b false) rfl (aB3.lp2 ((aB0 (nuX (cG0 s q) (rX (eA5 s q) (fun _ => .bool true))) (aA4 (eE1 s q))).hyps ho) (by omega) aP8 aG6 (aB1 (.inr ⟨⟨rfl, rfl⟩, cfA9, aQ1 (l := lf50) (h := lh50) (q := (0, .nils)) s (by omega) (by assumption) rfl rfl (by kernel_rfl) (th0 := [(0, .x 0)]) (sg0 := []) (thXv (v := St' s) rfl rfl (aA6)) (by kernel_rfl) (thx := []) (aA6) (by kernel_rfl)⟩) (aB1 (.inr ⟨⟨rfl, rfl⟩, cfA9, aO7 (l := lf51) (l' := lf52) (h := lh43) (h' := lh52) (q := (0, .sr 64)) (q' := (0, .sr 94)) (ids := [2000001]) (sg := [(94, 64)] ++ sgJ 4 90) (aK9 (l := lf51) (h := lh43) (q := (0, .sr 64)) q (by omega) (by assumption) rfl rfl (by kernel_rfl) (th0 := [(0, .x 1)]) (sg0 := []) (thXv (v := St' q) rfl rfl (aA6)) (by kernel_rfl) (thx := [(2000001, .x 2000000)]) (thXv (v := rwS (segS q)) rfl rfl (aA6)) (by kernel_rfl)) rfl rfl rfl rfl (by kernel_rfl) (by kernel_rfl)⟩) aC1))) rfl (aA8 (by omega) (by omega) bS5) eJ9 (fun e => runBeg_2 e ) (args := [St' s, St' q]) (by simp only [RelL, Rel]; exact ⟨_, _, rfl, rfl, ⟨_, _, rfl, rfl, rfl⟩⟩) w hl fun x hx => ?_
  simp only [Rel, RelL] at hx
  exact hx
def dH5 : LK := []
def lf54 : LF := ⟨8888888, 0, [(0, .x 1)], [], .normal, [(0, .nils)], some lh50⟩
def lh55 : LH := ⟨4, 94, 124, [], []⟩
def lf55 : LF := ⟨8888888, 0, [(0, .x 1)], [], .normal, [(0, .nils)], some lh55⟩
noncomputable def dM9 : Tab := aB2 ({ tabk with hyp := dH5 }) 9 fi9 [lf50, lf55]
theorem runBeg_3 (e : Nat) : okA (call dM9 9000 11 [.x 0, .x 1] ⟨H0 e , 4, 0, 0⟩) (.b true) = true := by kernel_rfl
def cF9 (s q : LB) : List Value := [St' s, St' q]
def eA4 (s q : LB) : List Value := [rwS ([] : List LB)]
theorem eE0 (s q : LB) : ∀ j, (nuL (cF9 s q) j).oneCell' = true := aA2 (l := cF9 s q) rfl
theorem pathBeg_3 (s q : LB) (b0 : s.length ≤ 9223372036854775807) (b1 : q.length ≤ 9223372036854775807) (p0 : s.length ≤ 1000000) (p1 : q.length ≤ 1000000) (h0 : (segS s).length = 0) (h1 : (segS q).length = 0) (w : World) (hl : aA3 w) : CwR 11 #[St' s, St' q] w (.bool true) := by
  have := aD5 s
  have := aD5 q
  have ho : ∀ k r, (k, r) ∈ dH5 → HOk (cx (nuX (cF9 s q) (rX (eA4 s q) (fun _ => .bool true))) (aA4 (eE0 s q)) 1 aA3 aA0) k r := by
    unfold dH5
    exact hnil
  refine runC (tb := dM9) (ra := .b true) rfl (aB3.lp2 ((aB0 (nuX (cF9 s q) (rX (eA4 s q) (fun _ => .bool true))) (aA4 (eE0 s q))).hyps ho) (by omega) aP8 aG6 (aB1 (.inr ⟨⟨rfl, rfl⟩, cfA9, aQ1 (l := lf50) (h := lh50) (q := (0, .nils)) s (by omega) (by assumption) rfl rfl (by kernel_rfl) (th0 := [(0, .x 0)]) (sg0 := []) (thXv (v := St' s) rfl rfl (aA6)) (by kernel_rfl) (thx := []) (aA6) (by kernel_rfl)⟩) (aB1 (.inr ⟨⟨rfl, rfl⟩, cfA9, aO7 (l := lf54) (l' := lf55) (h := lh50) (h' := lh55) (q := (0, .nils)) (q' := (0, .nils)) (ids := []) (sg := [] ++ sgJ 4 90) (aQ1 (l := lf54) (h := lh50) (q := (0, .nils)) q (by omega) (by assumption) rfl rfl (by kernel_rfl) (th0 := [(0, .x 1)]) (sg0 := []) (thXv (v := St' q) rfl rfl (aA6)) (by kernel_rfl) (thx := []) (aA6) (by kernel_rfl)) rfl rfl rfl rfl (by kernel_rfl) (by kernel_rfl)⟩) aC1))) rfl (aA8 (by omega) (by omega) bS5) eJ9 (fun e => runBeg_3 e ) (args := [St' s, St' q]) (by simp only [RelL, Rel]; exact ⟨_, _, rfl, rfl, ⟨_, _, rfl, rfl, rfl⟩⟩) w hl fun x hx => ?_
  simp only [Rel, RelL] at hx
  exact hx
def dH4 : LK := [(.rl (.x 2000001) 1, .x 2), (.bin .leq (I6 0) (.x 2), .b true), (.rt (.x 2000001) (I6 0) 1, .x 2000002), (.rl (.x 2000002) 1, I6 0)]
noncomputable def dM8 : Tab := aB2 ({ tabk with hyp := dH4 }) 9 fi9 [lf43, lf55]
theorem runBeg_4 (e : Nat) : okA (call dM8 9000 11 [.x 0, .x 1] ⟨H0 e , 4, 0, 0⟩) (.b true) = true := by kernel_rfl
def cF8 (s q : LB) : List Value := [St' s, St' q, .int .i64 (((segS s).length : Int))]
def eA3 (s q : LB) : List Value := [rwS ([] : List LB), rwS (segS s), rwS ((segS s).take 0)]
theorem eD9 (s q : LB) : ∀ j, (nuL (cF8 s q) j).oneCell' = true := aA2 (l := cF8 s q) rfl
theorem pathBeg_4 (s q : LB) (b0 : s.length ≤ 9223372036854775807) (b1 : q.length ≤ 9223372036854775807) (p0 : s.length ≤ 1000000) (p1 : q.length ≤ 1000000) (h0 : ¬ ((segS s).length = 0)) (h1 : (segS q).length = 0) (w : World) (hl : aA3 w) : CwR 11 #[St' s, St' q] w (.bool true) := by
  have := aD5 s
  have := aD5 q
  have ho : ∀ k r, (k, r) ∈ dH4 → HOk (cx (nuX (cF8 s q) (rX (eA3 s q) (fun _ => .bool true))) (aA4 (eD9 s q)) 1 aA3 aA0) k r := by
    unfold dH4
    exact hc (kRl (isX rfl) (denX rfl) (by first | omega | (simp <;> omega))) <|hc (kLe (isZ (m := 0) rfl) (isX rfl) (decide_eq_true (by omega))) <|hc (kRtS (j := 0) (isX rfl) (isZ (m := 0) rfl) (denX rfl) (by omega) (by omega)) <|hc (kRl (isX rfl) (denZ (m := 0) rfl) (by first | omega | (simp <;> omega))) <|hnil
  refine runC (tb := dM8) (ra := .b true) rfl (aB3.lp2 ((aB0 (nuX (cF8 s q) (rX (eA3 s q) (fun _ => .bool true))) (aA4 (eD9 s q))).hyps ho) (by omega) aP8 aG6 (aB1 (.inr ⟨⟨rfl, rfl⟩, cfA9, aK9 (l := lf43) (h := lh43) (q := (0, .sr 64)) s (by omega) (by assumption) rfl rfl (by kernel_rfl) (th0 := [(0, .x 0)]) (sg0 := []) (thXv (v := St' s) rfl rfl (aA6)) (by kernel_rfl) (thx := [(2000001, .x 2000000)]) (thXv (v := rwS (segS s)) rfl rfl (aA6)) (by kernel_rfl)⟩) (aB1 (.inr ⟨⟨rfl, rfl⟩, cfA9, aO7 (l := lf54) (l' := lf55) (h := lh50) (h' := lh55) (q := (0, .nils)) (q' := (0, .nils)) (ids := []) (sg := [] ++ sgJ 4 90) (aQ1 (l := lf54) (h := lh50) (q := (0, .nils)) q (by omega) (by assumption) rfl rfl (by kernel_rfl) (th0 := [(0, .x 1)]) (sg0 := []) (thXv (v := St' q) rfl rfl (aA6)) (by kernel_rfl) (thx := []) (aA6) (by kernel_rfl)) rfl rfl rfl rfl (by kernel_rfl) (by kernel_rfl)⟩) aC1))) rfl (aA8 (by omega) (by omega) bS5) eJ9 (fun e => runBeg_4 e ) (args := [St' s, St' q]) (by simp only [RelL, Rel]; exact ⟨_, _, rfl, rfl, ⟨_, _, rfl, rfl, rfl⟩⟩) w hl fun x hx => ?_
  simp only [Rel, RelL] at hx
  exact hx
theorem callsBeg (s q : LB) (b0 : s.length ≤ 9223372036854775807) (b1 : q.length ≤ 9223372036854775807) (p0 : s.length ≤ 1000000) (p1 : q.length ≤ 1000000) (w : World) (hl : aA3 w) : CwR 11 #[St' s, St' q] w (.bool (begS s q)) := by
  by_cases h0 : (segS s).length = 0
  · by_cases h1 : (segS q).length = 0
    · rw [show (.bool (begS s q) : Value) = (.bool true : Value) from by first | (rw [bg_z (by omega)]; done) | (rw [bg_n (by omega)]; done) | (rw [bg_y (by omega)]; done)]
      exact pathBeg_3 s q b0 b1 p0 p1 h0 h1 w hl
    · rw [show (.bool (begS s q) : Value) = (.bool false : Value) from by first | (rw [bg_z (by omega)]; done) | (rw [bg_n (by omega)]; done) | (rw [bg_y (by omega)]; done)]
      exact pathBeg_2 s q b0 b1 p0 p1 h0 h1 w hl
  · by_cases h1 : (segS q).length = 0
    · rw [show (.bool (begS s q) : Value) = (.bool true : Value) from by first | (rw [bg_z (by omega)]; done) | (rw [bg_n (by omega)]; done) | (rw [bg_y (by omega)]; done)]
      exact pathBeg_4 s q b0 b1 p0 p1 h0 h1 w hl
    · by_cases h2 : ((segS q).length : Int) ≤ ((segS s).length : Int)
      · rw [show (.bool (begS s q) : Value) = (.bool (decide (((segS s).take (Int.toNat (((segS q).length : Int)))) = (segS q))) : Value) from by first | (rw [bg_z (by omega)]; done) | (rw [bg_n (by omega)]; done) | (rw [bg_y (by omega)]; done)]
        exact pathBeg_0 s q b0 b1 p0 p1 h0 h1 h2 w hl
      · rw [show (.bool (begS s q) : Value) = (.bool false : Value) from by first | (rw [bg_z (by omega)]; done) | (rw [bg_n (by omega)]; done) | (rw [bg_y (by omega)]; done)]
        exact pathBeg_1 s q b0 b1 p0 p1 h0 h1 h2 w hl
theorem dT1 {x0 x1 r : AV} {s q : LB} (i0 : Is (cx nu one 1 aA3 aA0) x0 (St' s)) (i1 : Is (cx nu one 1 aA3 aA0) x1 (St' q)) (hr : Den (cx nu one 1 aA3 aA0) r (.bool (begS s q))) (b0 : s.length ≤ 9223372036854775807) (b1 : q.length ≤ 9223372036854775807) (p0 : s.length ≤ 1000000) (p1 : q.length ≤ 1000000) : HOk (cx nu one 1 aA3 aA0) (.call 11 [x0, x1]) r := by
  intro ρ args ha w hl _
  simp only [RelL] at ha
  obtain ⟨v0, t0, rfl, a0, v1, t1, rfl, a1, rfl⟩ := ha
  have e0 := i0 ρ _ a0; subst e0
  have e1 := i1 ρ _ a1; subst e1
  exact (callsBeg s q b0 b1 p0 p1 w hl).mono fun e w' he => ⟨_, he.1, hr ρ, he.2⟩
end Go.Proofs.YtbipkiiaajklhaaDoor.pathTells
