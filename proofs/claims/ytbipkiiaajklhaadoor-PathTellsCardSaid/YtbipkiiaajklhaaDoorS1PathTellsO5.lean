/- A part of the proof: an interpreter of the model's own code on partly known states, and that what it answers is what the program answers. No condition of its own. -/
import Derived.Test.YtbipkiiaajklhaaDoorS1PathTellsO4
set_option maxRecDepth 100000
set_option linter.unusedVariables false
set_option linter.unusedSimpArgs false
set_option maxHeartbeats 4000000
namespace Go.Proofs.YtbipkiiaajklhaaDoor.pathTells
open Go Go.AX Go.Proofs Go.Proofs.YtbipkiiaajklhaaDoor
variable {nu : Nat → Value} {one : ∀ i, i < 1000000 → (nu i).oneCell' = true} {E' : Cx} {x' : Ex} {e' : LA} {h' : LE}
theorem mkA5 : (aC0 (Tryd.f5.body.getD .skip)).all (fun b => !(aM1 (Go.AX.keyOf b) 7777777)) = true := by kernel_rfl
theorem mkB5 : Nat.beq (aT9 (Tryd.f5.body.getD .skip)).length 1 = true := by kernel_rfl
theorem mkC5 : Tryd.f5.body = some (Tryd.f5.body.getD .skip) := by kernel_rfl
noncomputable def fi5 : FI := (tabk.fn.get 5).getD default
theorem aO1 : tabk.fn.get 5 = some fi5 := by kernel_rfl
theorem aF7 : fi5.body = some (Tryd.f5.body.getD .skip) := by kernel_rfl
theorem fiB5 : fi5.body.isSome = true := by rw [aF7]; rfl
theorem cfA5 : (aC0 (Tryd.f5.body.getD .skip)).all (fun b => !(aM1 (Go.AX.keyOf b) 8888888)) = true := by kernel_rfl
noncomputable def fi37 : FI := (tabk.fn.get 37).getD default
theorem aH3 : tabk.fn.get 37 = some fi37 := by kernel_rfl
theorem aE0 : fi37.body = some (Tryd.f37.body.getD .skip) := by kernel_rfl
theorem fiB37 : fi37.body.isSome = true := by rw [aE0]; rfl
theorem cfA37 : (aC0 (Tryd.f37.body.getD .skip)).all (fun b => !(aM1 (Go.AX.keyOf b) 8888888)) = true := by kernel_rfl
noncomputable def fi19 : FI := (tabk.fn.get 19).getD default
theorem bI2 : tabk.fn.get 19 = some fi19 := by kernel_rfl
theorem aN1 : fi19.body = some (Tryd.f19.body.getD .skip) := by kernel_rfl
theorem fiB19 : fi19.body.isSome = true := by rw [aN1]; rfl
theorem dW2 : (aC0 (Tryd.f19.body.getD .skip)).all (fun b => !(aM1 (Go.AX.keyOf b) 8888888)) = true := by kernel_rfl
def dG3 : LK := [(.len (.x 0), .x 2), (.bin .geq (.x 2) (I6 1), .b false)]
noncomputable def dM7 : Tab := aB2 ({ tabk with hyp := dG3 }) 5 fi5 [⟨7777777, 5, [], [2, 3, 4, 5], .goto 7777777, [], none⟩]
theorem runCln_0 (e : Nat) : okA (call dM7 9000 5 [.x 0] ⟨H0 e , 4, 0, 0⟩) (.tu [.s 0 0, .ifc 51 (.ag [I6 10, .s 38 13298115280219938213650618557098360065260128501998867931437897973466215610708264263932190817])]) = true := by kernel_rfl
def cF7 (s : LB) : List Value := [St' s, St' ([] : LB), .int .i64 ((s.length : Int))]
def eA2 (s : LB) : List Value := [rwS ([] : List LB)]
theorem eD8 (s : LB) : ∀ j, (nuL (cF7 s) j).oneCell' = true := aA2 (l := cF7 s) rfl
theorem pathCln_0 (s : LB) (b0 : s.length ≤ 9223372036854775807) (p0 : s.length ≤ 1000000) (h0 : ¬ (1 ≤ (s.length : Int))) (w : World) (hl : aA3 w) : CwR 5 #[St' s] w (.tuple #[St' ([] : LB), .iface 51 (.agg #[.int .i64 10, St' [u8 97, u8 32, u8 112, u8 97, u8 116, u8 104, u8 32, u8 116, u8 104, u8 97, u8 116, u8 32, u8 100, u8 111, u8 101, u8 115, u8 110, u8 39, u8 116, u8 32, u8 98, u8 101, u8 103, u8 105, u8 110, u8 32, u8 119, u8 105, u8 116, u8 104, u8 32, u8 97, u8 32, u8 115, u8 108, u8 97, u8 115, u8 104]])]) := by
  have ho : ∀ k r, (k, r) ∈ dG3 → HOk (cx (nuX (cF7 s) (rX (eA2 s) (fun _ => .bool true))) (aA4 (eD8 s)) 1 aA3 aA0) k r := by
    unfold dG3
    exact hc (lnV rfl rfl (by omega)) <|hc (gecF rfl (by omega)) <|hnil
  refine runC (tb := dM7) (ra := .tu [.s 0 0, .ifc 51 (.ag [I6 10, .s 38 13298115280219938213650618557098360065260128501998867931437897973466215610708264263932190817])]) rfl (aB3.lp1 ((aB0 (nuX (cF7 s) (rX (eA2 s) (fun _ => .bool true))) (aA4 (eD8 s))).hyps ho) (by omega) aO1 aF7 (aB1 (.inr ⟨rfl, mkA5, mkB5, _, Tryd.func5, mkC5⟩) aC1)) rfl (aC7 (by omega)) fiB5 (fun e => runCln_0 e ) (args := [St' s]) (by simp only [RelL, Rel]; exact ⟨_, _, rfl, rfl, rfl⟩) w hl fun x hx => ?_
  simp only [Rel, RelL] at hx
  obtain ⟨_, rfl, ⟨_, _, rfl, ⟨rfl, _⟩, ⟨_, _, rfl, ⟨_, rfl, ⟨_, rfl, ⟨_, _, rfl, rfl, ⟨_, _, rfl, ⟨rfl, _⟩, rfl⟩⟩⟩⟩, rfl⟩⟩⟩ := hx
  rfl
def dG2 : LK := [(.len (.x 0), .x 2), (.bin .geq (.x 2) (I6 1), .b true), (.sub (.x 0) none (some (I6 1)), .x 3), (.bin .eql (.x 3) (.s 1 47), .b false)]
noncomputable def dM6 : Tab := aB2 ({ tabk with hyp := dG2 }) 5 fi5 [⟨7777777, 5, [], [2, 3, 4, 5], .goto 7777777, [], none⟩]
theorem runCln_1 (e : Nat) : okA (call dM6 9000 5 [.x 0] ⟨H0 e , 4, 0, 0⟩) (.tu [.s 0 0, .ifc 51 (.ag [I6 10, .s 38 13298115280219938213650618557098360065260128501998867931437897973466215610708264263932190817])]) = true := by kernel_rfl
def cF6 (s : LB) : List Value := [St' s, St' ([] : LB), .int .i64 ((s.length : Int)), St' (List.take (Int.toNat (1)) s)]
def eA1 (s : LB) : List Value := [rwS ([] : List LB)]
theorem eD7 (s : LB) : ∀ j, (nuL (cF6 s) j).oneCell' = true := aA2 (l := cF6 s) rfl
theorem pathCln_1 (s : LB) (b0 : s.length ≤ 9223372036854775807) (p0 : s.length ≤ 1000000) (h0 : 1 ≤ (s.length : Int)) (h1 : ¬ ((List.take (Int.toNat (1)) s) = [u8 47])) (w : World) (hl : aA3 w) : CwR 5 #[St' s] w (.tuple #[St' ([] : LB), .iface 51 (.agg #[.int .i64 10, St' [u8 97, u8 32, u8 112, u8 97, u8 116, u8 104, u8 32, u8 116, u8 104, u8 97, u8 116, u8 32, u8 100, u8 111, u8 101, u8 115, u8 110, u8 39, u8 116, u8 32, u8 98, u8 101, u8 103, u8 105, u8 110, u8 32, u8 119, u8 105, u8 116, u8 104, u8 32, u8 97, u8 32, u8 115, u8 108, u8 97, u8 115, u8 104]])]) := by
  have := aJ9 (l := s) (Q := 1) (by omega) (by omega)
  have ho : ∀ k r, (k, r) ∈ dG2 → HOk (cx (nuX (cF6 s) (rX (eA1 s) (fun _ => .bool true))) (aA4 (eD7 s)) 1 aA3 aA0) k r := by
    unfold dG2
    exact hc (lnV rfl rfl (by omega)) <|hc (gecT rfl (by omega)) <|hc (tkC rfl rfl (by omega)) <|hc (kEqS (isX rfl) (isSx (l := [u8 47]) 1 47 rfl) (decide_eq_false (by assumption))) <|hnil
  refine runC (tb := dM6) (ra := .tu [.s 0 0, .ifc 51 (.ag [I6 10, .s 38 13298115280219938213650618557098360065260128501998867931437897973466215610708264263932190817])]) rfl (aB3.lp1 ((aB0 (nuX (cF6 s) (rX (eA1 s) (fun _ => .bool true))) (aA4 (eD7 s))).hyps ho) (by omega) aO1 aF7 (aB1 (.inr ⟨rfl, mkA5, mkB5, _, Tryd.func5, mkC5⟩) aC1)) rfl (aC7 (by omega)) fiB5 (fun e => runCln_1 e ) (args := [St' s]) (by simp only [RelL, Rel]; exact ⟨_, _, rfl, rfl, rfl⟩) w hl fun x hx => ?_
  simp only [Rel, RelL] at hx
  obtain ⟨_, rfl, ⟨_, _, rfl, ⟨rfl, _⟩, ⟨_, _, rfl, ⟨_, rfl, ⟨_, rfl, ⟨_, _, rfl, rfl, ⟨_, _, rfl, ⟨rfl, _⟩, rfl⟩⟩⟩⟩, rfl⟩⟩⟩ := hx
  rfl
def dG1 : LK := [(.len (.x 0), .x 2), (.bin .geq (.x 2) (I6 1), .b true), (.sub (.x 0) none (some (I6 1)), .x 3), (.bin .eql (.x 3) (.s 1 47), .b true)]
def lh6 : LH := ⟨4, 12, 24, [(4, bk 9 [.s 0 0]), (5, bk 24 [.ni]), (6, bk 31 [.nils]), (7, bk 9 [.s 0 0]), (8, bk 9 [.x 0]), (9, bk 9 [.s 1 47]), (10, bk 3 [I6 0]), (11, .k 5 [(2, .p 4 0), (3, .p 5 0), (4, .p 6 0), (5, .p 7 0)] 64 0 .normal)], [(4, bk 9 [.s 0 0]), (5, bk 24 [.ifc 51 (.ag [I6 10, .x 4])]), (11, .k 5 [(2, .p 4 0), (3, .p 5 0), (4, .p 6 0), (5, .p 7 0)] 64 2 .ret)]⟩
def lf6 : LF := ⟨5, 52, [(0, .yl 11), (1, .p 9 0), (2, .p 8 0), (3, .p 10 0), (9, .s 1 47)], [], .ret, [], some lh6⟩
noncomputable def dM5 : Tab := aB2 (aB2 ({ tabk with hyp := dG1 }) 5 fi5 [⟨7777777, 5, [], [2, 3, 4, 5], .goto 7777777, [], none⟩]) 37 fi37 [lf6]
theorem runCln_2 (e : Nat) : okA (call dM5 9000 5 [.x 0] ⟨H0 e , 4, 0, 0⟩) (.tu [.s 0 0, .ifc 51 (.ag [I6 10, .x 4])]) = true := by kernel_rfl
def cF5 (s : LB) : List Value := [St' s, St' ([] : LB), .int .i64 ((s.length : Int)), St' (List.take (Int.toNat (1)) s), St' (cM s)]
def eA0 (s : LB) : List Value := [rwS ([] : List LB)]
theorem eD6 (s : LB) : ∀ j, (nuL (cF5 s) j).oneCell' = true := aA2 (l := cF5 s) rfl
theorem pathCln_2 (s : LB) (b0 : s.length ≤ 9223372036854775807) (p0 : s.length ≤ 1000000) (h0 : 1 ≤ (s.length : Int)) (h1 : (List.take (Int.toNat (1)) s) = [u8 47]) (h2 : (cX s) = none) (w : World) (hl : aA3 w) : CwR 5 #[St' s] w (.tuple #[St' ([] : LB), .iface 51 (.agg #[.int .i64 10, St' (cM s)])]) := by
  have := aJ9 (l := s) (Q := 1) (by omega) (by omega)
  have hct := bL5 s
  have ho : ∀ k r, (k, r) ∈ dG1 → HOk (cx (nuX (cF5 s) (rX (eA0 s) (fun _ => .bool true))) (aA4 (eD6 s)) 1 aA3 aA0) k r := by
    unfold dG1
    exact hc (lnV rfl rfl (by omega)) <|hc (gecT rfl (by omega)) <|hc (tkC rfl rfl (by omega)) <|hc (kEqS (isX rfl) (isSx (l := [u8 47]) 1 47 rfl) (decide_eq_true (by assumption))) <|hnil
  refine runC (tb := dM5) (ra := .tu [.s 0 0, .ifc 51 (.ag [I6 10, .x 4])]) rfl (aB3.lp1 (aB3.lp1 ((aB0 (nuX (cF5 s) (rX (eA0 s) (fun _ => .bool true))) (aA4 (eD6 s))).hyps ho) (by omega) aO1 aF7 (aB1 (.inr ⟨rfl, mkA5, mkB5, _, Tryd.func5, mkC5⟩) aC1)) (by omega) (aA8 (by omega) (by omega) aH3) aE0 (aB1 (aB9 rfl ⟨1, bL2, lfOkCl_2 (l := lf6) (h := lh6) (cX s) (cM s) (kT s) (tT s) (cB s) (by assumption) (0, s, ([] : List LB)) (aU1 ⟨rfl, rfl, rfl, by omega, by simp only [List.length_nil]; omega, fun _ => rfl, by omega⟩) rfl (by kernel_rfl) (th0 := [(0, .x 0)]) (sg0 := []) (fun X => thXv (v := St' s) rfl rfl (aA6)) (by kernel_rfl) (thx := [(4, .x 0)]) (thXv (v := St' (cM s)) rfl rfl (aA6)) (by kernel_rfl)⟩) aC1)) rfl (aA8 (by omega) (by omega) (aC7 (by omega))) fiB5 (fun e => runCln_2 e ) (args := [St' s]) (by simp only [RelL, Rel]; exact ⟨_, _, rfl, rfl, rfl⟩) w hl fun x hx => ?_
  simp only [Rel, RelL] at hx
  obtain ⟨_, rfl, ⟨_, _, rfl, ⟨rfl, _⟩, ⟨_, _, rfl, ⟨_, rfl, ⟨_, rfl, ⟨_, _, rfl, rfl, ⟨_, _, rfl, rfl, rfl⟩⟩⟩⟩, rfl⟩⟩⟩ := hx
  rfl
def dG0 : LK := [(.len (.x 0), .x 2), (.bin .geq (.x 2) (I6 1), .b true), (.sub (.x 0) none (some (I6 1)), .x 3), (.bin .eql (.x 3) (.s 1 47), .b true), (.call 17 [.x 4], .tu [.x 5, .ni]), (.bin .eql (.x 5) (.s 2 11822), .b false), (.call 18 [.x 5], .b true)]
def lh7 : LH := ⟨4, 12, 24, [(4, bk 9 [.s 0 0]), (5, bk 24 [.ni]), (6, bk 31 [.nils]), (7, bk 9 [.s 0 0]), (8, bk 9 [.x 0]), (9, bk 9 [.s 1 47]), (10, bk 3 [I6 0]), (11, .k 5 [(2, .p 4 0), (3, .p 5 0), (4, .p 6 0), (5, .p 7 0)] 64 0 .normal)], [(4, bk 9 [.s 0 0]), (5, bk 24 [.ni]), (6, bk 31 [.nils]), (7, bk 9 [.und]), (8, bk 9 [.x 4]), (9, bk 9 [.s 1 47]), (10, bk 3 [I6 0]), (11, .k 5 [(2, .p 4 0), (3, .p 5 0), (4, .p 6 0), (5, .p 7 0)] 64 0 .normal)]⟩
def lf7 : LF := ⟨5, 52, [(0, .yl 11), (1, .p 9 0), (2, .p 8 0), (3, .p 10 0), (9, .s 1 47)], [], (.exit 2), [(0, .yl 11), (2, .p 8 0)], some lh7⟩
noncomputable def dM4 : Tab := aB2 (aB2 ({ tabk with hyp := dG0 }) 5 fi5 [⟨7777777, 5, [], [2, 3, 4, 5], .goto 7777777, [], none⟩]) 37 fi37 [lf7]
theorem runCln_3 (e : Nat) : okA (call dM4 9000 5 [.x 0] ⟨H0 e , 4, 0, 0⟩) (.tu [.s 1 47, .ni]) = true := by kernel_rfl
def cF4 (s : LB) : List Value := [St' s, St' ([] : LB), .int .i64 ((s.length : Int)), St' (List.take (Int.toNat (1)) s), St' (tT s), St' (gS (tT s))]
def dZ9 (s : LB) : List Value := [rwS ([] : List LB)]
theorem eD5 (s : LB) : ∀ j, (nuL (cF4 s) j).oneCell' = true := aA2 (l := cF4 s) rfl
theorem pathCln_3 (s : LB) (b0 : s.length ≤ 9223372036854775807) (p0 : s.length ≤ 1000000) (h0 : 1 ≤ (s.length : Int)) (h1 : (List.take (Int.toNat (1)) s) = [u8 47]) (h2 : ¬ ((cX s) = none)) (h3 : ¬ ((cB s) = true)) (h4 : ¬ (dcS (tT s) = none)) (h5 : ¬ ((gS (tT s)) = [u8 46, u8 46])) (h6 : psB (gS (tT s)) = true) (w : World) (hl : aA3 w) : CwR 5 #[St' s] w (.tuple #[St' [u8 47], .nilIface]) := by
  have := aJ9 (l := s) (Q := 1) (by omega) (by omega)
  have hct := bL5 s
  have hTo := bK4 (s := s) (by assumption) (by simpa using (by assumption : ¬ (cB s) = true))
  have := aD2 (tT s)
  have ho : ∀ k r, (k, r) ∈ dG0 → HOk (cx (nuX (cF4 s) (rX (dZ9 s) (fun _ => .bool true))) (aA4 (eD5 s)) 1 aA3 aA0) k r := by
    unfold dG0
    exact hc (lnV rfl rfl (by omega)) <|hc (gecT rfl (by omega)) <|hc (tkC rfl rfl (by omega)) <|hc (kEqS (isX rfl) (isSx (l := [u8 47]) 1 47 rfl) (decide_eq_true (by assumption))) <|hc (aJ0 (s := (tT s)) (isX rfl) (by rw [if_neg (by assumption)]; exact aE6 (denX rfl) aQ0) (by omega) (by omega)) <|hc (kEqS (isX rfl) (isSx (l := [u8 46, u8 46]) 2 11822 rfl) (decide_eq_false (by assumption))) <|hc (aZ2 (s := (gS (tT s))) (isX rfl) (eL4 (by assumption)) (by omega)) <|hnil
  refine runC (tb := dM4) (ra := .tu [.s 1 47, .ni]) rfl (aB3.lp1 (aB3.lp1 ((aB0 (nuX (cF4 s) (rX (dZ9 s) (fun _ => .bool true))) (aA4 (eD5 s))).hyps ho) (by omega) aO1 aF7 (aB1 (.inr ⟨rfl, mkA5, mkB5, _, Tryd.func5, mkC5⟩) aC1)) (by omega) (aA8 (by omega) (by omega) aH3) aE0 (aB1 (aB9 rfl ⟨1, bL2, bM7 (l := lf7) (h := lh7) (cX s) (cM s) (kT s) (tT s) (cB s) (cK6 (by assumption) (by simpa using (by assumption : ¬ (cB s) = true))) (by simpa using (by assumption : ¬ (cB s) = true)) (0, s, ([] : List LB)) (aU1 ⟨rfl, rfl, rfl, by omega, by simp only [List.length_nil]; omega, fun _ => rfl, by omega⟩) rfl (by kernel_rfl) (th0 := [(0, .x 0)]) (sg0 := []) (fun X => thXv (v := St' s) rfl rfl (aA6)) (by kernel_rfl) (thx := [(4, .x 0)]) (thXv (v := St' (tT s)) rfl rfl (aA6)) (by kernel_rfl)⟩) aC1)) rfl (aA8 (by omega) (by omega) (aC7 (by omega))) fiB5 (fun e => runCln_3 e ) (args := [St' s]) (by simp only [RelL, Rel]; exact ⟨_, _, rfl, rfl, rfl⟩) w hl fun x hx => ?_
  simp only [Rel, RelL] at hx
  obtain ⟨_, rfl, ⟨_, _, rfl, ⟨rfl, _⟩, ⟨_, _, rfl, rfl, rfl⟩⟩⟩ := hx
  rfl
def dF9 : LK := [(.len (.x 0), .x 2), (.bin .geq (.x 2) (I6 1), .b true), (.sub (.x 0) none (some (I6 1)), .x 3), (.bin .eql (.x 3) (.s 1 47), .b true), (.call 17 [.x 4], .tu [.x 5, .ni]), (.bin .eql (.x 5) (.s 2 11822), .b true)]
noncomputable def dM3 : Tab := aB2 (aB2 ({ tabk with hyp := dF9 }) 5 fi5 [⟨7777777, 5, [], [2, 3, 4, 5], .goto 7777777, [], none⟩]) 37 fi37 [lf7]
theorem runCln_4 (e : Nat) : okA (call dM3 9000 5 [.x 0] ⟨H0 e , 4, 0, 0⟩) (.tu [.s 0 0, .ifc 51 (.ag [I6 10, .s 21 170204620060147215156831070085407667714849644748897])]) = true := by kernel_rfl
def cF3 (s : LB) : List Value := [St' s, St' ([] : LB), .int .i64 ((s.length : Int)), St' (List.take (Int.toNat (1)) s), St' (tT s), St' (gS (tT s))]
def dZ8 (s : LB) : List Value := [rwS ([] : List LB)]
theorem eD4 (s : LB) : ∀ j, (nuL (cF3 s) j).oneCell' = true := aA2 (l := cF3 s) rfl
theorem pathCln_4 (s : LB) (b0 : s.length ≤ 9223372036854775807) (p0 : s.length ≤ 1000000) (h0 : 1 ≤ (s.length : Int)) (h1 : (List.take (Int.toNat (1)) s) = [u8 47]) (h2 : ¬ ((cX s) = none)) (h3 : ¬ ((cB s) = true)) (h4 : ¬ (dcS (tT s) = none)) (h5 : (gS (tT s)) = [u8 46, u8 46]) (w : World) (hl : aA3 w) : CwR 5 #[St' s] w (.tuple #[St' ([] : LB), .iface 51 (.agg #[.int .i64 10, St' [u8 97, u8 32, u8 112, u8 97, u8 116, u8 104, u8 32, u8 116, u8 104, u8 97, u8 116, u8 32, u8 108, u8 101, u8 97, u8 100, u8 115, u8 32, u8 111, u8 117, u8 116]])]) := by
  have := aJ9 (l := s) (Q := 1) (by omega) (by omega)
  have hct := bL5 s
  have hTo := bK4 (s := s) (by assumption) (by simpa using (by assumption : ¬ (cB s) = true))
  have := aD2 (tT s)
  obtain ⟨hdd1, hdd2⟩ := dd_f (t := (gS (tT s))) (by assumption)
  have ho : ∀ k r, (k, r) ∈ dF9 → HOk (cx (nuX (cF3 s) (rX (dZ8 s) (fun _ => .bool true))) (aA4 (eD4 s)) 1 aA3 aA0) k r := by
    unfold dF9
    exact hc (lnV rfl rfl (by omega)) <|hc (gecT rfl (by omega)) <|hc (tkC rfl rfl (by omega)) <|hc (kEqS (isX rfl) (isSx (l := [u8 47]) 1 47 rfl) (decide_eq_true (by assumption))) <|hc (aJ0 (s := (tT s)) (isX rfl) (by rw [if_neg (by assumption)]; exact aE6 (denX rfl) aQ0) (by omega) (by omega)) <|hc (kEqS (isX rfl) (isSx (l := [u8 46, u8 46]) 2 11822 rfl) (decide_eq_true (by assumption))) <|hnil
  refine runC (tb := dM3) (ra := .tu [.s 0 0, .ifc 51 (.ag [I6 10, .s 21 170204620060147215156831070085407667714849644748897])]) rfl (aB3.lp1 (aB3.lp1 ((aB0 (nuX (cF3 s) (rX (dZ8 s) (fun _ => .bool true))) (aA4 (eD4 s))).hyps ho) (by omega) aO1 aF7 (aB1 (.inr ⟨rfl, mkA5, mkB5, _, Tryd.func5, mkC5⟩) aC1)) (by omega) (aA8 (by omega) (by omega) aH3) aE0 (aB1 (aB9 rfl ⟨1, bL2, bM7 (l := lf7) (h := lh7) (cX s) (cM s) (kT s) (tT s) (cB s) (cK6 (by assumption) (by simpa using (by assumption : ¬ (cB s) = true))) (by simpa using (by assumption : ¬ (cB s) = true)) (0, s, ([] : List LB)) (aU1 ⟨rfl, rfl, rfl, by omega, by simp only [List.length_nil]; omega, fun _ => rfl, by omega⟩) rfl (by kernel_rfl) (th0 := [(0, .x 0)]) (sg0 := []) (fun X => thXv (v := St' s) rfl rfl (aA6)) (by kernel_rfl) (thx := [(4, .x 0)]) (thXv (v := St' (tT s)) rfl rfl (aA6)) (by kernel_rfl)⟩) aC1)) rfl (aA8 (by omega) (by omega) (aC7 (by omega))) fiB5 (fun e => runCln_4 e ) (args := [St' s]) (by simp only [RelL, Rel]; exact ⟨_, _, rfl, rfl, rfl⟩) w hl fun x hx => ?_
  simp only [Rel, RelL] at hx
  obtain ⟨_, rfl, ⟨_, _, rfl, ⟨rfl, _⟩, ⟨_, _, rfl, ⟨_, rfl, ⟨_, rfl, ⟨_, _, rfl, rfl, ⟨_, _, rfl, ⟨rfl, _⟩, rfl⟩⟩⟩⟩, rfl⟩⟩⟩ := hx
  rfl
def dF8 : LK := [(.rn, .x 2000000), (.len (.x 0), .x 2), (.bin .geq (.x 2) (I6 1), .b true), (.sub (.x 0) none (some (I6 1)), .x 3), (.bin .eql (.x 3) (.s 1 47), .b true), (.call 17 [.x 4], .tu [.x 5, .ni]), (.bin .eql (.x 5) (.s 2 11822), .b false), (.call 18 [.x 5], .b false), (.ra (.x 2000000) [.x 5], .x 2000001), (.rf (.x 2000001) 1 16, .b true), (.bin .add (.s 1 47) (.x 6), .x 7), (.rl (.x 2000001) 1, I6 1)]
def lh11 : LH := ⟨4, 44, 44, [(25, .r 2000001 9 1 false)], [(25, .r 2000001 9 1 false)]⟩
def lf11 : LF := ⟨8888888, 0, [(0, .sr 25), (1, .s 1 47)], [], .normal, [(0, .x 6)], some lh11⟩
noncomputable def dM2 : Tab := aB2 (aB2 (aB2 ({ tabk with hyp := dF8 }) 5 fi5 [⟨7777777, 5, [], [2, 3, 4, 5], .goto 7777777, [], none⟩]) 37 fi37 [lf7]) 19 fi19 [lf11]
theorem runCln_5 (e : Nat) : okA (call dM2 9000 5 [.x 0] ⟨H0 e , 4, 0, 0⟩) (.tu [.x 7, .ni]) = true := by kernel_rfl
def cF2 (s : LB) : List Value := [St' s, St' ([] : LB), .int .i64 ((s.length : Int)), St' (List.take (Int.toNat (1)) s), St' (tT s), St' (gS (tT s)), St' (aD6 (([] : List LB) ++ [(gS (tT s))])), St' ([u8 47] ++ (aD6 (([] : List LB) ++ [(gS (tT s))])))]
def dZ7 (s : LB) : List Value := [rwS ([] : List LB), rwS (([] : List LB) ++ [(gS (tT s))])]
theorem eD3 (s : LB) : ∀ j, (nuL (cF2 s) j).oneCell' = true := aA2 (l := cF2 s) rfl
theorem pathCln_5 (s : LB) (b0 : s.length ≤ 9223372036854775807) (p0 : s.length ≤ 1000000) (h0 : 1 ≤ (s.length : Int)) (h1 : (List.take (Int.toNat (1)) s) = [u8 47]) (h2 : ¬ ((cX s) = none)) (h3 : ¬ ((cB s) = true)) (h4 : ¬ (dcS (tT s) = none)) (h5 : ¬ ((gS (tT s)) = [u8 46, u8 46])) (h6 : ¬ (psB (gS (tT s)) = true)) (w : World) (hl : aA3 w) : CwR 5 #[St' s] w (.tuple #[St' ([u8 47] ++ (aD6 (([] : List LB) ++ [(gS (tT s))]))), .nilIface]) := by
  have := aJ9 (l := s) (Q := 1) (by omega) (by omega)
  have hct := bL5 s
  have hTo := bK4 (s := s) (by assumption) (by simpa using (by assumption : ¬ (cB s) = true))
  have := aD2 (tT s)
  have := jn1 (([] : List LB) ++ [(gS (tT s))])
  have := aZ3 (([] : List LB) ++ [(gS (tT s))])
  have := fl_ap ([] : List LB) (gS (tT s))
  have hf0 : (fl47 []).length = 0 := rfl
  have ho : ∀ k r, (k, r) ∈ dF8 → HOk (cx (nuX (cF2 s) (rX (dZ7 s) (fun _ => .bool true))) (aA4 (eD3 s)) 1 aA3 aA0) k r := by
    unfold dF8
    exact hc (kRn (denX rfl)) <|hc (lnV rfl rfl (by omega)) <|hc (gecT rfl (by omega)) <|hc (tkC rfl rfl (by omega)) <|hc (kEqS (isX rfl) (isSx (l := [u8 47]) 1 47 rfl) (decide_eq_true (by assumption))) <|hc (aJ0 (s := (tT s)) (isX rfl) (by rw [if_neg (by assumption)]; exact aE6 (denX rfl) aQ0) (by omega) (by omega)) <|hc (kEqS (isX rfl) (isSx (l := [u8 46, u8 46]) 2 11822 rfl) (decide_eq_false (by assumption))) <|hc (aZ2 (s := (gS (tT s))) (isX rfl) (eL5 (by assumption)) (by omega)) <|hc (kRa (isX rfl) (isX rfl) (denX rfl)) <|hc (kRf (isX rfl) (by first | omega | (simp <;> omega)) (by first | omega | (simp <;> omega))) <|hc (kCat (isSx (l := [u8 47]) 1 47 rfl) (isX rfl) (denX rfl) (by first | rfl | (simp; done)) (by first | omega | (simp only [List.length_append, List.length_cons, List.length_nil]; omega))) <|hc (kRl (isX rfl) (denZ (m := 1) rfl) (by first | omega | (simp <;> omega))) <|hnil
  refine runC (tb := dM2) (ra := .tu [.x 7, .ni]) rfl (aB3.lp2 (aB3.lp1 (aB3.lp1 ((aB0 (nuX (cF2 s) (rX (dZ7 s) (fun _ => .bool true))) (aA4 (eD3 s))).hyps ho) (by omega) aO1 aF7 (aB1 (.inr ⟨rfl, mkA5, mkB5, _, Tryd.func5, mkC5⟩) aC1)) (by omega) (aA8 (by omega) (by omega) aH3) aE0 (aB1 (aB9 rfl ⟨1, bL2, bM7 (l := lf7) (h := lh7) (cX s) (cM s) (kT s) (tT s) (cB s) (cK6 (by assumption) (by simpa using (by assumption : ¬ (cB s) = true))) (by simpa using (by assumption : ¬ (cB s) = true)) (0, s, ([] : List LB)) (aU1 ⟨rfl, rfl, rfl, by omega, by simp only [List.length_nil]; omega, fun _ => rfl, by omega⟩) rfl (by kernel_rfl) (th0 := [(0, .x 0)]) (sg0 := []) (fun X => thXv (v := St' s) rfl rfl (aA6)) (by kernel_rfl) (thx := [(4, .x 0)]) (thXv (v := St' (tT s)) rfl rfl (aA6)) (by kernel_rfl)⟩) aC1)) (by omega) (aA8 (by omega) (by omega) (aA8 (by omega) (by omega) bI2)) aN1 (aB1 (.inr ⟨⟨rfl, rfl⟩, dW2, cfJ (l := lf11) (h := lh11) (K := (([] : List LB) ++ [(gS (tT s))])) rfl rfl rfl rfl rfl rfl rfl rfl (by first | omega | (simp <;> omega)) (by first | omega | (simp <;> omega))⟩) aC1)) rfl (aA8 (by omega) (by omega) (aA8 (by omega) (by omega) (aC7 (by omega)))) fiB5 (fun e => runCln_5 e ) (args := [St' s]) (by simp only [RelL, Rel]; exact ⟨_, _, rfl, rfl, rfl⟩) w hl fun x hx => ?_
  simp only [Rel, RelL] at hx
  obtain ⟨_, rfl, ⟨_, _, rfl, rfl, ⟨_, _, rfl, rfl, rfl⟩⟩⟩ := hx
  rfl
def dF7 : LK := [(.len (.x 0), .x 2), (.bin .geq (.x 2) (I6 1), .b true), (.sub (.x 0) none (some (I6 1)), .x 3), (.bin .eql (.x 3) (.s 1 47), .b true), (.call 17 [.x 4], .tu [.s 0 0, .ifc 51 (.ag [I6 10, .x 5])])]
noncomputable def dM1 : Tab := aB2 (aB2 ({ tabk with hyp := dF7 }) 5 fi5 [⟨7777777, 5, [], [2, 3, 4, 5], .goto 7777777, [], none⟩]) 37 fi37 [lf7]
theorem runCln_6 (e : Nat) : okA (call dM1 9000 5 [.x 0] ⟨H0 e , 4, 0, 0⟩) (.tu [.s 0 0, .ifc 51 (.ag [I6 10, .x 5])]) = true := by kernel_rfl
def cF1 (s : LB) : List Value := [St' s, St' ([] : LB), .int .i64 ((s.length : Int)), St' (List.take (Int.toNat (1)) s), St' (tT s), St' (dcM (tT s))]
def dZ6 (s : LB) : List Value := [rwS ([] : List LB)]
theorem eD2 (s : LB) : ∀ j, (nuL (cF1 s) j).oneCell' = true := aA2 (l := cF1 s) rfl
theorem pathCln_6 (s : LB) (b0 : s.length ≤ 9223372036854775807) (p0 : s.length ≤ 1000000) (h0 : 1 ≤ (s.length : Int)) (h1 : (List.take (Int.toNat (1)) s) = [u8 47]) (h2 : ¬ ((cX s) = none)) (h3 : ¬ ((cB s) = true)) (h4 : dcS (tT s) = none) (w : World) (hl : aA3 w) : CwR 5 #[St' s] w (.tuple #[St' ([] : LB), .iface 51 (.agg #[.int .i64 10, St' (dcM (tT s))])]) := by
  have := aJ9 (l := s) (Q := 1) (by omega) (by omega)
  have hct := bL5 s
  have hTo := bK4 (s := s) (by assumption) (by simpa using (by assumption : ¬ (cB s) = true))
  have := aD2 (tT s)
  have ho : ∀ k r, (k, r) ∈ dF7 → HOk (cx (nuX (cF1 s) (rX (dZ6 s) (fun _ => .bool true))) (aA4 (eD2 s)) 1 aA3 aA0) k r := by
    unfold dF7
    exact hc (lnV rfl rfl (by omega)) <|hc (gecT rfl (by omega)) <|hc (tkC rfl rfl (by omega)) <|hc (kEqS (isX rfl) (isSx (l := [u8 47]) 1 47 rfl) (decide_eq_true (by assumption))) <|hc (aJ0 (s := (tT s)) (isX rfl) (by rw [if_pos (by assumption)]; exact aE6 bL4 (bT3 (dI4 (denI .i64 10) (denX rfl)))) (by omega) (by omega)) <|hnil
  refine runC (tb := dM1) (ra := .tu [.s 0 0, .ifc 51 (.ag [I6 10, .x 5])]) rfl (aB3.lp1 (aB3.lp1 ((aB0 (nuX (cF1 s) (rX (dZ6 s) (fun _ => .bool true))) (aA4 (eD2 s))).hyps ho) (by omega) aO1 aF7 (aB1 (.inr ⟨rfl, mkA5, mkB5, _, Tryd.func5, mkC5⟩) aC1)) (by omega) (aA8 (by omega) (by omega) aH3) aE0 (aB1 (aB9 rfl ⟨1, bL2, bM7 (l := lf7) (h := lh7) (cX s) (cM s) (kT s) (tT s) (cB s) (cK6 (by assumption) (by simpa using (by assumption : ¬ (cB s) = true))) (by simpa using (by assumption : ¬ (cB s) = true)) (0, s, ([] : List LB)) (aU1 ⟨rfl, rfl, rfl, by omega, by simp only [List.length_nil]; omega, fun _ => rfl, by omega⟩) rfl (by kernel_rfl) (th0 := [(0, .x 0)]) (sg0 := []) (fun X => thXv (v := St' s) rfl rfl (aA6)) (by kernel_rfl) (thx := [(4, .x 0)]) (thXv (v := St' (tT s)) rfl rfl (aA6)) (by kernel_rfl)⟩) aC1)) rfl (aA8 (by omega) (by omega) (aC7 (by omega))) fiB5 (fun e => runCln_6 e ) (args := [St' s]) (by simp only [RelL, Rel]; exact ⟨_, _, rfl, rfl, rfl⟩) w hl fun x hx => ?_
  simp only [Rel, RelL] at hx
  obtain ⟨_, rfl, ⟨_, _, rfl, ⟨rfl, _⟩, ⟨_, _, rfl, ⟨_, rfl, ⟨_, rfl, ⟨_, _, rfl, rfl, ⟨_, _, rfl, rfl, rfl⟩⟩⟩⟩, rfl⟩⟩⟩ := hx
  rfl
def dF6 : LK := [(.len (.x 0), .x 2), (.bin .geq (.x 2) (I6 1), .b true), (.sub (.x 0) none (some (I6 1)), .x 3), (.bin .eql (.x 3) (.s 1 47), .b true), (.call 17 [.x 4], .tu [.x 5, .ni]), (.bin .eql (.x 5) (.s 2 11822), .b false), (.call 18 [.x 5], .b true), (.bin .add (.s 1 47) (.x 6), .x 7), (.rl (.x 2000001) 1, .x 8), (.bin .gtr (.x 8) (I6 0), .b true), (.bin .add (.x 7) (.s 1 47), .x 9)]
def lh13 : LH := ⟨4, 12, 24, [(4, bk 9 [.s 0 0]), (5, bk 24 [.ni]), (6, bk 31 [.nils]), (7, bk 9 [.s 0 0]), (8, bk 9 [.x 0]), (9, bk 9 [.s 1 47]), (10, bk 3 [I6 0]), (11, .k 5 [(2, .p 4 0), (3, .p 5 0), (4, .p 6 0), (5, .p 7 0)] 64 0 .normal)], [(4, bk 9 [.s 0 0]), (5, bk 24 [.ni]), (6, bk 31 [.sr 12]), (7, bk 9 [.und]), (8, bk 9 [.x 4]), (9, bk 9 [.s 1 47]), (10, bk 3 [I6 0]), (11, .k 5 [(2, .p 4 0), (3, .p 5 0), (4, .p 6 0), (5, .p 7 0)] 64 0 .normal), (12, .r 2000001 9 1 false)]⟩
def lf13 : LF := ⟨5, 52, [(0, .yl 11), (1, .p 9 0), (2, .p 8 0), (3, .p 10 0), (9, .s 1 47)], [], (.exit 2), [(0, .yl 11), (2, .p 8 0)], some lh13⟩
def lh14 : LH := ⟨4, 44, 44, [(12, .r 2000001 9 1 false)], [(12, .r 2000001 9 1 false)]⟩
def lf14 : LF := ⟨8888888, 0, [(0, .sr 12), (1, .s 1 47)], [], .normal, [(0, .x 6)], some lh14⟩
noncomputable def dM0 : Tab := aB2 (aB2 (aB2 ({ tabk with hyp := dF6 }) 5 fi5 [⟨7777777, 5, [], [2, 3, 4, 5], .goto 7777777, [], none⟩]) 37 fi37 [lf13]) 19 fi19 [lf14]
theorem runCln_7 (e : Nat) : okA (call dM0 9000 5 [.x 0] ⟨H0 e , 4, 0, 0⟩) (.tu [.x 9, .ni]) = true := by kernel_rfl
def cF0 (s : LB) : List Value := [St' s, St' ([] : LB), .int .i64 ((s.length : Int)), St' (List.take (Int.toNat (1)) s), St' (tT s), St' (gS (tT s)), St' (aD6 (kT s)), St' ([u8 47] ++ (aD6 (kT s))), .int .i64 (((kT s).length : Int)), St' ([u8 47] ++ ((aD6 (kT s)) ++ [u8 47]))]
def dZ5 (s : LB) : List Value := [rwS ([] : List LB), rwS (kT s)]
theorem eD1 (s : LB) : ∀ j, (nuL (cF0 s) j).oneCell' = true := aA2 (l := cF0 s) rfl
theorem pathCln_7 (s : LB) (b0 : s.length ≤ 9223372036854775807) (p0 : s.length ≤ 1000000) (h0 : 1 ≤ (s.length : Int)) (h1 : (List.take (Int.toNat (1)) s) = [u8 47]) (h2 : ¬ ((cX s) = none)) (h3 : (cB s) = true) (h4 : ¬ (dcS (tT s) = none)) (h5 : ¬ ((gS (tT s)) = [u8 46, u8 46])) (h6 : psB (gS (tT s)) = true) (h7 : 0 < ((kT s).length : Int)) (w : World) (hl : aA3 w) : CwR 5 #[St' s] w (.tuple #[St' ([u8 47] ++ ((aD6 (kT s)) ++ [u8 47])), .nilIface]) := by
  have := aJ9 (l := s) (Q := 1) (by omega) (by omega)
  have hct := bL5 s
  have := aD2 (tT s)
  have := jn1 (kT s)
  have := aZ3 (kT s)
  have ho : ∀ k r, (k, r) ∈ dF6 → HOk (cx (nuX (cF0 s) (rX (dZ5 s) (fun _ => .bool true))) (aA4 (eD1 s)) 1 aA3 aA0) k r := by
    unfold dF6
    exact hc (lnV rfl rfl (by omega)) <|hc (gecT rfl (by omega)) <|hc (tkC rfl rfl (by omega)) <|hc (kEqS (isX rfl) (isSx (l := [u8 47]) 1 47 rfl) (decide_eq_true (by assumption))) <|hc (aJ0 (s := (tT s)) (isX rfl) (by rw [if_neg (by assumption)]; exact aE6 (denX rfl) aQ0) (by omega) (by omega)) <|hc (kEqS (isX rfl) (isSx (l := [u8 46, u8 46]) 2 11822 rfl) (decide_eq_false (by assumption))) <|hc (aZ2 (s := (gS (tT s))) (isX rfl) (eL4 (by assumption)) (by omega)) <|hc (kCat (isSx (l := [u8 47]) 1 47 rfl) (isX rfl) (denX rfl) (by first | rfl | (simp; done)) (by first | omega | (simp only [List.length_append, List.length_cons, List.length_nil]; omega))) <|hc (kRl (isX rfl) (denX rfl) (by first | omega | (simp <;> omega))) <|hc (gtcT rfl (by omega)) <|hc (kCat (isX rfl) (isSx (l := [u8 47]) 1 47 rfl) (denX rfl) (by first | rfl | (simp; done)) (by first | omega | (simp only [List.length_append, List.length_cons, List.length_nil]; omega))) <|hnil
  refine runC (tb := dM0) (ra := .tu [.x 9, .ni]) rfl (aB3.lp2 (aB3.lp1 (aB3.lp1 ((aB0 (nuX (cF0 s) (rX (dZ5 s) (fun _ => .bool true))) (aA4 (eD1 s))).hyps ho) (by omega) aO1 aF7 (aB1 (.inr ⟨rfl, mkA5, mkB5, _, Tryd.func5, mkC5⟩) aC1)) (by omega) (aA8 (by omega) (by omega) aH3) aE0 (aB1 (aB9 rfl ⟨1, bL2, aR1 (l := lf13) (h := lh13) (cX s) (cM s) (kT s) (tT s) (cB s) (aL6 (by assumption)) (by assumption) (0, s, ([] : List LB)) (aU1 ⟨rfl, rfl, rfl, by omega, by simp only [List.length_nil]; omega, fun _ => rfl, by omega⟩) rfl (by kernel_rfl) (th0 := [(0, .x 0)]) (sg0 := []) (fun X => thXv (v := St' s) rfl rfl (aA6)) (by kernel_rfl) (thx := [(4, .x 0), (2000001, .x 2000000)]) (thXv (v := St' (tT s)) rfl rfl (thXv (v := rwS (kT s)) rfl rfl (aA6))) (by kernel_rfl)⟩) aC1)) (by omega) (aA8 (by omega) (by omega) (aA8 (by omega) (by omega) bI2)) aN1 (aB1 (.inr ⟨⟨rfl, rfl⟩, dW2, cfJ (l := lf14) (h := lh14) (K := (kT s)) rfl rfl rfl rfl rfl rfl rfl rfl (by first | omega | (simp <;> omega)) (by first | omega | (simp <;> omega))⟩) aC1)) rfl (aA8 (by omega) (by omega) (aA8 (by omega) (by omega) (aC7 (by omega)))) fiB5 (fun e => runCln_7 e ) (args := [St' s]) (by simp only [RelL, Rel]; exact ⟨_, _, rfl, rfl, rfl⟩) w hl fun x hx => ?_
  simp only [Rel, RelL] at hx
  obtain ⟨_, rfl, ⟨_, _, rfl, rfl, ⟨_, _, rfl, rfl, rfl⟩⟩⟩ := hx
  rfl
def dF5 : LK := [(.len (.x 0), .x 2), (.bin .geq (.x 2) (I6 1), .b true), (.sub (.x 0) none (some (I6 1)), .x 3), (.bin .eql (.x 3) (.s 1 47), .b true), (.call 17 [.x 4], .tu [.x 5, .ni]), (.bin .eql (.x 5) (.s 2 11822), .b true), (.rl (.x 2000001) 1, .x 6), (.bin .eql (.x 6) (I6 0), .b false), (.bin .sub (.x 6) (I6 1), .x 7), (.rt (.x 2000001) (.x 7) 1, .x 2000002), (.bin .add (.s 1 47) (.x 8), .x 9), (.rl (.x 2000002) 1, .x 10), (.bin .gtr (.x 10) (I6 0), .b false)]
def lh18 : LH := ⟨4, 44, 44, [(24, .r 2000002 9 1 false)], [(24, .r 2000002 9 1 false)]⟩
def lf18 : LF := ⟨8888888, 0, [(0, .sr 24), (1, .s 1 47)], [], .normal, [(0, .x 8)], some lh18⟩
noncomputable def dL9 : Tab := aB2 (aB2 (aB2 ({ tabk with hyp := dF5 }) 5 fi5 [⟨7777777, 5, [], [2, 3, 4, 5], .goto 7777777, [], none⟩]) 37 fi37 [lf13]) 19 fi19 [lf18]
theorem runCln_8 (e : Nat) : okA (call dL9 9000 5 [.x 0] ⟨H0 e , 4, 0, 0⟩) (.tu [.x 9, .ni]) = true := by kernel_rfl
def cE9 (s : LB) : List Value := [St' s, St' ([] : LB), .int .i64 ((s.length : Int)), St' (List.take (Int.toNat (1)) s), St' (tT s), St' (gS (tT s)), .int .i64 (((kT s).length : Int)), .int .i64 (((kT s).length : Int) - 1), St' (aD6 ((kT s).take (Int.toNat (((kT s).length : Int) - 1)))), St' ([u8 47] ++ (aD6 ((kT s).take (Int.toNat (((kT s).length : Int) - 1))))), .int .i64 (((kT s).length : Int) - 1)]
def dZ4 (s : LB) : List Value := [rwS ([] : List LB), rwS (kT s), rwS ((kT s).take (Int.toNat (((kT s).length : Int) - 1)))]
theorem eD0 (s : LB) : ∀ j, (nuL (cE9 s) j).oneCell' = true := aA2 (l := cE9 s) rfl
theorem pathCln_8 (s : LB) (b0 : s.length ≤ 9223372036854775807) (p0 : s.length ≤ 1000000) (h0 : 1 ≤ (s.length : Int)) (h1 : (List.take (Int.toNat (1)) s) = [u8 47]) (h2 : ¬ ((cX s) = none)) (h3 : (cB s) = true) (h4 : ¬ (dcS (tT s) = none)) (h5 : (gS (tT s)) = [u8 46, u8 46]) (h6 : ¬ (((kT s).length : Int) = 0)) (h7 : ¬ (0 < ((kT s).length : Int) - 1)) (w : World) (hl : aA3 w) : CwR 5 #[St' s] w (.tuple #[St' ([u8 47] ++ (aD6 ((kT s).take (Int.toNat (((kT s).length : Int) - 1))))), .nilIface]) := by
  have := aJ9 (l := s) (Q := 1) (by omega) (by omega)
  have hct := bL5 s
  have := aD2 (tT s)
  obtain ⟨hdd1, hdd2⟩ := dd_f (t := (gS (tT s))) (by assumption)
  have := jn1 ((kT s).take (Int.toNat (((kT s).length : Int) - 1)))
  have := aZ3 ((kT s).take (Int.toNat (((kT s).length : Int) - 1)))
  have := fl_tk (kT s) (Int.toNat (((kT s).length : Int) - 1))
  have ho : ∀ k r, (k, r) ∈ dF5 → HOk (cx (nuX (cE9 s) (rX (dZ4 s) (fun _ => .bool true))) (aA4 (eD0 s)) 1 aA3 aA0) k r := by
    unfold dF5
    exact hc (lnV rfl rfl (by omega)) <|hc (gecT rfl (by omega)) <|hc (tkC rfl rfl (by omega)) <|hc (kEqS (isX rfl) (isSx (l := [u8 47]) 1 47 rfl) (decide_eq_true (by assumption))) <|hc (aJ0 (s := (tT s)) (isX rfl) (by rw [if_neg (by assumption)]; exact aE6 (denX rfl) aQ0) (by omega) (by omega)) <|hc (kEqS (isX rfl) (isSx (l := [u8 46, u8 46]) 2 11822 rfl) (decide_eq_true (by assumption))) <|hc (kRl (isX rfl) (denX rfl) (by first | omega | (simp <;> omega))) <|hc (eqcF rfl (by omega)) <|hc (sbC rfl rfl (by omega)) <|hc (kRtS (j := (Int.toNat (((kT s).length : Int) - 1))) (isX rfl) (isX rfl) (denX rfl) (by omega) (by omega)) <|hc (kCat (isSx (l := [u8 47]) 1 47 rfl) (isX rfl) (denX rfl) (by first | rfl | (simp; done)) (by first | omega | (simp only [List.length_append, List.length_cons, List.length_nil]; omega))) <|hc (kRl (isX rfl) (denX rfl) (by first | omega | (simp <;> omega))) <|hc (gtcF rfl (by omega)) <|hnil
  refine runC (tb := dL9) (ra := .tu [.x 9, .ni]) rfl (aB3.lp2 (aB3.lp1 (aB3.lp1 ((aB0 (nuX (cE9 s) (rX (dZ4 s) (fun _ => .bool true))) (aA4 (eD0 s))).hyps ho) (by omega) aO1 aF7 (aB1 (.inr ⟨rfl, mkA5, mkB5, _, Tryd.func5, mkC5⟩) aC1)) (by omega) (aA8 (by omega) (by omega) aH3) aE0 (aB1 (aB9 rfl ⟨1, bL2, aR1 (l := lf13) (h := lh13) (cX s) (cM s) (kT s) (tT s) (cB s) (aL6 (by assumption)) (by assumption) (0, s, ([] : List LB)) (aU1 ⟨rfl, rfl, rfl, by omega, by simp only [List.length_nil]; omega, fun _ => rfl, by omega⟩) rfl (by kernel_rfl) (th0 := [(0, .x 0)]) (sg0 := []) (fun X => thXv (v := St' s) rfl rfl (aA6)) (by kernel_rfl) (thx := [(4, .x 0), (2000001, .x 2000000)]) (thXv (v := St' (tT s)) rfl rfl (thXv (v := rwS (kT s)) rfl rfl (aA6))) (by kernel_rfl)⟩) aC1)) (by omega) (aA8 (by omega) (by omega) (aA8 (by omega) (by omega) bI2)) aN1 (aB1 (.inr ⟨⟨rfl, rfl⟩, dW2, cfJ (l := lf18) (h := lh18) (K := ((kT s).take (Int.toNat (((kT s).length : Int) - 1)))) rfl rfl rfl rfl rfl rfl rfl rfl (by first | omega | (simp <;> omega)) (by first | omega | (simp <;> omega))⟩) aC1)) rfl (aA8 (by omega) (by omega) (aA8 (by omega) (by omega) (aC7 (by omega)))) fiB5 (fun e => runCln_8 e ) (args := [St' s]) (by simp only [RelL, Rel]; exact ⟨_, _, rfl, rfl, rfl⟩) w hl fun x hx => ?_
  simp only [Rel, RelL] at hx
  obtain ⟨_, rfl, ⟨_, _, rfl, rfl, ⟨_, _, rfl, rfl, rfl⟩⟩⟩ := hx
  rfl
def dF4 : LK := [(.len (.x 0), .x 2), (.bin .geq (.x 2) (I6 1), .b true), (.sub (.x 0) none (some (I6 1)), .x 3), (.bin .eql (.x 3) (.s 1 47), .b true), (.call 17 [.x 4], .tu [.x 5, .ni]), (.bin .eql (.x 5) (.s 2 11822), .b false), (.call 18 [.x 5], .b false), (.ra (.x 2000001) [.x 5], .x 2000002), (.rf (.x 2000002) 1 16, .b true), (.bin .add (.s 1 47) (.x 6), .x 7), (.rl (.x 2000002) 1, .x 8), (.bin .gtr (.x 8) (I6 0), .b true)]
def lh20 : LH := ⟨4, 44, 44, [(25, .r 2000002 9 1 false)], [(25, .r 2000002 9 1 false)]⟩
def lf20 : LF := ⟨8888888, 0, [(0, .sr 25), (1, .s 1 47)], [], .normal, [(0, .x 6)], some lh20⟩
noncomputable def dL8 : Tab := aB2 (aB2 (aB2 ({ tabk with hyp := dF4 }) 5 fi5 [⟨7777777, 5, [], [2, 3, 4, 5], .goto 7777777, [], none⟩]) 37 fi37 [lf13]) 19 fi19 [lf20]
theorem runCln_9 (e : Nat) : okA (call dL8 9000 5 [.x 0] ⟨H0 e , 4, 0, 0⟩) (.tu [.x 7, .ni]) = true := by kernel_rfl
def cE8 (s : LB) : List Value := [St' s, St' ([] : LB), .int .i64 ((s.length : Int)), St' (List.take (Int.toNat (1)) s), St' (tT s), St' (gS (tT s)), St' (aD6 ((kT s) ++ [(gS (tT s))])), St' ([u8 47] ++ (aD6 ((kT s) ++ [(gS (tT s))]))), .int .i64 (((kT s).length : Int) + 1)]
def dZ3 (s : LB) : List Value := [rwS ([] : List LB), rwS (kT s), rwS ((kT s) ++ [(gS (tT s))])]
theorem eC9 (s : LB) : ∀ j, (nuL (cE8 s) j).oneCell' = true := aA2 (l := cE8 s) rfl
theorem pathCln_9 (s : LB) (b0 : s.length ≤ 9223372036854775807) (p0 : s.length ≤ 1000000) (h0 : 1 ≤ (s.length : Int)) (h1 : (List.take (Int.toNat (1)) s) = [u8 47]) (h2 : ¬ ((cX s) = none)) (h3 : (cB s) = true) (h4 : ¬ (dcS (tT s) = none)) (h5 : ¬ ((gS (tT s)) = [u8 46, u8 46])) (h6 : ¬ (psB (gS (tT s)) = true)) (w : World) (hl : aA3 w) : CwR 5 #[St' s] w (.tuple #[St' ([u8 47] ++ (aD6 ((kT s) ++ [(gS (tT s))]))), .nilIface]) := by
  have := aJ9 (l := s) (Q := 1) (by omega) (by omega)
  have hct := bL5 s
  have := aD2 (tT s)
  have := jn1 ((kT s) ++ [(gS (tT s))])
  have := aZ3 ((kT s) ++ [(gS (tT s))])
  have := fl_ap (kT s) (gS (tT s))
  have hf0 : (fl47 []).length = 0 := rfl
  have ho : ∀ k r, (k, r) ∈ dF4 → HOk (cx (nuX (cE8 s) (rX (dZ3 s) (fun _ => .bool true))) (aA4 (eC9 s)) 1 aA3 aA0) k r := by
    unfold dF4
    exact hc (lnV rfl rfl (by omega)) <|hc (gecT rfl (by omega)) <|hc (tkC rfl rfl (by omega)) <|hc (kEqS (isX rfl) (isSx (l := [u8 47]) 1 47 rfl) (decide_eq_true (by assumption))) <|hc (aJ0 (s := (tT s)) (isX rfl) (by rw [if_neg (by assumption)]; exact aE6 (denX rfl) aQ0) (by omega) (by omega)) <|hc (kEqS (isX rfl) (isSx (l := [u8 46, u8 46]) 2 11822 rfl) (decide_eq_false (by assumption))) <|hc (aZ2 (s := (gS (tT s))) (isX rfl) (eL5 (by assumption)) (by omega)) <|hc (kRa (isX rfl) (isX rfl) (denX rfl)) <|hc (kRf (isX rfl) (by first | omega | (simp <;> omega)) (by first | omega | (simp <;> omega))) <|hc (kCat (isSx (l := [u8 47]) 1 47 rfl) (isX rfl) (denX rfl) (by first | rfl | (simp; done)) (by first | omega | (simp only [List.length_append, List.length_cons, List.length_nil]; omega))) <|hc (kRl (isX rfl) (denX rfl) (by first | omega | (simp <;> omega))) <|hc (gtcT rfl (by omega)) <|hnil
  refine runC (tb := dL8) (ra := .tu [.x 7, .ni]) rfl (aB3.lp2 (aB3.lp1 (aB3.lp1 ((aB0 (nuX (cE8 s) (rX (dZ3 s) (fun _ => .bool true))) (aA4 (eC9 s))).hyps ho) (by omega) aO1 aF7 (aB1 (.inr ⟨rfl, mkA5, mkB5, _, Tryd.func5, mkC5⟩) aC1)) (by omega) (aA8 (by omega) (by omega) aH3) aE0 (aB1 (aB9 rfl ⟨1, bL2, aR1 (l := lf13) (h := lh13) (cX s) (cM s) (kT s) (tT s) (cB s) (aL6 (by assumption)) (by assumption) (0, s, ([] : List LB)) (aU1 ⟨rfl, rfl, rfl, by omega, by simp only [List.length_nil]; omega, fun _ => rfl, by omega⟩) rfl (by kernel_rfl) (th0 := [(0, .x 0)]) (sg0 := []) (fun X => thXv (v := St' s) rfl rfl (aA6)) (by kernel_rfl) (thx := [(4, .x 0), (2000001, .x 2000000)]) (thXv (v := St' (tT s)) rfl rfl (thXv (v := rwS (kT s)) rfl rfl (aA6))) (by kernel_rfl)⟩) aC1)) (by omega) (aA8 (by omega) (by omega) (aA8 (by omega) (by omega) bI2)) aN1 (aB1 (.inr ⟨⟨rfl, rfl⟩, dW2, cfJ (l := lf20) (h := lh20) (K := ((kT s) ++ [(gS (tT s))])) rfl rfl rfl rfl rfl rfl rfl rfl (by first | omega | (simp <;> omega)) (by first | omega | (simp <;> omega))⟩) aC1)) rfl (aA8 (by omega) (by omega) (aA8 (by omega) (by omega) (aC7 (by omega)))) fiB5 (fun e => runCln_9 e ) (args := [St' s]) (by simp only [RelL, Rel]; exact ⟨_, _, rfl, rfl, rfl⟩) w hl fun x hx => ?_
  simp only [Rel, RelL] at hx
  obtain ⟨_, rfl, ⟨_, _, rfl, rfl, ⟨_, _, rfl, rfl, rfl⟩⟩⟩ := hx
  rfl
def cJ7 : LK := [(.len (.x 0), .x 2), (.bin .geq (.x 2) (I6 1), .b true), (.sub (.x 0) none (some (I6 1)), .x 3), (.bin .eql (.x 3) (.s 1 47), .b true), (.call 17 [.x 4], .tu [.s 0 0, .ifc 51 (.ag [I6 10, .x 5])])]
noncomputable def cL9 : Tab := aB2 (aB2 ({ tabk with hyp := cJ7 }) 5 fi5 [⟨7777777, 5, [], [2, 3, 4, 5], .goto 7777777, [], none⟩]) 37 fi37 [lf13]
theorem runCln_10 (e : Nat) : okA (call cL9 9000 5 [.x 0] ⟨H0 e , 4, 0, 0⟩) (.tu [.s 0 0, .ifc 51 (.ag [I6 10, .x 5])]) = true := by kernel_rfl
def bM6 (s : LB) : List Value := [St' s, St' ([] : LB), .int .i64 ((s.length : Int)), St' (List.take (Int.toNat (1)) s), St' (tT s), St' (dcM (tT s))]
def dO7 (s : LB) : List Value := [rwS ([] : List LB), rwS (kT s)]
theorem dQ1 (s : LB) : ∀ j, (nuL (bM6 s) j).oneCell' = true := aA2 (l := bM6 s) rfl
theorem pathCln_10 (s : LB) (b0 : s.length ≤ 9223372036854775807) (p0 : s.length ≤ 1000000) (h0 : 1 ≤ (s.length : Int)) (h1 : (List.take (Int.toNat (1)) s) = [u8 47]) (h2 : ¬ ((cX s) = none)) (h3 : (cB s) = true) (h4 : dcS (tT s) = none) (w : World) (hl : aA3 w) : CwR 5 #[St' s] w (.tuple #[St' ([] : LB), .iface 51 (.agg #[.int .i64 10, St' (dcM (tT s))])]) := by
  have := aJ9 (l := s) (Q := 1) (by omega) (by omega)
  have hct := bL5 s
  have := aD2 (tT s)
  have ho : ∀ k r, (k, r) ∈ cJ7 → HOk (cx (nuX (bM6 s) (rX (dO7 s) (fun _ => .bool true))) (aA4 (dQ1 s)) 1 aA3 aA0) k r := by
    unfold cJ7
    exact hc (lnV rfl rfl (by omega)) <|hc (gecT rfl (by omega)) <|hc (tkC rfl rfl (by omega)) <|hc (kEqS (isX rfl) (isSx (l := [u8 47]) 1 47 rfl) (decide_eq_true (by assumption))) <|hc (aJ0 (s := (tT s)) (isX rfl) (by rw [if_pos (by assumption)]; exact aE6 bL4 (bT3 (dI4 (denI .i64 10) (denX rfl)))) (by omega) (by omega)) <|hnil
  refine runC (tb := cL9) (ra := .tu [.s 0 0, .ifc 51 (.ag [I6 10, .x 5])]) rfl (aB3.lp1 (aB3.lp1 ((aB0 (nuX (bM6 s) (rX (dO7 s) (fun _ => .bool true))) (aA4 (dQ1 s))).hyps ho) (by omega) aO1 aF7 (aB1 (.inr ⟨rfl, mkA5, mkB5, _, Tryd.func5, mkC5⟩) aC1)) (by omega) (aA8 (by omega) (by omega) aH3) aE0 (aB1 (aB9 rfl ⟨1, bL2, aR1 (l := lf13) (h := lh13) (cX s) (cM s) (kT s) (tT s) (cB s) (aL6 (by assumption)) (by assumption) (0, s, ([] : List LB)) (aU1 ⟨rfl, rfl, rfl, by omega, by simp only [List.length_nil]; omega, fun _ => rfl, by omega⟩) rfl (by kernel_rfl) (th0 := [(0, .x 0)]) (sg0 := []) (fun X => thXv (v := St' s) rfl rfl (aA6)) (by kernel_rfl) (thx := [(4, .x 0), (2000001, .x 2000000)]) (thXv (v := St' (tT s)) rfl rfl (thXv (v := rwS (kT s)) rfl rfl (aA6))) (by kernel_rfl)⟩) aC1)) rfl (aA8 (by omega) (by omega) (aC7 (by omega))) fiB5 (fun e => runCln_10 e ) (args := [St' s]) (by simp only [RelL, Rel]; exact ⟨_, _, rfl, rfl, rfl⟩) w hl fun x hx => ?_
  simp only [Rel, RelL] at hx
  obtain ⟨_, rfl, ⟨_, _, rfl, ⟨rfl, _⟩, ⟨_, _, rfl, ⟨_, rfl, ⟨_, rfl, ⟨_, _, rfl, rfl, ⟨_, _, rfl, rfl, rfl⟩⟩⟩⟩, rfl⟩⟩⟩ := hx
  rfl
def cJ6 : LK := [(.len (.x 0), .x 2), (.bin .geq (.x 2) (I6 1), .b true), (.sub (.x 0) none (some (I6 1)), .x 3), (.bin .eql (.x 3) (.s 1 47), .b true), (.call 17 [.x 4], .tu [.x 5, .ni]), (.bin .eql (.x 5) (.s 2 11822), .b false), (.call 18 [.x 5], .b true), (.bin .add (.s 1 47) (.x 6), .x 7), (.rl (.x 2000001) 1, .x 8), (.bin .gtr (.x 8) (I6 0), .b false)]
noncomputable def cL8 : Tab := aB2 (aB2 (aB2 ({ tabk with hyp := cJ6 }) 5 fi5 [⟨7777777, 5, [], [2, 3, 4, 5], .goto 7777777, [], none⟩]) 37 fi37 [lf13]) 19 fi19 [lf14]
theorem runCln_11 (e : Nat) : okA (call cL8 9000 5 [.x 0] ⟨H0 e , 4, 0, 0⟩) (.tu [.x 7, .ni]) = true := by kernel_rfl
def bM5 (s : LB) : List Value := [St' s, St' ([] : LB), .int .i64 ((s.length : Int)), St' (List.take (Int.toNat (1)) s), St' (tT s), St' (gS (tT s)), St' (aD6 (kT s)), St' ([u8 47] ++ (aD6 (kT s))), .int .i64 (((kT s).length : Int))]
def dO6 (s : LB) : List Value := [rwS ([] : List LB), rwS (kT s)]
theorem dQ0 (s : LB) : ∀ j, (nuL (bM5 s) j).oneCell' = true := aA2 (l := bM5 s) rfl
theorem pathCln_11 (s : LB) (b0 : s.length ≤ 9223372036854775807) (p0 : s.length ≤ 1000000) (h0 : 1 ≤ (s.length : Int)) (h1 : (List.take (Int.toNat (1)) s) = [u8 47]) (h2 : ¬ ((cX s) = none)) (h3 : (cB s) = true) (h4 : ¬ (dcS (tT s) = none)) (h5 : ¬ ((gS (tT s)) = [u8 46, u8 46])) (h6 : psB (gS (tT s)) = true) (h7 : ¬ (0 < ((kT s).length : Int))) (w : World) (hl : aA3 w) : CwR 5 #[St' s] w (.tuple #[St' ([u8 47] ++ (aD6 (kT s))), .nilIface]) := by
  have := aJ9 (l := s) (Q := 1) (by omega) (by omega)
  have hct := bL5 s
  have := aD2 (tT s)
  have := jn1 (kT s)
  have := aZ3 (kT s)
  have ho : ∀ k r, (k, r) ∈ cJ6 → HOk (cx (nuX (bM5 s) (rX (dO6 s) (fun _ => .bool true))) (aA4 (dQ0 s)) 1 aA3 aA0) k r := by
    unfold cJ6
    exact hc (lnV rfl rfl (by omega)) <|hc (gecT rfl (by omega)) <|hc (tkC rfl rfl (by omega)) <|hc (kEqS (isX rfl) (isSx (l := [u8 47]) 1 47 rfl) (decide_eq_true (by assumption))) <|hc (aJ0 (s := (tT s)) (isX rfl) (by rw [if_neg (by assumption)]; exact aE6 (denX rfl) aQ0) (by omega) (by omega)) <|hc (kEqS (isX rfl) (isSx (l := [u8 46, u8 46]) 2 11822 rfl) (decide_eq_false (by assumption))) <|hc (aZ2 (s := (gS (tT s))) (isX rfl) (eL4 (by assumption)) (by omega)) <|hc (kCat (isSx (l := [u8 47]) 1 47 rfl) (isX rfl) (denX rfl) (by first | rfl | (simp; done)) (by first | omega | (simp only [List.length_append, List.length_cons, List.length_nil]; omega))) <|hc (kRl (isX rfl) (denX rfl) (by first | omega | (simp <;> omega))) <|hc (gtcF rfl (by omega)) <|hnil
  refine runC (tb := cL8) (ra := .tu [.x 7, .ni]) rfl (aB3.lp2 (aB3.lp1 (aB3.lp1 ((aB0 (nuX (bM5 s) (rX (dO6 s) (fun _ => .bool true))) (aA4 (dQ0 s))).hyps ho) (by omega) aO1 aF7 (aB1 (.inr ⟨rfl, mkA5, mkB5, _, Tryd.func5, mkC5⟩) aC1)) (by omega) (aA8 (by omega) (by omega) aH3) aE0 (aB1 (aB9 rfl ⟨1, bL2, aR1 (l := lf13) (h := lh13) (cX s) (cM s) (kT s) (tT s) (cB s) (aL6 (by assumption)) (by assumption) (0, s, ([] : List LB)) (aU1 ⟨rfl, rfl, rfl, by omega, by simp only [List.length_nil]; omega, fun _ => rfl, by omega⟩) rfl (by kernel_rfl) (th0 := [(0, .x 0)]) (sg0 := []) (fun X => thXv (v := St' s) rfl rfl (aA6)) (by kernel_rfl) (thx := [(4, .x 0), (2000001, .x 2000000)]) (thXv (v := St' (tT s)) rfl rfl (thXv (v := rwS (kT s)) rfl rfl (aA6))) (by kernel_rfl)⟩) aC1)) (by omega) (aA8 (by omega) (by omega) (aA8 (by omega) (by omega) bI2)) aN1 (aB1 (.inr ⟨⟨rfl, rfl⟩, dW2, cfJ (l := lf14) (h := lh14) (K := (kT s)) rfl rfl rfl rfl rfl rfl rfl rfl (by first | omega | (simp <;> omega)) (by first | omega | (simp <;> omega))⟩) aC1)) rfl (aA8 (by omega) (by omega) (aA8 (by omega) (by omega) (aC7 (by omega)))) fiB5 (fun e => runCln_11 e ) (args := [St' s]) (by simp only [RelL, Rel]; exact ⟨_, _, rfl, rfl, rfl⟩) w hl fun x hx => ?_
  simp only [Rel, RelL] at hx
  obtain ⟨_, rfl, ⟨_, _, rfl, rfl, ⟨_, _, rfl, rfl, rfl⟩⟩⟩ := hx
  rfl
def cJ5 : LK := [(.len (.x 0), .x 2), (.bin .geq (.x 2) (I6 1), .b true), (.sub (.x 0) none (some (I6 1)), .x 3), (.bin .eql (.x 3) (.s 1 47), .b true), (.call 17 [.x 4], .tu [.x 5, .ni]), (.bin .eql (.x 5) (.s 2 11822), .b true), (.rl (.x 2000001) 1, .x 6), (.bin .eql (.x 6) (I6 0), .b true)]
noncomputable def cL7 : Tab := aB2 (aB2 ({ tabk with hyp := cJ5 }) 5 fi5 [⟨7777777, 5, [], [2, 3, 4, 5], .goto 7777777, [], none⟩]) 37 fi37 [lf13]
theorem runCln_12 (e : Nat) : okA (call cL7 9000 5 [.x 0] ⟨H0 e , 4, 0, 0⟩) (.tu [.s 0 0, .ifc 51 (.ag [I6 10, .s 21 170204620060147215156831070085407667714849644748897])]) = true := by kernel_rfl
def bM4 (s : LB) : List Value := [St' s, St' ([] : LB), .int .i64 ((s.length : Int)), St' (List.take (Int.toNat (1)) s), St' (tT s), St' (gS (tT s)), .int .i64 (((kT s).length : Int))]
def dO5 (s : LB) : List Value := [rwS ([] : List LB), rwS (kT s)]
theorem dP9 (s : LB) : ∀ j, (nuL (bM4 s) j).oneCell' = true := aA2 (l := bM4 s) rfl
theorem pathCln_12 (s : LB) (b0 : s.length ≤ 9223372036854775807) (p0 : s.length ≤ 1000000) (h0 : 1 ≤ (s.length : Int)) (h1 : (List.take (Int.toNat (1)) s) = [u8 47]) (h2 : ¬ ((cX s) = none)) (h3 : (cB s) = true) (h4 : ¬ (dcS (tT s) = none)) (h5 : (gS (tT s)) = [u8 46, u8 46]) (h6 : ((kT s).length : Int) = 0) (w : World) (hl : aA3 w) : CwR 5 #[St' s] w (.tuple #[St' ([] : LB), .iface 51 (.agg #[.int .i64 10, St' [u8 97, u8 32, u8 112, u8 97, u8 116, u8 104, u8 32, u8 116, u8 104, u8 97, u8 116, u8 32, u8 108, u8 101, u8 97, u8 100, u8 115, u8 32, u8 111, u8 117, u8 116]])]) := by
  have := aJ9 (l := s) (Q := 1) (by omega) (by omega)
  have hct := bL5 s
  have := aD2 (tT s)
  obtain ⟨hdd1, hdd2⟩ := dd_f (t := (gS (tT s))) (by assumption)
  have ho : ∀ k r, (k, r) ∈ cJ5 → HOk (cx (nuX (bM4 s) (rX (dO5 s) (fun _ => .bool true))) (aA4 (dP9 s)) 1 aA3 aA0) k r := by
    unfold cJ5
    exact hc (lnV rfl rfl (by omega)) <|hc (gecT rfl (by omega)) <|hc (tkC rfl rfl (by omega)) <|hc (kEqS (isX rfl) (isSx (l := [u8 47]) 1 47 rfl) (decide_eq_true (by assumption))) <|hc (aJ0 (s := (tT s)) (isX rfl) (by rw [if_neg (by assumption)]; exact aE6 (denX rfl) aQ0) (by omega) (by omega)) <|hc (kEqS (isX rfl) (isSx (l := [u8 46, u8 46]) 2 11822 rfl) (decide_eq_true (by assumption))) <|hc (kRl (isX rfl) (denX rfl) (by first | omega | (simp <;> omega))) <|hc (eqcT rfl (by omega)) <|hnil
  refine runC (tb := cL7) (ra := .tu [.s 0 0, .ifc 51 (.ag [I6 10, .s 21 170204620060147215156831070085407667714849644748897])]) rfl (aB3.lp1 (aB3.lp1 ((aB0 (nuX (bM4 s) (rX (dO5 s) (fun _ => .bool true))) (aA4 (dP9 s))).hyps ho) (by omega) aO1 aF7 (aB1 (.inr ⟨rfl, mkA5, mkB5, _, Tryd.func5, mkC5⟩) aC1)) (by omega) (aA8 (by omega) (by omega) aH3) aE0 (aB1 (aB9 rfl ⟨1, bL2, aR1 (l := lf13) (h := lh13) (cX s) (cM s) (kT s) (tT s) (cB s) (aL6 (by assumption)) (by assumption) (0, s, ([] : List LB)) (aU1 ⟨rfl, rfl, rfl, by omega, by simp only [List.length_nil]; omega, fun _ => rfl, by omega⟩) rfl (by kernel_rfl) (th0 := [(0, .x 0)]) (sg0 := []) (fun X => thXv (v := St' s) rfl rfl (aA6)) (by kernel_rfl) (thx := [(4, .x 0), (2000001, .x 2000000)]) (thXv (v := St' (tT s)) rfl rfl (thXv (v := rwS (kT s)) rfl rfl (aA6))) (by kernel_rfl)⟩) aC1)) rfl (aA8 (by omega) (by omega) (aC7 (by omega))) fiB5 (fun e => runCln_12 e ) (args := [St' s]) (by simp only [RelL, Rel]; exact ⟨_, _, rfl, rfl, rfl⟩) w hl fun x hx => ?_
  simp only [Rel, RelL] at hx
  obtain ⟨_, rfl, ⟨_, _, rfl, ⟨rfl, _⟩, ⟨_, _, rfl, ⟨_, rfl, ⟨_, rfl, ⟨_, _, rfl, rfl, ⟨_, _, rfl, ⟨rfl, _⟩, rfl⟩⟩⟩⟩, rfl⟩⟩⟩ := hx
  rfl
def cJ4 : LK := [(.len (.x 0), .x 2), (.bin .geq (.x 2) (I6 1), .b true), (.sub (.x 0) none (some (I6 1)), .x 3), (.bin .eql (.x 3) (.s 1 47), .b true), (.call 17 [.x 4], .tu [.x 5, .ni]), (.bin .eql (.x 5) (.s 2 11822), .b true), (.rl (.x 2000001) 1, .x 6), (.bin .eql (.x 6) (I6 0), .b false), (.bin .sub (.x 6) (I6 1), .x 7), (.rt (.x 2000001) (.x 7) 1, .x 2000002), (.bin .add (.s 1 47) (.x 8), .x 9), (.rl (.x 2000002) 1, .x 10), (.bin .gtr (.x 10) (I6 0), .b true), (.call 18 [.x 5], .b false), (.bin .add (.x 9) (.s 1 47), .x 11)]
noncomputable def cL6 : Tab := aB2 (aB2 (aB2 ({ tabk with hyp := cJ4 }) 5 fi5 [⟨7777777, 5, [], [2, 3, 4, 5], .goto 7777777, [], none⟩]) 37 fi37 [lf13]) 19 fi19 [lf18]
theorem runCln_13 (e : Nat) : okA (call cL6 9000 5 [.x 0] ⟨H0 e , 4, 0, 0⟩) (.tu [.x 11, .ni]) = true := by kernel_rfl
def bM3 (s : LB) : List Value := [St' s, St' ([] : LB), .int .i64 ((s.length : Int)), St' (List.take (Int.toNat (1)) s), St' (tT s), St' (gS (tT s)), .int .i64 (((kT s).length : Int)), .int .i64 (((kT s).length : Int) - 1), St' (aD6 ((kT s).take (Int.toNat (((kT s).length : Int) - 1)))), St' ([u8 47] ++ (aD6 ((kT s).take (Int.toNat (((kT s).length : Int) - 1))))), .int .i64 (((kT s).length : Int) - 1), St' ([u8 47] ++ ((aD6 ((kT s).take (Int.toNat (((kT s).length : Int) - 1)))) ++ [u8 47]))]
def dO4 (s : LB) : List Value := [rwS ([] : List LB), rwS (kT s), rwS ((kT s).take (Int.toNat (((kT s).length : Int) - 1)))]
theorem dP8 (s : LB) : ∀ j, (nuL (bM3 s) j).oneCell' = true := aA2 (l := bM3 s) rfl
theorem pathCln_13 (s : LB) (b0 : s.length ≤ 9223372036854775807) (p0 : s.length ≤ 1000000) (h0 : 1 ≤ (s.length : Int)) (h1 : (List.take (Int.toNat (1)) s) = [u8 47]) (h2 : ¬ ((cX s) = none)) (h3 : (cB s) = true) (h4 : ¬ (dcS (tT s) = none)) (h5 : (gS (tT s)) = [u8 46, u8 46]) (h6 : ¬ (((kT s).length : Int) = 0)) (h7 : 0 < ((kT s).length : Int) - 1) (w : World) (hl : aA3 w) : CwR 5 #[St' s] w (.tuple #[St' ([u8 47] ++ ((aD6 ((kT s).take (Int.toNat (((kT s).length : Int) - 1)))) ++ [u8 47])), .nilIface]) := by
  have := aJ9 (l := s) (Q := 1) (by omega) (by omega)
  have hct := bL5 s
  have := aD2 (tT s)
  obtain ⟨hdd1, hdd2⟩ := dd_f (t := (gS (tT s))) (by assumption)
  have := jn1 ((kT s).take (Int.toNat (((kT s).length : Int) - 1)))
  have := aZ3 ((kT s).take (Int.toNat (((kT s).length : Int) - 1)))
  have := fl_tk (kT s) (Int.toNat (((kT s).length : Int) - 1))
  have ho : ∀ k r, (k, r) ∈ cJ4 → HOk (cx (nuX (bM3 s) (rX (dO4 s) (fun _ => .bool true))) (aA4 (dP8 s)) 1 aA3 aA0) k r := by
    unfold cJ4
    exact hc (lnV rfl rfl (by omega)) <|hc (gecT rfl (by omega)) <|hc (tkC rfl rfl (by omega)) <|hc (kEqS (isX rfl) (isSx (l := [u8 47]) 1 47 rfl) (decide_eq_true (by assumption))) <|hc (aJ0 (s := (tT s)) (isX rfl) (by rw [if_neg (by assumption)]; exact aE6 (denX rfl) aQ0) (by omega) (by omega)) <|hc (kEqS (isX rfl) (isSx (l := [u8 46, u8 46]) 2 11822 rfl) (decide_eq_true (by assumption))) <|hc (kRl (isX rfl) (denX rfl) (by first | omega | (simp <;> omega))) <|hc (eqcF rfl (by omega)) <|hc (sbC rfl rfl (by omega)) <|hc (kRtS (j := (Int.toNat (((kT s).length : Int) - 1))) (isX rfl) (isX rfl) (denX rfl) (by omega) (by omega)) <|hc (kCat (isSx (l := [u8 47]) 1 47 rfl) (isX rfl) (denX rfl) (by first | rfl | (simp; done)) (by first | omega | (simp only [List.length_append, List.length_cons, List.length_nil]; omega))) <|hc (kRl (isX rfl) (denX rfl) (by first | omega | (simp <;> omega))) <|hc (gtcT rfl (by omega)) <|hc (aZ2 (s := (gS (tT s))) (isX rfl) (eL5 (by assumption)) (by omega)) <|hc (kCat (isX rfl) (isSx (l := [u8 47]) 1 47 rfl) (denX rfl) (by first | rfl | (simp; done)) (by first | omega | (simp only [List.length_append, List.length_cons, List.length_nil]; omega))) <|hnil
  refine runC (tb := cL6) (ra := .tu [.x 11, .ni]) rfl (aB3.lp2 (aB3.lp1 (aB3.lp1 ((aB0 (nuX (bM3 s) (rX (dO4 s) (fun _ => .bool true))) (aA4 (dP8 s))).hyps ho) (by omega) aO1 aF7 (aB1 (.inr ⟨rfl, mkA5, mkB5, _, Tryd.func5, mkC5⟩) aC1)) (by omega) (aA8 (by omega) (by omega) aH3) aE0 (aB1 (aB9 rfl ⟨1, bL2, aR1 (l := lf13) (h := lh13) (cX s) (cM s) (kT s) (tT s) (cB s) (aL6 (by assumption)) (by assumption) (0, s, ([] : List LB)) (aU1 ⟨rfl, rfl, rfl, by omega, by simp only [List.length_nil]; omega, fun _ => rfl, by omega⟩) rfl (by kernel_rfl) (th0 := [(0, .x 0)]) (sg0 := []) (fun X => thXv (v := St' s) rfl rfl (aA6)) (by kernel_rfl) (thx := [(4, .x 0), (2000001, .x 2000000)]) (thXv (v := St' (tT s)) rfl rfl (thXv (v := rwS (kT s)) rfl rfl (aA6))) (by kernel_rfl)⟩) aC1)) (by omega) (aA8 (by omega) (by omega) (aA8 (by omega) (by omega) bI2)) aN1 (aB1 (.inr ⟨⟨rfl, rfl⟩, dW2, cfJ (l := lf18) (h := lh18) (K := ((kT s).take (Int.toNat (((kT s).length : Int) - 1)))) rfl rfl rfl rfl rfl rfl rfl rfl (by first | omega | (simp <;> omega)) (by first | omega | (simp <;> omega))⟩) aC1)) rfl (aA8 (by omega) (by omega) (aA8 (by omega) (by omega) (aC7 (by omega)))) fiB5 (fun e => runCln_13 e ) (args := [St' s]) (by simp only [RelL, Rel]; exact ⟨_, _, rfl, rfl, rfl⟩) w hl fun x hx => ?_
  simp only [Rel, RelL] at hx
  obtain ⟨_, rfl, ⟨_, _, rfl, rfl, ⟨_, _, rfl, rfl, rfl⟩⟩⟩ := hx
  rfl
theorem callsCln (s : LB) (b0 : s.length ≤ 9223372036854775807) (p0 : s.length ≤ 1000000) (w : World) (hl : aA3 w) : CwR 5 #[St' s] w (if aB4 unS s = none then .tuple #[St' [], .iface 51 (.agg #[.int .i64 10, St' (clnM s)])] else .tuple #[St' ((aB4 unS s).getD []), .nilIface]) := by
  by_cases h0 : 1 ≤ (s.length : Int)
  · by_cases h1 : (List.take (Int.toNat (1)) s) = [u8 47]
    · by_cases h2 : (cX s) = none
      · rw [show (if aB4 unS s = none then .tuple #[St' [], .iface 51 (.agg #[.int .i64 10, St' (clnM s)])] else .tuple #[St' ((aB4 unS s).getD []), .nilIface] : Value) = (.tuple #[St' ([] : LB), .iface 51 (.agg #[.int .i64 10, St' (cM s)])] : Value) from by rw [if_pos (cn_cl (by assumption) (by assumption)).1, (cn_cl (by assumption) (by assumption)).2]]
        exact pathCln_2 s b0 p0 h0 h1 h2 w hl
      · by_cases h3 : (cB s) = true
        · by_cases h4 : dcS (tT s) = none
          · rw [show (if aB4 unS s = none then .tuple #[St' [], .iface 51 (.agg #[.int .i64 10, St' (clnM s)])] else .tuple #[St' ((aB4 unS s).getD []), .nilIface] : Value) = (.tuple #[St' ([] : LB), .iface 51 (.agg #[.int .i64 10, St' (dcM (tT s))])] : Value) from by have hs := aM5 (f := (tT s)) (o := (kT s)) (by assumption); rw [if_pos (cS8 (by assumption) (by assumption) hs.1).1, (cS8 (by assumption) (by assumption) hs.1).2, hs.2]]
            exact pathCln_10 s b0 p0 h0 h1 h2 h3 h4 w hl
          · by_cases h5 : (gS (tT s)) = [u8 46, u8 46]
            · by_cases h6 : ((kT s).length : Int) = 0
              · rw [show (if aB4 unS s = none then .tuple #[St' [], .iface 51 (.agg #[.int .i64 10, St' (clnM s)])] else .tuple #[St' ((aB4 unS s).getD []), .nilIface] : Value) = (.tuple #[St' ([] : LB), .iface 51 (.agg #[.int .i64 10, St' [u8 97, u8 32, u8 112, u8 97, u8 116, u8 104, u8 32, u8 116, u8 104, u8 97, u8 116, u8 32, u8 108, u8 101, u8 97, u8 100, u8 115, u8 32, u8 111, u8 117, u8 116]])] : Value) from by have hs := aN8 (f := (tT s)) (o := (kT s)) (by assumption) (by assumption) (List.eq_nil_of_length_eq_zero (by omega)); rw [if_pos (cS8 (by assumption) (by assumption) hs.1).1, (cS8 (by assumption) (by assumption) hs.1).2, hs.2]; rfl]
                exact pathCln_12 s b0 p0 h0 h1 h2 h3 h4 h5 h6 w hl
              · by_cases h7 : 0 < ((kT s).length : Int) - 1
                · rw [show (if aB4 unS s = none then .tuple #[St' [], .iface 51 (.agg #[.int .i64 10, St' (clnM s)])] else .tuple #[St' ((aB4 unS s).getD []), .nilIface] : Value) = (.tuple #[St' ([u8 47] ++ ((aD6 ((kT s).take (Int.toNat (((kT s).length : Int) - 1)))) ++ [u8 47])), .nilIface] : Value) from by have hs := (st_pop (f := (tT s)) (o := (kT s)) (by assumption) (by assumption) (by omega)).1; have hc := dI8 (by assumption) (by assumption) hs; rw [if_neg (by rw [hc]; simp), hc, Option.getD_some, ou_1 (by first | omega | (simp only [List.length_take, List.length_append, List.length_cons, List.length_nil]; omega)) (dd_y (by assumption))]]
                  exact pathCln_13 s b0 p0 h0 h1 h2 h3 h4 h5 h6 h7 w hl
                · rw [show (if aB4 unS s = none then .tuple #[St' [], .iface 51 (.agg #[.int .i64 10, St' (clnM s)])] else .tuple #[St' ((aB4 unS s).getD []), .nilIface] : Value) = (.tuple #[St' ([u8 47] ++ (aD6 ((kT s).take (Int.toNat (((kT s).length : Int) - 1))))), .nilIface] : Value) from by have hs := (st_pop (f := (tT s)) (o := (kT s)) (by assumption) (by assumption) (by omega)).1; have hc := dI8 (by assumption) (by assumption) hs; rw [if_neg (by rw [hc]; simp), hc, Option.getD_some, ou_z (by first | omega | (simp only [List.length_take, List.length_append, List.length_cons, List.length_nil]; omega))]]
                  exact pathCln_8 s b0 p0 h0 h1 h2 h3 h4 h5 h6 h7 w hl
            · by_cases h6 : psB (gS (tT s)) = true
              · by_cases h7 : 0 < ((kT s).length : Int)
                · rw [show (if aB4 unS s = none then .tuple #[St' [], .iface 51 (.agg #[.int .i64 10, St' (clnM s)])] else .tuple #[St' ((aB4 unS s).getD []), .nilIface] : Value) = (.tuple #[St' ([u8 47] ++ ((aD6 (kT s)) ++ [u8 47])), .nilIface] : Value) from by have hs := (aM4 (f := (tT s)) (o := (kT s)) (by assumption) (by assumption)).1; have hc := dI8 (by assumption) (by assumption) hs; rw [if_neg (by rw [hc]; simp), hc, Option.getD_some, ou_1 (by first | omega | (simp only [List.length_take, List.length_append, List.length_cons, List.length_nil]; omega)) ((aM4 (f := (tT s)) (o := (kT s)) (by assumption) (by assumption)).2.2)]]
                  exact pathCln_7 s b0 p0 h0 h1 h2 h3 h4 h5 h6 h7 w hl
                · rw [show (if aB4 unS s = none then .tuple #[St' [], .iface 51 (.agg #[.int .i64 10, St' (clnM s)])] else .tuple #[St' ((aB4 unS s).getD []), .nilIface] : Value) = (.tuple #[St' ([u8 47] ++ (aD6 (kT s))), .nilIface] : Value) from by have hs := (aM4 (f := (tT s)) (o := (kT s)) (by assumption) (by assumption)).1; have hc := dI8 (by assumption) (by assumption) hs; rw [if_neg (by rw [hc]; simp), hc, Option.getD_some, ou_z (by first | omega | (simp only [List.length_take, List.length_append, List.length_cons, List.length_nil]; omega))]]
                  exact pathCln_11 s b0 p0 h0 h1 h2 h3 h4 h5 h6 h7 w hl
              · rw [show (if aB4 unS s = none then .tuple #[St' [], .iface 51 (.agg #[.int .i64 10, St' (clnM s)])] else .tuple #[St' ((aB4 unS s).getD []), .nilIface] : Value) = (.tuple #[St' ([u8 47] ++ (aD6 ((kT s) ++ [(gS (tT s))]))), .nilIface] : Value) from by have hs := (aT3 (f := (tT s)) (o := (kT s)) (by assumption) (by assumption) (by assumption)).1; have hc := dI8 (by assumption) (by assumption) hs; rw [if_neg (by rw [hc]; simp), hc, Option.getD_some, ou_0 ((aT3 (f := (tT s)) (o := (kT s)) (by assumption) (by assumption) (by assumption)).2.2)]]
                exact pathCln_9 s b0 p0 h0 h1 h2 h3 h4 h5 h6 w hl
        · by_cases h4 : dcS (tT s) = none
          · rw [show (if aB4 unS s = none then .tuple #[St' [], .iface 51 (.agg #[.int .i64 10, St' (clnM s)])] else .tuple #[St' ((aB4 unS s).getD []), .nilIface] : Value) = (.tuple #[St' ([] : LB), .iface 51 (.agg #[.int .i64 10, St' (dcM (tT s))])] : Value) from by have hs := aM5 (f := (tT s)) (o := (kT s)) (by assumption); rw [if_pos (cS8 (by assumption) (by assumption) hs.1).1, (cS8 (by assumption) (by assumption) hs.1).2, hs.2]]
            exact pathCln_6 s b0 p0 h0 h1 h2 h3 h4 w hl
          · by_cases h5 : (gS (tT s)) = [u8 46, u8 46]
            · rw [show (if aB4 unS s = none then .tuple #[St' [], .iface 51 (.agg #[.int .i64 10, St' (clnM s)])] else .tuple #[St' ((aB4 unS s).getD []), .nilIface] : Value) = (.tuple #[St' ([] : LB), .iface 51 (.agg #[.int .i64 10, St' [u8 97, u8 32, u8 112, u8 97, u8 116, u8 104, u8 32, u8 116, u8 104, u8 97, u8 116, u8 32, u8 108, u8 101, u8 97, u8 100, u8 115, u8 32, u8 111, u8 117, u8 116]])] : Value) from by have hTo := bK4 (s := s) (by assumption) (by simpa using (by assumption : ¬ (cB s) = true)); have hs := aN8 (f := (tT s)) (o := (kT s)) (by assumption) (by assumption) (hTo); rw [if_pos (cS8 (by assumption) (by assumption) hs.1).1, (cS8 (by assumption) (by assumption) hs.1).2, hs.2]; rfl]
              exact pathCln_4 s b0 p0 h0 h1 h2 h3 h4 h5 w hl
            · by_cases h6 : psB (gS (tT s)) = true
              · rw [show (if aB4 unS s = none then .tuple #[St' [], .iface 51 (.agg #[.int .i64 10, St' (clnM s)])] else .tuple #[St' ((aB4 unS s).getD []), .nilIface] : Value) = (.tuple #[St' [u8 47], .nilIface] : Value) from by have hTo := bK4 (s := s) (by assumption) (by simpa using (by assumption : ¬ (cB s) = true)); have hs := (aM4 (f := (tT s)) (o := (kT s)) (by assumption) (by assumption)).1; have hc := dI8 (by assumption) (by assumption) hs; rw [if_neg (by rw [hc]; simp), hc, Option.getD_some, hTo, ou_n]]
                exact pathCln_3 s b0 p0 h0 h1 h2 h3 h4 h5 h6 w hl
              · rw [show (if aB4 unS s = none then .tuple #[St' [], .iface 51 (.agg #[.int .i64 10, St' (clnM s)])] else .tuple #[St' ((aB4 unS s).getD []), .nilIface] : Value) = (.tuple #[St' ([u8 47] ++ (aD6 (([] : List LB) ++ [(gS (tT s))]))), .nilIface] : Value) from by have hTo := bK4 (s := s) (by assumption) (by simpa using (by assumption : ¬ (cB s) = true)); have hs := (aT3 (f := (tT s)) (o := (kT s)) (by assumption) (by assumption) (by assumption)).1; have hc := dI8 (by assumption) (by assumption) hs; rw [if_neg (by rw [hc]; simp), hc, Option.getD_some, hTo, ou_0 ((aT3 (f := (tT s)) (o := (kT s)) (by assumption) (by assumption) (by assumption)).2.2)]]
                exact pathCln_5 s b0 p0 h0 h1 h2 h3 h4 h5 h6 w hl
    · rw [show (if aB4 unS s = none then .tuple #[St' [], .iface 51 (.agg #[.int .i64 10, St' (clnM s)])] else .tuple #[St' ((aB4 unS s).getD []), .nilIface] : Value) = (.tuple #[St' ([] : LB), .iface 51 (.agg #[.int .i64 10, St' [u8 97, u8 32, u8 112, u8 97, u8 116, u8 104, u8 32, u8 116, u8 104, u8 97, u8 116, u8 32, u8 100, u8 111, u8 101, u8 115, u8 110, u8 39, u8 116, u8 32, u8 98, u8 101, u8 103, u8 105, u8 110, u8 32, u8 119, u8 105, u8 116, u8 104, u8 32, u8 97, u8 32, u8 115, u8 108, u8 97, u8 115, u8 104]])] : Value) from by rw [if_pos (cn_hd (s := s) (by first | exact .inl (by omega) | exact .inr (by assumption))).1, (cn_hd (s := s) (by first | exact .inl (by omega) | exact .inr (by assumption))).2]; rfl]
      exact pathCln_1 s b0 p0 h0 h1 w hl
  · rw [show (if aB4 unS s = none then .tuple #[St' [], .iface 51 (.agg #[.int .i64 10, St' (clnM s)])] else .tuple #[St' ((aB4 unS s).getD []), .nilIface] : Value) = (.tuple #[St' ([] : LB), .iface 51 (.agg #[.int .i64 10, St' [u8 97, u8 32, u8 112, u8 97, u8 116, u8 104, u8 32, u8 116, u8 104, u8 97, u8 116, u8 32, u8 100, u8 111, u8 101, u8 115, u8 110, u8 39, u8 116, u8 32, u8 98, u8 101, u8 103, u8 105, u8 110, u8 32, u8 119, u8 105, u8 116, u8 104, u8 32, u8 97, u8 32, u8 115, u8 108, u8 97, u8 115, u8 104]])] : Value) from by rw [if_pos (cn_hd (s := s) (by first | exact .inl (by omega) | exact .inr (by assumption))).1, (cn_hd (s := s) (by first | exact .inl (by omega) | exact .inr (by assumption))).2]; rfl]
    exact pathCln_0 s b0 p0 h0 w hl
theorem dT0 {x0 r : AV} {s : LB} (i0 : Is (cx nu one 1 aA3 aA0) x0 (St' s)) (hr : Den (cx nu one 1 aA3 aA0) r (if aB4 unS s = none then .tuple #[St' [], .iface 51 (.agg #[.int .i64 10, St' (clnM s)])] else .tuple #[St' ((aB4 unS s).getD []), .nilIface])) (b0 : s.length ≤ 9223372036854775807) (p0 : s.length ≤ 1000000) : HOk (cx nu one 1 aA3 aA0) (.call 5 [x0]) r := by
  intro ρ args ha w hl _
  simp only [RelL] at ha
  obtain ⟨v0, t0, rfl, a0, rfl⟩ := ha
  have e0 := i0 ρ _ a0; subst e0
  exact (callsCln s b0 p0 w hl).mono fun e w' he => ⟨_, he.1, hr ρ, he.2⟩
end Go.Proofs.YtbipkiiaajklhaaDoor.pathTells
