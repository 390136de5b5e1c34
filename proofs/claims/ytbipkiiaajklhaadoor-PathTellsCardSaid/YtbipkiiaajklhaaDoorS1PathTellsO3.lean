/- A part of the proof: an interpreter of the model's own code on partly known states, and that what it answers is what the program answers. No condition of its own. -/
import Derived.Test.YtbipkiiaajklhaaDoorS1PathTellsO2
set_option maxRecDepth 100000
set_option linter.unusedVariables false
set_option linter.unusedSimpArgs false
set_option maxHeartbeats 4000000
namespace Go.Proofs.YtbipkiiaajklhaaDoor.pathTells
open Go Go.AX Go.Proofs Go.Proofs.YtbipkiiaajklhaaDoor
variable {nu : Nat → Value} {one : ∀ i, i < 1000000 → (nu i).oneCell' = true} {E' : Cx} {x' : Ex} {e' : LA} {h' : LE}
theorem one_e {r : LB} (he : [u8 47] = r) : idxB r 47 = 0 := by subst he; rfl
theorem ps_1 {s : LB} (h : s = [u8 46]) : psB s = true := by rw [h]; rfl
theorem ps_0 {s : LB} (h : (s.length : Int) = 0) : psB s = true := by rw [List.eq_nil_of_length_eq_zero (by omega : s.length = 0)]; rfl
theorem ps_n {s : LB} (h : ¬ (s.length : Int) = 0) (h1 : ¬ s = [u8 46]) : psB s = false := by
  unfold psB; rw [show (s == []) = false from beq_eq_false_iff_ne.2 (fun e => h (by rw [e]; rfl)), show (s == [46]) = false from beq_eq_false_iff_ne.2 h1]; rfl
theorem exFIx : Tryd.prog.funcs[58]? = some Tryd.f58 := Tryd.func58
theorem exAIx : (Extern.findNext Tryd.f58).isNone = true := by kernel_rfl
theorem exBIx : Extern.find Tryd.f58 = some Extern.BytealgIndexByte.indexByte := by kernel_rfl
theorem dT6 : tabk.fn.get 39 = some (fI Tryd.f39 0) ∧ (fI Tryd.f39 0).body.isSome = true := ⟨rfl, by kernel_rfl⟩
def cJ2 : LK := [(.bin .eql (.s 1 47) (.x 0), .b true)]
theorem runIxs_0 (e : Nat) : okA (call (tbl cJ2) 9000 39 [.x 0, .s 1 47] ⟨H0 e , 4, 0, 0⟩) (I6 0) = true := by kernel_rfl
def cE4 (s : LB) : List Value := [St' s]
theorem pathIxs_0 (s : LB) (b0 : s.length ≤ 9223372036854775807) (h0 : [u8 47] = s) (w : World) (hl : aA3 w) : CwR 39 #[St' s, St' [u8 47]] w (.int .i64 0) := by
  have hr1 := congrArg List.length (‹[u8 47] = s›); simp only [List.length_cons, List.length_nil] at hr1
  have ho : ∀ k r, (k, r) ∈ cJ2 → HOk (cx (nuL (cE4 s)) (fun j _ => aA2 (l := cE4 s) rfl j) 1 aA3 aA0) k r := by
    unfold cJ2
    exact hc (kEqS (isSx (l := [u8 47]) 1 47 rfl) (isX rfl) (decide_eq_true (by assumption))) <|hnil
  refine runC (tb := (tbl cJ2)) (ra := I6 0) rfl ((aB0 (nuL (cE4 s)) (fun j _ => aA2 (l := cE4 s) rfl j)).hyps ho) rfl dT6.1 dT6.2 (fun e => runIxs_0 e ) (args := [St' s, St' [u8 47]]) (by simp only [RelL, Rel]; exact ⟨_, _, rfl, rfl, ⟨_, _, rfl, ⟨rfl, by decide⟩, rfl⟩⟩) w hl fun x hx => ?_
  simp only [Rel, RelL] at hx
  exact hx
def cJ1 : LK := [(.bin .eql (.s 1 47) (.x 0), .b false), (.ext 58 [.x 0, .i .u8 (.ofNat 47)], .x 1)]
theorem runIxs_1 (e : Nat) : okA (call (tbl cJ1) 9000 39 [.x 0, .s 1 47] ⟨H0 e , 4, 0, 0⟩) (.x 1) = true := by kernel_rfl
def cE3 (s : LB) : List Value := [St' s, .int .i64 (idxB s 47)]
theorem pathIxs_1 (s : LB) (b0 : s.length ≤ 9223372036854775807) (h0 : ¬ ([u8 47] = s)) (w : World) (hl : aA3 w) : CwR 39 #[St' s, St' [u8 47]] w (.int .i64 (idxB s 47)) := by
  have := aP7 s 47
  have ho : ∀ k r, (k, r) ∈ cJ1 → HOk (cx (nuL (cE3 s)) (fun j _ => aA2 (l := cE3 s) rfl j) 1 aA3 aA0) k r := by
    unfold cJ1
    exact hc (kEqS (isSx (l := [u8 47]) 1 47 rfl) (isX rfl) (decide_eq_false (by assumption))) <|hc (kExtI (n := idxB s 47) exFIx exAIx exBIx (isX rfl) (isZ (m := 47) rfl) (denX rfl) rfl) <|hnil
  refine runC (tb := (tbl cJ1)) (ra := .x 1) rfl ((aB0 (nuL (cE3 s)) (fun j _ => aA2 (l := cE3 s) rfl j)).hyps ho) rfl dT6.1 dT6.2 (fun e => runIxs_1 e ) (args := [St' s, St' [u8 47]]) (by simp only [RelL, Rel]; exact ⟨_, _, rfl, rfl, ⟨_, _, rfl, ⟨rfl, by decide⟩, rfl⟩⟩) w hl fun x hx => ?_
  simp only [Rel, RelL] at hx
  exact hx
theorem callsIxs (s : LB) (b0 : s.length ≤ 9223372036854775807) (w : World) (hl : aA3 w) : CwR 39 #[St' s, St' [u8 47]] w (.int .i64 (idxB s 47)) := by
  by_cases h0 : [u8 47] = s
  · rw [show (.int .i64 (idxB s 47) : Value) = (.int .i64 0 : Value) from by first | (rw [one_e (by assumption)]; done) | rfl]
    exact pathIxs_0 s b0 h0 w hl
  · rw [show (.int .i64 (idxB s 47) : Value) = (.int .i64 (idxB s 47) : Value) from by first | (rw [one_e (by assumption)]; done) | rfl]
    exact pathIxs_1 s b0 h0 w hl
theorem aK8 {x0 x1 r : AV} {s : LB} (i0 : Is (cx nu one 1 aA3 aA0) x0 (St' s)) (i1 : Is (cx nu one 1 aA3 aA0) x1 (St' [u8 47])) (hr : Den (cx nu one 1 aA3 aA0) r (.int .i64 (idxB s 47))) (b0 : s.length ≤ 9223372036854775807) : HOk (cx nu one 1 aA3 aA0) (.call 39 [x0, x1]) r := by
  intro ρ args ha w hl _
  simp only [RelL] at ha
  obtain ⟨v0, t0, rfl, a0, v1, t1, rfl, a1, rfl⟩ := ha
  have e0 := i0 ρ _ a0; subst e0
  have e1 := i1 ρ _ a1; subst e1
  exact (callsIxs s b0 w hl).mono fun e w' he => ⟨_, he.1, hr ρ, he.2⟩
theorem bZ4 : tabk.fn.get 18 = some (fI Tryd.f18 0) ∧ (fI Tryd.f18 0).body.isSome = true := ⟨rfl, by kernel_rfl⟩
def cJ0 : LK := [(.bin .eql (.x 0) (.s 0 0), .b true)]
theorem runPas_0 (e : Nat) : okA (call (tbl cJ0) 9000 18 [.x 0] ⟨H0 e , 4, 0, 0⟩) (.b true) = true := by kernel_rfl
def cE2 (s : LB) : List Value := [St' s]
theorem pathPas_0 (s : LB) (b0 : s.length ≤ 9223372036854775807) (h0 : (s.length : Int) = 0) (w : World) (hl : aA3 w) : CwR 18 #[St' s] w (.bool true) := by
  have ho : ∀ k r, (k, r) ∈ cJ0 → HOk (cx (nuL (cE2 s)) (fun j _ => aA2 (l := cE2 s) rfl j) 1 aA3 aA0) k r := by
    unfold cJ0
    exact hc (kEqS (isX rfl) (isSx (l := ([] : LB)) 0 0 rfl) (nilT (by omega))) <|hnil
  refine runC (tb := (tbl cJ0)) (ra := .b true) rfl ((aB0 (nuL (cE2 s)) (fun j _ => aA2 (l := cE2 s) rfl j)).hyps ho) rfl bZ4.1 bZ4.2 (fun e => runPas_0 e ) (args := [St' s]) (by simp only [RelL, Rel]; exact ⟨_, _, rfl, rfl, rfl⟩) w hl fun x hx => ?_
  simp only [Rel, RelL] at hx
  exact hx
def cI9 : LK := [(.bin .eql (.x 0) (.s 0 0), .b false), (.bin .eql (.x 0) (.s 1 46), .b true)]
theorem runPas_1 (e : Nat) : okA (call (tbl cI9) 9000 18 [.x 0] ⟨H0 e , 4, 0, 0⟩) (.b true) = true := by kernel_rfl
def cE1 (s : LB) : List Value := [St' s]
theorem pathPas_1 (s : LB) (b0 : s.length ≤ 9223372036854775807) (h0 : ¬ ((s.length : Int) = 0)) (h1 : s = [u8 46]) (w : World) (hl : aA3 w) : CwR 18 #[St' s] w (.bool true) := by
  have ho : ∀ k r, (k, r) ∈ cI9 → HOk (cx (nuL (cE1 s)) (fun j _ => aA2 (l := cE1 s) rfl j) 1 aA3 aA0) k r := by
    unfold cI9
    exact hc (kEqS (isX rfl) (isSx (l := ([] : LB)) 0 0 rfl) (nilF (by omega))) <|hc (kEqS (isX rfl) (isSx (l := [u8 46]) 1 46 rfl) (decide_eq_true (by assumption))) <|hnil
  refine runC (tb := (tbl cI9)) (ra := .b true) rfl ((aB0 (nuL (cE1 s)) (fun j _ => aA2 (l := cE1 s) rfl j)).hyps ho) rfl bZ4.1 bZ4.2 (fun e => runPas_1 e ) (args := [St' s]) (by simp only [RelL, Rel]; exact ⟨_, _, rfl, rfl, rfl⟩) w hl fun x hx => ?_
  simp only [Rel, RelL] at hx
  exact hx
def cI8 : LK := [(.bin .eql (.x 0) (.s 0 0), .b false), (.bin .eql (.x 0) (.s 1 46), .b false)]
theorem runPas_2 (e : Nat) : okA (call (tbl cI8) 9000 18 [.x 0] ⟨H0 e , 4, 0, 0⟩) (.b false) = true := by kernel_rfl
def cE0 (s : LB) : List Value := [St' s]
theorem pathPas_2 (s : LB) (b0 : s.length ≤ 9223372036854775807) (h0 : ¬ ((s.length : Int) = 0)) (h1 : ¬ (s = [u8 46])) (w : World) (hl : aA3 w) : CwR 18 #[St' s] w (.bool false) := by
  have ho : ∀ k r, (k, r) ∈ cI8 → HOk (cx (nuL (cE0 s)) (fun j _ => aA2 (l := cE0 s) rfl j) 1 aA3 aA0) k r := by
    unfold cI8
    exact hc (kEqS (isX rfl) (isSx (l := ([] : LB)) 0 0 rfl) (nilF (by omega))) <|hc (kEqS (isX rfl) (isSx (l := [u8 46]) 1 46 rfl) (decide_eq_false (by assumption))) <|hnil
  refine runC (tb := (tbl cI8)) (ra := .b false) rfl ((aB0 (nuL (cE0 s)) (fun j _ => aA2 (l := cE0 s) rfl j)).hyps ho) rfl bZ4.1 bZ4.2 (fun e => runPas_2 e ) (args := [St' s]) (by simp only [RelL, Rel]; exact ⟨_, _, rfl, rfl, rfl⟩) w hl fun x hx => ?_
  simp only [Rel, RelL] at hx
  exact hx
theorem callsPas (s : LB) (b0 : s.length ≤ 9223372036854775807) (w : World) (hl : aA3 w) : CwR 18 #[St' s] w (.bool (psB s)) := by
  by_cases h0 : (s.length : Int) = 0
  · rw [show (.bool (psB s) : Value) = (.bool true : Value) from by first | exact congrArg Value.bool (ps_1 (by assumption)) | exact congrArg Value.bool (ps_0 (by omega)) | exact congrArg Value.bool (ps_n (by omega) (by assumption))]
    exact pathPas_0 s b0 h0 w hl
  · by_cases h1 : s = [u8 46]
    · rw [show (.bool (psB s) : Value) = (.bool true : Value) from by first | exact congrArg Value.bool (ps_1 (by assumption)) | exact congrArg Value.bool (ps_0 (by omega)) | exact congrArg Value.bool (ps_n (by omega) (by assumption))]
      exact pathPas_1 s b0 h0 h1 w hl
    · rw [show (.bool (psB s) : Value) = (.bool false : Value) from by first | exact congrArg Value.bool (ps_1 (by assumption)) | exact congrArg Value.bool (ps_0 (by omega)) | exact congrArg Value.bool (ps_n (by omega) (by assumption))]
      exact pathPas_2 s b0 h0 h1 w hl
theorem aZ2 {x0 r : AV} {s : LB} (i0 : Is (cx nu one 1 aA3 aA0) x0 (St' s)) (hr : Den (cx nu one 1 aA3 aA0) r (.bool (psB s))) (b0 : s.length ≤ 9223372036854775807) : HOk (cx nu one 1 aA3 aA0) (.call 18 [x0]) r := by
  intro ρ args ha w hl _
  simp only [RelL] at ha
  obtain ⟨v0, t0, rfl, a0, rfl⟩ := ha
  have e0 := i0 ρ _ a0; subst e0
  exact (callsPas s b0 w hl).mono fun e w' he => ⟨_, he.1, hr ρ, he.2⟩
def stM (r : LB) (k : LL) : LB := if dcS r = none then dcM r else mOut
section
variable {f : LB} {o : LL}
theorem dc_ne (h : ¬ dcS f = none) : decG unS f = some (gS f) := by
  cases e : decG unS f with
  | none => exact absurd e h
  | some t => show _ = some ((decG unS f).getD []); rw [e]; rfl
theorem aM5 (h : dcS f = none) : stpG unS f o = none ∧ stM f o = dcM f := ⟨by unfold stpG; rw [show decG unS f = none from h], if_pos h⟩
theorem aN8 (h : ¬ dcS f = none) (h1 : gS f = [u8 46, u8 46]) (h2 : o = []) : stpG unS f o = none ∧ stM f o = mOut := by
  subst h2
  refine ⟨?_, if_neg h⟩
  unfold stpG; rw [dc_ne h, h1]; rfl
theorem st_pop (h : ¬ dcS f = none) (h1 : gS f = [u8 46, u8 46]) (h2 : ¬ (o.length : Int) = 0) : stpG unS f o = some (o.take (Int.toNat ((o.length : Int) - 1))) ∧ kpB unS f = false := by
  have e : o.take (Int.toNat ((o.length : Int) - 1)) = o.dropLast := by rw [List.dropLast_eq_take]; congr 1; omega
  have hne : o ≠ [] := fun e => h2 (by rw [e]; rfl)
  unfold stpG kpB
  rw [dc_ne h, h1, e]
  exact ⟨by simp only [show ddB [u8 46, u8 46] = true by decide, if_true]; rw [if_neg hne], rfl⟩
theorem aM4 (h : ¬ dcS f = none) (h1 : psB (gS f) = true) : stpG unS f o = some o ∧ kpB unS f = false ∧ (psB (gS f) || ddB (gS f)) = true := by
  have hd : ddB (gS f) = false := by
    unfold psB at h1; rw [Bool.or_eq_true, beq_iff_eq, beq_iff_eq] at h1
    rcases h1 with e | e <;> rw [e] <;> rfl
  unfold stpG kpB
  rw [dc_ne h]
  simp only [show ddB ((dcS f).getD []) = false from hd, show psB ((dcS f).getD []) = true from h1]
  exact ⟨by simp, rfl, rfl⟩
theorem aT3 (h : ¬ dcS f = none) (h1 : ¬ gS f = [u8 46, u8 46]) (h2 : ¬ psB (gS f) = true) : stpG unS f o = some (o ++ [gS f]) ∧ kpB unS f = true ∧ (psB (gS f) || ddB (gS f)) = false := by
  have hd : ddB (gS f) = false := by unfold ddB; exact beq_eq_false_iff_ne.2 h1
  have hp : psB (gS f) = false := by simpa using h2
  unfold stpG kpB
  rw [dc_ne h]
  simp only [show ddB ((dcS f).getD []) = false from hd, show psB ((dcS f).getD []) = false from hp, hd, hp]
  exact ⟨by simp, rfl, rfl⟩
end
abbrev fK (r : LB) : LB := List.take (Int.toNat (idxB r 47)) r
theorem aP9 (r : LB) (h : ¬ idxB r 47 < 0) : ((fK r).length : Int) = idxB r 47 := by
  have := aP7 r 47; unfold fK; rw [List.length_take]; omega
section
variable {r : LB} {o To k' : LL} {Tr M : LB} {X : Option (LL × LB)} {A B : Bool}
theorem ex_r (h1 : X = some (o, r)) (h2 : X = some (To, Tr)) : o = To ∧ r = Tr := by
  rw [h1] at h2; injection h2 with h; injection h with h3 h4; exact ⟨h3, h4⟩
theorem tk0 (h : idxB r 47 = 0) : r.take (idxB r 47).toNat = [] := by rw [h]; rfl
theorem tkn (h : ¬ idxB r 47 = 0) (h1 : ¬ idxB r 47 < 0) : ¬ r.take (idxB r 47).toNat = [] := fun e => by
  have := congrArg List.length e; rw [List.length_take] at this; have := aP7 r 47; simp only [List.length_nil] at *; omega
end
theorem cl_ap : ∀ (rs : LL) (o : LL × LB), apL unS rs = false → clL unS rs [] = some o → o.1 = []
  | [], o, _, e => by simp only [clL, Option.some.injEq] at e; subst e; rfl
  | r :: rs, o, h, e => by
    rw [clL] at e
    rw [apL] at h
    split at e
    · simp only [Option.some.injEq] at e; subst e; rfl
    · rename_i hr
      rw [if_neg hr, Bool.or_eq_false_iff] at h
      split at e
      · cases e
      · rename_i k' hk
        have : k' = [] := by
          have h1 := h.1
          unfold stpG at hk; unfold kpB at h1
          split at hk
          · cases hk
          · rename_i p hp
            rw [hp] at h1
            split at hk
            · rw [if_pos rfl] at hk; cases hk
            · split at hk
              · injection hk with hk; exact hk.symm
              · rename_i a b
                simp only [Bool.not_eq_true] at a b
                simp only [a, b] at h1; exact absurd h1 (by decide)
        subst this
        exact cl_ap rs o h.2 e
abbrev cX (s : LB) : Option (LL × LB) := clL unS (sp47 [] s) []
abbrev cM (s : LB) : LB := clE unS stM (sp47 [] s) []
abbrev cB (s : LB) : Bool := apL unS (sp47 [] s)
def cT (s : LB) : LL × LB := (cX s).getD ([], [])
abbrev kT (s : LB) : LL := (cT s).1
abbrev tT (s : LB) : LB := (cT s).2
theorem aL6 {s : LB} (h : ¬ cX s = none) : cX s = some ((kT s), (tT s)) := by
  unfold kT tT cT
  cases e : cX s with
  | none => exact absurd e h
  | some o => rfl
theorem bK4 {s : LB} (h : ¬ cX s = none) (ha : cB s = false) : (kT s) = [] := cl_ap _ _ ha (aL6 h)
theorem cK6 {s : LB} (h : ¬ cX s = none) (ha : cB s = false) : cX s = some ([], (tT s)) := by have e := aL6 h; rw [bK4 h ha] at e; exact e
theorem un_le {r p : LB} (h : unS r = some p) : p.length ≤ r.length := (cB5 h).1
theorem aZ3 : ∀ k : LL, k.length ≤ (fl47 k).length
  | [] => Nat.le_refl _
  | a :: k => by have := aZ3 k; simp only [fl47, List.length_cons, List.length_append]; omega
theorem bL5 (s : LB) : (fl47 (kT s)).length + (tT s).length ≤ s.length ∧ (kT s).length ≤ (fl47 (kT s)).length := by
  refine ⟨?_, aZ3 _⟩
  by_cases h : cX s = none
  · unfold kT tT cT; rw [h]; simp [fl47]
  · have := dI9 (un := unS) (fun r p => un_le) _ _ _ (aZ9 _ _) (aL6 h)
    rw [bI8] at this; simp only [fl47, List.length_nil] at this; omega
theorem jn1 (k : LL) : (aD6 k).length ≤ (fl47 k).length := by
  cases k with
  | nil => exact Nat.le_refl _
  | cons a r => simp only [aD6, fl47, List.length_cons, List.length_append]; omega
theorem fl_ap (k : LL) (a : LB) : (fl47 (k ++ [a])).length = (fl47 k).length + a.length + 1 := by
  rw [aW9]; simp only [fl47, List.length_cons, List.length_append, List.length_nil]; omega
theorem fl_tk (k : LL) (n : Nat) : (fl47 (k.take n)).length ≤ (fl47 k).length := by
  have e : k = k.take n ++ k.drop n := (List.take_append_drop n k).symm
  conv => rhs; rw [e, aW9]
  rw [List.length_append]; omega
-- what is put out
def clnM (s : LB) : LB := if ¬ s.head? = some 47 then mHd else if cX s = none then cM s else stM (tT s) (kT s)
section
variable {s : LB} {k' : LL}
theorem hd_1 (h : ¬ (s.length : Int) < 1) : List.take (Int.toNat (1)) s = [u8 (bt s 0)] := by
  cases s with
  | nil => simp at h
  | cons a r => show [a] = [u8 (a.toNat : Int)]; unfold u8; simp
theorem hd_y (h : List.take (Int.toNat (1)) s = [u8 47]) : s.head? = some 47 := by
  cases s with
  | nil => simp at h
  | cons a r => have h : [a] = [u8 47] := h; injection h with h; subst h; rfl
theorem hd_n (h : (s.length : Int) < 1 ∨ ¬ List.take (Int.toNat (1)) s = [u8 47]) : ¬ s.head? = some 47 := by
  cases s with
  | nil => simp
  | cons a r =>
    rcases h with h | h
    · simp only [List.length_cons] at h; omega
    · intro e
      have e : some a = some 47 := e
      injection e with e; subst e; exact h rfl
theorem cn_hd (h : (s.length : Int) < 1 ∨ ¬ List.take (Int.toNat (1)) s = [u8 47]) : aB4 unS s = none ∧ clnM s = mHd := by
  have := hd_n h
  exact ⟨by unfold aB4; rw [if_neg this], if_pos this⟩
theorem cn_cl (hh : List.take (Int.toNat (1)) s = [u8 47]) (h : cX s = none) : aB4 unS s = none ∧ clnM s = cM s := by
  have := hd_y hh
  exact ⟨by unfold aB4; rw [if_pos this, show clL unS (sp47 [] s) [] = none from h], by unfold clnM; rw [if_neg (not_not_intro this), if_pos h]⟩
theorem cS8 (hh : List.take (Int.toNat (1)) s = [u8 47]) (h : ¬ cX s = none) (hs : stpG unS (tT s) (kT s) = none) : aB4 unS s = none ∧ clnM s = stM (tT s) (kT s) := by
  have := hd_y hh
  exact ⟨by unfold aB4; rw [if_pos this, show clL unS (sp47 [] s) [] = _ from aL6 h]; simp only [hs], by unfold clnM; rw [if_neg (not_not_intro this), if_neg h]⟩
theorem dI8 (hh : List.take (Int.toNat (1)) s = [u8 47]) (h : ¬ cX s = none) (hs : stpG unS (tT s) (kT s) = some k') : aB4 unS s = some (outS (k', gS (tT s))) := by
  unfold aB4; rw [if_pos (hd_y hh), show clL unS (sp47 [] s) [] = _ from aL6 h]; simp only [hs]
theorem ou_n {t : LB} : outS ([], t) = [u8 47] := rfl
theorem ou_0 {t : LB} (h : (psB t || ddB t) = false) : outS (k', t) = [u8 47] ++ aD6 k' := by unfold outS; rw [if_neg (by rw [h]; simp), List.append_nil]; rfl
theorem ou_1 {t : LB} (hk : ¬ (k'.length : Int) = 0) (h : (psB t || ddB t) = true) : outS (k', t) = [u8 47] ++ (aD6 k' ++ [u8 47]) := by
  unfold outS; rw [if_pos ⟨fun e => hk (by have e : k' = [] := e; rw [e]; rfl), h⟩]; rfl
theorem ou_z {t : LB} (hk : (k'.length : Int) = 0) : outS (k', t) = [u8 47] ++ aD6 k' := by
  have : k' = [] := List.eq_nil_of_length_eq_zero (by omega)
  rw [this]; rfl
theorem dd_f {t : LB} (h : t = [u8 46, u8 46]) : t.length = 2 ∧ ¬ psB t = true := by subst h; exact ⟨rfl, by decide⟩
theorem dd_y {t : LB} (h : t = [u8 46, u8 46]) : (psB t || ddB t) = true := by rw [h]; rfl
end
section
open Go.Shelf
def cM4 : Go.Shelf.Ren := ⟨fun | 156 => 19 | 165 => 29 | 166 => 30 | 169 => 31 | 240 => 42 | 241 => 43 | 276 => 50 | 277 => 51 | n => n, fun | 31 => 31 | 9 => 9 | 3 => 3 | 4 => 4 | 0 => 0 | 20 => 20 | 72 => 56 | 76 => 58 | 70 => 53 | 37 => 54 | 75 => 24 | 127 => 88 | 164 => 61 | 5 => 5 | 80 => 60 | n => n, fun | n => n⟩
theorem sh_sJ : Go.Proofs.Lays.n156 Tryd.prog cM4 := {
  mixed := by kernel_rfl
  f156 := Tryd.func19.trans (congrArg some (by kernel_rfl))
  f165 := Tryd.func29.trans (congrArg some (by kernel_rfl))
  f166 := Tryd.func30.trans (congrArg some (by kernel_rfl))
  f169 := Tryd.func31.trans (congrArg some (by kernel_rfl))
  f240 := Tryd.func42.trans (congrArg some (by kernel_rfl))
  f241 := Tryd.func43.trans (congrArg some (by kernel_rfl))
  f276 := Tryd.func50.trans (congrArg some (by kernel_rfl))
  f277 := Tryd.func51.trans (congrArg some (by kernel_rfl))
  t0 := Tryd.underlying0
  a0 := Tryd.isAgg0
  z0 := Tryd.sizeOf0
  v0 := Tryd.zeroValue0
  t3 := Tryd.underlying3
  a3 := Tryd.isAgg3
  z3 := Tryd.sizeOf3
  v3 := Tryd.zeroValue3
  t4 := Tryd.underlying4
  a4 := Tryd.isAgg4
  z4 := Tryd.sizeOf4
  v4 := Tryd.zeroValue4
  t9 := Tryd.underlying9
  a9 := Tryd.isAgg9
  z9 := Tryd.sizeOf9
  v9 := Tryd.zeroValue9
  t20 := Tryd.underlying20
  a20 := Tryd.isAgg20
  z20 := Tryd.sizeOf20
  v20 := Tryd.zeroValue20
  t31 := Tryd.underlying31
  a31 := Tryd.isAgg31
  z31 := Tryd.sizeOf31
  v31 := Tryd.zeroValue31
  t37 := Tryd.underlying54
  a37 := Tryd.isAgg54
  z37 := Tryd.sizeOf54
  v37 := Tryd.zeroValue54
  t70 := Tryd.underlying53
  a70 := Tryd.isAgg53
  z70 := Tryd.sizeOf53
  v70 := Tryd.zeroValue53
  t72 := Tryd.underlying56
  a72 := Tryd.isAgg56
  z72 := Tryd.sizeOf56
  v72 := Tryd.zeroValue56
  t75 := Tryd.underlying24
  a75 := Tryd.isAgg24
  z75 := Tryd.sizeOf24
  v75 := Tryd.zeroValue24
  t76 := Tryd.underlying58
  a76 := Tryd.isAgg58
  z76 := Tryd.sizeOf58
  v76 := Tryd.zeroValue58
  t127 := Tryd.underlying88
  a127 := Tryd.isAgg88
  z127 := Tryd.sizeOf88
  v127 := Tryd.zeroValue88
  t164 := Tryd.underlying61
  a164 := Tryd.isAgg61
  z164 := Tryd.sizeOf61
  v164 := Tryd.zeroValue61 }
theorem shX_sJ : Builder.Extra Tryd.prog cM4 := {
  sizeBuilder := by kernel_rfl
  liesBuilder := by kernel_rfl
  t5 := Tryd.underlying5
  a5 := Tryd.isAgg5
  z5 := Tryd.sizeOf5
  v5 := Tryd.zeroValue5
  infoByte := by kernel_rfl
  cellsByte := by kernel_rfl
  sizeByte := by kernel_rfl
  neB5 := by decide }
open Go.RowKit in
theorem sJ (bk o c : Nat) (xs : List ByteArray) (sep : ByteArray) (w : World) (hcells : ∀ (j : Nat) x, xs[j]? = some x → w.cell? ⟨bk, o + j, none⟩ = some (.string x)) (hbk : bk < w.heap.size) (hN : xs.length ≤ 140737488355328) (hcap : xs.length ≤ c) (hlen : (Lib.join (xs.map (·.data.toList)) sep.data.toList).length ≤ 140737488355328) :
    Calls Tryd.prog 19 #[.slice (some ⟨bk, o, none⟩) xs.length c, .string sep] w fun e w' => e = .returned (.string ⟨(Lib.join (xs.map (·.data.toList)) sep.data.toList).toArray⟩) ∧ Below w.heap.size w w' := Any.strings_Join sh_sJ shX_sJ bk o c xs sep w hcells hbk hN hcap hlen
end
theorem dl (l : LB) : (⟨l.toArray⟩ : ByteArray).data.toList = l := by simp
theorem lj_eq : ∀ K : LL, Lib.join K [47] = aD6 K
  | [] => rfl
  | [a] => by rw [Lib.join_one]; simp [aD6, fl47]
  | a :: b :: r => by
    have := lj_eq (b :: r)
    rw [Lib.join_cons] at this ⊢
    show a ++ (([47] ++ b) ++ Lib.joinTail [47] r) = a ++ fl47 (b :: r)
    show _ = a ++ (47 :: (b ++ fl47 r))
    have e : b ++ Lib.joinTail [47] r = b ++ fl47 r := this
    rw [List.append_assoc, e]; rfl
theorem cfJ {nu : Nat → Value} {one : ∀ i, i < 1000000 → (nu i).oneCell' = true} {l : LF} {h : LH} {v id e j : Nat} {K : LL} (hl : l.hp = some h) (hq : l.post = [(0, .x j)]) (hp : l.pre.map (·.2) = [.sr v, .s 1 47]) (hpre : h.pre = [(v, .r id e 1 false)]) (hpost : h.post = h.pre) (hn : h.n1 = h.n0)
    (hid : nu id = rwS K) (hj : nu j = St' (aD6 K)) (hN : K.length ≤ 140737488355328) (hlen : (aD6 K).length ≤ 140737488355328) : CfOk (cx nu one 1 aA3 aA0) 19 l := by
  have hm : (K.map (fun q : LB => (⟨q.toArray⟩ : ByteArray))).map (·.data.toList) = K := by rw [List.map_map]; exact (List.map_congr_left fun x _ => dl x).trans (List.map_id _)
  have hs : (⟨#[47]⟩ : ByteArray).data.toList = [47] := rfl
  refine cfJoin (xs := K.map (fun q : LB => (⟨q.toArray⟩ : ByteArray))) (sep := ⟨#[47]⟩) (out := ⟨(aD6 K).toArray⟩) hl hq hp hpre hpost hn (hid.trans ?_) (fun ρ y hy => ?_) (fun ρ => ?_) fun bk o c w _ hc hb hcap => ?_
  · unfold rwS; rw [List.map_map]; rfl
  · simp only [Rel] at hy; rw [hy.1]; rfl
  · show Rel _ _ (.x j) _; simp only [Rel]; exact hj.symm
  · have := sJ bk o c (K.map (fun q : LB => (⟨q.toArray⟩ : ByteArray))) ⟨#[47]⟩ w hc hb (by rw [List.length_map]; exact hN) hcap (by rw [hm, hs, lj_eq]; exact hlen)
    rw [hm, hs, lj_eq] at this; exact this
end Go.Proofs.YtbipkiiaajklhaaDoor.pathTells
