/- A part of the proof: an interpreter of the model's own code on partly known states, and that what it answers is what the program answers. No condition of its own. -/
import Derived.Test.YtlfmfmegnenohaaDoorG1CutterTellsO
set_option maxRecDepth 100000
set_option linter.unusedVariables false
set_option linter.unusedSimpArgs false
set_option maxHeartbeats 4000000
namespace Go.Proofs.YtlfmfmegnenohaaDoor.cutterTells
open Go Go.AX Go.Proofs Go.Proofs.YtlfmfmegnenohaaDoor
variable {nu : Nat → Value} {one : ∀ i, i < 1000000 → (nu i).oneCell' = true} {E' : Cx} {x' : Ex} {e' : LA} {h' : LE}
theorem cz {m k Tk : Int} {s : LB} (h : rck m s = k) (hk : ¬ k = 0) (h3 : (cutS m s).2.2 = Tk) (hn : ¬ Tk = k) : False := by
  rw [cut_end (by rw [h]; exact hk)] at h3
  exact hn (h3.symm.trans h)
def rcC (s : LB) : LB := (s.drop 8).take (Int.toNat (bt s 4 * 256 + bt s 5))
theorem rcC_mid {s : LB} {P Q : Int} (hP : P = 8) (hQ : Q = 8 + (bt s 4 * 256 + bt s 5)) : rcC s = (s.drop P.toNat).take (Q - P).toNat := by
  subst hP; subst hQ; unfold rcC; rw [show 8 + (bt s 4 * 256 + bt s 5) - 8 = bt s 4 * 256 + bt s 5 by omega]; rfl
theorem rcC_len {s : LB} (h : 8 + (bt s 4 * 256 + bt s 5) ≤ (s.length : Int)) : ((rcC s).length : Int) = bt s 4 * 256 + bt s 5 := by
  have := bt_lo s 4; have := bt_lo s 5
  unfold rcC; rw [List.length_take, List.length_drop]; omega
section
variable {m n k : Int} {s rest : LB} {o To : List RC} {Tr : LB} {Tk : Int}
theorem cu_rec (h : rck m s = 0) (hr : rest = s.drop (Int.toNat (rsz s))) (h1 : o ++ (cutS m s).1 = To) (h2 : (cutS m s).2.1 = Tr) (h3 : (cutS m s).2.2 = Tk) : (o ++ [(bt s 1, bt s 2 * 256 + bt s 3, rcC s, bt s 6)]) ++ (cutS m rest).1 = To ∧ (cutS m rest).2.1 = Tr ∧ (cutS m rest).2.2 = Tk := by
  subst hr
  rw [cut_rec h] at h1 h2 h3
  exact ⟨by rw [List.append_assoc]; exact h1, h2, h3⟩
theorem cu_end (h : rck m s = k) (hk : ¬ k = 0) (h1 : o ++ (cutS m s).1 = To) (h2 : (cutS m s).2.1 = Tr) (h3 : (cutS m s).2.2 = Tk) : o = To ∧ s = Tr ∧ k = Tk := by
  rw [cut_end (by rw [h]; exact hk)] at h1 h2 h3
  exact ⟨by rw [List.append_nil] at h1; exact h1, h2, h ▸ h3⟩
theorem rck12 (h1 : 6 ≤ (s.length : Int)) (h2 : bt s 0 = 1) (h3 : m < bt s 4 * 256 + bt s 5) : rck m s = 12 := by
  unfold rck; rw [if_pos ⟨by omega, h2, h3⟩]
theorem rck13 (h1 : 1 ≤ (s.length : Int)) (h2 : ¬ bt s 0 = 1) : rck m s = 13 := by
  unfold rck; rw [if_neg (fun e => h2 e.2.1), if_pos ⟨by omega, h2⟩]
theorem rck11 (h0 : (s.length : Int) = 0 ∨ bt s 0 = 1) (h1 : (s.length : Int) < 6 ∨ ¬ m < bt s 4 * 256 + bt s 5) (h2 : (s.length : Int) < 8 ∨ (s.length : Int) < 8 + bt s 4 * 256 + bt s 5 + bt s 6) : rck m s = 11 :=
  rck_lack (by omega) (by rcases h1 with h | h; exact .inl (by omega); exact .inr h) (by rcases h2 with h | h; exact .inl (by omega); exact .inr (by unfold rsz; exact h))
theorem rck10 (h1 : 8 ≤ (s.length : Int)) (h2 : bt s 0 = 1) (h3 : ¬ m < bt s 4 * 256 + bt s 5) (h4 : ¬ (s.length : Int) < 8 + bt s 4 * 256 + bt s 5 + bt s 6) (h5 : bt s 1 = 0) : rck m s = 10 := by
  unfold rck; rw [if_neg (fun e => h3 e.2.2), if_neg (fun e => e.2 h2), if_neg (by omega), if_neg (by unfold rsz; omega), if_pos h5]
theorem rck00 (h1 : 8 ≤ (s.length : Int)) (h2 : bt s 0 = 1) (h3 : ¬ m < bt s 4 * 256 + bt s 5) (h4 : ¬ (s.length : Int) < 8 + bt s 4 * 256 + bt s 5 + bt s 6) (h5 : ¬ bt s 1 = 0) : rck m s = 0 :=
  rck_of (by omega) h2 h3 (by unfold rsz; omega) h5
end
theorem kRa0 {C : Cx} {α : Type} {f : α → List Value} {l : List α} {x r : AV} (hx : Is C x (rwG f l)) (hr : Den C r (rwG f l)) : HOk C (.ra x []) r := by
  intro ρ vx vs g1 g2
  have e1 := hx ρ vx g1; subst e1
  simp only [RelL] at g2; subst g2
  refine ⟨l.flatMap f, rfl, ?_⟩
  have h := hr ρ
  unfold rwG at h
  rw [List.append_nil]; exact h
theorem denE0 {C : Cx} {l : LB} (h : l.length = 0) : Den C (.s 0 0) (St' l) := by
  rw [List.eq_nil_of_length_eq_zero h]; exact denS (len := 0) (n := 0) (by decide)
theorem cut_kind {m : Int} (s : LB) : (cutS m s).2.2 = 10 ∨ (cutS m s).2.2 = 11 ∨ (cutS m s).2.2 = 12 ∨ (cutS m s).2.2 = 13 := by
  obtain ⟨h0, h1⟩ := cut_stuck (m := m) s
  rw [h1]
  generalize (cutS m s).2.1 = t at h0 ⊢
  unfold rck at h0 ⊢
  repeat' split
  all_goals simp_all
theorem cut_re {m : Int} : ∀ s, ∀ q, q ∈ (cutS m s).1 → reB q :=
  cut_ind (fun s h q hq => by rw [cut_end h] at hq; cases hq) fun s h ih q hq => by
    rw [cut_rec h] at hq
    rcases List.mem_cons.1 hq with rfl | hq
    · have := bt_lo s 1; have := bt_hi s 1; have := bt_lo s 2; have := bt_hi s 2; have := bt_lo s 3; have := bt_hi s 3; have := bt_lo s 4; have := bt_hi s 4; have := bt_lo s 5; have := bt_hi s 5; have := bt_lo s 6; have := bt_hi s 6
      unfold reB rcv
      simp only [List.length_take]
      omega
    · exact ih q hq
theorem ndX {m nd : Int} {R c : LB} (hN : Nd m R nd) (h : ((R ++ c).length : Int) < nd) : (cutS m (R ++ c)).1.length = 0 ∧ (cutS m (R ++ c)).2.1 = R ++ c ∧ (cutS m (R ++ c)).2.2 = 11 ∧ Nd m (cutS m (R ++ c)).2.1 nd := by
  have hk := hN c h
  have e : cutS m (R ++ c) = ([], R ++ c, 11) := by rw [cut_end (by rw [hk]; decide), hk]
  rw [e]; exact ⟨rfl, rfl, rfl, Nd.more hN⟩
theorem ndE {m : Int} {W : LB} (h : W.length = 0) : (cutS m W).1.length = 0 ∧ (cutS m W).2.1 = [] ∧ (cutS m W).2.2 = 11 ∧ Nd m (cutS m W).2.1 1 := by
  rw [List.eq_nil_of_length_eq_zero h, cut_nil]; exact ⟨rfl, rfl, rfl, nd_nil (by omega)⟩
theorem ndT {m : Int} {W : LB} (h : (cutS m W).2.2 = 11) : Nd m (cutS m W).2.1 (ndS (cutS m W).2.1) := nd_rest (by rw [← (cut_stuck W).2]; exact h)
def okL (l : List LB) : Prop := ∀ q, q ∈ l → q.length ≤ 2000
theorem okL_snoc {l : List LB} {i : Int} (h0 : 0 ≤ i) (h1 : i < (l.length : Int)) (h : okL (l.take i.toNat)) (c : (nthS l i.toNat).length ≤ 2000) : okL (l.take (i + 1).toNat) := by
  have hi : i.toNat < l.length := by omega
  have e : l.take (i + 1).toNat = l.take i.toNat ++ [nthS l i.toNat] := by
    rw [show (i + 1).toNat = i.toNat + 1 by omega, List.take_add_one, List.getElem?_eq_getElem hi]
    simp only [nthS, List.getD_eq_getElem?_getD, List.getElem?_eq_getElem hi, Option.toList_some, Option.getD_some]
  rw [e]; intro q hq
  rcases List.mem_append.1 hq with hq | hq
  · exact h q hq
  · rw [List.mem_singleton.1 hq]; exact c
theorem okL_end {l : List LB} {i : Int} (h0 : 0 ≤ i) (h1 : ¬ i < (l.length : Int)) (h : okL (l.take i.toNat)) : okL l := by
  rw [List.take_of_length_le (by omega)] at h; exact h
variable {nu : Nat → Value} {one : ∀ i, i < 1000000 → (nu i).oneCell' = true} {E' : Cx} {x' : Ex} {e' : LA} {h' : LE}
theorem fiNNds : tabk.fn.get 20 = some (fI Tryd.f20 0) ∧ (fI Tryd.f20 0).body.isSome = true := ⟨rfl, by kernel_rfl⟩
def hyNds_0 : LK := [(.len (.x 0), .x 1), (.bin .eql (.x 1) (.i .i64 (.ofNat 0)), .b true)]
theorem runNds_0 (e : Nat) : okA (call (tbl hyNds_0) 9000 20 [.x 0] ⟨H0 e , 1, 0, 0⟩) (.i .i64 (.ofNat 1)) = true := by kernel_rfl
def nuNds_0 (sf : LB) : List Value := [St' sf, .int .i64 ((sf.length : Int))]
theorem pathNds_0 (sf : LB) (b0 : sf.length ≤ 9223372036854775807) (h0 : (sf.length : Int) = 0) (w : World) (hl : laidE w) : CwR 20 #[St' sf] w (.int .i64 1) := by
  have ho : ∀ k r, (k, r) ∈ hyNds_0 → HOk (cx (nuL (nuNds_0 sf)) (fun j _ => nuL_one (l := nuNds_0 sf) rfl j) 1 laidE laidE_stab) k r := by
    unfold hyNds_0
    exact hc (lnV rfl rfl (by omega)) <|
     hc (eqcT rfl (by omega)) <|
     hnil
  refine runC (tb := (tbl hyNds_0)) (ra := .i .i64 (.ofNat 1)) rfl ((tabkOk (nuL (nuNds_0 sf)) (fun j _ => nuL_one (l := nuNds_0 sf) rfl j)).hyps ho) rfl fiNNds.1 fiNNds.2 (fun e => runNds_0 e ) (args := [St' sf]) (by simp only [RelL, Rel]; exact ⟨_, _, rfl, rfl, rfl⟩) w hl fun x hx => ?_
  simp only [Rel, RelL] at hx
  exact hx
def hyNds_1 : LK := [(.len (.x 0), .x 1), (.bin .eql (.x 1) (.i .i64 (.ofNat 0)), .b false), (.bin .lss (.x 1) (.i .i64 (.ofNat 6)), .b true)]
theorem runNds_1 (e : Nat) : okA (call (tbl hyNds_1) 9000 20 [.x 0] ⟨H0 e , 1, 0, 0⟩) (.i .i64 (.ofNat 6)) = true := by kernel_rfl
def nuNds_1 (sf : LB) : List Value := [St' sf, .int .i64 ((sf.length : Int))]
theorem pathNds_1 (sf : LB) (b0 : sf.length ≤ 9223372036854775807) (h0 : ¬ ((sf.length : Int) = 0)) (h1 : (sf.length : Int) < 6) (w : World) (hl : laidE w) : CwR 20 #[St' sf] w (.int .i64 6) := by
  have ho : ∀ k r, (k, r) ∈ hyNds_1 → HOk (cx (nuL (nuNds_1 sf)) (fun j _ => nuL_one (l := nuNds_1 sf) rfl j) 1 laidE laidE_stab) k r := by
    unfold hyNds_1
    exact hc (lnV rfl rfl (by omega)) <|
     hc (eqcF rfl (by omega)) <|
     hc (ltcT rfl (by omega)) <|
     hnil
  refine runC (tb := (tbl hyNds_1)) (ra := .i .i64 (.ofNat 6)) rfl ((tabkOk (nuL (nuNds_1 sf)) (fun j _ => nuL_one (l := nuNds_1 sf) rfl j)).hyps ho) rfl fiNNds.1 fiNNds.2 (fun e => runNds_1 e ) (args := [St' sf]) (by simp only [RelL, Rel]; exact ⟨_, _, rfl, rfl, rfl⟩) w hl fun x hx => ?_
  simp only [Rel, RelL] at hx
  exact hx
def hyNds_2 : LK := [(.len (.x 0), .x 1), (.bin .eql (.x 1) (.i .i64 (.ofNat 0)), .b false), (.bin .lss (.x 1) (.i .i64 (.ofNat 6)), .b false), (.bin .lss (.x 1) (.i .i64 (.ofNat 8)), .b true)]
theorem runNds_2 (e : Nat) : okA (call (tbl hyNds_2) 9000 20 [.x 0] ⟨H0 e , 1, 0, 0⟩) (.i .i64 (.ofNat 8)) = true := by kernel_rfl
def nuNds_2 (sf : LB) : List Value := [St' sf, .int .i64 ((sf.length : Int))]
theorem pathNds_2 (sf : LB) (b0 : sf.length ≤ 9223372036854775807) (h0 : ¬ ((sf.length : Int) = 0)) (h1 : ¬ ((sf.length : Int) < 6)) (h2 : (sf.length : Int) < 8) (w : World) (hl : laidE w) : CwR 20 #[St' sf] w (.int .i64 8) := by
  have ho : ∀ k r, (k, r) ∈ hyNds_2 → HOk (cx (nuL (nuNds_2 sf)) (fun j _ => nuL_one (l := nuNds_2 sf) rfl j) 1 laidE laidE_stab) k r := by
    unfold hyNds_2
    exact hc (lnV rfl rfl (by omega)) <|
     hc (eqcF rfl (by omega)) <|
     hc (ltcF rfl (by omega)) <|
     hc (ltcT rfl (by omega)) <|
     hnil
  refine runC (tb := (tbl hyNds_2)) (ra := .i .i64 (.ofNat 8)) rfl ((tabkOk (nuL (nuNds_2 sf)) (fun j _ => nuL_one (l := nuNds_2 sf) rfl j)).hyps ho) rfl fiNNds.1 fiNNds.2 (fun e => runNds_2 e ) (args := [St' sf]) (by simp only [RelL, Rel]; exact ⟨_, _, rfl, rfl, rfl⟩) w hl fun x hx => ?_
  simp only [Rel, RelL] at hx
  exact hx
def hyNds_3 : LK := [(.len (.x 0), .x 1), (.bin .eql (.x 1) (.i .i64 (.ofNat 0)), .b false), (.bin .lss (.x 1) (.i .i64 (.ofNat 6)), .b false), (.bin .lss (.x 1) (.i .i64 (.ofNat 8)), .b false), (.idx (.x 0) (.i .i64 (.ofNat 4)), .x 2), (.conv 3 (.x 2), .x 3), (.bin .shl (.x 3) (.i .u64 (.ofNat 8)), .x 4), (.bin .add (.i .i64 (.ofNat 8)) (.x 4), .x 5), (.idx (.x 0) (.i .i64 (.ofNat 5)), .x 6), (.conv 3 (.x 6), .x 7), (.bin .add (.x 5) (.x 7), .x 8), (.idx (.x 0) (.i .i64 (.ofNat 6)), .x 9), (.conv 3 (.x 9), .x 10), (.bin .add (.x 8) (.x 10), .x 11)]
theorem runNds_3 (e : Nat) : okA (call (tbl hyNds_3) 9000 20 [.x 0] ⟨H0 e , 1, 0, 0⟩) (.x 11) = true := by kernel_rfl
def nuNds_3 (sf : LB) : List Value := [St' sf, .int .i64 ((sf.length : Int)), .int .u8 (bt sf 4), .int .i64 ((bt sf 4)), .int .i64 ((bt sf 4) * 256), .int .i64 ((bt sf 4) * 256 + 8), .int .u8 (bt sf 5), .int .i64 ((bt sf 5)), .int .i64 ((bt sf 4) * 256 + (bt sf 5) + 8), .int .u8 (bt sf 6), .int .i64 ((bt sf 6)), .int .i64 ((bt sf 4) * 256 + (bt sf 5) + (bt sf 6) + 8)]
theorem pathNds_3 (sf : LB) (b0 : sf.length ≤ 9223372036854775807) (h0 : ¬ ((sf.length : Int) = 0)) (h1 : ¬ ((sf.length : Int) < 6)) (h2 : ¬ ((sf.length : Int) < 8)) (w : World) (hl : laidE w) : CwR 20 #[St' sf] w (.int .i64 ((bt sf 4) * 256 + (bt sf 5) + (bt sf 6) + 8)) := by
  have := bt_lo sf 4; have := bt_hi sf 4
  have := bt_lo sf 5; have := bt_hi sf 5
  have := bt_lo sf 6; have := bt_hi sf 6
  have ho : ∀ k r, (k, r) ∈ hyNds_3 → HOk (cx (nuL (nuNds_3 sf)) (fun j _ => nuL_one (l := nuNds_3 sf) rfl j) 1 laidE laidE_stab) k r := by
    unfold hyNds_3
    exact hc (lnV rfl rfl (by omega)) <|
     hc (eqcF rfl (by omega)) <|
     hc (ltcF rfl (by omega)) <|
     hc (ltcF rfl (by omega)) <|
     hc (ixC rfl rfl (by omega)) <|
     hc (kConvF (isX rfl) tu3 (denX rfl) (fI64 (by omega) (by omega))) <|
     hc (kShlM 8 256 rfl (isX rfl) (isZ (m := 8) rfl) (denX rfl) rfl (by decide) (by omega) (fI64 (by omega) (by omega))) <|
     hc (kAdd (isZ (m := 8) rfl) (isX rfl) (denX rfl) (by omega) (fI64 (by omega) (by omega))) <|
     hc (ixC rfl rfl (by omega)) <|
     hc (kConvF (isX rfl) tu3 (denX rfl) (fI64 (by omega) (by omega))) <|
     hc (adX rfl rfl rfl (by omega)) <|
     hc (ixC rfl rfl (by omega)) <|
     hc (kConvF (isX rfl) tu3 (denX rfl) (fI64 (by omega) (by omega))) <|
     hc (adX rfl rfl rfl (by omega)) <|
     hnil
  refine runC (tb := (tbl hyNds_3)) (ra := .x 11) rfl ((tabkOk (nuL (nuNds_3 sf)) (fun j _ => nuL_one (l := nuNds_3 sf) rfl j)).hyps ho) rfl fiNNds.1 fiNNds.2 (fun e => runNds_3 e ) (args := [St' sf]) (by simp only [RelL, Rel]; exact ⟨_, _, rfl, rfl, rfl⟩) w hl fun x hx => ?_
  simp only [Rel, RelL] at hx
  exact hx
theorem callsNds (sf : LB) (b0 : sf.length ≤ 9223372036854775807) (w : World) (hl : laidE w) : CwR 20 #[St' sf] w (.int .i64 (ndS sf)) := by
  by_cases h0 : (sf.length : Int) = 0
  · rw [show (.int .i64 (ndS sf) : Value) = (.int .i64 1 : Value) from by exact congrArg (Value.int .i64) (by unfold ndS rsz; split <;> (try split) <;> (try split) <;> omega)]
    exact pathNds_0 sf b0 h0 w hl
  · by_cases h1 : (sf.length : Int) < 6
    · rw [show (.int .i64 (ndS sf) : Value) = (.int .i64 6 : Value) from by exact congrArg (Value.int .i64) (by unfold ndS rsz; split <;> (try split) <;> (try split) <;> omega)]
      exact pathNds_1 sf b0 h0 h1 w hl
    · by_cases h2 : (sf.length : Int) < 8
      · rw [show (.int .i64 (ndS sf) : Value) = (.int .i64 8 : Value) from by exact congrArg (Value.int .i64) (by unfold ndS rsz; split <;> (try split) <;> (try split) <;> omega)]
        exact pathNds_2 sf b0 h0 h1 h2 w hl
      · rw [show (.int .i64 (ndS sf) : Value) = (.int .i64 ((bt sf 4) * 256 + (bt sf 5) + (bt sf 6) + 8) : Value) from by exact congrArg (Value.int .i64) (by unfold ndS rsz; split <;> (try split) <;> (try split) <;> omega)]
        exact pathNds_3 sf b0 h0 h1 h2 w hl
theorem hokNds {x0 r : AV} {sf : LB} (i0 : Is (cx nu one 1 laidE laidE_stab) x0 (St' sf)) (hr : Den (cx nu one 1 laidE laidE_stab) r (.int .i64 (ndS sf))) (b0 : sf.length ≤ 9223372036854775807) : HOk (cx nu one 1 laidE laidE_stab) (.call 20 [x0]) r := by
  intro ρ args ha w hl _
  simp only [RelL] at ha
  obtain ⟨v0, t0, rfl, a0, rfl⟩ := ha
  have e0 := i0 ρ _ a0; subst e0
  exact (callsNds sf b0 w hl).mono fun e w' he => ⟨_, he.1, hr ρ, he.2⟩
end Go.Proofs.YtlfmfmegnenohaaDoor.cutterTells
