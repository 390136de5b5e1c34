/- A part of the proof: an interpreter of the model's own code on partly known states, and that what it answers is what the program answers. No condition of its own. -/
import Derived.Test.YtabnmohghnnjaaaGreatDoorHKK
import Derived.Test.YtabnmohghnnjaaaGreatDoorHKG
set_option linter.unusedSimpArgs false
set_option linter.unusedVariables false
namespace Go.AX
/- records out of bytes -/
abbrev RC := Int × Int × List UInt8 × Int
def rsz (s : List UInt8) : Int := 8 + bt s 4 * 256 + bt s 5 + bt s 6
def rcv (s : List UInt8) : RC := (bt s 1, bt s 2 * 256 + bt s 3, (s.drop 8).take (Int.toNat (bt s 4 * 256 + bt s 5)), bt s 6)
/-- the front: 0: a record, 11: bytes lack, else: what is wrong -/
def rck (m : Int) (s : List UInt8) : Int :=
  if 6 ≤ s.length ∧ bt s 0 = 1 ∧ m < bt s 4 * 256 + bt s 5 then 12
  else if 1 ≤ s.length ∧ bt s 0 ≠ 1 then 13
  else if s.length < 8 then 11
  else if (s.length : Int) < rsz s then 11
  else if bt s 1 = 0 then 10 else 0
def cutF (m : Int) : Nat → List UInt8 → List RC × List UInt8 × Int
  | 0, s => ([], s, 11)
  | f + 1, s => if rck m s = 0 then (rcv s :: (cutF m f (s.drop (Int.toNat (rsz s)))).1, (cutF m f (s.drop (Int.toNat (rsz s)))).2) else ([], s, rck m s)
def cutS (m : Int) (s : List UInt8) : List RC × List UInt8 × Int := cutF m (s.length + 1) s
theorem bt_appL {a b : List UInt8} {i : Nat} (h : i < a.length) : bt (a ++ b) i = bt a i := by
  unfold bt; rw [List.getD_eq_getElem?_getD, List.getD_eq_getElem?_getD, List.getElem?_append_left h]
theorem bt_appR {a b : List UInt8} {i : Nat} (h : a.length ≤ i) : bt (a ++ b) i = bt b (i - a.length) := by
  unfold bt; rw [List.getD_eq_getElem?_getD, List.getD_eq_getElem?_getD, List.getElem?_append_right h]
theorem rsz_lo (s : List UInt8) : 8 ≤ rsz s := by
  have := bt_lo s 4; have := bt_lo s 5; have := bt_lo s 6; unfold rsz; omega
theorem rck_zero {m : Int} {s : List UInt8} (h : rck m s = 0) : 8 ≤ s.length ∧ bt s 0 = 1 ∧ ¬ m < bt s 4 * 256 + bt s 5 ∧ rsz s ≤ (s.length : Int) ∧ ¬ bt s 1 = 0 := by
  unfold rck at h
  split at h
  · omega
  · split at h
    · omega
    · split at h
      · omega
      · split at h
        · omega
        · split at h
          · omega
          · rename_i h1 h2 h3 h4 h5
            have h0 : bt s 0 = 1 := by
              by_cases e : bt s 0 = 1
              · exact e
              · exact absurd ⟨by omega, e⟩ h2
            refine ⟨by omega, h0, fun e => h1 ⟨by omega, h0, e⟩, by omega, h5⟩
theorem rck_of {m : Int} {s : List UInt8} (h1 : 8 ≤ s.length) (h2 : bt s 0 = 1) (h3 : ¬ m < bt s 4 * 256 + bt s 5) (h4 : rsz s ≤ (s.length : Int)) (h5 : ¬ bt s 1 = 0) : rck m s = 0 := by
  unfold rck
  rw [if_neg (fun e => h3 e.2.2), if_neg (fun e => e.2 h2), if_neg (by omega), if_neg (by omega), if_neg h5]
theorem cutF_more {m : Int} : ∀ (f g : Nat) (s : List UInt8), s.length < f → s.length < g → cutF m f s = cutF m g s
  | 0, _, _, h, _ => by omega
  | _ + 1, 0, _, _, h => by omega
  | f + 1, g + 1, s, hf, hg => by
    unfold cutF
    split
    · rename_i h
      have h8 := (rck_zero h).1
      have hz := rsz_lo s
      have hl : (s.drop (Int.toNat (rsz s))).length < s.length := by rw [List.length_drop]; omega
      rw [cutF_more f g _ (by omega) (by omega)]
    · rfl
theorem cut_rec {m : Int} {s : List UInt8} (h : rck m s = 0) : cutS m s = (rcv s :: (cutS m (s.drop (Int.toNat (rsz s)))).1, (cutS m (s.drop (Int.toNat (rsz s)))).2) := by
  have h8 := (rck_zero h).1
  have hz := rsz_lo s
  have hl : (s.drop (Int.toNat (rsz s))).length < s.length := by rw [List.length_drop]; omega
  unfold cutS
  rw [cutF, if_pos h, cutF_more s.length ((s.drop (Int.toNat (rsz s))).length + 1) _ hl (by omega)]
theorem cut_end {m : Int} {s : List UInt8} (h : ¬ rck m s = 0) : cutS m s = ([], s, rck m s) := by
  unfold cutS; rw [cutF, if_neg h]
/-- by the front -/
theorem cut_ind {m : Int} {P : List UInt8 → Prop} (h1 : ∀ s, ¬ rck m s = 0 → P s) (h2 : ∀ s, rck m s = 0 → P (s.drop (Int.toNat (rsz s))) → P s) : ∀ s, P s := by
  have key : ∀ (n : Nat) (s : List UInt8), s.length < n → P s := by
    intro n
    induction n with
    | zero => intro s h; omega
    | succ n ih =>
      intro s hs
      by_cases h : rck m s = 0
      · have h8 := (rck_zero h).1
        have hz := rsz_lo s
        exact h2 s h (ih _ (by rw [List.length_drop]; omega))
      · exact h1 s h
  exact fun s => key _ s (Nat.lt_succ_self _)
theorem cut_stuck {m : Int} : ∀ s, ¬ rck m (cutS m s).2.1 = 0 ∧ (cutS m s).2.2 = rck m (cutS m s).2.1 := by
  refine cut_ind (m := m) (fun s h => ?_) (fun s h ih => ?_)
  · rw [cut_end h]; exact ⟨h, rfl⟩
  · rw [cut_rec h]; exact ih
theorem cut_rest_len {m : Int} : ∀ s, (cutS m s).2.1.length ≤ s.length := by
  refine cut_ind (m := m) (fun s h => ?_) (fun s h ih => ?_)
  · rw [cut_end h]; exact Nat.le_refl _
  · rw [cut_rec h]; rw [List.length_drop] at ih; exact Nat.le_trans ih (Nat.sub_le _ _)
theorem cut_len {m : Int} : ∀ s, 8 * (cutS m s).1.length + (cutS m s).2.1.length ≤ s.length := by
  refine cut_ind (m := m) (fun s h => ?_) (fun s h ih => ?_)
  · rw [cut_end h]; simp
  · have h8 := (rck_zero h).1
    have hz := rsz_lo s
    rw [cut_rec h]; rw [List.length_drop] at ih; simp only [List.length_cons]; omega
section
variable {m : Int} {a b : List UInt8}
theorem rsz_app (h : 8 ≤ a.length) : rsz (a ++ b) = rsz a := by
  unfold rsz; rw [bt_appL (by omega), bt_appL (by omega), bt_appL (by omega)]
theorem rck_app (h : rck m a = 0) : rck m (a ++ b) = 0 := by
  obtain ⟨h1, h2, h3, h4, h5⟩ := rck_zero h
  refine rck_of (by rw [List.length_append]; omega) (by rw [bt_appL (by omega)]; exact h2) (by rw [bt_appL (by omega), bt_appL (by omega)]; exact h3) (by rw [rsz_app h1, List.length_append]; omega) (by rw [bt_appL (by omega)]; exact h5)
theorem rcv_app (h : rck m a = 0) : rcv (a ++ b) = rcv a := by
  obtain ⟨h1, h2, h3, h4, h5⟩ := rck_zero h
  have h6 := bt_lo a 6; have h7 := bt_lo a 4; have h8 := bt_lo a 5
  unfold rcv
  rw [bt_appL (by omega), bt_appL (by omega), bt_appL (by omega), bt_appL (by omega), bt_appL (by omega), bt_appL (by omega)]
  rw [List.drop_append_of_le_length h1, List.take_append_of_le_length (by rw [List.length_drop]; unfold rsz at h4; omega)]
theorem drop_app (h : rck m a = 0) : (a ++ b).drop (Int.toNat (rsz a)) = a.drop (Int.toNat (rsz a)) ++ b := by
  obtain ⟨h1, h2, h3, h4, h5⟩ := rck_zero h
  have := rsz_lo a
  rw [List.drop_append_of_le_length (by omega)]
/-- what is wrong stays wrong -/
theorem rck_err (h0 : ¬ rck m a = 0) (h : ¬ rck m a = 11) : rck m (a ++ b) = rck m a := by
  unfold rck at h0 h ⊢
  by_cases c1 : 6 ≤ a.length ∧ bt a 0 = 1 ∧ m < bt a 4 * 256 + bt a 5
  · rw [if_pos c1, if_pos ⟨by rw [List.length_append]; omega, by rw [bt_appL (by omega)]; exact c1.2.1, by rw [bt_appL (by omega), bt_appL (by omega)]; exact c1.2.2⟩]
  · rw [if_neg c1] at h0 h
    rw [if_neg c1]
    by_cases c2 : 1 ≤ a.length ∧ bt a 0 ≠ 1
    · rw [if_pos c2, if_neg, if_pos ⟨by rw [List.length_append]; omega, by rw [bt_appL (by omega)]; exact c2.2⟩]
      intro e; rw [bt_appL (by omega)] at e; exact c2.2 e.2.1
    · rw [if_neg c2] at h0 h
      rw [if_neg c2]
      by_cases c3 : a.length < 8
      · rw [if_pos c3] at h; exact absurd rfl h
      · rw [if_neg c3] at h0 h
        by_cases c4 : (a.length : Int) < rsz a
        · rw [if_pos c4] at h; exact absurd rfl h
        · rw [if_neg c4] at h0 h
          by_cases c5 : bt a 1 = 0
          · rw [if_neg c3, if_neg c4, if_pos c5, if_neg, if_neg, if_neg, if_neg, if_pos (by rw [bt_appL (by omega)]; exact c5)]
            · rw [rsz_app (by omega), List.length_append]; omega
            · rw [List.length_append]; omega
            · intro e; rw [bt_appL (by omega)] at e; exact c2 ⟨by omega, e.2⟩
            · intro e; rw [bt_appL (by omega), bt_appL (by omega), bt_appL (by omega)] at e; exact c1 ⟨by omega, e.2⟩
          · rw [if_neg c5] at h0; exact absurd rfl h0
end
theorem cut_app {m : Int} {b : List UInt8} : ∀ a, (cutS m a).2.2 = 11 → cutS m (a ++ b) = ((cutS m a).1 ++ (cutS m ((cutS m a).2.1 ++ b)).1, (cutS m ((cutS m a).2.1 ++ b)).2) := by
  refine cut_ind (m := m) (fun s h hk => ?_) (fun s h ih hk => ?_)
  · rw [cut_end h]; rfl
  · rw [cut_rec h] at hk ⊢
    have ih := ih hk
    rw [cut_rec (rck_app h), rcv_app h, rsz_app (rck_zero h).1, drop_app h, ih]
    rfl
theorem cut_err {m : Int} {b : List UInt8} : ∀ a, ¬ (cutS m a).2.2 = 11 → (cutS m (a ++ b)).2.2 = (cutS m a).2.2 ∧ (cutS m (a ++ b)).1 = (cutS m a).1 := by
  refine cut_ind (m := m) (fun s h hk => ?_) (fun s h ih hk => ?_)
  · rw [cut_end h] at hk ⊢
    have e := rck_err (b := b) h hk
    rw [cut_end (by rw [e]; exact h)]; exact ⟨e, rfl⟩
  · rw [cut_rec h] at hk ⊢
    have ih := ih hk
    rw [cut_rec (rck_app h), rcv_app h, rsz_app (rck_zero h).1, drop_app h]
    exact ⟨ih.1, by show rcv s :: _ = rcv s :: _; rw [ih.2]⟩
/-- at how many bytes a front is looked at again -/
def ndS (s : List UInt8) : Int := if s.length = 0 then 1 else if s.length < 6 then 6 else if s.length < 8 then 8 else rsz s
/-- as long as it is below n it lacks, whatever comes -/
def Nd (m : Int) (w : List UInt8) (n : Int) : Prop := ∀ b, ((w ++ b).length : Int) < n → rck m (w ++ b) = 11
theorem Nd.more {m : Int} {w b : List UInt8} {n : Int} (h : Nd m w n) : Nd m (w ++ b) n := fun c hc => by
  rw [List.append_assoc] at hc ⊢; exact h _ hc
theorem rck_lack {m : Int} {s : List UInt8} (h0 : s.length = 0 ∨ bt s 0 = 1) (h1 : s.length < 6 ∨ ¬ m < bt s 4 * 256 + bt s 5) (h2 : s.length < 8 ∨ (s.length : Int) < rsz s) : rck m s = 11 := by
  unfold rck
  rw [if_neg (fun e => by rcases h1 with h | h; omega; exact h e.2.2), if_neg (fun e => by rcases h0 with h | h; omega; exact e.2 h)]
  split
  · rfl
  · rw [if_pos (by omega)]
theorem rck_lackE {m : Int} {s : List UInt8} (h : rck m s = 11) : (s.length = 0 ∨ bt s 0 = 1) ∧ (s.length < 6 ∨ ¬ m < bt s 4 * 256 + bt s 5) ∧ (s.length < 8 ∨ (s.length : Int) < rsz s) := by
  unfold rck at h
  by_cases c2 : 1 ≤ s.length ∧ bt s 0 ≠ 1
  · rw [if_pos c2] at h; split at h <;> omega
  · have h0 : s.length = 0 ∨ bt s 0 = 1 := by
      by_cases e : bt s 0 = 1
      · exact .inr e
      · left
        rcases Nat.eq_zero_or_pos s.length with h | h
        · exact h
        · exact absurd ⟨h, e⟩ c2
    by_cases c1 : 6 ≤ s.length ∧ bt s 0 = 1 ∧ m < bt s 4 * 256 + bt s 5
    · rw [if_pos c1] at h; omega
    · refine ⟨h0, ?_, ?_⟩
      · by_cases hl : s.length < 6
        · exact .inl hl
        · right; intro e; exact c1 ⟨by omega, by omega, e⟩
      · rw [if_neg c1, if_neg c2] at h
        by_cases c3 : s.length < 8
        · exact .inl c3
        · rw [if_neg c3] at h
          by_cases c4 : (s.length : Int) < rsz s
          · exact .inr c4
          · rw [if_neg c4] at h; split at h <;> omega
theorem nd_rest {m : Int} {w : List UInt8} (h : rck m w = 11) : Nd m w (ndS w) := fun b hb => by
  obtain ⟨h0, h1, h2⟩ := rck_lackE h
  unfold ndS at hb
  rw [List.length_append] at hb
  split at hb
  · have e1 : w = [] := List.eq_nil_of_length_eq_zero (by assumption)
    have e2 : b = [] := List.eq_nil_of_length_eq_zero (by omega)
    subst e1; subst e2; exact h
  · rename_i hne
    have hb0 : bt w 0 = 1 := h0.resolve_left hne
    have hB : bt (w ++ b) 0 = 1 := by rw [bt_appL (by omega)]; exact hb0
    split at hb
    · exact rck_lack (.inr hB) (.inl (by rw [List.length_append]; omega)) (.inl (by rw [List.length_append]; omega))
    · split at hb
      · exact rck_lack (.inr hB) (.inr (by rw [bt_appL (by omega), bt_appL (by omega)]; exact h1.resolve_left (by omega))) (.inl (by rw [List.length_append]; omega))
      · exact rck_lack (.inr hB) (.inr (by rw [bt_appL (by omega), bt_appL (by omega)]; exact h1.resolve_left (by omega))) (.inr (by rw [rsz_app (by omega), List.length_append]; omega))
theorem nd_nil {m : Int} {n : Int} (h : n ≤ 1) : Nd m [] n := fun b hb => by
  have e2 : b = [] := List.eq_nil_of_length_eq_zero (by simp at hb; omega)
  subst e2; exact rck_lack (.inl rfl) (.inl (by decide)) (.inl (by decide))
/- bytes of records -/
abbrev isRB (r : RC) : Prop := 1 ≤ r.1 ∧ r.1 ≤ 255 ∧ 0 ≤ r.2.1 ∧ r.2.1 ≤ 65535 ∧ (r.2.2.1.length : Int) ≤ 65535 ∧ 0 ≤ r.2.2.2 ∧ r.2.2.2 ≤ 255
def rbP (r : RC) : List UInt8 := [u8 1, u8 (r.1 % 256), u8 ((r.2.1 / 256) % 256), u8 (r.2.1 % 256), u8 (((r.2.2.1.length : Int) / 256) % 256), u8 ((r.2.2.1.length : Int) % 256), u8 (r.2.2.2 % 256), u8 0] ++ (r.2.2.1 ++ List.replicate (Int.toNat r.2.2.2) 0)
def rbO (r : RC) : List UInt8 := if isRB r then rbP r else []
def rbS (l : List RC) : List UInt8 := l.flatMap rbO
theorem rbP_len (r : RC) : (rbP r).length = 8 + r.2.2.1.length + r.2.2.2.toNat := by
  unfold rbP; simp only [List.length_append, List.length_cons, List.length_nil, List.length_replicate]; omega
theorem rbP_bt {r : RC} {b : List UInt8} (h : isRB r) : bt (rbP r ++ b) 0 = 1 ∧ bt (rbP r ++ b) 1 = r.1 ∧ bt (rbP r ++ b) 2 * 256 + bt (rbP r ++ b) 3 = r.2.1 ∧ bt (rbP r ++ b) 4 * 256 + bt (rbP r ++ b) 5 = (r.2.2.1.length : Int) ∧ bt (rbP r ++ b) 6 = r.2.2.2 := by
  have e : rbP r ++ b = [u8 1, u8 (r.1 % 256), u8 ((r.2.1 / 256) % 256), u8 (r.2.1 % 256), u8 (((r.2.2.1.length : Int) / 256) % 256), u8 ((r.2.2.1.length : Int) % 256), u8 (r.2.2.2 % 256), u8 0] ++ ((r.2.2.1 ++ List.replicate (Int.toNat r.2.2.2) 0) ++ b) := by unfold rbP; rw [List.append_assoc]
  rw [e]
  have g0 : ∀ x : List UInt8, bt ([u8 1, u8 (r.1 % 256), u8 ((r.2.1 / 256) % 256), u8 (r.2.1 % 256), u8 (((r.2.2.1.length : Int) / 256) % 256), u8 ((r.2.2.1.length : Int) % 256), u8 (r.2.2.2 % 256), u8 0] ++ x) 0 = 1 := fun x => bt_at rfl (by omega) (by omega)
  have g1 : ∀ x : List UInt8, bt ([u8 1, u8 (r.1 % 256), u8 ((r.2.1 / 256) % 256), u8 (r.2.1 % 256), u8 (((r.2.2.1.length : Int) / 256) % 256), u8 ((r.2.2.1.length : Int) % 256), u8 (r.2.2.2 % 256), u8 0] ++ x) 1 = r.1 % 256 := fun x => bt_at rfl (by omega) (by omega)
  have g2 : ∀ x : List UInt8, bt ([u8 1, u8 (r.1 % 256), u8 ((r.2.1 / 256) % 256), u8 (r.2.1 % 256), u8 (((r.2.2.1.length : Int) / 256) % 256), u8 ((r.2.2.1.length : Int) % 256), u8 (r.2.2.2 % 256), u8 0] ++ x) 2 = (r.2.1 / 256) % 256 := fun x => bt_at rfl (by omega) (by omega)
  have g3 : ∀ x : List UInt8, bt ([u8 1, u8 (r.1 % 256), u8 ((r.2.1 / 256) % 256), u8 (r.2.1 % 256), u8 (((r.2.2.1.length : Int) / 256) % 256), u8 ((r.2.2.1.length : Int) % 256), u8 (r.2.2.2 % 256), u8 0] ++ x) 3 = r.2.1 % 256 := fun x => bt_at rfl (by omega) (by omega)
  have g4 : ∀ x : List UInt8, bt ([u8 1, u8 (r.1 % 256), u8 ((r.2.1 / 256) % 256), u8 (r.2.1 % 256), u8 (((r.2.2.1.length : Int) / 256) % 256), u8 ((r.2.2.1.length : Int) % 256), u8 (r.2.2.2 % 256), u8 0] ++ x) 4 = ((r.2.2.1.length : Int) / 256) % 256 := fun x => bt_at rfl (by omega) (by omega)
  have g5 : ∀ x : List UInt8, bt ([u8 1, u8 (r.1 % 256), u8 ((r.2.1 / 256) % 256), u8 (r.2.1 % 256), u8 (((r.2.2.1.length : Int) / 256) % 256), u8 ((r.2.2.1.length : Int) % 256), u8 (r.2.2.2 % 256), u8 0] ++ x) 5 = (r.2.2.1.length : Int) % 256 := fun x => bt_at rfl (by omega) (by omega)
  have g6 : ∀ x : List UInt8, bt ([u8 1, u8 (r.1 % 256), u8 ((r.2.1 / 256) % 256), u8 (r.2.1 % 256), u8 (((r.2.2.1.length : Int) / 256) % 256), u8 ((r.2.2.1.length : Int) % 256), u8 (r.2.2.2 % 256), u8 0] ++ x) 6 = r.2.2.2 % 256 := fun x => bt_at rfl (by omega) (by omega)
  rw [g0, g1, g2, g3, g4, g5, g6]
  obtain ⟨h1, h2, h3, h4, h5, h6, h7⟩ := h
  refine ⟨rfl, by omega, by omega, by omega, by omega⟩
theorem rbP_cut {m : Int} {r : RC} {b : List UInt8} (h : isRB r) (hm : (r.2.2.1.length : Int) ≤ m) : rck m (rbP r ++ b) = 0 ∧ rcv (rbP r ++ b) = r ∧ (rbP r ++ b).drop (Int.toNat (rsz (rbP r ++ b))) = b := by
  obtain ⟨e0, e1, e2, e3, e4⟩ := rbP_bt (b := b) h
  have hz : rsz (rbP r ++ b) = 8 + (r.2.2.1.length : Int) + r.2.2.2 := by unfold rsz; omega
  have hl := rbP_len r
  obtain ⟨h1, h2, h3, h4, h5, h6, h7⟩ := h
  refine ⟨rck_of (by rw [List.length_append]; omega) e0 (by omega) (by rw [hz, List.length_append]; omega) (by omega), ?_, ?_⟩
  · unfold rcv
    rw [e1, e2, e3, e4]
    have : ((rbP r ++ b).drop 8).take (Int.toNat ((r.2.2.1.length : Nat) : Int)) = r.2.2.1 := by
      unfold rbP
      rw [List.append_assoc, show (8 : Nat) = [u8 1, u8 (r.1 % 256), u8 ((r.2.1 / 256) % 256), u8 (r.2.1 % 256), u8 (((r.2.2.1.length : Int) / 256) % 256), u8 ((r.2.2.1.length : Int) % 256), u8 (r.2.2.2 % 256), u8 0].length from rfl, List.drop_left, List.append_assoc, Int.toNat_natCast, List.take_left]
    rw [this]
  · rw [hz, show (8 + (r.2.2.1.length : Int) + r.2.2.2).toNat = (rbP r).length by omega, List.drop_left]
theorem cut_rbS {m : Int} {b : List UInt8} : ∀ z : List RC, (∀ r, r ∈ z → isRB r ∧ (r.2.2.1.length : Int) ≤ m) → cutS m (rbS z ++ b) = (z ++ (cutS m b).1, (cutS m b).2)
  | [], _ => rfl
  | r :: z, h => by
    obtain ⟨h1, h2⟩ := h r (List.mem_cons_self ..)
    have e : rbS (r :: z) ++ b = rbP r ++ (rbS z ++ b) := by
      unfold rbS; rw [List.flatMap_cons, rbO, if_pos h1, List.append_assoc]
    obtain ⟨c1, c2, c3⟩ := rbP_cut (m := m) (b := rbS z ++ b) h1 h2
    rw [e, cut_rec c1, c2, c3, cut_rbS z fun x hx => h x (List.mem_cons_of_mem _ hx)]
    rfl
theorem cut_nil {m : Int} : cutS m [] = ([], [], 11) := by
  have : rck m [] = 11 := rck_lack (.inl rfl) (.inl (by decide)) (.inl (by decide))
  rw [cut_end (by rw [this]; decide), this]
/-- a front of right records is cut without an error -/
theorem cut_front {m : Int} {a b : List UInt8} {z : List RC} (hz : ∀ r, r ∈ z → isRB r ∧ (r.2.2.1.length : Int) ≤ m) (h : a ++ b = rbS z) : (cutS m a).2.2 = 11 := by
  by_cases e : (cutS m a).2.2 = 11
  · exact e
  · have h1 := (cut_err (b := b) a e).1
    have h2 := cut_rbS (b := []) z hz
    rw [List.append_nil, cut_nil, ← h] at h2
    rw [h2] at h1; exact h1.symm
end Go.AX
