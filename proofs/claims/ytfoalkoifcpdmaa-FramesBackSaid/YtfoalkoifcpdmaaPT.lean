/- A part of the proof: an interpreter of the model's own code on partly known states, and that what it answers is what the program answers. No condition of its own. -/
import Derived.Test.YtfoalkoifcpdmaaHKK
import Derived.Test.YtfoalkoifcpdmaaHKI
import Derived.Test.YtfoalkoifcpdmaaCT
set_option linter.unusedSimpArgs false
set_option linter.unusedVariables false
namespace Go.AX
/- names and values as bytes -/
abbrev PP := List UInt8 × List UInt8
/-- a length of at most 600 -/
def lnB (n : Int) : List UInt8 := if n < 128 then [u8 n] else [u8 128, u8 0, u8 (n / 256), u8 (n % 256)]
def pB (p : PP) : List UInt8 := lnB (p.1.length : Int) ++ (lnB (p.2.length : Int) ++ (p.1 ++ p.2))
def pS (l : List PP) : List UInt8 := l.flatMap pB
def ok6 (l : List PP) : Prop := ∀ p, p ∈ l → p.1.length ≤ 600 ∧ p.2.length ≤ 600
/-- a length at the front: how many bytes, how much, whether it lacks, what is behind -/
def hL (s : List UInt8) : Nat := if bt s 0 < 128 then 1 else 4
def vL (s : List UInt8) : Int := if bt s 0 < 128 then bt s 0 else bt s 0 % 128 * 16777216 + bt s 1 * 65536 + bt s 2 * 256 + bt s 3
def lkL (s : List UInt8) : Prop := s.length = 0 ∨ (¬ bt s 0 < 128 ∧ s.length < 4)
instance (s : List UInt8) : Decidable (lkL s) := by unfold lkL; exact inferInstance
def rsL (s : List UInt8) : List UInt8 := s.drop (hL s)
def pkW (s : List UInt8) : Prop := ¬ lkL s ∧ ¬ lkL (rsL s) ∧ vL s + vL (rsL s) ≤ ((rsL (rsL s)).length : Int)
instance (s : List UInt8) : Decidable (pkW s) := by unfold pkW; exact inferInstance
def pv (s : List UInt8) : PP := ((rsL (rsL s)).take (Int.toNat (vL s)), ((rsL (rsL s)).drop (Int.toNat (vL s))).take (Int.toNat (vL (rsL s))))
def prs (s : List UInt8) : List UInt8 := (rsL (rsL s)).drop (Int.toNat (vL s + vL (rsL s)))
def prF : Nat → List UInt8 → List PP × Int
  | 0, _ => ([], 11)
  | f + 1, s => if s.length = 0 then ([], 0) else if pkW s then (pv s :: (prF f (prs s)).1, (prF f (prs s)).2) else ([], 11)
def prS (s : List UInt8) : List PP × Int := prF (s.length + 1) s
theorem cZ0 (s : List UInt8) : 1 ≤ hL s ∧ hL s ≤ 4 := by unfold hL; split <;> omega
theorem bH8 (s : List UInt8) : 0 ≤ vL s ∧ vL s ≤ 2147483647 := by
  have := bI9 s 0; have := bI9 s 1; have := bI9 s 2; have := bI9 s 3; have := aX1 s 0; have := aX1 s 1; have := aX1 s 2; have := aX1 s 3
  unfold vL; split <;> omega
theorem bE3 {s : List UInt8} (h : ¬ lkL s) : (rsL s).length + hL s = s.length := by
  have := cZ0 s
  have h2 : hL s ≤ s.length := by
    unfold lkL at h; unfold hL at *
    split
    · omega
    · rename_i h1; have : ¬ (s.length < 4) := fun e => h (.inr ⟨h1, e⟩); omega
  unfold rsL; rw [List.length_drop]; omega
theorem pk_len {s : List UInt8} (h : pkW s) : (prs s).length < s.length ∧ 2 + (prs s).length + (pv s).1.length + (pv s).2.length ≤ s.length ∧ ((pv s).1.length : Int) = vL s ∧ ((pv s).2.length : Int) = vL (rsL s) := by
  obtain ⟨h1, h2, h3⟩ := h
  have a := bE3 h1; have b := bE3 h2; have := cZ0 s; have := cZ0 (rsL s); have := bH8 s; have := bH8 (rsL s)
  unfold prs pv
  simp only [List.length_drop, List.length_take]
  omega
theorem dC5 : ∀ (f g : Nat) (s : List UInt8), s.length < f → s.length < g → prF f s = prF g s
  | 0, _, _, h, _ => by omega
  | _ + 1, 0, _, _, h => by omega
  | f + 1, g + 1, s, hf, hg => by
    unfold prF
    split
    · rfl
    · split
      · rename_i h
        have := (pk_len h).1
        rw [dC5 f g _ (by omega) (by omega)]
      · rfl
theorem bV3 {s : List UInt8} (h : s.length = 0) : prS s = ([], 0) := by unfold prS prF; rw [if_pos h]
theorem pk_pos {s : List UInt8} (h : pkW s) : ¬ s.length = 0 := fun e => h.1 (.inl e)
theorem bV2 {s : List UInt8} (h : pkW s) : prS s = (pv s :: (prS (prs s)).1, (prS (prs s)).2) := by
  have := (pk_len h).1
  have e := dC5 s.length ((prs s).length + 1) (prs s) (by omega) (by omega)
  unfold prS
  conv => lhs; unfold prF
  rw [if_neg (pk_pos h), if_pos h, e]
theorem bP3 {s : List UInt8} (h0 : ¬ s.length = 0) (h : ¬ pkW s) : prS s = ([], 11) := by
  unfold prS prF; rw [if_neg h0, if_neg h]
theorem dK7 {P : List UInt8 → Prop} (h0 : ∀ s, s.length = 0 → P s) (h1 : ∀ s, ¬ s.length = 0 → ¬ pkW s → P s) (h2 : ∀ s, pkW s → P (prs s) → P s) : ∀ s, P s := by
  intro s
  generalize hn : s.length = n
  induction n using Nat.strongRecOn generalizing s with
  | ind n ih =>
    by_cases e : s.length = 0
    · exact h0 s e
    · by_cases hp : pkW s
      · exact h2 s hp (ih _ (by have := (pk_len hp).1; omega) _ rfl)
      · exact h1 s e hp
theorem pr_kind : ∀ s, (prS s).2 = 0 ∨ (prS s).2 = 11 :=
  dK7 (fun s h => .inl (by rw [bV3 h])) (fun s h h1 => .inr (by rw [bP3 h h1])) (fun s h ih => by simp only [bV2 h]; exact ih)
theorem pr_len : ∀ s, 2 * (prS s).1.length ≤ s.length :=
  dK7 (fun s h => by rw [bV3 h]; simp) (fun s h h1 => by rw [bP3 h h1]; simp) (fun s h ih => by
    rw [bV2 h, List.length_cons]; have := (pk_len h).2.1; omega)
theorem pr_mem {s : List UInt8} : ∀ q, q ∈ (prS s).1 → q.1.length ≤ s.length ∧ q.2.length ≤ s.length :=
  dK7 (P := fun s => ∀ q, q ∈ (prS s).1 → q.1.length ≤ s.length ∧ q.2.length ≤ s.length) (fun s h q hq => by rw [bV3 h] at hq; cases hq) (fun s h h1 q hq => by rw [bP3 h h1] at hq; cases hq) (fun s h ih q hq => by
    have hl := pk_len h
    rw [bV2 h] at hq
    rcases List.mem_cons.1 hq with rfl | hq
    · omega
    · have := ih q hq; omega) s
theorem dQ0 {n : Int} (h0 : 0 ≤ n) (h : n ≤ 255) (l : List UInt8) : bt (u8 n :: l) 0 = n := by
  show ((u8 n).toNat : Int) = n; exact bB7 h0 h
theorem bC9 {n : Int} (h0 : 0 ≤ n) (h : n ≤ 600) (t : List UInt8) : ¬ lkL (lnB n ++ t) ∧ vL (lnB n ++ t) = n ∧ rsL (lnB n ++ t) = t := by
  unfold lnB
  split
  · have e : [u8 n] ++ t = u8 n :: t := rfl
    have hb := dQ0 h0 (by omega) t
    rw [e]
    refine ⟨?_, ?_, ?_⟩
    · unfold lkL; rw [hb, List.length_cons]; omega
    · unfold vL; rw [hb, if_pos (by omega)]
    · unfold rsL hL; rw [hb, if_pos (by omega)]; rfl
  · have e : [u8 128, u8 0, u8 (n / 256), u8 (n % 256)] ++ t = u8 128 :: u8 0 :: u8 (n / 256) :: u8 (n % 256) :: t := rfl
    have hb : bt (u8 128 :: u8 0 :: u8 (n / 256) :: u8 (n % 256) :: t) 0 = 128 := dQ0 (by decide) (by decide) _
    have hb1 : bt (u8 128 :: u8 0 :: u8 (n / 256) :: u8 (n % 256) :: t) 1 = 0 := by show ((u8 0).toNat : Int) = 0; exact bB7 (by decide) (by decide)
    have hb2 : bt (u8 128 :: u8 0 :: u8 (n / 256) :: u8 (n % 256) :: t) 2 = n / 256 := by show ((u8 (n / 256)).toNat : Int) = n / 256; exact bB7 (by omega) (by omega)
    have hb3 : bt (u8 128 :: u8 0 :: u8 (n / 256) :: u8 (n % 256) :: t) 3 = n % 256 := by show ((u8 (n % 256)).toNat : Int) = n % 256; exact bB7 (by omega) (by omega)
    rw [e]
    refine ⟨?_, ?_, ?_⟩
    · unfold lkL; rw [hb]; simp only [List.length_cons]; omega
    · unfold vL; rw [hb, if_neg (by decide), hb1, hb2, hb3]; omega
    · unfold rsL hL; rw [hb, if_neg (by decide)]; rfl
theorem cW9 {n : Int} : (lnB n).length = if n < 128 then 1 else 4 := by unfold lnB; split <;> rfl
theorem dQ5 {a b u t : List UInt8} (h : a ++ b = u ++ t) (hl : u.length ≤ a.length) : ∃ a', a = u ++ a' ∧ a' ++ b = t := by
  rcases List.append_eq_append_iff.1 h with ⟨x, h1, h2⟩ | ⟨x, h1, h2⟩
  · have hx : x = [] := by
      have := congrArg List.length h1
      rw [List.length_append] at this
      exact List.eq_nil_of_length_eq_zero (by omega)
    subst hx
    exact ⟨[], by rw [h1]; simp, by rw [h2]; rfl⟩
  · exact ⟨x, h1, h2.symm⟩
theorem dN7 {n : Int} (h0 : 0 ≤ n) (h : n ≤ 600) {a b t : List UInt8} (e : a ++ b = lnB n ++ t) : lkL a ∨ ∃ a', a = lnB n ++ a' ∧ a' ++ b = t := by
  by_cases hl : a.length < (lnB n).length
  · left
    by_cases ha : a.length = 0
    · exact .inl ha
    · right
      rw [cW9] at hl
      split at hl
      · omega
      · rename_i hn
        have h1 : bt a 0 = bt (a ++ b) 0 := (bt_appL (by omega)).symm
        have h2 : bt (lnB n ++ t) 0 = 128 := by unfold lnB; rw [if_neg hn]; exact dQ0 (by decide) (by decide) _
        rw [h1, e, h2]
        exact ⟨by decide, by omega⟩
  · right; exact dQ5 e (by omega)
theorem dL2 (p : PP) (t : List UInt8) : pB p ++ t = lnB (p.1.length : Int) ++ (lnB (p.2.length : Int) ++ (p.1 ++ (p.2 ++ t))) := by
  unfold pB; simp only [List.append_assoc]
theorem pB_cut {p : PP} (h1 : p.1.length ≤ 600) (h2 : p.2.length ≤ 600) (t : List UInt8) : pkW (pB p ++ t) ∧ pv (pB p ++ t) = p ∧ prs (pB p ++ t) = t := by
  rw [dL2]
  obtain ⟨a1, a2, a3⟩ := bC9 (n := (p.1.length : Int)) (by omega) (by omega) (lnB (p.2.length : Int) ++ (p.1 ++ (p.2 ++ t)))
  obtain ⟨b1, b2, b3⟩ := bC9 (n := (p.2.length : Int)) (by omega) (by omega) (p.1 ++ (p.2 ++ t))
  unfold pkW pv prs
  rw [a2, a3, b2, b3]
  refine ⟨⟨a1, b1, by simp only [List.length_append]; omega⟩, ?_, ?_⟩
  · have e1 : (p.1 ++ (p.2 ++ t)).take (Int.toNat (p.1.length : Int)) = p.1 := by rw [Int.toNat_natCast]; exact List.take_left
    have e2 : (p.1 ++ (p.2 ++ t)).drop (Int.toNat (p.1.length : Int)) = p.2 ++ t := by rw [Int.toNat_natCast]; exact List.drop_left
    have e3 : (p.2 ++ t).take (Int.toNat (p.2.length : Int)) = p.2 := by rw [Int.toNat_natCast]; exact List.take_left
    rw [e1, e2, e3]
  · have e : Int.toNat ((p.1.length : Int) + (p.2.length : Int)) = (p.1 ++ p.2).length := by rw [List.length_append]; omega
    rw [e, ← List.append_assoc]; exact List.drop_left
theorem cA5 (p : PP) (l : List PP) : pS (p :: l) = pB p ++ pS l := List.flatMap_cons
theorem pS_app (a b : List PP) : pS (a ++ b) = pS a ++ pS b := List.flatMap_append
theorem pr_pS : ∀ l : List PP, ok6 l → prS (pS l) = (l, 0)
  | [], _ => bV3 rfl
  | p :: l, h => by
    obtain ⟨h1, h2⟩ := h p (List.mem_cons_self ..)
    obtain ⟨a, b, c⟩ := pB_cut h1 h2 (pS l)
    rw [cA5, bV2 a, b, c, pr_pS l fun q hq => h q (List.mem_cons_of_mem _ hq)]
theorem pB_pre {p : PP} (h1 : p.1.length ≤ 600) (h2 : p.2.length ≤ 600) {a b t : List UInt8} (e : a ++ b = pB p ++ t) : ¬ pkW a ∨ ∃ a', a = pB p ++ a' ∧ a' ++ b = t := by
  rw [dL2] at e
  rcases dN7 (by omega) (by omega) e with hl | ⟨a1, ea, e1⟩
  · exact .inl fun hp => hp.1 hl
  · rw [ea]
    obtain ⟨q1, q2, q3⟩ := bC9 (n := (p.1.length : Int)) (by omega) (by omega) a1
    rcases dN7 (by omega) (by omega) e1 with hl | ⟨a2, ea, e2⟩
    · exact .inl fun hp => hp.2.1 (by rw [q3]; exact hl)
    · rw [ea] at q1 q2 q3 ⊢
      obtain ⟨r1, r2, r3⟩ := bC9 (n := (p.2.length : Int)) (by omega) (by omega) a2
      by_cases hs : a2.length < p.1.length + p.2.length
      · refine .inl fun hp => ?_
        have := hp.2.2
        rw [q2, q3, r2, r3] at this
        omega
      · right
        rw [← List.append_assoc] at e2
        obtain ⟨a3, ea, e3⟩ := dQ5 e2 (by rw [List.length_append]; omega)
        exact ⟨a3, by rw [ea, dL2]; simp only [List.append_assoc], e3⟩
theorem dC4 : ∀ (l : List PP) (a b : List UInt8), ok6 l → a ++ b = pS l → ¬ b.length = 0 → (prS a).1.length ≤ l.length ∧ ((prS a).2 = 11 ∨ ((prS a).2 = 0 ∧ (prS a).1 = l.take (prS a).1.length ∧ (prS a).1.length < l.length))
  | [], a, b, _, h, hb => by
    have := congrArg List.length h
    rw [List.length_append] at this
    have e : (pS ([] : List PP)).length = 0 := rfl
    omega
  | p :: l, a, b, ho, h, hb => by
    obtain ⟨h1, h2⟩ := ho p (List.mem_cons_self ..)
    by_cases h0 : a.length = 0
    · rw [bV3 h0]; exact ⟨by simp, .inr ⟨rfl, rfl, by simp⟩⟩
    · rw [cA5] at h
      rcases pB_pre h1 h2 h with hp | ⟨a', ea, h'⟩
      · rw [bP3 h0 hp]; exact ⟨by simp, .inl rfl⟩
      · rw [ea]
        obtain ⟨q1, q2, q3⟩ := pB_cut h1 h2 a'
        rw [bV2 q1, q2, q3]
        obtain ⟨hn, hk | ⟨hk, ht, hl⟩⟩ := dC4 l a' b (fun q hq => ho q (List.mem_cons_of_mem _ hq)) h' hb
        · exact ⟨by simp only [List.length_cons]; omega, .inl hk⟩
        · exact ⟨by simp only [List.length_cons]; omega, .inr ⟨hk, by rw [List.length_cons, List.take_succ_cons, ← ht], by simp only [List.length_cons]; omega⟩⟩
theorem dL1 {p : PP} (h1 : p.1.length ≤ 600) (h2 : p.2.length ≤ 600) : 2 ≤ (pB p).length ∧ (pB p).length ≤ 1208 := by
  unfold pB
  simp only [List.length_append, cW9]
  split <;> split <;> omega
theorem dK9 : ∀ l : List PP, ok6 l → 2 * l.length ≤ (pS l).length ∧ (pS l).length ≤ 1208 * l.length
  | [], _ => ⟨Nat.le_refl _, Nat.le_refl _⟩
  | p :: l, h => by
    have hp := h p (List.mem_cons_self ..)
    have a := dL1 hp.1 hp.2; have b := dK9 l fun q hq => h q (List.mem_cons_of_mem _ hq)
    rw [cA5, List.length_append, List.length_cons]; omega
theorem pS_len_lo (l : List PP) (h : ok6 l) : 2 * l.length ≤ (pS l).length := (dK9 l h).1
/-- a front of what is written -/
def fkS (X : List PP) (ct : Int) : List UInt8 := (pS X).take (Int.toNat (ct % ((pS X).length : Int)))
theorem fkF {X : List PP} {ct : Int} (h : ok6 X) (h0 : 1 ≤ X.length) (hc : 0 ≤ ct) : ((fkS X ct).length : Int) = ct % ((pS X).length : Int) ∧ (fkS X ct).length < (pS X).length ∧ (prS (fkS X ct)).1.length ≤ X.length ∧ ((prS (fkS X ct)).2 = 11 ∨ ((prS (fkS X ct)).2 = 0 ∧ (prS (fkS X ct)).1 = X.take (prS (fkS X ct)).1.length ∧ (prS (fkS X ct)).1.length < X.length)) := by
  have hl := (pS_len_lo X h)
  have m0 := Int.emod_nonneg ct (show ((pS X).length : Int) ≠ 0 by omega)
  have m1 := Int.emod_lt_of_pos ct (show 0 < ((pS X).length : Int) by omega)
  have hk : ((fkS X ct).length : Int) = ct % ((pS X).length : Int) := by unfold fkS; rw [List.length_take]; omega
  have e : fkS X ct ++ (pS X).drop (Int.toNat (ct % ((pS X).length : Int))) = pS X := List.take_append_drop _ _
  have hf := dC4 X _ _ h e (by rw [List.length_drop]; omega)
  exact ⟨hk, by omega, hf⟩
theorem ok6_app {a b : List PP} (h : ok6 (a ++ b)) : ok6 a ∧ ok6 b := ⟨fun q hq => h q (List.mem_append_left _ hq), fun q hq => h q (List.mem_append_right _ hq)⟩
theorem prB_app {a b : List PP} (h : ∀ q, q ∈ a → prB q) (k : ∀ q, q ∈ b → prB q) : ∀ q, q ∈ a ++ b → prB q := fun q hq => by
  rcases List.mem_append.1 hq with hq | hq
  · exact h q hq
  · exact k q hq
theorem pv1 {s : List UInt8} : (pv s).1 = ((rsL (rsL s)).drop (Int.toNat 0)).take (Int.toNat (vL s - 0)) := by unfold pv; rw [Int.sub_zero, show Int.toNat 0 = 0 from rfl, List.drop_zero]
theorem pv2 {s : List UInt8} {Q : Int} (h : Q = vL s + vL (rsL s)) : (pv s).2 = ((rsL (rsL s)).drop (Int.toNat (vL s))).take (Int.toNat (Q - vL s)) := by
  rw [h]; unfold pv; rw [show vL s + vL (rsL s) - vL s = vL (rsL s) by omega]
theorem pv3 {s : List UInt8} {P : Int} (h : P = vL s + vL (rsL s)) : prs s = ((rsL (rsL s)).drop (Int.toNat P)).take (Int.toNat (((rsL (rsL s)).length : Int) - P)) := by
  rw [h]; unfold prs; rw [List.take_of_length_le (by rw [List.length_drop]; omega)]
theorem bC5 {z : List PP} {i : Int} (h0 : 0 ≤ i) (h1 : i < (z.length : Int)) : nthP z i.toNat ∈ z := by
  have hi : i.toNat < z.length := by omega
  rw [nthP, List.getD_eq_getElem?_getD, List.getElem?_eq_getElem hi]; exact List.getElem_mem hi
theorem ok6_snoc {z : List PP} {i : Int} (h0 : 0 ≤ i) (h1 : i < (z.length : Int)) (h : ok6 (z.take i.toNat)) (a : (nthP z i.toNat).1.length ≤ 600) (b : (nthP z i.toNat).2.length ≤ 600) : ok6 (z.take (i + 1).toNat) := by
  rw [takeP h0 h1]; intro r hr
  rcases List.mem_append.1 hr with hr | hr
  · exact h r hr
  · rw [List.mem_singleton.1 hr]; exact ⟨a, b⟩
theorem ok6_end {z : List PP} {i : Int} (h0 : 0 ≤ i) (h1 : ¬ i < (z.length : Int)) (h : ok6 (z.take i.toNat)) : ok6 z := by
  rw [List.take_of_length_le (by omega)] at h; exact h
theorem dK8 {z : List PP} {i : Int} {T : List UInt8} (h0 : 0 ≤ i) (h1 : i < (z.length : Int)) (h : T = pS (z.take i.toNat)) : T ++ pB (nthP z i.toNat) = pS (z.take (i + 1).toNat) := by
  have e : pS [nthP z i.toNat] = pB (nthP z i.toNat) := by rw [cA5]; exact List.append_nil _
  rw [h, takeP h0 h1, pS_app, e]
theorem pS_end {z : List PP} {i : Int} {T : List UInt8} (h0 : 0 ≤ i) (h1 : ¬ i < (z.length : Int)) (h : T = pS (z.take i.toNat)) : T = pS z := by
  rw [List.take_of_length_le (by omega)] at h; exact h
end Go.AX
