/- A part of the proof: an interpreter of the model's own code on partly known states, and that what it answers is what the program answers. No condition of its own. -/
import Derived.Test.YtfoalkoifcpdmaaAXcf
namespace Go.AX
theorem Fits.sup {C : Cx} {ng : Nat} {B : Fz} {ρ ρ' : Rho} {H : T Ent} {w : World} (h : Fits C ng B ρ H w) (hs : Sub ρ ρ') : Fits C ng B ρ' H w := by
  have hg : ∀ v k r, H.get v = some k → ρ' v = some r → ρ v = some r := fun v k r hv hr => by
    obtain ⟨r1, h1, _⟩ := h.blk v k hv
    have := hs _ _ h1
    rw [hr] at this; injection this with e; subst e; exact h1
  refine ⟨h.size, fun g hg => hs _ _ (h.glob g hg), fun v k hv => ?_, fun v v' k k' r r' h1 h2 h3 h4 => h.inj v v' k k' r r' h1 h2 (hg v k r h1 h3) (hg v' k' r' h2 h4), h.low, h.inv⟩
  obtain ⟨r, h1, o, h2, h3⟩ := h.blk v k hv
  exact ⟨r, hs _ _ h1, o, h2, h3.mono hs⟩
def thI : List Nat → List (Nat × AV)
  | [] => []
  | i :: l => (i, .x i) :: thI l
theorem thI_ok {C : Cx} : ∀ l : List Nat, ThOk C C (thI l)
  | [], i, c, h => by cases h
  | j :: l, i, c, h => by
    unfold thI thAt at h
    cases hb : Nat.beq j i with
    | true =>
      have e := Nat.eq_of_beq_eq_true hb
      subst e
      simp only [hb, cond_true, Option.some.injEq] at h
      subst h; exact isX rfl
    | false =>
      simp only [hb, cond_false] at h
      exact thI_ok l i c h
def sgJ (a : Nat) : Nat → List (Nat × Nat)
  | 0 => []
  | n + 1 => (a, 16777213) :: sgJ (a + 1) n
noncomputable def cfShB (l l' : LF) (h h' : LH) (sg : List (Nat × Nat)) : Bool :=
  h.pre.isEmpty && h'.pre.isEmpty && allP (noR 8) (l.pre.map (·.2)) && dG7 (l'.pre.map (·.2)) (l.pre.map (·.2)) && Nat.beq h.ng h'.ng && lhOk h && Nat.ble h.ng h.n0 && Nat.ble h.ng h'.n0 && allN (fun v => Nat.ble h.n1 (sgAt sg v)) h.ng (h'.n0 - h.ng)
where dG7 : List AV → List AV → Bool
  | [], [] => true
  | a :: l, b :: m => aW8 8 a b && dG7 l m
  | _, _ => false
theorem cT8 : ∀ l m : List AV, cfShB.dG7 l m = true → l = m
  | [], [], _ => rfl
  | a :: l, b :: m, h => by
    simp only [cfShB.dG7, Bool.and_eq_true] at h
    rw [aI1 8 _ _ h.1, cT8 l m h.2]
  | [], _ :: _, h => by cases h
  | _ :: _, [], h => by cases h
theorem dC0 {C : Cx} {ρ ρ' : Rho} : ∀ (l : List AV) (vs : List Value), allP (noR 8) l = true → RelL C ρ l vs → RelL C ρ' l vs
  | [], vs, _, h => by simpa only [RelL] using h
  | a :: l, vs, hn, h => by
    simp only [RelL] at h ⊢
    obtain ⟨v, vt, e, h1, h2⟩ := h
    have hm := bN6 hn
    exact ⟨v, vt, e, cD7 8 _ (hm a (List.mem_cons_self ..)) _ h1, dC0 l vt (by simp only [allP, Bool.and_eq_true] at hn; exact hn.2) h2⟩
theorem dP7 {C : Cx} {g : Nat} {l l' : LF} {h h' : LH} {q q' : Nat × AV} {ids : List Nat} {sg : List (Nat × Nat)} (hcf : CfOk C g l) (hl : l.hp = some h) (hq : l.post = [q]) (hl' : l'.hp = some h') (hq' : l'.post = [q'])
    (hb : cfShB l l' h h' sg = true) (hx : (inA (thI ids) (sgB h.ng h'.n1 sg) 8 q'.2 q.2 && aK1 h.ng h'.n1 (thI ids) sg (aJ8 h .leaf) h'.post && aJ7 (numsOf h.ng sg h'.post)) = true) : CfOk C g l' := by
  intro h2 q2 hl2 hq2 B ρ H w args hF hngn hh hpre hfree hargs
  rw [hl'] at hl2; injection hl2 with hl2; subst hl2
  rw [hq'] at hq2; injection hq2 with hq2 _; subst hq2
  simp only [cfShB, Bool.and_eq_true, List.isEmpty_iff] at hb
  obtain ⟨⟨⟨⟨⟨⟨⟨⟨b1, b2⟩, b3⟩, b4⟩, b5⟩, b6⟩, b7⟩, b8⟩, b9⟩ := hb
  have b4 := cT8 _ _ b4
  have b5 := Nat.eq_of_beq_eq_true b5
  have hlh := bA2 b6
  have b7 := Nat.le_of_ble_eq_true b7; have b8 := Nat.le_of_ble_eq_true b8
  have hj : ∀ v, h.ng ≤ v → v < h'.n0 → h.n1 ≤ sgAt sg v := fun v a b => Nat.le_of_ble_eq_true (dQ9 b9 v a (by omega))
  simp only [Bool.and_eq_true] at hx
  have hF0 : Fits C h.ng (Fz.lt w.heap.size) (fun v => if v < h.ng then ρ v else none) .leaf w := by
    refine ⟨fun k hk => hk, fun g hg => ?_, fun v k hv => by simp [T.aD7] at hv, fun v v' k k' r r' hv => by simp [T.aD7] at hv, fun k hk => ?_, hF.inv⟩
    · simp only [hg, if_true]; exact hF.glob g (by rw [← b5]; exact hg)
    · exact Nat.lt_of_lt_of_le hk hF.nsz
  have hr0 : RelL C (fun v => if v < h.ng then ρ v else none) (l.pre.map (·.2)) args := dC0 _ _ b3 (by rw [← b4]; exact hargs)
  refine (hcf h q hl hq (Fz.lt w.heap.size) _ .leaf w args hF0 b7 hlh (fun v k hm => by rw [b1] at hm; cases hm) (fun v a b => by simp only [show ¬ v < h.ng by omega, if_false]) hr0).mono fun e w' he => ?_
  obtain ⟨x, ρ2, he, hr, hF2, hE, hbel⟩ := he
  have hag : ∀ v, v < h.ng → ρ2 v = ρ v := fun v hv => by rw [hE v (.inl (by omega))]; simp only [hv, if_true]
  have hK : ∀ k, frz B ρ h' w k → k < w.heap.size := fun k hk => hk.elim (hF.size k) (·.1)
  obtain ⟨u1, u2⟩ := aG6 (C := C) (D := C) (ρ := ρ) (K := frz B ρ h' w) rfl rfl rfl hF2 (thI_ok ids) hag (Nat.le_refl _) hx.1.2 hx.2 (fun k hk => Nat.lt_of_lt_of_le (hK k hk) hbel.size)
    (fun k hk => .inl (hF.low k hk)) (fun v k r _ _ _ hk => hK _ hk)
  have hsub : Sub (ren ρ ρ2 h.ng h'.n1 sg) (fun v => if h'.n0 ≤ v ∧ v < h'.n1 then ρ2 (sgAt sg v) else ρ v) := fun v r hv => by
    unfold ren at hv
    by_cases c1 : h'.n0 ≤ v ∧ v < h'.n1
    · rw [if_pos (by omega)] at hv; simp only [c1, and_self, if_true]; exact hv
    · simp only [c1, if_false]
      by_cases c2 : h.ng ≤ v ∧ v < h'.n1
      · rw [if_pos c2] at hv
        have c3 := hj v c2.1 (by omega)
        have hle := hlh.le
        rw [hE _ (.inr c3)] at hv
        simp only [show ¬ sgAt sg v < h.ng by omega, if_false] at hv
        cases hv
      · rw [if_neg c2] at hv; exact hv
  have hext : Ext ρ (fun v => if h'.n0 ≤ v ∧ v < h'.n1 then ρ2 (sgAt sg v) else ρ v) h'.n0 h'.n1 := fun v hv => by simp only [show ¬ (h'.n0 ≤ v ∧ v < h'.n1) by omega, if_false]
  refine ⟨x, _, he, (u2 _ _ _ hx.1.1 hr).mono hsub, bS4 hh hF hpre hfree (hbel.less hK) (by rw [← b5]; exact u1.sup hsub) hext (fun v k hm hge => ?_), hext, hbel.less fun k hk => hF.size k hk⟩
  exact ((aG4 hx.1.2 v k hm).move (by omega)).2
theorem kB0 {C : Cx} {i : Nat} (h : C.nu i = St' []) : HOk C (.bytes []) (.x i) := bA7 (bs := []) .nil (denX h)
def bk (t : Nat) (l : List AV) : Ent := .b ⟨t, .l l, 0, 0, 0, false, false⟩
abbrev I6 (n : Nat) : AV := .i .i64 (.ofNat n)
end Go.AX

