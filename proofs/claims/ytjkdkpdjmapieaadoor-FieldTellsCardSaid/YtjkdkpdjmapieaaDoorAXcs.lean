/- A part of the proof: what an interpreter answers on partly known states is what the program answers. No condition. -/
import Derived.Test.YtjkdkpdjmapieaaDoorAXcf
namespace Go.AX
theorem below_of {w w' : World} (h : Go.RowKit.Below w.heap.size w w') : Below (Fz.lt w.heap.size) w w' :=
  ⟨h.os, h.tape, h.output, h.size, h.block, fun i o hi ho => by
    have hlt : i < w.heap.size := by
      rcases Nat.lt_or_ge i w.heap.size with hh | hh
      · exact hh
      · rw [Array.getElem?_eq_none hh] at hi; cases hi
    exact (h.block i hlt).trans hi⟩
theorem D4 : ∀ {l : List (Nat × aR)} {v : Nat}, isK l v = true → ∃ j, dM l v = some j
  | [], v, h => by simp [isK] at h
  | p :: r, v, h => by
    simp only [isK, Bool.or_eq_true] at h
    unfold dM
    cases hr : dM r v with
    | some k => exact ⟨k, rfl⟩
    | none =>
      rcases h with h | h
      · have := Nat.eq_of_beq_eq_true h; exact ⟨p.2, by simp [this]⟩
      · obtain ⟨j, hj⟩ := D4 h; rw [hr] at hj; cases hj
theorem cfKeep {C : Cx} {g : Nat} {l : LF} {h : LH} {q : Nat × AV} (hl : l.hp = some h) (hq : l.post = [q]) (hpp : h.post = h.pre) (hn : h.n1 = h.n0)
    (hc : ∀ (B : Fz) (ρ : aY) (H : T aR) (w : World) (args : List Value), Fits C h.ng B ρ H w → (∀ v k, (v, k) ∈ h.pre → H.get v = some k) → aF C ρ (l.pre.map (·.2)) args →
      Calls C.P g ⟨args⟩ w fun e w' => ∃ x, e = .returned x ∧ Rel C ρ q.2 x ∧ Below (Fz.lt w.heap.size) w w') : ey C g l := by
  intro h' q' hl' hq' B ρ H w args hF tG hh hpre hfree hargs
  rw [hl] at hl'; injection hl' with hl'; subst hl'
  rw [hq] at hq'; injection hq' with hq' _; subst hq'
  refine (hc B ρ H w args hF hpre hargs).mono fun e w' ⟨x, he, hr, hb⟩ => ⟨x, ρ, he, hr, (hF.kept hb).congr fun v => ?_, Ext.refl _ _ _, ?_⟩
  · rw [mZ hh, hpp, if_neg (by omega)]
    by_cases hk : isK h.pre v = true
    · obtain ⟨j, hg⟩ := D4 hk
      rw [hg, hpre v j (kj hg)]; rfl
    · rw [if_neg hk]
      cases hg : dM h.pre v with
      | some j => exact absurd (iq.2 ⟨j, kj hg⟩) hk
      | none => rfl
  · exact ⟨hb.os, hb.tape, hb.output, hb.size, fun k hk => hb.block k (hF.size k hk), hb.walk⟩
theorem Fits.sup {C : Cx} {ng : Nat} {B : Fz} {ρ ρ' : aY} {H : T aR} {w : World} (h : Fits C ng B ρ H w) (hs : Sub ρ ρ') : Fits C ng B ρ' H w := by
  have hg : ∀ v k r, H.get v = some k → ρ' v = some r → ρ v = some r := fun v k r hv hr => by
    obtain ⟨r1, h1, _⟩ := h.blk v k hv
    have := hs _ _ h1
    rw [hr] at this; injection this with e; subst e; exact h1
  refine ⟨h.size, fun g hg => hs _ _ (h.glob g hg), fun v k hv => ?_, fun v v' k k' r r' h1 h2 h3 h4 => h.inj v v' k k' r r' h1 h2 (hg v k r h1 h3) (hg v' k' r' h2 h4), h.low, h.inv⟩
  obtain ⟨r, h1, o, h2, h3⟩ := h.blk v k hv
  exact ⟨r, hs _ _ h1, o, h2, h3.mono hs⟩
def thI : List Nat → List (Nat × AV)
  | [] => []
  | i :: l => (i, .x i) :: thI l
theorem thI_ok {C : Cx} : ∀ l : List Nat, aw C C (thI l)
  | [], i, c, h => by cases h
  | j :: l, i, c, h => by
    unfold thI jS at h
    cases hb : Nat.beq j i with
    | true =>
      have e := Nat.eq_of_beq_eq_true hb
      subst e
      simp only [hb, cond_true, Option.some.injEq] at h
      subst h; exact aA rfl
    | false =>
      simp only [hb, cond_false] at h
      exact thI_ok l i c h
def sgJ (a : Nat) : Nat → List (Nat × Nat)
  | 0 => []
  | n + 1 => (a, 16777213) :: sgJ (a + 1) n
noncomputable def Ay (l l' : LF) (h h' : LH) (sg : List (Nat × Nat)) : Bool :=
  h.pre.isEmpty && h'.pre.isEmpty && iH (eV 8) (l.pre.map (·.2)) && Ag (l'.pre.map (·.2)) (l.pre.map (·.2)) && Nat.beq h.ng h'.ng && fa h && Nat.ble h.ng h.n0 && Nat.ble h.ng h'.n0 && dE (fun v => Nat.ble h.n1 (jU sg v)) h.ng (h'.n0 - h.ng)
where Ag : List AV → List AV → Bool
  | [], [] => true
  | a :: l, b :: m => eT 8 a b && Ag l m
  | _, _ => false
theorem aM5 : ∀ l m : List AV, Ay.Ag l m = true → l = m
  | [], [], _ => rfl
  | a :: l, b :: m, h => by
    simp only [Ay.Ag, Bool.and_eq_true] at h
    rw [gC 8 _ _ h.1, aM5 l m h.2]
  | [], _ :: _, h => by cases h
  | _ :: _, [], h => by cases h
theorem aQ5 {C : Cx} {ρ ρ' : aY} : ∀ (l : List AV) (vs : List Value), iH (eV 8) l = true → aF C ρ l vs → aF C ρ' l vs
  | [], vs, _, h => by simpa only [aF] using h
  | a :: l, vs, hn, h => by
    simp only [aF] at h ⊢
    obtain ⟨v, vt, e, h1, h2⟩ := h
    have hm := BJ hn
    exact ⟨v, vt, e, oB 8 _ (hm a (List.mem_cons_self ..)) _ h1, aQ5 l vt (by simp only [iH, Bool.and_eq_true] at hn; exact hn.2) h2⟩
theorem pb {C : Cx} {g : Nat} {l l' : LF} {h h' : LH} {q q' : Nat × AV} {ids : List Nat} {sg : List (Nat × Nat)} (hcf : ey C g l) (hl : l.hp = some h) (hq : l.post = [q]) (hl' : l'.hp = some h') (hq' : l'.post = [q'])
    (hb : Ay l l' h h' sg = true) (hx : (inA (thI ids) (cb h.ng h'.n1 sg) 8 q'.2 q.2 && cf h.ng h'.n1 (thI ids) sg (dz h .leaf) h'.post && cd (numsOf h.ng sg h'.post)) = true) : ey C g l' := by
  intro h2 q2 hl2 hq2 B ρ H w args hF tG hh hpre hfree hargs
  rw [hl'] at hl2; injection hl2 with hl2; subst hl2
  rw [hq'] at hq2; injection hq2 with hq2 _; subst hq2
  simp only [Ay, Bool.and_eq_true, List.isEmpty_iff] at hb
  obtain ⟨⟨⟨⟨⟨⟨⟨⟨b1, b2⟩, b3⟩, b4⟩, b5⟩, b6⟩, b7⟩, b8⟩, b9⟩ := hb
  have b4 := aM5 _ _ b4
  have b5 := Nat.eq_of_beq_eq_true b5
  have hlh := ki b6
  have b7 := Nat.le_of_ble_eq_true b7; have b8 := Nat.le_of_ble_eq_true b8
  have hj : ∀ v, h.ng ≤ v → v < h'.n0 → h.n1 ≤ jU sg v := fun v a b => Nat.le_of_ble_eq_true (dO b9 v a (by omega))
  simp only [Bool.and_eq_true] at hx
  have hF0 : Fits C h.ng (Fz.lt w.heap.size) (fun v => if v < h.ng then ρ v else none) .leaf w := by
    refine ⟨fun k hk => hk, fun g hg => ?_, fun v k hv => by simp [T.c9] at hv, fun v v' k k' r r' hv => by simp [T.c9] at hv, fun k hk => ?_, hF.inv⟩
    · simp only [hg, if_true]; exact hF.glob g (by rw [← b5]; exact hg)
    · exact Nat.lt_of_lt_of_le hk hF.nsz
  have hr0 : aF C (fun v => if v < h.ng then ρ v else none) (l.pre.map (·.2)) args := aQ5 _ _ b3 (by rw [← b4]; exact hargs)
  refine (hcf h q hl hq (Fz.lt w.heap.size) _ .leaf w args hF0 b7 hlh (fun v k hm => by rw [b1] at hm; cases hm) (fun v a b => by simp only [show ¬ v < h.ng by omega, if_false]) hr0).mono fun e w' he => ?_
  obtain ⟨x, ρ2, he, hr, hF2, hE, hbel⟩ := he
  have hag : ∀ v, v < h.ng → ρ2 v = ρ v := fun v hv => by rw [hE v (.inl (by omega))]; simp only [hv, if_true]
  have hK : ∀ k, dJ B ρ h' w k → k < w.heap.size := fun k hk => hk.elim (hF.size k) (·.1)
  obtain ⟨u1, u2⟩ := lK (C := C) (D := C) (ρ := ρ) (K := dJ B ρ h' w) rfl rfl rfl hF2 (thI_ok ids) hag (Nat.le_refl _) hx.1.2 hx.2 (fun k hk => Nat.lt_of_lt_of_le (hK k hk) hbel.size)
    (fun k hk => .inl (hF.low k hk)) (fun v k r _ _ _ hk => hK _ hk)
  have hsub : Sub (ren ρ ρ2 h.ng h'.n1 sg) (fun v => if h'.n0 ≤ v ∧ v < h'.n1 then ρ2 (jU sg v) else ρ v) := fun v r hv => by
    unfold ren at hv
    by_cases c1 : h'.n0 ≤ v ∧ v < h'.n1
    · rw [if_pos (by omega)] at hv; simp only [c1, and_self, if_true]; exact hv
    · simp only [c1, if_false]
      by_cases c2 : h.ng ≤ v ∧ v < h'.n1
      · rw [if_pos c2] at hv
        have c3 := hj v c2.1 (by omega)
        have hle := hlh.le
        rw [hE _ (.inr c3)] at hv
        simp only [show ¬ jU sg v < h.ng by omega, if_false] at hv
        cases hv
      · rw [if_neg c2] at hv; exact hv
  have hext : Ext ρ (fun v => if h'.n0 ≤ v ∧ v < h'.n1 then ρ2 (jU sg v) else ρ v) h'.n0 h'.n1 := fun v hv => by simp only [show ¬ (h'.n0 ≤ v ∧ v < h'.n1) by omega, if_false]
  refine ⟨x, _, he, (u2 _ _ _ hx.1.1 hr).mono hsub, Hn hh hF hpre hfree (hbel.less hK) (by rw [← b5]; exact u1.sup hsub) hext (fun v k hm hge => ?_), hext, hbel.less fun k hk => hF.size k hk⟩
  exact ((hU hx.1.2 v k hm).move (by omega)).2
theorem oZ {C : Cx} {x : Bool} : Is C (.b x) (.bool x) := fun ρ v h => by simpa only [Rel] using h
theorem kB0 {C : Cx} {i : Nat} (h : C.nu i = St' []) : aL C (.bytes []) (.x i) := kBytesB (bs := []) .nil (aE h)
def bk (t : Nat) (l : List AV) : aR := .b ⟨t, .l l, 0, 0, 0, false, false⟩
abbrev I6 (n : Nat) : AV := .i .i64 (.ofNat n)
end Go.AX

