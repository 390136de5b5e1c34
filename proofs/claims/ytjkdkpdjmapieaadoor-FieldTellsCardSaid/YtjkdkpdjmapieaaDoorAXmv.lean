/- A part of the proof: what an interpreter answers on partly known states is what the program answers. No condition. -/
import Derived.Test.YtjkdkpdjmapieaaDoorAXcs
set_option linter.unusedSimpArgs false
set_option linter.unusedVariables false
namespace Go.AX
def BB (n : Nat) : AV → Bool
  | .sr v => Nat.blt v n
  | a => eV 8 a
def BI : List (Nat × aR) → Bool
  | [] => true
  | p :: r => cg p.2 && BI r
theorem aN2 : ∀ {l : List (Nat × aR)}, BI l = true → ∀ v k, (v, k) ∈ l → cg k = true
  | p :: r, h, v, k, hm => by
    simp only [BI, Bool.and_eq_true] at h
    rcases List.mem_cons.1 hm with e | hm
    · subst e; exact h.1
    · exact aN2 h.2 v k hm
theorem aQ6 {C : Cx} {n : Nat} {ρ ρ' : aY} (hr : ∀ v, v < n → ρ' v = ρ v) : ∀ (l : List AV) (vs : List Value), iH (BB n) l = true → aF C ρ l vs → aF C ρ' l vs
  | [], vs, _, h => by simpa only [aF] using h
  | a :: l, vs, hn, h => by
    simp only [aF] at h ⊢
    obtain ⟨v, vt, e, h1, h2⟩ := h
    simp only [iH, Bool.and_eq_true] at hn
    refine ⟨v, vt, e, ?_, aQ6 hr l vt hn.2 h2⟩
    have hn := hn.1
    cases a with
    | sr u =>
      simp only [BB] at hn
      have : u < n := Nat.le_of_ble_eq_true hn
      simp only [Rel] at h1 ⊢
      rw [hr u (by omega)]; exact h1
    | _ => exact oB 8 _ (by simpa only [BB] using hn) _ h1
noncomputable def cfMvB (l : LF) (h : LH) (q : Nat × AV) : Bool := fa h && Nat.ble h.ng h.n0 && eV 8 q.2 && BI h.pre && iH (BB h.n0) (l.pre.map (·.2))
theorem pc {C : Cx} {g : Nat} {l l' : LF} {h h' : LH} {q : Nat × AV} (hcf : ey C g l) (hl : l.hp = some h) (hq : l.post = [q]) (hl' : l'.hp = some h') (hq' : l'.post = [q])
    (ha : l'.pre = l.pre) (hp : h'.pre = h.pre) (hpp : h'.post = h'.pre) (hn : h'.n1 = h'.n0) (aX : h'.ng = h.ng) (hb : cfMvB l h q = true) : ey C g l' := by
  simp only [cfMvB, Bool.and_eq_true] at hb
  obtain ⟨⟨⟨⟨b1, b2⟩, b3⟩, b4⟩, b5⟩ := hb
  have hlh := ki b1
  have b2 := Nat.le_of_ble_eq_true b2
  refine cfKeep hl' hq' hpp hn fun B ρ H w args hF hpre hr => ?_
  rw [hp] at hpre; rw [ha] at hr; rw [aX] at hF
  have hbd : ∀ u, isK h.pre u = true → u ≤ 16777213 := fun u hu => by
    have := hlh.pre u hu
    have := hlh.le; have := hlh.top
    omega
  have hget : ∀ v k, (ay h.pre .leaf).get v = some k → (v, k) ∈ h.pre := fun v k hv => by
    rw [kg _ _ hbd] at hv
    cases hg : dM h.pre v with
    | some j => rw [hg] at hv; have : j = k := by simpa using hv
                subst this; exact kj hg
    | none => rw [hg] at hv; simp [T.c9] at hv
  have hgt : ∀ v k, (v, k) ∈ h.pre → (ay h.pre .leaf).get v = some k := fun v k hm => by
    obtain ⟨j, hj⟩ := D4 (iq.2 ⟨k, hm⟩)
    have h1 := hpre v j (kj hj)
    rw [hpre v k hm] at h1; injection h1 with h1; subst h1
    rw [kg _ _ hbd, hj]; rfl
  have hlt : ∀ v k, (v, k) ∈ h.pre → v < h.n0 := fun v k hm => hlh.pre v (iq.2 ⟨k, hm⟩)
  have hF0 : Fits C h.ng (Fz.lt w.heap.size) (fun v => if v < h.n0 then ρ v else none) (ay h.pre .leaf) w := by
    refine ⟨fun k hk => hk, fun g hg => ?_, fun v k hv => ?_, fun v v' k k' r r' h1 h2 h3 h4 => ?_, fun k hk => ?_, hF.inv⟩
    · simp only [show g < h.n0 by omega, if_true]; exact hF.glob g hg
    · have hm := hget v k hv
      obtain ⟨r, h1, o, h2, h3⟩ := hF.blk v k (hpre v k hm)
      refine ⟨r, by simp only [hlt v k hm, if_true]; exact h1, o, h2, ?_⟩
      have hro := aN2 b4 v k hm
      cases k with
      | r id e sz ro =>
        simp only [cg] at hro
        subst hro
        cases o with
        | cells arr t fz => exact ⟨h3.1, ⟨fun h => (by cases h), h3.2.row, h3.2.cap, h3.2.pos⟩⟩
        | _ => exact h3.elim
      | _ => cases hro
    · have m1 := hget v k h1; have m2 := hget v' k' h2
      simp only [hlt v k m1, if_true] at h3
      simp only [hlt v' k' m2, if_true] at h4
      exact hF.inj v v' k k' r r' (hpre v k m1) (hpre v' k' m2) h3 h4
    · exact Nat.lt_of_lt_of_le hk hF.nsz
  refine (hcf h q hl hq (Fz.lt w.heap.size) _ _ w args hF0 b2 hlh hgt (fun v a b => by simp only [show ¬ v < h.n0 by omega, if_false]) (aQ6 (fun v hv => by simp only [hv, if_true]) _ _ b5 hr)).mono fun e w' he => ?_
  obtain ⟨x, ρ2, he, hr2, _, _, hbel⟩ := he
  exact ⟨x, he, oB 8 _ b3 _ hr2, hbel⟩
def ax (C E : Cx) (body : Code) (keep : List Nat) (nt : Nat) (ex : Ex) (ng n0 nh n1 : Nat) {α : Type} (ep : α → List (Nat × AV)) (hp : α → List (Nat × aR)) (dD : List (Nat × AV)) (hpx : List (Nat × aR)) (I : α → Prop) (D : α → (Nat → Value) → Cx) : Prop :=
  ∀ (l : LF) (h : LH) (st : α), I st → l.hp = some h → yY l h nt keep ex ng n0 n1 = true → ∀ (ao : List (Nat × AV)) (aj : List (Nat × Nat)), (∀ X, aw C (D st X) ao) → vu l h nt n0 nh ao aj (ep st) (hp st) = true →
    ∀ (ak : List (Nat × AV)), aw E C ak → Ad l h nt n0 n1 ak dD hpx = true → dQ C body l
section
variable {C E : Cx} {body : Code} {keep : List Nat} {nt : Nat} {ex : Ex} {ng n0 nh n1 : Nat} {α : Type} {ep : α → List (Nat × AV)} {hp : α → List (Nat × aR)} {dD : List (Nat × AV)} {hpx : List (Nat × aR)} {I : α → Prop} {D : α → (Nat → Value) → Cx}
theorem cF (μ : α → Nat) (hP : ∀ x X, (D x X).P = C.P) (hi : ∀ x X, (D x X).inv = C.inv) (hn : ∀ x X, (D x X).bU = C.bU) (hX : ∀ x X t, t ∈ keep → (D x X).nu (1000000 + t) = X t)
    (ju : E.P = C.P) (js : E.inv = C.inv) (iB : E.bU = C.bU) (hb : ∀ x, (cG (ep x) && cO keep) = true) (hbx : cG dD = true) (iA : (Nat.ble n0 nh && Nat.ble nh n1) = true)
    (hr : ∀ x X, I x → a6 E body keep nt ex ng n0 nh n1 ep hp dD hpx I μ D x X) : ax C E body keep nt ex ng n0 nh n1 ep hp dD hpx I D :=
  fun _ _ st hI hl hs _ _ cq h0 _ cn hx => lfOkX I μ D hP hi hn hX ju js iB hl hs hb hbx iA st hI cq h0 cn hx hr
theorem ax.use {l : LF} {h : LH} (k : ax C E body keep nt ex ng n0 nh n1 ep hp dD hpx I D) (st : α) (hI : I st) (hl : l.hp = some h) (hs : yY l h nt keep ex ng n0 n1 = true) {ao : List (Nat × AV)} {aj : List (Nat × Nat)} (cq : ∀ X, aw C (D st X) ao)
    (h0 : vu l h nt n0 nh ao aj (ep st) (hp st) = true) {ak : List (Nat × AV)} (cn : aw E C ak) (hx : Ad l h nt n0 n1 ak dD hpx = true) : dQ C body l := k l h st hI hl hs ao aj cq h0 ak cn hx
end
end Go.AX

