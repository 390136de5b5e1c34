/- A part of the proof: what an interpreter answers on partly known states is what the program answers. No condition. -/
import Derived.Test.YtcjanblpboaleaaDoorAXcs
set_option linter.unusedSimpArgs false
set_option linter.unusedVariables false
namespace Go.AX
def Ar (n : Nat) : AV → Bool
 | .sr v => Nat.blt v n
 | a => iE 8 a
theorem aJ9 {C : Cx} {n : Nat} {ρ ρ' : aY} (hr : ∀ v, v < n → ρ' v = ρ v) : ∀ (l : List AV) (vs : List Value), nJ (Ar n) l = true → aJ C ρ l vs → aJ C ρ' l vs
 | [], vs, _, h => by simpa only [aJ] using h
 | a :: l, vs, hn, h => by
  simp only [aJ] at h ⊢
  obtain ⟨v, vt, e, h1, h2⟩ := h
  simp only [nJ, Bool.and_eq_true] at hn
  refine ⟨v, vt, e, ?_, aJ9 hr l vt hn.2 h2⟩
  have hn := hn.1
  cases a with
  | sr u =>
   simp only [Ar] at hn
   have : u < n := Nat.le_of_ble_eq_true hn
   simp only [Rel] at h1 ⊢
   rw [hr u (by omega)]; exact h1
  | _ => exact yC 8 _ (by simpa only [Ar] using hn) _ h1
def bI (C E : Cx) (body : Code) (keep : List Nat) (nt : Nat) (ex : Ex) (ng n0 nh n1 : Nat) {α : Type} (ep : α → List (Nat × AV)) (hp : α → List (Nat × aS)) (dn : List (Nat × AV)) (hpx : List (Nat × aS)) (I : α → Prop) (D : α → (Nat → Value) → Cx) : Prop :=
 ∀ (l : LF) (h : LH) (st : α), I st → l.hp = some h → yo l h nt keep ex ng n0 n1 = true → ∀ (ao : List (Nat × AV)) (ai : List (Nat × Nat)), (∀ X, bE C (D st X) ao) → vP l h nt n0 nh ao ai (ep st) (hp st) = true →
  ∀ (ak : List (Nat × AV)), bE E C ak → AM l h nt n0 n1 ak dn hpx = true → dw C body l
section
variable {C E : Cx} {body : Code} {keep : List Nat} {nt : Nat} {ex : Ex} {ng n0 nh n1 : Nat} {α : Type} {ep : α → List (Nat × AV)} {hp : α → List (Nat × aS)} {dn : List (Nat × AV)} {hpx : List (Nat × aS)} {I : α → Prop} {D : α → (Nat → Value) → Cx}
theorem dW (μ : α → Nat) (hP : ∀ x X, (D x X).P = C.P) (hi : ∀ x X, (D x X).inv = C.inv) (hn : ∀ x X, (D x X).br = C.br) (hX : ∀ x X t, t ∈ keep → (D x X).nu (1000000 + t) = X t)
 (lk : E.P = C.P) (lh : E.inv = C.inv) (jl : E.br = C.br) (hb : ∀ x, (dX (ep x) && ef keep) = true) (hbx : dX dn = true) (jk : (Nat.ble n0 nh && Nat.ble nh n1) = true)
 (hr : ∀ x X, I x → bj E body keep nt ex ng n0 nh n1 ep hp dn hpx I μ D x X) : bI C E body keep nt ex ng n0 nh n1 ep hp dn hpx I D :=
 fun _ _ st hI hl hs _ _ dt h0 _ dr hx => lfOkX I μ D hP hi hn hX lk lh jl hl hs hb hbx jk st hI dt h0 dr hx hr
theorem bI.use {l : LF} {h : LH} (k : bI C E body keep nt ex ng n0 nh n1 ep hp dn hpx I D) (st : α) (hI : I st) (hl : l.hp = some h) (hs : yo l h nt keep ex ng n0 n1 = true) {ao : List (Nat × AV)} {ai : List (Nat × Nat)} (dt : ∀ X, bE C (D st X) ao)
 (h0 : vP l h nt n0 nh ao ai (ep st) (hp st) = true) {ak : List (Nat × AV)} (dr : bE E C ak) (hx : AM l h nt n0 n1 ak dn hpx = true) : dw C body l := k l h st hI hl hs ao ai dt h0 ak dr hx
end
def allRow : List (Nat × aS) → Bool
 | [] => true
 | p :: r => (match p.2 with | .r .. => true | _ => false) && allRow r
theorem aD5 : ∀ {l : List (Nat × aS)}, allRow l = true → ∀ v k, (v, k) ∈ l → ∃ a b c d, k = .r a b c d
 | p :: r, h, v, k, hm => by
  simp only [allRow, Bool.and_eq_true] at h
  rcases List.mem_cons.1 hm with e | hm
  ·subst e
   cases k <;> first | exact ⟨_, _, _, _, rfl⟩ | (exact absurd h.1 (by simp))
  ·exact aD5 h.2 v k hm
noncomputable def cfSmB (l l' : LF) (h h' : LH) (sg : List (Nat × Nat)) : Bool :=
 iG h && Nat.ble h.ng h.n0 && Nat.ble h.n0 h'.n0 && allRow h.pre && nJ (Ar h.n0) (l.pre.map (·.2)) && fF (fun v => Nat.ble h.n1 (gX sg v)) h.n0 (h'.n0 - h.n0)
theorem jz {C : Cx} {g : Nat} {l l' : LF} {h h' : LH} {q q' : Nat × AV} {ids : List Nat} {sg : List (Nat × Nat)} (hcf : kA C g l) (hl : l.hp = some h) (hq : l.post = [q]) (hl' : l'.hp = some h') (hq' : l'.post = [q'])
 (ha : l'.pre = l.pre) (hp : h'.pre = h.pre) (aW : h'.ng = h.ng) (hb : cfSmB l l' h h' sg = true)
 (hx : (inA (lE ids) (dK h.n0 h'.n1 sg) 8 q'.2 q.2 && dN h.n0 h'.n1 (lE ids) sg (ee h (ae h.pre .leaf)) h'.post && dM (numsOf h.n0 sg h'.post)) = true) : kA C g l' := by
 intro h2 q2 hl2 hq2 B ρ H w args hF zu hh hpre hfree hargs
 rw [hl'] at hl2; injection hl2 with hl2; subst hl2
 rw [hq'] at hq2; injection hq2 with hq2 _; subst hq2
 simp only [cfSmB, Bool.and_eq_true] at hb
 obtain ⟨⟨⟨⟨⟨b1, b2⟩, b3⟩, b4⟩, b5⟩, b6⟩ := hb
 have hlh := mX b1
 have b2 := Nat.le_of_ble_eq_true b2; have b3 := Nat.le_of_ble_eq_true b3
 have hj : ∀ v, h.n0 ≤ v → v < h'.n0 → h.n1 ≤ gX sg v := fun v a b => Nat.le_of_ble_eq_true (ft b6 v a (by omega))
 simp only [Bool.and_eq_true] at hx
 have hpre0 := hpre
 rw [hp] at hpre0; rw [ha] at hargs
 have hbd : ∀ u, isK h.pre u = true → u ≤ 16777213 := fun u hu => by
  have := hlh.pre u hu
  have := hlh.le; have := hlh.top
  omega
 have hget : ∀ v k, (ae h.pre .leaf).get v = some k → (v, k) ∈ h.pre := fun v k hv => by
  rw [mW _ _ hbd] at hv
  cases hg : eH h.pre v with
  | some j => rw [hg] at hv; have : j = k := by simpa using hv
              subst this; exact pZ hg
  | none => rw [hg] at hv; simp [T.dH] at hv
 have hgt : ∀ v k, (v, k) ∈ h.pre → (ae h.pre .leaf).get v = some k := fun v k hm => by
  obtain ⟨j, hj⟩ := aF3 (kL.2 ⟨k, hm⟩)
  have h1 := hpre0 v j (pZ hj)
  rw [hpre0 v k hm] at h1; injection h1 with h1; subst h1
  rw [mW _ _ hbd, hj]; rfl
 have hlt : ∀ v k, (v, k) ∈ h.pre → v < h.n0 := fun v k hm => hlh.pre v (kL.2 ⟨k, hm⟩)
 have hK : ∀ k, dL B ρ h' w k → k < w.heap.size := fun k hk => hk.elim (hF.size k) (·.1)
 have hF0 : Fits C h.ng (dL B ρ h' w) (fun v => if v < h.n0 then ρ v else none) (ae h.pre .leaf) w := by
  refine ⟨hK, fun g hg => ?_, fun v k hv => ?_, fun v v' k k' r r' h1 h2 h3 h4 => ?_, fun k hk => .inl (hF.low k hk), hF.inv⟩
  ·simp only [show g < h.n0 by omega, if_true]; exact hF.glob g (by rw [aW]; exact hg)
  ·have hm := hget v k hv
   obtain ⟨r, h1, o, h2, h3⟩ := hF.blk v k (hpre0 v k hm)
   refine ⟨r, by simp only [hlt v k hm, if_true]; exact h1, o, h2, ?_⟩
   obtain ⟨id, e, sz, ro, rfl⟩ := aD5 b4 v k hm
   cases o with
   | cells arr t fz =>
    refine ⟨h3.1, ⟨fun hro => ⟨fun hB => ?_, (h3.2.own hro).2⟩, h3.2.row, h3.2.cap, h3.2.pos⟩⟩
    rcases hB with hB | hB
    ·exact (h3.2.own hro).1 hB
    ·exact hB.2 v (.r id e sz ro) r (by rw [hp]; exact hm) (by simpa only [dh] using hro) h1 rfl
   | _ => exact h3.elim
  ·have m1 := hget v k h1; have m2 := hget v' k' h2
   simp only [hlt v k m1, if_true] at h3
   simp only [hlt v' k' m2, if_true] at h4
   exact hF.inj v v' k k' r r' (hpre0 v k m1) (hpre0 v' k' m2) h3 h4
 refine (hcf h q hl hq (dL B ρ h' w) _ _ w args hF0 b2 hlh hgt (fun v a b => by simp only [show ¬ v < h.n0 by omega, if_false]) (aJ9 (fun v hv => by simp only [hv, if_true]) _ _ b5 hargs)).mono fun e w' he => ?_
 obtain ⟨x, ρ2, he, hr, hF2, hE, hbel⟩ := he
 have hag : ∀ v, v < h.n0 → ρ2 v = ρ v := fun v hv => by rw [hE v (.inl hv)]; simp only [hv, if_true]
 obtain ⟨u1, u2⟩ := kU (C := C) (D := C) (ρ := ρ) (K := dL B ρ h' w) rfl rfl rfl hF2 (vK ids) hag b2 hx.1.2 hx.2 (fun k hk => Nat.lt_of_lt_of_le (hK k hk) hbel.size)
  (fun k hk => .inl (hF.low k hk)) (fun v k r _ _ _ hk => hk)
 have hsub : Sub (ren ρ ρ2 h.n0 h'.n1 sg) (fun v => if h'.n0 ≤ v ∧ v < h'.n1 then ρ2 (gX sg v) else ρ v) := fun v r hv => by
  unfold ren at hv
  by_cases c1 : h'.n0 ≤ v ∧ v < h'.n1
  ·rw [if_pos (by omega)] at hv; simp only [c1, and_self, if_true]; exact hv
  ·simp only [c1, if_false]
   by_cases c2 : h.n0 ≤ v ∧ v < h'.n1
   ·rw [if_pos c2] at hv
    have c3 := hj v c2.1 (by omega)
    have hle := hlh.le
    rw [hE _ (.inr c3)] at hv
    simp only [show ¬ gX sg v < h.n0 by omega, if_false] at hv
    cases hv
   ·rw [if_neg c2] at hv; exact hv
 have hext : Ext ρ (fun v => if h'.n0 ≤ v ∧ v < h'.n1 then ρ2 (gX sg v) else ρ v) h'.n0 h'.n1 := fun v hv => by simp only [show ¬ (h'.n0 ≤ v ∧ v < h'.n1) by omega, if_false]
 refine ⟨x, _, he, (u2 _ _ _ hx.1.1 hr).mono hsub, AB hh hF hpre hfree hbel (by rw [aW]; exact u1.sup hsub) hext (fun v k hm hge => ?_), hext, hbel.less fun k hk => .inl hk⟩
 exact ((iJ hx.1.2 v k hm).move (by omega)).2
noncomputable def Ct (l l' : LF) (h h' : LH) (m : Nat) (ids gH : List Nat) (sg1 sg2 : List (Nat × Nat)) : Bool :=
 (sW l'.keep l.keep && Nat.beq l'.nt l.nt && cn l'.ex l.ex && Nat.beq h'.ng h.ng && iG h && Nat.ble h.ng m && Nat.ble m h.n0 && Nat.ble m h'.n0) &&
 (dX l'.pre && iK (lE ids) (dK m h.n0 sg1) (bD l'.pre l.nt) l.pre && dN m h.n0 (lE ids) sg1 (ae h'.pre .leaf) h.pre && dM (numsOf m sg1 h.pre) && jZ (ae h.pre .leaf) h.pre) &&
 (dX l.post && iK (lE gH) (dK m h'.n1 sg2) (bD l.post l.nt) l'.post && dN m h'.n1 (lE gH) sg2 (ee h (ae h.pre .leaf)) h'.post && dM (numsOf m sg2 h'.post) && fF (fun v => Nat.ble h.n1 (gX sg2 v)) m (h'.n0 - m))
theorem lfShiftH {C : Cx} {body : Code} {l l' : LF} {h h' : LH} {m : Nat} {ids gH : List Nat} {sg1 sg2 : List (Nat × Nat)} (hlaw : qo C body l h) (hb : Ct l l' h h' m ids gH sg1 sg2 = true) : qo C body l' h' := by
 intro Φ ν Q a w B ρ H hΦ hc hF aW hh hpre hfree hsz hnt FX hK
 simp only [Ct, Bool.and_eq_true] at hb
 obtain ⟨⟨⟨⟨⟨⟨⟨⟨⟨a1, a2⟩, a3⟩, a4⟩, a5⟩, a6⟩, a7⟩, a8⟩, ⟨⟨⟨b1, b2⟩, b3⟩, b4⟩, b5⟩, ⟨⟨⟨c1, c2⟩, c3⟩, c4⟩, c5⟩ := hb
 have a1 := Cd a1; have a2 := Nat.eq_of_beq_eq_true a2; have a3 := AO a3; have a4 := Nat.eq_of_beq_eq_true a4
 have hlh := mX a5
 have a6 := Nat.le_of_ble_eq_true a6; have a7 := Nat.le_of_ble_eq_true a7; have a8 := Nat.le_of_ble_eq_true a8
 have hj : ∀ v, m ≤ v → v < h'.n0 → h.n1 ≤ gX sg2 v := fun v x y => Nat.le_of_ble_eq_true (ft c5 v x (by omega))
 have mu : ∀ v k, (v, k) ∈ h'.pre → v ≤ 16777213 := fun v k hm => by have := hh.pre v (kL.2 ⟨k, hm⟩); have := hh.le; have := hh.top; omega
 have hFp : Fits C h.ng B ρ (ae h'.pre .leaf) w := a4 ▸ hF.sub fun v k hv => hpre v k (oC mu hv)
 have hKs : ∀ k, dL B ρ h' w k → k < w.heap.size := fun k hk => hk.elim (hF.size k) (·.1)
 obtain ⟨g1, g2⟩ := kU (C := C) (D := C) (ρ := fun v => if v < m then ρ v else none) (K := dL B ρ h' w) rfl rfl rfl hFp (vK ids) (fun v hv => by simp only [hv, if_true]) a6 b3 b4 hKs
  (fun k hk => .inl (hF.low k hk)) (fun v k r hm hkr hr hk => by
    rcases hk with hk | hk
    ·exact hk
    ·obtain ⟨⟨j, hj, hjk⟩, _⟩ := iJ b3 v k hm
     exact absurd rfl (hk.2 _ j r (oC mu hj) (by rw [← tI hjk]; exact hkr) hr))
 refine hlaw Φ ν Q a w (dL B ρ h' w) _ (ae h.pre .leaf) hΦ hc g1 (by omega) hlh (yU b5) (fun v x y => by unfold ren; rw [if_neg (by omega)]; simp only [show ¬ v < m by omega, if_false]) (by rw [hsz, a2]) (by rw [← a2]; exact hnt) (fun s x hm => ?_) fun ρ2 a' w' k1 k2 k3 k4 k5 k6 k7 => ?_
 ·obtain ⟨b, hb1, hb2⟩ := oI b2 s x hm
  refine g2 _ _ _ hb2 (FX s b ?_)
  rcases kG _ _ (fun p hp => oF b1 p hp) s b hb1 with g | g
  ·exact g
  ·simp [T.dH] at g
 ·have hag : ∀ v, v < m → ρ2 v = ρ v := fun v hv => by rw [k6 v (.inl (by omega))]; unfold ren; rw [if_neg (by omega)]; simp only [hv, if_true]
  obtain ⟨u1, u2⟩ := kU (C := C) (D := C) (ρ := ρ) (K := dL B ρ h' w) rfl rfl rfl k5 (vK gH) hag a6 c3 c4 (fun k hk => Nat.lt_of_lt_of_le (hKs k hk) k7.size)
   (fun k hk => .inl (hF.low k hk)) (fun v k r _ _ _ hk => hk)
  have hsub : Sub (ren ρ ρ2 m h'.n1 sg2) (fun v => if h'.n0 ≤ v ∧ v < h'.n1 then ρ2 (gX sg2 v) else ρ v) := fun v r hv => by
   unfold ren at hv
   by_cases e1 : h'.n0 ≤ v ∧ v < h'.n1
   ·rw [if_pos (by omega)] at hv; simp only [e1, and_self, if_true]; exact hv
   ·simp only [e1, if_false]
    by_cases e2 : m ≤ v ∧ v < h'.n1
    ·rw [if_pos e2] at hv
     have e3 := hj v e2.1 (by omega)
     have hle := hlh.le
     rw [k6 _ (.inr e3)] at hv
     unfold ren at hv
     rw [if_neg (by omega)] at hv
     simp only [show ¬ gX sg2 v < m by omega, if_false] at hv
     cases hv
    ·rw [if_neg e2] at hv; exact hv
  have hext : Ext ρ (fun v => if h'.n0 ≤ v ∧ v < h'.n1 then ρ2 (gX sg2 v) else ρ v) h'.n0 h'.n1 := fun v hv => by simp only [show ¬ (h'.n0 ≤ v ∧ v < h'.n1) by omega, if_false]
  have hfin := hK _ a' w' k1 (fun s hs => k2 s (by rw [← a1]; exact hs)) (fun s x hm => ?_) k4 (AB hh hF hpre hfree k7 (by rw [a4]; exact u1.sup hsub) hext (fun v k hm hge => ((iJ c3 v k hm).move (by omega)).2)) hext (k7.less fun k hk => .inl hk)
  ·rw [← a3]; exact hfin
  ·obtain ⟨b, hb1, hb2⟩ := oI c2 s x hm
   refine (u2 _ _ _ hb2 ?_).mono hsub
   rcases kG _ _ (fun p hp => oF c1 p hp) s b hb1 with g | g
   ·exact k3 s b g
   ·simp [T.dH] at g
theorem mZ {C : Cx} {body : Code} {l l' : LF} {h h' : LH} {m : Nat} {ids gH : List Nat} {sg1 sg2 : List (Nat × Nat)} (hlaw : dw C body l) (hl : l.hp = some h) (hl' : l'.hp = some h') (hb : Ct l l' h h' m ids gH sg1 sg2 = true) : dw C body l' :=
 dw.h hl' (lfShiftH (hlaw.toH hl) hb)
end Go.AX

