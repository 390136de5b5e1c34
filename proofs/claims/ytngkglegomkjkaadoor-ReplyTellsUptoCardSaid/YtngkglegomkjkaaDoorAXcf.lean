/- A part of the proof: what an interpreter answers on partly known states is what the program answers. No condition. -/
import Derived.Test.YtngkglegomkjkaaDoorHXpart4
import Derived.Test.YtngkglegomkjkaaDoorAXro
set_option linter.unusedSimpArgs false
set_option linter.unusedVariables false
namespace Go.AX
noncomputable section
def iP (th : List (Nat × AV)) (q : Nat → Nat → Bool) : List AV → List AV → Bool
 | [], [] => true
 | a :: l, b :: r => inA th q 8 a b && iP th q l r
 | _, _ => false
theorem aN8 {C1 C2 : Cx} {th : List (Nat × AV)} {q : Nat → Nat → Bool} {ρ1 ρ2 : ak} (hT : ∀ a b v, inA th q 8 a b = true → Rel C1 ρ1 b v → Rel C2 ρ2 a v) : ∀ (l r : List AV) (vs : List Value), iP th q l r = true → aH C1 ρ1 r vs → aH C2 ρ2 l vs
 | [], [], vs, _, hr => by simpa only [aH] using hr
 | a :: l, b :: r, vs, h, hr => by
  simp only [iP, Bool.and_eq_true] at h
  simp only [aH] at hr ⊢
  obtain ⟨x, xs, rfl, h1, h2⟩ := hr
  exact ⟨x, xs, rfl, hT a b x h.1 h1, aN8 hT l r xs h.2 h2⟩
 | [], _ :: _, _, h, _ => by cases h
 | _ :: _, [], _, h, _ => by cases h
theorem run_okF2 {C : Cx} {tb : Tab} {B : Fz} (h : bM C tb) {f g nx : Nat} {fi : FI} {l : List AV} {v : AV} {S' : St} {args : List Value} {H : T aZ} {ρ : ak} (hfi : tb.fn.get g = some fi) (hb : fi.body.isSome = true)
 (hc : call tb f g l ⟨H, nx, 0, 0⟩ = some (v, S')) (w : World) (hF : Fits C tb.ng B ρ H w) (av : tb.ng ≤ nx) (hl : aH C ρ l args) (hfree : Free ρ nx S'.next) :
 Calls C.P g ⟨args⟩ w fun e w' => ∃ x ρ', e = .returned x ∧ Rel C ρ' v x ∧ Fits C tb.ng B ρ' S'.heap w' ∧ Ext ρ ρ' nx S'.next ∧ Below B w w' := by
 obtain ⟨fn, hfn⟩ := h.fn g fi hfi
 have hu := FD (B := B) h f g l ⟨H, nx, 0, 0⟩ v S' ρ w args ⟨some 0, .move (.const undef), 0, "", #[], none⟩ ⟨#[undef], []⟩
  (fun a' w' => ∃ ρ', Rel C ρ' v (a'.tmps.getD 0 undef) ∧ Fits C tb.ng B ρ' S'.heap w' ∧ Ext ρ ρ' nx S'.next ∧ Below B w w') (fun _ _ _ => False) Fence.wide 0 tG hc hF av hl hfree
  (fun ρ' x w' r1 r2 r3 r4 => ⟨ρ', by simpa [Act.put] using r1, r2, r3, r4⟩)
 rw [jv hfn.at_ hfn.name (by rw [hfn.body]; exact hb), Oper.uponIn_enter] at hu
 refine Calls.mono (callsIn_wide.1 hu.2) fun e w' he => ?_
 cases e with
 | returned x =>
  obtain ⟨ρ', h1, h2⟩ := he
  exact ⟨x, ρ', rfl, by simpa [Act.put] using h1, h2⟩
 | panicked c => exact he.elim
 | outgrown => obtain ⟨_, _, h⟩ := he; exact h.elim
theorem fits_glob {C : Cx} {ng : Nat} {B : Fz} {ρ : ak} {l : List (Nat × aZ)} {G : T aZ} {w : World} (hF : Fits C ng B ρ (bA l .leaf) w) (hbd : ∀ v k, (v, k) ∈ l → v ≤ 16777213 ∧ ng ≤ v ∧ ij k = true)
 (hG : ∀ v k, G.get v = some k → v < ng ∧ v < C.cE ∧ ∃ e c m, k = lG e c ∧ sR m c ∧ nC C w v e m) : Fits C ng B ρ (bA l G) w := by
 have hb : ∀ u, isK l u = true → u ≤ 16777213 := fun u hu => by obtain ⟨j, hj⟩ := mI.1 hu; exact (hbd u j hj).1
 have hget : ∀ v k, (bA l G).get v = some k → ((bA l .leaf).get v = some k ∧ (v, k) ∈ l) ∨ G.get v = some k := fun v k hv => by
  rw [oG _ _ hb] at hv
  cases hg : ec l v with
  | some j =>
   rw [hg] at hv
   have hj : j = k := by simpa using hv
   subst hj
   exact .inl ⟨by rw [oG _ _ hb, hg]; rfl, xA hg⟩
  | none => rw [hg] at hv; exact .inr (by simpa using hv)
 have hobj : ∀ v k, G.get v = some k → BlkOk C ρ B w k ⟨v, 0, 0, 0⟩ := fun v k hv => by
  obtain ⟨hlt, hst, e, c, m, rfl, ⟨hcw, hcm⟩, arr, fz, h1, h2, h3⟩ := hG v k hv
  refine ⟨_, h1, rfl, ?_⟩
  have hcl : c.len = m.length := by rw [Cells.len_eq, hcm]
  refine ⟨⟨hcw, fun j a hj => ?_⟩, fun h => (by cases h), fun x hx1 hx2 hx3 => ?_, fun h => (by cases h), fun _ => ⟨Nat.le_refl _, rfl, rfl⟩, ?_, fun _ => rfl⟩
  ·have hj : c.toL[j]? = some a := hj
   rw [hcm] at hj
   obtain ⟨x, hx, hr, ho⟩ := h3 j a hj
   exact ⟨x, by simpa using hx, hr.tk, ho⟩
  ·have hx1 : 0 + c.len ≤ x := hx1
   omega
  ·show 0 + c.len ≤ arr.size; omega
 refine ⟨hF.size, hF.glob, fun v k hv => ?_, fun v v' k k' r r' hv hv' h1 h2 h3 => ?_, hF.low, hF.inv⟩
 ·rcases hget v k hv with ⟨h, _⟩ | h
  ·exact hF.blk v k h
  ·exact ⟨⟨v, 0, 0, 0⟩, hF.glob v (hG v k h).1, hobj v k h⟩
 ·have cross : ∀ v v' k k' r r', (bA l .leaf).get v = some k → (v, k) ∈ l → G.get v' = some k' → ρ v = some r → ρ v' = some r' → r.blk = r'.blk → False := fun v v' k k' r r' hv hm hv' h1 h2 h3 => by
   obtain ⟨hlt, hst, _⟩ := hG v' k' hv'
   rw [hF.glob v' hlt] at h2
   injection h2 with h2; subst h2
   obtain ⟨r1, q1, o, q2, q3⟩ := hF.blk v k hv
   rw [h1] at q1; injection q1 with q1; subst q1
   exact aT8 q3 (hbd v k hm).2.2 (h3 ▸ hF.low v' hst)
  rcases hget v k hv with ⟨g1, m1⟩ | g1 <;> rcases hget v' k' hv' with ⟨g2, m2⟩ | g2
  ·exact hF.inj v v' k k' r r' g1 g2 h1 h2 h3
  ·exact (cross v v' k k' r r' g1 m1 g2 h1 h2 h3).elim
  ·exact (cross v' v k' k r' r g2 m2 g1 h2 h1 h3.symm).elim
  ·obtain ⟨l1, _⟩ := hG v k g1
   obtain ⟨l2, _⟩ := hG v' k' g2
   rw [hF.glob v l1] at h1; rw [hF.glob v' l2] at h2
   injection h1 with h1; injection h2 with h2
   subst h1; subst h2; exact .inl h3
def dA (o : Option (AV × St)) (res : AV) (th : List (Nat × AV)) (sg : List (Nat × Nat)) (n0 n1 : Nat) (hp : List (Nat × aZ)) : Bool := match o with
 | some (v, S) => Nat.ble S.next n1 && inA th (cd n0 n1 sg) 8 res v && ck n0 n1 th sg S.heap hp && cj (numsOf n0 sg hp)
 | none => false
def ju (l : LF) (h : LH) (ng n0 n1 : Nat) : Bool := Nat.beq h.ng ng && Nat.beq h.n0 n0 && Nat.beq h.n1 n1
def tg (ng : Nat) : List (Nat × aZ) → Bool
 | [] => true
 | p :: r => Nat.ble p.1 16777213 && (Nat.ble ng p.1 && ij p.2) && tg ng r
theorem aC3 {ng : Nat} : ∀ {l : List (Nat × aZ)}, tg ng l = true → ∀ v k, (v, k) ∈ l → v ≤ 16777213 ∧ ng ≤ v ∧ ij k = true
 | [], _, v, k, h => by cases h
 | p :: r, h, v, k, hm => by
  simp only [tg, Bool.and_eq_true] at h
  rcases List.mem_cons.1 hm with e | hm
  ·subst e; exact ⟨Nat.le_of_ble_eq_true h.1.1, Nat.le_of_ble_eq_true h.1.2.1, h.1.2.2⟩
  ·exact aC3 h.2 v k hm
theorem dQ {C D E : Cx} {g f : Nat} {l : LF} {h : LH} {q : Nat × AV} {ng n0 nh n1 : Nat} {α : Type} {Gf : α → T aZ} {tb : Tab} {fi : FI} {aP : List AV} {hpP hpX : List (Nat × aZ)} {rX : AV} {bD th bB : List (Nat × AV)} {a8 sg : List (Nat × Nat)}
 (hPD : D.P = C.P) (hiD : D.inv = C.inv) (hnD : D.cE = C.cE) (jk : E.P = C.P) (jh : E.inv = C.inv) (iR : E.cE = C.cE)
 (hl : l.hp = some h) (hq : l.post = [q]) (hs : ju l h ng n0 n1 = true) (iQ : (Nat.ble ng n0 && Nat.ble n0 nh && Nat.ble nh n1) = true)
 (cB : bN C D bD) (h0 : (iP bD (cd n0 nh a8) aP (l.pre.map (·.2)) && ck n0 nh bD a8 (bA h.pre .leaf) hpP && cj (numsOf n0 a8 hpP)) = true)
 (cA : bN E C bB) (hx : (inA bB (cd n0 n1 []) 8 q.2 rX && ck n0 n1 bB [] (bA hpX .leaf) h.post && cj (numsOf n0 [] h.post)) = true)
 (hall : bM D tb) (av : tb.ng = ng) (hfi : tb.fn.get g = some fi) (hb : fi.body.isSome = true)
 (hG : (∀ a, Gf a = .leaf) ∧ Nonempty α ∨ (tg ng hpP = true ∧ ∀ w, D.inv w → ∃ a, ∀ v k, (Gf a).get v = some k → v < ng ∧ v < D.cE ∧ ∃ e c m, k = lG e c ∧ sR m c ∧ nC D w v e m))
 (hth : bN D E th) (hrun : ∀ a, dA (call tb f g aP ⟨bA hpP (Gf a), nh, 0, 0⟩) rX th sg n0 n1 hpX = true) : iY C g l := by
 intro h' q' hl' hq' B ρ H w args hF hngn hh hpre hfree hargs
 rw [hl] at hl'; injection hl' with hl'; subst hl'
 rw [hq] at hq'; injection hq' with hq' _; subst hq'
 simp only [ju, Bool.and_eq_true] at hs
 obtain ⟨⟨s1, s2⟩, s3⟩ := hs
 have s1 := Nat.eq_of_beq_eq_true s1; have s2 := Nat.eq_of_beq_eq_true s2; have s3 := Nat.eq_of_beq_eq_true s3
 subst s1; subst s2; subst s3
 simp only [Bool.and_eq_true] at iQ h0 hx
 obtain ⟨⟨z1, z2⟩, z3⟩ := iQ
 have z2 := Nat.le_of_ble_eq_true z2; have z3 := Nat.le_of_ble_eq_true z3
 have ql : ∀ v k, (v, k) ∈ h.pre → v ≤ 16777213 := fun v k hm => by have := hh.pre v (mI.2 ⟨k, hm⟩); have := hh.top; have := hh.le; omega
 have hF0 : Fits C h.ng B ρ (bA h.pre .leaf) w := hF.sub fun v k hv => hpre v k (qW ql hv)
 have jC : ∀ k, B k → da B ρ h w k := fun k hk => .inl hk
 obtain ⟨g1, g2⟩ := mV (C := C) (D := D) (ρ := ρ) (K := da B ρ h w) hPD.symm hiD.symm hnD.symm hF0 cB (fun v _ => rfl) hngn h0.1.2 h0.2
  (fun k hk => by
    rcases hk with hk | hk
    ·exact hF.size k hk
    ·exact hk.1) (fun k hk => jC k (hF.low k (by rw [← hnD]; exact hk))) (fun v k r hm hkr hr hk => by
    rcases hk with hk | hk
    ·exact hk
    ·obtain ⟨⟨j, hj, hjk⟩, _⟩ := iz h0.1.2 v k hm
     exact absurd rfl (hk.2 _ j r (qW ql hj) (by rw [← xV hjk]; exact hkr) hr))
 obtain ⟨a, hFG⟩ : ∃ a, Fits D h.ng (da B ρ h w) (ren ρ ρ h.n0 nh a8) (bA hpP (Gf a)) w := by
  rcases hG with ⟨e, ⟨a⟩⟩ | ⟨ho, hi⟩
  ·exact ⟨a, by rw [e a]; exact g1⟩
  ·obtain ⟨a, ha⟩ := hi w g1.inv
   exact ⟨a, fits_glob g1 (fun v k hm => aC3 ho v k hm) ha⟩
 have hargs' : aH D (ren ρ ρ h.n0 nh a8) aP args := aN8 g2 _ _ _ h0.1.1 hargs
 have hr := hrun a
 cases hc : call tb f g aP ⟨bA hpP (Gf a), nh, 0, 0⟩ with
 | none => rw [hc] at hr; cases hr
 | some p =>
  obtain ⟨v, S'⟩ := p
  rw [hc] at hr
  simp only [dA, Bool.and_eq_true] at hr
  obtain ⟨⟨⟨r1, r2⟩, r3⟩, r4⟩ := hr
  have r1 := Nat.le_of_ble_eq_true r1
  have Ed : Free (ren ρ ρ h.n0 nh a8) nh S'.next := fun v a1 a2 => by unfold ren; rw [if_neg (by omega)]; exact hfree v (by omega) (by omega)
  have ot := run_okF2 (B := da B ρ h w) hall hfi hb hc w (by rw [av]; exact hFG) (by rw [av]; omega) hargs' Ed
  rw [hPD] at ot
  refine Calls.mono ot fun e w' he => ?_
  obtain ⟨x, ρ2, rfl, k1, k2, k3, k4⟩ := he
  rw [av] at k2
  have lF : ∀ v, v < h.n0 → ρ2 v = ρ v := fun v hv => by rw [k3 v (by omega)]; unfold ren; rw [if_neg (by omega)]
  have hKs : ∀ k, da B ρ h w k → k < w'.heap.size := fun k hk => by
   have := k4.size
   rcases hk with hk | hk
   ·have := hF.size k hk; omega
   ·omega
  obtain ⟨u1, u2⟩ := mV (C := D) (D := E) (ρ := ρ) (K := da B ρ h w) (hPD.trans jk.symm) (hiD.trans jh.symm) (hnD.trans iR.symm) k2 hth lF hngn r3 r4 hKs
   (fun k hk => jC k (hF.low k (by rw [← iR]; exact hk))) (fun v k r _ _ _ hk => hk)
  obtain ⟨u3, u4⟩ := mV (C := E) (D := C) (ρ := ρ) (K := da B ρ h w) jk jh iR u1 cA (fun v hv => by unfold ren; rw [if_neg (by omega)]) hngn hx.1.2 hx.2 hKs
   (fun k hk => jC k (hF.low k hk)) (fun v k r _ _ _ hk => hk)
  have hext : Ext ρ (ren ρ (ren ρ ρ2 h.n0 h.n1 sg) h.n0 h.n1 []) h.n0 h.n1 := fun v hv => by unfold ren; rw [if_neg (by omega)]
  exact ⟨x, _, rfl, u4 _ _ _ hx.1.1 (u2 _ _ _ r2 k1), aH4 hh hF hpre hfree k4 u3 hext (fun v k hm hge => ((iz hx.1.2 v k hm).move hge).2), hext, Below.less k4 jC⟩
end
end Go.AX

