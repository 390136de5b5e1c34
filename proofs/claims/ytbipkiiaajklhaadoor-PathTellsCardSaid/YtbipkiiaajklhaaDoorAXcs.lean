/- A part of the proof: an interpreter of the model's own code on partly known states, and that what it answers is what the program answers. No condition of its own. -/
import Derived.Test.YtbipkiiaajklhaaDoorAXcf
namespace Go.AX
theorem dU7 {w w' : World} (h : Go.RowKit.Below w.heap.size w w') : Below (Fz.lt w.heap.size) w w' :=
  ⟨h.os, h.tape, h.output, h.size, h.block, fun i o hi ho => by
    have hlt : i < w.heap.size := by
      rcases Nat.lt_or_ge i w.heap.size with hh | hh
      · exact hh
      · rw [Array.getElem?_eq_none hh] at hi; cases hi
    exact (h.block i hlt).trans hi⟩
theorem cR1 : ∀ {l : List (Nat × Ent)} {v : Nat}, isK l v = true → ∃ j, aO6 l v = some j
  | [], v, h => by simp [isK] at h
  | p :: r, v, h => by
    simp only [isK, Bool.or_eq_true] at h
    unfold aO6
    cases hr : aO6 r v with
    | some k => exact ⟨k, rfl⟩
    | none =>
      rcases h with h | h
      · have := Nat.eq_of_beq_eq_true h; exact ⟨p.2, by simp [this]⟩
      · obtain ⟨j, hj⟩ := cR1 h; rw [hr] at hj; cases hj
theorem cfKeep {C : Cx} {g : Nat} {l : LF} {h : LH} {q : Nat × AV} (hl : l.hp = some h) (hq : l.post = [q]) (hpp : h.post = h.pre) (hn : h.n1 = h.n0)
    (hc : ∀ (B : Fz) (ρ : Rho) (H : T Ent) (w : World) (args : List Value), Fits C h.ng B ρ H w → (∀ v k, (v, k) ∈ h.pre → H.get v = some k) → RelL C ρ (l.pre.map (·.2)) args →
      Calls C.P g ⟨args⟩ w fun e w' => ∃ x, e = .returned x ∧ Rel C ρ q.2 x ∧ Below (Fz.lt w.heap.size) w w') : CfOk C g l := by
  intro h' q' hl' hq' B ρ H w args hF hngn hh hpre hfree hargs
  rw [hl] at hl'; injection hl' with hl'; subst hl'
  rw [hq] at hq'; injection hq' with hq' _; subst hq'
  refine (hc B ρ H w args hF hpre hargs).mono fun e w' ⟨x, he, hr, hb⟩ => ⟨x, ρ, he, hr, (hF.kept hb).congr fun v => ?_, Ext.refl _ _ _, ?_⟩
  · rw [aJ7 hh, hpp, if_neg (by omega)]
    by_cases hk : isK h.pre v = true
    · obtain ⟨j, hg⟩ := cR1 hk
      rw [hg, hpre v j (aP6 hg)]; rfl
    · rw [if_neg hk]
      cases hg : aO6 h.pre v with
      | some j => exact absurd (aU5.2 ⟨j, aP6 hg⟩) hk
      | none => rfl
  · exact ⟨hb.os, hb.tape, hb.output, hb.size, fun k hk => hb.block k (hF.size k hk), hb.walk⟩
theorem dY1 {C : Cx} {B : Fz} {ρ : Rho} {w : World} {ng : Nat} {H : T Ent} (hF : Fits C ng B ρ H w) {v id e : Nat} {ro : Bool} (hv : H.get v = some (.r id e 1 ro)) {x : Value} (hx : Rel C ρ (.sr v) x)
    {xs : List ByteArray} (hid : C.nu id = .tuple ⟨xs.map Value.string⟩) :
    ∃ bk o c, x = .slice (some ⟨bk, o, none⟩) xs.length c ∧ xs.length ≤ c ∧ bk < w.heap.size ∧ ∀ (j : Nat) y, xs[j]? = some y → w.cell? ⟨bk, o + j, none⟩ = some (.string y) := by
  simp only [Rel] at hx
  obtain ⟨r, hr, hc, rfl⟩ := hx
  obtain ⟨arr, t, fz, h1, _, hR⟩ := aM2 hF hv hr
  obtain ⟨cs, h2, h3, h4⟩ := hR.row
  rw [hid] at h2
  injection h2 with h2
  have h2 : xs.map Value.string = cs := congrArg Array.toList h2
  subst h2
  rw [List.length_map, Nat.mul_one] at h3
  refine ⟨r.blk, r.base, r.es, by rw [h3], by omega, ?_, fun j y hy => ?_⟩
  · rcases Nat.lt_or_ge r.blk w.heap.size with hh | hh
    · exact hh
    · rw [Array.getElem?_eq_none hh] at h1; cases h1
  · have := (h4 j (.string y) (by rw [List.getElem?_map, hy]; rfl)).1
    simp only [World.cell?, h1]
    simpa using this
theorem cfJoin {C : Cx} {g : Nat} {l : LF} {h : LH} {v id e b j : Nat} {ro : Bool} {sp : AV} {sep : ByteArray} {xs : List ByteArray} {out : ByteArray}
    (hl : l.hp = some h) (hq : l.post = [(b, .x j)]) (hp : l.pre.map (·.2) = [.sr v, sp]) (hpre : h.pre = [(v, .r id e 1 ro)]) (hpost : h.post = h.pre) (hn : h.n1 = h.n0)
    (hid : C.nu id = .tuple ⟨xs.map Value.string⟩) (hsp : ∀ ρ y, Rel C ρ sp y → y = .string sep) (hj : ∀ ρ, Rel C ρ (.x j) (.string out))
    (hc : ∀ (bk o c : Nat) (w : World), C.inv w → (∀ (j : Nat) x, xs[j]? = some x → w.cell? ⟨bk, o + j, none⟩ = some (.string x)) → bk < w.heap.size → xs.length ≤ c →
      Calls C.P g #[.slice (some ⟨bk, o, none⟩) xs.length c, .string sep] w fun e w' => e = .returned (.string out) ∧ Go.RowKit.Below w.heap.size w w') : CfOk C g l := by
  refine cfKeep hl hq hpost hn fun B ρ H w args hF hh hr => ?_
  rw [hp] at hr
  obtain ⟨x, y, rfl, hx, hy⟩ := rel2 hr
  obtain ⟨bk, o, c, rfl, h1, h2, h3⟩ := dY1 hF (hh v _ (by rw [hpre]; exact List.mem_cons_self ..)) hx hid
  have := hsp ρ y hy
  subst this
  exact (hc bk o c w hF.inv h3 h2 h1).mono fun e w' ⟨he, hb⟩ => ⟨_, he, hj ρ, dU7 hb⟩
theorem cfEq {C : Cx} {g : Nat} {l : LF} {h : LH} {v id e u id' e' b j : Nat} {ro ro' : Bool} {xs ys : List ByteArray}
    (hl : l.hp = some h) (hq : l.post = [(b, .x j)]) (hp : l.pre.map (·.2) = [.sr v, .sr u]) (hpre : h.pre = [(v, .r id e 1 ro), (u, .r id' e' 1 ro')]) (hpost : h.post = h.pre) (hn : h.n1 = h.n0)
    (hid : C.nu id = .tuple ⟨xs.map Value.string⟩) (hid' : C.nu id' = .tuple ⟨ys.map Value.string⟩) (hj : ∀ ρ, Rel C ρ (.x j) (.bool (decide (xs = ys))))
    (hc : ∀ (b1 o1 c b2 o2 d : Nat) (w : World), C.inv w → (∀ (j : Nat) x, xs[j]? = some x → w.cell? ⟨b1, o1 + j, none⟩ = some (.string x)) → (∀ (j : Nat) x, ys[j]? = some x → w.cell? ⟨b2, o2 + j, none⟩ = some (.string x)) →
      Calls C.P g #[.slice (some ⟨b1, o1, none⟩) xs.length c, .slice (some ⟨b2, o2, none⟩) ys.length d] w fun e w' => e = .returned (.bool (decide (xs = ys))) ∧ Go.RowKit.Below w.heap.size w w') : CfOk C g l := by
  refine cfKeep hl hq hpost hn fun B ρ H w args hF hh hr => ?_
  rw [hp] at hr
  obtain ⟨x, y, rfl, hx, hy⟩ := rel2 hr
  obtain ⟨bk, o, c, rfl, h1, h2, h3⟩ := dY1 hF (hh v _ (by rw [hpre]; exact List.mem_cons_self ..)) hx hid
  obtain ⟨bk', o', c', rfl, h1', h2', h3'⟩ := dY1 hF (hh u _ (by rw [hpre]; exact List.mem_cons_of_mem _ (List.mem_cons_self ..))) hy hid'
  exact (hc bk o c bk' o' c' w hF.inv h3 h3').mono fun e w' ⟨he, hb⟩ => ⟨_, he, hj ρ, dU7 hb⟩
theorem Fits.sup {C : Cx} {ng : Nat} {B : Fz} {ρ ρ' : Rho} {H : T Ent} {w : World} (h : Fits C ng B ρ H w) (hs : Sub ρ ρ') : Fits C ng B ρ' H w := by
  have hg : ∀ v k r, H.get v = some k → ρ' v = some r → ρ v = some r := fun v k r hv hr => by
    obtain ⟨r1, h1, _⟩ := h.blk v k hv
    have := hs _ _ h1
    rw [hr] at this; injection this with e; subst e; exact h1
  refine ⟨h.size, fun g hg => hs _ _ (h.glob g hg), fun v k hv => ?_, fun v v' k k' r r' h1 h2 h3 h4 => h.inj v v' k k' r r' h1 h2 (hg v k r h1 h3) (hg v' k' r' h2 h4), h.low, h.inv⟩
  obtain ⟨r, h1, o, h2, h3⟩ := h.blk v k hv
  exact ⟨r, hs _ _ h1, o, h2, h3.mono hs⟩
def thI : List Nat → List (Nat × AV)
  | [] => []
  | i :: l => (i, .x i) :: thI l
theorem thI_ok {C : Cx} : ∀ l : List Nat, ThOk C C (thI l)
  | [], i, c, h => by cases h
  | j :: l, i, c, h => by
    unfold thI thAt at h
    cases hb : Nat.beq j i with
    | true =>
      have e := Nat.eq_of_beq_eq_true hb
      subst e
      simp only [hb, cond_true, Option.some.injEq] at h
      subst h; exact isX rfl
    | false =>
      simp only [hb, cond_false] at h
      exact thI_ok l i c h
def sgJ (a : Nat) : Nat → List (Nat × Nat)
  | 0 => []
  | n + 1 => (a, 16777213) :: sgJ (a + 1) n
noncomputable def cfShB (l l' : LF) (h h' : LH) (sg : List (Nat × Nat)) : Bool :=
  h.pre.isEmpty && h'.pre.isEmpty && allP (noR 8) (l.pre.map (·.2)) && dU0 (l'.pre.map (·.2)) (l.pre.map (·.2)) && Nat.beq h.ng h'.ng && lhOk h && Nat.ble h.ng h.n0 && Nat.ble h.ng h'.n0 && allN (fun v => Nat.ble h.n1 (sgAt sg v)) h.ng (h'.n0 - h.ng)
where dU0 : List AV → List AV → Bool
  | [], [] => true
  | a :: l, b :: m => aX3 8 a b && dU0 l m
  | _, _ => false
theorem cS7 : ∀ l m : List AV, cfShB.dU0 l m = true → l = m
  | [], [], _ => rfl
  | a :: l, b :: m, h => by
    simp only [cfShB.dU0, Bool.and_eq_true] at h
    rw [aI3 8 _ _ h.1, cS7 l m h.2]
  | [], _ :: _, h => by cases h
  | _ :: _, [], h => by cases h
theorem dP0 {C : Cx} {ρ ρ' : Rho} : ∀ (l : List AV) (vs : List Value), allP (noR 8) l = true → RelL C ρ l vs → RelL C ρ' l vs
  | [], vs, _, h => by simpa only [RelL] using h
  | a :: l, vs, hn, h => by
    simp only [RelL] at h ⊢
    obtain ⟨v, vt, e, h1, h2⟩ := h
    have hm := bN3 hn
    exact ⟨v, vt, e, cG3 8 _ (hm a (List.mem_cons_self ..)) _ h1, dP0 l vt (by simp only [allP, Bool.and_eq_true] at hn; exact hn.2) h2⟩
theorem aO7 {C : Cx} {g : Nat} {l l' : LF} {h h' : LH} {q q' : Nat × AV} {ids : List Nat} {sg : List (Nat × Nat)} (hcf : CfOk C g l) (hl : l.hp = some h) (hq : l.post = [q]) (hl' : l'.hp = some h') (hq' : l'.post = [q'])
    (hb : cfShB l l' h h' sg = true) (hx : (inA (thI ids) (sgB h.ng h'.n1 sg) 8 q'.2 q.2 && aG5 h.ng h'.n1 (thI ids) sg (aJ6 h .leaf) h'.post && aG2 (numsOf h.ng sg h'.post)) = true) : CfOk C g l' := by
  intro h2 q2 hl2 hq2 B ρ H w args hF hngn hh hpre hfree hargs
  rw [hl'] at hl2; injection hl2 with hl2; subst hl2
  rw [hq'] at hq2; injection hq2 with hq2 _; subst hq2
  simp only [cfShB, Bool.and_eq_true, List.isEmpty_iff] at hb
  obtain ⟨⟨⟨⟨⟨⟨⟨⟨b1, b2⟩, b3⟩, b4⟩, b5⟩, b6⟩, b7⟩, b8⟩, b9⟩ := hb
  have b4 := cS7 _ _ b4
  have b5 := Nat.eq_of_beq_eq_true b5
  have hlh := bA3 b6
  have b7 := Nat.le_of_ble_eq_true b7; have b8 := Nat.le_of_ble_eq_true b8
  have hj : ∀ v, h.ng ≤ v → v < h'.n0 → h.n1 ≤ sgAt sg v := fun v a b => Nat.le_of_ble_eq_true (aO8 b9 v a (by omega))
  simp only [Bool.and_eq_true] at hx
  have hF0 : Fits C h.ng (Fz.lt w.heap.size) (fun v => if v < h.ng then ρ v else none) .leaf w := by
    refine ⟨fun k hk => hk, fun g hg => ?_, fun v k hv => by simp [T.aD7] at hv, fun v v' k k' r r' hv => by simp [T.aD7] at hv, fun k hk => ?_, hF.inv⟩
    · simp only [hg, if_true]; exact hF.glob g (by rw [← b5]; exact hg)
    · exact Nat.lt_of_lt_of_le hk hF.nsz
  have hr0 : RelL C (fun v => if v < h.ng then ρ v else none) (l.pre.map (·.2)) args := dP0 _ _ b3 (by rw [← b4]; exact hargs)
  refine (hcf h q hl hq (Fz.lt w.heap.size) _ .leaf w args hF0 b7 hlh (fun v k hm => by rw [b1] at hm; cases hm) (fun v a b => by simp only [show ¬ v < h.ng by omega, if_false]) hr0).mono fun e w' he => ?_
  obtain ⟨x, ρ2, he, hr, hF2, hE, hbel⟩ := he
  have hag : ∀ v, v < h.ng → ρ2 v = ρ v := fun v hv => by rw [hE v (.inl (by omega))]; simp only [hv, if_true]
  have hK : ∀ k, frz B ρ h' w k → k < w.heap.size := fun k hk => hk.elim (hF.size k) (·.1)
  obtain ⟨u1, u2⟩ := aF6 (C := C) (D := C) (ρ := ρ) (K := frz B ρ h' w) rfl rfl rfl hF2 (thI_ok ids) hag (Nat.le_refl _) hx.1.2 hx.2 (fun k hk => Nat.lt_of_lt_of_le (hK k hk) hbel.size)
    (fun k hk => .inl (hF.low k hk)) (fun v k r _ _ _ hk => hK _ hk)
  have hsub : Sub (ren ρ ρ2 h.ng h'.n1 sg) (fun v => if h'.n0 ≤ v ∧ v < h'.n1 then ρ2 (sgAt sg v) else ρ v) := fun v r hv => by
    unfold ren at hv
    by_cases c1 : h'.n0 ≤ v ∧ v < h'.n1
    · rw [if_pos (by omega)] at hv; simp only [c1, and_self, if_true]; exact hv
    · simp only [c1, if_false]
      by_cases c2 : h.ng ≤ v ∧ v < h'.n1
      · rw [if_pos c2] at hv
        have c3 := hj v c2.1 (by omega)
        have hle := hlh.le
        rw [hE _ (.inr c3)] at hv
        simp only [show ¬ sgAt sg v < h.ng by omega, if_false] at hv
        cases hv
      · rw [if_neg c2] at hv; exact hv
  have hext : Ext ρ (fun v => if h'.n0 ≤ v ∧ v < h'.n1 then ρ2 (sgAt sg v) else ρ v) h'.n0 h'.n1 := fun v hv => by simp only [show ¬ (h'.n0 ≤ v ∧ v < h'.n1) by omega, if_false]
  refine ⟨x, _, he, (u2 _ _ _ hx.1.1 hr).mono hsub, bR8 hh hF hpre hfree (hbel.less hK) (by rw [← b5]; exact u1.sup hsub) hext (fun v k hm hge => ?_), hext, hbel.less fun k hk => hF.size k hk⟩
  exact ((aF4 hx.1.2 v k hm).move (by omega)).2
theorem kEqT1 {C : Cx} {x : AV} {b : Bool} (hx : Is C x (.bool b)) (h : b = true) : HOk C (.eqb x (.b true)) (.b true) :=
  ⟨true, rfl, fun ρ vx vy h1 h2 => ⟨b, true, hx ρ vx h1, by simpa only [Rel] using h2, by rw [h]; rfl⟩⟩
theorem kEqF1 {C : Cx} {x : AV} {b : Bool} (hx : Is C x (.bool b)) (h : ¬ b = true) : HOk C (.eqb x (.b true)) (.b false) :=
  ⟨false, rfl, fun ρ vx vy h1 h2 => ⟨b, true, hx ρ vx h1, by simpa only [Rel] using h2, by cases b <;> first | rfl | exact absurd rfl h⟩⟩
theorem isBb {C : Cx} {x : Bool} : Is C (.b x) (.bool x) := fun ρ v h => by simpa only [Rel] using h
theorem kB0 {C : Cx} {i : Nat} (h : C.nu i = St' []) : HOk C (.bytes []) (.x i) := kBytesB (bs := []) .nil (denX h)
def bk (t : Nat) (l : List AV) : Ent := .b ⟨t, .l l, 0, 0, 0, false, false⟩
abbrev I6 (n : Nat) : AV := .i .i64 (.ofNat n)
end Go.AX

