/- A part of the proof: an interpreter of the model's own code on partly known states, and that what it answers is what the program answers. No condition of its own. -/
import Derived.Test.YtipdlfkjablekaaDoorAXcf
namespace Go.AX
/-- what the library says is kept below the heap's end -/
theorem below_of {w w' : World} (h : Go.RowKit.Below w.heap.size w w') : Below (Fz.lt w.heap.size) w w' :=
  ⟨h.os, h.tape, h.output, h.size, h.block, fun i o hi ho => by
    have hlt : i < w.heap.size := by
      rcases Nat.lt_or_ge i w.heap.size with hh | hh
      · exact hh
      · rw [Array.getElem?_eq_none hh] at hi; cases hi
    exact (h.block i hlt).trans hi⟩
theorem lhGet_isK : ∀ {l : List (Nat × Ent)} {v : Nat}, isK l v = true → ∃ j, lhGet l v = some j
  | [], v, h => by simp [isK] at h
  | p :: r, v, h => by
    simp only [isK, Bool.or_eq_true] at h
    unfold lhGet
    cases hr : lhGet r v with
    | some k => exact ⟨k, rfl⟩
    | none =>
      rcases h with h | h
      · have := Nat.eq_of_beq_eq_true h; exact ⟨p.2, by simp [this]⟩
      · obtain ⟨j, hj⟩ := lhGet_isK h; rw [hr] at hj; cases hj
/-- a known call that leaves all that lay before: by a contract over what the heap's pattern says -/
theorem cfKeep {C : Cx} {g : Nat} {l : LF} {h : LH} {q : Nat × AV} (hl : l.hp = some h) (hq : l.post = [q]) (hpp : h.post = h.pre) (hn : h.n1 = h.n0)
    (hc : ∀ (B : Fz) (ρ : Rho) (H : T Ent) (w : World) (args : List Value), Fits C h.ng B ρ H w → (∀ v k, (v, k) ∈ h.pre → H.get v = some k) → RelL C ρ (l.pre.map (·.2)) args →
      Calls C.P g ⟨args⟩ w fun e w' => ∃ x, e = .returned x ∧ Rel C ρ q.2 x ∧ Below (Fz.lt w.heap.size) w w') : CfOk C g l := by
  intro h' q' hl' hq' B ρ H w args hF hngn hh hpre hfree hargs
  rw [hl] at hl'; injection hl' with hl'; subst hl'
  rw [hq] at hq'; injection hq' with hq' _; subst hq'
  refine (hc B ρ H w args hF hpre hargs).mono fun e w' ⟨x, he, hr, hb⟩ => ⟨x, ρ, he, hr, (hF.kept hb).congr fun v => ?_, Ext.refl _ _ _, ?_⟩
  · rw [lhHeap_get hh, hpp, if_neg (by omega)]
    by_cases hk : isK h.pre v = true
    · obtain ⟨j, hg⟩ := lhGet_isK hk
      rw [hg, hpre v j (lhGet_mem hg)]; rfl
    · rw [if_neg hk]
      cases hg : lhGet h.pre v with
      | some j => exact absurd (isK_iff.2 ⟨j, lhGet_mem hg⟩) hk
      | none => rfl
  · exact ⟨hb.os, hb.tape, hb.output, hb.size, fun k hk => hb.block k (hF.size k hk), hb.walk⟩
/-- a row of texts that a call is given: what the library's contracts ask of it -/
theorem rowArg {C : Cx} {B : Fz} {ρ : Rho} {w : World} {ng : Nat} {H : T Ent} (hF : Fits C ng B ρ H w) {v id e : Nat} {ro : Bool} (hv : H.get v = some (.r id e 1 ro)) {x : Value} (hx : Rel C ρ (.sr v) x)
    {xs : List ByteArray} (hid : C.nu id = .tuple ⟨xs.map Value.string⟩) :
    ∃ bk o c, x = .slice (some ⟨bk, o, none⟩) xs.length c ∧ xs.length ≤ c ∧ bk < w.heap.size ∧ ∀ (j : Nat) y, xs[j]? = some y → w.cell? ⟨bk, o + j, none⟩ = some (.string y) := by
  simp only [Rel] at hx
  obtain ⟨r, hr, hc, rfl⟩ := hx
  obtain ⟨arr, t, fz, h1, _, hR⟩ := get_rowR hF hv hr
  obtain ⟨cs, h2, h3, h4⟩ := hR.row
  rw [hid] at h2
  injection h2 with h2
  have h2 : xs.map Value.string = cs := congrArg Array.toList h2
  subst h2
  rw [List.length_map, Nat.mul_one] at h3
  refine ⟨r.blk, r.base, r.es, by rw [h3], by omega, ?_, fun j y hy => ?_⟩
  · rcases Nat.lt_or_ge r.blk w.heap.size with hh | hh
    · exact hh
    · rw [Array.getElem?_eq_none hh] at h1; cases h1
  · have := (h4 j (.string y) (by rw [List.getElem?_map, hy]; rfl)).1
    simp only [World.cell?, h1]
    simpa using this
/-- strings.Join at a row, by the library's contract -/
theorem cfJoin {C : Cx} {g : Nat} {l : LF} {h : LH} {v id e b j : Nat} {ro : Bool} {sp : AV} {sep : ByteArray} {xs : List ByteArray} {out : ByteArray}
    (hl : l.hp = some h) (hq : l.post = [(b, .x j)]) (hp : l.pre.map (·.2) = [.sr v, sp]) (hpre : h.pre = [(v, .r id e 1 ro)]) (hpost : h.post = h.pre) (hn : h.n1 = h.n0)
    (hid : C.nu id = .tuple ⟨xs.map Value.string⟩) (hsp : ∀ ρ y, Rel C ρ sp y → y = .string sep) (hj : ∀ ρ, Rel C ρ (.x j) (.string out))
    (hc : ∀ (bk o c : Nat) (w : World), C.inv w → (∀ (j : Nat) x, xs[j]? = some x → w.cell? ⟨bk, o + j, none⟩ = some (.string x)) → bk < w.heap.size → xs.length ≤ c →
      Calls C.P g #[.slice (some ⟨bk, o, none⟩) xs.length c, .string sep] w fun e w' => e = .returned (.string out) ∧ Go.RowKit.Below w.heap.size w w') : CfOk C g l := by
  refine cfKeep hl hq hpost hn fun B ρ H w args hF hh hr => ?_
  rw [hp] at hr
  obtain ⟨x, y, rfl, hx, hy⟩ := rel2 hr
  obtain ⟨bk, o, c, rfl, h1, h2, h3⟩ := rowArg hF (hh v _ (by rw [hpre]; exact List.mem_cons_self ..)) hx hid
  have := hsp ρ y hy
  subst this
  exact (hc bk o c w hF.inv h3 h2 h1).mono fun e w' ⟨he, hb⟩ => ⟨_, he, hj ρ, below_of hb⟩
/-- slices.Equal at two rows of texts, by the library's contract -/
theorem cfEq {C : Cx} {g : Nat} {l : LF} {h : LH} {v id e u id' e' b j : Nat} {ro ro' : Bool} {xs ys : List ByteArray}
    (hl : l.hp = some h) (hq : l.post = [(b, .x j)]) (hp : l.pre.map (·.2) = [.sr v, .sr u]) (hpre : h.pre = [(v, .r id e 1 ro), (u, .r id' e' 1 ro')]) (hpost : h.post = h.pre) (hn : h.n1 = h.n0)
    (hid : C.nu id = .tuple ⟨xs.map Value.string⟩) (hid' : C.nu id' = .tuple ⟨ys.map Value.string⟩) (hj : ∀ ρ, Rel C ρ (.x j) (.bool (decide (xs = ys))))
    (hc : ∀ (b1 o1 c b2 o2 d : Nat) (w : World), C.inv w → (∀ (j : Nat) x, xs[j]? = some x → w.cell? ⟨b1, o1 + j, none⟩ = some (.string x)) → (∀ (j : Nat) x, ys[j]? = some x → w.cell? ⟨b2, o2 + j, none⟩ = some (.string x)) →
      Calls C.P g #[.slice (some ⟨b1, o1, none⟩) xs.length c, .slice (some ⟨b2, o2, none⟩) ys.length d] w fun e w' => e = .returned (.bool (decide (xs = ys))) ∧ Go.RowKit.Below w.heap.size w w') : CfOk C g l := by
  refine cfKeep hl hq hpost hn fun B ρ H w args hF hh hr => ?_
  rw [hp] at hr
  obtain ⟨x, y, rfl, hx, hy⟩ := rel2 hr
  obtain ⟨bk, o, c, rfl, h1, h2, h3⟩ := rowArg hF (hh v _ (by rw [hpre]; exact List.mem_cons_self ..)) hx hid
  obtain ⟨bk', o', c', rfl, h1', h2', h3'⟩ := rowArg hF (hh u _ (by rw [hpre]; exact List.mem_cons_of_mem _ (List.mem_cons_self ..))) hy hid'
  exact (hc bk o c bk' o' c' w hF.inv h3 h3').mono fun e w' ⟨he, hb⟩ => ⟨_, he, hj ρ, below_of hb⟩
end Go.AX
