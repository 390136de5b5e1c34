/- A part of the proof: an interpreter of the model's own code on partly known states, and that what it answers is what the program answers. No condition of its own. -/
import Derived.Test.YtojgdbbjblaalaaDoorAXd
import Derived.Laws.Tables
import Derived.Laws.CopyRow
import Derived.Laws.Cells
import Derived.Laws.Entries
set_option linter.unusedSimpArgs false
set_option linter.unusedVariables false
namespace Go.AX
open Go.RowKit (Below)
def layV (l : List Value) (o : Nat) (d : List Value) : List Value := l.take o ++ d ++ l.drop (o + d.length)
theorem layV_length (l : List Value) (o : Nat) (d : List Value) (h : o + d.length ≤ l.length) : (layV l o d).length = l.length := by
  simp [layV]; omega
theorem layV_get (l : List Value) (o : Nat) (d : List Value) (j : Nat) (h : o + d.length ≤ l.length) :
    (layV l o d)[j]? = if j < o then l[j]? else if j < o + d.length then d[j - o]? else l[j]? := by
  unfold layV
  rw [List.getElem?_append, List.getElem?_append]
  simp only [List.length_append, List.length_take, Nat.min_eq_left (show o ≤ l.length by omega)]
  by_cases h1 : j < o
  · rw [if_pos (by omega), if_pos h1, if_pos h1, List.getElem?_take, if_pos h1]
  · rw [if_neg h1]
    by_cases h2 : j < o + d.length
    · rw [if_pos h2, if_pos h2, if_neg h1]
    · rw [if_neg h2, if_neg h2, List.getElem?_drop, show o + d.length + (j - (o + d.length)) = j by omega, if_neg h1]
theorem run_lay (P : Program) (g : Nat) (t : TypeId) (fz : Nat × Nat) (o : Nat) : ∀ (vs : List Value) (i : Nat) (cur : Array Value) (w : World),
    w.heap[g]? = some (.cells cur t fz) → (∀ x, o + i ≤ x → x < cur.size → ¬ (fz.1 ≤ x ∧ x < fz.2)) → o + i + vs.length ≤ cur.size → (∀ v ∈ vs, v.oneCell' = true) →
    (storeCells ⟨g, o, none⟩ vs i).run P w = .ok () (w.setRow g (layV cur.toList (o + i) vs).toArray) := by
  intro vs
  induction vs with
  | nil =>
    intro i cur w hg _ _ _
    have : (layV cur.toList (o + i) []).toArray = cur := by simp [layV]
    rw [this, setRow_self w g cur t fz hg]; rfl
  | cons v rest ih =>
    intro i cur w hg hc hl h1
    have hi : o + i < cur.size := by simp at hl; omega
    have hcell : w.cell? ⟨g, o + i, none⟩ = some cur[o + i] := by simp [World.cell?, hg, hi]
    have hfro : w.frozen? ⟨g, o + i, none⟩ = false := by
      have := hc (o + i) (Nat.le_refl _) hi
      simp only [World.frozen?, hg, Bool.and_eq_false_iff, decide_eq_false_iff_not]
      exact Classical.not_and_iff_not_or_not.1 this
    have hst : (Go.store ((⟨g, o, none⟩ : Addr).add i) v).run P w = .ok () (w.setRow g (cur.setIfInBounds (o + i) v)) := by
      rw [Addr.add_lit, run_store P w _ v _ (h1 v (by simp)), hcell]
      simp [hfro, setCell_eq_setRow w g (o + i) cur t fz v hg]
    have ih' := ih (i + 1) (cur.setIfInBounds (o + i) v) (w.setRow g (cur.setIfInBounds (o + i) v)) (setRow_heap w g cur _ t _ hg)
      (fun x hx hxs => hc x (by omega) (by simpa using hxs)) (by simp at hl ⊢; omega) (fun x hx => h1 x (by simp [hx]))
    simp only [storeCells, Sem.run_bind, hst, Result.andThen_ok]
    rw [ih', setRow_setRow]
    congr 2
    apply Array.ext'
    simp only []
    apply List.ext_getElem?
    intro j
    simp only [List.length_cons] at hl
    rw [layV_get _ _ _ _ (by simp; omega), layV_get _ _ _ _ (by simp; omega)]
    simp only [Array.toList_setIfInBounds, List.getElem?_set, Array.length_toList, List.length_cons]
    by_cases e1 : j < o + i
    · rw [if_pos (by omega), if_pos e1, if_neg (by omega)]
    · rw [if_neg e1]
      by_cases e2 : j = o + i
      · subst e2; simp [hi]
      · rw [if_neg (by omega)]
        by_cases e3 : j < o + i + (rest.length + 1)
        · rw [if_pos (by omega), if_pos e3, show j - (o + i) = (j - (o + (i + 1))) + 1 by omega, List.getElem?_cons_succ]
        · rw [if_neg (by omega), if_neg e3, if_neg (by omega)]
section
variable {C : Cx} {ng B : Nat} {ρ : Rho} {H : T Blk} {w : World}
theorem Below.row {g : Nat} {cs : Array Value} (h : B ≤ g) : Below B w (w.setRow g cs) :=
  ⟨rfl, rfl, rfl, by simp, fun k hk => setRow_other w g k cs (by omega)⟩
/-- cells read -/
theorem read_ok {k : Blk} {r : R} {arr : Array Value} {fz : Nat × Nat} {t : TypeId} (hw : w.heap[r.blk]? = some (.cells arr t fz)) (hk : CellsOk C ρ k.c arr r.base) {o n : Nat} (h : o + n ≤ k.c.len) :
    ∃ vs : List Value, vs.length = n ∧ RelL C ρ ((k.c.toL.drop o).take n) vs ∧ (∀ x ∈ vs, x.oneCell' = true) ∧ (∀ (j : Nat) v, vs[j]? = some v → w.cell? ((⟨r.blk, r.base + o, none⟩ : Addr).add j) = some v) := by
  rw [Cells.len_eq] at h
  have hget : ∀ j, j < n → ∃ a x, k.c.toL[o + j]? = some a ∧ arr[r.base + (o + j)]? = some x ∧ Rel C ρ a x ∧ x.oneCell' = true := fun j hj => by
    obtain ⟨x, h1, h2, h3⟩ := hk.2 (o + j) (k.c.toL[o + j]'(by omega)) (List.getElem?_eq_getElem _)
    exact ⟨_, x, List.getElem?_eq_getElem _, h1, h2, h3⟩
  have hsz : ∀ j, j < n → r.base + o + j < arr.size := fun j hj => by
    obtain ⟨a, x, _, h1, _⟩ := hget j hj
    rcases Nat.lt_or_ge (r.base + (o + j)) arr.size with h | h
    · omega
    · rw [Array.getElem?_eq_none h] at h1; cases h1
  have hlen : ((arr.toList.drop (r.base + o)).take n).length = n := by
    rw [List.length_take, List.length_drop, Array.length_toList]
    rcases Nat.eq_zero_or_pos n with h0 | h0
    · omega
    · have := hsz (n - 1) (by omega); omega
  have hat : ∀ j, j < n → ((arr.toList.drop (r.base + o)).take n)[j]? = arr[r.base + (o + j)]? := fun j hj => by
    rw [List.getElem?_take, if_pos hj, List.getElem?_drop]; simp [Nat.add_assoc]
  refine ⟨(arr.toList.drop (r.base + o)).take n, hlen, (RelL.iff _ _).2 ⟨by rw [hlen]; simp; omega, fun j a hj => ?_⟩, fun x hx => ?_, fun j v hj => ?_⟩
  · rw [List.getElem?_take] at hj
    split at hj
    · rename_i hlt
      rw [List.getElem?_drop] at hj
      obtain ⟨a', x, h1, h2, h3, h4⟩ := hget j hlt
      rw [hj] at h1; injection h1 with h1; subst h1
      exact ⟨x, by rw [hat j hlt]; exact h2, h3⟩
    · cases hj
  · obtain ⟨j, hj, he⟩ := List.mem_iff_getElem.1 hx
    have hlt : j < n := by omega
    obtain ⟨a', x', h1, h2, h3, h4⟩ := hget j hlt
    have := hat j hlt
    rw [List.getElem?_eq_getElem hj, he, h2] at this
    injection this with this; subst this; exact h4
  · have hlt : j < n := by
      rcases Nat.lt_or_ge j n with h | h
      · exact h
      · rw [List.getElem?_eq_none (by omega)] at hj; cases hj
    rw [hat j hlt] at hj
    rw [Addr.add_lit]
    simp only [World.cell?, hw]
    simpa [Nat.add_assoc] using hj
theorem write_ok (hF : Fits C ng B ρ H w) {v : Nat} {k : Blk} (hv : H.get v = some k) (hn : v ≤ 16777213) {r : R} (hr : ρ v = some r) {arr : Array Value} {fz : Nat × Nat}
    (hb : w.heap[r.blk]? = some (.cells arr k.e fz)) (hk : BlkAt C ρ B k r arr fz) {o : Nat} {ds : List AV} {vs : List Value} (hrel : RelL C ρ ds vs) (h1 : ∀ x ∈ vs, x.oneCell' = true)
    (hfr : k.fr ≤ o) (hin : o ≤ k.c.len) (hfit : r.base + o + vs.length ≤ arr.size) (hg : k.g = true → o + vs.length ≤ k.m) (hold : r.blk < B → vs = [])
    {c' : Cells} (hc' : c'.toL = putL k.c.toL o ds) (hcw : CW c') :
    ∃ w', (storeCells ⟨r.blk, r.base + o, none⟩ vs).run C.P w = .ok () w' ∧ Fits C ng B ρ (H.set v { k with c := c' }) w' ∧ Below B w w' := by
  have hlen := hrel.len
  have hrun := run_lay C.P r.blk k.e fz (r.base + o) vs 0 arr w hb (fun x hx hxs => hk.cold x (by omega) hxs) (by omega) h1
  simp only [Nat.add_zero] at hrun
  have hbel : Below B w (w.setRow r.blk (layV arr.toList (r.base + o) vs).toArray) := by
    by_cases h : r.blk < B
    · have := hold h
      subst this
      have e : (layV arr.toList (r.base + o) []).toArray = arr := by simp [layV]
      rw [e, setRow_self w _ _ _ _ hb]
      exact Below.refl _ _
    · exact Below.row (by omega)
  refine ⟨_, hrun, ?_, hbel⟩
  · have hsz : (layV arr.toList (r.base + o) vs).toArray.size = arr.size := by
      simp only [List.size_toArray]; rw [layV_length _ _ _ (by simpa using hfit)]; simp
    have hcl : c'.len = max k.c.len (o + vs.length) := by
      rw [Cells.len_eq, hc', putL_length _ _ _ (by rw [← Cells.len_eq]; exact hin), ← Cells.len_eq, hlen]
    refine hF.upd hn hv hr (k' := { k with c := c' }) (arr := (layV arr.toList (r.base + o) vs).toArray) (fz := fz) ?_ (setRow_heap w _ _ _ _ _ hb) (fun b hb' => setRow_other w _ _ _ hb') (by simp) hbel.block
    refine ⟨⟨hcw, fun j a hj => ?_⟩, fun h => ?_, fun x hx hxs => hk.cold x hx (by rw [hsz] at hxs; exact hxs), hk.plain, fun h => ?_, by have := hk.room; rw [hsz]; show r.base + c'.len ≤ _; omega, hk.base0⟩
    · simp only [] at hj
      rw [hc', putL_get _ _ _ _ (by rw [← Cells.len_eq]; exact hin)] at hj
      have hgetA : (layV arr.toList (r.base + o) vs).toArray[r.base + j]? = if j < o then arr[r.base + j]? else if j < o + vs.length then vs[j - o]? else arr[r.base + j]? := by
        rw [List.getElem?_toArray, layV_get _ _ _ _ (by simpa using hfit)]
        simp only [Array.getElem?_toList]
        by_cases e1 : j < o
        · rw [if_pos e1, if_pos (by omega)]
        · rw [if_neg e1, if_neg (by omega)]
          by_cases e2 : j < o + vs.length
          · rw [if_pos e2, if_pos (by omega)]; congr 1; omega
          · rw [if_neg e2, if_neg (by omega)]
      rw [hgetA]
      rw [← hlen] at hj
      split at hj
      · rename_i e; rw [if_pos e]; exact hk.cells.2 j a hj
      · rename_i e
        rw [if_neg e]
        split at hj
        · rename_i e2
          rw [if_pos e2]
          obtain ⟨x, hx, hr'⟩ := hrel.get hj
          exact ⟨x, hx, hr', h1 x (List.mem_of_getElem? hx)⟩
        · rename_i e2; rw [if_neg e2]; exact hk.cells.2 j a hj
    · obtain ⟨g1, g2, g3, g4⟩ := hk.grown h
      refine ⟨by rw [hsz]; exact g1, g2, ?_, g4⟩
      show c'.len ≤ k.m
      have := hg h
      rw [hcl]; omega
    · have := hold h
      subst this
      obtain ⟨o1, o2, o3⟩ := hk.old h
      refine ⟨?_, o2, o3⟩
      show c'.len ≤ k.fr
      rw [hcl]; simp; omega
end
end Go.AX
