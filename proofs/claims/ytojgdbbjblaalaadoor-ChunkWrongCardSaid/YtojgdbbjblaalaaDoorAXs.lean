/- A part of the proof: an interpreter of the model's own code on partly known states, and that what it answers is what the program answers. No condition of its own. -/
import Derived.Test.YtojgdbbjblaalaaDoorAXr
set_option linter.unusedSimpArgs false
set_option linter.unusedVariables false
namespace Go.AX
open Go.RowKit (Below)
section
variable {C : Cx} {tb : Tab} {B : Nat} {ρ : Rho} {w : World} {S S' : St}
theorem str_rel (k m : Nat) (ρ : Rho) (C : Cx) : RelL C ρ (unp k m) ((strB k m).map fun b => .int .u8 (b.toNat : Int)) := by
  rw [RelL.iff]
  refine ⟨by simp [unp_length, strB_length], fun j a hj => ?_⟩
  rw [unp_get] at hj
  split at hj
  · rename_i hlt
    simp only [Option.some.injEq] at hj; subst hj
    refine ⟨.int .u8 (byteAt m j : Nat), ?_, by simp only [Rel]; rfl⟩
    rw [List.getElem?_map, strB_get _ _ _ hlt]
    simp [Nat.mod_eq_of_lt (byteAt_lt m j)]
  · cases hj
theorem src_ok (hF : Fits C tb.ng B ρ S.heap w) {sz n : Nat} {x : AV} {xv : Value} {d : Cells} (hx : Rel C ρ x xv) (hn : avLen x = some n) (h : src sz x S = some (d, S')) :
    S'.heap = S.heap ∧ S'.next = S.next ∧ CW d ∧ d.toL.length = n * sz ∧ ∃ news : List Value, RelL C ρ d.toL news ∧ (∀ y ∈ news, y.oneCell' = true) ∧
      (∀ w', (Builtin.lenOf xv).run C.P w' = .ok n w') ∧ (∀ w', w'.heap = w.heap → (Builtin.firstCells sz n xv).run C.P w' = .ok news.toArray w') ∧
      (∀ s, xv = .string s → sz = 1) ∧ (∀ a l c, xv = .slice (some a) l c → ∀ (j : Nat) v, news[j]? = some v → w.cell? (a.add j) = some v) := by
  cases x <;> simp only [src] at h <;> try exact (fail_inv h).elim
  case s k m =>
    obtain ⟨hsz, h1⟩ := cond_inv h
    have hsz := beq_inv hsz
    subst hsz
    obtain ⟨rfl, rfl⟩ := ret_inv h1
    simp only [avLen, Option.some.injEq] at hn; subst hn
    simp only [Rel] at hx
    obtain ⟨rfl, hlt⟩ := hx
    refine ⟨rfl, rfl, hlt, by simp [Cells.toL, unp_length], _, str_rel k m ρ C, fun y hy => ?_, fun w' => ?_, fun w' _ => ?_, fun _ _ => rfl, fun a l c e => by cases e⟩
    · rw [List.mem_map] at hy; obtain ⟨b, _, rfl⟩ := hy; rfl
    · simp [Builtin.lenOf, ByteArray.size, strB_length]
    · have hsz2 : (⟨(strB k m).toArray⟩ : ByteArray).size = k := by simp [ByteArray.size, strB_length]
      have : (⟨(strB k m).toArray⟩ : ByteArray).extract 0 k = ⟨(strB k m).toArray⟩ := by
        have := ByteArray.extract_zero_size (b := (⟨(strB k m).toArray⟩ : ByteArray))
        rw [hsz2] at this; exact this
      simp [Builtin.firstCells, this]
  case nils =>
    obtain ⟨rfl, rfl⟩ := ret_inv h
    simp only [avLen, Option.some.injEq] at hn; subst hn
    simp only [Rel] at hx; subst hx
    exact ⟨rfl, rfl, trivial, by simp [Cells.toL], [], by simp [RelL, Cells.toL], by simp, (fun w' => by simp [Builtin.lenOf]), (fun w' _ => by simp [Builtin.firstCells]), (fun s e => by cases e), (fun a l c e => by cases e)⟩
  case sl b o m c r =>
    simp only [avLen, Option.some.injEq] at hn; subst hn
    obtain ⟨k, S1, e1, e2, e3, h1⟩ := rb h
    obtain ⟨h2, rfl⟩ := lft_inv h1
    obtain ⟨hle, hto, hcw⟩ := Cells.sub_spec h2
    obtain ⟨rr, a, c', hr, rfl, _, ha⟩ := sl_addr hx
    obtain ⟨arr, fz, hb, hbk⟩ := get_block hF e1 hr
    obtain ⟨vs, v1, v2, v3, v4⟩ := read_ok hb hbk.cells hle
    have hcells : ∀ (j : Nat) u, vs[j]? = some u → w.cell? (a.add j) = some u := by
      rcases ha with rfl | h0
      · exact v4
      · intro j u hj; have : vs = [] := List.eq_nil_of_length_eq_zero (by rw [v1, h0]; simp); subst this; simp at hj
    refine ⟨e2, e3, hcw, ?_, vs, by rw [hto]; exact v2, v3, fun w' => by simp [Builtin.lenOf], fun w' hw' => ?_, fun s e => (by cases e), fun a' l' c'' e => (by injection e with e1 _ _; injection e1 with e1; subst e1; exact hcells)⟩
    · rw [hto, ← v2.len, v1]; rfl
    · have hc' : ∀ (j : Nat) u, vs[j]? = some u → w'.cell? (a.add j) = some u := fun j u hj => by
        have := hcells j u hj
        simpa [World.cell?, hw'] using this
      have := run_loadCells_list (P := C.P) w' a vs hc'
      rw [v1] at this
      exact this
theorem big_spec {b n : Nat} (h : big b n = false) : b * n ≤ 140737488355328 ∧ n ≤ 140737488355328 := by
  unfold big at h
  rw [Bool.or_eq_false_iff] at h
  constructor
  · rcases Nat.lt_or_ge 140737488355328 (b * n) with h1 | h1
    · have := blt_true h1; rw [show Nat.mul b n = b * n from rfl, this] at h; cases h.1
    · exact h1
  · rcases Nat.lt_or_ge 140737488355328 n with h1 | h1
    · have := blt_true h1; rw [this] at h; cases h.2
    · exact h1
def ApdOut (C : Cx) (ng B : Nat) (ρ : Rho) (w : World) (S S' : St) (v : AV) (ats : Array Nat) (ty : Nat) (sv x : Value) : Prop :=
  Out C ng B ρ w S S' v ((Builtin.append_ ats ty #[sv, x]).run C.P w)
/-- a block struck, and its memory under a new number -/
theorem Fits.move {ng : Nat} {H : T Blk} {w' : World} {v n : Nat} {k k' : Blk} {r r' : R} {arr : Array Value} {fz : Nat × Nat} (h : Fits C ng B ρ H w) (hv : H.get v = some k) (hr : ρ v = some r) (hvn : v ≤ 16777213) (hn : n ≤ 16777213) (hf : ρ n = none)
    (hk : BlkAt C ρ B k' r' arr fz) (hrr : r'.blk = r.blk) (hw : w'.heap[r.blk]? = some (.cells arr k'.e fz)) (ho : ∀ b, b ≠ r.blk → w'.heap[b]? = w.heap[b]?) (hsz : w'.heap.size = w.heap.size) (hB : ∀ b, b < B → w'.heap[b]? = w.heap[b]?) :
    Fits C ng B (put1 ρ n r') ((H.del v).set n k') w' := by
  have hs := put1_sub (r := r') hf
  have hget : ∀ u ku, u ≠ n → ((H.del v).set n k').get u = some ku → u ≠ v ∧ H.get u = some ku := fun u ku hun hu => by
    rw [get_set _ _ _ _ hn, if_neg hun, get_del _ _ _ hvn] at hu
    split at hu
    · cases hu
    · rename_i e; exact ⟨e, hu⟩
  refine ⟨by have := h.size; omega, fun g hg => by rw [hs g _ (h.glob g hg)], fun u ku hu => ?_, ?_, h.low, C.stab w w' (fun b hb => hB b (by have := h.low; omega)) h.inv⟩
  · by_cases e : u = n
    · subst e
      rw [get_set _ _ _ _ hn, if_pos rfl] at hu; injection hu with hu; subst hu
      exact ⟨r', by simp [put1], arr, fz, by rw [hrr]; exact hw, hk.mono hs⟩
    · obtain ⟨e2, hu'⟩ := hget u ku e hu
      obtain ⟨r2, h1, arr2, fz2, h2, h3⟩ := h.blk u ku hu'
      refine ⟨r2, hs _ _ h1, arr2, fz2, ?_, h3.mono hs⟩
      rw [ho _ (fun e' => e2 (h.inj u v ku k r2 r hu' hv h1 hr e'))]; exact h2
  · intro a b k1 k2 r1 r2 ha hb hr1 hr2 he
    by_cases e1 : a = n <;> by_cases e2 : b = n
    · omega
    · subst e1
      obtain ⟨e3, hb'⟩ := hget b k2 e2 hb
      simp only [put1, if_pos rfl] at hr1; injection hr1 with hr1; subst hr1
      unfold put1 at hr2; rw [if_neg e2] at hr2
      exact absurd (h.inj b v k2 k r2 r hb' hv hr2 hr (by rw [← he, hrr])) e3
    · subst e2
      obtain ⟨e3, ha'⟩ := hget a k1 e1 ha
      simp only [put1, if_pos rfl] at hr2; injection hr2 with hr2; subst hr2
      unfold put1 at hr1; rw [if_neg e1] at hr1
      exact absurd (h.inj a v k1 k r1 r ha' hv hr1 hr (by rw [he, hrr])) e3
    · obtain ⟨_, ha'⟩ := hget a k1 e1 ha
      obtain ⟨_, hb'⟩ := hget b k2 e2 hb
      unfold put1 at hr1 hr2; rw [if_neg e1] at hr1; rw [if_neg e2] at hr2
      exact h.inj a b k1 k2 r1 r2 ha' hb' hr1 hr2 he
/-- a new row for old and new -/
theorem grow_ok (hF : Fits C tb.ng B ρ S.heap w) (hng : tb.ng ≤ S.next) {ats : Array Nat} {st e ty n : Nat} {ie : TypeInfo} {base : Option Addr} {sLen sCap : Nat} {x : Value} {olds news : List Value} {z : Value} (h0 : ats[0]? = some st) (hst : C.P.underlying st = some (.slice e)) (hie : C.P.info? e = some ie)
    (hz : ie.zero = some z) (hzl : z.cells.toList.length = ie.size) (hzo : ∀ y ∈ z.cells.toList, y.oneCell' = true) (hA : Apd C.P w ats e ie x n news) (hroom : sCap < sLen + n) (hold : ∀ w', w'.heap = w.heap → (Builtin.firstCells ie.size sLen (.slice base sLen sCap)).run C.P w' = .ok olds.toArray w')
    (hb1 : (sLen + n) * ie.bytes ≤ 140737488355328) (hb2 : sLen + n ≤ 140737488355328)
    {old d : Cells} (ho : RelL C ρ old.toL olds) (hd : RelL C ρ d.toL news) (how : CW old) (hdw : CW d) (ho1 : ∀ y ∈ olds, y.oneCell' = true) (hd1 : ∀ y ∈ news, y.oneCell' = true) (hol : olds.length = sLen * ie.size) (hdl : news.length = n * ie.size)
    {fr : Nat} {sti : Bool} {b : Nat} (h : new ⟨e, old.app d, (sLen + n) * ie.size, ie.size, fr, sti, true⟩ S = some (b, S')) (hfree : Free ρ S.next S'.next) :
    ApdOut C tb.ng B ρ w S S' (.sl b 0 (sLen + n) 0 true) ats ty (.slice base sLen sCap) x := by
  have hrun := app_grow (ty := ty) h0 hst hie hz hzl hA hroom hold hb1 hb2
  have hcap := grownCap_ge w (sLen + n) sCap e
  generalize grownCap w (sLen + n) sCap e = cp at hrun hcap
  obtain ⟨a1, a2⟩ := Cells.app_spec how hdw
  have hmade : (madeCells z.cells ((cp - (sLen + n)) * ie.size)).toList = (List.replicate (cp - (sLen + n)) z.cells.toList).flatten := made_eq _ _ _ hzl
  have hsz : (olds.toArray ++ (news.toArray ++ madeCells z.cells ((cp - (sLen + n)) * ie.size))).size = cp * ie.size := by
    simp only [Array.size_append, List.size_toArray, size_madeCells, hol, hdl, ← Nat.add_mul]
    congr 1; omega
  have hlen : (old.app d).len = (sLen + n) * ie.size := by
    rw [Cells.len_eq, a1, List.length_append, ← ho.len, ← hd.len, hol, hdl, Nat.add_mul]
  have hle : (sLen + n) * ie.size ≤ cp * ie.size := Nat.mul_le_mul_right _ hcap
  have hba : BlkAt C ρ B ⟨e, old.app d, (sLen + n) * ie.size, ie.size, fr, sti, true⟩ ⟨w.heap.size, 0, cp, ie.size⟩ (olds.toArray ++ (news.toArray ++ madeCells z.cells ((cp - (sLen + n)) * ie.size))) (0, 0) := by
    constructor
    · refine ⟨a2, fun j a hj => ?_⟩
      simp only [] at hj
      rw [a1] at hj
      obtain ⟨y, hy, hr⟩ := (ho.app hd).get hj
      refine ⟨y, ?_, hr, ?_⟩
      · rw [Nat.zero_add, ← Array.getElem?_toList]
        simp only [Array.toList_append, ← List.append_assoc]
        rw [List.getElem?_append_left (by have := (ho.app hd).len; rcases Nat.lt_or_ge j (olds ++ news).length with h | h; exact h; rw [List.getElem?_eq_none h] at hy; cases hy)]
        exact hy
      · rcases List.mem_append.1 (List.mem_of_getElem? hy) with h | h
        · exact ho1 y h
        · exact hd1 y h
    · intro _
      refine ⟨by rw [hsz]; simp, hle, by show (old.app d).len ≤ _; rw [hlen]; exact Nat.le_refl _, rfl⟩
    · intro y _ _ h; simp at h
    · intro _; exact .inl rfl
    · intro h; have := hF.size; simp only [] at h; omega
    · rw [hsz]; show 0 + (old.app d).len ≤ _; rw [hlen]; omega
    · intro h; cases h
  obtain ⟨r2, r3, r4, r5, r6⟩ := newG_ok (w' := w.drew.alloc (.cells (olds.toArray ++ (news.toArray ++ madeCells z.cells ((cp - (sLen + n)) * ie.size))) e)) hF hng h hfree rfl hba rfl rfl rfl rfl
  refine ⟨_, _, _, hrun, ?_, r2, r3, r4⟩
  simp only [Rel]
  exact ⟨_, ⟨w.heap.size, 0, none⟩, r5, by show 0 + (sLen + n) ≤ cp; omega, rfl, .inl rfl⟩
end
end Go.AX
