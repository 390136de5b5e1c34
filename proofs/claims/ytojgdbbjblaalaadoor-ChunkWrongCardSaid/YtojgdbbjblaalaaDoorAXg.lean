/- A part of the proof: an interpreter of the model's own code on partly known states, and that what it answers is what the program answers. No condition of its own. -/
import Derived.Test.YtojgdbbjblaalaaDoorAXf
import Derived.Laws.MakeOwn
import Derived.Laws.Slices
set_option linter.unusedSimpArgs false
set_option linter.unusedVariables false
namespace Go.AX
open Go.RowKit (Below)
section
variable {C : Cx} {tb : Tab} {B : Nat} {ρ : Rho} {w : World} {S S' : St}
theorem mkTI_k {P : Program} {t : Nat} {i : TypeInfo} : (mkTI P t i).k = kOf P t := rfl
theorem mkTI_size {P : Program} {t : Nat} {i : TypeInfo} : (mkTI P t i).size = i.size := rfl
theorem zs_spec {P : Program} {t : Nat} {i : TypeInfo} (h : (mkTI P t i).zs = true) : ∃ z, i.zero = some z ∧ (∀ x ∈ z.cells.toList, x.oneCell' = true) ∧ z.cells.toList.length = i.size := by
  cases hz : i.zero with
  | none => simp [mkTI, zsOf, hz] at h
  | some z =>
    simp only [mkTI, zsOf, hz, Bool.and_eq_true] at h
    refine ⟨z, rfl, fun x hx => ?_, beq_inv h.2⟩
    have := List.all_eq_true.1 h.1 x hx
    cases x <;> first | rfl | (cases this; done)
theorem zc_spec {P : Program} {t : Nat} {i : TypeInfo} {z : Value} (hz : i.zero = some z) (ρ : Rho) (C : Cx) : RelL C ρ (mkTI P t i).zc.toL z.cells.toList ∧ CW (mkTI P t i).zc := by
  have := toCells_spec (u8ish P t) (zlist i)
  refine ⟨?_, this.2⟩
  show RelL C ρ (toCells _ _).toL _
  rw [this.1]
  simp only [zlist, hz]
  exact cells_ok C ρ z
theorem get_block (hF : Fits C tb.ng B ρ S.heap w) {v : Nat} {k : Blk} (hg : S.heap.get v = some k) {r : R} (hr : ρ v = some r) : ∃ arr fz, w.heap[r.blk]? = some (.cells arr k.e fz) ∧ BlkAt C ρ B k r arr fz := by
  obtain ⟨r', h1, h2⟩ := hF.blk v k hg
  rw [hr] at h1; injection h1 with h1; subst h1; exact h2
theorem load_ok (ht : TyOk C.P tb) (hF : Fits C tb.ng B ρ S.heap w) {t : Nat} {x v : AV} {xv : Value} (hx : Rel C ρ x xv) (h : load tb t x S = some (v, S')) :
    S'.heap = S.heap ∧ S'.next = S.next ∧ ∃ y, (Instr.loadAt t xv).run C.P w = .ok y w ∧ Rel C ρ v y := by
  cases x <;> simp only [load] at h <;> try exact (fail_inv h).elim
  rename_i b o
  obtain ⟨ti, e1, h1⟩ := lb h
  obtain ⟨k, S2, e2, h3, h4, h5⟩ := rb h1
  obtain ⟨i, hi, rfl⟩ := ht.ty _ _ e1
  simp only [Rel] at hx
  obtain ⟨r, hr, rfl⟩ := hx
  obtain ⟨arr, fz, hb, hk⟩ := get_block hF e2 hr
  simp only [mkTI_k, mkTI_size] at h5
  have hla : ∀ w', (Instr.loadAt t (.pointer (some ⟨r.blk, r.base + o, none⟩))).run C.P w' = (loadVar t ⟨r.blk, r.base + o, none⟩).run C.P w' := fun _ => rfl
  rw [hla]
  cases hagg : isAgg (kOf C.P t) with
  | true =>
    rw [hagg] at h5
    obtain ⟨c, h6, h7⟩ := lb h5
    obtain ⟨rfl, rfl⟩ := ret_inv h7
    obtain ⟨hle, htoL, _⟩ := Cells.sub_spec h6
    obtain ⟨vs, hv1, hv2, hv3, hv4⟩ := read_ok hb hk.cells hle
    refine ⟨h3, h4, .agg vs.toArray, ?_, ?_⟩
    · have := run_loadCells_list (P := C.P) w ⟨r.blk, r.base + o, none⟩ vs hv4
      rw [hv1] at this
      simp only [loadVar, Sem.run_bind, run_isAgg_true hagg, Result.andThen_ok, if_true, run_size hi, this, Sem.run_pure]
    · simp only [Rel]; exact ⟨vs, rfl, by rw [htoL]; exact hv2⟩
  | false =>
    rw [hagg] at h5
    obtain ⟨hbad, h6⟩ := cond_inv' h5
    obtain ⟨h7, rfl⟩ := lft_inv h6
    rw [Cells.get_eq] at h7
    obtain ⟨y, hy1, hy2, hy3⟩ := hk.cells.2 o v h7
    refine ⟨h3, h4, y, ?_, hy2⟩
    have hcell : w.cell? ⟨r.blk, r.base + o, none⟩ = some y := by
      simp only [World.cell?, hb]; simpa using hy1
    simp only [loadVar, Sem.run_bind, run_isAgg_false hi hbad hagg, Result.andThen_ok, Bool.false_eq_true, if_false, run_load, hcell]
theorem storeVar_run {P : Program} {t : Nat} {i : TypeInfo} (hi : P.info? t = some i) (a : Addr) (y : Value) (hy : y.cells.toList.length = i.size) (w : World) :
    (storeVar t a y).run P w = (storeCells a y.cells.toList).run P w := by
  have : y.cells.size = i.size := by simpa using hy
  simp [storeVar, run_size hi, this]
theorem one_cells {y : Value} (h : y.oneCell' = true) : y.cells.toList = [y] := by
  cases y <;> first | rfl | (cases h; done)
theorem store_ok (ht : TyOk C.P tb) (hF : Fits C tb.ng B ρ S.heap w) {t : Nat} {x y : AV} {xv yv : Value} (hx : Rel C ρ x xv) (hy : Rel C ρ y yv) {u : Unit} (h : store tb t x y S = some (u, S')) :
    S'.next = S.next ∧ ∃ w', (Instr.storeAt t xv yv).run C.P w = .ok () w' ∧ Fits C tb.ng B ρ S'.heap w' ∧ Below B w w' := by
  cases x <;> simp only [store] at h <;> try exact (fail_inv h).elim
  rename_i b o
  obtain ⟨ti, e1, h1⟩ := lb h
  obtain ⟨k, S2, e2, h3, h4, h5⟩ := rb h1
  obtain ⟨hfr, h6⟩ := cond_inv h5
  obtain ⟨i, hi, rfl⟩ := ht.ty _ _ e1
  simp only [Rel] at hx
  obtain ⟨r, hr, rfl⟩ := hx
  obtain ⟨arr, fz, hb, hk⟩ := get_block hF e2 hr
  have hfr' := Nat.le_of_ble_eq_true hfr
  have hla : (Instr.storeAt t (.pointer (some ⟨r.blk, r.base + o, none⟩)) yv).run C.P w = (storeVar t ⟨r.blk, r.base + o, none⟩ yv).run C.P w := rfl
  rw [hla]
  -- both ways come to this
  have fin : ∀ (ds : List AV) (c' : Cells), RelL C ρ ds yv.cells.toList → (∀ x ∈ yv.cells.toList, x.oneCell' = true) → yv.cells.toList.length = i.size → o + ds.length ≤ k.c.len → c'.toL = putL k.c.toL o ds → CW c' → upd b { k with c := c' } S2 = some (u, S') →
      S'.next = S.next ∧ ∃ w', (storeVar t ⟨r.blk, r.base + o, none⟩ yv).run C.P w = .ok () w' ∧ Fits C tb.ng B ρ S'.heap w' ∧ Below B w w' := by
    intro ds c' hrel h1c hlen hle hto hcw hu
    obtain ⟨u1, u2, u3, u4⟩ := upd_inv hu
    have hdl := hrel.len
    have hroom := hk.room
    rw [h3] at u3
    obtain ⟨w', g1, g2, g3⟩ := write_ok hF e2 u2 hr hb hk hrel h1c hfr' (by omega) (by rw [hdl]; omega) (fun hg => by have := (hk.grown hg).2.2.1; rw [hdl]; omega)
      (fun hB => by have := (hk.old hB).1; exact List.eq_nil_of_length_eq_zero (by rw [hdl]; omega)) hto hcw
    exact ⟨by rw [u4, h4], w', by rw [storeVar_run hi _ _ hlen]; exact g1, by rw [u3]; exact g2, g3⟩
  have one : ∀ (hs : scal y = true) (h7 : (cond (scal y && Nat.beq (mkTI C.P t i).size 1) (bnd (lft (k.c.set1 o y)) fun c => upd b { k with c := c }) fail) S2 = some (u, S')),
      S'.next = S.next ∧ ∃ w', (storeVar t ⟨r.blk, r.base + o, none⟩ yv).run C.P w = .ok () w' ∧ Fits C tb.ng B ρ S'.heap w' ∧ Below B w w' := by
    intro hs h7
    obtain ⟨hc, h8⟩ := cond_inv h7
    obtain ⟨c', h9, h10⟩ := lb h8
    rw [hs, Bool.true_and, mkTI_size] at hc
    have hsz := beq_inv hc
    have h1c := scal_one hs hy
    obtain ⟨s1, s2, s3⟩ := Cells.set1_spec hk.cells.1 h9
    refine fin [y] c' (by rw [one_cells h1c]; simp only [RelL]; exact ⟨yv, [], rfl, hy, rfl⟩) (by rw [one_cells h1c]; simpa using h1c) (by rw [one_cells h1c, hsz]; rfl) (by simp; omega) s2 s3 h10
  cases y with
  | ag l =>
    simp only [] at h6
    obtain ⟨hc, h7⟩ := cond_inv h6
    obtain ⟨c', h8, h9⟩ := lb h7
    rw [Bool.and_eq_true, Bool.and_eq_true] at hc
    obtain ⟨⟨c1, c2⟩, c3⟩ := hc
    have c1 := beq_inv c1
    have c2 := Nat.le_of_ble_eq_true c2
    rw [mkTI_size] at c1 c2
    simp only [Rel] at hy
    obtain ⟨vs, rfl, hvs⟩ := hy
    obtain ⟨s1, s2, s3⟩ := Cells.put_spec hk.cells.1 (d := .l l) trivial h8
    refine fin l c' hvs (fun x hx => ?_) (by show vs.length = _; rw [hvs.len]; exact c1) (by rw [c1]; exact c2) s2 s3 h9
    obtain ⟨j, hj, he⟩ := List.mem_iff_getElem.1 hx
    have hj' : j < l.length := by rw [← hvs.len]; exact hj
    obtain ⟨x', hx', hr'⟩ := hvs.get (List.getElem?_eq_getElem hj')
    have hx2 : vs[j]? = some x := by rw [← he]; exact List.getElem?_eq_getElem hj
    rw [hx2] at hx'; injection hx' with hx'; subst hx'
    exact scal_one (List.all_eq_true.1 c3 _ (List.getElem_mem hj')) hr'
  | und => obtain ⟨hc, _⟩ := cond_inv h6; cases hc
  | tu l => obtain ⟨hc, _⟩ := cond_inv h6; cases hc
  | _ => exact one rfl h6
end
end Go.AX
