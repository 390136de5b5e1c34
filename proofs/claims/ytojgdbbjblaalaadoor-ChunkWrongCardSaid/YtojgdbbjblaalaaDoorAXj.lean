/- A part of the proof: an interpreter of the model's own code on partly known states, and that what it answers is what the program answers. No condition of its own. -/
import Derived.Test.YtojgdbbjblaalaaDoorAXi
set_option linter.unusedSimpArgs false
set_option linter.unusedVariables false
namespace Go.AX
open Go.RowKit (Below)
section
variable {C : Cx} {tb : Tab} {B : Nat} {ρ : Rho} {w : World} {S S' : St}
variable {f : Operand → AV} {g : Operand → Value}
theorem asN_ok {a : AV} {n : Nat} {v : Value} (h : asN a = some n) (hr : Rel C ρ a v) : ∃ k, v = .int k (n : Int) := by
  unfold asN at h
  split at h
  · rename_i k m
    simp only [Option.some.injEq] at h; subst h
    simp only [Rel] at hr; exact ⟨k, hr⟩
  · cases h
theorem asNo_ok (hf : ∀ x, Rel C ρ (f x) (g x)) {o : Option Operand} {d n : Nat} (h : asNo f o d = some n) : (o = none ∧ n = d) ∨ ∃ x k, o = some x ∧ g x = .int k (n : Int) := by
  cases o with
  | none => simp only [asNo, Option.some.injEq] at h; exact .inl ⟨rfl, h.symm⟩
  | some x => obtain ⟨k, hk⟩ := asN_ok h (hf x); exact .inr ⟨x, k, rfl, hk⟩
theorem s_field (ht : TyOk C.P tb) (hF : Fits C tb.ng B ρ S.heap w) (hf : ∀ x, Rel C ρ (f x) (g x)) {t : Nat} {x : Operand} {k : Nat} {o : Oper} (ho : o.op = .field t x k) {v : AV} (h : simple tb f (.field t x k) S = some (v, S')) :
    SOut C tb.ng B ρ w S S' v ((execOp g o).run C.P w) := by
  have hx := hf x
  simp only [simple] at h
  obtain ⟨ti, e1, h1⟩ := lb h
  obtain ⟨i, hi, rfl⟩ := ht.ty _ _ e1
  obtain ⟨fl, e2, h2⟩ := lb h1
  rw [fget_eq] at e2
  cases hfx : f x <;> rw [hfx] at h2 hx <;> try exact (fail_inv h2).elim
  rename_i l
  obtain ⟨h3, rfl⟩ := lft_inv h2
  have e2 : ((fldsOf C.P t).map (mkFl C.P))[k]? = some fl := e2
  rw [List.getElem?_map] at e2
  cases hfk : (fldsOf C.P t)[k]? with
  | none => rw [hfk] at e2; cases e2
  | some fd =>
    rw [hfk] at e2
    simp only [Option.map_some, Option.some.injEq] at e2
    subst e2
    cases hu : C.P.underlying t with
    | none => simp [fldsOf, hu] at hfk
    | some d =>
      cases d <;> try (simp [fldsOf, hu] at hfk; done)
      rename_i fs
      have hfk' : fs[k]? = some fd := by simpa [fldsOf, hu] using hfk
      simp only [Rel] at hx
      obtain ⟨cs, e, hrel⟩ := hx
      have hinf : ∃ it, C.P.info? fd.type = some it := by
        cases hb : isBad (kOf C.P fd.type) with
        | true => simp [part, mkFl, hb] at h3
        | false =>
          cases hit : C.P.info? fd.type with
          | some it => exact ⟨it, rfl⟩
          | none => simp [kOf, Program.underlying, hit, isBad] at hb
      obtain ⟨it, hit⟩ := hinf
      obtain ⟨y, hy1, hy2⟩ := part_ok (w := w) hrel h3 (i := it) hit (by simp [mkFl, Program.cellsOf, hit]) rfl rfl
      refine .same hF rfl (x := y) ?_ hy2
      have hy1 : (Go.part fd.type ⟨cs⟩ fd.offset).run C.P w = .ok y w := hy1
      simp [execOp, ho, e, Instr.field, run_underlying hu, hfk', asAgg, hy1]
theorem s_indexAddr (ht : TyOk C.P tb) (hF : Fits C tb.ng B ρ S.heap w) (hf : ∀ x, Rel C ρ (f x) (g x)) {t : Nat} {x ix : Operand} {o : Oper} (ho : o.op = .indexAddr t x ix) {v : AV} (h : simple tb f (.indexAddr t x ix) S = some (v, S')) :
    SOut C tb.ng B ρ w S S' v ((execOp g o).run C.P w) := by
  have hx := hf x
  simp only [simple] at h
  obtain ⟨ti, e1, h1⟩ := lb h
  obtain ⟨i, hi, rfl⟩ := ht.ty _ _ e1
  rw [mkTI_k] at h1
  cases hn : asN (f ix) with
  | none => rw [hn] at h1; cases hk : kOf C.P t <;> cases hfx : f x <;> rw [hk, hfx] at h1 <;> exact (fail_inv h1).elim
  | some n =>
    obtain ⟨kk, hg⟩ := asN_ok hn (hf ix)
    rw [hn] at h1
    cases hk : kOf C.P t <;> rw [hk] at h1 <;> try (cases hfx : f x <;> rw [hfx] at h1 <;> exact (fail_inv h1).elim)
    · rename_i e
      have hu := kOf_slice hk
      cases hfx : f x <;> rw [hfx] at h1 hx <;> try exact (fail_inv h1).elim
      rename_i b off len cap rest
      obtain ⟨hlt, h2⟩ := cond_inv h1
      have hlt : n < len := Nat.le_of_ble_eq_true hlt
      obtain ⟨te, e2, h3⟩ := lb h2
      obtain ⟨ie, hie, rfl⟩ := ht.ty _ _ e2
      obtain ⟨rfl, rfl⟩ := ret_inv h3
      have : ∃ r cap', ρ b = some r ∧ g x = .slice (some ⟨r.blk, r.base + off, none⟩) len cap' := by
        cases rest
        · simp only [Rel] at hx; obtain ⟨r, hr, _, e⟩ := hx; exact ⟨r, _, hr, e⟩
        · simp only [Rel] at hx; obtain ⟨r, a, hr, _, e, ha⟩ := hx
          rcases ha with rfl | ha
          · exact ⟨r, _, hr, e⟩
          · omega
      obtain ⟨r, cap', hr, e'⟩ := this
      refine .same hF rfl (x := .pointer (some ⟨r.blk, r.base + (off + n * ie.size), none⟩)) ?_ (by simp only [Rel]; exact ⟨r, hr, rfl⟩)
      have h0 : (0 : Int) ≤ n ∧ (n : Int) < len := by omega
      simp [execOp, ho, hg, e', Instr.indexAt, asIntOf, run_underlying hu, h0, run_size hie, Addr.add_lit, Nat.add_assoc, hlt]
    · rename_i m e
      have hu := kOf_arr hk
      cases hfx : f x <;> rw [hfx] at h1 hx <;> try exact (fail_inv h1).elim
      rename_i b off
      obtain ⟨hlt, h2⟩ := cond_inv h1
      have hlt : n < m := Nat.le_of_ble_eq_true hlt
      obtain ⟨te, e2, h3⟩ := lb h2
      obtain ⟨ie, hie, rfl⟩ := ht.ty _ _ e2
      obtain ⟨rfl, rfl⟩ := ret_inv h3
      simp only [Rel] at hx; obtain ⟨r, hr, e'⟩ := hx
      refine .same hF rfl (x := .pointer (some ⟨r.blk, r.base + (off + n * ie.size), none⟩)) ?_ (by simp only [Rel]; exact ⟨r, hr, rfl⟩)
      have h0 : (0 : Int) ≤ n ∧ (n : Int) < m := by omega
      simp [execOp, ho, hg, e', Instr.indexAt, asIntOf, run_underlying hu, h0, run_size hie, Addr.add_lit, Nat.add_assoc, hlt, Instr.sureAddr]
end
end Go.AX
