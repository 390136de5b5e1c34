/- A part of the proof: an interpreter of the model's own code on partly known states, and that what it answers is what the program answers. No condition of its own. -/
import Derived.Test.YtojgdbbjblaalaaDoorAXu
set_option linter.unusedSimpArgs false
set_option linter.unusedVariables false
namespace Go.AX
open Go.RowKit (Below)
section
variable {C : Cx} {tb : Tab} {B : Nat} {ρ : Rho} {w : World} {S S' : St}
variable {f : Operand → AV} {g : Operand → Value}
theorem args_rel (hf : ∀ x, Rel C ρ (f x) (g x)) (l : List Operand) : RelL C ρ (l.map f) (l.map g) := RelL.map f g hf l
theorem s_builtin (ht : TabOk C tb) (hF : Fits C tb.ng B ρ S.heap w) (hng : tb.ng ≤ S.next) (hf : ∀ x, Rel C ρ (f x) (g x)) {c : Call} {bi : Builtin} {o : Oper} (ho : o.op = .call c) (hc : c.callee = .builtin bi) {v : AV}
    (h : builtin tb bi c.argTypes.toList (c.args.toList.map f) S = some (v, S')) (hfree : Free ρ S.next S'.next) : SOut C tb.ng B ρ w S S' v ((execOp g o).run C.P w) := by
  have hargs := args_rel hf c.args.toList
  have hga : c.args.map g = (c.args.toList.map g).toArray := by rw [← List.map_toArray, Array.toArray_toList]
  have hex : (execOp g o).run C.P w = (Go.builtin bi c.argTypes o.type (c.args.map fun | .const _ => true | _ => false) (c.args.toList.map g).toArray).run C.P w := by
    simp only [execOp, ho, resolve, hc, hga]; rfl
  rw [hex]
  generalize (c.args.map fun | .const _ => true | _ => false) = consts
  generalize c.args.toList.map f = l at h hargs
  generalize c.args.toList.map g = vs at hargs
  have hats : ∀ (t : Nat) r, c.argTypes.toList = t :: r → c.argTypes[0]? = some t := fun t r e => by
    rw [← Array.getElem?_toList, e]; rfl
  have hats1 : ∀ (t u : Nat) r, c.argTypes.toList = t :: u :: r → c.argTypes[1]? = some u := fun t u r e => by
    rw [← Array.getElem?_toList, e]; rfl
  have two : ∀ {a b : AV} {vs : List Value}, RelL C ρ [a, b] vs → ∃ x y, vs = [x, y] ∧ Rel C ρ a x ∧ Rel C ρ b y := by
    intro a b vs h; simp only [RelL] at h
    obtain ⟨x, vt, rfl, h1, y, vt2, rfl, h2, rfl⟩ := h; exact ⟨x, y, rfl, h1, h2⟩
  have one : ∀ {a : AV} {vs : List Value}, RelL C ρ [a] vs → ∃ x, vs = [x] ∧ Rel C ρ a x := by
    intro a vs h; simp only [RelL] at h
    obtain ⟨x, vt, rfl, h1, rfl⟩ := h; exact ⟨x, rfl, h1⟩
  generalize hts : c.argTypes.toList = ts at h
  unfold builtin at h
  split at h
  · rename_i t r x
    obtain ⟨x', rfl, hx⟩ := one hargs
    obtain ⟨ti, e1, h1⟩ := lb h
    obtain ⟨i, hi, rfl⟩ := ht.ty _ _ e1
    rw [mkTI_k] at h1
    obtain ⟨rfl, y, h2, h3⟩ := lenK_ok (w := w) (ty := o.type) ht.toHypOk hx h1
    have h2' : (Builtin.len_ c.argTypes o.type #[x']).run C.P w = .ok y w := by
      have : Builtin.len_ c.argTypes o.type #[x'] = Builtin.len_ #[t] o.type #[x'] := by simp [Builtin.len_, hats _ _ hts]
      rw [this]; exact h2
    exact SOut.of (.same hF rfl h2' h3)
  · rename_i t r x
    obtain ⟨x', rfl, hx⟩ := one hargs
    obtain ⟨ti, e1, h1⟩ := lb h
    obtain ⟨i, hi, rfl⟩ := ht.ty _ _ e1
    rw [mkTI_k] at h1
    obtain ⟨rfl, y, h2, h3⟩ := capK_ok (C := C) (w := w) (ty := o.type) hx h1
    have h2' : (Builtin.cap_ c.argTypes o.type #[x']).run C.P w = .ok y w := by
      have : Builtin.cap_ c.argTypes o.type #[x'] = Builtin.cap_ #[t] o.type #[x'] := by simp [Builtin.cap_, hats _ _ hts]
      rw [this]; exact h2
    exact SOut.of (.same hF rfl h2' h3)
  · rename_i x l'
    obtain ⟨h1, rfl⟩ := lft_inv h
    simp only [RelL] at hargs
    obtain ⟨x', vt, rfl, hx, hl⟩ := hargs
    obtain ⟨y, h2, h3⟩ := foldA_ok (C := C) (w := w) (fun hx hy h => max2_ok hx hy h) l' vt x v x' hl hx h1
    exact SOut.of (s := Builtin.max_ c.argTypes o.type (x' :: vt).toArray) (.same hF rfl (by simpa [Builtin.max_] using h2) h3)
  · rename_i x l'
    obtain ⟨h1, rfl⟩ := lft_inv h
    simp only [RelL] at hargs
    obtain ⟨x', vt, rfl, hx, hl⟩ := hargs
    obtain ⟨y, h2, h3⟩ := foldA_ok (C := C) (w := w) (fun hx hy h => min2_ok hx hy h) l' vt x v x' hl hx h1
    exact SOut.of (s := Builtin.min_ c.argTypes o.type (x' :: vt).toArray) (.same hF rfl (by simpa [Builtin.min_] using h2) h3)
  · rename_i st xt r s x
    obtain ⟨s', x', rfl, hs, hx⟩ := two hargs
    exact SOut.of (appK_ok (ty := o.type) ht.toTyOk hF hng (hats _ _ hts) (hats1 _ _ _ hts) hs hx h hfree)
  · rename_i st r d x
    obtain ⟨d', x', rfl, hd, hx⟩ := two hargs
    obtain ⟨h1, y, w', h2, h3, h4, h5⟩ := copyK_ok (ty := o.type) ht.toTyOk hF (hats _ _ hts) hd hx h
    exact SOut.of (s := Builtin.copy_ c.argTypes o.type #[d', x']) ⟨ρ, y, w', h2, h3, h4, Ext.refl _ _ _, h5⟩
  · rename_i x
    obtain ⟨x', rfl, hx⟩ := one hargs
    obtain ⟨h1, h2, y, h3, h4⟩ := dataK_ok (ats := c.argTypes) (ty := o.type) hF hx h
    exact SOut.of (s := Builtin.unsafeSliceData_ c.argTypes o.type #[x']) (.same hF h1 h3 h4)
  · rename_i pt r x n
    obtain ⟨x', n', rfl, hx, hn⟩ := two hargs
    obtain ⟨h1, y, w', h2, h3, h4, h5⟩ := ustrK_ok (ty := o.type) ht.toTyOk hF (hats _ _ hts) hx hn h
    exact SOut.of (s := Builtin.unsafeString_ c.argTypes o.type #[x', n']) ⟨ρ, y, w', h2, h3, h4, Ext.refl _ _ _, h5⟩
  · exact (fail_inv h).elim
end
end Go.AX
