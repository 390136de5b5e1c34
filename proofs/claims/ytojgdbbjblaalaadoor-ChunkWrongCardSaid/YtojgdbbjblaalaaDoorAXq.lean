/- A part of the proof: an interpreter of the model's own code on partly known states, and that what it answers is what the program answers. No condition of its own. -/
import Derived.Test.YtojgdbbjblaalaaDoorAXp
set_option linter.unusedSimpArgs false
set_option linter.unusedVariables false
namespace Go.AX
open Go.RowKit (Below)
section
variable {C : Cx} {tb : Tab} {B : Nat} {ρ : Rho} {w : World} {S S' : St}
variable {f : Operand → AV} {g : Operand → Value}
theorem simple_ok (ht : TabOk C tb) (hF : Fits C tb.ng B ρ S.heap w) (hng : tb.ng ≤ S.next) (hf : ∀ x, Rel C ρ (f x) (g x)) {o : Oper} {v : AV} (h : simple tb f o.op S = some (v, S')) (hfree : Free ρ S.next S'.next) :
    SOut C tb.ng B ρ w S S' v ((execOp g o).run C.P w) := by
  cases ho : o.op <;> rw [ho] at h
  case move x => obtain ⟨rfl, rfl⟩ := ret_inv h; exact .same hF rfl (by simp [execOp, ho]) (hf x)
  case assign x => obtain ⟨rfl, rfl⟩ := ret_inv h; exact .same hF rfl (by simp [execOp, ho]) (hf x)
  case pick => exact s_pick hF hf ho h
  case alloc => exact s_alloc ht.toTyOk hF hng ho h hfree
  case box => exact s_box hF hng hf ho h hfree
  case build => exact s_build ht.toTyOk hF hf ho h
  case buildSlice => exact s_buildSlice ht.toTyOk hF hng hf ho h hfree
  case load t a =>
    obtain ⟨h1, h2, y, h3, h4⟩ := load_ok ht.toTyOk hF (hf a) h
    exact .same hF h1 (by simp only [execOp, ho]; rw [Sem.run_bind, h3]; rfl) h4
  case store t a x =>
    simp only [simple] at h
    obtain ⟨u, S1, h1, h2⟩ := bnd_inv h
    obtain ⟨rfl, rfl⟩ := ret_inv h2
    obtain ⟨h3, w', h4, h5, h6⟩ := store_ok ht.toTyOk hF (hf a) (hf x) h1
    exact ⟨ρ, undef, w', .inr ⟨by simp only [execOp, ho]; rw [Sem.run_bind, h4]; rfl, rfl⟩, by simp [Rel], h5, Ext.refl _ _ _, h6⟩
  case nilCheck => exact s_nilCheck hF hf ho h
  case binOp => exact s_binOp ht.toTyOk ht.toHypOk hF hf ho h
  case unOp => exact s_unOp ht.toHypOk hF hf ho h
  case convert => exact s_convert ht.toTyOk ht.toHypOk hF hng hf ho h hfree
  case makeInterface => exact s_makeInterface ht.toTyOk hF hf ho h
  case makeFunc => exact s_makeFunc hF hf ho h
  case makeSlice => exact s_makeSlice ht.toTyOk hF hng hf ho h hfree
  case slice => exact s_slice ht.toTyOk ht.toHypOk hF hf ho h
  case fieldAddr => exact s_fieldAddr ht.toTyOk hF hf ho h
  case field => exact s_field ht.toTyOk hF hf ho h
  case indexAddr => exact s_indexAddr ht.toTyOk hF hf ho h
  case index => exact s_index ht.toTyOk ht.toHypOk hF hf ho h
  case typeAssert => exact s_typeAssert ht hF hf ho h
  case extract => exact s_extract hF hf ho h
  all_goals (simp only [simple] at h; exact (fail_inv h).elim)
/- builtins -/
theorem lenK_ok (hh : HypOk C tb) {t ty : Nat} {x v : AV} {xv : Value} (hx : Rel C ρ x xv) (h : lenK tb (kOf C.P t) x S = some (v, S')) :
    S' = S ∧ ∃ y, (Builtin.len_ #[t] ty #[xv]).run C.P w = .ok y w ∧ Rel C ρ v y := by
  unfold lenK at h
  cases hk : kOf C.P t <;> rw [hk] at h <;> try (cases x <;> exact (fail_inv h).elim)
  case str =>
    have hu := kOf_str hk
    cases x <;> try exact (fail_inv h).elim
    · obtain ⟨rfl, rfl⟩ := ret_inv h
      simp only [Rel] at hx
      obtain ⟨rfl, _⟩ := hx
      exact ⟨rfl, _, run_len_string w t ty _ hu, by simp [Rel, goInt, ByteArray.size, strB_length]⟩
    · obtain ⟨h1, rfl⟩ := lft_inv h
      obtain ⟨z, hz, s, rfl, rfl⟩ := hyp_ok hh h1 ρ _ hx
      exact ⟨rfl, _, run_len_string w t ty _ hu, hz⟩
  case slice =>
    have hu := kOf_slice hk
    cases x <;> try exact (fail_inv h).elim
    · obtain ⟨rfl, rfl⟩ := ret_inv h
      simp only [Rel] at hx; subst hx
      exact ⟨rfl, .int .i64 0, by simp [Builtin.len_, run_underlying hu, goInt], by simp [Rel]⟩
    · obtain ⟨rfl, rfl⟩ := ret_inv h
      obtain ⟨r, a, c', _, rfl, _⟩ := sl_addr hx
      exact ⟨rfl, _, by simp [Builtin.len_, run_underlying hu, goInt]; rfl, by simp [Rel]⟩
  case arr n e =>
    have hu := kOf_arr hk
    have h2 : ret (AV.i .i64 (.ofNat n)) S = some (v, S') := by cases x <;> exact h
    obtain ⟨rfl, rfl⟩ := ret_inv h2
    exact ⟨rfl, .int .i64 n, by cases xv <;> simp [Builtin.len_, run_underlying hu, goInt], by simp [Rel]⟩
theorem capK_ok {t ty : Nat} {x v : AV} {xv : Value} (hx : Rel C ρ x xv) (h : capK (kOf C.P t) x S = some (v, S')) :
    S' = S ∧ ∃ y, (Builtin.cap_ #[t] ty #[xv]).run C.P w = .ok y w ∧ Rel C ρ v y := by
  unfold capK at h
  cases hk : kOf C.P t <;> rw [hk] at h <;> try (cases x <;> exact (fail_inv h).elim)
  have hu := kOf_slice hk
  cases x <;> try exact (fail_inv h).elim
  · obtain ⟨rfl, rfl⟩ := ret_inv h
    simp only [Rel] at hx; subst hx
    exact ⟨rfl, .int .i64 0, by simp [Builtin.cap_, run_underlying hu, goInt], by simp [Rel]⟩
  · rename_i b o n c q
    cases q <;> try exact (fail_inv h).elim
    obtain ⟨rfl, rfl⟩ := ret_inv h
    simp only [Rel] at hx
    obtain ⟨r, _, _, rfl⟩ := hx
    exact ⟨rfl, _, by simp [Builtin.cap_, run_underlying hu, goInt]; rfl, by simp [Rel]⟩
theorem max2_ok {x y z : AV} {xv yv : Value} (hx : Rel C ρ x xv) (hy : Rel C ρ y yv) (h : max2 x y = some z) : ∃ zv, (Builtin.max2 xv yv).run C.P w = .ok zv w ∧ Rel C ρ z zv := by
  unfold max2 at h
  split at h
  · rename_i k a l c
    simp only [Option.some.injEq] at h; subst h
    simp only [Rel] at hx hy; subst hx; subst hy
    refine ⟨_, rfl, ?_⟩
    simp only [Rel, ilt_iff]
    by_cases hac : a < c <;> simp [hac]
  · cases h
theorem min2_ok {x y z : AV} {xv yv : Value} (hx : Rel C ρ x xv) (hy : Rel C ρ y yv) (h : min2 x y = some z) : ∃ zv, (Builtin.min2 xv yv).run C.P w = .ok zv w ∧ Rel C ρ z zv := by
  unfold min2 at h
  split at h
  · rename_i k a l c
    simp only [Option.some.injEq] at h; subst h
    simp only [Rel] at hx hy; subst hx; subst hy
    refine ⟨_, rfl, ?_⟩
    simp only [Rel, ilt_iff]
    by_cases hac : c < a <;> simp [hac]
  · cases h
theorem foldA_ok {ff : AV → AV → Option AV} {gg : Value → Value → Sem Value} (hfg : ∀ {x y z : AV} {xv yv : Value}, Rel C ρ x xv → Rel C ρ y yv → ff x y = some z → ∃ zv, (gg xv yv).run C.P w = .ok zv w ∧ Rel C ρ z zv) :
    ∀ (l : List AV) (vs : List Value) (x v : AV) (xv : Value), RelL C ρ l vs → Rel C ρ x xv → foldA ff x l = some v → ∃ y, (vs.foldlM gg xv).run C.P w = .ok y w ∧ Rel C ρ v y := by
  intro l
  induction l with
  | nil => intro vs x v xv hl hx h; simp only [RelL] at hl; subst hl; simp only [foldA, Option.some.injEq] at h; subst h; exact ⟨xv, by simp, hx⟩
  | cons a l ih =>
    intro vs x v xv hl hx h
    simp only [RelL] at hl
    obtain ⟨u, us, rfl, h1, h2⟩ := hl
    simp only [foldA] at h
    cases hz : ff x a with
    | none => rw [hz] at h; cases h
    | some z =>
      rw [hz] at h
      obtain ⟨zv, z1, z2⟩ := hfg hx h1 hz
      obtain ⟨y, y1, y2⟩ := ih us z v zv h2 z2 h
      exact ⟨y, by simp only [List.foldlM_cons, Sem.run_bind, z1, Result.andThen_ok, y1], y2⟩
end
end Go.AX
