/- A part of the proof: an interpreter of the model's own code on partly known states, and that what it answers is what the program answers. No condition of its own. -/
import Derived.Test.YtojgdbbjblaalaaDoorAXl
set_option linter.unusedSimpArgs false
set_option linter.unusedVariables false
namespace Go.AX
open Go.RowKit (Below)
structure TabOk (C : Cx) (tb : Tab) : Prop extends TyOk C.P tb, HypOk C tb where
  imp : ∀ t d r, impl tb.imp t d = some r → ∃ want i, C.P.underlying t = some (.interface want) ∧ C.P.info? d = some i ∧ (Instr.missingMethod want i.methods).isNone = r
  ngl : tb.ng = C.P.globals.size
section
variable {C : Cx} {tb : Tab} {B : Nat} {ρ : Rho} {w : World} {S S' : St}
variable {f : Operand → AV} {g : Operand → Value}
theorem fdiv_pow (a n : Nat) : (a : Int).fdiv (2 ^ n) = ((a >>> n : Nat) : Int) := by
  rw [Nat.shiftRight_eq_div_pow, Int.fdiv_eq_ediv_of_nonneg _ (Int.pow_nonneg (by omega))]
  simp
set_option maxHeartbeats 1000000 in
theorem bin_ok (ht : TyOk C.P tb) (hh : HypOk C tb) {o : BinOp} {t : Nat} {x y : Operand} {a c v : AV} {vx vy : Value} (hx : Rel C ρ a vx) (hy : Rel C ρ c vy) (h : bin tb o t (isC x || isC y) a c S = some (v, S')) :
    binGoal C ρ w S S' o t x y vx vy v := by
  unfold bin at h
  split at h
  · -- shl
    obtain ⟨rfl, rfl⟩ := ret_inv h
    rename_i k p l n
    simp only [Rel] at hx hy; subst hx; subst hy
    refine ⟨rfl, rfl, .int k (k.wrap (p * 2 ^ (Nat.min n k.bits))), by simp only [Rel, mkI, wrp_eq], ?_⟩
    have h0 : ¬ ((Int.ofNat n) < 0) := by simp
    simp only [Sem.run_bind, eqGuard_plain (C := C) (.inl ⟨_, _, rfl⟩), Result.andThen_ok]
    simp [binOp, Op.shift]
    intro hneg; omega
  · obtain ⟨rfl, rfl⟩ := ret_inv h
    rename_i k p l n
    simp only [Rel] at hx hy; subst hx; subst hy
    refine ⟨rfl, rfl, .int k (Int.ofNat (p >>> (min n k.bits))), by simp only [Rel]; rfl, ?_⟩
    simp only [Sem.run_bind, eqGuard_plain (C := C) (.inl ⟨_, _, rfl⟩), Result.andThen_ok]
    have := fdiv_pow p (min n k.bits)
    simp [binOp, Op.shift, this]
    intro hneg; omega
  · rename_i o' k p l q hn1 hn2
    obtain ⟨hk, h1⟩ := cond_inv h
    have := kEq_eq hk
    subst this
    simp only [Rel] at hx hy; subst hx; subst hy
    by_cases hs : o = .shl ∨ o = .shr
    · rcases hs with rfl | rfl <;> cases h1
    · obtain ⟨rfl, z, hz, hrun⟩ := binI_ok (C := C) (ρ := ρ) h1 (by constructor <;> intro e <;> exact hs (by simp [e]))
      refine ⟨rfl, rfl, z, hz, ?_⟩
      simp only [Sem.run_bind, eqGuard_plain (C := C) (.inl ⟨_, _, rfl⟩), Result.andThen_ok, hrun]
  · rename_i k p l q
    obtain ⟨hle, h1⟩ := cond_inv h
    obtain ⟨rfl, rfl⟩ := ret_inv h1
    simp only [Rel] at hx hy; obtain ⟨rfl, hx⟩ := hx; obtain ⟨rfl, hy⟩ := hy
    have hle : k + l ≤ 9223372036854775807 := Nat.le_of_ble_eq_true hle
    have e2 : Nat.add p (Nat.shiftLeft q (Nat.mul 8 k)) = p + q * 2 ^ (8 * k) := by
      show p + q <<< (8 * k) = _; rw [Nat.shiftLeft_eq]
    rw [e2]
    refine bin_str (v := .s (k + l) (p + q * 2 ^ (8 * k))) (z := .string ⟨(strB (k + l) (p + q * 2 ^ (8 * k))).toArray⟩) rfl (by simp only [Rel]; exact ⟨trivial, add_lt _ _ _ _ hx hy⟩) ?_
    have hsz : ∀ k p, (⟨(strB k p).toArray⟩ : ByteArray).size = k := fun k p => by simp [ByteArray.size, strB_length]
    simp only [Op.stringOp, hsz]
    rw [if_neg (by simp [IntKind.max, IntKind.signed, IntKind.bits]; omega)]
    simp only [Sem.run_pure, strB_app _ _ _ _ hx]
    rfl
  iterate 6 (
    rename_i k p l q
    obtain ⟨rfl, rfl⟩ := ret_inv h
    simp only [Rel] at hx hy; obtain ⟨rfl, hx⟩ := hx; obtain ⟨rfl, hy⟩ := hy
    refine bin_str (z := .bool _) rfl (by simp only [Rel]; first | rw [sless_eq, strEq hx hy] | rw [sless_eq] | rw [strEq hx hy]) ?_
    simp [Op.stringOp]; try done)
  iterate 2 (
    obtain ⟨h1, rfl⟩ := lft_inv h
    obtain ⟨hs, z, hz, hrun⟩ := hyp_ok hh h1 ρ vx vy hx hy
    refine ⟨rfl, rfl, z, hz, ?_⟩
    have hpl : (∃ k n, vx = .int k n) ∨ (∃ s, vx = .string s) := by
      rcases hs with ⟨k, a, b, e, _⟩ | ⟨s, u, e, _⟩ | ⟨_, k, l, a, b, e, _⟩
      · exact .inl ⟨_, _, e⟩
      · exact .inr ⟨_, e⟩
      · exact .inl ⟨_, _, e⟩
    simp only [Sem.run_bind, eqGuard_plain (C := C) hpl, Result.andThen_ok, hrun])
  · obtain ⟨r, S1, h1, h2⟩ := bnd_inv h
    obtain ⟨rfl, rfl⟩ := ret_inv h2
    exact (bin_eq ht hh hx hy h1).1
  · obtain ⟨r, S1, h1, h2⟩ := bnd_inv h
    obtain ⟨rfl, rfl⟩ := ret_inv h2
    exact (bin_eq ht hh hx hy h1).2
  · exact (fail_inv h).elim
theorem s_binOp (ht : TyOk C.P tb) (hh : HypOk C tb) (hF : Fits C tb.ng B ρ S.heap w) (hf : ∀ x, Rel C ρ (f x) (g x)) {bo : BinOp} {t u : Nat} {x y : Operand} {o : Oper} (ho : o.op = .binOp bo t x y u) {v : AV} (h : simple tb f (.binOp bo t x y u) S = some (v, S')) :
    SOut C tb.ng B ρ w S S' v ((execOp g o).run C.P w) := by
  simp only [simple] at h
  obtain ⟨h1, h2, z, hz, hrun⟩ := bin_ok (w := w) ht hh (hf x) (hf y) h
  refine .same hF h1 (x := z) ?_ hz
  simp only [execOp, ho]
  rw [Sem.run_bind, hrun]
  rfl
theorem s_unOp (hh : HypOk C tb) (hF : Fits C tb.ng B ρ S.heap w) (hf : ∀ x, Rel C ρ (f x) (g x)) {uo : UnOp} {t : Nat} {x : Operand} {o : Oper} (ho : o.op = .unOp uo t x) {v : AV} (h : simple tb f (.unOp uo t x) S = some (v, S')) :
    SOut C tb.ng B ρ w S S' v ((execOp g o).run C.P w) := by
  have hx := hf x
  simp only [simple] at h
  have fin : ∀ {z : Value}, S' = S → Rel C ρ v z → (Op.unary uo (g x)).run C.P w = .ok z w → SOut C tb.ng B ρ w S S' v ((execOp g o).run C.P w) := by
    intro z e hz hrun
    subst e
    refine .same hF rfl (x := z) ?_ hz
    simp only [execOp, ho]
    rw [Sem.run_bind, hrun]
    rfl
  cases hfx : f x <;> rw [hfx] at h hx <;> cases uo <;> first
    | exact (fail_inv h).elim
    | (obtain ⟨h1, e⟩ := lft_inv h
       obtain ⟨z, hz, hrun⟩ := hyp_ok hh h1 ρ _ hx
       exact fin e hz (hrun w))
    | (obtain ⟨rfl, e⟩ := ret_inv h
       simp only [Rel] at hx
       first
         | exact fin e (z := .bool _) (by simp only [Rel]; rfl) (by rw [hx]; simp [Op.unary])
         | exact fin e (z := .int _ _) (by simp only [Rel, mkI, wrp_eq]; rfl) (by rw [hx]; simp [Op.unary, Op.intArith]))
end
end Go.AX
