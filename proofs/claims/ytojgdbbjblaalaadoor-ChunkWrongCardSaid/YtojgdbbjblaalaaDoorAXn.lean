/- A part of the proof: an interpreter of the model's own code on partly known states, and that what it answers is what the program answers. No condition of its own. -/
import Derived.Test.YtojgdbbjblaalaaDoorAXm
set_option linter.unusedSimpArgs false
set_option linter.unusedVariables false
namespace Go.AX
open Go.RowKit (Below)
section
variable {C : Cx} {tb : Tab} {B : Nat} {ρ : Rho} {w : World} {S S' : St}
variable {f : Operand → AV} {g : Operand → Value}
def IsB (v : Option Value) (d n : Nat) : Prop := (v = none ∧ n = d) ∨ ∃ k, v = some (.int k (n : Int))
theorem asNo_isB (hf : ∀ x, Rel C ρ (f x) (g x)) {o : Option Operand} {d n : Nat} (h : asNo f o d = some n) : IsB (o.map g) d n := by
  rcases asNo_ok hf h with ⟨rfl, e⟩ | ⟨x, k, rfl, e⟩
  · exact .inl ⟨rfl, e⟩
  · exact .inr ⟨k, by simp [e]⟩
theorem bounds_run {P : Program} {b : Bool} {len cap a d : Nat} {vl vh : Option Value} (hl : IsB vl 0 a) (hh : IsB vh len d) (h1 : a ≤ d) (h2 : d ≤ cap) (w : World) :
    (Instr.sliceBounds b len cap vl vh none).run P w = .ok (a, d, cap) w := by
  have sb : ∀ (k : IntKind) (n y : Nat) (c : BoundsCode), n ≤ y → (Instr.sliceBound (.int k (n : Int)) y c).run P w = .ok n w := fun k n y c h => by
    simp [Instr.sliceBound, asIntOf, h]
  rcases hh with ⟨rfl, rfl⟩ | ⟨kh, rfl⟩ <;> rcases hl with ⟨rfl, rfl⟩ | ⟨kl, rfl⟩ <;> simp [Instr.sliceBounds, sb, h1, h2]
theorem extract_str (k n a d : Nat) (h1 : a ≤ d) (h2 : d ≤ k) : (⟨(strB k n).toArray⟩ : ByteArray).extract a d = ⟨(strB (d - a) (low (n >>> (8 * a)) (d - a))).toArray⟩ := by
  rw [strB_sub k n a (d - a) (by omega)]
  apply ByteArray.ext
  rw [ByteArray.data_extract]
  simp only [List.extract_toArray]
theorem sl2_inv {lo hi : Option Operand} {d a b : Nat} (h : sl2 f lo hi d = some (a, b)) : asNo f lo 0 = some a ∧ asNo f hi d = some b := by
  unfold sl2 at h
  split at h
  · simp only [Option.some.injEq, Prod.mk.injEq] at h; obtain ⟨rfl, rfl⟩ := h; constructor <;> assumption
  · cases h
theorem slc_inv {v off len cap : Nat} {rest : Bool} {sz lo hi : Nat} {r : AV} (h : slc v off len cap rest sz lo hi = some r) :
    lo ≤ hi ∧ ((rest = true ∧ hi ≤ len ∧ r = .sl v (off + lo * sz) (hi - lo) (cap + lo) true) ∨ (rest = false ∧ hi ≤ cap ∧ r = .sl v (if cap = lo then off else off + lo * sz) (hi - lo) (cap - lo) false)) := by
  simp only [slc] at h
  by_cases c1 : lo ≤ hi
  · rw [ble_true c1, cond_true] at h
    refine ⟨c1, ?_⟩
    cases rest with
    | true =>
      left
      simp only [cond_true] at h
      by_cases c2 : hi ≤ len
      · rw [ble_true c2, cond_true] at h
        simp only [Option.some.injEq] at h
        exact ⟨rfl, c2, h.symm⟩
      · rw [ble_false c2] at h; cases h
    | false =>
      right
      simp only [cond_false] at h
      by_cases c2 : hi ≤ cap
      · rw [ble_true c2, cond_true] at h
        simp only [Option.some.injEq] at h
        refine ⟨rfl, c2, ?_⟩
        rw [← h]
        by_cases hc : cap = lo
        · rw [if_pos hc, show Nat.beq cap lo = true by simp [hc]]; rfl
        · rw [if_neg hc, show Nat.beq cap lo = false from Bool.eq_false_iff.2 fun e => hc (beq_inv e)]; rfl
      · rw [ble_false c2] at h; cases h
  · rw [ble_false c1] at h; cases h
theorem s_slice (ht : TyOk C.P tb) (hh : HypOk C tb) (hF : Fits C tb.ng B ρ S.heap w) (hf : ∀ x, Rel C ρ (f x) (g x)) {t : Nat} {x : Operand} {lo hi mx : Option Operand} {o : Oper} (ho : o.op = .slice t x lo hi mx) {v : AV} (h : simple tb f (.slice t x lo hi mx) S = some (v, S')) :
    SOut C tb.ng B ρ w S S' v ((execOp g o).run C.P w) := by
  have hx := hf x
  simp only [simple] at h
  cases mx with
  | some m => exact (fail_inv h).elim
  | none =>
  obtain ⟨ti, e1, h1⟩ := lb h
  obtain ⟨i, hi', rfl⟩ := ht.ty _ _ e1
  rw [mkTI_k] at h1
  have fin : ∀ {z : Value}, S' = S → Rel C ρ v z → (Instr.sliceAt t (g x) (lo.map g) (hi.map g) none).run C.P w = .ok z w → SOut C tb.ng B ρ w S S' v ((execOp g o).run C.P w) := by
    intro z e hz hrun
    subst e
    refine .same hF rfl (x := z) ?_ hz
    simp only [execOp, ho, Option.map_none]
    rw [Sem.run_bind, hrun]
    try rfl
  have arrNot : ∀ {d : TypeDesc}, C.P.underlying t = some d → (∀ n e, d ≠ .array n e) → (Instr.sliceAt t (g x) (lo.map g) (hi.map g) none).run C.P w = (Instr.slice t (g x) (lo.map g) (hi.map g) none).run C.P w := by
    intro d hu hn
    simp only [Instr.sliceAt, Sem.run_bind, run_underlying hu, Result.andThen_ok]
  cases hk : kOf C.P t <;> rw [hk] at h1 <;> try (cases hfx : f x <;> rw [hfx] at h1 <;> exact (fail_inv h1).elim)
  case str =>
    have hu := kOf_str hk
    cases hfx : f x <;> rw [hfx] at h1 hx <;> try exact (fail_inv h1).elim
    rename_i k n
    simp only [Rel] at hx
    obtain ⟨hgx, hlt⟩ := hx
    obtain ⟨⟨a, d⟩, h2, h3⟩ := lb h1
    obtain ⟨ha, hd⟩ := sl2_inv h2
    obtain ⟨hc, h4⟩ := cond_inv h3
    obtain ⟨c1, c2⟩ := and_ble hc
    obtain ⟨rfl, e⟩ := ret_inv h4
    refine fin e (z := .string ((⟨(strB k n).toArray⟩ : ByteArray).extract a d)) ?_ ?_
    · simp only [Rel]
      exact ⟨by rw [extract_str k n a d c1 c2]; rfl, low_lt _ _⟩
    · have hsz : (⟨(strB k n).toArray⟩ : ByteArray).size = k := by simp [ByteArray.size, strB_length]
      rw [arrNot hu (by simp), hgx]
      simp only [] at c1 c2
      simp [Instr.slice, run_underlying hu, hsz, bounds_run (asNo_isB hf ha) (asNo_isB hf hd) c1 c2]
  case slice e =>
    have hu := kOf_slice hk
    cases hfx : f x <;> rw [hfx] at h1 hx <;> try exact (fail_inv h1).elim
    · simp only [Rel] at hx
      obtain ⟨⟨a, d⟩, h2, h3⟩ := lb h1
      obtain ⟨ha, hd⟩ := sl2_inv h2
      obtain ⟨te, e2, h4⟩ := lb h3
      obtain ⟨ie, hie, rfl⟩ := ht.ty _ _ e2
      obtain ⟨hc, h5⟩ := cond_inv h4
      rw [Bool.and_eq_true] at hc
      have c1 : a = 0 := beq_inv hc.1
      have c2 : d = 0 := beq_inv hc.2
      subst c1; subst c2
      obtain ⟨rfl, e'⟩ := ret_inv h5
      refine fin e' (z := .slice none 0 0) (by simp only [Rel]) ?_
      rw [arrNot hu (by simp), hx]
      simp [Instr.slice, run_underlying hu, bounds_run (cap := 0) (asNo_isB hf ha) (asNo_isB hf hd) (Nat.le_refl _) (Nat.le_refl _), run_size hie]
    · rename_i b off len cap rest
      obtain ⟨⟨a, d⟩, h2, h3⟩ := lb h1
      obtain ⟨ha, hd⟩ := sl2_inv h2
      obtain ⟨te, e2, h4⟩ := lb h3
      obtain ⟨ie, hie, rfl⟩ := ht.ty _ _ e2
      obtain ⟨h5, e'⟩ := lft_inv h4
      rw [mkTI_size] at h5
      obtain ⟨c1, hr5⟩ := slc_inv h5
      simp only [] at c1
      rcases hr5 with ⟨rfl, c2, rfl⟩ | ⟨rfl, c2, rfl⟩
      · simp only [] at c2
        simp only [Rel] at hx
        obtain ⟨r, adr, hr, hle, hgx, hadr⟩ := hx
        have c3 : d ≤ r.cap - cap := by omega
        refine fin e' (z := .slice (some (if r.cap - cap = a then adr else adr.add (a * ie.size))) (d - a) (r.cap - cap - a)) ?_ ?_
        · simp only [Rel]
          refine ⟨r, if r.cap - cap = a then adr else adr.add (a * ie.size), hr, by omega, ?_, ?_⟩
          · congr 1; omega
          · rcases hadr with rfl | ⟨hz1, hz2⟩
            · by_cases hc : r.cap - cap = a
              · right; exact ⟨by omega, by omega⟩
              · left; rw [if_neg hc, Addr.add_lit, Nat.add_assoc]
            · right; exact ⟨by omega, by omega⟩
        · rw [arrNot hu (by simp), hgx]
          simp only [Instr.slice, Sem.run_bind, run_underlying hu, Result.andThen_ok, bounds_run (asNo_isB hf ha) (asNo_isB hf hd) c1 c3, run_size hie, Sem.run_pure]
          split <;> rfl
      · simp only [] at c2
        simp only [Rel] at hx
        obtain ⟨r, hr, hle, hgx⟩ := hx
        refine fin e' (z := .slice (some (if cap = a then ⟨r.blk, r.base + off, none⟩ else ⟨r.blk, r.base + off + a * ie.size, none⟩)) (d - a) (cap - a)) ?_ ?_
        · simp only [Rel]
          refine ⟨r, hr, by omega, ?_⟩
          congr 2
          by_cases hc : cap = a
          · rw [if_pos hc, if_pos hc]
          · rw [if_neg hc, if_neg hc, Nat.add_assoc]
        · rw [arrNot hu (by simp), hgx]
          simp only [Instr.slice, Sem.run_bind, run_underlying hu, Result.andThen_ok, bounds_run (asNo_isB hf ha) (asNo_isB hf hd) c1 c2, run_size hie, Sem.run_pure, Option.map_some, Addr.add_lit]
          split <;> rfl
  case arr n e =>
    have hu := kOf_arr hk
    cases hfx : f x <;> rw [hfx] at h1 hx <;> try exact (fail_inv h1).elim
    rename_i b off
    obtain ⟨⟨a, d⟩, h2, h3⟩ := lb h1
    obtain ⟨ha, hd⟩ := sl2_inv h2
    obtain ⟨te, e2, h4⟩ := lb h3
    obtain ⟨ie, hie, rfl⟩ := ht.ty _ _ e2
    obtain ⟨h5, e'⟩ := lft_inv h4
    rw [mkTI_size] at h5
    obtain ⟨c1, hr5⟩ := slc_inv h5
    simp only [] at c1
    rcases hr5 with ⟨hf', _, _⟩ | ⟨_, c2, rfl⟩
    · cases hf'
    · simp only [] at c2
      simp only [Rel] at hx
      obtain ⟨r, hr, hgx⟩ := hx
      refine fin e' (z := .slice (some (if n = a then ⟨r.blk, r.base + off, none⟩ else ⟨r.blk, r.base + off + a * ie.size, none⟩)) (d - a) (n - a)) ?_ ?_
      · simp only [Rel]
        refine ⟨r, hr, by omega, ?_⟩
        congr 2
        by_cases hc : n = a
        · rw [if_pos hc, if_pos hc]
        · rw [if_neg hc, if_neg hc, Nat.add_assoc]
      · rw [hgx]
        simp only [Instr.sliceAt, Instr.sureAddr, Sem.run_bind, run_underlying hu, Result.andThen_ok, bounds_run (asNo_isB hf ha) (asNo_isB hf hd) c1 c2, run_size hie, Sem.run_pure, Addr.add_lit]
end
end Go.AX
