/- A part of the proof: an interpreter of the model's own code on partly known states, and that what it answers is what the program answers. No condition of its own. -/
import Derived.Test.YtojgdbbjblaalaaDoorAXw
import Derived.Orders
import Derived.Calls
set_option linter.unusedSimpArgs false
set_option linter.unusedVariables false
namespace Go.AX
open Go.RowKit (Below)
def EnvOk (C : Cx) (ρ : Rho) (E : Env) (a : Act) : Prop :=
  a.tmps.size = E.nt ∧ E.nt ≤ 16777213 ∧ ∀ t x, E.tm.get t = some x → Rel C ρ x (a.tmps.getD t undef)
theorem EnvOk.mono {C : Cx} {ρ ρ' : Rho} {E : Env} {a : Act} (h : EnvOk C ρ E a) (hs : Sub ρ ρ') : EnvOk C ρ' E a :=
  ⟨h.1, h.2.1, fun t x ht => Rel.mono hs x _ (h.2.2 t x ht)⟩
theorem put_tmps (a : Act) (d : Option Tmp) (v : Value) : (a.put d v).defers = a.defers := by cases d <;> rfl
theorem EnvOk.put {C : Cx} {ρ : Rho} {E E' : Env} {a : Act} {d : Option Tmp} {x : AV} {v : Value} (h : EnvOk C ρ E a) (hp : E.put d x = some E') (hx : Rel C ρ x v) : EnvOk C ρ E' (a.put d v) := by
  cases d with
  | none => simp only [Env.put_none, Option.some.injEq] at hp; subst hp; exact h
  | some d =>
    rw [Env.put_some] at hp
    cases hc : Nat.blt d E.nt with
    | false => rw [hc] at hp; cases hp
    | true =>
      rw [hc] at hp
      simp only [cond_true, Option.some.injEq] at hp
      subst hp
      have hlt : Nat.lt d E.nt := Nat.le_of_ble_eq_true hc
      obtain ⟨h1, h2, h3⟩ := h
      have hd : Nat.le d 16777213 := Nat.le_trans (Nat.le_of_lt hlt) h2
      refine ⟨by simp [Act.put, h1], h2, fun t y ht => ?_⟩
      simp only [] at ht
      rw [get_set _ _ _ _ hd] at ht
      simp only [Act.put]
      by_cases e : t = d
      · subst e
        rw [if_pos rfl] at ht; injection ht with ht; subst ht
        have hlt' : t < a.tmps.size := by rw [h1]; exact hlt
        simpa [Array.getD, hlt'] using hx
      · rw [if_neg e] at ht
        have := h3 t y ht
        simpa [Array.getD_eq_getD_getElem?, Array.getElem?_setIfInBounds_ne (Ne.symm e)] using this
theorem op_ok {C : Cx} {tb : Tab} {ρ : Rho} {B : Nat} {H : T Blk} {w : World} {E : Env} {a : Act} (hF : Fits C tb.ng B ρ H w) (h : EnvOk C ρ E a) (x : Operand) : Rel C ρ (op tb.ng E.tm x) (a.eval x) := by
  cases x with
  | tmp t =>
    simp only [op, Act.eval]
    cases hg : E.tm.get t with
    | none => simp [Rel]
    | some v => exact h.2.2 t v hg
  | const v => exact ofV_ok C ρ v
  | global g =>
    simp only [op, Act.eval]
    cases hc : Nat.blt g tb.ng with
    | false => simp [Rel]
    | true =>
      simp only [cond_true, Rel]
      exact ⟨_, hF.glob g (Nat.le_of_ble_eq_true hc), rfl⟩
  | func f => simp only [op, Act.eval, Rel, RelL]; exact ⟨[], [], rfl, rfl, rfl⟩
theorem wanted_ok {C : Cx} {ρ : Rho} {ops : Array Oper} {E : Env} {a : Act} {o : Oper} {b : Bool} (h : EnvOk C ρ E a) (hw : wanted ops.toList E o = some b) : Region.wanted o (yielded ops a.tmps) = b := by
  unfold wanted at hw
  unfold Region.wanted
  cases hg : o.guard with
  | none => rw [hg] at hw; simp only [Option.some.injEq] at hw; simpa using hw
  | some p =>
    obtain ⟨j, want⟩ := p
    rw [hg] at hw
    simp only [] at hw ⊢
    have hj : ops.toList[j]? = ops[j]? := by simp
    rw [hj] at hw
    unfold yielded
    cases ho : ops[j]? with
    | none => rw [ho] at hw; cases hw; rfl
    | some o' =>
      rw [ho] at hw
      simp only [Option.bind_some] at hw ⊢
      cases hd : o'.dst with
      | none => rw [hd] at hw; simp only [Option.some.injEq] at hw; subst hw; simp
      | some d =>
        rw [hd] at hw
        simp only [Option.bind_some] at hw ⊢
        cases hv : E.tm.get d with
        | none => rw [hv] at hw; cases hw
        | some x =>
          rw [hv] at hw
          have hr := h.2.2 d x hv
          have hget : a.tmps.getD d undef = (a.tmps[d]?).getD undef := by simp [Array.getD_eq_getD_getElem?]
          rw [hget] at hr
          have notb : ∀ {y : AV}, (∀ v, Rel C ρ y v → ∀ q, v ≠ .bool q) → x = y → some false = some b → ((match a.tmps[d]? with | some (.bool q) => some q | _ => none) == some want) = b := by
            intro y hy e hb
            subst e
            injection hb with hb; subst hb
            have := hy _ hr
            cases ht : a.tmps[d]? with
            | none => rfl
            | some u =>
              rw [ht] at this
              cases u <;> first | rfl | exact absurd rfl (this _)
          cases x with
          | und => cases hw
          | b q =>
            simp only [Option.some.injEq] at hw
            simp only [Rel] at hr
            cases ht : a.tmps[d]? with
            | none => rw [ht] at hr; simp [undef] at hr
            | some u =>
              rw [ht] at hr
              simp only [Option.getD_some] at hr
              subst hr
              rw [← hw]; rfl
          | sl b' o'' n c r => exact notb (fun v hv q e => by subst e; cases r <;> simp [Rel] at hv) rfl hw
          | x id => cases hw
          | _ => exact notb (fun v hv q e => by subst e; simp [Rel, typeHandle] at hv) rfl hw
end Go.AX
