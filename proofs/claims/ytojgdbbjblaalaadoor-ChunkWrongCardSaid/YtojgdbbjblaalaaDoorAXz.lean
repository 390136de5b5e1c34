/- A part of the proof: an interpreter of the model's own code on partly known states, and that what it answers is what the program answers. No condition of its own. -/
import Derived.Test.YtojgdbbjblaalaaDoorAXy
set_option linter.unusedSimpArgs false
set_option linter.unusedVariables false
namespace Go.AX
open Go.RowKit (Below)
/-- what a call answers is what the program's answers -/
def CallOk (C : Cx) (tb : Tab) (B : Nat) (cal : Nat → List AV → M AV) : Prop :=
  ∀ (g : Nat) (l : List AV) (S : St) (v : AV) (S' : St) (ρ : Rho) (w : World) (args : List Value) (o : Oper) (a : Act) (next : Act → World → Prop) (Q : Exit → Act → World → Prop),
    cal g l S = some (v, S') → Fits C tb.ng B ρ S.heap w → tb.ng ≤ S.next → RelL C ρ l args → Free ρ S.next S'.next →
    (∀ ρ' x w', Rel C ρ' v x → Fits C tb.ng B ρ' S'.heap w' → Ext ρ ρ' S.next S'.next → Below B w w' → next (a.put o.dst x) w') →
    o.upon C.P a next Q ((callFunc g ⟨args⟩).run C.P w)
def MetOk (C : Cx) (tb : Tab) : Prop := ∀ t m g d (v : AV) (u : AV) (ρ : Rho) (x : Value) (w : World), methd tb.met t m = some (g, d) → recv d v = some u → Rel C ρ v x →
  ∃ y, (method (C.P.types.size + Made.depth) t x m).run C.P w = .ok (g, y) w ∧ Rel C ρ u y
theorem operF_ok {C : Cx} {tb : Tab} {B : Nat} {ρ : Rho} {w : World} {S S' : St} {cal : Nat → List AV → M AV} (hc : CallOk C tb B cal) (ht : TabOk C tb) (hm : MetOk C tb)
    {o : Oper} {φ : Operand → AV} {a : Act} {v : AV} {next : Act → World → Prop} {Q : Exit → Act → World → Prop} (h : operF tb cal o φ S = some (v, S')) (hF : Fits C tb.ng B ρ S.heap w) (hng : tb.ng ≤ S.next)
    (hf : ∀ x ∈ o.op.operands.toList, Rel C ρ (φ x) (a.eval x)) (hfree : Free ρ S.next S'.next)
    (hk : ∀ ρ' x w', Rel C ρ' v x → Fits C tb.ng B ρ' S'.heap w' → Ext ρ ρ' S.next S'.next → Below B w w' → next (a.put o.dst x) w') : o.wp C.P a w next Q := by
  classical
  have hcg : operF tb cal o φ = operF tb cal o (fun x => if x ∈ o.op.operands.toList then φ x else .und) := operF_congr tb cal o fun x hx => by rw [if_pos hx]
  rw [hcg] at h
  have hf' : ∀ x, Rel C ρ ((fun x => if x ∈ o.op.operands.toList then φ x else .und) x) (a.eval x) := fun x => by
    show Rel C ρ (if x ∈ o.op.operands.toList then φ x else .und) (a.eval x)
    split
    · rename_i hx; exact hf x hx
    · simp [Rel]
  generalize (fun x => if x ∈ o.op.operands.toList then φ x else .und) = ψ at h hf'
  have fin : ∀ {r : Result Next}, SOut C tb.ng B ρ w S S' v r → o.upon C.P a next Q r := by
    rintro r ⟨ρ', x, w', h1 | ⟨h1, rfl⟩, h2, h3, h4, h5⟩
    · rw [h1]; exact hk ρ' x w' h2 h3 h4 h5
    · rw [h1]; exact hk ρ' undef w' h2 h3 h4 h5
  unfold Oper.wp
  by_cases hcall : ∃ c, o.op = .call c
  · obtain ⟨c, ho⟩ := hcall
    unfold operF at h
    rw [ho] at h
    simp only [] at h
    cases hcb : c.callee <;> rw [hcb] at h <;> simp only [] at h
    case builtin b => exact fin (s_builtin ht hF hng hf' ho hcb h hfree)
    case value g =>
      have hcg' := hcb
      have hg := hf' g
      generalize hψ : ψ g = pg at h hg
      cases pg <;> try exact (fail_inv h).elim
      rename_i g' first cap
      simp only [Rel] at hg
      obtain ⟨as, cs, hg, h1, h2⟩ := hg
      have hrun : (execOp a.eval o).run C.P w = (callFunc g' ⟨as ++ c.args.toList.map a.eval ++ cs⟩).run C.P w := by
        have e1 : (⟨as⟩ : Array Value) ++ c.args.map a.eval ++ ⟨cs⟩ = ⟨as ++ c.args.toList.map a.eval ++ cs⟩ := by
          apply Array.toList_inj.1; simp
        simp only [execOp, ho, resolve, hcg', hg, Deferred.ofValue]
        rw [Sem.run_bind]
        simp only [Sem.run_pure, Result.andThen_ok, invoke]
        rw [e1]
      rw [hrun]
      exact hc _ _ _ _ _ _ _ _ o a next Q h hF hng ((h1.app (args_rel hf' c.args.toList)).app h2) hfree hk
    case invoke r m =>
      have hcr := hcb
      have hr := hf' r
      generalize hψ : ψ r = pr at h hr
      cases pr <;> try exact (fail_inv h).elim
      rename_i t u
      simp only [Rel] at hr
      obtain ⟨x, hr, h1⟩ := hr
      obtain ⟨g, e1, h2⟩ := lb h
      obtain ⟨u', e2, h3⟩ := lb h2
      obtain ⟨g1, g2⟩ := g
      obtain ⟨y, hmeth, hy⟩ := hm t m g1 g2 u u' ρ x w e1 e2 h1
      have hrun : (execOp a.eval o).run C.P w = (callFunc g1 ⟨y :: c.args.toList.map a.eval⟩).run C.P w := by
        have e3 : (#[y] ++ (#[Value.iface t x] ++ c.args.map a.eval).extract 1 (#[Value.iface t x] ++ c.args.map a.eval).size : Array Value) = ⟨y :: c.args.toList.map a.eval⟩ := by
          apply Array.toList_inj.1; simp; exact List.take_of_length_le (by simp)
        simp only [execOp, ho, resolve, hcr, hr]
        rw [Sem.run_bind]
        simp only [Sem.run_pure, Result.andThen_ok, invoke]
        have e4 : (#[Value.iface t x] ++ c.args.map a.eval)[0]? = some (Value.iface t x) := by rw [← Array.getElem?_toList, Array.toList_append]; rfl
        rw [e4]
        simp only [callMethod]
        rw [Sem.run_bind]
        have hp : (program).run C.P w = .ok C.P w := rfl
        rw [hp]
        simp only [Result.andThen_ok]
        rw [Sem.run_bind, hmeth]
        simp only [Result.andThen_ok]
        rw [e3]
      rw [hrun]
      exact hc _ _ _ _ _ _ _ _ o a next Q h3 hF hng (by simp only [RelL]; exact ⟨y, _, rfl, hy, args_rel hf' c.args.toList⟩) hfree hk
  · have hs : operF tb cal o ψ = simple tb ψ o.op := by
      unfold operF
      cases ho : o.op <;> first | rfl | exact absurd ⟨_, ho⟩ hcall
    rw [hs] at h
    exact fin (simple_ok ht hF hng hf' h hfree)
end Go.AX
