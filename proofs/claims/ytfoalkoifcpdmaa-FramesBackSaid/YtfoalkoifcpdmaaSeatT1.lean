/- A part of the proof: an interpreter of the model's own code on partly known states, and that what it answers is what the program answers. No condition of its own. -/
import Derived.Test.YtfoalkoifcpdmaaTabT1
import Derived.Test.YtfoalkoifcpdmaaHXpart4
import Derived.KernelRfl
set_option maxRecDepth 100000
set_option linter.unusedVariables false
set_option linter.unusedSimpArgs false
namespace Go.Proofs.Ytfoalkoifcpdmaa
open Go Go.AX Go.Proofs Go.Extern
theorem tyEq : TyEq Try.prog tab := by unfold TyEq; kernel_rfl
theorem impEq : ImpEq Try.prog tab := impEq_of (by kernel_rfl)
theorem fnEq : FnEq Try.prog tab := by unfold FnEq; kernel_rfl
theorem fnChk' : fnChk Try.prog tab = true := by kernel_rfl
theorem ngEq : tab.ng = Try.prog.globals.size := by kernel_rfl
theorem mixEq : Try.prog.follows .mixedOrders = true := by kernel_rfl
theorem pk : ((tl tab.ty 0 1).all fun p => !Try.prog.packed p.1 && !Try.prog.holdsPacked Try.prog.depth p.1) = true := by kernel_rfl
theorem extChk : ((tl tab.fn 0 1).all fun p => Nat.beq p.2.ext 0 || Nat.beq p.1 39 || Nat.beq p.1 44) = true := by kernel_rfl
section
variable (nu : Nat → Value) (one : ∀ i, i < 1000000 → (nu i).oneCell' = true) (nst : Nat) (inv : World → Prop) (stab : ∀ w w' : World, (∀ k, k < nst → w'.heap[k]? = w.heap[k]?) → inv w → inv w')
noncomputable def cx : Cx := ⟨Try.prog, nu, one, nst, inv, stab⟩
theorem tyOk : TyOk Try.prog tab := ⟨fun t ti h => by
  have := cQ6 tyEq _ (cN2 h)
  simp only [] at this
  cases hi : Try.prog.info? t with
  | none => rw [hi] at this; cases this
  | some i => rw [hi] at this; injection this with this; exact ⟨i, rfl, this⟩⟩
theorem extAt {g : Nat} {fi : FI} {fn fn' : Func} {e : Nat} {C : Cx} {tb : Tab} (h : tb.fn.get g = some fi) (hf : C.P.funcs[g]? = some fn) (h1 : (tb.fn.get g).map (·.ext) = some e) (h2 : C.P.funcs[g]? = some fn') (hx : cV1 C tb e fn') : fi.ext = 0 ∨ cV1 C tb fi.ext fn := by
  rw [h] at h1
  simp only [Option.map_some, Option.some.injEq] at h1
  rw [h2] at hf; injection hf with hf
  subst hf; subst h1; exact .inr hx
theorem x39 : cV1 (cx nu one nst inv stab) tab 1 Try.f39 := ext1_ok (by kernel_rfl) (by kernel_rfl)
theorem x44 : cV1 (cx nu one nst inv stab) tab 2 Try.f44 := ext2_ok (ps := Try.f44.params) (rs := Try.f44.resultTypes) (t := Try.f44.resultTypes.getD 0 0) (by kernel_rfl) (by kernel_rfl) (by kernel_rfl) (by kernel_rfl)
theorem tabOk : aF3 (cx nu one nst inv stab) tab := allOk' tyEq impEq ngEq rfl fnEq fnChk'
  (fun t m g d h => by
    have h' : (t, m, g, d) ∈ mets := h
    simp only [mets, List.mem_cons, List.not_mem_nil, or_false, Prod.mk.injEq] at h'
    all_goals exact h'.elim
)
  mixEq
  (fun g fi fn h hf hb => by
    have hc := List.all_eq_true.1 extChk _ (cN2 h)
    simp only [Bool.or_eq_true] at hc
    rcases hc with ((hc | hc) | hc)
    · exact .inl (Nat.eq_of_beq_eq_true hc)
    all_goals have hg := Nat.eq_of_beq_eq_true hc; subst hg
    · exact extAt h hf (by kernel_rfl) Try.func39 (x39 nu one nst inv stab)
    · exact extAt h hf (by kernel_rfl) Try.func44 (x44 nu one nst inv stab))
end
end Go.Proofs.Ytfoalkoifcpdmaa
