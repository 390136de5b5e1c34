/- A part of the proof: an interpreter of the model's own code on partly known states, and that what it answers is what the program answers. No condition of its own. -/
import Derived.Test.YtgimfcnobfelbaaTabL1
import Derived.Test.YtgimfcnobfelbaaHXpart4
import Derived.KernelRfl
set_option maxRecDepth 100000
set_option linter.unusedVariables false
set_option linter.unusedSimpArgs false
namespace Go.Proofs.Ytgimfcnobfelbaa
open Go Go.AX Go.Proofs Go.Extern
theorem tyEq : TyEq Try.prog tab := by unfold TyEq; kernel_rfl
theorem impEq : ImpEq Try.prog tab := impEq_of (by kernel_rfl)
theorem fnEq : FnEq Try.prog tab := by unfold FnEq; kernel_rfl
theorem fnChk' : fnChk Try.prog tab = true := by kernel_rfl
theorem ngEq : tab.ng = Try.prog.globals.size := by kernel_rfl
theorem mixEq : Try.prog.follows .mixedOrders = true := by kernel_rfl
theorem pk : ((tl tab.ty 0 1).all fun p => !Try.prog.packed p.1 && !Try.prog.holdsPacked Try.prog.depth p.1) = true := by kernel_rfl
theorem met0 : MetAt Try.prog 75 "Comparable" 75 := fun x w => by kernel_rfl
theorem met1 : MetAt Try.prog 71 "Unwrap" 71 := fun x w => by kernel_rfl
theorem extChk : ((tl tab.fn 0 1).all fun p => Nat.beq p.2.ext 0 || Nat.beq p.1 23 || Nat.beq p.1 48 || Nat.beq p.1 53 || Nat.beq p.1 72 || Nat.beq p.1 74 || Nat.beq p.1 75 || Nat.beq p.1 76 || Nat.beq p.1 77) = true := by kernel_rfl
theorem kd0 : (∀ w, (Rtype.kind 49).run Try.prog w = .ok 2 w) ∧ Try.prog.packed 49 = false := ⟨fun w => by kernel_rfl, by kernel_rfl⟩
theorem kd1 : (∀ w, (Rtype.kind 71).run Try.prog w = .ok 25 w) ∧ Try.prog.packed 71 = false := ⟨fun w => by kernel_rfl, by kernel_rfl⟩
theorem asg0 : (∀ w, (ReflectliteType.assignableTo 49 49).run Try.prog w = .ok true w) ∧ Try.prog.packed 49 = false ∧ Try.prog.packed 49 = false := ⟨fun w => by kernel_rfl, by kernel_rfl, by kernel_rfl⟩
theorem asg1 : (∀ w, (ReflectliteType.assignableTo 49 71).run Try.prog w = .ok false w) ∧ Try.prog.packed 49 = false ∧ Try.prog.packed 71 = false := ⟨fun w => by kernel_rfl, by kernel_rfl, by kernel_rfl⟩
theorem asg2 : (∀ w, (ReflectliteType.assignableTo 71 49).run Try.prog w = .ok false w) ∧ Try.prog.packed 71 = false ∧ Try.prog.packed 49 = false := ⟨fun w => by kernel_rfl, by kernel_rfl, by kernel_rfl⟩
theorem asg3 : (∀ w, (ReflectliteType.assignableTo 71 71).run Try.prog w = .ok true w) ∧ Try.prog.packed 71 = false ∧ Try.prog.packed 71 = false := ⟨fun w => by kernel_rfl, by kernel_rfl, by kernel_rfl⟩
theorem imq0 : (∀ w, (ReflectliteType.implements_ 38 49).run Try.prog w = .ok true w) ∧ Try.prog.packed 38 = false ∧ Try.prog.packed 49 = false := ⟨fun w => by kernel_rfl, by kernel_rfl, by kernel_rfl⟩
theorem imq1 : (∀ w, (ReflectliteType.implements_ 38 71).run Try.prog w = .ok true w) ∧ Try.prog.packed 38 = false ∧ Try.prog.packed 71 = false := ⟨fun w => by kernel_rfl, by kernel_rfl, by kernel_rfl⟩
theorem rfOk : RfOk Try.prog tab where
  kd := fun t k h => by
    have h' := assocN_mem _ t k h
    have h' : (t, k) ∈ kds := h'
    simp only [kds, List.mem_cons, List.not_mem_nil, or_false, Prod.mk.injEq] at h'
    rcases h' with ⟨rfl, rfl⟩ | ⟨rfl, rfl⟩
    · exact kd0
    · exact kd1
  el := fun t e h => by
    have h' := assocN_mem _ t e h
    have h' : (t, e) ∈ els := h'
    simp only [els, List.mem_cons, List.not_mem_nil, or_false, Prod.mk.injEq] at h'
    all_goals exact h'.elim
  asg := fun u t r h => by
    have h' := impl_mem _ u t r h
    have h' : (u, t, r) ∈ asgs := h'
    simp only [asgs, List.mem_cons, List.not_mem_nil, or_false, Prod.mk.injEq] at h'
    rcases h' with ⟨rfl, rfl, rfl⟩ | ⟨rfl, rfl, rfl⟩ | ⟨rfl, rfl, rfl⟩ | ⟨rfl, rfl, rfl⟩
    · exact asg0
    · exact asg1
    · exact asg2
    · exact asg3
  im2 := fun u t r h => by
    have h' := impl_mem _ u t r h
    have h' : (u, t, r) ∈ im2s := h'
    simp only [im2s, List.mem_cons, List.not_mem_nil, or_false, Prod.mk.injEq] at h'
    rcases h' with ⟨rfl, rfl, rfl⟩ | ⟨rfl, rfl, rfl⟩
    · exact imq0
    · exact imq1
  ty := fun t w => by kernel_rfl
section
variable (nu : Nat → Value) (one : ∀ i, i < 1000000 → (nu i).oneCell' = true) (nst : Nat) (inv : World → Prop) (stab : ∀ w w' : World, (∀ k, k < nst → w'.heap[k]? = w.heap[k]?) → inv w → inv w')
noncomputable def cx : Cx := ⟨Try.prog, nu, one, nst, inv, stab⟩
theorem tyOk : TyOk Try.prog tab := ⟨fun t ti h => by
  have := map_at tyEq _ (tl_get h)
  simp only [] at this
  cases hi : Try.prog.info? t with
  | none => rw [hi] at this; cases this
  | some i => rw [hi] at this; injection this with this; exact ⟨i, rfl, this⟩⟩
theorem extAt {g : Nat} {fi : FI} {fn fn' : Func} {e : Nat} {C : Cx} {tb : Tab} (h : tb.fn.get g = some fi) (hf : C.P.funcs[g]? = some fn) (h1 : (tb.fn.get g).map (·.ext) = some e) (h2 : C.P.funcs[g]? = some fn') (hx : ExtOk C tb e fn') : fi.ext = 0 ∨ ExtOk C tb fi.ext fn := by
  rw [h] at h1
  simp only [Option.map_some, Option.some.injEq] at h1
  rw [h2] at hf; injection hf with hf
  subst hf; subst h1; exact .inr hx
theorem x23 : ExtOk (cx nu one nst inv stab) tab 5 Try.f23 := ext5_ok (by kernel_rfl) (by kernel_rfl) (fun t w => by kernel_rfl)
theorem x48 : ExtOk (cx nu one nst inv stab) tab 1 Try.f48 := ext1_ok (by kernel_rfl) (by kernel_rfl)
theorem x53 : ExtOk (cx nu one nst inv stab) tab 2 Try.f53 := ext2_ok (ps := Try.f53.params) (rs := Try.f53.resultTypes) (t := Try.f53.resultTypes.getD 0 0) (by kernel_rfl) (by kernel_rfl) (by kernel_rfl) (by kernel_rfl)
theorem x72 : ExtOk (cx nu one nst inv stab) tab 10 Try.f72 := ext10_ok rfOk (by kernel_rfl) (by kernel_rfl)
theorem x74 : ExtOk (cx nu one nst inv stab) tab 13 Try.f74 := ext13_ok rfOk (by kernel_rfl) (by kernel_rfl)
theorem x75 : ExtOk (cx nu one nst inv stab) tab 6 Try.f75 := ext6_ok tyOk (by kernel_rfl) (by kernel_rfl) pk
theorem x76 : ExtOk (cx nu one nst inv stab) tab 11 Try.f76 := ext11_ok rfOk (by kernel_rfl) (by kernel_rfl)
theorem x77 : ExtOk (cx nu one nst inv stab) tab 12 Try.f77 := ext12_ok rfOk (by kernel_rfl) (by kernel_rfl)
theorem tabOk : AllOk (cx nu one nst inv stab) tab := allOk' tyEq impEq ngEq rfl fnEq fnChk'
  (fun t m g d h => by
    have h' : (t, m, g, d) ∈ mets := h
    simp only [mets, List.mem_cons, List.not_mem_nil, or_false, Prod.mk.injEq] at h'
    rcases h' with ⟨rfl, rfl, rfl, rfl⟩ | ⟨rfl, rfl, rfl, rfl⟩
    · exact .inl ⟨rfl, met0⟩
    · exact .inl ⟨rfl, met1⟩)
  mixEq
  (fun g fi fn h hf hb => by
    have hc := List.all_eq_true.1 extChk _ (tl_get h)
    simp only [Bool.or_eq_true] at hc
    rcases hc with ((((((((hc | hc) | hc) | hc) | hc) | hc) | hc) | hc) | hc)
    · exact .inl (Nat.eq_of_beq_eq_true hc)
    all_goals have hg := Nat.eq_of_beq_eq_true hc; subst hg
    · exact extAt h hf (by kernel_rfl) Try.func23 (x23 nu one nst inv stab)
    · exact extAt h hf (by kernel_rfl) Try.func48 (x48 nu one nst inv stab)
    · exact extAt h hf (by kernel_rfl) Try.func53 (x53 nu one nst inv stab)
    · exact extAt h hf (by kernel_rfl) Try.func72 (x72 nu one nst inv stab)
    · exact extAt h hf (by kernel_rfl) Try.func74 (x74 nu one nst inv stab)
    · exact extAt h hf (by kernel_rfl) Try.func75 (x75 nu one nst inv stab)
    · exact extAt h hf (by kernel_rfl) Try.func76 (x76 nu one nst inv stab)
    · exact extAt h hf (by kernel_rfl) Try.func77 (x77 nu one nst inv stab))
end
end Go.Proofs.Ytgimfcnobfelbaa
