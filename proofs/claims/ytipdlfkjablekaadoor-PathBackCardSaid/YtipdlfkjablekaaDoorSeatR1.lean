/- A part of the proof: an interpreter of the model's own code on partly known states, and that what it answers is what the program answers. No condition of its own. -/
import Derived.Test.YtipdlfkjablekaaDoorTabR1
import Derived.Test.YtipdlfkjablekaaDoorHXpart4
import Derived.KernelRfl
set_option maxRecDepth 100000
set_option linter.unusedVariables false
set_option linter.unusedSimpArgs false
namespace Go.Proofs.YtipdlfkjablekaaDoor
open Go Go.AX Go.Proofs Go.Extern
theorem tyEq : TyEq Tryd.prog tab := by unfold TyEq; kernel_rfl
theorem impEq : ImpEq Tryd.prog tab := impEq_of (by kernel_rfl)
theorem fnEq : FnEq Tryd.prog tab := by unfold FnEq; kernel_rfl
theorem fnChk' : fnChk Tryd.prog tab = true := by kernel_rfl
theorem ngEq : tab.ng = Tryd.prog.globals.size := by kernel_rfl
theorem mixEq : Tryd.prog.follows .mixedOrders = true := by kernel_rfl
theorem pk : ((tl tab.ty 0 1).all fun p => !Tryd.prog.packed p.1 && !Tryd.prog.holdsPacked Tryd.prog.depth p.1) = true := by kernel_rfl
theorem met0 : MetAt Tryd.prog 58 "Comparable" 71 := fun x w => by kernel_rfl
theorem met1 : MetAt Tryd.prog 48 "Unwrap" 66 := fun x w => by kernel_rfl
theorem extChk : ((tl tab.fn 0 1).all fun p => Nat.beq p.2.ext 0 || Nat.beq p.1 21 || Nat.beq p.1 39 || Nat.beq p.1 40 || Nat.beq p.1 46 || Nat.beq p.1 68 || Nat.beq p.1 70 || Nat.beq p.1 71 || Nat.beq p.1 72 || Nat.beq p.1 73) = true := by kernel_rfl
theorem kd0 : (∀ w, (Rtype.kind 33).run Tryd.prog w = .ok 2 w) ∧ Tryd.prog.packed 33 = false := ⟨fun w => by kernel_rfl, by kernel_rfl⟩
theorem kd1 : (∀ w, (Rtype.kind 48).run Tryd.prog w = .ok 25 w) ∧ Tryd.prog.packed 48 = false := ⟨fun w => by kernel_rfl, by kernel_rfl⟩
theorem asg0 : (∀ w, (ReflectliteType.assignableTo 33 33).run Tryd.prog w = .ok true w) ∧ Tryd.prog.packed 33 = false ∧ Tryd.prog.packed 33 = false := ⟨fun w => by kernel_rfl, by kernel_rfl, by kernel_rfl⟩
theorem asg1 : (∀ w, (ReflectliteType.assignableTo 33 48).run Tryd.prog w = .ok false w) ∧ Tryd.prog.packed 33 = false ∧ Tryd.prog.packed 48 = false := ⟨fun w => by kernel_rfl, by kernel_rfl, by kernel_rfl⟩
theorem asg2 : (∀ w, (ReflectliteType.assignableTo 48 33).run Tryd.prog w = .ok false w) ∧ Tryd.prog.packed 48 = false ∧ Tryd.prog.packed 33 = false := ⟨fun w => by kernel_rfl, by kernel_rfl, by kernel_rfl⟩
theorem asg3 : (∀ w, (ReflectliteType.assignableTo 48 48).run Tryd.prog w = .ok true w) ∧ Tryd.prog.packed 48 = false ∧ Tryd.prog.packed 48 = false := ⟨fun w => by kernel_rfl, by kernel_rfl, by kernel_rfl⟩
theorem imq0 : (∀ w, (ReflectliteType.implements_ 24 33).run Tryd.prog w = .ok true w) ∧ Tryd.prog.packed 24 = false ∧ Tryd.prog.packed 33 = false := ⟨fun w => by kernel_rfl, by kernel_rfl, by kernel_rfl⟩
theorem imq1 : (∀ w, (ReflectliteType.implements_ 24 48).run Tryd.prog w = .ok true w) ∧ Tryd.prog.packed 24 = false ∧ Tryd.prog.packed 48 = false := ⟨fun w => by kernel_rfl, by kernel_rfl, by kernel_rfl⟩
theorem rfOk : RfOk Tryd.prog tab where
  kd := fun t k h => by
    have h' := assocN_mem _ t k h
    have h' : (t, k) ∈ kds := h'
    simp only [kds, List.mem_cons, List.not_mem_nil, or_false, Prod.mk.injEq] at h'
    rcases h' with ⟨rfl, rfl⟩ | ⟨rfl, rfl⟩
    · exact kd0
    · exact kd1
  el := fun t e h => by
    have h' := assocN_mem _ t e h
    have h' : (t, e) ∈ els := h'
    simp only [els, List.mem_cons, List.not_mem_nil, or_false, Prod.mk.injEq] at h'
    all_goals exact h'.elim
  asg := fun u t r h => by
    have h' := impl_mem _ u t r h
    have h' : (u, t, r) ∈ asgs := h'
    simp only [asgs, List.mem_cons, List.not_mem_nil, or_false, Prod.mk.injEq] at h'
    rcases h' with ⟨rfl, rfl, rfl⟩ | ⟨rfl, rfl, rfl⟩ | ⟨rfl, rfl, rfl⟩ | ⟨rfl, rfl, rfl⟩
    · exact asg0
    · exact asg1
    · exact asg2
    · exact asg3
  im2 := fun u t r h => by
    have h' := impl_mem _ u t r h
    have h' : (u, t, r) ∈ im2s := h'
    simp only [im2s, List.mem_cons, List.not_mem_nil, or_false, Prod.mk.injEq] at h'
    rcases h' with ⟨rfl, rfl, rfl⟩ | ⟨rfl, rfl, rfl⟩
    · exact imq0
    · exact imq1
  ty := fun t w => by kernel_rfl
section
variable (nu : Nat → Value) (one : ∀ i, i < 1000000 → (nu i).oneCell' = true) (nst : Nat) (inv : World → Prop) (stab : ∀ w w' : World, (∀ k, k < nst → w'.heap[k]? = w.heap[k]?) → inv w → inv w')
noncomputable def cx : Cx := ⟨Tryd.prog, nu, one, nst, inv, stab⟩
theorem tyOk : TyOk Tryd.prog tab := ⟨fun t ti h => by
  have := map_at tyEq _ (tl_get h)
  simp only [] at this
  cases hi : Tryd.prog.info? t with
  | none => rw [hi] at this; cases this
  | some i => rw [hi] at this; injection this with this; exact ⟨i, rfl, this⟩⟩
theorem extAt {g : Nat} {fi : FI} {fn fn' : Func} {e : Nat} {C : Cx} {tb : Tab} (h : tb.fn.get g = some fi) (hf : C.P.funcs[g]? = some fn) (h1 : (tb.fn.get g).map (·.ext) = some e) (h2 : C.P.funcs[g]? = some fn') (hx : ExtOk C tb e fn') : fi.ext = 0 ∨ ExtOk C tb fi.ext fn := by
  rw [h] at h1
  simp only [Option.map_some, Option.some.injEq] at h1
  rw [h2] at hf; injection hf with hf
  subst hf; subst h1; exact .inr hx
theorem x21 : ExtOk (cx nu one nst inv stab) tab 5 Tryd.f21 := ext5_ok (by kernel_rfl) (by kernel_rfl) (fun t w => by kernel_rfl)
theorem x39 : ExtOk (cx nu one nst inv stab) tab 1 Tryd.f39 := ext1_ok (by kernel_rfl) (by kernel_rfl)
theorem x40 : ExtOk (cx nu one nst inv stab) tab 2 Tryd.f40 := ext2_ok (ps := Tryd.f40.params) (rs := Tryd.f40.resultTypes) (t := Tryd.f40.resultTypes.getD 0 0) (by kernel_rfl) (by kernel_rfl) (by kernel_rfl) (by kernel_rfl)
theorem x46 : ExtOk (cx nu one nst inv stab) tab 3 Tryd.f46 := ext3_ok (by kernel_rfl) (by kernel_rfl)
theorem x68 : ExtOk (cx nu one nst inv stab) tab 10 Tryd.f68 := ext10_ok rfOk (by kernel_rfl) (by kernel_rfl)
theorem x70 : ExtOk (cx nu one nst inv stab) tab 13 Tryd.f70 := ext13_ok rfOk (by kernel_rfl) (by kernel_rfl)
theorem x71 : ExtOk (cx nu one nst inv stab) tab 6 Tryd.f71 := ext6_ok tyOk (by kernel_rfl) (by kernel_rfl) pk
theorem x72 : ExtOk (cx nu one nst inv stab) tab 11 Tryd.f72 := ext11_ok rfOk (by kernel_rfl) (by kernel_rfl)
theorem x73 : ExtOk (cx nu one nst inv stab) tab 12 Tryd.f73 := ext12_ok rfOk (by kernel_rfl) (by kernel_rfl)
theorem tabOk : AllOk (cx nu one nst inv stab) tab := allOk' tyEq impEq ngEq rfl fnEq fnChk'
  (fun t m g d h => by
    have h' : (t, m, g, d) ∈ mets := h
    simp only [mets, List.mem_cons, List.not_mem_nil, or_false, Prod.mk.injEq] at h'
    rcases h' with ⟨rfl, rfl, rfl, rfl⟩ | ⟨rfl, rfl, rfl, rfl⟩
    · exact .inl ⟨rfl, met0⟩
    · exact .inl ⟨rfl, met1⟩)
  mixEq
  (fun g fi fn h hf hb => by
    have hc := List.all_eq_true.1 extChk _ (tl_get h)
    simp only [Bool.or_eq_true] at hc
    rcases hc with (((((((((hc | hc) | hc) | hc) | hc) | hc) | hc) | hc) | hc) | hc)
    · exact .inl (Nat.eq_of_beq_eq_true hc)
    all_goals have hg := Nat.eq_of_beq_eq_true hc; subst hg
    · exact extAt h hf (by kernel_rfl) Tryd.func21 (x21 nu one nst inv stab)
    · exact extAt h hf (by kernel_rfl) Tryd.func39 (x39 nu one nst inv stab)
    · exact extAt h hf (by kernel_rfl) Tryd.func40 (x40 nu one nst inv stab)
    · exact extAt h hf (by kernel_rfl) Tryd.func46 (x46 nu one nst inv stab)
    · exact extAt h hf (by kernel_rfl) Tryd.func68 (x68 nu one nst inv stab)
    · exact extAt h hf (by kernel_rfl) Tryd.func70 (x70 nu one nst inv stab)
    · exact extAt h hf (by kernel_rfl) Tryd.func71 (x71 nu one nst inv stab)
    · exact extAt h hf (by kernel_rfl) Tryd.func72 (x72 nu one nst inv stab)
    · exact extAt h hf (by kernel_rfl) Tryd.func73 (x73 nu one nst inv stab))
end
end Go.Proofs.YtipdlfkjablekaaDoor
