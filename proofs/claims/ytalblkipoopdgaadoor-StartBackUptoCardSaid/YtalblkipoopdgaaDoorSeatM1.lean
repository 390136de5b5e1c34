/- A part of the proof: an interpreter of the model's own code on partly known states, and that what it answers is what the program answers. No condition of its own. -/
import Derived.Test.YtalblkipoopdgaaDoorTabM1
import Derived.Test.YtalblkipoopdgaaDoorHXpart4
import Derived.KernelRfl
set_option maxRecDepth 100000
set_option linter.unusedVariables false
set_option linter.unusedSimpArgs false
namespace Go.Proofs.YtalblkipoopdgaaDoor
open Go Go.AX Go.Proofs Go.Extern
theorem tyEq : TyEq Tryd.prog tab := by unfold TyEq; kernel_rfl
theorem impEq : ImpEq Tryd.prog tab := impEq_of (by kernel_rfl)
theorem fnEq : FnEq Tryd.prog tab := by unfold FnEq; kernel_rfl
theorem fnChk' : fnChk Tryd.prog tab = true := by kernel_rfl
theorem ngEq : tab.ng = Tryd.prog.globals.size := by kernel_rfl
theorem mixEq : Tryd.prog.follows .mixedOrders = true := by kernel_rfl
theorem pk : ((tl tab.ty 0 1).all fun p => !Tryd.prog.packed p.1 && !Tryd.prog.holdsPacked Tryd.prog.depth p.1) = true := by kernel_rfl
theorem met0 : MetAt2 Tryd.prog 76 "Kind" 85 := fun x w => by kernel_rfl
theorem met1 : MetAt Tryd.prog 76 "Implements" 98 := fun x w => by kernel_rfl
theorem met2 : MetAt Tryd.prog 76 "Elem" 97 := fun x w => by kernel_rfl
theorem met3 : MetAt Tryd.prog 76 "Comparable" 96 := fun x w => by kernel_rfl
theorem met4 : MetAt Tryd.prog 76 "AssignableTo" 95 := fun x w => by kernel_rfl
theorem met5 : MetAt Tryd.prog 60 "Unwrap" 90 := fun x w => by kernel_rfl
theorem extChk : ((tl tab.fn 0 1).all fun p => Nat.beq p.2.ext 0 || Nat.beq p.1 26 || Nat.beq p.1 31 || Nat.beq p.1 32 || Nat.beq p.1 33 || Nat.beq p.1 46 || Nat.beq p.1 47 || Nat.beq p.1 52 || Nat.beq p.1 62 || Nat.beq p.1 85 || Nat.beq p.1 95 || Nat.beq p.1 96 || Nat.beq p.1 97 || Nat.beq p.1 98) = true := by kernel_rfl
theorem kd0 : (∀ w, (Rtype.kind 40).run Tryd.prog w = .ok 2 w) ∧ Tryd.prog.packed 40 = false := ⟨fun w => by kernel_rfl, by kernel_rfl⟩
theorem kd1 : (∀ w, (Rtype.kind 48).run Tryd.prog w = .ok 22 w) ∧ Tryd.prog.packed 48 = false := ⟨fun w => by kernel_rfl, by kernel_rfl⟩
theorem kd2 : (∀ w, (Rtype.kind 60).run Tryd.prog w = .ok 25 w) ∧ Tryd.prog.packed 60 = false := ⟨fun w => by kernel_rfl, by kernel_rfl⟩
theorem el0 : (∀ w, (Rtype.elem? 48).run Tryd.prog w = .ok (some 40) w) ∧ Tryd.prog.packed 48 = false := ⟨fun w => by kernel_rfl, by kernel_rfl⟩
theorem asg0 : (∀ w, (ReflectliteType.assignableTo 40 40).run Tryd.prog w = .ok true w) ∧ Tryd.prog.packed 40 = false ∧ Tryd.prog.packed 40 = false := ⟨fun w => by kernel_rfl, by kernel_rfl, by kernel_rfl⟩
theorem asg1 : (∀ w, (ReflectliteType.assignableTo 40 48).run Tryd.prog w = .ok false w) ∧ Tryd.prog.packed 40 = false ∧ Tryd.prog.packed 48 = false := ⟨fun w => by kernel_rfl, by kernel_rfl, by kernel_rfl⟩
theorem asg2 : (∀ w, (ReflectliteType.assignableTo 40 60).run Tryd.prog w = .ok false w) ∧ Tryd.prog.packed 40 = false ∧ Tryd.prog.packed 60 = false := ⟨fun w => by kernel_rfl, by kernel_rfl, by kernel_rfl⟩
theorem asg3 : (∀ w, (ReflectliteType.assignableTo 48 40).run Tryd.prog w = .ok false w) ∧ Tryd.prog.packed 48 = false ∧ Tryd.prog.packed 40 = false := ⟨fun w => by kernel_rfl, by kernel_rfl, by kernel_rfl⟩
theorem asg4 : (∀ w, (ReflectliteType.assignableTo 48 48).run Tryd.prog w = .ok true w) ∧ Tryd.prog.packed 48 = false ∧ Tryd.prog.packed 48 = false := ⟨fun w => by kernel_rfl, by kernel_rfl, by kernel_rfl⟩
theorem asg5 : (∀ w, (ReflectliteType.assignableTo 48 60).run Tryd.prog w = .ok false w) ∧ Tryd.prog.packed 48 = false ∧ Tryd.prog.packed 60 = false := ⟨fun w => by kernel_rfl, by kernel_rfl, by kernel_rfl⟩
theorem asg6 : (∀ w, (ReflectliteType.assignableTo 60 40).run Tryd.prog w = .ok false w) ∧ Tryd.prog.packed 60 = false ∧ Tryd.prog.packed 40 = false := ⟨fun w => by kernel_rfl, by kernel_rfl, by kernel_rfl⟩
theorem asg7 : (∀ w, (ReflectliteType.assignableTo 60 48).run Tryd.prog w = .ok false w) ∧ Tryd.prog.packed 60 = false ∧ Tryd.prog.packed 48 = false := ⟨fun w => by kernel_rfl, by kernel_rfl, by kernel_rfl⟩
theorem asg8 : (∀ w, (ReflectliteType.assignableTo 60 60).run Tryd.prog w = .ok true w) ∧ Tryd.prog.packed 60 = false ∧ Tryd.prog.packed 60 = false := ⟨fun w => by kernel_rfl, by kernel_rfl, by kernel_rfl⟩
theorem imq0 : (∀ w, (ReflectliteType.implements_ 27 40).run Tryd.prog w = .ok true w) ∧ Tryd.prog.packed 27 = false ∧ Tryd.prog.packed 40 = false := ⟨fun w => by kernel_rfl, by kernel_rfl, by kernel_rfl⟩
theorem imq1 : (∀ w, (ReflectliteType.implements_ 27 48).run Tryd.prog w = .ok true w) ∧ Tryd.prog.packed 27 = false ∧ Tryd.prog.packed 48 = false := ⟨fun w => by kernel_rfl, by kernel_rfl, by kernel_rfl⟩
theorem imq2 : (∀ w, (ReflectliteType.implements_ 27 60).run Tryd.prog w = .ok true w) ∧ Tryd.prog.packed 27 = false ∧ Tryd.prog.packed 60 = false := ⟨fun w => by kernel_rfl, by kernel_rfl, by kernel_rfl⟩
theorem rfOk : RfOk Tryd.prog tab where
  kd := fun t k h => by
    have h' := assocN_mem _ t k h
    have h' : (t, k) ∈ kds := h'
    simp only [kds, List.mem_cons, List.not_mem_nil, or_false, Prod.mk.injEq] at h'
    rcases h' with ⟨rfl, rfl⟩ | ⟨rfl, rfl⟩ | ⟨rfl, rfl⟩
    · exact kd0
    · exact kd1
    · exact kd2
  el := fun t e h => by
    have h' := assocN_mem _ t e h
    have h' : (t, e) ∈ els := h'
    simp only [els, List.mem_cons, List.not_mem_nil, or_false, Prod.mk.injEq] at h'
    obtain ⟨rfl, rfl⟩ := h'
    exact el0
  asg := fun u t r h => by
    have h' := impl_mem _ u t r h
    have h' : (u, t, r) ∈ asgs := h'
    simp only [asgs, List.mem_cons, List.not_mem_nil, or_false, Prod.mk.injEq] at h'
    rcases h' with ⟨rfl, rfl, rfl⟩ | ⟨rfl, rfl, rfl⟩ | ⟨rfl, rfl, rfl⟩ | ⟨rfl, rfl, rfl⟩ | ⟨rfl, rfl, rfl⟩ | ⟨rfl, rfl, rfl⟩ | ⟨rfl, rfl, rfl⟩ | ⟨rfl, rfl, rfl⟩ | ⟨rfl, rfl, rfl⟩
    · exact asg0
    · exact asg1
    · exact asg2
    · exact asg3
    · exact asg4
    · exact asg5
    · exact asg6
    · exact asg7
    · exact asg8
  im2 := fun u t r h => by
    have h' := impl_mem _ u t r h
    have h' : (u, t, r) ∈ im2s := h'
    simp only [im2s, List.mem_cons, List.not_mem_nil, or_false, Prod.mk.injEq] at h'
    rcases h' with ⟨rfl, rfl, rfl⟩ | ⟨rfl, rfl, rfl⟩ | ⟨rfl, rfl, rfl⟩
    · exact imq0
    · exact imq1
    · exact imq2
  ty := fun t w => by kernel_rfl
section
variable (nu : Nat → Value) (one : ∀ i, i < 1000000 → (nu i).oneCell' = true) (nst : Nat) (inv : World → Prop) (stab : ∀ w w' : World, (∀ k, k < nst → w'.heap[k]? = w.heap[k]?) → inv w → inv w')
noncomputable def cx : Cx := ⟨Tryd.prog, nu, one, nst, inv, stab⟩
theorem tyOk : TyOk Tryd.prog tab := ⟨fun t ti h => by
  have := map_at tyEq _ (tl_get h)
  simp only [] at this
  cases hi : Tryd.prog.info? t with
  | none => rw [hi] at this; cases this
  | some i => rw [hi] at this; injection this with this; exact ⟨i, rfl, this⟩⟩
theorem extAt {g : Nat} {fi : FI} {fn fn' : Func} {e : Nat} {C : Cx} {tb : Tab} (h : tb.fn.get g = some fi) (hf : C.P.funcs[g]? = some fn) (h1 : (tb.fn.get g).map (·.ext) = some e) (h2 : C.P.funcs[g]? = some fn') (hx : ExtOk C tb e fn') : fi.ext = 0 ∨ ExtOk C tb fi.ext fn := by
  rw [h] at h1
  simp only [Option.map_some, Option.some.injEq] at h1
  rw [h2] at hf; injection hf with hf
  subst hf; subst h1; exact .inr hx
theorem x26 : ExtOk (cx nu one nst inv stab) tab 5 Tryd.f26 := ext5_ok (by kernel_rfl) (by kernel_rfl) (fun t w => by kernel_rfl)
theorem x31 : ExtOk (cx nu one nst inv stab) tab 7 Tryd.f31 := ext7_ok tyOk rfOk (by kernel_rfl) (by kernel_rfl)
theorem x32 : ExtOk (cx nu one nst inv stab) tab 8 Tryd.f32 := ext8_ok rfOk (by kernel_rfl) (by kernel_rfl)
theorem x33 : ExtOk (cx nu one nst inv stab) tab 9 Tryd.f33 := ext9_ok tyOk rfOk (by kernel_rfl) (by kernel_rfl)
theorem x46 : ExtOk (cx nu one nst inv stab) tab 14 Tryd.f46 := ext14_ok tyOk rfOk (by kernel_rfl) (by kernel_rfl)
theorem x47 : ExtOk (cx nu one nst inv stab) tab 15 Tryd.f47 := ext15_ok tyOk rfOk (by kernel_rfl) (by kernel_rfl)
theorem x52 : ExtOk (cx nu one nst inv stab) tab 4 Tryd.f52 := ext4_ok (by kernel_rfl) (by kernel_rfl)
theorem x62 : ExtOk (cx nu one nst inv stab) tab 3 Tryd.f62 := ext3_ok (by kernel_rfl) (by kernel_rfl)
theorem x85 : ExtOk (cx nu one nst inv stab) tab 10 Tryd.f85 := ext10_ok rfOk (by kernel_rfl) (by kernel_rfl)
theorem x95 : ExtOk (cx nu one nst inv stab) tab 13 Tryd.f95 := ext13_ok rfOk (by kernel_rfl) (by kernel_rfl)
theorem x96 : ExtOk (cx nu one nst inv stab) tab 6 Tryd.f96 := ext6_ok tyOk (by kernel_rfl) (by kernel_rfl) pk
theorem x97 : ExtOk (cx nu one nst inv stab) tab 11 Tryd.f97 := ext11_ok rfOk (by kernel_rfl) (by kernel_rfl)
theorem x98 : ExtOk (cx nu one nst inv stab) tab 12 Tryd.f98 := ext12_ok rfOk (by kernel_rfl) (by kernel_rfl)
theorem tabOk : AllOk (cx nu one nst inv stab) tab := allOk' tyEq impEq ngEq rfl fnEq fnChk'
  (fun t m g d h => by
    have h' : (t, m, g, d) ∈ mets := h
    simp only [mets, List.mem_cons, List.not_mem_nil, or_false, Prod.mk.injEq] at h'
    rcases h' with ⟨rfl, rfl, rfl, rfl⟩ | ⟨rfl, rfl, rfl, rfl⟩ | ⟨rfl, rfl, rfl, rfl⟩ | ⟨rfl, rfl, rfl, rfl⟩ | ⟨rfl, rfl, rfl, rfl⟩ | ⟨rfl, rfl, rfl, rfl⟩
    · exact .inr ⟨rfl, met0⟩
    · exact .inl ⟨rfl, met1⟩
    · exact .inl ⟨rfl, met2⟩
    · exact .inl ⟨rfl, met3⟩
    · exact .inl ⟨rfl, met4⟩
    · exact .inl ⟨rfl, met5⟩)
  mixEq
  (fun g fi fn h hf hb => by
    have hc := List.all_eq_true.1 extChk _ (tl_get h)
    simp only [Bool.or_eq_true] at hc
    rcases hc with (((((((((((((hc | hc) | hc) | hc) | hc) | hc) | hc) | hc) | hc) | hc) | hc) | hc) | hc) | hc)
    · exact .inl (Nat.eq_of_beq_eq_true hc)
    all_goals have hg := Nat.eq_of_beq_eq_true hc; subst hg
    · exact extAt h hf (by kernel_rfl) Tryd.func26 (x26 nu one nst inv stab)
    · exact extAt h hf (by kernel_rfl) Tryd.func31 (x31 nu one nst inv stab)
    · exact extAt h hf (by kernel_rfl) Tryd.func32 (x32 nu one nst inv stab)
    · exact extAt h hf (by kernel_rfl) Tryd.func33 (x33 nu one nst inv stab)
    · exact extAt h hf (by kernel_rfl) Tryd.func46 (x46 nu one nst inv stab)
    · exact extAt h hf (by kernel_rfl) Tryd.func47 (x47 nu one nst inv stab)
    · exact extAt h hf (by kernel_rfl) Tryd.func52 (x52 nu one nst inv stab)
    · exact extAt h hf (by kernel_rfl) Tryd.func62 (x62 nu one nst inv stab)
    · exact extAt h hf (by kernel_rfl) Tryd.func85 (x85 nu one nst inv stab)
    · exact extAt h hf (by kernel_rfl) Tryd.func95 (x95 nu one nst inv stab)
    · exact extAt h hf (by kernel_rfl) Tryd.func96 (x96 nu one nst inv stab)
    · exact extAt h hf (by kernel_rfl) Tryd.func97 (x97 nu one nst inv stab)
    · exact extAt h hf (by kernel_rfl) Tryd.func98 (x98 nu one nst inv stab))
end
end Go.Proofs.YtalblkipoopdgaaDoor
