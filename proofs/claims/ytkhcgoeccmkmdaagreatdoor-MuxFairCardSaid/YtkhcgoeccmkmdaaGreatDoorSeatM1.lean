/- A part of the proof: an interpreter of the model's own code on partly known states, and that what it answers is what the program answers. No condition of its own. -/
import Derived.Test.YtkhcgoeccmkmdaaGreatDoorTabM1
import Derived.Test.YtkhcgoeccmkmdaaGreatDoorHXpart4
import Derived.KernelRfl
set_option maxRecDepth 100000
set_option linter.unusedVariables false
set_option linter.unusedSimpArgs false
namespace Go.Proofs.YtkhcgoeccmkmdaaGreatDoor
open Go Go.AX Go.Proofs Go.Extern
theorem tyEq : TyEq Tryz.prog tab := by unfold TyEq; kernel_rfl
theorem impEq : ImpEq Tryz.prog tab := impEq_of (by kernel_rfl)
theorem fnEq : FnEq Tryz.prog tab := by unfold FnEq; kernel_rfl
theorem fnChk' : fnChk Tryz.prog tab = true := by kernel_rfl
theorem ngEq : tab.ng = Tryz.prog.globals.size := by kernel_rfl
theorem mixEq : Tryz.prog.follows .mixedOrders = true := by kernel_rfl
theorem pk : ((tl tab.ty 0 1).all fun p => !Tryz.prog.packed p.1 && !Tryz.prog.holdsPacked Tryz.prog.depth p.1) = true := by kernel_rfl
theorem met0 : MetAt2 Tryz.prog 114 "Kind" 189 := fun x w => by kernel_rfl
theorem met1 : MetAt Tryz.prog 114 "Implements" 203 := fun x w => by kernel_rfl
theorem met2 : MetAt Tryz.prog 114 "Elem" 202 := fun x w => by kernel_rfl
theorem met3 : MetAt Tryz.prog 114 "Comparable" 201 := fun x w => by kernel_rfl
theorem met4 : MetAt Tryz.prog 114 "AssignableTo" 200 := fun x w => by kernel_rfl
theorem met5 : MetAt Tryz.prog 110 "Unwrap" 198 := fun x w => by kernel_rfl
theorem extChk : ((tl tab.fn 0 1).all fun p => Nat.beq p.2.ext 0 || Nat.beq p.1 29 || Nat.beq p.1 62 || Nat.beq p.1 63 || Nat.beq p.1 64 || Nat.beq p.1 84 || Nat.beq p.1 88 || Nat.beq p.1 89 || Nat.beq p.1 144 || Nat.beq p.1 170 || Nat.beq p.1 174 || Nat.beq p.1 189 || Nat.beq p.1 200 || Nat.beq p.1 201 || Nat.beq p.1 202 || Nat.beq p.1 203) = true := by kernel_rfl
theorem kd0 : (∀ w, (Rtype.kind 30).run Tryz.prog w = .ok 2 w) ∧ Tryz.prog.packed 30 = false := ⟨fun w => by kernel_rfl, by kernel_rfl⟩
theorem kd1 : (∀ w, (Rtype.kind 94).run Tryz.prog w = .ok 22 w) ∧ Tryz.prog.packed 94 = false := ⟨fun w => by kernel_rfl, by kernel_rfl⟩
theorem kd2 : (∀ w, (Rtype.kind 110).run Tryz.prog w = .ok 25 w) ∧ Tryz.prog.packed 110 = false := ⟨fun w => by kernel_rfl, by kernel_rfl⟩
theorem el0 : (∀ w, (Rtype.elem? 94).run Tryz.prog w = .ok (some 30) w) ∧ Tryz.prog.packed 94 = false := ⟨fun w => by kernel_rfl, by kernel_rfl⟩
theorem asg0 : (∀ w, (ReflectliteType.assignableTo 30 30).run Tryz.prog w = .ok true w) ∧ Tryz.prog.packed 30 = false ∧ Tryz.prog.packed 30 = false := ⟨fun w => by kernel_rfl, by kernel_rfl, by kernel_rfl⟩
theorem asg1 : (∀ w, (ReflectliteType.assignableTo 30 94).run Tryz.prog w = .ok false w) ∧ Tryz.prog.packed 30 = false ∧ Tryz.prog.packed 94 = false := ⟨fun w => by kernel_rfl, by kernel_rfl, by kernel_rfl⟩
theorem asg2 : (∀ w, (ReflectliteType.assignableTo 30 110).run Tryz.prog w = .ok false w) ∧ Tryz.prog.packed 30 = false ∧ Tryz.prog.packed 110 = false := ⟨fun w => by kernel_rfl, by kernel_rfl, by kernel_rfl⟩
theorem asg3 : (∀ w, (ReflectliteType.assignableTo 94 30).run Tryz.prog w = .ok false w) ∧ Tryz.prog.packed 94 = false ∧ Tryz.prog.packed 30 = false := ⟨fun w => by kernel_rfl, by kernel_rfl, by kernel_rfl⟩
theorem asg4 : (∀ w, (ReflectliteType.assignableTo 94 94).run Tryz.prog w = .ok true w) ∧ Tryz.prog.packed 94 = false ∧ Tryz.prog.packed 94 = false := ⟨fun w => by kernel_rfl, by kernel_rfl, by kernel_rfl⟩
theorem asg5 : (∀ w, (ReflectliteType.assignableTo 94 110).run Tryz.prog w = .ok false w) ∧ Tryz.prog.packed 94 = false ∧ Tryz.prog.packed 110 = false := ⟨fun w => by kernel_rfl, by kernel_rfl, by kernel_rfl⟩
theorem asg6 : (∀ w, (ReflectliteType.assignableTo 110 30).run Tryz.prog w = .ok false w) ∧ Tryz.prog.packed 110 = false ∧ Tryz.prog.packed 30 = false := ⟨fun w => by kernel_rfl, by kernel_rfl, by kernel_rfl⟩
theorem asg7 : (∀ w, (ReflectliteType.assignableTo 110 94).run Tryz.prog w = .ok false w) ∧ Tryz.prog.packed 110 = false ∧ Tryz.prog.packed 94 = false := ⟨fun w => by kernel_rfl, by kernel_rfl, by kernel_rfl⟩
theorem asg8 : (∀ w, (ReflectliteType.assignableTo 110 110).run Tryz.prog w = .ok true w) ∧ Tryz.prog.packed 110 = false ∧ Tryz.prog.packed 110 = false := ⟨fun w => by kernel_rfl, by kernel_rfl, by kernel_rfl⟩
theorem imq0 : (∀ w, (ReflectliteType.implements_ 26 30).run Tryz.prog w = .ok true w) ∧ Tryz.prog.packed 26 = false ∧ Tryz.prog.packed 30 = false := ⟨fun w => by kernel_rfl, by kernel_rfl, by kernel_rfl⟩
theorem imq1 : (∀ w, (ReflectliteType.implements_ 26 94).run Tryz.prog w = .ok true w) ∧ Tryz.prog.packed 26 = false ∧ Tryz.prog.packed 94 = false := ⟨fun w => by kernel_rfl, by kernel_rfl, by kernel_rfl⟩
theorem imq2 : (∀ w, (ReflectliteType.implements_ 26 110).run Tryz.prog w = .ok true w) ∧ Tryz.prog.packed 26 = false ∧ Tryz.prog.packed 110 = false := ⟨fun w => by kernel_rfl, by kernel_rfl, by kernel_rfl⟩
theorem rfOk : RfOk Tryz.prog tab where
  kd := fun t k h => by
    have h' := assocN_mem _ t k h
    have h' : (t, k) ∈ kds := h'
    simp only [kds, List.mem_cons, List.not_mem_nil, or_false, Prod.mk.injEq] at h'
    rcases h' with ⟨rfl, rfl⟩ | ⟨rfl, rfl⟩ | ⟨rfl, rfl⟩
    · exact kd0
    · exact kd1
    · exact kd2
  el := fun t e h => by
    have h' := assocN_mem _ t e h
    have h' : (t, e) ∈ els := h'
    simp only [els, List.mem_cons, List.not_mem_nil, or_false, Prod.mk.injEq] at h'
    obtain ⟨rfl, rfl⟩ := h'
    exact el0
  asg := fun u t r h => by
    have h' := impl_mem _ u t r h
    have h' : (u, t, r) ∈ asgs := h'
    simp only [asgs, List.mem_cons, List.not_mem_nil, or_false, Prod.mk.injEq] at h'
    rcases h' with ⟨rfl, rfl, rfl⟩ | ⟨rfl, rfl, rfl⟩ | ⟨rfl, rfl, rfl⟩ | ⟨rfl, rfl, rfl⟩ | ⟨rfl, rfl, rfl⟩ | ⟨rfl, rfl, rfl⟩ | ⟨rfl, rfl, rfl⟩ | ⟨rfl, rfl, rfl⟩ | ⟨rfl, rfl, rfl⟩
    · exact asg0
    · exact asg1
    · exact asg2
    · exact asg3
    · exact asg4
    · exact asg5
    · exact asg6
    · exact asg7
    · exact asg8
  im2 := fun u t r h => by
    have h' := impl_mem _ u t r h
    have h' : (u, t, r) ∈ im2s := h'
    simp only [im2s, List.mem_cons, List.not_mem_nil, or_false, Prod.mk.injEq] at h'
    rcases h' with ⟨rfl, rfl, rfl⟩ | ⟨rfl, rfl, rfl⟩ | ⟨rfl, rfl, rfl⟩
    · exact imq0
    · exact imq1
    · exact imq2
  ty := fun t w => by kernel_rfl
section
variable (nu : Nat → Value) (one : ∀ i, i < 1000000 → (nu i).oneCell' = true) (nst : Nat) (inv : World → Prop) (stab : ∀ w w' : World, (∀ k, k < nst → w'.heap[k]? = w.heap[k]?) → inv w → inv w')
noncomputable def cx : Cx := ⟨Tryz.prog, nu, one, nst, inv, stab⟩
theorem tyOk : TyOk Tryz.prog tab := ⟨fun t ti h => by
  have := map_at tyEq _ (tl_get h)
  simp only [] at this
  cases hi : Tryz.prog.info? t with
  | none => rw [hi] at this; cases this
  | some i => rw [hi] at this; injection this with this; exact ⟨i, rfl, this⟩⟩
theorem extAt {g : Nat} {fi : FI} {fn fn' : Func} {e : Nat} {C : Cx} {tb : Tab} (h : tb.fn.get g = some fi) (hf : C.P.funcs[g]? = some fn) (h1 : (tb.fn.get g).map (·.ext) = some e) (h2 : C.P.funcs[g]? = some fn') (hx : ExtOk C tb e fn') : fi.ext = 0 ∨ ExtOk C tb fi.ext fn := by
  rw [h] at h1
  simp only [Option.map_some, Option.some.injEq] at h1
  rw [h2] at hf; injection hf with hf
  subst hf; subst h1; exact .inr hx
theorem x29 : ExtOk (cx nu one nst inv stab) tab 5 Tryz.f29 := ext5_ok (by kernel_rfl) (by kernel_rfl) (fun t w => by kernel_rfl)
theorem x62 : ExtOk (cx nu one nst inv stab) tab 7 Tryz.f62 := ext7_ok tyOk rfOk (by kernel_rfl) (by kernel_rfl)
theorem x63 : ExtOk (cx nu one nst inv stab) tab 8 Tryz.f63 := ext8_ok rfOk (by kernel_rfl) (by kernel_rfl)
theorem x64 : ExtOk (cx nu one nst inv stab) tab 9 Tryz.f64 := ext9_ok tyOk rfOk (by kernel_rfl) (by kernel_rfl)
theorem x84 : ExtOk (cx nu one nst inv stab) tab 1 Tryz.f84 := ext1_ok (by kernel_rfl) (by kernel_rfl)
theorem x88 : ExtOk (cx nu one nst inv stab) tab 14 Tryz.f88 := ext14_ok tyOk rfOk (by kernel_rfl) (by kernel_rfl)
theorem x89 : ExtOk (cx nu one nst inv stab) tab 15 Tryz.f89 := ext15_ok tyOk rfOk (by kernel_rfl) (by kernel_rfl)
theorem x144 : ExtOk (cx nu one nst inv stab) tab 2 Tryz.f144 := ext2_ok (ps := Tryz.f144.params) (rs := Tryz.f144.resultTypes) (t := Tryz.f144.resultTypes.getD 0 0) (by kernel_rfl) (by kernel_rfl) (by kernel_rfl) (by kernel_rfl)
theorem x170 : ExtOk (cx nu one nst inv stab) tab 3 Tryz.f170 := ext3_ok (by kernel_rfl) (by kernel_rfl)
theorem x174 : ExtOk (cx nu one nst inv stab) tab 4 Tryz.f174 := ext4_ok (by kernel_rfl) (by kernel_rfl)
theorem x189 : ExtOk (cx nu one nst inv stab) tab 10 Tryz.f189 := ext10_ok rfOk (by kernel_rfl) (by kernel_rfl)
theorem x200 : ExtOk (cx nu one nst inv stab) tab 13 Tryz.f200 := ext13_ok rfOk (by kernel_rfl) (by kernel_rfl)
theorem x201 : ExtOk (cx nu one nst inv stab) tab 6 Tryz.f201 := ext6_ok tyOk (by kernel_rfl) (by kernel_rfl) pk
theorem x202 : ExtOk (cx nu one nst inv stab) tab 11 Tryz.f202 := ext11_ok rfOk (by kernel_rfl) (by kernel_rfl)
theorem x203 : ExtOk (cx nu one nst inv stab) tab 12 Tryz.f203 := ext12_ok rfOk (by kernel_rfl) (by kernel_rfl)
theorem tabOk : AllOk (cx nu one nst inv stab) tab := allOk' tyEq impEq ngEq rfl fnEq fnChk'
  (fun t m g d h => by
    have h' : (t, m, g, d) ∈ mets := h
    simp only [mets, List.mem_cons, List.not_mem_nil, or_false, Prod.mk.injEq] at h'
    rcases h' with ⟨rfl, rfl, rfl, rfl⟩ | ⟨rfl, rfl, rfl, rfl⟩ | ⟨rfl, rfl, rfl, rfl⟩ | ⟨rfl, rfl, rfl, rfl⟩ | ⟨rfl, rfl, rfl, rfl⟩ | ⟨rfl, rfl, rfl, rfl⟩
    · exact .inr ⟨rfl, met0⟩
    · exact .inl ⟨rfl, met1⟩
    · exact .inl ⟨rfl, met2⟩
    · exact .inl ⟨rfl, met3⟩
    · exact .inl ⟨rfl, met4⟩
    · exact .inl ⟨rfl, met5⟩)
  mixEq
  (fun g fi fn h hf hb => by
    have hc := List.all_eq_true.1 extChk _ (tl_get h)
    simp only [Bool.or_eq_true] at hc
    rcases hc with (((((((((((((((hc | hc) | hc) | hc) | hc) | hc) | hc) | hc) | hc) | hc) | hc) | hc) | hc) | hc) | hc) | hc)
    · exact .inl (Nat.eq_of_beq_eq_true hc)
    all_goals have hg := Nat.eq_of_beq_eq_true hc; subst hg
    · exact extAt h hf (by kernel_rfl) Tryz.func29 (x29 nu one nst inv stab)
    · exact extAt h hf (by kernel_rfl) Tryz.func62 (x62 nu one nst inv stab)
    · exact extAt h hf (by kernel_rfl) Tryz.func63 (x63 nu one nst inv stab)
    · exact extAt h hf (by kernel_rfl) Tryz.func64 (x64 nu one nst inv stab)
    · exact extAt h hf (by kernel_rfl) Tryz.func84 (x84 nu one nst inv stab)
    · exact extAt h hf (by kernel_rfl) Tryz.func88 (x88 nu one nst inv stab)
    · exact extAt h hf (by kernel_rfl) Tryz.func89 (x89 nu one nst inv stab)
    · exact extAt h hf (by kernel_rfl) Tryz.func144 (x144 nu one nst inv stab)
    · exact extAt h hf (by kernel_rfl) Tryz.func170 (x170 nu one nst inv stab)
    · exact extAt h hf (by kernel_rfl) Tryz.func174 (x174 nu one nst inv stab)
    · exact extAt h hf (by kernel_rfl) Tryz.func189 (x189 nu one nst inv stab)
    · exact extAt h hf (by kernel_rfl) Tryz.func200 (x200 nu one nst inv stab)
    · exact extAt h hf (by kernel_rfl) Tryz.func201 (x201 nu one nst inv stab)
    · exact extAt h hf (by kernel_rfl) Tryz.func202 (x202 nu one nst inv stab)
    · exact extAt h hf (by kernel_rfl) Tryz.func203 (x203 nu one nst inv stab))
end
end Go.Proofs.YtkhcgoeccmkmdaaGreatDoor
