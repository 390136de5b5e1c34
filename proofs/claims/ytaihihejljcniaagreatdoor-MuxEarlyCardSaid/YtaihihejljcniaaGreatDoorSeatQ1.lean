/- A part of the proof: an interpreter of the model's own code on partly known states, and that what it answers is what the program answers. No condition of its own. -/
import Derived.Test.YtaihihejljcniaaGreatDoorTabQ1
import Derived.Test.YtaihihejljcniaaGreatDoorHXpart4
import Derived.KernelRfl
set_option maxRecDepth 100000
set_option linter.unusedVariables false
set_option linter.unusedSimpArgs false
namespace Go.Proofs.YtaihihejljcniaaGreatDoor
open Go Go.AX Go.Proofs Go.Extern
theorem tyEq : TyEq Tryz.prog tab := by unfold TyEq; kernel_rfl
theorem impEq : ImpEq Tryz.prog tab := impEq_of (by kernel_rfl)
theorem fnEq : FnEq Tryz.prog tab := by unfold FnEq; kernel_rfl
theorem fnChk' : fnChk Tryz.prog tab = true := by kernel_rfl
theorem ngEq : tab.ng = Tryz.prog.globals.size := by kernel_rfl
theorem mixEq : Tryz.prog.follows .mixedOrders = true := by kernel_rfl
theorem pk : ((tl tab.ty 0 1).all fun p => !Tryz.prog.packed p.1 && !Tryz.prog.holdsPacked Tryz.prog.depth p.1) = true := by kernel_rfl
theorem met0 : MetAt2 Tryz.prog 128 "Kind" 104 := fun x w => by kernel_rfl
theorem met1 : MetAt Tryz.prog 128 "Implements" 120 := fun x w => by kernel_rfl
theorem met2 : MetAt Tryz.prog 128 "Elem" 119 := fun x w => by kernel_rfl
theorem met3 : MetAt Tryz.prog 128 "Comparable" 118 := fun x w => by kernel_rfl
theorem met4 : MetAt Tryz.prog 128 "AssignableTo" 117 := fun x w => by kernel_rfl
theorem met5 : MetAt Tryz.prog 94 "Unwrap" 112 := fun x w => by kernel_rfl
theorem extChk : ((tl tab.fn 0 1).all fun p => Nat.beq p.2.ext 0 || Nat.beq p.1 31 || Nat.beq p.1 43 || Nat.beq p.1 44 || Nat.beq p.1 45 || Nat.beq p.1 60 || Nat.beq p.1 64 || Nat.beq p.1 65 || Nat.beq p.1 86 || Nat.beq p.1 104 || Nat.beq p.1 117 || Nat.beq p.1 118 || Nat.beq p.1 119 || Nat.beq p.1 120) = true := by kernel_rfl
theorem kd0 : (∀ w, (Rtype.kind 54).run Tryz.prog w = .ok 2 w) ∧ Tryz.prog.packed 54 = false := ⟨fun w => by kernel_rfl, by kernel_rfl⟩
theorem kd1 : (∀ w, (Rtype.kind 74).run Tryz.prog w = .ok 22 w) ∧ Tryz.prog.packed 74 = false := ⟨fun w => by kernel_rfl, by kernel_rfl⟩
theorem kd2 : (∀ w, (Rtype.kind 94).run Tryz.prog w = .ok 25 w) ∧ Tryz.prog.packed 94 = false := ⟨fun w => by kernel_rfl, by kernel_rfl⟩
theorem el0 : (∀ w, (Rtype.elem? 74).run Tryz.prog w = .ok (some 54) w) ∧ Tryz.prog.packed 74 = false := ⟨fun w => by kernel_rfl, by kernel_rfl⟩
theorem asg0 : (∀ w, (ReflectliteType.assignableTo 54 54).run Tryz.prog w = .ok true w) ∧ Tryz.prog.packed 54 = false ∧ Tryz.prog.packed 54 = false := ⟨fun w => by kernel_rfl, by kernel_rfl, by kernel_rfl⟩
theorem asg1 : (∀ w, (ReflectliteType.assignableTo 54 74).run Tryz.prog w = .ok false w) ∧ Tryz.prog.packed 54 = false ∧ Tryz.prog.packed 74 = false := ⟨fun w => by kernel_rfl, by kernel_rfl, by kernel_rfl⟩
theorem asg2 : (∀ w, (ReflectliteType.assignableTo 54 94).run Tryz.prog w = .ok false w) ∧ Tryz.prog.packed 54 = false ∧ Tryz.prog.packed 94 = false := ⟨fun w => by kernel_rfl, by kernel_rfl, by kernel_rfl⟩
theorem asg3 : (∀ w, (ReflectliteType.assignableTo 74 54).run Tryz.prog w = .ok false w) ∧ Tryz.prog.packed 74 = false ∧ Tryz.prog.packed 54 = false := ⟨fun w => by kernel_rfl, by kernel_rfl, by kernel_rfl⟩
theorem asg4 : (∀ w, (ReflectliteType.assignableTo 74 74).run Tryz.prog w = .ok true w) ∧ Tryz.prog.packed 74 = false ∧ Tryz.prog.packed 74 = false := ⟨fun w => by kernel_rfl, by kernel_rfl, by kernel_rfl⟩
theorem asg5 : (∀ w, (ReflectliteType.assignableTo 74 94).run Tryz.prog w = .ok false w) ∧ Tryz.prog.packed 74 = false ∧ Tryz.prog.packed 94 = false := ⟨fun w => by kernel_rfl, by kernel_rfl, by kernel_rfl⟩
theorem asg6 : (∀ w, (ReflectliteType.assignableTo 94 54).run Tryz.prog w = .ok false w) ∧ Tryz.prog.packed 94 = false ∧ Tryz.prog.packed 54 = false := ⟨fun w => by kernel_rfl, by kernel_rfl, by kernel_rfl⟩
theorem asg7 : (∀ w, (ReflectliteType.assignableTo 94 74).run Tryz.prog w = .ok false w) ∧ Tryz.prog.packed 94 = false ∧ Tryz.prog.packed 74 = false := ⟨fun w => by kernel_rfl, by kernel_rfl, by kernel_rfl⟩
theorem asg8 : (∀ w, (ReflectliteType.assignableTo 94 94).run Tryz.prog w = .ok true w) ∧ Tryz.prog.packed 94 = false ∧ Tryz.prog.packed 94 = false := ⟨fun w => by kernel_rfl, by kernel_rfl, by kernel_rfl⟩
theorem imq0 : (∀ w, (ReflectliteType.implements_ 27 54).run Tryz.prog w = .ok true w) ∧ Tryz.prog.packed 27 = false ∧ Tryz.prog.packed 54 = false := ⟨fun w => by kernel_rfl, by kernel_rfl, by kernel_rfl⟩
theorem imq1 : (∀ w, (ReflectliteType.implements_ 27 74).run Tryz.prog w = .ok true w) ∧ Tryz.prog.packed 27 = false ∧ Tryz.prog.packed 74 = false := ⟨fun w => by kernel_rfl, by kernel_rfl, by kernel_rfl⟩
theorem imq2 : (∀ w, (ReflectliteType.implements_ 27 94).run Tryz.prog w = .ok true w) ∧ Tryz.prog.packed 27 = false ∧ Tryz.prog.packed 94 = false := ⟨fun w => by kernel_rfl, by kernel_rfl, by kernel_rfl⟩
theorem rfOk : RfOk Tryz.prog tab where
  kd := fun t k h => by
    have h' := assocN_mem _ t k h
    have h' : (t, k) ∈ kds := h'
    simp only [kds, List.mem_cons, List.not_mem_nil, or_false, Prod.mk.injEq] at h'
    rcases h' with ⟨rfl, rfl⟩ | ⟨rfl, rfl⟩ | ⟨rfl, rfl⟩
    · exact kd0
    · exact kd1
    · exact kd2
  el := fun t e h => by
    have h' := assocN_mem _ t e h
    have h' : (t, e) ∈ els := h'
    simp only [els, List.mem_cons, List.not_mem_nil, or_false, Prod.mk.injEq] at h'
    obtain ⟨rfl, rfl⟩ := h'
    exact el0
  asg := fun u t r h => by
    have h' := impl_mem _ u t r h
    have h' : (u, t, r) ∈ asgs := h'
    simp only [asgs, List.mem_cons, List.not_mem_nil, or_false, Prod.mk.injEq] at h'
    rcases h' with ⟨rfl, rfl, rfl⟩ | ⟨rfl, rfl, rfl⟩ | ⟨rfl, rfl, rfl⟩ | ⟨rfl, rfl, rfl⟩ | ⟨rfl, rfl, rfl⟩ | ⟨rfl, rfl, rfl⟩ | ⟨rfl, rfl, rfl⟩ | ⟨rfl, rfl, rfl⟩ | ⟨rfl, rfl, rfl⟩
    · exact asg0
    · exact asg1
    · exact asg2
    · exact asg3
    · exact asg4
    · exact asg5
    · exact asg6
    · exact asg7
    · exact asg8
  im2 := fun u t r h => by
    have h' := impl_mem _ u t r h
    have h' : (u, t, r) ∈ im2s := h'
    simp only [im2s, List.mem_cons, List.not_mem_nil, or_false, Prod.mk.injEq] at h'
    rcases h' with ⟨rfl, rfl, rfl⟩ | ⟨rfl, rfl, rfl⟩ | ⟨rfl, rfl, rfl⟩
    · exact imq0
    · exact imq1
    · exact imq2
  ty := fun t w => by kernel_rfl
section
variable (nu : Nat → Value) (one : ∀ i, i < 1000000 → (nu i).oneCell' = true) (nst : Nat) (inv : World → Prop) (stab : ∀ w w' : World, (∀ k, k < nst → w'.heap[k]? = w.heap[k]?) → inv w → inv w')
noncomputable def cx : Cx := ⟨Tryz.prog, nu, one, nst, inv, stab⟩
theorem tyOk : TyOk Tryz.prog tab := ⟨fun t ti h => by
  have := map_at tyEq _ (tl_get h)
  simp only [] at this
  cases hi : Tryz.prog.info? t with
  | none => rw [hi] at this; cases this
  | some i => rw [hi] at this; injection this with this; exact ⟨i, rfl, this⟩⟩
theorem extAt {g : Nat} {fi : FI} {fn fn' : Func} {e : Nat} {C : Cx} {tb : Tab} (h : tb.fn.get g = some fi) (hf : C.P.funcs[g]? = some fn) (h1 : (tb.fn.get g).map (·.ext) = some e) (h2 : C.P.funcs[g]? = some fn') (hx : ExtOk C tb e fn') : fi.ext = 0 ∨ ExtOk C tb fi.ext fn := by
  rw [h] at h1
  simp only [Option.map_some, Option.some.injEq] at h1
  rw [h2] at hf; injection hf with hf
  subst hf; subst h1; exact .inr hx
theorem x31 : ExtOk (cx nu one nst inv stab) tab 5 Tryz.f31 := ext5_ok (by kernel_rfl) (by kernel_rfl) (fun t w => by kernel_rfl)
theorem x43 : ExtOk (cx nu one nst inv stab) tab 7 Tryz.f43 := ext7_ok tyOk rfOk (by kernel_rfl) (by kernel_rfl)
theorem x44 : ExtOk (cx nu one nst inv stab) tab 8 Tryz.f44 := ext8_ok rfOk (by kernel_rfl) (by kernel_rfl)
theorem x45 : ExtOk (cx nu one nst inv stab) tab 9 Tryz.f45 := ext9_ok tyOk rfOk (by kernel_rfl) (by kernel_rfl)
theorem x60 : ExtOk (cx nu one nst inv stab) tab 1 Tryz.f60 := ext1_ok (by kernel_rfl) (by kernel_rfl)
theorem x64 : ExtOk (cx nu one nst inv stab) tab 14 Tryz.f64 := ext14_ok tyOk rfOk (by kernel_rfl) (by kernel_rfl)
theorem x65 : ExtOk (cx nu one nst inv stab) tab 15 Tryz.f65 := ext15_ok tyOk rfOk (by kernel_rfl) (by kernel_rfl)
theorem x86 : ExtOk (cx nu one nst inv stab) tab 2 Tryz.f86 := ext2_ok (ps := Tryz.f86.params) (rs := Tryz.f86.resultTypes) (t := Tryz.f86.resultTypes.getD 0 0) (by kernel_rfl) (by kernel_rfl) (by kernel_rfl) (by kernel_rfl)
theorem x104 : ExtOk (cx nu one nst inv stab) tab 10 Tryz.f104 := ext10_ok rfOk (by kernel_rfl) (by kernel_rfl)
theorem x117 : ExtOk (cx nu one nst inv stab) tab 13 Tryz.f117 := ext13_ok rfOk (by kernel_rfl) (by kernel_rfl)
theorem x118 : ExtOk (cx nu one nst inv stab) tab 6 Tryz.f118 := ext6_ok tyOk (by kernel_rfl) (by kernel_rfl) pk
theorem x119 : ExtOk (cx nu one nst inv stab) tab 11 Tryz.f119 := ext11_ok rfOk (by kernel_rfl) (by kernel_rfl)
theorem x120 : ExtOk (cx nu one nst inv stab) tab 12 Tryz.f120 := ext12_ok rfOk (by kernel_rfl) (by kernel_rfl)
theorem tabOk : AllOk (cx nu one nst inv stab) tab := allOk' tyEq impEq ngEq rfl fnEq fnChk'
  (fun t m g d h => by
    have h' : (t, m, g, d) ∈ mets := h
    simp only [mets, List.mem_cons, List.not_mem_nil, or_false, Prod.mk.injEq] at h'
    rcases h' with ⟨rfl, rfl, rfl, rfl⟩ | ⟨rfl, rfl, rfl, rfl⟩ | ⟨rfl, rfl, rfl, rfl⟩ | ⟨rfl, rfl, rfl, rfl⟩ | ⟨rfl, rfl, rfl, rfl⟩ | ⟨rfl, rfl, rfl, rfl⟩
    · exact .inr ⟨rfl, met0⟩
    · exact .inl ⟨rfl, met1⟩
    · exact .inl ⟨rfl, met2⟩
    · exact .inl ⟨rfl, met3⟩
    · exact .inl ⟨rfl, met4⟩
    · exact .inl ⟨rfl, met5⟩)
  mixEq
  (fun g fi fn h hf hb => by
    have hc := List.all_eq_true.1 extChk _ (tl_get h)
    simp only [Bool.or_eq_true] at hc
    rcases hc with (((((((((((((hc | hc) | hc) | hc) | hc) | hc) | hc) | hc) | hc) | hc) | hc) | hc) | hc) | hc)
    · exact .inl (Nat.eq_of_beq_eq_true hc)
    all_goals have hg := Nat.eq_of_beq_eq_true hc; subst hg
    · exact extAt h hf (by kernel_rfl) Tryz.func31 (x31 nu one nst inv stab)
    · exact extAt h hf (by kernel_rfl) Tryz.func43 (x43 nu one nst inv stab)
    · exact extAt h hf (by kernel_rfl) Tryz.func44 (x44 nu one nst inv stab)
    · exact extAt h hf (by kernel_rfl) Tryz.func45 (x45 nu one nst inv stab)
    · exact extAt h hf (by kernel_rfl) Tryz.func60 (x60 nu one nst inv stab)
    · exact extAt h hf (by kernel_rfl) Tryz.func64 (x64 nu one nst inv stab)
    · exact extAt h hf (by kernel_rfl) Tryz.func65 (x65 nu one nst inv stab)
    · exact extAt h hf (by kernel_rfl) Tryz.func86 (x86 nu one nst inv stab)
    · exact extAt h hf (by kernel_rfl) Tryz.func104 (x104 nu one nst inv stab)
    · exact extAt h hf (by kernel_rfl) Tryz.func117 (x117 nu one nst inv stab)
    · exact extAt h hf (by kernel_rfl) Tryz.func118 (x118 nu one nst inv stab)
    · exact extAt h hf (by kernel_rfl) Tryz.func119 (x119 nu one nst inv stab)
    · exact extAt h hf (by kernel_rfl) Tryz.func120 (x120 nu one nst inv stab))
end
end Go.Proofs.YtaihihejljcniaaGreatDoor
