/- A part of the proof: an interpreter of the model's own code on partly known states, and that what it answers is what the program answers. No condition of its own. -/
import Derived.Test.YtacflaaahanhgaaDoorTabC2
import Derived.Test.YtacflaaahanhgaaDoorHXpart4
import Derived.KernelRfl
set_option maxRecDepth 100000
set_option linter.unusedVariables false
set_option linter.unusedSimpArgs false
namespace Go.Proofs.YtacflaaahanhgaaDoor
open Go Go.AX Go.Proofs Go.Extern
theorem tyEq : TyEq Tryd.prog tab := by unfold TyEq; kernel_rfl
theorem impEq : ImpEq Tryd.prog tab := impEq_of (by kernel_rfl)
theorem fnEq : FnEq Tryd.prog tab := by unfold FnEq; kernel_rfl
theorem fnChk' : fnChk Tryd.prog tab = true := by kernel_rfl
theorem ngEq : tab.ng = Tryd.prog.globals.size := by kernel_rfl
theorem mixEq : Tryd.prog.follows .mixedOrders = true := by kernel_rfl
theorem pk : ((tl tab.ty 0 1).all fun p => !Tryd.prog.packed p.1 && !Tryd.prog.holdsPacked Tryd.prog.depth p.1) = true := by kernel_rfl
theorem met0 : MetAt Tryd.prog 163 "Unwrap" 194 := fun x w => by kernel_rfl
theorem met1 : MetAt2 Tryd.prog 152 "Kind" 174 := fun x w => by kernel_rfl
theorem met2 : MetAt Tryd.prog 152 "Implements" 186 := fun x w => by kernel_rfl
theorem met3 : MetAt Tryd.prog 152 "Elem" 185 := fun x w => by kernel_rfl
theorem met4 : MetAt Tryd.prog 152 "Comparable" 184 := fun x w => by kernel_rfl
theorem met5 : MetAt Tryd.prog 152 "AssignableTo" 183 := fun x w => by kernel_rfl
theorem extChk : ((tl tab.fn 0 1).all fun p => Nat.beq p.2.ext 0 || Nat.beq p.1 70 || Nat.beq p.1 100 || Nat.beq p.1 101 || Nat.beq p.1 102 || Nat.beq p.1 116 || Nat.beq p.1 117 || Nat.beq p.1 122 || Nat.beq p.1 123 || Nat.beq p.1 159 || Nat.beq p.1 174 || Nat.beq p.1 183 || Nat.beq p.1 184 || Nat.beq p.1 185 || Nat.beq p.1 186) = true := by kernel_rfl
theorem kd0 : (∀ w, (Rtype.kind 38).run Tryd.prog w = .ok 2 w) ∧ Tryd.prog.packed 38 = false := ⟨fun w => by kernel_rfl, by kernel_rfl⟩
theorem kd1 : (∀ w, (Rtype.kind 101).run Tryd.prog w = .ok 22 w) ∧ Tryd.prog.packed 101 = false := ⟨fun w => by kernel_rfl, by kernel_rfl⟩
theorem kd2 : (∀ w, (Rtype.kind 163).run Tryd.prog w = .ok 25 w) ∧ Tryd.prog.packed 163 = false := ⟨fun w => by kernel_rfl, by kernel_rfl⟩
theorem el0 : (∀ w, (Rtype.elem? 101).run Tryd.prog w = .ok (some 38) w) ∧ Tryd.prog.packed 101 = false := ⟨fun w => by kernel_rfl, by kernel_rfl⟩
theorem asg0 : (∀ w, (ReflectliteType.assignableTo 38 38).run Tryd.prog w = .ok true w) ∧ Tryd.prog.packed 38 = false ∧ Tryd.prog.packed 38 = false := ⟨fun w => by kernel_rfl, by kernel_rfl, by kernel_rfl⟩
theorem asg1 : (∀ w, (ReflectliteType.assignableTo 38 101).run Tryd.prog w = .ok false w) ∧ Tryd.prog.packed 38 = false ∧ Tryd.prog.packed 101 = false := ⟨fun w => by kernel_rfl, by kernel_rfl, by kernel_rfl⟩
theorem asg2 : (∀ w, (ReflectliteType.assignableTo 38 163).run Tryd.prog w = .ok false w) ∧ Tryd.prog.packed 38 = false ∧ Tryd.prog.packed 163 = false := ⟨fun w => by kernel_rfl, by kernel_rfl, by kernel_rfl⟩
theorem asg3 : (∀ w, (ReflectliteType.assignableTo 101 38).run Tryd.prog w = .ok false w) ∧ Tryd.prog.packed 101 = false ∧ Tryd.prog.packed 38 = false := ⟨fun w => by kernel_rfl, by kernel_rfl, by kernel_rfl⟩
theorem asg4 : (∀ w, (ReflectliteType.assignableTo 101 101).run Tryd.prog w = .ok true w) ∧ Tryd.prog.packed 101 = false ∧ Tryd.prog.packed 101 = false := ⟨fun w => by kernel_rfl, by kernel_rfl, by kernel_rfl⟩
theorem asg5 : (∀ w, (ReflectliteType.assignableTo 101 163).run Tryd.prog w = .ok false w) ∧ Tryd.prog.packed 101 = false ∧ Tryd.prog.packed 163 = false := ⟨fun w => by kernel_rfl, by kernel_rfl, by kernel_rfl⟩
theorem asg6 : (∀ w, (ReflectliteType.assignableTo 163 38).run Tryd.prog w = .ok false w) ∧ Tryd.prog.packed 163 = false ∧ Tryd.prog.packed 38 = false := ⟨fun w => by kernel_rfl, by kernel_rfl, by kernel_rfl⟩
theorem asg7 : (∀ w, (ReflectliteType.assignableTo 163 101).run Tryd.prog w = .ok false w) ∧ Tryd.prog.packed 163 = false ∧ Tryd.prog.packed 101 = false := ⟨fun w => by kernel_rfl, by kernel_rfl, by kernel_rfl⟩
theorem asg8 : (∀ w, (ReflectliteType.assignableTo 163 163).run Tryd.prog w = .ok true w) ∧ Tryd.prog.packed 163 = false ∧ Tryd.prog.packed 163 = false := ⟨fun w => by kernel_rfl, by kernel_rfl, by kernel_rfl⟩
theorem imq0 : (∀ w, (ReflectliteType.implements_ 26 38).run Tryd.prog w = .ok true w) ∧ Tryd.prog.packed 26 = false ∧ Tryd.prog.packed 38 = false := ⟨fun w => by kernel_rfl, by kernel_rfl, by kernel_rfl⟩
theorem imq1 : (∀ w, (ReflectliteType.implements_ 26 101).run Tryd.prog w = .ok true w) ∧ Tryd.prog.packed 26 = false ∧ Tryd.prog.packed 101 = false := ⟨fun w => by kernel_rfl, by kernel_rfl, by kernel_rfl⟩
theorem imq2 : (∀ w, (ReflectliteType.implements_ 26 163).run Tryd.prog w = .ok true w) ∧ Tryd.prog.packed 26 = false ∧ Tryd.prog.packed 163 = false := ⟨fun w => by kernel_rfl, by kernel_rfl, by kernel_rfl⟩
theorem rfOk : RfOk Tryd.prog tab where
  kd := fun t k h => by
    have h' := assocN_mem _ t k h
    have h' : (t, k) ∈ kds := h'
    simp only [kds, List.mem_cons, List.not_mem_nil, or_false, Prod.mk.injEq] at h'
    rcases h' with ⟨rfl, rfl⟩ | ⟨rfl, rfl⟩ | ⟨rfl, rfl⟩
    · exact kd0
    · exact kd1
    · exact kd2
  el := fun t e h => by
    have h' := assocN_mem _ t e h
    have h' : (t, e) ∈ els := h'
    simp only [els, List.mem_cons, List.not_mem_nil, or_false, Prod.mk.injEq] at h'
    obtain ⟨rfl, rfl⟩ := h'
    exact el0
  asg := fun u t r h => by
    have h' := impl_mem _ u t r h
    have h' : (u, t, r) ∈ asgs := h'
    simp only [asgs, List.mem_cons, List.not_mem_nil, or_false, Prod.mk.injEq] at h'
    rcases h' with ⟨rfl, rfl, rfl⟩ | ⟨rfl, rfl, rfl⟩ | ⟨rfl, rfl, rfl⟩ | ⟨rfl, rfl, rfl⟩ | ⟨rfl, rfl, rfl⟩ | ⟨rfl, rfl, rfl⟩ | ⟨rfl, rfl, rfl⟩ | ⟨rfl, rfl, rfl⟩ | ⟨rfl, rfl, rfl⟩
    · exact asg0
    · exact asg1
    · exact asg2
    · exact asg3
    · exact asg4
    · exact asg5
    · exact asg6
    · exact asg7
    · exact asg8
  im2 := fun u t r h => by
    have h' := impl_mem _ u t r h
    have h' : (u, t, r) ∈ im2s := h'
    simp only [im2s, List.mem_cons, List.not_mem_nil, or_false, Prod.mk.injEq] at h'
    rcases h' with ⟨rfl, rfl, rfl⟩ | ⟨rfl, rfl, rfl⟩ | ⟨rfl, rfl, rfl⟩
    · exact imq0
    · exact imq1
    · exact imq2
  ty := fun t w => by kernel_rfl
section
variable (nu : Nat → Value) (one : ∀ i, i < 1000000 → (nu i).oneCell' = true) (nst : Nat) (inv : World → Prop) (stab : ∀ w w' : World, (∀ k, k < nst → w'.heap[k]? = w.heap[k]?) → inv w → inv w')
noncomputable def cx : Cx := ⟨Tryd.prog, nu, one, nst, inv, stab⟩
theorem tyOk : TyOk Tryd.prog tab := ⟨fun t ti h => by
  have := map_at tyEq _ (tl_get h)
  simp only [] at this
  cases hi : Tryd.prog.info? t with
  | none => rw [hi] at this; cases this
  | some i => rw [hi] at this; injection this with this; exact ⟨i, rfl, this⟩⟩
theorem extAt {g : Nat} {fi : FI} {fn fn' : Func} {e : Nat} {C : Cx} {tb : Tab} (h : tb.fn.get g = some fi) (hf : C.P.funcs[g]? = some fn) (h1 : (tb.fn.get g).map (·.ext) = some e) (h2 : C.P.funcs[g]? = some fn') (hx : ExtOk C tb e fn') : fi.ext = 0 ∨ ExtOk C tb fi.ext fn := by
  rw [h] at h1
  simp only [Option.map_some, Option.some.injEq] at h1
  rw [h2] at hf; injection hf with hf
  subst hf; subst h1; exact .inr hx
theorem x70 : ExtOk (cx nu one nst inv stab) tab 5 Tryd.f70 := ext5_ok (by kernel_rfl) (by kernel_rfl) (fun t w => by kernel_rfl)
theorem x100 : ExtOk (cx nu one nst inv stab) tab 7 Tryd.f100 := ext7_ok tyOk rfOk (by kernel_rfl) (by kernel_rfl)
theorem x101 : ExtOk (cx nu one nst inv stab) tab 8 Tryd.f101 := ext8_ok rfOk (by kernel_rfl) (by kernel_rfl)
theorem x102 : ExtOk (cx nu one nst inv stab) tab 9 Tryd.f102 := ext9_ok tyOk rfOk (by kernel_rfl) (by kernel_rfl)
theorem x116 : ExtOk (cx nu one nst inv stab) tab 1 Tryd.f116 := ext1_ok (by kernel_rfl) (by kernel_rfl)
theorem x117 : ExtOk (cx nu one nst inv stab) tab 3 Tryd.f117 := ext3_ok (by kernel_rfl) (by kernel_rfl)
theorem x122 : ExtOk (cx nu one nst inv stab) tab 14 Tryd.f122 := ext14_ok tyOk rfOk (by kernel_rfl) (by kernel_rfl)
theorem x123 : ExtOk (cx nu one nst inv stab) tab 15 Tryd.f123 := ext15_ok tyOk rfOk (by kernel_rfl) (by kernel_rfl)
theorem x159 : ExtOk (cx nu one nst inv stab) tab 2 Tryd.f159 := ext2_ok (ps := Tryd.f159.params) (rs := Tryd.f159.resultTypes) (t := Tryd.f159.resultTypes.getD 0 0) (by kernel_rfl) (by kernel_rfl) (by kernel_rfl) (by kernel_rfl)
theorem x174 : ExtOk (cx nu one nst inv stab) tab 10 Tryd.f174 := ext10_ok rfOk (by kernel_rfl) (by kernel_rfl)
theorem x183 : ExtOk (cx nu one nst inv stab) tab 13 Tryd.f183 := ext13_ok rfOk (by kernel_rfl) (by kernel_rfl)
theorem x184 : ExtOk (cx nu one nst inv stab) tab 6 Tryd.f184 := ext6_ok tyOk (by kernel_rfl) (by kernel_rfl) pk
theorem x185 : ExtOk (cx nu one nst inv stab) tab 11 Tryd.f185 := ext11_ok rfOk (by kernel_rfl) (by kernel_rfl)
theorem x186 : ExtOk (cx nu one nst inv stab) tab 12 Tryd.f186 := ext12_ok rfOk (by kernel_rfl) (by kernel_rfl)
theorem tabOk : AllOk (cx nu one nst inv stab) tab := allOk' tyEq impEq ngEq rfl fnEq fnChk'
  (fun t m g d h => by
    have h' : (t, m, g, d) ∈ mets := h
    simp only [mets, List.mem_cons, List.not_mem_nil, or_false, Prod.mk.injEq] at h'
    rcases h' with ⟨rfl, rfl, rfl, rfl⟩ | ⟨rfl, rfl, rfl, rfl⟩ | ⟨rfl, rfl, rfl, rfl⟩ | ⟨rfl, rfl, rfl, rfl⟩ | ⟨rfl, rfl, rfl, rfl⟩ | ⟨rfl, rfl, rfl, rfl⟩
    · exact .inl ⟨rfl, met0⟩
    · exact .inr ⟨rfl, met1⟩
    · exact .inl ⟨rfl, met2⟩
    · exact .inl ⟨rfl, met3⟩
    · exact .inl ⟨rfl, met4⟩
    · exact .inl ⟨rfl, met5⟩)
  mixEq
  (fun g fi fn h hf hb => by
    have hc := List.all_eq_true.1 extChk _ (tl_get h)
    simp only [Bool.or_eq_true] at hc
    rcases hc with ((((((((((((((hc | hc) | hc) | hc) | hc) | hc) | hc) | hc) | hc) | hc) | hc) | hc) | hc) | hc) | hc)
    · exact .inl (Nat.eq_of_beq_eq_true hc)
    all_goals have hg := Nat.eq_of_beq_eq_true hc; subst hg
    · exact extAt h hf (by kernel_rfl) Tryd.func70 (x70 nu one nst inv stab)
    · exact extAt h hf (by kernel_rfl) Tryd.func100 (x100 nu one nst inv stab)
    · exact extAt h hf (by kernel_rfl) Tryd.func101 (x101 nu one nst inv stab)
    · exact extAt h hf (by kernel_rfl) Tryd.func102 (x102 nu one nst inv stab)
    · exact extAt h hf (by kernel_rfl) Tryd.func116 (x116 nu one nst inv stab)
    · exact extAt h hf (by kernel_rfl) Tryd.func117 (x117 nu one nst inv stab)
    · exact extAt h hf (by kernel_rfl) Tryd.func122 (x122 nu one nst inv stab)
    · exact extAt h hf (by kernel_rfl) Tryd.func123 (x123 nu one nst inv stab)
    · exact extAt h hf (by kernel_rfl) Tryd.func159 (x159 nu one nst inv stab)
    · exact extAt h hf (by kernel_rfl) Tryd.func174 (x174 nu one nst inv stab)
    · exact extAt h hf (by kernel_rfl) Tryd.func183 (x183 nu one nst inv stab)
    · exact extAt h hf (by kernel_rfl) Tryd.func184 (x184 nu one nst inv stab)
    · exact extAt h hf (by kernel_rfl) Tryd.func185 (x185 nu one nst inv stab)
    · exact extAt h hf (by kernel_rfl) Tryd.func186 (x186 nu one nst inv stab))
end
end Go.Proofs.YtacflaaahanhgaaDoor
