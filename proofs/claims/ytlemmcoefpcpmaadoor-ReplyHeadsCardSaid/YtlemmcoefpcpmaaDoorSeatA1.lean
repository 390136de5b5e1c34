/- A part of the proof: an interpreter of the model's own code on partly known states, and that what it answers is what the program answers. No condition of its own. -/
import Derived.Test.YtlemmcoefpcpmaaDoorTabA1
import Derived.Test.YtlemmcoefpcpmaaDoorAXpart3
import Derived.KernelRfl
set_option maxRecDepth 100000
set_option linter.unusedVariables false
namespace Go.Proofs.YtlemmcoefpcpmaaDoor
open Go Go.AX Go.Proofs Go.Extern
theorem tyEq : TyEq Tryd.prog tab := by unfold TyEq; kernel_rfl
theorem impEq : ImpEq Tryd.prog tab := impEq_of (by kernel_rfl)
theorem fnEq : FnEq Tryd.prog tab := by unfold FnEq; kernel_rfl
theorem fnChk' : fnChk Tryd.prog tab = true := by kernel_rfl
theorem ngEq : tab.ng = Tryd.prog.globals.size := by kernel_rfl
theorem mixEq : Tryd.prog.follows .mixedOrders = true := by kernel_rfl
theorem pk : ((tl tab.ty 0 1).all fun p => !Tryd.prog.packed p.1 && !Tryd.prog.holdsPacked Tryd.prog.depth p.1) = true := by kernel_rfl
theorem met0 : MetAt2 Tryd.prog 108 "Kind" 155 := fun x w => by kernel_rfl
theorem met1 : MetAt Tryd.prog 108 "Implements" 166 := fun x w => by kernel_rfl
theorem met2 : MetAt Tryd.prog 108 "Elem" 165 := fun x w => by kernel_rfl
theorem met3 : MetAt Tryd.prog 108 "Comparable" 164 := fun x w => by kernel_rfl
theorem met4 : MetAt Tryd.prog 108 "AssignableTo" 163 := fun x w => by kernel_rfl
theorem met5 : MetAt Tryd.prog 106 "Unwrap" 161 := fun x w => by kernel_rfl
theorem extChk : ((tl tab.fn 0 1).all fun p => Nat.beq p.2.ext 0 || Nat.beq p.1 41 || Nat.beq p.1 81 || Nat.beq p.1 82 || Nat.beq p.1 83 || Nat.beq p.1 102 || Nat.beq p.1 108 || Nat.beq p.1 109 || Nat.beq p.1 114 || Nat.beq p.1 123 || Nat.beq p.1 125 || Nat.beq p.1 155 || Nat.beq p.1 163 || Nat.beq p.1 164 || Nat.beq p.1 165 || Nat.beq p.1 166) = true := by kernel_rfl
theorem kd0 : (∀ w, (Rtype.kind 33).run Tryd.prog w = .ok 2 w) ∧ Tryd.prog.packed 33 = false := ⟨fun w => by kernel_rfl, by kernel_rfl⟩
theorem kd1 : (∀ w, (Rtype.kind 78).run Tryd.prog w = .ok 22 w) ∧ Tryd.prog.packed 78 = false := ⟨fun w => by kernel_rfl, by kernel_rfl⟩
theorem kd2 : (∀ w, (Rtype.kind 106).run Tryd.prog w = .ok 25 w) ∧ Tryd.prog.packed 106 = false := ⟨fun w => by kernel_rfl, by kernel_rfl⟩
theorem el0 : (∀ w, (Rtype.elem? 78).run Tryd.prog w = .ok (some 33) w) ∧ Tryd.prog.packed 78 = false := ⟨fun w => by kernel_rfl, by kernel_rfl⟩
theorem asg0 : (∀ w, (ReflectliteType.assignableTo 33 33).run Tryd.prog w = .ok true w) ∧ Tryd.prog.packed 33 = false ∧ Tryd.prog.packed 33 = false := ⟨fun w => by kernel_rfl, by kernel_rfl, by kernel_rfl⟩
theorem asg1 : (∀ w, (ReflectliteType.assignableTo 33 78).run Tryd.prog w = .ok false w) ∧ Tryd.prog.packed 33 = false ∧ Tryd.prog.packed 78 = false := ⟨fun w => by kernel_rfl, by kernel_rfl, by kernel_rfl⟩
theorem asg2 : (∀ w, (ReflectliteType.assignableTo 33 106).run Tryd.prog w = .ok false w) ∧ Tryd.prog.packed 33 = false ∧ Tryd.prog.packed 106 = false := ⟨fun w => by kernel_rfl, by kernel_rfl, by kernel_rfl⟩
theorem asg3 : (∀ w, (ReflectliteType.assignableTo 78 33).run Tryd.prog w = .ok false w) ∧ Tryd.prog.packed 78 = false ∧ Tryd.prog.packed 33 = false := ⟨fun w => by kernel_rfl, by kernel_rfl, by kernel_rfl⟩
theorem asg4 : (∀ w, (ReflectliteType.assignableTo 78 78).run Tryd.prog w = .ok true w) ∧ Tryd.prog.packed 78 = false ∧ Tryd.prog.packed 78 = false := ⟨fun w => by kernel_rfl, by kernel_rfl, by kernel_rfl⟩
theorem asg5 : (∀ w, (ReflectliteType.assignableTo 78 106).run Tryd.prog w = .ok false w) ∧ Tryd.prog.packed 78 = false ∧ Tryd.prog.packed 106 = false := ⟨fun w => by kernel_rfl, by kernel_rfl, by kernel_rfl⟩
theorem asg6 : (∀ w, (ReflectliteType.assignableTo 106 33).run Tryd.prog w = .ok false w) ∧ Tryd.prog.packed 106 = false ∧ Tryd.prog.packed 33 = false := ⟨fun w => by kernel_rfl, by kernel_rfl, by kernel_rfl⟩
theorem asg7 : (∀ w, (ReflectliteType.assignableTo 106 78).run Tryd.prog w = .ok false w) ∧ Tryd.prog.packed 106 = false ∧ Tryd.prog.packed 78 = false := ⟨fun w => by kernel_rfl, by kernel_rfl, by kernel_rfl⟩
theorem asg8 : (∀ w, (ReflectliteType.assignableTo 106 106).run Tryd.prog w = .ok true w) ∧ Tryd.prog.packed 106 = false ∧ Tryd.prog.packed 106 = false := ⟨fun w => by kernel_rfl, by kernel_rfl, by kernel_rfl⟩
theorem imq0 : (∀ w, (ReflectliteType.implements_ 29 33).run Tryd.prog w = .ok true w) ∧ Tryd.prog.packed 29 = false ∧ Tryd.prog.packed 33 = false := ⟨fun w => by kernel_rfl, by kernel_rfl, by kernel_rfl⟩
theorem imq1 : (∀ w, (ReflectliteType.implements_ 29 78).run Tryd.prog w = .ok true w) ∧ Tryd.prog.packed 29 = false ∧ Tryd.prog.packed 78 = false := ⟨fun w => by kernel_rfl, by kernel_rfl, by kernel_rfl⟩
theorem imq2 : (∀ w, (ReflectliteType.implements_ 29 106).run Tryd.prog w = .ok true w) ∧ Tryd.prog.packed 29 = false ∧ Tryd.prog.packed 106 = false := ⟨fun w => by kernel_rfl, by kernel_rfl, by kernel_rfl⟩
theorem rfOk : RfOk Tryd.prog tab where
  kd := fun t k h => by
    have h' := assocN_mem _ t k h
    have h' : (t, k) ∈ kds := h'
    simp only [kds, List.mem_cons, List.not_mem_nil, or_false, Prod.mk.injEq] at h'
    rcases h' with ⟨rfl, rfl⟩ | ⟨rfl, rfl⟩ | ⟨rfl, rfl⟩
    · exact kd0
    · exact kd1
    · exact kd2
  el := fun t e h => by
    have h' := assocN_mem _ t e h
    have h' : (t, e) ∈ els := h'
    simp only [els, List.mem_cons, List.not_mem_nil, or_false, Prod.mk.injEq] at h'
    obtain ⟨rfl, rfl⟩ := h'
    exact el0
  asg := fun u t r h => by
    have h' := impl_mem _ u t r h
    have h' : (u, t, r) ∈ asgs := h'
    simp only [asgs, List.mem_cons, List.not_mem_nil, or_false, Prod.mk.injEq] at h'
    rcases h' with ⟨rfl, rfl, rfl⟩ | ⟨rfl, rfl, rfl⟩ | ⟨rfl, rfl, rfl⟩ | ⟨rfl, rfl, rfl⟩ | ⟨rfl, rfl, rfl⟩ | ⟨rfl, rfl, rfl⟩ | ⟨rfl, rfl, rfl⟩ | ⟨rfl, rfl, rfl⟩ | ⟨rfl, rfl, rfl⟩
    · exact asg0
    · exact asg1
    · exact asg2
    · exact asg3
    · exact asg4
    · exact asg5
    · exact asg6
    · exact asg7
    · exact asg8
  im2 := fun u t r h => by
    have h' := impl_mem _ u t r h
    have h' : (u, t, r) ∈ im2s := h'
    simp only [im2s, List.mem_cons, List.not_mem_nil, or_false, Prod.mk.injEq] at h'
    rcases h' with ⟨rfl, rfl, rfl⟩ | ⟨rfl, rfl, rfl⟩ | ⟨rfl, rfl, rfl⟩
    · exact imq0
    · exact imq1
    · exact imq2
  ty := fun t w => by kernel_rfl
section
variable (nu : Nat → Value) (one : ∀ i, (nu i).oneCell' = true) (nst : Nat) (inv : World → Prop) (stab : ∀ w w' : World, (∀ k, k < nst → w'.heap[k]? = w.heap[k]?) → inv w → inv w')
noncomputable def cx : Cx := ⟨Tryd.prog, nu, one, nst, inv, stab⟩
theorem tyOk : TyOk Tryd.prog tab := ⟨fun t ti h => by
  have := map_at tyEq _ (tl_get h)
  simp only [] at this
  cases hi : Tryd.prog.info? t with
  | none => rw [hi] at this; cases this
  | some i => rw [hi] at this; injection this with this; exact ⟨i, rfl, this⟩⟩
theorem extAt {g : Nat} {fi : FI} {fn fn' : Func} {e : Nat} {C : Cx} {tb : Tab} (h : tb.fn.get g = some fi) (hf : C.P.funcs[g]? = some fn) (h1 : (tb.fn.get g).map (·.ext) = some e) (h2 : C.P.funcs[g]? = some fn') (hx : ExtOk C tb e fn') : fi.ext = 0 ∨ ExtOk C tb fi.ext fn := by
  rw [h] at h1
  simp only [Option.map_some, Option.some.injEq] at h1
  rw [h2] at hf; injection hf with hf
  subst hf; subst h1; exact .inr hx
theorem x41 : ExtOk (cx nu one nst inv stab) tab 5 Tryd.f41 := ext5_ok (by kernel_rfl) (by kernel_rfl) (fun t w => by kernel_rfl)
theorem x81 : ExtOk (cx nu one nst inv stab) tab 7 Tryd.f81 := ext7_ok tyOk rfOk (by kernel_rfl) (by kernel_rfl)
theorem x82 : ExtOk (cx nu one nst inv stab) tab 8 Tryd.f82 := ext8_ok rfOk (by kernel_rfl) (by kernel_rfl)
theorem x83 : ExtOk (cx nu one nst inv stab) tab 9 Tryd.f83 := ext9_ok tyOk rfOk (by kernel_rfl) (by kernel_rfl)
theorem x102 : ExtOk (cx nu one nst inv stab) tab 3 Tryd.f102 := ext3_ok (by kernel_rfl) (by kernel_rfl)
theorem x108 : ExtOk (cx nu one nst inv stab) tab 14 Tryd.f108 := ext14_ok tyOk rfOk (by kernel_rfl) (by kernel_rfl)
theorem x109 : ExtOk (cx nu one nst inv stab) tab 15 Tryd.f109 := ext15_ok tyOk rfOk (by kernel_rfl) (by kernel_rfl)
theorem x114 : ExtOk (cx nu one nst inv stab) tab 1 Tryd.f114 := ext1_ok (by kernel_rfl) (by kernel_rfl)
theorem x123 : ExtOk (cx nu one nst inv stab) tab 4 Tryd.f123 := ext4_ok (by kernel_rfl) (by kernel_rfl)
theorem x125 : ExtOk (cx nu one nst inv stab) tab 2 Tryd.f125 := ext2_ok (ps := Tryd.f125.params) (rs := Tryd.f125.resultTypes) (t := Tryd.f125.resultTypes.getD 0 0) (by kernel_rfl) (by kernel_rfl) (by kernel_rfl) (by kernel_rfl)
theorem x155 : ExtOk (cx nu one nst inv stab) tab 10 Tryd.f155 := ext10_ok rfOk (by kernel_rfl) (by kernel_rfl)
theorem x163 : ExtOk (cx nu one nst inv stab) tab 13 Tryd.f163 := ext13_ok rfOk (by kernel_rfl) (by kernel_rfl)
theorem x164 : ExtOk (cx nu one nst inv stab) tab 6 Tryd.f164 := ext6_ok tyOk (by kernel_rfl) (by kernel_rfl) pk
theorem x165 : ExtOk (cx nu one nst inv stab) tab 11 Tryd.f165 := ext11_ok rfOk (by kernel_rfl) (by kernel_rfl)
theorem x166 : ExtOk (cx nu one nst inv stab) tab 12 Tryd.f166 := ext12_ok rfOk (by kernel_rfl) (by kernel_rfl)
theorem tabOk : AllOk (cx nu one nst inv stab) tab := allOk' tyEq impEq ngEq rfl fnEq fnChk'
  (fun t m g d h => by
    have h' : (t, m, g, d) ∈ mets := h
    simp only [mets, List.mem_cons, List.not_mem_nil, or_false, Prod.mk.injEq] at h'
    rcases h' with ⟨rfl, rfl, rfl, rfl⟩ | ⟨rfl, rfl, rfl, rfl⟩ | ⟨rfl, rfl, rfl, rfl⟩ | ⟨rfl, rfl, rfl, rfl⟩ | ⟨rfl, rfl, rfl, rfl⟩ | ⟨rfl, rfl, rfl, rfl⟩
    · exact .inr ⟨rfl, met0⟩
    · exact .inl ⟨rfl, met1⟩
    · exact .inl ⟨rfl, met2⟩
    · exact .inl ⟨rfl, met3⟩
    · exact .inl ⟨rfl, met4⟩
    · exact .inl ⟨rfl, met5⟩)
  mixEq
  (fun g fi fn h hf hb => by
    have hc := List.all_eq_true.1 extChk _ (tl_get h)
    simp only [Bool.or_eq_true] at hc
    rcases hc with (((((((((((((((hc | hc) | hc) | hc) | hc) | hc) | hc) | hc) | hc) | hc) | hc) | hc) | hc) | hc) | hc) | hc)
    · exact .inl (Nat.eq_of_beq_eq_true hc)
    all_goals have hg := Nat.eq_of_beq_eq_true hc; subst hg
    · exact extAt h hf (by kernel_rfl) Tryd.func41 (x41 nu one nst inv stab)
    · exact extAt h hf (by kernel_rfl) Tryd.func81 (x81 nu one nst inv stab)
    · exact extAt h hf (by kernel_rfl) Tryd.func82 (x82 nu one nst inv stab)
    · exact extAt h hf (by kernel_rfl) Tryd.func83 (x83 nu one nst inv stab)
    · exact extAt h hf (by kernel_rfl) Tryd.func102 (x102 nu one nst inv stab)
    · exact extAt h hf (by kernel_rfl) Tryd.func108 (x108 nu one nst inv stab)
    · exact extAt h hf (by kernel_rfl) Tryd.func109 (x109 nu one nst inv stab)
    · exact extAt h hf (by kernel_rfl) Tryd.func114 (x114 nu one nst inv stab)
    · exact extAt h hf (by kernel_rfl) Tryd.func123 (x123 nu one nst inv stab)
    · exact extAt h hf (by kernel_rfl) Tryd.func125 (x125 nu one nst inv stab)
    · exact extAt h hf (by kernel_rfl) Tryd.func155 (x155 nu one nst inv stab)
    · exact extAt h hf (by kernel_rfl) Tryd.func163 (x163 nu one nst inv stab)
    · exact extAt h hf (by kernel_rfl) Tryd.func164 (x164 nu one nst inv stab)
    · exact extAt h hf (by kernel_rfl) Tryd.func165 (x165 nu one nst inv stab)
    · exact extAt h hf (by kernel_rfl) Tryd.func166 (x166 nu one nst inv stab))
end
end Go.Proofs.YtlemmcoefpcpmaaDoor
