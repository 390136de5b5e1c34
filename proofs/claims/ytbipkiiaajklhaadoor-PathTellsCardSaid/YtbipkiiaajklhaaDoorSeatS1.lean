/- A part of the proof: an interpreter of the model's own code on partly known states, and that what it answers is what the program answers. No condition of its own. -/
import Derived.Test.YtbipkiiaajklhaaDoorTabS1
import Derived.Test.YtbipkiiaajklhaaDoorHXpart4
import Derived.KernelRfl
set_option maxRecDepth 100000
set_option linter.unusedVariables false
set_option linter.unusedSimpArgs false
namespace Go.Proofs.YtbipkiiaajklhaaDoor
open Go Go.AX Go.Proofs Go.Extern
theorem tyEq : TyEq Tryd.prog tab := by unfold TyEq; kernel_rfl
theorem impEq : ImpEq Tryd.prog tab := impEq_of (by kernel_rfl)
theorem fnEq : FnEq Tryd.prog tab := by unfold FnEq; kernel_rfl
theorem fnChk' : fnChk Tryd.prog tab = true := by kernel_rfl
theorem ngEq : tab.ng = Tryd.prog.globals.size := by kernel_rfl
theorem mixEq : Tryd.prog.follows .mixedOrders = true := by kernel_rfl
theorem pk : ((tl tab.ty 0 1).all fun p => !Tryd.prog.packed p.1 && !Tryd.prog.holdsPacked Tryd.prog.depth p.1) = true := by kernel_rfl
theorem met0 : MetAt2 Tryd.prog 72 "Kind" 75 := fun x w => by kernel_rfl
theorem met1 : dW3 Tryd.prog 72 "Implements" 89 := fun x w => by kernel_rfl
theorem met2 : dW3 Tryd.prog 72 "Elem" 88 := fun x w => by kernel_rfl
theorem met3 : dW3 Tryd.prog 72 "Comparable" 87 := fun x w => by kernel_rfl
theorem met4 : dW3 Tryd.prog 72 "AssignableTo" 86 := fun x w => by kernel_rfl
theorem met5 : dW3 Tryd.prog 51 "Unwrap" 80 := fun x w => by kernel_rfl
theorem extChk : ((tl tab.fn 0 1).all fun p => Nat.beq p.2.ext 0 || Nat.beq p.1 24 || Nat.beq p.1 33 || Nat.beq p.1 34 || Nat.beq p.1 35 || Nat.beq p.1 45 || Nat.beq p.1 46 || Nat.beq p.1 50 || Nat.beq p.1 51 || Nat.beq p.1 58 || Nat.beq p.1 75 || Nat.beq p.1 86 || Nat.beq p.1 87 || Nat.beq p.1 88 || Nat.beq p.1 89) = true := by kernel_rfl
theorem kd0 : (∀ w, (Rtype.kind 35).run Tryd.prog w = .ok 2 w) ∧ Tryd.prog.packed 35 = false := ⟨fun w => by kernel_rfl, by kernel_rfl⟩
theorem kd1 : (∀ w, (Rtype.kind 45).run Tryd.prog w = .ok 22 w) ∧ Tryd.prog.packed 45 = false := ⟨fun w => by kernel_rfl, by kernel_rfl⟩
theorem kd2 : (∀ w, (Rtype.kind 51).run Tryd.prog w = .ok 25 w) ∧ Tryd.prog.packed 51 = false := ⟨fun w => by kernel_rfl, by kernel_rfl⟩
theorem el0 : (∀ w, (Rtype.elem? 45).run Tryd.prog w = .ok (some 35) w) ∧ Tryd.prog.packed 45 = false := ⟨fun w => by kernel_rfl, by kernel_rfl⟩
theorem asg0 : (∀ w, (ReflectliteType.assignableTo 35 35).run Tryd.prog w = .ok true w) ∧ Tryd.prog.packed 35 = false ∧ Tryd.prog.packed 35 = false := ⟨fun w => by kernel_rfl, by kernel_rfl, by kernel_rfl⟩
theorem asg1 : (∀ w, (ReflectliteType.assignableTo 35 45).run Tryd.prog w = .ok false w) ∧ Tryd.prog.packed 35 = false ∧ Tryd.prog.packed 45 = false := ⟨fun w => by kernel_rfl, by kernel_rfl, by kernel_rfl⟩
theorem asg2 : (∀ w, (ReflectliteType.assignableTo 35 51).run Tryd.prog w = .ok false w) ∧ Tryd.prog.packed 35 = false ∧ Tryd.prog.packed 51 = false := ⟨fun w => by kernel_rfl, by kernel_rfl, by kernel_rfl⟩
theorem asg3 : (∀ w, (ReflectliteType.assignableTo 45 35).run Tryd.prog w = .ok false w) ∧ Tryd.prog.packed 45 = false ∧ Tryd.prog.packed 35 = false := ⟨fun w => by kernel_rfl, by kernel_rfl, by kernel_rfl⟩
theorem asg4 : (∀ w, (ReflectliteType.assignableTo 45 45).run Tryd.prog w = .ok true w) ∧ Tryd.prog.packed 45 = false ∧ Tryd.prog.packed 45 = false := ⟨fun w => by kernel_rfl, by kernel_rfl, by kernel_rfl⟩
theorem asg5 : (∀ w, (ReflectliteType.assignableTo 45 51).run Tryd.prog w = .ok false w) ∧ Tryd.prog.packed 45 = false ∧ Tryd.prog.packed 51 = false := ⟨fun w => by kernel_rfl, by kernel_rfl, by kernel_rfl⟩
theorem asg6 : (∀ w, (ReflectliteType.assignableTo 51 35).run Tryd.prog w = .ok false w) ∧ Tryd.prog.packed 51 = false ∧ Tryd.prog.packed 35 = false := ⟨fun w => by kernel_rfl, by kernel_rfl, by kernel_rfl⟩
theorem asg7 : (∀ w, (ReflectliteType.assignableTo 51 45).run Tryd.prog w = .ok false w) ∧ Tryd.prog.packed 51 = false ∧ Tryd.prog.packed 45 = false := ⟨fun w => by kernel_rfl, by kernel_rfl, by kernel_rfl⟩
theorem asg8 : (∀ w, (ReflectliteType.assignableTo 51 51).run Tryd.prog w = .ok true w) ∧ Tryd.prog.packed 51 = false ∧ Tryd.prog.packed 51 = false := ⟨fun w => by kernel_rfl, by kernel_rfl, by kernel_rfl⟩
theorem imq0 : (∀ w, (ReflectliteType.implements_ 24 35).run Tryd.prog w = .ok true w) ∧ Tryd.prog.packed 24 = false ∧ Tryd.prog.packed 35 = false := ⟨fun w => by kernel_rfl, by kernel_rfl, by kernel_rfl⟩
theorem imq1 : (∀ w, (ReflectliteType.implements_ 24 45).run Tryd.prog w = .ok true w) ∧ Tryd.prog.packed 24 = false ∧ Tryd.prog.packed 45 = false := ⟨fun w => by kernel_rfl, by kernel_rfl, by kernel_rfl⟩
theorem imq2 : (∀ w, (ReflectliteType.implements_ 24 51).run Tryd.prog w = .ok true w) ∧ Tryd.prog.packed 24 = false ∧ Tryd.prog.packed 51 = false := ⟨fun w => by kernel_rfl, by kernel_rfl, by kernel_rfl⟩
theorem rfOk : RfOk Tryd.prog tab where
  kd := fun t k h => by
    have h' := bI6 _ t k h
    have h' : (t, k) ∈ kds := h'
    simp only [kds, List.mem_cons, List.not_mem_nil, or_false, Prod.mk.injEq] at h'
    rcases h' with ⟨rfl, rfl⟩ | ⟨rfl, rfl⟩ | ⟨rfl, rfl⟩
    · exact kd0
    · exact kd1
    · exact kd2
  el := fun t e h => by
    have h' := bI6 _ t e h
    have h' : (t, e) ∈ els := h'
    simp only [els, List.mem_cons, List.not_mem_nil, or_false, Prod.mk.injEq] at h'
    obtain ⟨rfl, rfl⟩ := h'
    exact el0
  asg := fun u t r h => by
    have h' := bN0 _ u t r h
    have h' : (u, t, r) ∈ asgs := h'
    simp only [asgs, List.mem_cons, List.not_mem_nil, or_false, Prod.mk.injEq] at h'
    rcases h' with ⟨rfl, rfl, rfl⟩ | ⟨rfl, rfl, rfl⟩ | ⟨rfl, rfl, rfl⟩ | ⟨rfl, rfl, rfl⟩ | ⟨rfl, rfl, rfl⟩ | ⟨rfl, rfl, rfl⟩ | ⟨rfl, rfl, rfl⟩ | ⟨rfl, rfl, rfl⟩ | ⟨rfl, rfl, rfl⟩
    · exact asg0
    · exact asg1
    · exact asg2
    · exact asg3
    · exact asg4
    · exact asg5
    · exact asg6
    · exact asg7
    · exact asg8
  im2 := fun u t r h => by
    have h' := bN0 _ u t r h
    have h' : (u, t, r) ∈ im2s := h'
    simp only [im2s, List.mem_cons, List.not_mem_nil, or_false, Prod.mk.injEq] at h'
    rcases h' with ⟨rfl, rfl, rfl⟩ | ⟨rfl, rfl, rfl⟩ | ⟨rfl, rfl, rfl⟩
    · exact imq0
    · exact imq1
    · exact imq2
  ty := fun t w => by kernel_rfl
section
variable (nu : Nat → Value) (one : ∀ i, i < 1000000 → (nu i).oneCell' = true) (nst : Nat) (inv : World → Prop) (stab : ∀ w w' : World, (∀ k, k < nst → w'.heap[k]? = w.heap[k]?) → inv w → inv w')
noncomputable def cx : Cx := ⟨Tryd.prog, nu, one, nst, inv, stab⟩
theorem tyOk : TyOk Tryd.prog tab := ⟨fun t ti h => by
  have := cQ2 tyEq _ (bU8 h)
  simp only [] at this
  cases hi : Tryd.prog.info? t with
  | none => rw [hi] at this; cases this
  | some i => rw [hi] at this; injection this with this; exact ⟨i, rfl, this⟩⟩
theorem bD5 {g : Nat} {fi : FI} {fn fn' : Func} {e : Nat} {C : Cx} {tb : Tab} (h : tb.fn.get g = some fi) (hf : C.P.funcs[g]? = some fn) (h1 : (tb.fn.get g).map (·.ext) = some e) (h2 : C.P.funcs[g]? = some fn') (hx : aI2 C tb e fn') : fi.ext = 0 ∨ aI2 C tb fi.ext fn := by
  rw [h] at h1
  simp only [Option.map_some, Option.some.injEq] at h1
  rw [h2] at hf; injection hf with hf
  subst hf; subst h1; exact .inr hx
theorem x24 : aI2 (cx nu one nst inv stab) tab 5 Tryd.f24 := ext5_ok (by kernel_rfl) (by kernel_rfl) (fun t w => by kernel_rfl)
theorem x33 : aI2 (cx nu one nst inv stab) tab 7 Tryd.f33 := ext7_ok tyOk rfOk (by kernel_rfl) (by kernel_rfl)
theorem x34 : aI2 (cx nu one nst inv stab) tab 8 Tryd.f34 := ext8_ok rfOk (by kernel_rfl) (by kernel_rfl)
theorem x35 : aI2 (cx nu one nst inv stab) tab 9 Tryd.f35 := ext9_ok tyOk rfOk (by kernel_rfl) (by kernel_rfl)
theorem x45 : aI2 (cx nu one nst inv stab) tab 14 Tryd.f45 := ext14_ok tyOk rfOk (by kernel_rfl) (by kernel_rfl)
theorem x46 : aI2 (cx nu one nst inv stab) tab 15 Tryd.f46 := ext15_ok tyOk rfOk (by kernel_rfl) (by kernel_rfl)
theorem x50 : aI2 (cx nu one nst inv stab) tab 1 Tryd.f50 := ext1_ok (by kernel_rfl) (by kernel_rfl)
theorem x51 : aI2 (cx nu one nst inv stab) tab 2 Tryd.f51 := ext2_ok (ps := Tryd.f51.params) (rs := Tryd.f51.resultTypes) (t := Tryd.f51.resultTypes.getD 0 0) (by kernel_rfl) (by kernel_rfl) (by kernel_rfl) (by kernel_rfl)
theorem x58 : aI2 (cx nu one nst inv stab) tab 3 Tryd.f58 := ext3_ok (by kernel_rfl) (by kernel_rfl)
theorem x75 : aI2 (cx nu one nst inv stab) tab 10 Tryd.f75 := ext10_ok rfOk (by kernel_rfl) (by kernel_rfl)
theorem x86 : aI2 (cx nu one nst inv stab) tab 13 Tryd.f86 := ext13_ok rfOk (by kernel_rfl) (by kernel_rfl)
theorem x87 : aI2 (cx nu one nst inv stab) tab 6 Tryd.f87 := ext6_ok tyOk (by kernel_rfl) (by kernel_rfl) pk
theorem x88 : aI2 (cx nu one nst inv stab) tab 11 Tryd.f88 := ext11_ok rfOk (by kernel_rfl) (by kernel_rfl)
theorem x89 : aI2 (cx nu one nst inv stab) tab 12 Tryd.f89 := ext12_ok rfOk (by kernel_rfl) (by kernel_rfl)
theorem tabOk : aB3 (cx nu one nst inv stab) tab := allOk' tyEq impEq ngEq rfl fnEq fnChk'
  (fun t m g d h => by
    have h' : (t, m, g, d) ∈ mets := h
    simp only [mets, List.mem_cons, List.not_mem_nil, or_false, Prod.mk.injEq] at h'
    rcases h' with ⟨rfl, rfl, rfl, rfl⟩ | ⟨rfl, rfl, rfl, rfl⟩ | ⟨rfl, rfl, rfl, rfl⟩ | ⟨rfl, rfl, rfl, rfl⟩ | ⟨rfl, rfl, rfl, rfl⟩ | ⟨rfl, rfl, rfl, rfl⟩
    · exact .inr ⟨rfl, met0⟩
    · exact .inl ⟨rfl, met1⟩
    · exact .inl ⟨rfl, met2⟩
    · exact .inl ⟨rfl, met3⟩
    · exact .inl ⟨rfl, met4⟩
    · exact .inl ⟨rfl, met5⟩)
  mixEq
  (fun g fi fn h hf hb => by
    have hc := List.all_eq_true.1 extChk _ (bU8 h)
    simp only [Bool.or_eq_true] at hc
    rcases hc with ((((((((((((((hc | hc) | hc) | hc) | hc) | hc) | hc) | hc) | hc) | hc) | hc) | hc) | hc) | hc) | hc)
    · exact .inl (Nat.eq_of_beq_eq_true hc)
    all_goals have hg := Nat.eq_of_beq_eq_true hc; subst hg
    · exact bD5 h hf (by kernel_rfl) Tryd.func24 (x24 nu one nst inv stab)
    · exact bD5 h hf (by kernel_rfl) Tryd.func33 (x33 nu one nst inv stab)
    · exact bD5 h hf (by kernel_rfl) Tryd.func34 (x34 nu one nst inv stab)
    · exact bD5 h hf (by kernel_rfl) Tryd.func35 (x35 nu one nst inv stab)
    · exact bD5 h hf (by kernel_rfl) Tryd.func45 (x45 nu one nst inv stab)
    · exact bD5 h hf (by kernel_rfl) Tryd.func46 (x46 nu one nst inv stab)
    · exact bD5 h hf (by kernel_rfl) Tryd.func50 (x50 nu one nst inv stab)
    · exact bD5 h hf (by kernel_rfl) Tryd.func51 (x51 nu one nst inv stab)
    · exact bD5 h hf (by kernel_rfl) Tryd.func58 (x58 nu one nst inv stab)
    · exact bD5 h hf (by kernel_rfl) Tryd.func75 (x75 nu one nst inv stab)
    · exact bD5 h hf (by kernel_rfl) Tryd.func86 (x86 nu one nst inv stab)
    · exact bD5 h hf (by kernel_rfl) Tryd.func87 (x87 nu one nst inv stab)
    · exact bD5 h hf (by kernel_rfl) Tryd.func88 (x88 nu one nst inv stab)
    · exact bD5 h hf (by kernel_rfl) Tryd.func89 (x89 nu one nst inv stab))
end
end Go.Proofs.YtbipkiiaajklhaaDoor
