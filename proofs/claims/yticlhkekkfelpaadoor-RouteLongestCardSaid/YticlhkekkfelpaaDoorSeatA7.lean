/- A part of the proof: an interpreter of the model's own code on partly known states, and that what it answers is what the program answers. No condition of its own. -/
import Derived.Test.YticlhkekkfelpaaDoorTabA7
import Derived.Test.YticlhkekkfelpaaDoorAXpart3
import Derived.KernelRfl
set_option maxRecDepth 100000
set_option linter.unusedVariables false
namespace Go.Proofs.YticlhkekkfelpaaDoor
open Go Go.AX Go.Proofs Go.Extern
theorem tyEq : TyEq Tryd.prog tab := by unfold TyEq; kernel_rfl
theorem impEq : ImpEq Tryd.prog tab := impEq_of (by kernel_rfl)
theorem fnEq : FnEq Tryd.prog tab := by unfold FnEq; kernel_rfl
theorem fnChk' : fnChk Tryd.prog tab = true := by kernel_rfl
theorem ngEq : tab.ng = Tryd.prog.globals.size := by kernel_rfl
theorem mixEq : Tryd.prog.follows .mixedOrders = true := by kernel_rfl
theorem pk : ((tl tab.ty 0 1).all fun p => !Tryd.prog.packed p.1 && !Tryd.prog.holdsPacked Tryd.prog.depth p.1) = true := by kernel_rfl
theorem met0 : MetAt2 Tryd.prog 140 "Kind" 222 := fun x w => by kernel_rfl
theorem met1 : MetAt Tryd.prog 140 "Implements" 236 := fun x w => by kernel_rfl
theorem met2 : MetAt Tryd.prog 140 "Elem" 235 := fun x w => by kernel_rfl
theorem met3 : MetAt Tryd.prog 140 "Comparable" 234 := fun x w => by kernel_rfl
theorem met4 : MetAt Tryd.prog 140 "AssignableTo" 233 := fun x w => by kernel_rfl
theorem met5 : MetAt Tryd.prog 126 "Unwrap" 228 := fun x w => by kernel_rfl
theorem extChk : ((tl tab.fn 0 1).all fun p => Nat.beq p.2.ext 0 || Nat.beq p.1 47 || Nat.beq p.1 85 || Nat.beq p.1 86 || Nat.beq p.1 87 || Nat.beq p.1 120 || Nat.beq p.1 121 || Nat.beq p.1 153 || Nat.beq p.1 157 || Nat.beq p.1 183 || Nat.beq p.1 197 || Nat.beq p.1 222 || Nat.beq p.1 233 || Nat.beq p.1 234 || Nat.beq p.1 235 || Nat.beq p.1 236) = true := by kernel_rfl
theorem kd0 : (∀ w, (Rtype.kind 32).run Tryd.prog w = .ok 2 w) ∧ Tryd.prog.packed 32 = false := ⟨fun w => by kernel_rfl, by kernel_rfl⟩
theorem kd1 : (∀ w, (Rtype.kind 82).run Tryd.prog w = .ok 22 w) ∧ Tryd.prog.packed 82 = false := ⟨fun w => by kernel_rfl, by kernel_rfl⟩
theorem kd2 : (∀ w, (Rtype.kind 126).run Tryd.prog w = .ok 25 w) ∧ Tryd.prog.packed 126 = false := ⟨fun w => by kernel_rfl, by kernel_rfl⟩
theorem el0 : (∀ w, (Rtype.elem? 82).run Tryd.prog w = .ok (some 32) w) ∧ Tryd.prog.packed 82 = false := ⟨fun w => by kernel_rfl, by kernel_rfl⟩
theorem asg0 : (∀ w, (ReflectliteType.assignableTo 32 32).run Tryd.prog w = .ok true w) ∧ Tryd.prog.packed 32 = false ∧ Tryd.prog.packed 32 = false := ⟨fun w => by kernel_rfl, by kernel_rfl, by kernel_rfl⟩
theorem asg1 : (∀ w, (ReflectliteType.assignableTo 32 82).run Tryd.prog w = .ok false w) ∧ Tryd.prog.packed 32 = false ∧ Tryd.prog.packed 82 = false := ⟨fun w => by kernel_rfl, by kernel_rfl, by kernel_rfl⟩
theorem asg2 : (∀ w, (ReflectliteType.assignableTo 32 126).run Tryd.prog w = .ok false w) ∧ Tryd.prog.packed 32 = false ∧ Tryd.prog.packed 126 = false := ⟨fun w => by kernel_rfl, by kernel_rfl, by kernel_rfl⟩
theorem asg3 : (∀ w, (ReflectliteType.assignableTo 82 32).run Tryd.prog w = .ok false w) ∧ Tryd.prog.packed 82 = false ∧ Tryd.prog.packed 32 = false := ⟨fun w => by kernel_rfl, by kernel_rfl, by kernel_rfl⟩
theorem asg4 : (∀ w, (ReflectliteType.assignableTo 82 82).run Tryd.prog w = .ok true w) ∧ Tryd.prog.packed 82 = false ∧ Tryd.prog.packed 82 = false := ⟨fun w => by kernel_rfl, by kernel_rfl, by kernel_rfl⟩
theorem asg5 : (∀ w, (ReflectliteType.assignableTo 82 126).run Tryd.prog w = .ok false w) ∧ Tryd.prog.packed 82 = false ∧ Tryd.prog.packed 126 = false := ⟨fun w => by kernel_rfl, by kernel_rfl, by kernel_rfl⟩
theorem asg6 : (∀ w, (ReflectliteType.assignableTo 126 32).run Tryd.prog w = .ok false w) ∧ Tryd.prog.packed 126 = false ∧ Tryd.prog.packed 32 = false := ⟨fun w => by kernel_rfl, by kernel_rfl, by kernel_rfl⟩
theorem asg7 : (∀ w, (ReflectliteType.assignableTo 126 82).run Tryd.prog w = .ok false w) ∧ Tryd.prog.packed 126 = false ∧ Tryd.prog.packed 82 = false := ⟨fun w => by kernel_rfl, by kernel_rfl, by kernel_rfl⟩
theorem asg8 : (∀ w, (ReflectliteType.assignableTo 126 126).run Tryd.prog w = .ok true w) ∧ Tryd.prog.packed 126 = false ∧ Tryd.prog.packed 126 = false := ⟨fun w => by kernel_rfl, by kernel_rfl, by kernel_rfl⟩
theorem imq0 : (∀ w, (ReflectliteType.implements_ 26 32).run Tryd.prog w = .ok true w) ∧ Tryd.prog.packed 26 = false ∧ Tryd.prog.packed 32 = false := ⟨fun w => by kernel_rfl, by kernel_rfl, by kernel_rfl⟩
theorem imq1 : (∀ w, (ReflectliteType.implements_ 26 82).run Tryd.prog w = .ok true w) ∧ Tryd.prog.packed 26 = false ∧ Tryd.prog.packed 82 = false := ⟨fun w => by kernel_rfl, by kernel_rfl, by kernel_rfl⟩
theorem imq2 : (∀ w, (ReflectliteType.implements_ 26 126).run Tryd.prog w = .ok true w) ∧ Tryd.prog.packed 26 = false ∧ Tryd.prog.packed 126 = false := ⟨fun w => by kernel_rfl, by kernel_rfl, by kernel_rfl⟩
theorem rfOk : RfOk Tryd.prog tab where
  kd := fun t k h => by
    have h' := assocN_mem _ t k h
    have h' : (t, k) ∈ kds := h'
    simp only [kds, List.mem_cons, List.not_mem_nil, or_false, Prod.mk.injEq] at h'
    rcases h' with ⟨rfl, rfl⟩ | ⟨rfl, rfl⟩ | ⟨rfl, rfl⟩
    · exact kd0
    · exact kd1
    · exact kd2
  el := fun t e h => by
    have h' := assocN_mem _ t e h
    have h' : (t, e) ∈ els := h'
    simp only [els, List.mem_cons, List.not_mem_nil, or_false, Prod.mk.injEq] at h'
    obtain ⟨rfl, rfl⟩ := h'
    exact el0
  asg := fun u t r h => by
    have h' := impl_mem _ u t r h
    have h' : (u, t, r) ∈ asgs := h'
    simp only [asgs, List.mem_cons, List.not_mem_nil, or_false, Prod.mk.injEq] at h'
    rcases h' with ⟨rfl, rfl, rfl⟩ | ⟨rfl, rfl, rfl⟩ | ⟨rfl, rfl, rfl⟩ | ⟨rfl, rfl, rfl⟩ | ⟨rfl, rfl, rfl⟩ | ⟨rfl, rfl, rfl⟩ | ⟨rfl, rfl, rfl⟩ | ⟨rfl, rfl, rfl⟩ | ⟨rfl, rfl, rfl⟩
    · exact asg0
    · exact asg1
    · exact asg2
    · exact asg3
    · exact asg4
    · exact asg5
    · exact asg6
    · exact asg7
    · exact asg8
  im2 := fun u t r h => by
    have h' := impl_mem _ u t r h
    have h' : (u, t, r) ∈ im2s := h'
    simp only [im2s, List.mem_cons, List.not_mem_nil, or_false, Prod.mk.injEq] at h'
    rcases h' with ⟨rfl, rfl, rfl⟩ | ⟨rfl, rfl, rfl⟩ | ⟨rfl, rfl, rfl⟩
    · exact imq0
    · exact imq1
    · exact imq2
  ty := fun t w => by kernel_rfl
section
variable (nu : Nat → Value) (one : ∀ i, (nu i).oneCell' = true) (nst : Nat) (inv : World → Prop) (stab : ∀ w w' : World, (∀ k, k < nst → w'.heap[k]? = w.heap[k]?) → inv w → inv w')
noncomputable def cx : Cx := ⟨Tryd.prog, nu, one, nst, inv, stab⟩
theorem tyOk : TyOk Tryd.prog tab := ⟨fun t ti h => by
  have := map_at tyEq _ (tl_get h)
  simp only [] at this
  cases hi : Tryd.prog.info? t with
  | none => rw [hi] at this; cases this
  | some i => rw [hi] at this; injection this with this; exact ⟨i, rfl, this⟩⟩
theorem extAt {g : Nat} {fi : FI} {fn fn' : Func} {e : Nat} {C : Cx} {tb : Tab} (h : tb.fn.get g = some fi) (hf : C.P.funcs[g]? = some fn) (h1 : (tb.fn.get g).map (·.ext) = some e) (h2 : C.P.funcs[g]? = some fn') (hx : ExtOk C tb e fn') : fi.ext = 0 ∨ ExtOk C tb fi.ext fn := by
  rw [h] at h1
  simp only [Option.map_some, Option.some.injEq] at h1
  rw [h2] at hf; injection hf with hf
  subst hf; subst h1; exact .inr hx
theorem x47 : ExtOk (cx nu one nst inv stab) tab 5 Tryd.f47 := ext5_ok (by kernel_rfl) (by kernel_rfl) (fun t w => by kernel_rfl)
theorem x85 : ExtOk (cx nu one nst inv stab) tab 7 Tryd.f85 := ext7_ok tyOk rfOk (by kernel_rfl) (by kernel_rfl)
theorem x86 : ExtOk (cx nu one nst inv stab) tab 8 Tryd.f86 := ext8_ok rfOk (by kernel_rfl) (by kernel_rfl)
theorem x87 : ExtOk (cx nu one nst inv stab) tab 9 Tryd.f87 := ext9_ok tyOk rfOk (by kernel_rfl) (by kernel_rfl)
theorem x120 : ExtOk (cx nu one nst inv stab) tab 14 Tryd.f120 := ext14_ok tyOk rfOk (by kernel_rfl) (by kernel_rfl)
theorem x121 : ExtOk (cx nu one nst inv stab) tab 15 Tryd.f121 := ext15_ok tyOk rfOk (by kernel_rfl) (by kernel_rfl)
theorem x153 : ExtOk (cx nu one nst inv stab) tab 1 Tryd.f153 := ext1_ok (by kernel_rfl) (by kernel_rfl)
theorem x157 : ExtOk (cx nu one nst inv stab) tab 4 Tryd.f157 := ext4_ok (by kernel_rfl) (by kernel_rfl)
theorem x183 : ExtOk (cx nu one nst inv stab) tab 3 Tryd.f183 := ext3_ok (by kernel_rfl) (by kernel_rfl)
theorem x197 : ExtOk (cx nu one nst inv stab) tab 2 Tryd.f197 := ext2_ok (ps := Tryd.f197.params) (rs := Tryd.f197.resultTypes) (t := Tryd.f197.resultTypes.getD 0 0) (by kernel_rfl) (by kernel_rfl) (by kernel_rfl) (by kernel_rfl)
theorem x222 : ExtOk (cx nu one nst inv stab) tab 10 Tryd.f222 := ext10_ok rfOk (by kernel_rfl) (by kernel_rfl)
theorem x233 : ExtOk (cx nu one nst inv stab) tab 13 Tryd.f233 := ext13_ok rfOk (by kernel_rfl) (by kernel_rfl)
theorem x234 : ExtOk (cx nu one nst inv stab) tab 6 Tryd.f234 := ext6_ok tyOk (by kernel_rfl) (by kernel_rfl) pk
theorem x235 : ExtOk (cx nu one nst inv stab) tab 11 Tryd.f235 := ext11_ok rfOk (by kernel_rfl) (by kernel_rfl)
theorem x236 : ExtOk (cx nu one nst inv stab) tab 12 Tryd.f236 := ext12_ok rfOk (by kernel_rfl) (by kernel_rfl)
theorem tabOk : AllOk (cx nu one nst inv stab) tab := allOk' tyEq impEq ngEq rfl fnEq fnChk'
  (fun t m g d h => by
    have h' : (t, m, g, d) ∈ mets := h
    simp only [mets, List.mem_cons, List.not_mem_nil, or_false, Prod.mk.injEq] at h'
    rcases h' with ⟨rfl, rfl, rfl, rfl⟩ | ⟨rfl, rfl, rfl, rfl⟩ | ⟨rfl, rfl, rfl, rfl⟩ | ⟨rfl, rfl, rfl, rfl⟩ | ⟨rfl, rfl, rfl, rfl⟩ | ⟨rfl, rfl, rfl, rfl⟩
    · exact .inr ⟨rfl, met0⟩
    · exact .inl ⟨rfl, met1⟩
    · exact .inl ⟨rfl, met2⟩
    · exact .inl ⟨rfl, met3⟩
    · exact .inl ⟨rfl, met4⟩
    · exact .inl ⟨rfl, met5⟩)
  mixEq
  (fun g fi fn h hf hb => by
    have hc := List.all_eq_true.1 extChk _ (tl_get h)
    simp only [Bool.or_eq_true] at hc
    rcases hc with (((((((((((((((hc | hc) | hc) | hc) | hc) | hc) | hc) | hc) | hc) | hc) | hc) | hc) | hc) | hc) | hc) | hc)
    · exact .inl (Nat.eq_of_beq_eq_true hc)
    all_goals have hg := Nat.eq_of_beq_eq_true hc; subst hg
    · exact extAt h hf (by kernel_rfl) Tryd.func47 (x47 nu one nst inv stab)
    · exact extAt h hf (by kernel_rfl) Tryd.func85 (x85 nu one nst inv stab)
    · exact extAt h hf (by kernel_rfl) Tryd.func86 (x86 nu one nst inv stab)
    · exact extAt h hf (by kernel_rfl) Tryd.func87 (x87 nu one nst inv stab)
    · exact extAt h hf (by kernel_rfl) Tryd.func120 (x120 nu one nst inv stab)
    · exact extAt h hf (by kernel_rfl) Tryd.func121 (x121 nu one nst inv stab)
    · exact extAt h hf (by kernel_rfl) Tryd.func153 (x153 nu one nst inv stab)
    · exact extAt h hf (by kernel_rfl) Tryd.func157 (x157 nu one nst inv stab)
    · exact extAt h hf (by kernel_rfl) Tryd.func183 (x183 nu one nst inv stab)
    · exact extAt h hf (by kernel_rfl) Tryd.func197 (x197 nu one nst inv stab)
    · exact extAt h hf (by kernel_rfl) Tryd.func222 (x222 nu one nst inv stab)
    · exact extAt h hf (by kernel_rfl) Tryd.func233 (x233 nu one nst inv stab)
    · exact extAt h hf (by kernel_rfl) Tryd.func234 (x234 nu one nst inv stab)
    · exact extAt h hf (by kernel_rfl) Tryd.func235 (x235 nu one nst inv stab)
    · exact extAt h hf (by kernel_rfl) Tryd.func236 (x236 nu one nst inv stab))
end
end Go.Proofs.YticlhkekkfelpaaDoor
