/- A part of the proof: an interpreter of the model's own code on partly known states, and that what it answers is what the program answers. No condition of its own. -/
import Derived.Test.YtckjigiafmiieaaDoorTabA3
import Derived.Test.YtckjigiafmiieaaDoorAXpart3
import Derived.KernelRfl
set_option maxRecDepth 100000
set_option linter.unusedVariables false
namespace Go.Proofs.YtckjigiafmiieaaDoor
open Go Go.AX Go.Proofs Go.Extern
theorem tyEq : TyEq Tryd.prog tab := by unfold TyEq; kernel_rfl
theorem impEq : ImpEq Tryd.prog tab := impEq_of (by kernel_rfl)
theorem fnEq : FnEq Tryd.prog tab := by unfold FnEq; kernel_rfl
theorem fnChk' : fnChk Tryd.prog tab = true := by kernel_rfl
theorem ngEq : tab.ng = Tryd.prog.globals.size := by kernel_rfl
theorem mixEq : Tryd.prog.follows .mixedOrders = true := by kernel_rfl
theorem pk : ((tl tab.ty 0 1).all fun p => !Tryd.prog.packed p.1 && !Tryd.prog.holdsPacked Tryd.prog.depth p.1) = true := by kernel_rfl
theorem met0 : MetAt2 Tryd.prog 116 "Kind" 201 := fun x w => by kernel_rfl
theorem met1 : MetAt Tryd.prog 116 "Implements" 211 := fun x w => by kernel_rfl
theorem met2 : MetAt Tryd.prog 116 "Elem" 210 := fun x w => by kernel_rfl
theorem met3 : MetAt Tryd.prog 116 "Comparable" 209 := fun x w => by kernel_rfl
theorem met4 : MetAt Tryd.prog 116 "AssignableTo" 208 := fun x w => by kernel_rfl
theorem met5 : MetAt Tryd.prog 112 "Unwrap" 206 := fun x w => by kernel_rfl
theorem extChk : ((tl tab.fn 0 1).all fun p => Nat.beq p.2.ext 0 || Nat.beq p.1 37 || Nat.beq p.1 129 || Nat.beq p.1 130 || Nat.beq p.1 131 || Nat.beq p.1 142 || Nat.beq p.1 157 || Nat.beq p.1 158 || Nat.beq p.1 166 || Nat.beq p.1 173 || Nat.beq p.1 201 || Nat.beq p.1 208 || Nat.beq p.1 209 || Nat.beq p.1 210 || Nat.beq p.1 211) = true := by kernel_rfl
theorem kd0 : (∀ w, (Rtype.kind 33).run Tryd.prog w = .ok 2 w) ∧ Tryd.prog.packed 33 = false := ⟨fun w => by kernel_rfl, by kernel_rfl⟩
theorem kd1 : (∀ w, (Rtype.kind 112).run Tryd.prog w = .ok 25 w) ∧ Tryd.prog.packed 112 = false := ⟨fun w => by kernel_rfl, by kernel_rfl⟩
theorem kd2 : (∀ w, (Rtype.kind 148).run Tryd.prog w = .ok 22 w) ∧ Tryd.prog.packed 148 = false := ⟨fun w => by kernel_rfl, by kernel_rfl⟩
theorem el0 : (∀ w, (Rtype.elem? 148).run Tryd.prog w = .ok (some 33) w) ∧ Tryd.prog.packed 148 = false := ⟨fun w => by kernel_rfl, by kernel_rfl⟩
theorem asg0 : (∀ w, (ReflectliteType.assignableTo 33 33).run Tryd.prog w = .ok true w) ∧ Tryd.prog.packed 33 = false ∧ Tryd.prog.packed 33 = false := ⟨fun w => by kernel_rfl, by kernel_rfl, by kernel_rfl⟩
theorem asg1 : (∀ w, (ReflectliteType.assignableTo 33 112).run Tryd.prog w = .ok false w) ∧ Tryd.prog.packed 33 = false ∧ Tryd.prog.packed 112 = false := ⟨fun w => by kernel_rfl, by kernel_rfl, by kernel_rfl⟩
theorem asg2 : (∀ w, (ReflectliteType.assignableTo 33 148).run Tryd.prog w = .ok false w) ∧ Tryd.prog.packed 33 = false ∧ Tryd.prog.packed 148 = false := ⟨fun w => by kernel_rfl, by kernel_rfl, by kernel_rfl⟩
theorem asg3 : (∀ w, (ReflectliteType.assignableTo 112 33).run Tryd.prog w = .ok false w) ∧ Tryd.prog.packed 112 = false ∧ Tryd.prog.packed 33 = false := ⟨fun w => by kernel_rfl, by kernel_rfl, by kernel_rfl⟩
theorem asg4 : (∀ w, (ReflectliteType.assignableTo 112 112).run Tryd.prog w = .ok true w) ∧ Tryd.prog.packed 112 = false ∧ Tryd.prog.packed 112 = false := ⟨fun w => by kernel_rfl, by kernel_rfl, by kernel_rfl⟩
theorem asg5 : (∀ w, (ReflectliteType.assignableTo 112 148).run Tryd.prog w = .ok false w) ∧ Tryd.prog.packed 112 = false ∧ Tryd.prog.packed 148 = false := ⟨fun w => by kernel_rfl, by kernel_rfl, by kernel_rfl⟩
theorem asg6 : (∀ w, (ReflectliteType.assignableTo 148 33).run Tryd.prog w = .ok false w) ∧ Tryd.prog.packed 148 = false ∧ Tryd.prog.packed 33 = false := ⟨fun w => by kernel_rfl, by kernel_rfl, by kernel_rfl⟩
theorem asg7 : (∀ w, (ReflectliteType.assignableTo 148 112).run Tryd.prog w = .ok false w) ∧ Tryd.prog.packed 148 = false ∧ Tryd.prog.packed 112 = false := ⟨fun w => by kernel_rfl, by kernel_rfl, by kernel_rfl⟩
theorem asg8 : (∀ w, (ReflectliteType.assignableTo 148 148).run Tryd.prog w = .ok true w) ∧ Tryd.prog.packed 148 = false ∧ Tryd.prog.packed 148 = false := ⟨fun w => by kernel_rfl, by kernel_rfl, by kernel_rfl⟩
theorem imq0 : (∀ w, (ReflectliteType.implements_ 27 33).run Tryd.prog w = .ok true w) ∧ Tryd.prog.packed 27 = false ∧ Tryd.prog.packed 33 = false := ⟨fun w => by kernel_rfl, by kernel_rfl, by kernel_rfl⟩
theorem imq1 : (∀ w, (ReflectliteType.implements_ 27 112).run Tryd.prog w = .ok true w) ∧ Tryd.prog.packed 27 = false ∧ Tryd.prog.packed 112 = false := ⟨fun w => by kernel_rfl, by kernel_rfl, by kernel_rfl⟩
theorem imq2 : (∀ w, (ReflectliteType.implements_ 27 148).run Tryd.prog w = .ok true w) ∧ Tryd.prog.packed 27 = false ∧ Tryd.prog.packed 148 = false := ⟨fun w => by kernel_rfl, by kernel_rfl, by kernel_rfl⟩
theorem rfOk : RfOk Tryd.prog tab where
  kd := fun t k h => by
    have h' := assocN_mem _ t k h
    have h' : (t, k) ∈ kds := h'
    simp only [kds, List.mem_cons, List.not_mem_nil, or_false, Prod.mk.injEq] at h'
    rcases h' with ⟨rfl, rfl⟩ | ⟨rfl, rfl⟩ | ⟨rfl, rfl⟩
    · exact kd0
    · exact kd1
    · exact kd2
  el := fun t e h => by
    have h' := assocN_mem _ t e h
    have h' : (t, e) ∈ els := h'
    simp only [els, List.mem_cons, List.not_mem_nil, or_false, Prod.mk.injEq] at h'
    obtain ⟨rfl, rfl⟩ := h'
    exact el0
  asg := fun u t r h => by
    have h' := impl_mem _ u t r h
    have h' : (u, t, r) ∈ asgs := h'
    simp only [asgs, List.mem_cons, List.not_mem_nil, or_false, Prod.mk.injEq] at h'
    rcases h' with ⟨rfl, rfl, rfl⟩ | ⟨rfl, rfl, rfl⟩ | ⟨rfl, rfl, rfl⟩ | ⟨rfl, rfl, rfl⟩ | ⟨rfl, rfl, rfl⟩ | ⟨rfl, rfl, rfl⟩ | ⟨rfl, rfl, rfl⟩ | ⟨rfl, rfl, rfl⟩ | ⟨rfl, rfl, rfl⟩
    · exact asg0
    · exact asg1
    · exact asg2
    · exact asg3
    · exact asg4
    · exact asg5
    · exact asg6
    · exact asg7
    · exact asg8
  im2 := fun u t r h => by
    have h' := impl_mem _ u t r h
    have h' : (u, t, r) ∈ im2s := h'
    simp only [im2s, List.mem_cons, List.not_mem_nil, or_false, Prod.mk.injEq] at h'
    rcases h' with ⟨rfl, rfl, rfl⟩ | ⟨rfl, rfl, rfl⟩ | ⟨rfl, rfl, rfl⟩
    · exact imq0
    · exact imq1
    · exact imq2
  ty := fun t w => by kernel_rfl
section
variable (nu : Nat → Value) (one : ∀ i, (nu i).oneCell' = true) (nst : Nat) (inv : World → Prop) (stab : ∀ w w' : World, (∀ k, k < nst → w'.heap[k]? = w.heap[k]?) → inv w → inv w')
noncomputable def cx : Cx := ⟨Tryd.prog, nu, one, nst, inv, stab⟩
theorem tyOk : TyOk Tryd.prog tab := ⟨fun t ti h => by
  have := map_at tyEq _ (tl_get h)
  simp only [] at this
  cases hi : Tryd.prog.info? t with
  | none => rw [hi] at this; cases this
  | some i => rw [hi] at this; injection this with this; exact ⟨i, rfl, this⟩⟩
theorem extAt {g : Nat} {fi : FI} {fn fn' : Func} {e : Nat} {C : Cx} {tb : Tab} (h : tb.fn.get g = some fi) (hf : C.P.funcs[g]? = some fn) (h1 : (tb.fn.get g).map (·.ext) = some e) (h2 : C.P.funcs[g]? = some fn') (hx : ExtOk C tb e fn') : fi.ext = 0 ∨ ExtOk C tb fi.ext fn := by
  rw [h] at h1
  simp only [Option.map_some, Option.some.injEq] at h1
  rw [h2] at hf; injection hf with hf
  subst hf; subst h1; exact .inr hx
theorem x37 : ExtOk (cx nu one nst inv stab) tab 5 Tryd.f37 := ext5_ok (by kernel_rfl) (by kernel_rfl) (fun t w => by kernel_rfl)
theorem x129 : ExtOk (cx nu one nst inv stab) tab 7 Tryd.f129 := ext7_ok tyOk rfOk (by kernel_rfl) (by kernel_rfl)
theorem x130 : ExtOk (cx nu one nst inv stab) tab 8 Tryd.f130 := ext8_ok rfOk (by kernel_rfl) (by kernel_rfl)
theorem x131 : ExtOk (cx nu one nst inv stab) tab 9 Tryd.f131 := ext9_ok tyOk rfOk (by kernel_rfl) (by kernel_rfl)
theorem x142 : ExtOk (cx nu one nst inv stab) tab 3 Tryd.f142 := ext3_ok (by kernel_rfl) (by kernel_rfl)
theorem x157 : ExtOk (cx nu one nst inv stab) tab 14 Tryd.f157 := ext14_ok tyOk rfOk (by kernel_rfl) (by kernel_rfl)
theorem x158 : ExtOk (cx nu one nst inv stab) tab 15 Tryd.f158 := ext15_ok tyOk rfOk (by kernel_rfl) (by kernel_rfl)
theorem x166 : ExtOk (cx nu one nst inv stab) tab 1 Tryd.f166 := ext1_ok (by kernel_rfl) (by kernel_rfl)
theorem x173 : ExtOk (cx nu one nst inv stab) tab 2 Tryd.f173 := ext2_ok (ps := Tryd.f173.params) (rs := Tryd.f173.resultTypes) (t := Tryd.f173.resultTypes.getD 0 0) (by kernel_rfl) (by kernel_rfl) (by kernel_rfl) (by kernel_rfl)
theorem x201 : ExtOk (cx nu one nst inv stab) tab 10 Tryd.f201 := ext10_ok rfOk (by kernel_rfl) (by kernel_rfl)
theorem x208 : ExtOk (cx nu one nst inv stab) tab 13 Tryd.f208 := ext13_ok rfOk (by kernel_rfl) (by kernel_rfl)
theorem x209 : ExtOk (cx nu one nst inv stab) tab 6 Tryd.f209 := ext6_ok tyOk (by kernel_rfl) (by kernel_rfl) pk
theorem x210 : ExtOk (cx nu one nst inv stab) tab 11 Tryd.f210 := ext11_ok rfOk (by kernel_rfl) (by kernel_rfl)
theorem x211 : ExtOk (cx nu one nst inv stab) tab 12 Tryd.f211 := ext12_ok rfOk (by kernel_rfl) (by kernel_rfl)
theorem tabOk : AllOk (cx nu one nst inv stab) tab := allOk' tyEq impEq ngEq rfl fnEq fnChk'
  (fun t m g d h => by
    have h' : (t, m, g, d) ∈ mets := h
    simp only [mets, List.mem_cons, List.not_mem_nil, or_false, Prod.mk.injEq] at h'
    rcases h' with ⟨rfl, rfl, rfl, rfl⟩ | ⟨rfl, rfl, rfl, rfl⟩ | ⟨rfl, rfl, rfl, rfl⟩ | ⟨rfl, rfl, rfl, rfl⟩ | ⟨rfl, rfl, rfl, rfl⟩ | ⟨rfl, rfl, rfl, rfl⟩
    · exact .inr ⟨rfl, met0⟩
    · exact .inl ⟨rfl, met1⟩
    · exact .inl ⟨rfl, met2⟩
    · exact .inl ⟨rfl, met3⟩
    · exact .inl ⟨rfl, met4⟩
    · exact .inl ⟨rfl, met5⟩)
  mixEq
  (fun g fi fn h hf hb => by
    have hc := List.all_eq_true.1 extChk _ (tl_get h)
    simp only [Bool.or_eq_true] at hc
    rcases hc with ((((((((((((((hc | hc) | hc) | hc) | hc) | hc) | hc) | hc) | hc) | hc) | hc) | hc) | hc) | hc) | hc)
    · exact .inl (Nat.eq_of_beq_eq_true hc)
    all_goals have hg := Nat.eq_of_beq_eq_true hc; subst hg
    · exact extAt h hf (by kernel_rfl) Tryd.func37 (x37 nu one nst inv stab)
    · exact extAt h hf (by kernel_rfl) Tryd.func129 (x129 nu one nst inv stab)
    · exact extAt h hf (by kernel_rfl) Tryd.func130 (x130 nu one nst inv stab)
    · exact extAt h hf (by kernel_rfl) Tryd.func131 (x131 nu one nst inv stab)
    · exact extAt h hf (by kernel_rfl) Tryd.func142 (x142 nu one nst inv stab)
    · exact extAt h hf (by kernel_rfl) Tryd.func157 (x157 nu one nst inv stab)
    · exact extAt h hf (by kernel_rfl) Tryd.func158 (x158 nu one nst inv stab)
    · exact extAt h hf (by kernel_rfl) Tryd.func166 (x166 nu one nst inv stab)
    · exact extAt h hf (by kernel_rfl) Tryd.func173 (x173 nu one nst inv stab)
    · exact extAt h hf (by kernel_rfl) Tryd.func201 (x201 nu one nst inv stab)
    · exact extAt h hf (by kernel_rfl) Tryd.func208 (x208 nu one nst inv stab)
    · exact extAt h hf (by kernel_rfl) Tryd.func209 (x209 nu one nst inv stab)
    · exact extAt h hf (by kernel_rfl) Tryd.func210 (x210 nu one nst inv stab)
    · exact extAt h hf (by kernel_rfl) Tryd.func211 (x211 nu one nst inv stab))
end
end Go.Proofs.YtckjigiafmiieaaDoor
