/- A part of the proof: an interpreter of the model's own code on partly known states, and that what it answers is what the program answers. No condition of its own. -/
import Derived.Test.YtabnmohghnnjaaaGreatDoorTabN1
import Derived.Test.YtabnmohghnnjaaaGreatDoorHXpart4
import Derived.KernelRfl
set_option maxRecDepth 100000
set_option linter.unusedVariables false
set_option linter.unusedSimpArgs false
namespace Go.Proofs.YtabnmohghnnjaaaGreatDoor
open Go Go.AX Go.Proofs Go.Extern
theorem tyEq : TyEq Tryz.prog tab := by unfold TyEq; kernel_rfl
theorem impEq : ImpEq Tryz.prog tab := impEq_of (by kernel_rfl)
theorem fnEq : FnEq Tryz.prog tab := by unfold FnEq; kernel_rfl
theorem fnChk' : fnChk Tryz.prog tab = true := by kernel_rfl
theorem ngEq : tab.ng = Tryz.prog.globals.size := by kernel_rfl
theorem mixEq : Tryz.prog.follows .mixedOrders = true := by kernel_rfl
theorem pk : ((tl tab.ty 0 1).all fun p => !Tryz.prog.packed p.1 && !Tryz.prog.holdsPacked Tryz.prog.depth p.1) = true := by kernel_rfl
theorem met0 : MetAt2 Tryz.prog 113 "Kind" 210 := fun x w => by kernel_rfl
theorem met1 : MetAt Tryz.prog 113 "Implements" 220 := fun x w => by kernel_rfl
theorem met2 : MetAt Tryz.prog 113 "Elem" 219 := fun x w => by kernel_rfl
theorem met3 : MetAt Tryz.prog 113 "Comparable" 218 := fun x w => by kernel_rfl
theorem met4 : MetAt Tryz.prog 113 "AssignableTo" 217 := fun x w => by kernel_rfl
theorem met5 : MetAt Tryz.prog 95 "Unwrap" 215 := fun x w => by kernel_rfl
theorem extChk : ((tl tab.fn 0 1).all fun p => Nat.beq p.2.ext 0 || Nat.beq p.1 59 || Nat.beq p.1 90 || Nat.beq p.1 91 || Nat.beq p.1 92 || Nat.beq p.1 114 || Nat.beq p.1 115 || Nat.beq p.1 152 || Nat.beq p.1 191 || Nat.beq p.1 195 || Nat.beq p.1 210 || Nat.beq p.1 217 || Nat.beq p.1 218 || Nat.beq p.1 219 || Nat.beq p.1 220) = true := by kernel_rfl
theorem kd0 : (∀ w, (Rtype.kind 67).run Tryz.prog w = .ok 2 w) ∧ Tryz.prog.packed 67 = false := ⟨fun w => by kernel_rfl, by kernel_rfl⟩
theorem kd1 : (∀ w, (Rtype.kind 95).run Tryz.prog w = .ok 25 w) ∧ Tryz.prog.packed 95 = false := ⟨fun w => by kernel_rfl, by kernel_rfl⟩
theorem kd2 : (∀ w, (Rtype.kind 98).run Tryz.prog w = .ok 22 w) ∧ Tryz.prog.packed 98 = false := ⟨fun w => by kernel_rfl, by kernel_rfl⟩
theorem el0 : (∀ w, (Rtype.elem? 98).run Tryz.prog w = .ok (some 67) w) ∧ Tryz.prog.packed 98 = false := ⟨fun w => by kernel_rfl, by kernel_rfl⟩
theorem asg0 : (∀ w, (ReflectliteType.assignableTo 67 67).run Tryz.prog w = .ok true w) ∧ Tryz.prog.packed 67 = false ∧ Tryz.prog.packed 67 = false := ⟨fun w => by kernel_rfl, by kernel_rfl, by kernel_rfl⟩
theorem asg1 : (∀ w, (ReflectliteType.assignableTo 67 95).run Tryz.prog w = .ok false w) ∧ Tryz.prog.packed 67 = false ∧ Tryz.prog.packed 95 = false := ⟨fun w => by kernel_rfl, by kernel_rfl, by kernel_rfl⟩
theorem asg2 : (∀ w, (ReflectliteType.assignableTo 67 98).run Tryz.prog w = .ok false w) ∧ Tryz.prog.packed 67 = false ∧ Tryz.prog.packed 98 = false := ⟨fun w => by kernel_rfl, by kernel_rfl, by kernel_rfl⟩
theorem asg3 : (∀ w, (ReflectliteType.assignableTo 95 67).run Tryz.prog w = .ok false w) ∧ Tryz.prog.packed 95 = false ∧ Tryz.prog.packed 67 = false := ⟨fun w => by kernel_rfl, by kernel_rfl, by kernel_rfl⟩
theorem asg4 : (∀ w, (ReflectliteType.assignableTo 95 95).run Tryz.prog w = .ok true w) ∧ Tryz.prog.packed 95 = false ∧ Tryz.prog.packed 95 = false := ⟨fun w => by kernel_rfl, by kernel_rfl, by kernel_rfl⟩
theorem asg5 : (∀ w, (ReflectliteType.assignableTo 95 98).run Tryz.prog w = .ok false w) ∧ Tryz.prog.packed 95 = false ∧ Tryz.prog.packed 98 = false := ⟨fun w => by kernel_rfl, by kernel_rfl, by kernel_rfl⟩
theorem asg6 : (∀ w, (ReflectliteType.assignableTo 98 67).run Tryz.prog w = .ok false w) ∧ Tryz.prog.packed 98 = false ∧ Tryz.prog.packed 67 = false := ⟨fun w => by kernel_rfl, by kernel_rfl, by kernel_rfl⟩
theorem asg7 : (∀ w, (ReflectliteType.assignableTo 98 95).run Tryz.prog w = .ok false w) ∧ Tryz.prog.packed 98 = false ∧ Tryz.prog.packed 95 = false := ⟨fun w => by kernel_rfl, by kernel_rfl, by kernel_rfl⟩
theorem asg8 : (∀ w, (ReflectliteType.assignableTo 98 98).run Tryz.prog w = .ok true w) ∧ Tryz.prog.packed 98 = false ∧ Tryz.prog.packed 98 = false := ⟨fun w => by kernel_rfl, by kernel_rfl, by kernel_rfl⟩
theorem imq0 : (∀ w, (ReflectliteType.implements_ 36 67).run Tryz.prog w = .ok true w) ∧ Tryz.prog.packed 36 = false ∧ Tryz.prog.packed 67 = false := ⟨fun w => by kernel_rfl, by kernel_rfl, by kernel_rfl⟩
theorem imq1 : (∀ w, (ReflectliteType.implements_ 36 95).run Tryz.prog w = .ok true w) ∧ Tryz.prog.packed 36 = false ∧ Tryz.prog.packed 95 = false := ⟨fun w => by kernel_rfl, by kernel_rfl, by kernel_rfl⟩
theorem imq2 : (∀ w, (ReflectliteType.implements_ 36 98).run Tryz.prog w = .ok true w) ∧ Tryz.prog.packed 36 = false ∧ Tryz.prog.packed 98 = false := ⟨fun w => by kernel_rfl, by kernel_rfl, by kernel_rfl⟩
theorem rfOk : RfOk Tryz.prog tab where
  kd := fun t k h => by
    have h' := assocN_mem _ t k h
    have h' : (t, k) ∈ kds := h'
    simp only [kds, List.mem_cons, List.not_mem_nil, or_false, Prod.mk.injEq] at h'
    rcases h' with ⟨rfl, rfl⟩ | ⟨rfl, rfl⟩ | ⟨rfl, rfl⟩
    · exact kd0
    · exact kd1
    · exact kd2
  el := fun t e h => by
    have h' := assocN_mem _ t e h
    have h' : (t, e) ∈ els := h'
    simp only [els, List.mem_cons, List.not_mem_nil, or_false, Prod.mk.injEq] at h'
    obtain ⟨rfl, rfl⟩ := h'
    exact el0
  asg := fun u t r h => by
    have h' := impl_mem _ u t r h
    have h' : (u, t, r) ∈ asgs := h'
    simp only [asgs, List.mem_cons, List.not_mem_nil, or_false, Prod.mk.injEq] at h'
    rcases h' with ⟨rfl, rfl, rfl⟩ | ⟨rfl, rfl, rfl⟩ | ⟨rfl, rfl, rfl⟩ | ⟨rfl, rfl, rfl⟩ | ⟨rfl, rfl, rfl⟩ | ⟨rfl, rfl, rfl⟩ | ⟨rfl, rfl, rfl⟩ | ⟨rfl, rfl, rfl⟩ | ⟨rfl, rfl, rfl⟩
    · exact asg0
    · exact asg1
    · exact asg2
    · exact asg3
    · exact asg4
    · exact asg5
    · exact asg6
    · exact asg7
    · exact asg8
  im2 := fun u t r h => by
    have h' := impl_mem _ u t r h
    have h' : (u, t, r) ∈ im2s := h'
    simp only [im2s, List.mem_cons, List.not_mem_nil, or_false, Prod.mk.injEq] at h'
    rcases h' with ⟨rfl, rfl, rfl⟩ | ⟨rfl, rfl, rfl⟩ | ⟨rfl, rfl, rfl⟩
    · exact imq0
    · exact imq1
    · exact imq2
  ty := fun t w => by kernel_rfl
section
variable (nu : Nat → Value) (one : ∀ i, i < 1000000 → (nu i).oneCell' = true) (nst : Nat) (inv : World → Prop) (stab : ∀ w w' : World, (∀ k, k < nst → w'.heap[k]? = w.heap[k]?) → inv w → inv w')
noncomputable def cx : Cx := ⟨Tryz.prog, nu, one, nst, inv, stab⟩
theorem tyOk : TyOk Tryz.prog tab := ⟨fun t ti h => by
  have := map_at tyEq _ (tl_get h)
  simp only [] at this
  cases hi : Tryz.prog.info? t with
  | none => rw [hi] at this; cases this
  | some i => rw [hi] at this; injection this with this; exact ⟨i, rfl, this⟩⟩
theorem extAt {g : Nat} {fi : FI} {fn fn' : Func} {e : Nat} {C : Cx} {tb : Tab} (h : tb.fn.get g = some fi) (hf : C.P.funcs[g]? = some fn) (h1 : (tb.fn.get g).map (·.ext) = some e) (h2 : C.P.funcs[g]? = some fn') (hx : ExtOk C tb e fn') : fi.ext = 0 ∨ ExtOk C tb fi.ext fn := by
  rw [h] at h1
  simp only [Option.map_some, Option.some.injEq] at h1
  rw [h2] at hf; injection hf with hf
  subst hf; subst h1; exact .inr hx
theorem x59 : ExtOk (cx nu one nst inv stab) tab 5 Tryz.f59 := ext5_ok (by kernel_rfl) (by kernel_rfl) (fun t w => by kernel_rfl)
theorem x90 : ExtOk (cx nu one nst inv stab) tab 7 Tryz.f90 := ext7_ok tyOk rfOk (by kernel_rfl) (by kernel_rfl)
theorem x91 : ExtOk (cx nu one nst inv stab) tab 8 Tryz.f91 := ext8_ok rfOk (by kernel_rfl) (by kernel_rfl)
theorem x92 : ExtOk (cx nu one nst inv stab) tab 9 Tryz.f92 := ext9_ok tyOk rfOk (by kernel_rfl) (by kernel_rfl)
theorem x114 : ExtOk (cx nu one nst inv stab) tab 14 Tryz.f114 := ext14_ok tyOk rfOk (by kernel_rfl) (by kernel_rfl)
theorem x115 : ExtOk (cx nu one nst inv stab) tab 15 Tryz.f115 := ext15_ok tyOk rfOk (by kernel_rfl) (by kernel_rfl)
theorem x152 : ExtOk (cx nu one nst inv stab) tab 1 Tryz.f152 := ext1_ok (by kernel_rfl) (by kernel_rfl)
theorem x191 : ExtOk (cx nu one nst inv stab) tab 3 Tryz.f191 := ext3_ok (by kernel_rfl) (by kernel_rfl)
theorem x195 : ExtOk (cx nu one nst inv stab) tab 4 Tryz.f195 := ext4_ok (by kernel_rfl) (by kernel_rfl)
theorem x210 : ExtOk (cx nu one nst inv stab) tab 10 Tryz.f210 := ext10_ok rfOk (by kernel_rfl) (by kernel_rfl)
theorem x217 : ExtOk (cx nu one nst inv stab) tab 13 Tryz.f217 := ext13_ok rfOk (by kernel_rfl) (by kernel_rfl)
theorem x218 : ExtOk (cx nu one nst inv stab) tab 6 Tryz.f218 := ext6_ok tyOk (by kernel_rfl) (by kernel_rfl) pk
theorem x219 : ExtOk (cx nu one nst inv stab) tab 11 Tryz.f219 := ext11_ok rfOk (by kernel_rfl) (by kernel_rfl)
theorem x220 : ExtOk (cx nu one nst inv stab) tab 12 Tryz.f220 := ext12_ok rfOk (by kernel_rfl) (by kernel_rfl)
theorem tabOk : AllOk (cx nu one nst inv stab) tab := allOk' tyEq impEq ngEq rfl fnEq fnChk'
  (fun t m g d h => by
    have h' : (t, m, g, d) ∈ mets := h
    simp only [mets, List.mem_cons, List.not_mem_nil, or_false, Prod.mk.injEq] at h'
    rcases h' with ⟨rfl, rfl, rfl, rfl⟩ | ⟨rfl, rfl, rfl, rfl⟩ | ⟨rfl, rfl, rfl, rfl⟩ | ⟨rfl, rfl, rfl, rfl⟩ | ⟨rfl, rfl, rfl, rfl⟩ | ⟨rfl, rfl, rfl, rfl⟩
    · exact .inr ⟨rfl, met0⟩
    · exact .inl ⟨rfl, met1⟩
    · exact .inl ⟨rfl, met2⟩
    · exact .inl ⟨rfl, met3⟩
    · exact .inl ⟨rfl, met4⟩
    · exact .inl ⟨rfl, met5⟩)
  mixEq
  (fun g fi fn h hf hb => by
    have hc := List.all_eq_true.1 extChk _ (tl_get h)
    simp only [Bool.or_eq_true] at hc
    rcases hc with ((((((((((((((hc | hc) | hc) | hc) | hc) | hc) | hc) | hc) | hc) | hc) | hc) | hc) | hc) | hc) | hc)
    · exact .inl (Nat.eq_of_beq_eq_true hc)
    all_goals have hg := Nat.eq_of_beq_eq_true hc; subst hg
    · exact extAt h hf (by kernel_rfl) Tryz.func59 (x59 nu one nst inv stab)
    · exact extAt h hf (by kernel_rfl) Tryz.func90 (x90 nu one nst inv stab)
    · exact extAt h hf (by kernel_rfl) Tryz.func91 (x91 nu one nst inv stab)
    · exact extAt h hf (by kernel_rfl) Tryz.func92 (x92 nu one nst inv stab)
    · exact extAt h hf (by kernel_rfl) Tryz.func114 (x114 nu one nst inv stab)
    · exact extAt h hf (by kernel_rfl) Tryz.func115 (x115 nu one nst inv stab)
    · exact extAt h hf (by kernel_rfl) Tryz.func152 (x152 nu one nst inv stab)
    · exact extAt h hf (by kernel_rfl) Tryz.func191 (x191 nu one nst inv stab)
    · exact extAt h hf (by kernel_rfl) Tryz.func195 (x195 nu one nst inv stab)
    · exact extAt h hf (by kernel_rfl) Tryz.func210 (x210 nu one nst inv stab)
    · exact extAt h hf (by kernel_rfl) Tryz.func217 (x217 nu one nst inv stab)
    · exact extAt h hf (by kernel_rfl) Tryz.func218 (x218 nu one nst inv stab)
    · exact extAt h hf (by kernel_rfl) Tryz.func219 (x219 nu one nst inv stab)
    · exact extAt h hf (by kernel_rfl) Tryz.func220 (x220 nu one nst inv stab))
end
end Go.Proofs.YtabnmohghnnjaaaGreatDoor
