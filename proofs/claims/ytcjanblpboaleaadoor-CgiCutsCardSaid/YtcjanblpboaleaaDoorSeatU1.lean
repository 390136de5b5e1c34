/- A part of the proof: what an interpreter answers on partly known states is what the program answers. No condition. -/
import Derived.Test.YtcjanblpboaleaaDoorTabU1
import Derived.Test.YtcjanblpboaleaaDoorHXpart4
import Derived.KernelRfl
set_option maxRecDepth 100000
set_option linter.unusedVariables false
set_option linter.unusedSimpArgs false
namespace Go.Proofs.YtcjanblpboaleaaDoor
open Go Go.AX Go.Proofs Go.Extern
theorem tyEq : TyEq Tryd.prog tab := by unfold TyEq; kernel_rfl
theorem impEq : BB Tryd.prog tab := impEq_of (by kernel_rfl)
theorem fnEq : FnEq Tryd.prog tab := by unfold FnEq; kernel_rfl
theorem fnChk' : fnChk Tryd.prog tab = true := by kernel_rfl
theorem ngEq : tab.ng = Tryd.prog.globals.size := by kernel_rfl
theorem mixEq : Tryd.prog.follows .mixedOrders = true := by kernel_rfl
theorem pk : ((tl tab.ty 0 1).all fun p => !Tryd.prog.packed p.1 && !Tryd.prog.holdsPacked Tryd.prog.depth p.1) = true := by kernel_rfl
theorem met0 : MetAt2 Tryd.prog 80 "Kind" 87 := fun x w => by kernel_rfl
theorem met1 : qn Tryd.prog 80 "Implements" 100 := fun x w => by kernel_rfl
theorem met2 : qn Tryd.prog 80 "Elem" 99 := fun x w => by kernel_rfl
theorem met3 : qn Tryd.prog 80 "Comparable" 98 := fun x w => by kernel_rfl
theorem met4 : qn Tryd.prog 80 "AssignableTo" 97 := fun x w => by kernel_rfl
theorem met5 : qn Tryd.prog 63 "Unwrap" 92 := fun x w => by kernel_rfl
theorem extChk : ((tl tab.fn 0 1).all fun p => Nat.beq p.2.ext 0 || Nat.beq p.1 23 || Nat.beq p.1 28 || Nat.beq p.1 29 || Nat.beq p.1 30 || Nat.beq p.1 40 || Nat.beq p.1 41 || Nat.beq p.1 67 || Nat.beq p.1 87 || Nat.beq p.1 97 || Nat.beq p.1 98 || Nat.beq p.1 99 || Nat.beq p.1 100) = true := by kernel_rfl
theorem kd0 : (∀ w, (Rtype.kind 40).run Tryd.prog w = .ok 2 w) ∧ Tryd.prog.packed 40 = false := ⟨fun w => by kernel_rfl, by kernel_rfl⟩
theorem kd1 : (∀ w, (Rtype.kind 46).run Tryd.prog w = .ok 22 w) ∧ Tryd.prog.packed 46 = false := ⟨fun w => by kernel_rfl, by kernel_rfl⟩
theorem kd2 : (∀ w, (Rtype.kind 63).run Tryd.prog w = .ok 25 w) ∧ Tryd.prog.packed 63 = false := ⟨fun w => by kernel_rfl, by kernel_rfl⟩
theorem el0 : (∀ w, (Rtype.elem? 46).run Tryd.prog w = .ok (some 40) w) ∧ Tryd.prog.packed 46 = false := ⟨fun w => by kernel_rfl, by kernel_rfl⟩
theorem asg0 : (∀ w, (ReflectliteType.assignableTo 40 40).run Tryd.prog w = .ok true w) ∧ Tryd.prog.packed 40 = false ∧ Tryd.prog.packed 40 = false := ⟨fun w => by kernel_rfl, by kernel_rfl, by kernel_rfl⟩
theorem asg1 : (∀ w, (ReflectliteType.assignableTo 40 46).run Tryd.prog w = .ok false w) ∧ Tryd.prog.packed 40 = false ∧ Tryd.prog.packed 46 = false := ⟨fun w => by kernel_rfl, by kernel_rfl, by kernel_rfl⟩
theorem asg2 : (∀ w, (ReflectliteType.assignableTo 40 63).run Tryd.prog w = .ok false w) ∧ Tryd.prog.packed 40 = false ∧ Tryd.prog.packed 63 = false := ⟨fun w => by kernel_rfl, by kernel_rfl, by kernel_rfl⟩
theorem asg3 : (∀ w, (ReflectliteType.assignableTo 46 40).run Tryd.prog w = .ok false w) ∧ Tryd.prog.packed 46 = false ∧ Tryd.prog.packed 40 = false := ⟨fun w => by kernel_rfl, by kernel_rfl, by kernel_rfl⟩
theorem asg4 : (∀ w, (ReflectliteType.assignableTo 46 46).run Tryd.prog w = .ok true w) ∧ Tryd.prog.packed 46 = false ∧ Tryd.prog.packed 46 = false := ⟨fun w => by kernel_rfl, by kernel_rfl, by kernel_rfl⟩
theorem asg5 : (∀ w, (ReflectliteType.assignableTo 46 63).run Tryd.prog w = .ok false w) ∧ Tryd.prog.packed 46 = false ∧ Tryd.prog.packed 63 = false := ⟨fun w => by kernel_rfl, by kernel_rfl, by kernel_rfl⟩
theorem asg6 : (∀ w, (ReflectliteType.assignableTo 63 40).run Tryd.prog w = .ok false w) ∧ Tryd.prog.packed 63 = false ∧ Tryd.prog.packed 40 = false := ⟨fun w => by kernel_rfl, by kernel_rfl, by kernel_rfl⟩
theorem asg7 : (∀ w, (ReflectliteType.assignableTo 63 46).run Tryd.prog w = .ok false w) ∧ Tryd.prog.packed 63 = false ∧ Tryd.prog.packed 46 = false := ⟨fun w => by kernel_rfl, by kernel_rfl, by kernel_rfl⟩
theorem asg8 : (∀ w, (ReflectliteType.assignableTo 63 63).run Tryd.prog w = .ok true w) ∧ Tryd.prog.packed 63 = false ∧ Tryd.prog.packed 63 = false := ⟨fun w => by kernel_rfl, by kernel_rfl, by kernel_rfl⟩
theorem imq0 : (∀ w, (ReflectliteType.implements_ 27 40).run Tryd.prog w = .ok true w) ∧ Tryd.prog.packed 27 = false ∧ Tryd.prog.packed 40 = false := ⟨fun w => by kernel_rfl, by kernel_rfl, by kernel_rfl⟩
theorem imq1 : (∀ w, (ReflectliteType.implements_ 27 46).run Tryd.prog w = .ok true w) ∧ Tryd.prog.packed 27 = false ∧ Tryd.prog.packed 46 = false := ⟨fun w => by kernel_rfl, by kernel_rfl, by kernel_rfl⟩
theorem imq2 : (∀ w, (ReflectliteType.implements_ 27 63).run Tryd.prog w = .ok true w) ∧ Tryd.prog.packed 27 = false ∧ Tryd.prog.packed 63 = false := ⟨fun w => by kernel_rfl, by kernel_rfl, by kernel_rfl⟩
theorem lI : kb Tryd.prog tab where
 kd := fun t k h => by
  have h' := GW _ t k h
  have h' : (t, k) ∈ kds := h'
  simp only [kds, List.mem_cons, List.not_mem_nil, or_false, Prod.mk.injEq] at h'
  rcases h' with ⟨rfl, rfl⟩ | ⟨rfl, rfl⟩ | ⟨rfl, rfl⟩
  ·exact kd0
  ·exact kd1
  ·exact kd2
 el := fun t e h => by
  have h' := GW _ t e h
  have h' : (t, e) ∈ els := h'
  simp only [els, List.mem_cons, List.not_mem_nil, or_false, Prod.mk.injEq] at h'
  obtain ⟨rfl, rfl⟩ := h'
  exact el0
 fD := fun u t r h => by
  have h' := zB _ u t r h
  have h' : (u, t, r) ∈ asgs := h'
  simp only [asgs, List.mem_cons, List.not_mem_nil, or_false, Prod.mk.injEq] at h'
  rcases h' with ⟨rfl, rfl, rfl⟩ | ⟨rfl, rfl, rfl⟩ | ⟨rfl, rfl, rfl⟩ | ⟨rfl, rfl, rfl⟩ | ⟨rfl, rfl, rfl⟩ | ⟨rfl, rfl, rfl⟩ | ⟨rfl, rfl, rfl⟩ | ⟨rfl, rfl, rfl⟩ | ⟨rfl, rfl, rfl⟩
  ·exact asg0
  ·exact asg1
  ·exact asg2
  ·exact asg3
  ·exact asg4
  ·exact asg5
  ·exact asg6
  ·exact asg7
  ·exact asg8
 im2 := fun u t r h => by
  have h' := zB _ u t r h
  have h' : (u, t, r) ∈ im2s := h'
  simp only [im2s, List.mem_cons, List.not_mem_nil, or_false, Prod.mk.injEq] at h'
  rcases h' with ⟨rfl, rfl, rfl⟩ | ⟨rfl, rfl, rfl⟩ | ⟨rfl, rfl, rfl⟩
  ·exact imq0
  ·exact imq1
  ·exact imq2
 ty := fun t w => by kernel_rfl
section
variable (nu : Nat → Value) (one : ∀ i, i < 1000000 → (nu i).oneCell' = true) (br : Nat) (inv : World → Prop) (cb : ∀ w w' : World, (∀ k, k < br → w'.heap[k]? = w.heap[k]?) → inv w → inv w')
noncomputable def cx : Cx := ⟨Tryd.prog, nu, one, br, inv, cb⟩
theorem rA : TyOk Tryd.prog tab := ⟨fun t ti h => by
 have := sf tyEq _ (o6 h)
 simp only [] at this
 cases hi : Tryd.prog.info? t with
 | none => rw [hi] at this; cases this
 | some i => rw [hi] at this; injection this with this; exact ⟨i, rfl, this⟩⟩
theorem jE {g : Nat} {fi : FI} {fn fn' : Func} {e : Nat} {C : Cx} {tb : Tab} (h : tb.fn.get g = some fi) (hf : C.P.funcs[g]? = some fn) (h1 : (tb.fn.get g).map (·.ext) = some e) (h2 : C.P.funcs[g]? = some fn') (hx : dP C tb e fn') : fi.ext = 0 ∨ dP C tb fi.ext fn := by
 rw [h] at h1
 simp only [Option.map_some, Option.some.injEq] at h1
 rw [h2] at hf; injection hf with hf
 subst hf; subst h1; exact .inr hx
theorem x23 : dP (cx nu one br inv cb) tab 5 Tryd.f23 := ext5_ok (by kernel_rfl) (by kernel_rfl) (fun t w => by kernel_rfl)
theorem x28 : dP (cx nu one br inv cb) tab 7 Tryd.f28 := ext7_ok rA lI (by kernel_rfl) (by kernel_rfl)
theorem x29 : dP (cx nu one br inv cb) tab 8 Tryd.f29 := ext8_ok lI (by kernel_rfl) (by kernel_rfl)
theorem x30 : dP (cx nu one br inv cb) tab 9 Tryd.f30 := ext9_ok rA lI (by kernel_rfl) (by kernel_rfl)
theorem x40 : dP (cx nu one br inv cb) tab 14 Tryd.f40 := ext14_ok rA lI (by kernel_rfl) (by kernel_rfl)
theorem x41 : dP (cx nu one br inv cb) tab 15 Tryd.f41 := ext15_ok rA lI (by kernel_rfl) (by kernel_rfl)
theorem x67 : dP (cx nu one br inv cb) tab 3 Tryd.f67 := ext3_ok (by kernel_rfl) (by kernel_rfl)
theorem x87 : dP (cx nu one br inv cb) tab 10 Tryd.f87 := ext10_ok lI (by kernel_rfl) (by kernel_rfl)
theorem x97 : dP (cx nu one br inv cb) tab 13 Tryd.f97 := ext13_ok lI (by kernel_rfl) (by kernel_rfl)
theorem x98 : dP (cx nu one br inv cb) tab 6 Tryd.f98 := ext6_ok rA (by kernel_rfl) (by kernel_rfl) pk
theorem x99 : dP (cx nu one br inv cb) tab 11 Tryd.f99 := ext11_ok lI (by kernel_rfl) (by kernel_rfl)
theorem x100 : dP (cx nu one br inv cb) tab 12 Tryd.f100 := ext12_ok lI (by kernel_rfl) (by kernel_rfl)
theorem tabOk : aq (cx nu one br inv cb) tab := allOk' tyEq impEq ngEq rfl fnEq fnChk'
 (fun t m g d h => by
   have h' : (t, m, g, d) ∈ mets := h
   simp only [mets, List.mem_cons, List.not_mem_nil, or_false, Prod.mk.injEq] at h'
   rcases h' with ⟨rfl, rfl, rfl, rfl⟩ | ⟨rfl, rfl, rfl, rfl⟩ | ⟨rfl, rfl, rfl, rfl⟩ | ⟨rfl, rfl, rfl, rfl⟩ | ⟨rfl, rfl, rfl, rfl⟩ | ⟨rfl, rfl, rfl, rfl⟩
   ·exact .inr ⟨rfl, met0⟩
   ·exact .inl ⟨rfl, met1⟩
   ·exact .inl ⟨rfl, met2⟩
   ·exact .inl ⟨rfl, met3⟩
   ·exact .inl ⟨rfl, met4⟩
   ·exact .inl ⟨rfl, met5⟩)
 mixEq
 (fun g fi fn h hf hb => by
   have hc := List.all_eq_true.1 extChk _ (o6 h)
   simp only [Bool.or_eq_true] at hc
   rcases hc with ((((((((((((hc | hc) | hc) | hc) | hc) | hc) | hc) | hc) | hc) | hc) | hc) | hc) | hc)
   ·exact .inl (Nat.eq_of_beq_eq_true hc)
   all_goals have hg := Nat.eq_of_beq_eq_true hc; subst hg
   ·exact jE h hf (by kernel_rfl) Tryd.func23 (x23 nu one br inv cb)
   ·exact jE h hf (by kernel_rfl) Tryd.func28 (x28 nu one br inv cb)
   ·exact jE h hf (by kernel_rfl) Tryd.func29 (x29 nu one br inv cb)
   ·exact jE h hf (by kernel_rfl) Tryd.func30 (x30 nu one br inv cb)
   ·exact jE h hf (by kernel_rfl) Tryd.func40 (x40 nu one br inv cb)
   ·exact jE h hf (by kernel_rfl) Tryd.func41 (x41 nu one br inv cb)
   ·exact jE h hf (by kernel_rfl) Tryd.func67 (x67 nu one br inv cb)
   ·exact jE h hf (by kernel_rfl) Tryd.func87 (x87 nu one br inv cb)
   ·exact jE h hf (by kernel_rfl) Tryd.func97 (x97 nu one br inv cb)
   ·exact jE h hf (by kernel_rfl) Tryd.func98 (x98 nu one br inv cb)
   ·exact jE h hf (by kernel_rfl) Tryd.func99 (x99 nu one br inv cb)
   ·exact jE h hf (by kernel_rfl) Tryd.func100 (x100 nu one br inv cb))
end
end Go.Proofs.YtcjanblpboaleaaDoor
