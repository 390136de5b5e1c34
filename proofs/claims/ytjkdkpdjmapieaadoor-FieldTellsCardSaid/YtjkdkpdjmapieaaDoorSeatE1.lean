/- A part of the proof: what an interpreter answers on partly known states is what the program answers. No condition. -/
import Derived.Test.YtjkdkpdjmapieaaDoorTabE1
import Derived.Test.YtjkdkpdjmapieaaDoorHXpart4
import Derived.KernelRfl
set_option maxRecDepth 100000
set_option linter.unusedVariables false
set_option linter.unusedSimpArgs false
namespace Go.Proofs.YtjkdkpdjmapieaaDoor
open Go Go.AX Go.Proofs Go.Extern
theorem tyEq : TyEq Tryd.prog tab := by unfold TyEq; kernel_rfl
theorem impEq : Bb Tryd.prog tab := impEq_of (by kernel_rfl)
theorem fnEq : FnEq Tryd.prog tab := by unfold FnEq; kernel_rfl
theorem fnChk' : fnChk Tryd.prog tab = true := by kernel_rfl
theorem ngEq : tab.ng = Tryd.prog.globals.size := by kernel_rfl
theorem mixEq : Tryd.prog.follows .mixedOrders = true := by kernel_rfl
theorem pk : ((tl tab.ty 0 1).all fun p => !Tryd.prog.packed p.1 && !Tryd.prog.holdsPacked Tryd.prog.depth p.1) = true := by kernel_rfl
theorem met0 : MetAt2 Tryd.prog 87 "Kind" 97 := fun x w => by kernel_rfl
theorem met1 : qK Tryd.prog 87 "Implements" 111 := fun x w => by kernel_rfl
theorem met2 : qK Tryd.prog 87 "Elem" 110 := fun x w => by kernel_rfl
theorem met3 : qK Tryd.prog 87 "Comparable" 109 := fun x w => by kernel_rfl
theorem met4 : qK Tryd.prog 87 "AssignableTo" 108 := fun x w => by kernel_rfl
theorem met5 : qK Tryd.prog 70 "Unwrap" 103 := fun x w => by kernel_rfl
theorem extChk : ((tl tab.fn 0 1).all fun p => Nat.beq p.2.ext 0 || Nat.beq p.1 36 || Nat.beq p.1 48 || Nat.beq p.1 49 || Nat.beq p.1 50 || Nat.beq p.1 62 || Nat.beq p.1 64 || Nat.beq p.1 65 || Nat.beq p.1 77 || Nat.beq p.1 97 || Nat.beq p.1 108 || Nat.beq p.1 109 || Nat.beq p.1 110 || Nat.beq p.1 111) = true := by kernel_rfl
theorem kd0 : (∀ w, (Rtype.kind 45).run Tryd.prog w = .ok 2 w) ∧ Tryd.prog.packed 45 = false := ⟨fun w => by kernel_rfl, by kernel_rfl⟩
theorem kd1 : (∀ w, (Rtype.kind 61).run Tryd.prog w = .ok 22 w) ∧ Tryd.prog.packed 61 = false := ⟨fun w => by kernel_rfl, by kernel_rfl⟩
theorem kd2 : (∀ w, (Rtype.kind 70).run Tryd.prog w = .ok 25 w) ∧ Tryd.prog.packed 70 = false := ⟨fun w => by kernel_rfl, by kernel_rfl⟩
theorem el0 : (∀ w, (Rtype.elem? 61).run Tryd.prog w = .ok (some 45) w) ∧ Tryd.prog.packed 61 = false := ⟨fun w => by kernel_rfl, by kernel_rfl⟩
theorem asg0 : (∀ w, (ReflectliteType.assignableTo 45 45).run Tryd.prog w = .ok true w) ∧ Tryd.prog.packed 45 = false ∧ Tryd.prog.packed 45 = false := ⟨fun w => by kernel_rfl, by kernel_rfl, by kernel_rfl⟩
theorem asg1 : (∀ w, (ReflectliteType.assignableTo 45 61).run Tryd.prog w = .ok false w) ∧ Tryd.prog.packed 45 = false ∧ Tryd.prog.packed 61 = false := ⟨fun w => by kernel_rfl, by kernel_rfl, by kernel_rfl⟩
theorem asg2 : (∀ w, (ReflectliteType.assignableTo 45 70).run Tryd.prog w = .ok false w) ∧ Tryd.prog.packed 45 = false ∧ Tryd.prog.packed 70 = false := ⟨fun w => by kernel_rfl, by kernel_rfl, by kernel_rfl⟩
theorem asg3 : (∀ w, (ReflectliteType.assignableTo 61 45).run Tryd.prog w = .ok false w) ∧ Tryd.prog.packed 61 = false ∧ Tryd.prog.packed 45 = false := ⟨fun w => by kernel_rfl, by kernel_rfl, by kernel_rfl⟩
theorem asg4 : (∀ w, (ReflectliteType.assignableTo 61 61).run Tryd.prog w = .ok true w) ∧ Tryd.prog.packed 61 = false ∧ Tryd.prog.packed 61 = false := ⟨fun w => by kernel_rfl, by kernel_rfl, by kernel_rfl⟩
theorem asg5 : (∀ w, (ReflectliteType.assignableTo 61 70).run Tryd.prog w = .ok false w) ∧ Tryd.prog.packed 61 = false ∧ Tryd.prog.packed 70 = false := ⟨fun w => by kernel_rfl, by kernel_rfl, by kernel_rfl⟩
theorem asg6 : (∀ w, (ReflectliteType.assignableTo 70 45).run Tryd.prog w = .ok false w) ∧ Tryd.prog.packed 70 = false ∧ Tryd.prog.packed 45 = false := ⟨fun w => by kernel_rfl, by kernel_rfl, by kernel_rfl⟩
theorem asg7 : (∀ w, (ReflectliteType.assignableTo 70 61).run Tryd.prog w = .ok false w) ∧ Tryd.prog.packed 70 = false ∧ Tryd.prog.packed 61 = false := ⟨fun w => by kernel_rfl, by kernel_rfl, by kernel_rfl⟩
theorem asg8 : (∀ w, (ReflectliteType.assignableTo 70 70).run Tryd.prog w = .ok true w) ∧ Tryd.prog.packed 70 = false ∧ Tryd.prog.packed 70 = false := ⟨fun w => by kernel_rfl, by kernel_rfl, by kernel_rfl⟩
theorem imq0 : (∀ w, (ReflectliteType.implements_ 29 45).run Tryd.prog w = .ok true w) ∧ Tryd.prog.packed 29 = false ∧ Tryd.prog.packed 45 = false := ⟨fun w => by kernel_rfl, by kernel_rfl, by kernel_rfl⟩
theorem imq1 : (∀ w, (ReflectliteType.implements_ 29 61).run Tryd.prog w = .ok true w) ∧ Tryd.prog.packed 29 = false ∧ Tryd.prog.packed 61 = false := ⟨fun w => by kernel_rfl, by kernel_rfl, by kernel_rfl⟩
theorem imq2 : (∀ w, (ReflectliteType.implements_ 29 70).run Tryd.prog w = .ok true w) ∧ Tryd.prog.packed 29 = false ∧ Tryd.prog.packed 70 = false := ⟨fun w => by kernel_rfl, by kernel_rfl, by kernel_rfl⟩
theorem jW : jD Tryd.prog tab where
  kd := fun t k h => by
    have h' := Iw _ t k h
    have h' : (t, k) ∈ kds := h'
    simp only [kds, List.mem_cons, List.not_mem_nil, or_false, Prod.mk.injEq] at h'
    rcases h' with ⟨rfl, rfl⟩ | ⟨rfl, rfl⟩ | ⟨rfl, rfl⟩
    · exact kd0
    · exact kd1
    · exact kd2
  el := fun t e h => by
    have h' := Iw _ t e h
    have h' : (t, e) ∈ els := h'
    simp only [els, List.mem_cons, List.not_mem_nil, or_false, Prod.mk.injEq] at h'
    obtain ⟨rfl, rfl⟩ := h'
    exact el0
  eH := fun u t r h => by
    have h' := y5 _ u t r h
    have h' : (u, t, r) ∈ asgs := h'
    simp only [asgs, List.mem_cons, List.not_mem_nil, or_false, Prod.mk.injEq] at h'
    rcases h' with ⟨rfl, rfl, rfl⟩ | ⟨rfl, rfl, rfl⟩ | ⟨rfl, rfl, rfl⟩ | ⟨rfl, rfl, rfl⟩ | ⟨rfl, rfl, rfl⟩ | ⟨rfl, rfl, rfl⟩ | ⟨rfl, rfl, rfl⟩ | ⟨rfl, rfl, rfl⟩ | ⟨rfl, rfl, rfl⟩
    · exact asg0
    · exact asg1
    · exact asg2
    · exact asg3
    · exact asg4
    · exact asg5
    · exact asg6
    · exact asg7
    · exact asg8
  im2 := fun u t r h => by
    have h' := y5 _ u t r h
    have h' : (u, t, r) ∈ im2s := h'
    simp only [im2s, List.mem_cons, List.not_mem_nil, or_false, Prod.mk.injEq] at h'
    rcases h' with ⟨rfl, rfl, rfl⟩ | ⟨rfl, rfl, rfl⟩ | ⟨rfl, rfl, rfl⟩
    · exact imq0
    · exact imq1
    · exact imq2
  ty := fun t w => by kernel_rfl
section
variable (nu : Nat → Value) (one : ∀ i, i < 1000000 → (nu i).oneCell' = true) (bU : Nat) (inv : World → Prop) (cJ : ∀ w w' : World, (∀ k, k < bU → w'.heap[k]? = w.heap[k]?) → inv w → inv w')
noncomputable def cx : Cx := ⟨Tryd.prog, nu, one, bU, inv, cJ⟩
theorem qR : TyOk Tryd.prog tab := ⟨fun t ti h => by
  have := ry tyEq _ (nf h)
  simp only [] at this
  cases hi : Tryd.prog.info? t with
  | none => rw [hi] at this; cases this
  | some i => rw [hi] at this; injection this with this; exact ⟨i, rfl, this⟩⟩
theorem fh {g : Nat} {fi : FI} {fn fn' : Func} {e : Nat} {C : Cx} {tb : Tab} (h : tb.fn.get g = some fi) (hf : C.P.funcs[g]? = some fn) (h1 : (tb.fn.get g).map (·.ext) = some e) (h2 : C.P.funcs[g]? = some fn') (hx : cZ C tb e fn') : fi.ext = 0 ∨ cZ C tb fi.ext fn := by
  rw [h] at h1
  simp only [Option.map_some, Option.some.injEq] at h1
  rw [h2] at hf; injection hf with hf
  subst hf; subst h1; exact .inr hx
theorem x36 : cZ (cx nu one bU inv cJ) tab 5 Tryd.f36 := ext5_ok (by kernel_rfl) (by kernel_rfl) (fun t w => by kernel_rfl)
theorem x48 : cZ (cx nu one bU inv cJ) tab 7 Tryd.f48 := ext7_ok qR jW (by kernel_rfl) (by kernel_rfl)
theorem x49 : cZ (cx nu one bU inv cJ) tab 8 Tryd.f49 := ext8_ok jW (by kernel_rfl) (by kernel_rfl)
theorem x50 : cZ (cx nu one bU inv cJ) tab 9 Tryd.f50 := ext9_ok qR jW (by kernel_rfl) (by kernel_rfl)
theorem x62 : cZ (cx nu one bU inv cJ) tab 1 Tryd.f62 := ext1_ok (by kernel_rfl) (by kernel_rfl)
theorem x64 : cZ (cx nu one bU inv cJ) tab 14 Tryd.f64 := ext14_ok qR jW (by kernel_rfl) (by kernel_rfl)
theorem x65 : cZ (cx nu one bU inv cJ) tab 15 Tryd.f65 := ext15_ok qR jW (by kernel_rfl) (by kernel_rfl)
theorem x77 : cZ (cx nu one bU inv cJ) tab 3 Tryd.f77 := ext3_ok (by kernel_rfl) (by kernel_rfl)
theorem x97 : cZ (cx nu one bU inv cJ) tab 10 Tryd.f97 := ext10_ok jW (by kernel_rfl) (by kernel_rfl)
theorem x108 : cZ (cx nu one bU inv cJ) tab 13 Tryd.f108 := ext13_ok jW (by kernel_rfl) (by kernel_rfl)
theorem x109 : cZ (cx nu one bU inv cJ) tab 6 Tryd.f109 := ext6_ok qR (by kernel_rfl) (by kernel_rfl) pk
theorem x110 : cZ (cx nu one bU inv cJ) tab 11 Tryd.f110 := ext11_ok jW (by kernel_rfl) (by kernel_rfl)
theorem x111 : cZ (cx nu one bU inv cJ) tab 12 Tryd.f111 := ext12_ok jW (by kernel_rfl) (by kernel_rfl)
theorem tabOk : ar (cx nu one bU inv cJ) tab := allOk' tyEq impEq ngEq rfl fnEq fnChk'
  (fun t m g d h => by
    have h' : (t, m, g, d) ∈ mets := h
    simp only [mets, List.mem_cons, List.not_mem_nil, or_false, Prod.mk.injEq] at h'
    rcases h' with ⟨rfl, rfl, rfl, rfl⟩ | ⟨rfl, rfl, rfl, rfl⟩ | ⟨rfl, rfl, rfl, rfl⟩ | ⟨rfl, rfl, rfl, rfl⟩ | ⟨rfl, rfl, rfl, rfl⟩ | ⟨rfl, rfl, rfl, rfl⟩
    · exact .inr ⟨rfl, met0⟩
    · exact .inl ⟨rfl, met1⟩
    · exact .inl ⟨rfl, met2⟩
    · exact .inl ⟨rfl, met3⟩
    · exact .inl ⟨rfl, met4⟩
    · exact .inl ⟨rfl, met5⟩)
  mixEq
  (fun g fi fn h hf hb => by
    have hc := List.all_eq_true.1 extChk _ (nf h)
    simp only [Bool.or_eq_true] at hc
    rcases hc with (((((((((((((hc | hc) | hc) | hc) | hc) | hc) | hc) | hc) | hc) | hc) | hc) | hc) | hc) | hc)
    · exact .inl (Nat.eq_of_beq_eq_true hc)
    all_goals have hg := Nat.eq_of_beq_eq_true hc; subst hg
    · exact fh h hf (by kernel_rfl) Tryd.func36 (x36 nu one bU inv cJ)
    · exact fh h hf (by kernel_rfl) Tryd.func48 (x48 nu one bU inv cJ)
    · exact fh h hf (by kernel_rfl) Tryd.func49 (x49 nu one bU inv cJ)
    · exact fh h hf (by kernel_rfl) Tryd.func50 (x50 nu one bU inv cJ)
    · exact fh h hf (by kernel_rfl) Tryd.func62 (x62 nu one bU inv cJ)
    · exact fh h hf (by kernel_rfl) Tryd.func64 (x64 nu one bU inv cJ)
    · exact fh h hf (by kernel_rfl) Tryd.func65 (x65 nu one bU inv cJ)
    · exact fh h hf (by kernel_rfl) Tryd.func77 (x77 nu one bU inv cJ)
    · exact fh h hf (by kernel_rfl) Tryd.func97 (x97 nu one bU inv cJ)
    · exact fh h hf (by kernel_rfl) Tryd.func108 (x108 nu one bU inv cJ)
    · exact fh h hf (by kernel_rfl) Tryd.func109 (x109 nu one bU inv cJ)
    · exact fh h hf (by kernel_rfl) Tryd.func110 (x110 nu one bU inv cJ)
    · exact fh h hf (by kernel_rfl) Tryd.func111 (x111 nu one bU inv cJ))
end
end Go.Proofs.YtjkdkpdjmapieaaDoor
