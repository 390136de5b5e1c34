/- A part of the proof: an interpreter of the model's own code on partly known states, and that what it answers is what the program answers. No condition of its own. -/
import Derived.Test.YtpccllhgbbpocaaDoorTabD
import Derived.Test.YtpccllhgbbpocaaDoorCX
import Derived.KernelRfl
set_option maxRecDepth 100000
set_option linter.unusedVariables false
namespace Go.Proofs.YtpccllhgbbpocaaDoor
open Go Go.AX Go.Proofs Go.Extern
theorem tyEq : TyEq Tryd.prog tab := by unfold TyEq; kernel_rfl
theorem impEq : ImpEq Tryd.prog tab := impEq_of (by kernel_rfl)
theorem fnEq : FnEq Tryd.prog tab := by unfold FnEq; kernel_rfl
theorem fnChk' : fnChk Tryd.prog tab = true := by kernel_rfl
theorem ngEq : tab.ng = Tryd.prog.globals.size := by kernel_rfl
theorem mixEq : Tryd.prog.follows .mixedOrders = true := by kernel_rfl
theorem pk : ((tl tab.ty 0 1).all fun p => !Tryd.prog.packed p.1 && !Tryd.prog.holdsPacked Tryd.prog.depth p.1) = true := by kernel_rfl
theorem met0 : MetAt2 Tryd.prog 142 "Kind" 208 := fun x w => by kernel_rfl
theorem met1 : MetAt Tryd.prog 142 "Implements" 223 := fun x w => by kernel_rfl
theorem met2 : MetAt Tryd.prog 142 "Elem" 222 := fun x w => by kernel_rfl
theorem met3 : MetAt Tryd.prog 142 "Comparable" 221 := fun x w => by kernel_rfl
theorem met4 : MetAt Tryd.prog 142 "AssignableTo" 220 := fun x w => by kernel_rfl
theorem met5 : MetAt Tryd.prog 130 "Unwrap" 215 := fun x w => by kernel_rfl
theorem extChk : ((tl tab.fn 0 1).all fun p => Nat.beq p.2.ext 0 || Nat.beq p.1 45 || Nat.beq p.1 82 || Nat.beq p.1 83 || Nat.beq p.1 84 || Nat.beq p.1 109 || Nat.beq p.1 110 || Nat.beq p.1 111 || Nat.beq p.1 143 || Nat.beq p.1 152 || Nat.beq p.1 189 || Nat.beq p.1 208 || Nat.beq p.1 220 || Nat.beq p.1 221 || Nat.beq p.1 222 || Nat.beq p.1 223) = true := by kernel_rfl
theorem kd0 : (∀ w, (Rtype.kind 36).run Tryd.prog w = .ok 2 w) ∧ Tryd.prog.packed 36 = false := ⟨fun w => by kernel_rfl, by kernel_rfl⟩
theorem kd1 : (∀ w, (Rtype.kind 82).run Tryd.prog w = .ok 22 w) ∧ Tryd.prog.packed 82 = false := ⟨fun w => by kernel_rfl, by kernel_rfl⟩
theorem kd2 : (∀ w, (Rtype.kind 130).run Tryd.prog w = .ok 25 w) ∧ Tryd.prog.packed 130 = false := ⟨fun w => by kernel_rfl, by kernel_rfl⟩
theorem el0 : (∀ w, (Rtype.elem? 82).run Tryd.prog w = .ok (some 36) w) ∧ Tryd.prog.packed 82 = false := ⟨fun w => by kernel_rfl, by kernel_rfl⟩
theorem asg0 : (∀ w, (ReflectliteType.assignableTo 36 36).run Tryd.prog w = .ok true w) ∧ Tryd.prog.packed 36 = false ∧ Tryd.prog.packed 36 = false := ⟨fun w => by kernel_rfl, by kernel_rfl, by kernel_rfl⟩
theorem asg1 : (∀ w, (ReflectliteType.assignableTo 36 82).run Tryd.prog w = .ok false w) ∧ Tryd.prog.packed 36 = false ∧ Tryd.prog.packed 82 = false := ⟨fun w => by kernel_rfl, by kernel_rfl, by kernel_rfl⟩
theorem asg2 : (∀ w, (ReflectliteType.assignableTo 36 130).run Tryd.prog w = .ok false w) ∧ Tryd.prog.packed 36 = false ∧ Tryd.prog.packed 130 = false := ⟨fun w => by kernel_rfl, by kernel_rfl, by kernel_rfl⟩
theorem asg3 : (∀ w, (ReflectliteType.assignableTo 82 36).run Tryd.prog w = .ok false w) ∧ Tryd.prog.packed 82 = false ∧ Tryd.prog.packed 36 = false := ⟨fun w => by kernel_rfl, by kernel_rfl, by kernel_rfl⟩
theorem asg4 : (∀ w, (ReflectliteType.assignableTo 82 82).run Tryd.prog w = .ok true w) ∧ Tryd.prog.packed 82 = false ∧ Tryd.prog.packed 82 = false := ⟨fun w => by kernel_rfl, by kernel_rfl, by kernel_rfl⟩
theorem asg5 : (∀ w, (ReflectliteType.assignableTo 82 130).run Tryd.prog w = .ok false w) ∧ Tryd.prog.packed 82 = false ∧ Tryd.prog.packed 130 = false := ⟨fun w => by kernel_rfl, by kernel_rfl, by kernel_rfl⟩
theorem asg6 : (∀ w, (ReflectliteType.assignableTo 130 36).run Tryd.prog w = .ok false w) ∧ Tryd.prog.packed 130 = false ∧ Tryd.prog.packed 36 = false := ⟨fun w => by kernel_rfl, by kernel_rfl, by kernel_rfl⟩
theorem asg7 : (∀ w, (ReflectliteType.assignableTo 130 82).run Tryd.prog w = .ok false w) ∧ Tryd.prog.packed 130 = false ∧ Tryd.prog.packed 82 = false := ⟨fun w => by kernel_rfl, by kernel_rfl, by kernel_rfl⟩
theorem asg8 : (∀ w, (ReflectliteType.assignableTo 130 130).run Tryd.prog w = .ok true w) ∧ Tryd.prog.packed 130 = false ∧ Tryd.prog.packed 130 = false := ⟨fun w => by kernel_rfl, by kernel_rfl, by kernel_rfl⟩
theorem imq0 : (∀ w, (ReflectliteType.implements_ 30 36).run Tryd.prog w = .ok true w) ∧ Tryd.prog.packed 30 = false ∧ Tryd.prog.packed 36 = false := ⟨fun w => by kernel_rfl, by kernel_rfl, by kernel_rfl⟩
theorem imq1 : (∀ w, (ReflectliteType.implements_ 30 82).run Tryd.prog w = .ok true w) ∧ Tryd.prog.packed 30 = false ∧ Tryd.prog.packed 82 = false := ⟨fun w => by kernel_rfl, by kernel_rfl, by kernel_rfl⟩
theorem imq2 : (∀ w, (ReflectliteType.implements_ 30 130).run Tryd.prog w = .ok true w) ∧ Tryd.prog.packed 30 = false ∧ Tryd.prog.packed 130 = false := ⟨fun w => by kernel_rfl, by kernel_rfl, by kernel_rfl⟩
theorem rfOk : RfOk Tryd.prog tab where
  kd := fun t k h => by
    have h' := assocN_mem _ t k h
    have h' : (t, k) ∈ kds := h'
    simp only [kds, List.mem_cons, List.not_mem_nil, or_false, Prod.mk.injEq] at h'
    rcases h' with ⟨rfl, rfl⟩ | ⟨rfl, rfl⟩ | ⟨rfl, rfl⟩
    · exact kd0
    · exact kd1
    · exact kd2
  el := fun t e h => by
    have h' := assocN_mem _ t e h
    have h' : (t, e) ∈ els := h'
    simp only [els, List.mem_cons, List.not_mem_nil, or_false, Prod.mk.injEq] at h'
    obtain ⟨rfl, rfl⟩ := h'
    exact el0
  asg := fun u t r h => by
    have h' := impl_mem _ u t r h
    have h' : (u, t, r) ∈ asgs := h'
    simp only [asgs, List.mem_cons, List.not_mem_nil, or_false, Prod.mk.injEq] at h'
    rcases h' with ⟨rfl, rfl, rfl⟩ | ⟨rfl, rfl, rfl⟩ | ⟨rfl, rfl, rfl⟩ | ⟨rfl, rfl, rfl⟩ | ⟨rfl, rfl, rfl⟩ | ⟨rfl, rfl, rfl⟩ | ⟨rfl, rfl, rfl⟩ | ⟨rfl, rfl, rfl⟩ | ⟨rfl, rfl, rfl⟩
    · exact asg0
    · exact asg1
    · exact asg2
    · exact asg3
    · exact asg4
    · exact asg5
    · exact asg6
    · exact asg7
    · exact asg8
  im2 := fun u t r h => by
    have h' := impl_mem _ u t r h
    have h' : (u, t, r) ∈ im2s := h'
    simp only [im2s, List.mem_cons, List.not_mem_nil, or_false, Prod.mk.injEq] at h'
    rcases h' with ⟨rfl, rfl, rfl⟩ | ⟨rfl, rfl, rfl⟩ | ⟨rfl, rfl, rfl⟩
    · exact imq0
    · exact imq1
    · exact imq2
  ty := fun t w => by kernel_rfl
section
variable (nu : Nat → Value) (one : ∀ i, (nu i).oneCell' = true) (nst : Nat) (inv : World → Prop) (stab : ∀ w w' : World, (∀ k, k < nst → w'.heap[k]? = w.heap[k]?) → inv w → inv w')
noncomputable def cx : Cx := ⟨Tryd.prog, nu, one, nst, inv, stab⟩
theorem tyOk : TyOk Tryd.prog tab := ⟨fun t ti h => by
  have := map_at tyEq _ (tl_get h)
  simp only [] at this
  cases hi : Tryd.prog.info? t with
  | none => rw [hi] at this; cases this
  | some i => rw [hi] at this; injection this with this; exact ⟨i, rfl, this⟩⟩
theorem extAt {g : Nat} {fi : FI} {fn fn' : Func} {e : Nat} {C : Cx} {tb : Tab} (h : tb.fn.get g = some fi) (hf : C.P.funcs[g]? = some fn) (h1 : (tb.fn.get g).map (·.ext) = some e) (h2 : C.P.funcs[g]? = some fn') (hx : ExtOk C tb e fn') : fi.ext = 0 ∨ ExtOk C tb fi.ext fn := by
  rw [h] at h1
  simp only [Option.map_some, Option.some.injEq] at h1
  rw [h2] at hf; injection hf with hf
  subst hf; subst h1; exact .inr hx
theorem x45 : ExtOk (cx nu one nst inv stab) tab 5 Tryd.f45 := ext5_ok (by kernel_rfl) (by kernel_rfl) (fun t w => by kernel_rfl)
theorem x82 : ExtOk (cx nu one nst inv stab) tab 7 Tryd.f82 := ext7_ok tyOk rfOk (by kernel_rfl) (by kernel_rfl)
theorem x83 : ExtOk (cx nu one nst inv stab) tab 8 Tryd.f83 := ext8_ok rfOk (by kernel_rfl) (by kernel_rfl)
theorem x84 : ExtOk (cx nu one nst inv stab) tab 9 Tryd.f84 := ext9_ok tyOk rfOk (by kernel_rfl) (by kernel_rfl)
theorem x109 : ExtOk (cx nu one nst inv stab) tab 1 Tryd.f109 := ext1_ok (by kernel_rfl) (by kernel_rfl)
theorem x110 : ExtOk (cx nu one nst inv stab) tab 14 Tryd.f110 := ext14_ok tyOk rfOk (by kernel_rfl) (by kernel_rfl)
theorem x111 : ExtOk (cx nu one nst inv stab) tab 15 Tryd.f111 := ext15_ok tyOk rfOk (by kernel_rfl) (by kernel_rfl)
theorem x143 : ExtOk (cx nu one nst inv stab) tab 3 Tryd.f143 := ext3_ok (by kernel_rfl) (by kernel_rfl)
theorem x152 : ExtOk (cx nu one nst inv stab) tab 4 Tryd.f152 := ext4_ok (by kernel_rfl) (by kernel_rfl)
theorem x189 : ExtOk (cx nu one nst inv stab) tab 2 Tryd.f189 := ext2_ok (ps := Tryd.f189.params) (rs := Tryd.f189.resultTypes) (t := Tryd.f189.resultTypes.getD 0 0) (by kernel_rfl) (by kernel_rfl) (by kernel_rfl) (by kernel_rfl)
theorem x208 : ExtOk (cx nu one nst inv stab) tab 10 Tryd.f208 := ext10_ok rfOk (by kernel_rfl) (by kernel_rfl)
theorem x220 : ExtOk (cx nu one nst inv stab) tab 13 Tryd.f220 := ext13_ok rfOk (by kernel_rfl) (by kernel_rfl)
theorem x221 : ExtOk (cx nu one nst inv stab) tab 6 Tryd.f221 := ext6_ok tyOk (by kernel_rfl) (by kernel_rfl) pk
theorem x222 : ExtOk (cx nu one nst inv stab) tab 11 Tryd.f222 := ext11_ok rfOk (by kernel_rfl) (by kernel_rfl)
theorem x223 : ExtOk (cx nu one nst inv stab) tab 12 Tryd.f223 := ext12_ok rfOk (by kernel_rfl) (by kernel_rfl)
theorem tabOk : AllOk (cx nu one nst inv stab) tab := allOk' tyEq impEq ngEq rfl fnEq fnChk'
  (fun t m g d h => by
    have h' : (t, m, g, d) ∈ mets := h
    simp only [mets, List.mem_cons, List.not_mem_nil, or_false, Prod.mk.injEq] at h'
    rcases h' with ⟨rfl, rfl, rfl, rfl⟩ | ⟨rfl, rfl, rfl, rfl⟩ | ⟨rfl, rfl, rfl, rfl⟩ | ⟨rfl, rfl, rfl, rfl⟩ | ⟨rfl, rfl, rfl, rfl⟩ | ⟨rfl, rfl, rfl, rfl⟩
    · exact .inr ⟨rfl, met0⟩
    · exact .inl ⟨rfl, met1⟩
    · exact .inl ⟨rfl, met2⟩
    · exact .inl ⟨rfl, met3⟩
    · exact .inl ⟨rfl, met4⟩
    · exact .inl ⟨rfl, met5⟩)
  mixEq
  (fun g fi fn h hf hb => by
    have hc := List.all_eq_true.1 extChk _ (tl_get h)
    simp only [Bool.or_eq_true] at hc
    rcases hc with (((((((((((((((hc | hc) | hc) | hc) | hc) | hc) | hc) | hc) | hc) | hc) | hc) | hc) | hc) | hc) | hc) | hc)
    · exact .inl (Nat.eq_of_beq_eq_true hc)
    all_goals have hg := Nat.eq_of_beq_eq_true hc; subst hg
    · exact extAt h hf (by kernel_rfl) Tryd.func45 (x45 nu one nst inv stab)
    · exact extAt h hf (by kernel_rfl) Tryd.func82 (x82 nu one nst inv stab)
    · exact extAt h hf (by kernel_rfl) Tryd.func83 (x83 nu one nst inv stab)
    · exact extAt h hf (by kernel_rfl) Tryd.func84 (x84 nu one nst inv stab)
    · exact extAt h hf (by kernel_rfl) Tryd.func109 (x109 nu one nst inv stab)
    · exact extAt h hf (by kernel_rfl) Tryd.func110 (x110 nu one nst inv stab)
    · exact extAt h hf (by kernel_rfl) Tryd.func111 (x111 nu one nst inv stab)
    · exact extAt h hf (by kernel_rfl) Tryd.func143 (x143 nu one nst inv stab)
    · exact extAt h hf (by kernel_rfl) Tryd.func152 (x152 nu one nst inv stab)
    · exact extAt h hf (by kernel_rfl) Tryd.func189 (x189 nu one nst inv stab)
    · exact extAt h hf (by kernel_rfl) Tryd.func208 (x208 nu one nst inv stab)
    · exact extAt h hf (by kernel_rfl) Tryd.func220 (x220 nu one nst inv stab)
    · exact extAt h hf (by kernel_rfl) Tryd.func221 (x221 nu one nst inv stab)
    · exact extAt h hf (by kernel_rfl) Tryd.func222 (x222 nu one nst inv stab)
    · exact extAt h hf (by kernel_rfl) Tryd.func223 (x223 nu one nst inv stab))
end
end Go.Proofs.YtpccllhgbbpocaaDoor
