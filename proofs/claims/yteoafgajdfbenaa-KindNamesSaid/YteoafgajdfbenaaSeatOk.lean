/- A part of the proof: an interpreter of the model's own code on partly known states, and that what it answers is what the program answers. No condition of its own. -/
import Derived.Test.YteoafgajdfbenaaTabA
import Derived.Test.YteoafgajdfbenaaAXzi
import Derived.KernelRfl
set_option maxRecDepth 100000
namespace Go.Proofs.Yteoafgajdfbenaa
open Go Go.AX Go.Proofs
theorem tyEq : TyEq Try.prog tab := by unfold TyEq; kernel_rfl
theorem impEq : ImpEq Try.prog tab := impEq_of (by kernel_rfl)
theorem fnEq : FnEq Try.prog tab := by unfold FnEq; kernel_rfl
theorem fnChk' : fnChk Try.prog tab = true := by kernel_rfl
theorem ngEq : tab.ng = Try.prog.globals.size := by kernel_rfl
theorem mixEq : Try.prog.follows .mixedOrders = true := by kernel_rfl
theorem met0 : MetAt Try.prog 76 "Comparable" 63 := fun x w => by kernel_rfl
theorem met1 : MetAt Try.prog 74 "Unwrap" 59 := fun x w => by kernel_rfl
theorem extChk : ((tl tab.fn 0 1).all fun p => Nat.beq p.2.ext 0 || Nat.beq p.1 63 || Nat.beq p.1 23 || Nat.beq p.1 39 || Nat.beq p.1 40) = true := by kernel_rfl
theorem pk : ((tl tab.ty 0 1).all fun p => !Try.prog.packed p.1 && !Try.prog.holdsPacked Try.prog.depth p.1) = true := by kernel_rfl
section
variable (nu : Nat → Value) (one : ∀ i, (nu i).oneCell' = true)
noncomputable def cx : Cx := ⟨Try.prog, nu, one⟩
theorem tyOk : TyOk Try.prog tab := ⟨fun t ti h => by
  have := map_at tyEq _ (tl_get h)
  simp only [] at this
  cases hi : Try.prog.info? t with
  | none => rw [hi] at this; cases this
  | some i => rw [hi] at this; injection this with this; exact ⟨i, rfl, this⟩⟩
theorem x63 : ExtOk (cx nu one) tab 6 Try.f63 := ext6_ok tyOk (by kernel_rfl) (by kernel_rfl) pk
theorem x23 : ExtOk (cx nu one) tab 5 Try.f23 := ext5_ok (by kernel_rfl) (by kernel_rfl) (fun t w => by kernel_rfl)
theorem x39 : ExtOk (cx nu one) tab 1 Try.f39 := ext1_ok (by kernel_rfl) (by kernel_rfl)
theorem x40 : ExtOk (cx nu one) tab 2 Try.f40 := ext2_ok (ps := Try.f40.params) (rs := Try.f40.resultTypes) (t := Try.f40.resultTypes.getD 0 0) (by kernel_rfl) (by kernel_rfl) (by kernel_rfl) (by kernel_rfl)
theorem extAt {g : Nat} {fi : FI} {fn fn' : Func} {e : Nat} {C : Cx} {tb : Tab} (h : tb.fn.get g = some fi) (hf : C.P.funcs[g]? = some fn) (h1 : (tb.fn.get g).map (·.ext) = some e) (h2 : C.P.funcs[g]? = some fn') (hx : ExtOk C tb e fn') : fi.ext = 0 ∨ ExtOk C tb fi.ext fn := by
  rw [h] at h1
  simp only [Option.map_some, Option.some.injEq] at h1
  rw [h2] at hf; injection hf with hf
  subst hf; subst h1; exact .inr hx
theorem tabOk : AllOk (cx nu one) tab := allOk tyEq impEq ngEq rfl fnEq fnChk'
  (fun t m g d h => by
    have h' : (t, m, g, d) ∈ mets := h
    simp only [mets, List.mem_cons, List.not_mem_nil, or_false, Prod.mk.injEq] at h'
    rcases h' with ⟨rfl, rfl, rfl, rfl⟩ | ⟨rfl, rfl, rfl, rfl⟩
    · exact ⟨rfl, met0⟩
    · exact ⟨rfl, met1⟩)
  mixEq
  (fun g fi fn h hf hb => by
    have hc := List.all_eq_true.1 extChk _ (tl_get h)
    simp only [Bool.or_eq_true] at hc
    rcases hc with (((hc | hc) | hc) | hc) | hc
    · exact .inl (Nat.eq_of_beq_eq_true hc)
    all_goals have hg := Nat.eq_of_beq_eq_true hc; subst hg
    · exact extAt h hf (by kernel_rfl) Try.func63 (x63 nu one)
    · exact extAt h hf (by kernel_rfl) Try.func23 (x23 nu one)
    · exact extAt h hf (by kernel_rfl) Try.func39 (x39 nu one)
    · exact extAt h hf (by kernel_rfl) Try.func40 (x40 nu one))
end
end Go.Proofs.Yteoafgajdfbenaa
