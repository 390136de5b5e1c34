/- A part of the proof: what an interpreter answers on partly known states is what the program answers. No condition. -/
import Derived.Test.YtngkglegomkjkaaDoorTabV1
import Derived.Test.YtngkglegomkjkaaDoorHXpart4
import Derived.KernelRfl
set_option maxRecDepth 100000
set_option linter.unusedVariables false
set_option linter.unusedSimpArgs false
namespace Go.Proofs.YtngkglegomkjkaaDoor
open Go Go.AX Go.Proofs Go.Extern
theorem tyEq : TyEq Tryd.prog tab := by unfold TyEq; kernel_rfl
theorem impEq : BD Tryd.prog tab := impEq_of (by kernel_rfl)
theorem fnEq : FnEq Tryd.prog tab := by unfold FnEq; kernel_rfl
theorem fnChk' : fnChk Tryd.prog tab = true := by kernel_rfl
theorem ngEq : tab.ng = Tryd.prog.globals.size := by kernel_rfl
theorem mixEq : Tryd.prog.follows .mixedOrders = true := by kernel_rfl
theorem pk : ((tl tab.ty 0 1).all fun p => !Tryd.prog.packed p.1 && !Tryd.prog.holdsPacked Tryd.prog.depth p.1) = true := by kernel_rfl
theorem extChk : ((tl tab.fn 0 1).all fun p => Nat.beq p.2.ext 0 || Nat.beq p.1 50) = true := by kernel_rfl
section
variable (nu : Nat → Value) (one : ∀ i, i < 1000000 → (nu i).oneCell' = true) (cE : Nat) (inv : World → Prop) (fx : ∀ w w' : World, (∀ k, k < cE → w'.heap[k]? = w.heap[k]?) → inv w → inv w')
noncomputable def cx : Cx := ⟨Tryd.prog, nu, one, cE, inv, fx⟩
theorem tyOk : TyOk Tryd.prog tab := ⟨fun t ti h => by
 have := qT tyEq _ (pZ h)
 simp only [] at this
 cases hi : Tryd.prog.info? t with
 | none => rw [hi] at this; cases this
 | some i => rw [hi] at this; injection this with this; exact ⟨i, rfl, this⟩⟩
theorem extAt {g : Nat} {fi : FI} {fn fn' : Func} {e : Nat} {C : Cx} {tb : Tab} (h : tb.fn.get g = some fi) (hf : C.P.funcs[g]? = some fn) (h1 : (tb.fn.get g).map (·.ext) = some e) (h2 : C.P.funcs[g]? = some fn') (hx : pQ C tb e fn') : fi.ext = 0 ∨ pQ C tb fi.ext fn := by
 rw [h] at h1
 simp only [Option.map_some, Option.some.injEq] at h1
 rw [h2] at hf; injection hf with hf
 subst hf; subst h1; exact .inr hx
theorem x50 : pQ (cx nu one cE inv fx) tab 1 Tryd.f50 := ext1_ok (by kernel_rfl) (by kernel_rfl)
theorem tabOk : bM (cx nu one cE inv fx) tab := allOk' tyEq impEq ngEq rfl fnEq fnChk'
 (fun t m g d h => by
   have h' : (t, m, g, d) ∈ mets := h
   simp only [mets, List.mem_cons, List.not_mem_nil, or_false, Prod.mk.injEq] at h'
   all_goals exact h'.elim
)
 mixEq
 (fun g fi fn h hf hb => by
   have hc := List.all_eq_true.1 extChk _ (pZ h)
   simp only [Bool.or_eq_true] at hc
   rcases hc with (hc | hc)
   ·exact .inl (Nat.eq_of_beq_eq_true hc)
   all_goals have hg := Nat.eq_of_beq_eq_true hc; subst hg
   ·exact extAt h hf (by kernel_rfl) Tryd.func50 (x50 nu one cE inv fx))
end
end Go.Proofs.YtngkglegomkjkaaDoor
