/- A part of the proof: an interpreter of the model's own code on partly known states, and that what it answers is what the program answers. No condition of its own. -/
import Derived.Test.YtojgdbbjblaalaaDoorAXze
set_option linter.unusedSimpArgs false
set_option linter.unusedVariables false
namespace Go.AX
open Go.RowKit (Below)
/-- what a tree holds, with the numbers -/
def tl {α : Type} : T α → Nat → Nat → List (Nat × α)
  | .leaf, _, _ => []
  | .node v l r, s, m => (match v with | some x => [(s, x)] | none => []) ++ (tl l (Nat.add s m) (Nat.mul 2 m) ++ tl r (Nat.add s (Nat.mul 2 m)) (Nat.mul 2 m))
theorem tl_mem {α : Type} : ∀ (t : T α) (s m n : Nat) (x : α), t.get n = some x → (s + m * n, x) ∈ tl t s m
  | .leaf, s, m, n, x, h => by simp [T.get_leaf] at h
  | .node v l r, s, m, n, x, h => by
    rw [T.get_node] at h
    unfold tl
    by_cases h0 : n = 0
    · subst h0
      simp only [Nat.beq_refl, cond_true] at h
      subst h
      simp
    · have e0 : Nat.beq n 0 = false := by
        cases hb : Nat.beq n 0 with
        | false => rfl
        | true => exact absurd (Nat.eq_of_beq_eq_true hb) h0
      rw [e0, cond_false] at h
      have hmd : Nat.mod n 2 = n % 2 := rfl
      have hdv : Nat.div n 2 = n / 2 := rfl
      rw [hmd, hdv] at h
      refine List.mem_append_right _ ?_
      cases hm : Nat.beq (n % 2) 1 with
      | true =>
        rw [hm, cond_true] at h
        have h1 := Nat.eq_of_beq_eq_true hm
        refine List.mem_append_left _ ?_
        have := tl_mem l (Nat.add s m) (Nat.mul 2 m) (n / 2) x h
        have e : Nat.add s m + Nat.mul 2 m * (n / 2) = s + m * n := by
          show s + m + 2 * m * (n / 2) = _
          have : n = 2 * (n / 2) + 1 := by omega
          generalize n / 2 = q at this
          subst this
          rw [Nat.mul_add, Nat.mul_one, ← Nat.mul_assoc, Nat.mul_comm 2 m]; omega
        rw [e] at this; exact this
      | false =>
        rw [hm, cond_false] at h
        have h1 : n % 2 = 0 := by
          have : n % 2 ≠ 1 := fun e => by rw [e] at hm; cases hm
          omega
        have hsb : Nat.sub (n / 2) 1 = n / 2 - 1 := rfl
        rw [hsb] at h
        refine List.mem_append_right _ ?_
        have := tl_mem r (Nat.add s (Nat.mul 2 m)) (Nat.mul 2 m) (n / 2 - 1) x h
        have e : Nat.add s (Nat.mul 2 m) + Nat.mul 2 m * (n / 2 - 1) = s + m * n := by
          show s + 2 * m + 2 * m * (n / 2 - 1) = _
          have : n = 2 * (n / 2 - 1) + 2 := by omega
          generalize n / 2 - 1 = q at this
          subst this
          rw [Nat.mul_add, ← Nat.mul_assoc, Nat.mul_comm 2 m, Nat.mul_comm m 2]; omega
        rw [e] at this; exact this
theorem tl_get {α : Type} {t : T α} {n : Nat} {x : α} (h : t.get n = some x) : (n, x) ∈ tl t 0 1 := by
  have := tl_mem t 0 1 n x h
  rwa [Nat.zero_add, Nat.one_mul] at this
theorem map_at {α β : Type} {f g : α → β} : ∀ {l : List α}, l.map f = l.map g → ∀ x ∈ l, f x = g x
  | [], _, x, hx => by simp at hx
  | a :: l, h, x, hx => by
    simp only [List.map_cons, List.cons.injEq] at h
    rcases List.mem_cons.1 hx with e | e
    · rw [e]; exact h.1
    · exact map_at h.2 x e
/- what is asked of a seat's tables -/
def TyEq (P : Program) (tb : Tab) : Prop := (tl tb.ty 0 1).map (fun p => some p.2) = (tl tb.ty 0 1).map fun p => (P.info? p.1).map (mkTI P p.1)
def impAns (P : Program) (t d : Nat) : Option Bool := match P.underlying t, P.info? d with
  | some (.interface want), some i => some (Instr.missingMethod want i.methods).isNone
  | _, _ => none
def ImpEq (P : Program) (tb : Tab) : Prop := tb.imp.map (fun p => some p.2.2) = tb.imp.map fun p => impAns P p.1 p.2.1
def FnEq (P : Program) (tb : Tab) : Prop := (tl tb.fn 0 1).map (fun p => some (p.2.body, p.2.ntmps, p.2.res)) = (tl tb.fn 0 1).map fun p => (P.funcs[p.1]?).map fun fn => (fn.body, fn.ntmps, fn.results.toList)
noncomputable def fnChk (P : Program) (tb : Tab) : Bool := (tl tb.fn 0 1).all fun p => match P.funcs[p.1]? with
  | some fn => !(fn.name == "runtime.NumGoroutine") && (match p.2.body with | some c => codeOk c | none => true) && p.2.sum.isNone
  | none => false
def MetAt (P : Program) (t : Nat) (m : String) (g : Nat) : Prop := ∀ (x : Value) (w : World), (method (P.types.size + Made.depth) t x m).run P w = .ok (g, x) w
theorem impl_mem : ∀ (l : List (Nat × Nat × Bool)) (t d : Nat) (r : Bool), impl l t d = some r → (t, d, r) ∈ l
  | [], _, _, _, h => by simp [impl] at h
  | (a, b, q) :: l, t, d, r, h => by
    unfold impl at h
    cases hc : (Nat.beq a t && Nat.beq b d) with
    | true =>
      rw [hc, cond_true] at h; injection h with h; subst h
      rw [Bool.and_eq_true] at hc
      have e1 := Nat.eq_of_beq_eq_true hc.1
      have e2 := Nat.eq_of_beq_eq_true hc.2
      subst e1; subst e2; exact List.mem_cons_self ..
    | false => rw [hc, cond_false] at h; exact List.mem_cons_of_mem _ (impl_mem l t d r h)
theorem methd_mem : ∀ (l : List (Nat × String × Nat × Bool)) (t : Nat) (m : String) (r : Nat × Bool), methd l t m = some r → (t, m, r) ∈ l
  | [], _, _, _, h => by simp [methd] at h
  | (a, b, q) :: l, t, m, r, h => by
    unfold methd at h
    cases hc : (Nat.beq a t && b == m) with
    | true =>
      rw [hc, cond_true] at h; injection h with h; subst h
      rw [Bool.and_eq_true] at hc
      have e1 := Nat.eq_of_beq_eq_true hc.1
      have e2 := eq_of_beq hc.2
      subst e1; subst e2; exact List.mem_cons_self ..
    | false => rw [hc, cond_false] at h; exact List.mem_cons_of_mem _ (methd_mem l t m r h)
theorem allOk {C : Cx} {tb : Tab} (hty : TyEq C.P tb) (himp : ImpEq C.P tb) (hng : tb.ng = C.P.globals.size) (hhyp : tb.hyp = []) (hfn : FnEq C.P tb) (hchk : fnChk C.P tb = true)
    (hmet : ∀ t m g d, (t, m, g, d) ∈ tb.met → d = false ∧ MetAt C.P t m g) (hmix : C.P.follows .mixedOrders = true)
    (hext : ∀ g fi fn, tb.fn.get g = some fi → C.P.funcs[g]? = some fn → fi.body = none → fi.ext = 0 ∨ ExtOk C tb fi.ext fn) : AllOk C tb where
  tab := { ty := fun t ti h => by
             have := map_at hty _ (tl_get h)
             simp only [] at this
             cases hi : C.P.info? t with
             | none => rw [hi] at this; cases this
             | some i => rw [hi] at this; injection this with this; exact ⟨i, rfl, this⟩
           hyp := fun k r h => by rw [hhyp] at h; simp at h
           imp := fun t d r h => by
             have := map_at himp _ (impl_mem _ _ _ _ h)
             simp only [impAns] at this
             split at this
             · rename_i want i h1 h2
               injection this with this
               exact ⟨want, i, h1, h2, this.symm⟩
             · cases this
           ngl := hng }
  met := fun t m g d v u ρ x w h1 h2 h3 => by
    obtain ⟨rfl, hm⟩ := hmet t m g d (methd_mem _ _ _ _ h1)
    simp only [recv, cond_false, Option.some.injEq] at h2
    subst h2
    exact ⟨x, hm x w, h3⟩
  fn := fun g fi h => by
    have h1 := map_at hfn _ (tl_get h)
    have h2 := List.all_eq_true.1 hchk _ (tl_get h)
    simp only [] at h1 h2
    cases hf : C.P.funcs[g]? with
    | none => rw [hf] at h1; cases h1
    | some fn =>
      rw [hf] at h1 h2
      simp only [Option.map_some, Option.some.injEq, Prod.mk.injEq] at h1
      simp only [Bool.and_eq_true] at h2
      refine ⟨fn, hf, by simpa using h2.1.1, h1.1.symm, h1.2.1.symm, h1.2.2.symm, fun c hc => ?_, fun v hv => ?_, fun hb => hext g fi fn h hf hb⟩
      · have := h2.1.2; rw [hc] at this; exact this
      · have := h2.2; rw [hv] at this; cases this
  mix := hmix
/-- a call's answer set down -/
noncomputable def addSum (tb : Tab) (g : Nat) (fi : FI) (v : AV) : Tab := { tb with fn := tb.fn.set g { fi with sum := some v } }
theorem AllOk.sum {C : Cx} {tb : Tab} (h : AllOk C tb) {g : Nat} {fi : FI} {v : AV} (hg : g ≤ 16777213) (hfi : tb.fn.get g = some fi) (hb : fi.body.isSome = true) (hs : SumOk C g v) : AllOk C (addSum tb g fi v) where
  tab := ⟨⟨h.tab.ty⟩, ⟨h.tab.hyp⟩, h.tab.imp, h.tab.ngl⟩
  met := h.met
  mix := h.mix
  fn := fun g' fi' h' => by
    have h'' : (tb.fn.set g { fi with sum := some v }).get g' = some fi' := h'
    rw [get_set _ _ _ _ hg] at h''
    split at h''
    · rename_i e; subst e
      injection h'' with h''; subst h''
      obtain ⟨fn, hfn⟩ := h.fn _ _ hfi
      exact ⟨fn, hfn.at_, hfn.name, hfn.body, hfn.nt, hfn.res, hfn.reg, fun u hu => by
        simp only [Option.some.injEq] at hu; subst hu; exact ⟨hb, hs⟩, hfn.ext⟩
    · obtain ⟨fn, hfn⟩ := h.fn _ _ h''
      exact ⟨fn, hfn.at_, hfn.name, hfn.body, hfn.nt, hfn.res, hfn.reg, hfn.sum, hfn.ext⟩
theorem AllOk.hyps {C : Cx} {tb : Tab} (h : AllOk C tb) {hs : List (HK × AV)} (hh : ∀ k r, (k, r) ∈ hs → HOk C k r) : AllOk C { tb with hyp := hs } where
  tab := ⟨⟨h.tab.ty⟩, ⟨hh⟩, h.tab.imp, h.tab.ngl⟩
  met := h.met
  mix := h.mix
  fn := fun g fi hg => by
    obtain ⟨fn, hfn⟩ := h.fn g fi hg
    exact ⟨fn, hfn.at_, hfn.name, hfn.body, hfn.nt, hfn.res, hfn.reg, hfn.sum, hfn.ext⟩
/- the whole run -/
def rho0 (ng : Nat) : Rho := fun v => if v < ng then some ⟨v, 0, 0, 0⟩ else none
theorem run_ok {C : Cx} {tb : Tab} (h : AllOk C tb) {f g : Nat} {fi : FI} {l : List AV} {v : AV} {S' : St} {args : List Value} (hfi : tb.fn.get g = some fi) (hb : fi.body.isSome = true)
    (hc : call tb f g l ⟨.leaf, tb.ng, 0, 0⟩ = some (v, S')) (hl : RelL C (fun _ => none) l args) (w : World) (hi : C.inv w) (hsz : C.nst ≤ w.heap.size) :
    Calls C.P g ⟨args⟩ w fun e w' => ∃ x ρ, e = .returned x ∧ Rel C ρ v x ∧ Below w.heap.size w w' := by
  have hF : Fits C tb.ng w.heap.size (rho0 tb.ng) (T.leaf : T Blk) w := ⟨Nat.le_refl _, fun g hg => by simp [rho0, hg], fun v k hv => by simp [T.get_leaf] at hv, fun v v' k k' r r' hv => (by simp [T.get_leaf] at hv), hsz, hi⟩
  have hfree : Free (rho0 tb.ng) tb.ng S'.next := fun v h1 h2 => by simp only [rho0]; rw [if_neg (by omega)]
  obtain ⟨fn, hfn⟩ := h.fn g fi hfi
  have hu := call_ok (B := w.heap.size) h f g l ⟨.leaf, tb.ng, 0, 0⟩ v S' (rho0 tb.ng) w args ⟨some 0, .move (.const undef), 0, "", #[], none⟩ ⟨#[undef], []⟩
    (fun a' w' => ∃ ρ, Rel C ρ v (a'.tmps.getD 0 undef) ∧ Below w.heap.size w w') (fun _ _ _ => False) hc hF (Nat.le_refl _) (RelL.mono (fun v r hv => by cases hv) _ _ hl) hfree
    (fun ρ' x w' r1 r2 r3 r4 => ⟨ρ', by simpa [Act.put] using r1, r4⟩)
  rw [callFunc_body hfn.at_ hfn.name (by rw [hfn.body]; exact hb), Oper.upon_enter] at hu
  refine Calls.mono hu fun e w' he => ?_
  cases e with
  | returned x =>
    obtain ⟨ρ, h1, h2⟩ := he
    exact ⟨x, ρ, rfl, by simpa [Act.put] using h1, h2⟩
  | panicked c => exact he.elim
  | outgrown => obtain ⟨_, _, h⟩ := he; exact h.elim
end Go.AX
