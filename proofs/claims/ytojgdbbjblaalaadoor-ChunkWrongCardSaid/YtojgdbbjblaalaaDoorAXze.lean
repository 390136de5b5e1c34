/- A part of the proof: an interpreter of the model's own code on partly known states, and that what it answers is what the program answers. No condition of its own. -/
import Derived.Test.YtojgdbbjblaalaaDoorAXzd
set_option linter.unusedSimpArgs false
set_option linter.unusedVariables false
namespace Go.AX
open Go.RowKit (Below)
section
variable {C : Cx} {tb : Tab} {B : Nat}
theorem Fits.kept {ρ : Rho} {ng : Nat} {H : T Blk} {w w' : World} (h : Fits C ng B ρ H w) (hb : Below w.heap.size w w') : Fits C ng B ρ H w' := by
  refine ⟨by have := h.size; have := hb.size; omega, h.glob, fun v k hv => ?_, h.inj, h.low, C.stab w w' (fun b hb' => hb.block b (by have := h.low; have := h.size; omega)) h.inv⟩
  obtain ⟨r, h1, arr, fz, h2, h3⟩ := h.blk v k hv
  refine ⟨r, h1, arr, fz, ?_, h3⟩
  have hlt : r.blk < w.heap.size := by
    rcases Nat.lt_or_ge r.blk w.heap.size with h | h
    · exact h
    · rw [Array.getElem?_eq_none h] at h2; cases h2
  rw [hb.block _ hlt]; exact h2
theorem Below.less {B B' : Nat} {w w' : World} (h : Below B w w') (hle : B' ≤ B) : Below B' w w' := ⟨h.os, h.tape, h.output, h.size, fun k hk => h.block k (by omega)⟩
theorem callFunc_body {P : Program} {g : Nat} {fn : Func} {args : Array Value} {w : World} (h1 : P.funcs[g]? = some fn) (h2 : (fn.name == "runtime.NumGoroutine") = false) (h3 : fn.body.isSome = true) : (callFunc g args).run P w = .ok (.enter g args) w := by
  unfold callFunc
  rw [Sem.run_bind]
  have hp : (program).run P w = .ok P w := rfl
  rw [hp]
  simp only [Result.andThen_ok, h1, h2]
  have : fn.body.isNone = false := by cases hb : fn.body with
    | none => rw [hb] at h3; cases h3
    | some c => rfl
  rw [this]; rfl
theorem callFunc_ext {P : Program} {g : Nat} {fn : Func} {args : Array Value} {w w' : World} {r : Array Value → Sem Value} {x : Value} (h1 : P.funcs[g]? = some fn) (h2 : (fn.name == "runtime.NumGoroutine") = false) (h3 : fn.body = none)
    (h4 : Extern.findNext fn = none) (h5 : Extern.find fn = some r) (h6 : (r args).run P w = .ok x w') : (callFunc g args).run P w = .ok (.value x) w' := by
  unfold callFunc
  rw [Sem.run_bind]
  have hp : (program).run P w = .ok P w := rfl
  rw [hp]
  simp only [Result.andThen_ok, h1, h2, h3, h4, h5, Option.isNone_none]
  simp [h6, Sem.run_bind]
theorem Rel.ofNone {ρ : Rho} {v : AV} {x : Value} (h : Rel C (fun _ => none) v x) : Rel C ρ v x := Rel.mono (fun v r hv => by cases hv) v x h
theorem call_ok (h : AllOk C tb) : ∀ f, CallOk C tb B (call tb f) := by
  intro f
  induction f using Nat.strongRecOn with
  | _ f ih =>
    cases f with
    | zero => intro g l S v S' ρ w args o a next Q hc; unfold call at hc; exact (fail_inv hc).elim
    | succ f =>
      intro g l S v S' ρ w args o a next Q hc hF hng hl hfree hk
      unfold call at hc
      obtain ⟨fi, e1, h1⟩ := lb hc
      obtain ⟨fn, hfn⟩ := h.fn g fi e1
      have main : (match fi.body with
          | none => ext tb fi.ext l
          | some c => cond (Nat.ble l.length fi.ntmps && Nat.ble fi.ntmps 16777213) (bnd (code tb f c ⟨args0 l 0 .leaf, fi.ntmps⟩) fun r => match r.1 with
            | .normal | .ret => results tb fi.res r.2
            | _ => AX.fail) AX.fail) S = some (v, S') → o.upon C.P a next Q ((callFunc g ⟨args⟩).run C.P w) := by
        intro h1
        cases hb : fi.body with
        | none =>
          rw [hb] at h1
          rcases hfn.ext hb with he0 | ⟨x1, r, x2, x3⟩
          · rw [he0] at h1; simp only [ext] at h1; exact (fail_inv h1).elim
          obtain ⟨ρ', x, w', r1, r2, r3, r4, r5⟩ := x3 B l S v S' ρ w args h1 hF hng hl hfree
          rw [callFunc_ext hfn.at_ hfn.name (by rw [hfn.body, hb]) x1 x2 r1]
          exact hk ρ' x w' r2 r3 r4 r5
        | some c =>
          rw [hb] at h1
          simp only [] at h1
          obtain ⟨hcnd, h2⟩ := cond_inv h1
          rw [Bool.and_eq_true] at hcnd
          obtain ⟨p, S1, h3, h4⟩ := bnd_inv h2
          obtain ⟨ex, E1⟩ := p
          have hbody : fn.body = some c := by rw [hfn.body, hb]
          rw [callFunc_body hfn.at_ hfn.name (by rw [hbody]; rfl)]
          rw [Oper.upon_enter]
          have hcalls : ∀ g, g < f + 1 → CallOk C tb B (call tb g) := fun g hg => ih g hg
          have l1 := ((goodF tb f).code _ _).le h3
          have hend : (ex = .normal ∨ ex = .ret) → results tb fi.res E1 S1 = some (v, S') → Calls C.P g ⟨args⟩ w fun
              | .returned v, w'' => next (a.put o.dst v) w''
              | .panicked chain, w'' => Q (.panic chain) a w''
              | .outgrown, _ => LetsOut Q := fun hex hr => by
            have l2 := (Good.results tb _ _).le hr
            refine calls_of_wp hfn.at_ hbody ?_
            refine And.left <| code_ok hcalls h.tab h.met h.mix f (Nat.le_succ f) c _ S ex E1 S1 ρ _ w _ (hfn.reg c hb) h3 hF hng
              (by rw [hfn.nt]; exact env0_ok hl (Nat.le_of_ble_eq_true hcnd.1) (Nat.le_of_ble_eq_true hcnd.2)) (hfree.left l2) fun ρ' a' w' q1 q2 q3 q4 q5 => ?_
            rw [← hfn.res] at hr
            obtain ⟨g1, g2, y, g3, g4⟩ := results_ok h.tab.toTyOk q1 q3 hr
            have hend : bodyPost C.P fn (fun
              | .returned v, w'' => next (a.put o.dst v) w''
              | .panicked chain, w'' => Q (.panic chain) a w''
              | .outgrown, _ => LetsOut Q) .normal a' w' := ⟨q2, y, g3, hk ρ' y w' g4 (by rw [g1]; exact q3) (by rw [g2]; exact q4) q5⟩
            rcases hex with hex | hex <;> rw [hex] <;> exact hend
          cases ex with
          | normal => exact hend (.inl rfl) h4
          | ret => exact hend (.inr rfl) h4
          | exit id => exact (fail_inv h4).elim
          | goto l => exact (fail_inv h4).elim
      cases hs : fi.sum with
      | none => rw [hs] at h1; exact main h1
      | some u =>
        rw [hs] at h1
        cases l with
        | cons x l => exact main h1
        | nil =>
          obtain ⟨rfl, rfl⟩ := ret_inv h1
          simp only [RelL] at hl
          subst hl
          obtain ⟨hsome, hsum⟩ := hfn.sum _ hs
          rw [callFunc_body hfn.at_ hfn.name (by rw [hfn.body]; exact hsome), Oper.upon_enter]
          refine Calls.mono (hsum w hF.inv (by have := hF.low; have := hF.size; omega)) fun e w' he => ?_
          obtain ⟨x, rfl, hx, hb⟩ := he
          exact hk ρ x w' hx.ofNone (hF.kept hb) (Ext.refl _ _ _) (Below.less hb hF.size)
end
end Go.AX
