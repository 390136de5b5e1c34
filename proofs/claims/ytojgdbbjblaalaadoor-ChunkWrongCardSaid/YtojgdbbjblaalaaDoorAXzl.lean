/- A part of the proof: an interpreter of the model's own code on partly known states, and that what it answers is what the program answers. No condition of its own. -/
import Derived.Test.YtojgdbbjblaalaaDoorAXzk
import Derived.OpenShut
import Derived.ChangeArms
set_option linter.unusedSimpArgs false
set_option linter.unusedVariables false
namespace Go.AX
open Go.RowKit (Below)
/- old blocks of which the first cells are known -/
def GArr (C : Cx) (w : World) (g e : Nat) (l : List AV) : Prop :=
  ∃ arr fz, w.heap[g]? = some (.cells arr e fz) ∧ arr.size = l.length ∧ ∀ (j : Nat) (a : AV), l[j]? = some a → ∃ x, arr[j]? = some x ∧ Rel C (fun _ => none) a x ∧ x.oneCell' = true
def CellsAre (l : List AV) (c : Cells) : Prop := CW c ∧ c.toL = l
theorem run_okG {C : Cx} {tb : Tab} (h : AllOk C tb) {f g : Nat} {fi : FI} {l : List AV} {v : AV} {S' : St} {args : List Value} {H : T Blk} (hfi : tb.fn.get g = some fi) (hb : fi.body.isSome = true)
    (hc : call tb f g l ⟨H, tb.ng, 0, 0⟩ = some (v, S')) (hl : RelL C (fun _ => none) l args) (w : World) (hi : C.inv w) (hsz : C.nst ≤ w.heap.size)
    (hH : ∀ v k, H.get v = some k → v < tb.ng ∧ ∃ e c m, k = gBlk e c ∧ CellsAre m c ∧ GArr C w v e m) :
    Calls C.P g ⟨args⟩ w fun e w' => ∃ x ρ, e = .returned x ∧ Rel C ρ v x ∧ Below w.heap.size w w' := by
  have hF : Fits C tb.ng w.heap.size (rho0 tb.ng) H w := by
    refine ⟨Nat.le_refl _, fun g hg => by simp [rho0, hg], fun v k hv => ?_, fun v v' k k' r r' hv hv' h1 h2 h3 => ?_, hsz, hi⟩
    · obtain ⟨hlt, e, c, m, rfl, ⟨hcw, hcm⟩, arr, fz, h1, h2, h3⟩ := hH v k hv
      refine ⟨⟨v, 0, 0, 0⟩, by simp [rho0, hlt], arr, fz, h1, ?_⟩
      have hcl : c.len = m.length := by rw [Cells.len_eq, hcm]
      refine ⟨⟨hcw, fun j a hj => ?_⟩, fun h => (by cases h), fun x hx1 hx2 hx3 => ?_, fun h => (by cases h), fun _ => ⟨Nat.le_refl _, rfl, rfl⟩, ?_, fun _ => rfl⟩
      · have hj : c.toL[j]? = some a := hj
        rw [hcm] at hj
        obtain ⟨x, hx, hr, ho⟩ := h3 j a hj
        exact ⟨x, by simpa using hx, hr.ofNone, ho⟩
      · have hx1 : 0 + c.len ≤ x := hx1
        omega
      · show 0 + c.len ≤ arr.size; omega
    · obtain ⟨l1, _⟩ := hH v k hv
      obtain ⟨l2, _⟩ := hH v' k' hv'
      simp only [rho0, if_pos l1, if_pos l2, Option.some.injEq] at h1 h2
      subst h1; subst h2; exact h3
  have hfree : Free (rho0 tb.ng) tb.ng S'.next := fun v h1 h2 => by simp only [rho0]; rw [if_neg (by omega)]
  obtain ⟨fn, hfn⟩ := h.fn g fi hfi
  have hu := call_ok (B := w.heap.size) h f g l ⟨H, tb.ng, 0, 0⟩ v S' (rho0 tb.ng) w args ⟨some 0, .move (.const undef), 0, "", #[], none⟩ ⟨#[undef], []⟩
    (fun a' w' => ∃ ρ, Rel C ρ v (a'.tmps.getD 0 undef) ∧ Below w.heap.size w w') (fun _ _ _ => False) hc hF (Nat.le_refl _) (RelL.mono (fun v r hv => by cases hv) _ _ hl) hfree
    (fun ρ' x w' r1 r2 r3 r4 => ⟨ρ', by simpa [Act.put] using r1, r4⟩)
  rw [callFunc_body hfn.at_ hfn.name (by rw [hfn.body]; exact hb), Oper.upon_enter] at hu
  refine Calls.mono hu fun e w' he => ?_
  cases e with
  | returned x =>
    obtain ⟨ρ, h1, h2⟩ := he
    exact ⟨x, ρ, rfl, by simpa [Act.put] using h1, h2⟩
  | panicked c => exact he.elim
  | outgrown => obtain ⟨_, _, h⟩ := he; exact h.elim
theorem laidVars_mem {P : Program} {w : World} {name : String} {d : DataW Unit} : ∀ {laid : List (String × DataW Unit)} {ps : List MemPlace}, DataW.LaidVars P w laid ps → (name, d) ∈ laid →
    ∃ g t cs fuel p, P.globalNamed name = some g ∧ (P.globals[g]?).map (·.type) = some t ∧ w.var? P name = some cs ∧ DataW.trod (fun _ => ()) P w 0 (fun _ => true) false fuel t cs.toList = some (d, p)
  | [], _, _, h => by cases h
  | (n, d') :: r, ps, h, hm => by
    obtain ⟨g, t, cs, fuel, p, q, h1, h2, h3, h4, h5, _⟩ := h
    rcases List.mem_cons.1 hm with e | e
    · injection e with e1 e2; subst e1; subst e2
      exact ⟨g, t, cs, fuel, p, h1, h2, h3, h4⟩
    · exact laidVars_mem h5 e
theorem laid_ints {C : Cx} {W : World} {laid : List (String × DataW Unit)} {name : String} {g t e n : Nat} {k : IntKind} {zs : List Int} (h : laidMet C.P laid W)
    (hm : (name, .agg (zs.map fun z => .lit (.int k z))) ∈ laid) (hg : C.P.globalNamed name = some g) (ht : (C.P.globals[g]?).map (·.type) = some t) (hu : C.P.underlying t = some (.array n e))
    (hc : C.P.cellsOf e = 1) (hct : C.P.cellsOf t = n) (hk : C.P.underlying e = some (.int k)) : ∃ ty, GArr C W g ty (zs.map fun z => .i k z) := by
  obtain ⟨ps, hp, _, _⟩ := h
  obtain ⟨g', t', cs, fuel, p, h1, h2, h3, h4⟩ := laidVars_mem hp hm
  rw [hg] at h1; injection h1 with h1; subst h1
  rw [ht] at h2; injection h2 with h2; subst h2
  obtain ⟨xs, m, _, ex, hlen, hxl, hel⟩ := DataW.trod_array hu h4
  have e3 : xs.map (·.1) = zs.map fun z => .lit (.int k z) := (DataW.agg.inj (Prod.mk.inj ex).1).symm
  have hzl : zs.length = n := by have := congrArg List.length e3; simp at this; omega
  unfold World.var? at h3
  rw [hg] at h3
  simp only [Option.bind_some] at h3
  split at h3
  · rename_i arr ty fz hh
    injection h3 with h3
    subst h3
    have hsz : arr.size = n := by rw [← hct, ← hlen]; simp
    refine ⟨ty, arr, fz, hh, by simp [hsz, hzl], fun j a hj => ?_⟩
    rw [List.getElem?_map] at hj
    have hjn : j < n := by
      rcases Nat.lt_or_ge j n with h | h
      · exact h
      · rw [List.getElem?_eq_none (by omega)] at hj; cases hj
    rw [List.getElem?_eq_getElem (by omega : j < zs.length)] at hj
    simp only [Option.map_some, Option.some.injEq] at hj
    subst hj
    have hE := hel j hjn
    rw [hc, Nat.mul_one, List.getElem?_eq_getElem (by omega : j < xs.length)] at hE
    obtain ⟨z, e1, e2, _⟩ := DataW.trod_int hk hE
    have e4 : (xs.map (·.1))[j]? = (zs.map fun z => (DataW.lit (.int k z) : DataW Unit))[j]? := by rw [e3]
    rw [List.getElem?_map, List.getElem?_map, List.getElem?_eq_getElem (by omega : j < xs.length), List.getElem?_eq_getElem (by omega : j < zs.length), e2] at e4
    have hz : z = zs[j] := by
      simp only [Option.map_some, Option.some.injEq, DataW.lit.injEq, Lit.int.injEq, true_and] at e4
      exact e4
    refine ⟨.int k zs[j], ?_, by simp only [Rel], rfl⟩
    have h0 : ((arr.toList.drop j).take 1)[0]? = some (.int k z) := by rw [e1]; rfl
    rw [← hz]
    simpa using h0
  · cases h3
end Go.AX
namespace Go.AX
/-- a package variable that is an array of numbers -/
def ArrIs (w : World) (g : Nat) (k : IntKind) (zs : List Int) : Prop :=
  ∃ ty arr fz, w.heap[g]? = some (.cells arr ty fz) ∧ arr.size = zs.length ∧ ∀ (j : Nat) (z : Int), zs[j]? = some z → arr[j]? = some (.int k z)
theorem ArrIs.size {w : World} {g : Nat} {k : IntKind} {zs : List Int} (h : ArrIs w g k zs) : g < w.heap.size := by
  obtain ⟨ty, arr, fz, hw, _⟩ := h
  rcases Nat.lt_or_ge g w.heap.size with h | h
  · exact h
  · rw [Array.getElem?_eq_none h] at hw; cases hw
theorem ArrIs.same {w w' : World} {g : Nat} {k : IntKind} {zs : List Int} (h : ArrIs w g k zs) (e : w'.heap[g]? = w.heap[g]?) : ArrIs w' g k zs := by
  obtain ⟨ty, arr, fz, hw, hr⟩ := h
  exact ⟨ty, arr, fz, by rw [e]; exact hw, hr⟩
theorem ArrIs.gArr {C : Cx} {w : World} {g : Nat} {k : IntKind} {zs : List Int} (h : ArrIs w g k zs) : ∃ ty, GArr C w g ty (zs.map fun z => .i k z) := by
  obtain ⟨ty, arr, fz, hw, hs, hr⟩ := h
  refine ⟨ty, arr, fz, hw, by simpa using hs, fun j a hj => ?_⟩
  rw [List.getElem?_map] at hj
  cases hz : zs[j]? with
  | none => rw [hz] at hj; cases hj
  | some z =>
    rw [hz] at hj
    simp only [Option.map_some, Option.some.injEq] at hj
    subst hj
    exact ⟨_, hr j z hz, by simp only [Rel], rfl⟩
theorem laid_arr {P : Program} {W : World} {laid : List (String × DataW Unit)} {name : String} {g t e n : Nat} {k : IntKind} {zs : List Int} (h : laidMet P laid W)
    (hm : (name, .agg (zs.map fun z => .lit (.int k z))) ∈ laid) (hg : P.globalNamed name = some g) (ht : (P.globals[g]?).map (·.type) = some t) (hu : P.underlying t = some (.array n e))
    (hc : P.cellsOf e = 1) (hct : P.cellsOf t = n) (hk : P.underlying e = some (.int k)) : ArrIs W g k zs := by
  obtain ⟨ty, arr, fz, h1, h2, h3⟩ := laid_ints (C := ⟨P, fun _ => .bool true, fun _ => rfl, 0, fun _ => True, fun _ _ _ h => h⟩) h hm hg ht hu hc hct hk
  refine ⟨ty, arr, fz, h1, by simpa using h2, fun j z hz => ?_⟩
  obtain ⟨x, h4, h5, _⟩ := h3 j (.i k z) (by rw [List.getElem?_map, hz]; rfl)
  simp only [Rel] at h5
  rw [h4, h5]
end Go.AX
