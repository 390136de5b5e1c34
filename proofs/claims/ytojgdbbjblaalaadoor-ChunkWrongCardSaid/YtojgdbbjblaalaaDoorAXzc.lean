/- A part of the proof: an interpreter of the model's own code on partly known states, and that what it answers is what the program answers. No condition of its own. -/
import Derived.Test.YtojgdbbjblaalaaDoorAXzb
set_option linter.unusedSimpArgs false
set_option linter.unusedVariables false
namespace Go.AX
open Go.RowKit (Below)
theorem args0_get : ∀ (l : List AV) (n : Nat) (t : T AV) (m : Nat), n + l.length ≤ 16777214 → (args0 l n t).get m = if n ≤ m ∧ m < n + l.length then l[m - n]? else t.get m
  | [], n, t, m, _ => by simp only [args0, List.length_nil]; rw [if_neg (by omega)]
  | v :: l, n, t, m, h => by
    simp only [List.length_cons] at h
    unfold args0
    rw [args0_get l (Nat.succ n) (t.set n v) m (by simp only [Nat.succ_eq_add_one]; omega), get_set _ _ _ _ (by omega)]
    simp only [Nat.succ_eq_add_one, List.length_cons]
    by_cases h1 : m = n
    · subst h1
      rw [if_neg (by omega), if_pos rfl, if_pos (by omega)]; simp
    · by_cases h2 : n + 1 ≤ m ∧ m < n + 1 + l.length
      · rw [if_pos h2, if_pos (by omega)]
        have : m - n = (m - (n + 1)) + 1 := by omega
        rw [this]; simp
      · rw [if_neg h2, if_neg h1, if_neg (by omega)]
section
variable {C : Cx} {tb : Tab} {B : Nat}
theorem env0_ok {ρ : Rho} {l : List AV} {args : List Value} {nt : Nat} (h : RelL C ρ l args) (h1 : l.length ≤ nt) (h2 : nt ≤ 16777213) :
    EnvOk C ρ ⟨args0 l 0 .leaf, nt⟩ { tmps := (⟨args⟩ : Array Value) ++ Array.replicate (nt - (⟨args⟩ : Array Value).size) undef, defers := [] } := by
  have hlen := h.len
  refine ⟨?_, h2, fun t x ht => ?_⟩
  · have : (⟨args⟩ : Array Value).size = args.length := rfl
    simp only [Array.size_append, Array.size_replicate]; rw [this]; omega
  · simp only [] at ht
    rw [args0_get l 0 .leaf t (by omega)] at ht
    split at ht
    · rename_i hr
      rw [Nat.sub_zero] at ht
      obtain ⟨y, hy, hxy⟩ := h.get ht
      have hlt : t < args.length := by
        rcases Nat.lt_or_ge t args.length with h | h
        · exact h
        · rw [List.getElem?_eq_none h] at hy; cases hy
      have : ((⟨args⟩ : Array Value) ++ Array.replicate (nt - (⟨args⟩ : Array Value).size) undef).getD t undef = y := by
        rw [Array.getD_eq_getD_getElem?, Array.getElem?_append_left (by exact hlt), ← Array.getElem?_toList]
        show (args[t]?).getD undef = y
        rw [hy]; rfl
      rw [this]; exact hxy
    · simp [T.get_leaf] at ht
theorem load_as (ht : TyOk C.P tb) {ρ : Rho} {w : World} {S S' : St} (hF : Fits C tb.ng B ρ S.heap w) {t : Nat} {x v : AV} {xv : Value} (hx : Rel C ρ x xv) (h : load tb t x S = some (v, S')) :
    S'.heap = S.heap ∧ S'.next = S.next ∧ ∃ y, (do loadVar t (← asAddr xv) : Sem Value).run C.P w = .ok y w ∧ Rel C ρ v y := by
  obtain ⟨h1, h2, y, h3, h4⟩ := load_ok ht hF hx h
  refine ⟨h1, h2, y, ?_, h4⟩
  cases x <;> simp only [load] at h <;> try exact (fail_inv h).elim
  simp only [Rel] at hx
  obtain ⟨r, hr, rfl⟩ := hx
  exact h3
theorem resList_ok (ht : TyOk C.P tb) {ρ : Rho} {w : World} {E : Env} {a : Act} (hE : EnvOk C ρ E a) : ∀ (l : List ResultVar) {S S' : St} {vs : List AV}, Fits C tb.ng B ρ S.heap w → resList tb l E S = some (vs, S') →
    S'.heap = S.heap ∧ S'.next = S.next ∧ ∃ ys, (l.mapM (fun | .tmp t => pure (a.tmps.getD t undef) | .cell c t => do loadVar t (← asAddr (a.tmps.getD c undef)) : ResultVar → Sem Value)).run C.P w = .ok ys w ∧ RelL C ρ vs ys
  | [], S, S', vs, hF, h => by
    unfold resList at h
    obtain ⟨rfl, rfl⟩ := ret_inv h
    exact ⟨rfl, rfl, [], rfl, by simp [RelL]⟩
  | .tmp t :: l, S, S', vs, hF, h => by
    unfold resList at h
    obtain ⟨us, S1, h1, h2⟩ := bnd_inv h
    obtain ⟨rfl, rfl⟩ := ret_inv h2
    obtain ⟨e1, e2, ys, e3, e4⟩ := resList_ok ht hE l hF h1
    refine ⟨e1, e2, a.tmps.getD t undef :: ys, ?_, ?_⟩
    · rw [List.mapM_cons, Sem.run_bind]
      simp only [Sem.run_pure, Result.andThen_ok]
      rw [Sem.run_bind, e3]; rfl
    · simp only [RelL]
      have := op_ok hF hE (.tmp t)
      refine ⟨_, _, rfl, ?_, e4⟩
      have e : a.eval (.tmp t) = a.tmps.getD t undef := by simp [Act.eval, Array.getD_eq_getD_getElem?]
      rw [← e]; exact this
  | .cell c t :: l, S, S', vs, hF, h => by
    unfold resList at h
    obtain ⟨u, S1, h1, h2⟩ := bnd_inv h
    obtain ⟨us, S2, h3, h4⟩ := bnd_inv h2
    obtain ⟨rfl, rfl⟩ := ret_inv h4
    have hop := op_ok hF hE (.tmp c)
    have e : a.eval (.tmp c) = a.tmps.getD c undef := by simp [Act.eval, Array.getD_eq_getD_getElem?]
    rw [e] at hop
    obtain ⟨g1, g2, y, g3, g4⟩ := load_as ht hF hop h1
    obtain ⟨e1, e2, ys, e3, e4⟩ := resList_ok ht hE l (by rw [g1]; exact hF) h3
    refine ⟨e1.trans g1, e2.trans g2, y :: ys, ?_, ?_⟩
    · rw [List.mapM_cons, Sem.run_bind]
      simp only []
      rw [g3]
      simp only [Result.andThen_ok]
      rw [Sem.run_bind, e3]; rfl
    · simp only [RelL]; exact ⟨_, _, rfl, g4, e4⟩
theorem results_ok (ht : TyOk C.P tb) {ρ : Rho} {w : World} {E : Env} {a : Act} (hE : EnvOk C ρ E a) {fn : Func} {S S' : St} {v : AV} (hF : Fits C tb.ng B ρ S.heap w) (h : results tb fn.results.toList E S = some (v, S')) :
    S'.heap = S.heap ∧ S'.next = S.next ∧ ∃ y, (Go.results fn a.tmps).run C.P w = .ok y w ∧ Rel C ρ v y := by
  have hm : ∀ l, fn.results.toList = l → ∀ ys, (l.mapM (fun | .tmp t => pure (a.tmps.getD t undef) | .cell c t => do loadVar t (← asAddr (a.tmps.getD c undef)) : ResultVar → Sem Value)).run C.P w = .ok ys w →
      (Go.results fn a.tmps).run C.P w = .ok (if h : ys.length = 1 then ys[0] else .tuple ⟨ys⟩) w := by
    intro l hl ys hys
    have hfn : fn.results = l.toArray := by rw [← hl]
    unfold Go.results
    rw [hfn, List.mapM_toArray, Sem.run_bind]
    have : (List.toArray <$> (l.mapM (fun | .tmp t => pure (a.tmps.getD t undef) | .cell c t => do loadVar t (← asAddr (a.tmps.getD c undef)) : ResultVar → Sem Value))).run C.P w = .ok ys.toArray w := by
      rw [map_eq_pure_bind, Sem.run_bind, hys]; rfl
    refine (congrArg (fun r => Result.andThen r _) this).trans ?_
    rfl
  have evt : ∀ t, a.eval (.tmp t) = a.tmps.getD t undef := fun t => by simp [Act.eval, Array.getD_eq_getD_getElem?]
  generalize hL : fn.results.toList = L at h
  unfold results at h
  split at h
  · rename_i t
    obtain ⟨rfl, rfl⟩ := ret_inv h
    refine ⟨rfl, rfl, a.tmps.getD t undef, hm _ hL [a.tmps.getD t undef] rfl, ?_⟩
    rw [← evt]; exact op_ok hF hE (.tmp t)
  · rename_i c t
    have hop := op_ok hF hE (.tmp c)
    rw [evt] at hop
    obtain ⟨g1, g2, y, g3, g4⟩ := load_as ht hF hop h
    refine ⟨g1, g2, y, hm _ hL [y] ?_, g4⟩
    rw [List.mapM_cons, Sem.run_bind]
    simp only []
    rw [g3]; rfl
  · rename_i hl1 hl2
    obtain ⟨us, S1, h1, h2⟩ := bnd_inv h
    obtain ⟨rfl, rfl⟩ := ret_inv h2
    obtain ⟨e1, e2, ys, e3, e4⟩ := resList_ok ht hE _ hF h1
    have hlen : ys.length = L.length := by
      have h1' : ∀ (l : List ResultVar) (S S' : St) (vs : List AV), resList tb l E S = some (vs, S') → vs.length = l.length := by
        intro l
        induction l with
        | nil => intro S S' vs h; unfold resList at h; obtain ⟨rfl, _⟩ := ret_inv h; rfl
        | cons x l ih =>
          intro S S' vs h
          cases x with
          | tmp t =>
            unfold resList at h
            obtain ⟨us, S1, h1, h2⟩ := bnd_inv h
            obtain ⟨rfl, rfl⟩ := ret_inv h2
            simp [ih _ _ _ h1]
          | cell c t =>
            unfold resList at h
            obtain ⟨u, S1, h1, h2⟩ := bnd_inv h
            obtain ⟨us, S2, h3, h4⟩ := bnd_inv h2
            obtain ⟨rfl, rfl⟩ := ret_inv h4
            simp [ih _ _ _ h3]
      rw [e4.len, h1' _ _ _ _ h1]
    refine ⟨e1, e2, .tuple ⟨ys⟩, ?_, by simp only [Rel]; exact ⟨ys, rfl, e4⟩⟩
    rw [hm _ hL ys e3, dif_neg]
    intro hone
    rw [hlen] at hone
    match L, hone, hl1, hl2 with
    | [.tmp t], _, hl1, _ => exact hl1 t rfl
    | [.cell c t], _, _, hl2 => exact hl2 c t rfl
end
end Go.AX
