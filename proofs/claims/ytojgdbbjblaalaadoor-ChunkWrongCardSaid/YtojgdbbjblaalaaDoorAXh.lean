/- A part of the proof: an interpreter of the model's own code on partly known states, and that what it answers is what the program answers. No condition of its own. -/
import Derived.Test.YtojgdbbjblaalaaDoorAXg
set_option linter.unusedSimpArgs false
set_option linter.unusedVariables false
namespace Go.AX
open Go.RowKit (Below)
def SOut (C : Cx) (ng B : Nat) (ρ : Rho) (w : World) (S S' : St) (v : AV) (r : Result Next) : Prop :=
  ∃ ρ' x w', (r = .ok (.value x) w' ∨ (r = .ok .skip w' ∧ x = undef)) ∧ Rel C ρ' v x ∧ Fits C ng B ρ' S'.heap w' ∧ Ext ρ ρ' S.next S'.next ∧ Below B w w'
section
variable {C : Cx} {tb : Tab} {B : Nat} {ρ : Rho} {w : World} {S S' : St}
theorem SOut.of {ng : Nat} {v : AV} {s : Sem Value} (h : Out C ng B ρ w S S' v (s.run C.P w)) : SOut C ng B ρ w S S' v ((do let x ← s; pure (Next.value x) : Sem Next).run C.P w) := by
  obtain ⟨ρ', x, w', h1, h2⟩ := h
  exact ⟨ρ', x, w', .inl (by simp [h1]), h2⟩
theorem SOut.same {ng : Nat} {v : AV} {x : Value} {r : Result Next} (hF : Fits C ng B ρ S.heap w) (hh : S'.heap = S.heap) (hr : r = .ok (.value x) w) (hx : Rel C ρ v x) : SOut C ng B ρ w S S' v r :=
  ⟨ρ, x, w, .inl hr, hx, by rw [hh]; exact hF, Ext.refl _ _ _, Below.refl _ _⟩
variable {f : Operand → AV} {g : Operand → Value}
theorem s_pick (hF : Fits C tb.ng B ρ S.heap w) (hf : ∀ x, Rel C ρ (f x) (g x)) {c a d : Operand} {o : Oper} (ho : o.op = .pick c a d) {v : AV} (h : simple tb f (.pick c a d) S = some (v, S')) :
    SOut C tb.ng B ρ w S S' v ((execOp g o).run C.P w) := by
  have hc := hf c
  simp only [simple] at h
  cases hfc : f c <;> rw [hfc] at h hc <;> try exact (fail_inv h).elim
  rename_i b
  simp only [Rel] at hc
  cases b
  · obtain ⟨rfl, rfl⟩ := ret_inv h
    exact .same hF rfl (by simp [execOp, ho, hc, asBool]) (hf d)
  · obtain ⟨rfl, rfl⟩ := ret_inv h
    exact .same hF rfl (by simp [execOp, ho, hc, asBool]) (hf a)
theorem s_alloc (ht : TyOk C.P tb) (hF : Fits C tb.ng B ρ S.heap w) (hng : tb.ng ≤ S.next) {e : Nat} {o : Oper} (ho : o.op = .alloc e) {v : AV} (h : simple tb f (.alloc e) S = some (v, S')) (hfree : Free ρ S.next S'.next) :
    SOut C tb.ng B ρ w S S' v ((execOp g o).run C.P w) := by
  simp only [simple] at h
  obtain ⟨ti, e1, h1⟩ := lb h
  obtain ⟨i, hi, rfl⟩ := ht.ty _ _ e1
  cases hzz : (mkTI C.P e i).zero with
  | none => rw [hzz] at h1; exact (fail_inv h1).elim
  | some zz =>
    rw [hzz] at h1
    obtain ⟨hzs, h2⟩ := cond_inv h1
    obtain ⟨b, S1, h3, h4⟩ := bnd_inv h2
    obtain ⟨rfl, rfl⟩ := ret_inv h4
    obtain ⟨z, hz, hone, hsz⟩ := zs_spec hzs
    obtain ⟨hrel, hcw⟩ := zc_spec (P := C.P) (t := e) hz ρ C
    obtain ⟨ρ', w', r1, r2, r3, r4, r5, r6⟩ := alloc_ok hF hng h3 hfree hcw hrel hone
    refine ⟨ρ', .pointer (some ⟨w.heap.size, 0, none⟩), w', .inl ?_, ?_, r2, r3, r4⟩
    · have : (newRow e z.cells).run C.P w = .ok ⟨w.heap.size, 0, none⟩ w' := by simpa using r1
      simp [execOp, ho, Instr.alloc, zeroValue, run_info hi, hz, newVar, this]
    · simp only [Rel]; exact ⟨_, r5, rfl⟩
theorem s_box (hF : Fits C tb.ng B ρ S.heap w) (hng : tb.ng ≤ S.next) (hf : ∀ x, Rel C ρ (f x) (g x)) {e : Nat} {x : Operand} {o : Oper} (ho : o.op = .box e x) {v : AV} (h : simple tb f (.box e x) S = some (v, S')) (hfree : Free ρ S.next S'.next) :
    SOut C tb.ng B ρ w S S' v ((execOp g o).run C.P w) := by
  simp only [simple] at h
  obtain ⟨l, e1, h1⟩ := lb h
  obtain ⟨hs, h2⟩ := cond_inv h1
  obtain ⟨b, S1, h3, h4⟩ := bnd_inv h2
  obtain ⟨rfl, rfl⟩ := ret_inv h4
  have hrel := cellsOf_ok e1 (hf x)
  have hone : ∀ y ∈ (g x).cells.toList, y.oneCell' = true := fun y hy => by
    obtain ⟨j, hj, he⟩ := List.mem_iff_getElem.1 hy
    have hj' : j < l.length := by rw [← hrel.len]; exact hj
    obtain ⟨x', hx', hr'⟩ := hrel.get (List.getElem?_eq_getElem hj')
    rw [List.getElem?_eq_getElem hj, he] at hx'; injection hx' with hx'; subst hx'
    exact scal_one (List.all_eq_true.1 hs _ (List.getElem_mem hj')) hr'
  obtain ⟨ρ', w', r1, r2, r3, r4, r5, r6⟩ := alloc_ok hF hng h3 hfree (c := .l l) trivial hrel hone
  refine ⟨ρ', .pointer (some ⟨w.heap.size, 0, none⟩), w', .inl ?_, ?_, r2, r3, r4⟩
  · have : (newRow e (g x).cells).run C.P w = .ok ⟨w.heap.size, 0, none⟩ w' := by simpa using r1
    simp [execOp, ho, Instr.box, newVar, this]
  · simp only [Rel]; exact ⟨_, r5, rfl⟩
/- laying parts -/
theorem foldl_lay (off : Nat) : ∀ (vs : List Value) (i : Nat) (cs : Array Value), off + i + vs.length ≤ cs.size →
    ((vs.zipIdx i).foldl (fun cs (x : Value × Nat) => cs.setIfInBounds (off + x.2) x.1) cs).toList = layV cs.toList (off + i) vs := by
  intro vs
  induction vs with
  | nil => intro i cs h; simp [layV]
  | cons v vs ih =>
    intro i cs h
    simp only [List.length_cons] at h
    simp only [List.zipIdx_cons, List.foldl_cons]
    rw [ih (i + 1) _ (by simp; omega)]
    apply List.ext_getElem?
    intro j
    rw [layV_get _ _ _ _ (by simp; omega), layV_get _ _ _ _ (by simp; omega)]
    simp only [Array.toList_setIfInBounds, List.getElem?_set, Array.length_toList, List.length_cons]
    by_cases e1 : j < off + i
    · rw [if_pos (by omega), if_pos e1, if_neg (by omega)]
    · rw [if_neg e1]
      by_cases e2 : j = off + i
      · subst e2
        rw [if_pos (by omega), if_pos rfl, if_pos (by omega), if_pos (by omega)]; simp
      · rw [if_neg (by omega)]
        by_cases e3 : j < off + i + (vs.length + 1)
        · rw [if_pos (by omega), if_pos e3, show j - (off + i) = (j - (off + (i + 1))) + 1 by omega, List.getElem?_cons_succ]
        · rw [if_neg (by omega), if_neg e3, if_neg (by omega)]
theorem RelL.lay {l m : List AV} {vs us : List Value} (h : RelL C ρ l vs) (h' : RelL C ρ m us) {o : Nat} (ho : o + m.length ≤ l.length) : RelL C ρ (putL l o m) (layV vs o us) := by
  have e1 := h.len
  have e2 := h'.len
  rw [RelL.iff]
  refine ⟨by rw [putL_length _ _ _ (by omega), layV_length _ _ _ (by omega)]; omega, fun j a hj => ?_⟩
  rw [putL_get _ _ _ _ (by omega)] at hj
  rw [layV_get _ _ _ _ (by omega), e2]
  split at hj
  · rename_i h1; rw [if_pos h1]; exact h.get hj
  · rename_i h1; rw [if_neg h1]
    split at hj
    · rename_i h2; rw [if_pos h2]; exact h'.get hj
    · rename_i h2; rw [if_neg h2]; exact h.get hj
theorem fill_ok (hf : ∀ x, Rel C ρ (f x) (g x)) {pl : Nat → Option (Nat × Nat)} : ∀ (ps : List (Nat × Operand)) (c l : List AV) (cs : Array Value), RelL C ρ c cs.toList → fillC pl f c ps = some l →
    ∃ out : Array Value, Instr.fill pl cs (ps.map fun p => (p.1, g p.2)) = some out ∧ RelL C ρ l out.toList := by
  intro ps
  induction ps with
  | nil => intro c l cs hr h; simp only [fillC, Option.some.injEq] at h; subst h; exact ⟨cs, rfl, hr⟩
  | cons p ps ih =>
    obtain ⟨i, x⟩ := p
    intro c l cs hr h
    simp only [fillC] at h
    split at h
    · rename_i off sz m hp hm
      cases hc : (Nat.beq m.length sz && Nat.ble (Nat.add off sz) c.length) with
      | false => rw [hc] at h; cases h
      | true =>
        rw [hc] at h
        rw [Bool.and_eq_true] at hc
        have c1 := beq_inv hc.1
        have c2 := Nat.le_of_ble_eq_true hc.2
        have hrel := cellsOf_ok hm (hf x)
        have e1 := hrel.len
        have e2 := hr.len
        have c2 : off + sz ≤ c.length := c2
        have hsz : (g x).cells.size = m.length := by simpa using e1
        have hcs : cs.size = c.length := by simpa using e2
        have hlay := foldl_lay off (g x).cells.toList 0 cs (by simp only [Array.length_toList]; omega)
        obtain ⟨out, o1, o2⟩ := ih (putL c off m) l (((g x).cells.toList.zipIdx 0).foldl (fun cs (x : Value × Nat) => cs.setIfInBounds (off + x.2) x.1) cs)
          (by rw [hlay]; exact hr.lay hrel (by omega)) h
        refine ⟨out, ?_, o2⟩
        simp only [List.map_cons, Instr.fill, hp]
        have hif : (decide ((g x).cells.size ≠ sz) || decide (off + (g x).cells.size > cs.size)) = false := by
          simp only [Bool.or_eq_false_iff, decide_eq_false_iff_not]; omega
        rw [if_neg (by rw [hif]; simp)]
        rw [← o1]
        congr 1
        rw [← Array.foldl_toList]
        simp
    · cases h
end
end Go.AX
