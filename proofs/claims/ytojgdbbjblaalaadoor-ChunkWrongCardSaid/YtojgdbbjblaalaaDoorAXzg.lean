/- A part of the proof: an interpreter of the model's own code on partly known states, and that what it answers is what the program answers. No condition of its own. -/
import Derived.Test.YtojgdbbjblaalaaDoorAXzf
import Derived.ChangeSame
set_option linter.unusedSimpArgs false
set_option linter.unusedVariables false
namespace Go.AX
open Go.RowKit (Below)
open Go.ChangeShapes Go.WideShapes
theorem Below.keptBut {w w' : World} (h : Below w.heap.size w w') (may : MemPlace → Prop) : w.keptBut w' may := by
  refine World.keptBut_mono (may := fun _ => False) (fun _ f => f.elim) ⟨h.os, h.output, fun i hi => ?_⟩
  have hk := (World.keptBut_refl w (fun _ => False)).2.2 i hi
  rw [h.block i hi]; exact hk
/-- what was there is as it was: the row's end -/
theorem post_below {H : Type} {enc : TypeId × Value → H} {P : Program} {f : Func} {s : ChangeSpec} {apart fresh handsOn again : Bool} {W W' : World} {args : Array Value} {v : Value} {ds gs : List (DataW H)} {old pa pv : List MemPlace}
    (hW : DataW.Whole enc P f.params.toList s.vars apart W args.toList ds gs old)
    (hr : ∀ (b : Nat) (sp : Nat → Bool) (hd : Bool), DataW.TrodAll enc P W' b sp hd f.resultTypes.toList (v.resultList f.resultTypes.size) (s.fn H (ds ++ gs)).results [])
    (ha : ∀ sp : Nat → Bool, (∀ p ∈ old, sp p.block = true) → DataW.TrodAll enc P W' 0 sp true f.params.toList args.toList (s.fn H (ds ++ gs)).args pa)
    (hv : ∀ sp : Nat → Bool, (∀ p ∈ old, sp p.block = true) → DataW.TrodVars enc P W' sp s.vars (s.fn H (ds ++ gs)).vars pv)
    (hp : old = pa ++ pv) (hb : Below W.heap.size W W')
    (hok : ∀ (j : Nat) (t : TypeId) (r : Value), f.resultTypes[j]? = some t → (v.resultList f.resultTypes.size)[j]? = some r → Value.okWide P W' .any 0 t r) :
    s.post enc P f apart fresh handsOn again W args v W' := by
  have hlt : ∀ p ∈ old, decide (p.block < W.heap.size) = true := fun p h => decide_eq_true (hW.lt p h)
  have hkeep : W.keptBut W' (fun p => p ∈ old ∧ (p ∈ ([] : List MemPlace) ∨ p ∈ pa ∨ p ∈ pv)) := Below.keptBut hb _
  have hfz : ∀ p : MemPlace, p ∈ old → ∀ off, W'.frozen? ⟨p.block, off, none⟩ = W.frozen? ⟨p.block, off, none⟩ := fun p h off => by
    unfold World.frozen?
    simp only [hb.block _ (hW.lt p h)]
  refine ⟨ds, gs, old, [], pa, pv, hW, hr _ _ _, ha _ hlt, hv _ hlt, hkeep, fun _ => ?_⟩
  obtain ⟨_, _, _, _, _, hz, hn⟩ := hW
  have hpp : ([] ++ pa) ++ pv = old := by rw [hp]; rfl
  refine ⟨hok, _, _, ([] ++ pa) ++ pv, ⟨[] ++ pa, pv, trodAll_append (ha _ (fun _ _ => rfl)) (hr _ _ _), hv _ (fun _ _ => rfl), rfl, fun b off hm => ?_, fun hh => ?_⟩, fun p hm _ => ?_⟩
  · rw [hpp] at hm
    exact (hfz _ hm off).trans (hz b off hm)
  · rw [hpp]; exact hn hh
  · rw [hpp] at hm; exact hm
end Go.AX
