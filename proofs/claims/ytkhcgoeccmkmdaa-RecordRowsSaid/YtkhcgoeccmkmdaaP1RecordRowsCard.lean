/- conduitlaw2.RecordRows holds: for any row of records the law answers true and leaves what was there as it was. Conditions: none beyond the statement. -/
import Derived.Test.YtkhcgoeccmkmdaaP1RecordRowsP
import Derived.Test.YtkhcgoeccmkmdaaRows
import Derived.WalkKit
import Derived.ProofKit
import Derived.OpenShut
import Derived.Carry
import Derived.ChangeSlices
import Derived.Test.YtkhcgoeccmkmdaaHKC
import Derived.Test.YtkhcgoeccmkmdaaHKG
namespace Go.Proofs.Ytkhcgoeccmkmdaa.recordRows
open Go Go.AX Go.Proofs Go.Proofs.Ytkhcgoeccmkmdaa
open Go.ChangeShapes Go.WideShapes Go.ChangeAt Go.RowKit
set_option linter.unusedVariables false
set_option linter.unusedSimpArgs false
theorem own : ownKnob Try.prog.godebug = none := by kernel_rfl
theorem getH0 {W : World} {blk base : Nat} {arr : Array Value} {tt : Nat} {fz : Nat × Nat} {k : IntKind} {n : Int} (h : laidE W) (hb : W.heap[blk]? = some (.cells arr tt fz)) (hn : arr[base]? = some (.int k n)) : (H0 ).get blk = none := T.get_leaf _
set_option maxRecDepth 100000 in
theorem lifted (os : Os) (started : os.Started) (H : Type) (enc : TypeId × Value → H) :
    ReturnsInHanded {} Try.checked os 3 .any (Rows.recordRowsSpec.pre6 enc Try.prog Try.f3 Rows.recordRowsRow.domain false) (Rows.recordRowsSpec.post enc Try.prog Try.f3 false true false false) := by
  refine returnsInHanded_of_change (C := Try.checked) own started (by kernel_rfl) Try.func3
    (ChangeSpec.witness6 (enc := enc) (C := Try.checked) false ⟨#[], #[.slice none 0 0], []⟩ 8 (by kernel_rfl) (by kernel_rfl) (by kernel_rfl) (by kernel_rfl)) ?_
  intro W base args ds gs before hval0 hW hcnd _
  have hval : ∀ (j : Nat) t v, Try.f3.params[j]? = some t → args[j]? = some v → Value.okWide Try.prog W .any base t v := hval0
  have hW' := hW
  obtain ⟨p, q, hA0, hV, rfl, hfz, hnd⟩ := hW
  have hA : DataW.TrodAll enc Try.prog W 0 (fun _ => true) true Try.f3.params.toList args.toList ds p := hA0
  rw [Try.params3] at hA hval
  obtain ⟨v0, vs0, d0, ds0, p0, q0, hargs, rfl, rfl, h0, r0⟩ := trodAll_cons hA
  obtain ⟨rfl, rfl, rfl⟩ := trodAll_nil r0
  obtain rfl : args = #[v0] := by cases args; simp_all
  obtain ⟨rfl, rfl⟩ := trodVars_none hV
  obtain ⟨sa0, sn0, sc0, rfl⟩ := okWide_slice Try.underlying22 (hval 0 22 v0 rfl rfl)
  have hi0 := in_recs Try.underlying22 Try.underlying25 (by kernel_rfl) rfl rfl rfl rfl (by kernel_rfl) (by kernel_rfl) (by kernel_rfl) (by kernel_rfl) (by kernel_rfl) (by kernel_rfl) (by kernel_rfl) (by kernel_rfl) h0
  have hlE : laidE W := trivial
  have hw : CwR 3 #[.slice sa0 sn0 sc0] W (.bool true) := by
    rcases hi0 with e0 | ⟨ad, e0⟩ | ⟨blk, base, es, l, e0, hwf, hlen, hes, arr, tt, fz, hb, ⟨n0, hn0⟩, hc⟩
    · rw [e0]; exact walkN   W hlE
    · rw [e0]; exact walkE ad  W hlE
    · rw [e0]
      exact walkR blk base es l (fun n hn => reB_of (hwf n hn)) (by have h := hlen; unfold maxLen at h; exact h) W hlE ⟨hes, by decide, flat_len reC_len l, arr, tt, fz, hb, hc⟩ (getH0 hlE hb hn0)
  clear hA0 hval0
  simp only [List.append_nil, List.nil_append] at hW' hA
  refine hw.mono fun e W' ⟨he, hg⟩ => ?_
  subst he
  exact ⟨_, rfl, post_below (pa := p0) (pv := []) hW' (fun _ _ _ => (trodAll_cons_mk (shut_bool Try.underlying4 _) trodAll_mk0)) (fun sp hsp => trodAll_stays (by kernel_rfl) hg (ts := [22]) (fun t ht => by simp only [List.mem_cons, List.not_mem_nil, or_false] at ht; rcases ht with rfl <;> exact ⟨by kernel_rfl, of_decide_eq_true (by kernel_rfl)⟩) hA (fun p hp => hW'.lt p hp) hsp) (fun _ _ => rfl) (List.append_nil _).symm
    hg (ok_one (by kernel_rfl) rfl (okWide_bool_mk Try.underlying4 _))⟩
theorem over : Rows.recordRowsRow.holds Try.pinned (OpenSpec.ofChange Rows.recordRowsSpec) :=
  OpenClaim.holds_of_wide 3 Try.f3 rfl rfl rfl rfl rfl rfl rfl ⟨rfl, rfl, rfl, rfl, rfl⟩ rfl rfl rfl rfl rfl (by kernel_rfl) Try.func3 (by kernel_rfl)
    (of_decide_eq_true (by kernel_rfl)) (by unfold Func.isWrapper; first | (rw [if_pos (by decide +kernel)]; kernel_rfl) | (rw [if_neg (by decide +kernel)]; exact ⟨rfl, rfl⟩))
    (fun os started H enc _ => lifted os started H enc)
theorem cardHolds : Rows.RecordRowsSaid :=
  over
#print axioms cardHolds
end Go.Proofs.Ytkhcgoeccmkmdaa.recordRows
