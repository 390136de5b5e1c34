/- conduitlaw19.LaneGrammar holds: for any body and any row of steps the law answers true and leaves what was there as it was. Conditions: none beyond the statement. -/
import Derived.Test.YtgimfcnobfelbaaL1LaneGrammarP
import Derived.Test.YtgimfcnobfelbaaRows
import Derived.WalkKit
import Derived.ProofKit
import Derived.OpenShut
import Derived.ChangeMaps5
import Derived.Carry
import Derived.ChangeSlices
import Derived.Test.YtgimfcnobfelbaaHKC
import Derived.Test.YtgimfcnobfelbaaHKH
namespace Go.Proofs.Ytgimfcnobfelbaa.laneGrammar
open Go Go.AX Go.Proofs Go.Proofs.Ytgimfcnobfelbaa
open Go.ChangeMaps
open Go.ChangeShapes Go.WideShapes Go.ChangeAt Go.RowKit
set_option linter.unusedVariables false
set_option linter.unusedSimpArgs false
theorem own : ownKnob Try.prog.godebug = none := by kernel_rfl
theorem getH0 {W : World} {blk base : Nat} {arr : Array Value} {tt : Nat} {fz : Nat × Nat} {k : IntKind} {n : Int} (h : laidE W) (hb : W.heap[blk]? = some (.cells arr tt fz)) (hn : arr[base]? = some (.int k n)) : (H0 ).get blk = none := T.get_leaf _
set_option maxRecDepth 100000 in
theorem lifted (os : Os) (started : os.Started) (H : Type) (enc : TypeId × Value → H) :
    ReturnsInHanded {} Try.checked os 3 .any (Rows.laneGrammarSpec.pre6 enc Try.prog Try.f3 Rows.laneGrammarRow.domain false) (Rows.laneGrammarSpec.post enc Try.prog Try.f3 false true false false) := by
  refine returnsInHanded_of_change (C := Try.checked) own started (by kernel_rfl) Try.func3
    (ChangeSpec.witness6 (enc := enc) (C := Try.checked) false ⟨#[], #[.string ⟨#[]⟩, .slice none 0 0], []⟩ 8 (by kernel_rfl) (by kernel_rfl) (by kernel_rfl) (by kernel_rfl)) ?_
  intro W base args ds gs before hval0 hW hcnd _
  have hval : ∀ (j : Nat) t v, Try.f3.params[j]? = some t → args[j]? = some v → Value.okWide Try.prog W .any base t v := hval0
  have hW' := hW
  obtain ⟨p, q, hA0, hV, rfl, hfz, hnd⟩ := hW
  have hA : DataW.TrodAll enc Try.prog W 0 (fun _ => true) true Try.f3.params.toList args.toList ds p := hA0
  rw [Try.params3] at hA hval
  obtain ⟨v0, vs0, d0, ds0, p0, q0, hargs, rfl, rfl, h0, r0⟩ := trodAll_cons hA
  obtain ⟨v1, vs1, d1, ds1, p1, q1, rfl, rfl, rfl, h1, r1⟩ := trodAll_cons r0
  obtain ⟨rfl, rfl, rfl⟩ := trodAll_nil r1
  obtain rfl : args = #[v0, v1] := by cases args; simp_all
  obtain ⟨rfl, rfl⟩ := trodVars_none hV
  obtain ⟨s0, rfl, rfl, rfl, ws0⟩ := open_string Try.underlying9 (hval 0 9 v0 rfl rfl) h0
  obtain ⟨l0, rfl⟩ : ∃ l : List UInt8, s0 = ⟨l.toArray⟩ := ⟨s0.data.toList, by cases s0; simp⟩
  have wl0 : l0.length ≤ 9223372036854775807 := by have h := ws0; unfold maxLen at h; simpa [ByteArray.size] using h
  obtain ⟨sa0, sn0, sc0, rfl⟩ := okWide_slice Try.underlying22 (hval 1 22 v1 rfl rfl)
  have hi0 := in_steps Try.underlying22 Try.underlying34 (by kernel_rfl) rfl rfl (by kernel_rfl) (by kernel_rfl) (by kernel_rfl) Try.underlying32 rfl rfl rfl rfl (by kernel_rfl) (by kernel_rfl) (by kernel_rfl) (by kernel_rfl) (by kernel_rfl) (by kernel_rfl) (by kernel_rfl) (by kernel_rfl) h1
  have hlE : laidE W := trivial
  have hw : CwR 3 #[St' l0, .slice sa0 sn0 sc0] W (.bool true) := by
    rcases hi0 with e0 | ⟨ad, e0⟩ | ⟨blk, base, es, l, e0, hwf, hlen, hes, arr, tt, fz, hb, ⟨n0, hn0⟩, hc⟩
    · rw [e0]; exact walkN l0 wl0 W hlE
    · rw [e0]; exact walkE l0 ad wl0 W hlE
    · rw [e0]
      exact walkR l0 blk base es l wl0 (fun n hn => stB_of (hwf n hn)) (by have h := hlen; unfold maxLen at h; exact h) W hlE ⟨hes, by decide, flat_len stC_len l, arr, tt, fz, hb, hc⟩ (getH0 hlE hb hn0)
  clear hA0 hval0
  simp only [List.append_nil, List.nil_append] at hW' hA
  refine hw.mono fun e W' ⟨he, hg⟩ => ?_
  subst he
  exact ⟨_, rfl, post_below (pa := p1) (pv := []) hW' (fun _ _ _ => (trodAll_cons_mk (shut_bool Try.underlying4 _) trodAll_mk0)) (fun sp hsp => trodAll_stays (by kernel_rfl) hg (ts := [9, 22]) (fun t ht => by simp only [List.mem_cons, List.not_mem_nil, or_false] at ht; rcases ht with rfl | rfl <;> exact ⟨by kernel_rfl, of_decide_eq_true (by kernel_rfl)⟩) hA (fun p hp => hW'.lt p hp) hsp) (fun _ _ => rfl) (List.append_nil _).symm
    hg (ok_one (by kernel_rfl) rfl (okWide_bool_mk Try.underlying4 _))⟩
theorem over : Rows.laneGrammarRow.holds Try.pinned (OpenSpec.ofChange Rows.laneGrammarSpec) :=
  OpenClaim.holds_of_wide 3 Try.f3 rfl rfl rfl rfl rfl rfl rfl ⟨rfl, rfl, rfl, rfl, rfl⟩ rfl rfl rfl rfl rfl (by kernel_rfl) Try.func3 (by kernel_rfl)
    (of_decide_eq_true (by kernel_rfl)) (by unfold Func.isWrapper; first | (rw [if_pos (by decide +kernel)]; kernel_rfl) | (rw [if_neg (by decide +kernel)]; exact ⟨rfl, rfl⟩))
    (fun os started H enc _ => lifted os started H enc)
theorem cardHolds : Rows.LaneGrammarSaid :=
  over
#print axioms cardHolds
end Go.Proofs.Ytgimfcnobfelbaa.laneGrammar
