/- conduitlaw18.FramesTells holds, tied to the program's text: of any type, any id, any pairs and any body the records are those of the reference. Conditions: none beyond the statement. -/
import Derived.Test.YtfoalkoifcpdmaaT1FramesTellsP
import Derived.Test.YtfoalkoifcpdmaaRows
import Derived.WalkKit
import Derived.ProofKit
import Derived.OpenShut
import Derived.Lib.SmallJoins
import Derived.ChangeMaps5
import Derived.Carry
import Derived.ChangeSlices
import Derived.SizedLaws
import Derived.Test.YtfoalkoifcpdmaaHKC
import Derived.Test.YtfoalkoifcpdmaaHKI
import Derived.Test.YtfoalkoifcpdmaaHKJ
namespace Go.Proofs.Ytfoalkoifcpdmaa.framesTells
open Go Go.AX Go.Proofs Go.Proofs.Ytfoalkoifcpdmaa
open Go.ChangeMaps
open Go.Joins
open Go.ChangeShapes Go.WideShapes Go.ChangeAt Go.RowKit
set_option linter.unusedVariables false
set_option linter.unusedSimpArgs false
theorem own : ownKnob Try.prog.godebug = none := by kernel_rfl
theorem getH0s {W : World} {blk base : Nat} {arr : Array Value} {tt : Nat} {fz : Nat × Nat} {s : ByteArray} (h : aA5 W) (hb : W.heap[blk]? = some (.cells arr tt fz)) (hn : arr[base]? = some (.string s)) : (H0 ).get blk = none := T.aC1 _
set_option maxRecDepth 100000 in
theorem lifted (os : Os) (started : os.Started) (H : Type) (enc : TypeId × Value → H) :
    ReturnsInHanded {} Try.checked os 3 .any (Rows.framesTellsSpec.pre6 enc Try.prog Try.f3 Rows.framesTellsRow.domain false) (Rows.framesTellsSpec.post enc Try.prog Try.f3 false true false false) := by
  refine returnsInHanded_of_change (C := Try.checked) own started (by kernel_rfl) Try.func3
    (ChangeSpec.witness6 (enc := enc) (C := Try.checked) false ⟨#[], #[.int .i64 0, .int .i64 0, .slice none 0 0, .string ⟨#[]⟩], []⟩ 8 (by kernel_rfl) (by kernel_rfl) (by kernel_rfl) (by kernel_rfl)) ?_
  intro W base args ds gs before hval0 hW hcnd _
  have hval : ∀ (j : Nat) t v, Try.f3.params[j]? = some t → args[j]? = some v → Value.okWide Try.prog W .any base t v := hval0
  have hW' := hW
  obtain ⟨p, q, hA0, hV, rfl, hfz, hnd⟩ := hW
  have hA : DataW.TrodAll enc Try.prog W 0 (fun _ => true) true Try.f3.params.toList args.toList ds p := hA0
  rw [Try.params3] at hA hval
  obtain ⟨v0, vs0, d0, ds0, p0, q0, hargs, rfl, rfl, h0, r0⟩ := trodAll_cons hA
  obtain ⟨v1, vs1, d1, ds1, p1, q1, rfl, rfl, rfl, h1, r1⟩ := trodAll_cons r0
  obtain ⟨v2, vs2, d2, ds2, p2, q2, rfl, rfl, rfl, h2, r2⟩ := trodAll_cons r1
  obtain ⟨v3, vs3, d3, ds3, p3, q3, rfl, rfl, rfl, h3, r3⟩ := trodAll_cons r2
  obtain ⟨rfl, rfl, rfl⟩ := trodAll_nil r3
  obtain rfl : args = #[v0, v1, v2, v3] := by cases args; simp_all
  obtain ⟨rfl, rfl⟩ := trodVars_none hV
  obtain ⟨a0, rfl, rfl, rfl, w0⟩ := open_int Try.underlying3 (hval 0 3 v0 rfl rfl) h0
  have wi0 : -9223372036854775808 ≤ a0 ∧ a0 ≤ 9223372036854775807 := intOf2 w0 rfl rfl
  obtain ⟨a1, rfl, rfl, rfl, w1⟩ := open_int Try.underlying3 (hval 1 3 v1 rfl rfl) h1
  have wi1 : -9223372036854775808 ≤ a1 ∧ a1 ≤ 9223372036854775807 := intOf2 w1 rfl rfl
  obtain ⟨sa2, sn2, sc2, rfl⟩ := okWide_slice Try.underlying22 (hval 2 22 v2 rfl rfl)
  have hi2 := in_pairs Try.underlying22 Try.underlying25 (by kernel_rfl) rfl rfl (by kernel_rfl) (by kernel_rfl) (by kernel_rfl) (by kernel_rfl) h2
  obtain ⟨s3, rfl, rfl, rfl, ws3⟩ := open_string Try.underlying9 (hval 3 9 v3 rfl rfl) h3
  obtain ⟨l3, rfl⟩ : ∃ l : List UInt8, s3 = ⟨l.toArray⟩ := ⟨s3.data.toList, by cases s3; simp⟩
  have wl3 : l3.length ≤ 9223372036854775807 := by have h := ws3; unfold maxLen at h; simpa [ByteArray.size] using h
  have hlE : aA5 W := trivial
  have hw : CwR 3 #[.int .i64 a0, .int .i64 a1, .slice sa2 sn2 sc2, St' l3] W (.bool true) := by
    rcases hi2 with e2 | ⟨ad2, e2⟩ | ⟨blk2, base2, es2, l2, e2, hwf2, hlen2, hes2, arr2, tt2, fz2, hb2, ⟨n02, hn02⟩, hc2⟩
    · rw [e2]
      exact walkE a0 a1 none 0 l3 wi0.1 wi0.2 wi1.1 wi1.2 wl3 W hlE
    · rw [e2]
      exact walkE a0 a1 (some ad2) 0 l3 wi0.1 wi0.2 wi1.1 wi1.2 wl3 W hlE
    · rw [e2]
      by_cases z2 : l2.length = 0
      · rw [z2]
        exact walkE a0 a1 (some ⟨blk2, base2, none⟩) es2 l3 wi0.1 wi0.2 wi1.1 wi1.2 wl3 W hlE
      · skip
        exact walkR a0 a1 blk2 base2 es2 l2 l3 wi0.1 wi0.2 wi1.1 wi1.2 (by omega) (fun n hn => by have h := hwf2 n hn; unfold maxLen at h; exact h) (by have h := hlen2; unfold maxLen at h; exact h) wl3 W hlE ⟨hes2, by decide, aT8 aD0 l2, arr2, tt2, fz2, hb2, hc2⟩ (getH0s hlE hb2 hn02)
  clear hA0 hval0
  simp only [List.append_nil, List.nil_append] at hW' hA
  refine hw.mono fun e W' ⟨he, hg⟩ => ?_
  subst he
  exact ⟨_, rfl, post_below (pa := p2) (pv := []) hW' (fun _ _ _ => (trodAll_cons_mk (shut_bool Try.underlying4 _) trodAll_mk0)) (fun sp hsp => aS6 (by kernel_rfl) hg (ts := [3, 3, 22, 9]) (fun t ht => by simp only [List.mem_cons, List.not_mem_nil, or_false] at ht; rcases ht with rfl | rfl | rfl | rfl <;> exact ⟨by kernel_rfl, of_decide_eq_true (by kernel_rfl)⟩) hA (fun p hp => hW'.lt p hp) hsp) (fun _ _ => rfl) (List.append_nil _).symm
    hg (ok_one (by kernel_rfl) rfl (okWide_bool_mk Try.underlying4 _))⟩
theorem over : Rows.framesTellsRow.holds Try.pinned (OpenSpec.ofChange Rows.framesTellsSpec) :=
  OpenClaim.holds_of_wide 3 Try.f3 rfl rfl rfl rfl rfl rfl rfl ⟨rfl, rfl, rfl, rfl, rfl⟩ rfl rfl rfl rfl rfl (by kernel_rfl) Try.func3 (by kernel_rfl)
    (of_decide_eq_true (by kernel_rfl)) (by unfold Func.isWrapper; first | (rw [if_pos (by decide +kernel)]; kernel_rfl) | (rw [if_neg (by decide +kernel)]; exact ⟨rfl, rfl⟩))
    (fun os started H enc _ => lifted os started H enc)
theorem cardHolds : Rows.FramesTellsSaid :=
  over
#print axioms cardHolds
end Go.Proofs.Ytfoalkoifcpdmaa.framesTells
