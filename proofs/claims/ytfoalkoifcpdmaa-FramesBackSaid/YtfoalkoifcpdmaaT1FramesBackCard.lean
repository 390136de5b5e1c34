/- conduitlaw18.FramesBack holds, tied to the program's text: of any id, any pairs and any body the records, put together, are the pairs and the body again. Conditions: none beyond the statement. -/
import Derived.Test.YtfoalkoifcpdmaaT1FramesBackP
import Derived.Test.YtfoalkoifcpdmaaRows
import Derived.WalkKit
import Derived.ProofKit
import Derived.OpenShut
import Derived.Lib.SmallJoins
import Derived.ChangeMaps5
import Derived.Carry
import Derived.ChangeSlices
import Derived.SizedLaws
import Derived.Test.YtfoalkoifcpdmaaHKC
import Derived.Test.YtfoalkoifcpdmaaHKI
import Derived.Test.YtfoalkoifcpdmaaHKJ
namespace Go.Proofs.Ytfoalkoifcpdmaa.framesBack
open Go Go.AX Go.Proofs Go.Proofs.Ytfoalkoifcpdmaa
open Go.ChangeMaps
open Go.Joins
open Go.ChangeShapes Go.WideShapes Go.ChangeAt Go.RowKit
set_option linter.unusedVariables false
set_option linter.unusedSimpArgs false
theorem own : ownKnob Try.prog.godebug = none := by kernel_rfl
theorem getH0s {W : World} {blk base : Nat} {arr : Array Value} {tt : Nat} {fz : Nat × Nat} {s : ByteArray} (h : aB0 W) (hb : W.heap[blk]? = some (.cells arr tt fz)) (hn : arr[base]? = some (.string s)) : (H0 ).get blk = none := T.aD7 _
set_option maxRecDepth 100000 in
theorem lifted (os : Os) (started : os.Started) (H : Type) (enc : TypeId × Value → H) :
    ReturnsInHanded {} Try.checked os 4 .any (Rows.framesBackSpec.pre6 enc Try.prog Try.f4 Rows.framesBackRow.domain false) (Rows.framesBackSpec.post enc Try.prog Try.f4 false true false false) := by
  refine returnsInHanded_of_change (C := Try.checked) own started (by kernel_rfl) Try.func4
    (ChangeSpec.witness6 (enc := enc) (C := Try.checked) false ⟨#[], #[.int .u8 0, .slice none 0 0, .string ⟨#[]⟩], []⟩ 8 (by kernel_rfl) (by kernel_rfl) (by kernel_rfl) (by kernel_rfl)) ?_
  intro W base args ds gs before hval0 hW hcnd _
  have hval : ∀ (j : Nat) t v, Try.f4.params[j]? = some t → args[j]? = some v → Value.okWide Try.prog W .any base t v := hval0
  have hW' := hW
  obtain ⟨p, q, hA0, hV, rfl, hfz, hnd⟩ := hW
  have hA : DataW.TrodAll enc Try.prog W 0 (fun _ => true) true Try.f4.params.toList args.toList ds p := hA0
  rw [Try.params4] at hA hval
  obtain ⟨v0, vs0, d0, ds0, p0, q0, hargs, rfl, rfl, h0, r0⟩ := trodAll_cons hA
  obtain ⟨v1, vs1, d1, ds1, p1, q1, rfl, rfl, rfl, h1, r1⟩ := trodAll_cons r0
  obtain ⟨v2, vs2, d2, ds2, p2, q2, rfl, rfl, rfl, h2, r2⟩ := trodAll_cons r1
  obtain ⟨rfl, rfl, rfl⟩ := trodAll_nil r2
  obtain rfl : args = #[v0, v1, v2] := by cases args; simp_all
  obtain ⟨rfl, rfl⟩ := trodVars_none hV
  obtain ⟨a0, rfl, rfl, rfl, w0⟩ := open_int Try.underlying5 (hval 0 5 v0 rfl rfl) h0
  have wi0 : 0 ≤ a0 ∧ a0 ≤ 255 := intOf2 w0 rfl rfl
  obtain ⟨sa1, sn1, sc1, rfl⟩ := okWide_slice Try.underlying22 (hval 1 22 v1 rfl rfl)
  have hi1 := in_pairs Try.underlying22 Try.underlying25 (by kernel_rfl) rfl rfl (by kernel_rfl) (by kernel_rfl) (by kernel_rfl) (by kernel_rfl) h1
  obtain ⟨s2, rfl, rfl, rfl, ws2⟩ := open_string Try.underlying9 (hval 2 9 v2 rfl rfl) h2
  obtain ⟨l2, rfl⟩ : ∃ l : List UInt8, s2 = ⟨l.toArray⟩ := ⟨s2.data.toList, by cases s2; simp⟩
  have wl2 : l2.length ≤ 9223372036854775807 := by have h := ws2; unfold maxLen at h; simpa [ByteArray.size] using h
  have hlE : aB0 W := trivial
  have hw : CwR 4 #[.int .u8 a0, .slice sa1 sn1 sc1, St' l2] W (.bool true) := by
    rcases hi1 with e1 | ⟨ad1, e1⟩ | ⟨blk1, base1, es1, l1, e1, hwf1, hlen1, hes1, arr1, tt1, fz1, hb1, ⟨n01, hn01⟩, hc1⟩
    · rw [e1]
      exact walkE a0 none 0 l2 wi0.1 wi0.2 wl2 W hlE
    · rw [e1]
      exact walkE a0 (some ad1) 0 l2 wi0.1 wi0.2 wl2 W hlE
    · rw [e1]
      by_cases z1 : l1.length = 0
      · rw [z1]
        exact walkE a0 (some ⟨blk1, base1, none⟩) es1 l2 wi0.1 wi0.2 wl2 W hlE
      · skip
        exact walkR a0 blk1 base1 es1 l1 l2 wi0.1 wi0.2 (by omega) (fun n hn => by have h := hwf1 n hn; unfold maxLen at h; exact h) (by have h := hlen1; unfold maxLen at h; exact h) wl2 W hlE ⟨hes1, by decide, bD4 aD6 l1, arr1, tt1, fz1, hb1, hc1⟩ (getH0s hlE hb1 hn01)
  clear hA0 hval0
  simp only [List.append_nil, List.nil_append] at hW' hA
  refine hw.mono fun e W' ⟨he, hg⟩ => ?_
  subst he
  exact ⟨_, rfl, post_below (pa := p1) (pv := []) hW' (fun _ _ _ => (trodAll_cons_mk (shut_bool Try.underlying4 _) trodAll_mk0)) (fun sp hsp => bB8 (by kernel_rfl) hg (ts := [5, 22, 9]) (fun t ht => by simp only [List.mem_cons, List.not_mem_nil, or_false] at ht; rcases ht with rfl | rfl | rfl <;> exact ⟨by kernel_rfl, of_decide_eq_true (by kernel_rfl)⟩) hA (fun p hp => hW'.lt p hp) hsp) (fun _ _ => rfl) (List.append_nil _).symm
    hg (ok_one (by kernel_rfl) rfl (okWide_bool_mk Try.underlying4 _))⟩
theorem over : Rows.framesBackRow.holds Try.pinned (OpenSpec.ofChange Rows.framesBackSpec) :=
  OpenClaim.holds_of_wide 4 Try.f4 rfl rfl rfl rfl rfl rfl rfl ⟨rfl, rfl, rfl, rfl, rfl⟩ rfl rfl rfl rfl rfl (by kernel_rfl) Try.func4 (by kernel_rfl)
    (of_decide_eq_true (by kernel_rfl)) (by unfold Func.isWrapper; first | (rw [if_pos (by decide +kernel)]; kernel_rfl) | (rw [if_neg (by decide +kernel)]; exact ⟨rfl, rfl⟩))
    (fun os started H enc _ => lifted os started H enc)
theorem cardHolds : Rows.FramesBackSaid :=
  over
#print axioms cardHolds
end Go.Proofs.Ytfoalkoifcpdmaa.framesBack
