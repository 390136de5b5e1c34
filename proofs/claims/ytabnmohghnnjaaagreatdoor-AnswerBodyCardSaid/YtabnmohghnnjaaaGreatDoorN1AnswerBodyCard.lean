/- conduitlaw22.AnswerBody holds, tied to the program's text: for any body, any row of bytes and any two choices the law answers true and leaves what was there as it was. Conditions: the row's own (the listed package variables are laid as the program's text lays them). -/
import Derived.Test.YtabnmohghnnjaaaGreatDoorN1AnswerBodyP
import Derived.Test.YtabnmohghnnjaaaGreatDoorRows
import Derived.Test.YtabnmohghnnjaaaGreatDoorCards
import Derived.Test.YtabnmohghnnjaaaGreatDoorTie
import Derived.SevenTiedAt
import Derived.ChangeVars
import Derived.JoinedOf
import Derived.RowKit
import Derived.RowKitTokens
import Derived.LaidLaws
import Derived.LaidHandle
import Derived.Stop.Joined
import Derived.WalkKit
import Derived.ProofKit
import Derived.OpenShut
import Derived.Lib.SmallJoins
import Derived.ChangeMaps5
import Derived.Carry
import Derived.ChangeSlices
import Derived.SizedLaws
import Derived.Test.YtabnmohghnnjaaaGreatDoorHKC
import Derived.Test.YtabnmohghnnjaaaGreatDoorHKA
import Derived.Lay
import Derived.LaidOnce
namespace Go.Proofs.YtabnmohghnnjaaaGreatDoor.answerBody
open Go Go.AX Go.Proofs Go.Proofs.YtabnmohghnnjaaaGreatDoor
open Go.ChangeMaps
open Go.Joins
open Go.ChangeShapes Go.WideShapes Go.ChangeAt Go.RowKit
set_option linter.unusedVariables false
set_option linter.unusedSimpArgs false
set_option maxRecDepth 100000
theorem own : ownKnob Tryz.prog.godebug = none := by kernel_rfl
theorem et : Tryz.prog.globalNamed "errors.errorType" = some 0 := by kernel_rfl
theorem rt : (Tryz.prog.cutTypes.find? (·.1 == "internal/reflectlite.rtype")).map (·.2) = some 113 := by kernel_rfl
theorem oneRow : ((List.range Tryz.prog.types.size).filter fun t => Tryz.prog.rowNamed t [101, 114, 114, 111, 114]) = [36] := by kernel_rfl
theorem t189 : Tryz.prog.underlying 189 = some (.array 20 102) := by kernel_rfl
theorem t102 : Tryz.prog.underlying 102 = some (.int .u64) := by kernel_rfl
theorem t207 : Tryz.prog.underlying 207 = some (.array 64 5) := by kernel_rfl
theorem t5 : Tryz.prog.underlying 5 = some (.int .u8) := by kernel_rfl
def dataL : List (String × DataW Unit) := [("math/bits.deBruijn32tab", Rows.laid_math_bits_deBruijn32tab), ("math/bits.deBruijn64tab", Rows.laid_math_bits_deBruijn64tab), ("internal/strconv.uint64pow10", Rows.laid_internal_strconv_uint64pow10), ("unicode/utf8.acceptRanges", Rows.laid_unicode_utf8_acceptRanges), ("unicode/utf8.first", Rows.laid_unicode_utf8_first)]
theorem laidMet_from {P : Program} {w0 : World} {laid : List (String × DataW Unit)} (args : Array Value)
    (hf : w0.layFits P laid [] = true)
    (hi : w0.layIfaces P laid (w0.layVars P laid) = true) :
    laidMet P laid ((w0.layVars P laid).forCall (fun _ _ => 0) ⟨#[], args, []⟩).memory := by
  have e1 : (laid.filter fun x => (laid.map (·.1)).contains x.1) = laid := List.filter_eq_self.2 fun x hx => List.contains_iff_mem.2 (List.mem_map.2 ⟨x, hx, rfl⟩)
  have e2 : (laid.filter fun x => !(laid.map (·.1)).contains x.1) = [] := List.filter_eq_nil_iff.2 fun x hx => by rw [List.contains_iff_mem.2 (List.mem_map.2 ⟨x, hx, rfl⟩)]; simp
  have h : laidMet P laid (w0.layVars P laid) := laidMet_layVars (w0 := w0) (laid.map (·.1)) [] (by rw [e1]) (by rw [e1]; exact hf) (by rw [e1]; exact hi) (by rw [e2]; exact LaidIn.none)
  exact h.of_heap (by simp [World.memory, World.forCall, Input.heap])
noncomputable def w0m (os : Os) : World :=
  let w0 := World.holding Tryz.prog os ⟨#[], #[], []⟩
  { w0 with heap := w0.heap.modify 0 fun
      | .cells _ t frozen => .cells #[.iface 113 (.agg #[typeHandle Tryz.prog 36])] t frozen
      | o => o }
noncomputable def laidWorld (os : Os) : World := (w0m os).layVars Tryz.prog dataL
theorem laidWorld_met (os : Os) (args : Array Value) : laidMetH Tryz.prog Rows.answerBodyRow.laid ((laidWorld os).forCall (fun _ _ => 0) ⟨#[], args, []⟩).memory :=
  laidMetH_of_parts (laidMet_from (w0 := w0m os) (laid := dataL) args (by kernel_rfl) (by kernel_rfl)) (by kernel_rfl)
theorem lifted (os : Os) (started : os.Started) (H : Type) (enc : TypeId × Value → H) :
    ReturnsInHanded {} Tryz.checked os 4 .any (fun w args => (Rows.answerBodySpec.pre enc Tryz.prog Tryz.f4 [] false w args ∧ laidMetH Tryz.prog Rows.answerBodyRow.laid w) ∧ sizedMet enc Tryz.prog Tryz.f4 (OpenSpec.ofChange Rows.answerBodySpec) false w args)
      (Rows.answerBodySpec.post enc Tryz.prog Tryz.f4 false true false false) := by
  refine returnsInHanded_of_change_and (C := Tryz.checked) (X := fun w _ => laidMetH Tryz.prog Rows.answerBodyRow.laid w) (fun _ _ _ hh h => h.of_heap hh) own started (by kernel_rfl) Tryz.func4
    (ChangeSpec.witness_shaped (enc := enc) (C := Tryz.checked) (os := os) (X := fun w _ => laidMetH Tryz.prog Rows.answerBodyRow.laid w) false (laidWorld os) #[.string ⟨#[]⟩, .slice none 0 0, .bool false, .bool false] 8 (World.layVars_os _ _ _)
      (World.shaped_of_ZipB (by kernel_rfl) (by kernel_rfl)) (by kernel_rfl) (by kernel_rfl) (by kernel_rfl) (laidWorld_met os _)) ?_
  intro W base args ds gs before hval0 hW hcnd hSz hL _
  have hval : ∀ (j : Nat) t v, Tryz.f4.params[j]? = some t → args[j]? = some v → Value.okWide Tryz.prog W .any base t v := hval0
  have hW' := hW
  have hL' : laidMet Tryz.prog dataL W ∧ handlesMet Tryz.prog [("errors.errorType", Rows.laid_errors_errorType)] W := hL
  have hL1 := hL'.1
  have hL2 := hL'.2
  have hlE : laidE W := ⟨laid_arr (zs := zs1) hL1 (.tail _ (.tail _ (.head _))) (by kernel_rfl) (by kernel_rfl) t189 (by kernel_rfl) (by kernel_rfl) t102, laid_arr (zs := zs6) hL1 (.tail _ (.head _)) (by kernel_rfl) (by kernel_rfl) t207 (by kernel_rfl) (by kernel_rfl) t5⟩
  obtain ⟨p, q, hA0, hV, rfl, hfz, hnd⟩ := hW
  have hA : DataW.TrodAll enc Tryz.prog W 0 (fun _ => true) true Tryz.f4.params.toList args.toList ds p := hA0
  rw [Tryz.params4] at hA hval
  obtain ⟨v0, vs0, d0, ds0, p0, q0, hargs, rfl, rfl, h0, r0⟩ := trodAll_cons hA
  obtain ⟨v1, vs1, d1, ds1, p1, q1, rfl, rfl, rfl, h1, r1⟩ := trodAll_cons r0
  obtain ⟨v2, vs2, d2, ds2, p2, q2, rfl, rfl, rfl, h2, r2⟩ := trodAll_cons r1
  obtain ⟨v3, vs3, d3, ds3, p3, q3, rfl, rfl, rfl, h3, r3⟩ := trodAll_cons r2
  obtain ⟨rfl, rfl, rfl⟩ := trodAll_nil r3
  obtain rfl : args = #[v0, v1, v2, v3] := by cases args; simp_all
  obtain ⟨rfl, rfl⟩ := trodVars_none hV
  obtain ⟨s0, rfl, rfl, rfl, ws0⟩ := open_string Tryz.underlying9 (hval 0 9 v0 rfl rfl) h0
  obtain ⟨l0, rfl⟩ : ∃ l : List UInt8, s0 = ⟨l.toArray⟩ := ⟨s0.data.toList, by cases s0; simp⟩
  have wl0 : l0.length ≤ 9223372036854775807 := by have h := ws0; unfold maxLen at h; simpa [ByteArray.size] using h
  obtain ⟨sa1, sn1, sc1, rfl⟩ := okWide_slice Tryz.underlying22 (hval 1 22 v1 rfl rfl)
  have hi1 := in_ints Tryz.underlying22 Tryz.underlying5 (by kernel_rfl) h1
  obtain ⟨a2, rfl, rfl, rfl⟩ := open_bool Tryz.underlying4 (hval 2 4 v2 rfl rfl) h2
  obtain ⟨a3, rfl, rfl, rfl⟩ := open_bool Tryz.underlying4 (hval 3 4 v3 rfl rfl) h3
  have hw : CwR 4 #[St' l0, .slice sa1 sn1 sc1, .bool a2, .bool a3] W (.bool true) := by
    rcases hi1 with e1 | ⟨ad1, e1⟩ | ⟨blk1, base1, es1, l1, e1, hwf1, hlen1, hes1, arr1, tt1, fz1, hb1, ⟨n01, hn01⟩, hc1⟩
    · rw [e1]
      cases a2 with
      | true =>
        cases a3 with
        | true =>
          exact walkETT l0 none 0 wl0 W hlE
        | false =>
          exact walkETF l0 none 0 wl0 W hlE
      | false =>
        cases a3 with
        | true =>
          exact walkEFT l0 none 0 wl0 W hlE
        | false =>
          exact walkEFF l0 none 0 wl0 W hlE
    · rw [e1]
      cases a2 with
      | true =>
        cases a3 with
        | true =>
          exact walkETT l0 (some ad1) 0 wl0 W hlE
        | false =>
          exact walkETF l0 (some ad1) 0 wl0 W hlE
      | false =>
        cases a3 with
        | true =>
          exact walkEFT l0 (some ad1) 0 wl0 W hlE
        | false =>
          exact walkEFF l0 (some ad1) 0 wl0 W hlE
    · rw [e1]
      by_cases z1 : l1.length = 0
      · rw [z1]
        cases a2 with
        | true =>
          cases a3 with
          | true =>
            exact walkETT l0 (some ⟨blk1, base1, none⟩) es1 wl0 W hlE
          | false =>
            exact walkETF l0 (some ⟨blk1, base1, none⟩) es1 wl0 W hlE
        | false =>
          cases a3 with
          | true =>
            exact walkEFT l0 (some ⟨blk1, base1, none⟩) es1 wl0 W hlE
          | false =>
            exact walkEFF l0 (some ⟨blk1, base1, none⟩) es1 wl0 W hlE
      · skip
        cases a2 with
        | true =>
          cases a3 with
          | true =>
            exact walkRTT l0 blk1 base1 es1 l1 wl0 (by omega) (fun n hn => intOf2 (hwf1 n hn) rfl rfl) (by have h := hlen1; unfold maxLen at h; exact h) W hlE ⟨hes1, Nat.le_refl _, by rw [List.length_map, Nat.mul_one], arr1, tt1, fz1, hb1, hc1⟩
          | false =>
            exact walkRTF l0 blk1 base1 es1 l1 wl0 (by omega) (fun n hn => intOf2 (hwf1 n hn) rfl rfl) (by have h := hlen1; unfold maxLen at h; exact h) W hlE ⟨hes1, Nat.le_refl _, by rw [List.length_map, Nat.mul_one], arr1, tt1, fz1, hb1, hc1⟩
        | false =>
          cases a3 with
          | true =>
            exact walkRFT l0 blk1 base1 es1 l1 wl0 (by omega) (fun n hn => intOf2 (hwf1 n hn) rfl rfl) (by have h := hlen1; unfold maxLen at h; exact h) W hlE ⟨hes1, Nat.le_refl _, by rw [List.length_map, Nat.mul_one], arr1, tt1, fz1, hb1, hc1⟩
          | false =>
            exact walkRFF l0 blk1 base1 es1 l1 wl0 (by omega) (fun n hn => intOf2 (hwf1 n hn) rfl rfl) (by have h := hlen1; unfold maxLen at h; exact h) W hlE ⟨hes1, Nat.le_refl _, by rw [List.length_map, Nat.mul_one], arr1, tt1, fz1, hb1, hc1⟩
  clear hA0 hval0
  simp only [List.append_nil, List.nil_append] at hW' hA
  refine hw.mono fun e W' ⟨he, hg⟩ => ?_
  subst he
  exact ⟨_, rfl, post_below (pa := p1) (pv := []) hW' (fun _ _ _ => (trodAll_cons_mk (shut_bool Tryz.underlying4 _) trodAll_mk0)) (fun sp hsp => trodAll_stays (by kernel_rfl) hg (ts := [9, 22, 4, 4]) (fun t ht => by simp only [List.mem_cons, List.not_mem_nil, or_false] at ht; rcases ht with rfl | rfl | rfl | rfl <;> exact ⟨by kernel_rfl, of_decide_eq_true (by kernel_rfl)⟩) hA (fun p hp => hW'.lt p hp) hsp) (fun _ _ => rfl) (List.append_nil _).symm
    hg (ok_one (by kernel_rfl) rfl (okWide_bool_mk Tryz.underlying4 _))⟩
theorem over : Rows.answerBodyRow.holds Tryz.pinned (OpenSpec.ofChange Rows.answerBodySpec) :=
  OpenClaim.holds_of_wide 4 Tryz.f4 rfl rfl rfl rfl rfl rfl rfl ⟨rfl, rfl, rfl, rfl, rfl⟩ rfl rfl rfl rfl rfl (by kernel_rfl) Tryz.func4 (by kernel_rfl)
    (of_decide_eq_true (by kernel_rfl)) (by unfold Func.isWrapper; first | (rw [if_pos (by decide +kernel)]; kernel_rfl) | (rw [if_neg (by decide +kernel)]; exact ⟨rfl, rfl⟩))
    (fun os started H enc _ => lifted os started H enc)
theorem cardHolds : Rows.AnswerBodyCardSaid :=
  Claim7.holds_tied_plain_at .later [] [.data, .data, .data, .data, .handle, .pinned] true (true, "60d789b01ccfe7ade84c0d053a3bdf43ae8b88171d8c80830913552661d01b82") true
    over (fun _ h => by cases h) (by kernel_rfl) (fun _ h => by cases h) answerBody_row_tie rfl ⟨rfl, rfl⟩ (by kernel_rfl) rfl
    (fun f fn hf hfn => by
      obtain rfl : f = 4 := Option.some.inj ((show Tryz.prog.funcNamed Rows.answerBodyRow.func = some 4 by kernel_rfl).symm.trans hf) |>.symm
      obtain rfl : fn = Tryz.f4 := (Option.some.inj (Tryz.func4.symm.trans hfn)).symm
      exact ⟨by kernel_rfl, fun j t ht => by
        rw [Tryz.params4] at ht
        have h3 : t = 4 ∨ t = 9 ∨ t = 22 := by
          rcases j with _ | _ | _ | _ | j
          · right; left; simpa using ht.symm
          · right; right; simpa using ht.symm
          · left; simpa using ht.symm
          · left; simpa using ht.symm
          · simp at ht
        rcases h3 with rfl | rfl | rfl
        · exact (show Tryz.prog.wantsStandIn 4 = false by kernel_rfl)
        · exact (show Tryz.prog.wantsStandIn 9 = false by kernel_rfl)
        · exact (show Tryz.prog.wantsStandIn 22 = false by kernel_rfl)⟩)
    (by kernel_rfl)
#print axioms cardHolds
end Go.Proofs.YtabnmohghnnjaaaGreatDoor.answerBody
