/- conduitlaw6.FieldBack holds, tied to the program's text: for any pair, any row of pairs and any two numbers the law answers true and leaves what was there as it was. Conditions: the row's own (the listed package variables are laid as the program's text lays them). -/
import Derived.Test.YtjkdkpdjmapieaaDoorE1FieldBackP
import Derived.Test.YtjkdkpdjmapieaaDoorRows
import Derived.Test.YtjkdkpdjmapieaaDoorCards
import Derived.Test.YtjkdkpdjmapieaaDoorTie
import Derived.SevenTiedAt
import Derived.ChangeVars
import Derived.JoinedOf
import Derived.RowKit
import Derived.RowKitTokens
import Derived.LaidLaws
import Derived.LaidHandle
import Derived.Stop.Joined
import Derived.WalkKit
import Derived.ProofKit
import Derived.OpenShut
import Derived.Lib.SmallJoins
import Derived.ChangeMaps5
import Derived.Carry
import Derived.ChangeSlices
import Derived.SizedLaws
import Derived.Test.YtjkdkpdjmapieaaDoorHKC
import Derived.Test.YtjkdkpdjmapieaaDoorHKI
import Derived.Test.YtjkdkpdjmapieaaDoorHKJ
import Derived.Lay
import Derived.LaidOnce
namespace Go.Proofs.YtjkdkpdjmapieaaDoor.fieldBack
open Go Go.AX Go.Proofs Go.Proofs.YtjkdkpdjmapieaaDoor
open Go.ChangeMaps
open Go.Joins
open Go.ChangeShapes Go.WideShapes Go.ChangeAt Go.RowKit
set_option linter.unusedVariables false
set_option linter.unusedSimpArgs false
set_option maxRecDepth 100000
theorem own : ownKnob Tryd.prog.godebug = none := by kernel_rfl
def dataL : List (String × DataW Unit) := [("unicode/utf8.acceptRanges", Rows.laid_unicode_utf8_acceptRanges), ("unicode/utf8.first", Rows.laid_unicode_utf8_first)]
theorem laidMet_from {P : Program} {w0 : World} {laid : List (String × DataW Unit)} (args : Array Value)
    (hf : w0.layFits P laid [] = true)
    (hi : w0.layIfaces P laid (w0.layVars P laid) = true) :
    laidMet P laid ((w0.layVars P laid).forCall (fun _ _ => 0) ⟨#[], args, []⟩).memory := by
  have e1 : (laid.filter fun x => (laid.map (·.1)).contains x.1) = laid := List.filter_eq_self.2 fun x hx => List.contains_iff_mem.2 (List.mem_map.2 ⟨x, hx, rfl⟩)
  have e2 : (laid.filter fun x => !(laid.map (·.1)).contains x.1) = [] := List.filter_eq_nil_iff.2 fun x hx => by rw [List.contains_iff_mem.2 (List.mem_map.2 ⟨x, hx, rfl⟩)]; simp
  have h : laidMet P laid (w0.layVars P laid) := laidMet_layVars (w0 := w0) (laid.map (·.1)) [] (by rw [e1]) (by rw [e1]; exact hf) (by rw [e1]; exact hi) (by rw [e2]; exact LaidIn.none)
  exact h.of_heap (by simp [World.memory, World.forCall, Input.heap])
noncomputable def w0m (os : Os) : World :=
  World.holding Tryd.prog os ⟨#[], #[], []⟩
noncomputable def laidWorld (os : Os) : World := (w0m os).layVars Tryd.prog dataL
theorem laidWorld_met (os : Os) (args : Array Value) : laidMetH Tryd.prog Rows.fieldBackRow.laid ((laidWorld os).forCall (fun _ _ => 0) ⟨#[], args, []⟩).memory :=
  laidMetH_of_parts (laidMet_from (w0 := w0m os) (laid := dataL) args (by kernel_rfl) (by kernel_rfl)) (by kernel_rfl)
theorem getH0s {W : World} {blk base : Nat} {arr : Array Value} {tt : Nat} {fz : Nat × Nat} {s : ByteArray} (h : laidE W) (hb : W.heap[blk]? = some (.cells arr tt fz)) (hn : arr[base]? = some (.string s)) : (H0 ).get blk = none := T.get_leaf _
theorem lifted (os : Os) (started : os.Started) (H : Type) (enc : TypeId × Value → H) :
    ReturnsInHanded {} Tryd.checked os 3 .any (fun w args => (Rows.fieldBackSpec.pre enc Tryd.prog Tryd.f3 [] false w args ∧ laidMetH Tryd.prog Rows.fieldBackRow.laid w) ∧ sizedMet enc Tryd.prog Tryd.f3 (OpenSpec.ofChange Rows.fieldBackSpec) false w args)
      (Rows.fieldBackSpec.post enc Tryd.prog Tryd.f3 false true false false) := by
  refine returnsInHanded_of_change_and (C := Tryd.checked) (X := fun w _ => laidMetH Tryd.prog Rows.fieldBackRow.laid w) (fun _ _ _ hh h => h.of_heap hh) own started (by kernel_rfl) Tryd.func3
    (ChangeSpec.witness_shaped (enc := enc) (C := Tryd.checked) (os := os) (X := fun w _ => laidMetH Tryd.prog Rows.fieldBackRow.laid w) false (laidWorld os) #[.agg #[.string ⟨#[]⟩, .string ⟨#[]⟩], .slice none 0 0, .int .u8 0, .int .u8 0] 8 (World.layVars_os _ _ _)
      (World.shaped_of_ZipB (by kernel_rfl) (by kernel_rfl)) (by kernel_rfl) (by kernel_rfl) (by kernel_rfl) (laidWorld_met os _)) ?_
  intro W base args ds gs before hval0 hW hcnd hSz hL _
  have hval : ∀ (j : Nat) t v, Tryd.f3.params[j]? = some t → args[j]? = some v → Value.okWide Tryd.prog W .any base t v := hval0
  have hW' := hW
  have hL1 : laidMet Tryd.prog dataL W := hL
  have hlE : laidE W := trivial
  obtain ⟨p, q, hA0, hV, rfl, hfz, hnd⟩ := hW
  have hA : DataW.TrodAll enc Tryd.prog W 0 (fun _ => true) true Tryd.f3.params.toList args.toList ds p := hA0
  rw [Tryd.params3] at hA hval
  obtain ⟨v0, vs0, d0, ds0, p0, q0, hargs, rfl, rfl, h0, r0⟩ := trodAll_cons hA
  obtain ⟨v1, vs1, d1, ds1, p1, q1, rfl, rfl, rfl, h1, r1⟩ := trodAll_cons r0
  obtain ⟨v2, vs2, d2, ds2, p2, q2, rfl, rfl, rfl, h2, r2⟩ := trodAll_cons r1
  obtain ⟨v3, vs3, d3, ds3, p3, q3, rfl, rfl, rfl, h3, r3⟩ := trodAll_cons r2
  obtain ⟨rfl, rfl, rfl⟩ := trodAll_nil r3
  obtain rfl : args = #[v0, v1, v2, v3] := by cases args; simp_all
  obtain ⟨rfl, rfl⟩ := trodVars_none hV
  have hwt0 : ∀ x, x ∈ d0.weights Tryd.prog 23 → x ≤ 140737488351232 := fun x hx => by
    have := List.all_eq_true.1 hSz _ (DataW.weights_mem_each (j := 0) (t := 23) (by kernel_rfl) rfl x hx)
    exact Nat.le_trans (of_decide_eq_true this) (by decide)
  obtain ⟨c0_0, c0_1, y0_0, y0_1, m0, rfl, rfl, rfl, hy0_0, hy0_1⟩ := open_agg2 Tryd.underlying23 (by kernel_rfl) (show Tryd.prog.cellsOf 23 = 2 by kernel_rfl) (hval 0 23 v0 rfl rfl) h0
  obtain ⟨s0_0, e0_0, q0_0, ws0_0⟩ := DataW.trod_string Tryd.underlying9 hy0_0
  simp at e0_0
  subst e0_0
  obtain ⟨l0_0, rfl⟩ : ∃ l : List UInt8, s0_0 = ⟨l.toArray⟩ := ⟨s0_0.data.toList, by cases s0_0; simp⟩
  subst q0_0
  have wl0_0 : l0_0.length ≤ 9223372036854775807 := by have h := ws0_0; unfold maxLen at h; simpa [ByteArray.size] using h
  have wz0_0 : l0_0.length ≤ 140737488351232 := hwt0 _ (by simp [DataW.weights, DataW.weightsEach, Tryd.underlying23, ByteArray.size])
  obtain ⟨s0_1, e0_1, q0_1, ws0_1⟩ := DataW.trod_string Tryd.underlying9 hy0_1
  simp at e0_1
  subst e0_1
  obtain ⟨l0_1, rfl⟩ : ∃ l : List UInt8, s0_1 = ⟨l.toArray⟩ := ⟨s0_1.data.toList, by cases s0_1; simp⟩
  subst q0_1
  have wl0_1 : l0_1.length ≤ 9223372036854775807 := by have h := ws0_1; unfold maxLen at h; simpa [ByteArray.size] using h
  have wz0_1 : l0_1.length ≤ 140737488351232 := hwt0 _ (by simp [DataW.weights, DataW.weightsEach, Tryd.underlying23, ByteArray.size])
  obtain ⟨sa1, sn1, sc1, rfl⟩ := okWide_slice Tryd.underlying24 (hval 1 24 v1 rfl rfl)
  have hwt1 : ∀ x, x ∈ d1.weights Tryd.prog 24 → x ≤ 140737488351232 := fun x hx => by
    have := List.all_eq_true.1 hSz _ (DataW.weights_mem_each (j := 1) (t := 24) (by kernel_rfl) rfl x hx)
    exact Nat.le_trans (of_decide_eq_true this) (by decide)
  have hi1 := in_pairs_w Tryd.underlying24 Tryd.underlying23 (by kernel_rfl) rfl rfl (by kernel_rfl) (by kernel_rfl) (by kernel_rfl) (by kernel_rfl) hwt1 h1
  obtain ⟨a2, rfl, rfl, rfl, w2⟩ := open_int Tryd.underlying5 (hval 2 5 v2 rfl rfl) h2
  have wi2 : 0 ≤ a2 ∧ a2 ≤ 255 := intOf2 w2 rfl rfl
  obtain ⟨a3, rfl, rfl, rfl, w3⟩ := open_int Tryd.underlying5 (hval 3 5 v3 rfl rfl) h3
  have wi3 : 0 ≤ a3 ∧ a3 ≤ 255 := intOf2 w3 rfl rfl
  have hw : CwR 3 #[.agg #[St' l0_0, St' l0_1], .slice sa1 sn1 sc1, .int .u8 a2, .int .u8 a3] W (.bool true) := by
    rcases hi1 with e1 | ⟨ad1, e1⟩ | ⟨blk1, base1, es1, l1, e1, hwf1, hlen1, hes1, arr1, tt1, fz1, hb1, ⟨n01, hn01⟩, hc1⟩
    · rw [e1]
      exact walkN l0_0 l0_1 a2 a3 wz0_0 wz0_1 wi2.1 wi2.2 wi3.1 wi3.2 W hlE
    · rw [e1]
      exact walkE l0_0 l0_1 ad1 a2 a3 wz0_0 wz0_1 wi2.1 wi2.2 wi3.1 wi3.2 W hlE
    · rw [e1]
      exact walkR l0_0 l0_1 blk1 base1 es1 l1 a2 a3 wz0_0 wz0_1 (fun n hn => ⟨Nat.le_trans (hwf1 n hn).1 (by decide), Nat.le_trans (hwf1 n hn).2 (by decide)⟩) (fun n hn => (hwf1 n hn).1) (fun n hn => (hwf1 n hn).2) (by have h := hlen1; unfold maxLen at h; exact h) wi2.1 wi2.2 wi3.1 wi3.2 W hlE ⟨hes1, by decide, flat_len prC_len l1, arr1, tt1, fz1, hb1, hc1⟩ (getH0s hlE hb1 hn01)
  clear hA0 hval0
  simp only [List.append_nil, List.nil_append] at hW' hA
  refine hw.mono fun e W' ⟨he, hg⟩ => ?_
  subst he
  exact ⟨_, rfl, post_below (pa := p1) (pv := []) hW' (fun _ _ _ => (trodAll_cons_mk (shut_bool Tryd.underlying4 _) trodAll_mk0)) (fun sp hsp => trodAll_stays (by kernel_rfl) hg (ts := [23, 24, 5, 5]) (fun t ht => by simp only [List.mem_cons, List.not_mem_nil, or_false] at ht; rcases ht with rfl | rfl | rfl | rfl <;> exact ⟨by kernel_rfl, of_decide_eq_true (by kernel_rfl)⟩) hA (fun p hp => hW'.lt p hp) hsp) (fun _ _ => rfl) (List.append_nil _).symm
    hg (ok_one (by kernel_rfl) rfl (okWide_bool_mk Tryd.underlying4 _))⟩
theorem over : Rows.fieldBackRow.holds Tryd.pinned (OpenSpec.ofChange Rows.fieldBackSpec) :=
  OpenClaim.holds_of_wide 3 Tryd.f3 rfl rfl rfl rfl rfl rfl rfl ⟨rfl, rfl, rfl, rfl, rfl⟩ rfl rfl rfl rfl rfl (by kernel_rfl) Tryd.func3 (by kernel_rfl)
    (of_decide_eq_true (by kernel_rfl)) (by unfold Func.isWrapper; first | (rw [if_pos (by decide +kernel)]; kernel_rfl) | (rw [if_neg (by decide +kernel)]; exact ⟨rfl, rfl⟩))
    (fun os started H enc _ => lifted os started H enc)
theorem cardHolds : Rows.FieldBackCardSaid :=
  Claim7.holds_tied_plain_at .later [] [.data, .pinned] true (true, "73e4d3a6f98e284afaab38c4ad1860168a52ca5215d97a94a07ec279ba25bd2a") true
    over (fun _ h => by cases h) (by kernel_rfl) (fun _ h => by cases h) fieldBack_row_tie rfl ⟨rfl, rfl⟩ (by kernel_rfl) rfl
    (fun f fn hf hfn => by
      obtain rfl : f = 3 := Option.some.inj ((show Tryd.prog.funcNamed Rows.fieldBackRow.func = some 3 by kernel_rfl).symm.trans hf) |>.symm
      obtain rfl : fn = Tryd.f3 := (Option.some.inj (Tryd.func3.symm.trans hfn)).symm
      exact ⟨by kernel_rfl, fun j t ht => by
        rw [Tryd.params3] at ht
        have h3 : t = 5 ∨ t = 23 ∨ t = 24 := by
          rcases j with _ | _ | _ | _ | j
          · right; left; simpa using ht.symm
          · right; right; simpa using ht.symm
          · left; simpa using ht.symm
          · left; simpa using ht.symm
          · simp at ht
        rcases h3 with rfl | rfl | rfl
        · exact (show Tryd.prog.wantsStandIn 5 = false by kernel_rfl)
        · exact (show Tryd.prog.wantsStandIn 23 = false by kernel_rfl)
        · exact (show Tryd.prog.wantsStandIn 24 = false by kernel_rfl)⟩)
    (by kernel_rfl)
#print axioms cardHolds
end Go.Proofs.YtjkdkpdjmapieaaDoor.fieldBack
