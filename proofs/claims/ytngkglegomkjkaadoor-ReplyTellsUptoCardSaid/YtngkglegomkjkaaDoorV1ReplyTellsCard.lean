/- conduitlaw10.ReplyTells, its second form, holds, tied to the program's text: for any request, any head, any status, whether the connection is kept, and any part (up to the form's bulk) the answers are those of the reference. Conditions: the row's own (the listed package variables are laid as the program's text lays them). -/
import Derived.Test.YtngkglegomkjkaaDoorV1ReplyTellsP
import Derived.Test.YtngkglegomkjkaaDoorRows
import Derived.Test.YtngkglegomkjkaaDoorCards
import Derived.Test.YtngkglegomkjkaaDoorTie
import Derived.SevenTiedAt
import Derived.ChangeVars
import Derived.JoinedOf
import Derived.RowKit
import Derived.RowKitTokens
import Derived.LaidLaws
import Derived.LaidHandle
import Derived.Stop.Joined
import Derived.WalkKit
import Derived.ProofKit
import Derived.OpenShut
import Derived.Deep.DeepHandedRow
import Derived.Lib.SmallJoins
import Derived.ChangeMaps5
import Derived.Carry
import Derived.ChangeSlices
import Derived.SizedLaws
import Derived.Test.YtngkglegomkjkaaDoorHKC
import Derived.Test.YtngkglegomkjkaaDoorHKI
import Derived.Test.YtngkglegomkjkaaDoorHKM
import Derived.Lay
import Derived.LaidOnce
namespace Go.Proofs.YtngkglegomkjkaaDoor.replyTells
open Go Go.AX Go.Proofs Go.Proofs.YtngkglegomkjkaaDoor
open Go.ChangeMaps
open Go.Joins
open Go.ChangeShapes Go.WideShapes Go.ChangeAt Go.RowKit
set_option linter.unusedVariables false
set_option linter.unusedSimpArgs false
set_option maxRecDepth 100000
theorem aO9 {H : Type} : ∀ (l : List (List UInt8 × List UInt8)) (q : List UInt8 × List UInt8), q ∈ l → q.1.length + q.2.length ≤ Rows.uptoBulkAll (H := H) (l.map fun p => .agg [.lit (.string p.1), .lit (.string p.2)])
 | x :: l, q, h => by
  simp only [List.map_cons, Rows.uptoBulkAll, Rows.uptoBulk]
  rcases List.mem_cons.1 h with rfl | h
  ·omega
  ·have := aO9 (H := H) l q h; omega
theorem okB_of {H : Type} {d : DataW H} {l : List (List UInt8 × List UInt8)} (hb : Rows.uptoBulk d ≤ 1048576) (hw : ∃ sp, d = .slice (l.map fun p => .agg [.lit (.string p.1), .lit (.string p.2)]) sp) : okB l := by
 obtain ⟨sp, rfl⟩ := hw
 intro q hq
 have := aO9 (H := H) l q hq
 simp only [Rows.uptoBulk] at hb
 omega
theorem prB_okB {l : List (List UInt8 × List UInt8)} (h : okB l) : ∀ n, n ∈ l → cf n := fun n hn => ⟨Nat.le_trans (h n hn).1 (by decide), Nat.le_trans (h n hn).2 (by decide)⟩
theorem own : ownKnob Tryd.prog.godebug = none := by kernel_rfl
theorem t72 : Tryd.prog.underlying 72 = some (.array 20 59) := by kernel_rfl
theorem t59 : Tryd.prog.underlying 59 = some (.int .u64) := by kernel_rfl
theorem t78 : Tryd.prog.underlying 78 = some (.array 32 5) := by kernel_rfl
theorem t5 : Tryd.prog.underlying 5 = some (.int .u8) := by kernel_rfl
theorem t79 : Tryd.prog.underlying 79 = some (.array 64 5) := by kernel_rfl
def E9 : List (String × DataW Unit) := [("math/bits.deBruijn32tab", Rows.laid_math_bits_deBruijn32tab), ("math/bits.deBruijn64tab", Rows.laid_math_bits_deBruijn64tab), ("internal/strconv.uint64pow10", Rows.laid_internal_strconv_uint64pow10)]
theorem laidMet_from {P : Program} {w0 : World} {laid : List (String × DataW Unit)} (args : Array Value)
 (hf : w0.layFits P laid [] = true)
 (hi : w0.layIfaces P laid (w0.layVars P laid) = true) :
 laidMet P laid ((w0.layVars P laid).forCall (fun _ _ => 0) ⟨#[], args, []⟩).memory := by
 have e1 : (laid.filter fun x => (laid.map (·.1)).contains x.1) = laid := List.filter_eq_self.2 fun x hx => List.contains_iff_mem.2 (List.mem_map.2 ⟨x, hx, rfl⟩)
 have e2 : (laid.filter fun x => !(laid.map (·.1)).contains x.1) = [] := List.filter_eq_nil_iff.2 fun x hx => by rw [List.contains_iff_mem.2 (List.mem_map.2 ⟨x, hx, rfl⟩)]; simp
 have h : laidMet P laid (w0.layVars P laid) := laidMet_layVars (w0 := w0) (laid.map (·.1)) [] (by rw [e1]) (by rw [e1]; exact hf) (by rw [e1]; exact hi) (by rw [e2]; exact LaidIn.none)
 exact h.of_heap (by simp [World.memory, World.forCall, Input.heap])
noncomputable def w0m (os : Os) : World :=
 World.holding Tryd.prog os ⟨#[], #[], []⟩
noncomputable def laidWorld (os : Os) : World := (w0m os).layVars Tryd.prog E9
theorem laidWorld_met (os : Os) (args : Array Value) : laidMetH Tryd.prog Rows.replyTellsUptoRow.laid ((laidWorld os).forCall (fun _ _ => 0) ⟨#[], args, []⟩).memory :=
 laidMetH_of_parts (laidMet_from (w0 := w0m os) (laid := E9) args (by kernel_rfl) (by kernel_rfl)) (by kernel_rfl)
theorem lifted (os : Os) (started : os.Started) (H : Type) (enc : TypeId × Value → H) (F : Stop.Interp) :
 ReturnsInHanded {} Tryd.checked os 3 .any ((Rows.OpenSpec.upto Rows.replyTellsSpec).preRow enc Tryd.prog Tryd.f3 [] false Rows.replyTellsUptoRow.laid) (((Rows.OpenSpec.upto Rows.replyTellsSpec).at F).post enc Tryd.prog Tryd.f3 false true false false) := by
 obtain ⟨places, hx⟩ : ∃ places, DataW.whole enc Tryd.prog ((laidWorld os).forCall (fun _ _ => 0) ⟨#[], #[.agg #[.string ⟨#[]⟩, .string ⟨#[]⟩, .int .i64 0, .slice none 0 0, .string ⟨#[]⟩], .agg #[.int .i64 0, .string ⟨#[]⟩, .slice none 0 0], .int .i64 0, .bool false, .string ⟨#[]⟩], []⟩).memory Tryd.f3.params.toList Rows.replyTellsSpec.vars false (#[.agg #[.string ⟨#[]⟩, .string ⟨#[]⟩, .int .i64 0, .slice none 0 0, .string ⟨#[]⟩], .agg #[.int .i64 0, .string ⟨#[]⟩, .slice none 0 0], .int .i64 0, .bool false, .string ⟨#[]⟩] : Array Value).toList 8 = some ([.agg [.lit (.string []), .lit (.string []), .lit (.int .i64 0), .nil, .lit (.string [])], .agg [.lit (.int .i64 0), .lit (.string []), .nil], .lit (.int .i64 0), .lit (.bool false), .lit (.string [])], [], places) := ⟨[], by kernel_rfl⟩
 have hok : Input.okWideB Tryd.prog ((laidWorld os).forCall (fun _ _ => 0) ⟨#[], #[.agg #[.string ⟨#[]⟩, .string ⟨#[]⟩, .int .i64 0, .slice none 0 0, .string ⟨#[]⟩], .agg #[.int .i64 0, .string ⟨#[]⟩, .slice none 0 0], .int .i64 0, .bool false, .string ⟨#[]⟩], []⟩) 3 ⟨#[], #[.agg #[.string ⟨#[]⟩, .string ⟨#[]⟩, .int .i64 0, .slice none 0 0, .string ⟨#[]⟩], .agg #[.int .i64 0, .string ⟨#[]⟩, .slice none 0 0], .int .i64 0, .bool false, .string ⟨#[]⟩], []⟩ = true := by kernel_rfl
 refine returnsInHanded_of_row (C := Tryd.checked) (s := Rows.OpenSpec.upto Rows.replyTellsSpec) own started (by kernel_rfl) Tryd.func3
  ⟨laidWorld os, fun _ _ => 0, ⟨#[], #[.agg #[.string ⟨#[]⟩, .string ⟨#[]⟩, .int .i64 0, .slice none 0 0, .string ⟨#[]⟩], .agg #[.int .i64 0, .string ⟨#[]⟩, .slice none 0 0], .int .i64 0, .bool false, .string ⟨#[]⟩], []⟩, World.layVars_os _ _ _, World.shaped_of_ZipB (by kernel_rfl) (by kernel_rfl), (Input.okWide_of_okWideB (base := 0) hok).1, (Input.okWide_of_okWideB hok).2,
    OpenSpec.preRow_of_cond 8 hx (by kernel_rfl) (fun k hk => by cases hk; kernel_rfl) (by kernel_rfl) (laidWorld_met os _), by
     simp only [Assume.holds]
     exact ⟨by simp, by simp, fun _ => Modest.zero, by simp, by simp⟩⟩ ?_
 intro W base args ds gs before hval0 hW hcnd hbk _ hL _ _
 have hval : ∀ (j : Nat) t v, Tryd.f3.params[j]? = some t → args[j]? = some v → Value.okWide Tryd.prog W .any base t v := hval0
 have hW' := hW
 have hL1 : laidMet Tryd.prog E9 W := hL
 have hlE : aG W := ⟨Cz (zs := zs0) hL1 (.tail _ (.tail _ (.head _))) (by kernel_rfl) (by kernel_rfl) t72 (by kernel_rfl) (by kernel_rfl) t59, Cz (zs := zs1) hL1 (.head _) (by kernel_rfl) (by kernel_rfl) t78 (by kernel_rfl) (by kernel_rfl) t5, Cz (zs := zs2) hL1 (.tail _ (.head _)) (by kernel_rfl) (by kernel_rfl) t79 (by kernel_rfl) (by kernel_rfl) t5⟩
 obtain ⟨p, q, hA0, hV, rfl, hfz, hnd⟩ := hW
 have hA : DataW.TrodAll enc Tryd.prog W 0 (fun _ => true) true Tryd.f3.params.toList args.toList ds p := hA0
 rw [Tryd.params3] at hA hval
 obtain ⟨v0, vs0, d0, ds0, p0, q0, hargs, rfl, rfl, h0, r0⟩ := trodAll_cons hA
 obtain ⟨v1, vs1, d1, ds1, p1, q1, rfl, rfl, rfl, h1, r1⟩ := trodAll_cons r0
 obtain ⟨v2, vs2, d2, ds2, p2, q2, rfl, rfl, rfl, h2, r2⟩ := trodAll_cons r1
 obtain ⟨v3, vs3, d3, ds3, p3, q3, rfl, rfl, rfl, h3, r3⟩ := trodAll_cons r2
 obtain ⟨v4, vs4, d4, ds4, p4, q4, rfl, rfl, rfl, h4, r4⟩ := trodAll_cons r3
 obtain ⟨rfl, rfl, rfl⟩ := trodAll_nil r4
 obtain rfl : args = #[v0, v1, v2, v3, v4] := by cases args; simp_all
 obtain ⟨rfl, rfl⟩ := trodVars_none hV
 obtain ⟨c0_0, c0_1, c0_2, c0_3, c0_4, y0_0, y0_1, y0_2, y0_3, y0_4, m0, rfl, rfl, hp0, hy0_0, hy0_1, hy0_2, hy0_3, hy0_4⟩ := open_agg5 Tryd.underlying24 (by kernel_rfl) (show Tryd.prog.cellsOf 24 = 5 by kernel_rfl) (hval 0 24 v0 rfl rfl) h0
 obtain ⟨s0_0, e0_0, q0_0, ws0_0⟩ := DataW.trod_string Tryd.underlying9 hy0_0
 simp at e0_0
 subst e0_0
 obtain ⟨oM, rfl⟩ : ∃ l : List UInt8, s0_0 = ⟨l.toArray⟩ := ⟨s0_0.data.toList, by cases s0_0; simp⟩
 subst q0_0
 have tF : oM.length ≤ 9223372036854775807 := by have h := ws0_0; unfold maxLen at h; simpa [ByteArray.size] using h
 obtain ⟨s0_1, e0_1, q0_1, ws0_1⟩ := DataW.trod_string Tryd.underlying9 hy0_1
 simp at e0_1
 subst e0_1
 obtain ⟨oL, rfl⟩ : ∃ l : List UInt8, s0_1 = ⟨l.toArray⟩ := ⟨s0_1.data.toList, by cases s0_1; simp⟩
 subst q0_1
 have tE : oL.length ≤ 9223372036854775807 := by have h := ws0_1; unfold maxLen at h; simpa [ByteArray.size] using h
 obtain ⟨m9, e0_2, q0_2, w0_2⟩ := DataW.trod_int Tryd.underlying3 hy0_2
 simp at e0_2
 subst e0_2
 subst q0_2
 have kR : -9223372036854775808 ≤ m9 ∧ m9 ≤ 9223372036854775807 := DA w0_2 rfl rfl
 obtain ⟨qO, qL, qN, rfl⟩ := aE9 Tryd.underlying22 hy0_3
 obtain ⟨s0_4, e0_4, q0_4, ws0_4⟩ := DataW.trod_string Tryd.underlying9 hy0_4
 simp at e0_4
 subst e0_4
 obtain ⟨oK, rfl⟩ : ∃ l : List UInt8, s0_4 = ⟨l.toArray⟩ := ⟨s0_4.data.toList, by cases s0_4; simp⟩
 subst q0_4
 have tD : oK.length ≤ 9223372036854775807 := by have h := ws0_4; unfold maxLen at h; simpa [ByteArray.size] using h
 obtain ⟨c1_0, c1_1, c1_2, y1_0, y1_1, y1_2, m1, rfl, rfl, hp1, hy1_0, hy1_1, hy1_2⟩ := open_agg3 Tryd.underlying26 (by kernel_rfl) (show Tryd.prog.cellsOf 26 = 3 by kernel_rfl) (hval 1 26 v1 rfl rfl) h1
 obtain ⟨m8, e1_0, q1_0, w1_0⟩ := DataW.trod_int Tryd.underlying3 hy1_0
 simp at e1_0
 subst e1_0
 subst q1_0
 have kQ : -9223372036854775808 ≤ m8 ∧ m8 ≤ 9223372036854775807 := DA w1_0 rfl rfl
 obtain ⟨s1_1, e1_1, q1_1, ws1_1⟩ := DataW.trod_string Tryd.underlying9 hy1_1
 simp at e1_1
 subst e1_1
 obtain ⟨oJ, rfl⟩ : ∃ l : List UInt8, s1_1 = ⟨l.toArray⟩ := ⟨s1_1.data.toList, by cases s1_1; simp⟩
 subst q1_1
 have tC : oJ.length ≤ 9223372036854775807 := by have h := ws1_1; unfold maxLen at h; simpa [ByteArray.size] using h
 obtain ⟨sa1_2, sn1_2, sc1_2, rfl⟩ := aE9 Tryd.underlying22 hy1_2
 have hi1_2 := in_pairs_d Tryd.underlying22 Tryd.underlying37 (by kernel_rfl) rfl rfl (by kernel_rfl) (by kernel_rfl) (by kernel_rfl) (by kernel_rfl) ⟨_, hy1_2⟩
 have hbz1_2 : Rows.uptoBulk y1_2.1 ≤ 1048576 := by
  have h := of_decide_eq_true (hbk _ rfl)
  simp only [Rows.uptoBulkAll, Rows.uptoBulk, List.append_nil] at h
  omega
 obtain ⟨a2, rfl, rfl, rfl, w2⟩ := open_int Tryd.underlying3 (hval 2 3 v2 rfl rfl) h2
 have kP : -9223372036854775808 ≤ a2 ∧ a2 ≤ 9223372036854775807 := DA w2 rfl rfl
 obtain ⟨a3, rfl, rfl, rfl⟩ := open_bool Tryd.underlying4 (hval 3 4 v3 rfl rfl) h3
 obtain ⟨s4, rfl, rfl, rfl, ws4⟩ := open_string Tryd.underlying9 (hval 4 9 v4 rfl rfl) h4
 obtain ⟨l4, rfl⟩ : ∃ l : List UInt8, s4 = ⟨l.toArray⟩ := ⟨s4.data.toList, by cases s4; simp⟩
 have wl4 : l4.length ≤ 9223372036854775807 := by have h := ws4; unfold maxLen at h; simpa [ByteArray.size] using h
 have hw : au 3 #[.agg #[St' oM, St' oL, .int .i64 m9, .slice qO qL qN, St' oK], .agg #[.int .i64 m8, St' oJ, .slice sa1_2 sn1_2 sc1_2], .int .i64 a2, .bool a3, St' l4] W (.bool true) := by
  rcases hi1_2 with rR | ⟨ad1_2, rR⟩ | ⟨blk1_2, aZ5, es1_2, l1_2, rR, hwf1_2, hlen1_2, hes1_2, arr1_2, tt1_2, fz1_2, hb1_2, ⟨n01_2, hn01_2⟩, hc1_2⟩
  ·rw [rR]
   exact Bj oM oL m9 qO qL qN oK m8 oJ none 0 a2 a3 l4 tF tE kR.1 kR.2 tD kQ.1 kQ.2 tC kP.1 kP.2 wl4 W hlE
  ·rw [rR]
   exact Bj oM oL m9 qO qL qN oK m8 oJ (some ad1_2) 0 a2 a3 l4 tF tE kR.1 kR.2 tD kQ.1 kQ.2 tC kP.1 kP.2 wl4 W hlE
  ·rw [rR]
   by_cases z1_2 : l1_2.length = 0
   ·rw [z1_2]
    exact Bj oM oL m9 qO qL qN oK m8 oJ (some ⟨blk1_2, aZ5, none⟩) es1_2 a2 a3 l4 tF tE kR.1 kR.2 tD kQ.1 kQ.2 tC kP.1 kP.2 wl4 W hlE
   ·exact walkR oM oL m9 qO qL qN oK m8 oJ blk1_2 aZ5 es1_2 l1_2 a2 a3 l4 tF tE kR.1 kR.2 tD kQ.1 kQ.2 tC (by omega) (prB_okB (okB_of hbz1_2 hwf1_2)) (okB_of hbz1_2 hwf1_2) (by have h := hlen1_2; unfold maxLen at h; exact h) kP.1 kP.2 wl4 W hlE ⟨hes1_2, by decide, mT bH l1_2, arr1_2, tt1_2, fz1_2, hb1_2, hc1_2⟩
 clear hA0 hval0
 simp only [List.append_nil, List.nil_append] at hW' hA
 refine hw.mono fun e W' ⟨he, hg⟩ => ?_
 subst he
 exact ⟨_, rfl, post_below (pa := p0 ++ p1) (pv := []) hW' (fun _ _ _ => (trodAll_cons_mk (shut_bool Tryd.underlying4 _) trodAll_mk0)) (fun sp hsp => aA0 (by kernel_rfl) hg (ts := [24, 26, 3, 4, 9]) (fun t ht => by simp only [List.mem_cons, List.not_mem_nil, or_false] at ht; rcases ht with rfl | rfl | rfl | rfl | rfl <;> exact ⟨by kernel_rfl, of_decide_eq_true (by kernel_rfl)⟩) hA (fun p hp => hW'.lt p hp) hsp) (fun _ _ => rfl) (List.append_nil _).symm
  hg (ok_one (by kernel_rfl) rfl (okWide_bool_mk Tryd.underlying4 _))⟩
theorem over : Rows.replyTellsUptoRow.holds Tryd.pinned (Rows.OpenSpec.upto Rows.replyTellsSpec) :=
 OpenClaim.holds_of_cond 3 Tryd.f3 rfl rfl rfl rfl rfl rfl rfl ⟨rfl, rfl, rfl, rfl, rfl⟩ rfl rfl rfl rfl rfl (by kernel_rfl) Tryd.func3 (by kernel_rfl)
  (of_decide_eq_true (by kernel_rfl)) (by unfold Func.isWrapper; first | (rw [if_pos (by decide +kernel)]; kernel_rfl) | (rw [if_neg (by decide +kernel)]; exact ⟨rfl, rfl⟩))
  (fun os started H enc _ F => by rw [OpenClaim.pre_eq_preRow]; exact lifted os started H enc F)
theorem cardHolds : Rows.ReplyTellsUptoCardSaid :=
 Claim7.holds_tied_plain_at .later [] [.data, .data, .data] true (true, "10aec741ba864a2c6d5041073201e3a41455320a91682625207e59f01f54c470") false
  over (fun _ h => by cases h) (by kernel_rfl) (fun _ h => by cases h) replyTellsUpto_row_tie rfl ⟨rfl, rfl⟩ (by kernel_rfl) rfl
  (fun f fn hf hfn => by
    obtain rfl : f = 3 := Option.some.inj ((show Tryd.prog.funcNamed Rows.replyTellsUptoRow.func = some 3 by kernel_rfl).symm.trans hf) |>.symm
    obtain rfl : fn = Tryd.f3 := (Option.some.inj (Tryd.func3.symm.trans hfn)).symm
    exact ⟨by kernel_rfl, fun j t ht => by
     rw [Tryd.params3] at ht
     have h3 : t = 3 ∨ t = 4 ∨ t = 9 ∨ t = 24 ∨ t = 26 := by
      rcases j with _ | _ | _ | _ | _ | j
      ·right; right; right; left; simpa using ht.symm
      ·right; right; right; right; simpa using ht.symm
      ·left; simpa using ht.symm
      ·right; left; simpa using ht.symm
      ·right; right; left; simpa using ht.symm
      ·simp at ht
     rcases h3 with rfl | rfl | rfl | rfl | rfl
     ·exact (show Tryd.prog.wantsStandIn 3 = false by kernel_rfl)
     ·exact (show Tryd.prog.wantsStandIn 4 = false by kernel_rfl)
     ·exact (show Tryd.prog.wantsStandIn 9 = false by kernel_rfl)
     ·exact (show Tryd.prog.wantsStandIn 24 = false by kernel_rfl)
     ·exact (show Tryd.prog.wantsStandIn 26 = false by kernel_rfl)⟩)
  (by kernel_rfl)
#print axioms cardHolds
end Go.Proofs.YtngkglegomkjkaaDoor.replyTells
