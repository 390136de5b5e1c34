/- conduitlaw8.ChunkBack holds, tied to the program's text: for any row of texts, any bytes behind and any row of sizes the law answers true and leaves what was there as it was. Conditions: the row's own (the listed package variables are laid as the program's text lays them). -/
import Derived.Test.YtamjghigoipbeaaDoorK1ChunkBackP
import Derived.Test.YtamjghigoipbeaaDoorRows
import Derived.Test.YtamjghigoipbeaaDoorCards
import Derived.Test.YtamjghigoipbeaaDoorTie
import Derived.SevenTiedAt
import Derived.ChangeVars
import Derived.JoinedOf
import Derived.RowKit
import Derived.RowKitTokens
import Derived.LaidLaws
import Derived.LaidHandle
import Derived.Stop.Joined
import Derived.WalkKit
import Derived.ProofKit
import Derived.OpenShut
import Derived.Lib.SmallJoins
import Derived.ChangeMaps5
import Derived.Carry
import Derived.ChangeSlices
import Derived.SizedLaws
import Derived.Test.YtamjghigoipbeaaDoorHKC
import Derived.Test.YtamjghigoipbeaaDoorHKN
import Derived.Test.YtamjghigoipbeaaDoorHKA
import Derived.Lay
import Derived.LaidOnce
namespace Go.Proofs.YtamjghigoipbeaaDoor.chunkBack
open Go Go.AX Go.Proofs Go.Proofs.YtamjghigoipbeaaDoor
open Go.ChangeMaps
open Go.Joins
open Go.ChangeShapes Go.WideShapes Go.ChangeAt Go.RowKit
set_option linter.unusedVariables false
set_option linter.unusedSimpArgs false
set_option maxRecDepth 100000
theorem own : ownKnob Tryd.prog.godebug = none := by kernel_rfl
theorem t82 : Tryd.prog.underlying 82 = some (.array 64 5) := by kernel_rfl
theorem t5 : Tryd.prog.underlying 5 = some (.int .u8) := by kernel_rfl
def dataL : List (String × DataW Unit) := [("math/bits.deBruijn32tab", Rows.laid_math_bits_deBruijn32tab), ("math/bits.deBruijn64tab", Rows.laid_math_bits_deBruijn64tab), ("internal/strconv.uint64pow10", Rows.laid_internal_strconv_uint64pow10)]
theorem laidMet_from {P : Program} {w0 : World} {laid : List (String × DataW Unit)} (args : Array Value)
    (hf : w0.layFits P laid [] = true)
    (hi : w0.layIfaces P laid (w0.layVars P laid) = true) :
    laidMet P laid ((w0.layVars P laid).forCall (fun _ _ => 0) ⟨#[], args, []⟩).memory := by
  have e1 : (laid.filter fun x => (laid.map (·.1)).contains x.1) = laid := List.filter_eq_self.2 fun x hx => List.contains_iff_mem.2 (List.mem_map.2 ⟨x, hx, rfl⟩)
  have e2 : (laid.filter fun x => !(laid.map (·.1)).contains x.1) = [] := List.filter_eq_nil_iff.2 fun x hx => by rw [List.contains_iff_mem.2 (List.mem_map.2 ⟨x, hx, rfl⟩)]; simp
  have h : laidMet P laid (w0.layVars P laid) := laidMet_layVars (w0 := w0) (laid.map (·.1)) [] (by rw [e1]) (by rw [e1]; exact hf) (by rw [e1]; exact hi) (by rw [e2]; exact LaidIn.none)
  exact h.of_heap (by simp [World.memory, World.forCall, Input.heap])
noncomputable def w0m (os : Os) : World :=
  World.holding Tryd.prog os ⟨#[], #[], []⟩
noncomputable def laidWorld (os : Os) : World := (w0m os).layVars Tryd.prog dataL
theorem laidWorld_met (os : Os) (args : Array Value) : laidMetH Tryd.prog Rows.chunkBackRow.laid ((laidWorld os).forCall (fun _ _ => 0) ⟨#[], args, []⟩).memory :=
  laidMetH_of_parts (laidMet_from (w0 := w0m os) (laid := dataL) args (by kernel_rfl) (by kernel_rfl)) (by kernel_rfl)
theorem lifted (os : Os) (started : os.Started) (H : Type) (enc : TypeId × Value → H) :
    ReturnsInHanded {} Tryd.checked os 3 .any (fun w args => (Rows.chunkBackSpec.pre enc Tryd.prog Tryd.f3 [] false w args ∧ laidMetH Tryd.prog Rows.chunkBackRow.laid w) ∧ sizedMet enc Tryd.prog Tryd.f3 (OpenSpec.ofChange Rows.chunkBackSpec) false w args)
      (Rows.chunkBackSpec.post enc Tryd.prog Tryd.f3 false true false false) := by
  refine returnsInHanded_of_change_and (C := Tryd.checked) (X := fun w _ => laidMetH Tryd.prog Rows.chunkBackRow.laid w) (fun _ _ _ hh h => h.of_heap hh) own started (by kernel_rfl) Tryd.func3
    (ChangeSpec.witness_shaped (enc := enc) (C := Tryd.checked) (os := os) (X := fun w _ => laidMetH Tryd.prog Rows.chunkBackRow.laid w) false (laidWorld os) #[.slice none 0 0, .string ⟨#[]⟩, .slice none 0 0] 8 (World.layVars_os _ _ _)
      (World.shaped_of_ZipB (by kernel_rfl) (by kernel_rfl)) (by kernel_rfl) (by kernel_rfl) (by kernel_rfl) (laidWorld_met os _)) ?_
  intro W base args ds gs before hval0 hW hcnd hSz hL _
  have hval : ∀ (j : Nat) t v, Tryd.f3.params[j]? = some t → args[j]? = some v → Value.okWide Tryd.prog W .any base t v := hval0
  have hW' := hW
  have hL1 : laidMet Tryd.prog dataL W := hL
  have hlE : laidE W := laid_arr (zs := zs2) hL1 (.tail _ (.head _)) (by kernel_rfl) (by kernel_rfl) t82 (by kernel_rfl) (by kernel_rfl) t5
  obtain ⟨p, q, hA0, hV, rfl, hfz, hnd⟩ := hW
  have hA : DataW.TrodAll enc Tryd.prog W 0 (fun _ => true) true Tryd.f3.params.toList args.toList ds p := hA0
  rw [Tryd.params3] at hA hval
  obtain ⟨v0, vs0, d0, ds0, p0, q0, hargs, rfl, rfl, h0, r0⟩ := trodAll_cons hA
  obtain ⟨v1, vs1, d1, ds1, p1, q1, rfl, rfl, rfl, h1, r1⟩ := trodAll_cons r0
  obtain ⟨v2, vs2, d2, ds2, p2, q2, rfl, rfl, rfl, h2, r2⟩ := trodAll_cons r1
  obtain ⟨rfl, rfl, rfl⟩ := trodAll_nil r2
  obtain rfl : args = #[v0, v1, v2] := by cases args; simp_all
  obtain ⟨rfl, rfl⟩ := trodVars_none hV
  obtain ⟨sa0, sn0, sc0, rfl⟩ := okWide_slice Tryd.underlying22 (hval 0 22 v0 rfl rfl)
  have hwt0 : ∀ x, x ∈ d0.weights Tryd.prog 22 → x ≤ 140737488351232 := fun x hx => by
    have := List.all_eq_true.1 hSz _ (DataW.weights_mem_each (j := 0) (t := 22) (by kernel_rfl) rfl x hx)
    exact Nat.le_trans (of_decide_eq_true this) (by decide)
  have hi0 := in_strs Tryd.underlying22 Tryd.underlying9 (by kernel_rfl) hwt0 h0
  obtain ⟨s1, rfl, rfl, rfl, ws1⟩ := open_string Tryd.underlying9 (hval 1 9 v1 rfl rfl) h1
  obtain ⟨l1, rfl⟩ : ∃ l : List UInt8, s1 = ⟨l.toArray⟩ := ⟨s1.data.toList, by cases s1; simp⟩
  have wl1 : l1.length ≤ 9223372036854775807 := by have h := ws1; unfold maxLen at h; simpa [ByteArray.size] using h
  obtain ⟨sa2, sn2, sc2, rfl⟩ := okWide_slice Tryd.underlying23 (hval 2 23 v2 rfl rfl)
  have hi2 := in_ints Tryd.underlying23 Tryd.underlying5 (by kernel_rfl) h2
  have hw : CwR 3 #[.slice sa0 sn0 sc0, St' l1, .slice sa2 sn2 sc2] W (.bool true) := by
    rcases hi0 with e0 | ⟨ad0, e0⟩ | ⟨blk0, base0, es0, l0, e0, hwf0, hlen0, hes0, arr0, tt0, fz0, hb0, ⟨n00, hn00⟩, hc0⟩
    · rw [e0]
      rcases hi2 with e2 | ⟨ad2, e2⟩ | ⟨blk2, base2, es2, l2, e2, hwf2, hlen2, hes2, arr2, tt2, fz2, hb2, ⟨n02, hn02⟩, hc2⟩
      · rw [e2]
        exact walkEE none 0 l1 none 0 wl1 W hlE
      · rw [e2]
        exact walkEE none 0 l1 (some ad2) 0 wl1 W hlE
      · rw [e2]
        by_cases z2 : l2.length = 0
        · rw [z2]
          exact walkEE none 0 l1 (some ⟨blk2, base2, none⟩) es2 wl1 W hlE
        · skip
          exact walkER none 0 l1 blk2 base2 es2 l2 wl1 (by omega) (fun n hn => intOf2 (hwf2 n hn) rfl rfl) (by have h := hlen2; unfold maxLen at h; exact h) W hlE ⟨hes2, Nat.le_refl _, by rw [List.length_map, Nat.mul_one], arr2, tt2, fz2, hb2, hc2⟩
    · rw [e0]
      rcases hi2 with e2 | ⟨ad2, e2⟩ | ⟨blk2, base2, es2, l2, e2, hwf2, hlen2, hes2, arr2, tt2, fz2, hb2, ⟨n02, hn02⟩, hc2⟩
      · rw [e2]
        exact walkEE (some ad0) 0 l1 none 0 wl1 W hlE
      · rw [e2]
        exact walkEE (some ad0) 0 l1 (some ad2) 0 wl1 W hlE
      · rw [e2]
        by_cases z2 : l2.length = 0
        · rw [z2]
          exact walkEE (some ad0) 0 l1 (some ⟨blk2, base2, none⟩) es2 wl1 W hlE
        · skip
          exact walkER (some ad0) 0 l1 blk2 base2 es2 l2 wl1 (by omega) (fun n hn => intOf2 (hwf2 n hn) rfl rfl) (by have h := hlen2; unfold maxLen at h; exact h) W hlE ⟨hes2, Nat.le_refl _, by rw [List.length_map, Nat.mul_one], arr2, tt2, fz2, hb2, hc2⟩
    · rw [e0]
      by_cases z0 : l0.length = 0
      · rw [z0]
        rcases hi2 with e2 | ⟨ad2, e2⟩ | ⟨blk2, base2, es2, l2, e2, hwf2, hlen2, hes2, arr2, tt2, fz2, hb2, ⟨n02, hn02⟩, hc2⟩
        · rw [e2]
          exact walkEE (some ⟨blk0, base0, none⟩) es0 l1 none 0 wl1 W hlE
        · rw [e2]
          exact walkEE (some ⟨blk0, base0, none⟩) es0 l1 (some ad2) 0 wl1 W hlE
        · rw [e2]
          by_cases z2 : l2.length = 0
          · rw [z2]
            exact walkEE (some ⟨blk0, base0, none⟩) es0 l1 (some ⟨blk2, base2, none⟩) es2 wl1 W hlE
          · skip
            exact walkER (some ⟨blk0, base0, none⟩) es0 l1 blk2 base2 es2 l2 wl1 (by omega) (fun n hn => intOf2 (hwf2 n hn) rfl rfl) (by have h := hlen2; unfold maxLen at h; exact h) W hlE ⟨hes2, Nat.le_refl _, by rw [List.length_map, Nat.mul_one], arr2, tt2, fz2, hb2, hc2⟩
      · skip
        rcases hi2 with e2 | ⟨ad2, e2⟩ | ⟨blk2, base2, es2, l2, e2, hwf2, hlen2, hes2, arr2, tt2, fz2, hb2, ⟨n02, hn02⟩, hc2⟩
        · rw [e2]
          exact walkRE blk0 base0 es0 l0 l1 none 0 (by omega) (fun n hn => hwf0 n hn) (by have h := hlen0; unfold maxLen at h; exact h) wl1 W hlE ⟨hes0, Nat.le_refl _, by rw [List.length_map, Nat.mul_one], arr0, tt0, fz0, hb0, hc0⟩
        · rw [e2]
          exact walkRE blk0 base0 es0 l0 l1 (some ad2) 0 (by omega) (fun n hn => hwf0 n hn) (by have h := hlen0; unfold maxLen at h; exact h) wl1 W hlE ⟨hes0, Nat.le_refl _, by rw [List.length_map, Nat.mul_one], arr0, tt0, fz0, hb0, hc0⟩
        · rw [e2]
          by_cases z2 : l2.length = 0
          · rw [z2]
            exact walkRE blk0 base0 es0 l0 l1 (some ⟨blk2, base2, none⟩) es2 (by omega) (fun n hn => hwf0 n hn) (by have h := hlen0; unfold maxLen at h; exact h) wl1 W hlE ⟨hes0, Nat.le_refl _, by rw [List.length_map, Nat.mul_one], arr0, tt0, fz0, hb0, hc0⟩
          · skip
            exact walkRR blk0 base0 es0 l0 l1 blk2 base2 es2 l2 (by omega) (fun n hn => hwf0 n hn) (by have h := hlen0; unfold maxLen at h; exact h) wl1 (by omega) (fun n hn => intOf2 (hwf2 n hn) rfl rfl) (by have h := hlen2; unfold maxLen at h; exact h) W hlE ⟨hes0, Nat.le_refl _, by rw [List.length_map, Nat.mul_one], arr0, tt0, fz0, hb0, hc0⟩ ⟨hes2, Nat.le_refl _, by rw [List.length_map, Nat.mul_one], arr2, tt2, fz2, hb2, hc2⟩
  clear hA0 hval0
  simp only [List.append_nil, List.nil_append] at hW' hA
  refine hw.mono fun e W' ⟨he, hg⟩ => ?_
  subst he
  exact ⟨_, rfl, post_below (pa := p0 ++ p2) (pv := []) hW' (fun _ _ _ => (trodAll_cons_mk (shut_bool Tryd.underlying4 _) trodAll_mk0)) (fun sp hsp => trodAll_stays (by kernel_rfl) hg (ts := [22, 9, 23]) (fun t ht => by simp only [List.mem_cons, List.not_mem_nil, or_false] at ht; rcases ht with rfl | rfl | rfl <;> exact ⟨by kernel_rfl, of_decide_eq_true (by kernel_rfl)⟩) hA (fun p hp => hW'.lt p hp) hsp) (fun _ _ => rfl) (List.append_nil _).symm
    hg (ok_one (by kernel_rfl) rfl (okWide_bool_mk Tryd.underlying4 _))⟩
theorem over : Rows.chunkBackRow.holds Tryd.pinned (OpenSpec.ofChange Rows.chunkBackSpec) :=
  OpenClaim.holds_of_wide 3 Tryd.f3 rfl rfl rfl rfl rfl rfl rfl ⟨rfl, rfl, rfl, rfl, rfl⟩ rfl rfl rfl rfl rfl (by kernel_rfl) Tryd.func3 (by kernel_rfl)
    (of_decide_eq_true (by kernel_rfl)) (by unfold Func.isWrapper; first | (rw [if_pos (by decide +kernel)]; kernel_rfl) | (rw [if_neg (by decide +kernel)]; exact ⟨rfl, rfl⟩))
    (fun os started H enc _ => lifted os started H enc)
theorem cardHolds : Rows.ChunkBackCardSaid :=
  Claim7.holds_tied_plain_at .later [] [.data, .data, .data] true (true, "ffb34f0270d6e26d7aa4b9aa261a96a6d28ed4240a0bc65fe861401e4b365a57") true
    over (fun _ h => by cases h) (by kernel_rfl) (fun _ h => by cases h) chunkBack_row_tie rfl ⟨rfl, rfl⟩ (by kernel_rfl) rfl
    (fun f fn hf hfn => by
      obtain rfl : f = 3 := Option.some.inj ((show Tryd.prog.funcNamed Rows.chunkBackRow.func = some 3 by kernel_rfl).symm.trans hf) |>.symm
      obtain rfl : fn = Tryd.f3 := (Option.some.inj (Tryd.func3.symm.trans hfn)).symm
      exact ⟨by kernel_rfl, fun j t ht => by
        rw [Tryd.params3] at ht
        have h3 : t = 9 ∨ t = 22 ∨ t = 23 := by
          rcases j with _ | _ | _ | j
          · right; left; simpa using ht.symm
          · left; simpa using ht.symm
          · right; right; simpa using ht.symm
          · simp at ht
        rcases h3 with rfl | rfl | rfl
        · exact (show Tryd.prog.wantsStandIn 9 = false by kernel_rfl)
        · exact (show Tryd.prog.wantsStandIn 22 = false by kernel_rfl)
        · exact (show Tryd.prog.wantsStandIn 23 = false by kernel_rfl)⟩)
    (by kernel_rfl)
#print axioms cardHolds
end Go.Proofs.YtamjghigoipbeaaDoor.chunkBack
