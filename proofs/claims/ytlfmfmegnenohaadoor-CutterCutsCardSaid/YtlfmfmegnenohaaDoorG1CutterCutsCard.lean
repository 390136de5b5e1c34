/- conduitlaw5.CutterCuts holds, tied to the program's text: for any row of records, any bytes behind and any row of sizes the law answers true and leaves what was there as it was. Conditions: the row's own (the listed package variables are laid as the program's text lays them). -/
import Derived.Test.YtlfmfmegnenohaaDoorG1CutterCutsP
import Derived.Test.YtlfmfmegnenohaaDoorRows
import Derived.Test.YtlfmfmegnenohaaDoorCards
import Derived.Test.YtlfmfmegnenohaaDoorTie
import Derived.SevenTiedAt
import Derived.ChangeVars
import Derived.JoinedOf
import Derived.RowKit
import Derived.RowKitTokens
import Derived.LaidLaws
import Derived.LaidHandle
import Derived.Stop.Joined
import Derived.WalkKit
import Derived.ProofKit
import Derived.OpenShut
import Derived.Lib.SmallJoins
import Derived.ChangeMaps5
import Derived.Carry
import Derived.ChangeSlices
import Derived.SizedLaws
import Derived.Test.YtlfmfmegnenohaaDoorHKC
import Derived.Test.YtlfmfmegnenohaaDoorHKG
import Derived.Test.YtlfmfmegnenohaaDoorHKA
import Derived.Lay
import Derived.LaidOnce
namespace Go.Proofs.YtlfmfmegnenohaaDoor.cutterCuts
open Go Go.AX Go.Proofs Go.Proofs.YtlfmfmegnenohaaDoor
open Go.ChangeMaps
open Go.Joins
open Go.ChangeShapes Go.WideShapes Go.ChangeAt Go.RowKit
set_option linter.unusedVariables false
set_option linter.unusedSimpArgs false
set_option maxRecDepth 100000
theorem own : ownKnob Tryd.prog.godebug = none := by kernel_rfl
theorem et : Tryd.prog.globalNamed "errors.errorType" = some 0 := by kernel_rfl
theorem rt : (Tryd.prog.cutTypes.find? (·.1 == "internal/reflectlite.rtype")).map (·.2) = some 73 := by kernel_rfl
theorem oneRow : ((List.range Tryd.prog.types.size).filter fun t => Tryd.prog.rowNamed t [101, 114, 114, 111, 114]) = [34] := by kernel_rfl
theorem laidE0_of {W : World} {laid : List (String × DataW Unit)} (hm : ("errors.errorType", Rows.laid_errors_errorType) ∈ laid) (h : handlesMet Tryd.prog laid W) : laidE0 W := by
  obtain ⟨name, u, ty, e1, e2, e3, e4, e5⟩ := h _ hm
  have en : name = [101, 114, 114, 111, 114] := (Option.some.inj e1).symm
  subst en
  obtain rfl := Option.some.inj (rt.symm.trans e2)
  have hm : ty ∈ (List.range Tryd.prog.types.size).filter fun t => Tryd.prog.rowNamed t [101, 114, 114, 111, 114] := List.mem_filter.2 ⟨List.mem_range.2 e3, e4⟩
  rw [oneRow] at hm
  obtain rfl := List.mem_singleton.1 hm
  unfold World.var? at e5
  rw [et] at e5
  simp only [Option.bind_some] at e5
  split at e5
  · rename_i cs t fz hc
    injection e5 with e5
    subst e5
    exact ⟨t, fz, hc⟩
  · cases e5
def dataL : List (String × DataW Unit) := []
noncomputable def laidWorld (os : Os) : World :=
  let w0 := World.holding Tryd.prog os ⟨#[], #[], []⟩
  { w0 with heap := w0.heap.modify 0 fun
      | .cells _ t frozen => .cells #[.iface 73 (.agg #[typeHandle Tryd.prog 34])] t frozen
      | o => o }
theorem laidWorld_met (os : Os) (args : Array Value) : laidMetH Tryd.prog Rows.cutterCutsRow.laid ((laidWorld os).forCall (fun _ _ => 0) ⟨#[], args, []⟩).memory :=
  laidMetH_of_parts (laidMet_nil _ _) (by kernel_rfl)
theorem getH0 {W : World} {blk base : Nat} {arr : Array Value} {tt : Nat} {fz : Nat × Nat} {k : IntKind} {n : Int} (h : laidE W) (hb : W.heap[blk]? = some (.cells arr tt fz)) (hn : arr[base]? = some (.int k n)) : ∀ e, (H0 e ).get blk = none := by
  intro e 
  have hne : blk ≠ 0 := by
    rintro rfl
    obtain ⟨t', fz', h0⟩ := h
    rw [hb] at h0
    injection h0 with h0
    injection h0 with h1
    subst h1
    cases base <;> simp at hn
  unfold H0
  rw [get_set _ _ _ _ (by omega), if_neg (by omega)]
  exact T.get_leaf _
theorem lifted (os : Os) (started : os.Started) (H : Type) (enc : TypeId × Value → H) :
    ReturnsInHanded {} Tryd.checked os 4 .any (fun w args => (Rows.cutterCutsSpec.pre enc Tryd.prog Tryd.f4 [] false w args ∧ laidMetH Tryd.prog Rows.cutterCutsRow.laid w) ∧ sizedMet enc Tryd.prog Tryd.f4 (OpenSpec.ofChange Rows.cutterCutsSpec) false w args)
      (Rows.cutterCutsSpec.post enc Tryd.prog Tryd.f4 false true false false) := by
  refine returnsInHanded_of_change_and (C := Tryd.checked) (X := fun w _ => laidMetH Tryd.prog Rows.cutterCutsRow.laid w) (fun _ _ _ hh h => h.of_heap hh) own started (by kernel_rfl) Tryd.func4
    (ChangeSpec.witness_at (enc := enc) (C := Tryd.checked) (os := os) (X := fun w _ => laidMetH Tryd.prog Rows.cutterCutsRow.laid w) false (laidWorld os) #[.slice none 0 0, .string ⟨#[]⟩, .slice none 0 0] 8 rfl (by kernel_rfl) (by kernel_rfl) (by kernel_rfl) (by kernel_rfl) (by kernel_rfl) (laidWorld_met os _)) ?_
  intro W base args ds gs before hval0 hW hcnd hSz hL _
  have hval : ∀ (j : Nat) t v, Tryd.f4.params[j]? = some t → args[j]? = some v → Value.okWide Tryd.prog W .any base t v := hval0
  have hW' := hW
  have hL' : laidMet Tryd.prog dataL W ∧ handlesMet Tryd.prog [("errors.errorType", Rows.laid_errors_errorType)] W := hL
  have hL1 := hL'.1
  have hL2 := hL'.2
  have hlE : laidE W := laidE0_of (List.mem_singleton.2 rfl) hL2
  obtain ⟨p, q, hA0, hV, rfl, hfz, hnd⟩ := hW
  have hA : DataW.TrodAll enc Tryd.prog W 0 (fun _ => true) true Tryd.f4.params.toList args.toList ds p := hA0
  rw [Tryd.params4] at hA hval
  obtain ⟨v0, vs0, d0, ds0, p0, q0, hargs, rfl, rfl, h0, r0⟩ := trodAll_cons hA
  obtain ⟨v1, vs1, d1, ds1, p1, q1, rfl, rfl, rfl, h1, r1⟩ := trodAll_cons r0
  obtain ⟨v2, vs2, d2, ds2, p2, q2, rfl, rfl, rfl, h2, r2⟩ := trodAll_cons r1
  obtain ⟨rfl, rfl, rfl⟩ := trodAll_nil r2
  obtain rfl : args = #[v0, v1, v2] := by cases args; simp_all
  obtain ⟨rfl, rfl⟩ := trodVars_none hV
  obtain ⟨sa0, sn0, sc0, rfl⟩ := okWide_slice Tryd.underlying22 (hval 0 22 v0 rfl rfl)
  have hi0 := in_recs Tryd.underlying22 Tryd.underlying26 (by kernel_rfl) rfl rfl rfl rfl (by kernel_rfl) (by kernel_rfl) (by kernel_rfl) (by kernel_rfl) (by kernel_rfl) (by kernel_rfl) (by kernel_rfl) (by kernel_rfl) h0
  obtain ⟨s1, rfl, rfl, rfl, ws1⟩ := open_string Tryd.underlying9 (hval 1 9 v1 rfl rfl) h1
  obtain ⟨l1, rfl⟩ : ∃ l : List UInt8, s1 = ⟨l.toArray⟩ := ⟨s1.data.toList, by cases s1; simp⟩
  have wl1 : l1.length ≤ 9223372036854775807 := by have h := ws1; unfold maxLen at h; simpa [ByteArray.size] using h
  obtain ⟨sa2, sn2, sc2, rfl⟩ := okWide_slice Tryd.underlying40 (hval 2 40 v2 rfl rfl)
  have hi2 := in_ints Tryd.underlying40 Tryd.underlying5 (by kernel_rfl) h2
  have hw : CwR 4 #[.slice sa0 sn0 sc0, St' l1, .slice sa2 sn2 sc2] W (.bool true) := by
    rcases hi0 with e0 | ⟨ad0, e0⟩ | ⟨blk0, base0, es0, l0, e0, hwf0, hlen0, hes0, arr0, tt0, fz0, hb0, ⟨n00, hn00⟩, hc0⟩
    · rw [e0]
      rcases hi2 with e2 | ⟨ad2, e2⟩ | ⟨blk2, base2, es2, l2, e2, hwf2, hlen2, hes2, arr2, tt2, fz2, hb2, ⟨n02, hn02⟩, hc2⟩
      · rw [e2]
        exact walkEE none 0 l1 none 0 wl1 W hlE
      · rw [e2]
        exact walkEE none 0 l1 (some ad2) 0 wl1 W hlE
      · rw [e2]
        by_cases z2 : l2.length = 0
        · rw [z2]
          exact walkEE none 0 l1 (some ⟨blk2, base2, none⟩) es2 wl1 W hlE
        · skip
          exact walkER none 0 l1 blk2 base2 es2 l2 wl1 (by omega) (fun n hn => intOf2 (hwf2 n hn) rfl rfl) (by have h := hlen2; unfold maxLen at h; exact h) W hlE ⟨hes2, Nat.le_refl _, by rw [List.length_map, Nat.mul_one], arr2, tt2, fz2, hb2, hc2⟩ (getH0 hlE hb2 hn02)
    · rw [e0]
      rcases hi2 with e2 | ⟨ad2, e2⟩ | ⟨blk2, base2, es2, l2, e2, hwf2, hlen2, hes2, arr2, tt2, fz2, hb2, ⟨n02, hn02⟩, hc2⟩
      · rw [e2]
        exact walkEE (some ad0) 0 l1 none 0 wl1 W hlE
      · rw [e2]
        exact walkEE (some ad0) 0 l1 (some ad2) 0 wl1 W hlE
      · rw [e2]
        by_cases z2 : l2.length = 0
        · rw [z2]
          exact walkEE (some ad0) 0 l1 (some ⟨blk2, base2, none⟩) es2 wl1 W hlE
        · skip
          exact walkER (some ad0) 0 l1 blk2 base2 es2 l2 wl1 (by omega) (fun n hn => intOf2 (hwf2 n hn) rfl rfl) (by have h := hlen2; unfold maxLen at h; exact h) W hlE ⟨hes2, Nat.le_refl _, by rw [List.length_map, Nat.mul_one], arr2, tt2, fz2, hb2, hc2⟩ (getH0 hlE hb2 hn02)
    · rw [e0]
      by_cases z0 : l0.length = 0
      · rw [z0]
        rcases hi2 with e2 | ⟨ad2, e2⟩ | ⟨blk2, base2, es2, l2, e2, hwf2, hlen2, hes2, arr2, tt2, fz2, hb2, ⟨n02, hn02⟩, hc2⟩
        · rw [e2]
          exact walkEE (some ⟨blk0, base0, none⟩) es0 l1 none 0 wl1 W hlE
        · rw [e2]
          exact walkEE (some ⟨blk0, base0, none⟩) es0 l1 (some ad2) 0 wl1 W hlE
        · rw [e2]
          by_cases z2 : l2.length = 0
          · rw [z2]
            exact walkEE (some ⟨blk0, base0, none⟩) es0 l1 (some ⟨blk2, base2, none⟩) es2 wl1 W hlE
          · skip
            exact walkER (some ⟨blk0, base0, none⟩) es0 l1 blk2 base2 es2 l2 wl1 (by omega) (fun n hn => intOf2 (hwf2 n hn) rfl rfl) (by have h := hlen2; unfold maxLen at h; exact h) W hlE ⟨hes2, Nat.le_refl _, by rw [List.length_map, Nat.mul_one], arr2, tt2, fz2, hb2, hc2⟩ (getH0 hlE hb2 hn02)
      · skip
        rcases hi2 with e2 | ⟨ad2, e2⟩ | ⟨blk2, base2, es2, l2, e2, hwf2, hlen2, hes2, arr2, tt2, fz2, hb2, ⟨n02, hn02⟩, hc2⟩
        · rw [e2]
          exact walkRE blk0 base0 es0 l0 l1 none 0 (by omega) (fun n hn => reB_of (hwf0 n hn)) (by have h := hlen0; unfold maxLen at h; exact h) wl1 W hlE ⟨hes0, by decide, flat_len reC_len l0, arr0, tt0, fz0, hb0, hc0⟩ (getH0 hlE hb0 hn00)
        · rw [e2]
          exact walkRE blk0 base0 es0 l0 l1 (some ad2) 0 (by omega) (fun n hn => reB_of (hwf0 n hn)) (by have h := hlen0; unfold maxLen at h; exact h) wl1 W hlE ⟨hes0, by decide, flat_len reC_len l0, arr0, tt0, fz0, hb0, hc0⟩ (getH0 hlE hb0 hn00)
        · rw [e2]
          by_cases z2 : l2.length = 0
          · rw [z2]
            exact walkRE blk0 base0 es0 l0 l1 (some ⟨blk2, base2, none⟩) es2 (by omega) (fun n hn => reB_of (hwf0 n hn)) (by have h := hlen0; unfold maxLen at h; exact h) wl1 W hlE ⟨hes0, by decide, flat_len reC_len l0, arr0, tt0, fz0, hb0, hc0⟩ (getH0 hlE hb0 hn00)
          · skip
            exact walkRR blk0 base0 es0 l0 l1 blk2 base2 es2 l2 (by omega) (fun n hn => reB_of (hwf0 n hn)) (by have h := hlen0; unfold maxLen at h; exact h) wl1 (by omega) (fun n hn => intOf2 (hwf2 n hn) rfl rfl) (by have h := hlen2; unfold maxLen at h; exact h) W hlE ⟨hes0, by decide, flat_len reC_len l0, arr0, tt0, fz0, hb0, hc0⟩ (getH0 hlE hb0 hn00) ⟨hes2, Nat.le_refl _, by rw [List.length_map, Nat.mul_one], arr2, tt2, fz2, hb2, hc2⟩ (getH0 hlE hb2 hn02)
  clear hA0 hval0
  simp only [List.append_nil, List.nil_append] at hW' hA
  refine hw.mono fun e W' ⟨he, hg⟩ => ?_
  subst he
  exact ⟨_, rfl, post_below (pa := p0 ++ p2) (pv := []) hW' (fun _ _ _ => (trodAll_cons_mk (shut_bool Tryd.underlying4 _) trodAll_mk0)) (fun sp hsp => trodAll_stays (by kernel_rfl) hg (ts := [22, 9, 40]) (fun t ht => by simp only [List.mem_cons, List.not_mem_nil, or_false] at ht; rcases ht with rfl | rfl | rfl <;> exact ⟨by kernel_rfl, of_decide_eq_true (by kernel_rfl)⟩) hA (fun p hp => hW'.lt p hp) hsp) (fun _ _ => rfl) (List.append_nil _).symm
    hg (ok_one (by kernel_rfl) rfl (okWide_bool_mk Tryd.underlying4 _))⟩
theorem over : Rows.cutterCutsRow.holds Tryd.pinned (OpenSpec.ofChange Rows.cutterCutsSpec) :=
  OpenClaim.holds_of_wide 4 Tryd.f4 rfl rfl rfl rfl rfl rfl rfl ⟨rfl, rfl, rfl, rfl, rfl⟩ rfl rfl rfl rfl rfl (by kernel_rfl) Tryd.func4 (by kernel_rfl)
    (of_decide_eq_true (by kernel_rfl)) (by unfold Func.isWrapper; first | (rw [if_pos (by decide +kernel)]; kernel_rfl) | (rw [if_neg (by decide +kernel)]; exact ⟨rfl, rfl⟩))
    (fun os started H enc _ => lifted os started H enc)
theorem cardHolds : Rows.CutterCutsCardSaid :=
  Claim7.holds_tied_plain_at .later [] [.handle] true (true, "24d71f9089bf2adcdea028648ae0b4305d25b8032a448bbebcdf173c03e6e012") true
    over (fun _ h => by cases h) (by kernel_rfl) (fun _ h => by cases h) cutterCuts_row_tie rfl ⟨rfl, rfl⟩ (by kernel_rfl) rfl
    (fun f fn hf hfn => by
      obtain rfl : f = 4 := Option.some.inj ((show Tryd.prog.funcNamed Rows.cutterCutsRow.func = some 4 by kernel_rfl).symm.trans hf) |>.symm
      obtain rfl : fn = Tryd.f4 := (Option.some.inj (Tryd.func4.symm.trans hfn)).symm
      exact ⟨by kernel_rfl, fun j t ht => by
        rw [Tryd.params4] at ht
        have h3 : t = 9 ∨ t = 22 ∨ t = 40 := by
          rcases j with _ | _ | _ | j
          · right; left; simpa using ht.symm
          · left; simpa using ht.symm
          · right; right; simpa using ht.symm
          · simp at ht
        rcases h3 with rfl | rfl | rfl
        · exact (show Tryd.prog.wantsStandIn 9 = false by kernel_rfl)
        · exact (show Tryd.prog.wantsStandIn 22 = false by kernel_rfl)
        · exact (show Tryd.prog.wantsStandIn 40 = false by kernel_rfl)⟩)
    (by kernel_rfl)
#print axioms cardHolds
end Go.Proofs.YtlfmfmegnenohaaDoor.cutterCuts
