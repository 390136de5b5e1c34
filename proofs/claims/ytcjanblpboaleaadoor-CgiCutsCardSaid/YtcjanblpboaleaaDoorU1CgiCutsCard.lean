/- conduitlaw16.CgiCuts holds, tied to the program's text: for any bytes and any row of sizes the law answers true and leaves what was there as it was. Conditions: the row's own (the listed package variables are laid as the program's text lays them). -/
import Derived.Test.YtcjanblpboaleaaDoorU1CgiCutsP
import Derived.Test.YtcjanblpboaleaaDoorRows
import Derived.Test.YtcjanblpboaleaaDoorCards
import Derived.Test.YtcjanblpboaleaaDoorTie
import Derived.SevenTiedAt
import Derived.ChangeVars
import Derived.JoinedOf
import Derived.RowKit
import Derived.RowKitTokens
import Derived.LaidLaws
import Derived.LaidHandle
import Derived.Stop.Joined
import Derived.WalkKit
import Derived.ProofKit
import Derived.OpenShut
import Derived.Lib.SmallJoins
import Derived.ChangeMaps5
import Derived.Carry
import Derived.ChangeSlices
import Derived.SizedLaws
import Derived.Test.YtcjanblpboaleaaDoorHKC
import Derived.Test.YtcjanblpboaleaaDoorHKA
import Derived.Lay
import Derived.LaidOnce
namespace Go.Proofs.YtcjanblpboaleaaDoor.cgiCuts
open Go Go.AX Go.Proofs Go.Proofs.YtcjanblpboaleaaDoor
open Go.ChangeMaps
open Go.Joins
open Go.ChangeShapes Go.WideShapes Go.ChangeAt Go.RowKit
set_option linter.unusedVariables false
set_option linter.unusedSimpArgs false
set_option maxRecDepth 100000
theorem own : ownKnob Tryd.prog.godebug = none := by kernel_rfl
theorem et : Tryd.prog.globalNamed "errors.errorType" = some 0 := by kernel_rfl
theorem rt : (Tryd.prog.cutTypes.find? (·.1 == "internal/reflectlite.rtype")).map (·.2) = some 80 := by kernel_rfl
theorem oneRow : ((List.range Tryd.prog.types.size).filter fun t => Tryd.prog.rowNamed t [101, 114, 114, 111, 114]) = [27] := by kernel_rfl
theorem laidE0_of {W : World} {laid : List (String × DataW Unit)} (hm : ("errors.errorType", Rows.laid_errors_errorType) ∈ laid) (h : handlesMet Tryd.prog laid W) : ph W := by
 obtain ⟨name, u, ty, e1, e2, e3, e4, e5⟩ := h _ hm
 have en : name = [101, 114, 114, 111, 114] := (Option.some.inj e1).symm
 subst en
 obtain rfl := Option.some.inj (rt.symm.trans e2)
 have hm : ty ∈ (List.range Tryd.prog.types.size).filter fun t => Tryd.prog.rowNamed t [101, 114, 114, 111, 114] := List.mem_filter.2 ⟨List.mem_range.2 e3, e4⟩
 rw [oneRow] at hm
 obtain rfl := List.mem_singleton.1 hm
 unfold World.var? at e5
 rw [et] at e5
 simp only [Option.bind_some] at e5
 split at e5
 ·rename_i cs t fz hc
  injection e5 with e5
  subst e5
  exact ⟨t, fz, hc⟩
 ·cases e5
def GI : List (String × DataW Unit) := [("unicode/utf8.acceptRanges", Rows.laid_unicode_utf8_acceptRanges), ("unicode/utf8.first", Rows.laid_unicode_utf8_first)]
theorem laidMet_from {P : Program} {w0 : World} {laid : List (String × DataW Unit)} (args : Array Value)
 (hf : w0.layFits P laid [] = true)
 (hi : w0.layIfaces P laid (w0.layVars P laid) = true) :
 laidMet P laid ((w0.layVars P laid).forCall (fun _ _ => 0) ⟨#[], args, []⟩).memory := by
 have e1 : (laid.filter fun x => (laid.map (·.1)).contains x.1) = laid := List.filter_eq_self.2 fun x hx => List.contains_iff_mem.2 (List.mem_map.2 ⟨x, hx, rfl⟩)
 have e2 : (laid.filter fun x => !(laid.map (·.1)).contains x.1) = [] := List.filter_eq_nil_iff.2 fun x hx => by rw [List.contains_iff_mem.2 (List.mem_map.2 ⟨x, hx, rfl⟩)]; simp
 have h : laidMet P laid (w0.layVars P laid) := laidMet_layVars (w0 := w0) (laid.map (·.1)) [] (by rw [e1]) (by rw [e1]; exact hf) (by rw [e1]; exact hi) (by rw [e2]; exact LaidIn.none)
 exact h.of_heap (by simp [World.memory, World.forCall, Input.heap])
noncomputable def w0m (os : Os) : World :=
 let w0 := World.holding Tryd.prog os ⟨#[], #[], []⟩
 { w0 with heap := w0.heap.modify 0 fun
    | .cells _ t frozen => .cells #[.iface 80 (.agg #[typeHandle Tryd.prog 27])] t frozen
    | o => o }
noncomputable def laidWorld (os : Os) : World := (w0m os).layVars Tryd.prog GI
theorem laidWorld_met (os : Os) (args : Array Value) : laidMetH Tryd.prog Rows.cgiCutsRow.laid ((laidWorld os).forCall (fun _ _ => 0) ⟨#[], args, []⟩).memory :=
 laidMetH_of_parts (laidMet_from (w0 := w0m os) (laid := GI) args (by kernel_rfl) (by kernel_rfl)) (by kernel_rfl)
theorem lifted (os : Os) (started : os.Started) (H : Type) (enc : TypeId × Value → H) :
 ReturnsInHanded {} Tryd.checked os 3 .any (fun w args => (Rows.cgiCutsSpec.pre enc Tryd.prog Tryd.f3 [] false w args ∧ laidMetH Tryd.prog Rows.cgiCutsRow.laid w) ∧ sizedMet enc Tryd.prog Tryd.f3 (OpenSpec.ofChange Rows.cgiCutsSpec) false w args)
  (Rows.cgiCutsSpec.post enc Tryd.prog Tryd.f3 false true false false) := by
 refine returnsInHanded_of_change_and (C := Tryd.checked) (X := fun w _ => laidMetH Tryd.prog Rows.cgiCutsRow.laid w) (fun _ _ _ hh h => h.of_heap hh) own started (by kernel_rfl) Tryd.func3
  (ChangeSpec.witness_shaped (enc := enc) (C := Tryd.checked) (os := os) (X := fun w _ => laidMetH Tryd.prog Rows.cgiCutsRow.laid w) false (laidWorld os) #[.string ⟨#[]⟩, .slice none 0 0] 8 (World.layVars_os _ _ _)
    (World.shaped_of_ZipB (by kernel_rfl) (by kernel_rfl)) (by kernel_rfl) (by kernel_rfl) (by kernel_rfl) (laidWorld_met os _)) ?_
 intro W base args ds gs before hval0 hW hcnd hSz hL _
 have hval : ∀ (j : Nat) t v, Tryd.f3.params[j]? = some t → args[j]? = some v → Value.okWide Tryd.prog W .any base t v := hval0
 have hW' := hW
 have hL' : laidMet Tryd.prog GI W ∧ handlesMet Tryd.prog [("errors.errorType", Rows.laid_errors_errorType)] W := hL
 have hL1 := hL'.1
 have hL2 := hL'.2
 have hlE : aH W := laidE0_of (List.mem_singleton.2 rfl) hL2
 obtain ⟨p, q, hA0, hV, rfl, hfz, hnd⟩ := hW
 have hA : DataW.TrodAll enc Tryd.prog W 0 (fun _ => true) true Tryd.f3.params.toList args.toList ds p := hA0
 rw [Tryd.params3] at hA hval
 obtain ⟨v0, vs0, d0, ds0, p0, q0, hargs, rfl, rfl, h0, r0⟩ := trodAll_cons hA
 obtain ⟨v1, vs1, d1, ds1, p1, q1, rfl, rfl, rfl, h1, r1⟩ := trodAll_cons r0
 obtain ⟨rfl, rfl, rfl⟩ := trodAll_nil r1
 obtain rfl : args = #[v0, v1] := by cases args; simp_all
 obtain ⟨rfl, rfl⟩ := trodVars_none hV
 obtain ⟨s0, rfl, rfl, rfl, ws0⟩ := open_string Tryd.underlying9 (hval 0 9 v0 rfl rfl) h0
 obtain ⟨l0, rfl⟩ : ∃ l : List UInt8, s0 = ⟨l.toArray⟩ := ⟨s0.data.toList, by cases s0; simp⟩
 have wl0 : l0.length ≤ 9223372036854775807 := by have h := ws0; unfold maxLen at h; simpa [ByteArray.size] using h
 obtain ⟨sa1, sn1, sc1, rfl⟩ := okWide_slice Tryd.underlying22 (hval 1 22 v1 rfl rfl)
 have hi1 := in_ints Tryd.underlying22 Tryd.underlying5 (by kernel_rfl) h1
 have hw : bp 3 #[St' l0, .slice sa1 sn1 sc1] W (.bool true) := by
  rcases hi1 with e1 | ⟨ad1, e1⟩ | ⟨blk1, base1, es1, l1, e1, hwf1, hlen1, hes1, arr1, tt1, fz1, hb1, ⟨n01, hn01⟩, hc1⟩
  ·rw [e1]
   exact Bl l0 none 0 wl0 W hlE
  ·rw [e1]
   exact Bl l0 (some ad1) 0 wl0 W hlE
  ·rw [e1]
   by_cases z1 : l1.length = 0
   ·rw [z1]
    exact Bl l0 (some ⟨blk1, base1, none⟩) es1 wl0 W hlE
   ·exact walkR l0 blk1 base1 es1 l1 wl0 (by omega) (fun n hn => intOf2 (hwf1 n hn) rfl rfl) (by have h := hlen1; unfold maxLen at h; exact h) W hlE ⟨hes1, Nat.le_refl _, by rw [List.length_map, Nat.mul_one], arr1, tt1, fz1, hb1, hc1⟩
 clear hA0 hval0
 simp only [List.append_nil, List.nil_append] at hW' hA
 refine hw.mono fun e W' ⟨he, hg⟩ => ?_
 subst he
 exact ⟨_, rfl, post_below (pa := p1) (pv := []) hW' (fun _ _ _ => (trodAll_cons_mk (shut_bool Tryd.underlying4 _) trodAll_mk0)) (fun sp hsp => aA0 (by kernel_rfl) hg (ts := [9, 22]) (fun t ht => by simp only [List.mem_cons, List.not_mem_nil, or_false] at ht; rcases ht with rfl | rfl <;> exact ⟨by kernel_rfl, of_decide_eq_true (by kernel_rfl)⟩) hA (fun p hp => hW'.lt p hp) hsp) (fun _ _ => rfl) (List.append_nil _).symm
  hg (ok_one (by kernel_rfl) rfl (okWide_bool_mk Tryd.underlying4 _))⟩
theorem over : Rows.cgiCutsRow.holds Tryd.pinned (OpenSpec.ofChange Rows.cgiCutsSpec) :=
 OpenClaim.holds_of_wide 3 Tryd.f3 rfl rfl rfl rfl rfl rfl rfl ⟨rfl, rfl, rfl, rfl, rfl⟩ rfl rfl rfl rfl rfl (by kernel_rfl) Tryd.func3 (by kernel_rfl)
  (of_decide_eq_true (by kernel_rfl)) (by unfold Func.isWrapper; first | (rw [if_pos (by decide +kernel)]; kernel_rfl) | (rw [if_neg (by decide +kernel)]; exact ⟨rfl, rfl⟩))
  (fun os started H enc _ => lifted os started H enc)
theorem cardHolds : Rows.CgiCutsCardSaid :=
 Claim7.holds_tied_plain_at .later [] [.data, .handle, .pinned] true (true, "135073b1509a94ee6eed3a6c777bb042567551cb5cf43454a9485fcdbf63a49d") true
  over (fun _ h => by cases h) (by kernel_rfl) (fun _ h => by cases h) cgiCuts_row_tie rfl ⟨rfl, rfl⟩ (by kernel_rfl) rfl
  (fun f fn hf hfn => by
    obtain rfl : f = 3 := Option.some.inj ((show Tryd.prog.funcNamed Rows.cgiCutsRow.func = some 3 by kernel_rfl).symm.trans hf) |>.symm
    obtain rfl : fn = Tryd.f3 := (Option.some.inj (Tryd.func3.symm.trans hfn)).symm
    exact ⟨by kernel_rfl, fun j t ht => by
     rw [Tryd.params3] at ht
     have h3 : t = 9 ∨ t = 22 := by
      rcases j with _ | _ | j
      ·left; simpa using ht.symm
      ·right; simpa using ht.symm
      ·simp at ht
     rcases h3 with rfl | rfl
     ·exact (show Tryd.prog.wantsStandIn 9 = false by kernel_rfl)
     ·exact (show Tryd.prog.wantsStandIn 22 = false by kernel_rfl)⟩)
  (by kernel_rfl)
#print axioms cardHolds
end Go.Proofs.YtcjanblpboaleaaDoor.cgiCuts
