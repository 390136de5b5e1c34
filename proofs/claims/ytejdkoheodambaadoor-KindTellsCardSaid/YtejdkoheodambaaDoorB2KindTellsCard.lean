/- conduitlaw4.KindTells holds, tied to the program's text: for any id, choice, end, number and record the law answers true and leaves what was there as it was. Conditions: the row's own (the listed package variables are laid as the program's text lays them). -/
import Derived.Test.YtejdkoheodambaaDoorB2KindTellsP
import Derived.Test.YtejdkoheodambaaDoorRows
import Derived.Test.YtejdkoheodambaaDoorCards
import Derived.Test.YtejdkoheodambaaDoorTie
import Derived.SevenTiedAt
import Derived.ChangeVars
import Derived.JoinedOf
import Derived.RowKit
import Derived.RowKitTokens
import Derived.LaidLaws
import Derived.LaidHandle
import Derived.Stop.Joined
import Derived.WalkKit
import Derived.ProofKit
import Derived.OpenShut
import Derived.ChangeMaps5
import Derived.Lib.SmallJoins
import Derived.Lay
import Derived.LaidOnce
namespace Go.Proofs.YtejdkoheodambaaDoor.kindTells
open Go Go.AX Go.Proofs Go.Proofs.YtejdkoheodambaaDoor
open Go.ChangeMaps
open Go.Joins
open Go.ChangeMaps
open Go.Joins
open Go.ChangeShapes Go.WideShapes Go.ChangeAt Go.RowKit
set_option linter.unusedVariables false
set_option maxRecDepth 100000
theorem own : ownKnob Tryd.prog.godebug = none := by kernel_rfl
theorem et : Tryd.prog.globalNamed "errors.errorType" = some 0 := by kernel_rfl
theorem rt : (Tryd.prog.cutTypes.find? (·.1 == "internal/reflectlite.rtype")).map (·.2) = some 135 := by kernel_rfl
theorem oneRow : ((List.range Tryd.prog.types.size).filter fun t => Tryd.prog.rowNamed t [101, 114, 114, 111, 114]) = [26] := by kernel_rfl
theorem laidE0_of {W : World} {laid : List (String × DataW Unit)} (hm : ("errors.errorType", Rows.laid_errors_errorType) ∈ laid) (h : handlesMet Tryd.prog laid W) : laidE0 W := by
  obtain ⟨name, u, ty, e1, e2, e3, e4, e5⟩ := h _ hm
  have en : name = [101, 114, 114, 111, 114] := (Option.some.inj e1).symm
  subst en
  obtain rfl := Option.some.inj (rt.symm.trans e2)
  have hm : ty ∈ (List.range Tryd.prog.types.size).filter fun t => Tryd.prog.rowNamed t [101, 114, 114, 111, 114] := List.mem_filter.2 ⟨List.mem_range.2 e3, e4⟩
  rw [oneRow] at hm
  obtain rfl := List.mem_singleton.1 hm
  unfold World.var? at e5
  rw [et] at e5
  simp only [Option.bind_some] at e5
  split at e5
  · rename_i cs t fz hc
    injection e5 with e5
    subst e5
    exact ⟨t, fz, hc⟩
  · cases e5
def dataL : List (String × DataW Unit) := []
noncomputable def laidWorld (os : Os) : World :=
  let w0 := World.holding Tryd.prog os ⟨#[], #[], []⟩
  { w0 with heap := w0.heap.modify 0 fun
      | .cells _ t frozen => .cells #[.iface 135 (.agg #[typeHandle Tryd.prog 26])] t frozen
      | o => o }
theorem laidWorld_met (os : Os) (args : Array Value) : laidMetH Tryd.prog Rows.kindTellsRow.laid ((laidWorld os).forCall (fun _ _ => 0) ⟨#[], args, []⟩).memory :=
  laidMetH_of_parts (laidMet_nil _ _) (by kernel_rfl)
theorem lifted (os : Os) (started : os.Started) (H : Type) (enc : TypeId × Value → H) :
    ReturnsInHanded {} Tryd.checked os 7 .any (fun w args => (Rows.kindTellsSpec.pre enc Tryd.prog Tryd.f7 [] false w args ∧ laidMetH Tryd.prog Rows.kindTellsRow.laid w) ∧ sizedMet enc Tryd.prog Tryd.f7 (OpenSpec.ofChange Rows.kindTellsSpec) false w args)
      (Rows.kindTellsSpec.post enc Tryd.prog Tryd.f7 false true false false) := by
  refine returnsInHanded_of_change_and (C := Tryd.checked) (X := fun w _ => laidMetH Tryd.prog Rows.kindTellsRow.laid w) (fun _ _ _ hh h => h.of_heap hh) own started (by kernel_rfl) Tryd.func7
    (ChangeSpec.witness_at (enc := enc) (C := Tryd.checked) (os := os) (X := fun w _ => laidMetH Tryd.prog Rows.kindTellsRow.laid w) false (laidWorld os) #[.int .i64 0, .bool false, .agg #[.int .u32 0, .int .i64 0], .int .i64 0, .agg #[.int .i64 0, .int .i64 0, .string ⟨#[]⟩, .int .i64 0]] 8 rfl (by kernel_rfl) (by kernel_rfl) (by kernel_rfl) (by kernel_rfl) (by kernel_rfl) (laidWorld_met os _)) ?_
  intro W base args ds gs before hval0 hW hcnd _ hL _
  have hval : ∀ (j : Nat) t v, Tryd.f7.params[j]? = some t → args[j]? = some v → Value.okWide Tryd.prog W .any base t v := hval0
  have hW' := hW
  have hL' : laidMet Tryd.prog dataL W ∧ handlesMet Tryd.prog [("errors.errorType", Rows.laid_errors_errorType)] W := hL
  have hL1 := hL'.1
  have hL2 := hL'.2
  have hlE : laidE W := laidE0_of (List.mem_singleton.2 rfl) hL2
  obtain ⟨p, q, hA0, hV, rfl, hfz, hnd⟩ := hW
  have hA : DataW.TrodAll enc Tryd.prog W 0 (fun _ => true) true Tryd.f7.params.toList args.toList ds p := hA0
  rw [Tryd.params7] at hA hval
  obtain ⟨v0, vs0, d0, ds0, p0, q0, hargs, rfl, rfl, h0, r0⟩ := trodAll_cons hA
  obtain ⟨v1, vs1, d1, ds1, p1, q1, rfl, rfl, rfl, h1, r1⟩ := trodAll_cons r0
  obtain ⟨v2, vs2, d2, ds2, p2, q2, rfl, rfl, rfl, h2, r2⟩ := trodAll_cons r1
  obtain ⟨v3, vs3, d3, ds3, p3, q3, rfl, rfl, rfl, h3, r3⟩ := trodAll_cons r2
  obtain ⟨v4, vs4, d4, ds4, p4, q4, rfl, rfl, rfl, h4, r4⟩ := trodAll_cons r3
  obtain ⟨rfl, rfl, rfl⟩ := trodAll_nil r4
  obtain rfl : args = #[v0, v1, v2, v3, v4] := by cases args; simp_all
  obtain ⟨rfl, rfl⟩ := trodVars_none hV
  obtain ⟨a0, rfl, rfl, rfl, w0⟩ := open_int Tryd.underlying3 (hval 0 3 v0 rfl rfl) h0
  have wi0 : -9223372036854775808 ≤ a0 ∧ a0 ≤ 9223372036854775807 := intOf2 w0 rfl rfl
  obtain ⟨a1, rfl, rfl, rfl⟩ := open_bool Tryd.underlying4 (hval 1 4 v1 rfl rfl) h1
  obtain ⟨c2_0, c2_1, y2_0, y2_1, m2, rfl, rfl, rfl, hy2_0, hy2_1⟩ := open_agg2 Tryd.underlying58 (by kernel_rfl) (show Tryd.prog.cellsOf 58 = 2 by kernel_rfl) (hval 2 58 v2 rfl rfl) h2
  obtain ⟨a2_0, e2_0, rfl, w2_0⟩ := DataW.trod_int Tryd.underlying56 hy2_0
  simp at e2_0
  subst e2_0
  have wi2_0 : 0 ≤ a2_0 ∧ a2_0 ≤ 4294967295 := intOf2 w2_0 rfl rfl
  obtain ⟨a2_1, e2_1, rfl, w2_1⟩ := DataW.trod_int Tryd.underlying3 hy2_1
  simp at e2_1
  subst e2_1
  have wi2_1 : -9223372036854775808 ≤ a2_1 ∧ a2_1 ≤ 9223372036854775807 := intOf2 w2_1 rfl rfl
  obtain ⟨a3, rfl, rfl, rfl, w3⟩ := open_int Tryd.underlying3 (hval 3 3 v3 rfl rfl) h3
  have wi3 : -9223372036854775808 ≤ a3 ∧ a3 ≤ 9223372036854775807 := intOf2 w3 rfl rfl
  obtain ⟨c4_0, c4_1, c4_2, c4_3, y4_0, y4_1, y4_2, y4_3, m4, rfl, rfl, rfl, hy4_0, hy4_1, hy4_2, hy4_3⟩ := open_agg4 Tryd.underlying40 (by kernel_rfl) (show Tryd.prog.cellsOf 40 = 4 by kernel_rfl) (hval 4 40 v4 rfl rfl) h4
  obtain ⟨a4_0, e4_0, rfl, w4_0⟩ := DataW.trod_int Tryd.underlying3 hy4_0
  simp at e4_0
  subst e4_0
  have wi4_0 : -9223372036854775808 ≤ a4_0 ∧ a4_0 ≤ 9223372036854775807 := intOf2 w4_0 rfl rfl
  obtain ⟨a4_1, e4_1, rfl, w4_1⟩ := DataW.trod_int Tryd.underlying3 hy4_1
  simp at e4_1
  subst e4_1
  have wi4_1 : -9223372036854775808 ≤ a4_1 ∧ a4_1 ≤ 9223372036854775807 := intOf2 w4_1 rfl rfl
  obtain ⟨s4_2, e4_2, rfl, ws4_2⟩ := DataW.trod_string Tryd.underlying9 hy4_2
  simp at e4_2
  subst e4_2
  obtain ⟨l4_2, rfl⟩ : ∃ l : List UInt8, s4_2 = ⟨l.toArray⟩ := ⟨s4_2.data.toList, by cases s4_2; simp⟩
  have wl4_2 : l4_2.length ≤ 9223372036854775807 := by have h := ws4_2; unfold maxLen at h; simpa [ByteArray.size] using h
  obtain ⟨a4_3, e4_3, rfl, w4_3⟩ := DataW.trod_int Tryd.underlying3 hy4_3
  simp at e4_3
  subst e4_3
  have wi4_3 : -9223372036854775808 ≤ a4_3 ∧ a4_3 ≤ 9223372036854775807 := intOf2 w4_3 rfl rfl
  clear hA0 hval0
  simp only [List.append_nil] at hW'
  refine (walk a0 a1 a2_0 a2_1 a3 a4_0 a4_1 l4_2 a4_3 wi0.1 wi0.2 wi2_0.1 wi2_0.2 wi2_1.1 wi2_1.2 wi3.1 wi3.2 wi4_0.1 wi4_0.2 wi4_1.1 wi4_1.2 wl4_2 wi4_3.1 wi4_3.2 W hlE).mono fun e W' ⟨he, hg⟩ => ?_
  subst he
  exact ⟨_, rfl, post_below (pa := []) (pv := []) hW' (fun _ _ _ => (trodAll_cons_mk (shut_bool Tryd.underlying4 _) trodAll_mk0)) (fun sp _ => (trodAll_cons_mk (shut_int Tryd.underlying3 w0) (trodAll_cons_mk (shut_bool Tryd.underlying4 _) (trodAll_cons_mk (shut_agg2 (y0 := (.lit (.int .u32 a2_0), [])) (y1 := (.lit (.int .i64 a2_1), [])) Tryd.underlying58 (by kernel_rfl) (show Tryd.prog.cellsOf 58 = 2 by kernel_rfl) ⟨1, by simp [DataW.trod, Tryd.underlying56, w2_0]⟩ ⟨1, by simp [DataW.trod, Tryd.underlying3, w2_1]⟩) (trodAll_cons_mk (shut_int Tryd.underlying3 w3) (trodAll_cons_mk (shut_agg4 (y0 := (.lit (.int .i64 a4_0), [])) (y1 := (.lit (.int .i64 a4_1), [])) (y2 := (.lit (.string l4_2), [])) (y3 := (.lit (.int .i64 a4_3), [])) Tryd.underlying40 (by kernel_rfl) (show Tryd.prog.cellsOf 40 = 4 by kernel_rfl) ⟨1, by simp [DataW.trod, Tryd.underlying3, w4_0]⟩ ⟨1, by simp [DataW.trod, Tryd.underlying3, w4_1]⟩ ⟨1, by simp [DataW.trod, Tryd.underlying9, ws4_2]⟩ ⟨1, by simp [DataW.trod, Tryd.underlying3, w4_3]⟩) trodAll_mk0)))))) (fun _ _ => rfl) rfl
    hg (ok_one (by kernel_rfl) rfl (okWide_bool_mk Tryd.underlying4 _))⟩
theorem over : Rows.kindTellsRow.holds Tryd.pinned (OpenSpec.ofChange Rows.kindTellsSpec) :=
  OpenClaim.holds_of_wide 7 Tryd.f7 rfl rfl rfl rfl rfl rfl rfl ⟨rfl, rfl, rfl, rfl, rfl⟩ rfl rfl rfl rfl rfl (by kernel_rfl) Tryd.func7 (by kernel_rfl)
    (of_decide_eq_true (by kernel_rfl)) (by unfold Func.isWrapper; first | (rw [if_pos (by decide +kernel)]; kernel_rfl) | (rw [if_neg (by decide +kernel)]; exact ⟨rfl, rfl⟩))
    (fun os started H enc _ => lifted os started H enc)
theorem cardHolds : Rows.KindTellsCardSaid :=
  Claim7.holds_tied_plain_at .later [] [.handle] true (true, "d10db2e23cff1714e83f8829e962f36fddbf7f285c6d3c3eb597cf1ae911f4eb") true
    over (fun _ h => by cases h) (by kernel_rfl) (fun _ h => by cases h) kindTells_row_tie rfl ⟨rfl, rfl⟩ (by kernel_rfl) rfl
    (fun f fn hf hfn => by
      obtain rfl : f = 7 := Option.some.inj ((show Tryd.prog.funcNamed Rows.kindTellsRow.func = some 7 by kernel_rfl).symm.trans hf) |>.symm
      obtain rfl : fn = Tryd.f7 := (Option.some.inj (Tryd.func7.symm.trans hfn)).symm
      exact ⟨by kernel_rfl, fun j t ht => by
        rw [Tryd.params7] at ht
        have h3 : t = 3 ∨ t = 4 ∨ t = 40 ∨ t = 58 := by
          rcases j with _ | _ | _ | _ | _ | j
          · left; simpa using ht.symm
          · right; left; simpa using ht.symm
          · right; right; right; simpa using ht.symm
          · left; simpa using ht.symm
          · right; right; left; simpa using ht.symm
          · simp at ht
        rcases h3 with rfl | rfl | rfl | rfl
        · exact (show Tryd.prog.wantsStandIn 3 = false by kernel_rfl)
        · exact (show Tryd.prog.wantsStandIn 4 = false by kernel_rfl)
        · exact (show Tryd.prog.wantsStandIn 40 = false by kernel_rfl)
        · exact (show Tryd.prog.wantsStandIn 58 = false by kernel_rfl)⟩)
    (by kernel_rfl)
#print axioms cardHolds
end Go.Proofs.YtejdkoheodambaaDoor.kindTells
