/- A part of the proof: an interpreter of the model's own code on partly known states, and that what it answers is what the program answers. No condition of its own. -/
import Derived.Test.YtipdlfkjablekaaDoorR1PathBackO9
set_option maxRecDepth 100000
set_option linter.unusedVariables false
set_option linter.unusedSimpArgs false
set_option maxHeartbeats 4000000
namespace Go.Proofs.YtipdlfkjablekaaDoor.pathBack
open Go Go.AX Go.Proofs Go.Proofs.YtipdlfkjablekaaDoor
def hy3 : LK := [(.rn, .x 2000000),
  (.len (.x 0), .x 1),
  (.bin .gtr (.x 1) (.i .i64 (.ofNat 400)), .b false),
  (.call 5 [.x 0], .tu [.x 2, .ni]),
  (.call 6 [.x 2], .x 3),
  (.call 5 [.x 3], .tu [.x 4, .ni]),
  (.bin .eql (.x 2) (.x 4), .b true),
  (.bin .eql (.x 2) (.s 0 0), .b false),
  (.bin .eql (.x 2) (.s 1 47), .b true),
  (.call 8 [.x 2, .s 1 47], .b true)]
def lh61 : LH := ⟨3, 63, 93, [], []⟩
def lf61 : LF := ⟨8888888, 0, [(0, .x 2)], [], .normal, [(0, .nils)], some lh61⟩
noncomputable def tab3 : Tab := addLps ({ tabk with hyp := hy3 }) 7 fi7 [lf61]
theorem run3 : Go.AX.okB (call tab3 9000 3 [.x 0] ⟨H0 , 3, 0, 0⟩) = true := by kernel_rfl
def nu3 (p : LB) : List Value := [St' p,
  .int .i64 ((p.length : Int)),
  St' (cA p),
  St' (escS (cA p)),
  St' (cA p)]
def ro3 (p : LB) : List Value := [rwS ([] : List LB)]
theorem on3 (p : LB) : ∀ j, (nuL (nu3 p) j).oneCell' = true := nuL_one (l := nu3 p) rfl
theorem path3 (p : LB) (b0 : p.length ≤ 9223372036854775807) (h0 : ¬ (400 < (p.length : Int))) (h1 : ¬ (cleanG unS p = none)) (h2 : (segS (cA p)).length = 0) (w : World) (hl : laidE w) : CwR 3 #[St' p] w (.bool true) := by
  obtain ⟨hA1, hA2, hA3, hA4, hA5, hA6, hA7⟩ := cA_all (s := p) (by assumption)
  have := escS_len (cA p)
  have := segS_len (cA p)
  have ho : ∀ k r, (k, r) ∈ hy3 → HOk (cx (nuX (nu3 p) (rX (ro3 p) (fun _ => .bool true))) (nuX_one (on3 p)) 0 laidE laidE_stab) k r := by
    unfold hy3
    exact hc (kRn (denX rfl)) <|
     hc (lnV rfl rfl (by omega)) <|
     hc (gtcF rfl (by omega)) <|
     hc (hokCln (s := p) (isX rfl) (by rw [if_neg (by assumption)]; exact denT2 (denX rfl) denNi) (by omega) (by omega)) <|
     hc (hokEscR (s := (cA p)) (isX rfl) (denX rfl) (by omega) (by omega)) <|
     hc (hokCln (s := (escS (cA p))) (isX rfl) (by rw [hA2, if_neg (by simp)]; exact denT2 (denX rfl) denNi) (by omega) (by omega)) <|
     hc (kEqS (isX rfl) (isX rfl) (decide_eq_true rfl)) <|
     hc (kEqS (isX rfl) (isSx (l := ([] : LB)) 0 0 rfl) (nilF (by omega))) <|
     hc (kEqS (isX rfl) (isSx (l := [u8 47]) 1 47 rfl) (decide_eq_true (by first | assumption | exact hA5.resolve_left (by assumption) | exact hA7 (List.eq_nil_of_length_eq_zero (by omega))))) <|
     hc (hokBeg (s := (cA p)) (q := [u8 47]) (isX rfl) (isSx (l := [u8 47]) 1 47 rfl) (denBT (beg_root _)) (by omega) (by show (1 : Nat) ≤ _; omega) (by omega) (by show (1 : Nat) ≤ _; omega)) <|
     hnil
  exact runP (tb := tab3) (AllOk.lp2 ((tabkOk (nuX (nu3 p) (rX (ro3 p) (fun _ => .bool true))) (nuX_one (on3 p))).hyps ho) (by omega) fi7_at fi7_body (lfCons (.inr ⟨⟨rfl, rfl⟩, cfA7, cfSeg63_0 (l := lf61) (h := lh61) (q := (0, .nils)) (cA p) (by omega) (by assumption) rfl rfl (by kernel_rfl) (th0 := [(0, .x 2)]) (sg0 := []) (thXv (v := St' (cA p)) rfl rfl (thNil)) (by kernel_rfl) (thx := []) (thNil) (by kernel_rfl)⟩) lfNil)) rfl (get_lps2 (by omega) (by omega) fi3_at) fiB3 (run3 ) (args := [St' p]) (by simp only [RelL, Rel]; exact ⟨_, _, rfl, rfl, rfl⟩) w hl
def hy4 : LK := [(.rn, .x 2000000),
  (.len (.x 0), .x 1),
  (.bin .gtr (.x 1) (.i .i64 (.ofNat 400)), .b false),
  (.call 5 [.x 0], .tu [.x 2, .ni]),
  (.call 6 [.x 2], .x 3),
  (.call 5 [.x 3], .tu [.x 4, .ni]),
  (.bin .eql (.x 2) (.x 4), .b true),
  (.bin .eql (.x 2) (.x 5), .b false),
  (.bin .add (.x 5) (.s 1 47), .x 6),
  (.bin .eql (.x 2) (.x 6), .b true),
  (.call 8 [.x 2, .s 1 47], .b true)]
def lh62 : LH := ⟨3, 63, 93, [], [(63, .r 2000001 9 1 false)]⟩
def lf62 : LF := ⟨8888888, 0, [(0, .x 2)], [], .normal, [(0, .sr 63)], some lh62⟩
def lh63 : LH := ⟨3, 103, 113, [(63, .r 2000001 9 1 false)], []⟩
def lf63 : LF := ⟨12, 79, [(6, .ni), (7, .sr 63), (8, .s 0 0), (9, .i .i64 (.ofNat 0))], [3, 5], (.exit 0), [(6, .ni), (8, .x 5)], some lh63⟩
noncomputable def tab4 : Tab := addLps (addLps ({ tabk with hyp := hy4 }) 7 fi7 [lf62]) 3 fi3 [lf63]
theorem run4 : Go.AX.okB (call tab4 9000 3 [.x 0] ⟨H0 , 3, 0, 0⟩) = true := by kernel_rfl
def nu4 (p : LB) : List Value := [St' p,
  .int .i64 ((p.length : Int)),
  St' (cA p),
  St' (escS (cA p)),
  St' (cA p),
  St' (fl47 (segS (cA p))),
  St' ((fl47 (segS (cA p))) ++ [u8 47])]
def ro4 (p : LB) : List Value := [rwS ([] : List LB),
  rwS (segS (cA p))]
theorem on4 (p : LB) : ∀ j, (nuL (nu4 p) j).oneCell' = true := nuL_one (l := nu4 p) rfl
theorem path4 (p : LB) (b0 : p.length ≤ 9223372036854775807) (h0 : ¬ (400 < (p.length : Int))) (h1 : ¬ (cleanG unS p = none)) (h2 : ¬ ((segS (cA p)).length = 0)) (h3 : ¬ ((cA p) = (fl47 (segS (cA p))))) (w : World) (hl : laidE w) : CwR 3 #[St' p] w (.bool true) := by
  obtain ⟨hA1, hA2, hA3, hA4, hA5, hA6, hA7⟩ := cA_all (s := p) (by assumption)
  have := escS_len (cA p)
  have := segS_len (cA p)
  have hfl : (fl47 (segS (cA p))).length ≤ (cA p).length := by rcases hA5 with h | h <;> (have h2 := congrArg List.length h; first | omega | (simp only [List.length_append, List.length_cons, List.length_nil] at h2; omega))
  have := fl_len (segS (cA p))
  have ho : ∀ k r, (k, r) ∈ hy4 → HOk (cx (nuX (nu4 p) (rX (ro4 p) (fun _ => .bool true))) (nuX_one (on4 p)) 0 laidE laidE_stab) k r := by
    unfold hy4
    exact hc (kRn (denX rfl)) <|
     hc (lnV rfl rfl (by omega)) <|
     hc (gtcF rfl (by omega)) <|
     hc (hokCln (s := p) (isX rfl) (by rw [if_neg (by assumption)]; exact denT2 (denX rfl) denNi) (by omega) (by omega)) <|
     hc (hokEscR (s := (cA p)) (isX rfl) (denX rfl) (by omega) (by omega)) <|
     hc (hokCln (s := (escS (cA p))) (isX rfl) (by rw [hA2, if_neg (by simp)]; exact denT2 (denX rfl) denNi) (by omega) (by omega)) <|
     hc (kEqS (isX rfl) (isX rfl) (decide_eq_true rfl)) <|
     hc (kEqS (isX rfl) (isX rfl) (decide_eq_false (by first | assumption | exact hg1 | exact hg2))) <|
     hc (kCat (isX rfl) (isSx (l := [u8 47]) 1 47 rfl) (denX rfl) (by first | rfl | (simp; done)) (by first | omega | (simp only [List.length_append, List.length_cons, List.length_nil]; omega))) <|
     hc (kEqS (isX rfl) (isX rfl) (decide_eq_true (by first | assumption | exact hA5.resolve_left (by assumption) | exact hA7 (List.eq_nil_of_length_eq_zero (by omega))))) <|
     hc (hokBeg (s := (cA p)) (q := [u8 47]) (isX rfl) (isSx (l := [u8 47]) 1 47 rfl) (denBT (beg_root _)) (by omega) (by show (1 : Nat) ≤ _; omega) (by omega) (by show (1 : Nat) ≤ _; omega)) <|
     hnil
  exact runP (tb := tab4) (AllOk.lp1 (AllOk.lp2 ((tabkOk (nuX (nu4 p) (rX (ro4 p) (fun _ => .bool true))) (nuX_one (on4 p))).hyps ho) (by omega) fi7_at fi7_body (lfCons (.inr ⟨⟨rfl, rfl⟩, cfA7, cfSeg63_1 (l := lf62) (h := lh62) (q := (0, .sr 63)) (cA p) (by omega) (by assumption) rfl rfl (by kernel_rfl) (th0 := [(0, .x 2)]) (sg0 := []) (thXv (v := St' (cA p)) rfl rfl (thNil)) (by kernel_rfl) (thx := [(2000001, .x 2000000)]) (thXv (v := rwS (segS (cA p))) rfl rfl (thNil)) (by kernel_rfl)⟩) lfNil)) (by omega) (get_lps2 (by omega) (by omega) fi3_at) fi3_body (lfCons (lpKnown rfl ⟨0, keyBk, lfOkBk_0 (l := lf63) (h := lh63) (segS (cA p)) hA4 (by omega) (by omega) (0, (0 : Int), ([] : LB)) (mkIBk (segS (cA p)) 0 (0 : Int) ([] : LB) ⟨by omega, by omega, rfl, by omega⟩) rfl (by kernel_rfl) (th0 := [(0, .s 0 0), (1, .i .i64 (.ofNat 0)), (2000000, .x 2000001)]) (sg0 := []) (fun X => thCons (show Is _ (.s 0 0) (St' ([] : LB)) from isTo (v := St' ([] : LB)) (isSx (l := ([] : LB)) 0 0 rfl) (by first | rfl | (simp; done))) (thCons (show Is _ (.i .i64 (.ofNat 0)) (.int .i64 ((0 : Int))) from isTo (v := .int .i64 0) (isI _ _) (by first | rfl | (congr 1; omega))) (thXv (v := rwS (segS (cA p))) rfl rfl (thNil)))) (by kernel_rfl) (thx := [(5, .x 0)]) (thXv (v := St' (fl47 (segS (cA p)))) rfl rfl (thNil)) (by kernel_rfl)⟩) lfNil)) rfl (get_lps (by omega)) fiB3 (run4 ) (args := [St' p]) (by simp only [RelL, Rel]; exact ⟨_, _, rfl, rfl, rfl⟩) w hl
end Go.Proofs.YtipdlfkjablekaaDoor.pathBack
