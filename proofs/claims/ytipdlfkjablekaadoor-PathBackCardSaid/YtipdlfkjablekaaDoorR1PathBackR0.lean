/- A part of the proof: an interpreter of the model's own code on partly known states, and that what it answers is what the program answers. No condition of its own. -/
import Derived.Test.YtipdlfkjablekaaDoorR1PathBackO9
set_option maxRecDepth 100000
set_option linter.unusedVariables false
set_option linter.unusedSimpArgs false
set_option maxHeartbeats 4000000
namespace Go.Proofs.YtipdlfkjablekaaDoor.pathBack
open Go Go.AX Go.Proofs Go.Proofs.YtipdlfkjablekaaDoor
def hy0 : LK := [(.rn, .x 2000000),
  (.len (.x 0), .x 1),
  (.bin .gtr (.x 1) (.i .i64 (.ofNat 400)), .b true)]
theorem run0 : Go.AX.okB (call (tbl hy0) 9000 3 [.x 0] ⟨H0 , 3, 0, 0⟩) = true := by kernel_rfl
def nu0 (p : LB) : List Value := [St' p,
  .int .i64 ((p.length : Int))]
def ro0 (p : LB) : List Value := [rwS ([] : List LB)]
theorem on0 (p : LB) : ∀ j, (nuL (nu0 p) j).oneCell' = true := nuL_one (l := nu0 p) rfl
theorem path0 (p : LB) (b0 : p.length ≤ 9223372036854775807) (h0 : 400 < (p.length : Int)) (w : World) (hl : laidE w) : CwR 3 #[St' p] w (.bool true) := by
  have ho : ∀ k r, (k, r) ∈ hy0 → HOk (cx (nuX (nu0 p) (rX (ro0 p) (fun _ => .bool true))) (nuX_one (on0 p)) 0 laidE laidE_stab) k r := by
    unfold hy0
    exact hc (kRn (denX rfl)) <|
     hc (lnV rfl rfl (by omega)) <|
     hc (gtcT rfl (by omega)) <|
     hnil
  obtain ⟨fi, hfi, hb⟩ := fiE
  exact runP (tb := (tbl hy0)) ((tabkOk (nuX (nu0 p) (rX (ro0 p) (fun _ => .bool true))) (nuX_one (on0 p))).hyps ho) rfl hfi hb (run0 ) (args := [St' p]) (by simp only [RelL, Rel]; exact ⟨_, _, rfl, rfl, rfl⟩) w hl
def hy1 : LK := [(.rn, .x 2000000),
  (.len (.x 0), .x 1),
  (.bin .gtr (.x 1) (.i .i64 (.ofNat 400)), .b false),
  (.call 5 [.x 0], .tu [.s 0 0, .ifc 48 (.ag [.i .i64 (.ofNat 10), .x 2])])]
theorem run1 : Go.AX.okB (call (tbl hy1) 9000 3 [.x 0] ⟨H0 , 3, 0, 0⟩) = true := by kernel_rfl
def nu1 (p : LB) : List Value := [St' p,
  .int .i64 ((p.length : Int)),
  St' (clnM p)]
def ro1 (p : LB) : List Value := [rwS ([] : List LB)]
theorem on1 (p : LB) : ∀ j, (nuL (nu1 p) j).oneCell' = true := nuL_one (l := nu1 p) rfl
theorem path1 (p : LB) (b0 : p.length ≤ 9223372036854775807) (h0 : ¬ (400 < (p.length : Int))) (h1 : cleanG unS p = none) (w : World) (hl : laidE w) : CwR 3 #[St' p] w (.bool true) := by
  have ho : ∀ k r, (k, r) ∈ hy1 → HOk (cx (nuX (nu1 p) (rX (ro1 p) (fun _ => .bool true))) (nuX_one (on1 p)) 0 laidE laidE_stab) k r := by
    unfold hy1
    exact hc (kRn (denX rfl)) <|
     hc (lnV rfl rfl (by omega)) <|
     hc (gtcF rfl (by omega)) <|
     hc (hokCln (s := p) (isX rfl) (by rw [if_pos (by assumption)]; exact denT2 denS0 (denIfc (denA2 (denI .i64 10) (denX rfl)))) (by omega) (by omega)) <|
     hnil
  obtain ⟨fi, hfi, hb⟩ := fiE
  exact runP (tb := (tbl hy1)) ((tabkOk (nuX (nu1 p) (rX (ro1 p) (fun _ => .bool true))) (nuX_one (on1 p))).hyps ho) rfl hfi hb (run1 ) (args := [St' p]) (by simp only [RelL, Rel]; exact ⟨_, _, rfl, rfl, rfl⟩) w hl
def hy2 : LK := [(.rn, .x 2000000),
  (.len (.x 0), .x 1),
  (.bin .gtr (.x 1) (.i .i64 (.ofNat 400)), .b false),
  (.call 5 [.x 0], .tu [.x 2, .ni]),
  (.call 6 [.x 2], .x 3),
  (.call 5 [.x 3], .tu [.x 4, .ni]),
  (.bin .eql (.x 2) (.x 4), .b true),
  (.bin .eql (.x 2) (.x 5), .b true),
  (.call 8 [.x 2, .s 1 47], .b true)]
def lh59 : LH := ⟨3, 63, 93, [], [(63, .r 2000001 9 1 false)]⟩
def lf59 : LF := ⟨8888888, 0, [(0, .x 2)], [], .normal, [(0, .sr 63)], some lh59⟩
def lh60 : LH := ⟨3, 103, 113, [(63, .r 2000001 9 1 false)], []⟩
def lf60 : LF := ⟨12, 79, [(6, .ni), (7, .sr 63), (8, .s 0 0), (9, .i .i64 (.ofNat 0))], [3, 5], (.exit 0), [(6, .ni), (8, .x 5)], some lh60⟩
noncomputable def tab2 : Tab := addLps (addLps ({ tabk with hyp := hy2 }) 7 fi7 [lf59]) 3 fi3 [lf60]
theorem run2 : Go.AX.okB (call tab2 9000 3 [.x 0] ⟨H0 , 3, 0, 0⟩) = true := by kernel_rfl
def nu2 (p : LB) : List Value := [St' p,
  .int .i64 ((p.length : Int)),
  St' (cA p),
  St' (escS (cA p)),
  St' (cA p),
  St' (fl47 (segS (cA p)))]
def ro2 (p : LB) : List Value := [rwS ([] : List LB),
  rwS (segS (cA p))]
theorem on2 (p : LB) : ∀ j, (nuL (nu2 p) j).oneCell' = true := nuL_one (l := nu2 p) rfl
theorem path2 (p : LB) (b0 : p.length ≤ 9223372036854775807) (h0 : ¬ (400 < (p.length : Int))) (h1 : ¬ (cleanG unS p = none)) (h2 : ¬ ((segS (cA p)).length = 0)) (h3 : (cA p) = (fl47 (segS (cA p)))) (w : World) (hl : laidE w) : CwR 3 #[St' p] w (.bool true) := by
  obtain ⟨hA1, hA2, hA3, hA4, hA5, hA6, hA7⟩ := cA_all (s := p) (by assumption)
  have := escS_len (cA p)
  have := segS_len (cA p)
  have hfl : (fl47 (segS (cA p))).length ≤ (cA p).length := by rcases hA5 with h | h <;> (have h2 := congrArg List.length h; first | omega | (simp only [List.length_append, List.length_cons, List.length_nil] at h2; omega))
  have := fl_len (segS (cA p))
  have ho : ∀ k r, (k, r) ∈ hy2 → HOk (cx (nuX (nu2 p) (rX (ro2 p) (fun _ => .bool true))) (nuX_one (on2 p)) 0 laidE laidE_stab) k r := by
    unfold hy2
    exact hc (kRn (denX rfl)) <|
     hc (lnV rfl rfl (by omega)) <|
     hc (gtcF rfl (by omega)) <|
     hc (hokCln (s := p) (isX rfl) (by rw [if_neg (by assumption)]; exact denT2 (denX rfl) denNi) (by omega) (by omega)) <|
     hc (hokEscR (s := (cA p)) (isX rfl) (denX rfl) (by omega) (by omega)) <|
     hc (hokCln (s := (escS (cA p))) (isX rfl) (by rw [hA2, if_neg (by simp)]; exact denT2 (denX rfl) denNi) (by omega) (by omega)) <|
     hc (kEqS (isX rfl) (isX rfl) (decide_eq_true rfl)) <|
     hc (kEqS (isX rfl) (isX rfl) (decide_eq_true (by first | assumption | exact hA5.resolve_left (by assumption) | exact hA7 (List.eq_nil_of_length_eq_zero (by omega))))) <|
     hc (hokBeg (s := (cA p)) (q := [u8 47]) (isX rfl) (isSx (l := [u8 47]) 1 47 rfl) (denBT (beg_root _)) (by omega) (by show (1 : Nat) ≤ _; omega) (by omega) (by show (1 : Nat) ≤ _; omega)) <|
     hnil
  exact runP (tb := tab2) (AllOk.lp1 (AllOk.lp2 ((tabkOk (nuX (nu2 p) (rX (ro2 p) (fun _ => .bool true))) (nuX_one (on2 p))).hyps ho) (by omega) fi7_at fi7_body (lfCons (.inr ⟨⟨rfl, rfl⟩, cfA7, cfSeg63_1 (l := lf59) (h := lh59) (q := (0, .sr 63)) (cA p) (by omega) (by assumption) rfl rfl (by kernel_rfl) (th0 := [(0, .x 2)]) (sg0 := []) (thXv (v := St' (cA p)) rfl rfl (thNil)) (by kernel_rfl) (thx := [(2000001, .x 2000000)]) (thXv (v := rwS (segS (cA p))) rfl rfl (thNil)) (by kernel_rfl)⟩) lfNil)) (by omega) (get_lps2 (by omega) (by omega) fi3_at) fi3_body (lfCons (lpKnown rfl ⟨0, keyBk, lfOkBk_0 (l := lf60) (h := lh60) (segS (cA p)) hA4 (by omega) (by omega) (0, (0 : Int), ([] : LB)) (mkIBk (segS (cA p)) 0 (0 : Int) ([] : LB) ⟨by omega, by omega, rfl, by omega⟩) rfl (by kernel_rfl) (th0 := [(0, .s 0 0), (1, .i .i64 (.ofNat 0)), (2000000, .x 2000001)]) (sg0 := []) (fun X => thCons (show Is _ (.s 0 0) (St' ([] : LB)) from isTo (v := St' ([] : LB)) (isSx (l := ([] : LB)) 0 0 rfl) (by first | rfl | (simp; done))) (thCons (show Is _ (.i .i64 (.ofNat 0)) (.int .i64 ((0 : Int))) from isTo (v := .int .i64 0) (isI _ _) (by first | rfl | (congr 1; omega))) (thXv (v := rwS (segS (cA p))) rfl rfl (thNil)))) (by kernel_rfl) (thx := [(5, .x 0)]) (thXv (v := St' (fl47 (segS (cA p)))) rfl rfl (thNil)) (by kernel_rfl)⟩) lfNil)) rfl (get_lps (by omega)) fiB3 (run2 ) (args := [St' p]) (by simp only [RelL, Rel]; exact ⟨_, _, rfl, rfl, rfl⟩) w hl
end Go.Proofs.YtipdlfkjablekaaDoor.pathBack
