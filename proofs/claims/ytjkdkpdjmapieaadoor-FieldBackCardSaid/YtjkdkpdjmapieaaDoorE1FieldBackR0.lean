/- A part of the proof: an interpreter of the model's own code on partly known states, and that what it answers is what the program answers. No condition of its own. -/
import Derived.Test.YtjkdkpdjmapieaaDoorE1FieldBackO5
set_option maxRecDepth 100000
set_option linter.unusedVariables false
set_option linter.unusedSimpArgs false
set_option maxHeartbeats 4000000
namespace Go.Proofs.YtjkdkpdjmapieaaDoor.fieldBack
open Go Go.AX Go.Proofs Go.Proofs.YtjkdkpdjmapieaaDoor
def hy0 : LK := [(.rn, .x 2000000),
  (.call 6 [.ag [.x 0, .x 1]], .b true),
  (.bin .add (.x 0) (.s 2 8250), .x 4),
  (.bin .add (.x 4) (.x 1), .x 5),
  (.bin .add (.x 5) (.s 2 2573), .x 6),
  (.byt (.x 6) (.i .i64 (.ofNat 0)), .x 7),
  (.fit (.x 6), .b true),
  (.len (.x 6), .x 8),
  (.bin .add (.x 0) (.s 1 58), .x 11),
  (.bin .add (.x 11) (.x 9), .x 12),
  (.bin .add (.x 12) (.x 1), .x 13),
  (.bin .add (.x 13) (.x 10), .x 14),
  (.bin .eql (.s 1 58) (.x 14), .b false),
  (.ext 77 [.x 14, .i .u8 (.ofNat 58)], .x 15),
  (.bin .geq (.x 15) (.i .i64 (.ofNat 0)), .b true),
  (.sub (.x 14) none (some (.x 15)), .x 16),
  (.bin .add (.x 15) (.i .i64 (.ofNat 1)), .x 17),
  (.sub (.x 14) (some (.x 17)) none, .x 18),
  (.call 40 [.x 18, .s 2 2336], .x 19),
  (.call 38 [.x 16], .b true),
  (.call 39 [.x 19], .b true),
  (.len (.x 16), .x 20),
  (.bin .gtr (.x 20) (.i .i64 (.ofNat 64)), .b false),
  (.len (.x 19), .x 21),
  (.bin .gtr (.x 21) (.i .i64 (.ofNat 512)), .b false),
  (.bin .lss (.x 8) (.i .i64 (.ofNat 2)), .b false),
  (.bin .sub (.x 8) (.i .i64 (.ofNat 2)), .x 22),
  (.sub (.x 6) none (some (.x 22)), .x 23),
  (.bin .eql (.s 1 58) (.x 23), .b false),
  (.ext 77 [.x 23, .i .u8 (.ofNat 58)], .x 24),
  (.bin .geq (.x 24) (.i .i64 (.ofNat 0)), .b true),
  (.sub (.x 23) none (some (.x 24)), .x 25),
  (.bin .add (.x 24) (.i .i64 (.ofNat 1)), .x 26),
  (.sub (.x 23) (some (.x 26)) none, .x 27),
  (.call 40 [.x 27, .s 2 2336], .x 28),
  (.call 38 [.x 25], .b true),
  (.call 39 [.x 28], .b true),
  (.len (.x 25), .x 29),
  (.bin .gtr (.x 29) (.i .i64 (.ofNat 64)), .b false),
  (.len (.x 28), .x 30),
  (.bin .gtr (.x 30) (.i .i64 (.ofNat 512)), .b false),
  (.ra (.x 2000000) [.x 0, .x 1], .x 2000001),
  (.rf (.x 2000001) 2 32, .b true),
  (.rl (.x 2000001) 2, .i .i64 (.ofNat 1)),
  (.el (.x 2000001) (.i .i64 (.ofNat 0)) 2 0, .x 31),
  (.el (.x 2000001) (.i .i64 (.ofNat 0)) 2 1, .x 32),
  (.call 43 [.x 31], .x 33),
  (.call 43 [.x 0], .x 34),
  (.bin .eql (.x 33) (.x 34), .b true),
  (.eq 9 (.x 16) (.x 0), .b true),
  (.eq 9 (.x 19) (.x 1), .b true),
  (.eq 9 (.x 25) (.x 0), .b true),
  (.eq 9 (.x 28) (.x 1), .b true)]
def lh10 : LH := ⟨4, 24, 24, [], []⟩
def lf10 : LF := ⟨8, 121, [(2, .x 2), (10, .s 0 0), (12, .i .i64 (.ofNat 0))], [0, 1, 3, 4, 8, 9, 11], (.exit 0), [(10, .x 9)], some lh10⟩
def lh11 : LH := ⟨4, 44, 44, [], []⟩
def lf11 : LF := ⟨12, 121, [(3, .x 3), (11, .s 0 0), (13, .i .i64 (.ofNat 0))], [0, 1, 4, 8, 9, 10], (.exit 2), [(11, .x 10)], some lh11⟩
def lh12 : LH := ⟨4, 55, 55, [], []⟩
def lf12 : LF := ⟨3, 25, [(5, .nils), (8, .nils), (9, .i .i64 (.ofNat 0)), (10, .i .i64 (.ofNat 0))], [], (.exit 0), [(5, .nils)], some lh12⟩
noncomputable def tab0 : Tab := addLps (addLps ({ tabk with hyp := hy0 }) 3 fi3 [lf10, lf11]) 10 fi10 [lf12]
theorem run0 : Go.AX.okB (call tab0 9000 3 [.ag [.x 0, .x 1], .nils, .x 2, .x 3] ⟨H0 , 4, 0, 0⟩) = true := by kernel_rfl
def nu0 (pn : LB) (pv : LB) (be : Int) (bh : Int) : List Value := [St' pn,
  St' pv,
  .int .u8 (be),
  .int .u8 (bh),
  St' (pn ++ [u8 58, u8 32]),
  St' (pn ++ ([u8 58, u8 32] ++ pv)),
  St' (pn ++ ([u8 58, u8 32] ++ (pv ++ [u8 13, u8 10]))),
  .int .u8 (bt (pn ++ ([u8 58, u8 32] ++ (pv ++ [u8 13, u8 10]))) 0),
  .int .i64 ((pn.length : Int) + (pv.length : Int) + 4),
  St' (List.replicate (Int.toNat (be % 5)) (u8 32)),
  St' (List.replicate (Int.toNat (bh % 5)) (u8 9)),
  St' (pn ++ [u8 58]),
  St' (pn ++ ([u8 58] ++ (List.replicate (Int.toNat (be % 5)) (u8 32)))),
  St' (pn ++ ([u8 58] ++ ((List.replicate (Int.toNat (be % 5)) (u8 32)) ++ pv))),
  St' (pn ++ ([u8 58] ++ ((List.replicate (Int.toNat (be % 5)) (u8 32)) ++ (pv ++ (List.replicate (Int.toNat (bh % 5)) (u8 9)))))),
  .int .i64 ((pn.length : Int)),
  St' pn,
  .int .i64 ((pn.length : Int) + 1),
  St' ((List.replicate (Int.toNat (be % 5)) (u8 32)) ++ (pv ++ (List.replicate (Int.toNat (bh % 5)) (u8 9)))),
  St' pv,
  .int .i64 ((pn.length : Int)),
  .int .i64 ((pv.length : Int)),
  .int .i64 ((pn.length : Int) + (pv.length : Int) + 2),
  St' (pn ++ ([u8 58, u8 32] ++ pv)),
  .int .i64 ((pn.length : Int)),
  St' pn,
  .int .i64 ((pn.length : Int) + 1),
  St' ([u8 32] ++ pv),
  St' pv,
  .int .i64 ((pn.length : Int)),
  .int .i64 ((pv.length : Int)),
  St' pn,
  St' pv,
  St' (lowS pn),
  St' (lowS pn)]
def ro0 (pn : LB) (pv : LB) (be : Int) (bh : Int) : List Value := [rwS ([] : List LB),
  rwG prC (([] : List (LB × LB)) ++ [(pn, pv)])]
theorem on0 (pn : LB) (pv : LB) (be : Int) (bh : Int) : ∀ j, (nuL (nu0 pn pv be bh) j).oneCell' = true := nuL_one (l := nu0 pn pv be bh) rfl
theorem path0 (pn : LB) (pv : LB) (be : Int) (bh : Int) (b0 : pn.length ≤ 140737488351232) (b1 : pv.length ≤ 140737488351232) (b2 : 0 ≤ be) (b3 : be ≤ 255) (b4 : 0 ≤ bh) (b5 : bh ≤ 255) (h0 : isF pn pv = true) (w : World) (hl : laidE w) : CwR 3 #[.agg #[St' pn, St' pv], .slice none 0 0, .int .u8 be, .int .u8 bh] w (.bool true) := by
  obtain ⟨htk, hvs, hln, hlv, htr⟩ := isF_inv (a := pn) (v := pv) (by assumption)
  have hpl := tok_pos htk
  have := bt_lo (pn ++ ([u8 58, u8 32] ++ (pv ++ [u8 13, u8 10]))) 0; have := bt_hi (pn ++ ([u8 58, u8 32] ++ (pv ++ [u8 13, u8 10]))) 0
  have : (lowS pn).length = pn.length := List.length_map ..
  have ho : ∀ k r, (k, r) ∈ hy0 → HOk (cx (nuX (nu0 pn pv be bh) (rX (ro0 pn pv be bh) (fun _ => .bool true))) (nuX_one (on0 pn pv be bh)) 0 laidE laidE_stab) k r := by
    unfold hy0
    exact hc (kRn (denX rfl)) <|
     hc (hokIsA (a := pn) (v := pv) (isAg2 (isX rfl) (isX rfl)) (denBT (by assumption)) (by omega) (by omega)) <|
     hc (kCat (isX rfl) (isSx (l := [u8 58, u8 32]) 2 8250 rfl) (denX rfl) (by first | rfl | (simp; done)) (by first | omega | (simp <;> omega))) <|
     hc (kCat (isX rfl) (isX rfl) (denX rfl) (by first | rfl | (simp; done)) (by first | omega | (simp <;> omega))) <|
     hc (kCat (isX rfl) (isSx (l := [u8 13, u8 10]) 2 2573 rfl) (denX rfl) (by first | rfl | (simp; done)) (by first | omega | (simp <;> omega))) <|
     hc (kByt (i := 0) (isX rfl) (isZ (m := 0) rfl) (denX rfl) rfl (by first | omega | (simp <;> omega)) rfl) <|
     hc (kFit (isX rfl) (by first | omega | (simp <;> omega))) <|
     hc (lnV rfl rfl (by first | omega | (simp <;> omega))) <|
     hc (kCat (isX rfl) (isSx (l := [u8 58]) 1 58 rfl) (denX rfl) (by first | rfl | (simp; done)) (by first | omega | (simp <;> omega))) <|
     hc (kCat (isX rfl) (isX rfl) (denX rfl) (by first | rfl | (simp; done)) (by first | omega | (simp <;> omega))) <|
     hc (kCat (isX rfl) (isX rfl) (denX rfl) (by first | rfl | (simp; done)) (by first | omega | (simp <;> omega))) <|
     hc (kCat (isX rfl) (isX rfl) (denX rfl) (by first | rfl | (simp; done)) (by first | omega | (simp <;> omega))) <|
     hc (kEqS (isSx (l := [u8 58]) 1 58 rfl) (isX rfl) (neLen (by first | omega | (simp <;> omega)))) <|
     hc (kExtI (n := (pn.length : Int)) exF77 exA77 exB77 (isX rfl) (isZ (m := 58) rfl) (denX rfl) (idx_tok htk)) <|
     hc (gecT rfl (by omega)) <|
     hc (kCut (isX rfl) (.inl ⟨rfl, rfl⟩) (.inr ⟨_, _, rfl, (isX rfl)⟩) (p := ([] : LB)) (m := pn) (q := ([u8 58] ++ ((List.replicate (Int.toNat (be % 5)) (u8 32)) ++ (pv ++ (List.replicate (Int.toNat (bh % 5)) (u8 9)))))) (by first | rfl | (simp; done)) (by first | omega | (simp <;> omega)) (by first | omega | (simp <;> omega)) (denX rfl)) <|
     hc (adC rfl rfl (by omega)) <|
     hc (kCut (isX rfl) (.inr ⟨_, _, rfl, (isX rfl)⟩) (.inl ⟨rfl, rfl⟩) (p := (pn ++ [u8 58])) (m := ((List.replicate (Int.toNat (be % 5)) (u8 32)) ++ (pv ++ (List.replicate (Int.toNat (bh % 5)) (u8 9))))) (q := ([] : LB)) (by first | rfl | (simp; done)) (by first | omega | (simp <;> omega)) (by first | omega | (simp <;> omega)) (denX rfl)) <|
     hc (hokTrim (s := ((List.replicate (Int.toNat (be % 5)) (u8 32)) ++ (pv ++ (List.replicate (Int.toNat (bh % 5)) (u8 9))))) (isX rfl) (isSx (l := [u8 32, u8 9]) 2 2336 rfl) (denX (congrArg (fun l => St' l) (Eq.symm ((trSQ _).trans (trQ_pad (a := (List.replicate (Int.toNat (be % 5)) (u8 32))) (v := pv) (z := (List.replicate (Int.toNat (bh % 5)) (u8 9))) htr (by first | rfl | exact al_rep rfl | exact al_nil) (by first | rfl | exact al_rep rfl | exact al_nil) (by first | rfl | (simp; done))))))) (by first | omega | (simp only [List.length_append, List.length_cons, List.length_nil, List.length_replicate]; omega)) (by first | omega | (simp only [List.length_append, List.length_cons, List.length_nil, List.length_replicate]; omega))) <|
     hc (hokTokA (s := pn) (isX rfl) (denBT (by assumption)) (by first | omega | (simp only [List.length_append, List.length_cons, List.length_nil, List.length_replicate]; omega)) (by first | omega | (simp only [List.length_append, List.length_cons, List.length_nil, List.length_replicate]; omega))) <|
     hc (hokVisible (s := pv) (isX rfl) (denBT (by assumption)) (by first | omega | (simp only [List.length_append, List.length_cons, List.length_nil, List.length_replicate]; omega)) (by first | omega | (simp only [List.length_append, List.length_cons, List.length_nil, List.length_replicate]; omega))) <|
     hc (lnV rfl rfl (by omega)) <|
     hc (gtcF rfl (by omega)) <|
     hc (lnV rfl rfl (by omega)) <|
     hc (gtcF rfl (by omega)) <|
     hc (ltcF rfl (by omega)) <|
     hc (sbC rfl rfl (by omega)) <|
     hc (kCut (isX rfl) (.inl ⟨rfl, rfl⟩) (.inr ⟨_, _, rfl, (isX rfl)⟩) (p := ([] : LB)) (m := (pn ++ ([u8 58, u8 32] ++ pv))) (q := [u8 13, u8 10]) (by first | rfl | (simp; done)) (by first | omega | (simp <;> omega)) (by first | omega | (simp <;> omega)) (denX rfl)) <|
     hc (kEqS (isSx (l := [u8 58]) 1 58 rfl) (isX rfl) (neLen (by first | omega | (simp <;> omega)))) <|
     hc (kExtI (n := (pn.length : Int)) exF77 exA77 exB77 (isX rfl) (isZ (m := 58) rfl) (denX rfl) (idx_tok htk)) <|
     hc (gecT rfl (by omega)) <|
     hc (kCut (isX rfl) (.inl ⟨rfl, rfl⟩) (.inr ⟨_, _, rfl, (isX rfl)⟩) (p := ([] : LB)) (m := pn) (q := ([u8 58, u8 32] ++ pv)) (by first | rfl | (simp; done)) (by first | omega | (simp <;> omega)) (by first | omega | (simp <;> omega)) (denX rfl)) <|
     hc (adC rfl rfl (by omega)) <|
     hc (kCut (isX rfl) (.inr ⟨_, _, rfl, (isX rfl)⟩) (.inl ⟨rfl, rfl⟩) (p := (pn ++ [u8 58])) (m := ([u8 32] ++ pv)) (q := ([] : LB)) (by first | rfl | (simp; done)) (by first | omega | (simp <;> omega)) (by first | omega | (simp <;> omega)) (denX rfl)) <|
     hc (hokTrim (s := ([u8 32] ++ pv)) (isX rfl) (isSx (l := [u8 32, u8 9]) 2 2336 rfl) (denX (congrArg (fun l => St' l) (Eq.symm ((trSQ _).trans (trQ_pad (a := [u8 32]) (v := pv) (z := ([] : LB)) htr (by first | rfl | exact al_rep rfl | exact al_nil) (by first | rfl | exact al_rep rfl | exact al_nil) (by first | rfl | (simp; done))))))) (by first | omega | (simp only [List.length_append, List.length_cons, List.length_nil, List.length_replicate]; omega)) (by first | omega | (simp only [List.length_append, List.length_cons, List.length_nil, List.length_replicate]; omega))) <|
     hc (hokTokA (s := pn) (isX rfl) (denBT (by assumption)) (by first | omega | (simp only [List.length_append, List.length_cons, List.length_nil, List.length_replicate]; omega)) (by first | omega | (simp only [List.length_append, List.length_cons, List.length_nil, List.length_replicate]; omega))) <|
     hc (hokVisible (s := pv) (isX rfl) (denBT (by assumption)) (by first | omega | (simp only [List.length_append, List.length_cons, List.length_nil, List.length_replicate]; omega)) (by first | omega | (simp only [List.length_append, List.length_cons, List.length_nil, List.length_replicate]; omega))) <|
     hc (lnV rfl rfl (by omega)) <|
     hc (gtcF rfl (by omega)) <|
     hc (lnV rfl rfl (by omega)) <|
     hc (gtcF rfl (by omega)) <|
     hc (kRaG (f := prC) (l := ([] : List (LB × LB))) (a := (pn, pv)) (isX rfl) (isL2 (isX rfl) (isX rfl)) (denX rfl)) <|
     hc (kRfG prC_len (isX rfl) (by first | omega | (simp <;> omega)) (by first | omega | (simp <;> omega))) <|
     hc (kRlG prC_len (isX rfl) (denZ (m := 1) rfl) (by first | omega | (simp <;> omega))) <|
     hc (kElG (j := 0) (d := ([], [])) prC_len (by decide) (isX rfl) (isZ (m := 0) rfl) (denX rfl) rfl (by simp) rfl) <|
     hc (kElG (j := 0) (d := ([], [])) prC_len (by decide) (isX rfl) (isZ (m := 0) rfl) (denX rfl) rfl (by simp) rfl) <|
     hc (hokLower (s := pn) (isX rfl) (denX rfl) (by first | omega | (simp only [List.length_append, List.length_cons, List.length_nil, List.length_replicate]; omega)) (by first | omega | (simp only [List.length_append, List.length_cons, List.length_nil, List.length_replicate]; omega))) <|
     hc (hokLower (s := pn) (isX rfl) (denX rfl) (by first | omega | (simp only [List.length_append, List.length_cons, List.length_nil, List.length_replicate]; omega)) (by first | omega | (simp only [List.length_append, List.length_cons, List.length_nil, List.length_replicate]; omega))) <|
     hc (kEqS (isX rfl) (isX rfl) (decide_eq_true rfl)) <|
     hc (kEqTS (isX rfl) (isX rfl) tu9 (decide_eq_true rfl)) <|
     hc (kEqTS (isX rfl) (isX rfl) tu9 (decide_eq_true rfl)) <|
     hc (kEqTS (isX rfl) (isX rfl) tu9 (decide_eq_true rfl)) <|
     hc (kEqTS (isX rfl) (isX rfl) tu9 (decide_eq_true rfl)) <|
     hnil
  exact runP (tb := tab0) (AllOk.lp1 (AllOk.lp1 ((tabkOk (nuX (nu0 pn pv be bh) (rX (ro0 pn pv be bh) (fun _ => .bool true))) (nuX_one (on0 pn pv be bh))).hyps ho) (by omega) fi3_at fi3_body (lfCons (lpKnown rfl ⟨0, keyWa, lfOkWa_0 (l := lf10) (h := lh10) be (0, (0 : Int)) (mkIWa be 0 (0 : Int) ⟨by omega, by omega, by omega, by omega, by omega⟩) rfl (by kernel_rfl) (th0 := [(0, .x 2), (1, .s 0 0), (2, .i .i64 (.ofNat 0))]) (sg0 := []) (fun X => thXv (v := .int .u8 (be)) rfl rfl (thCons (show Is _ (.s 0 0) (St' (List.replicate (Int.toNat ((0 : Int))) (u8 32))) from isTo (v := St' ([] : LB)) (isSx (l := ([] : LB)) 0 0 rfl) (by first | rfl | (simp; done))) (thCons (show Is _ (.i .i64 (.ofNat 0)) (.int .i64 ((0 : Int))) from isTo (v := .int .i64 0) (isI _ _) (by first | rfl | (congr 1; omega))) (thNil)))) (by kernel_rfl) (thx := [(9, .x 0)]) (thXv (v := St' (List.replicate (Int.toNat (be % 5)) (u8 32))) rfl rfl (thNil)) (by kernel_rfl)⟩) (lfCons (lpKnown rfl ⟨1, keyWb, lfOkWb_0 (l := lf11) (h := lh11) bh (0, (0 : Int)) (mkIWb bh 0 (0 : Int) ⟨by omega, by omega, by omega, by omega, by omega⟩) rfl (by kernel_rfl) (th0 := [(0, .x 3), (1, .s 0 0), (2, .i .i64 (.ofNat 0))]) (sg0 := []) (fun X => thXv (v := .int .u8 (bh)) rfl rfl (thCons (show Is _ (.s 0 0) (St' (List.replicate (Int.toNat ((0 : Int))) (u8 9))) from isTo (v := St' ([] : LB)) (isSx (l := ([] : LB)) 0 0 rfl) (by first | rfl | (simp; done))) (thCons (show Is _ (.i .i64 (.ofNat 0)) (.int .i64 ((0 : Int))) from isTo (v := .int .i64 0) (isI _ _) (by first | rfl | (congr 1; omega))) (thNil)))) (by kernel_rfl) (thx := [(10, .x 0)]) (thXv (v := St' (List.replicate (Int.toNat (bh % 5)) (u8 9))) rfl rfl (thNil)) (by kernel_rfl)⟩) lfNil))) (by omega) (get_lps2 (by omega) (by omega) fi10_at) fi10_body (lfCons (lpKnown rfl ⟨0, keyNlG0, lfOkNlG0_0 (l := lf12) (h := lh12) (0, (0 : Nat)) (mkINlG0 0 (0 : Nat) ⟨trivial, by omega⟩) rfl (by kernel_rfl) (th0 := []) (sg0 := []) (fun X => thNil) (by kernel_rfl) (thx := []) (thNil) (by kernel_rfl)⟩) lfNil)) rfl (get_lps2 (by omega) (by omega) (get_lps (by omega))) fiB3 (run0 ) (args := [.agg #[St' pn, St' pv], .slice none 0 0, .int .u8 be, .int .u8 bh]) (by simp only [RelL, Rel]; exact ⟨_, _, rfl, ⟨_, rfl, ⟨_, _, rfl, rfl, ⟨_, _, rfl, rfl, rfl⟩⟩⟩, ⟨_, _, rfl, rfl, ⟨_, _, rfl, rfl, ⟨_, _, rfl, rfl, rfl⟩⟩⟩⟩) w hl
def hy1 : LK := [(.rn, .x 2000000),
  (.call 6 [.ag [.x 0, .x 1]], .b true),
  (.bin .add (.x 0) (.s 2 8250), .x 4),
  (.bin .add (.x 4) (.x 1), .x 5),
  (.bin .add (.x 5) (.s 2 2573), .x 6),
  (.byt (.x 6) (.i .i64 (.ofNat 0)), .x 7),
  (.fit (.x 6), .b true),
  (.len (.x 6), .x 8),
  (.bin .add (.x 0) (.s 1 58), .x 11),
  (.bin .add (.x 11) (.x 9), .x 12),
  (.bin .add (.x 12) (.x 1), .x 13),
  (.bin .add (.x 13) (.x 10), .x 14),
  (.bin .eql (.s 1 58) (.x 14), .b false),
  (.ext 77 [.x 14, .i .u8 (.ofNat 58)], .x 15),
  (.bin .geq (.x 15) (.i .i64 (.ofNat 0)), .b true),
  (.sub (.x 14) none (some (.x 15)), .x 16),
  (.bin .add (.x 15) (.i .i64 (.ofNat 1)), .x 17),
  (.sub (.x 14) (some (.x 17)) none, .x 18),
  (.call 40 [.x 18, .s 2 2336], .x 19),
  (.call 38 [.x 16], .b true),
  (.call 39 [.x 19], .b true),
  (.len (.x 16), .x 20),
  (.bin .gtr (.x 20) (.i .i64 (.ofNat 64)), .b false),
  (.len (.x 19), .x 21),
  (.bin .gtr (.x 21) (.i .i64 (.ofNat 512)), .b false),
  (.bin .lss (.x 8) (.i .i64 (.ofNat 2)), .b false),
  (.bin .sub (.x 8) (.i .i64 (.ofNat 2)), .x 22),
  (.sub (.x 6) none (some (.x 22)), .x 23),
  (.bin .eql (.s 1 58) (.x 23), .b false),
  (.ext 77 [.x 23, .i .u8 (.ofNat 58)], .x 24),
  (.bin .geq (.x 24) (.i .i64 (.ofNat 0)), .b true),
  (.sub (.x 23) none (some (.x 24)), .x 25),
  (.bin .add (.x 24) (.i .i64 (.ofNat 1)), .x 26),
  (.sub (.x 23) (some (.x 26)) none, .x 27),
  (.call 40 [.x 27, .s 2 2336], .x 28),
  (.call 38 [.x 25], .b true),
  (.call 39 [.x 28], .b true),
  (.len (.x 25), .x 29),
  (.bin .gtr (.x 29) (.i .i64 (.ofNat 64)), .b false),
  (.len (.x 28), .x 30),
  (.bin .gtr (.x 30) (.i .i64 (.ofNat 512)), .b false),
  (.ra (.x 2000000) [.x 0, .x 1], .x 2000001),
  (.rf (.x 2000001) 2 32, .b true),
  (.rl (.x 2000001) 2, .i .i64 (.ofNat 1)),
  (.el (.x 2000001) (.i .i64 (.ofNat 0)) 2 0, .x 31),
  (.el (.x 2000001) (.i .i64 (.ofNat 0)) 2 1, .x 32),
  (.call 43 [.x 31], .x 33),
  (.call 43 [.x 0], .x 34),
  (.bin .eql (.x 33) (.x 34), .b true),
  (.eq 9 (.x 16) (.x 0), .b true),
  (.eq 9 (.x 19) (.x 1), .b true),
  (.eq 9 (.x 25) (.x 0), .b true),
  (.eq 9 (.x 28) (.x 1), .b true)]
def lh13 : LH := ⟨4, 24, 24, [], []⟩
def lf13 : LF := ⟨8, 121, [(2, .x 2), (10, .s 0 0), (12, .i .i64 (.ofNat 0))], [0, 1, 3, 4, 8, 9, 11], (.exit 0), [(10, .x 9)], some lh13⟩
def lh14 : LH := ⟨4, 44, 44, [], []⟩
def lf14 : LF := ⟨12, 121, [(3, .x 3), (11, .s 0 0), (13, .i .i64 (.ofNat 0))], [0, 1, 4, 8, 9, 10], (.exit 2), [(11, .x 10)], some lh14⟩
def lh15 : LH := ⟨4, 55, 55, [], []⟩
def lf15 : LF := ⟨3, 25, [(5, .nils), (8, .nils), (9, .i .i64 (.ofNat 0)), (10, .i .i64 (.ofNat 0))], [], (.exit 0), [(5, .nils)], some lh15⟩
noncomputable def tab1 : Tab := addLps (addLps ({ tabk with hyp := hy1 }) 3 fi3 [lf13, lf14]) 10 fi10 [lf15]
theorem run1 : Go.AX.okB (call tab1 9000 3 [.ag [.x 0, .x 1], .es, .x 2, .x 3] ⟨H0 , 4, 0, 0⟩) = true := by kernel_rfl
def nu1 (pn : LB) (pv : LB) (ad_z : Addr) (be : Int) (bh : Int) : List Value := [St' pn,
  St' pv,
  .int .u8 (be),
  .int .u8 (bh),
  St' (pn ++ [u8 58, u8 32]),
  St' (pn ++ ([u8 58, u8 32] ++ pv)),
  St' (pn ++ ([u8 58, u8 32] ++ (pv ++ [u8 13, u8 10]))),
  .int .u8 (bt (pn ++ ([u8 58, u8 32] ++ (pv ++ [u8 13, u8 10]))) 0),
  .int .i64 ((pn.length : Int) + (pv.length : Int) + 4),
  St' (List.replicate (Int.toNat (be % 5)) (u8 32)),
  St' (List.replicate (Int.toNat (bh % 5)) (u8 9)),
  St' (pn ++ [u8 58]),
  St' (pn ++ ([u8 58] ++ (List.replicate (Int.toNat (be % 5)) (u8 32)))),
  St' (pn ++ ([u8 58] ++ ((List.replicate (Int.toNat (be % 5)) (u8 32)) ++ pv))),
  St' (pn ++ ([u8 58] ++ ((List.replicate (Int.toNat (be % 5)) (u8 32)) ++ (pv ++ (List.replicate (Int.toNat (bh % 5)) (u8 9)))))),
  .int .i64 ((pn.length : Int)),
  St' pn,
  .int .i64 ((pn.length : Int) + 1),
  St' ((List.replicate (Int.toNat (be % 5)) (u8 32)) ++ (pv ++ (List.replicate (Int.toNat (bh % 5)) (u8 9)))),
  St' pv,
  .int .i64 ((pn.length : Int)),
  .int .i64 ((pv.length : Int)),
  .int .i64 ((pn.length : Int) + (pv.length : Int) + 2),
  St' (pn ++ ([u8 58, u8 32] ++ pv)),
  .int .i64 ((pn.length : Int)),
  St' pn,
  .int .i64 ((pn.length : Int) + 1),
  St' ([u8 32] ++ pv),
  St' pv,
  .int .i64 ((pn.length : Int)),
  .int .i64 ((pv.length : Int)),
  St' pn,
  St' pv,
  St' (lowS pn),
  St' (lowS pn)]
def ro1 (pn : LB) (pv : LB) (ad_z : Addr) (be : Int) (bh : Int) : List Value := [rwS ([] : List LB),
  rwG prC (([] : List (LB × LB)) ++ [(pn, pv)])]
theorem on1 (pn : LB) (pv : LB) (ad_z : Addr) (be : Int) (bh : Int) : ∀ j, (nuL (nu1 pn pv ad_z be bh) j).oneCell' = true := nuL_one (l := nu1 pn pv ad_z be bh) rfl
theorem path1 (pn : LB) (pv : LB) (ad_z : Addr) (be : Int) (bh : Int) (b0 : pn.length ≤ 140737488351232) (b1 : pv.length ≤ 140737488351232) (b2 : 0 ≤ be) (b3 : be ≤ 255) (b4 : 0 ≤ bh) (b5 : bh ≤ 255) (h0 : isF pn pv = true) (w : World) (hl : laidE w) : CwR 3 #[.agg #[St' pn, St' pv], .slice (some ad_z) 0 0, .int .u8 be, .int .u8 bh] w (.bool true) := by
  obtain ⟨htk, hvs, hln, hlv, htr⟩ := isF_inv (a := pn) (v := pv) (by assumption)
  have hpl := tok_pos htk
  have := bt_lo (pn ++ ([u8 58, u8 32] ++ (pv ++ [u8 13, u8 10]))) 0; have := bt_hi (pn ++ ([u8 58, u8 32] ++ (pv ++ [u8 13, u8 10]))) 0
  have : (lowS pn).length = pn.length := List.length_map ..
  have ho : ∀ k r, (k, r) ∈ hy1 → HOk (cx (nuX (nu1 pn pv ad_z be bh) (rX (ro1 pn pv ad_z be bh) (fun _ => .bool true))) (nuX_one (on1 pn pv ad_z be bh)) 0 laidE laidE_stab) k r := by
    unfold hy1
    exact hc (kRn (denX rfl)) <|
     hc (hokIsA (a := pn) (v := pv) (isAg2 (isX rfl) (isX rfl)) (denBT (by assumption)) (by omega) (by omega)) <|
     hc (kCat (isX rfl) (isSx (l := [u8 58, u8 32]) 2 8250 rfl) (denX rfl) (by first | rfl | (simp; done)) (by first | omega | (simp <;> omega))) <|
     hc (kCat (isX rfl) (isX rfl) (denX rfl) (by first | rfl | (simp; done)) (by first | omega | (simp <;> omega))) <|
     hc (kCat (isX rfl) (isSx (l := [u8 13, u8 10]) 2 2573 rfl) (denX rfl) (by first | rfl | (simp; done)) (by first | omega | (simp <;> omega))) <|
     hc (kByt (i := 0) (isX rfl) (isZ (m := 0) rfl) (denX rfl) rfl (by first | omega | (simp <;> omega)) rfl) <|
     hc (kFit (isX rfl) (by first | omega | (simp <;> omega))) <|
     hc (lnV rfl rfl (by first | omega | (simp <;> omega))) <|
     hc (kCat (isX rfl) (isSx (l := [u8 58]) 1 58 rfl) (denX rfl) (by first | rfl | (simp; done)) (by first | omega | (simp <;> omega))) <|
     hc (kCat (isX rfl) (isX rfl) (denX rfl) (by first | rfl | (simp; done)) (by first | omega | (simp <;> omega))) <|
     hc (kCat (isX rfl) (isX rfl) (denX rfl) (by first | rfl | (simp; done)) (by first | omega | (simp <;> omega))) <|
     hc (kCat (isX rfl) (isX rfl) (denX rfl) (by first | rfl | (simp; done)) (by first | omega | (simp <;> omega))) <|
     hc (kEqS (isSx (l := [u8 58]) 1 58 rfl) (isX rfl) (neLen (by first | omega | (simp <;> omega)))) <|
     hc (kExtI (n := (pn.length : Int)) exF77 exA77 exB77 (isX rfl) (isZ (m := 58) rfl) (denX rfl) (idx_tok htk)) <|
     hc (gecT rfl (by omega)) <|
     hc (kCut (isX rfl) (.inl ⟨rfl, rfl⟩) (.inr ⟨_, _, rfl, (isX rfl)⟩) (p := ([] : LB)) (m := pn) (q := ([u8 58] ++ ((List.replicate (Int.toNat (be % 5)) (u8 32)) ++ (pv ++ (List.replicate (Int.toNat (bh % 5)) (u8 9)))))) (by first | rfl | (simp; done)) (by first | omega | (simp <;> omega)) (by first | omega | (simp <;> omega)) (denX rfl)) <|
     hc (adC rfl rfl (by omega)) <|
     hc (kCut (isX rfl) (.inr ⟨_, _, rfl, (isX rfl)⟩) (.inl ⟨rfl, rfl⟩) (p := (pn ++ [u8 58])) (m := ((List.replicate (Int.toNat (be % 5)) (u8 32)) ++ (pv ++ (List.replicate (Int.toNat (bh % 5)) (u8 9))))) (q := ([] : LB)) (by first | rfl | (simp; done)) (by first | omega | (simp <;> omega)) (by first | omega | (simp <;> omega)) (denX rfl)) <|
     hc (hokTrim (s := ((List.replicate (Int.toNat (be % 5)) (u8 32)) ++ (pv ++ (List.replicate (Int.toNat (bh % 5)) (u8 9))))) (isX rfl) (isSx (l := [u8 32, u8 9]) 2 2336 rfl) (denX (congrArg (fun l => St' l) (Eq.symm ((trSQ _).trans (trQ_pad (a := (List.replicate (Int.toNat (be % 5)) (u8 32))) (v := pv) (z := (List.replicate (Int.toNat (bh % 5)) (u8 9))) htr (by first | rfl | exact al_rep rfl | exact al_nil) (by first | rfl | exact al_rep rfl | exact al_nil) (by first | rfl | (simp; done))))))) (by first | omega | (simp only [List.length_append, List.length_cons, List.length_nil, List.length_replicate]; omega)) (by first | omega | (simp only [List.length_append, List.length_cons, List.length_nil, List.length_replicate]; omega))) <|
     hc (hokTokA (s := pn) (isX rfl) (denBT (by assumption)) (by first | omega | (simp only [List.length_append, List.length_cons, List.length_nil, List.length_replicate]; omega)) (by first | omega | (simp only [List.length_append, List.length_cons, List.length_nil, List.length_replicate]; omega))) <|
     hc (hokVisible (s := pv) (isX rfl) (denBT (by assumption)) (by first | omega | (simp only [List.length_append, List.length_cons, List.length_nil, List.length_replicate]; omega)) (by first | omega | (simp only [List.length_append, List.length_cons, List.length_nil, List.length_replicate]; omega))) <|
     hc (lnV rfl rfl (by omega)) <|
     hc (gtcF rfl (by omega)) <|
     hc (lnV rfl rfl (by omega)) <|
     hc (gtcF rfl (by omega)) <|
     hc (ltcF rfl (by omega)) <|
     hc (sbC rfl rfl (by omega)) <|
     hc (kCut (isX rfl) (.inl ⟨rfl, rfl⟩) (.inr ⟨_, _, rfl, (isX rfl)⟩) (p := ([] : LB)) (m := (pn ++ ([u8 58, u8 32] ++ pv))) (q := [u8 13, u8 10]) (by first | rfl | (simp; done)) (by first | omega | (simp <;> omega)) (by first | omega | (simp <;> omega)) (denX rfl)) <|
     hc (kEqS (isSx (l := [u8 58]) 1 58 rfl) (isX rfl) (neLen (by first | omega | (simp <;> omega)))) <|
     hc (kExtI (n := (pn.length : Int)) exF77 exA77 exB77 (isX rfl) (isZ (m := 58) rfl) (denX rfl) (idx_tok htk)) <|
     hc (gecT rfl (by omega)) <|
     hc (kCut (isX rfl) (.inl ⟨rfl, rfl⟩) (.inr ⟨_, _, rfl, (isX rfl)⟩) (p := ([] : LB)) (m := pn) (q := ([u8 58, u8 32] ++ pv)) (by first | rfl | (simp; done)) (by first | omega | (simp <;> omega)) (by first | omega | (simp <;> omega)) (denX rfl)) <|
     hc (adC rfl rfl (by omega)) <|
     hc (kCut (isX rfl) (.inr ⟨_, _, rfl, (isX rfl)⟩) (.inl ⟨rfl, rfl⟩) (p := (pn ++ [u8 58])) (m := ([u8 32] ++ pv)) (q := ([] : LB)) (by first | rfl | (simp; done)) (by first | omega | (simp <;> omega)) (by first | omega | (simp <;> omega)) (denX rfl)) <|
     hc (hokTrim (s := ([u8 32] ++ pv)) (isX rfl) (isSx (l := [u8 32, u8 9]) 2 2336 rfl) (denX (congrArg (fun l => St' l) (Eq.symm ((trSQ _).trans (trQ_pad (a := [u8 32]) (v := pv) (z := ([] : LB)) htr (by first | rfl | exact al_rep rfl | exact al_nil) (by first | rfl | exact al_rep rfl | exact al_nil) (by first | rfl | (simp; done))))))) (by first | omega | (simp only [List.length_append, List.length_cons, List.length_nil, List.length_replicate]; omega)) (by first | omega | (simp only [List.length_append, List.length_cons, List.length_nil, List.length_replicate]; omega))) <|
     hc (hokTokA (s := pn) (isX rfl) (denBT (by assumption)) (by first | omega | (simp only [List.length_append, List.length_cons, List.length_nil, List.length_replicate]; omega)) (by first | omega | (simp only [List.length_append, List.length_cons, List.length_nil, List.length_replicate]; omega))) <|
     hc (hokVisible (s := pv) (isX rfl) (denBT (by assumption)) (by first | omega | (simp only [List.length_append, List.length_cons, List.length_nil, List.length_replicate]; omega)) (by first | omega | (simp only [List.length_append, List.length_cons, List.length_nil, List.length_replicate]; omega))) <|
     hc (lnV rfl rfl (by omega)) <|
     hc (gtcF rfl (by omega)) <|
     hc (lnV rfl rfl (by omega)) <|
     hc (gtcF rfl (by omega)) <|
     hc (kRaG (f := prC) (l := ([] : List (LB × LB))) (a := (pn, pv)) (isX rfl) (isL2 (isX rfl) (isX rfl)) (denX rfl)) <|
     hc (kRfG prC_len (isX rfl) (by first | omega | (simp <;> omega)) (by first | omega | (simp <;> omega))) <|
     hc (kRlG prC_len (isX rfl) (denZ (m := 1) rfl) (by first | omega | (simp <;> omega))) <|
     hc (kElG (j := 0) (d := ([], [])) prC_len (by decide) (isX rfl) (isZ (m := 0) rfl) (denX rfl) rfl (by simp) rfl) <|
     hc (kElG (j := 0) (d := ([], [])) prC_len (by decide) (isX rfl) (isZ (m := 0) rfl) (denX rfl) rfl (by simp) rfl) <|
     hc (hokLower (s := pn) (isX rfl) (denX rfl) (by first | omega | (simp only [List.length_append, List.length_cons, List.length_nil, List.length_replicate]; omega)) (by first | omega | (simp only [List.length_append, List.length_cons, List.length_nil, List.length_replicate]; omega))) <|
     hc (hokLower (s := pn) (isX rfl) (denX rfl) (by first | omega | (simp only [List.length_append, List.length_cons, List.length_nil, List.length_replicate]; omega)) (by first | omega | (simp only [List.length_append, List.length_cons, List.length_nil, List.length_replicate]; omega))) <|
     hc (kEqS (isX rfl) (isX rfl) (decide_eq_true rfl)) <|
     hc (kEqTS (isX rfl) (isX rfl) tu9 (decide_eq_true rfl)) <|
     hc (kEqTS (isX rfl) (isX rfl) tu9 (decide_eq_true rfl)) <|
     hc (kEqTS (isX rfl) (isX rfl) tu9 (decide_eq_true rfl)) <|
     hc (kEqTS (isX rfl) (isX rfl) tu9 (decide_eq_true rfl)) <|
     hnil
  exact runP (tb := tab1) (AllOk.lp1 (AllOk.lp1 ((tabkOk (nuX (nu1 pn pv ad_z be bh) (rX (ro1 pn pv ad_z be bh) (fun _ => .bool true))) (nuX_one (on1 pn pv ad_z be bh))).hyps ho) (by omega) fi3_at fi3_body (lfCons (lpKnown rfl ⟨0, keyWa, lfOkWa_0 (l := lf13) (h := lh13) be (0, (0 : Int)) (mkIWa be 0 (0 : Int) ⟨by omega, by omega, by omega, by omega, by omega⟩) rfl (by kernel_rfl) (th0 := [(0, .x 2), (1, .s 0 0), (2, .i .i64 (.ofNat 0))]) (sg0 := []) (fun X => thXv (v := .int .u8 (be)) rfl rfl (thCons (show Is _ (.s 0 0) (St' (List.replicate (Int.toNat ((0 : Int))) (u8 32))) from isTo (v := St' ([] : LB)) (isSx (l := ([] : LB)) 0 0 rfl) (by first | rfl | (simp; done))) (thCons (show Is _ (.i .i64 (.ofNat 0)) (.int .i64 ((0 : Int))) from isTo (v := .int .i64 0) (isI _ _) (by first | rfl | (congr 1; omega))) (thNil)))) (by kernel_rfl) (thx := [(9, .x 0)]) (thXv (v := St' (List.replicate (Int.toNat (be % 5)) (u8 32))) rfl rfl (thNil)) (by kernel_rfl)⟩) (lfCons (lpKnown rfl ⟨1, keyWb, lfOkWb_0 (l := lf14) (h := lh14) bh (0, (0 : Int)) (mkIWb bh 0 (0 : Int) ⟨by omega, by omega, by omega, by omega, by omega⟩) rfl (by kernel_rfl) (th0 := [(0, .x 3), (1, .s 0 0), (2, .i .i64 (.ofNat 0))]) (sg0 := []) (fun X => thXv (v := .int .u8 (bh)) rfl rfl (thCons (show Is _ (.s 0 0) (St' (List.replicate (Int.toNat ((0 : Int))) (u8 9))) from isTo (v := St' ([] : LB)) (isSx (l := ([] : LB)) 0 0 rfl) (by first | rfl | (simp; done))) (thCons (show Is _ (.i .i64 (.ofNat 0)) (.int .i64 ((0 : Int))) from isTo (v := .int .i64 0) (isI _ _) (by first | rfl | (congr 1; omega))) (thNil)))) (by kernel_rfl) (thx := [(10, .x 0)]) (thXv (v := St' (List.replicate (Int.toNat (bh % 5)) (u8 9))) rfl rfl (thNil)) (by kernel_rfl)⟩) lfNil))) (by omega) (get_lps2 (by omega) (by omega) fi10_at) fi10_body (lfCons (lpKnown rfl ⟨0, keyNlG0, lfOkNlG0_0 (l := lf15) (h := lh15) (0, (0 : Nat)) (mkINlG0 0 (0 : Nat) ⟨trivial, by omega⟩) rfl (by kernel_rfl) (th0 := []) (sg0 := []) (fun X => thNil) (by kernel_rfl) (thx := []) (thNil) (by kernel_rfl)⟩) lfNil)) rfl (get_lps2 (by omega) (by omega) (get_lps (by omega))) fiB3 (run1 ) (args := [.agg #[St' pn, St' pv], .slice (some ad_z) 0 0, .int .u8 be, .int .u8 bh]) (by simp only [RelL, Rel]; exact ⟨_, _, rfl, ⟨_, rfl, ⟨_, _, rfl, rfl, ⟨_, _, rfl, rfl, rfl⟩⟩⟩, ⟨_, _, rfl, ⟨_, _, rfl⟩, ⟨_, _, rfl, rfl, ⟨_, _, rfl, rfl, rfl⟩⟩⟩⟩) w hl
def hy2 : LK := [(.rn, .x 2000001),
  (.call 6 [.ag [.x 0, .x 1]], .b true),
  (.rl (.x 2000000) 2, .x 4),
  (.bin .gtr (.x 4) (.i .i64 (.ofNat 20)), .b false),
  (.bin .add (.x 0) (.s 2 8250), .x 5),
  (.bin .add (.x 5) (.x 1), .x 6),
  (.bin .add (.x 6) (.s 2 2573), .x 7),
  (.byt (.x 7) (.i .i64 (.ofNat 0)), .x 8),
  (.fit (.x 7), .b true),
  (.len (.x 7), .x 9),
  (.bin .add (.x 0) (.s 1 58), .x 12),
  (.bin .add (.x 12) (.x 10), .x 13),
  (.bin .add (.x 13) (.x 1), .x 14),
  (.bin .add (.x 14) (.x 11), .x 15),
  (.bin .eql (.s 1 58) (.x 15), .b false),
  (.ext 77 [.x 15, .i .u8 (.ofNat 58)], .x 16),
  (.bin .geq (.x 16) (.i .i64 (.ofNat 0)), .b true),
  (.sub (.x 15) none (some (.x 16)), .x 17),
  (.bin .add (.x 16) (.i .i64 (.ofNat 1)), .x 18),
  (.sub (.x 15) (some (.x 18)) none, .x 19),
  (.call 40 [.x 19, .s 2 2336], .x 20),
  (.call 38 [.x 17], .b true),
  (.call 39 [.x 20], .b true),
  (.len (.x 17), .x 21),
  (.bin .gtr (.x 21) (.i .i64 (.ofNat 64)), .b false),
  (.len (.x 20), .x 22),
  (.bin .gtr (.x 22) (.i .i64 (.ofNat 512)), .b false),
  (.bin .lss (.x 9) (.i .i64 (.ofNat 2)), .b false),
  (.bin .sub (.x 9) (.i .i64 (.ofNat 2)), .x 23),
  (.sub (.x 7) none (some (.x 23)), .x 24),
  (.bin .eql (.s 1 58) (.x 24), .b false),
  (.ext 77 [.x 24, .i .u8 (.ofNat 58)], .x 25),
  (.bin .geq (.x 25) (.i .i64 (.ofNat 0)), .b true),
  (.sub (.x 24) none (some (.x 25)), .x 26),
  (.bin .add (.x 25) (.i .i64 (.ofNat 1)), .x 27),
  (.sub (.x 24) (some (.x 27)) none, .x 28),
  (.call 40 [.x 28, .s 2 2336], .x 29),
  (.call 38 [.x 26], .b true),
  (.call 39 [.x 29], .b true),
  (.len (.x 26), .x 30),
  (.bin .gtr (.x 30) (.i .i64 (.ofNat 64)), .b false),
  (.len (.x 29), .x 31),
  (.bin .gtr (.x 31) (.i .i64 (.ofNat 512)), .b false),
  (.bin .gtr (.x 4) (.i .i64 (.ofNat 0)), .b false),
  (.ra (.x 2000001) [.x 0, .x 1], .x 2000002),
  (.rf (.x 2000002) 2 32, .b true),
  (.rl (.x 2000002) 2, .i .i64 (.ofNat 1)),
  (.el (.x 2000002) (.i .i64 (.ofNat 0)) 2 0, .x 32),
  (.el (.x 2000002) (.i .i64 (.ofNat 0)) 2 1, .x 33),
  (.call 43 [.x 32], .x 34),
  (.call 43 [.x 0], .x 35),
  (.bin .eql (.x 34) (.x 35), .b true),
  (.eq 9 (.x 17) (.x 0), .b true),
  (.eq 9 (.x 20) (.x 1), .b true),
  (.eq 9 (.x 26) (.x 0), .b true),
  (.eq 9 (.x 29) (.x 1), .b true),
  (.bin .lss (.i .i64 (.ofNat 0)) (.x 4), .b false),
  (.bin .sub (.x 4) (.i .i64 (.ofNat 0)), .x 36),
  (.bin .eql (.i .i64 (.ofNat 0)) (.x 36), .b true)]
def lh16 : LH := ⟨4, 24, 24, [], []⟩
def lf16 : LF := ⟨8, 121, [(2, .x 2), (10, .s 0 0), (12, .i .i64 (.ofNat 0))], [0, 1, 3, 4, 8, 9, 11], (.exit 0), [(10, .x 10)], some lh16⟩
def lh17 : LH := ⟨4, 44, 44, [], []⟩
def lf17 : LF := ⟨12, 121, [(3, .x 3), (11, .s 0 0), (13, .i .i64 (.ofNat 0))], [0, 1, 4, 8, 9, 10], (.exit 2), [(11, .x 11)], some lh17⟩
def lh18 : LH := ⟨4, 55, 55, [], []⟩
def lf18 : LF := ⟨3, 25, [(5, .nils), (8, .nils), (9, .i .i64 (.ofNat 0)), (10, .i .i64 (.ofNat 0))], [], (.exit 0), [(5, .nils)], some lh18⟩
noncomputable def tab2 : Tab := addLps (addLps ({ tabk with hyp := hy2 }) 3 fi3 [lf16, lf17]) 10 fi10 [lf18]
theorem run2 : Go.AX.okB (call tab2 9000 3 [.ag [.x 0, .x 1], .sr 4, .x 2, .x 3] ⟨addR 4 [.r 2000000 23 2 true] (H0 ), 4 + List.length (α := Ent) [.r 2000000 23 2 true], 0, 0⟩) = true := by kernel_rfl
def nu2 (pn : LB) (pv : LB) (blk_z : Nat) (base_z : Nat) (es_z : Nat) (z : List (LB × LB)) (be : Int) (bh : Int) : List Value := [St' pn,
  St' pv,
  .int .u8 (be),
  .int .u8 (bh),
  .int .i64 ((z.length : Int)),
  St' (pn ++ [u8 58, u8 32]),
  St' (pn ++ ([u8 58, u8 32] ++ pv)),
  St' (pn ++ ([u8 58, u8 32] ++ (pv ++ [u8 13, u8 10]))),
  .int .u8 (bt (pn ++ ([u8 58, u8 32] ++ (pv ++ [u8 13, u8 10]))) 0),
  .int .i64 ((pn.length : Int) + (pv.length : Int) + 4),
  St' (List.replicate (Int.toNat (be % 5)) (u8 32)),
  St' (List.replicate (Int.toNat (bh % 5)) (u8 9)),
  St' (pn ++ [u8 58]),
  St' (pn ++ ([u8 58] ++ (List.replicate (Int.toNat (be % 5)) (u8 32)))),
  St' (pn ++ ([u8 58] ++ ((List.replicate (Int.toNat (be % 5)) (u8 32)) ++ pv))),
  St' (pn ++ ([u8 58] ++ ((List.replicate (Int.toNat (be % 5)) (u8 32)) ++ (pv ++ (List.replicate (Int.toNat (bh % 5)) (u8 9)))))),
  .int .i64 ((pn.length : Int)),
  St' pn,
  .int .i64 ((pn.length : Int) + 1),
  St' ((List.replicate (Int.toNat (be % 5)) (u8 32)) ++ (pv ++ (List.replicate (Int.toNat (bh % 5)) (u8 9)))),
  St' pv,
  .int .i64 ((pn.length : Int)),
  .int .i64 ((pv.length : Int)),
  .int .i64 ((pn.length : Int) + (pv.length : Int) + 2),
  St' (pn ++ ([u8 58, u8 32] ++ pv)),
  .int .i64 ((pn.length : Int)),
  St' pn,
  .int .i64 ((pn.length : Int) + 1),
  St' ([u8 32] ++ pv),
  St' pv,
  .int .i64 ((pn.length : Int)),
  .int .i64 ((pv.length : Int)),
  St' pn,
  St' pv,
  St' (lowS pn),
  St' (lowS pn),
  .int .i64 ((z.length : Int))]
def ro2 (pn : LB) (pv : LB) (blk_z : Nat) (base_z : Nat) (es_z : Nat) (z : List (LB × LB)) (be : Int) (bh : Int) : List Value := [rwG prC z,
  rwS ([] : List LB),
  rwG prC (([] : List (LB × LB)) ++ [(pn, pv)])]
theorem on2 (pn : LB) (pv : LB) (blk_z : Nat) (base_z : Nat) (es_z : Nat) (z : List (LB × LB)) (be : Int) (bh : Int) : ∀ j, (nuL (nu2 pn pv blk_z base_z es_z z be bh) j).oneCell' = true := nuL_one (l := nu2 pn pv blk_z base_z es_z z be bh) rfl
theorem path2 (pn : LB) (pv : LB) (blk_z : Nat) (base_z : Nat) (es_z : Nat) (z : List (LB × LB)) (be : Int) (bh : Int) (b0 : pn.length ≤ 140737488351232) (b1 : pv.length ≤ 140737488351232) (b2 : ∀ n, n ∈ z → prB n) (b3 : ∀ q, q ∈ z → q.1.length ≤ 140737488351232) (b4 : ∀ q, q ∈ z → q.2.length ≤ 140737488351232) (b5 : z.length ≤ 9223372036854775807) (b6 : 0 ≤ be) (b7 : be ≤ 255) (b8 : 0 ≤ bh) (b9 : bh ≤ 255) (h0 : isF pn pv = true) (h1 : ¬ (20 < (z.length : Int))) (h13 : ¬ (0 < (z.length : Int))) (w : World) (hl : laidE w) (w_z : InRow w 2 (z.flatMap prC) blk_z base_z z.length es_z) (g_z : (H0 ).get blk_z = none) : CwR 3 #[.agg #[St' pn, St' pv], .slice (some ⟨blk_z, base_z, none⟩) z.length es_z, .int .u8 be, .int .u8 bh] w (.bool true) := by
  obtain ⟨htk, hvs, hln, hlv, htr⟩ := isF_inv (a := pn) (v := pv) (by assumption)
  have hpl := tok_pos htk
  have := bt_lo (pn ++ ([u8 58, u8 32] ++ (pv ++ [u8 13, u8 10]))) 0; have := bt_hi (pn ++ ([u8 58, u8 32] ++ (pv ++ [u8 13, u8 10]))) 0
  have : (lowS pn).length = pn.length := List.length_map ..
  have ho : ∀ k r, (k, r) ∈ hy2 → HOk (cx (nuX (nu2 pn pv blk_z base_z es_z z be bh) (rX (ro2 pn pv blk_z base_z es_z z be bh) (fun _ => .bool true))) (nuX_one (on2 pn pv blk_z base_z es_z z be bh)) 0 laidE laidE_stab) k r := by
    unfold hy2
    exact hc (kRn (denX rfl)) <|
     hc (hokIsA (a := pn) (v := pv) (isAg2 (isX rfl) (isX rfl)) (denBT (by assumption)) (by omega) (by omega)) <|
     hc (kRlG prC_len (isX rfl) (denX rfl) (by first | omega | (simp <;> omega))) <|
     hc (gtcF rfl (by omega)) <|
     hc (kCat (isX rfl) (isSx (l := [u8 58, u8 32]) 2 8250 rfl) (denX rfl) (by first | rfl | (simp; done)) (by first | omega | (simp <;> omega))) <|
     hc (kCat (isX rfl) (isX rfl) (denX rfl) (by first | rfl | (simp; done)) (by first | omega | (simp <;> omega))) <|
     hc (kCat (isX rfl) (isSx (l := [u8 13, u8 10]) 2 2573 rfl) (denX rfl) (by first | rfl | (simp; done)) (by first | omega | (simp <;> omega))) <|
     hc (kByt (i := 0) (isX rfl) (isZ (m := 0) rfl) (denX rfl) rfl (by first | omega | (simp <;> omega)) rfl) <|
     hc (kFit (isX rfl) (by first | omega | (simp <;> omega))) <|
     hc (lnV rfl rfl (by first | omega | (simp <;> omega))) <|
     hc (kCat (isX rfl) (isSx (l := [u8 58]) 1 58 rfl) (denX rfl) (by first | rfl | (simp; done)) (by first | omega | (simp <;> omega))) <|
     hc (kCat (isX rfl) (isX rfl) (denX rfl) (by first | rfl | (simp; done)) (by first | omega | (simp <;> omega))) <|
     hc (kCat (isX rfl) (isX rfl) (denX rfl) (by first | rfl | (simp; done)) (by first | omega | (simp <;> omega))) <|
     hc (kCat (isX rfl) (isX rfl) (denX rfl) (by first | rfl | (simp; done)) (by first | omega | (simp <;> omega))) <|
     hc (kEqS (isSx (l := [u8 58]) 1 58 rfl) (isX rfl) (neLen (by first | omega | (simp <;> omega)))) <|
     hc (kExtI (n := (pn.length : Int)) exF77 exA77 exB77 (isX rfl) (isZ (m := 58) rfl) (denX rfl) (idx_tok htk)) <|
     hc (gecT rfl (by omega)) <|
     hc (kCut (isX rfl) (.inl ⟨rfl, rfl⟩) (.inr ⟨_, _, rfl, (isX rfl)⟩) (p := ([] : LB)) (m := pn) (q := ([u8 58] ++ ((List.replicate (Int.toNat (be % 5)) (u8 32)) ++ (pv ++ (List.replicate (Int.toNat (bh % 5)) (u8 9)))))) (by first | rfl | (simp; done)) (by first | omega | (simp <;> omega)) (by first | omega | (simp <;> omega)) (denX rfl)) <|
     hc (adC rfl rfl (by omega)) <|
     hc (kCut (isX rfl) (.inr ⟨_, _, rfl, (isX rfl)⟩) (.inl ⟨rfl, rfl⟩) (p := (pn ++ [u8 58])) (m := ((List.replicate (Int.toNat (be % 5)) (u8 32)) ++ (pv ++ (List.replicate (Int.toNat (bh % 5)) (u8 9))))) (q := ([] : LB)) (by first | rfl | (simp; done)) (by first | omega | (simp <;> omega)) (by first | omega | (simp <;> omega)) (denX rfl)) <|
     hc (hokTrim (s := ((List.replicate (Int.toNat (be % 5)) (u8 32)) ++ (pv ++ (List.replicate (Int.toNat (bh % 5)) (u8 9))))) (isX rfl) (isSx (l := [u8 32, u8 9]) 2 2336 rfl) (denX (congrArg (fun l => St' l) (Eq.symm ((trSQ _).trans (trQ_pad (a := (List.replicate (Int.toNat (be % 5)) (u8 32))) (v := pv) (z := (List.replicate (Int.toNat (bh % 5)) (u8 9))) htr (by first | rfl | exact al_rep rfl | exact al_nil) (by first | rfl | exact al_rep rfl | exact al_nil) (by first | rfl | (simp; done))))))) (by first | omega | (simp only [List.length_append, List.length_cons, List.length_nil, List.length_replicate]; omega)) (by first | omega | (simp only [List.length_append, List.length_cons, List.length_nil, List.length_replicate]; omega))) <|
     hc (hokTokA (s := pn) (isX rfl) (denBT (by assumption)) (by first | omega | (simp only [List.length_append, List.length_cons, List.length_nil, List.length_replicate]; omega)) (by first | omega | (simp only [List.length_append, List.length_cons, List.length_nil, List.length_replicate]; omega))) <|
     hc (hokVisible (s := pv) (isX rfl) (denBT (by assumption)) (by first | omega | (simp only [List.length_append, List.length_cons, List.length_nil, List.length_replicate]; omega)) (by first | omega | (simp only [List.length_append, List.length_cons, List.length_nil, List.length_replicate]; omega))) <|
     hc (lnV rfl rfl (by omega)) <|
     hc (gtcF rfl (by omega)) <|
     hc (lnV rfl rfl (by omega)) <|
     hc (gtcF rfl (by omega)) <|
     hc (ltcF rfl (by omega)) <|
     hc (sbC rfl rfl (by omega)) <|
     hc (kCut (isX rfl) (.inl ⟨rfl, rfl⟩) (.inr ⟨_, _, rfl, (isX rfl)⟩) (p := ([] : LB)) (m := (pn ++ ([u8 58, u8 32] ++ pv))) (q := [u8 13, u8 10]) (by first | rfl | (simp; done)) (by first | omega | (simp <;> omega)) (by first | omega | (simp <;> omega)) (denX rfl)) <|
     hc (kEqS (isSx (l := [u8 58]) 1 58 rfl) (isX rfl) (neLen (by first | omega | (simp <;> omega)))) <|
     hc (kExtI (n := (pn.length : Int)) exF77 exA77 exB77 (isX rfl) (isZ (m := 58) rfl) (denX rfl) (idx_tok htk)) <|
     hc (gecT rfl (by omega)) <|
     hc (kCut (isX rfl) (.inl ⟨rfl, rfl⟩) (.inr ⟨_, _, rfl, (isX rfl)⟩) (p := ([] : LB)) (m := pn) (q := ([u8 58, u8 32] ++ pv)) (by first | rfl | (simp; done)) (by first | omega | (simp <;> omega)) (by first | omega | (simp <;> omega)) (denX rfl)) <|
     hc (adC rfl rfl (by omega)) <|
     hc (kCut (isX rfl) (.inr ⟨_, _, rfl, (isX rfl)⟩) (.inl ⟨rfl, rfl⟩) (p := (pn ++ [u8 58])) (m := ([u8 32] ++ pv)) (q := ([] : LB)) (by first | rfl | (simp; done)) (by first | omega | (simp <;> omega)) (by first | omega | (simp <;> omega)) (denX rfl)) <|
     hc (hokTrim (s := ([u8 32] ++ pv)) (isX rfl) (isSx (l := [u8 32, u8 9]) 2 2336 rfl) (denX (congrArg (fun l => St' l) (Eq.symm ((trSQ _).trans (trQ_pad (a := [u8 32]) (v := pv) (z := ([] : LB)) htr (by first | rfl | exact al_rep rfl | exact al_nil) (by first | rfl | exact al_rep rfl | exact al_nil) (by first | rfl | (simp; done))))))) (by first | omega | (simp only [List.length_append, List.length_cons, List.length_nil, List.length_replicate]; omega)) (by first | omega | (simp only [List.length_append, List.length_cons, List.length_nil, List.length_replicate]; omega))) <|
     hc (hokTokA (s := pn) (isX rfl) (denBT (by assumption)) (by first | omega | (simp only [List.length_append, List.length_cons, List.length_nil, List.length_replicate]; omega)) (by first | omega | (simp only [List.length_append, List.length_cons, List.length_nil, List.length_replicate]; omega))) <|
     hc (hokVisible (s := pv) (isX rfl) (denBT (by assumption)) (by first | omega | (simp only [List.length_append, List.length_cons, List.length_nil, List.length_replicate]; omega)) (by first | omega | (simp only [List.length_append, List.length_cons, List.length_nil, List.length_replicate]; omega))) <|
     hc (lnV rfl rfl (by omega)) <|
     hc (gtcF rfl (by omega)) <|
     hc (lnV rfl rfl (by omega)) <|
     hc (gtcF rfl (by omega)) <|
     hc (gtcF rfl (by omega)) <|
     hc (kRaG (f := prC) (l := ([] : List (LB × LB))) (a := (pn, pv)) (isX rfl) (isL2 (isX rfl) (isX rfl)) (denX rfl)) <|
     hc (kRfG prC_len (isX rfl) (by first | omega | (simp <;> omega)) (by first | omega | (simp <;> omega))) <|
     hc (kRlG prC_len (isX rfl) (denZ (m := 1) rfl) (by first | omega | (simp <;> omega))) <|
     hc (kElG (j := 0) (d := ([], [])) prC_len (by decide) (isX rfl) (isZ (m := 0) rfl) (denX rfl) rfl (by simp) rfl) <|
     hc (kElG (j := 0) (d := ([], [])) prC_len (by decide) (isX rfl) (isZ (m := 0) rfl) (denX rfl) rfl (by simp) rfl) <|
     hc (hokLower (s := pn) (isX rfl) (denX rfl) (by first | omega | (simp only [List.length_append, List.length_cons, List.length_nil, List.length_replicate]; omega)) (by first | omega | (simp only [List.length_append, List.length_cons, List.length_nil, List.length_replicate]; omega))) <|
     hc (hokLower (s := pn) (isX rfl) (denX rfl) (by first | omega | (simp only [List.length_append, List.length_cons, List.length_nil, List.length_replicate]; omega)) (by first | omega | (simp only [List.length_append, List.length_cons, List.length_nil, List.length_replicate]; omega))) <|
     hc (kEqS (isX rfl) (isX rfl) (decide_eq_true rfl)) <|
     hc (kEqTS (isX rfl) (isX rfl) tu9 (decide_eq_true rfl)) <|
     hc (kEqTS (isX rfl) (isX rfl) tu9 (decide_eq_true rfl)) <|
     hc (kEqTS (isX rfl) (isX rfl) tu9 (decide_eq_true rfl)) <|
     hc (kEqTS (isX rfl) (isX rfl) tu9 (decide_eq_true rfl)) <|
     hc (kLt (isZ (m := 0) rfl) (isX rfl) (decide_eq_false (by omega))) <|
     hc (sbC rfl rfl (by omega)) <|
     hc (kEqI (isZ (m := 0) rfl) (isX rfl) (decide_eq_true (by omega))) <|
     hnil
  exact runPR (tb := tab2) (AllOk.lp1 (AllOk.lp1 ((tabkOk (nuX (nu2 pn pv blk_z base_z es_z z be bh) (rX (ro2 pn pv blk_z base_z es_z z be bh) (fun _ => .bool true))) (nuX_one (on2 pn pv blk_z base_z es_z z be bh))).hyps ho) (by omega) fi3_at fi3_body (lfCons (lpKnown rfl ⟨0, keyWa, lfOkWa_0 (l := lf16) (h := lh16) be (0, (0 : Int)) (mkIWa be 0 (0 : Int) ⟨by omega, by omega, by omega, by omega, by omega⟩) rfl (by kernel_rfl) (th0 := [(0, .x 2), (1, .s 0 0), (2, .i .i64 (.ofNat 0))]) (sg0 := []) (fun X => thXv (v := .int .u8 (be)) rfl rfl (thCons (show Is _ (.s 0 0) (St' (List.replicate (Int.toNat ((0 : Int))) (u8 32))) from isTo (v := St' ([] : LB)) (isSx (l := ([] : LB)) 0 0 rfl) (by first | rfl | (simp; done))) (thCons (show Is _ (.i .i64 (.ofNat 0)) (.int .i64 ((0 : Int))) from isTo (v := .int .i64 0) (isI _ _) (by first | rfl | (congr 1; omega))) (thNil)))) (by kernel_rfl) (thx := [(10, .x 0)]) (thXv (v := St' (List.replicate (Int.toNat (be % 5)) (u8 32))) rfl rfl (thNil)) (by kernel_rfl)⟩) (lfCons (lpKnown rfl ⟨1, keyWb, lfOkWb_0 (l := lf17) (h := lh17) bh (0, (0 : Int)) (mkIWb bh 0 (0 : Int) ⟨by omega, by omega, by omega, by omega, by omega⟩) rfl (by kernel_rfl) (th0 := [(0, .x 3), (1, .s 0 0), (2, .i .i64 (.ofNat 0))]) (sg0 := []) (fun X => thXv (v := .int .u8 (bh)) rfl rfl (thCons (show Is _ (.s 0 0) (St' (List.replicate (Int.toNat ((0 : Int))) (u8 9))) from isTo (v := St' ([] : LB)) (isSx (l := ([] : LB)) 0 0 rfl) (by first | rfl | (simp; done))) (thCons (show Is _ (.i .i64 (.ofNat 0)) (.int .i64 ((0 : Int))) from isTo (v := .int .i64 0) (isI _ _) (by first | rfl | (congr 1; omega))) (thNil)))) (by kernel_rfl) (thx := [(11, .x 0)]) (thXv (v := St' (List.replicate (Int.toNat (bh % 5)) (u8 9))) rfl rfl (thNil)) (by kernel_rfl)⟩) lfNil))) (by omega) (get_lps2 (by omega) (by omega) fi10_at) fi10_body (lfCons (lpKnown rfl ⟨0, keyNlG0, lfOkNlG0_0 (l := lf18) (h := lh18) (0, (0 : Nat)) (mkINlG0 0 (0 : Nat) ⟨trivial, by omega⟩) rfl (by kernel_rfl) (th0 := []) (sg0 := []) (fun X => thNil) (by kernel_rfl) (thx := []) (thNil) (by kernel_rfl)⟩) lfNil)) rfl (get_lps2 (by omega) (by omega) (get_lps (by omega))) fiB3 [.r 2000000 23 2 true] [⟨blk_z, base_z, z.length, es_z⟩] (run2 ) (args := [.agg #[St' pn, St' pv], .slice (some ⟨blk_z, base_z, none⟩) z.length es_z, .int .u8 be, .int .u8 bh]) ⟨_, _, rfl, ⟨_, rfl, ⟨_, _, rfl, rfl, ⟨_, _, rfl, rfl, rfl⟩⟩⟩, ⟨_, _, rfl, relSrN (by decide) rfl w_z.room, ⟨_, _, rfl, rfl, ⟨_, _, rfl, rfl, rfl⟩⟩⟩⟩ w hl rfl (by decide) ((argsCons (w_z.arg (g_z ) rfl) argsNil)) rfl
end Go.Proofs.YtjkdkpdjmapieaaDoor.fieldBack
