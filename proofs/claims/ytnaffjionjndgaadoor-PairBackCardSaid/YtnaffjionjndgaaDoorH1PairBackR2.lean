/- A part of the proof: an interpreter of the model's own code on partly known states, and that what it answers is what the program answers. No condition of its own. -/
import Derived.Test.YtnaffjionjndgaaDoorH1PairBackO5
set_option maxRecDepth 100000
set_option linter.unusedVariables false
set_option linter.unusedSimpArgs false
set_option maxHeartbeats 4000000
namespace Go.Proofs.YtnaffjionjndgaaDoor.pairBack
open Go Go.AX Go.Proofs Go.Proofs.YtnaffjionjndgaaDoor
def hy6 : LK := [(.bytes [], .x 1),
  (.rn, .x 2000002),
  (.rl (.x 2000000) 2, .x 2),
  (.bin .gtr (.x 2) (.i .i64 (.ofNat 20)), .b false),
  (.rl (.x 2000001) 2, .x 3),
  (.bin .gtr (.x 3) (.i .i64 (.ofNat 20)), .b false),
  (.bin .gtr (.x 2) (.i .i64 (.ofNat 0)), .b true),
  (.rr (.x 2000002) (.x 2000000), .x 2000003),
  (.rf (.x 2000003) 2 32, .b true),
  (.rr (.x 2000003) (.x 2000001), .x 2000004),
  (.rf (.x 2000004) 2 32, .b true),
  (.rl (.x 2000005) 2, .x 4),
  (.byt (.x 5) (.i .i64 (.ofNat 0)), .x 6),
  (.len (.x 5), .x 7),
  (.fit (.x 5), .b true),
  (.rl (.x 2000007) 2, .x 8),
  (.rl (.x 2000006) 2, .x 9),
  (.bin .neq (.x 8) (.x 9), .b false),
  (.byt (.x 10) (.i .i64 (.ofNat 0)), .x 11),
  (.len (.x 10), .x 12),
  (.fit (.x 10), .b true),
  (.byt (.x 13) (.i .i64 (.ofNat 0)), .x 14),
  (.len (.x 13), .x 15),
  (.fit (.x 13), .b true),
  (.bin .add (.x 10) (.x 13), .x 16),
  (.bin .neq (.x 5) (.x 16), .b false),
  (.bin .eql (.x 7) (.i .i64 (.ofNat 0)), .b false),
  (.conv 3 (.x 0), .x 17),
  (.bin .rem (.x 17) (.x 7), .x 18),
  (.sub (.x 5) none (some (.x 18)), .x 19),
  (.rl (.x 2000008) 2, .x 20),
  (.bin .lss (.i .i64 (.ofNat 0)) (.x 20), .b true),
  (.rt (.x 2000008) (.i .i64 (.ofNat 0)) 2, .x 2000011),
  (.rl (.x 2000011) 2, .i .i64 (.ofNat 0))]
def lh84 : LH := ⟨4, 20, 50, [(7, .r 2000004 26 2 false)], [(7, .r 2000005 26 2 false)]⟩
def lf84 : LF := ⟨7, 113, [(7, .sr 7), (8, .i .i64 (.ofNat 0))], [0, 1, 2], (.exit 0), [(7, .sr 7)], some lh84⟩
def lh85 : LH := ⟨4, 80, 120, [(7, .r 2000005 26 2 false), (50, .b ⟨40, .l [.nilp, .nils], 0, 0, 0, false, false⟩)], [(7, .r 2000006 26 2 false), (80, .b ⟨40, .l [.p 80 0, .sy 81], 0, 0, 0, false, false⟩), (81, .t 5 5)]⟩
def lf85 : LF := ⟨3, 30, [(3, .p 50 0), (6, .sr 7), (7, .x 4), (8, .i .i64 (.ofNat 0))], [], (.exit 0), [(3, .p 80 0)], some lh85⟩
def lh86 : LH := ⟨4, 140, 200, [], [(140, .r 2000007 26 2 false)]⟩
def lf86 : LF := ⟨2, 38, [(0, .x 5), (4, .nils)], [], (.exit 0), [(4, .sr 140)], some lh86⟩
def lh87 : LH := ⟨4, 280, 282, [(7, .r 2000006 26 2 false), (140, .r 2000007 26 2 false)], [(7, .r 2000008 26 2 false)]⟩
def lf87 : LF := ⟨4, 26, [(0, .sr 140), (1, .sr 7), (5, .i .i64 (.ofNat 0))], [], (.exit 0), [], some lh87⟩
def lh88 : LH := ⟨4, 340, 380, [(4, .r 2000000 26 2 true), (282, .b ⟨40, .l [.nilp, .nils], 0, 0, 0, false, false⟩)], [(4, .r 2000009 26 2 true), (340, .b ⟨40, .l [.p 340 0, .sy 341], 0, 0, 0, false, false⟩), (341, .t 10 5)]⟩
def lf88 : LF := ⟨3, 30, [(3, .p 282 0), (6, .sr 4), (7, .x 2), (8, .i .i64 (.ofNat 0))], [], (.exit 0), [(3, .p 340 0)], some lh88⟩
def lh89 : LH := ⟨4, 400, 440, [(5, .r 2000001 26 2 true), (380, .b ⟨40, .l [.nilp, .nils], 0, 0, 0, false, false⟩)], [(5, .r 2000010 26 2 true), (400, .b ⟨40, .l [.p 400 0, .sy 401], 0, 0, 0, false, false⟩), (401, .t 13 5)]⟩
def lf89 : LF := ⟨3, 30, [(3, .p 380 0), (6, .sr 5), (7, .x 3), (8, .i .i64 (.ofNat 0))], [], (.exit 0), [(3, .p 400 0)], some lh89⟩
def lh90 : LH := ⟨4, 460, 520, [], []⟩
def lf90 : LF := ⟨2, 38, [(0, .x 19), (4, .nils)], [], (.exit 0), [(4, .nils)], some lh90⟩
noncomputable def tab6 : Tab := addLps (addLps (addLps (addLps ({ tabk with hyp := hy6 }) 3 fi3 [lf84]) 5 fi5 [lf85, lf88, lf89]) 6 fi6 [lf86, lf90]) 7 fi7 [lf87]
theorem run6 (e : Nat) : Go.AX.okB (call tab6 9000 3 [.sr 4, .sr 5, .x 0] ⟨addR 4 [.r 2000000 26 2 true, .r 2000001 26 2 true] (H0 e ), 4 + List.length (α := Ent) [.r 2000000 26 2 true, .r 2000001 26 2 true], 0, 0⟩) = true := by kernel_rfl
def nu6 (blk_za : Nat) (base_za : Nat) (es_za : Nat) (za : List (LB × LB)) (blk_zb : Nat) (base_zb : Nat) (es_zb : Nat) (zb : List (LB × LB)) (ct : Int) : List Value := [.int .u16 (ct),
  St' ([] : LB),
  .int .i64 ((za.length : Int)),
  .int .i64 ((zb.length : Int)),
  .int .i64 ((za.length : Int) + (zb.length : Int)),
  St' (pS (za ++ zb)),
  .int .u8 (bt (pS (za ++ zb)) 0),
  .int .i64 (((pS (za ++ zb)).length : Int)),
  .int .i64 ((za.length : Int) + (zb.length : Int)),
  .int .i64 ((za.length : Int) + (zb.length : Int)),
  St' (pS za),
  .int .u8 (bt (pS za) 0),
  .int .i64 (((pS za).length : Int)),
  St' (pS zb),
  .int .u8 (bt (pS zb) 0),
  .int .i64 (((pS zb).length : Int)),
  St' ((pS za) ++ (pS zb)),
  .int .i64 (ct),
  .int .i64 (ct % ((pS (za ++ zb)).length : Int)),
  St' (fkS (za ++ zb) ct),
  .int .i64 ((za.length : Int) + (zb.length : Int))]
def ro6 (blk_za : Nat) (base_za : Nat) (es_za : Nat) (za : List (LB × LB)) (blk_zb : Nat) (base_zb : Nat) (es_zb : Nat) (zb : List (LB × LB)) (ct : Int) : List Value := [rwG prC za,
  rwG prC zb,
  rwS ([] : List LB),
  rwG prC za,
  rwG prC (za ++ zb),
  rwG prC (za ++ zb),
  rwG prC (za ++ zb),
  rwG prC (za ++ zb),
  rwG prC (za ++ zb),
  rwG prC za,
  rwG prC zb,
  rwG prC ((za ++ zb).take 0)]
theorem on6 (blk_za : Nat) (base_za : Nat) (es_za : Nat) (za : List (LB × LB)) (blk_zb : Nat) (base_zb : Nat) (es_zb : Nat) (zb : List (LB × LB)) (ct : Int) : ∀ j, (nuL (nu6 blk_za base_za es_za za blk_zb base_zb es_zb zb ct) j).oneCell' = true := nuL_one (l := nu6 blk_za base_za es_za za blk_zb base_zb es_zb zb ct) rfl
theorem path6 (blk_za : Nat) (base_za : Nat) (es_za : Nat) (za : List (LB × LB)) (blk_zb : Nat) (base_zb : Nat) (es_zb : Nat) (zb : List (LB × LB)) (ct : Int) (b0 : 1 ≤ za.length) (b1 : ∀ n, n ∈ za → prB n) (b2 : ∀ q, q ∈ za → q.1.length ≤ 140737488351232) (b3 : ∀ q, q ∈ za → q.2.length ≤ 140737488351232) (b4 : za.length ≤ 9223372036854775807) (b5 : 1 ≤ zb.length) (b6 : ∀ n, n ∈ zb → prB n) (b7 : ∀ q, q ∈ zb → q.1.length ≤ 140737488351232) (b8 : ∀ q, q ∈ zb → q.2.length ≤ 140737488351232) (b9 : zb.length ≤ 9223372036854775807) (b10 : 0 ≤ ct) (b11 : ct ≤ 65535) (h0 : ¬ (20 < (za.length : Int))) (h1 : ¬ (20 < (zb.length : Int))) (h3 : ok6 (za ++ zb)) (h6 : (prS (fkS (za ++ zb) ct)).2 = 0) (h7 : (prS (fkS (za ++ zb) ct)).1.length = 0) (w : World) (hl : laidE w) (w_za : InRow w 2 (za.flatMap prC) blk_za base_za za.length es_za) (g_za : ∀ e, (H0 e ).get blk_za = none) (w_zb : InRow w 2 (zb.flatMap prC) blk_zb base_zb zb.length es_zb) (g_zb : ∀ e, (H0 e ).get blk_zb = none) : CwR 3 #[.slice (some ⟨blk_za, base_za, none⟩) za.length es_za, .slice (some ⟨blk_zb, base_zb, none⟩) zb.length es_zb, .int .u16 ct] w (.bool true) := by
  have hn0 : ([] : LB).length = 0 := rfl
  have hpl := pS_len (za ++ zb) (by assumption)
  obtain ⟨h6a, h6b⟩ := ok6_app (by assumption : ok6 (za ++ zb)); have hpa := pS_len za h6a; have hpb := pS_len zb h6b
  have hlz : (za ++ zb).length = za.length + zb.length := List.length_append
  have := bt_lo (pS (za ++ zb)) 0; have := bt_hi (pS (za ++ zb)) 0
  have hX := pr_pS (za ++ zb) (by assumption)
  have := bt_lo (pS za) 0; have := bt_hi (pS za) 0
  have := bt_lo (pS zb) 0; have := bt_hi (pS zb) 0
  have := Int.emod_nonneg ct (show (((pS (za ++ zb)).length : Int)) ≠ 0 by omega); have := Int.emod_lt_of_pos ct (show 0 < (((pS (za ++ zb)).length : Int)) by omega)
  obtain ⟨hf1, hf2, hf3, hf4⟩ := fkF (X := (za ++ zb)) (ct := ct) (by assumption) (by omega) (by omega)
  have hfk := (hf4.resolve_left (by omega)).2.1; have hfl := (hf4.resolve_left (by omega)).2.2
  have ho : ∀ k r, (k, r) ∈ hy6 → HOk (cx (nuX (nu6 blk_za base_za es_za za blk_zb base_zb es_zb zb ct) (rX (ro6 blk_za base_za es_za za blk_zb base_zb es_zb zb ct) (fun _ => .bool true))) (nuX_one (on6 blk_za base_za es_za za blk_zb base_zb es_zb zb ct)) 1 laidE laidE_stab) k r := by
    unfold hy6
    exact hc (kBytesB (bs := ([] : LB)) .nil (denX rfl)) <|
     hc (kRn (denX rfl)) <|
     hc (kRlG prC_len (isX rfl) (denX rfl) (by first | omega | (simp <;> omega))) <|
     hc (gtcF rfl (by omega)) <|
     hc (kRlG prC_len (isX rfl) (denX rfl) (by first | omega | (simp <;> omega))) <|
     hc (gtcF rfl (by omega)) <|
     hc (gtcT rfl (by omega)) <|
     hc (kRr (f := prC) (l := []) (m := za) (isX rfl) (isX rfl) (denX rfl)) <|
     hc (kRfG prC_len (isX rfl) (by first | omega | (simp <;> omega)) (by first | omega | (simp <;> omega))) <|
     hc (kRr (f := prC) (l := za) (m := zb) (isX rfl) (isX rfl) (denX rfl)) <|
     hc (kRfG prC_len (isX rfl) (by first | omega | (simp <;> omega)) (by first | omega | (simp <;> omega))) <|
     hc (kRlG prC_len (isX rfl) (denX rfl) (by first | omega | (simp <;> omega))) <|
     hc (kByt (i := 0) (isX rfl) (isZ (m := 0) rfl) (denX rfl) rfl (by first | omega | (simp <;> omega)) rfl) <|
     hc (lnV rfl rfl (by omega)) <|
     hc (kFit (isX rfl) (by first | omega | (simp <;> omega))) <|
     hc (kRlG prC_len (isX rfl) (denX rfl) (by first | omega | (simp <;> omega))) <|
     hc (kRlG prC_len (isX rfl) (denX rfl) (by first | omega | (simp <;> omega))) <|
     hc (kNeI (isX rfl) (isX rfl) (neF (by omega))) <|
     hc (kByt (i := 0) (isX rfl) (isZ (m := 0) rfl) (denX rfl) rfl (by first | omega | (simp <;> omega)) rfl) <|
     hc (lnV rfl rfl (by omega)) <|
     hc (kFit (isX rfl) (by first | omega | (simp <;> omega))) <|
     hc (kByt (i := 0) (isX rfl) (isZ (m := 0) rfl) (denX rfl) rfl (by first | omega | (simp <;> omega)) rfl) <|
     hc (lnV rfl rfl (by omega)) <|
     hc (kFit (isX rfl) (by first | omega | (simp <;> omega))) <|
     hc (kCat (isX rfl) (isX rfl) (denX rfl) (by first | rfl | (simp; done)) (by omega)) <|
     hc (kNeS (isX rfl) (isX rfl) (bnF (decide_eq_true (pS_app za zb)))) <|
     hc (eqcF rfl (by omega)) <|
     hc (kConvF (isX rfl) tu3 (denX rfl) (fI64 (by omega) (by omega))) <|
     hc (kRem (isX rfl) (isX rfl) (denX rfl) (by omega) (by omega) rfl) <|
     hc (kMid (P := 0) (Q := ct % ((pS (za ++ zb)).length : Int)) (isX rfl) (.inl ⟨rfl, rfl⟩) (.inr ⟨_, _, rfl, (isX rfl)⟩) (by omega) (by omega) (by omega) (denX (congrArg (fun l => St' l) (fk_mid (by omega))))) <|
     hc (kRlG prC_len (isX rfl) (denX rfl) (by first | omega | (simp <;> omega))) <|
     hc (kLt (isZ (m := 0) rfl) (isX rfl) (decide_eq_true (by omega))) <|
     hc (kRt (f := prC) (j := 0) prC_len (isX rfl) (isZ (m := 0) rfl) (denX rfl) (by omega) (by omega)) <|
     hc (kRlG prC_len (isX rfl) (denZ (m := 0) rfl) (by first | omega | (simp <;> omega))) <|
     hnil
  exact runPR (tb := tab6) (AllOk.lp1 (AllOk.lp1 (AllOk.lp1 (AllOk.lp1 ((tabkOk (nuX (nu6 blk_za base_za es_za za blk_zb base_zb es_zb zb ct) (rX (ro6 blk_za base_za es_za za blk_zb base_zb es_zb zb ct) (fun _ => .bool true))) (nuX_one (on6 blk_za base_za es_za za blk_zb base_zb es_zb zb ct))).hyps ho) (by omega) fi3_at fi3_body (lfCons (lpKnown rfl ⟨0, keyOk7, lfOkOk7_0 (l := lf84) (h := lh84) (za ++ zb) (by assumption) (0, (0 : Int)) (mkIOk7 (za ++ zb) 0 (0 : Int) ⟨by omega, by omega, by omega, prB_app (by assumption) (by assumption), (fun q hq => nomatch hq), by omega⟩) rfl (by kernel_rfl) (th0 := [(0, .i .i64 (.ofNat 0)), (2000000, .x 2000004)]) (sg0 := []) (fun X => thCons (show Is _ (.i .i64 (.ofNat 0)) (.int .i64 ((0 : Int))) from isTo (v := .int .i64 0) (isI _ _) (by first | rfl | (congr 1; omega))) (thXv (v := rwG prC (za ++ zb)) rfl rfl (thNil))) (by kernel_rfl) (thx := [(2000005, .x 2000000)]) (thXv (v := rwG prC (za ++ zb)) rfl rfl (thNil)) (by kernel_rfl)⟩) lfNil)) (by omega) (get_lps2 (by omega) (by omega) fi5_at) fi5_body (lfCons (lpKnown rfl ⟨0, keyBy7x80, lfOkBy7x80_0 (l := lf85) (h := lh85) (za ++ zb) (0, (0 : Int), ([] : LB)) (mkIBy7x80 (za ++ zb) 0 (0 : Int) ([] : LB) ⟨by omega, by omega, by omega, prB_app (by assumption) (by assumption), by assumption, rfl, by simp, fun _ => rfl, by omega, by omega⟩) rfl (by kernel_rfl) (th0 := [(0, .x 4), (1, .i .i64 (.ofNat 0)), (2000000, .x 2000005)]) (sg0 := [(80, 50)]) (fun X => thXe (v := .int .i64 ((za.length : Int) + (zb.length : Int))) (u := .int .i64 (((za ++ zb).length : Int))) rfl rfl (by first | rfl | (congr 1; omega)) (thCons (show Is _ (.i .i64 (.ofNat 0)) (.int .i64 ((0 : Int))) from isTo (v := .int .i64 0) (isI _ _) (by first | rfl | (congr 1; omega))) (thXv (v := rwG prC (za ++ zb)) rfl rfl (thNil)))) (by kernel_rfl) (thx := [(5, .x 0), (2000006, .x 2000000)]) (thXv (v := St' (pS (za ++ zb))) rfl rfl (thXv (v := rwG prC (za ++ zb)) rfl rfl (thNil))) (by kernel_rfl)⟩) (lfCons (lpKnown rfl ⟨0, keyBy4x340, lfOkBy4x340_0 (l := lf88) (h := lh88) za (0, (0 : Int), ([] : LB)) (mkIBy4x340 za 0 (0 : Int) ([] : LB) ⟨by omega, by omega, by omega, by assumption, by assumption, rfl, by simp, fun _ => rfl, by omega, by omega⟩) rfl (by kernel_rfl) (th0 := [(0, .x 2), (1, .i .i64 (.ofNat 0)), (2000000, .x 2000000)]) (sg0 := [(340, 282)]) (fun X => thXv (v := .int .i64 ((za.length : Int))) rfl rfl (thCons (show Is _ (.i .i64 (.ofNat 0)) (.int .i64 ((0 : Int))) from isTo (v := .int .i64 0) (isI _ _) (by first | rfl | (congr 1; omega))) (thXv (v := rwG prC za) rfl rfl (thNil)))) (by kernel_rfl) (thx := [(10, .x 0), (2000009, .x 2000000)]) (thXv (v := St' (pS za)) rfl rfl (thXv (v := rwG prC za) rfl rfl (thNil))) (by kernel_rfl)⟩) (lfCons (lpKnown rfl ⟨0, keyBy5x400, lfOkBy5x400_0 (l := lf89) (h := lh89) zb (0, (0 : Int), ([] : LB)) (mkIBy5x400 zb 0 (0 : Int) ([] : LB) ⟨by omega, by omega, by omega, by assumption, by assumption, rfl, by simp, fun _ => rfl, by omega, by omega⟩) rfl (by kernel_rfl) (th0 := [(0, .x 3), (1, .i .i64 (.ofNat 0)), (2000000, .x 2000001)]) (sg0 := [(400, 380)]) (fun X => thXv (v := .int .i64 ((zb.length : Int))) rfl rfl (thCons (show Is _ (.i .i64 (.ofNat 0)) (.int .i64 ((0 : Int))) from isTo (v := .int .i64 0) (isI _ _) (by first | rfl | (congr 1; omega))) (thXv (v := rwG prC zb) rfl rfl (thNil)))) (by kernel_rfl) (thx := [(13, .x 0), (2000010, .x 2000000)]) (thXv (v := St' (pS zb)) rfl rfl (thXv (v := rwG prC zb) rfl rfl (thNil))) (by kernel_rfl)⟩) lfNil)))) (by omega) (get_lps2 (by omega) (by omega) (get_lps2 (by omega) (by omega) fi6_at)) fi6_body (lfCons (lpKnown rfl ⟨0, keyRd140, lfOkRd140_1 (l := lf86) (h := lh86) (za ++ zb) 0 rfl (by omega) (0, (pS (za ++ zb)), []) (mkIRd140 (za ++ zb) 0 0 (pS (za ++ zb)) [] ⟨by omega, (by rw [hX]; rfl), (by rw [hX]), by omega, fun _ => rfl, fun h => by omega, by omega⟩) rfl (by kernel_rfl) (th0 := [(0, .x 5)]) (sg0 := []) (fun X => thXv (v := St' (pS (za ++ zb))) rfl rfl (thNil)) (by kernel_rfl) (thx := [(2000007, .x 2000000)]) (thXv (v := rwG prC (za ++ zb)) rfl rfl (thNil)) (by kernel_rfl)⟩) (lfCons (lpKnown rfl ⟨0, keyRd460, lfOkRd460_0 (l := lf90) (h := lh90) ((prS (fkS (za ++ zb) ct)).1) ((prS (fkS (za ++ zb) ct)).2) (by omega) (by omega) (0, (fkS (za ++ zb) ct), []) (mkIRd460 ((prS (fkS (za ++ zb) ct)).1) ((prS (fkS (za ++ zb) ct)).2) 0 (fkS (za ++ zb) ct) [] ⟨by omega, rfl, rfl, by omega, fun _ => rfl, fun h => by omega, by omega⟩) rfl (by kernel_rfl) (th0 := [(0, .x 19)]) (sg0 := []) (fun X => thXv (v := St' (fkS (za ++ zb) ct)) rfl rfl (thNil)) (by kernel_rfl) (thx := []) (thNil) (by kernel_rfl)⟩) lfNil))) (by omega) (get_lps2 (by omega) (by omega) (get_lps2 (by omega) (by omega) (get_lps2 (by omega) (by omega) fi7_at))) fi7_body (lfCons (lpKnown rfl ⟨0, keySp7, lfOkSp7_0 (l := lf87) (h := lh87) (za ++ zb) (0, (0 : Int)) (mkISp7 (za ++ zb) 0 (0 : Int) ⟨by omega, by omega, by omega, prB_app (by assumption) (by assumption), by omega⟩) rfl (by kernel_rfl) (th0 := [(0, .i .i64 (.ofNat 0)), (2000000, .x 2000007), (2000001, .x 2000006)]) (sg0 := [(280, 140)]) (fun X => thCons (show Is _ (.i .i64 (.ofNat 0)) (.int .i64 ((0 : Int))) from isTo (v := .int .i64 0) (isI _ _) (by first | rfl | (congr 1; omega))) (thXv (v := rwG prC (za ++ zb)) rfl rfl (thXv (v := rwG prC (za ++ zb)) rfl rfl (thNil)))) (by kernel_rfl) (thx := [(2000008, .x 2000000)]) (thXv (v := rwG prC (za ++ zb)) rfl rfl (thNil)) (by kernel_rfl)⟩) lfNil)) rfl (get_lps2 (by omega) (by omega) (get_lps2 (by omega) (by omega) (get_lps2 (by omega) (by omega) (get_lps (by omega))))) fiB3 [.r 2000000 26 2 true, .r 2000001 26 2 true] [⟨blk_za, base_za, za.length, es_za⟩, ⟨blk_zb, base_zb, zb.length, es_zb⟩] (fun e => run6 e ) (args := [.slice (some ⟨blk_za, base_za, none⟩) za.length es_za, .slice (some ⟨blk_zb, base_zb, none⟩) zb.length es_zb, .int .u16 ct]) ⟨_, _, rfl, relSrN (by decide) rfl w_za.room, ⟨_, _, rfl, relSrN (by decide) rfl w_zb.room, ⟨_, _, rfl, rfl, rfl⟩⟩⟩ w hl rfl (by decide) (fun e => (argsCons (w_za.arg (g_za e ) rfl) (argsCons (w_zb.arg (g_zb e ) rfl) argsNil))) rfl
def hy7 : LK := [(.bytes [], .x 1),
  (.rn, .x 2000002),
  (.rl (.x 2000000) 2, .x 2),
  (.bin .gtr (.x 2) (.i .i64 (.ofNat 20)), .b false),
  (.rl (.x 2000001) 2, .x 3),
  (.bin .gtr (.x 3) (.i .i64 (.ofNat 20)), .b false),
  (.bin .gtr (.x 2) (.i .i64 (.ofNat 0)), .b true),
  (.rr (.x 2000002) (.x 2000000), .x 2000003),
  (.rf (.x 2000003) 2 32, .b true),
  (.rr (.x 2000003) (.x 2000001), .x 2000004),
  (.rf (.x 2000004) 2 32, .b true),
  (.rl (.x 2000005) 2, .x 4),
  (.byt (.x 5) (.i .i64 (.ofNat 0)), .x 6),
  (.len (.x 5), .x 7),
  (.fit (.x 5), .b true),
  (.rl (.x 2000007) 2, .x 8),
  (.rl (.x 2000006) 2, .x 9),
  (.bin .neq (.x 8) (.x 9), .b false),
  (.byt (.x 10) (.i .i64 (.ofNat 0)), .x 11),
  (.len (.x 10), .x 12),
  (.fit (.x 10), .b true),
  (.byt (.x 13) (.i .i64 (.ofNat 0)), .x 14),
  (.len (.x 13), .x 15),
  (.fit (.x 13), .b true),
  (.bin .add (.x 10) (.x 13), .x 16),
  (.bin .neq (.x 5) (.x 16), .b false),
  (.bin .eql (.x 7) (.i .i64 (.ofNat 0)), .b false),
  (.conv 3 (.x 0), .x 17),
  (.bin .rem (.x 17) (.x 7), .x 18),
  (.sub (.x 5) none (some (.x 18)), .x 19)]
def lh91 : LH := ⟨4, 20, 50, [(7, .r 2000004 26 2 false)], [(7, .r 2000005 26 2 false)]⟩
def lf91 : LF := ⟨7, 113, [(7, .sr 7), (8, .i .i64 (.ofNat 0))], [0, 1, 2], (.exit 0), [(7, .sr 7)], some lh91⟩
def lh92 : LH := ⟨4, 80, 120, [(7, .r 2000005 26 2 false), (50, .b ⟨40, .l [.nilp, .nils], 0, 0, 0, false, false⟩)], [(7, .r 2000006 26 2 false), (80, .b ⟨40, .l [.p 80 0, .sy 81], 0, 0, 0, false, false⟩), (81, .t 5 5)]⟩
def lf92 : LF := ⟨3, 30, [(3, .p 50 0), (6, .sr 7), (7, .x 4), (8, .i .i64 (.ofNat 0))], [], (.exit 0), [(3, .p 80 0)], some lh92⟩
def lh93 : LH := ⟨4, 140, 200, [], [(140, .r 2000007 26 2 false)]⟩
def lf93 : LF := ⟨2, 38, [(0, .x 5), (4, .nils)], [], (.exit 0), [(4, .sr 140)], some lh93⟩
def lh94 : LH := ⟨4, 280, 282, [(7, .r 2000006 26 2 false), (140, .r 2000007 26 2 false)], [(7, .r 2000008 26 2 false)]⟩
def lf94 : LF := ⟨4, 26, [(0, .sr 140), (1, .sr 7), (5, .i .i64 (.ofNat 0))], [], (.exit 0), [], some lh94⟩
def lh95 : LH := ⟨4, 340, 380, [(4, .r 2000000 26 2 true), (282, .b ⟨40, .l [.nilp, .nils], 0, 0, 0, false, false⟩)], [(4, .r 2000009 26 2 true), (340, .b ⟨40, .l [.p 340 0, .sy 341], 0, 0, 0, false, false⟩), (341, .t 10 5)]⟩
def lf95 : LF := ⟨3, 30, [(3, .p 282 0), (6, .sr 4), (7, .x 2), (8, .i .i64 (.ofNat 0))], [], (.exit 0), [(3, .p 340 0)], some lh95⟩
def lh96 : LH := ⟨4, 400, 440, [(5, .r 2000001 26 2 true), (380, .b ⟨40, .l [.nilp, .nils], 0, 0, 0, false, false⟩)], [(5, .r 2000010 26 2 true), (400, .b ⟨40, .l [.p 400 0, .sy 401], 0, 0, 0, false, false⟩), (401, .t 13 5)]⟩
def lf96 : LF := ⟨3, 30, [(3, .p 380 0), (6, .sr 5), (7, .x 3), (8, .i .i64 (.ofNat 0))], [], (.exit 0), [(3, .p 400 0)], some lh96⟩
def lh97 : LH := ⟨4, 460, 520, [], []⟩
def lf97 : LF := ⟨2, 38, [(0, .x 19), (4, .nils)], [], .ret, [(2, .nils), (3, .ifc 56 (.ag [.i .i64 (.ofNat 11), .x 20]))], some lh97⟩
noncomputable def tab7 : Tab := addLps (addLps (addLps (addLps ({ tabk with hyp := hy7 }) 3 fi3 [lf91]) 5 fi5 [lf92, lf95, lf96]) 6 fi6 [lf93, lf97]) 7 fi7 [lf94]
theorem run7 (e : Nat) : Go.AX.okB (call tab7 9000 3 [.sr 4, .sr 5, .x 0] ⟨addR 4 [.r 2000000 26 2 true, .r 2000001 26 2 true] (H0 e ), 4 + List.length (α := Ent) [.r 2000000 26 2 true, .r 2000001 26 2 true], 0, 0⟩) = true := by kernel_rfl
def nu7 (blk_za : Nat) (base_za : Nat) (es_za : Nat) (za : List (LB × LB)) (blk_zb : Nat) (base_zb : Nat) (es_zb : Nat) (zb : List (LB × LB)) (ct : Int) : List Value := [.int .u16 (ct),
  St' ([] : LB),
  .int .i64 ((za.length : Int)),
  .int .i64 ((zb.length : Int)),
  .int .i64 ((za.length : Int) + (zb.length : Int)),
  St' (pS (za ++ zb)),
  .int .u8 (bt (pS (za ++ zb)) 0),
  .int .i64 (((pS (za ++ zb)).length : Int)),
  .int .i64 ((za.length : Int) + (zb.length : Int)),
  .int .i64 ((za.length : Int) + (zb.length : Int)),
  St' (pS za),
  .int .u8 (bt (pS za) 0),
  .int .i64 (((pS za).length : Int)),
  St' (pS zb),
  .int .u8 (bt (pS zb) 0),
  .int .i64 (((pS zb).length : Int)),
  St' ((pS za) ++ (pS zb)),
  .int .i64 (ct),
  .int .i64 (ct % ((pS (za ++ zb)).length : Int)),
  St' (fkS (za ++ zb) ct),
  St' (pmS (((prS (fkS (za ++ zb) ct)).1.length : Int) + 1))]
def ro7 (blk_za : Nat) (base_za : Nat) (es_za : Nat) (za : List (LB × LB)) (blk_zb : Nat) (base_zb : Nat) (es_zb : Nat) (zb : List (LB × LB)) (ct : Int) : List Value := [rwG prC za,
  rwG prC zb,
  rwS ([] : List LB),
  rwG prC za,
  rwG prC (za ++ zb),
  rwG prC (za ++ zb),
  rwG prC (za ++ zb),
  rwG prC (za ++ zb),
  rwG prC (za ++ zb),
  rwG prC za,
  rwG prC zb]
theorem on7 (blk_za : Nat) (base_za : Nat) (es_za : Nat) (za : List (LB × LB)) (blk_zb : Nat) (base_zb : Nat) (es_zb : Nat) (zb : List (LB × LB)) (ct : Int) : ∀ j, (nuL (nu7 blk_za base_za es_za za blk_zb base_zb es_zb zb ct) j).oneCell' = true := nuL_one (l := nu7 blk_za base_za es_za za blk_zb base_zb es_zb zb ct) rfl
theorem path7 (blk_za : Nat) (base_za : Nat) (es_za : Nat) (za : List (LB × LB)) (blk_zb : Nat) (base_zb : Nat) (es_zb : Nat) (zb : List (LB × LB)) (ct : Int) (b0 : 1 ≤ za.length) (b1 : ∀ n, n ∈ za → prB n) (b2 : ∀ q, q ∈ za → q.1.length ≤ 140737488351232) (b3 : ∀ q, q ∈ za → q.2.length ≤ 140737488351232) (b4 : za.length ≤ 9223372036854775807) (b5 : 1 ≤ zb.length) (b6 : ∀ n, n ∈ zb → prB n) (b7 : ∀ q, q ∈ zb → q.1.length ≤ 140737488351232) (b8 : ∀ q, q ∈ zb → q.2.length ≤ 140737488351232) (b9 : zb.length ≤ 9223372036854775807) (b10 : 0 ≤ ct) (b11 : ct ≤ 65535) (h0 : ¬ (20 < (za.length : Int))) (h1 : ¬ (20 < (zb.length : Int))) (h3 : ok6 (za ++ zb)) (h6 : ¬ ((prS (fkS (za ++ zb) ct)).2 = 0)) (w : World) (hl : laidE w) (w_za : InRow w 2 (za.flatMap prC) blk_za base_za za.length es_za) (g_za : ∀ e, (H0 e ).get blk_za = none) (w_zb : InRow w 2 (zb.flatMap prC) blk_zb base_zb zb.length es_zb) (g_zb : ∀ e, (H0 e ).get blk_zb = none) : CwR 3 #[.slice (some ⟨blk_za, base_za, none⟩) za.length es_za, .slice (some ⟨blk_zb, base_zb, none⟩) zb.length es_zb, .int .u16 ct] w (.bool true) := by
  have hn0 : ([] : LB).length = 0 := rfl
  have hpl := pS_len (za ++ zb) (by assumption)
  obtain ⟨h6a, h6b⟩ := ok6_app (by assumption : ok6 (za ++ zb)); have hpa := pS_len za h6a; have hpb := pS_len zb h6b
  have hlz : (za ++ zb).length = za.length + zb.length := List.length_append
  have := bt_lo (pS (za ++ zb)) 0; have := bt_hi (pS (za ++ zb)) 0
  have hX := pr_pS (za ++ zb) (by assumption)
  have := bt_lo (pS za) 0; have := bt_hi (pS za) 0
  have := bt_lo (pS zb) 0; have := bt_hi (pS zb) 0
  have := Int.emod_nonneg ct (show (((pS (za ++ zb)).length : Int)) ≠ 0 by omega); have := Int.emod_lt_of_pos ct (show 0 < (((pS (za ++ zb)).length : Int)) by omega)
  obtain ⟨hf1, hf2, hf3, hf4⟩ := fkF (X := (za ++ zb)) (ct := ct) (by assumption) (by omega) (by omega)
  have ho : ∀ k r, (k, r) ∈ hy7 → HOk (cx (nuX (nu7 blk_za base_za es_za za blk_zb base_zb es_zb zb ct) (rX (ro7 blk_za base_za es_za za blk_zb base_zb es_zb zb ct) (fun _ => .bool true))) (nuX_one (on7 blk_za base_za es_za za blk_zb base_zb es_zb zb ct)) 1 laidE laidE_stab) k r := by
    unfold hy7
    exact hc (kBytesB (bs := ([] : LB)) .nil (denX rfl)) <|
     hc (kRn (denX rfl)) <|
     hc (kRlG prC_len (isX rfl) (denX rfl) (by first | omega | (simp <;> omega))) <|
     hc (gtcF rfl (by omega)) <|
     hc (kRlG prC_len (isX rfl) (denX rfl) (by first | omega | (simp <;> omega))) <|
     hc (gtcF rfl (by omega)) <|
     hc (gtcT rfl (by omega)) <|
     hc (kRr (f := prC) (l := []) (m := za) (isX rfl) (isX rfl) (denX rfl)) <|
     hc (kRfG prC_len (isX rfl) (by first | omega | (simp <;> omega)) (by first | omega | (simp <;> omega))) <|
     hc (kRr (f := prC) (l := za) (m := zb) (isX rfl) (isX rfl) (denX rfl)) <|
     hc (kRfG prC_len (isX rfl) (by first | omega | (simp <;> omega)) (by first | omega | (simp <;> omega))) <|
     hc (kRlG prC_len (isX rfl) (denX rfl) (by first | omega | (simp <;> omega))) <|
     hc (kByt (i := 0) (isX rfl) (isZ (m := 0) rfl) (denX rfl) rfl (by first | omega | (simp <;> omega)) rfl) <|
     hc (lnV rfl rfl (by omega)) <|
     hc (kFit (isX rfl) (by first | omega | (simp <;> omega))) <|
     hc (kRlG prC_len (isX rfl) (denX rfl) (by first | omega | (simp <;> omega))) <|
     hc (kRlG prC_len (isX rfl) (denX rfl) (by first | omega | (simp <;> omega))) <|
     hc (kNeI (isX rfl) (isX rfl) (neF (by omega))) <|
     hc (kByt (i := 0) (isX rfl) (isZ (m := 0) rfl) (denX rfl) rfl (by first | omega | (simp <;> omega)) rfl) <|
     hc (lnV rfl rfl (by omega)) <|
     hc (kFit (isX rfl) (by first | omega | (simp <;> omega))) <|
     hc (kByt (i := 0) (isX rfl) (isZ (m := 0) rfl) (denX rfl) rfl (by first | omega | (simp <;> omega)) rfl) <|
     hc (lnV rfl rfl (by omega)) <|
     hc (kFit (isX rfl) (by first | omega | (simp <;> omega))) <|
     hc (kCat (isX rfl) (isX rfl) (denX rfl) (by first | rfl | (simp; done)) (by omega)) <|
     hc (kNeS (isX rfl) (isX rfl) (bnF (decide_eq_true (pS_app za zb)))) <|
     hc (eqcF rfl (by omega)) <|
     hc (kConvF (isX rfl) tu3 (denX rfl) (fI64 (by omega) (by omega))) <|
     hc (kRem (isX rfl) (isX rfl) (denX rfl) (by omega) (by omega) rfl) <|
     hc (kMid (P := 0) (Q := ct % ((pS (za ++ zb)).length : Int)) (isX rfl) (.inl ⟨rfl, rfl⟩) (.inr ⟨_, _, rfl, (isX rfl)⟩) (by omega) (by omega) (by omega) (denX (congrArg (fun l => St' l) (fk_mid (by omega))))) <|
     hnil
  exact runPR (tb := tab7) (AllOk.lp1 (AllOk.lp1 (AllOk.lp1 (AllOk.lp1 ((tabkOk (nuX (nu7 blk_za base_za es_za za blk_zb base_zb es_zb zb ct) (rX (ro7 blk_za base_za es_za za blk_zb base_zb es_zb zb ct) (fun _ => .bool true))) (nuX_one (on7 blk_za base_za es_za za blk_zb base_zb es_zb zb ct))).hyps ho) (by omega) fi3_at fi3_body (lfCons (lpKnown rfl ⟨0, keyOk7, lfOkOk7_0 (l := lf91) (h := lh91) (za ++ zb) (by assumption) (0, (0 : Int)) (mkIOk7 (za ++ zb) 0 (0 : Int) ⟨by omega, by omega, by omega, prB_app (by assumption) (by assumption), (fun q hq => nomatch hq), by omega⟩) rfl (by kernel_rfl) (th0 := [(0, .i .i64 (.ofNat 0)), (2000000, .x 2000004)]) (sg0 := []) (fun X => thCons (show Is _ (.i .i64 (.ofNat 0)) (.int .i64 ((0 : Int))) from isTo (v := .int .i64 0) (isI _ _) (by first | rfl | (congr 1; omega))) (thXv (v := rwG prC (za ++ zb)) rfl rfl (thNil))) (by kernel_rfl) (thx := [(2000005, .x 2000000)]) (thXv (v := rwG prC (za ++ zb)) rfl rfl (thNil)) (by kernel_rfl)⟩) lfNil)) (by omega) (get_lps2 (by omega) (by omega) fi5_at) fi5_body (lfCons (lpKnown rfl ⟨0, keyBy7x80, lfOkBy7x80_0 (l := lf92) (h := lh92) (za ++ zb) (0, (0 : Int), ([] : LB)) (mkIBy7x80 (za ++ zb) 0 (0 : Int) ([] : LB) ⟨by omega, by omega, by omega, prB_app (by assumption) (by assumption), by assumption, rfl, by simp, fun _ => rfl, by omega, by omega⟩) rfl (by kernel_rfl) (th0 := [(0, .x 4), (1, .i .i64 (.ofNat 0)), (2000000, .x 2000005)]) (sg0 := [(80, 50)]) (fun X => thXe (v := .int .i64 ((za.length : Int) + (zb.length : Int))) (u := .int .i64 (((za ++ zb).length : Int))) rfl rfl (by first | rfl | (congr 1; omega)) (thCons (show Is _ (.i .i64 (.ofNat 0)) (.int .i64 ((0 : Int))) from isTo (v := .int .i64 0) (isI _ _) (by first | rfl | (congr 1; omega))) (thXv (v := rwG prC (za ++ zb)) rfl rfl (thNil)))) (by kernel_rfl) (thx := [(5, .x 0), (2000006, .x 2000000)]) (thXv (v := St' (pS (za ++ zb))) rfl rfl (thXv (v := rwG prC (za ++ zb)) rfl rfl (thNil))) (by kernel_rfl)⟩) (lfCons (lpKnown rfl ⟨0, keyBy4x340, lfOkBy4x340_0 (l := lf95) (h := lh95) za (0, (0 : Int), ([] : LB)) (mkIBy4x340 za 0 (0 : Int) ([] : LB) ⟨by omega, by omega, by omega, by assumption, by assumption, rfl, by simp, fun _ => rfl, by omega, by omega⟩) rfl (by kernel_rfl) (th0 := [(0, .x 2), (1, .i .i64 (.ofNat 0)), (2000000, .x 2000000)]) (sg0 := [(340, 282)]) (fun X => thXv (v := .int .i64 ((za.length : Int))) rfl rfl (thCons (show Is _ (.i .i64 (.ofNat 0)) (.int .i64 ((0 : Int))) from isTo (v := .int .i64 0) (isI _ _) (by first | rfl | (congr 1; omega))) (thXv (v := rwG prC za) rfl rfl (thNil)))) (by kernel_rfl) (thx := [(10, .x 0), (2000009, .x 2000000)]) (thXv (v := St' (pS za)) rfl rfl (thXv (v := rwG prC za) rfl rfl (thNil))) (by kernel_rfl)⟩) (lfCons (lpKnown rfl ⟨0, keyBy5x400, lfOkBy5x400_0 (l := lf96) (h := lh96) zb (0, (0 : Int), ([] : LB)) (mkIBy5x400 zb 0 (0 : Int) ([] : LB) ⟨by omega, by omega, by omega, by assumption, by assumption, rfl, by simp, fun _ => rfl, by omega, by omega⟩) rfl (by kernel_rfl) (th0 := [(0, .x 3), (1, .i .i64 (.ofNat 0)), (2000000, .x 2000001)]) (sg0 := [(400, 380)]) (fun X => thXv (v := .int .i64 ((zb.length : Int))) rfl rfl (thCons (show Is _ (.i .i64 (.ofNat 0)) (.int .i64 ((0 : Int))) from isTo (v := .int .i64 0) (isI _ _) (by first | rfl | (congr 1; omega))) (thXv (v := rwG prC zb) rfl rfl (thNil)))) (by kernel_rfl) (thx := [(13, .x 0), (2000010, .x 2000000)]) (thXv (v := St' (pS zb)) rfl rfl (thXv (v := rwG prC zb) rfl rfl (thNil))) (by kernel_rfl)⟩) lfNil)))) (by omega) (get_lps2 (by omega) (by omega) (get_lps2 (by omega) (by omega) fi6_at)) fi6_body (lfCons (lpKnown rfl ⟨0, keyRd140, lfOkRd140_1 (l := lf93) (h := lh93) (za ++ zb) 0 rfl (by omega) (0, (pS (za ++ zb)), []) (mkIRd140 (za ++ zb) 0 0 (pS (za ++ zb)) [] ⟨by omega, (by rw [hX]; rfl), (by rw [hX]), by omega, fun _ => rfl, fun h => by omega, by omega⟩) rfl (by kernel_rfl) (th0 := [(0, .x 5)]) (sg0 := []) (fun X => thXv (v := St' (pS (za ++ zb))) rfl rfl (thNil)) (by kernel_rfl) (thx := [(2000007, .x 2000000)]) (thXv (v := rwG prC (za ++ zb)) rfl rfl (thNil)) (by kernel_rfl)⟩) (lfCons (lpKnown rfl ⟨0, keyRd460, lfOkRd460_2 (l := lf97) (h := lh97) ((prS (fkS (za ++ zb) ct)).1) ((prS (fkS (za ++ zb) ct)).2) (by omega) (0, (fkS (za ++ zb) ct), []) (mkIRd460 ((prS (fkS (za ++ zb) ct)).1) ((prS (fkS (za ++ zb) ct)).2) 0 (fkS (za ++ zb) ct) [] ⟨by omega, rfl, rfl, by omega, fun _ => rfl, fun h => by omega, by omega⟩) rfl (by kernel_rfl) (th0 := [(0, .x 19)]) (sg0 := []) (fun X => thXv (v := St' (fkS (za ++ zb) ct)) rfl rfl (thNil)) (by kernel_rfl) (thx := [(20, .x 0)]) (thXe (v := St' (pmS ((((prS (fkS (za ++ zb) ct)).1).length : Int) + 1))) (u := St' (pmS (((prS (fkS (za ++ zb) ct)).1.length : Int) + 1))) rfl rfl (by first | rfl | (congr 1; omega)) (thNil)) (by kernel_rfl)⟩) lfNil))) (by omega) (get_lps2 (by omega) (by omega) (get_lps2 (by omega) (by omega) (get_lps2 (by omega) (by omega) fi7_at))) fi7_body (lfCons (lpKnown rfl ⟨0, keySp7, lfOkSp7_0 (l := lf94) (h := lh94) (za ++ zb) (0, (0 : Int)) (mkISp7 (za ++ zb) 0 (0 : Int) ⟨by omega, by omega, by omega, prB_app (by assumption) (by assumption), by omega⟩) rfl (by kernel_rfl) (th0 := [(0, .i .i64 (.ofNat 0)), (2000000, .x 2000007), (2000001, .x 2000006)]) (sg0 := [(280, 140)]) (fun X => thCons (show Is _ (.i .i64 (.ofNat 0)) (.int .i64 ((0 : Int))) from isTo (v := .int .i64 0) (isI _ _) (by first | rfl | (congr 1; omega))) (thXv (v := rwG prC (za ++ zb)) rfl rfl (thXv (v := rwG prC (za ++ zb)) rfl rfl (thNil)))) (by kernel_rfl) (thx := [(2000008, .x 2000000)]) (thXv (v := rwG prC (za ++ zb)) rfl rfl (thNil)) (by kernel_rfl)⟩) lfNil)) rfl (get_lps2 (by omega) (by omega) (get_lps2 (by omega) (by omega) (get_lps2 (by omega) (by omega) (get_lps (by omega))))) fiB3 [.r 2000000 26 2 true, .r 2000001 26 2 true] [⟨blk_za, base_za, za.length, es_za⟩, ⟨blk_zb, base_zb, zb.length, es_zb⟩] (fun e => run7 e ) (args := [.slice (some ⟨blk_za, base_za, none⟩) za.length es_za, .slice (some ⟨blk_zb, base_zb, none⟩) zb.length es_zb, .int .u16 ct]) ⟨_, _, rfl, relSrN (by decide) rfl w_za.room, ⟨_, _, rfl, relSrN (by decide) rfl w_zb.room, ⟨_, _, rfl, rfl, rfl⟩⟩⟩ w hl rfl (by decide) (fun e => (argsCons (w_za.arg (g_za e ) rfl) (argsCons (w_zb.arg (g_zb e ) rfl) argsNil))) rfl
def hy8 : LK := [(.bytes [], .x 1),
  (.rn, .x 2000002),
  (.rl (.x 2000000) 2, .x 2),
  (.bin .gtr (.x 2) (.i .i64 (.ofNat 20)), .b false),
  (.rl (.x 2000001) 2, .x 3),
  (.bin .gtr (.x 3) (.i .i64 (.ofNat 20)), .b false),
  (.bin .gtr (.x 2) (.i .i64 (.ofNat 0)), .b true),
  (.rr (.x 2000002) (.x 2000000), .x 2000003),
  (.rf (.x 2000003) 2 32, .b true),
  (.rr (.x 2000003) (.x 2000001), .x 2000004),
  (.rf (.x 2000004) 2 32, .b true),
  (.rl (.x 2000005) 2, .x 4),
  (.byt (.x 5) (.i .i64 (.ofNat 0)), .x 6),
  (.len (.x 5), .x 7),
  (.fit (.x 5), .b true),
  (.rl (.x 2000007) 2, .x 8),
  (.rl (.x 2000006) 2, .x 9),
  (.bin .neq (.x 8) (.x 9), .b false),
  (.byt (.x 10) (.i .i64 (.ofNat 0)), .x 11),
  (.len (.x 10), .x 12),
  (.fit (.x 10), .b true),
  (.byt (.x 13) (.i .i64 (.ofNat 0)), .x 14),
  (.len (.x 13), .x 15),
  (.fit (.x 13), .b true),
  (.bin .add (.x 10) (.x 13), .x 16),
  (.bin .neq (.x 5) (.x 16), .b false),
  (.bin .eql (.x 7) (.i .i64 (.ofNat 0)), .b false),
  (.conv 3 (.x 0), .x 17),
  (.bin .rem (.x 17) (.x 7), .x 18),
  (.sub (.x 5) none (some (.x 18)), .x 19),
  (.rl (.x 2000011) 2, .x 20),
  (.rl (.x 2000008) 2, .x 21),
  (.bin .lss (.x 20) (.x 21), .b true),
  (.rt (.x 2000008) (.x 20) 2, .x 2000012),
  (.rl (.x 2000012) 2, .x 22),
  (.bin .neq (.x 20) (.x 22), .b false)]
def lh98 : LH := ⟨4, 20, 50, [(7, .r 2000004 26 2 false)], [(7, .r 2000005 26 2 false)]⟩
def lf98 : LF := ⟨7, 113, [(7, .sr 7), (8, .i .i64 (.ofNat 0))], [0, 1, 2], (.exit 0), [(7, .sr 7)], some lh98⟩
def lh99 : LH := ⟨4, 80, 120, [(7, .r 2000005 26 2 false), (50, .b ⟨40, .l [.nilp, .nils], 0, 0, 0, false, false⟩)], [(7, .r 2000006 26 2 false), (80, .b ⟨40, .l [.p 80 0, .sy 81], 0, 0, 0, false, false⟩), (81, .t 5 5)]⟩
def lf99 : LF := ⟨3, 30, [(3, .p 50 0), (6, .sr 7), (7, .x 4), (8, .i .i64 (.ofNat 0))], [], (.exit 0), [(3, .p 80 0)], some lh99⟩
def lh100 : LH := ⟨4, 140, 200, [], [(140, .r 2000007 26 2 false)]⟩
def lf100 : LF := ⟨2, 38, [(0, .x 5), (4, .nils)], [], (.exit 0), [(4, .sr 140)], some lh100⟩
def lh101 : LH := ⟨4, 280, 282, [(7, .r 2000006 26 2 false), (140, .r 2000007 26 2 false)], [(7, .r 2000008 26 2 false)]⟩
def lf101 : LF := ⟨4, 26, [(0, .sr 140), (1, .sr 7), (5, .i .i64 (.ofNat 0))], [], (.exit 0), [], some lh101⟩
def lh102 : LH := ⟨4, 340, 380, [(4, .r 2000000 26 2 true), (282, .b ⟨40, .l [.nilp, .nils], 0, 0, 0, false, false⟩)], [(4, .r 2000009 26 2 true), (340, .b ⟨40, .l [.p 340 0, .sy 341], 0, 0, 0, false, false⟩), (341, .t 10 5)]⟩
def lf102 : LF := ⟨3, 30, [(3, .p 282 0), (6, .sr 4), (7, .x 2), (8, .i .i64 (.ofNat 0))], [], (.exit 0), [(3, .p 340 0)], some lh102⟩
def lh103 : LH := ⟨4, 400, 440, [(5, .r 2000001 26 2 true), (380, .b ⟨40, .l [.nilp, .nils], 0, 0, 0, false, false⟩)], [(5, .r 2000010 26 2 true), (400, .b ⟨40, .l [.p 400 0, .sy 401], 0, 0, 0, false, false⟩), (401, .t 13 5)]⟩
def lf103 : LF := ⟨3, 30, [(3, .p 380 0), (6, .sr 5), (7, .x 3), (8, .i .i64 (.ofNat 0))], [], (.exit 0), [(3, .p 400 0)], some lh103⟩
def lh104 : LH := ⟨4, 460, 520, [], [(460, .r 2000011 26 2 false)]⟩
def lf104 : LF := ⟨2, 38, [(0, .x 19), (4, .nils)], [], (.exit 0), [(4, .sr 460)], some lh104⟩
def lh105 : LH := ⟨4, 600, 602, [(460, .r 2000011 26 2 false), (520, .r 2000012 26 2 false)], []⟩
def lf105 : LF := ⟨4, 26, [(0, .sr 460), (1, .sr 520), (5, .i .i64 (.ofNat 0))], [], (.exit 0), [], some lh105⟩
noncomputable def tab8 : Tab := addLps (addLps (addLps (addLps ({ tabk with hyp := hy8 }) 3 fi3 [lf98]) 5 fi5 [lf99, lf102, lf103]) 6 fi6 [lf100, lf104]) 7 fi7 [lf101, lf105]
theorem run8 (e : Nat) : Go.AX.okB (call tab8 9000 3 [.sr 4, .sr 5, .x 0] ⟨addR 4 [.r 2000000 26 2 true, .r 2000001 26 2 true] (H0 e ), 4 + List.length (α := Ent) [.r 2000000 26 2 true, .r 2000001 26 2 true], 0, 0⟩) = true := by kernel_rfl
def nu8 (blk_za : Nat) (base_za : Nat) (es_za : Nat) (za : List (LB × LB)) (blk_zb : Nat) (base_zb : Nat) (es_zb : Nat) (zb : List (LB × LB)) (ct : Int) : List Value := [.int .u16 (ct),
  St' ([] : LB),
  .int .i64 ((za.length : Int)),
  .int .i64 ((zb.length : Int)),
  .int .i64 ((za.length : Int) + (zb.length : Int)),
  St' (pS (za ++ zb)),
  .int .u8 (bt (pS (za ++ zb)) 0),
  .int .i64 (((pS (za ++ zb)).length : Int)),
  .int .i64 ((za.length : Int) + (zb.length : Int)),
  .int .i64 ((za.length : Int) + (zb.length : Int)),
  St' (pS za),
  .int .u8 (bt (pS za) 0),
  .int .i64 (((pS za).length : Int)),
  St' (pS zb),
  .int .u8 (bt (pS zb) 0),
  .int .i64 (((pS zb).length : Int)),
  St' ((pS za) ++ (pS zb)),
  .int .i64 (ct),
  .int .i64 (ct % ((pS (za ++ zb)).length : Int)),
  St' (fkS (za ++ zb) ct),
  .int .i64 (((prS (fkS (za ++ zb) ct)).1.length : Int)),
  .int .i64 ((za.length : Int) + (zb.length : Int)),
  .int .i64 (((prS (fkS (za ++ zb) ct)).1.length : Int))]
def ro8 (blk_za : Nat) (base_za : Nat) (es_za : Nat) (za : List (LB × LB)) (blk_zb : Nat) (base_zb : Nat) (es_zb : Nat) (zb : List (LB × LB)) (ct : Int) : List Value := [rwG prC za,
  rwG prC zb,
  rwS ([] : List LB),
  rwG prC za,
  rwG prC (za ++ zb),
  rwG prC (za ++ zb),
  rwG prC (za ++ zb),
  rwG prC (za ++ zb),
  rwG prC (za ++ zb),
  rwG prC za,
  rwG prC zb,
  rwG prC ((prS (fkS (za ++ zb) ct)).1),
  rwG prC ((prS (fkS (za ++ zb) ct)).1)]
theorem on8 (blk_za : Nat) (base_za : Nat) (es_za : Nat) (za : List (LB × LB)) (blk_zb : Nat) (base_zb : Nat) (es_zb : Nat) (zb : List (LB × LB)) (ct : Int) : ∀ j, (nuL (nu8 blk_za base_za es_za za blk_zb base_zb es_zb zb ct) j).oneCell' = true := nuL_one (l := nu8 blk_za base_za es_za za blk_zb base_zb es_zb zb ct) rfl
theorem path8 (blk_za : Nat) (base_za : Nat) (es_za : Nat) (za : List (LB × LB)) (blk_zb : Nat) (base_zb : Nat) (es_zb : Nat) (zb : List (LB × LB)) (ct : Int) (b0 : 1 ≤ za.length) (b1 : ∀ n, n ∈ za → prB n) (b2 : ∀ q, q ∈ za → q.1.length ≤ 140737488351232) (b3 : ∀ q, q ∈ za → q.2.length ≤ 140737488351232) (b4 : za.length ≤ 9223372036854775807) (b5 : 1 ≤ zb.length) (b6 : ∀ n, n ∈ zb → prB n) (b7 : ∀ q, q ∈ zb → q.1.length ≤ 140737488351232) (b8 : ∀ q, q ∈ zb → q.2.length ≤ 140737488351232) (b9 : zb.length ≤ 9223372036854775807) (b10 : 0 ≤ ct) (b11 : ct ≤ 65535) (h0 : ¬ (20 < (za.length : Int))) (h1 : ¬ (20 < (zb.length : Int))) (h3 : ok6 (za ++ zb)) (h6 : (prS (fkS (za ++ zb) ct)).2 = 0) (h7 : ¬ ((prS (fkS (za ++ zb) ct)).1.length = 0)) (w : World) (hl : laidE w) (w_za : InRow w 2 (za.flatMap prC) blk_za base_za za.length es_za) (g_za : ∀ e, (H0 e ).get blk_za = none) (w_zb : InRow w 2 (zb.flatMap prC) blk_zb base_zb zb.length es_zb) (g_zb : ∀ e, (H0 e ).get blk_zb = none) : CwR 3 #[.slice (some ⟨blk_za, base_za, none⟩) za.length es_za, .slice (some ⟨blk_zb, base_zb, none⟩) zb.length es_zb, .int .u16 ct] w (.bool true) := by
  have hn0 : ([] : LB).length = 0 := rfl
  have hpl := pS_len (za ++ zb) (by assumption)
  obtain ⟨h6a, h6b⟩ := ok6_app (by assumption : ok6 (za ++ zb)); have hpa := pS_len za h6a; have hpb := pS_len zb h6b
  have hlz : (za ++ zb).length = za.length + zb.length := List.length_append
  have := bt_lo (pS (za ++ zb)) 0; have := bt_hi (pS (za ++ zb)) 0
  have hX := pr_pS (za ++ zb) (by assumption)
  have := bt_lo (pS za) 0; have := bt_hi (pS za) 0
  have := bt_lo (pS zb) 0; have := bt_hi (pS zb) 0
  have := Int.emod_nonneg ct (show (((pS (za ++ zb)).length : Int)) ≠ 0 by omega); have := Int.emod_lt_of_pos ct (show 0 < (((pS (za ++ zb)).length : Int)) by omega)
  obtain ⟨hf1, hf2, hf3, hf4⟩ := fkF (X := (za ++ zb)) (ct := ct) (by assumption) (by omega) (by omega)
  have hfk := (hf4.resolve_left (by omega)).2.1; have hfl := (hf4.resolve_left (by omega)).2.2
  have ho : ∀ k r, (k, r) ∈ hy8 → HOk (cx (nuX (nu8 blk_za base_za es_za za blk_zb base_zb es_zb zb ct) (rX (ro8 blk_za base_za es_za za blk_zb base_zb es_zb zb ct) (fun _ => .bool true))) (nuX_one (on8 blk_za base_za es_za za blk_zb base_zb es_zb zb ct)) 1 laidE laidE_stab) k r := by
    unfold hy8
    exact hc (kBytesB (bs := ([] : LB)) .nil (denX rfl)) <|
     hc (kRn (denX rfl)) <|
     hc (kRlG prC_len (isX rfl) (denX rfl) (by first | omega | (simp <;> omega))) <|
     hc (gtcF rfl (by omega)) <|
     hc (kRlG prC_len (isX rfl) (denX rfl) (by first | omega | (simp <;> omega))) <|
     hc (gtcF rfl (by omega)) <|
     hc (gtcT rfl (by omega)) <|
     hc (kRr (f := prC) (l := []) (m := za) (isX rfl) (isX rfl) (denX rfl)) <|
     hc (kRfG prC_len (isX rfl) (by first | omega | (simp <;> omega)) (by first | omega | (simp <;> omega))) <|
     hc (kRr (f := prC) (l := za) (m := zb) (isX rfl) (isX rfl) (denX rfl)) <|
     hc (kRfG prC_len (isX rfl) (by first | omega | (simp <;> omega)) (by first | omega | (simp <;> omega))) <|
     hc (kRlG prC_len (isX rfl) (denX rfl) (by first | omega | (simp <;> omega))) <|
     hc (kByt (i := 0) (isX rfl) (isZ (m := 0) rfl) (denX rfl) rfl (by first | omega | (simp <;> omega)) rfl) <|
     hc (lnV rfl rfl (by omega)) <|
     hc (kFit (isX rfl) (by first | omega | (simp <;> omega))) <|
     hc (kRlG prC_len (isX rfl) (denX rfl) (by first | omega | (simp <;> omega))) <|
     hc (kRlG prC_len (isX rfl) (denX rfl) (by first | omega | (simp <;> omega))) <|
     hc (kNeI (isX rfl) (isX rfl) (neF (by omega))) <|
     hc (kByt (i := 0) (isX rfl) (isZ (m := 0) rfl) (denX rfl) rfl (by first | omega | (simp <;> omega)) rfl) <|
     hc (lnV rfl rfl (by omega)) <|
     hc (kFit (isX rfl) (by first | omega | (simp <;> omega))) <|
     hc (kByt (i := 0) (isX rfl) (isZ (m := 0) rfl) (denX rfl) rfl (by first | omega | (simp <;> omega)) rfl) <|
     hc (lnV rfl rfl (by omega)) <|
     hc (kFit (isX rfl) (by first | omega | (simp <;> omega))) <|
     hc (kCat (isX rfl) (isX rfl) (denX rfl) (by first | rfl | (simp; done)) (by omega)) <|
     hc (kNeS (isX rfl) (isX rfl) (bnF (decide_eq_true (pS_app za zb)))) <|
     hc (eqcF rfl (by omega)) <|
     hc (kConvF (isX rfl) tu3 (denX rfl) (fI64 (by omega) (by omega))) <|
     hc (kRem (isX rfl) (isX rfl) (denX rfl) (by omega) (by omega) rfl) <|
     hc (kMid (P := 0) (Q := ct % ((pS (za ++ zb)).length : Int)) (isX rfl) (.inl ⟨rfl, rfl⟩) (.inr ⟨_, _, rfl, (isX rfl)⟩) (by omega) (by omega) (by omega) (denX (congrArg (fun l => St' l) (fk_mid (by omega))))) <|
     hc (kRlG prC_len (isX rfl) (denX rfl) (by first | omega | (simp <;> omega))) <|
     hc (kRlG prC_len (isX rfl) (denX rfl) (by first | omega | (simp <;> omega))) <|
     hc (ltT rfl rfl (by omega)) <|
     hc (kRt (f := prC) (j := (Int.toNat ((prS (fkS (za ++ zb) ct)).1.length : Int))) prC_len (isX rfl) (isX rfl) (denX (congrArg (rwG prC) (hfk.trans (by rw [Int.toNat_natCast])))) (by omega) (by omega)) <|
     hc (kRlG prC_len (isX rfl) (denX rfl) (by first | omega | (simp <;> omega))) <|
     hc (kNeI (isX rfl) (isX rfl) (neF (by omega))) <|
     hnil
  exact runPR (tb := tab8) (AllOk.lp1 (AllOk.lp1 (AllOk.lp1 (AllOk.lp1 ((tabkOk (nuX (nu8 blk_za base_za es_za za blk_zb base_zb es_zb zb ct) (rX (ro8 blk_za base_za es_za za blk_zb base_zb es_zb zb ct) (fun _ => .bool true))) (nuX_one (on8 blk_za base_za es_za za blk_zb base_zb es_zb zb ct))).hyps ho) (by omega) fi3_at fi3_body (lfCons (lpKnown rfl ⟨0, keyOk7, lfOkOk7_0 (l := lf98) (h := lh98) (za ++ zb) (by assumption) (0, (0 : Int)) (mkIOk7 (za ++ zb) 0 (0 : Int) ⟨by omega, by omega, by omega, prB_app (by assumption) (by assumption), (fun q hq => nomatch hq), by omega⟩) rfl (by kernel_rfl) (th0 := [(0, .i .i64 (.ofNat 0)), (2000000, .x 2000004)]) (sg0 := []) (fun X => thCons (show Is _ (.i .i64 (.ofNat 0)) (.int .i64 ((0 : Int))) from isTo (v := .int .i64 0) (isI _ _) (by first | rfl | (congr 1; omega))) (thXv (v := rwG prC (za ++ zb)) rfl rfl (thNil))) (by kernel_rfl) (thx := [(2000005, .x 2000000)]) (thXv (v := rwG prC (za ++ zb)) rfl rfl (thNil)) (by kernel_rfl)⟩) lfNil)) (by omega) (get_lps2 (by omega) (by omega) fi5_at) fi5_body (lfCons (lpKnown rfl ⟨0, keyBy7x80, lfOkBy7x80_0 (l := lf99) (h := lh99) (za ++ zb) (0, (0 : Int), ([] : LB)) (mkIBy7x80 (za ++ zb) 0 (0 : Int) ([] : LB) ⟨by omega, by omega, by omega, prB_app (by assumption) (by assumption), by assumption, rfl, by simp, fun _ => rfl, by omega, by omega⟩) rfl (by kernel_rfl) (th0 := [(0, .x 4), (1, .i .i64 (.ofNat 0)), (2000000, .x 2000005)]) (sg0 := [(80, 50)]) (fun X => thXe (v := .int .i64 ((za.length : Int) + (zb.length : Int))) (u := .int .i64 (((za ++ zb).length : Int))) rfl rfl (by first | rfl | (congr 1; omega)) (thCons (show Is _ (.i .i64 (.ofNat 0)) (.int .i64 ((0 : Int))) from isTo (v := .int .i64 0) (isI _ _) (by first | rfl | (congr 1; omega))) (thXv (v := rwG prC (za ++ zb)) rfl rfl (thNil)))) (by kernel_rfl) (thx := [(5, .x 0), (2000006, .x 2000000)]) (thXv (v := St' (pS (za ++ zb))) rfl rfl (thXv (v := rwG prC (za ++ zb)) rfl rfl (thNil))) (by kernel_rfl)⟩) (lfCons (lpKnown rfl ⟨0, keyBy4x340, lfOkBy4x340_0 (l := lf102) (h := lh102) za (0, (0 : Int), ([] : LB)) (mkIBy4x340 za 0 (0 : Int) ([] : LB) ⟨by omega, by omega, by omega, by assumption, by assumption, rfl, by simp, fun _ => rfl, by omega, by omega⟩) rfl (by kernel_rfl) (th0 := [(0, .x 2), (1, .i .i64 (.ofNat 0)), (2000000, .x 2000000)]) (sg0 := [(340, 282)]) (fun X => thXv (v := .int .i64 ((za.length : Int))) rfl rfl (thCons (show Is _ (.i .i64 (.ofNat 0)) (.int .i64 ((0 : Int))) from isTo (v := .int .i64 0) (isI _ _) (by first | rfl | (congr 1; omega))) (thXv (v := rwG prC za) rfl rfl (thNil)))) (by kernel_rfl) (thx := [(10, .x 0), (2000009, .x 2000000)]) (thXv (v := St' (pS za)) rfl rfl (thXv (v := rwG prC za) rfl rfl (thNil))) (by kernel_rfl)⟩) (lfCons (lpKnown rfl ⟨0, keyBy5x400, lfOkBy5x400_0 (l := lf103) (h := lh103) zb (0, (0 : Int), ([] : LB)) (mkIBy5x400 zb 0 (0 : Int) ([] : LB) ⟨by omega, by omega, by omega, by assumption, by assumption, rfl, by simp, fun _ => rfl, by omega, by omega⟩) rfl (by kernel_rfl) (th0 := [(0, .x 3), (1, .i .i64 (.ofNat 0)), (2000000, .x 2000001)]) (sg0 := [(400, 380)]) (fun X => thXv (v := .int .i64 ((zb.length : Int))) rfl rfl (thCons (show Is _ (.i .i64 (.ofNat 0)) (.int .i64 ((0 : Int))) from isTo (v := .int .i64 0) (isI _ _) (by first | rfl | (congr 1; omega))) (thXv (v := rwG prC zb) rfl rfl (thNil)))) (by kernel_rfl) (thx := [(13, .x 0), (2000010, .x 2000000)]) (thXv (v := St' (pS zb)) rfl rfl (thXv (v := rwG prC zb) rfl rfl (thNil))) (by kernel_rfl)⟩) lfNil)))) (by omega) (get_lps2 (by omega) (by omega) (get_lps2 (by omega) (by omega) fi6_at)) fi6_body (lfCons (lpKnown rfl ⟨0, keyRd140, lfOkRd140_1 (l := lf100) (h := lh100) (za ++ zb) 0 rfl (by omega) (0, (pS (za ++ zb)), []) (mkIRd140 (za ++ zb) 0 0 (pS (za ++ zb)) [] ⟨by omega, (by rw [hX]; rfl), (by rw [hX]), by omega, fun _ => rfl, fun h => by omega, by omega⟩) rfl (by kernel_rfl) (th0 := [(0, .x 5)]) (sg0 := []) (fun X => thXv (v := St' (pS (za ++ zb))) rfl rfl (thNil)) (by kernel_rfl) (thx := [(2000007, .x 2000000)]) (thXv (v := rwG prC (za ++ zb)) rfl rfl (thNil)) (by kernel_rfl)⟩) (lfCons (lpKnown rfl ⟨0, keyRd460, lfOkRd460_1 (l := lf104) (h := lh104) ((prS (fkS (za ++ zb) ct)).1) ((prS (fkS (za ++ zb) ct)).2) (by omega) (by omega) (0, (fkS (za ++ zb) ct), []) (mkIRd460 ((prS (fkS (za ++ zb) ct)).1) ((prS (fkS (za ++ zb) ct)).2) 0 (fkS (za ++ zb) ct) [] ⟨by omega, rfl, rfl, by omega, fun _ => rfl, fun h => by omega, by omega⟩) rfl (by kernel_rfl) (th0 := [(0, .x 19)]) (sg0 := []) (fun X => thXv (v := St' (fkS (za ++ zb) ct)) rfl rfl (thNil)) (by kernel_rfl) (thx := [(2000011, .x 2000000)]) (thXv (v := rwG prC ((prS (fkS (za ++ zb) ct)).1)) rfl rfl (thNil)) (by kernel_rfl)⟩) lfNil))) (by omega) (get_lps2 (by omega) (by omega) (get_lps2 (by omega) (by omega) (get_lps2 (by omega) (by omega) fi7_at))) fi7_body (lfCons (lpKnown rfl ⟨0, keySp7, lfOkSp7_0 (l := lf101) (h := lh101) (za ++ zb) (0, (0 : Int)) (mkISp7 (za ++ zb) 0 (0 : Int) ⟨by omega, by omega, by omega, prB_app (by assumption) (by assumption), by omega⟩) rfl (by kernel_rfl) (th0 := [(0, .i .i64 (.ofNat 0)), (2000000, .x 2000007), (2000001, .x 2000006)]) (sg0 := [(280, 140)]) (fun X => thCons (show Is _ (.i .i64 (.ofNat 0)) (.int .i64 ((0 : Int))) from isTo (v := .int .i64 0) (isI _ _) (by first | rfl | (congr 1; omega))) (thXv (v := rwG prC (za ++ zb)) rfl rfl (thXv (v := rwG prC (za ++ zb)) rfl rfl (thNil)))) (by kernel_rfl) (thx := [(2000008, .x 2000000)]) (thXv (v := rwG prC (za ++ zb)) rfl rfl (thNil)) (by kernel_rfl)⟩) (lfCons (lpKnown rfl ⟨0, keySq, lfOkSq_0 (l := lf105) (h := lh105) ((prS (fkS (za ++ zb) ct)).1) (0, (0 : Int)) (mkISq ((prS (fkS (za ++ zb) ct)).1) 0 (0 : Int) ⟨by omega, by omega, by omega, pr_prB (by omega), by omega⟩) rfl (by kernel_rfl) (th0 := [(0, .i .i64 (.ofNat 0)), (2000000, .x 2000011), (2000001, .x 2000012)]) (sg0 := [(600, 460), (601, 520)]) (fun X => thCons (show Is _ (.i .i64 (.ofNat 0)) (.int .i64 ((0 : Int))) from isTo (v := .int .i64 0) (isI _ _) (by first | rfl | (congr 1; omega))) (thXv (v := rwG prC ((prS (fkS (za ++ zb) ct)).1)) rfl rfl (thXv (v := rwG prC ((prS (fkS (za ++ zb) ct)).1)) rfl rfl (thNil)))) (by kernel_rfl) (thx := []) (thNil) (by kernel_rfl)⟩) lfNil))) rfl (get_lps2 (by omega) (by omega) (get_lps2 (by omega) (by omega) (get_lps2 (by omega) (by omega) (get_lps (by omega))))) fiB3 [.r 2000000 26 2 true, .r 2000001 26 2 true] [⟨blk_za, base_za, za.length, es_za⟩, ⟨blk_zb, base_zb, zb.length, es_zb⟩] (fun e => run8 e ) (args := [.slice (some ⟨blk_za, base_za, none⟩) za.length es_za, .slice (some ⟨blk_zb, base_zb, none⟩) zb.length es_zb, .int .u16 ct]) ⟨_, _, rfl, relSrN (by decide) rfl w_za.room, ⟨_, _, rfl, relSrN (by decide) rfl w_zb.room, ⟨_, _, rfl, rfl, rfl⟩⟩⟩ w hl rfl (by decide) (fun e => (argsCons (w_za.arg (g_za e ) rfl) (argsCons (w_zb.arg (g_zb e ) rfl) argsNil))) rfl
end Go.Proofs.YtnaffjionjndgaaDoor.pairBack
