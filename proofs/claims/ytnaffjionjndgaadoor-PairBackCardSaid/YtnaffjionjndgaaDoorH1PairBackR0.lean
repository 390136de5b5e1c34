/- A part of the proof: an interpreter of the model's own code on partly known states, and that what it answers is what the program answers. No condition of its own. -/
import Derived.Test.YtnaffjionjndgaaDoorH1PairBackO5
set_option maxRecDepth 100000
set_option linter.unusedVariables false
set_option linter.unusedSimpArgs false
set_option maxHeartbeats 4000000
namespace Go.Proofs.YtnaffjionjndgaaDoor.pairBack
open Go Go.AX Go.Proofs Go.Proofs.YtnaffjionjndgaaDoor
def hy0 : LK := [(.bytes [], .x 1),
  (.rn, .x 2000000)]
theorem run0 (e : Nat) : Go.AX.okB (call (tbl hy0) 9000 3 [.es, .es, .x 0] ⟨H0 e , 4, 0, 0⟩) = true := by kernel_rfl
def nu0 (ad_za : Option Addr) (cp_za : Nat) (ad_zb : Option Addr) (cp_zb : Nat) (ct : Int) : List Value := [.int .u16 (ct),
  St' ([] : LB)]
def ro0 (ad_za : Option Addr) (cp_za : Nat) (ad_zb : Option Addr) (cp_zb : Nat) (ct : Int) : List Value := [rwS ([] : List LB)]
theorem on0 (ad_za : Option Addr) (cp_za : Nat) (ad_zb : Option Addr) (cp_zb : Nat) (ct : Int) : ∀ j, (nuL (nu0 ad_za cp_za ad_zb cp_zb ct) j).oneCell' = true := nuL_one (l := nu0 ad_za cp_za ad_zb cp_zb ct) rfl
theorem path0 (ad_za : Option Addr) (cp_za : Nat) (ad_zb : Option Addr) (cp_zb : Nat) (ct : Int) (b0 : 0 ≤ ct) (b1 : ct ≤ 65535) (w : World) (hl : laidE w) : CwR 3 #[.slice ad_za 0 cp_za, .slice ad_zb 0 cp_zb, .int .u16 ct] w (.bool true) := by
  have hn0 : ([] : LB).length = 0 := rfl
  have ho : ∀ k r, (k, r) ∈ hy0 → HOk (cx (nuX (nu0 ad_za cp_za ad_zb cp_zb ct) (rX (ro0 ad_za cp_za ad_zb cp_zb ct) (fun _ => .bool true))) (nuX_one (on0 ad_za cp_za ad_zb cp_zb ct)) 1 laidE laidE_stab) k r := by
    unfold hy0
    exact hc (kBytesB (bs := ([] : LB)) .nil (denX rfl)) <|
     hc (kRn (denX rfl)) <|
     hnil
  obtain ⟨fi, hfi, hb⟩ := fiE
  exact runP (tb := (tbl hy0)) ((tabkOk (nuX (nu0 ad_za cp_za ad_zb cp_zb ct) (rX (ro0 ad_za cp_za ad_zb cp_zb ct) (fun _ => .bool true))) (nuX_one (on0 ad_za cp_za ad_zb cp_zb ct))).hyps ho) rfl hfi hb (fun e => run0 e ) (args := [.slice ad_za 0 cp_za, .slice ad_zb 0 cp_zb, .int .u16 ct]) (by simp only [RelL, Rel]; exact ⟨_, _, rfl, ⟨_, _, rfl⟩, ⟨_, _, rfl, ⟨_, _, rfl⟩, ⟨_, _, rfl, rfl, rfl⟩⟩⟩) w hl
def hy1 : LK := [(.bytes [], .x 1),
  (.rn, .x 2000001),
  (.rl (.x 2000000) 2, .x 2),
  (.bin .gtr (.x 2) (.i .i64 (.ofNat 20)), .b false),
  (.bin .gtr (.x 2) (.i .i64 (.ofNat 0)), .b true),
  (.rr (.x 2000001) (.x 2000000), .x 2000002),
  (.rf (.x 2000002) 2 32, .b true),
  (.rl (.x 2000003) 2, .x 3),
  (.byt (.x 4) (.i .i64 (.ofNat 0)), .x 5),
  (.len (.x 4), .x 6),
  (.fit (.x 4), .b true),
  (.rl (.x 2000005) 2, .x 7),
  (.rl (.x 2000004) 2, .x 8),
  (.bin .neq (.x 7) (.x 8), .b false),
  (.byt (.x 9) (.i .i64 (.ofNat 0)), .x 10),
  (.len (.x 9), .x 11),
  (.fit (.x 9), .b true),
  (.bin .add (.s 0 0) (.x 9), .x 12),
  (.bin .neq (.x 4) (.x 12), .b false),
  (.bin .eql (.x 6) (.i .i64 (.ofNat 0)), .b false),
  (.conv 3 (.x 0), .x 13),
  (.bin .rem (.x 13) (.x 6), .x 14),
  (.sub (.x 4) none (some (.x 14)), .x 15),
  (.rl (.x 2000006) 2, .x 16),
  (.bin .lss (.i .i64 (.ofNat 0)) (.x 16), .b true),
  (.rt (.x 2000006) (.i .i64 (.ofNat 0)) 2, .x 2000008),
  (.rl (.x 2000008) 2, .i .i64 (.ofNat 0))]
def lh1 : LH := ⟨4, 20, 50, [(6, .r 2000002 26 2 false)], [(6, .r 2000003 26 2 false)]⟩
def lf1 : LF := ⟨7, 113, [(7, .sr 6), (8, .i .i64 (.ofNat 0))], [0, 1, 2], (.exit 0), [(7, .sr 6)], some lh1⟩
def lh2 : LH := ⟨4, 80, 120, [(6, .r 2000003 26 2 false), (50, .b ⟨40, .l [.nilp, .nils], 0, 0, 0, false, false⟩)], [(6, .r 2000004 26 2 false), (80, .b ⟨40, .l [.p 80 0, .sy 81], 0, 0, 0, false, false⟩), (81, .t 4 5)]⟩
def lf2 : LF := ⟨3, 30, [(3, .p 50 0), (6, .sr 6), (7, .x 3), (8, .i .i64 (.ofNat 0))], [], (.exit 0), [(3, .p 80 0)], some lh2⟩
def lh18 : LH := ⟨4, 140, 200, [], [(140, .r 2000005 26 2 false)]⟩
def lf18 : LF := ⟨2, 38, [(0, .x 4), (4, .nils)], [], (.exit 0), [(4, .sr 140)], some lh18⟩
def lh19 : LH := ⟨4, 280, 282, [(6, .r 2000004 26 2 false), (140, .r 2000005 26 2 false)], [(6, .r 2000006 26 2 false)]⟩
def lf19 : LF := ⟨4, 26, [(0, .sr 140), (1, .sr 6), (5, .i .i64 (.ofNat 0))], [], (.exit 0), [], some lh19⟩
def lh20 : LH := ⟨4, 300, 320, [(282, .b ⟨40, .l [.nilp, .nils], 0, 0, 0, false, false⟩)], [(300, .b ⟨40, .l [.nilp, .nils], 0, 0, 0, false, false⟩)]⟩
def lf20 : LF := ⟨3, 30, [(3, .p 282 0), (6, .es), (7, .i .i64 (.ofNat 0)), (8, .i .i64 (.ofNat 0))], [], (.exit 0), [(3, .p 300 0)], some lh20⟩
def lh21 : LH := ⟨4, 340, 380, [(5, .r 2000000 26 2 true), (320, .b ⟨40, .l [.nilp, .nils], 0, 0, 0, false, false⟩)], [(5, .r 2000007 26 2 true), (340, .b ⟨40, .l [.p 340 0, .sy 341], 0, 0, 0, false, false⟩), (341, .t 9 5)]⟩
def lf21 : LF := ⟨3, 30, [(3, .p 320 0), (6, .sr 5), (7, .x 2), (8, .i .i64 (.ofNat 0))], [], (.exit 0), [(3, .p 340 0)], some lh21⟩
def lh37 : LH := ⟨4, 460, 520, [], []⟩
def lf37 : LF := ⟨2, 38, [(0, .x 15), (4, .nils)], [], (.exit 0), [(4, .nils)], some lh37⟩
noncomputable def tab1 : Tab := addLps (addLps (addLps (addLps ({ tabk with hyp := hy1 }) 3 fi3 [lf1]) 5 fi5 [lf2, lf20, lf21]) 6 fi6 [lf18, lf37]) 7 fi7 [lf19]
theorem run1 (e : Nat) : Go.AX.okB (call tab1 9000 3 [.es, .sr 5, .x 0] ⟨addR 4 [.r 2000000 26 2 true, .r 2000000 26 2 true] (H0 e ), 4 + List.length (α := Ent) [.r 2000000 26 2 true, .r 2000000 26 2 true], 0, 0⟩) = true := by kernel_rfl
def nu1 (ad_za : Option Addr) (cp_za : Nat) (blk_zb : Nat) (base_zb : Nat) (es_zb : Nat) (zb : List (LB × LB)) (ct : Int) : List Value := [.int .u16 (ct),
  St' ([] : LB),
  .int .i64 ((zb.length : Int)),
  .int .i64 ((zb.length : Int)),
  St' (pS zb),
  .int .u8 (bt (pS zb) 0),
  .int .i64 (((pS zb).length : Int)),
  .int .i64 ((zb.length : Int)),
  .int .i64 ((zb.length : Int)),
  St' (pS zb),
  .int .u8 (bt (pS zb) 0),
  .int .i64 (((pS zb).length : Int)),
  St' (pS zb),
  .int .i64 (ct),
  .int .i64 (ct % ((pS zb).length : Int)),
  St' (fkS zb ct),
  .int .i64 ((zb.length : Int))]
def ro1 (ad_za : Option Addr) (cp_za : Nat) (blk_zb : Nat) (base_zb : Nat) (es_zb : Nat) (zb : List (LB × LB)) (ct : Int) : List Value := [rwG prC zb,
  rwS ([] : List LB),
  rwG prC zb,
  rwG prC zb,
  rwG prC zb,
  rwG prC zb,
  rwG prC zb,
  rwG prC zb,
  rwG prC (zb.take 0)]
theorem on1 (ad_za : Option Addr) (cp_za : Nat) (blk_zb : Nat) (base_zb : Nat) (es_zb : Nat) (zb : List (LB × LB)) (ct : Int) : ∀ j, (nuL (nu1 ad_za cp_za blk_zb base_zb es_zb zb ct) j).oneCell' = true := nuL_one (l := nu1 ad_za cp_za blk_zb base_zb es_zb zb ct) rfl
theorem path1 (ad_za : Option Addr) (cp_za : Nat) (blk_zb : Nat) (base_zb : Nat) (es_zb : Nat) (zb : List (LB × LB)) (ct : Int) (b0 : 1 ≤ zb.length) (b1 : ∀ n, n ∈ zb → prB n) (b2 : ∀ q, q ∈ zb → q.1.length ≤ 140737488351232) (b3 : ∀ q, q ∈ zb → q.2.length ≤ 140737488351232) (b4 : zb.length ≤ 9223372036854775807) (b5 : 0 ≤ ct) (b6 : ct ≤ 65535) (h0 : ¬ (20 < (zb.length : Int))) (h2 : ok6 zb) (h5 : (prS (fkS zb ct)).2 = 0) (h6 : (prS (fkS zb ct)).1.length = 0) (w : World) (hl : laidE w) (w_zb : InRow w 2 (zb.flatMap prC) blk_zb base_zb zb.length es_zb) (g_zb : ∀ e, (H0 e ).get blk_zb = none) : CwR 3 #[.slice ad_za 0 cp_za, .slice (some ⟨blk_zb, base_zb, none⟩) zb.length es_zb, .int .u16 ct] w (.bool true) := by
  have hn0 : ([] : LB).length = 0 := rfl
  have hpl := pS_len zb (by assumption)
  have := bt_lo (pS zb) 0; have := bt_hi (pS zb) 0
  have hX := pr_pS zb (by assumption)
  have := Int.emod_nonneg ct (show (((pS zb).length : Int)) ≠ 0 by omega); have := Int.emod_lt_of_pos ct (show 0 < (((pS zb).length : Int)) by omega)
  obtain ⟨hf1, hf2, hf3, hf4⟩ := fkF (X := zb) (ct := ct) (by assumption) (by omega) (by omega)
  have hfk := (hf4.resolve_left (by omega)).2.1; have hfl := (hf4.resolve_left (by omega)).2.2
  have ho : ∀ k r, (k, r) ∈ hy1 → HOk (cx (nuX (nu1 ad_za cp_za blk_zb base_zb es_zb zb ct) (rX (ro1 ad_za cp_za blk_zb base_zb es_zb zb ct) (fun _ => .bool true))) (nuX_one (on1 ad_za cp_za blk_zb base_zb es_zb zb ct)) 1 laidE laidE_stab) k r := by
    unfold hy1
    exact hc (kBytesB (bs := ([] : LB)) .nil (denX rfl)) <|
     hc (kRn (denX rfl)) <|
     hc (kRlG prC_len (isX rfl) (denX rfl) (by first | omega | (simp <;> omega))) <|
     hc (gtcF rfl (by omega)) <|
     hc (gtcT rfl (by omega)) <|
     hc (kRr (f := prC) (l := []) (m := zb) (isX rfl) (isX rfl) (denX rfl)) <|
     hc (kRfG prC_len (isX rfl) (by first | omega | (simp <;> omega)) (by first | omega | (simp <;> omega))) <|
     hc (kRlG prC_len (isX rfl) (denX rfl) (by first | omega | (simp <;> omega))) <|
     hc (kByt (i := 0) (isX rfl) (isZ (m := 0) rfl) (denX rfl) rfl (by first | omega | (simp <;> omega)) rfl) <|
     hc (lnV rfl rfl (by omega)) <|
     hc (kFit (isX rfl) (by first | omega | (simp <;> omega))) <|
     hc (kRlG prC_len (isX rfl) (denX rfl) (by first | omega | (simp <;> omega))) <|
     hc (kRlG prC_len (isX rfl) (denX rfl) (by first | omega | (simp <;> omega))) <|
     hc (kNeI (isX rfl) (isX rfl) (neF (by omega))) <|
     hc (kByt (i := 0) (isX rfl) (isZ (m := 0) rfl) (denX rfl) rfl (by first | omega | (simp <;> omega)) rfl) <|
     hc (lnV rfl rfl (by omega)) <|
     hc (kFit (isX rfl) (by first | omega | (simp <;> omega))) <|
     hc (kCat (isSx (l := ([] : LB)) 0 0 rfl) (isX rfl) (denX rfl) (by first | rfl | (simp; done)) (by omega)) <|
     hc (kNeS (isX rfl) (isX rfl) (bnF (decide_eq_true rfl))) <|
     hc (eqcF rfl (by omega)) <|
     hc (kConvF (isX rfl) tu3 (denX rfl) (fI64 (by omega) (by omega))) <|
     hc (kRem (isX rfl) (isX rfl) (denX rfl) (by omega) (by omega) rfl) <|
     hc (kMid (P := 0) (Q := ct % ((pS zb).length : Int)) (isX rfl) (.inl ⟨rfl, rfl⟩) (.inr ⟨_, _, rfl, (isX rfl)⟩) (by omega) (by omega) (by omega) (denX (congrArg (fun l => St' l) (fk_mid (by omega))))) <|
     hc (kRlG prC_len (isX rfl) (denX rfl) (by first | omega | (simp <;> omega))) <|
     hc (kLt (isZ (m := 0) rfl) (isX rfl) (decide_eq_true (by omega))) <|
     hc (kRt (f := prC) (j := 0) prC_len (isX rfl) (isZ (m := 0) rfl) (denX rfl) (by omega) (by omega)) <|
     hc (kRlG prC_len (isX rfl) (denZ (m := 0) rfl) (by first | omega | (simp <;> omega))) <|
     hnil
  exact runPR (tb := tab1) (AllOk.lp1 (AllOk.lp1 (AllOk.lp1 (AllOk.lp1 ((tabkOk (nuX (nu1 ad_za cp_za blk_zb base_zb es_zb zb ct) (rX (ro1 ad_za cp_za blk_zb base_zb es_zb zb ct) (fun _ => .bool true))) (nuX_one (on1 ad_za cp_za blk_zb base_zb es_zb zb ct))).hyps ho) (by omega) fi3_at fi3_body (lfCons (lpKnown rfl ⟨0, keyOk6, lfOkOk6_0 (l := lf1) (h := lh1) zb (by assumption) (0, (0 : Int)) (mkIOk6 zb 0 (0 : Int) ⟨by omega, by omega, by omega, by assumption, (fun q hq => nomatch hq), by omega⟩) rfl (by kernel_rfl) (th0 := [(0, .i .i64 (.ofNat 0)), (2000000, .x 2000002)]) (sg0 := []) (fun X => thCons (show Is _ (.i .i64 (.ofNat 0)) (.int .i64 ((0 : Int))) from isTo (v := .int .i64 0) (isI _ _) (by first | rfl | (congr 1; omega))) (thXv (v := rwG prC zb) rfl rfl (thNil))) (by kernel_rfl) (thx := [(2000003, .x 2000000)]) (thXv (v := rwG prC zb) rfl rfl (thNil)) (by kernel_rfl)⟩) lfNil)) (by omega) (get_lps2 (by omega) (by omega) fi5_at) fi5_body (lfCons (lpKnown rfl ⟨0, keyBy6x80, lfOkBy6x80_0 (l := lf2) (h := lh2) zb (0, (0 : Int), ([] : LB)) (mkIBy6x80 zb 0 (0 : Int) ([] : LB) ⟨by omega, by omega, by omega, by assumption, by assumption, rfl, by simp, fun _ => rfl, by omega, by omega⟩) rfl (by kernel_rfl) (th0 := [(0, .x 3), (1, .i .i64 (.ofNat 0)), (2000000, .x 2000003)]) (sg0 := [(80, 50)]) (fun X => thXv (v := .int .i64 ((zb.length : Int))) rfl rfl (thCons (show Is _ (.i .i64 (.ofNat 0)) (.int .i64 ((0 : Int))) from isTo (v := .int .i64 0) (isI _ _) (by first | rfl | (congr 1; omega))) (thXv (v := rwG prC zb) rfl rfl (thNil)))) (by kernel_rfl) (thx := [(4, .x 0), (2000004, .x 2000000)]) (thXv (v := St' (pS zb)) rfl rfl (thXv (v := rwG prC zb) rfl rfl (thNil))) (by kernel_rfl)⟩) (lfCons (lpKnown rfl ⟨0, keyBe, lfOkBe_0 (l := lf20) (h := lh20) (0, (0 : Nat)) (mkIBe 0 (0 : Nat) ⟨trivial, by omega⟩) rfl (by kernel_rfl) (th0 := []) (sg0 := [(300, 282)]) (fun X => thNil) (by kernel_rfl) (thx := []) (thNil) (by kernel_rfl)⟩) (lfCons (lpKnown rfl ⟨0, keyBy5x340, lfOkBy5x340_0 (l := lf21) (h := lh21) zb (0, (0 : Int), ([] : LB)) (mkIBy5x340 zb 0 (0 : Int) ([] : LB) ⟨by omega, by omega, by omega, by assumption, by assumption, rfl, by simp, fun _ => rfl, by omega, by omega⟩) rfl (by kernel_rfl) (th0 := [(0, .x 2), (1, .i .i64 (.ofNat 0)), (2000000, .x 2000000)]) (sg0 := [(340, 320)]) (fun X => thXv (v := .int .i64 ((zb.length : Int))) rfl rfl (thCons (show Is _ (.i .i64 (.ofNat 0)) (.int .i64 ((0 : Int))) from isTo (v := .int .i64 0) (isI _ _) (by first | rfl | (congr 1; omega))) (thXv (v := rwG prC zb) rfl rfl (thNil)))) (by kernel_rfl) (thx := [(9, .x 0), (2000007, .x 2000000)]) (thXv (v := St' (pS zb)) rfl rfl (thXv (v := rwG prC zb) rfl rfl (thNil))) (by kernel_rfl)⟩) lfNil)))) (by omega) (get_lps2 (by omega) (by omega) (get_lps2 (by omega) (by omega) fi6_at)) fi6_body (lfCons (lpKnown rfl ⟨0, keyRd140, lfOkRd140_1 (l := lf18) (h := lh18) zb 0 rfl (by omega) (0, (pS zb), []) (mkIRd140 zb 0 0 (pS zb) [] ⟨by omega, (by rw [hX]; rfl), (by rw [hX]), by omega, fun _ => rfl, fun h => by omega, by omega⟩) rfl (by kernel_rfl) (th0 := [(0, .x 4)]) (sg0 := []) (fun X => thXv (v := St' (pS zb)) rfl rfl (thNil)) (by kernel_rfl) (thx := [(2000005, .x 2000000)]) (thXv (v := rwG prC zb) rfl rfl (thNil)) (by kernel_rfl)⟩) (lfCons (lpKnown rfl ⟨0, keyRd460, lfOkRd460_0 (l := lf37) (h := lh37) ((prS (fkS zb ct)).1) ((prS (fkS zb ct)).2) (by omega) (by omega) (0, (fkS zb ct), []) (mkIRd460 ((prS (fkS zb ct)).1) ((prS (fkS zb ct)).2) 0 (fkS zb ct) [] ⟨by omega, rfl, rfl, by omega, fun _ => rfl, fun h => by omega, by omega⟩) rfl (by kernel_rfl) (th0 := [(0, .x 15)]) (sg0 := []) (fun X => thXv (v := St' (fkS zb ct)) rfl rfl (thNil)) (by kernel_rfl) (thx := []) (thNil) (by kernel_rfl)⟩) lfNil))) (by omega) (get_lps2 (by omega) (by omega) (get_lps2 (by omega) (by omega) (get_lps2 (by omega) (by omega) fi7_at))) fi7_body (lfCons (lpKnown rfl ⟨0, keySp6, lfOkSp6_0 (l := lf19) (h := lh19) zb (0, (0 : Int)) (mkISp6 zb 0 (0 : Int) ⟨by omega, by omega, by omega, by assumption, by omega⟩) rfl (by kernel_rfl) (th0 := [(0, .i .i64 (.ofNat 0)), (2000000, .x 2000005), (2000001, .x 2000004)]) (sg0 := [(280, 140)]) (fun X => thCons (show Is _ (.i .i64 (.ofNat 0)) (.int .i64 ((0 : Int))) from isTo (v := .int .i64 0) (isI _ _) (by first | rfl | (congr 1; omega))) (thXv (v := rwG prC zb) rfl rfl (thXv (v := rwG prC zb) rfl rfl (thNil)))) (by kernel_rfl) (thx := [(2000006, .x 2000000)]) (thXv (v := rwG prC zb) rfl rfl (thNil)) (by kernel_rfl)⟩) lfNil)) rfl (get_lps2 (by omega) (by omega) (get_lps2 (by omega) (by omega) (get_lps2 (by omega) (by omega) (get_lps (by omega))))) fiB3 [.r 2000000 26 2 true, .r 2000000 26 2 true] [⟨blk_zb, base_zb, zb.length, es_zb⟩, ⟨blk_zb, base_zb, zb.length, es_zb⟩] (fun e => run1 e ) (args := [.slice ad_za 0 cp_za, .slice (some ⟨blk_zb, base_zb, none⟩) zb.length es_zb, .int .u16 ct]) ⟨_, _, rfl, ⟨_, _, rfl⟩, ⟨_, _, rfl, relSrN (by decide) rfl w_zb.room, ⟨_, _, rfl, rfl, rfl⟩⟩⟩ w hl rfl (by decide) (fun e => (argsCons (w_zb.arg (g_zb e ) rfl) (argsCons (w_zb.arg (g_zb e ) rfl) argsNil))) rfl
def hy2 : LK := [(.bytes [], .x 1),
  (.rn, .x 2000001),
  (.rl (.x 2000000) 2, .x 2),
  (.bin .gtr (.x 2) (.i .i64 (.ofNat 20)), .b false),
  (.bin .gtr (.x 2) (.i .i64 (.ofNat 0)), .b true),
  (.rr (.x 2000001) (.x 2000000), .x 2000002),
  (.rf (.x 2000002) 2 32, .b true),
  (.rl (.x 2000003) 2, .x 3),
  (.byt (.x 4) (.i .i64 (.ofNat 0)), .x 5),
  (.len (.x 4), .x 6),
  (.fit (.x 4), .b true),
  (.rl (.x 2000005) 2, .x 7),
  (.rl (.x 2000004) 2, .x 8),
  (.bin .neq (.x 7) (.x 8), .b false),
  (.byt (.x 9) (.i .i64 (.ofNat 0)), .x 10),
  (.len (.x 9), .x 11),
  (.fit (.x 9), .b true),
  (.bin .add (.s 0 0) (.x 9), .x 12),
  (.bin .neq (.x 4) (.x 12), .b false),
  (.bin .eql (.x 6) (.i .i64 (.ofNat 0)), .b false),
  (.conv 3 (.x 0), .x 13),
  (.bin .rem (.x 13) (.x 6), .x 14),
  (.sub (.x 4) none (some (.x 14)), .x 15),
  (.rl (.x 2000008) 2, .x 16),
  (.rl (.x 2000006) 2, .x 17),
  (.bin .lss (.x 16) (.x 17), .b true),
  (.rt (.x 2000006) (.x 16) 2, .x 2000009),
  (.rl (.x 2000009) 2, .x 18),
  (.bin .neq (.x 16) (.x 18), .b false)]
def lh38 : LH := ⟨4, 20, 50, [(6, .r 2000002 26 2 false)], [(6, .r 2000003 26 2 false)]⟩
def lf38 : LF := ⟨7, 113, [(7, .sr 6), (8, .i .i64 (.ofNat 0))], [0, 1, 2], (.exit 0), [(7, .sr 6)], some lh38⟩
def lh39 : LH := ⟨4, 80, 120, [(6, .r 2000003 26 2 false), (50, .b ⟨40, .l [.nilp, .nils], 0, 0, 0, false, false⟩)], [(6, .r 2000004 26 2 false), (80, .b ⟨40, .l [.p 80 0, .sy 81], 0, 0, 0, false, false⟩), (81, .t 4 5)]⟩
def lf39 : LF := ⟨3, 30, [(3, .p 50 0), (6, .sr 6), (7, .x 3), (8, .i .i64 (.ofNat 0))], [], (.exit 0), [(3, .p 80 0)], some lh39⟩
def lh40 : LH := ⟨4, 140, 200, [], [(140, .r 2000005 26 2 false)]⟩
def lf40 : LF := ⟨2, 38, [(0, .x 4), (4, .nils)], [], (.exit 0), [(4, .sr 140)], some lh40⟩
def lh41 : LH := ⟨4, 280, 282, [(6, .r 2000004 26 2 false), (140, .r 2000005 26 2 false)], [(6, .r 2000006 26 2 false)]⟩
def lf41 : LF := ⟨4, 26, [(0, .sr 140), (1, .sr 6), (5, .i .i64 (.ofNat 0))], [], (.exit 0), [], some lh41⟩
def lh42 : LH := ⟨4, 300, 320, [(282, .b ⟨40, .l [.nilp, .nils], 0, 0, 0, false, false⟩)], [(300, .b ⟨40, .l [.nilp, .nils], 0, 0, 0, false, false⟩)]⟩
def lf42 : LF := ⟨3, 30, [(3, .p 282 0), (6, .es), (7, .i .i64 (.ofNat 0)), (8, .i .i64 (.ofNat 0))], [], (.exit 0), [(3, .p 300 0)], some lh42⟩
def lh43 : LH := ⟨4, 340, 380, [(5, .r 2000000 26 2 true), (320, .b ⟨40, .l [.nilp, .nils], 0, 0, 0, false, false⟩)], [(5, .r 2000007 26 2 true), (340, .b ⟨40, .l [.p 340 0, .sy 341], 0, 0, 0, false, false⟩), (341, .t 9 5)]⟩
def lf43 : LF := ⟨3, 30, [(3, .p 320 0), (6, .sr 5), (7, .x 2), (8, .i .i64 (.ofNat 0))], [], (.exit 0), [(3, .p 340 0)], some lh43⟩
def lh44 : LH := ⟨4, 460, 520, [], [(460, .r 2000008 26 2 false)]⟩
def lf44 : LF := ⟨2, 38, [(0, .x 15), (4, .nils)], [], (.exit 0), [(4, .sr 460)], some lh44⟩
def lh45 : LH := ⟨4, 600, 602, [(460, .r 2000008 26 2 false), (520, .r 2000009 26 2 false)], []⟩
def lf45 : LF := ⟨4, 26, [(0, .sr 460), (1, .sr 520), (5, .i .i64 (.ofNat 0))], [], (.exit 0), [], some lh45⟩
noncomputable def tab2 : Tab := addLps (addLps (addLps (addLps ({ tabk with hyp := hy2 }) 3 fi3 [lf38]) 5 fi5 [lf39, lf42, lf43]) 6 fi6 [lf40, lf44]) 7 fi7 [lf41, lf45]
theorem run2 (e : Nat) : Go.AX.okB (call tab2 9000 3 [.es, .sr 5, .x 0] ⟨addR 4 [.r 2000000 26 2 true, .r 2000000 26 2 true] (H0 e ), 4 + List.length (α := Ent) [.r 2000000 26 2 true, .r 2000000 26 2 true], 0, 0⟩) = true := by kernel_rfl
def nu2 (ad_za : Option Addr) (cp_za : Nat) (blk_zb : Nat) (base_zb : Nat) (es_zb : Nat) (zb : List (LB × LB)) (ct : Int) : List Value := [.int .u16 (ct),
  St' ([] : LB),
  .int .i64 ((zb.length : Int)),
  .int .i64 ((zb.length : Int)),
  St' (pS zb),
  .int .u8 (bt (pS zb) 0),
  .int .i64 (((pS zb).length : Int)),
  .int .i64 ((zb.length : Int)),
  .int .i64 ((zb.length : Int)),
  St' (pS zb),
  .int .u8 (bt (pS zb) 0),
  .int .i64 (((pS zb).length : Int)),
  St' (pS zb),
  .int .i64 (ct),
  .int .i64 (ct % ((pS zb).length : Int)),
  St' (fkS zb ct),
  .int .i64 (((prS (fkS zb ct)).1.length : Int)),
  .int .i64 ((zb.length : Int)),
  .int .i64 (((prS (fkS zb ct)).1.length : Int))]
def ro2 (ad_za : Option Addr) (cp_za : Nat) (blk_zb : Nat) (base_zb : Nat) (es_zb : Nat) (zb : List (LB × LB)) (ct : Int) : List Value := [rwG prC zb,
  rwS ([] : List LB),
  rwG prC zb,
  rwG prC zb,
  rwG prC zb,
  rwG prC zb,
  rwG prC zb,
  rwG prC zb,
  rwG prC ((prS (fkS zb ct)).1),
  rwG prC ((prS (fkS zb ct)).1)]
theorem on2 (ad_za : Option Addr) (cp_za : Nat) (blk_zb : Nat) (base_zb : Nat) (es_zb : Nat) (zb : List (LB × LB)) (ct : Int) : ∀ j, (nuL (nu2 ad_za cp_za blk_zb base_zb es_zb zb ct) j).oneCell' = true := nuL_one (l := nu2 ad_za cp_za blk_zb base_zb es_zb zb ct) rfl
theorem path2 (ad_za : Option Addr) (cp_za : Nat) (blk_zb : Nat) (base_zb : Nat) (es_zb : Nat) (zb : List (LB × LB)) (ct : Int) (b0 : 1 ≤ zb.length) (b1 : ∀ n, n ∈ zb → prB n) (b2 : ∀ q, q ∈ zb → q.1.length ≤ 140737488351232) (b3 : ∀ q, q ∈ zb → q.2.length ≤ 140737488351232) (b4 : zb.length ≤ 9223372036854775807) (b5 : 0 ≤ ct) (b6 : ct ≤ 65535) (h0 : ¬ (20 < (zb.length : Int))) (h2 : ok6 zb) (h5 : (prS (fkS zb ct)).2 = 0) (h6 : ¬ ((prS (fkS zb ct)).1.length = 0)) (w : World) (hl : laidE w) (w_zb : InRow w 2 (zb.flatMap prC) blk_zb base_zb zb.length es_zb) (g_zb : ∀ e, (H0 e ).get blk_zb = none) : CwR 3 #[.slice ad_za 0 cp_za, .slice (some ⟨blk_zb, base_zb, none⟩) zb.length es_zb, .int .u16 ct] w (.bool true) := by
  have hn0 : ([] : LB).length = 0 := rfl
  have hpl := pS_len zb (by assumption)
  have := bt_lo (pS zb) 0; have := bt_hi (pS zb) 0
  have hX := pr_pS zb (by assumption)
  have := Int.emod_nonneg ct (show (((pS zb).length : Int)) ≠ 0 by omega); have := Int.emod_lt_of_pos ct (show 0 < (((pS zb).length : Int)) by omega)
  obtain ⟨hf1, hf2, hf3, hf4⟩ := fkF (X := zb) (ct := ct) (by assumption) (by omega) (by omega)
  have hfk := (hf4.resolve_left (by omega)).2.1; have hfl := (hf4.resolve_left (by omega)).2.2
  have ho : ∀ k r, (k, r) ∈ hy2 → HOk (cx (nuX (nu2 ad_za cp_za blk_zb base_zb es_zb zb ct) (rX (ro2 ad_za cp_za blk_zb base_zb es_zb zb ct) (fun _ => .bool true))) (nuX_one (on2 ad_za cp_za blk_zb base_zb es_zb zb ct)) 1 laidE laidE_stab) k r := by
    unfold hy2
    exact hc (kBytesB (bs := ([] : LB)) .nil (denX rfl)) <|
     hc (kRn (denX rfl)) <|
     hc (kRlG prC_len (isX rfl) (denX rfl) (by first | omega | (simp <;> omega))) <|
     hc (gtcF rfl (by omega)) <|
     hc (gtcT rfl (by omega)) <|
     hc (kRr (f := prC) (l := []) (m := zb) (isX rfl) (isX rfl) (denX rfl)) <|
     hc (kRfG prC_len (isX rfl) (by first | omega | (simp <;> omega)) (by first | omega | (simp <;> omega))) <|
     hc (kRlG prC_len (isX rfl) (denX rfl) (by first | omega | (simp <;> omega))) <|
     hc (kByt (i := 0) (isX rfl) (isZ (m := 0) rfl) (denX rfl) rfl (by first | omega | (simp <;> omega)) rfl) <|
     hc (lnV rfl rfl (by omega)) <|
     hc (kFit (isX rfl) (by first | omega | (simp <;> omega))) <|
     hc (kRlG prC_len (isX rfl) (denX rfl) (by first | omega | (simp <;> omega))) <|
     hc (kRlG prC_len (isX rfl) (denX rfl) (by first | omega | (simp <;> omega))) <|
     hc (kNeI (isX rfl) (isX rfl) (neF (by omega))) <|
     hc (kByt (i := 0) (isX rfl) (isZ (m := 0) rfl) (denX rfl) rfl (by first | omega | (simp <;> omega)) rfl) <|
     hc (lnV rfl rfl (by omega)) <|
     hc (kFit (isX rfl) (by first | omega | (simp <;> omega))) <|
     hc (kCat (isSx (l := ([] : LB)) 0 0 rfl) (isX rfl) (denX rfl) (by first | rfl | (simp; done)) (by omega)) <|
     hc (kNeS (isX rfl) (isX rfl) (bnF (decide_eq_true rfl))) <|
     hc (eqcF rfl (by omega)) <|
     hc (kConvF (isX rfl) tu3 (denX rfl) (fI64 (by omega) (by omega))) <|
     hc (kRem (isX rfl) (isX rfl) (denX rfl) (by omega) (by omega) rfl) <|
     hc (kMid (P := 0) (Q := ct % ((pS zb).length : Int)) (isX rfl) (.inl ⟨rfl, rfl⟩) (.inr ⟨_, _, rfl, (isX rfl)⟩) (by omega) (by omega) (by omega) (denX (congrArg (fun l => St' l) (fk_mid (by omega))))) <|
     hc (kRlG prC_len (isX rfl) (denX rfl) (by first | omega | (simp <;> omega))) <|
     hc (kRlG prC_len (isX rfl) (denX rfl) (by first | omega | (simp <;> omega))) <|
     hc (ltT rfl rfl (by omega)) <|
     hc (kRt (f := prC) (j := (Int.toNat ((prS (fkS zb ct)).1.length : Int))) prC_len (isX rfl) (isX rfl) (denX (congrArg (rwG prC) (hfk.trans (by rw [Int.toNat_natCast])))) (by omega) (by omega)) <|
     hc (kRlG prC_len (isX rfl) (denX rfl) (by first | omega | (simp <;> omega))) <|
     hc (kNeI (isX rfl) (isX rfl) (neF (by omega))) <|
     hnil
  exact runPR (tb := tab2) (AllOk.lp1 (AllOk.lp1 (AllOk.lp1 (AllOk.lp1 ((tabkOk (nuX (nu2 ad_za cp_za blk_zb base_zb es_zb zb ct) (rX (ro2 ad_za cp_za blk_zb base_zb es_zb zb ct) (fun _ => .bool true))) (nuX_one (on2 ad_za cp_za blk_zb base_zb es_zb zb ct))).hyps ho) (by omega) fi3_at fi3_body (lfCons (lpKnown rfl ⟨0, keyOk6, lfOkOk6_0 (l := lf38) (h := lh38) zb (by assumption) (0, (0 : Int)) (mkIOk6 zb 0 (0 : Int) ⟨by omega, by omega, by omega, by assumption, (fun q hq => nomatch hq), by omega⟩) rfl (by kernel_rfl) (th0 := [(0, .i .i64 (.ofNat 0)), (2000000, .x 2000002)]) (sg0 := []) (fun X => thCons (show Is _ (.i .i64 (.ofNat 0)) (.int .i64 ((0 : Int))) from isTo (v := .int .i64 0) (isI _ _) (by first | rfl | (congr 1; omega))) (thXv (v := rwG prC zb) rfl rfl (thNil))) (by kernel_rfl) (thx := [(2000003, .x 2000000)]) (thXv (v := rwG prC zb) rfl rfl (thNil)) (by kernel_rfl)⟩) lfNil)) (by omega) (get_lps2 (by omega) (by omega) fi5_at) fi5_body (lfCons (lpKnown rfl ⟨0, keyBy6x80, lfOkBy6x80_0 (l := lf39) (h := lh39) zb (0, (0 : Int), ([] : LB)) (mkIBy6x80 zb 0 (0 : Int) ([] : LB) ⟨by omega, by omega, by omega, by assumption, by assumption, rfl, by simp, fun _ => rfl, by omega, by omega⟩) rfl (by kernel_rfl) (th0 := [(0, .x 3), (1, .i .i64 (.ofNat 0)), (2000000, .x 2000003)]) (sg0 := [(80, 50)]) (fun X => thXv (v := .int .i64 ((zb.length : Int))) rfl rfl (thCons (show Is _ (.i .i64 (.ofNat 0)) (.int .i64 ((0 : Int))) from isTo (v := .int .i64 0) (isI _ _) (by first | rfl | (congr 1; omega))) (thXv (v := rwG prC zb) rfl rfl (thNil)))) (by kernel_rfl) (thx := [(4, .x 0), (2000004, .x 2000000)]) (thXv (v := St' (pS zb)) rfl rfl (thXv (v := rwG prC zb) rfl rfl (thNil))) (by kernel_rfl)⟩) (lfCons (lpKnown rfl ⟨0, keyBe, lfOkBe_0 (l := lf42) (h := lh42) (0, (0 : Nat)) (mkIBe 0 (0 : Nat) ⟨trivial, by omega⟩) rfl (by kernel_rfl) (th0 := []) (sg0 := [(300, 282)]) (fun X => thNil) (by kernel_rfl) (thx := []) (thNil) (by kernel_rfl)⟩) (lfCons (lpKnown rfl ⟨0, keyBy5x340, lfOkBy5x340_0 (l := lf43) (h := lh43) zb (0, (0 : Int), ([] : LB)) (mkIBy5x340 zb 0 (0 : Int) ([] : LB) ⟨by omega, by omega, by omega, by assumption, by assumption, rfl, by simp, fun _ => rfl, by omega, by omega⟩) rfl (by kernel_rfl) (th0 := [(0, .x 2), (1, .i .i64 (.ofNat 0)), (2000000, .x 2000000)]) (sg0 := [(340, 320)]) (fun X => thXv (v := .int .i64 ((zb.length : Int))) rfl rfl (thCons (show Is _ (.i .i64 (.ofNat 0)) (.int .i64 ((0 : Int))) from isTo (v := .int .i64 0) (isI _ _) (by first | rfl | (congr 1; omega))) (thXv (v := rwG prC zb) rfl rfl (thNil)))) (by kernel_rfl) (thx := [(9, .x 0), (2000007, .x 2000000)]) (thXv (v := St' (pS zb)) rfl rfl (thXv (v := rwG prC zb) rfl rfl (thNil))) (by kernel_rfl)⟩) lfNil)))) (by omega) (get_lps2 (by omega) (by omega) (get_lps2 (by omega) (by omega) fi6_at)) fi6_body (lfCons (lpKnown rfl ⟨0, keyRd140, lfOkRd140_1 (l := lf40) (h := lh40) zb 0 rfl (by omega) (0, (pS zb), []) (mkIRd140 zb 0 0 (pS zb) [] ⟨by omega, (by rw [hX]; rfl), (by rw [hX]), by omega, fun _ => rfl, fun h => by omega, by omega⟩) rfl (by kernel_rfl) (th0 := [(0, .x 4)]) (sg0 := []) (fun X => thXv (v := St' (pS zb)) rfl rfl (thNil)) (by kernel_rfl) (thx := [(2000005, .x 2000000)]) (thXv (v := rwG prC zb) rfl rfl (thNil)) (by kernel_rfl)⟩) (lfCons (lpKnown rfl ⟨0, keyRd460, lfOkRd460_1 (l := lf44) (h := lh44) ((prS (fkS zb ct)).1) ((prS (fkS zb ct)).2) (by omega) (by omega) (0, (fkS zb ct), []) (mkIRd460 ((prS (fkS zb ct)).1) ((prS (fkS zb ct)).2) 0 (fkS zb ct) [] ⟨by omega, rfl, rfl, by omega, fun _ => rfl, fun h => by omega, by omega⟩) rfl (by kernel_rfl) (th0 := [(0, .x 15)]) (sg0 := []) (fun X => thXv (v := St' (fkS zb ct)) rfl rfl (thNil)) (by kernel_rfl) (thx := [(2000008, .x 2000000)]) (thXv (v := rwG prC ((prS (fkS zb ct)).1)) rfl rfl (thNil)) (by kernel_rfl)⟩) lfNil))) (by omega) (get_lps2 (by omega) (by omega) (get_lps2 (by omega) (by omega) (get_lps2 (by omega) (by omega) fi7_at))) fi7_body (lfCons (lpKnown rfl ⟨0, keySp6, lfOkSp6_0 (l := lf41) (h := lh41) zb (0, (0 : Int)) (mkISp6 zb 0 (0 : Int) ⟨by omega, by omega, by omega, by assumption, by omega⟩) rfl (by kernel_rfl) (th0 := [(0, .i .i64 (.ofNat 0)), (2000000, .x 2000005), (2000001, .x 2000004)]) (sg0 := [(280, 140)]) (fun X => thCons (show Is _ (.i .i64 (.ofNat 0)) (.int .i64 ((0 : Int))) from isTo (v := .int .i64 0) (isI _ _) (by first | rfl | (congr 1; omega))) (thXv (v := rwG prC zb) rfl rfl (thXv (v := rwG prC zb) rfl rfl (thNil)))) (by kernel_rfl) (thx := [(2000006, .x 2000000)]) (thXv (v := rwG prC zb) rfl rfl (thNil)) (by kernel_rfl)⟩) (lfCons (lpKnown rfl ⟨0, keySq, lfOkSq_0 (l := lf45) (h := lh45) ((prS (fkS zb ct)).1) (0, (0 : Int)) (mkISq ((prS (fkS zb ct)).1) 0 (0 : Int) ⟨by omega, by omega, by omega, pr_prB (by omega), by omega⟩) rfl (by kernel_rfl) (th0 := [(0, .i .i64 (.ofNat 0)), (2000000, .x 2000008), (2000001, .x 2000009)]) (sg0 := [(600, 460), (601, 520)]) (fun X => thCons (show Is _ (.i .i64 (.ofNat 0)) (.int .i64 ((0 : Int))) from isTo (v := .int .i64 0) (isI _ _) (by first | rfl | (congr 1; omega))) (thXv (v := rwG prC ((prS (fkS zb ct)).1)) rfl rfl (thXv (v := rwG prC ((prS (fkS zb ct)).1)) rfl rfl (thNil)))) (by kernel_rfl) (thx := []) (thNil) (by kernel_rfl)⟩) lfNil))) rfl (get_lps2 (by omega) (by omega) (get_lps2 (by omega) (by omega) (get_lps2 (by omega) (by omega) (get_lps (by omega))))) fiB3 [.r 2000000 26 2 true, .r 2000000 26 2 true] [⟨blk_zb, base_zb, zb.length, es_zb⟩, ⟨blk_zb, base_zb, zb.length, es_zb⟩] (fun e => run2 e ) (args := [.slice ad_za 0 cp_za, .slice (some ⟨blk_zb, base_zb, none⟩) zb.length es_zb, .int .u16 ct]) ⟨_, _, rfl, ⟨_, _, rfl⟩, ⟨_, _, rfl, relSrN (by decide) rfl w_zb.room, ⟨_, _, rfl, rfl, rfl⟩⟩⟩ w hl rfl (by decide) (fun e => (argsCons (w_zb.arg (g_zb e ) rfl) (argsCons (w_zb.arg (g_zb e ) rfl) argsNil))) rfl
end Go.Proofs.YtnaffjionjndgaaDoor.pairBack
