/- A part of the proof: an interpreter of the model's own code on partly known states, and that what it answers is what the program answers. No condition of its own. -/
import Derived.Test.YtnaffjionjndgaaDoorH1PairBackO5
set_option maxRecDepth 100000
set_option linter.unusedVariables false
set_option linter.unusedSimpArgs false
set_option maxHeartbeats 4000000
namespace Go.Proofs.YtnaffjionjndgaaDoor.pairBack
open Go Go.AX Go.Proofs Go.Proofs.YtnaffjionjndgaaDoor
def hy3 : LK := [(.bytes [], .x 1),
  (.rn, .x 2000001),
  (.rl (.x 2000000) 2, .x 2),
  (.bin .gtr (.x 2) (.i .i64 (.ofNat 20)), .b false),
  (.bin .gtr (.x 2) (.i .i64 (.ofNat 0)), .b true),
  (.rr (.x 2000001) (.x 2000000), .x 2000002),
  (.rf (.x 2000002) 2 32, .b true),
  (.rl (.x 2000003) 2, .x 3),
  (.byt (.x 4) (.i .i64 (.ofNat 0)), .x 5),
  (.len (.x 4), .x 6),
  (.fit (.x 4), .b true),
  (.rl (.x 2000005) 2, .x 7),
  (.rl (.x 2000004) 2, .x 8),
  (.bin .neq (.x 7) (.x 8), .b false),
  (.byt (.x 9) (.i .i64 (.ofNat 0)), .x 10),
  (.len (.x 9), .x 11),
  (.fit (.x 9), .b true),
  (.bin .add (.s 0 0) (.x 9), .x 12),
  (.bin .neq (.x 4) (.x 12), .b false),
  (.bin .eql (.x 6) (.i .i64 (.ofNat 0)), .b false),
  (.conv 3 (.x 0), .x 13),
  (.bin .rem (.x 13) (.x 6), .x 14),
  (.sub (.x 4) none (some (.x 14)), .x 15)]
def lh46 : LH := ⟨4, 20, 50, [(6, .r 2000002 26 2 false)], [(6, .r 2000003 26 2 false)]⟩
def lf46 : LF := ⟨7, 113, [(7, .sr 6), (8, .i .i64 (.ofNat 0))], [0, 1, 2], (.exit 0), [(7, .sr 6)], some lh46⟩
def lh47 : LH := ⟨4, 80, 120, [(6, .r 2000003 26 2 false), (50, .b ⟨40, .l [.nilp, .nils], 0, 0, 0, false, false⟩)], [(6, .r 2000004 26 2 false), (80, .b ⟨40, .l [.p 80 0, .sy 81], 0, 0, 0, false, false⟩), (81, .t 4 5)]⟩
def lf47 : LF := ⟨3, 30, [(3, .p 50 0), (6, .sr 6), (7, .x 3), (8, .i .i64 (.ofNat 0))], [], (.exit 0), [(3, .p 80 0)], some lh47⟩
def lh48 : LH := ⟨4, 140, 200, [], [(140, .r 2000005 26 2 false)]⟩
def lf48 : LF := ⟨2, 38, [(0, .x 4), (4, .nils)], [], (.exit 0), [(4, .sr 140)], some lh48⟩
def lh49 : LH := ⟨4, 280, 282, [(6, .r 2000004 26 2 false), (140, .r 2000005 26 2 false)], [(6, .r 2000006 26 2 false)]⟩
def lf49 : LF := ⟨4, 26, [(0, .sr 140), (1, .sr 6), (5, .i .i64 (.ofNat 0))], [], (.exit 0), [], some lh49⟩
def lh50 : LH := ⟨4, 300, 320, [(282, .b ⟨40, .l [.nilp, .nils], 0, 0, 0, false, false⟩)], [(300, .b ⟨40, .l [.nilp, .nils], 0, 0, 0, false, false⟩)]⟩
def lf50 : LF := ⟨3, 30, [(3, .p 282 0), (6, .es), (7, .i .i64 (.ofNat 0)), (8, .i .i64 (.ofNat 0))], [], (.exit 0), [(3, .p 300 0)], some lh50⟩
def lh51 : LH := ⟨4, 340, 380, [(5, .r 2000000 26 2 true), (320, .b ⟨40, .l [.nilp, .nils], 0, 0, 0, false, false⟩)], [(5, .r 2000007 26 2 true), (340, .b ⟨40, .l [.p 340 0, .sy 341], 0, 0, 0, false, false⟩), (341, .t 9 5)]⟩
def lf51 : LF := ⟨3, 30, [(3, .p 320 0), (6, .sr 5), (7, .x 2), (8, .i .i64 (.ofNat 0))], [], (.exit 0), [(3, .p 340 0)], some lh51⟩
def lh52 : LH := ⟨4, 460, 520, [], []⟩
def lf52 : LF := ⟨2, 38, [(0, .x 15), (4, .nils)], [], .ret, [(2, .nils), (3, .ifc 56 (.ag [.i .i64 (.ofNat 11), .x 16]))], some lh52⟩
noncomputable def tab3 : Tab := addLps (addLps (addLps (addLps ({ tabk with hyp := hy3 }) 3 fi3 [lf46]) 5 fi5 [lf47, lf50, lf51]) 6 fi6 [lf48, lf52]) 7 fi7 [lf49]
theorem run3 (e : Nat) : Go.AX.okB (call tab3 9000 3 [.es, .sr 5, .x 0] ⟨addR 4 [.r 2000000 26 2 true, .r 2000000 26 2 true] (H0 e ), 4 + List.length (α := Ent) [.r 2000000 26 2 true, .r 2000000 26 2 true], 0, 0⟩) = true := by kernel_rfl
def nu3 (ad_za : Option Addr) (cp_za : Nat) (blk_zb : Nat) (base_zb : Nat) (es_zb : Nat) (zb : List (LB × LB)) (ct : Int) : List Value := [.int .u16 (ct),
  St' ([] : LB),
  .int .i64 ((zb.length : Int)),
  .int .i64 ((zb.length : Int)),
  St' (pS zb),
  .int .u8 (bt (pS zb) 0),
  .int .i64 (((pS zb).length : Int)),
  .int .i64 ((zb.length : Int)),
  .int .i64 ((zb.length : Int)),
  St' (pS zb),
  .int .u8 (bt (pS zb) 0),
  .int .i64 (((pS zb).length : Int)),
  St' (pS zb),
  .int .i64 (ct),
  .int .i64 (ct % ((pS zb).length : Int)),
  St' (fkS zb ct),
  St' (pmS (((prS (fkS zb ct)).1.length : Int) + 1))]
def ro3 (ad_za : Option Addr) (cp_za : Nat) (blk_zb : Nat) (base_zb : Nat) (es_zb : Nat) (zb : List (LB × LB)) (ct : Int) : List Value := [rwG prC zb,
  rwS ([] : List LB),
  rwG prC zb,
  rwG prC zb,
  rwG prC zb,
  rwG prC zb,
  rwG prC zb,
  rwG prC zb]
theorem on3 (ad_za : Option Addr) (cp_za : Nat) (blk_zb : Nat) (base_zb : Nat) (es_zb : Nat) (zb : List (LB × LB)) (ct : Int) : ∀ j, (nuL (nu3 ad_za cp_za blk_zb base_zb es_zb zb ct) j).oneCell' = true := nuL_one (l := nu3 ad_za cp_za blk_zb base_zb es_zb zb ct) rfl
theorem path3 (ad_za : Option Addr) (cp_za : Nat) (blk_zb : Nat) (base_zb : Nat) (es_zb : Nat) (zb : List (LB × LB)) (ct : Int) (b0 : 1 ≤ zb.length) (b1 : ∀ n, n ∈ zb → prB n) (b2 : ∀ q, q ∈ zb → q.1.length ≤ 140737488351232) (b3 : ∀ q, q ∈ zb → q.2.length ≤ 140737488351232) (b4 : zb.length ≤ 9223372036854775807) (b5 : 0 ≤ ct) (b6 : ct ≤ 65535) (h0 : ¬ (20 < (zb.length : Int))) (h2 : ok6 zb) (h5 : ¬ ((prS (fkS zb ct)).2 = 0)) (w : World) (hl : laidE w) (w_zb : InRow w 2 (zb.flatMap prC) blk_zb base_zb zb.length es_zb) (g_zb : ∀ e, (H0 e ).get blk_zb = none) : CwR 3 #[.slice ad_za 0 cp_za, .slice (some ⟨blk_zb, base_zb, none⟩) zb.length es_zb, .int .u16 ct] w (.bool true) := by
  have hn0 : ([] : LB).length = 0 := rfl
  have hpl := pS_len zb (by assumption)
  have := bt_lo (pS zb) 0; have := bt_hi (pS zb) 0
  have hX := pr_pS zb (by assumption)
  have := Int.emod_nonneg ct (show (((pS zb).length : Int)) ≠ 0 by omega); have := Int.emod_lt_of_pos ct (show 0 < (((pS zb).length : Int)) by omega)
  obtain ⟨hf1, hf2, hf3, hf4⟩ := fkF (X := zb) (ct := ct) (by assumption) (by omega) (by omega)
  have ho : ∀ k r, (k, r) ∈ hy3 → HOk (cx (nuX (nu3 ad_za cp_za blk_zb base_zb es_zb zb ct) (rX (ro3 ad_za cp_za blk_zb base_zb es_zb zb ct) (fun _ => .bool true))) (nuX_one (on3 ad_za cp_za blk_zb base_zb es_zb zb ct)) 1 laidE laidE_stab) k r := by
    unfold hy3
    exact hc (kBytesB (bs := ([] : LB)) .nil (denX rfl)) <|
     hc (kRn (denX rfl)) <|
     hc (kRlG prC_len (isX rfl) (denX rfl) (by first | omega | (simp <;> omega))) <|
     hc (gtcF rfl (by omega)) <|
     hc (gtcT rfl (by omega)) <|
     hc (kRr (f := prC) (l := []) (m := zb) (isX rfl) (isX rfl) (denX rfl)) <|
     hc (kRfG prC_len (isX rfl) (by first | omega | (simp <;> omega)) (by first | omega | (simp <;> omega))) <|
     hc (kRlG prC_len (isX rfl) (denX rfl) (by first | omega | (simp <;> omega))) <|
     hc (kByt (i := 0) (isX rfl) (isZ (m := 0) rfl) (denX rfl) rfl (by first | omega | (simp <;> omega)) rfl) <|
     hc (lnV rfl rfl (by omega)) <|
     hc (kFit (isX rfl) (by first | omega | (simp <;> omega))) <|
     hc (kRlG prC_len (isX rfl) (denX rfl) (by first | omega | (simp <;> omega))) <|
     hc (kRlG prC_len (isX rfl) (denX rfl) (by first | omega | (simp <;> omega))) <|
     hc (kNeI (isX rfl) (isX rfl) (neF (by omega))) <|
     hc (kByt (i := 0) (isX rfl) (isZ (m := 0) rfl) (denX rfl) rfl (by first | omega | (simp <;> omega)) rfl) <|
     hc (lnV rfl rfl (by omega)) <|
     hc (kFit (isX rfl) (by first | omega | (simp <;> omega))) <|
     hc (kCat (isSx (l := ([] : LB)) 0 0 rfl) (isX rfl) (denX rfl) (by first | rfl | (simp; done)) (by omega)) <|
     hc (kNeS (isX rfl) (isX rfl) (bnF (decide_eq_true rfl))) <|
     hc (eqcF rfl (by omega)) <|
     hc (kConvF (isX rfl) tu3 (denX rfl) (fI64 (by omega) (by omega))) <|
     hc (kRem (isX rfl) (isX rfl) (denX rfl) (by omega) (by omega) rfl) <|
     hc (kMid (P := 0) (Q := ct % ((pS zb).length : Int)) (isX rfl) (.inl ⟨rfl, rfl⟩) (.inr ⟨_, _, rfl, (isX rfl)⟩) (by omega) (by omega) (by omega) (denX (congrArg (fun l => St' l) (fk_mid (by omega))))) <|
     hnil
  exact runPR (tb := tab3) (AllOk.lp1 (AllOk.lp1 (AllOk.lp1 (AllOk.lp1 ((tabkOk (nuX (nu3 ad_za cp_za blk_zb base_zb es_zb zb ct) (rX (ro3 ad_za cp_za blk_zb base_zb es_zb zb ct) (fun _ => .bool true))) (nuX_one (on3 ad_za cp_za blk_zb base_zb es_zb zb ct))).hyps ho) (by omega) fi3_at fi3_body (lfCons (lpKnown rfl ⟨0, keyOk6, lfOkOk6_0 (l := lf46) (h := lh46) zb (by assumption) (0, (0 : Int)) (mkIOk6 zb 0 (0 : Int) ⟨by omega, by omega, by omega, by assumption, (fun q hq => nomatch hq), by omega⟩) rfl (by kernel_rfl) (th0 := [(0, .i .i64 (.ofNat 0)), (2000000, .x 2000002)]) (sg0 := []) (fun X => thCons (show Is _ (.i .i64 (.ofNat 0)) (.int .i64 ((0 : Int))) from isTo (v := .int .i64 0) (isI _ _) (by first | rfl | (congr 1; omega))) (thXv (v := rwG prC zb) rfl rfl (thNil))) (by kernel_rfl) (thx := [(2000003, .x 2000000)]) (thXv (v := rwG prC zb) rfl rfl (thNil)) (by kernel_rfl)⟩) lfNil)) (by omega) (get_lps2 (by omega) (by omega) fi5_at) fi5_body (lfCons (lpKnown rfl ⟨0, keyBy6x80, lfOkBy6x80_0 (l := lf47) (h := lh47) zb (0, (0 : Int), ([] : LB)) (mkIBy6x80 zb 0 (0 : Int) ([] : LB) ⟨by omega, by omega, by omega, by assumption, by assumption, rfl, by simp, fun _ => rfl, by omega, by omega⟩) rfl (by kernel_rfl) (th0 := [(0, .x 3), (1, .i .i64 (.ofNat 0)), (2000000, .x 2000003)]) (sg0 := [(80, 50)]) (fun X => thXv (v := .int .i64 ((zb.length : Int))) rfl rfl (thCons (show Is _ (.i .i64 (.ofNat 0)) (.int .i64 ((0 : Int))) from isTo (v := .int .i64 0) (isI _ _) (by first | rfl | (congr 1; omega))) (thXv (v := rwG prC zb) rfl rfl (thNil)))) (by kernel_rfl) (thx := [(4, .x 0), (2000004, .x 2000000)]) (thXv (v := St' (pS zb)) rfl rfl (thXv (v := rwG prC zb) rfl rfl (thNil))) (by kernel_rfl)⟩) (lfCons (lpKnown rfl ⟨0, keyBe, lfOkBe_0 (l := lf50) (h := lh50) (0, (0 : Nat)) (mkIBe 0 (0 : Nat) ⟨trivial, by omega⟩) rfl (by kernel_rfl) (th0 := []) (sg0 := [(300, 282)]) (fun X => thNil) (by kernel_rfl) (thx := []) (thNil) (by kernel_rfl)⟩) (lfCons (lpKnown rfl ⟨0, keyBy5x340, lfOkBy5x340_0 (l := lf51) (h := lh51) zb (0, (0 : Int), ([] : LB)) (mkIBy5x340 zb 0 (0 : Int) ([] : LB) ⟨by omega, by omega, by omega, by assumption, by assumption, rfl, by simp, fun _ => rfl, by omega, by omega⟩) rfl (by kernel_rfl) (th0 := [(0, .x 2), (1, .i .i64 (.ofNat 0)), (2000000, .x 2000000)]) (sg0 := [(340, 320)]) (fun X => thXv (v := .int .i64 ((zb.length : Int))) rfl rfl (thCons (show Is _ (.i .i64 (.ofNat 0)) (.int .i64 ((0 : Int))) from isTo (v := .int .i64 0) (isI _ _) (by first | rfl | (congr 1; omega))) (thXv (v := rwG prC zb) rfl rfl (thNil)))) (by kernel_rfl) (thx := [(9, .x 0), (2000007, .x 2000000)]) (thXv (v := St' (pS zb)) rfl rfl (thXv (v := rwG prC zb) rfl rfl (thNil))) (by kernel_rfl)⟩) lfNil)))) (by omega) (get_lps2 (by omega) (by omega) (get_lps2 (by omega) (by omega) fi6_at)) fi6_body (lfCons (lpKnown rfl ⟨0, keyRd140, lfOkRd140_1 (l := lf48) (h := lh48) zb 0 rfl (by omega) (0, (pS zb), []) (mkIRd140 zb 0 0 (pS zb) [] ⟨by omega, (by rw [hX]; rfl), (by rw [hX]), by omega, fun _ => rfl, fun h => by omega, by omega⟩) rfl (by kernel_rfl) (th0 := [(0, .x 4)]) (sg0 := []) (fun X => thXv (v := St' (pS zb)) rfl rfl (thNil)) (by kernel_rfl) (thx := [(2000005, .x 2000000)]) (thXv (v := rwG prC zb) rfl rfl (thNil)) (by kernel_rfl)⟩) (lfCons (lpKnown rfl ⟨0, keyRd460, lfOkRd460_2 (l := lf52) (h := lh52) ((prS (fkS zb ct)).1) ((prS (fkS zb ct)).2) (by omega) (0, (fkS zb ct), []) (mkIRd460 ((prS (fkS zb ct)).1) ((prS (fkS zb ct)).2) 0 (fkS zb ct) [] ⟨by omega, rfl, rfl, by omega, fun _ => rfl, fun h => by omega, by omega⟩) rfl (by kernel_rfl) (th0 := [(0, .x 15)]) (sg0 := []) (fun X => thXv (v := St' (fkS zb ct)) rfl rfl (thNil)) (by kernel_rfl) (thx := [(16, .x 0)]) (thXe (v := St' (pmS ((((prS (fkS zb ct)).1).length : Int) + 1))) (u := St' (pmS (((prS (fkS zb ct)).1.length : Int) + 1))) rfl rfl (by first | rfl | (congr 1; omega)) (thNil)) (by kernel_rfl)⟩) lfNil))) (by omega) (get_lps2 (by omega) (by omega) (get_lps2 (by omega) (by omega) (get_lps2 (by omega) (by omega) fi7_at))) fi7_body (lfCons (lpKnown rfl ⟨0, keySp6, lfOkSp6_0 (l := lf49) (h := lh49) zb (0, (0 : Int)) (mkISp6 zb 0 (0 : Int) ⟨by omega, by omega, by omega, by assumption, by omega⟩) rfl (by kernel_rfl) (th0 := [(0, .i .i64 (.ofNat 0)), (2000000, .x 2000005), (2000001, .x 2000004)]) (sg0 := [(280, 140)]) (fun X => thCons (show Is _ (.i .i64 (.ofNat 0)) (.int .i64 ((0 : Int))) from isTo (v := .int .i64 0) (isI _ _) (by first | rfl | (congr 1; omega))) (thXv (v := rwG prC zb) rfl rfl (thXv (v := rwG prC zb) rfl rfl (thNil)))) (by kernel_rfl) (thx := [(2000006, .x 2000000)]) (thXv (v := rwG prC zb) rfl rfl (thNil)) (by kernel_rfl)⟩) lfNil)) rfl (get_lps2 (by omega) (by omega) (get_lps2 (by omega) (by omega) (get_lps2 (by omega) (by omega) (get_lps (by omega))))) fiB3 [.r 2000000 26 2 true, .r 2000000 26 2 true] [⟨blk_zb, base_zb, zb.length, es_zb⟩, ⟨blk_zb, base_zb, zb.length, es_zb⟩] (fun e => run3 e ) (args := [.slice ad_za 0 cp_za, .slice (some ⟨blk_zb, base_zb, none⟩) zb.length es_zb, .int .u16 ct]) ⟨_, _, rfl, ⟨_, _, rfl⟩, ⟨_, _, rfl, relSrN (by decide) rfl w_zb.room, ⟨_, _, rfl, rfl, rfl⟩⟩⟩ w hl rfl (by decide) (fun e => (argsCons (w_zb.arg (g_zb e ) rfl) (argsCons (w_zb.arg (g_zb e ) rfl) argsNil))) rfl
def hy4 : LK := [(.bytes [], .x 1),
  (.rn, .x 2000001),
  (.rl (.x 2000000) 2, .x 2),
  (.bin .gtr (.x 2) (.i .i64 (.ofNat 20)), .b false),
  (.bin .gtr (.x 2) (.i .i64 (.ofNat 0)), .b true),
  (.rr (.x 2000001) (.x 2000000), .x 2000002),
  (.rf (.x 2000002) 2 32, .b true),
  (.ra (.x 2000002) [], .x 2000003),
  (.rf (.x 2000003) 2 32, .b true),
  (.rl (.x 2000004) 2, .x 3),
  (.byt (.x 4) (.i .i64 (.ofNat 0)), .x 5),
  (.len (.x 4), .x 6),
  (.fit (.x 4), .b true),
  (.rl (.x 2000006) 2, .x 7),
  (.rl (.x 2000005) 2, .x 8),
  (.bin .neq (.x 7) (.x 8), .b false),
  (.byt (.x 9) (.i .i64 (.ofNat 0)), .x 10),
  (.len (.x 9), .x 11),
  (.fit (.x 9), .b true),
  (.bin .add (.x 9) (.s 0 0), .x 12),
  (.bin .neq (.x 4) (.x 12), .b false),
  (.bin .eql (.x 6) (.i .i64 (.ofNat 0)), .b false),
  (.conv 3 (.x 0), .x 13),
  (.bin .rem (.x 13) (.x 6), .x 14),
  (.sub (.x 4) none (some (.x 14)), .x 15),
  (.rl (.x 2000007) 2, .x 16),
  (.bin .lss (.i .i64 (.ofNat 0)) (.x 16), .b true),
  (.rt (.x 2000007) (.i .i64 (.ofNat 0)) 2, .x 2000009),
  (.rl (.x 2000009) 2, .i .i64 (.ofNat 0))]
def lh60 : LH := ⟨4, 20, 50, [(6, .r 2000003 26 2 false)], [(6, .r 2000004 26 2 false)]⟩
def lf60 : LF := ⟨7, 113, [(7, .sr 6), (8, .i .i64 (.ofNat 0))], [0, 1, 2], (.exit 0), [(7, .sr 6)], some lh60⟩
def lh61 : LH := ⟨4, 80, 120, [(6, .r 2000004 26 2 false), (50, .b ⟨40, .l [.nilp, .nils], 0, 0, 0, false, false⟩)], [(6, .r 2000005 26 2 false), (80, .b ⟨40, .l [.p 80 0, .sy 81], 0, 0, 0, false, false⟩), (81, .t 4 5)]⟩
def lf61 : LF := ⟨3, 30, [(3, .p 50 0), (6, .sr 6), (7, .x 3), (8, .i .i64 (.ofNat 0))], [], (.exit 0), [(3, .p 80 0)], some lh61⟩
def lh62 : LH := ⟨4, 140, 200, [], [(140, .r 2000006 26 2 false)]⟩
def lf62 : LF := ⟨2, 38, [(0, .x 4), (4, .nils)], [], (.exit 0), [(4, .sr 140)], some lh62⟩
def lh63 : LH := ⟨4, 280, 282, [(6, .r 2000005 26 2 false), (140, .r 2000006 26 2 false)], [(6, .r 2000007 26 2 false)]⟩
def lf63 : LF := ⟨4, 26, [(0, .sr 140), (1, .sr 6), (5, .i .i64 (.ofNat 0))], [], (.exit 0), [], some lh63⟩
def lh64 : LH := ⟨4, 340, 380, [(4, .r 2000000 26 2 true), (282, .b ⟨40, .l [.nilp, .nils], 0, 0, 0, false, false⟩)], [(4, .r 2000008 26 2 true), (340, .b ⟨40, .l [.p 340 0, .sy 341], 0, 0, 0, false, false⟩), (341, .t 9 5)]⟩
def lf64 : LF := ⟨3, 30, [(3, .p 282 0), (6, .sr 4), (7, .x 2), (8, .i .i64 (.ofNat 0))], [], (.exit 0), [(3, .p 340 0)], some lh64⟩
def lh65 : LH := ⟨4, 460, 520, [], []⟩
def lf65 : LF := ⟨2, 38, [(0, .x 15), (4, .nils)], [], (.exit 0), [(4, .nils)], some lh65⟩
noncomputable def tab4 : Tab := addLps (addLps (addLps (addLps ({ tabk with hyp := hy4 }) 3 fi3 [lf60]) 5 fi5 [lf61, lf64]) 6 fi6 [lf62, lf65]) 7 fi7 [lf63]
theorem run4 (e : Nat) : Go.AX.okB (call tab4 9000 3 [.sr 4, .es, .x 0] ⟨addR 4 [.r 2000000 26 2 true] (H0 e ), 4 + List.length (α := Ent) [.r 2000000 26 2 true], 0, 0⟩) = true := by kernel_rfl
def nu4 (blk_za : Nat) (base_za : Nat) (es_za : Nat) (za : List (LB × LB)) (ad_zb : Option Addr) (cp_zb : Nat) (ct : Int) : List Value := [.int .u16 (ct),
  St' ([] : LB),
  .int .i64 ((za.length : Int)),
  .int .i64 ((za.length : Int)),
  St' (pS za),
  .int .u8 (bt (pS za) 0),
  .int .i64 (((pS za).length : Int)),
  .int .i64 ((za.length : Int)),
  .int .i64 ((za.length : Int)),
  St' (pS za),
  .int .u8 (bt (pS za) 0),
  .int .i64 (((pS za).length : Int)),
  St' (pS za),
  .int .i64 (ct),
  .int .i64 (ct % ((pS za).length : Int)),
  St' (fkS za ct),
  .int .i64 ((za.length : Int))]
def ro4 (blk_za : Nat) (base_za : Nat) (es_za : Nat) (za : List (LB × LB)) (ad_zb : Option Addr) (cp_zb : Nat) (ct : Int) : List Value := [rwG prC za,
  rwS ([] : List LB),
  rwG prC za,
  rwG prC za,
  rwG prC za,
  rwG prC za,
  rwG prC za,
  rwG prC za,
  rwG prC za,
  rwG prC (za.take 0)]
theorem on4 (blk_za : Nat) (base_za : Nat) (es_za : Nat) (za : List (LB × LB)) (ad_zb : Option Addr) (cp_zb : Nat) (ct : Int) : ∀ j, (nuL (nu4 blk_za base_za es_za za ad_zb cp_zb ct) j).oneCell' = true := nuL_one (l := nu4 blk_za base_za es_za za ad_zb cp_zb ct) rfl
theorem path4 (blk_za : Nat) (base_za : Nat) (es_za : Nat) (za : List (LB × LB)) (ad_zb : Option Addr) (cp_zb : Nat) (ct : Int) (b0 : 1 ≤ za.length) (b1 : ∀ n, n ∈ za → prB n) (b2 : ∀ q, q ∈ za → q.1.length ≤ 140737488351232) (b3 : ∀ q, q ∈ za → q.2.length ≤ 140737488351232) (b4 : za.length ≤ 9223372036854775807) (b5 : 0 ≤ ct) (b6 : ct ≤ 65535) (h0 : ¬ (20 < (za.length : Int))) (h2 : ok6 za) (h5 : (prS (fkS za ct)).2 = 0) (h6 : (prS (fkS za ct)).1.length = 0) (w : World) (hl : laidE w) (w_za : InRow w 2 (za.flatMap prC) blk_za base_za za.length es_za) (g_za : ∀ e, (H0 e ).get blk_za = none) : CwR 3 #[.slice (some ⟨blk_za, base_za, none⟩) za.length es_za, .slice ad_zb 0 cp_zb, .int .u16 ct] w (.bool true) := by
  have hn0 : ([] : LB).length = 0 := rfl
  have hpl := pS_len za (by assumption)
  have := bt_lo (pS za) 0; have := bt_hi (pS za) 0
  have hX := pr_pS za (by assumption)
  have := Int.emod_nonneg ct (show (((pS za).length : Int)) ≠ 0 by omega); have := Int.emod_lt_of_pos ct (show 0 < (((pS za).length : Int)) by omega)
  obtain ⟨hf1, hf2, hf3, hf4⟩ := fkF (X := za) (ct := ct) (by assumption) (by omega) (by omega)
  have hfk := (hf4.resolve_left (by omega)).2.1; have hfl := (hf4.resolve_left (by omega)).2.2
  have ho : ∀ k r, (k, r) ∈ hy4 → HOk (cx (nuX (nu4 blk_za base_za es_za za ad_zb cp_zb ct) (rX (ro4 blk_za base_za es_za za ad_zb cp_zb ct) (fun _ => .bool true))) (nuX_one (on4 blk_za base_za es_za za ad_zb cp_zb ct)) 1 laidE laidE_stab) k r := by
    unfold hy4
    exact hc (kBytesB (bs := ([] : LB)) .nil (denX rfl)) <|
     hc (kRn (denX rfl)) <|
     hc (kRlG prC_len (isX rfl) (denX rfl) (by first | omega | (simp <;> omega))) <|
     hc (gtcF rfl (by omega)) <|
     hc (gtcT rfl (by omega)) <|
     hc (kRr (f := prC) (l := []) (m := za) (isX rfl) (isX rfl) (denX rfl)) <|
     hc (kRfG prC_len (isX rfl) (by first | omega | (simp <;> omega)) (by first | omega | (simp <;> omega))) <|
     hc (kRa0 (f := prC) (isX rfl) (denX rfl)) <|
     hc (kRfG prC_len (isX rfl) (by first | omega | (simp <;> omega)) (by first | omega | (simp <;> omega))) <|
     hc (kRlG prC_len (isX rfl) (denX rfl) (by first | omega | (simp <;> omega))) <|
     hc (kByt (i := 0) (isX rfl) (isZ (m := 0) rfl) (denX rfl) rfl (by first | omega | (simp <;> omega)) rfl) <|
     hc (lnV rfl rfl (by omega)) <|
     hc (kFit (isX rfl) (by first | omega | (simp <;> omega))) <|
     hc (kRlG prC_len (isX rfl) (denX rfl) (by first | omega | (simp <;> omega))) <|
     hc (kRlG prC_len (isX rfl) (denX rfl) (by first | omega | (simp <;> omega))) <|
     hc (kNeI (isX rfl) (isX rfl) (neF (by omega))) <|
     hc (kByt (i := 0) (isX rfl) (isZ (m := 0) rfl) (denX rfl) rfl (by first | omega | (simp <;> omega)) rfl) <|
     hc (lnV rfl rfl (by omega)) <|
     hc (kFit (isX rfl) (by first | omega | (simp <;> omega))) <|
     hc (kCat (isX rfl) (isSx (l := ([] : LB)) 0 0 rfl) (denX rfl) (by first | rfl | (simp; done)) (by omega)) <|
     hc (kNeS (isX rfl) (isX rfl) (bnF (decide_eq_true rfl))) <|
     hc (eqcF rfl (by omega)) <|
     hc (kConvF (isX rfl) tu3 (denX rfl) (fI64 (by omega) (by omega))) <|
     hc (kRem (isX rfl) (isX rfl) (denX rfl) (by omega) (by omega) rfl) <|
     hc (kMid (P := 0) (Q := ct % ((pS za).length : Int)) (isX rfl) (.inl ⟨rfl, rfl⟩) (.inr ⟨_, _, rfl, (isX rfl)⟩) (by omega) (by omega) (by omega) (denX (congrArg (fun l => St' l) (fk_mid (by omega))))) <|
     hc (kRlG prC_len (isX rfl) (denX rfl) (by first | omega | (simp <;> omega))) <|
     hc (kLt (isZ (m := 0) rfl) (isX rfl) (decide_eq_true (by omega))) <|
     hc (kRt (f := prC) (j := 0) prC_len (isX rfl) (isZ (m := 0) rfl) (denX rfl) (by omega) (by omega)) <|
     hc (kRlG prC_len (isX rfl) (denZ (m := 0) rfl) (by first | omega | (simp <;> omega))) <|
     hnil
  exact runPR (tb := tab4) (AllOk.lp1 (AllOk.lp1 (AllOk.lp1 (AllOk.lp1 ((tabkOk (nuX (nu4 blk_za base_za es_za za ad_zb cp_zb ct) (rX (ro4 blk_za base_za es_za za ad_zb cp_zb ct) (fun _ => .bool true))) (nuX_one (on4 blk_za base_za es_za za ad_zb cp_zb ct))).hyps ho) (by omega) fi3_at fi3_body (lfCons (lpKnown rfl ⟨0, keyOk6, lfOkOk6_0 (l := lf60) (h := lh60) za (by assumption) (0, (0 : Int)) (mkIOk6 za 0 (0 : Int) ⟨by omega, by omega, by omega, by assumption, (fun q hq => nomatch hq), by omega⟩) rfl (by kernel_rfl) (th0 := [(0, .i .i64 (.ofNat 0)), (2000000, .x 2000003)]) (sg0 := []) (fun X => thCons (show Is _ (.i .i64 (.ofNat 0)) (.int .i64 ((0 : Int))) from isTo (v := .int .i64 0) (isI _ _) (by first | rfl | (congr 1; omega))) (thXv (v := rwG prC za) rfl rfl (thNil))) (by kernel_rfl) (thx := [(2000004, .x 2000000)]) (thXv (v := rwG prC za) rfl rfl (thNil)) (by kernel_rfl)⟩) lfNil)) (by omega) (get_lps2 (by omega) (by omega) fi5_at) fi5_body (lfCons (lpKnown rfl ⟨0, keyBy6x80, lfOkBy6x80_0 (l := lf61) (h := lh61) za (0, (0 : Int), ([] : LB)) (mkIBy6x80 za 0 (0 : Int) ([] : LB) ⟨by omega, by omega, by omega, by assumption, by assumption, rfl, by simp, fun _ => rfl, by omega, by omega⟩) rfl (by kernel_rfl) (th0 := [(0, .x 3), (1, .i .i64 (.ofNat 0)), (2000000, .x 2000004)]) (sg0 := [(80, 50)]) (fun X => thXv (v := .int .i64 ((za.length : Int))) rfl rfl (thCons (show Is _ (.i .i64 (.ofNat 0)) (.int .i64 ((0 : Int))) from isTo (v := .int .i64 0) (isI _ _) (by first | rfl | (congr 1; omega))) (thXv (v := rwG prC za) rfl rfl (thNil)))) (by kernel_rfl) (thx := [(4, .x 0), (2000005, .x 2000000)]) (thXv (v := St' (pS za)) rfl rfl (thXv (v := rwG prC za) rfl rfl (thNil))) (by kernel_rfl)⟩) (lfCons (lpKnown rfl ⟨0, keyBy4x340, lfOkBy4x340_0 (l := lf64) (h := lh64) za (0, (0 : Int), ([] : LB)) (mkIBy4x340 za 0 (0 : Int) ([] : LB) ⟨by omega, by omega, by omega, by assumption, by assumption, rfl, by simp, fun _ => rfl, by omega, by omega⟩) rfl (by kernel_rfl) (th0 := [(0, .x 2), (1, .i .i64 (.ofNat 0)), (2000000, .x 2000000)]) (sg0 := [(340, 282)]) (fun X => thXv (v := .int .i64 ((za.length : Int))) rfl rfl (thCons (show Is _ (.i .i64 (.ofNat 0)) (.int .i64 ((0 : Int))) from isTo (v := .int .i64 0) (isI _ _) (by first | rfl | (congr 1; omega))) (thXv (v := rwG prC za) rfl rfl (thNil)))) (by kernel_rfl) (thx := [(9, .x 0), (2000008, .x 2000000)]) (thXv (v := St' (pS za)) rfl rfl (thXv (v := rwG prC za) rfl rfl (thNil))) (by kernel_rfl)⟩) lfNil))) (by omega) (get_lps2 (by omega) (by omega) (get_lps2 (by omega) (by omega) fi6_at)) fi6_body (lfCons (lpKnown rfl ⟨0, keyRd140, lfOkRd140_1 (l := lf62) (h := lh62) za 0 rfl (by omega) (0, (pS za), []) (mkIRd140 za 0 0 (pS za) [] ⟨by omega, (by rw [hX]; rfl), (by rw [hX]), by omega, fun _ => rfl, fun h => by omega, by omega⟩) rfl (by kernel_rfl) (th0 := [(0, .x 4)]) (sg0 := []) (fun X => thXv (v := St' (pS za)) rfl rfl (thNil)) (by kernel_rfl) (thx := [(2000006, .x 2000000)]) (thXv (v := rwG prC za) rfl rfl (thNil)) (by kernel_rfl)⟩) (lfCons (lpKnown rfl ⟨0, keyRd460, lfOkRd460_0 (l := lf65) (h := lh65) ((prS (fkS za ct)).1) ((prS (fkS za ct)).2) (by omega) (by omega) (0, (fkS za ct), []) (mkIRd460 ((prS (fkS za ct)).1) ((prS (fkS za ct)).2) 0 (fkS za ct) [] ⟨by omega, rfl, rfl, by omega, fun _ => rfl, fun h => by omega, by omega⟩) rfl (by kernel_rfl) (th0 := [(0, .x 15)]) (sg0 := []) (fun X => thXv (v := St' (fkS za ct)) rfl rfl (thNil)) (by kernel_rfl) (thx := []) (thNil) (by kernel_rfl)⟩) lfNil))) (by omega) (get_lps2 (by omega) (by omega) (get_lps2 (by omega) (by omega) (get_lps2 (by omega) (by omega) fi7_at))) fi7_body (lfCons (lpKnown rfl ⟨0, keySp6, lfOkSp6_0 (l := lf63) (h := lh63) za (0, (0 : Int)) (mkISp6 za 0 (0 : Int) ⟨by omega, by omega, by omega, by assumption, by omega⟩) rfl (by kernel_rfl) (th0 := [(0, .i .i64 (.ofNat 0)), (2000000, .x 2000006), (2000001, .x 2000005)]) (sg0 := [(280, 140)]) (fun X => thCons (show Is _ (.i .i64 (.ofNat 0)) (.int .i64 ((0 : Int))) from isTo (v := .int .i64 0) (isI _ _) (by first | rfl | (congr 1; omega))) (thXv (v := rwG prC za) rfl rfl (thXv (v := rwG prC za) rfl rfl (thNil)))) (by kernel_rfl) (thx := [(2000007, .x 2000000)]) (thXv (v := rwG prC za) rfl rfl (thNil)) (by kernel_rfl)⟩) lfNil)) rfl (get_lps2 (by omega) (by omega) (get_lps2 (by omega) (by omega) (get_lps2 (by omega) (by omega) (get_lps (by omega))))) fiB3 [.r 2000000 26 2 true] [⟨blk_za, base_za, za.length, es_za⟩] (fun e => run4 e ) (args := [.slice (some ⟨blk_za, base_za, none⟩) za.length es_za, .slice ad_zb 0 cp_zb, .int .u16 ct]) ⟨_, _, rfl, relSrN (by decide) rfl w_za.room, ⟨_, _, rfl, ⟨_, _, rfl⟩, ⟨_, _, rfl, rfl, rfl⟩⟩⟩ w hl rfl (by decide) (fun e => (argsCons (w_za.arg (g_za e ) rfl) argsNil)) rfl
def hy5 : LK := [(.bytes [], .x 1),
  (.rn, .x 2000001),
  (.rl (.x 2000000) 2, .x 2),
  (.bin .gtr (.x 2) (.i .i64 (.ofNat 20)), .b false),
  (.bin .gtr (.x 2) (.i .i64 (.ofNat 0)), .b true),
  (.rr (.x 2000001) (.x 2000000), .x 2000002),
  (.rf (.x 2000002) 2 32, .b true),
  (.ra (.x 2000002) [], .x 2000003),
  (.rf (.x 2000003) 2 32, .b true),
  (.rl (.x 2000004) 2, .x 3),
  (.byt (.x 4) (.i .i64 (.ofNat 0)), .x 5),
  (.len (.x 4), .x 6),
  (.fit (.x 4), .b true),
  (.rl (.x 2000006) 2, .x 7),
  (.rl (.x 2000005) 2, .x 8),
  (.bin .neq (.x 7) (.x 8), .b false),
  (.byt (.x 9) (.i .i64 (.ofNat 0)), .x 10),
  (.len (.x 9), .x 11),
  (.fit (.x 9), .b true),
  (.bin .add (.x 9) (.s 0 0), .x 12),
  (.bin .neq (.x 4) (.x 12), .b false),
  (.bin .eql (.x 6) (.i .i64 (.ofNat 0)), .b false),
  (.conv 3 (.x 0), .x 13),
  (.bin .rem (.x 13) (.x 6), .x 14),
  (.sub (.x 4) none (some (.x 14)), .x 15)]
def lh66 : LH := ⟨4, 20, 50, [(6, .r 2000003 26 2 false)], [(6, .r 2000004 26 2 false)]⟩
def lf66 : LF := ⟨7, 113, [(7, .sr 6), (8, .i .i64 (.ofNat 0))], [0, 1, 2], (.exit 0), [(7, .sr 6)], some lh66⟩
def lh67 : LH := ⟨4, 80, 120, [(6, .r 2000004 26 2 false), (50, .b ⟨40, .l [.nilp, .nils], 0, 0, 0, false, false⟩)], [(6, .r 2000005 26 2 false), (80, .b ⟨40, .l [.p 80 0, .sy 81], 0, 0, 0, false, false⟩), (81, .t 4 5)]⟩
def lf67 : LF := ⟨3, 30, [(3, .p 50 0), (6, .sr 6), (7, .x 3), (8, .i .i64 (.ofNat 0))], [], (.exit 0), [(3, .p 80 0)], some lh67⟩
def lh68 : LH := ⟨4, 140, 200, [], [(140, .r 2000006 26 2 false)]⟩
def lf68 : LF := ⟨2, 38, [(0, .x 4), (4, .nils)], [], (.exit 0), [(4, .sr 140)], some lh68⟩
def lh69 : LH := ⟨4, 280, 282, [(6, .r 2000005 26 2 false), (140, .r 2000006 26 2 false)], [(6, .r 2000007 26 2 false)]⟩
def lf69 : LF := ⟨4, 26, [(0, .sr 140), (1, .sr 6), (5, .i .i64 (.ofNat 0))], [], (.exit 0), [], some lh69⟩
def lh70 : LH := ⟨4, 340, 380, [(4, .r 2000000 26 2 true), (282, .b ⟨40, .l [.nilp, .nils], 0, 0, 0, false, false⟩)], [(4, .r 2000008 26 2 true), (340, .b ⟨40, .l [.p 340 0, .sy 341], 0, 0, 0, false, false⟩), (341, .t 9 5)]⟩
def lf70 : LF := ⟨3, 30, [(3, .p 282 0), (6, .sr 4), (7, .x 2), (8, .i .i64 (.ofNat 0))], [], (.exit 0), [(3, .p 340 0)], some lh70⟩
def lh71 : LH := ⟨4, 460, 520, [], []⟩
def lf71 : LF := ⟨2, 38, [(0, .x 15), (4, .nils)], [], .ret, [(2, .nils), (3, .ifc 56 (.ag [.i .i64 (.ofNat 11), .x 16]))], some lh71⟩
noncomputable def tab5 : Tab := addLps (addLps (addLps (addLps ({ tabk with hyp := hy5 }) 3 fi3 [lf66]) 5 fi5 [lf67, lf70]) 6 fi6 [lf68, lf71]) 7 fi7 [lf69]
theorem run5 (e : Nat) : Go.AX.okB (call tab5 9000 3 [.sr 4, .es, .x 0] ⟨addR 4 [.r 2000000 26 2 true] (H0 e ), 4 + List.length (α := Ent) [.r 2000000 26 2 true], 0, 0⟩) = true := by kernel_rfl
def nu5 (blk_za : Nat) (base_za : Nat) (es_za : Nat) (za : List (LB × LB)) (ad_zb : Option Addr) (cp_zb : Nat) (ct : Int) : List Value := [.int .u16 (ct),
  St' ([] : LB),
  .int .i64 ((za.length : Int)),
  .int .i64 ((za.length : Int)),
  St' (pS za),
  .int .u8 (bt (pS za) 0),
  .int .i64 (((pS za).length : Int)),
  .int .i64 ((za.length : Int)),
  .int .i64 ((za.length : Int)),
  St' (pS za),
  .int .u8 (bt (pS za) 0),
  .int .i64 (((pS za).length : Int)),
  St' (pS za),
  .int .i64 (ct),
  .int .i64 (ct % ((pS za).length : Int)),
  St' (fkS za ct),
  St' (pmS (((prS (fkS za ct)).1.length : Int) + 1))]
def ro5 (blk_za : Nat) (base_za : Nat) (es_za : Nat) (za : List (LB × LB)) (ad_zb : Option Addr) (cp_zb : Nat) (ct : Int) : List Value := [rwG prC za,
  rwS ([] : List LB),
  rwG prC za,
  rwG prC za,
  rwG prC za,
  rwG prC za,
  rwG prC za,
  rwG prC za,
  rwG prC za]
theorem on5 (blk_za : Nat) (base_za : Nat) (es_za : Nat) (za : List (LB × LB)) (ad_zb : Option Addr) (cp_zb : Nat) (ct : Int) : ∀ j, (nuL (nu5 blk_za base_za es_za za ad_zb cp_zb ct) j).oneCell' = true := nuL_one (l := nu5 blk_za base_za es_za za ad_zb cp_zb ct) rfl
theorem path5 (blk_za : Nat) (base_za : Nat) (es_za : Nat) (za : List (LB × LB)) (ad_zb : Option Addr) (cp_zb : Nat) (ct : Int) (b0 : 1 ≤ za.length) (b1 : ∀ n, n ∈ za → prB n) (b2 : ∀ q, q ∈ za → q.1.length ≤ 140737488351232) (b3 : ∀ q, q ∈ za → q.2.length ≤ 140737488351232) (b4 : za.length ≤ 9223372036854775807) (b5 : 0 ≤ ct) (b6 : ct ≤ 65535) (h0 : ¬ (20 < (za.length : Int))) (h2 : ok6 za) (h5 : ¬ ((prS (fkS za ct)).2 = 0)) (w : World) (hl : laidE w) (w_za : InRow w 2 (za.flatMap prC) blk_za base_za za.length es_za) (g_za : ∀ e, (H0 e ).get blk_za = none) : CwR 3 #[.slice (some ⟨blk_za, base_za, none⟩) za.length es_za, .slice ad_zb 0 cp_zb, .int .u16 ct] w (.bool true) := by
  have hn0 : ([] : LB).length = 0 := rfl
  have hpl := pS_len za (by assumption)
  have := bt_lo (pS za) 0; have := bt_hi (pS za) 0
  have hX := pr_pS za (by assumption)
  have := Int.emod_nonneg ct (show (((pS za).length : Int)) ≠ 0 by omega); have := Int.emod_lt_of_pos ct (show 0 < (((pS za).length : Int)) by omega)
  obtain ⟨hf1, hf2, hf3, hf4⟩ := fkF (X := za) (ct := ct) (by assumption) (by omega) (by omega)
  have ho : ∀ k r, (k, r) ∈ hy5 → HOk (cx (nuX (nu5 blk_za base_za es_za za ad_zb cp_zb ct) (rX (ro5 blk_za base_za es_za za ad_zb cp_zb ct) (fun _ => .bool true))) (nuX_one (on5 blk_za base_za es_za za ad_zb cp_zb ct)) 1 laidE laidE_stab) k r := by
    unfold hy5
    exact hc (kBytesB (bs := ([] : LB)) .nil (denX rfl)) <|
     hc (kRn (denX rfl)) <|
     hc (kRlG prC_len (isX rfl) (denX rfl) (by first | omega | (simp <;> omega))) <|
     hc (gtcF rfl (by omega)) <|
     hc (gtcT rfl (by omega)) <|
     hc (kRr (f := prC) (l := []) (m := za) (isX rfl) (isX rfl) (denX rfl)) <|
     hc (kRfG prC_len (isX rfl) (by first | omega | (simp <;> omega)) (by first | omega | (simp <;> omega))) <|
     hc (kRa0 (f := prC) (isX rfl) (denX rfl)) <|
     hc (kRfG prC_len (isX rfl) (by first | omega | (simp <;> omega)) (by first | omega | (simp <;> omega))) <|
     hc (kRlG prC_len (isX rfl) (denX rfl) (by first | omega | (simp <;> omega))) <|
     hc (kByt (i := 0) (isX rfl) (isZ (m := 0) rfl) (denX rfl) rfl (by first | omega | (simp <;> omega)) rfl) <|
     hc (lnV rfl rfl (by omega)) <|
     hc (kFit (isX rfl) (by first | omega | (simp <;> omega))) <|
     hc (kRlG prC_len (isX rfl) (denX rfl) (by first | omega | (simp <;> omega))) <|
     hc (kRlG prC_len (isX rfl) (denX rfl) (by first | omega | (simp <;> omega))) <|
     hc (kNeI (isX rfl) (isX rfl) (neF (by omega))) <|
     hc (kByt (i := 0) (isX rfl) (isZ (m := 0) rfl) (denX rfl) rfl (by first | omega | (simp <;> omega)) rfl) <|
     hc (lnV rfl rfl (by omega)) <|
     hc (kFit (isX rfl) (by first | omega | (simp <;> omega))) <|
     hc (kCat (isX rfl) (isSx (l := ([] : LB)) 0 0 rfl) (denX rfl) (by first | rfl | (simp; done)) (by omega)) <|
     hc (kNeS (isX rfl) (isX rfl) (bnF (decide_eq_true rfl))) <|
     hc (eqcF rfl (by omega)) <|
     hc (kConvF (isX rfl) tu3 (denX rfl) (fI64 (by omega) (by omega))) <|
     hc (kRem (isX rfl) (isX rfl) (denX rfl) (by omega) (by omega) rfl) <|
     hc (kMid (P := 0) (Q := ct % ((pS za).length : Int)) (isX rfl) (.inl ⟨rfl, rfl⟩) (.inr ⟨_, _, rfl, (isX rfl)⟩) (by omega) (by omega) (by omega) (denX (congrArg (fun l => St' l) (fk_mid (by omega))))) <|
     hnil
  exact runPR (tb := tab5) (AllOk.lp1 (AllOk.lp1 (AllOk.lp1 (AllOk.lp1 ((tabkOk (nuX (nu5 blk_za base_za es_za za ad_zb cp_zb ct) (rX (ro5 blk_za base_za es_za za ad_zb cp_zb ct) (fun _ => .bool true))) (nuX_one (on5 blk_za base_za es_za za ad_zb cp_zb ct))).hyps ho) (by omega) fi3_at fi3_body (lfCons (lpKnown rfl ⟨0, keyOk6, lfOkOk6_0 (l := lf66) (h := lh66) za (by assumption) (0, (0 : Int)) (mkIOk6 za 0 (0 : Int) ⟨by omega, by omega, by omega, by assumption, (fun q hq => nomatch hq), by omega⟩) rfl (by kernel_rfl) (th0 := [(0, .i .i64 (.ofNat 0)), (2000000, .x 2000003)]) (sg0 := []) (fun X => thCons (show Is _ (.i .i64 (.ofNat 0)) (.int .i64 ((0 : Int))) from isTo (v := .int .i64 0) (isI _ _) (by first | rfl | (congr 1; omega))) (thXv (v := rwG prC za) rfl rfl (thNil))) (by kernel_rfl) (thx := [(2000004, .x 2000000)]) (thXv (v := rwG prC za) rfl rfl (thNil)) (by kernel_rfl)⟩) lfNil)) (by omega) (get_lps2 (by omega) (by omega) fi5_at) fi5_body (lfCons (lpKnown rfl ⟨0, keyBy6x80, lfOkBy6x80_0 (l := lf67) (h := lh67) za (0, (0 : Int), ([] : LB)) (mkIBy6x80 za 0 (0 : Int) ([] : LB) ⟨by omega, by omega, by omega, by assumption, by assumption, rfl, by simp, fun _ => rfl, by omega, by omega⟩) rfl (by kernel_rfl) (th0 := [(0, .x 3), (1, .i .i64 (.ofNat 0)), (2000000, .x 2000004)]) (sg0 := [(80, 50)]) (fun X => thXv (v := .int .i64 ((za.length : Int))) rfl rfl (thCons (show Is _ (.i .i64 (.ofNat 0)) (.int .i64 ((0 : Int))) from isTo (v := .int .i64 0) (isI _ _) (by first | rfl | (congr 1; omega))) (thXv (v := rwG prC za) rfl rfl (thNil)))) (by kernel_rfl) (thx := [(4, .x 0), (2000005, .x 2000000)]) (thXv (v := St' (pS za)) rfl rfl (thXv (v := rwG prC za) rfl rfl (thNil))) (by kernel_rfl)⟩) (lfCons (lpKnown rfl ⟨0, keyBy4x340, lfOkBy4x340_0 (l := lf70) (h := lh70) za (0, (0 : Int), ([] : LB)) (mkIBy4x340 za 0 (0 : Int) ([] : LB) ⟨by omega, by omega, by omega, by assumption, by assumption, rfl, by simp, fun _ => rfl, by omega, by omega⟩) rfl (by kernel_rfl) (th0 := [(0, .x 2), (1, .i .i64 (.ofNat 0)), (2000000, .x 2000000)]) (sg0 := [(340, 282)]) (fun X => thXv (v := .int .i64 ((za.length : Int))) rfl rfl (thCons (show Is _ (.i .i64 (.ofNat 0)) (.int .i64 ((0 : Int))) from isTo (v := .int .i64 0) (isI _ _) (by first | rfl | (congr 1; omega))) (thXv (v := rwG prC za) rfl rfl (thNil)))) (by kernel_rfl) (thx := [(9, .x 0), (2000008, .x 2000000)]) (thXv (v := St' (pS za)) rfl rfl (thXv (v := rwG prC za) rfl rfl (thNil))) (by kernel_rfl)⟩) lfNil))) (by omega) (get_lps2 (by omega) (by omega) (get_lps2 (by omega) (by omega) fi6_at)) fi6_body (lfCons (lpKnown rfl ⟨0, keyRd140, lfOkRd140_1 (l := lf68) (h := lh68) za 0 rfl (by omega) (0, (pS za), []) (mkIRd140 za 0 0 (pS za) [] ⟨by omega, (by rw [hX]; rfl), (by rw [hX]), by omega, fun _ => rfl, fun h => by omega, by omega⟩) rfl (by kernel_rfl) (th0 := [(0, .x 4)]) (sg0 := []) (fun X => thXv (v := St' (pS za)) rfl rfl (thNil)) (by kernel_rfl) (thx := [(2000006, .x 2000000)]) (thXv (v := rwG prC za) rfl rfl (thNil)) (by kernel_rfl)⟩) (lfCons (lpKnown rfl ⟨0, keyRd460, lfOkRd460_2 (l := lf71) (h := lh71) ((prS (fkS za ct)).1) ((prS (fkS za ct)).2) (by omega) (0, (fkS za ct), []) (mkIRd460 ((prS (fkS za ct)).1) ((prS (fkS za ct)).2) 0 (fkS za ct) [] ⟨by omega, rfl, rfl, by omega, fun _ => rfl, fun h => by omega, by omega⟩) rfl (by kernel_rfl) (th0 := [(0, .x 15)]) (sg0 := []) (fun X => thXv (v := St' (fkS za ct)) rfl rfl (thNil)) (by kernel_rfl) (thx := [(16, .x 0)]) (thXe (v := St' (pmS ((((prS (fkS za ct)).1).length : Int) + 1))) (u := St' (pmS (((prS (fkS za ct)).1.length : Int) + 1))) rfl rfl (by first | rfl | (congr 1; omega)) (thNil)) (by kernel_rfl)⟩) lfNil))) (by omega) (get_lps2 (by omega) (by omega) (get_lps2 (by omega) (by omega) (get_lps2 (by omega) (by omega) fi7_at))) fi7_body (lfCons (lpKnown rfl ⟨0, keySp6, lfOkSp6_0 (l := lf69) (h := lh69) za (0, (0 : Int)) (mkISp6 za 0 (0 : Int) ⟨by omega, by omega, by omega, by assumption, by omega⟩) rfl (by kernel_rfl) (th0 := [(0, .i .i64 (.ofNat 0)), (2000000, .x 2000006), (2000001, .x 2000005)]) (sg0 := [(280, 140)]) (fun X => thCons (show Is _ (.i .i64 (.ofNat 0)) (.int .i64 ((0 : Int))) from isTo (v := .int .i64 0) (isI _ _) (by first | rfl | (congr 1; omega))) (thXv (v := rwG prC za) rfl rfl (thXv (v := rwG prC za) rfl rfl (thNil)))) (by kernel_rfl) (thx := [(2000007, .x 2000000)]) (thXv (v := rwG prC za) rfl rfl (thNil)) (by kernel_rfl)⟩) lfNil)) rfl (get_lps2 (by omega) (by omega) (get_lps2 (by omega) (by omega) (get_lps2 (by omega) (by omega) (get_lps (by omega))))) fiB3 [.r 2000000 26 2 true] [⟨blk_za, base_za, za.length, es_za⟩] (fun e => run5 e ) (args := [.slice (some ⟨blk_za, base_za, none⟩) za.length es_za, .slice ad_zb 0 cp_zb, .int .u16 ct]) ⟨_, _, rfl, relSrN (by decide) rfl w_za.room, ⟨_, _, rfl, ⟨_, _, rfl⟩, ⟨_, _, rfl, rfl, rfl⟩⟩⟩ w hl rfl (by decide) (fun e => (argsCons (w_za.arg (g_za e ) rfl) argsNil)) rfl
end Go.Proofs.YtnaffjionjndgaaDoor.pairBack
