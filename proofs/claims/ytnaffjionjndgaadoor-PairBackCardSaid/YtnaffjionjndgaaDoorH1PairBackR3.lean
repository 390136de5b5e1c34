/- A part of the proof: an interpreter of the model's own code on partly known states, and that what it answers is what the program answers. No condition of its own. -/
import Derived.Test.YtnaffjionjndgaaDoorH1PairBackO5
set_option maxRecDepth 100000
set_option linter.unusedVariables false
set_option linter.unusedSimpArgs false
set_option maxHeartbeats 4000000
namespace Go.Proofs.YtnaffjionjndgaaDoor.pairBack
open Go Go.AX Go.Proofs Go.Proofs.YtnaffjionjndgaaDoor
def hy9 : LK := [(.bytes [], .x 1),
  (.rn, .x 2000001),
  (.rl (.x 2000000) 2, .x 2),
  (.bin .gtr (.x 2) (.i .i64 (.ofNat 20)), .b false),
  (.bin .gtr (.x 2) (.i .i64 (.ofNat 0)), .b true),
  (.rr (.x 2000001) (.x 2000000), .x 2000002),
  (.rf (.x 2000002) 2 32, .b true),
  (.ra (.x 2000002) [], .x 2000003),
  (.rf (.x 2000003) 2 32, .b true),
  (.rl (.x 2000004) 2, .x 3),
  (.byt (.x 4) (.i .i64 (.ofNat 0)), .x 5),
  (.len (.x 4), .x 6),
  (.fit (.x 4), .b true),
  (.rl (.x 2000006) 2, .x 7),
  (.rl (.x 2000005) 2, .x 8),
  (.bin .neq (.x 7) (.x 8), .b false),
  (.byt (.x 9) (.i .i64 (.ofNat 0)), .x 10),
  (.len (.x 9), .x 11),
  (.fit (.x 9), .b true),
  (.bin .add (.x 9) (.s 0 0), .x 12),
  (.bin .neq (.x 4) (.x 12), .b false),
  (.bin .eql (.x 6) (.i .i64 (.ofNat 0)), .b false),
  (.conv 3 (.x 0), .x 13),
  (.bin .rem (.x 13) (.x 6), .x 14),
  (.sub (.x 4) none (some (.x 14)), .x 15),
  (.rl (.x 2000009) 2, .x 16),
  (.rl (.x 2000007) 2, .x 17),
  (.bin .lss (.x 16) (.x 17), .b true),
  (.rt (.x 2000007) (.x 16) 2, .x 2000010),
  (.rl (.x 2000010) 2, .x 18),
  (.bin .neq (.x 16) (.x 18), .b false)]
def lh129 : LH := ⟨4, 20, 50, [(6, .r 2000003 26 2 false)], [(6, .r 2000004 26 2 false)]⟩
def lf129 : LF := ⟨7, 113, [(7, .sr 6), (8, .i .i64 (.ofNat 0))], [0, 1, 2], (.exit 0), [(7, .sr 6)], some lh129⟩
def lh130 : LH := ⟨4, 80, 120, [(6, .r 2000004 26 2 false), (50, .b ⟨40, .l [.nilp, .nils], 0, 0, 0, false, false⟩)], [(6, .r 2000005 26 2 false), (80, .b ⟨40, .l [.p 80 0, .sy 81], 0, 0, 0, false, false⟩), (81, .t 4 5)]⟩
def lf130 : LF := ⟨3, 30, [(3, .p 50 0), (6, .sr 6), (7, .x 3), (8, .i .i64 (.ofNat 0))], [], (.exit 0), [(3, .p 80 0)], some lh130⟩
def lh131 : LH := ⟨4, 140, 200, [], [(140, .r 2000006 26 2 false)]⟩
def lf131 : LF := ⟨2, 38, [(0, .x 4), (4, .nils)], [], (.exit 0), [(4, .sr 140)], some lh131⟩
def lh132 : LH := ⟨4, 280, 282, [(6, .r 2000005 26 2 false), (140, .r 2000006 26 2 false)], [(6, .r 2000007 26 2 false)]⟩
def lf132 : LF := ⟨4, 26, [(0, .sr 140), (1, .sr 6), (5, .i .i64 (.ofNat 0))], [], (.exit 0), [], some lh132⟩
def lh133 : LH := ⟨4, 340, 380, [(4, .r 2000000 26 2 true), (282, .b ⟨40, .l [.nilp, .nils], 0, 0, 0, false, false⟩)], [(4, .r 2000008 26 2 true), (340, .b ⟨40, .l [.p 340 0, .sy 341], 0, 0, 0, false, false⟩), (341, .t 9 5)]⟩
def lf133 : LF := ⟨3, 30, [(3, .p 282 0), (6, .sr 4), (7, .x 2), (8, .i .i64 (.ofNat 0))], [], (.exit 0), [(3, .p 340 0)], some lh133⟩
def lh134 : LH := ⟨4, 460, 520, [], [(460, .r 2000009 26 2 false)]⟩
def lf134 : LF := ⟨2, 38, [(0, .x 15), (4, .nils)], [], (.exit 0), [(4, .sr 460)], some lh134⟩
def lh135 : LH := ⟨4, 600, 602, [(460, .r 2000009 26 2 false), (520, .r 2000010 26 2 false)], []⟩
def lf135 : LF := ⟨4, 26, [(0, .sr 460), (1, .sr 520), (5, .i .i64 (.ofNat 0))], [], (.exit 0), [], some lh135⟩
noncomputable def tab9 : Tab := addLps (addLps (addLps (addLps ({ tabk with hyp := hy9 }) 3 fi3 [lf129]) 5 fi5 [lf130, lf133]) 6 fi6 [lf131, lf134]) 7 fi7 [lf132, lf135]
theorem run9 (e : Nat) : Go.AX.okB (call tab9 9000 3 [.sr 4, .es, .x 0] ⟨addR 4 [.r 2000000 26 2 true] (H0 e ), 4 + List.length (α := Ent) [.r 2000000 26 2 true], 0, 0⟩) = true := by kernel_rfl
def nu9 (blk_za : Nat) (base_za : Nat) (es_za : Nat) (za : List (LB × LB)) (ad_zb : Option Addr) (cp_zb : Nat) (ct : Int) : List Value := [.int .u16 (ct),
  St' ([] : LB),
  .int .i64 ((za.length : Int)),
  .int .i64 ((za.length : Int)),
  St' (pS za),
  .int .u8 (bt (pS za) 0),
  .int .i64 (((pS za).length : Int)),
  .int .i64 ((za.length : Int)),
  .int .i64 ((za.length : Int)),
  St' (pS za),
  .int .u8 (bt (pS za) 0),
  .int .i64 (((pS za).length : Int)),
  St' (pS za),
  .int .i64 (ct),
  .int .i64 (ct % ((pS za).length : Int)),
  St' (fkS za ct),
  .int .i64 (((prS (fkS za ct)).1.length : Int)),
  .int .i64 ((za.length : Int)),
  .int .i64 (((prS (fkS za ct)).1.length : Int))]
def ro9 (blk_za : Nat) (base_za : Nat) (es_za : Nat) (za : List (LB × LB)) (ad_zb : Option Addr) (cp_zb : Nat) (ct : Int) : List Value := [rwG prC za,
  rwS ([] : List LB),
  rwG prC za,
  rwG prC za,
  rwG prC za,
  rwG prC za,
  rwG prC za,
  rwG prC za,
  rwG prC za,
  rwG prC ((prS (fkS za ct)).1),
  rwG prC ((prS (fkS za ct)).1)]
theorem on9 (blk_za : Nat) (base_za : Nat) (es_za : Nat) (za : List (LB × LB)) (ad_zb : Option Addr) (cp_zb : Nat) (ct : Int) : ∀ j, (nuL (nu9 blk_za base_za es_za za ad_zb cp_zb ct) j).oneCell' = true := nuL_one (l := nu9 blk_za base_za es_za za ad_zb cp_zb ct) rfl
theorem path9 (blk_za : Nat) (base_za : Nat) (es_za : Nat) (za : List (LB × LB)) (ad_zb : Option Addr) (cp_zb : Nat) (ct : Int) (b0 : 1 ≤ za.length) (b1 : ∀ n, n ∈ za → prB n) (b2 : ∀ q, q ∈ za → q.1.length ≤ 140737488351232) (b3 : ∀ q, q ∈ za → q.2.length ≤ 140737488351232) (b4 : za.length ≤ 9223372036854775807) (b5 : 0 ≤ ct) (b6 : ct ≤ 65535) (h0 : ¬ (20 < (za.length : Int))) (h2 : ok6 za) (h5 : (prS (fkS za ct)).2 = 0) (h6 : ¬ ((prS (fkS za ct)).1.length = 0)) (w : World) (hl : laidE w) (w_za : InRow w 2 (za.flatMap prC) blk_za base_za za.length es_za) (g_za : ∀ e, (H0 e ).get blk_za = none) : CwR 3 #[.slice (some ⟨blk_za, base_za, none⟩) za.length es_za, .slice ad_zb 0 cp_zb, .int .u16 ct] w (.bool true) := by
  have hn0 : ([] : LB).length = 0 := rfl
  have hpl := pS_len za (by assumption)
  have := bt_lo (pS za) 0; have := bt_hi (pS za) 0
  have hX := pr_pS za (by assumption)
  have := Int.emod_nonneg ct (show (((pS za).length : Int)) ≠ 0 by omega); have := Int.emod_lt_of_pos ct (show 0 < (((pS za).length : Int)) by omega)
  obtain ⟨hf1, hf2, hf3, hf4⟩ := fkF (X := za) (ct := ct) (by assumption) (by omega) (by omega)
  have hfk := (hf4.resolve_left (by omega)).2.1; have hfl := (hf4.resolve_left (by omega)).2.2
  have ho : ∀ k r, (k, r) ∈ hy9 → HOk (cx (nuX (nu9 blk_za base_za es_za za ad_zb cp_zb ct) (rX (ro9 blk_za base_za es_za za ad_zb cp_zb ct) (fun _ => .bool true))) (nuX_one (on9 blk_za base_za es_za za ad_zb cp_zb ct)) 1 laidE laidE_stab) k r := by
    unfold hy9
    exact hc (kBytesB (bs := ([] : LB)) .nil (denX rfl)) <|
     hc (kRn (denX rfl)) <|
     hc (kRlG prC_len (isX rfl) (denX rfl) (by first | omega | (simp <;> omega))) <|
     hc (gtcF rfl (by omega)) <|
     hc (gtcT rfl (by omega)) <|
     hc (kRr (f := prC) (l := []) (m := za) (isX rfl) (isX rfl) (denX rfl)) <|
     hc (kRfG prC_len (isX rfl) (by first | omega | (simp <;> omega)) (by first | omega | (simp <;> omega))) <|
     hc (kRa0 (f := prC) (isX rfl) (denX rfl)) <|
     hc (kRfG prC_len (isX rfl) (by first | omega | (simp <;> omega)) (by first | omega | (simp <;> omega))) <|
     hc (kRlG prC_len (isX rfl) (denX rfl) (by first | omega | (simp <;> omega))) <|
     hc (kByt (i := 0) (isX rfl) (isZ (m := 0) rfl) (denX rfl) rfl (by first | omega | (simp <;> omega)) rfl) <|
     hc (lnV rfl rfl (by omega)) <|
     hc (kFit (isX rfl) (by first | omega | (simp <;> omega))) <|
     hc (kRlG prC_len (isX rfl) (denX rfl) (by first | omega | (simp <;> omega))) <|
     hc (kRlG prC_len (isX rfl) (denX rfl) (by first | omega | (simp <;> omega))) <|
     hc (kNeI (isX rfl) (isX rfl) (neF (by omega))) <|
     hc (kByt (i := 0) (isX rfl) (isZ (m := 0) rfl) (denX rfl) rfl (by first | omega | (simp <;> omega)) rfl) <|
     hc (lnV rfl rfl (by omega)) <|
     hc (kFit (isX rfl) (by first | omega | (simp <;> omega))) <|
     hc (kCat (isX rfl) (isSx (l := ([] : LB)) 0 0 rfl) (denX rfl) (by first | rfl | (simp; done)) (by omega)) <|
     hc (kNeS (isX rfl) (isX rfl) (bnF (decide_eq_true rfl))) <|
     hc (eqcF rfl (by omega)) <|
     hc (kConvF (isX rfl) tu3 (denX rfl) (fI64 (by omega) (by omega))) <|
     hc (kRem (isX rfl) (isX rfl) (denX rfl) (by omega) (by omega) rfl) <|
     hc (kMid (P := 0) (Q := ct % ((pS za).length : Int)) (isX rfl) (.inl ⟨rfl, rfl⟩) (.inr ⟨_, _, rfl, (isX rfl)⟩) (by omega) (by omega) (by omega) (denX (congrArg (fun l => St' l) (fk_mid (by omega))))) <|
     hc (kRlG prC_len (isX rfl) (denX rfl) (by first | omega | (simp <;> omega))) <|
     hc (kRlG prC_len (isX rfl) (denX rfl) (by first | omega | (simp <;> omega))) <|
     hc (ltT rfl rfl (by omega)) <|
     hc (kRt (f := prC) (j := (Int.toNat ((prS (fkS za ct)).1.length : Int))) prC_len (isX rfl) (isX rfl) (denX (congrArg (rwG prC) (hfk.trans (by rw [Int.toNat_natCast])))) (by omega) (by omega)) <|
     hc (kRlG prC_len (isX rfl) (denX rfl) (by first | omega | (simp <;> omega))) <|
     hc (kNeI (isX rfl) (isX rfl) (neF (by omega))) <|
     hnil
  exact runPR (tb := tab9) (AllOk.lp1 (AllOk.lp1 (AllOk.lp1 (AllOk.lp1 ((tabkOk (nuX (nu9 blk_za base_za es_za za ad_zb cp_zb ct) (rX (ro9 blk_za base_za es_za za ad_zb cp_zb ct) (fun _ => .bool true))) (nuX_one (on9 blk_za base_za es_za za ad_zb cp_zb ct))).hyps ho) (by omega) fi3_at fi3_body (lfCons (lpKnown rfl ⟨0, keyOk6, lfOkOk6_0 (l := lf129) (h := lh129) za (by assumption) (0, (0 : Int)) (mkIOk6 za 0 (0 : Int) ⟨by omega, by omega, by omega, by assumption, (fun q hq => nomatch hq), by omega⟩) rfl (by kernel_rfl) (th0 := [(0, .i .i64 (.ofNat 0)), (2000000, .x 2000003)]) (sg0 := []) (fun X => thCons (show Is _ (.i .i64 (.ofNat 0)) (.int .i64 ((0 : Int))) from isTo (v := .int .i64 0) (isI _ _) (by first | rfl | (congr 1; omega))) (thXv (v := rwG prC za) rfl rfl (thNil))) (by kernel_rfl) (thx := [(2000004, .x 2000000)]) (thXv (v := rwG prC za) rfl rfl (thNil)) (by kernel_rfl)⟩) lfNil)) (by omega) (get_lps2 (by omega) (by omega) fi5_at) fi5_body (lfCons (lpKnown rfl ⟨0, keyBy6x80, lfOkBy6x80_0 (l := lf130) (h := lh130) za (0, (0 : Int), ([] : LB)) (mkIBy6x80 za 0 (0 : Int) ([] : LB) ⟨by omega, by omega, by omega, by assumption, by assumption, rfl, by simp, fun _ => rfl, by omega, by omega⟩) rfl (by kernel_rfl) (th0 := [(0, .x 3), (1, .i .i64 (.ofNat 0)), (2000000, .x 2000004)]) (sg0 := [(80, 50)]) (fun X => thXv (v := .int .i64 ((za.length : Int))) rfl rfl (thCons (show Is _ (.i .i64 (.ofNat 0)) (.int .i64 ((0 : Int))) from isTo (v := .int .i64 0) (isI _ _) (by first | rfl | (congr 1; omega))) (thXv (v := rwG prC za) rfl rfl (thNil)))) (by kernel_rfl) (thx := [(4, .x 0), (2000005, .x 2000000)]) (thXv (v := St' (pS za)) rfl rfl (thXv (v := rwG prC za) rfl rfl (thNil))) (by kernel_rfl)⟩) (lfCons (lpKnown rfl ⟨0, keyBy4x340, lfOkBy4x340_0 (l := lf133) (h := lh133) za (0, (0 : Int), ([] : LB)) (mkIBy4x340 za 0 (0 : Int) ([] : LB) ⟨by omega, by omega, by omega, by assumption, by assumption, rfl, by simp, fun _ => rfl, by omega, by omega⟩) rfl (by kernel_rfl) (th0 := [(0, .x 2), (1, .i .i64 (.ofNat 0)), (2000000, .x 2000000)]) (sg0 := [(340, 282)]) (fun X => thXv (v := .int .i64 ((za.length : Int))) rfl rfl (thCons (show Is _ (.i .i64 (.ofNat 0)) (.int .i64 ((0 : Int))) from isTo (v := .int .i64 0) (isI _ _) (by first | rfl | (congr 1; omega))) (thXv (v := rwG prC za) rfl rfl (thNil)))) (by kernel_rfl) (thx := [(9, .x 0), (2000008, .x 2000000)]) (thXv (v := St' (pS za)) rfl rfl (thXv (v := rwG prC za) rfl rfl (thNil))) (by kernel_rfl)⟩) lfNil))) (by omega) (get_lps2 (by omega) (by omega) (get_lps2 (by omega) (by omega) fi6_at)) fi6_body (lfCons (lpKnown rfl ⟨0, keyRd140, lfOkRd140_1 (l := lf131) (h := lh131) za 0 rfl (by omega) (0, (pS za), []) (mkIRd140 za 0 0 (pS za) [] ⟨by omega, (by rw [hX]; rfl), (by rw [hX]), by omega, fun _ => rfl, fun h => by omega, by omega⟩) rfl (by kernel_rfl) (th0 := [(0, .x 4)]) (sg0 := []) (fun X => thXv (v := St' (pS za)) rfl rfl (thNil)) (by kernel_rfl) (thx := [(2000006, .x 2000000)]) (thXv (v := rwG prC za) rfl rfl (thNil)) (by kernel_rfl)⟩) (lfCons (lpKnown rfl ⟨0, keyRd460, lfOkRd460_1 (l := lf134) (h := lh134) ((prS (fkS za ct)).1) ((prS (fkS za ct)).2) (by omega) (by omega) (0, (fkS za ct), []) (mkIRd460 ((prS (fkS za ct)).1) ((prS (fkS za ct)).2) 0 (fkS za ct) [] ⟨by omega, rfl, rfl, by omega, fun _ => rfl, fun h => by omega, by omega⟩) rfl (by kernel_rfl) (th0 := [(0, .x 15)]) (sg0 := []) (fun X => thXv (v := St' (fkS za ct)) rfl rfl (thNil)) (by kernel_rfl) (thx := [(2000009, .x 2000000)]) (thXv (v := rwG prC ((prS (fkS za ct)).1)) rfl rfl (thNil)) (by kernel_rfl)⟩) lfNil))) (by omega) (get_lps2 (by omega) (by omega) (get_lps2 (by omega) (by omega) (get_lps2 (by omega) (by omega) fi7_at))) fi7_body (lfCons (lpKnown rfl ⟨0, keySp6, lfOkSp6_0 (l := lf132) (h := lh132) za (0, (0 : Int)) (mkISp6 za 0 (0 : Int) ⟨by omega, by omega, by omega, by assumption, by omega⟩) rfl (by kernel_rfl) (th0 := [(0, .i .i64 (.ofNat 0)), (2000000, .x 2000006), (2000001, .x 2000005)]) (sg0 := [(280, 140)]) (fun X => thCons (show Is _ (.i .i64 (.ofNat 0)) (.int .i64 ((0 : Int))) from isTo (v := .int .i64 0) (isI _ _) (by first | rfl | (congr 1; omega))) (thXv (v := rwG prC za) rfl rfl (thXv (v := rwG prC za) rfl rfl (thNil)))) (by kernel_rfl) (thx := [(2000007, .x 2000000)]) (thXv (v := rwG prC za) rfl rfl (thNil)) (by kernel_rfl)⟩) (lfCons (lpKnown rfl ⟨0, keySq, lfOkSq_0 (l := lf135) (h := lh135) ((prS (fkS za ct)).1) (0, (0 : Int)) (mkISq ((prS (fkS za ct)).1) 0 (0 : Int) ⟨by omega, by omega, by omega, pr_prB (by omega), by omega⟩) rfl (by kernel_rfl) (th0 := [(0, .i .i64 (.ofNat 0)), (2000000, .x 2000009), (2000001, .x 2000010)]) (sg0 := [(600, 460), (601, 520)]) (fun X => thCons (show Is _ (.i .i64 (.ofNat 0)) (.int .i64 ((0 : Int))) from isTo (v := .int .i64 0) (isI _ _) (by first | rfl | (congr 1; omega))) (thXv (v := rwG prC ((prS (fkS za ct)).1)) rfl rfl (thXv (v := rwG prC ((prS (fkS za ct)).1)) rfl rfl (thNil)))) (by kernel_rfl) (thx := []) (thNil) (by kernel_rfl)⟩) lfNil))) rfl (get_lps2 (by omega) (by omega) (get_lps2 (by omega) (by omega) (get_lps2 (by omega) (by omega) (get_lps (by omega))))) fiB3 [.r 2000000 26 2 true] [⟨blk_za, base_za, za.length, es_za⟩] (fun e => run9 e ) (args := [.slice (some ⟨blk_za, base_za, none⟩) za.length es_za, .slice ad_zb 0 cp_zb, .int .u16 ct]) ⟨_, _, rfl, relSrN (by decide) rfl w_za.room, ⟨_, _, rfl, ⟨_, _, rfl⟩, ⟨_, _, rfl, rfl, rfl⟩⟩⟩ w hl rfl (by decide) (fun e => (argsCons (w_za.arg (g_za e ) rfl) argsNil)) rfl
def hy10 : LK := [(.bytes [], .x 1),
  (.rn, .x 2000001),
  (.rl (.x 2000000) 2, .x 2),
  (.bin .gtr (.x 2) (.i .i64 (.ofNat 20)), .b true)]
theorem run10 (e : Nat) : Go.AX.okB (call (tbl hy10) 9000 3 [.sr 4, .es, .x 0] ⟨addR 4 [.r 2000000 26 2 true] (H0 e ), 4 + List.length (α := Ent) [.r 2000000 26 2 true], 0, 0⟩) = true := by kernel_rfl
def nu10 (blk_za : Nat) (base_za : Nat) (es_za : Nat) (za : List (LB × LB)) (ad_zb : Option Addr) (cp_zb : Nat) (ct : Int) : List Value := [.int .u16 (ct),
  St' ([] : LB),
  .int .i64 ((za.length : Int))]
def ro10 (blk_za : Nat) (base_za : Nat) (es_za : Nat) (za : List (LB × LB)) (ad_zb : Option Addr) (cp_zb : Nat) (ct : Int) : List Value := [rwG prC za,
  rwS ([] : List LB)]
theorem on10 (blk_za : Nat) (base_za : Nat) (es_za : Nat) (za : List (LB × LB)) (ad_zb : Option Addr) (cp_zb : Nat) (ct : Int) : ∀ j, (nuL (nu10 blk_za base_za es_za za ad_zb cp_zb ct) j).oneCell' = true := nuL_one (l := nu10 blk_za base_za es_za za ad_zb cp_zb ct) rfl
theorem path10 (blk_za : Nat) (base_za : Nat) (es_za : Nat) (za : List (LB × LB)) (ad_zb : Option Addr) (cp_zb : Nat) (ct : Int) (b0 : 1 ≤ za.length) (b1 : ∀ n, n ∈ za → prB n) (b2 : ∀ q, q ∈ za → q.1.length ≤ 140737488351232) (b3 : ∀ q, q ∈ za → q.2.length ≤ 140737488351232) (b4 : za.length ≤ 9223372036854775807) (b5 : 0 ≤ ct) (b6 : ct ≤ 65535) (h0 : 20 < (za.length : Int)) (w : World) (hl : laidE w) (w_za : InRow w 2 (za.flatMap prC) blk_za base_za za.length es_za) (g_za : ∀ e, (H0 e ).get blk_za = none) : CwR 3 #[.slice (some ⟨blk_za, base_za, none⟩) za.length es_za, .slice ad_zb 0 cp_zb, .int .u16 ct] w (.bool true) := by
  have hn0 : ([] : LB).length = 0 := rfl
  have ho : ∀ k r, (k, r) ∈ hy10 → HOk (cx (nuX (nu10 blk_za base_za es_za za ad_zb cp_zb ct) (rX (ro10 blk_za base_za es_za za ad_zb cp_zb ct) (fun _ => .bool true))) (nuX_one (on10 blk_za base_za es_za za ad_zb cp_zb ct)) 1 laidE laidE_stab) k r := by
    unfold hy10
    exact hc (kBytesB (bs := ([] : LB)) .nil (denX rfl)) <|
     hc (kRn (denX rfl)) <|
     hc (kRlG prC_len (isX rfl) (denX rfl) (by first | omega | (simp <;> omega))) <|
     hc (gtcT rfl (by omega)) <|
     hnil
  obtain ⟨fi, hfi, hb⟩ := fiE
  exact runPR (tb := (tbl hy10)) ((tabkOk (nuX (nu10 blk_za base_za es_za za ad_zb cp_zb ct) (rX (ro10 blk_za base_za es_za za ad_zb cp_zb ct) (fun _ => .bool true))) (nuX_one (on10 blk_za base_za es_za za ad_zb cp_zb ct))).hyps ho) rfl hfi hb [.r 2000000 26 2 true] [⟨blk_za, base_za, za.length, es_za⟩] (fun e => run10 e ) (args := [.slice (some ⟨blk_za, base_za, none⟩) za.length es_za, .slice ad_zb 0 cp_zb, .int .u16 ct]) ⟨_, _, rfl, relSrN (by decide) rfl w_za.room, ⟨_, _, rfl, ⟨_, _, rfl⟩, ⟨_, _, rfl, rfl, rfl⟩⟩⟩ w hl rfl (by decide) (fun e => (argsCons (w_za.arg (g_za e ) rfl) argsNil)) rfl
def hy11 : LK := [(.bytes [], .x 1),
  (.rn, .x 2000002),
  (.rl (.x 2000000) 2, .x 2),
  (.bin .gtr (.x 2) (.i .i64 (.ofNat 20)), .b true)]
theorem run11 (e : Nat) : Go.AX.okB (call (tbl hy11) 9000 3 [.sr 4, .sr 5, .x 0] ⟨addR 4 [.r 2000000 26 2 true, .r 2000001 26 2 true] (H0 e ), 4 + List.length (α := Ent) [.r 2000000 26 2 true, .r 2000001 26 2 true], 0, 0⟩) = true := by kernel_rfl
def nu11 (blk_za : Nat) (base_za : Nat) (es_za : Nat) (za : List (LB × LB)) (blk_zb : Nat) (base_zb : Nat) (es_zb : Nat) (zb : List (LB × LB)) (ct : Int) : List Value := [.int .u16 (ct),
  St' ([] : LB),
  .int .i64 ((za.length : Int))]
def ro11 (blk_za : Nat) (base_za : Nat) (es_za : Nat) (za : List (LB × LB)) (blk_zb : Nat) (base_zb : Nat) (es_zb : Nat) (zb : List (LB × LB)) (ct : Int) : List Value := [rwG prC za,
  rwG prC zb,
  rwS ([] : List LB)]
theorem on11 (blk_za : Nat) (base_za : Nat) (es_za : Nat) (za : List (LB × LB)) (blk_zb : Nat) (base_zb : Nat) (es_zb : Nat) (zb : List (LB × LB)) (ct : Int) : ∀ j, (nuL (nu11 blk_za base_za es_za za blk_zb base_zb es_zb zb ct) j).oneCell' = true := nuL_one (l := nu11 blk_za base_za es_za za blk_zb base_zb es_zb zb ct) rfl
theorem path11 (blk_za : Nat) (base_za : Nat) (es_za : Nat) (za : List (LB × LB)) (blk_zb : Nat) (base_zb : Nat) (es_zb : Nat) (zb : List (LB × LB)) (ct : Int) (b0 : 1 ≤ za.length) (b1 : ∀ n, n ∈ za → prB n) (b2 : ∀ q, q ∈ za → q.1.length ≤ 140737488351232) (b3 : ∀ q, q ∈ za → q.2.length ≤ 140737488351232) (b4 : za.length ≤ 9223372036854775807) (b5 : 1 ≤ zb.length) (b6 : ∀ n, n ∈ zb → prB n) (b7 : ∀ q, q ∈ zb → q.1.length ≤ 140737488351232) (b8 : ∀ q, q ∈ zb → q.2.length ≤ 140737488351232) (b9 : zb.length ≤ 9223372036854775807) (b10 : 0 ≤ ct) (b11 : ct ≤ 65535) (h0 : 20 < (za.length : Int)) (w : World) (hl : laidE w) (w_za : InRow w 2 (za.flatMap prC) blk_za base_za za.length es_za) (g_za : ∀ e, (H0 e ).get blk_za = none) (w_zb : InRow w 2 (zb.flatMap prC) blk_zb base_zb zb.length es_zb) (g_zb : ∀ e, (H0 e ).get blk_zb = none) : CwR 3 #[.slice (some ⟨blk_za, base_za, none⟩) za.length es_za, .slice (some ⟨blk_zb, base_zb, none⟩) zb.length es_zb, .int .u16 ct] w (.bool true) := by
  have hn0 : ([] : LB).length = 0 := rfl
  have ho : ∀ k r, (k, r) ∈ hy11 → HOk (cx (nuX (nu11 blk_za base_za es_za za blk_zb base_zb es_zb zb ct) (rX (ro11 blk_za base_za es_za za blk_zb base_zb es_zb zb ct) (fun _ => .bool true))) (nuX_one (on11 blk_za base_za es_za za blk_zb base_zb es_zb zb ct)) 1 laidE laidE_stab) k r := by
    unfold hy11
    exact hc (kBytesB (bs := ([] : LB)) .nil (denX rfl)) <|
     hc (kRn (denX rfl)) <|
     hc (kRlG prC_len (isX rfl) (denX rfl) (by first | omega | (simp <;> omega))) <|
     hc (gtcT rfl (by omega)) <|
     hnil
  obtain ⟨fi, hfi, hb⟩ := fiE
  exact runPR (tb := (tbl hy11)) ((tabkOk (nuX (nu11 blk_za base_za es_za za blk_zb base_zb es_zb zb ct) (rX (ro11 blk_za base_za es_za za blk_zb base_zb es_zb zb ct) (fun _ => .bool true))) (nuX_one (on11 blk_za base_za es_za za blk_zb base_zb es_zb zb ct))).hyps ho) rfl hfi hb [.r 2000000 26 2 true, .r 2000001 26 2 true] [⟨blk_za, base_za, za.length, es_za⟩, ⟨blk_zb, base_zb, zb.length, es_zb⟩] (fun e => run11 e ) (args := [.slice (some ⟨blk_za, base_za, none⟩) za.length es_za, .slice (some ⟨blk_zb, base_zb, none⟩) zb.length es_zb, .int .u16 ct]) ⟨_, _, rfl, relSrN (by decide) rfl w_za.room, ⟨_, _, rfl, relSrN (by decide) rfl w_zb.room, ⟨_, _, rfl, rfl, rfl⟩⟩⟩ w hl rfl (by decide) (fun e => (argsCons (w_za.arg (g_za e ) rfl) (argsCons (w_zb.arg (g_zb e ) rfl) argsNil))) rfl
end Go.Proofs.YtnaffjionjndgaaDoor.pairBack
