/- A part of the proof: an interpreter of the model's own code on partly known states, and that what it answers is what the program answers. No condition of its own. -/
import Derived.Test.YtnaffjionjndgaaDoorH1PairBackO5
set_option maxRecDepth 100000
set_option linter.unusedVariables false
set_option linter.unusedSimpArgs false
set_option maxHeartbeats 4000000
namespace Go.Proofs.YtnaffjionjndgaaDoor.pairBack
open Go Go.AX Go.Proofs Go.Proofs.YtnaffjionjndgaaDoor
def hy15 : LK := [(.bytes [], .x 1),
  (.rn, .x 2000001),
  (.rl (.x 2000000) 2, .x 2),
  (.bin .gtr (.x 2) (.i .i64 (.ofNat 20)), .b false),
  (.bin .gtr (.x 2) (.i .i64 (.ofNat 0)), .b true),
  (.rr (.x 2000001) (.x 2000000), .x 2000002),
  (.rf (.x 2000002) 2 32, .b true)]
def lh145 : LH := ⟨4, 20, 50, [(6, .r 2000002 26 2 false)], []⟩
def lf145 : LF := ⟨7, 113, [(7, .sr 6), (8, .i .i64 (.ofNat 0))], [0, 1, 2], .ret, [(6, .b true)], some lh145⟩
noncomputable def tab15 : Tab := addLps ({ tabk with hyp := hy15 }) 3 fi3 [lf145]
theorem run15 (e : Nat) : Go.AX.okB (call tab15 9000 3 [.es, .sr 5, .x 0] ⟨addR 4 [.r 2000000 26 2 true, .r 2000000 26 2 true] (H0 e ), 4 + List.length (α := Ent) [.r 2000000 26 2 true, .r 2000000 26 2 true], 0, 0⟩) = true := by kernel_rfl
def nu15 (ad_za : Option Addr) (cp_za : Nat) (blk_zb : Nat) (base_zb : Nat) (es_zb : Nat) (zb : List (LB × LB)) (ct : Int) : List Value := [.int .u16 (ct),
  St' ([] : LB),
  .int .i64 ((zb.length : Int))]
def ro15 (ad_za : Option Addr) (cp_za : Nat) (blk_zb : Nat) (base_zb : Nat) (es_zb : Nat) (zb : List (LB × LB)) (ct : Int) : List Value := [rwG prC zb,
  rwS ([] : List LB),
  rwG prC zb]
theorem on15 (ad_za : Option Addr) (cp_za : Nat) (blk_zb : Nat) (base_zb : Nat) (es_zb : Nat) (zb : List (LB × LB)) (ct : Int) : ∀ j, (nuL (nu15 ad_za cp_za blk_zb base_zb es_zb zb ct) j).oneCell' = true := nuL_one (l := nu15 ad_za cp_za blk_zb base_zb es_zb zb ct) rfl
theorem path15 (ad_za : Option Addr) (cp_za : Nat) (blk_zb : Nat) (base_zb : Nat) (es_zb : Nat) (zb : List (LB × LB)) (ct : Int) (b0 : 1 ≤ zb.length) (b1 : ∀ n, n ∈ zb → prB n) (b2 : ∀ q, q ∈ zb → q.1.length ≤ 140737488351232) (b3 : ∀ q, q ∈ zb → q.2.length ≤ 140737488351232) (b4 : zb.length ≤ 9223372036854775807) (b5 : 0 ≤ ct) (b6 : ct ≤ 65535) (h0 : ¬ (20 < (zb.length : Int))) (h2 : ¬ (ok6 zb)) (w : World) (hl : laidE w) (w_zb : InRow w 2 (zb.flatMap prC) blk_zb base_zb zb.length es_zb) (g_zb : ∀ e, (H0 e ).get blk_zb = none) : CwR 3 #[.slice ad_za 0 cp_za, .slice (some ⟨blk_zb, base_zb, none⟩) zb.length es_zb, .int .u16 ct] w (.bool true) := by
  have hn0 : ([] : LB).length = 0 := rfl
  have ho : ∀ k r, (k, r) ∈ hy15 → HOk (cx (nuX (nu15 ad_za cp_za blk_zb base_zb es_zb zb ct) (rX (ro15 ad_za cp_za blk_zb base_zb es_zb zb ct) (fun _ => .bool true))) (nuX_one (on15 ad_za cp_za blk_zb base_zb es_zb zb ct)) 1 laidE laidE_stab) k r := by
    unfold hy15
    exact hc (kBytesB (bs := ([] : LB)) .nil (denX rfl)) <|
     hc (kRn (denX rfl)) <|
     hc (kRlG prC_len (isX rfl) (denX rfl) (by first | omega | (simp <;> omega))) <|
     hc (gtcF rfl (by omega)) <|
     hc (gtcT rfl (by omega)) <|
     hc (kRr (f := prC) (l := []) (m := zb) (isX rfl) (isX rfl) (denX rfl)) <|
     hc (kRfG prC_len (isX rfl) (by first | omega | (simp <;> omega)) (by first | omega | (simp <;> omega))) <|
     hnil
  exact runPR (tb := tab15) (AllOk.lp1 ((tabkOk (nuX (nu15 ad_za cp_za blk_zb base_zb es_zb zb ct) (rX (ro15 ad_za cp_za blk_zb base_zb es_zb zb ct) (fun _ => .bool true))) (nuX_one (on15 ad_za cp_za blk_zb base_zb es_zb zb ct))).hyps ho) (by omega) fi3_at fi3_body (lfCons (lpKnown rfl ⟨0, keyOk6, lfOkOk6_1 (l := lf145) (h := lh145) zb (by assumption) (0, (0 : Int)) (mkIOk6 zb 0 (0 : Int) ⟨by omega, by omega, by omega, by assumption, (fun q hq => nomatch hq), by omega⟩) rfl (by kernel_rfl) (th0 := [(0, .i .i64 (.ofNat 0)), (2000000, .x 2000002)]) (sg0 := []) (fun X => thCons (show Is _ (.i .i64 (.ofNat 0)) (.int .i64 ((0 : Int))) from isTo (v := .int .i64 0) (isI _ _) (by first | rfl | (congr 1; omega))) (thXv (v := rwG prC zb) rfl rfl (thNil))) (by kernel_rfl) (thx := []) (thNil) (by kernel_rfl)⟩) lfNil)) rfl (get_lps (by omega)) fiB3 [.r 2000000 26 2 true, .r 2000000 26 2 true] [⟨blk_zb, base_zb, zb.length, es_zb⟩, ⟨blk_zb, base_zb, zb.length, es_zb⟩] (fun e => run15 e ) (args := [.slice ad_za 0 cp_za, .slice (some ⟨blk_zb, base_zb, none⟩) zb.length es_zb, .int .u16 ct]) ⟨_, _, rfl, ⟨_, _, rfl⟩, ⟨_, _, rfl, relSrN (by decide) rfl w_zb.room, ⟨_, _, rfl, rfl, rfl⟩⟩⟩ w hl rfl (by decide) (fun e => (argsCons (w_zb.arg (g_zb e ) rfl) (argsCons (w_zb.arg (g_zb e ) rfl) argsNil))) rfl
def hy16 : LK := [(.bytes [], .x 1),
  (.rn, .x 2000002),
  (.rl (.x 2000000) 2, .x 2),
  (.bin .gtr (.x 2) (.i .i64 (.ofNat 20)), .b false),
  (.rl (.x 2000001) 2, .x 3),
  (.bin .gtr (.x 3) (.i .i64 (.ofNat 20)), .b false),
  (.bin .gtr (.x 2) (.i .i64 (.ofNat 0)), .b true),
  (.rr (.x 2000002) (.x 2000000), .x 2000003),
  (.rf (.x 2000003) 2 32, .b true),
  (.rr (.x 2000003) (.x 2000001), .x 2000004),
  (.rf (.x 2000004) 2 32, .b true)]
def lh146 : LH := ⟨4, 20, 50, [(7, .r 2000004 26 2 false)], []⟩
def lf146 : LF := ⟨7, 113, [(7, .sr 7), (8, .i .i64 (.ofNat 0))], [0, 1, 2], .ret, [(6, .b true)], some lh146⟩
noncomputable def tab16 : Tab := addLps ({ tabk with hyp := hy16 }) 3 fi3 [lf146]
theorem run16 (e : Nat) : Go.AX.okB (call tab16 9000 3 [.sr 4, .sr 5, .x 0] ⟨addR 4 [.r 2000000 26 2 true, .r 2000001 26 2 true] (H0 e ), 4 + List.length (α := Ent) [.r 2000000 26 2 true, .r 2000001 26 2 true], 0, 0⟩) = true := by kernel_rfl
def nu16 (blk_za : Nat) (base_za : Nat) (es_za : Nat) (za : List (LB × LB)) (blk_zb : Nat) (base_zb : Nat) (es_zb : Nat) (zb : List (LB × LB)) (ct : Int) : List Value := [.int .u16 (ct),
  St' ([] : LB),
  .int .i64 ((za.length : Int)),
  .int .i64 ((zb.length : Int))]
def ro16 (blk_za : Nat) (base_za : Nat) (es_za : Nat) (za : List (LB × LB)) (blk_zb : Nat) (base_zb : Nat) (es_zb : Nat) (zb : List (LB × LB)) (ct : Int) : List Value := [rwG prC za,
  rwG prC zb,
  rwS ([] : List LB),
  rwG prC za,
  rwG prC (za ++ zb)]
theorem on16 (blk_za : Nat) (base_za : Nat) (es_za : Nat) (za : List (LB × LB)) (blk_zb : Nat) (base_zb : Nat) (es_zb : Nat) (zb : List (LB × LB)) (ct : Int) : ∀ j, (nuL (nu16 blk_za base_za es_za za blk_zb base_zb es_zb zb ct) j).oneCell' = true := nuL_one (l := nu16 blk_za base_za es_za za blk_zb base_zb es_zb zb ct) rfl
theorem path16 (blk_za : Nat) (base_za : Nat) (es_za : Nat) (za : List (LB × LB)) (blk_zb : Nat) (base_zb : Nat) (es_zb : Nat) (zb : List (LB × LB)) (ct : Int) (b0 : 1 ≤ za.length) (b1 : ∀ n, n ∈ za → prB n) (b2 : ∀ q, q ∈ za → q.1.length ≤ 140737488351232) (b3 : ∀ q, q ∈ za → q.2.length ≤ 140737488351232) (b4 : za.length ≤ 9223372036854775807) (b5 : 1 ≤ zb.length) (b6 : ∀ n, n ∈ zb → prB n) (b7 : ∀ q, q ∈ zb → q.1.length ≤ 140737488351232) (b8 : ∀ q, q ∈ zb → q.2.length ≤ 140737488351232) (b9 : zb.length ≤ 9223372036854775807) (b10 : 0 ≤ ct) (b11 : ct ≤ 65535) (h0 : ¬ (20 < (za.length : Int))) (h1 : ¬ (20 < (zb.length : Int))) (h3 : ¬ (ok6 (za ++ zb))) (w : World) (hl : laidE w) (w_za : InRow w 2 (za.flatMap prC) blk_za base_za za.length es_za) (g_za : ∀ e, (H0 e ).get blk_za = none) (w_zb : InRow w 2 (zb.flatMap prC) blk_zb base_zb zb.length es_zb) (g_zb : ∀ e, (H0 e ).get blk_zb = none) : CwR 3 #[.slice (some ⟨blk_za, base_za, none⟩) za.length es_za, .slice (some ⟨blk_zb, base_zb, none⟩) zb.length es_zb, .int .u16 ct] w (.bool true) := by
  have hn0 : ([] : LB).length = 0 := rfl
  have hlz : (za ++ zb).length = za.length + zb.length := List.length_append
  have ho : ∀ k r, (k, r) ∈ hy16 → HOk (cx (nuX (nu16 blk_za base_za es_za za blk_zb base_zb es_zb zb ct) (rX (ro16 blk_za base_za es_za za blk_zb base_zb es_zb zb ct) (fun _ => .bool true))) (nuX_one (on16 blk_za base_za es_za za blk_zb base_zb es_zb zb ct)) 1 laidE laidE_stab) k r := by
    unfold hy16
    exact hc (kBytesB (bs := ([] : LB)) .nil (denX rfl)) <|
     hc (kRn (denX rfl)) <|
     hc (kRlG prC_len (isX rfl) (denX rfl) (by first | omega | (simp <;> omega))) <|
     hc (gtcF rfl (by omega)) <|
     hc (kRlG prC_len (isX rfl) (denX rfl) (by first | omega | (simp <;> omega))) <|
     hc (gtcF rfl (by omega)) <|
     hc (gtcT rfl (by omega)) <|
     hc (kRr (f := prC) (l := []) (m := za) (isX rfl) (isX rfl) (denX rfl)) <|
     hc (kRfG prC_len (isX rfl) (by first | omega | (simp <;> omega)) (by first | omega | (simp <;> omega))) <|
     hc (kRr (f := prC) (l := za) (m := zb) (isX rfl) (isX rfl) (denX rfl)) <|
     hc (kRfG prC_len (isX rfl) (by first | omega | (simp <;> omega)) (by first | omega | (simp <;> omega))) <|
     hnil
  exact runPR (tb := tab16) (AllOk.lp1 ((tabkOk (nuX (nu16 blk_za base_za es_za za blk_zb base_zb es_zb zb ct) (rX (ro16 blk_za base_za es_za za blk_zb base_zb es_zb zb ct) (fun _ => .bool true))) (nuX_one (on16 blk_za base_za es_za za blk_zb base_zb es_zb zb ct))).hyps ho) (by omega) fi3_at fi3_body (lfCons (lpKnown rfl ⟨0, keyOk7, lfOkOk7_1 (l := lf146) (h := lh146) (za ++ zb) (by assumption) (0, (0 : Int)) (mkIOk7 (za ++ zb) 0 (0 : Int) ⟨by omega, by omega, by omega, prB_app (by assumption) (by assumption), (fun q hq => nomatch hq), by omega⟩) rfl (by kernel_rfl) (th0 := [(0, .i .i64 (.ofNat 0)), (2000000, .x 2000004)]) (sg0 := []) (fun X => thCons (show Is _ (.i .i64 (.ofNat 0)) (.int .i64 ((0 : Int))) from isTo (v := .int .i64 0) (isI _ _) (by first | rfl | (congr 1; omega))) (thXv (v := rwG prC (za ++ zb)) rfl rfl (thNil))) (by kernel_rfl) (thx := []) (thNil) (by kernel_rfl)⟩) lfNil)) rfl (get_lps (by omega)) fiB3 [.r 2000000 26 2 true, .r 2000001 26 2 true] [⟨blk_za, base_za, za.length, es_za⟩, ⟨blk_zb, base_zb, zb.length, es_zb⟩] (fun e => run16 e ) (args := [.slice (some ⟨blk_za, base_za, none⟩) za.length es_za, .slice (some ⟨blk_zb, base_zb, none⟩) zb.length es_zb, .int .u16 ct]) ⟨_, _, rfl, relSrN (by decide) rfl w_za.room, ⟨_, _, rfl, relSrN (by decide) rfl w_zb.room, ⟨_, _, rfl, rfl, rfl⟩⟩⟩ w hl rfl (by decide) (fun e => (argsCons (w_za.arg (g_za e ) rfl) (argsCons (w_zb.arg (g_zb e ) rfl) argsNil))) rfl
end Go.Proofs.YtnaffjionjndgaaDoor.pairBack
