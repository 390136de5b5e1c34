/- A part of the proof: an interpreter of the model's own code on partly known states, and that what it answers is what the program answers. No condition of its own. -/
import Derived.Test.YtnaffjionjndgaaDoorH1PairBackO5
set_option maxRecDepth 100000
set_option linter.unusedVariables false
set_option linter.unusedSimpArgs false
set_option maxHeartbeats 4000000
namespace Go.Proofs.YtnaffjionjndgaaDoor.pairBack
open Go Go.AX Go.Proofs Go.Proofs.YtnaffjionjndgaaDoor
def hy12 : LK := [(.bytes [], .x 1),
  (.rn, .x 2000001),
  (.rl (.x 2000000) 2, .x 2),
  (.bin .gtr (.x 2) (.i .i64 (.ofNat 20)), .b true)]
theorem run12 (e : Nat) : Go.AX.okB (call (tbl hy12) 9000 3 [.es, .sr 5, .x 0] ⟨addR 4 [.r 2000000 26 2 true, .r 2000000 26 2 true] (H0 e ), 4 + List.length (α := Ent) [.r 2000000 26 2 true, .r 2000000 26 2 true], 0, 0⟩) = true := by kernel_rfl
def nu12 (ad_za : Option Addr) (cp_za : Nat) (blk_zb : Nat) (base_zb : Nat) (es_zb : Nat) (zb : List (LB × LB)) (ct : Int) : List Value := [.int .u16 (ct),
  St' ([] : LB),
  .int .i64 ((zb.length : Int))]
def ro12 (ad_za : Option Addr) (cp_za : Nat) (blk_zb : Nat) (base_zb : Nat) (es_zb : Nat) (zb : List (LB × LB)) (ct : Int) : List Value := [rwG prC zb,
  rwS ([] : List LB)]
theorem on12 (ad_za : Option Addr) (cp_za : Nat) (blk_zb : Nat) (base_zb : Nat) (es_zb : Nat) (zb : List (LB × LB)) (ct : Int) : ∀ j, (nuL (nu12 ad_za cp_za blk_zb base_zb es_zb zb ct) j).oneCell' = true := nuL_one (l := nu12 ad_za cp_za blk_zb base_zb es_zb zb ct) rfl
theorem path12 (ad_za : Option Addr) (cp_za : Nat) (blk_zb : Nat) (base_zb : Nat) (es_zb : Nat) (zb : List (LB × LB)) (ct : Int) (b0 : 1 ≤ zb.length) (b1 : ∀ n, n ∈ zb → prB n) (b2 : ∀ q, q ∈ zb → q.1.length ≤ 140737488351232) (b3 : ∀ q, q ∈ zb → q.2.length ≤ 140737488351232) (b4 : zb.length ≤ 9223372036854775807) (b5 : 0 ≤ ct) (b6 : ct ≤ 65535) (h0 : 20 < (zb.length : Int)) (w : World) (hl : laidE w) (w_zb : InRow w 2 (zb.flatMap prC) blk_zb base_zb zb.length es_zb) (g_zb : ∀ e, (H0 e ).get blk_zb = none) : CwR 3 #[.slice ad_za 0 cp_za, .slice (some ⟨blk_zb, base_zb, none⟩) zb.length es_zb, .int .u16 ct] w (.bool true) := by
  have hn0 : ([] : LB).length = 0 := rfl
  have ho : ∀ k r, (k, r) ∈ hy12 → HOk (cx (nuX (nu12 ad_za cp_za blk_zb base_zb es_zb zb ct) (rX (ro12 ad_za cp_za blk_zb base_zb es_zb zb ct) (fun _ => .bool true))) (nuX_one (on12 ad_za cp_za blk_zb base_zb es_zb zb ct)) 1 laidE laidE_stab) k r := by
    unfold hy12
    exact hc (kBytesB (bs := ([] : LB)) .nil (denX rfl)) <|
     hc (kRn (denX rfl)) <|
     hc (kRlG prC_len (isX rfl) (denX rfl) (by first | omega | (simp <;> omega))) <|
     hc (gtcT rfl (by omega)) <|
     hnil
  obtain ⟨fi, hfi, hb⟩ := fiE
  exact runPR (tb := (tbl hy12)) ((tabkOk (nuX (nu12 ad_za cp_za blk_zb base_zb es_zb zb ct) (rX (ro12 ad_za cp_za blk_zb base_zb es_zb zb ct) (fun _ => .bool true))) (nuX_one (on12 ad_za cp_za blk_zb base_zb es_zb zb ct))).hyps ho) rfl hfi hb [.r 2000000 26 2 true, .r 2000000 26 2 true] [⟨blk_zb, base_zb, zb.length, es_zb⟩, ⟨blk_zb, base_zb, zb.length, es_zb⟩] (fun e => run12 e ) (args := [.slice ad_za 0 cp_za, .slice (some ⟨blk_zb, base_zb, none⟩) zb.length es_zb, .int .u16 ct]) ⟨_, _, rfl, ⟨_, _, rfl⟩, ⟨_, _, rfl, relSrN (by decide) rfl w_zb.room, ⟨_, _, rfl, rfl, rfl⟩⟩⟩ w hl rfl (by decide) (fun e => (argsCons (w_zb.arg (g_zb e ) rfl) (argsCons (w_zb.arg (g_zb e ) rfl) argsNil))) rfl
def hy13 : LK := [(.bytes [], .x 1),
  (.rn, .x 2000002),
  (.rl (.x 2000000) 2, .x 2),
  (.bin .gtr (.x 2) (.i .i64 (.ofNat 20)), .b false),
  (.rl (.x 2000001) 2, .x 3),
  (.bin .gtr (.x 3) (.i .i64 (.ofNat 20)), .b true)]
theorem run13 (e : Nat) : Go.AX.okB (call (tbl hy13) 9000 3 [.sr 4, .sr 5, .x 0] ⟨addR 4 [.r 2000000 26 2 true, .r 2000001 26 2 true] (H0 e ), 4 + List.length (α := Ent) [.r 2000000 26 2 true, .r 2000001 26 2 true], 0, 0⟩) = true := by kernel_rfl
def nu13 (blk_za : Nat) (base_za : Nat) (es_za : Nat) (za : List (LB × LB)) (blk_zb : Nat) (base_zb : Nat) (es_zb : Nat) (zb : List (LB × LB)) (ct : Int) : List Value := [.int .u16 (ct),
  St' ([] : LB),
  .int .i64 ((za.length : Int)),
  .int .i64 ((zb.length : Int))]
def ro13 (blk_za : Nat) (base_za : Nat) (es_za : Nat) (za : List (LB × LB)) (blk_zb : Nat) (base_zb : Nat) (es_zb : Nat) (zb : List (LB × LB)) (ct : Int) : List Value := [rwG prC za,
  rwG prC zb,
  rwS ([] : List LB)]
theorem on13 (blk_za : Nat) (base_za : Nat) (es_za : Nat) (za : List (LB × LB)) (blk_zb : Nat) (base_zb : Nat) (es_zb : Nat) (zb : List (LB × LB)) (ct : Int) : ∀ j, (nuL (nu13 blk_za base_za es_za za blk_zb base_zb es_zb zb ct) j).oneCell' = true := nuL_one (l := nu13 blk_za base_za es_za za blk_zb base_zb es_zb zb ct) rfl
theorem path13 (blk_za : Nat) (base_za : Nat) (es_za : Nat) (za : List (LB × LB)) (blk_zb : Nat) (base_zb : Nat) (es_zb : Nat) (zb : List (LB × LB)) (ct : Int) (b0 : 1 ≤ za.length) (b1 : ∀ n, n ∈ za → prB n) (b2 : ∀ q, q ∈ za → q.1.length ≤ 140737488351232) (b3 : ∀ q, q ∈ za → q.2.length ≤ 140737488351232) (b4 : za.length ≤ 9223372036854775807) (b5 : 1 ≤ zb.length) (b6 : ∀ n, n ∈ zb → prB n) (b7 : ∀ q, q ∈ zb → q.1.length ≤ 140737488351232) (b8 : ∀ q, q ∈ zb → q.2.length ≤ 140737488351232) (b9 : zb.length ≤ 9223372036854775807) (b10 : 0 ≤ ct) (b11 : ct ≤ 65535) (h0 : ¬ (20 < (za.length : Int))) (h1 : 20 < (zb.length : Int)) (w : World) (hl : laidE w) (w_za : InRow w 2 (za.flatMap prC) blk_za base_za za.length es_za) (g_za : ∀ e, (H0 e ).get blk_za = none) (w_zb : InRow w 2 (zb.flatMap prC) blk_zb base_zb zb.length es_zb) (g_zb : ∀ e, (H0 e ).get blk_zb = none) : CwR 3 #[.slice (some ⟨blk_za, base_za, none⟩) za.length es_za, .slice (some ⟨blk_zb, base_zb, none⟩) zb.length es_zb, .int .u16 ct] w (.bool true) := by
  have hn0 : ([] : LB).length = 0 := rfl
  have ho : ∀ k r, (k, r) ∈ hy13 → HOk (cx (nuX (nu13 blk_za base_za es_za za blk_zb base_zb es_zb zb ct) (rX (ro13 blk_za base_za es_za za blk_zb base_zb es_zb zb ct) (fun _ => .bool true))) (nuX_one (on13 blk_za base_za es_za za blk_zb base_zb es_zb zb ct)) 1 laidE laidE_stab) k r := by
    unfold hy13
    exact hc (kBytesB (bs := ([] : LB)) .nil (denX rfl)) <|
     hc (kRn (denX rfl)) <|
     hc (kRlG prC_len (isX rfl) (denX rfl) (by first | omega | (simp <;> omega))) <|
     hc (gtcF rfl (by omega)) <|
     hc (kRlG prC_len (isX rfl) (denX rfl) (by first | omega | (simp <;> omega))) <|
     hc (gtcT rfl (by omega)) <|
     hnil
  obtain ⟨fi, hfi, hb⟩ := fiE
  exact runPR (tb := (tbl hy13)) ((tabkOk (nuX (nu13 blk_za base_za es_za za blk_zb base_zb es_zb zb ct) (rX (ro13 blk_za base_za es_za za blk_zb base_zb es_zb zb ct) (fun _ => .bool true))) (nuX_one (on13 blk_za base_za es_za za blk_zb base_zb es_zb zb ct))).hyps ho) rfl hfi hb [.r 2000000 26 2 true, .r 2000001 26 2 true] [⟨blk_za, base_za, za.length, es_za⟩, ⟨blk_zb, base_zb, zb.length, es_zb⟩] (fun e => run13 e ) (args := [.slice (some ⟨blk_za, base_za, none⟩) za.length es_za, .slice (some ⟨blk_zb, base_zb, none⟩) zb.length es_zb, .int .u16 ct]) ⟨_, _, rfl, relSrN (by decide) rfl w_za.room, ⟨_, _, rfl, relSrN (by decide) rfl w_zb.room, ⟨_, _, rfl, rfl, rfl⟩⟩⟩ w hl rfl (by decide) (fun e => (argsCons (w_za.arg (g_za e ) rfl) (argsCons (w_zb.arg (g_zb e ) rfl) argsNil))) rfl
def hy14 : LK := [(.bytes [], .x 1),
  (.rn, .x 2000001),
  (.rl (.x 2000000) 2, .x 2),
  (.bin .gtr (.x 2) (.i .i64 (.ofNat 20)), .b false),
  (.bin .gtr (.x 2) (.i .i64 (.ofNat 0)), .b true),
  (.rr (.x 2000001) (.x 2000000), .x 2000002),
  (.rf (.x 2000002) 2 32, .b true),
  (.ra (.x 2000002) [], .x 2000003),
  (.rf (.x 2000003) 2 32, .b true)]
def lh144 : LH := ⟨4, 20, 50, [(6, .r 2000003 26 2 false)], []⟩
def lf144 : LF := ⟨7, 113, [(7, .sr 6), (8, .i .i64 (.ofNat 0))], [0, 1, 2], .ret, [(6, .b true)], some lh144⟩
noncomputable def tab14 : Tab := addLps ({ tabk with hyp := hy14 }) 3 fi3 [lf144]
theorem run14 (e : Nat) : Go.AX.okB (call tab14 9000 3 [.sr 4, .es, .x 0] ⟨addR 4 [.r 2000000 26 2 true] (H0 e ), 4 + List.length (α := Ent) [.r 2000000 26 2 true], 0, 0⟩) = true := by kernel_rfl
def nu14 (blk_za : Nat) (base_za : Nat) (es_za : Nat) (za : List (LB × LB)) (ad_zb : Option Addr) (cp_zb : Nat) (ct : Int) : List Value := [.int .u16 (ct),
  St' ([] : LB),
  .int .i64 ((za.length : Int))]
def ro14 (blk_za : Nat) (base_za : Nat) (es_za : Nat) (za : List (LB × LB)) (ad_zb : Option Addr) (cp_zb : Nat) (ct : Int) : List Value := [rwG prC za,
  rwS ([] : List LB),
  rwG prC za,
  rwG prC za]
theorem on14 (blk_za : Nat) (base_za : Nat) (es_za : Nat) (za : List (LB × LB)) (ad_zb : Option Addr) (cp_zb : Nat) (ct : Int) : ∀ j, (nuL (nu14 blk_za base_za es_za za ad_zb cp_zb ct) j).oneCell' = true := nuL_one (l := nu14 blk_za base_za es_za za ad_zb cp_zb ct) rfl
theorem path14 (blk_za : Nat) (base_za : Nat) (es_za : Nat) (za : List (LB × LB)) (ad_zb : Option Addr) (cp_zb : Nat) (ct : Int) (b0 : 1 ≤ za.length) (b1 : ∀ n, n ∈ za → prB n) (b2 : ∀ q, q ∈ za → q.1.length ≤ 140737488351232) (b3 : ∀ q, q ∈ za → q.2.length ≤ 140737488351232) (b4 : za.length ≤ 9223372036854775807) (b5 : 0 ≤ ct) (b6 : ct ≤ 65535) (h0 : ¬ (20 < (za.length : Int))) (h2 : ¬ (ok6 za)) (w : World) (hl : laidE w) (w_za : InRow w 2 (za.flatMap prC) blk_za base_za za.length es_za) (g_za : ∀ e, (H0 e ).get blk_za = none) : CwR 3 #[.slice (some ⟨blk_za, base_za, none⟩) za.length es_za, .slice ad_zb 0 cp_zb, .int .u16 ct] w (.bool true) := by
  have hn0 : ([] : LB).length = 0 := rfl
  have ho : ∀ k r, (k, r) ∈ hy14 → HOk (cx (nuX (nu14 blk_za base_za es_za za ad_zb cp_zb ct) (rX (ro14 blk_za base_za es_za za ad_zb cp_zb ct) (fun _ => .bool true))) (nuX_one (on14 blk_za base_za es_za za ad_zb cp_zb ct)) 1 laidE laidE_stab) k r := by
    unfold hy14
    exact hc (kBytesB (bs := ([] : LB)) .nil (denX rfl)) <|
     hc (kRn (denX rfl)) <|
     hc (kRlG prC_len (isX rfl) (denX rfl) (by first | omega | (simp <;> omega))) <|
     hc (gtcF rfl (by omega)) <|
     hc (gtcT rfl (by omega)) <|
     hc (kRr (f := prC) (l := []) (m := za) (isX rfl) (isX rfl) (denX rfl)) <|
     hc (kRfG prC_len (isX rfl) (by first | omega | (simp <;> omega)) (by first | omega | (simp <;> omega))) <|
     hc (kRa0 (f := prC) (isX rfl) (denX rfl)) <|
     hc (kRfG prC_len (isX rfl) (by first | omega | (simp <;> omega)) (by first | omega | (simp <;> omega))) <|
     hnil
  exact runPR (tb := tab14) (AllOk.lp1 ((tabkOk (nuX (nu14 blk_za base_za es_za za ad_zb cp_zb ct) (rX (ro14 blk_za base_za es_za za ad_zb cp_zb ct) (fun _ => .bool true))) (nuX_one (on14 blk_za base_za es_za za ad_zb cp_zb ct))).hyps ho) (by omega) fi3_at fi3_body (lfCons (lpKnown rfl ⟨0, keyOk6, lfOkOk6_1 (l := lf144) (h := lh144) za (by assumption) (0, (0 : Int)) (mkIOk6 za 0 (0 : Int) ⟨by omega, by omega, by omega, by assumption, (fun q hq => nomatch hq), by omega⟩) rfl (by kernel_rfl) (th0 := [(0, .i .i64 (.ofNat 0)), (2000000, .x 2000003)]) (sg0 := []) (fun X => thCons (show Is _ (.i .i64 (.ofNat 0)) (.int .i64 ((0 : Int))) from isTo (v := .int .i64 0) (isI _ _) (by first | rfl | (congr 1; omega))) (thXv (v := rwG prC za) rfl rfl (thNil))) (by kernel_rfl) (thx := []) (thNil) (by kernel_rfl)⟩) lfNil)) rfl (get_lps (by omega)) fiB3 [.r 2000000 26 2 true] [⟨blk_za, base_za, za.length, es_za⟩] (fun e => run14 e ) (args := [.slice (some ⟨blk_za, base_za, none⟩) za.length es_za, .slice ad_zb 0 cp_zb, .int .u16 ct]) ⟨_, _, rfl, relSrN (by decide) rfl w_za.room, ⟨_, _, rfl, ⟨_, _, rfl⟩, ⟨_, _, rfl, rfl, rfl⟩⟩⟩ w hl rfl (by decide) (fun e => (argsCons (w_za.arg (g_za e ) rfl) argsNil)) rfl
end Go.Proofs.YtnaffjionjndgaaDoor.pairBack
