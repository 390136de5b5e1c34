/- A part of the proof: an interpreter of the model's own code on partly known states, and that what it answers is what the program answers. No condition of its own. -/
import Derived.Test.YtnaffjionjndgaaDoorH1PairBackR0
import Derived.Test.YtnaffjionjndgaaDoorH1PairBackR1
import Derived.Test.YtnaffjionjndgaaDoorH1PairBackR2
import Derived.Test.YtnaffjionjndgaaDoorH1PairBackR3
import Derived.Test.YtnaffjionjndgaaDoorH1PairBackR4
import Derived.Test.YtnaffjionjndgaaDoorH1PairBackR5
set_option maxRecDepth 100000
set_option linter.unusedVariables false
set_option linter.unusedSimpArgs false
set_option maxHeartbeats 4000000
namespace Go.Proofs.YtnaffjionjndgaaDoor.pairBack
open Go Go.AX Go.Proofs Go.Proofs.YtnaffjionjndgaaDoor
theorem walkEE (ad_za : Option Addr) (cp_za : Nat) (ad_zb : Option Addr) (cp_zb : Nat) (ct : Int) (b0 : 0 ≤ ct) (b1 : ct ≤ 65535) (w : World) (hl : laidE w) : CwR 3 #[.slice ad_za 0 cp_za, .slice ad_zb 0 cp_zb, .int .u16 ct] w (.bool true) := by
  exact path0 ad_za cp_za ad_zb cp_zb ct b0 b1 w hl
theorem walkER (ad_za : Option Addr) (cp_za : Nat) (blk_zb : Nat) (base_zb : Nat) (es_zb : Nat) (zb : List (LB × LB)) (ct : Int) (b0 : 1 ≤ zb.length) (b1 : ∀ n, n ∈ zb → prB n) (b2 : ∀ q, q ∈ zb → q.1.length ≤ 140737488351232) (b3 : ∀ q, q ∈ zb → q.2.length ≤ 140737488351232) (b4 : zb.length ≤ 9223372036854775807) (b5 : 0 ≤ ct) (b6 : ct ≤ 65535) (w : World) (hl : laidE w) (w_zb : InRow w 2 (zb.flatMap prC) blk_zb base_zb zb.length es_zb) (g_zb : ∀ e, (H0 e ).get blk_zb = none) : CwR 3 #[.slice ad_za 0 cp_za, .slice (some ⟨blk_zb, base_zb, none⟩) zb.length es_zb, .int .u16 ct] w (.bool true) := by
  by_cases h0 : 20 < (zb.length : Int)
  · exact path12 ad_za cp_za blk_zb base_zb es_zb zb ct b0 b1 b2 b3 b4 b5 b6 h0 w hl w_zb g_zb
  · by_cases h2 : ok6 zb
    · by_cases h5 : (prS (fkS zb ct)).2 = 0
      · by_cases h6 : (prS (fkS zb ct)).1.length = 0
        · exact path1 ad_za cp_za blk_zb base_zb es_zb zb ct b0 b1 b2 b3 b4 b5 b6 h0 h2 h5 h6 w hl w_zb g_zb
        · exact path2 ad_za cp_za blk_zb base_zb es_zb zb ct b0 b1 b2 b3 b4 b5 b6 h0 h2 h5 h6 w hl w_zb g_zb
      · exact path3 ad_za cp_za blk_zb base_zb es_zb zb ct b0 b1 b2 b3 b4 b5 b6 h0 h2 h5 w hl w_zb g_zb
    · exact path15 ad_za cp_za blk_zb base_zb es_zb zb ct b0 b1 b2 b3 b4 b5 b6 h0 h2 w hl w_zb g_zb
theorem walkRE (blk_za : Nat) (base_za : Nat) (es_za : Nat) (za : List (LB × LB)) (ad_zb : Option Addr) (cp_zb : Nat) (ct : Int) (b0 : 1 ≤ za.length) (b1 : ∀ n, n ∈ za → prB n) (b2 : ∀ q, q ∈ za → q.1.length ≤ 140737488351232) (b3 : ∀ q, q ∈ za → q.2.length ≤ 140737488351232) (b4 : za.length ≤ 9223372036854775807) (b5 : 0 ≤ ct) (b6 : ct ≤ 65535) (w : World) (hl : laidE w) (w_za : InRow w 2 (za.flatMap prC) blk_za base_za za.length es_za) (g_za : ∀ e, (H0 e ).get blk_za = none) : CwR 3 #[.slice (some ⟨blk_za, base_za, none⟩) za.length es_za, .slice ad_zb 0 cp_zb, .int .u16 ct] w (.bool true) := by
  by_cases h0 : 20 < (za.length : Int)
  · exact path10 blk_za base_za es_za za ad_zb cp_zb ct b0 b1 b2 b3 b4 b5 b6 h0 w hl w_za g_za
  · by_cases h2 : ok6 za
    · by_cases h5 : (prS (fkS za ct)).2 = 0
      · by_cases h6 : (prS (fkS za ct)).1.length = 0
        · exact path4 blk_za base_za es_za za ad_zb cp_zb ct b0 b1 b2 b3 b4 b5 b6 h0 h2 h5 h6 w hl w_za g_za
        · exact path9 blk_za base_za es_za za ad_zb cp_zb ct b0 b1 b2 b3 b4 b5 b6 h0 h2 h5 h6 w hl w_za g_za
      · exact path5 blk_za base_za es_za za ad_zb cp_zb ct b0 b1 b2 b3 b4 b5 b6 h0 h2 h5 w hl w_za g_za
    · exact path14 blk_za base_za es_za za ad_zb cp_zb ct b0 b1 b2 b3 b4 b5 b6 h0 h2 w hl w_za g_za
theorem walkRR (blk_za : Nat) (base_za : Nat) (es_za : Nat) (za : List (LB × LB)) (blk_zb : Nat) (base_zb : Nat) (es_zb : Nat) (zb : List (LB × LB)) (ct : Int) (b0 : 1 ≤ za.length) (b1 : ∀ n, n ∈ za → prB n) (b2 : ∀ q, q ∈ za → q.1.length ≤ 140737488351232) (b3 : ∀ q, q ∈ za → q.2.length ≤ 140737488351232) (b4 : za.length ≤ 9223372036854775807) (b5 : 1 ≤ zb.length) (b6 : ∀ n, n ∈ zb → prB n) (b7 : ∀ q, q ∈ zb → q.1.length ≤ 140737488351232) (b8 : ∀ q, q ∈ zb → q.2.length ≤ 140737488351232) (b9 : zb.length ≤ 9223372036854775807) (b10 : 0 ≤ ct) (b11 : ct ≤ 65535) (w : World) (hl : laidE w) (w_za : InRow w 2 (za.flatMap prC) blk_za base_za za.length es_za) (g_za : ∀ e, (H0 e ).get blk_za = none) (w_zb : InRow w 2 (zb.flatMap prC) blk_zb base_zb zb.length es_zb) (g_zb : ∀ e, (H0 e ).get blk_zb = none) : CwR 3 #[.slice (some ⟨blk_za, base_za, none⟩) za.length es_za, .slice (some ⟨blk_zb, base_zb, none⟩) zb.length es_zb, .int .u16 ct] w (.bool true) := by
  by_cases h0 : 20 < (za.length : Int)
  · exact path11 blk_za base_za es_za za blk_zb base_zb es_zb zb ct b0 b1 b2 b3 b4 b5 b6 b7 b8 b9 b10 b11 h0 w hl w_za g_za w_zb g_zb
  · by_cases h1 : 20 < (zb.length : Int)
    · exact path13 blk_za base_za es_za za blk_zb base_zb es_zb zb ct b0 b1 b2 b3 b4 b5 b6 b7 b8 b9 b10 b11 h0 h1 w hl w_za g_za w_zb g_zb
    · by_cases h3 : ok6 (za ++ zb)
      · by_cases h6 : (prS (fkS (za ++ zb) ct)).2 = 0
        · by_cases h7 : (prS (fkS (za ++ zb) ct)).1.length = 0
          · exact path6 blk_za base_za es_za za blk_zb base_zb es_zb zb ct b0 b1 b2 b3 b4 b5 b6 b7 b8 b9 b10 b11 h0 h1 h3 h6 h7 w hl w_za g_za w_zb g_zb
          · exact path8 blk_za base_za es_za za blk_zb base_zb es_zb zb ct b0 b1 b2 b3 b4 b5 b6 b7 b8 b9 b10 b11 h0 h1 h3 h6 h7 w hl w_za g_za w_zb g_zb
        · exact path7 blk_za base_za es_za za blk_zb base_zb es_zb zb ct b0 b1 b2 b3 b4 b5 b6 b7 b8 b9 b10 b11 h0 h1 h3 h6 w hl w_za g_za w_zb g_zb
      · exact path16 blk_za base_za es_za za blk_zb base_zb es_zb zb ct b0 b1 b2 b3 b4 b5 b6 b7 b8 b9 b10 b11 h0 h1 h3 w hl w_za g_za w_zb g_zb
end Go.Proofs.YtnaffjionjndgaaDoor.pairBack
