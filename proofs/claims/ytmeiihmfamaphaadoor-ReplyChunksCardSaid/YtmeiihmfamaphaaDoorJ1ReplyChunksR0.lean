/- A part of the proof: an interpreter of the model's own code on partly known states, and that what it answers is what the program answers. No condition of its own. -/
import Derived.Test.YtmeiihmfamaphaaDoorJ1ReplyChunksO3
set_option maxRecDepth 100000
set_option linter.unusedVariables false
set_option linter.unusedSimpArgs false
set_option maxHeartbeats 4000000
namespace Go.Proofs.YtmeiihmfamaphaaDoor.replyChunks
open Go Go.AX Go.Proofs Go.Proofs.YtmeiihmfamaphaaDoor
def hy0 : LK := [(.bytes [], .x 1),
  (.rn, .x 2000000),
  (.bin .rem (.x 0) (.i .u16 (.ofNat 300)), .x 2),
  (.conv 3 (.x 2), .x 3),
  (.bin .add (.i .i64 (.ofNat 200)) (.x 3), .x 4),
  (.bin .eql (.x 4) (.i .i64 (.ofNat 204)), .b false),
  (.bin .eql (.x 4) (.i .i64 (.ofNat 304)), .b false),
  (.ra (.x 2000000) [.s 1 48], .x 2000001),
  (.rf (.x 2000001) 1 16, .b true),
  (.el (.x 2000001) (.i .i64 (.ofNat 0)) 1 0, .x 5),
  (.len (.x 5), .x 6),
  (.bin .lss (.x 6) (.i .i64 (.ofNat 1)), .b false),
  (.bin .gtr (.x 6) (.i .i64 (.ofNat 7)), .b false),
  (.bin .lss (.i .i64 (.ofNat 0)) (.x 6), .b true),
  (.idx (.x 5) (.i .i64 (.ofNat 0)), .x 7),
  (.bin .geq (.x 7) (.i .u8 (.ofNat 48)), .b true),
  (.bin .leq (.x 7) (.i .u8 (.ofNat 57)), .b true),
  (.bin .sub (.x 7) (.i .u8 (.ofNat 48)), .x 8),
  (.conv 3 (.x 8), .x 9),
  (.bin .lss (.x 9) (.i .i64 (.ofNat 0)), .b false),
  (.bin .add (.i .i64 (.ofNat 0)) (.x 9), .x 10),
  (.bin .lss (.i .i64 (.ofNat 1)) (.x 6), .b false),
  (.bin .add (.i .i64 (.ofNat 0)) (.x 10), .x 11),
  (.bin .gtr (.x 11) (.i .i64 (.ofNat 4000)), .b false),
  (.bin .eql (.x 10) (.i .i64 (.ofNat 0)), .b true)]
theorem run0 (e0 : Nat) (e2 : Nat) : Go.AX.okB (call (tbl hy0) 9000 3 [.es, .x 0] ⟨H0 e0 e2 , 3, 0, 0⟩) = true := by kernel_rfl
def nu0 (ad_l : Option Addr) (cp_l : Nat) (status : Int) : List Value := [.int .u16 (status),
  St' ([] : LB),
  .int .u16 (status % 300),
  .int .i64 ((status % 300)),
  .int .i64 ((status % 300) + 200),
  St' (List.getD (([] : List LB) ++ [[u8 48]]) 0 []),
  .int .i64 (((List.getD (([] : List LB) ++ [[u8 48]]) 0 []).length : Int)),
  .int .u8 (bt (List.getD (([] : List LB) ++ [[u8 48]]) 0 []) 0),
  .int .u8 ((bt (List.getD (([] : List LB) ++ [[u8 48]]) 0 []) 0) - 48),
  .int .i64 ((bt (List.getD (([] : List LB) ++ [[u8 48]]) 0 []) 0) - 48),
  .int .i64 ((bt (List.getD (([] : List LB) ++ [[u8 48]]) 0 []) 0) - 48),
  .int .i64 ((bt (List.getD (([] : List LB) ++ [[u8 48]]) 0 []) 0) - 48)]
def ro0 (ad_l : Option Addr) (cp_l : Nat) (status : Int) : List Value := [rwS ([] : List LB),
  rwS (([] : List LB) ++ [[u8 48]])]
theorem on0 (ad_l : Option Addr) (cp_l : Nat) (status : Int) : ∀ j, (nuL (nu0 ad_l cp_l status) j).oneCell' = true := nuL_one (l := nu0 ad_l cp_l status) rfl
theorem path0 (ad_l : Option Addr) (cp_l : Nat) (status : Int) (b0 : 0 ≤ status) (b1 : status ≤ 65535) (h0 : ¬ ((status % 300) + 200 = 204)) (h1 : ¬ ((status % 300) + 200 = 304)) (w : World) (hl : laidE w) : CwR 3 #[.slice ad_l 0 cp_l, .int .u16 status] w (.bool true) := by
  have hn0 : ([] : LB).length = 0 := rfl; have hL6 : [u8 48, u8 13, u8 10, u8 13, u8 10].length = 5 := rfl
  have hg1 : (((List.getD (([] : List LB) ++ [[u8 48]]) 0 [])).length : Int) = 1 := rfl
  have hg2 : bt (List.getD (([] : List LB) ++ [[u8 48]]) 0 []) 0 = 48 := rfl
  have := bt_lo (List.getD (([] : List LB) ++ [[u8 48]]) 0 []) 0; have := bt_hi (List.getD (([] : List LB) ++ [[u8 48]]) 0 []) 0
  have ho : ∀ k r, (k, r) ∈ hy0 → HOk (cx (nuX (nu0 ad_l cp_l status) (rX (ro0 ad_l cp_l status) (fun _ => .bool true))) (nuX_one (on0 ad_l cp_l status)) 3 laidE laidE_stab) k r := by
    unfold hy0
    exact hc (kBytesB (bs := ([] : LB)) .nil (denX rfl)) <|
     hc (kRn (denX rfl)) <|
     hc (kRem (isX rfl) (isZ (m := 300) rfl) (denX rfl) (by omega) (by omega) rfl) <|
     hc (kConvF (isX rfl) tu3 (denX rfl) (fI64 (by omega) (by omega))) <|
     hc (kAdd (isZ (m := 200) rfl) (isX rfl) (denX rfl) (by omega) (fI64 (by omega) (by omega))) <|
     hc (eqcF rfl (by omega)) <|
     hc (eqcF rfl (by omega)) <|
     hc (kRa (isX rfl) (isSx (l := [u8 48]) 1 48 rfl) (denX rfl)) <|
     hc (kRf (isX rfl) (by first | omega | (simp <;> omega)) (by first | omega | (simp <;> omega))) <|
     hc (kEl (j := 0) (isX rfl) (isZ (m := 0) rfl) (denX rfl) (by omega) (by first | omega | (simp <;> omega))) <|
     hc (lnV rfl rfl (by omega)) <|
     hc (ltcF rfl (by omega)) <|
     hc (gtcF rfl (by omega)) <|
     hc (kLt (isZ (m := 0) rfl) (isX rfl) (decide_eq_true (by omega))) <|
     hc (ixC rfl rfl (by omega)) <|
     hc (gecT rfl (by omega)) <|
     hc (lecT rfl (by omega)) <|
     hc (kSub (isX rfl) (isZ (m := 48) rfl) (denX rfl) (by omega) (fU8 (by omega) (by omega))) <|
     hc (kConvF (isX rfl) tu3 (denX rfl) (fI64 (by omega) (by omega))) <|
     hc (ltcF rfl (by omega)) <|
     hc (kAdd (isZ (m := 0) rfl) (isX rfl) (denX rfl) (by omega) (fI64 (by omega) (by omega))) <|
     hc (kLt (isZ (m := 1) rfl) (isX rfl) (decide_eq_false (by omega))) <|
     hc (kAdd (isZ (m := 0) rfl) (isX rfl) (denX rfl) (by omega) (fI64 (by omega) (by omega))) <|
     hc (gtcF rfl (by omega)) <|
     hc (eqcT rfl (by omega)) <|
     hnil
  obtain ⟨fi, hfi, hb⟩ := fiE
  exact runP (tb := (tbl hy0)) ((tabkOk (nuX (nu0 ad_l cp_l status) (rX (ro0 ad_l cp_l status) (fun _ => .bool true))) (nuX_one (on0 ad_l cp_l status))).hyps ho) rfl hfi hb (fun e0 e2 => run0 e0 e2 ) (args := [.slice ad_l 0 cp_l, .int .u16 status]) (by simp only [RelL, Rel]; exact ⟨_, _, rfl, ⟨_, _, rfl⟩, ⟨_, _, rfl, rfl, rfl⟩⟩) w hl
def hy1 : LK := [(.bytes [], .x 1),
  (.rn, .x 2000000),
  (.bin .rem (.x 0) (.i .u16 (.ofNat 300)), .x 2),
  (.conv 3 (.x 2), .x 3),
  (.bin .add (.i .i64 (.ofNat 200)) (.x 3), .x 4),
  (.bin .eql (.x 4) (.i .i64 (.ofNat 204)), .b true)]
theorem run1 (e0 : Nat) (e2 : Nat) : Go.AX.okB (call (tbl hy1) 9000 3 [.es, .x 0] ⟨H0 e0 e2 , 3, 0, 0⟩) = true := by kernel_rfl
def nu1 (ad_l : Option Addr) (cp_l : Nat) (status : Int) : List Value := [.int .u16 (status),
  St' ([] : LB),
  .int .u16 (status % 300),
  .int .i64 ((status % 300)),
  .int .i64 ((status % 300) + 200)]
def ro1 (ad_l : Option Addr) (cp_l : Nat) (status : Int) : List Value := [rwS ([] : List LB)]
theorem on1 (ad_l : Option Addr) (cp_l : Nat) (status : Int) : ∀ j, (nuL (nu1 ad_l cp_l status) j).oneCell' = true := nuL_one (l := nu1 ad_l cp_l status) rfl
theorem path1 (ad_l : Option Addr) (cp_l : Nat) (status : Int) (b0 : 0 ≤ status) (b1 : status ≤ 65535) (h0 : (status % 300) + 200 = 204) (w : World) (hl : laidE w) : CwR 3 #[.slice ad_l 0 cp_l, .int .u16 status] w (.bool true) := by
  have hn0 : ([] : LB).length = 0 := rfl; have hL6 : [u8 48, u8 13, u8 10, u8 13, u8 10].length = 5 := rfl
  have ho : ∀ k r, (k, r) ∈ hy1 → HOk (cx (nuX (nu1 ad_l cp_l status) (rX (ro1 ad_l cp_l status) (fun _ => .bool true))) (nuX_one (on1 ad_l cp_l status)) 3 laidE laidE_stab) k r := by
    unfold hy1
    exact hc (kBytesB (bs := ([] : LB)) .nil (denX rfl)) <|
     hc (kRn (denX rfl)) <|
     hc (kRem (isX rfl) (isZ (m := 300) rfl) (denX rfl) (by omega) (by omega) rfl) <|
     hc (kConvF (isX rfl) tu3 (denX rfl) (fI64 (by omega) (by omega))) <|
     hc (kAdd (isZ (m := 200) rfl) (isX rfl) (denX rfl) (by omega) (fI64 (by omega) (by omega))) <|
     hc (eqcT rfl (by omega)) <|
     hnil
  obtain ⟨fi, hfi, hb⟩ := fiE
  exact runP (tb := (tbl hy1)) ((tabkOk (nuX (nu1 ad_l cp_l status) (rX (ro1 ad_l cp_l status) (fun _ => .bool true))) (nuX_one (on1 ad_l cp_l status))).hyps ho) rfl hfi hb (fun e0 e2 => run1 e0 e2 ) (args := [.slice ad_l 0 cp_l, .int .u16 status]) (by simp only [RelL, Rel]; exact ⟨_, _, rfl, ⟨_, _, rfl⟩, ⟨_, _, rfl, rfl, rfl⟩⟩) w hl
def hy2 : LK := [(.bytes [], .x 1),
  (.rn, .x 2000000),
  (.bin .rem (.x 0) (.i .u16 (.ofNat 300)), .x 2),
  (.conv 3 (.x 2), .x 3),
  (.bin .add (.i .i64 (.ofNat 200)) (.x 3), .x 4),
  (.bin .eql (.x 4) (.i .i64 (.ofNat 204)), .b false),
  (.bin .eql (.x 4) (.i .i64 (.ofNat 304)), .b true)]
theorem run2 (e0 : Nat) (e2 : Nat) : Go.AX.okB (call (tbl hy2) 9000 3 [.es, .x 0] ⟨H0 e0 e2 , 3, 0, 0⟩) = true := by kernel_rfl
def nu2 (ad_l : Option Addr) (cp_l : Nat) (status : Int) : List Value := [.int .u16 (status),
  St' ([] : LB),
  .int .u16 (status % 300),
  .int .i64 ((status % 300)),
  .int .i64 ((status % 300) + 200)]
def ro2 (ad_l : Option Addr) (cp_l : Nat) (status : Int) : List Value := [rwS ([] : List LB)]
theorem on2 (ad_l : Option Addr) (cp_l : Nat) (status : Int) : ∀ j, (nuL (nu2 ad_l cp_l status) j).oneCell' = true := nuL_one (l := nu2 ad_l cp_l status) rfl
theorem path2 (ad_l : Option Addr) (cp_l : Nat) (status : Int) (b0 : 0 ≤ status) (b1 : status ≤ 65535) (h0 : ¬ ((status % 300) + 200 = 204)) (h1 : (status % 300) + 200 = 304) (w : World) (hl : laidE w) : CwR 3 #[.slice ad_l 0 cp_l, .int .u16 status] w (.bool true) := by
  have hn0 : ([] : LB).length = 0 := rfl; have hL6 : [u8 48, u8 13, u8 10, u8 13, u8 10].length = 5 := rfl
  have ho : ∀ k r, (k, r) ∈ hy2 → HOk (cx (nuX (nu2 ad_l cp_l status) (rX (ro2 ad_l cp_l status) (fun _ => .bool true))) (nuX_one (on2 ad_l cp_l status)) 3 laidE laidE_stab) k r := by
    unfold hy2
    exact hc (kBytesB (bs := ([] : LB)) .nil (denX rfl)) <|
     hc (kRn (denX rfl)) <|
     hc (kRem (isX rfl) (isZ (m := 300) rfl) (denX rfl) (by omega) (by omega) rfl) <|
     hc (kConvF (isX rfl) tu3 (denX rfl) (fI64 (by omega) (by omega))) <|
     hc (kAdd (isZ (m := 200) rfl) (isX rfl) (denX rfl) (by omega) (fI64 (by omega) (by omega))) <|
     hc (eqcF rfl (by omega)) <|
     hc (eqcT rfl (by omega)) <|
     hnil
  obtain ⟨fi, hfi, hb⟩ := fiE
  exact runP (tb := (tbl hy2)) ((tabkOk (nuX (nu2 ad_l cp_l status) (rX (ro2 ad_l cp_l status) (fun _ => .bool true))) (nuX_one (on2 ad_l cp_l status))).hyps ho) rfl hfi hb (fun e0 e2 => run2 e0 e2 ) (args := [.slice ad_l 0 cp_l, .int .u16 status]) (by simp only [RelL, Rel]; exact ⟨_, _, rfl, ⟨_, _, rfl⟩, ⟨_, _, rfl, rfl, rfl⟩⟩) w hl
end Go.Proofs.YtmeiihmfamaphaaDoor.replyChunks
