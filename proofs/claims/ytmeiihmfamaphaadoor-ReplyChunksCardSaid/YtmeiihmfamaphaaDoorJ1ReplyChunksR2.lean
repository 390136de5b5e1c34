/- A part of the proof: an interpreter of the model's own code on partly known states, and that what it answers is what the program answers. No condition of its own. -/
import Derived.Test.YtmeiihmfamaphaaDoorJ1ReplyChunksO3
set_option maxRecDepth 100000
set_option linter.unusedVariables false
set_option linter.unusedSimpArgs false
set_option maxHeartbeats 4000000
namespace Go.Proofs.YtmeiihmfamaphaaDoor.replyChunks
open Go Go.AX Go.Proofs Go.Proofs.YtmeiihmfamaphaaDoor
def hy6 : LK := [(.bytes [], .x 1),
  (.rn, .x 2000001),
  (.rl (.x 2000000) 1, .x 2),
  (.bin .gtr (.x 2) (.i .i64 (.ofNat 10)), .b false),
  (.bin .rem (.x 0) (.i .u16 (.ofNat 300)), .x 3),
  (.conv 3 (.x 3), .x 4),
  (.bin .add (.i .i64 (.ofNat 200)) (.x 4), .x 5)]
def lh9 : LH := ⟨3, 20, 40, [(3, .r 2000000 9 1 true), (4, .b ⟨27, .l [.s 3 5522759, .s 0 0, .i .i64 (.ofNat 1), .nils, .s 0 0], 0, 0, 0, false, false⟩), (5, .b ⟨29, .l [.x 5, .s 1 120, .nils], 0, 0, 0, false, false⟩)], []⟩
def lf9 : LF := ⟨9, 97, [(0, .sr 3), (5, .p 4 0), (6, .p 5 0), (7, .s 0 0), (8, .s 0 0), (9, .i .i64 (.ofNat 0))], [], .ret, [(4, .b true)], some lh9⟩
noncomputable def tab6 : Tab := addLps ({ tabk with hyp := hy6 }) 3 fi3 [lf9]
theorem run6 (e0 : Nat) (e2 : Nat) : Go.AX.okB (call tab6 9000 3 [.sr 3, .x 0] ⟨addR 3 [.r 2000000 9 1 true] (H0 e0 e2 ), 3 + List.length (α := Ent) [.r 2000000 9 1 true], 0, 0⟩) = true := by kernel_rfl
def nu6 (blk_l : Nat) (base_l : Nat) (es_l : Nat) (l : List LB) (status : Int) : List Value := [.int .u16 (status),
  St' ([] : LB),
  .int .i64 ((l.length : Int)),
  .int .u16 (status % 300),
  .int .i64 ((status % 300)),
  .int .i64 ((status % 300) + 200)]
def ro6 (blk_l : Nat) (base_l : Nat) (es_l : Nat) (l : List LB) (status : Int) : List Value := [rwS l,
  rwS ([] : List LB)]
theorem on6 (blk_l : Nat) (base_l : Nat) (es_l : Nat) (l : List LB) (status : Int) : ∀ j, (nuL (nu6 blk_l base_l es_l l status) j).oneCell' = true := nuL_one (l := nu6 blk_l base_l es_l l status) rfl
theorem path6 (blk_l : Nat) (base_l : Nat) (es_l : Nat) (l : List LB) (status : Int) (b0 : 1 ≤ l.length) (b1 : ∀ q, q ∈ l → q.length ≤ 140737488351232) (b2 : l.length ≤ 9223372036854775807) (b3 : 0 ≤ status) (b4 : status ≤ 65535) (h0 : ¬ (10 < (l.length : Int))) (h1 : ¬ (ok3 l)) (w : World) (hl : laidE w) (w_l : InRow w 1 (l.map St') blk_l base_l l.length es_l) (g_l : ∀ e0 e2, (H0 e0 e2 ).get blk_l = none) : CwR 3 #[.slice (some ⟨blk_l, base_l, none⟩) l.length es_l, .int .u16 status] w (.bool true) := by
  have hn0 : ([] : LB).length = 0 := rfl; have hL6 : [u8 48, u8 13, u8 10, u8 13, u8 10].length = 5 := rfl
  have ho : ∀ k r, (k, r) ∈ hy6 → HOk (cx (nuX (nu6 blk_l base_l es_l l status) (rX (ro6 blk_l base_l es_l l status) (fun _ => .bool true))) (nuX_one (on6 blk_l base_l es_l l status)) 3 laidE laidE_stab) k r := by
    unfold hy6
    exact hc (kBytesB (bs := ([] : LB)) .nil (denX rfl)) <|
     hc (kRn (denX rfl)) <|
     hc (kRl (isX rfl) (denX rfl) (by first | omega | (simp <;> omega))) <|
     hc (gtcF rfl (by omega)) <|
     hc (kRem (isX rfl) (isZ (m := 300) rfl) (denX rfl) (by omega) (by omega) rfl) <|
     hc (kConvF (isX rfl) tu3 (denX rfl) (fI64 (by omega) (by omega))) <|
     hc (kAdd (isZ (m := 200) rfl) (isX rfl) (denX rfl) (by omega) (fI64 (by omega) (by omega))) <|
     hnil
  exact runPR (tb := tab6) (AllOk.lp1 ((tabkOk (nuX (nu6 blk_l base_l es_l l status) (rX (ro6 blk_l base_l es_l l status) (fun _ => .bool true))) (nuX_one (on6 blk_l base_l es_l l status))).hyps ho) (by omega) fi3_at fi3_body (lfCons (lpKnown rfl ⟨0, keyLw, lfOkLw_1 (l := lf9) (h := lh9) l ((status % 300) + 200) (by assumption) (0, (0 : Int), [], []) (mkILw l ((status % 300) + 200) 0 (0 : Int) [] [] ⟨by omega, by omega, by omega, by assumption, by omega, rfl, rfl, (fun q hq => nomatch hq), by simp, by simp, by omega⟩) rfl (by kernel_rfl) (th0 := [(0, .s 0 0), (1, .s 0 0), (2, .i .i64 (.ofNat 0)), (3, .x 5), (2000000, .x 2000000)]) (sg0 := []) (fun X => thCons (show Is _ (.s 0 0) (St' []) from isTo (v := St' ([] : LB)) (isSx (l := ([] : LB)) 0 0 rfl) (by first | rfl | (simp; done))) (thCons (show Is _ (.s 0 0) (St' []) from isTo (v := St' ([] : LB)) (isSx (l := ([] : LB)) 0 0 rfl) (by first | rfl | (simp; done))) (thCons (show Is _ (.i .i64 (.ofNat 0)) (.int .i64 ((0 : Int))) from isTo (v := .int .i64 0) (isI _ _) (by first | rfl | (congr 1; omega))) (thXe (v := .int .i64 ((status % 300) + 200)) (u := .int .i64 (((status % 300) + 200))) rfl rfl (by first | rfl | (congr 1; omega)) (thXv (v := rwS l) rfl rfl (thNil)))))) (by kernel_rfl) (thx := []) (thNil) (by kernel_rfl)⟩) lfNil)) rfl (get_lps (by omega)) fiB3 [.r 2000000 9 1 true] [⟨blk_l, base_l, l.length, es_l⟩] (fun e0 e2 => run6 e0 e2 ) (args := [.slice (some ⟨blk_l, base_l, none⟩) l.length es_l, .int .u16 status]) ⟨_, _, rfl, relSrN (by decide) rfl w_l.room, ⟨_, _, rfl, rfl, rfl⟩⟩ w hl rfl (by decide) (fun e0 e2 => (argsCons (w_l.arg (g_l e0 e2 ) rfl) argsNil)) rfl
def hy7 : LK := [(.bytes [], .x 1),
  (.rn, .x 2000001),
  (.rl (.x 2000000) 1, .x 2),
  (.bin .gtr (.x 2) (.i .i64 (.ofNat 10)), .b true)]
theorem run7 (e0 : Nat) (e2 : Nat) : Go.AX.okB (call (tbl hy7) 9000 3 [.sr 3, .x 0] ⟨addR 3 [.r 2000000 9 1 true] (H0 e0 e2 ), 3 + List.length (α := Ent) [.r 2000000 9 1 true], 0, 0⟩) = true := by kernel_rfl
def nu7 (blk_l : Nat) (base_l : Nat) (es_l : Nat) (l : List LB) (status : Int) : List Value := [.int .u16 (status),
  St' ([] : LB),
  .int .i64 ((l.length : Int))]
def ro7 (blk_l : Nat) (base_l : Nat) (es_l : Nat) (l : List LB) (status : Int) : List Value := [rwS l,
  rwS ([] : List LB)]
theorem on7 (blk_l : Nat) (base_l : Nat) (es_l : Nat) (l : List LB) (status : Int) : ∀ j, (nuL (nu7 blk_l base_l es_l l status) j).oneCell' = true := nuL_one (l := nu7 blk_l base_l es_l l status) rfl
theorem path7 (blk_l : Nat) (base_l : Nat) (es_l : Nat) (l : List LB) (status : Int) (b0 : 1 ≤ l.length) (b1 : ∀ q, q ∈ l → q.length ≤ 140737488351232) (b2 : l.length ≤ 9223372036854775807) (b3 : 0 ≤ status) (b4 : status ≤ 65535) (h0 : 10 < (l.length : Int)) (w : World) (hl : laidE w) (w_l : InRow w 1 (l.map St') blk_l base_l l.length es_l) (g_l : ∀ e0 e2, (H0 e0 e2 ).get blk_l = none) : CwR 3 #[.slice (some ⟨blk_l, base_l, none⟩) l.length es_l, .int .u16 status] w (.bool true) := by
  have hn0 : ([] : LB).length = 0 := rfl; have hL6 : [u8 48, u8 13, u8 10, u8 13, u8 10].length = 5 := rfl
  have ho : ∀ k r, (k, r) ∈ hy7 → HOk (cx (nuX (nu7 blk_l base_l es_l l status) (rX (ro7 blk_l base_l es_l l status) (fun _ => .bool true))) (nuX_one (on7 blk_l base_l es_l l status)) 3 laidE laidE_stab) k r := by
    unfold hy7
    exact hc (kBytesB (bs := ([] : LB)) .nil (denX rfl)) <|
     hc (kRn (denX rfl)) <|
     hc (kRl (isX rfl) (denX rfl) (by first | omega | (simp <;> omega))) <|
     hc (gtcT rfl (by omega)) <|
     hnil
  obtain ⟨fi, hfi, hb⟩ := fiE
  exact runPR (tb := (tbl hy7)) ((tabkOk (nuX (nu7 blk_l base_l es_l l status) (rX (ro7 blk_l base_l es_l l status) (fun _ => .bool true))) (nuX_one (on7 blk_l base_l es_l l status))).hyps ho) rfl hfi hb [.r 2000000 9 1 true] [⟨blk_l, base_l, l.length, es_l⟩] (fun e0 e2 => run7 e0 e2 ) (args := [.slice (some ⟨blk_l, base_l, none⟩) l.length es_l, .int .u16 status]) ⟨_, _, rfl, relSrN (by decide) rfl w_l.room, ⟨_, _, rfl, rfl, rfl⟩⟩ w hl rfl (by decide) (fun e0 e2 => (argsCons (w_l.arg (g_l e0 e2 ) rfl) argsNil)) rfl
end Go.Proofs.YtmeiihmfamaphaaDoor.replyChunks
