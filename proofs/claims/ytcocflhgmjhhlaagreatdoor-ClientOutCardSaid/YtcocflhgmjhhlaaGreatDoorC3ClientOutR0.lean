/- A part of the proof: an interpreter of the model's own code on partly known states, and that what it answers is what the program answers. No condition of its own. -/
import Derived.Test.YtcocflhgmjhhlaaGreatDoorC3ClientOutO
set_option maxRecDepth 100000
set_option linter.unusedVariables false
set_option linter.unusedSimpArgs false
set_option maxHeartbeats 4000000
namespace Go.Proofs.YtcocflhgmjhhlaaGreatDoor.clientOut
open Go Go.AX Go.Proofs Go.Proofs.YtcocflhgmjhhlaaGreatDoor
def hy0 : LK := [(.bin .rem (.x 0) (.i .u16 (.ofNat 1000)), .x 1),
  (.conv 3 (.x 1), .x 2)]
theorem run0 : Go.AX.okB (call (tbl hy0) 9000 6 [.nils, .x 0] ⟨H0 , 4, 0, 0⟩) = true := by kernel_rfl
def nu0 (out : Int) : List Value := [.int .u16 (out),
  .int .u16 (out % 1000),
  .int .i64 ((out % 1000))]
theorem one0 (out : Int) : ∀ j, j < 1000000 → (nuL (nu0 out) j).oneCell' = true := fun j _ => nuL_one (l := nu0 out) rfl j
theorem path0 (out : Int) (b0 : 0 ≤ out) (b1 : out ≤ 65535) (w : World) (hl : laidE w) : CwR 6 #[.slice none 0 0, .int .u16 out] w (.bool true) := by
  have ho : ∀ k r, (k, r) ∈ hy0 → HOk (cx (nuL (nu0 out)) (one0 out) 0 laidE laidE_stab) k r := by
    unfold hy0
    exact hc (kRem (isX rfl) (isZ (m := 1000) rfl) (denX rfl) (by omega) (by omega) rfl) <|
     hc (kConvF (isX rfl) tu3 (denX rfl) (fI64 (by omega) (by omega))) <|
     hnil
  obtain ⟨fi, hfi, hb⟩ := fiE
  exact runP (tb := (tbl hy0)) ((tabkOk (nuL (nu0 out)) (one0 out)).hyps ho) rfl hfi hb (run0 ) (args := [.slice none 0 0, .int .u16 out]) (by simp only [RelL, Rel]; exact ⟨_, _, rfl, rfl, ⟨_, _, rfl, rfl, rfl⟩⟩) w hl
def hy1 : LK := [(.slen (.x 0), .i .i64 (.ofNat 0)),
  (.bin .rem (.x 1) (.i .u16 (.ofNat 1000)), .x 2),
  (.conv 3 (.x 2), .x 3)]
theorem run1 : Go.AX.okB (call (tbl hy1) 9000 6 [.x 0, .x 1] ⟨H0 , 4, 0, 0⟩) = true := by kernel_rfl
def nu1 (ad_l : Addr) (out : Int) : List Value := [.slice (some ad_l) 0 0,
  .int .u16 (out),
  .int .u16 (out % 1000),
  .int .i64 ((out % 1000))]
theorem one1 (ad_l : Addr) (out : Int) : ∀ j, j < 1000000 → (nuL (nu1 ad_l out) j).oneCell' = true := fun j _ => nuL_one (l := nu1 ad_l out) rfl j
theorem path1 (ad_l : Addr) (out : Int) (b0 : 0 ≤ out) (b1 : out ≤ 65535) (w : World) (hl : laidE w) : CwR 6 #[.slice (some ad_l) 0 0, .int .u16 out] w (.bool true) := by
  have ho : ∀ k r, (k, r) ∈ hy1 → HOk (cx (nuL (nu1 ad_l out)) (one1 ad_l out) 0 laidE laidE_stab) k r := by
    unfold hy1
    exact hc (kSlen (isX rfl) (denZ (m := 0) rfl) rfl) <|
     hc (kRem (isX rfl) (isZ (m := 1000) rfl) (denX rfl) (by omega) (by omega) rfl) <|
     hc (kConvF (isX rfl) tu3 (denX rfl) (fI64 (by omega) (by omega))) <|
     hnil
  obtain ⟨fi, hfi, hb⟩ := fiE
  exact runP (tb := (tbl hy1)) ((tabkOk (nuL (nu1 ad_l out)) (one1 ad_l out)).hyps ho) rfl hfi hb (run1 ) (args := [.slice (some ad_l) 0 0, .int .u16 out]) (by simp only [RelL, Rel]; exact ⟨_, _, rfl, rfl, ⟨_, _, rfl, rfl, rfl⟩⟩) w hl
def hy2 : LK := [(.rl (.x 2000000) 1, .x 1),
  (.bin .gtr (.x 1) (.i .i64 (.ofNat 30)), .b true)]
theorem run2 : Go.AX.okB (call (tbl hy2) 9000 6 [.sr 4, .x 0] ⟨addR 4 [.r 2000000 5 1 true] (H0 ), 4 + List.length (α := Ent) [.r 2000000 5 1 true], 0, 0⟩) = true := by kernel_rfl
def nu2 (blk_l : Nat) (base_l : Nat) (es_l : Nat) (l : List Int) (out : Int) : List Value := [.int .u16 (out),
  .int .i64 ((l.length : Int))]
def ro2 (blk_l : Nat) (base_l : Nat) (es_l : Nat) (l : List Int) (out : Int) : List Value := [rwI .u8 l]
theorem on2 (blk_l : Nat) (base_l : Nat) (es_l : Nat) (l : List Int) (out : Int) : ∀ j, (nuL (nu2 blk_l base_l es_l l out) j).oneCell' = true := nuL_one (l := nu2 blk_l base_l es_l l out) rfl
theorem path2 (blk_l : Nat) (base_l : Nat) (es_l : Nat) (l : List Int) (out : Int) (b0 : ∀ n, n ∈ l → 0 ≤ n ∧ n ≤ 255) (b1 : l.length ≤ 9223372036854775807) (b2 : 0 ≤ out) (b3 : out ≤ 65535) (h0 : 30 < (l.length : Int)) (w : World) (hl : laidE w) (w_l : InRow w 1 (l.map (Value.int .u8)) blk_l base_l l.length es_l) (g_l : (H0 ).get blk_l = none) : CwR 6 #[.slice (some ⟨blk_l, base_l, none⟩) l.length es_l, .int .u16 out] w (.bool true) := by
  have ho : ∀ k r, (k, r) ∈ hy2 → HOk (cx (nuX (nu2 blk_l base_l es_l l out) (rX (ro2 blk_l base_l es_l l out) (fun _ => .bool true))) (nuX_one (on2 blk_l base_l es_l l out)) 0 laidE laidE_stab) k r := by
    unfold hy2
    exact hc (kRlI (isX rfl) (denX rfl) (by first | omega | (simp <;> omega))) <|
     hc (gtcT rfl (by omega)) <|
     hnil
  obtain ⟨fi, hfi, hb⟩ := fiE
  exact runPR (tb := (tbl hy2)) ((tabkOk (nuX (nu2 blk_l base_l es_l l out) (rX (ro2 blk_l base_l es_l l out) (fun _ => .bool true))) (nuX_one (on2 blk_l base_l es_l l out))).hyps ho) rfl hfi hb [.r 2000000 5 1 true] [⟨blk_l, base_l, l.length, es_l⟩] (run2 ) (args := [.slice (some ⟨blk_l, base_l, none⟩) l.length es_l, .int .u16 out]) ⟨_, _, rfl, relSr w_l.room, ⟨_, _, rfl, rfl, rfl⟩⟩ w hl rfl (by decide) (args1 (w_l.arg (g_l ) rfl)) nodup1
def hy3 : LK := [(.rl (.x 2000000) 1, .x 1),
  (.bin .gtr (.x 1) (.i .i64 (.ofNat 30)), .b false),
  (.bin .rem (.x 0) (.i .u16 (.ofNat 1000)), .x 2),
  (.conv 3 (.x 2), .x 3),
  (.len (.x 6), .x 7),
  (.mm false (.i .i64 (.ofNat 100000)) (.x 7), .x 7),
  (.bin .eql (.x 7) (.x 4), .b true)]
def lh1 : LH := ⟨4, 7, 18, [(4, .r 2000000 5 1 true), (6, .b ⟨112, .l [.i .i64 (.ofNat 1000), .i .i64 (.ofNat 100), .x 3, .i .i64 (.ofNat 0), .p 5 0, .b false, .nils], 0, 0, 0, false, false⟩)], [(4, .r 2000001 5 1 true), (6, .b ⟨112, .l [.i .i64 (.ofNat 1000), .i .i64 (.ofNat 100), .x 5, .i .i64 (.ofNat 0), .p 5 0, .b false, .sy 7], 0, 0, 0, false, false⟩), (7, .t 6 5)]⟩
def lf1 : LF := ⟨9, 96, [(0, .sr 4), (5, .x 3), (6, .p 6 0), (7, .i .i64 (.ofNat 0)), (8, .b true), (9, .i .i64 (.ofNat 0))], [], (.exit 0), [(0, .sr 4), (5, .x 5), (6, .p 6 0), (7, .x 4), (8, .b true)], some lh1⟩
noncomputable def tab3 : Tab := addLps ({ tabk with hyp := hy3 }) 6 fi6 [lf1]
theorem run3 : Go.AX.okB (call tab3 9000 6 [.sr 4, .x 0] ⟨addR 4 [.r 2000000 5 1 true] (H0 ), 4 + List.length (α := Ent) [.r 2000000 5 1 true], 0, 0⟩) = true := by kernel_rfl
def nu3 (blk_l : Nat) (base_l : Nat) (es_l : Nat) (l : List Int) (out : Int) : List Value := [.int .u16 (out),
  .int .i64 ((l.length : Int)),
  .int .u16 (out % 1000),
  .int .i64 ((out % 1000)),
  .int .i64 ((tlN 0 (out % 1000) l)),
  .int .i64 ((out % 1000)),
  St' (List.replicate (Int.toNat ((tlN 0 (out % 1000) l))) 0),
  .int .i64 ((tlN 0 (out % 1000) l))]
def ro3 (blk_l : Nat) (base_l : Nat) (es_l : Nat) (l : List Int) (out : Int) : List Value := [rwI .u8 l,
  rwI .u8 l]
theorem on3 (blk_l : Nat) (base_l : Nat) (es_l : Nat) (l : List Int) (out : Int) : ∀ j, (nuL (nu3 blk_l base_l es_l l out) j).oneCell' = true := nuL_one (l := nu3 blk_l base_l es_l l out) rfl
theorem path3 (blk_l : Nat) (base_l : Nat) (es_l : Nat) (l : List Int) (out : Int) (b0 : ∀ n, n ∈ l → 0 ≤ n ∧ n ≤ 255) (b1 : l.length ≤ 9223372036854775807) (b2 : 0 ≤ out) (b3 : out ≤ 65535) (h0 : ¬ (30 < (l.length : Int))) (h1 : (tlB 0 (out % 1000) l) = true) (h2 : ¬ ((tlN 0 (out % 1000) l) = 0)) (w : World) (hl : laidE w) (w_l : InRow w 1 (l.map (Value.int .u8)) blk_l base_l l.length es_l) (g_l : (H0 ).get blk_l = none) : CwR 6 #[.slice (some ⟨blk_l, base_l, none⟩) l.length es_l, .int .u16 out] w (.bool true) := by
  have hrg := tl_rng l 0 (out % 1000) (by assumption) (by omega) (by omega)
  have ho : ∀ k r, (k, r) ∈ hy3 → HOk (cx (nuX (nu3 blk_l base_l es_l l out) (rX (ro3 blk_l base_l es_l l out) (fun _ => .bool true))) (nuX_one (on3 blk_l base_l es_l l out)) 0 laidE laidE_stab) k r := by
    unfold hy3
    exact hc (kRlI (isX rfl) (denX rfl) (by first | omega | (simp <;> omega))) <|
     hc (gtcF rfl (by omega)) <|
     hc (kRem (isX rfl) (isZ (m := 1000) rfl) (denX rfl) (by omega) (by omega) rfl) <|
     hc (kConvF (isX rfl) tu3 (denX rfl) (fI64 (by omega) (by omega))) <|
     hc (lnV rfl rfl (by first | omega | (simp <;> omega))) <|
     hc (kMin (isZ (m := 100000) rfl) (isX rfl) (denX rfl) (by omega)) <|
     hc (eqXT rfl rfl (by omega)) <|
     hnil
  exact runPR (tb := tab3) (AllOk.lp1 ((tabkOk (nuX (nu3 blk_l base_l es_l l out) (rX (ro3 blk_l base_l es_l l out) (fun _ => .bool true))) (nuX_one (on3 blk_l base_l es_l l out))).hyps ho) (by omega) fi6_at fi6_body (lfCons (lpKnown rfl ⟨0, keyOc, lfOkOc_1 (l := lf1) (h := lh1) l (out % 1000) (tlN 0 (out % 1000) l) (tlB 0 (out % 1000) l) (by assumption) (by assumption) (0, (0 : Int), (0 : Int)) (mkIOc l (out % 1000) (tlN 0 (out % 1000) l) (tlB 0 (out % 1000) l) 0 (0 : Int) (0 : Int) ⟨by omega, by omega, by omega, by assumption, by omega, by omega, by omega, by omega, fun _ => rfl, fun _ => rfl, fun h => by omega, fun h => by omega, fun _ => rfl, fun h => by omega, by omega⟩) rfl (by kernel_rfl) (th0 := [(0, .i .i64 (.ofNat 0)), (1, .i .i64 (.ofNat 0)), (2, .x 3), (2000000, .x 2000000)]) (sg0 := []) (fun X => thCons (show Is _ (.i .i64 (.ofNat 0)) (.int .i64 ((0 : Int))) from isTo (v := .int .i64 0) (isI _ _) (by first | rfl | (congr 1; omega))) (thCons (show Is _ (.i .i64 (.ofNat 0)) (.int .i64 ((0 : Int))) from isTo (v := .int .i64 0) (isI _ _) (by first | rfl | (congr 1; omega))) (thXv (v := .int .i64 ((out % 1000))) rfl rfl (thXv (v := rwI .u8 l) rfl rfl (thNil))))) (by kernel_rfl) (thx := [(4, .x 0), (5, .x 1), (6, .x 2), (2000001, .x 2000000)]) (thXv (v := .int .i64 ((tlN 0 (out % 1000) l))) rfl rfl (thXv (v := .int .i64 ((out % 1000))) rfl rfl (thXv (v := St' (List.replicate (Int.toNat ((tlN 0 (out % 1000) l))) 0)) rfl rfl (thXv (v := rwI .u8 l) rfl rfl (thNil))))) (by kernel_rfl)⟩) lfNil)) rfl (get_lps (by omega)) fiB6 [.r 2000000 5 1 true] [⟨blk_l, base_l, l.length, es_l⟩] (run3 ) (args := [.slice (some ⟨blk_l, base_l, none⟩) l.length es_l, .int .u16 out]) ⟨_, _, rfl, relSr w_l.room, ⟨_, _, rfl, rfl, rfl⟩⟩ w hl rfl (by decide) (args1 (w_l.arg (g_l ) rfl)) nodup1
end Go.Proofs.YtcocflhgmjhhlaaGreatDoor.clientOut
