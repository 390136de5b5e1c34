/- A part of the proof: an interpreter of the model's own code on partly known states, and that what it answers is what the program answers. No condition of its own. -/
import Derived.Test.YtfoalkoifcpdmaaT1FramesBackO5
set_option maxRecDepth 100000
set_option linter.unusedVariables false
set_option linter.unusedSimpArgs false
set_option maxHeartbeats 4000000
namespace Go.Proofs.Ytfoalkoifcpdmaa.framesBack
open Go Go.AX Go.Proofs Go.Proofs.Ytfoalkoifcpdmaa
def hy0 : LK := [(.bytes [], .x 2),
  (.rn, .x 2000000),
  (.len (.x 1), .x 3),
  (.bin .gtr (.x 3) (I6 5000), .b false),
  (.bin .eql (.x 0) (.i .u8 (.ofNat 0)), .b false),
  (.conv 3 (.x 0), .x 4),
  (.rl (.x 2000001) 4, .x 5),
  (.bin .add (I6 1) (.x 5), .x 6),
  (.bin .lss (.x 6) (I6 0), .b false),
  (.rl (.x 2000002) 4, .x 7),
  (.bin .add (.x 6) (.x 7), .x 8),
  (.bin .lss (.x 8) (I6 0), .b false),
  (.bin .sub (.x 8) (I6 0), .x 9),
  (.bin .gtr (.x 9) (I6 0), .b true),
  (.rg 31 (.x 9), .x 2000003),
  (.rt (.x 2000003) (I6 0) 4, .x 2000004),
  (.ra (.x 2000004) [I6 1, .x 4, .s 8 65792, I6 0], .x 2000005),
  (.rf (.x 2000005) 4 40, .b true),
  (.rr (.x 2000005) (.x 2000001), .x 2000006),
  (.rf (.x 2000006) 4 40, .b true),
  (.rr (.x 2000006) (.x 2000002), .x 2000007),
  (.rf (.x 2000007) 4 40, .b true),
  (.len (.x 10), I6 0),
  (.bin .eql (.x 12) (I6 2), .b true),
  (.bin .eql (.x 11) (.x 1), .b true)]
def lh4 : LH := ⟨1, 111, 141, [], [(111, .r 2000001 31 4 false)]⟩
def lf4 : LF := ⟨8888888, 0, [(0, I6 4), (1, .x 4), (2, .s 0 0)], [], .normal, [(0, .sr 111)], some lh4⟩
def lh5 : LH := ⟨1, 111, 141, [], [(111, .r 2000002 31 4 false)]⟩
def lf5 : LF := ⟨8888888, 0, [(0, I6 5), (1, .x 4), (2, .x 1)], [], .normal, [(0, .sr 111)], some lh5⟩
def lh6 : LH := ⟨1, 141, 171, [], [(141, .r 2000002 31 4 false)]⟩
def lf6 : LF := ⟨8888888, 0, [(0, I6 5), (1, .x 4), (2, .x 1)], [], .normal, [(0, .sr 141)], some lh6⟩
def lh7 : LH := ⟨1, 221, 233, [(176, .r 2000007 31 4 false)], []⟩
def lf7 : LF := ⟨13, 175, [(0, .x 0), (8, .sr 176), (9, .s 0 0), (10, .s 0 0), (11, I6 0), (12, I6 0)], [1, 2], (.exit 2), [(9, .x 10), (10, .x 11), (11, .x 12)], some lh7⟩
noncomputable def tab0 : Tab := aL2 (aL2 ({ tabk with hyp := hy0 }) 9 fi9 [lf4, lf6]) 4 fi4 [lf7]
theorem run0 : Go.AX.okB (call tab0 9000 4 [.x 0, .es, .x 1] ⟨H0 , 1, 0, 0⟩) = true := by kernel_rfl
def nu0 (id_ : Int) (ad_z : Option Addr) (cp_z : Nat) (body : LB) : List Value := [.int .u8 (id_),
  St' body,
  St' ([] : LB),
  .int .i64 ((body.length : Int)),
  .int .i64 (id_),
  .int .i64 (((spS 4 id_ ([] : LB)).length : Int)),
  .int .i64 (((spS 4 id_ ([] : LB)).length : Int) + 1),
  .int .i64 (((spS 5 id_ body).length : Int)),
  .int .i64 (((spS 4 id_ ([] : LB)).length : Int) + ((spS 5 id_ body).length : Int) + 1),
  .int .i64 (((spS 4 id_ ([] : LB)).length : Int) + ((spS 5 id_ body).length : Int) + 1),
  St' ([] : LB),
  St' body,
  .int .i64 ((2 : Int))]
def ro0 (id_ : Int) (ad_z : Option Addr) (cp_z : Nat) (body : LB) : List Value := [rwS ([] : List LB),
  rwG reC (spS 4 id_ ([] : LB)),
  rwG reC (spS 5 id_ body),
  rwG reC (List.replicate (Int.toNat (((spS 4 id_ ([] : LB)).length : Int) + ((spS 5 id_ body).length : Int) + 1)) (0, 0, [], 0)),
  rwG reC ([] : List (Int × Int × LB × Int)),
  rwG reC (([] : List (Int × Int × LB × Int)) ++ [(1, id_, [u8 0, u8 1, u8 1, u8 0, u8 0, u8 0, u8 0, u8 0], 0)]),
  rwG reC ((([] : List (Int × Int × LB × Int)) ++ [(1, id_, [u8 0, u8 1, u8 1, u8 0, u8 0, u8 0, u8 0, u8 0], 0)]) ++ (spS 4 id_ ([] : LB))),
  rwG reC (((([] : List (Int × Int × LB × Int)) ++ [(1, id_, [u8 0, u8 1, u8 1, u8 0, u8 0, u8 0, u8 0, u8 0], 0)]) ++ (spS 4 id_ ([] : LB))) ++ (spS 5 id_ body))]
theorem on0 (id_ : Int) (ad_z : Option Addr) (cp_z : Nat) (body : LB) : ∀ j, (nuL (nu0 id_ ad_z cp_z body) j).oneCell' = true := aA9 (l := nu0 id_ ad_z cp_z body) rfl
theorem path0 (id_ : Int) (ad_z : Option Addr) (cp_z : Nat) (body : LB) (b0 : 0 ≤ id_) (b1 : id_ ≤ 255) (b2 : body.length ≤ 9223372036854775807) (h0 : ¬ (5000 < (body.length : Int))) (h1 : ¬ (id_ = 0)) (w : World) (hl : aB0 w) : CwR 4 #[.int .u8 id_, .slice ad_z 0 cp_z, St' body] w (.bool true) := by
  have hn0 : ([] : LB).length = 0 := rfl
  have := aH1 (t := 4) (i := id_) ([] : LB)
  have := aH1 (t := 5) (i := id_) body
  have hrw := aL8 (iq := id_) (P := ([] : LB)) (B := body)
  have ho : ∀ k r, (k, r) ∈ hy0 → HOk (cx (nuX (nu0 id_ ad_z cp_z body) (rX (ro0 id_ ad_z cp_z body) (fun _ => .bool true))) (aB3 (on0 id_ ad_z cp_z body)) 0 aB0 aA1) k r := by
    unfold hy0
    exact hc (kB0 rfl) <|hc (kRn (denX rfl)) <|hc (lnV rfl rfl (by omega)) <|hc (gtcF rfl (by omega)) <|hc (eqcF rfl (by omega)) <|hc (kConvF (isX rfl) tu3 (denX rfl) (fI64 (by omega) (by omega))) <|hc (kRlG aC3 (isX rfl) (denX rfl) (by first | omega | (simp <;> omega))) <|hc (kAdd (isZ (m := 1) rfl) (isX rfl) (denX rfl) (by omega) (fI64 (by omega) (by omega))) <|hc (ltcF rfl (by omega)) <|hc (kRlG aC3 (isX rfl) (denX rfl) (by first | omega | (simp <;> omega))) <|hc (adX rfl rfl rfl (by omega)) <|hc (ltcF rfl (by omega)) <|hc (sbC rfl rfl (by omega)) <|hc (gtcT rfl (by omega)) <|hc (kRg (by refine ⟨_, rfl, ?_, ?_, ?_⟩ <;> kernel_rfl) (isX rfl) (by omega) (by omega) (denX rfl)) <|hc (kRt (f := reC) (j := 0) aC3 (isX rfl) (isZ (m := 0) rfl) (denX (congrArg (rwG reC) (List.take_zero (l := (List.replicate (Int.toNat (((spS 4 id_ ([] : LB)).length : Int) + ((spS 5 id_ body).length : Int) + 1)) (0, 0, [], 0)))).symm)) (by omega) (by omega)) <|hc (kRaG (f := reC) (l := ([] : List (Int × Int × LB × Int))) (a := (1, id_, [u8 0, u8 1, u8 1, u8 0, u8 0, u8 0, u8 0, u8 0], 0)) (isX rfl) (isL4 (isZ (m := 1) rfl) (isX rfl) (isSx (l := [u8 0, u8 1, u8 1, u8 0, u8 0, u8 0, u8 0, u8 0]) 8 65792 rfl) (isZ (m := 0) rfl)) (denX rfl)) <|hc (kRfG aC3 (isX rfl) (by first | (rw [List.length_append]; omega) | (first | omega | (simp <;> omega))) (by first | (rw [List.length_append]; omega) | (first | omega | (simp <;> omega)))) <|hc (kRr (f := reC) (l := (([] : List (Int × Int × LB × Int)) ++ [(1, id_, [u8 0, u8 1, u8 1, u8 0, u8 0, u8 0, u8 0, u8 0], 0)])) (m := (spS 4 id_ ([] : LB))) (isX rfl) (isX rfl) (denX rfl)) <|hc (kRfG aC3 (isX rfl) (by first | (rw [List.length_append]; omega) | (first | omega | (simp <;> omega))) (by first | (rw [List.length_append]; omega) | (first | omega | (simp <;> omega)))) <|hc (kRr (f := reC) (l := ((([] : List (Int × Int × LB × Int)) ++ [(1, id_, [u8 0, u8 1, u8 1, u8 0, u8 0, u8 0, u8 0, u8 0], 0)]) ++ (spS 4 id_ ([] : LB)))) (m := (spS 5 id_ body)) (isX rfl) (isX rfl) (denX rfl)) <|hc (kRfG aC3 (isX rfl) (by first | (rw [List.length_append]; omega) | (first | omega | (simp <;> omega))) (by first | (rw [List.length_append]; omega) | (first | omega | (simp <;> omega)))) <|hc (kLenE (isX rfl) (denZ (m := 0) rfl) rfl) <|hc (eqcT rfl (by omega)) <|hc (kEqS (isX rfl) (isX rfl) (decide_eq_true rfl)) <|hnil
  exact runP (tb := tab0) (aF3.lp1 (aF3.lp2 ((aD2 (nuX (nu0 id_ ad_z cp_z body) (rX (ro0 id_ ad_z cp_z body) (fun _ => .bool true))) (aB3 (on0 id_ ad_z cp_z body))).hyps ho) (by omega) cT3 aV5 (aN4 (.inr ⟨⟨rfl, rfl⟩, cfA9, cL9 (l := lf4) (h := lh4) (q := (0, .sr 111)) 4 id_ ([] : LB) (by omega) rfl rfl (by kernel_rfl) (th0 := [(0, I6 4), (1, .x 4), (2, .s 0 0)]) (sg0 := []) (aJ2 (show Is _ (I6 4) (.int .i64 (4)) from isTo (v := .int .i64 4) (isI _ _) (by first | rfl | (congr 1; omega))) (thXv (v := .int .i64 (id_)) rfl rfl (aJ2 (show Is _ (.s 0 0) (St' ([] : LB)) from isTo (v := St' ([] : LB)) (isSx (l := ([] : LB)) 0 0 rfl) (by first | rfl | (simp; done))) (aE0)))) (by kernel_rfl) (thx := [(2000001, .x 2000000)]) (thXv (v := rwG reC (spS 4 id_ ([] : LB))) rfl rfl (aE0)) (by kernel_rfl)⟩) (aN4 (.inr ⟨⟨rfl, rfl⟩, cfA9, dP7 (l := lf5) (l' := lf6) (h := lh5) (h' := lh6) (q := (0, .sr 111)) (q' := (0, .sr 141)) (ids := [2000002]) (sg := [(141, 111)] ++ sgJ 1 140) (cL9 (l := lf5) (h := lh5) (q := (0, .sr 111)) 5 id_ body (by omega) rfl rfl (by kernel_rfl) (th0 := [(0, I6 5), (1, .x 4), (2, .x 1)]) (sg0 := []) (aJ2 (show Is _ (I6 5) (.int .i64 (5)) from isTo (v := .int .i64 5) (isI _ _) (by first | rfl | (congr 1; omega))) (thXv (v := .int .i64 (id_)) rfl rfl (thXv (v := St' body) rfl rfl (aE0)))) (by kernel_rfl) (thx := [(2000002, .x 2000000)]) (thXv (v := rwG reC (spS 5 id_ body)) rfl rfl (aE0)) (by kernel_rfl)) rfl rfl rfl rfl (by kernel_rfl) (by kernel_rfl)⟩) bQ1))) (by omega) (aG9 (by omega) (by omega) dO7) bM3 (aN4 (aO8 rfl ⟨1, keyBk, dE6 (l := lf7) (h := lh7) id_ ([] : LB) body (⟨by omega, by omega⟩) (by omega) (by omega) (0, (0 : Int), ([] : LB), ([] : LB), (0 : Int)) (cW5 ⟨by omega, by omega, fr_st (by omega), fr_st (by omega), .inl ⟨by omega, rfl⟩, by omega⟩) rfl (by kernel_rfl) (th0 := [(0, .x 0), (1, I6 0), (2, .s 0 0), (3, .s 0 0), (4, I6 0), (2000000, .x 2000007)]) (sg0 := [(221, 176)]) (fun X => thXv (v := .int .u8 (id_)) rfl rfl (aJ2 (show Is _ (I6 0) (.int .i64 ((0 : Int))) from isTo (v := .int .i64 0) (isI _ _) (by first | rfl | (congr 1; omega))) (aJ2 (show Is _ (.s 0 0) (St' ([] : LB)) from isTo (v := St' ([] : LB)) (isSx (l := ([] : LB)) 0 0 rfl) (by first | rfl | (simp; done))) (aJ2 (show Is _ (.s 0 0) (St' ([] : LB)) from isTo (v := St' ([] : LB)) (isSx (l := ([] : LB)) 0 0 rfl) (by first | rfl | (simp; done))) (aJ2 (show Is _ (I6 0) (.int .i64 ((0 : Int))) from isTo (v := .int .i64 0) (isI _ _) (by first | rfl | (congr 1; omega))) (thXe (v := rwG reC (((([] : List (Int × Int × LB × Int)) ++ [(1, id_, [u8 0, u8 1, u8 1, u8 0, u8 0, u8 0, u8 0, u8 0], 0)]) ++ (spS 4 id_ ([] : LB))) ++ (spS 5 id_ body))) (u := rwG reC (rwF id_ ([] : LB) body)) rfl rfl (by first | rfl | (simp; done)) (aE0))))))) (by kernel_rfl) (thx := [(10, .x 0), (11, .x 1), (12, .x 2)]) (thXv (v := St' ([] : LB)) rfl rfl (thXv (v := St' body) rfl rfl (thXv (v := .int .i64 ((2 : Int))) rfl rfl (aE0)))) (by kernel_rfl)⟩) bQ1)) rfl (bF5 (by omega)) fiB4 (run0 ) (args := [.int .u8 id_, .slice ad_z 0 cp_z, St' body]) (by simp only [RelL, Rel]; exact ⟨_, _, rfl, rfl, ⟨_, _, rfl, ⟨_, _, rfl⟩, ⟨_, _, rfl, rfl, rfl⟩⟩⟩) w hl
def hy1 : LK := [(.bytes [], .x 2),
  (.rn, .x 2000000),
  (.len (.x 1), .x 3),
  (.bin .gtr (.x 3) (I6 5000), .b true)]
theorem run1 : Go.AX.okB (call (tbl hy1) 9000 4 [.x 0, .es, .x 1] ⟨H0 , 1, 0, 0⟩) = true := by kernel_rfl
def nu1 (id_ : Int) (ad_z : Option Addr) (cp_z : Nat) (body : LB) : List Value := [.int .u8 (id_),
  St' body,
  St' ([] : LB),
  .int .i64 ((body.length : Int))]
def ro1 (id_ : Int) (ad_z : Option Addr) (cp_z : Nat) (body : LB) : List Value := [rwS ([] : List LB)]
theorem on1 (id_ : Int) (ad_z : Option Addr) (cp_z : Nat) (body : LB) : ∀ j, (nuL (nu1 id_ ad_z cp_z body) j).oneCell' = true := aA9 (l := nu1 id_ ad_z cp_z body) rfl
theorem path1 (id_ : Int) (ad_z : Option Addr) (cp_z : Nat) (body : LB) (b0 : 0 ≤ id_) (b1 : id_ ≤ 255) (b2 : body.length ≤ 9223372036854775807) (h0 : 5000 < (body.length : Int)) (w : World) (hl : aB0 w) : CwR 4 #[.int .u8 id_, .slice ad_z 0 cp_z, St' body] w (.bool true) := by
  have hn0 : ([] : LB).length = 0 := rfl
  have ho : ∀ k r, (k, r) ∈ hy1 → HOk (cx (nuX (nu1 id_ ad_z cp_z body) (rX (ro1 id_ ad_z cp_z body) (fun _ => .bool true))) (aB3 (on1 id_ ad_z cp_z body)) 0 aB0 aA1) k r := by
    unfold hy1
    exact hc (kB0 rfl) <|hc (kRn (denX rfl)) <|hc (lnV rfl rfl (by omega)) <|hc (gtcT rfl (by omega)) <|hnil
  obtain ⟨fi, hfi, hb⟩ := fiE
  exact runP (tb := (tbl hy1)) ((aD2 (nuX (nu1 id_ ad_z cp_z body) (rX (ro1 id_ ad_z cp_z body) (fun _ => .bool true))) (aB3 (on1 id_ ad_z cp_z body))).hyps ho) rfl hfi hb (run1 ) (args := [.int .u8 id_, .slice ad_z 0 cp_z, St' body]) (by simp only [RelL, Rel]; exact ⟨_, _, rfl, rfl, ⟨_, _, rfl, ⟨_, _, rfl⟩, ⟨_, _, rfl, rfl, rfl⟩⟩⟩) w hl
def hy2 : LK := [(.bytes [], .x 2),
  (.rn, .x 2000001),
  (.rl (.x 2000000) 2, .x 3),
  (.bin .gtr (.x 3) (I6 30), .b false),
  (.len (.x 1), .x 4),
  (.bin .gtr (.x 4) (I6 5000), .b false),
  (.bin .eql (.x 0) (.i .u8 (.ofNat 0)), .b false),
  (.conv 3 (.x 0), .x 5),
  (.rl (.x 2000002) 2, .x 6),
  (.byt (.x 7) (I6 0), .x 8),
  (.len (.x 7), .x 9),
  (.fit (.x 7), .b true),
  (.rl (.x 2000004) 4, .x 10),
  (.bin .add (I6 1) (.x 10), .x 11),
  (.bin .lss (.x 11) (I6 0), .b false),
  (.rl (.x 2000005) 4, .x 12),
  (.bin .add (.x 11) (.x 12), .x 13),
  (.bin .lss (.x 13) (I6 0), .b false),
  (.bin .sub (.x 13) (I6 0), .x 14),
  (.bin .gtr (.x 14) (I6 0), .b true),
  (.rg 31 (.x 14), .x 2000006),
  (.rt (.x 2000006) (I6 0) 4, .x 2000007),
  (.ra (.x 2000007) [I6 1, .x 5, .s 8 65792, I6 0], .x 2000008),
  (.rf (.x 2000008) 4 40, .b true),
  (.rr (.x 2000008) (.x 2000004), .x 2000009),
  (.rf (.x 2000009) 4 40, .b true),
  (.rr (.x 2000009) (.x 2000005), .x 2000010),
  (.rf (.x 2000010) 4 40, .b true),
  (.bin .eql (.x 17) (I6 2), .b true),
  (.rl (.x 2000011) 2, .x 18),
  (.rl (.x 2000003) 2, .x 19),
  (.bin .neq (.x 18) (.x 19), .b false),
  (.bin .eql (.x 16) (.x 1), .b true)]
def lh8 : LH := ⟨1, 11, 41, [(1, .r 2000000 25 2 true)], [(1, .r 2000002 25 2 true)]⟩
def lf8 : LF := ⟨6, 175, [(1, .sr 1), (7, I6 0)], [0, 2], (.exit 0), [(1, .sr 1)], some lh8⟩
def lh9 : LH := ⟨1, 61, 101, [(1, .r 2000002 25 2 true), (47, bk 54 [.nilp, .nils])], [(1, .r 2000003 25 2 true), (61, bk 54 [.p 61 0, .sy 62]), (62, .t 7 5)]⟩
def lf9 : LF := ⟨3, 30, [(3, .p 47 0), (6, .sr 1), (7, .x 6), (8, I6 0)], [], (.exit 0), [(3, .p 61 0)], some lh9⟩
def lh10 : LH := ⟨1, 111, 141, [], [(111, .r 2000004 31 4 false)]⟩
def lf10 : LF := ⟨8888888, 0, [(0, I6 4), (1, .x 5), (2, .x 7)], [], .normal, [(0, .sr 111)], some lh10⟩
def lh11 : LH := ⟨1, 111, 141, [], [(111, .r 2000005 31 4 false)]⟩
def lf11 : LF := ⟨8888888, 0, [(0, I6 5), (1, .x 5), (2, .x 1)], [], .normal, [(0, .sr 111)], some lh11⟩
def lh12 : LH := ⟨1, 141, 171, [], [(141, .r 2000005 31 4 false)]⟩
def lf12 : LF := ⟨8888888, 0, [(0, I6 5), (1, .x 5), (2, .x 1)], [], .normal, [(0, .sr 141)], some lh12⟩
def lh13 : LH := ⟨1, 221, 233, [(176, .r 2000010 31 4 false)], []⟩
def lf13 : LF := ⟨13, 175, [(0, .x 0), (8, .sr 176), (9, .s 0 0), (10, .s 0 0), (11, I6 0), (12, I6 0)], [1, 2], (.exit 2), [(9, .x 15), (10, .x 16), (11, .x 17)], some lh13⟩
def lh14 : LH := ⟨1, 301, 361, [], [(301, .r 2000011 25 2 false)]⟩
def lf14 : LF := ⟨2, 62, [(0, .x 15), (4, .nils)], [], (.exit 0), [(4, .sr 301)], some lh14⟩
def lh15 : LH := ⟨1, 401, 403, [(1, .r 2000003 25 2 true), (301, .r 2000011 25 2 false)], [(1, .r 2000012 25 2 true)]⟩
def lf15 : LF := ⟨4, 26, [(0, .sr 301), (1, .sr 1), (5, I6 0)], [], (.exit 0), [], some lh15⟩
noncomputable def tab2 : Tab := aL2 (aL2 (aL2 (aL2 (aL2 ({ tabk with hyp := hy2 }) 4 fi4 [lf8, lf13]) 19 fi19 [lf9]) 9 fi9 [lf10, lf12]) 15 fi15 [lf14]) 16 fi16 [lf15]
theorem run2 : Go.AX.okB (call tab2 9000 4 [.x 0, .sr 1, .x 1] ⟨addR 1 [.r 2000000 25 2 true] (H0 ), 1 + List.length (α := Ent) [.r 2000000 25 2 true], 0, 0⟩) = true := by kernel_rfl
def nu2 (id_ : Int) (aB9 : Nat) (aB6 : Nat) (es_z : Nat) (z : List (LB × LB)) (body : LB) : List Value := [.int .u8 (id_),
  St' body,
  St' ([] : LB),
  .int .i64 ((z.length : Int)),
  .int .i64 ((body.length : Int)),
  .int .i64 (id_),
  .int .i64 ((z.length : Int)),
  St' (pS z),
  .int .u8 (bt (pS z) 0),
  .int .i64 (((pS z).length : Int)),
  .int .i64 (((spS 4 id_ (pS z)).length : Int)),
  .int .i64 (((spS 4 id_ (pS z)).length : Int) + 1),
  .int .i64 (((spS 5 id_ body).length : Int)),
  .int .i64 (((spS 4 id_ (pS z)).length : Int) + ((spS 5 id_ body).length : Int) + 1),
  .int .i64 (((spS 4 id_ (pS z)).length : Int) + ((spS 5 id_ body).length : Int) + 1),
  St' (pS z),
  St' body,
  .int .i64 ((2 : Int)),
  .int .i64 ((z.length : Int)),
  .int .i64 ((z.length : Int))]
def ro2 (id_ : Int) (aB9 : Nat) (aB6 : Nat) (es_z : Nat) (z : List (LB × LB)) (body : LB) : List Value := [rwG prC z,
  rwS ([] : List LB),
  rwG prC z,
  rwG prC z,
  rwG reC (spS 4 id_ (pS z)),
  rwG reC (spS 5 id_ body),
  rwG reC (List.replicate (Int.toNat (((spS 4 id_ (pS z)).length : Int) + ((spS 5 id_ body).length : Int) + 1)) (0, 0, [], 0)),
  rwG reC ([] : List (Int × Int × LB × Int)),
  rwG reC (([] : List (Int × Int × LB × Int)) ++ [(1, id_, [u8 0, u8 1, u8 1, u8 0, u8 0, u8 0, u8 0, u8 0], 0)]),
  rwG reC ((([] : List (Int × Int × LB × Int)) ++ [(1, id_, [u8 0, u8 1, u8 1, u8 0, u8 0, u8 0, u8 0, u8 0], 0)]) ++ (spS 4 id_ (pS z))),
  rwG reC (((([] : List (Int × Int × LB × Int)) ++ [(1, id_, [u8 0, u8 1, u8 1, u8 0, u8 0, u8 0, u8 0, u8 0], 0)]) ++ (spS 4 id_ (pS z))) ++ (spS 5 id_ body)),
  rwG prC z,
  rwG prC z]
theorem on2 (id_ : Int) (aB9 : Nat) (aB6 : Nat) (es_z : Nat) (z : List (LB × LB)) (body : LB) : ∀ j, (nuL (nu2 id_ aB9 aB6 es_z z body) j).oneCell' = true := aA9 (l := nu2 id_ aB9 aB6 es_z z body) rfl
theorem path2 (id_ : Int) (aB9 : Nat) (aB6 : Nat) (es_z : Nat) (z : List (LB × LB)) (body : LB) (b0 : 0 ≤ id_) (b1 : id_ ≤ 255) (b2 : 1 ≤ z.length) (b3 : ∀ n, n ∈ z → prB n) (b4 : z.length ≤ 9223372036854775807) (b5 : body.length ≤ 9223372036854775807) (h0 : ¬ (30 < (z.length : Int))) (h1 : ¬ (5000 < (body.length : Int))) (h2 : ¬ (id_ = 0)) (h3 : ok6 z) (w : World) (hl : aB0 w) (w_z : cV0 w 2 (z.flatMap prC) aB9 aB6 z.length es_z) (g_z : (H0 ).get aB9 = none) : CwR 4 #[.int .u8 id_, .slice (some ⟨aB9, aB6, none⟩) z.length es_z, St' body] w (.bool true) := by
  have hn0 : ([] : LB).length = 0 := rfl
  have hpl := dK9 z (by assumption)
  have := bI9 (pS z) 0; have := aX1 (pS z) 0
  have := aH1 (t := 4) (i := id_) (pS z)
  have := aH1 (t := 5) (i := id_) body
  have hrw := aL8 (iq := id_) (P := (pS z)) (B := body)
  have ho : ∀ k r, (k, r) ∈ hy2 → HOk (cx (nuX (nu2 id_ aB9 aB6 es_z z body) (rX (ro2 id_ aB9 aB6 es_z z body) (fun _ => .bool true))) (aB3 (on2 id_ aB9 aB6 es_z z body)) 0 aB0 aA1) k r := by
    unfold hy2
    exact hc (kB0 rfl) <|hc (kRn (denX rfl)) <|hc (kRlG aD6 (isX rfl) (denX rfl) (by first | omega | (simp <;> omega))) <|hc (gtcF rfl (by omega)) <|hc (lnV rfl rfl (by omega)) <|hc (gtcF rfl (by omega)) <|hc (eqcF rfl (by omega)) <|hc (kConvF (isX rfl) tu3 (denX rfl) (fI64 (by omega) (by omega))) <|hc (kRlG aD6 (isX rfl) (denX rfl) (by first | omega | (simp <;> omega))) <|hc (kByt (i := 0) (isX rfl) (isZ (m := 0) rfl) (denX rfl) rfl (by first | omega | (simp <;> omega)) rfl) <|hc (lnV rfl rfl (by omega)) <|hc (kFit (isX rfl) (by first | omega | (simp <;> omega))) <|hc (kRlG aC3 (isX rfl) (denX rfl) (by first | omega | (simp <;> omega))) <|hc (kAdd (isZ (m := 1) rfl) (isX rfl) (denX rfl) (by omega) (fI64 (by omega) (by omega))) <|hc (ltcF rfl (by omega)) <|hc (kRlG aC3 (isX rfl) (denX rfl) (by first | omega | (simp <;> omega))) <|hc (adX rfl rfl rfl (by omega)) <|hc (ltcF rfl (by omega)) <|hc (sbC rfl rfl (by omega)) <|hc (gtcT rfl (by omega)) <|hc (kRg (by refine ⟨_, rfl, ?_, ?_, ?_⟩ <;> kernel_rfl) (isX rfl) (by omega) (by omega) (denX rfl)) <|hc (kRt (f := reC) (j := 0) aC3 (isX rfl) (isZ (m := 0) rfl) (denX (congrArg (rwG reC) (List.take_zero (l := (List.replicate (Int.toNat (((spS 4 id_ (pS z)).length : Int) + ((spS 5 id_ body).length : Int) + 1)) (0, 0, [], 0)))).symm)) (by omega) (by omega)) <|hc (kRaG (f := reC) (l := ([] : List (Int × Int × LB × Int))) (a := (1, id_, [u8 0, u8 1, u8 1, u8 0, u8 0, u8 0, u8 0, u8 0], 0)) (isX rfl) (isL4 (isZ (m := 1) rfl) (isX rfl) (isSx (l := [u8 0, u8 1, u8 1, u8 0, u8 0, u8 0, u8 0, u8 0]) 8 65792 rfl) (isZ (m := 0) rfl)) (denX rfl)) <|hc (kRfG aC3 (isX rfl) (by first | (rw [List.length_append]; omega) | (first | omega | (simp <;> omega))) (by first | (rw [List.length_append]; omega) | (first | omega | (simp <;> omega)))) <|hc (kRr (f := reC) (l := (([] : List (Int × Int × LB × Int)) ++ [(1, id_, [u8 0, u8 1, u8 1, u8 0, u8 0, u8 0, u8 0, u8 0], 0)])) (m := (spS 4 id_ (pS z))) (isX rfl) (isX rfl) (denX rfl)) <|hc (kRfG aC3 (isX rfl) (by first | (rw [List.length_append]; omega) | (first | omega | (simp <;> omega))) (by first | (rw [List.length_append]; omega) | (first | omega | (simp <;> omega)))) <|hc (kRr (f := reC) (l := ((([] : List (Int × Int × LB × Int)) ++ [(1, id_, [u8 0, u8 1, u8 1, u8 0, u8 0, u8 0, u8 0, u8 0], 0)]) ++ (spS 4 id_ (pS z)))) (m := (spS 5 id_ body)) (isX rfl) (isX rfl) (denX rfl)) <|hc (kRfG aC3 (isX rfl) (by first | (rw [List.length_append]; omega) | (first | omega | (simp <;> omega))) (by first | (rw [List.length_append]; omega) | (first | omega | (simp <;> omega)))) <|hc (eqcT rfl (by omega)) <|hc (kRlG aD6 (isX rfl) (denX rfl) (by first | omega | (simp <;> omega))) <|hc (kRlG aD6 (isX rfl) (denX rfl) (by first | omega | (simp <;> omega))) <|hc (kNeI (isX rfl) (isX rfl) (neF (by omega))) <|hc (kEqS (isX rfl) (isX rfl) (decide_eq_true rfl)) <|hnil
  exact runPR (tb := tab2) (aF3.lp1 (aF3.lp1 (aF3.lp2 (aF3.lp1 (aF3.lp1 ((aD2 (nuX (nu2 id_ aB9 aB6 es_z z body) (rX (ro2 id_ aB9 aB6 es_z z body) (fun _ => .bool true))) (aB3 (on2 id_ aB9 aB6 es_z z body))).hyps ho) (by omega) dO7 bM3 (aN4 (aO8 rfl ⟨0, keyOk1, lfOkOk1_0 (l := lf8) (h := lh8) z (by assumption) (0, (0 : Int)) (dN0 ⟨by omega, by omega, by omega, by assumption, (fun q hq => nomatch hq), by omega⟩) rfl (by kernel_rfl) (th0 := [(0, I6 0), (2000000, .x 2000000)]) (sg0 := []) (fun X => aJ2 (show Is _ (I6 0) (.int .i64 ((0 : Int))) from isTo (v := .int .i64 0) (isI _ _) (by first | rfl | (congr 1; omega))) (thXv (v := rwG prC z) rfl rfl (aE0))) (by kernel_rfl) (thx := [(2000002, .x 2000000)]) (thXv (v := rwG prC z) rfl rfl (aE0)) (by kernel_rfl)⟩) (aN4 (aO8 rfl ⟨1, keyBk, dE6 (l := lf13) (h := lh13) id_ (pS z) body (⟨by omega, by omega⟩) (by omega) (by omega) (0, (0 : Int), ([] : LB), ([] : LB), (0 : Int)) (cW5 ⟨by omega, by omega, fr_st (by omega), fr_st (by omega), .inl ⟨by omega, rfl⟩, by omega⟩) rfl (by kernel_rfl) (th0 := [(0, .x 0), (1, I6 0), (2, .s 0 0), (3, .s 0 0), (4, I6 0), (2000000, .x 2000010)]) (sg0 := [(221, 176)]) (fun X => thXv (v := .int .u8 (id_)) rfl rfl (aJ2 (show Is _ (I6 0) (.int .i64 ((0 : Int))) from isTo (v := .int .i64 0) (isI _ _) (by first | rfl | (congr 1; omega))) (aJ2 (show Is _ (.s 0 0) (St' ([] : LB)) from isTo (v := St' ([] : LB)) (isSx (l := ([] : LB)) 0 0 rfl) (by first | rfl | (simp; done))) (aJ2 (show Is _ (.s 0 0) (St' ([] : LB)) from isTo (v := St' ([] : LB)) (isSx (l := ([] : LB)) 0 0 rfl) (by first | rfl | (simp; done))) (aJ2 (show Is _ (I6 0) (.int .i64 ((0 : Int))) from isTo (v := .int .i64 0) (isI _ _) (by first | rfl | (congr 1; omega))) (thXe (v := rwG reC (((([] : List (Int × Int × LB × Int)) ++ [(1, id_, [u8 0, u8 1, u8 1, u8 0, u8 0, u8 0, u8 0, u8 0], 0)]) ++ (spS 4 id_ (pS z))) ++ (spS 5 id_ body))) (u := rwG reC (rwF id_ (pS z) body)) rfl rfl (by first | rfl | (simp; done)) (aE0))))))) (by kernel_rfl) (thx := [(15, .x 0), (16, .x 1), (17, .x 2)]) (thXv (v := St' (pS z)) rfl rfl (thXv (v := St' body) rfl rfl (thXv (v := .int .i64 ((2 : Int))) rfl rfl (aE0)))) (by kernel_rfl)⟩) bQ1))) (by omega) (aG9 (by omega) (by omega) fi19_at) cT4 (aN4 (aO8 rfl ⟨0, keyBy1, lfOkBy1_0 (l := lf9) (h := lh9) z (0, (0 : Int), ([] : LB)) (dN1 ⟨by omega, by omega, by omega, by assumption, by assumption, rfl, by simp, fun _ => rfl, by omega, by omega⟩) rfl (by kernel_rfl) (th0 := [(0, .x 6), (1, I6 0), (2000000, .x 2000002)]) (sg0 := [(61, 47)]) (fun X => thXv (v := .int .i64 ((z.length : Int))) rfl rfl (aJ2 (show Is _ (I6 0) (.int .i64 ((0 : Int))) from isTo (v := .int .i64 0) (isI _ _) (by first | rfl | (congr 1; omega))) (thXv (v := rwG prC z) rfl rfl (aE0)))) (by kernel_rfl) (thx := [(7, .x 0), (2000003, .x 2000000)]) (thXv (v := St' (pS z)) rfl rfl (thXv (v := rwG prC z) rfl rfl (aE0))) (by kernel_rfl)⟩) bQ1)) (by omega) (aG9 (by omega) (by omega) (aG9 (by omega) (by omega) cT3)) aV5 (aN4 (.inr ⟨⟨rfl, rfl⟩, cfA9, cL9 (l := lf10) (h := lh10) (q := (0, .sr 111)) 4 id_ (pS z) (by omega) rfl rfl (by kernel_rfl) (th0 := [(0, I6 4), (1, .x 5), (2, .x 7)]) (sg0 := []) (aJ2 (show Is _ (I6 4) (.int .i64 (4)) from isTo (v := .int .i64 4) (isI _ _) (by first | rfl | (congr 1; omega))) (thXv (v := .int .i64 (id_)) rfl rfl (thXv (v := St' (pS z)) rfl rfl (aE0)))) (by kernel_rfl) (thx := [(2000004, .x 2000000)]) (thXv (v := rwG reC (spS 4 id_ (pS z))) rfl rfl (aE0)) (by kernel_rfl)⟩) (aN4 (.inr ⟨⟨rfl, rfl⟩, cfA9, dP7 (l := lf11) (l' := lf12) (h := lh11) (h' := lh12) (q := (0, .sr 111)) (q' := (0, .sr 141)) (ids := [2000005]) (sg := [(141, 111)] ++ sgJ 1 140) (cL9 (l := lf11) (h := lh11) (q := (0, .sr 111)) 5 id_ body (by omega) rfl rfl (by kernel_rfl) (th0 := [(0, I6 5), (1, .x 5), (2, .x 1)]) (sg0 := []) (aJ2 (show Is _ (I6 5) (.int .i64 (5)) from isTo (v := .int .i64 5) (isI _ _) (by first | rfl | (congr 1; omega))) (thXv (v := .int .i64 (id_)) rfl rfl (thXv (v := St' body) rfl rfl (aE0)))) (by kernel_rfl) (thx := [(2000005, .x 2000000)]) (thXv (v := rwG reC (spS 5 id_ body)) rfl rfl (aE0)) (by kernel_rfl)) rfl rfl rfl rfl (by kernel_rfl) (by kernel_rfl)⟩) bQ1))) (by omega) (aG9 (by omega) (by omega) (aG9 (by omega) (by omega) (aG9 (by omega) (by omega) fi15_at))) cT6 (aN4 (aO8 rfl ⟨0, keyRd, lfOkRd_0 (l := lf14) (h := lh14) z (0, (pS z), []) (mkIRd ⟨by omega, (bU9 (by assumption)).1, (bU9 (by assumption)).2, by omega, fun _ => rfl, fun h => by omega, by omega, by omega⟩) rfl (by kernel_rfl) (th0 := [(0, .x 15)]) (sg0 := []) (fun X => thXv (v := St' (pS z)) rfl rfl (aE0)) (by kernel_rfl) (thx := [(2000011, .x 2000000)]) (thXv (v := rwG prC z) rfl rfl (aE0)) (by kernel_rfl)⟩) bQ1)) (by omega) (aG9 (by omega) (by omega) (aG9 (by omega) (by omega) (aG9 (by omega) (by omega) (aG9 (by omega) (by omega) fi16_at)))) cT5 (aN4 (aO8 rfl ⟨0, keySp1, lfOkSp1_0 (l := lf15) (h := lh15) z (0, (0 : Int)) (mkISp1 ⟨by omega, by omega, by omega, by assumption, by omega⟩) rfl (by kernel_rfl) (th0 := [(0, I6 0), (2000000, .x 2000011), (2000001, .x 2000003)]) (sg0 := [(401, 301)]) (fun X => aJ2 (show Is _ (I6 0) (.int .i64 ((0 : Int))) from isTo (v := .int .i64 0) (isI _ _) (by first | rfl | (congr 1; omega))) (thXv (v := rwG prC z) rfl rfl (thXv (v := rwG prC z) rfl rfl (aE0)))) (by kernel_rfl) (thx := [(2000012, .x 2000000)]) (thXv (v := rwG prC z) rfl rfl (aE0)) (by kernel_rfl)⟩) bQ1)) rfl (aG9 (by omega) (by omega) (aG9 (by omega) (by omega) (aG9 (by omega) (by omega) (aG9 (by omega) (by omega) (bF5 (by omega)))))) fiB4 [.r 2000000 25 2 true] [⟨aB9, aB6, z.length, es_z⟩] (run2 ) (args := [.int .u8 id_, .slice (some ⟨aB9, aB6, none⟩) z.length es_z, St' body]) ⟨_, _, rfl, rfl, ⟨_, _, rfl, cP1 (by decide) rfl w_z.room, ⟨_, _, rfl, rfl, rfl⟩⟩⟩ w hl rfl (by decide) ((bD7 (w_z.arg (g_z ) rfl) bT5)) rfl
end Go.Proofs.Ytfoalkoifcpdmaa.framesBack
