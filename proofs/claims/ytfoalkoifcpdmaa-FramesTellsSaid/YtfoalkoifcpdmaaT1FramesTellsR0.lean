/- A part of the proof: an interpreter of the model's own code on partly known states, and that what it answers is what the program answers. No condition of its own. -/
import Derived.Test.YtfoalkoifcpdmaaT1FramesTellsO5
set_option maxRecDepth 100000
set_option linter.unusedVariables false
set_option linter.unusedSimpArgs false
set_option maxHeartbeats 4000000
namespace Go.Proofs.Ytfoalkoifcpdmaa.framesTells
open Go Go.AX Go.Proofs Go.Proofs.Ytfoalkoifcpdmaa
def hy0 : LK := [(.bytes [], .x 3),
  (.rn, .x 2000000),
  (.len (.x 2), .x 4),
  (.bin .gtr (.x 4) (I6 5000), .b false),
  (.rl (.x 2000001) 4, .x 5),
  (.bin .add (I6 1) (.x 5), .x 6),
  (.bin .lss (.x 6) (I6 0), .b false),
  (.rl (.x 2000002) 4, .x 7),
  (.bin .add (.x 6) (.x 7), .x 8),
  (.bin .lss (.x 8) (I6 0), .b false),
  (.bin .sub (.x 8) (I6 0), .x 9),
  (.bin .gtr (.x 9) (I6 0), .b true),
  (.rg 31 (.x 9), .x 2000003),
  (.rt (.x 2000003) (I6 0) 4, .x 2000004),
  (.ra (.x 2000004) [I6 1, .x 1, .s 8 65792, I6 0], .x 2000005),
  (.rf (.x 2000005) 4 40, .b true),
  (.rr (.x 2000005) (.x 2000001), .x 2000006),
  (.rf (.x 2000006) 4 40, .b true),
  (.rr (.x 2000006) (.x 2000002), .x 2000007),
  (.rf (.x 2000007) 4 40, .b true),
  (.rl (.x 2000008) 4, .x 10),
  (.bin .gtr (.x 10) (I6 0), .b true),
  (.ra (.x 2000000) [I6 1, .x 1, .s 8 65792, I6 0], .x 2000009),
  (.rr (.x 2000009) (.x 2000008), .x 2000010),
  (.rf (.x 2000010) 4 40, .b true),
  (.rr (.x 2000010) (.x 2000011), .x 2000012),
  (.rf (.x 2000012) 4 40, .b true),
  (.rl (.x 2000007) 4, .x 11),
  (.rl (.x 2000012) 4, .x 12),
  (.bin .neq (.x 11) (.x 12), .b false),
  (.rl (.x 2000013) 4, .x 13),
  (.rl (.x 2000014) 4, .x 14),
  (.bin .neq (.x 13) (.x 14), .b false),
  (.eq 3 (.x 1) (.x 1), .b true)]
def lh7 : LH := ⟨1, 111, 141, [], [(111, .r 2000001 31 4 false)]⟩
def lf7 : LF := ⟨8888888, 0, [(0, I6 4), (1, .x 1), (2, .s 0 0)], [], .normal, [(0, .sr 111)], some lh7⟩
def lh8 : LH := ⟨1, 111, 141, [], [(111, .r 2000002 31 4 false)]⟩
def lf8 : LF := ⟨8888888, 0, [(0, I6 5), (1, .x 1), (2, .x 2)], [], .normal, [(0, .sr 111)], some lh8⟩
def lh9 : LH := ⟨1, 141, 171, [], [(141, .r 2000002 31 4 false)]⟩
def lf9 : LF := ⟨8888888, 0, [(0, I6 5), (1, .x 1), (2, .x 2)], [], .normal, [(0, .sr 141)], some lh9⟩
def lh10 : LH := ⟨1, 331, 361, [], [(331, .r 2000008 31 4 false)]⟩
def lf10 : LF := ⟨8888888, 0, [(0, I6 4), (1, .x 1), (2, .s 0 0)], [], .normal, [(0, .sr 331)], some lh10⟩
def lh11 : LH := ⟨1, 331, 361, [], [(331, .r 2000011 31 4 false)]⟩
def lf11 : LF := ⟨8888888, 0, [(0, I6 5), (1, .x 1), (2, .x 2)], [], .normal, [(0, .sr 331)], some lh11⟩
def lh12 : LH := ⟨1, 362, 392, [], [(362, .r 2000011 31 4 false)]⟩
def lf12 : LF := ⟨8888888, 0, [(0, I6 5), (1, .x 1), (2, .x 2)], [], .normal, [(0, .sr 362)], some lh12⟩
def lh13 : LH := ⟨1, 901, 903, [(176, .r 2000007 31 4 false), (392, .r 2000012 31 4 false)], []⟩
def lf13 : LF := ⟨4, 26, [(0, .sr 176), (1, .sr 392), (5, I6 0)], [], (.exit 0), [], some lh13⟩
def lh14 : LH := ⟨1, 111, 141, [], [(111, .r 2000013 31 4 false)]⟩
def lf14 : LF := ⟨8888888, 0, [(0, .x 0), (1, .x 1), (2, .x 2)], [], .normal, [(0, .sr 111)], some lh14⟩
def lh15 : LH := ⟨1, 903, 933, [], [(903, .r 2000013 31 4 false)]⟩
def lf15 : LF := ⟨8888888, 0, [(0, .x 0), (1, .x 1), (2, .x 2)], [], .normal, [(0, .sr 903)], some lh15⟩
def lh16 : LH := ⟨1, 331, 361, [], [(331, .r 2000014 31 4 false)]⟩
def lf16 : LF := ⟨8888888, 0, [(0, .x 0), (1, .x 1), (2, .x 2)], [], .normal, [(0, .sr 331)], some lh16⟩
def lh17 : LH := ⟨1, 933, 963, [], [(933, .r 2000014 31 4 false)]⟩
def lf17 : LF := ⟨8888888, 0, [(0, .x 0), (1, .x 1), (2, .x 2)], [], .normal, [(0, .sr 933)], some lh17⟩
def lh18 : LH := ⟨1, 1301, 1303, [(903, .r 2000013 31 4 false), (933, .r 2000014 31 4 false)], []⟩
def lf18 : LF := ⟨4, 26, [(0, .sr 903), (1, .sr 933), (5, I6 0)], [], (.exit 0), [], some lh18⟩
noncomputable def tab0 : Tab := aF9 (aF9 (aF9 ({ tabk with hyp := hy0 }) 9 fi9 [lf7, lf9, lf15]) 10 fi10 [lf10, lf12, lf17]) 6 fi6 [lf13, lf18]
theorem run0 : Go.AX.okB (call tab0 9000 3 [.x 0, .x 1, .es, .x 2] ⟨H0 , 1, 0, 0⟩) = true := by kernel_rfl
def nu0 (t : Int) (id_ : Int) (ad_z : Option Addr) (cp_z : Nat) (body : LB) : List Value := [.int .i64 (t),
  .int .i64 (id_),
  St' body,
  St' ([] : LB),
  .int .i64 ((body.length : Int)),
  .int .i64 (((spS 4 id_ ([] : LB)).length : Int)),
  .int .i64 (((spS 4 id_ ([] : LB)).length : Int) + 1),
  .int .i64 (((spS 5 id_ body).length : Int)),
  .int .i64 (((spS 4 id_ ([] : LB)).length : Int) + ((spS 5 id_ body).length : Int) + 1),
  .int .i64 (((spS 4 id_ ([] : LB)).length : Int) + ((spS 5 id_ body).length : Int) + 1),
  .int .i64 (((spS 4 id_ ([] : LB)).length : Int)),
  .int .i64 (((spS 4 id_ ([] : LB)).length : Int) + ((spS 5 id_ body).length : Int) + 1),
  .int .i64 (((spS 4 id_ ([] : LB)).length : Int) + ((spS 5 id_ body).length : Int) + 1),
  .int .i64 (((spS t id_ body).length : Int)),
  .int .i64 (((spS t id_ body).length : Int))]
def ro0 (t : Int) (id_ : Int) (ad_z : Option Addr) (cp_z : Nat) (body : LB) : List Value := [rwS ([] : List LB),
  rwG reC (spS 4 id_ ([] : LB)),
  rwG reC (spS 5 id_ body),
  rwG reC (List.replicate (Int.toNat (((spS 4 id_ ([] : LB)).length : Int) + ((spS 5 id_ body).length : Int) + 1)) (0, 0, [], 0)),
  rwG reC ([] : List (Int × Int × LB × Int)),
  rwG reC (([] : List (Int × Int × LB × Int)) ++ [(1, id_, [u8 0, u8 1, u8 1, u8 0, u8 0, u8 0, u8 0, u8 0], 0)]),
  rwG reC ((([] : List (Int × Int × LB × Int)) ++ [(1, id_, [u8 0, u8 1, u8 1, u8 0, u8 0, u8 0, u8 0, u8 0], 0)]) ++ (spS 4 id_ ([] : LB))),
  rwG reC (((([] : List (Int × Int × LB × Int)) ++ [(1, id_, [u8 0, u8 1, u8 1, u8 0, u8 0, u8 0, u8 0, u8 0], 0)]) ++ (spS 4 id_ ([] : LB))) ++ (spS 5 id_ body)),
  rwG reC (spS 4 id_ ([] : LB)),
  rwG reC (([] : List (Int × Int × LB × Int)) ++ [(1, id_, [u8 0, u8 1, u8 1, u8 0, u8 0, u8 0, u8 0, u8 0], 0)]),
  rwG reC ((([] : List (Int × Int × LB × Int)) ++ [(1, id_, [u8 0, u8 1, u8 1, u8 0, u8 0, u8 0, u8 0, u8 0], 0)]) ++ (spS 4 id_ ([] : LB))),
  rwG reC (spS 5 id_ body),
  rwG reC (((([] : List (Int × Int × LB × Int)) ++ [(1, id_, [u8 0, u8 1, u8 1, u8 0, u8 0, u8 0, u8 0, u8 0], 0)]) ++ (spS 4 id_ ([] : LB))) ++ (spS 5 id_ body)),
  rwG reC (spS t id_ body),
  rwG reC (spS t id_ body)]
theorem on0 (t : Int) (id_ : Int) (ad_z : Option Addr) (cp_z : Nat) (body : LB) : ∀ j, (nuL (nu0 t id_ ad_z cp_z body) j).oneCell' = true := aA6 (l := nu0 t id_ ad_z cp_z body) rfl
theorem path0 (t : Int) (id_ : Int) (ad_z : Option Addr) (cp_z : Nat) (body : LB) (b0 : -9223372036854775808 ≤ t) (b1 : t ≤ 9223372036854775807) (b2 : -9223372036854775808 ≤ id_) (b3 : id_ ≤ 9223372036854775807) (b4 : body.length ≤ 9223372036854775807) (h0 : ¬ (5000 < (body.length : Int))) (w : World) (hl : aA5 w) : CwR 3 #[.int .i64 t, .int .i64 id_, .slice ad_z 0 cp_z, St' body] w (.bool true) := by
  have hn0 : ([] : LB).length = 0 := rfl
  have := aU4 (t := 4) (i := id_) ([] : LB)
  have := aU4 (t := 5) (i := id_) body
  have := aU4 (t := t) (i := id_) body
  have ho : ∀ k r, (k, r) ∈ hy0 → HOk (cx (nuX (nu0 t id_ ad_z cp_z body) (rX (ro0 t id_ ad_z cp_z body) (fun _ => .bool true))) (aA7 (on0 t id_ ad_z cp_z body)) 0 aA5 aA0) k r := by
    unfold hy0
    exact hc (kB0 rfl) <|hc (kRn (denX rfl)) <|hc (lnV rfl rfl (by omega)) <|hc (gtcF rfl (by omega)) <|hc (kRlG aA8 (isX rfl) (denX rfl) (by first | omega | (simp <;> omega))) <|hc (kAdd (isZ (m := 1) rfl) (isX rfl) (denX rfl) (by omega) (fI64 (by omega) (by omega))) <|hc (ltcF rfl (by omega)) <|hc (kRlG aA8 (isX rfl) (denX rfl) (by first | omega | (simp <;> omega))) <|hc (adX rfl rfl rfl (by omega)) <|hc (ltcF rfl (by omega)) <|hc (sbC rfl rfl (by omega)) <|hc (gtcT rfl (by omega)) <|hc (kRg (by refine ⟨_, rfl, ?_, ?_, ?_⟩ <;> kernel_rfl) (isX rfl) (by omega) (by omega) (denX rfl)) <|hc (kRt (f := reC) (j := 0) aA8 (isX rfl) (isZ (m := 0) rfl) (denX (congrArg (rwG reC) (List.take_zero (l := (List.replicate (Int.toNat (((spS 4 id_ ([] : LB)).length : Int) + ((spS 5 id_ body).length : Int) + 1)) (0, 0, [], 0)))).symm)) (by omega) (by omega)) <|hc (kRaG (f := reC) (l := ([] : List (Int × Int × LB × Int))) (a := (1, id_, [u8 0, u8 1, u8 1, u8 0, u8 0, u8 0, u8 0, u8 0], 0)) (isX rfl) (isL4 (isZ (m := 1) rfl) (isX rfl) (isSx (l := [u8 0, u8 1, u8 1, u8 0, u8 0, u8 0, u8 0, u8 0]) 8 65792 rfl) (isZ (m := 0) rfl)) (denX rfl)) <|hc (kRfG aA8 (isX rfl) (by first | (rw [List.length_append]; omega) | (first | omega | (simp <;> omega))) (by first | (rw [List.length_append]; omega) | (first | omega | (simp <;> omega)))) <|hc (kRr (f := reC) (l := (([] : List (Int × Int × LB × Int)) ++ [(1, id_, [u8 0, u8 1, u8 1, u8 0, u8 0, u8 0, u8 0, u8 0], 0)])) (m := (spS 4 id_ ([] : LB))) (isX rfl) (isX rfl) (denX rfl)) <|hc (kRfG aA8 (isX rfl) (by first | (rw [List.length_append]; omega) | (first | omega | (simp <;> omega))) (by first | (rw [List.length_append]; omega) | (first | omega | (simp <;> omega)))) <|hc (kRr (f := reC) (l := ((([] : List (Int × Int × LB × Int)) ++ [(1, id_, [u8 0, u8 1, u8 1, u8 0, u8 0, u8 0, u8 0, u8 0], 0)]) ++ (spS 4 id_ ([] : LB)))) (m := (spS 5 id_ body)) (isX rfl) (isX rfl) (denX rfl)) <|hc (kRfG aA8 (isX rfl) (by first | (rw [List.length_append]; omega) | (first | omega | (simp <;> omega))) (by first | (rw [List.length_append]; omega) | (first | omega | (simp <;> omega)))) <|hc (kRlG aA8 (isX rfl) (denX rfl) (by first | omega | (simp <;> omega))) <|hc (gtcT rfl (by omega)) <|hc (kRaG (f := reC) (l := ([] : List (Int × Int × LB × Int))) (a := (1, id_, [u8 0, u8 1, u8 1, u8 0, u8 0, u8 0, u8 0, u8 0], 0)) (isX rfl) (isL4 (isZ (m := 1) rfl) (isX rfl) (isSx (l := [u8 0, u8 1, u8 1, u8 0, u8 0, u8 0, u8 0, u8 0]) 8 65792 rfl) (isZ (m := 0) rfl)) (denX rfl)) <|hc (kRr (f := reC) (l := (([] : List (Int × Int × LB × Int)) ++ [(1, id_, [u8 0, u8 1, u8 1, u8 0, u8 0, u8 0, u8 0, u8 0], 0)])) (m := (spS 4 id_ ([] : LB))) (isX rfl) (isX rfl) (denX rfl)) <|hc (kRfG aA8 (isX rfl) (by first | (rw [List.length_append]; omega) | (first | omega | (simp <;> omega))) (by first | (rw [List.length_append]; omega) | (first | omega | (simp <;> omega)))) <|hc (kRr (f := reC) (l := ((([] : List (Int × Int × LB × Int)) ++ [(1, id_, [u8 0, u8 1, u8 1, u8 0, u8 0, u8 0, u8 0, u8 0], 0)]) ++ (spS 4 id_ ([] : LB)))) (m := (spS 5 id_ body)) (isX rfl) (isX rfl) (denX rfl)) <|hc (kRfG aA8 (isX rfl) (by first | (rw [List.length_append]; omega) | (first | omega | (simp <;> omega))) (by first | (rw [List.length_append]; omega) | (first | omega | (simp <;> omega)))) <|hc (kRlG aA8 (isX rfl) (denX rfl) (by first | omega | (simp <;> omega))) <|hc (kRlG aA8 (isX rfl) (denX rfl) (by first | omega | (simp <;> omega))) <|hc (kNeI (isX rfl) (isX rfl) (neF (by omega))) <|hc (kRlG aA8 (isX rfl) (denX rfl) (by first | omega | (simp <;> omega))) <|hc (kRlG aA8 (isX rfl) (denX rfl) (by first | omega | (simp <;> omega))) <|hc (kNeI (isX rfl) (isX rfl) (neF (by omega))) <|hc (kEqT (isX rfl) (isX rfl) tu3 (decide_eq_true (by omega))) <|hnil
  exact runP (tb := tab0) (aC6.lp1 (aC6.lp2 (aC6.lp2 ((aC2 (nuX (nu0 t id_ ad_z cp_z body) (rX (ro0 t id_ ad_z cp_z body) (fun _ => .bool true))) (aA7 (on0 t id_ ad_z cp_z body))).hyps ho) (by omega) bR5 aP3 (aE4 (.inr ⟨⟨rfl, rfl⟩, cfA9, aW0 (l := lf7) (h := lh7) (q := (0, .sr 111)) 4 id_ ([] : LB) (by omega) rfl rfl (by kernel_rfl) (th0 := [(0, I6 4), (1, .x 1), (2, .s 0 0)]) (sg0 := []) (aF5 (show Is _ (I6 4) (.int .i64 (4)) from isTo (v := .int .i64 4) (isI _ _) (by first | rfl | (congr 1; omega))) (thXv (v := .int .i64 (id_)) rfl rfl (aF5 (show Is _ (.s 0 0) (St' ([] : LB)) from isTo (v := St' ([] : LB)) (isSx (l := ([] : LB)) 0 0 rfl) (by first | rfl | (simp; done))) (aB4)))) (by kernel_rfl) (thx := [(2000001, .x 2000000)]) (thXv (v := rwG reC (spS 4 id_ ([] : LB))) rfl rfl (aB4)) (by kernel_rfl)⟩) (aE4 (.inr ⟨⟨rfl, rfl⟩, cfA9, aN9 (l := lf8) (l' := lf9) (h := lh8) (h' := lh9) (q := (0, .sr 111)) (q' := (0, .sr 141)) (ids := [2000002]) (sg := [(141, 111)] ++ sgJ 1 140) (aW0 (l := lf8) (h := lh8) (q := (0, .sr 111)) 5 id_ body (by omega) rfl rfl (by kernel_rfl) (th0 := [(0, I6 5), (1, .x 1), (2, .x 2)]) (sg0 := []) (aF5 (show Is _ (I6 5) (.int .i64 (5)) from isTo (v := .int .i64 5) (isI _ _) (by first | rfl | (congr 1; omega))) (thXv (v := .int .i64 (id_)) rfl rfl (thXv (v := St' body) rfl rfl (aB4)))) (by kernel_rfl) (thx := [(2000002, .x 2000000)]) (thXv (v := rwG reC (spS 5 id_ body)) rfl rfl (aB4)) (by kernel_rfl)) rfl rfl rfl rfl (by kernel_rfl) (by kernel_rfl)⟩) (aE4 (.inr ⟨⟨rfl, rfl⟩, cfA9, aN9 (l := lf14) (l' := lf15) (h := lh14) (h' := lh15) (q := (0, .sr 111)) (q' := (0, .sr 903)) (ids := [2000013]) (sg := [(903, 111)] ++ sgJ 1 902) (aW0 (l := lf14) (h := lh14) (q := (0, .sr 111)) t id_ body (by omega) rfl rfl (by kernel_rfl) (th0 := [(0, .x 0), (1, .x 1), (2, .x 2)]) (sg0 := []) (thXv (v := .int .i64 (t)) rfl rfl (thXv (v := .int .i64 (id_)) rfl rfl (thXv (v := St' body) rfl rfl (aB4)))) (by kernel_rfl) (thx := [(2000013, .x 2000000)]) (thXv (v := rwG reC (spS t id_ body)) rfl rfl (aB4)) (by kernel_rfl)) rfl rfl rfl rfl (by kernel_rfl) (by kernel_rfl)⟩) aR5)))) (by omega) (aC0 (by omega) (by omega) bL8) aN7 (aE4 (.inr ⟨⟨rfl, rfl⟩, cH7, aW1 (l := lf10) (h := lh10) (q := (0, .sr 331)) 4 id_ ([] : LB) (by omega) rfl rfl (by kernel_rfl) (th0 := [(0, I6 4), (1, .x 1), (2, .s 0 0)]) (sg0 := []) (aF5 (show Is _ (I6 4) (.int .i64 (4)) from isTo (v := .int .i64 4) (isI _ _) (by first | rfl | (congr 1; omega))) (thXv (v := .int .i64 (id_)) rfl rfl (aF5 (show Is _ (.s 0 0) (St' ([] : LB)) from isTo (v := St' ([] : LB)) (isSx (l := ([] : LB)) 0 0 rfl) (by first | rfl | (simp; done))) (aB4)))) (by kernel_rfl) (thx := [(2000008, .x 2000000)]) (thXv (v := rwG reC (spS 4 id_ ([] : LB))) rfl rfl (aB4)) (by kernel_rfl)⟩) (aE4 (.inr ⟨⟨rfl, rfl⟩, cH7, aN9 (l := lf11) (l' := lf12) (h := lh11) (h' := lh12) (q := (0, .sr 331)) (q' := (0, .sr 362)) (ids := [2000011]) (sg := [(362, 331)] ++ sgJ 1 361) (aW1 (l := lf11) (h := lh11) (q := (0, .sr 331)) 5 id_ body (by omega) rfl rfl (by kernel_rfl) (th0 := [(0, I6 5), (1, .x 1), (2, .x 2)]) (sg0 := []) (aF5 (show Is _ (I6 5) (.int .i64 (5)) from isTo (v := .int .i64 5) (isI _ _) (by first | rfl | (congr 1; omega))) (thXv (v := .int .i64 (id_)) rfl rfl (thXv (v := St' body) rfl rfl (aB4)))) (by kernel_rfl) (thx := [(2000011, .x 2000000)]) (thXv (v := rwG reC (spS 5 id_ body)) rfl rfl (aB4)) (by kernel_rfl)) rfl rfl rfl rfl (by kernel_rfl) (by kernel_rfl)⟩) (aE4 (.inr ⟨⟨rfl, rfl⟩, cH7, aN9 (l := lf16) (l' := lf17) (h := lh16) (h' := lh17) (q := (0, .sr 331)) (q' := (0, .sr 933)) (ids := [2000014]) (sg := [(933, 331)] ++ sgJ 1 932) (aW1 (l := lf16) (h := lh16) (q := (0, .sr 331)) t id_ body (by omega) rfl rfl (by kernel_rfl) (th0 := [(0, .x 0), (1, .x 1), (2, .x 2)]) (sg0 := []) (thXv (v := .int .i64 (t)) rfl rfl (thXv (v := .int .i64 (id_)) rfl rfl (thXv (v := St' body) rfl rfl (aB4)))) (by kernel_rfl) (thx := [(2000014, .x 2000000)]) (thXv (v := rwG reC (spS t id_ body)) rfl rfl (aB4)) (by kernel_rfl)) rfl rfl rfl rfl (by kernel_rfl) (by kernel_rfl)⟩) aR5)))) (by omega) (aC0 (by omega) (by omega) (aC0 (by omega) (by omega) fi6_at)) bL6 (aE4 (aG5 rfl ⟨0, cD8, bB9 (l := lf13) (h := lh13) (((([] : List (Int × Int × LB × Int)) ++ [(1, id_, [u8 0, u8 1, u8 1, u8 0, u8 0, u8 0, u8 0, u8 0], 0)]) ++ (spS 4 id_ ([] : LB))) ++ (spS 5 id_ body)) (0, (0 : Int)) (bI8 ⟨by omega, by omega, by simp only [List.length_append, List.length_cons, List.length_nil]; omega, fun q hq => rw_B (by omega) (by omega) (by decide) q hq, by omega⟩) rfl (by kernel_rfl) (th0 := [(0, I6 0), (2000000, .x 2000007), (2000001, .x 2000012)]) (sg0 := [(901, 176), (902, 392)]) (fun X => aF5 (show Is _ (I6 0) (.int .i64 ((0 : Int))) from isTo (v := .int .i64 0) (isI _ _) (by first | rfl | (congr 1; omega))) (thXv (v := rwG reC (((([] : List (Int × Int × LB × Int)) ++ [(1, id_, [u8 0, u8 1, u8 1, u8 0, u8 0, u8 0, u8 0, u8 0], 0)]) ++ (spS 4 id_ ([] : LB))) ++ (spS 5 id_ body))) rfl rfl (thXv (v := rwG reC (((([] : List (Int × Int × LB × Int)) ++ [(1, id_, [u8 0, u8 1, u8 1, u8 0, u8 0, u8 0, u8 0, u8 0], 0)]) ++ (spS 4 id_ ([] : LB))) ++ (spS 5 id_ body))) rfl rfl (aB4)))) (by kernel_rfl) (thx := []) (aB4) (by kernel_rfl)⟩) (aE4 (aG5 rfl ⟨0, bQ7, aX0 (l := lf18) (h := lh18) (spS t id_ body) (0, (0 : Int)) (bB6 ⟨by omega, by omega, by omega, fun q hq => bH6 (by omega) (by omega) (by omega) (by omega) q hq, by omega⟩) rfl (by kernel_rfl) (th0 := [(0, I6 0), (2000000, .x 2000013), (2000001, .x 2000014)]) (sg0 := [(1301, 903), (1302, 933)]) (fun X => aF5 (show Is _ (I6 0) (.int .i64 ((0 : Int))) from isTo (v := .int .i64 0) (isI _ _) (by first | rfl | (congr 1; omega))) (thXv (v := rwG reC (spS t id_ body)) rfl rfl (thXv (v := rwG reC (spS t id_ body)) rfl rfl (aB4)))) (by kernel_rfl) (thx := []) (aB4) (by kernel_rfl)⟩) aR5))) rfl (aC0 (by omega) (by omega) (aC0 (by omega) (by omega) (aC0 (by omega) (by omega) cO8))) fiB3 (run0 ) (args := [.int .i64 t, .int .i64 id_, .slice ad_z 0 cp_z, St' body]) (by simp only [RelL, Rel]; exact ⟨_, _, rfl, rfl, ⟨_, _, rfl, rfl, ⟨_, _, rfl, ⟨_, _, rfl⟩, ⟨_, _, rfl, rfl, rfl⟩⟩⟩⟩) w hl
def hy1 : LK := [(.bytes [], .x 3),
  (.rn, .x 2000000),
  (.len (.x 2), .x 4),
  (.bin .gtr (.x 4) (I6 5000), .b true)]
theorem run1 : Go.AX.okB (call (tbl hy1) 9000 3 [.x 0, .x 1, .es, .x 2] ⟨H0 , 1, 0, 0⟩) = true := by kernel_rfl
def nu1 (t : Int) (id_ : Int) (ad_z : Option Addr) (cp_z : Nat) (body : LB) : List Value := [.int .i64 (t),
  .int .i64 (id_),
  St' body,
  St' ([] : LB),
  .int .i64 ((body.length : Int))]
def ro1 (t : Int) (id_ : Int) (ad_z : Option Addr) (cp_z : Nat) (body : LB) : List Value := [rwS ([] : List LB)]
theorem on1 (t : Int) (id_ : Int) (ad_z : Option Addr) (cp_z : Nat) (body : LB) : ∀ j, (nuL (nu1 t id_ ad_z cp_z body) j).oneCell' = true := aA6 (l := nu1 t id_ ad_z cp_z body) rfl
theorem path1 (t : Int) (id_ : Int) (ad_z : Option Addr) (cp_z : Nat) (body : LB) (b0 : -9223372036854775808 ≤ t) (b1 : t ≤ 9223372036854775807) (b2 : -9223372036854775808 ≤ id_) (b3 : id_ ≤ 9223372036854775807) (b4 : body.length ≤ 9223372036854775807) (h0 : 5000 < (body.length : Int)) (w : World) (hl : aA5 w) : CwR 3 #[.int .i64 t, .int .i64 id_, .slice ad_z 0 cp_z, St' body] w (.bool true) := by
  have hn0 : ([] : LB).length = 0 := rfl
  have ho : ∀ k r, (k, r) ∈ hy1 → HOk (cx (nuX (nu1 t id_ ad_z cp_z body) (rX (ro1 t id_ ad_z cp_z body) (fun _ => .bool true))) (aA7 (on1 t id_ ad_z cp_z body)) 0 aA5 aA0) k r := by
    unfold hy1
    exact hc (kB0 rfl) <|hc (kRn (denX rfl)) <|hc (lnV rfl rfl (by omega)) <|hc (gtcT rfl (by omega)) <|hnil
  obtain ⟨fi, hfi, hb⟩ := fiE
  exact runP (tb := (tbl hy1)) ((aC2 (nuX (nu1 t id_ ad_z cp_z body) (rX (ro1 t id_ ad_z cp_z body) (fun _ => .bool true))) (aA7 (on1 t id_ ad_z cp_z body))).hyps ho) rfl hfi hb (run1 ) (args := [.int .i64 t, .int .i64 id_, .slice ad_z 0 cp_z, St' body]) (by simp only [RelL, Rel]; exact ⟨_, _, rfl, rfl, ⟨_, _, rfl, rfl, ⟨_, _, rfl, ⟨_, _, rfl⟩, ⟨_, _, rfl, rfl, rfl⟩⟩⟩⟩) w hl
def hy2 : LK := [(.bytes [], .x 3),
  (.rn, .x 2000001),
  (.rl (.x 2000000) 2, .x 4),
  (.bin .gtr (.x 4) (I6 30), .b false),
  (.len (.x 2), .x 5),
  (.bin .gtr (.x 5) (I6 5000), .b false),
  (.rl (.x 2000002) 2, .x 6),
  (.byt (.x 7) (I6 0), .x 8),
  (.len (.x 7), .x 9),
  (.fit (.x 7), .b true),
  (.rl (.x 2000004) 4, .x 10),
  (.bin .add (I6 1) (.x 10), .x 11),
  (.bin .lss (.x 11) (I6 0), .b false),
  (.rl (.x 2000005) 4, .x 12),
  (.bin .add (.x 11) (.x 12), .x 13),
  (.bin .lss (.x 13) (I6 0), .b false),
  (.bin .sub (.x 13) (I6 0), .x 14),
  (.bin .gtr (.x 14) (I6 0), .b true),
  (.rg 31 (.x 14), .x 2000006),
  (.rt (.x 2000006) (I6 0) 4, .x 2000007),
  (.ra (.x 2000007) [I6 1, .x 1, .s 8 65792, I6 0], .x 2000008),
  (.rf (.x 2000008) 4 40, .b true),
  (.rr (.x 2000008) (.x 2000004), .x 2000009),
  (.rf (.x 2000009) 4 40, .b true),
  (.rr (.x 2000009) (.x 2000005), .x 2000010),
  (.rf (.x 2000010) 4 40, .b true),
  (.rl (.x 2000012) 4, .x 16),
  (.bin .gtr (.x 16) (I6 0), .b true),
  (.ra (.x 2000001) [I6 1, .x 1, .s 8 65792, I6 0], .x 2000013),
  (.rr (.x 2000013) (.x 2000012), .x 2000014),
  (.rf (.x 2000014) 4 40, .b true),
  (.rr (.x 2000014) (.x 2000015), .x 2000016),
  (.rf (.x 2000016) 4 40, .b true),
  (.rl (.x 2000010) 4, .x 17),
  (.rl (.x 2000016) 4, .x 18),
  (.bin .neq (.x 17) (.x 18), .b false),
  (.rl (.x 2000017) 4, .x 19),
  (.rl (.x 2000018) 4, .x 20),
  (.bin .neq (.x 19) (.x 20), .b false),
  (.eq 3 (.x 1) (.x 1), .b true)]
def lh19 : LH := ⟨1, 11, 41, [(1, .r 2000000 25 2 true)], [(1, .r 2000002 25 2 true)]⟩
def lf19 : LF := ⟨6, 69, [(2, .sr 1), (9, I6 0)], [0, 1, 3], (.exit 0), [(2, .sr 1)], some lh19⟩
def lh20 : LH := ⟨1, 61, 101, [(1, .r 2000002 25 2 true), (47, bk 54 [.nilp, .nils])], [(1, .r 2000003 25 2 true), (61, bk 54 [.p 61 0, .sy 62]), (62, .t 7 5)]⟩
def lf20 : LF := ⟨3, 30, [(3, .p 47 0), (6, .sr 1), (7, .x 6), (8, I6 0)], [], (.exit 0), [(3, .p 61 0)], some lh20⟩
def lh21 : LH := ⟨1, 111, 141, [], [(111, .r 2000004 31 4 false)]⟩
def lf21 : LF := ⟨8888888, 0, [(0, I6 4), (1, .x 1), (2, .x 7)], [], .normal, [(0, .sr 111)], some lh21⟩
def lh22 : LH := ⟨1, 111, 141, [], [(111, .r 2000005 31 4 false)]⟩
def lf22 : LF := ⟨8888888, 0, [(0, I6 5), (1, .x 1), (2, .x 2)], [], .normal, [(0, .sr 111)], some lh22⟩
def lh23 : LH := ⟨1, 141, 171, [], [(141, .r 2000005 31 4 false)]⟩
def lf23 : LF := ⟨8888888, 0, [(0, I6 5), (1, .x 1), (2, .x 2)], [], .normal, [(0, .sr 141)], some lh23⟩
def lh24 : LH := ⟨1, 281, 321, [(1, .r 2000003 25 2 true)], [(1, .r 2000011 25 2 true)]⟩
def lf24 : LF := ⟨3, 41, [(0, .sr 1), (3, .s 0 0), (4, I6 0)], [], (.exit 0), [(3, .x 15)], some lh24⟩
def lh25 : LH := ⟨1, 331, 361, [], [(331, .r 2000012 31 4 false)]⟩
def lf25 : LF := ⟨8888888, 0, [(0, I6 4), (1, .x 1), (2, .x 15)], [], .normal, [(0, .sr 331)], some lh25⟩
def lh26 : LH := ⟨1, 331, 361, [], [(331, .r 2000015 31 4 false)]⟩
def lf26 : LF := ⟨8888888, 0, [(0, I6 5), (1, .x 1), (2, .x 2)], [], .normal, [(0, .sr 331)], some lh26⟩
def lh27 : LH := ⟨1, 362, 392, [], [(362, .r 2000015 31 4 false)]⟩
def lf27 : LF := ⟨8888888, 0, [(0, I6 5), (1, .x 1), (2, .x 2)], [], .normal, [(0, .sr 362)], some lh27⟩
def lh28 : LH := ⟨1, 901, 903, [(176, .r 2000010 31 4 false), (392, .r 2000016 31 4 false)], []⟩
def lf28 : LF := ⟨4, 26, [(0, .sr 176), (1, .sr 392), (5, I6 0)], [], (.exit 0), [], some lh28⟩
def lh29 : LH := ⟨1, 111, 141, [], [(111, .r 2000017 31 4 false)]⟩
def lf29 : LF := ⟨8888888, 0, [(0, .x 0), (1, .x 1), (2, .x 2)], [], .normal, [(0, .sr 111)], some lh29⟩
def lh30 : LH := ⟨1, 903, 933, [], [(903, .r 2000017 31 4 false)]⟩
def lf30 : LF := ⟨8888888, 0, [(0, .x 0), (1, .x 1), (2, .x 2)], [], .normal, [(0, .sr 903)], some lh30⟩
def lh31 : LH := ⟨1, 331, 361, [], [(331, .r 2000018 31 4 false)]⟩
def lf31 : LF := ⟨8888888, 0, [(0, .x 0), (1, .x 1), (2, .x 2)], [], .normal, [(0, .sr 331)], some lh31⟩
def lh32 : LH := ⟨1, 933, 963, [], [(933, .r 2000018 31 4 false)]⟩
def lf32 : LF := ⟨8888888, 0, [(0, .x 0), (1, .x 1), (2, .x 2)], [], .normal, [(0, .sr 933)], some lh32⟩
def lh33 : LH := ⟨1, 1301, 1303, [(903, .r 2000017 31 4 false), (933, .r 2000018 31 4 false)], []⟩
def lf33 : LF := ⟨4, 26, [(0, .sr 903), (1, .sr 933), (5, I6 0)], [], (.exit 0), [], some lh33⟩
noncomputable def tab2 : Tab := aF9 (aF9 (aF9 (aF9 (aF9 (aF9 ({ tabk with hyp := hy2 }) 3 fi3 [lf19]) 19 fi19 [lf20]) 9 fi9 [lf21, lf23, lf30]) 21 fi21 [lf24]) 10 fi10 [lf25, lf27, lf32]) 6 fi6 [lf28, lf33]
theorem run2 : Go.AX.okB (call tab2 9000 3 [.x 0, .x 1, .sr 1, .x 2] ⟨addR 1 [.r 2000000 25 2 true] (H0 ), 1 + List.length (α := Ent) [.r 2000000 25 2 true], 0, 0⟩) = true := by kernel_rfl
def nu2 (t : Int) (id_ : Int) (aB5 : Nat) (aB1 : Nat) (es_z : Nat) (z : List (LB × LB)) (body : LB) : List Value := [.int .i64 (t),
  .int .i64 (id_),
  St' body,
  St' ([] : LB),
  .int .i64 ((z.length : Int)),
  .int .i64 ((body.length : Int)),
  .int .i64 ((z.length : Int)),
  St' (pS z),
  .int .u8 (bt (pS z) 0),
  .int .i64 (((pS z).length : Int)),
  .int .i64 (((spS 4 id_ (pS z)).length : Int)),
  .int .i64 (((spS 4 id_ (pS z)).length : Int) + 1),
  .int .i64 (((spS 5 id_ body).length : Int)),
  .int .i64 (((spS 4 id_ (pS z)).length : Int) + ((spS 5 id_ body).length : Int) + 1),
  .int .i64 (((spS 4 id_ (pS z)).length : Int) + ((spS 5 id_ body).length : Int) + 1),
  St' (pS z),
  .int .i64 (((spS 4 id_ (pS z)).length : Int)),
  .int .i64 (((spS 4 id_ (pS z)).length : Int) + ((spS 5 id_ body).length : Int) + 1),
  .int .i64 (((spS 4 id_ (pS z)).length : Int) + ((spS 5 id_ body).length : Int) + 1),
  .int .i64 (((spS t id_ body).length : Int)),
  .int .i64 (((spS t id_ body).length : Int))]
def ro2 (t : Int) (id_ : Int) (aB5 : Nat) (aB1 : Nat) (es_z : Nat) (z : List (LB × LB)) (body : LB) : List Value := [rwG prC z,
  rwS ([] : List LB),
  rwG prC z,
  rwG prC z,
  rwG reC (spS 4 id_ (pS z)),
  rwG reC (spS 5 id_ body),
  rwG reC (List.replicate (Int.toNat (((spS 4 id_ (pS z)).length : Int) + ((spS 5 id_ body).length : Int) + 1)) (0, 0, [], 0)),
  rwG reC ([] : List (Int × Int × LB × Int)),
  rwG reC (([] : List (Int × Int × LB × Int)) ++ [(1, id_, [u8 0, u8 1, u8 1, u8 0, u8 0, u8 0, u8 0, u8 0], 0)]),
  rwG reC ((([] : List (Int × Int × LB × Int)) ++ [(1, id_, [u8 0, u8 1, u8 1, u8 0, u8 0, u8 0, u8 0, u8 0], 0)]) ++ (spS 4 id_ (pS z))),
  rwG reC (((([] : List (Int × Int × LB × Int)) ++ [(1, id_, [u8 0, u8 1, u8 1, u8 0, u8 0, u8 0, u8 0, u8 0], 0)]) ++ (spS 4 id_ (pS z))) ++ (spS 5 id_ body)),
  rwG prC z,
  rwG reC (spS 4 id_ (pS z)),
  rwG reC (([] : List (Int × Int × LB × Int)) ++ [(1, id_, [u8 0, u8 1, u8 1, u8 0, u8 0, u8 0, u8 0, u8 0], 0)]),
  rwG reC ((([] : List (Int × Int × LB × Int)) ++ [(1, id_, [u8 0, u8 1, u8 1, u8 0, u8 0, u8 0, u8 0, u8 0], 0)]) ++ (spS 4 id_ (pS z))),
  rwG reC (spS 5 id_ body),
  rwG reC (((([] : List (Int × Int × LB × Int)) ++ [(1, id_, [u8 0, u8 1, u8 1, u8 0, u8 0, u8 0, u8 0, u8 0], 0)]) ++ (spS 4 id_ (pS z))) ++ (spS 5 id_ body)),
  rwG reC (spS t id_ body),
  rwG reC (spS t id_ body)]
theorem on2 (t : Int) (id_ : Int) (aB5 : Nat) (aB1 : Nat) (es_z : Nat) (z : List (LB × LB)) (body : LB) : ∀ j, (nuL (nu2 t id_ aB5 aB1 es_z z body) j).oneCell' = true := aA6 (l := nu2 t id_ aB5 aB1 es_z z body) rfl
theorem path2 (t : Int) (id_ : Int) (aB5 : Nat) (aB1 : Nat) (es_z : Nat) (z : List (LB × LB)) (body : LB) (b0 : -9223372036854775808 ≤ t) (b1 : t ≤ 9223372036854775807) (b2 : -9223372036854775808 ≤ id_) (b3 : id_ ≤ 9223372036854775807) (b4 : 1 ≤ z.length) (b5 : ∀ n, n ∈ z → prB n) (b6 : z.length ≤ 9223372036854775807) (b7 : body.length ≤ 9223372036854775807) (h0 : ¬ (30 < (z.length : Int))) (h1 : ¬ (5000 < (body.length : Int))) (h2 : ok6 z) (w : World) (hl : aA5 w) (w_z : bY5 w 2 (z.flatMap prC) aB5 aB1 z.length es_z) (g_z : (H0 ).get aB5 = none) : CwR 3 #[.int .i64 t, .int .i64 id_, .slice (some ⟨aB5, aB1, none⟩) z.length es_z, St' body] w (.bool true) := by
  have hn0 : ([] : LB).length = 0 := rfl
  have hpl := cK3 z (by assumption)
  have := cH8 (pS z) 0; have := cH9 (pS z) 0
  have := aU4 (t := 4) (i := id_) (pS z)
  have := aU4 (t := 5) (i := id_) body
  have := aU4 (t := t) (i := id_) body
  have ho : ∀ k r, (k, r) ∈ hy2 → HOk (cx (nuX (nu2 t id_ aB5 aB1 es_z z body) (rX (ro2 t id_ aB5 aB1 es_z z body) (fun _ => .bool true))) (aA7 (on2 t id_ aB5 aB1 es_z z body)) 0 aA5 aA0) k r := by
    unfold hy2
    exact hc (kB0 rfl) <|hc (kRn (denX rfl)) <|hc (kRlG aD0 (isX rfl) (denX rfl) (by first | omega | (simp <;> omega))) <|hc (gtcF rfl (by omega)) <|hc (lnV rfl rfl (by omega)) <|hc (gtcF rfl (by omega)) <|hc (kRlG aD0 (isX rfl) (denX rfl) (by first | omega | (simp <;> omega))) <|hc (kByt (i := 0) (isX rfl) (isZ (m := 0) rfl) (denX rfl) rfl (by first | omega | (simp <;> omega)) rfl) <|hc (lnV rfl rfl (by omega)) <|hc (kFit (isX rfl) (by first | omega | (simp <;> omega))) <|hc (kRlG aA8 (isX rfl) (denX rfl) (by first | omega | (simp <;> omega))) <|hc (kAdd (isZ (m := 1) rfl) (isX rfl) (denX rfl) (by omega) (fI64 (by omega) (by omega))) <|hc (ltcF rfl (by omega)) <|hc (kRlG aA8 (isX rfl) (denX rfl) (by first | omega | (simp <;> omega))) <|hc (adX rfl rfl rfl (by omega)) <|hc (ltcF rfl (by omega)) <|hc (sbC rfl rfl (by omega)) <|hc (gtcT rfl (by omega)) <|hc (kRg (by refine ⟨_, rfl, ?_, ?_, ?_⟩ <;> kernel_rfl) (isX rfl) (by omega) (by omega) (denX rfl)) <|hc (kRt (f := reC) (j := 0) aA8 (isX rfl) (isZ (m := 0) rfl) (denX (congrArg (rwG reC) (List.take_zero (l := (List.replicate (Int.toNat (((spS 4 id_ (pS z)).length : Int) + ((spS 5 id_ body).length : Int) + 1)) (0, 0, [], 0)))).symm)) (by omega) (by omega)) <|hc (kRaG (f := reC) (l := ([] : List (Int × Int × LB × Int))) (a := (1, id_, [u8 0, u8 1, u8 1, u8 0, u8 0, u8 0, u8 0, u8 0], 0)) (isX rfl) (isL4 (isZ (m := 1) rfl) (isX rfl) (isSx (l := [u8 0, u8 1, u8 1, u8 0, u8 0, u8 0, u8 0, u8 0]) 8 65792 rfl) (isZ (m := 0) rfl)) (denX rfl)) <|hc (kRfG aA8 (isX rfl) (by first | (rw [List.length_append]; omega) | (first | omega | (simp <;> omega))) (by first | (rw [List.length_append]; omega) | (first | omega | (simp <;> omega)))) <|hc (kRr (f := reC) (l := (([] : List (Int × Int × LB × Int)) ++ [(1, id_, [u8 0, u8 1, u8 1, u8 0, u8 0, u8 0, u8 0, u8 0], 0)])) (m := (spS 4 id_ (pS z))) (isX rfl) (isX rfl) (denX rfl)) <|hc (kRfG aA8 (isX rfl) (by first | (rw [List.length_append]; omega) | (first | omega | (simp <;> omega))) (by first | (rw [List.length_append]; omega) | (first | omega | (simp <;> omega)))) <|hc (kRr (f := reC) (l := ((([] : List (Int × Int × LB × Int)) ++ [(1, id_, [u8 0, u8 1, u8 1, u8 0, u8 0, u8 0, u8 0, u8 0], 0)]) ++ (spS 4 id_ (pS z)))) (m := (spS 5 id_ body)) (isX rfl) (isX rfl) (denX rfl)) <|hc (kRfG aA8 (isX rfl) (by first | (rw [List.length_append]; omega) | (first | omega | (simp <;> omega))) (by first | (rw [List.length_append]; omega) | (first | omega | (simp <;> omega)))) <|hc (kRlG aA8 (isX rfl) (denX rfl) (by first | omega | (simp <;> omega))) <|hc (gtcT rfl (by omega)) <|hc (kRaG (f := reC) (l := ([] : List (Int × Int × LB × Int))) (a := (1, id_, [u8 0, u8 1, u8 1, u8 0, u8 0, u8 0, u8 0, u8 0], 0)) (isX rfl) (isL4 (isZ (m := 1) rfl) (isX rfl) (isSx (l := [u8 0, u8 1, u8 1, u8 0, u8 0, u8 0, u8 0, u8 0]) 8 65792 rfl) (isZ (m := 0) rfl)) (denX rfl)) <|hc (kRr (f := reC) (l := (([] : List (Int × Int × LB × Int)) ++ [(1, id_, [u8 0, u8 1, u8 1, u8 0, u8 0, u8 0, u8 0, u8 0], 0)])) (m := (spS 4 id_ (pS z))) (isX rfl) (isX rfl) (denX rfl)) <|hc (kRfG aA8 (isX rfl) (by first | (rw [List.length_append]; omega) | (first | omega | (simp <;> omega))) (by first | (rw [List.length_append]; omega) | (first | omega | (simp <;> omega)))) <|hc (kRr (f := reC) (l := ((([] : List (Int × Int × LB × Int)) ++ [(1, id_, [u8 0, u8 1, u8 1, u8 0, u8 0, u8 0, u8 0, u8 0], 0)]) ++ (spS 4 id_ (pS z)))) (m := (spS 5 id_ body)) (isX rfl) (isX rfl) (denX rfl)) <|hc (kRfG aA8 (isX rfl) (by first | (rw [List.length_append]; omega) | (first | omega | (simp <;> omega))) (by first | (rw [List.length_append]; omega) | (first | omega | (simp <;> omega)))) <|hc (kRlG aA8 (isX rfl) (denX rfl) (by first | omega | (simp <;> omega))) <|hc (kRlG aA8 (isX rfl) (denX rfl) (by first | omega | (simp <;> omega))) <|hc (kNeI (isX rfl) (isX rfl) (neF (by omega))) <|hc (kRlG aA8 (isX rfl) (denX rfl) (by first | omega | (simp <;> omega))) <|hc (kRlG aA8 (isX rfl) (denX rfl) (by first | omega | (simp <;> omega))) <|hc (kNeI (isX rfl) (isX rfl) (neF (by omega))) <|hc (kEqT (isX rfl) (isX rfl) tu3 (decide_eq_true (by omega))) <|hnil
  exact runPR (tb := tab2) (aC6.lp1 (aC6.lp2 (aC6.lp1 (aC6.lp2 (aC6.lp1 (aC6.lp1 ((aC2 (nuX (nu2 t id_ aB5 aB1 es_z z body) (rX (ro2 t id_ aB5 aB1 es_z z body) (fun _ => .bool true))) (aA7 (on2 t id_ aB5 aB1 es_z z body))).hyps ho) (by omega) cO8 bL7 (aE4 (aG5 rfl ⟨0, keyOk1, lfOkOk1_0 (l := lf19) (h := lh19) z (by assumption) (0, (0 : Int)) (cM7 ⟨by omega, by omega, by omega, by assumption, (fun q hq => nomatch hq), by omega⟩) rfl (by kernel_rfl) (th0 := [(0, I6 0), (2000000, .x 2000000)]) (sg0 := []) (fun X => aF5 (show Is _ (I6 0) (.int .i64 ((0 : Int))) from isTo (v := .int .i64 0) (isI _ _) (by first | rfl | (congr 1; omega))) (thXv (v := rwG prC z) rfl rfl (aB4))) (by kernel_rfl) (thx := [(2000002, .x 2000000)]) (thXv (v := rwG prC z) rfl rfl (aB4)) (by kernel_rfl)⟩) aR5)) (by omega) (aC0 (by omega) (by omega) fi19_at) bR7 (aE4 (aG5 rfl ⟨0, keyBy1, lfOkBy1_0 (l := lf20) (h := lh20) z (0, (0 : Int), ([] : LB)) (cM8 ⟨by omega, by omega, by omega, by assumption, by assumption, rfl, by simp, fun _ => rfl, by omega, by omega⟩) rfl (by kernel_rfl) (th0 := [(0, .x 6), (1, I6 0), (2000000, .x 2000002)]) (sg0 := [(61, 47)]) (fun X => thXv (v := .int .i64 ((z.length : Int))) rfl rfl (aF5 (show Is _ (I6 0) (.int .i64 ((0 : Int))) from isTo (v := .int .i64 0) (isI _ _) (by first | rfl | (congr 1; omega))) (thXv (v := rwG prC z) rfl rfl (aB4)))) (by kernel_rfl) (thx := [(7, .x 0), (2000003, .x 2000000)]) (thXv (v := St' (pS z)) rfl rfl (thXv (v := rwG prC z) rfl rfl (aB4))) (by kernel_rfl)⟩) aR5)) (by omega) (aC0 (by omega) (by omega) (aC0 (by omega) (by omega) bR5)) aP3 (aE4 (.inr ⟨⟨rfl, rfl⟩, cfA9, aW0 (l := lf21) (h := lh21) (q := (0, .sr 111)) 4 id_ (pS z) (by omega) rfl rfl (by kernel_rfl) (th0 := [(0, I6 4), (1, .x 1), (2, .x 7)]) (sg0 := []) (aF5 (show Is _ (I6 4) (.int .i64 (4)) from isTo (v := .int .i64 4) (isI _ _) (by first | rfl | (congr 1; omega))) (thXv (v := .int .i64 (id_)) rfl rfl (thXv (v := St' (pS z)) rfl rfl (aB4)))) (by kernel_rfl) (thx := [(2000004, .x 2000000)]) (thXv (v := rwG reC (spS 4 id_ (pS z))) rfl rfl (aB4)) (by kernel_rfl)⟩) (aE4 (.inr ⟨⟨rfl, rfl⟩, cfA9, aN9 (l := lf22) (l' := lf23) (h := lh22) (h' := lh23) (q := (0, .sr 111)) (q' := (0, .sr 141)) (ids := [2000005]) (sg := [(141, 111)] ++ sgJ 1 140) (aW0 (l := lf22) (h := lh22) (q := (0, .sr 111)) 5 id_ body (by omega) rfl rfl (by kernel_rfl) (th0 := [(0, I6 5), (1, .x 1), (2, .x 2)]) (sg0 := []) (aF5 (show Is _ (I6 5) (.int .i64 (5)) from isTo (v := .int .i64 5) (isI _ _) (by first | rfl | (congr 1; omega))) (thXv (v := .int .i64 (id_)) rfl rfl (thXv (v := St' body) rfl rfl (aB4)))) (by kernel_rfl) (thx := [(2000005, .x 2000000)]) (thXv (v := rwG reC (spS 5 id_ body)) rfl rfl (aB4)) (by kernel_rfl)) rfl rfl rfl rfl (by kernel_rfl) (by kernel_rfl)⟩) (aE4 (.inr ⟨⟨rfl, rfl⟩, cfA9, aN9 (l := lf29) (l' := lf30) (h := lh29) (h' := lh30) (q := (0, .sr 111)) (q' := (0, .sr 903)) (ids := [2000017]) (sg := [(903, 111)] ++ sgJ 1 902) (aW0 (l := lf29) (h := lh29) (q := (0, .sr 111)) t id_ body (by omega) rfl rfl (by kernel_rfl) (th0 := [(0, .x 0), (1, .x 1), (2, .x 2)]) (sg0 := []) (thXv (v := .int .i64 (t)) rfl rfl (thXv (v := .int .i64 (id_)) rfl rfl (thXv (v := St' body) rfl rfl (aB4)))) (by kernel_rfl) (thx := [(2000017, .x 2000000)]) (thXv (v := rwG reC (spS t id_ body)) rfl rfl (aB4)) (by kernel_rfl)) rfl rfl rfl rfl (by kernel_rfl) (by kernel_rfl)⟩) aR5)))) (by omega) (aC0 (by omega) (by omega) (aC0 (by omega) (by omega) (aC0 (by omega) (by omega) fi21_at))) bR6 (aE4 (aG5 rfl ⟨0, keyRp1, lfOkRp1_0 (l := lf24) (h := lh24) z (0, (0 : Int), ([] : LB)) (mkIRp1 ⟨by omega, by omega, by omega, by assumption, by assumption, rfl, by simp, by omega⟩) rfl (by kernel_rfl) (th0 := [(0, I6 0), (1, .s 0 0), (2000000, .x 2000003)]) (sg0 := []) (fun X => aF5 (show Is _ (I6 0) (.int .i64 ((0 : Int))) from isTo (v := .int .i64 0) (isI _ _) (by first | rfl | (congr 1; omega))) (aF5 (show Is _ (.s 0 0) (St' ([] : LB)) from isTo (v := St' ([] : LB)) (isSx (l := ([] : LB)) 0 0 rfl) (by first | rfl | (simp; done))) (thXv (v := rwG prC z) rfl rfl (aB4)))) (by kernel_rfl) (thx := [(15, .x 0), (2000011, .x 2000000)]) (thXv (v := St' (pS z)) rfl rfl (thXv (v := rwG prC z) rfl rfl (aB4))) (by kernel_rfl)⟩) aR5)) (by omega) (aC0 (by omega) (by omega) (aC0 (by omega) (by omega) (aC0 (by omega) (by omega) (aC0 (by omega) (by omega) bL8)))) aN7 (aE4 (.inr ⟨⟨rfl, rfl⟩, cH7, aW1 (l := lf25) (h := lh25) (q := (0, .sr 331)) 4 id_ (pS z) (by omega) rfl rfl (by kernel_rfl) (th0 := [(0, I6 4), (1, .x 1), (2, .x 15)]) (sg0 := []) (aF5 (show Is _ (I6 4) (.int .i64 (4)) from isTo (v := .int .i64 4) (isI _ _) (by first | rfl | (congr 1; omega))) (thXv (v := .int .i64 (id_)) rfl rfl (thXv (v := St' (pS z)) rfl rfl (aB4)))) (by kernel_rfl) (thx := [(2000012, .x 2000000)]) (thXv (v := rwG reC (spS 4 id_ (pS z))) rfl rfl (aB4)) (by kernel_rfl)⟩) (aE4 (.inr ⟨⟨rfl, rfl⟩, cH7, aN9 (l := lf26) (l' := lf27) (h := lh26) (h' := lh27) (q := (0, .sr 331)) (q' := (0, .sr 362)) (ids := [2000015]) (sg := [(362, 331)] ++ sgJ 1 361) (aW1 (l := lf26) (h := lh26) (q := (0, .sr 331)) 5 id_ body (by omega) rfl rfl (by kernel_rfl) (th0 := [(0, I6 5), (1, .x 1), (2, .x 2)]) (sg0 := []) (aF5 (show Is _ (I6 5) (.int .i64 (5)) from isTo (v := .int .i64 5) (isI _ _) (by first | rfl | (congr 1; omega))) (thXv (v := .int .i64 (id_)) rfl rfl (thXv (v := St' body) rfl rfl (aB4)))) (by kernel_rfl) (thx := [(2000015, .x 2000000)]) (thXv (v := rwG reC (spS 5 id_ body)) rfl rfl (aB4)) (by kernel_rfl)) rfl rfl rfl rfl (by kernel_rfl) (by kernel_rfl)⟩) (aE4 (.inr ⟨⟨rfl, rfl⟩, cH7, aN9 (l := lf31) (l' := lf32) (h := lh31) (h' := lh32) (q := (0, .sr 331)) (q' := (0, .sr 933)) (ids := [2000018]) (sg := [(933, 331)] ++ sgJ 1 932) (aW1 (l := lf31) (h := lh31) (q := (0, .sr 331)) t id_ body (by omega) rfl rfl (by kernel_rfl) (th0 := [(0, .x 0), (1, .x 1), (2, .x 2)]) (sg0 := []) (thXv (v := .int .i64 (t)) rfl rfl (thXv (v := .int .i64 (id_)) rfl rfl (thXv (v := St' body) rfl rfl (aB4)))) (by kernel_rfl) (thx := [(2000018, .x 2000000)]) (thXv (v := rwG reC (spS t id_ body)) rfl rfl (aB4)) (by kernel_rfl)) rfl rfl rfl rfl (by kernel_rfl) (by kernel_rfl)⟩) aR5)))) (by omega) (aC0 (by omega) (by omega) (aC0 (by omega) (by omega) (aC0 (by omega) (by omega) (aC0 (by omega) (by omega) (aC0 (by omega) (by omega) fi6_at))))) bL6 (aE4 (aG5 rfl ⟨0, cD8, bB9 (l := lf28) (h := lh28) (((([] : List (Int × Int × LB × Int)) ++ [(1, id_, [u8 0, u8 1, u8 1, u8 0, u8 0, u8 0, u8 0, u8 0], 0)]) ++ (spS 4 id_ (pS z))) ++ (spS 5 id_ body)) (0, (0 : Int)) (bI8 ⟨by omega, by omega, by simp only [List.length_append, List.length_cons, List.length_nil]; omega, fun q hq => rw_B (by omega) (by omega) (by decide) q hq, by omega⟩) rfl (by kernel_rfl) (th0 := [(0, I6 0), (2000000, .x 2000010), (2000001, .x 2000016)]) (sg0 := [(901, 176), (902, 392)]) (fun X => aF5 (show Is _ (I6 0) (.int .i64 ((0 : Int))) from isTo (v := .int .i64 0) (isI _ _) (by first | rfl | (congr 1; omega))) (thXv (v := rwG reC (((([] : List (Int × Int × LB × Int)) ++ [(1, id_, [u8 0, u8 1, u8 1, u8 0, u8 0, u8 0, u8 0, u8 0], 0)]) ++ (spS 4 id_ (pS z))) ++ (spS 5 id_ body))) rfl rfl (thXv (v := rwG reC (((([] : List (Int × Int × LB × Int)) ++ [(1, id_, [u8 0, u8 1, u8 1, u8 0, u8 0, u8 0, u8 0, u8 0], 0)]) ++ (spS 4 id_ (pS z))) ++ (spS 5 id_ body))) rfl rfl (aB4)))) (by kernel_rfl) (thx := []) (aB4) (by kernel_rfl)⟩) (aE4 (aG5 rfl ⟨0, bQ7, aX0 (l := lf33) (h := lh33) (spS t id_ body) (0, (0 : Int)) (bB6 ⟨by omega, by omega, by omega, fun q hq => bH6 (by omega) (by omega) (by omega) (by omega) q hq, by omega⟩) rfl (by kernel_rfl) (th0 := [(0, I6 0), (2000000, .x 2000017), (2000001, .x 2000018)]) (sg0 := [(1301, 903), (1302, 933)]) (fun X => aF5 (show Is _ (I6 0) (.int .i64 ((0 : Int))) from isTo (v := .int .i64 0) (isI _ _) (by first | rfl | (congr 1; omega))) (thXv (v := rwG reC (spS t id_ body)) rfl rfl (thXv (v := rwG reC (spS t id_ body)) rfl rfl (aB4)))) (by kernel_rfl) (thx := []) (aB4) (by kernel_rfl)⟩) aR5))) rfl (aC0 (by omega) (by omega) (aC0 (by omega) (by omega) (aC0 (by omega) (by omega) (aC0 (by omega) (by omega) (aC0 (by omega) (by omega) (aR9 (by omega))))))) fiB3 [.r 2000000 25 2 true] [⟨aB5, aB1, z.length, es_z⟩] (run2 ) (args := [.int .i64 t, .int .i64 id_, .slice (some ⟨aB5, aB1, none⟩) z.length es_z, St' body]) ⟨_, _, rfl, rfl, ⟨_, _, rfl, rfl, ⟨_, _, rfl, cA3 (by decide) rfl w_z.room, ⟨_, _, rfl, rfl, rfl⟩⟩⟩⟩ w hl rfl (by decide) ((aZ6 (w_z.arg (g_z ) rfl) bM4)) rfl
end Go.Proofs.Ytfoalkoifcpdmaa.framesTells
