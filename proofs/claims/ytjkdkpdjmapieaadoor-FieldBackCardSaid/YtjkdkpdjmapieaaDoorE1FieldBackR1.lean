/- A part of the proof: an interpreter of the model's own code on partly known states, and that what it answers is what the program answers. No condition of its own. -/
import Derived.Test.YtjkdkpdjmapieaaDoorE1FieldBackO5
set_option maxRecDepth 100000
set_option linter.unusedVariables false
set_option linter.unusedSimpArgs false
set_option maxHeartbeats 4000000
namespace Go.Proofs.YtjkdkpdjmapieaaDoor.fieldBack
open Go Go.AX Go.Proofs Go.Proofs.YtjkdkpdjmapieaaDoor
def hy3 : LK := [(.rn, .x 2000001),
  (.call 6 [.ag [.x 0, .x 1]], .b true),
  (.rl (.x 2000000) 2, .x 4),
  (.bin .gtr (.x 4) (.i .i64 (.ofNat 20)), .b false),
  (.bin .add (.x 0) (.s 2 8250), .x 5),
  (.bin .add (.x 5) (.x 1), .x 6),
  (.bin .add (.x 6) (.s 2 2573), .x 7),
  (.byt (.x 7) (.i .i64 (.ofNat 0)), .x 8),
  (.fit (.x 7), .b true),
  (.len (.x 7), .x 9),
  (.bin .add (.x 0) (.s 1 58), .x 12),
  (.bin .add (.x 12) (.x 10), .x 13),
  (.bin .add (.x 13) (.x 1), .x 14),
  (.bin .add (.x 14) (.x 11), .x 15),
  (.bin .eql (.s 1 58) (.x 15), .b false),
  (.ext 77 [.x 15, .i .u8 (.ofNat 58)], .x 16),
  (.bin .geq (.x 16) (.i .i64 (.ofNat 0)), .b true),
  (.sub (.x 15) none (some (.x 16)), .x 17),
  (.bin .add (.x 16) (.i .i64 (.ofNat 1)), .x 18),
  (.sub (.x 15) (some (.x 18)) none, .x 19),
  (.call 40 [.x 19, .s 2 2336], .x 20),
  (.call 38 [.x 17], .b true),
  (.call 39 [.x 20], .b true),
  (.len (.x 17), .x 21),
  (.bin .gtr (.x 21) (.i .i64 (.ofNat 64)), .b false),
  (.len (.x 20), .x 22),
  (.bin .gtr (.x 22) (.i .i64 (.ofNat 512)), .b false),
  (.bin .lss (.x 9) (.i .i64 (.ofNat 2)), .b false),
  (.bin .sub (.x 9) (.i .i64 (.ofNat 2)), .x 23),
  (.sub (.x 7) none (some (.x 23)), .x 24),
  (.bin .eql (.s 1 58) (.x 24), .b false),
  (.ext 77 [.x 24, .i .u8 (.ofNat 58)], .x 25),
  (.bin .geq (.x 25) (.i .i64 (.ofNat 0)), .b true),
  (.sub (.x 24) none (some (.x 25)), .x 26),
  (.bin .add (.x 25) (.i .i64 (.ofNat 1)), .x 27),
  (.sub (.x 24) (some (.x 27)) none, .x 28),
  (.call 40 [.x 28, .s 2 2336], .x 29),
  (.call 38 [.x 26], .b true),
  (.call 39 [.x 29], .b true),
  (.len (.x 26), .x 30),
  (.bin .gtr (.x 30) (.i .i64 (.ofNat 64)), .b false),
  (.len (.x 29), .x 31),
  (.bin .gtr (.x 31) (.i .i64 (.ofNat 512)), .b false),
  (.bin .gtr (.x 4) (.i .i64 (.ofNat 0)), .b true),
  (.rr (.x 2000001) (.x 2000000), .x 2000002),
  (.rf (.x 2000002) 2 32, .b true),
  (.ra (.x 2000002) [.x 0, .x 1], .x 2000003),
  (.rf (.x 2000003) 2 32, .b true),
  (.rl (.x 2000003) 2, .x 32),
  (.eq 9 (.x 17) (.x 0), .b true),
  (.eq 9 (.x 20) (.x 1), .b true),
  (.eq 9 (.x 26) (.x 0), .b true),
  (.eq 9 (.x 29) (.x 1), .b true),
  (.rl (.x 2000005) 2, .x 33),
  (.rl (.x 2000006) 2, .x 34),
  (.bin .sub (.x 4) (.i .i64 (.ofNat 0)), .x 35),
  (.bin .eql (.x 34) (.x 35), .b true)]
def lh19 : LH := ⟨4, 24, 24, [], []⟩
def lf19 : LF := ⟨8, 121, [(2, .x 2), (10, .s 0 0), (12, .i .i64 (.ofNat 0))], [0, 1, 3, 4, 8, 9, 11], (.exit 0), [(10, .x 10)], some lh19⟩
def lh20 : LH := ⟨4, 44, 44, [], []⟩
def lf20 : LF := ⟨12, 121, [(3, .x 3), (11, .s 0 0), (13, .i .i64 (.ofNat 0))], [0, 1, 4, 8, 9, 10], (.exit 2), [(11, .x 11)], some lh20⟩
def lh21 : LH := ⟨4, 65, 105, [(54, .r 2000003 23 2 false)], [(54, .r 2000004 23 2 false), (65, .r 2000005 23 2 false)]⟩
def lf21 : LF := ⟨3, 25, [(1, .x 0), (5, .nils), (8, .sr 54), (9, .x 32), (10, .i .i64 (.ofNat 0))], [], (.exit 0), [(5, .sr 65)], some lh21⟩
def lh22 : LH := ⟨4, 115, 155, [(65, .r 2000005 23 2 false)], [(65, .r 2000006 23 2 false)]⟩
def lf22 : LF := ⟨3, 25, [(1, .x 0), (5, .nils), (8, .sr 65), (9, .x 33), (10, .i .i64 (.ofNat 0))], [], (.exit 0), [(5, .nils)], some lh22⟩
def lh23 : LH := ⟨4, 165, 205, [(4, .r 2000000 23 2 true)], [(4, .r 2000007 23 2 true)]⟩
def lf23 : LF := ⟨3, 25, [(1, .x 0), (5, .nils), (8, .sr 4), (9, .x 4), (10, .i .i64 (.ofNat 0))], [], (.exit 0), [(5, .nils)], some lh23⟩
noncomputable def tab3 : Tab := addLps (addLps (addLps ({ tabk with hyp := hy3 }) 3 fi3 [lf19, lf20]) 9 fi9 [lf21]) 10 fi10 [lf22, lf23]
theorem run3 : Go.AX.okB (call tab3 9000 3 [.ag [.x 0, .x 1], .sr 4, .x 2, .x 3] ⟨addR 4 [.r 2000000 23 2 true] (H0 ), 4 + List.length (α := Ent) [.r 2000000 23 2 true], 0, 0⟩) = true := by kernel_rfl
def nu3 (pn : LB) (pv : LB) (blk_z : Nat) (base_z : Nat) (es_z : Nat) (z : List (LB × LB)) (be : Int) (bh : Int) : List Value := [St' pn,
  St' pv,
  .int .u8 (be),
  .int .u8 (bh),
  .int .i64 ((z.length : Int)),
  St' (pn ++ [u8 58, u8 32]),
  St' (pn ++ ([u8 58, u8 32] ++ pv)),
  St' (pn ++ ([u8 58, u8 32] ++ (pv ++ [u8 13, u8 10]))),
  .int .u8 (bt (pn ++ ([u8 58, u8 32] ++ (pv ++ [u8 13, u8 10]))) 0),
  .int .i64 ((pn.length : Int) + (pv.length : Int) + 4),
  St' (List.replicate (Int.toNat (be % 5)) (u8 32)),
  St' (List.replicate (Int.toNat (bh % 5)) (u8 9)),
  St' (pn ++ [u8 58]),
  St' (pn ++ ([u8 58] ++ (List.replicate (Int.toNat (be % 5)) (u8 32)))),
  St' (pn ++ ([u8 58] ++ ((List.replicate (Int.toNat (be % 5)) (u8 32)) ++ pv))),
  St' (pn ++ ([u8 58] ++ ((List.replicate (Int.toNat (be % 5)) (u8 32)) ++ (pv ++ (List.replicate (Int.toNat (bh % 5)) (u8 9)))))),
  .int .i64 ((pn.length : Int)),
  St' pn,
  .int .i64 ((pn.length : Int) + 1),
  St' ((List.replicate (Int.toNat (be % 5)) (u8 32)) ++ (pv ++ (List.replicate (Int.toNat (bh % 5)) (u8 9)))),
  St' pv,
  .int .i64 ((pn.length : Int)),
  .int .i64 ((pv.length : Int)),
  .int .i64 ((pn.length : Int) + (pv.length : Int) + 2),
  St' (pn ++ ([u8 58, u8 32] ++ pv)),
  .int .i64 ((pn.length : Int)),
  St' pn,
  .int .i64 ((pn.length : Int) + 1),
  St' ([u8 32] ++ pv),
  St' pv,
  .int .i64 ((pn.length : Int)),
  .int .i64 ((pv.length : Int)),
  .int .i64 ((z.length : Int) + 1),
  .int .i64 (((dropS pn z).length : Int)),
  .int .i64 (((dropS pn z).length : Int)),
  .int .i64 ((z.length : Int))]
def ro3 (pn : LB) (pv : LB) (blk_z : Nat) (base_z : Nat) (es_z : Nat) (z : List (LB × LB)) (be : Int) (bh : Int) : List Value := [rwG prC z,
  rwS ([] : List LB),
  rwG prC z,
  rwG prC (z ++ [(pn, pv)]),
  rwG prC (z ++ [(pn, pv)]),
  rwG prC (dropS pn z),
  rwG prC (dropS pn z),
  rwG prC z]
theorem on3 (pn : LB) (pv : LB) (blk_z : Nat) (base_z : Nat) (es_z : Nat) (z : List (LB × LB)) (be : Int) (bh : Int) : ∀ j, (nuL (nu3 pn pv blk_z base_z es_z z be bh) j).oneCell' = true := nuL_one (l := nu3 pn pv blk_z base_z es_z z be bh) rfl
theorem path3 (pn : LB) (pv : LB) (blk_z : Nat) (base_z : Nat) (es_z : Nat) (z : List (LB × LB)) (be : Int) (bh : Int) (b0 : pn.length ≤ 140737488351232) (b1 : pv.length ≤ 140737488351232) (b2 : ∀ n, n ∈ z → prB n) (b3 : ∀ q, q ∈ z → q.1.length ≤ 140737488351232) (b4 : ∀ q, q ∈ z → q.2.length ≤ 140737488351232) (b5 : z.length ≤ 9223372036854775807) (b6 : 0 ≤ be) (b7 : be ≤ 255) (b8 : 0 ≤ bh) (b9 : bh ≤ 255) (h0 : isF pn pv = true) (h1 : ¬ (20 < (z.length : Int))) (h13 : 0 < (z.length : Int)) (h14 : ¬ ((dropS pn z).length = 0)) (h15 : (getS pn z).length = 0) (w : World) (hl : laidE w) (w_z : InRow w 2 (z.flatMap prC) blk_z base_z z.length es_z) (g_z : (H0 ).get blk_z = none) : CwR 3 #[.agg #[St' pn, St' pv], .slice (some ⟨blk_z, base_z, none⟩) z.length es_z, .int .u8 be, .int .u8 bh] w (.bool true) := by
  obtain ⟨htk, hvs, hln, hlv, htr⟩ := isF_inv (a := pn) (v := pv) (by assumption)
  have hpl := tok_pos htk
  have := bt_lo (pn ++ ([u8 58, u8 32] ++ (pv ++ [u8 13, u8 10]))) 0; have := bt_hi (pn ++ ([u8 58, u8 32] ++ (pv ++ [u8 13, u8 10]))) 0
  have hpA1 : ∀ q, q ∈ z → prB q := by assumption
  have hpB1 : ∀ q, q ∈ z → q.1.length ≤ 140737488351232 := by assumption
  have hpA0 : ∀ q, q ∈ (z ++ [(pn, pv)]) → prB q := fun q hq => by
      rcases List.mem_append.1 hq with hq | hq
      · exact hpA1 q hq
      · rw [List.mem_singleton.1 hq]; exact ⟨by show (pn).length ≤ _; omega, by show (pv).length ≤ _; omega⟩
  have hpB0 : ∀ q, q ∈ (z ++ [(pn, pv)]) → q.1.length ≤ 140737488351232 := fun q hq => by
      rcases List.mem_append.1 hq with hq | hq
      · exact hpB1 q hq
      · rw [List.mem_singleton.1 hq]; show (pn).length ≤ _; omega
  have hzl0 : ((z ++ [(pn, pv)])).length = (z).length + 1 := List.length_append ..
  have hdl := dropS_len pn z
  have hdg := dg_len pn z
  have hpA2 : ∀ q, q ∈ (dropS pn z) → prB q := fun q hq => hpA1 q (dropS_mem hq)
  have hpB2 : ∀ q, q ∈ (dropS pn z) → q.1.length ≤ 140737488351232 := fun q hq => hpB1 q (dropS_mem hq)
  have hpA3 : ∀ q, q ∈ z → prB q := by assumption
  have hpB3 : ∀ q, q ∈ z → q.1.length ≤ 140737488351232 := by assumption
  have hgl := getS_len pn z
  have ho : ∀ k r, (k, r) ∈ hy3 → HOk (cx (nuX (nu3 pn pv blk_z base_z es_z z be bh) (rX (ro3 pn pv blk_z base_z es_z z be bh) (fun _ => .bool true))) (nuX_one (on3 pn pv blk_z base_z es_z z be bh)) 0 laidE laidE_stab) k r := by
    unfold hy3
    exact hc (kRn (denX rfl)) <|
     hc (hokIsA (a := pn) (v := pv) (isAg2 (isX rfl) (isX rfl)) (denBT (by assumption)) (by omega) (by omega)) <|
     hc (kRlG prC_len (isX rfl) (denX rfl) (by first | omega | (simp <;> omega))) <|
     hc (gtcF rfl (by omega)) <|
     hc (kCat (isX rfl) (isSx (l := [u8 58, u8 32]) 2 8250 rfl) (denX rfl) (by first | rfl | (simp; done)) (by first | omega | (simp <;> omega))) <|
     hc (kCat (isX rfl) (isX rfl) (denX rfl) (by first | rfl | (simp; done)) (by first | omega | (simp <;> omega))) <|
     hc (kCat (isX rfl) (isSx (l := [u8 13, u8 10]) 2 2573 rfl) (denX rfl) (by first | rfl | (simp; done)) (by first | omega | (simp <;> omega))) <|
     hc (kByt (i := 0) (isX rfl) (isZ (m := 0) rfl) (denX rfl) rfl (by first | omega | (simp <;> omega)) rfl) <|
     hc (kFit (isX rfl) (by first | omega | (simp <;> omega))) <|
     hc (lnV rfl rfl (by first | omega | (simp <;> omega))) <|
     hc (kCat (isX rfl) (isSx (l := [u8 58]) 1 58 rfl) (denX rfl) (by first | rfl | (simp; done)) (by first | omega | (simp <;> omega))) <|
     hc (kCat (isX rfl) (isX rfl) (denX rfl) (by first | rfl | (simp; done)) (by first | omega | (simp <;> omega))) <|
     hc (kCat (isX rfl) (isX rfl) (denX rfl) (by first | rfl | (simp; done)) (by first | omega | (simp <;> omega))) <|
     hc (kCat (isX rfl) (isX rfl) (denX rfl) (by first | rfl | (simp; done)) (by first | omega | (simp <;> omega))) <|
     hc (kEqS (isSx (l := [u8 58]) 1 58 rfl) (isX rfl) (neLen (by first | omega | (simp <;> omega)))) <|
     hc (kExtI (n := (pn.length : Int)) exF77 exA77 exB77 (isX rfl) (isZ (m := 58) rfl) (denX rfl) (idx_tok htk)) <|
     hc (gecT rfl (by omega)) <|
     hc (kCut (isX rfl) (.inl ⟨rfl, rfl⟩) (.inr ⟨_, _, rfl, (isX rfl)⟩) (p := ([] : LB)) (m := pn) (q := ([u8 58] ++ ((List.replicate (Int.toNat (be % 5)) (u8 32)) ++ (pv ++ (List.replicate (Int.toNat (bh % 5)) (u8 9)))))) (by first | rfl | (simp; done)) (by first | omega | (simp <;> omega)) (by first | omega | (simp <;> omega)) (denX rfl)) <|
     hc (adC rfl rfl (by omega)) <|
     hc (kCut (isX rfl) (.inr ⟨_, _, rfl, (isX rfl)⟩) (.inl ⟨rfl, rfl⟩) (p := (pn ++ [u8 58])) (m := ((List.replicate (Int.toNat (be % 5)) (u8 32)) ++ (pv ++ (List.replicate (Int.toNat (bh % 5)) (u8 9))))) (q := ([] : LB)) (by first | rfl | (simp; done)) (by first | omega | (simp <;> omega)) (by first | omega | (simp <;> omega)) (denX rfl)) <|
     hc (hokTrim (s := ((List.replicate (Int.toNat (be % 5)) (u8 32)) ++ (pv ++ (List.replicate (Int.toNat (bh % 5)) (u8 9))))) (isX rfl) (isSx (l := [u8 32, u8 9]) 2 2336 rfl) (denX (congrArg (fun l => St' l) (Eq.symm ((trSQ _).trans (trQ_pad (a := (List.replicate (Int.toNat (be % 5)) (u8 32))) (v := pv) (z := (List.replicate (Int.toNat (bh % 5)) (u8 9))) htr (by first | rfl | exact al_rep rfl | exact al_nil) (by first | rfl | exact al_rep rfl | exact al_nil) (by first | rfl | (simp; done))))))) (by first | omega | (simp only [List.length_append, List.length_cons, List.length_nil, List.length_replicate]; omega)) (by first | omega | (simp only [List.length_append, List.length_cons, List.length_nil, List.length_replicate]; omega))) <|
     hc (hokTokA (s := pn) (isX rfl) (denBT (by assumption)) (by first | omega | (simp only [List.length_append, List.length_cons, List.length_nil, List.length_replicate]; omega)) (by first | omega | (simp only [List.length_append, List.length_cons, List.length_nil, List.length_replicate]; omega))) <|
     hc (hokVisible (s := pv) (isX rfl) (denBT (by assumption)) (by first | omega | (simp only [List.length_append, List.length_cons, List.length_nil, List.length_replicate]; omega)) (by first | omega | (simp only [List.length_append, List.length_cons, List.length_nil, List.length_replicate]; omega))) <|
     hc (lnV rfl rfl (by omega)) <|
     hc (gtcF rfl (by omega)) <|
     hc (lnV rfl rfl (by omega)) <|
     hc (gtcF rfl (by omega)) <|
     hc (ltcF rfl (by omega)) <|
     hc (sbC rfl rfl (by omega)) <|
     hc (kCut (isX rfl) (.inl ⟨rfl, rfl⟩) (.inr ⟨_, _, rfl, (isX rfl)⟩) (p := ([] : LB)) (m := (pn ++ ([u8 58, u8 32] ++ pv))) (q := [u8 13, u8 10]) (by first | rfl | (simp; done)) (by first | omega | (simp <;> omega)) (by first | omega | (simp <;> omega)) (denX rfl)) <|
     hc (kEqS (isSx (l := [u8 58]) 1 58 rfl) (isX rfl) (neLen (by first | omega | (simp <;> omega)))) <|
     hc (kExtI (n := (pn.length : Int)) exF77 exA77 exB77 (isX rfl) (isZ (m := 58) rfl) (denX rfl) (idx_tok htk)) <|
     hc (gecT rfl (by omega)) <|
     hc (kCut (isX rfl) (.inl ⟨rfl, rfl⟩) (.inr ⟨_, _, rfl, (isX rfl)⟩) (p := ([] : LB)) (m := pn) (q := ([u8 58, u8 32] ++ pv)) (by first | rfl | (simp; done)) (by first | omega | (simp <;> omega)) (by first | omega | (simp <;> omega)) (denX rfl)) <|
     hc (adC rfl rfl (by omega)) <|
     hc (kCut (isX rfl) (.inr ⟨_, _, rfl, (isX rfl)⟩) (.inl ⟨rfl, rfl⟩) (p := (pn ++ [u8 58])) (m := ([u8 32] ++ pv)) (q := ([] : LB)) (by first | rfl | (simp; done)) (by first | omega | (simp <;> omega)) (by first | omega | (simp <;> omega)) (denX rfl)) <|
     hc (hokTrim (s := ([u8 32] ++ pv)) (isX rfl) (isSx (l := [u8 32, u8 9]) 2 2336 rfl) (denX (congrArg (fun l => St' l) (Eq.symm ((trSQ _).trans (trQ_pad (a := [u8 32]) (v := pv) (z := ([] : LB)) htr (by first | rfl | exact al_rep rfl | exact al_nil) (by first | rfl | exact al_rep rfl | exact al_nil) (by first | rfl | (simp; done))))))) (by first | omega | (simp only [List.length_append, List.length_cons, List.length_nil, List.length_replicate]; omega)) (by first | omega | (simp only [List.length_append, List.length_cons, List.length_nil, List.length_replicate]; omega))) <|
     hc (hokTokA (s := pn) (isX rfl) (denBT (by assumption)) (by first | omega | (simp only [List.length_append, List.length_cons, List.length_nil, List.length_replicate]; omega)) (by first | omega | (simp only [List.length_append, List.length_cons, List.length_nil, List.length_replicate]; omega))) <|
     hc (hokVisible (s := pv) (isX rfl) (denBT (by assumption)) (by first | omega | (simp only [List.length_append, List.length_cons, List.length_nil, List.length_replicate]; omega)) (by first | omega | (simp only [List.length_append, List.length_cons, List.length_nil, List.length_replicate]; omega))) <|
     hc (lnV rfl rfl (by omega)) <|
     hc (gtcF rfl (by omega)) <|
     hc (lnV rfl rfl (by omega)) <|
     hc (gtcF rfl (by omega)) <|
     hc (gtcT rfl (by omega)) <|
     hc (kRr (f := prC) (l := []) (m := z) (isX rfl) (isX rfl) (denX rfl)) <|
     hc (kRfG prC_len (isX rfl) (by first | omega | (simp <;> omega)) (by first | omega | (simp <;> omega))) <|
     hc (kRaG (f := prC) (l := z) (a := (pn, pv)) (isX rfl) (isL2 (isX rfl) (isX rfl)) (denX rfl)) <|
     hc (kRfG prC_len (isX rfl) (by first | omega | (simp <;> omega)) (by first | omega | (simp <;> omega))) <|
     hc (kRlG prC_len (isX rfl) (denX rfl) (by first | omega | (simp <;> omega))) <|
     hc (kEqTS (isX rfl) (isX rfl) tu9 (decide_eq_true rfl)) <|
     hc (kEqTS (isX rfl) (isX rfl) tu9 (decide_eq_true rfl)) <|
     hc (kEqTS (isX rfl) (isX rfl) tu9 (decide_eq_true rfl)) <|
     hc (kEqTS (isX rfl) (isX rfl) tu9 (decide_eq_true rfl)) <|
     hc (kRlG prC_len (isX rfl) (denX rfl) (by first | omega | (simp <;> omega))) <|
     hc (kRlG prC_len (isX rfl) (denX rfl) (by first | omega | (simp <;> omega))) <|
     hc (sbC rfl rfl (by omega)) <|
     hc (eqXT rfl rfl (by omega)) <|
     hnil
  exact runPR (tb := tab3) (AllOk.lp1 (AllOk.lp1 (AllOk.lp1 ((tabkOk (nuX (nu3 pn pv blk_z base_z es_z z be bh) (rX (ro3 pn pv blk_z base_z es_z z be bh) (fun _ => .bool true))) (nuX_one (on3 pn pv blk_z base_z es_z z be bh))).hyps ho) (by omega) fi3_at fi3_body (lfCons (lpKnown rfl ⟨0, keyWa, lfOkWa_0 (l := lf19) (h := lh19) be (0, (0 : Int)) (mkIWa be 0 (0 : Int) ⟨by omega, by omega, by omega, by omega, by omega⟩) rfl (by kernel_rfl) (th0 := [(0, .x 2), (1, .s 0 0), (2, .i .i64 (.ofNat 0))]) (sg0 := []) (fun X => thXv (v := .int .u8 (be)) rfl rfl (thCons (show Is _ (.s 0 0) (St' (List.replicate (Int.toNat ((0 : Int))) (u8 32))) from isTo (v := St' ([] : LB)) (isSx (l := ([] : LB)) 0 0 rfl) (by first | rfl | (simp; done))) (thCons (show Is _ (.i .i64 (.ofNat 0)) (.int .i64 ((0 : Int))) from isTo (v := .int .i64 0) (isI _ _) (by first | rfl | (congr 1; omega))) (thNil)))) (by kernel_rfl) (thx := [(10, .x 0)]) (thXv (v := St' (List.replicate (Int.toNat (be % 5)) (u8 32))) rfl rfl (thNil)) (by kernel_rfl)⟩) (lfCons (lpKnown rfl ⟨1, keyWb, lfOkWb_0 (l := lf20) (h := lh20) bh (0, (0 : Int)) (mkIWb bh 0 (0 : Int) ⟨by omega, by omega, by omega, by omega, by omega⟩) rfl (by kernel_rfl) (th0 := [(0, .x 3), (1, .s 0 0), (2, .i .i64 (.ofNat 0))]) (sg0 := []) (fun X => thXv (v := .int .u8 (bh)) rfl rfl (thCons (show Is _ (.s 0 0) (St' (List.replicate (Int.toNat ((0 : Int))) (u8 9))) from isTo (v := St' ([] : LB)) (isSx (l := ([] : LB)) 0 0 rfl) (by first | rfl | (simp; done))) (thCons (show Is _ (.i .i64 (.ofNat 0)) (.int .i64 ((0 : Int))) from isTo (v := .int .i64 0) (isI _ _) (by first | rfl | (congr 1; omega))) (thNil)))) (by kernel_rfl) (thx := [(11, .x 0)]) (thXv (v := St' (List.replicate (Int.toNat (bh % 5)) (u8 9))) rfl rfl (thNil)) (by kernel_rfl)⟩) lfNil))) (by omega) (get_lps2 (by omega) (by omega) fi9_at) fi9_body (lfCons (lpKnown rfl ⟨0, keyDr0, lfOkDr0_1 (l := lf21) (h := lh21) (z ++ [(pn, pv)]) pn (by rw [dropS_snoc (nm := pn) (v := pv) (z := z) rfl]; omega) (0, (0 : Int), ([] : List (LB × LB))) (mkIDr0 (z ++ [(pn, pv)]) pn 0 (0 : Int) ([] : List (LB × LB)) ⟨by omega, by omega, by omega, hpA0, ⟨by omega, hpB0⟩, rfl, fun _ => rfl, fun h => by omega, by omega⟩) rfl (by kernel_rfl) (th0 := [(0, .x 0), (1, .x 32), (2, .i .i64 (.ofNat 0)), (2000000, .x 2000003)]) (sg0 := []) (fun X => thXv (v := St' pn) rfl rfl (thXe (v := .int .i64 ((z.length : Int) + 1)) (u := .int .i64 (((z ++ [(pn, pv)]).length : Int))) rfl rfl (by first | rfl | (congr 1; omega)) (thCons (show Is _ (.i .i64 (.ofNat 0)) (.int .i64 ((0 : Int))) from isTo (v := .int .i64 0) (isI _ _) (by first | rfl | (congr 1; omega))) (thXv (v := rwG prC (z ++ [(pn, pv)])) rfl rfl (thNil))))) (by kernel_rfl) (thx := [(2000004, .x 2000000), (2000005, .x 2000001)]) (thXv (v := rwG prC (z ++ [(pn, pv)])) rfl rfl (thXe (v := rwG prC (dropS pn (z ++ [(pn, pv)]))) (u := rwG prC (dropS pn z)) rfl rfl (congrArg (rwG prC) (dropS_snoc (nm := pn) (v := pv) (z := z) rfl)) (thNil))) (by kernel_rfl)⟩) lfNil)) (by omega) (get_lps2 (by omega) (by omega) (get_lps2 (by omega) (by omega) fi10_at)) fi10_body (lfCons (lpKnown rfl ⟨0, keyGt1, lfOkGt1_0 (l := lf22) (h := lh22) (dropS pn z) pn (getS_drop _ _) (0, (0 : Int), ([] : List LB)) (mkIGt1 (dropS pn z) pn 0 (0 : Int) ([] : List LB) ⟨by omega, by omega, by omega, hpA2, ⟨by omega, hpB2⟩, rfl, fun _ => rfl, fun h => by omega, by omega⟩) rfl (by kernel_rfl) (th0 := [(0, .x 0), (1, .x 33), (2, .i .i64 (.ofNat 0)), (2000000, .x 2000005)]) (sg0 := []) (fun X => thXv (v := St' pn) rfl rfl (thXv (v := .int .i64 (((dropS pn z).length : Int))) rfl rfl (thCons (show Is _ (.i .i64 (.ofNat 0)) (.int .i64 ((0 : Int))) from isTo (v := .int .i64 0) (isI _ _) (by first | rfl | (congr 1; omega))) (thXv (v := rwG prC (dropS pn z)) rfl rfl (thNil))))) (by kernel_rfl) (thx := [(2000006, .x 2000000)]) (thXv (v := rwG prC (dropS pn z)) rfl rfl (thNil)) (by kernel_rfl)⟩) (lfCons (lpKnown rfl ⟨0, keyGt2, lfOkGt2_0 (l := lf23) (h := lh23) z pn (List.eq_nil_of_length_eq_zero (by assumption)) (0, (0 : Int), ([] : List LB)) (mkIGt2 z pn 0 (0 : Int) ([] : List LB) ⟨by omega, by omega, by omega, hpA3, ⟨by omega, hpB3⟩, rfl, fun _ => rfl, fun h => by omega, by omega⟩) rfl (by kernel_rfl) (th0 := [(0, .x 0), (1, .x 4), (2, .i .i64 (.ofNat 0)), (2000000, .x 2000000)]) (sg0 := []) (fun X => thXv (v := St' pn) rfl rfl (thXv (v := .int .i64 ((z.length : Int))) rfl rfl (thCons (show Is _ (.i .i64 (.ofNat 0)) (.int .i64 ((0 : Int))) from isTo (v := .int .i64 0) (isI _ _) (by first | rfl | (congr 1; omega))) (thXv (v := rwG prC z) rfl rfl (thNil))))) (by kernel_rfl) (thx := [(2000007, .x 2000000)]) (thXv (v := rwG prC z) rfl rfl (thNil)) (by kernel_rfl)⟩) lfNil))) rfl (get_lps2 (by omega) (by omega) (get_lps2 (by omega) (by omega) (get_lps (by omega)))) fiB3 [.r 2000000 23 2 true] [⟨blk_z, base_z, z.length, es_z⟩] (run3 ) (args := [.agg #[St' pn, St' pv], .slice (some ⟨blk_z, base_z, none⟩) z.length es_z, .int .u8 be, .int .u8 bh]) ⟨_, _, rfl, ⟨_, rfl, ⟨_, _, rfl, rfl, ⟨_, _, rfl, rfl, rfl⟩⟩⟩, ⟨_, _, rfl, relSrN (by decide) rfl w_z.room, ⟨_, _, rfl, rfl, ⟨_, _, rfl, rfl, rfl⟩⟩⟩⟩ w hl rfl (by decide) ((argsCons (w_z.arg (g_z ) rfl) argsNil)) rfl
def hy4 : LK := [(.rn, .x 2000001),
  (.call 6 [.ag [.x 0, .x 1]], .b true),
  (.rl (.x 2000000) 2, .x 4),
  (.bin .gtr (.x 4) (.i .i64 (.ofNat 20)), .b false),
  (.bin .add (.x 0) (.s 2 8250), .x 5),
  (.bin .add (.x 5) (.x 1), .x 6),
  (.bin .add (.x 6) (.s 2 2573), .x 7),
  (.byt (.x 7) (.i .i64 (.ofNat 0)), .x 8),
  (.fit (.x 7), .b true),
  (.len (.x 7), .x 9),
  (.bin .add (.x 0) (.s 1 58), .x 12),
  (.bin .add (.x 12) (.x 10), .x 13),
  (.bin .add (.x 13) (.x 1), .x 14),
  (.bin .add (.x 14) (.x 11), .x 15),
  (.bin .eql (.s 1 58) (.x 15), .b false),
  (.ext 77 [.x 15, .i .u8 (.ofNat 58)], .x 16),
  (.bin .geq (.x 16) (.i .i64 (.ofNat 0)), .b true),
  (.sub (.x 15) none (some (.x 16)), .x 17),
  (.bin .add (.x 16) (.i .i64 (.ofNat 1)), .x 18),
  (.sub (.x 15) (some (.x 18)) none, .x 19),
  (.call 40 [.x 19, .s 2 2336], .x 20),
  (.call 38 [.x 17], .b true),
  (.call 39 [.x 20], .b true),
  (.len (.x 17), .x 21),
  (.bin .gtr (.x 21) (.i .i64 (.ofNat 64)), .b false),
  (.len (.x 20), .x 22),
  (.bin .gtr (.x 22) (.i .i64 (.ofNat 512)), .b false),
  (.bin .lss (.x 9) (.i .i64 (.ofNat 2)), .b false),
  (.bin .sub (.x 9) (.i .i64 (.ofNat 2)), .x 23),
  (.sub (.x 7) none (some (.x 23)), .x 24),
  (.bin .eql (.s 1 58) (.x 24), .b false),
  (.ext 77 [.x 24, .i .u8 (.ofNat 58)], .x 25),
  (.bin .geq (.x 25) (.i .i64 (.ofNat 0)), .b true),
  (.sub (.x 24) none (some (.x 25)), .x 26),
  (.bin .add (.x 25) (.i .i64 (.ofNat 1)), .x 27),
  (.sub (.x 24) (some (.x 27)) none, .x 28),
  (.call 40 [.x 28, .s 2 2336], .x 29),
  (.call 38 [.x 26], .b true),
  (.call 39 [.x 29], .b true),
  (.len (.x 26), .x 30),
  (.bin .gtr (.x 30) (.i .i64 (.ofNat 64)), .b false),
  (.len (.x 29), .x 31),
  (.bin .gtr (.x 31) (.i .i64 (.ofNat 512)), .b false),
  (.bin .gtr (.x 4) (.i .i64 (.ofNat 0)), .b true),
  (.rr (.x 2000001) (.x 2000000), .x 2000002),
  (.rf (.x 2000002) 2 32, .b true),
  (.ra (.x 2000002) [.x 0, .x 1], .x 2000003),
  (.rf (.x 2000003) 2 32, .b true),
  (.rl (.x 2000003) 2, .x 32),
  (.eq 9 (.x 17) (.x 0), .b true),
  (.eq 9 (.x 20) (.x 1), .b true),
  (.eq 9 (.x 26) (.x 0), .b true),
  (.eq 9 (.x 29) (.x 1), .b true),
  (.rl (.x 2000006) 1, .x 33),
  (.bin .sub (.x 4) (.x 33), .x 34),
  (.bin .eql (.i .i64 (.ofNat 0)) (.x 34), .b true)]
def lh24 : LH := ⟨4, 24, 24, [], []⟩
def lf24 : LF := ⟨8, 121, [(2, .x 2), (10, .s 0 0), (12, .i .i64 (.ofNat 0))], [0, 1, 3, 4, 8, 9, 11], (.exit 0), [(10, .x 10)], some lh24⟩
def lh25 : LH := ⟨4, 44, 44, [], []⟩
def lf25 : LF := ⟨12, 121, [(3, .x 3), (11, .s 0 0), (13, .i .i64 (.ofNat 0))], [0, 1, 4, 8, 9, 10], (.exit 2), [(11, .x 11)], some lh25⟩
def lh26 : LH := ⟨4, 65, 105, [(54, .r 2000003 23 2 false)], [(54, .r 2000004 23 2 false)]⟩
def lf26 : LF := ⟨3, 25, [(1, .x 0), (5, .nils), (8, .sr 54), (9, .x 32), (10, .i .i64 (.ofNat 0))], [], (.exit 0), [(5, .nils)], some lh26⟩
def lh27 : LH := ⟨4, 105, 105, [], []⟩
def lf27 : LF := ⟨3, 25, [(5, .nils), (8, .nils), (9, .i .i64 (.ofNat 0)), (10, .i .i64 (.ofNat 0))], [], (.exit 0), [(5, .nils)], some lh27⟩
def lh28 : LH := ⟨4, 115, 155, [(4, .r 2000000 23 2 true)], [(4, .r 2000005 23 2 true), (115, .r 2000006 9 1 false)]⟩
def lf28 : LF := ⟨3, 25, [(1, .x 0), (5, .nils), (8, .sr 4), (9, .x 4), (10, .i .i64 (.ofNat 0))], [], (.exit 0), [(5, .sr 115)], some lh28⟩
noncomputable def tab4 : Tab := addLps (addLps (addLps ({ tabk with hyp := hy4 }) 3 fi3 [lf24, lf25]) 9 fi9 [lf26]) 10 fi10 [lf27, lf28]
theorem run4 : Go.AX.okB (call tab4 9000 3 [.ag [.x 0, .x 1], .sr 4, .x 2, .x 3] ⟨addR 4 [.r 2000000 23 2 true] (H0 ), 4 + List.length (α := Ent) [.r 2000000 23 2 true], 0, 0⟩) = true := by kernel_rfl
def nu4 (pn : LB) (pv : LB) (blk_z : Nat) (base_z : Nat) (es_z : Nat) (z : List (LB × LB)) (be : Int) (bh : Int) : List Value := [St' pn,
  St' pv,
  .int .u8 (be),
  .int .u8 (bh),
  .int .i64 ((z.length : Int)),
  St' (pn ++ [u8 58, u8 32]),
  St' (pn ++ ([u8 58, u8 32] ++ pv)),
  St' (pn ++ ([u8 58, u8 32] ++ (pv ++ [u8 13, u8 10]))),
  .int .u8 (bt (pn ++ ([u8 58, u8 32] ++ (pv ++ [u8 13, u8 10]))) 0),
  .int .i64 ((pn.length : Int) + (pv.length : Int) + 4),
  St' (List.replicate (Int.toNat (be % 5)) (u8 32)),
  St' (List.replicate (Int.toNat (bh % 5)) (u8 9)),
  St' (pn ++ [u8 58]),
  St' (pn ++ ([u8 58] ++ (List.replicate (Int.toNat (be % 5)) (u8 32)))),
  St' (pn ++ ([u8 58] ++ ((List.replicate (Int.toNat (be % 5)) (u8 32)) ++ pv))),
  St' (pn ++ ([u8 58] ++ ((List.replicate (Int.toNat (be % 5)) (u8 32)) ++ (pv ++ (List.replicate (Int.toNat (bh % 5)) (u8 9)))))),
  .int .i64 ((pn.length : Int)),
  St' pn,
  .int .i64 ((pn.length : Int) + 1),
  St' ((List.replicate (Int.toNat (be % 5)) (u8 32)) ++ (pv ++ (List.replicate (Int.toNat (bh % 5)) (u8 9)))),
  St' pv,
  .int .i64 ((pn.length : Int)),
  .int .i64 ((pv.length : Int)),
  .int .i64 ((pn.length : Int) + (pv.length : Int) + 2),
  St' (pn ++ ([u8 58, u8 32] ++ pv)),
  .int .i64 ((pn.length : Int)),
  St' pn,
  .int .i64 ((pn.length : Int) + 1),
  St' ([u8 32] ++ pv),
  St' pv,
  .int .i64 ((pn.length : Int)),
  .int .i64 ((pv.length : Int)),
  .int .i64 ((z.length : Int) + 1),
  .int .i64 (((getS pn z).length : Int)),
  .int .i64 ((z.length : Int) - ((getS pn z).length : Int))]
def ro4 (pn : LB) (pv : LB) (blk_z : Nat) (base_z : Nat) (es_z : Nat) (z : List (LB × LB)) (be : Int) (bh : Int) : List Value := [rwG prC z,
  rwS ([] : List LB),
  rwG prC z,
  rwG prC (z ++ [(pn, pv)]),
  rwG prC (z ++ [(pn, pv)]),
  rwG prC z,
  rwS (getS pn z)]
theorem on4 (pn : LB) (pv : LB) (blk_z : Nat) (base_z : Nat) (es_z : Nat) (z : List (LB × LB)) (be : Int) (bh : Int) : ∀ j, (nuL (nu4 pn pv blk_z base_z es_z z be bh) j).oneCell' = true := nuL_one (l := nu4 pn pv blk_z base_z es_z z be bh) rfl
theorem path4 (pn : LB) (pv : LB) (blk_z : Nat) (base_z : Nat) (es_z : Nat) (z : List (LB × LB)) (be : Int) (bh : Int) (b0 : pn.length ≤ 140737488351232) (b1 : pv.length ≤ 140737488351232) (b2 : ∀ n, n ∈ z → prB n) (b3 : ∀ q, q ∈ z → q.1.length ≤ 140737488351232) (b4 : ∀ q, q ∈ z → q.2.length ≤ 140737488351232) (b5 : z.length ≤ 9223372036854775807) (b6 : 0 ≤ be) (b7 : be ≤ 255) (b8 : 0 ≤ bh) (b9 : bh ≤ 255) (h0 : isF pn pv = true) (h1 : ¬ (20 < (z.length : Int))) (h13 : 0 < (z.length : Int)) (h14 : (dropS pn z).length = 0) (w : World) (hl : laidE w) (w_z : InRow w 2 (z.flatMap prC) blk_z base_z z.length es_z) (g_z : (H0 ).get blk_z = none) : CwR 3 #[.agg #[St' pn, St' pv], .slice (some ⟨blk_z, base_z, none⟩) z.length es_z, .int .u8 be, .int .u8 bh] w (.bool true) := by
  obtain ⟨htk, hvs, hln, hlv, htr⟩ := isF_inv (a := pn) (v := pv) (by assumption)
  have hpl := tok_pos htk
  have := bt_lo (pn ++ ([u8 58, u8 32] ++ (pv ++ [u8 13, u8 10]))) 0; have := bt_hi (pn ++ ([u8 58, u8 32] ++ (pv ++ [u8 13, u8 10]))) 0
  have hpA1 : ∀ q, q ∈ z → prB q := by assumption
  have hpB1 : ∀ q, q ∈ z → q.1.length ≤ 140737488351232 := by assumption
  have hpA0 : ∀ q, q ∈ (z ++ [(pn, pv)]) → prB q := fun q hq => by
      rcases List.mem_append.1 hq with hq | hq
      · exact hpA1 q hq
      · rw [List.mem_singleton.1 hq]; exact ⟨by show (pn).length ≤ _; omega, by show (pv).length ≤ _; omega⟩
  have hpB0 : ∀ q, q ∈ (z ++ [(pn, pv)]) → q.1.length ≤ 140737488351232 := fun q hq => by
      rcases List.mem_append.1 hq with hq | hq
      · exact hpB1 q hq
      · rw [List.mem_singleton.1 hq]; show (pn).length ≤ _; omega
  have hzl0 : ((z ++ [(pn, pv)])).length = (z).length + 1 := List.length_append ..
  have hdl := dropS_len pn z
  have hdg := dg_len pn z
  have hpA2 : ∀ q, q ∈ z → prB q := by assumption
  have hpB2 : ∀ q, q ∈ z → q.1.length ≤ 140737488351232 := by assumption
  have hgl := getS_len pn z
  have ho : ∀ k r, (k, r) ∈ hy4 → HOk (cx (nuX (nu4 pn pv blk_z base_z es_z z be bh) (rX (ro4 pn pv blk_z base_z es_z z be bh) (fun _ => .bool true))) (nuX_one (on4 pn pv blk_z base_z es_z z be bh)) 0 laidE laidE_stab) k r := by
    unfold hy4
    exact hc (kRn (denX rfl)) <|
     hc (hokIsA (a := pn) (v := pv) (isAg2 (isX rfl) (isX rfl)) (denBT (by assumption)) (by omega) (by omega)) <|
     hc (kRlG prC_len (isX rfl) (denX rfl) (by first | omega | (simp <;> omega))) <|
     hc (gtcF rfl (by omega)) <|
     hc (kCat (isX rfl) (isSx (l := [u8 58, u8 32]) 2 8250 rfl) (denX rfl) (by first | rfl | (simp; done)) (by first | omega | (simp <;> omega))) <|
     hc (kCat (isX rfl) (isX rfl) (denX rfl) (by first | rfl | (simp; done)) (by first | omega | (simp <;> omega))) <|
     hc (kCat (isX rfl) (isSx (l := [u8 13, u8 10]) 2 2573 rfl) (denX rfl) (by first | rfl | (simp; done)) (by first | omega | (simp <;> omega))) <|
     hc (kByt (i := 0) (isX rfl) (isZ (m := 0) rfl) (denX rfl) rfl (by first | omega | (simp <;> omega)) rfl) <|
     hc (kFit (isX rfl) (by first | omega | (simp <;> omega))) <|
     hc (lnV rfl rfl (by first | omega | (simp <;> omega))) <|
     hc (kCat (isX rfl) (isSx (l := [u8 58]) 1 58 rfl) (denX rfl) (by first | rfl | (simp; done)) (by first | omega | (simp <;> omega))) <|
     hc (kCat (isX rfl) (isX rfl) (denX rfl) (by first | rfl | (simp; done)) (by first | omega | (simp <;> omega))) <|
     hc (kCat (isX rfl) (isX rfl) (denX rfl) (by first | rfl | (simp; done)) (by first | omega | (simp <;> omega))) <|
     hc (kCat (isX rfl) (isX rfl) (denX rfl) (by first | rfl | (simp; done)) (by first | omega | (simp <;> omega))) <|
     hc (kEqS (isSx (l := [u8 58]) 1 58 rfl) (isX rfl) (neLen (by first | omega | (simp <;> omega)))) <|
     hc (kExtI (n := (pn.length : Int)) exF77 exA77 exB77 (isX rfl) (isZ (m := 58) rfl) (denX rfl) (idx_tok htk)) <|
     hc (gecT rfl (by omega)) <|
     hc (kCut (isX rfl) (.inl ⟨rfl, rfl⟩) (.inr ⟨_, _, rfl, (isX rfl)⟩) (p := ([] : LB)) (m := pn) (q := ([u8 58] ++ ((List.replicate (Int.toNat (be % 5)) (u8 32)) ++ (pv ++ (List.replicate (Int.toNat (bh % 5)) (u8 9)))))) (by first | rfl | (simp; done)) (by first | omega | (simp <;> omega)) (by first | omega | (simp <;> omega)) (denX rfl)) <|
     hc (adC rfl rfl (by omega)) <|
     hc (kCut (isX rfl) (.inr ⟨_, _, rfl, (isX rfl)⟩) (.inl ⟨rfl, rfl⟩) (p := (pn ++ [u8 58])) (m := ((List.replicate (Int.toNat (be % 5)) (u8 32)) ++ (pv ++ (List.replicate (Int.toNat (bh % 5)) (u8 9))))) (q := ([] : LB)) (by first | rfl | (simp; done)) (by first | omega | (simp <;> omega)) (by first | omega | (simp <;> omega)) (denX rfl)) <|
     hc (hokTrim (s := ((List.replicate (Int.toNat (be % 5)) (u8 32)) ++ (pv ++ (List.replicate (Int.toNat (bh % 5)) (u8 9))))) (isX rfl) (isSx (l := [u8 32, u8 9]) 2 2336 rfl) (denX (congrArg (fun l => St' l) (Eq.symm ((trSQ _).trans (trQ_pad (a := (List.replicate (Int.toNat (be % 5)) (u8 32))) (v := pv) (z := (List.replicate (Int.toNat (bh % 5)) (u8 9))) htr (by first | rfl | exact al_rep rfl | exact al_nil) (by first | rfl | exact al_rep rfl | exact al_nil) (by first | rfl | (simp; done))))))) (by first | omega | (simp only [List.length_append, List.length_cons, List.length_nil, List.length_replicate]; omega)) (by first | omega | (simp only [List.length_append, List.length_cons, List.length_nil, List.length_replicate]; omega))) <|
     hc (hokTokA (s := pn) (isX rfl) (denBT (by assumption)) (by first | omega | (simp only [List.length_append, List.length_cons, List.length_nil, List.length_replicate]; omega)) (by first | omega | (simp only [List.length_append, List.length_cons, List.length_nil, List.length_replicate]; omega))) <|
     hc (hokVisible (s := pv) (isX rfl) (denBT (by assumption)) (by first | omega | (simp only [List.length_append, List.length_cons, List.length_nil, List.length_replicate]; omega)) (by first | omega | (simp only [List.length_append, List.length_cons, List.length_nil, List.length_replicate]; omega))) <|
     hc (lnV rfl rfl (by omega)) <|
     hc (gtcF rfl (by omega)) <|
     hc (lnV rfl rfl (by omega)) <|
     hc (gtcF rfl (by omega)) <|
     hc (ltcF rfl (by omega)) <|
     hc (sbC rfl rfl (by omega)) <|
     hc (kCut (isX rfl) (.inl ⟨rfl, rfl⟩) (.inr ⟨_, _, rfl, (isX rfl)⟩) (p := ([] : LB)) (m := (pn ++ ([u8 58, u8 32] ++ pv))) (q := [u8 13, u8 10]) (by first | rfl | (simp; done)) (by first | omega | (simp <;> omega)) (by first | omega | (simp <;> omega)) (denX rfl)) <|
     hc (kEqS (isSx (l := [u8 58]) 1 58 rfl) (isX rfl) (neLen (by first | omega | (simp <;> omega)))) <|
     hc (kExtI (n := (pn.length : Int)) exF77 exA77 exB77 (isX rfl) (isZ (m := 58) rfl) (denX rfl) (idx_tok htk)) <|
     hc (gecT rfl (by omega)) <|
     hc (kCut (isX rfl) (.inl ⟨rfl, rfl⟩) (.inr ⟨_, _, rfl, (isX rfl)⟩) (p := ([] : LB)) (m := pn) (q := ([u8 58, u8 32] ++ pv)) (by first | rfl | (simp; done)) (by first | omega | (simp <;> omega)) (by first | omega | (simp <;> omega)) (denX rfl)) <|
     hc (adC rfl rfl (by omega)) <|
     hc (kCut (isX rfl) (.inr ⟨_, _, rfl, (isX rfl)⟩) (.inl ⟨rfl, rfl⟩) (p := (pn ++ [u8 58])) (m := ([u8 32] ++ pv)) (q := ([] : LB)) (by first | rfl | (simp; done)) (by first | omega | (simp <;> omega)) (by first | omega | (simp <;> omega)) (denX rfl)) <|
     hc (hokTrim (s := ([u8 32] ++ pv)) (isX rfl) (isSx (l := [u8 32, u8 9]) 2 2336 rfl) (denX (congrArg (fun l => St' l) (Eq.symm ((trSQ _).trans (trQ_pad (a := [u8 32]) (v := pv) (z := ([] : LB)) htr (by first | rfl | exact al_rep rfl | exact al_nil) (by first | rfl | exact al_rep rfl | exact al_nil) (by first | rfl | (simp; done))))))) (by first | omega | (simp only [List.length_append, List.length_cons, List.length_nil, List.length_replicate]; omega)) (by first | omega | (simp only [List.length_append, List.length_cons, List.length_nil, List.length_replicate]; omega))) <|
     hc (hokTokA (s := pn) (isX rfl) (denBT (by assumption)) (by first | omega | (simp only [List.length_append, List.length_cons, List.length_nil, List.length_replicate]; omega)) (by first | omega | (simp only [List.length_append, List.length_cons, List.length_nil, List.length_replicate]; omega))) <|
     hc (hokVisible (s := pv) (isX rfl) (denBT (by assumption)) (by first | omega | (simp only [List.length_append, List.length_cons, List.length_nil, List.length_replicate]; omega)) (by first | omega | (simp only [List.length_append, List.length_cons, List.length_nil, List.length_replicate]; omega))) <|
     hc (lnV rfl rfl (by omega)) <|
     hc (gtcF rfl (by omega)) <|
     hc (lnV rfl rfl (by omega)) <|
     hc (gtcF rfl (by omega)) <|
     hc (gtcT rfl (by omega)) <|
     hc (kRr (f := prC) (l := []) (m := z) (isX rfl) (isX rfl) (denX rfl)) <|
     hc (kRfG prC_len (isX rfl) (by first | omega | (simp <;> omega)) (by first | omega | (simp <;> omega))) <|
     hc (kRaG (f := prC) (l := z) (a := (pn, pv)) (isX rfl) (isL2 (isX rfl) (isX rfl)) (denX rfl)) <|
     hc (kRfG prC_len (isX rfl) (by first | omega | (simp <;> omega)) (by first | omega | (simp <;> omega))) <|
     hc (kRlG prC_len (isX rfl) (denX rfl) (by first | omega | (simp <;> omega))) <|
     hc (kEqTS (isX rfl) (isX rfl) tu9 (decide_eq_true rfl)) <|
     hc (kEqTS (isX rfl) (isX rfl) tu9 (decide_eq_true rfl)) <|
     hc (kEqTS (isX rfl) (isX rfl) tu9 (decide_eq_true rfl)) <|
     hc (kEqTS (isX rfl) (isX rfl) tu9 (decide_eq_true rfl)) <|
     hc (kRl (isX rfl) (denX rfl) (by first | omega | (simp <;> omega))) <|
     hc (sbX rfl rfl rfl (by omega)) <|
     hc (kEqI (isZ (m := 0) rfl) (isX rfl) (decide_eq_true (by omega))) <|
     hnil
  exact runPR (tb := tab4) (AllOk.lp1 (AllOk.lp1 (AllOk.lp1 ((tabkOk (nuX (nu4 pn pv blk_z base_z es_z z be bh) (rX (ro4 pn pv blk_z base_z es_z z be bh) (fun _ => .bool true))) (nuX_one (on4 pn pv blk_z base_z es_z z be bh))).hyps ho) (by omega) fi3_at fi3_body (lfCons (lpKnown rfl ⟨0, keyWa, lfOkWa_0 (l := lf24) (h := lh24) be (0, (0 : Int)) (mkIWa be 0 (0 : Int) ⟨by omega, by omega, by omega, by omega, by omega⟩) rfl (by kernel_rfl) (th0 := [(0, .x 2), (1, .s 0 0), (2, .i .i64 (.ofNat 0))]) (sg0 := []) (fun X => thXv (v := .int .u8 (be)) rfl rfl (thCons (show Is _ (.s 0 0) (St' (List.replicate (Int.toNat ((0 : Int))) (u8 32))) from isTo (v := St' ([] : LB)) (isSx (l := ([] : LB)) 0 0 rfl) (by first | rfl | (simp; done))) (thCons (show Is _ (.i .i64 (.ofNat 0)) (.int .i64 ((0 : Int))) from isTo (v := .int .i64 0) (isI _ _) (by first | rfl | (congr 1; omega))) (thNil)))) (by kernel_rfl) (thx := [(10, .x 0)]) (thXv (v := St' (List.replicate (Int.toNat (be % 5)) (u8 32))) rfl rfl (thNil)) (by kernel_rfl)⟩) (lfCons (lpKnown rfl ⟨1, keyWb, lfOkWb_0 (l := lf25) (h := lh25) bh (0, (0 : Int)) (mkIWb bh 0 (0 : Int) ⟨by omega, by omega, by omega, by omega, by omega⟩) rfl (by kernel_rfl) (th0 := [(0, .x 3), (1, .s 0 0), (2, .i .i64 (.ofNat 0))]) (sg0 := []) (fun X => thXv (v := .int .u8 (bh)) rfl rfl (thCons (show Is _ (.s 0 0) (St' (List.replicate (Int.toNat ((0 : Int))) (u8 9))) from isTo (v := St' ([] : LB)) (isSx (l := ([] : LB)) 0 0 rfl) (by first | rfl | (simp; done))) (thCons (show Is _ (.i .i64 (.ofNat 0)) (.int .i64 ((0 : Int))) from isTo (v := .int .i64 0) (isI _ _) (by first | rfl | (congr 1; omega))) (thNil)))) (by kernel_rfl) (thx := [(11, .x 0)]) (thXv (v := St' (List.replicate (Int.toNat (bh % 5)) (u8 9))) rfl rfl (thNil)) (by kernel_rfl)⟩) lfNil))) (by omega) (get_lps2 (by omega) (by omega) fi9_at) fi9_body (lfCons (lpKnown rfl ⟨0, keyDr0, lfOkDr0_0 (l := lf26) (h := lh26) (z ++ [(pn, pv)]) pn ((dropS_snoc (nm := pn) (v := pv) (z := z) rfl).trans (List.eq_nil_of_length_eq_zero (by assumption))) (0, (0 : Int), ([] : List (LB × LB))) (mkIDr0 (z ++ [(pn, pv)]) pn 0 (0 : Int) ([] : List (LB × LB)) ⟨by omega, by omega, by omega, hpA0, ⟨by omega, hpB0⟩, rfl, fun _ => rfl, fun h => by omega, by omega⟩) rfl (by kernel_rfl) (th0 := [(0, .x 0), (1, .x 32), (2, .i .i64 (.ofNat 0)), (2000000, .x 2000003)]) (sg0 := []) (fun X => thXv (v := St' pn) rfl rfl (thXe (v := .int .i64 ((z.length : Int) + 1)) (u := .int .i64 (((z ++ [(pn, pv)]).length : Int))) rfl rfl (by first | rfl | (congr 1; omega)) (thCons (show Is _ (.i .i64 (.ofNat 0)) (.int .i64 ((0 : Int))) from isTo (v := .int .i64 0) (isI _ _) (by first | rfl | (congr 1; omega))) (thXv (v := rwG prC (z ++ [(pn, pv)])) rfl rfl (thNil))))) (by kernel_rfl) (thx := [(2000004, .x 2000000)]) (thXv (v := rwG prC (z ++ [(pn, pv)])) rfl rfl (thNil)) (by kernel_rfl)⟩) lfNil)) (by omega) (get_lps2 (by omega) (by omega) (get_lps2 (by omega) (by omega) fi10_at)) fi10_body (lfCons (lpKnown rfl ⟨0, keyNlG1, lfOkNlG1_0 (l := lf27) (h := lh27) (0, (0 : Nat)) (mkINlG1 0 (0 : Nat) ⟨trivial, by omega⟩) rfl (by kernel_rfl) (th0 := []) (sg0 := []) (fun X => thNil) (by kernel_rfl) (thx := []) (thNil) (by kernel_rfl)⟩) (lfCons (lpKnown rfl ⟨0, keyGt3, lfOkGt3_1 (l := lf28) (h := lh28) z pn (by omega) (0, (0 : Int), ([] : List LB)) (mkIGt3 z pn 0 (0 : Int) ([] : List LB) ⟨by omega, by omega, by omega, hpA2, ⟨by omega, hpB2⟩, rfl, fun _ => rfl, fun h => by omega, by omega⟩) rfl (by kernel_rfl) (th0 := [(0, .x 0), (1, .x 4), (2, .i .i64 (.ofNat 0)), (2000000, .x 2000000)]) (sg0 := []) (fun X => thXv (v := St' pn) rfl rfl (thXv (v := .int .i64 ((z.length : Int))) rfl rfl (thCons (show Is _ (.i .i64 (.ofNat 0)) (.int .i64 ((0 : Int))) from isTo (v := .int .i64 0) (isI _ _) (by first | rfl | (congr 1; omega))) (thXv (v := rwG prC z) rfl rfl (thNil))))) (by kernel_rfl) (thx := [(2000005, .x 2000000), (2000006, .x 2000001)]) (thXv (v := rwG prC z) rfl rfl (thXv (v := rwS (getS pn z)) rfl rfl (thNil))) (by kernel_rfl)⟩) lfNil))) rfl (get_lps2 (by omega) (by omega) (get_lps2 (by omega) (by omega) (get_lps (by omega)))) fiB3 [.r 2000000 23 2 true] [⟨blk_z, base_z, z.length, es_z⟩] (run4 ) (args := [.agg #[St' pn, St' pv], .slice (some ⟨blk_z, base_z, none⟩) z.length es_z, .int .u8 be, .int .u8 bh]) ⟨_, _, rfl, ⟨_, rfl, ⟨_, _, rfl, rfl, ⟨_, _, rfl, rfl, rfl⟩⟩⟩, ⟨_, _, rfl, relSrN (by decide) rfl w_z.room, ⟨_, _, rfl, rfl, ⟨_, _, rfl, rfl, rfl⟩⟩⟩⟩ w hl rfl (by decide) ((argsCons (w_z.arg (g_z ) rfl) argsNil)) rfl
def hy5 : LK := [(.rn, .x 2000001),
  (.call 6 [.ag [.x 0, .x 1]], .b true),
  (.rl (.x 2000000) 2, .x 4),
  (.bin .gtr (.x 4) (.i .i64 (.ofNat 20)), .b false),
  (.bin .add (.x 0) (.s 2 8250), .x 5),
  (.bin .add (.x 5) (.x 1), .x 6),
  (.bin .add (.x 6) (.s 2 2573), .x 7),
  (.byt (.x 7) (.i .i64 (.ofNat 0)), .x 8),
  (.fit (.x 7), .b true),
  (.len (.x 7), .x 9),
  (.bin .add (.x 0) (.s 1 58), .x 12),
  (.bin .add (.x 12) (.x 10), .x 13),
  (.bin .add (.x 13) (.x 1), .x 14),
  (.bin .add (.x 14) (.x 11), .x 15),
  (.bin .eql (.s 1 58) (.x 15), .b false),
  (.ext 77 [.x 15, .i .u8 (.ofNat 58)], .x 16),
  (.bin .geq (.x 16) (.i .i64 (.ofNat 0)), .b true),
  (.sub (.x 15) none (some (.x 16)), .x 17),
  (.bin .add (.x 16) (.i .i64 (.ofNat 1)), .x 18),
  (.sub (.x 15) (some (.x 18)) none, .x 19),
  (.call 40 [.x 19, .s 2 2336], .x 20),
  (.call 38 [.x 17], .b true),
  (.call 39 [.x 20], .b true),
  (.len (.x 17), .x 21),
  (.bin .gtr (.x 21) (.i .i64 (.ofNat 64)), .b false),
  (.len (.x 20), .x 22),
  (.bin .gtr (.x 22) (.i .i64 (.ofNat 512)), .b false),
  (.bin .lss (.x 9) (.i .i64 (.ofNat 2)), .b false),
  (.bin .sub (.x 9) (.i .i64 (.ofNat 2)), .x 23),
  (.sub (.x 7) none (some (.x 23)), .x 24),
  (.bin .eql (.s 1 58) (.x 24), .b false),
  (.ext 77 [.x 24, .i .u8 (.ofNat 58)], .x 25),
  (.bin .geq (.x 25) (.i .i64 (.ofNat 0)), .b true),
  (.sub (.x 24) none (some (.x 25)), .x 26),
  (.bin .add (.x 25) (.i .i64 (.ofNat 1)), .x 27),
  (.sub (.x 24) (some (.x 27)) none, .x 28),
  (.call 40 [.x 28, .s 2 2336], .x 29),
  (.call 38 [.x 26], .b true),
  (.call 39 [.x 29], .b true),
  (.len (.x 26), .x 30),
  (.bin .gtr (.x 30) (.i .i64 (.ofNat 64)), .b false),
  (.len (.x 29), .x 31),
  (.bin .gtr (.x 31) (.i .i64 (.ofNat 512)), .b false),
  (.bin .gtr (.x 4) (.i .i64 (.ofNat 0)), .b true),
  (.rr (.x 2000001) (.x 2000000), .x 2000002),
  (.rf (.x 2000002) 2 32, .b true),
  (.ra (.x 2000002) [.x 0, .x 1], .x 2000003),
  (.rf (.x 2000003) 2 32, .b true),
  (.rl (.x 2000003) 2, .x 32),
  (.eq 9 (.x 17) (.x 0), .b true),
  (.eq 9 (.x 20) (.x 1), .b true),
  (.eq 9 (.x 26) (.x 0), .b true),
  (.eq 9 (.x 29) (.x 1), .b true),
  (.rl (.x 2000005) 2, .x 33),
  (.rl (.x 2000006) 2, .x 34),
  (.rl (.x 2000008) 1, .x 35),
  (.bin .sub (.x 4) (.x 35), .x 36),
  (.bin .eql (.x 34) (.x 36), .b true)]
def lh29 : LH := ⟨4, 24, 24, [], []⟩
def lf29 : LF := ⟨8, 121, [(2, .x 2), (10, .s 0 0), (12, .i .i64 (.ofNat 0))], [0, 1, 3, 4, 8, 9, 11], (.exit 0), [(10, .x 10)], some lh29⟩
def lh30 : LH := ⟨4, 44, 44, [], []⟩
def lf30 : LF := ⟨12, 121, [(3, .x 3), (11, .s 0 0), (13, .i .i64 (.ofNat 0))], [0, 1, 4, 8, 9, 10], (.exit 2), [(11, .x 11)], some lh30⟩
def lh31 : LH := ⟨4, 65, 105, [(54, .r 2000003 23 2 false)], [(54, .r 2000004 23 2 false), (65, .r 2000005 23 2 false)]⟩
def lf31 : LF := ⟨3, 25, [(1, .x 0), (5, .nils), (8, .sr 54), (9, .x 32), (10, .i .i64 (.ofNat 0))], [], (.exit 0), [(5, .sr 65)], some lh31⟩
def lh32 : LH := ⟨4, 115, 155, [(65, .r 2000005 23 2 false)], [(65, .r 2000006 23 2 false)]⟩
def lf32 : LF := ⟨3, 25, [(1, .x 0), (5, .nils), (8, .sr 65), (9, .x 33), (10, .i .i64 (.ofNat 0))], [], (.exit 0), [(5, .nils)], some lh32⟩
def lh33 : LH := ⟨4, 165, 205, [(4, .r 2000000 23 2 true)], [(4, .r 2000007 23 2 true), (165, .r 2000008 9 1 false)]⟩
def lf33 : LF := ⟨3, 25, [(1, .x 0), (5, .nils), (8, .sr 4), (9, .x 4), (10, .i .i64 (.ofNat 0))], [], (.exit 0), [(5, .sr 165)], some lh33⟩
noncomputable def tab5 : Tab := addLps (addLps (addLps ({ tabk with hyp := hy5 }) 3 fi3 [lf29, lf30]) 9 fi9 [lf31]) 10 fi10 [lf32, lf33]
theorem run5 : Go.AX.okB (call tab5 9000 3 [.ag [.x 0, .x 1], .sr 4, .x 2, .x 3] ⟨addR 4 [.r 2000000 23 2 true] (H0 ), 4 + List.length (α := Ent) [.r 2000000 23 2 true], 0, 0⟩) = true := by kernel_rfl
def nu5 (pn : LB) (pv : LB) (blk_z : Nat) (base_z : Nat) (es_z : Nat) (z : List (LB × LB)) (be : Int) (bh : Int) : List Value := [St' pn,
  St' pv,
  .int .u8 (be),
  .int .u8 (bh),
  .int .i64 ((z.length : Int)),
  St' (pn ++ [u8 58, u8 32]),
  St' (pn ++ ([u8 58, u8 32] ++ pv)),
  St' (pn ++ ([u8 58, u8 32] ++ (pv ++ [u8 13, u8 10]))),
  .int .u8 (bt (pn ++ ([u8 58, u8 32] ++ (pv ++ [u8 13, u8 10]))) 0),
  .int .i64 ((pn.length : Int) + (pv.length : Int) + 4),
  St' (List.replicate (Int.toNat (be % 5)) (u8 32)),
  St' (List.replicate (Int.toNat (bh % 5)) (u8 9)),
  St' (pn ++ [u8 58]),
  St' (pn ++ ([u8 58] ++ (List.replicate (Int.toNat (be % 5)) (u8 32)))),
  St' (pn ++ ([u8 58] ++ ((List.replicate (Int.toNat (be % 5)) (u8 32)) ++ pv))),
  St' (pn ++ ([u8 58] ++ ((List.replicate (Int.toNat (be % 5)) (u8 32)) ++ (pv ++ (List.replicate (Int.toNat (bh % 5)) (u8 9)))))),
  .int .i64 ((pn.length : Int)),
  St' pn,
  .int .i64 ((pn.length : Int) + 1),
  St' ((List.replicate (Int.toNat (be % 5)) (u8 32)) ++ (pv ++ (List.replicate (Int.toNat (bh % 5)) (u8 9)))),
  St' pv,
  .int .i64 ((pn.length : Int)),
  .int .i64 ((pv.length : Int)),
  .int .i64 ((pn.length : Int) + (pv.length : Int) + 2),
  St' (pn ++ ([u8 58, u8 32] ++ pv)),
  .int .i64 ((pn.length : Int)),
  St' pn,
  .int .i64 ((pn.length : Int) + 1),
  St' ([u8 32] ++ pv),
  St' pv,
  .int .i64 ((pn.length : Int)),
  .int .i64 ((pv.length : Int)),
  .int .i64 ((z.length : Int) + 1),
  .int .i64 (((dropS pn z).length : Int)),
  .int .i64 (((dropS pn z).length : Int)),
  .int .i64 (((getS pn z).length : Int)),
  .int .i64 ((z.length : Int) - ((getS pn z).length : Int))]
def ro5 (pn : LB) (pv : LB) (blk_z : Nat) (base_z : Nat) (es_z : Nat) (z : List (LB × LB)) (be : Int) (bh : Int) : List Value := [rwG prC z,
  rwS ([] : List LB),
  rwG prC z,
  rwG prC (z ++ [(pn, pv)]),
  rwG prC (z ++ [(pn, pv)]),
  rwG prC (dropS pn z),
  rwG prC (dropS pn z),
  rwG prC z,
  rwS (getS pn z)]
theorem on5 (pn : LB) (pv : LB) (blk_z : Nat) (base_z : Nat) (es_z : Nat) (z : List (LB × LB)) (be : Int) (bh : Int) : ∀ j, (nuL (nu5 pn pv blk_z base_z es_z z be bh) j).oneCell' = true := nuL_one (l := nu5 pn pv blk_z base_z es_z z be bh) rfl
theorem path5 (pn : LB) (pv : LB) (blk_z : Nat) (base_z : Nat) (es_z : Nat) (z : List (LB × LB)) (be : Int) (bh : Int) (b0 : pn.length ≤ 140737488351232) (b1 : pv.length ≤ 140737488351232) (b2 : ∀ n, n ∈ z → prB n) (b3 : ∀ q, q ∈ z → q.1.length ≤ 140737488351232) (b4 : ∀ q, q ∈ z → q.2.length ≤ 140737488351232) (b5 : z.length ≤ 9223372036854775807) (b6 : 0 ≤ be) (b7 : be ≤ 255) (b8 : 0 ≤ bh) (b9 : bh ≤ 255) (h0 : isF pn pv = true) (h1 : ¬ (20 < (z.length : Int))) (h13 : 0 < (z.length : Int)) (h14 : ¬ ((dropS pn z).length = 0)) (h15 : ¬ ((getS pn z).length = 0)) (w : World) (hl : laidE w) (w_z : InRow w 2 (z.flatMap prC) blk_z base_z z.length es_z) (g_z : (H0 ).get blk_z = none) : CwR 3 #[.agg #[St' pn, St' pv], .slice (some ⟨blk_z, base_z, none⟩) z.length es_z, .int .u8 be, .int .u8 bh] w (.bool true) := by
  obtain ⟨htk, hvs, hln, hlv, htr⟩ := isF_inv (a := pn) (v := pv) (by assumption)
  have hpl := tok_pos htk
  have := bt_lo (pn ++ ([u8 58, u8 32] ++ (pv ++ [u8 13, u8 10]))) 0; have := bt_hi (pn ++ ([u8 58, u8 32] ++ (pv ++ [u8 13, u8 10]))) 0
  have hpA1 : ∀ q, q ∈ z → prB q := by assumption
  have hpB1 : ∀ q, q ∈ z → q.1.length ≤ 140737488351232 := by assumption
  have hpA0 : ∀ q, q ∈ (z ++ [(pn, pv)]) → prB q := fun q hq => by
      rcases List.mem_append.1 hq with hq | hq
      · exact hpA1 q hq
      · rw [List.mem_singleton.1 hq]; exact ⟨by show (pn).length ≤ _; omega, by show (pv).length ≤ _; omega⟩
  have hpB0 : ∀ q, q ∈ (z ++ [(pn, pv)]) → q.1.length ≤ 140737488351232 := fun q hq => by
      rcases List.mem_append.1 hq with hq | hq
      · exact hpB1 q hq
      · rw [List.mem_singleton.1 hq]; show (pn).length ≤ _; omega
  have hzl0 : ((z ++ [(pn, pv)])).length = (z).length + 1 := List.length_append ..
  have hdl := dropS_len pn z
  have hdg := dg_len pn z
  have hpA2 : ∀ q, q ∈ (dropS pn z) → prB q := fun q hq => hpA1 q (dropS_mem hq)
  have hpB2 : ∀ q, q ∈ (dropS pn z) → q.1.length ≤ 140737488351232 := fun q hq => hpB1 q (dropS_mem hq)
  have hpA3 : ∀ q, q ∈ z → prB q := by assumption
  have hpB3 : ∀ q, q ∈ z → q.1.length ≤ 140737488351232 := by assumption
  have hgl := getS_len pn z
  have ho : ∀ k r, (k, r) ∈ hy5 → HOk (cx (nuX (nu5 pn pv blk_z base_z es_z z be bh) (rX (ro5 pn pv blk_z base_z es_z z be bh) (fun _ => .bool true))) (nuX_one (on5 pn pv blk_z base_z es_z z be bh)) 0 laidE laidE_stab) k r := by
    unfold hy5
    exact hc (kRn (denX rfl)) <|
     hc (hokIsA (a := pn) (v := pv) (isAg2 (isX rfl) (isX rfl)) (denBT (by assumption)) (by omega) (by omega)) <|
     hc (kRlG prC_len (isX rfl) (denX rfl) (by first | omega | (simp <;> omega))) <|
     hc (gtcF rfl (by omega)) <|
     hc (kCat (isX rfl) (isSx (l := [u8 58, u8 32]) 2 8250 rfl) (denX rfl) (by first | rfl | (simp; done)) (by first | omega | (simp <;> omega))) <|
     hc (kCat (isX rfl) (isX rfl) (denX rfl) (by first | rfl | (simp; done)) (by first | omega | (simp <;> omega))) <|
     hc (kCat (isX rfl) (isSx (l := [u8 13, u8 10]) 2 2573 rfl) (denX rfl) (by first | rfl | (simp; done)) (by first | omega | (simp <;> omega))) <|
     hc (kByt (i := 0) (isX rfl) (isZ (m := 0) rfl) (denX rfl) rfl (by first | omega | (simp <;> omega)) rfl) <|
     hc (kFit (isX rfl) (by first | omega | (simp <;> omega))) <|
     hc (lnV rfl rfl (by first | omega | (simp <;> omega))) <|
     hc (kCat (isX rfl) (isSx (l := [u8 58]) 1 58 rfl) (denX rfl) (by first | rfl | (simp; done)) (by first | omega | (simp <;> omega))) <|
     hc (kCat (isX rfl) (isX rfl) (denX rfl) (by first | rfl | (simp; done)) (by first | omega | (simp <;> omega))) <|
     hc (kCat (isX rfl) (isX rfl) (denX rfl) (by first | rfl | (simp; done)) (by first | omega | (simp <;> omega))) <|
     hc (kCat (isX rfl) (isX rfl) (denX rfl) (by first | rfl | (simp; done)) (by first | omega | (simp <;> omega))) <|
     hc (kEqS (isSx (l := [u8 58]) 1 58 rfl) (isX rfl) (neLen (by first | omega | (simp <;> omega)))) <|
     hc (kExtI (n := (pn.length : Int)) exF77 exA77 exB77 (isX rfl) (isZ (m := 58) rfl) (denX rfl) (idx_tok htk)) <|
     hc (gecT rfl (by omega)) <|
     hc (kCut (isX rfl) (.inl ⟨rfl, rfl⟩) (.inr ⟨_, _, rfl, (isX rfl)⟩) (p := ([] : LB)) (m := pn) (q := ([u8 58] ++ ((List.replicate (Int.toNat (be % 5)) (u8 32)) ++ (pv ++ (List.replicate (Int.toNat (bh % 5)) (u8 9)))))) (by first | rfl | (simp; done)) (by first | omega | (simp <;> omega)) (by first | omega | (simp <;> omega)) (denX rfl)) <|
     hc (adC rfl rfl (by omega)) <|
     hc (kCut (isX rfl) (.inr ⟨_, _, rfl, (isX rfl)⟩) (.inl ⟨rfl, rfl⟩) (p := (pn ++ [u8 58])) (m := ((List.replicate (Int.toNat (be % 5)) (u8 32)) ++ (pv ++ (List.replicate (Int.toNat (bh % 5)) (u8 9))))) (q := ([] : LB)) (by first | rfl | (simp; done)) (by first | omega | (simp <;> omega)) (by first | omega | (simp <;> omega)) (denX rfl)) <|
     hc (hokTrim (s := ((List.replicate (Int.toNat (be % 5)) (u8 32)) ++ (pv ++ (List.replicate (Int.toNat (bh % 5)) (u8 9))))) (isX rfl) (isSx (l := [u8 32, u8 9]) 2 2336 rfl) (denX (congrArg (fun l => St' l) (Eq.symm ((trSQ _).trans (trQ_pad (a := (List.replicate (Int.toNat (be % 5)) (u8 32))) (v := pv) (z := (List.replicate (Int.toNat (bh % 5)) (u8 9))) htr (by first | rfl | exact al_rep rfl | exact al_nil) (by first | rfl | exact al_rep rfl | exact al_nil) (by first | rfl | (simp; done))))))) (by first | omega | (simp only [List.length_append, List.length_cons, List.length_nil, List.length_replicate]; omega)) (by first | omega | (simp only [List.length_append, List.length_cons, List.length_nil, List.length_replicate]; omega))) <|
     hc (hokTokA (s := pn) (isX rfl) (denBT (by assumption)) (by first | omega | (simp only [List.length_append, List.length_cons, List.length_nil, List.length_replicate]; omega)) (by first | omega | (simp only [List.length_append, List.length_cons, List.length_nil, List.length_replicate]; omega))) <|
     hc (hokVisible (s := pv) (isX rfl) (denBT (by assumption)) (by first | omega | (simp only [List.length_append, List.length_cons, List.length_nil, List.length_replicate]; omega)) (by first | omega | (simp only [List.length_append, List.length_cons, List.length_nil, List.length_replicate]; omega))) <|
     hc (lnV rfl rfl (by omega)) <|
     hc (gtcF rfl (by omega)) <|
     hc (lnV rfl rfl (by omega)) <|
     hc (gtcF rfl (by omega)) <|
     hc (ltcF rfl (by omega)) <|
     hc (sbC rfl rfl (by omega)) <|
     hc (kCut (isX rfl) (.inl ⟨rfl, rfl⟩) (.inr ⟨_, _, rfl, (isX rfl)⟩) (p := ([] : LB)) (m := (pn ++ ([u8 58, u8 32] ++ pv))) (q := [u8 13, u8 10]) (by first | rfl | (simp; done)) (by first | omega | (simp <;> omega)) (by first | omega | (simp <;> omega)) (denX rfl)) <|
     hc (kEqS (isSx (l := [u8 58]) 1 58 rfl) (isX rfl) (neLen (by first | omega | (simp <;> omega)))) <|
     hc (kExtI (n := (pn.length : Int)) exF77 exA77 exB77 (isX rfl) (isZ (m := 58) rfl) (denX rfl) (idx_tok htk)) <|
     hc (gecT rfl (by omega)) <|
     hc (kCut (isX rfl) (.inl ⟨rfl, rfl⟩) (.inr ⟨_, _, rfl, (isX rfl)⟩) (p := ([] : LB)) (m := pn) (q := ([u8 58, u8 32] ++ pv)) (by first | rfl | (simp; done)) (by first | omega | (simp <;> omega)) (by first | omega | (simp <;> omega)) (denX rfl)) <|
     hc (adC rfl rfl (by omega)) <|
     hc (kCut (isX rfl) (.inr ⟨_, _, rfl, (isX rfl)⟩) (.inl ⟨rfl, rfl⟩) (p := (pn ++ [u8 58])) (m := ([u8 32] ++ pv)) (q := ([] : LB)) (by first | rfl | (simp; done)) (by first | omega | (simp <;> omega)) (by first | omega | (simp <;> omega)) (denX rfl)) <|
     hc (hokTrim (s := ([u8 32] ++ pv)) (isX rfl) (isSx (l := [u8 32, u8 9]) 2 2336 rfl) (denX (congrArg (fun l => St' l) (Eq.symm ((trSQ _).trans (trQ_pad (a := [u8 32]) (v := pv) (z := ([] : LB)) htr (by first | rfl | exact al_rep rfl | exact al_nil) (by first | rfl | exact al_rep rfl | exact al_nil) (by first | rfl | (simp; done))))))) (by first | omega | (simp only [List.length_append, List.length_cons, List.length_nil, List.length_replicate]; omega)) (by first | omega | (simp only [List.length_append, List.length_cons, List.length_nil, List.length_replicate]; omega))) <|
     hc (hokTokA (s := pn) (isX rfl) (denBT (by assumption)) (by first | omega | (simp only [List.length_append, List.length_cons, List.length_nil, List.length_replicate]; omega)) (by first | omega | (simp only [List.length_append, List.length_cons, List.length_nil, List.length_replicate]; omega))) <|
     hc (hokVisible (s := pv) (isX rfl) (denBT (by assumption)) (by first | omega | (simp only [List.length_append, List.length_cons, List.length_nil, List.length_replicate]; omega)) (by first | omega | (simp only [List.length_append, List.length_cons, List.length_nil, List.length_replicate]; omega))) <|
     hc (lnV rfl rfl (by omega)) <|
     hc (gtcF rfl (by omega)) <|
     hc (lnV rfl rfl (by omega)) <|
     hc (gtcF rfl (by omega)) <|
     hc (gtcT rfl (by omega)) <|
     hc (kRr (f := prC) (l := []) (m := z) (isX rfl) (isX rfl) (denX rfl)) <|
     hc (kRfG prC_len (isX rfl) (by first | omega | (simp <;> omega)) (by first | omega | (simp <;> omega))) <|
     hc (kRaG (f := prC) (l := z) (a := (pn, pv)) (isX rfl) (isL2 (isX rfl) (isX rfl)) (denX rfl)) <|
     hc (kRfG prC_len (isX rfl) (by first | omega | (simp <;> omega)) (by first | omega | (simp <;> omega))) <|
     hc (kRlG prC_len (isX rfl) (denX rfl) (by first | omega | (simp <;> omega))) <|
     hc (kEqTS (isX rfl) (isX rfl) tu9 (decide_eq_true rfl)) <|
     hc (kEqTS (isX rfl) (isX rfl) tu9 (decide_eq_true rfl)) <|
     hc (kEqTS (isX rfl) (isX rfl) tu9 (decide_eq_true rfl)) <|
     hc (kEqTS (isX rfl) (isX rfl) tu9 (decide_eq_true rfl)) <|
     hc (kRlG prC_len (isX rfl) (denX rfl) (by first | omega | (simp <;> omega))) <|
     hc (kRlG prC_len (isX rfl) (denX rfl) (by first | omega | (simp <;> omega))) <|
     hc (kRl (isX rfl) (denX rfl) (by first | omega | (simp <;> omega))) <|
     hc (sbX rfl rfl rfl (by omega)) <|
     hc (eqXT rfl rfl (by omega)) <|
     hnil
  exact runPR (tb := tab5) (AllOk.lp1 (AllOk.lp1 (AllOk.lp1 ((tabkOk (nuX (nu5 pn pv blk_z base_z es_z z be bh) (rX (ro5 pn pv blk_z base_z es_z z be bh) (fun _ => .bool true))) (nuX_one (on5 pn pv blk_z base_z es_z z be bh))).hyps ho) (by omega) fi3_at fi3_body (lfCons (lpKnown rfl ⟨0, keyWa, lfOkWa_0 (l := lf29) (h := lh29) be (0, (0 : Int)) (mkIWa be 0 (0 : Int) ⟨by omega, by omega, by omega, by omega, by omega⟩) rfl (by kernel_rfl) (th0 := [(0, .x 2), (1, .s 0 0), (2, .i .i64 (.ofNat 0))]) (sg0 := []) (fun X => thXv (v := .int .u8 (be)) rfl rfl (thCons (show Is _ (.s 0 0) (St' (List.replicate (Int.toNat ((0 : Int))) (u8 32))) from isTo (v := St' ([] : LB)) (isSx (l := ([] : LB)) 0 0 rfl) (by first | rfl | (simp; done))) (thCons (show Is _ (.i .i64 (.ofNat 0)) (.int .i64 ((0 : Int))) from isTo (v := .int .i64 0) (isI _ _) (by first | rfl | (congr 1; omega))) (thNil)))) (by kernel_rfl) (thx := [(10, .x 0)]) (thXv (v := St' (List.replicate (Int.toNat (be % 5)) (u8 32))) rfl rfl (thNil)) (by kernel_rfl)⟩) (lfCons (lpKnown rfl ⟨1, keyWb, lfOkWb_0 (l := lf30) (h := lh30) bh (0, (0 : Int)) (mkIWb bh 0 (0 : Int) ⟨by omega, by omega, by omega, by omega, by omega⟩) rfl (by kernel_rfl) (th0 := [(0, .x 3), (1, .s 0 0), (2, .i .i64 (.ofNat 0))]) (sg0 := []) (fun X => thXv (v := .int .u8 (bh)) rfl rfl (thCons (show Is _ (.s 0 0) (St' (List.replicate (Int.toNat ((0 : Int))) (u8 9))) from isTo (v := St' ([] : LB)) (isSx (l := ([] : LB)) 0 0 rfl) (by first | rfl | (simp; done))) (thCons (show Is _ (.i .i64 (.ofNat 0)) (.int .i64 ((0 : Int))) from isTo (v := .int .i64 0) (isI _ _) (by first | rfl | (congr 1; omega))) (thNil)))) (by kernel_rfl) (thx := [(11, .x 0)]) (thXv (v := St' (List.replicate (Int.toNat (bh % 5)) (u8 9))) rfl rfl (thNil)) (by kernel_rfl)⟩) lfNil))) (by omega) (get_lps2 (by omega) (by omega) fi9_at) fi9_body (lfCons (lpKnown rfl ⟨0, keyDr0, lfOkDr0_1 (l := lf31) (h := lh31) (z ++ [(pn, pv)]) pn (by rw [dropS_snoc (nm := pn) (v := pv) (z := z) rfl]; omega) (0, (0 : Int), ([] : List (LB × LB))) (mkIDr0 (z ++ [(pn, pv)]) pn 0 (0 : Int) ([] : List (LB × LB)) ⟨by omega, by omega, by omega, hpA0, ⟨by omega, hpB0⟩, rfl, fun _ => rfl, fun h => by omega, by omega⟩) rfl (by kernel_rfl) (th0 := [(0, .x 0), (1, .x 32), (2, .i .i64 (.ofNat 0)), (2000000, .x 2000003)]) (sg0 := []) (fun X => thXv (v := St' pn) rfl rfl (thXe (v := .int .i64 ((z.length : Int) + 1)) (u := .int .i64 (((z ++ [(pn, pv)]).length : Int))) rfl rfl (by first | rfl | (congr 1; omega)) (thCons (show Is _ (.i .i64 (.ofNat 0)) (.int .i64 ((0 : Int))) from isTo (v := .int .i64 0) (isI _ _) (by first | rfl | (congr 1; omega))) (thXv (v := rwG prC (z ++ [(pn, pv)])) rfl rfl (thNil))))) (by kernel_rfl) (thx := [(2000004, .x 2000000), (2000005, .x 2000001)]) (thXv (v := rwG prC (z ++ [(pn, pv)])) rfl rfl (thXe (v := rwG prC (dropS pn (z ++ [(pn, pv)]))) (u := rwG prC (dropS pn z)) rfl rfl (congrArg (rwG prC) (dropS_snoc (nm := pn) (v := pv) (z := z) rfl)) (thNil))) (by kernel_rfl)⟩) lfNil)) (by omega) (get_lps2 (by omega) (by omega) (get_lps2 (by omega) (by omega) fi10_at)) fi10_body (lfCons (lpKnown rfl ⟨0, keyGt1, lfOkGt1_0 (l := lf32) (h := lh32) (dropS pn z) pn (getS_drop _ _) (0, (0 : Int), ([] : List LB)) (mkIGt1 (dropS pn z) pn 0 (0 : Int) ([] : List LB) ⟨by omega, by omega, by omega, hpA2, ⟨by omega, hpB2⟩, rfl, fun _ => rfl, fun h => by omega, by omega⟩) rfl (by kernel_rfl) (th0 := [(0, .x 0), (1, .x 33), (2, .i .i64 (.ofNat 0)), (2000000, .x 2000005)]) (sg0 := []) (fun X => thXv (v := St' pn) rfl rfl (thXv (v := .int .i64 (((dropS pn z).length : Int))) rfl rfl (thCons (show Is _ (.i .i64 (.ofNat 0)) (.int .i64 ((0 : Int))) from isTo (v := .int .i64 0) (isI _ _) (by first | rfl | (congr 1; omega))) (thXv (v := rwG prC (dropS pn z)) rfl rfl (thNil))))) (by kernel_rfl) (thx := [(2000006, .x 2000000)]) (thXv (v := rwG prC (dropS pn z)) rfl rfl (thNil)) (by kernel_rfl)⟩) (lfCons (lpKnown rfl ⟨0, keyGt2, lfOkGt2_1 (l := lf33) (h := lh33) z pn (by omega) (0, (0 : Int), ([] : List LB)) (mkIGt2 z pn 0 (0 : Int) ([] : List LB) ⟨by omega, by omega, by omega, hpA3, ⟨by omega, hpB3⟩, rfl, fun _ => rfl, fun h => by omega, by omega⟩) rfl (by kernel_rfl) (th0 := [(0, .x 0), (1, .x 4), (2, .i .i64 (.ofNat 0)), (2000000, .x 2000000)]) (sg0 := []) (fun X => thXv (v := St' pn) rfl rfl (thXv (v := .int .i64 ((z.length : Int))) rfl rfl (thCons (show Is _ (.i .i64 (.ofNat 0)) (.int .i64 ((0 : Int))) from isTo (v := .int .i64 0) (isI _ _) (by first | rfl | (congr 1; omega))) (thXv (v := rwG prC z) rfl rfl (thNil))))) (by kernel_rfl) (thx := [(2000007, .x 2000000), (2000008, .x 2000001)]) (thXv (v := rwG prC z) rfl rfl (thXv (v := rwS (getS pn z)) rfl rfl (thNil))) (by kernel_rfl)⟩) lfNil))) rfl (get_lps2 (by omega) (by omega) (get_lps2 (by omega) (by omega) (get_lps (by omega)))) fiB3 [.r 2000000 23 2 true] [⟨blk_z, base_z, z.length, es_z⟩] (run5 ) (args := [.agg #[St' pn, St' pv], .slice (some ⟨blk_z, base_z, none⟩) z.length es_z, .int .u8 be, .int .u8 bh]) ⟨_, _, rfl, ⟨_, rfl, ⟨_, _, rfl, rfl, ⟨_, _, rfl, rfl, rfl⟩⟩⟩, ⟨_, _, rfl, relSrN (by decide) rfl w_z.room, ⟨_, _, rfl, rfl, ⟨_, _, rfl, rfl, rfl⟩⟩⟩⟩ w hl rfl (by decide) ((argsCons (w_z.arg (g_z ) rfl) argsNil)) rfl
end Go.Proofs.YtjkdkpdjmapieaaDoor.fieldBack
