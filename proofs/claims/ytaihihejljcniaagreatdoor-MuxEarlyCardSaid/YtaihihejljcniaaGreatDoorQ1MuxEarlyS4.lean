/- A part of the proof: an interpreter of the model's own code on partly known states, and that what it answers is what the program answers. No condition of its own. -/
import Derived.Test.YtaihihejljcniaaGreatDoorQ1MuxEarlyQ
set_option maxRecDepth 100000
set_option linter.unusedVariables false
set_option linter.unusedSimpArgs false
set_option maxHeartbeats 4000000
namespace Go.Proofs.YtaihihejljcniaaGreatDoor.muxEarly
open Go Go.AX Go.Proofs Go.Proofs.YtaihihejljcniaaGreatDoor
def hy20 : LK := hp3 ++ [(.byt (.x 14) (i6 0), .x 16), (.len (.x 14), .x 17), (.fit (.x 14), .b true), (.conv 3 (.x 0), .x 18), (.bin .add (.x 14) (.s 1 120), .x 19), (.len (.x 19), .x 20), (.bin .rem (.x 18) (.x 20), .x 21), (.bin .add (.x 21) (i6 1), .x 22), (.byt (.x 23) (i6 0), .x 25), (.len (.x 23), .x 26), (.fit (.x 23), .b true), (.bin .neq (.x 24) (.s 0 0), .b true), (.bin .eql (.x 24) (.s 0 0), .b false), (.len (.x 24), .x 27), (.mm false (i6 1000000) (.x 27), .x 28), (.sub (.x 24) none (some (.x 28)), .x 29), (.byt (.x 29) (i6 0), .x 30), (.fit (.x 29), .b true), (.len (.x 29), .x 31), (.sub (.x 24) (some (.x 28)) none, .x 32), (.bin .sub (i6 1000000) (.x 28), .x 33), (.bin .gtr (.x 33) (i6 0), .b true), (.bin .neq (.x 32) (.s 0 0), .b false), (.bin .add (.x 23) (.x 29), .x 34), (.bin .add (.s 0 0) (.x 34), .x 35), (.bin .add (.s 0 0) (.x 6), .x 6), (.bin .eql (.x 6) (.s 0 0), .b false), (.bin .add (.x 6) (.x 6), .x 36), (.bin .add (.x 36) (.x 9), .x 37), (.bin .eql (.x 9) (.s 0 0), .b false), (.bin .add (.x 37) (.s 0 0), .x 37)]
def lhd81 : LH := ⟨2, 100, 290, stG (.s 0 0) (.x 6) (.x 9) (.x 13) 33 31 32 59 58 3 0 ++ blD 60 0 0, stG (.x 15) (.x 6) (.x 9) (.x 13) 33 31 32 102 103 3 6 ++ blT 100 101 14⟩
def lfd81 : LF := ⟨2, 47, [(0, .p 33 0), (1, i6 1000000), (5, .p 60 0)], [], .exit 0, [(5, .p 100 0)], some lhd81⟩
def lhd82 : LH := ⟨2, 320, 510, stG (.s 0 0) (.x 6) (.x 9) (.x 13) 4 2 3 30 29 3 0 ++ blD 290 0 0, stG (.x 24) (.x 6) (.x 9) (.x 13) 4 2 3 322 323 3 6 ++ blT 320 321 23⟩
def lfd82 : LF := ⟨2, 47, [(0, .p 4 0), (1, .x 22), (5, .p 290 0)], [], .exit 0, [(5, .p 320 0)], some lhd82⟩
def lhc84 : LH := ⟨2, 1000, 1060, [(561, .b ⟨79, .l [i6 65535, .x 35, .b false], 0, 0, 0, false, false⟩)], [rowK (.x 6) (.x 9) (.x 13) (ksT 3 6)]⟩
def lfc84 : LF := ⟨5, 87, [(0, .p 561 0), (6, .nils)], [], .ret, [(4, .sl 1001 0 6 0 true), (5, i6 0)], some lhc84⟩
noncomputable def tab20 : Tab := tabU hy20 lfd81 lfd82 lfc84
theorem run20 (e : Nat) : Go.AX.okB (call tab20 9000 3 [.x 0, .x 1] ⟨H0 e , 2, 0, 0⟩) = true := by kernel_rfl
noncomputable def nu20 (n : Int) (body : Int) : List Value := pn3 n body ++ [St' (AL3 body), St' ([] : LB), .int .u8 (bt (AL3 body) 0), .int .i64 (((AL3 body).length : Int)), .int .i64 (n), St' ((AL3 body) ++ [u8 120]), .int .i64 (((AL3 body).length : Int) + 1), .int .i64 (n % (((AL3 body).length : Int) + 1)), .int .i64 ((n % (((AL3 body).length : Int) + 1)) + 1), St' (TT3 body 6 (NN3 n body)), St' (RR3 body 6 (NN3 n body)), .int .u8 (bt (TT3 body 6 (NN3 n body)) 0), .int .i64 (((TT3 body 6 (NN3 n body)).length : Int)), .int .i64 (((RR3 body 6 (NN3 n body)).length : Int)), .int .i64 (((RR3 body 6 (NN3 n body)).length : Int)), St' (RR3 body 6 (NN3 n body)), .int .u8 (bt (RR3 body 6 (NN3 n body)) 0), .int .i64 (((RR3 body 6 (NN3 n body)).length : Int)), St' ([] : LB), .int .i64 (1000000 - ((RR3 body 6 (NN3 n body)).length : Int)), St' ((TT3 body 6 (NN3 n body)) ++ (RR3 body 6 (NN3 n body))), St' ((TT3 body 6 (NN3 n body)) ++ (RR3 body 6 (NN3 n body))), St' ((List.replicate (Int.toNat (512)) 0) ++ (List.replicate (Int.toNat (512)) 0)), St' ((List.replicate (Int.toNat (512)) 0) ++ ((List.replicate (Int.toNat (512)) 0) ++ (List.replicate (Int.toNat ((body % 3000) - 1024)) 0)))]
theorem one20 (n : Int) (body : Int) : ∀ j, j < 1000000 → (nuL (nu20 n body) j).oneCell' = true := fun j _ => nuL_one (l := nu20 n body) rfl j
theorem path20 (n : Int) (body : Int) (b0 : 0 ≤ n) (b1 : n ≤ 65535) (b2 : 0 ≤ body) (b3 : body ≤ 65535) (h0 : 512 < (body % 3000)) (h1 : 512 < (body % 3000) - 512) (h2 : ¬ (512 < (body % 3000) - 1024)) (h5 : ¬ ((NN3 n body) ≤ LC3 body 1)) (h6 : ¬ ((NN3 n body) ≤ LC3 body 2)) (h7 : ¬ ((NN3 n body) ≤ LC3 body 3)) (h8 : ¬ ((NN3 n body) ≤ LC3 body 4)) (h9 : ¬ ((NN3 n body) ≤ LC3 body 5)) (h10 : ¬ ((RR3 body 6 (NN3 n body)).length = 0)) (w : World) (hl : laidE w) : CwR 3 #[.int .u16 n, .int .u16 body] w (.bool true) := by
  have hn0 : ([] : LB).length = 0 := rfl
  have hAL := al3 body (by omega)
  have := em3 n body
  have hNN : NN3 n body = (n % (((AL3 body).length : Int) + 1)) + 1 := rfl
  have hjk := jk3 body 6 (NN3 n body) (by decide) (fun _ => by show LC3 body 5 < (NN3 n body); omega) (.inr rfl)
  have hTT := tt3 body (by omega) 6 (NN3 n body) (by omega) hjk
  have ho : ∀ k r, (k, r) ∈ hy20 → HOk (cx (nuL (nu20 n body)) (one20 n body) 1 laidE laidE_stab) k r := by
    unfold hy20
    exact hc (rm3 rfl rfl (by omega)) <|
     hc (cvV tu3 rfl rfl (by omega)) <|
     hc (kZer (isX rfl) (by omega) (by omega) (denX rfl)) <|
     hc (lnR rfl rfl (by omega)) <|
     hc (gtcT rfl (by omega)) <|
     hc (rT rfl (by omega) rfl) <|
     hc (l512 rfl) <|
     hc (rD rfl rfl (by omega)) <|
     hc (lnR rfl rfl (by omega)) <|
     hc (gtcT rfl (by omega)) <|
     hc (rT rfl (by omega) rfl) <|
     hc (rD rfl rfl (by omega)) <|
     hc (lnR rfl rfl (by omega)) <|
     hc (gtcF rfl (by omega)) <|
     hc (neZ rfl (by omega)) <|
     hc (kMax (isX rfl) (isZ (m := 0) rfl) (denX rfl) (by omega)) <|
     hc (ngV rfl rfl (by omega)) <|
     hc (aG rfl rfl (by omega)) <|
     hc (byC rfl rfl (by omega)) <|
     hc (lnV rfl rfl (by omega)) <|
     hc (ftV rfl (by omega)) <|
     hc (cvV tu3 rfl rfl (by omega)) <|
     hc (c120 rfl rfl (by omega)) <|
     hc (l120 rfl rfl) <|
     hc (rmV rfl rfl rfl (by omega)) <|
     hc (adC rfl rfl (by omega)) <|
     hc (byC rfl rfl (by omega)) <|
     hc (lnV rfl rfl (by omega)) <|
     hc (ftV rfl (by omega)) <|
     hc (kNeS (isX rfl) (isSx (l := ([] : LB)) 0 0 rfl) (bnT (nilF (by omega)))) <|
     hc (kEqS (isX rfl) (isSx (l := ([] : LB)) 0 0 rfl) (nilF (by omega))) <|
     hc (lnV rfl rfl (by omega)) <|
     hc (kMin (isZ (m := 1000000) rfl) (isX rfl) (denX rfl) (by omega)) <|
     hc (kCut (isX rfl) (.inl ⟨rfl, rfl⟩) (.inr ⟨_, _, rfl, (isX rfl)⟩) (p := ([] : LB)) (m := (RR3 body 6 (NN3 n body))) (q := ([] : LB)) (by first | rfl | (simp; done)) (by omega) (by omega) (denX rfl)) <|
     hc (byC rfl rfl (by omega)) <|
     hc (ftV rfl (by omega)) <|
     hc (lnV rfl rfl (by omega)) <|
     hc (kCut (isX rfl) (.inr ⟨_, _, rfl, (isX rfl)⟩) (.inl ⟨rfl, rfl⟩) (p := (RR3 body 6 (NN3 n body))) (m := ([] : LB)) (q := ([] : LB)) (by first | rfl | (simp; done)) (by omega) (by omega) (denX rfl)) <|
     hc (kSub (isZ (m := 1000000) rfl) (isX rfl) (denX rfl) (by omega) (fI64 (by omega) (by omega))) <|
     hc (gtcT rfl (by omega)) <|
     hc (kNeS (isX rfl) (isSx (l := ([] : LB)) 0 0 rfl) (bnF (decide_eq_true rfl))) <|
     hc (ctV rfl rfl rfl (by omega)) <|
     hc (ct0 rfl rfl (by first | omega | (rw [List.length_append]; omega) | (simp <;> omega))) <|
     hc (ct0 rfl rfl (by first | omega | (rw [List.length_append]; omega) | (simp <;> omega))) <|
     hc (eqZ rfl (by omega)) <|
     hc (kCat (isX rfl) (isX rfl) (denX rfl) (by first | rfl | (simp; done)) (by first | omega | (simp <;> omega))) <|
     hc (kCat (isX rfl) (isX rfl) (denX rfl) (by first | rfl | (simp; done)) (by first | omega | (simp <;> omega))) <|
     hc (eqZ rfl (by omega)) <|
     hc (kCat (isX rfl) (isSx (l := ([] : LB)) 0 0 rfl) (denX rfl) (by first | rfl | (simp; done)) (by first | omega | (simp <;> omega))) <|
     hnil
  exact finU (nu := nuL (nu20 n body)) (one := one20 n body) rfl rfl ho run20 rfl rfl (dW3 (l := lfd81) (h := lhd81) body (by omega) rfl (by kernel_rfl) (zi := 6) (ri := 9) (pi := 13) rfl rfl rfl (sg0 := [(100, 60), (102, 59), (103, 58)]) (t := 14) (rr := 15) (by kernel_rfl) rfl rfl (by kernel_rfl)) rfl rfl (dD3 (l := lfd82) (h := lhd82) body (by omega) (NN3 n body) (by omega) (by omega) 6 hjk rfl (by kernel_rfl) (ni := 22) rfl (zi := 6) (ri := 9) (pi := 13) rfl rfl rfl (sg0 := [(320, 290), (322, 30), (323, 29)]) (t := 23) (rr := 24) (by kernel_rfl) rfl rfl (by kernel_rfl)) rfl rfl (cC3 (l := lfc84) (h := lhc84) body (by omega) 6 6 (by decide) rfl c3_6 rfl (by kernel_rfl) (xs := 35) (sg0 := [(1000, 561)]) rfl (cK3 body 6 (NN3 n body) rfl) (by kernel_rfl) (thx := [(6, .x 20), (9, .x 21), (13, .x 22)]) (thc3 rfl rfl rfl) (by kernel_rfl)) w hl
def hy21 : LK := hp3 ++ [(.byt (.x 14) (i6 0), .x 16), (.len (.x 14), .x 17), (.fit (.x 14), .b true), (.conv 3 (.x 0), .x 18), (.bin .add (.x 14) (.s 1 120), .x 19), (.len (.x 19), .x 20), (.bin .rem (.x 18) (.x 20), .x 21), (.bin .add (.x 21) (i6 1), .x 22), (.byt (.x 23) (i6 0), .x 25), (.len (.x 23), .x 26), (.fit (.x 23), .b true), (.bin .neq (.x 24) (.s 0 0), .b false), (.bin .add (.x 23) (.s 0 0), .x 27), (.bin .add (.s 0 0) (.x 27), .x 28), (.bin .add (.s 0 0) (.x 6), .x 6), (.bin .eql (.x 6) (.s 0 0), .b false), (.bin .add (.x 6) (.x 6), .x 29), (.bin .add (.x 29) (.x 9), .x 30), (.bin .eql (.x 9) (.s 0 0), .b false), (.bin .add (.x 30) (.s 0 0), .x 30)]
def lhd85 : LH := ⟨2, 100, 290, stG (.s 0 0) (.x 6) (.x 9) (.x 13) 33 31 32 59 58 3 0 ++ blD 60 0 0, stG (.x 15) (.x 6) (.x 9) (.x 13) 33 31 32 102 103 3 6 ++ blT 100 101 14⟩
def lfd85 : LF := ⟨2, 47, [(0, .p 33 0), (1, i6 1000000), (5, .p 60 0)], [], .exit 0, [(5, .p 100 0)], some lhd85⟩
def lhd86 : LH := ⟨2, 320, 510, stG (.s 0 0) (.x 6) (.x 9) (.x 13) 4 2 3 30 29 3 0 ++ blD 290 0 0, stG (.x 24) (.x 6) (.x 9) (.x 13) 4 2 3 322 323 3 6 ++ blT 320 321 23⟩
def lfd86 : LF := ⟨2, 47, [(0, .p 4 0), (1, .x 22), (5, .p 290 0)], [], .exit 0, [(5, .p 320 0)], some lhd86⟩
def lhc88 : LH := ⟨2, 1000, 1060, [(560, .b ⟨79, .l [i6 65535, .x 28, .b false], 0, 0, 0, false, false⟩)], [rowK (.x 6) (.x 9) (.x 13) (ksT 3 6)]⟩
def lfc88 : LF := ⟨5, 87, [(0, .p 560 0), (6, .nils)], [], .ret, [(4, .sl 1001 0 6 0 true), (5, i6 0)], some lhc88⟩
noncomputable def tab21 : Tab := tabU hy21 lfd85 lfd86 lfc88
theorem run21 (e : Nat) : Go.AX.okB (call tab21 9000 3 [.x 0, .x 1] ⟨H0 e , 2, 0, 0⟩) = true := by kernel_rfl
noncomputable def nu21 (n : Int) (body : Int) : List Value := pn3 n body ++ [St' (AL3 body), St' ([] : LB), .int .u8 (bt (AL3 body) 0), .int .i64 (((AL3 body).length : Int)), .int .i64 (n), St' ((AL3 body) ++ [u8 120]), .int .i64 (((AL3 body).length : Int) + 1), .int .i64 (n % (((AL3 body).length : Int) + 1)), .int .i64 ((n % (((AL3 body).length : Int) + 1)) + 1), St' (TT3 body 6 (NN3 n body)), St' (RR3 body 6 (NN3 n body)), .int .u8 (bt (TT3 body 6 (NN3 n body)) 0), .int .i64 (((TT3 body 6 (NN3 n body)).length : Int)), St' (TT3 body 6 (NN3 n body)), St' (TT3 body 6 (NN3 n body)), St' ((List.replicate (Int.toNat (512)) 0) ++ (List.replicate (Int.toNat (512)) 0)), St' ((List.replicate (Int.toNat (512)) 0) ++ ((List.replicate (Int.toNat (512)) 0) ++ (List.replicate (Int.toNat ((body % 3000) - 1024)) 0)))]
theorem one21 (n : Int) (body : Int) : ∀ j, j < 1000000 → (nuL (nu21 n body) j).oneCell' = true := fun j _ => nuL_one (l := nu21 n body) rfl j
theorem path21 (n : Int) (body : Int) (b0 : 0 ≤ n) (b1 : n ≤ 65535) (b2 : 0 ≤ body) (b3 : body ≤ 65535) (h0 : 512 < (body % 3000)) (h1 : 512 < (body % 3000) - 512) (h2 : ¬ (512 < (body % 3000) - 1024)) (h5 : ¬ ((NN3 n body) ≤ LC3 body 1)) (h6 : ¬ ((NN3 n body) ≤ LC3 body 2)) (h7 : ¬ ((NN3 n body) ≤ LC3 body 3)) (h8 : ¬ ((NN3 n body) ≤ LC3 body 4)) (h9 : ¬ ((NN3 n body) ≤ LC3 body 5)) (h10 : (RR3 body 6 (NN3 n body)).length = 0) (w : World) (hl : laidE w) : CwR 3 #[.int .u16 n, .int .u16 body] w (.bool true) := by
  have hn0 : ([] : LB).length = 0 := rfl
  have hAL := al3 body (by omega)
  have := em3 n body
  have hNN : NN3 n body = (n % (((AL3 body).length : Int) + 1)) + 1 := rfl
  have hjk := jk3 body 6 (NN3 n body) (by decide) (fun _ => by show LC3 body 5 < (NN3 n body); omega) (.inr rfl)
  have hTT := tt3 body (by omega) 6 (NN3 n body) (by omega) hjk
  have ho : ∀ k r, (k, r) ∈ hy21 → HOk (cx (nuL (nu21 n body)) (one21 n body) 1 laidE laidE_stab) k r := by
    unfold hy21
    exact hc (rm3 rfl rfl (by omega)) <|
     hc (cvV tu3 rfl rfl (by omega)) <|
     hc (kZer (isX rfl) (by omega) (by omega) (denX rfl)) <|
     hc (lnR rfl rfl (by omega)) <|
     hc (gtcT rfl (by omega)) <|
     hc (rT rfl (by omega) rfl) <|
     hc (l512 rfl) <|
     hc (rD rfl rfl (by omega)) <|
     hc (lnR rfl rfl (by omega)) <|
     hc (gtcT rfl (by omega)) <|
     hc (rT rfl (by omega) rfl) <|
     hc (rD rfl rfl (by omega)) <|
     hc (lnR rfl rfl (by omega)) <|
     hc (gtcF rfl (by omega)) <|
     hc (neZ rfl (by omega)) <|
     hc (kMax (isX rfl) (isZ (m := 0) rfl) (denX rfl) (by omega)) <|
     hc (ngV rfl rfl (by omega)) <|
     hc (aG rfl rfl (by omega)) <|
     hc (byC rfl rfl (by omega)) <|
     hc (lnV rfl rfl (by omega)) <|
     hc (ftV rfl (by omega)) <|
     hc (cvV tu3 rfl rfl (by omega)) <|
     hc (c120 rfl rfl (by omega)) <|
     hc (l120 rfl rfl) <|
     hc (rmV rfl rfl rfl (by omega)) <|
     hc (adC rfl rfl (by omega)) <|
     hc (byC rfl rfl (by omega)) <|
     hc (lnV rfl rfl (by omega)) <|
     hc (ftV rfl (by omega)) <|
     hc (kNeS (isX rfl) (isSx (l := ([] : LB)) 0 0 rfl) (bnF (nilT (by omega)))) <|
     hc (kCat (isX rfl) (isSx (l := ([] : LB)) 0 0 rfl) (denX rfl) (by first | rfl | (simp; done)) (by omega)) <|
     hc (ct0 rfl rfl (by first | omega | (rw [List.length_append]; omega) | (simp <;> omega))) <|
     hc (ct0 rfl rfl (by first | omega | (rw [List.length_append]; omega) | (simp <;> omega))) <|
     hc (eqZ rfl (by omega)) <|
     hc (kCat (isX rfl) (isX rfl) (denX rfl) (by first | rfl | (simp; done)) (by first | omega | (simp <;> omega))) <|
     hc (kCat (isX rfl) (isX rfl) (denX rfl) (by first | rfl | (simp; done)) (by first | omega | (simp <;> omega))) <|
     hc (eqZ rfl (by omega)) <|
     hc (kCat (isX rfl) (isSx (l := ([] : LB)) 0 0 rfl) (denX rfl) (by first | rfl | (simp; done)) (by first | omega | (simp <;> omega))) <|
     hnil
  exact finU (nu := nuL (nu21 n body)) (one := one21 n body) rfl rfl ho run21 rfl rfl (dW3 (l := lfd85) (h := lhd85) body (by omega) rfl (by kernel_rfl) (zi := 6) (ri := 9) (pi := 13) rfl rfl rfl (sg0 := [(100, 60), (102, 59), (103, 58)]) (t := 14) (rr := 15) (by kernel_rfl) rfl rfl (by kernel_rfl)) rfl rfl (dD3 (l := lfd86) (h := lhd86) body (by omega) (NN3 n body) (by omega) (by omega) 6 hjk rfl (by kernel_rfl) (ni := 22) rfl (zi := 6) (ri := 9) (pi := 13) rfl rfl rfl (sg0 := [(320, 290), (322, 30), (323, 29)]) (t := 23) (rr := 24) (by kernel_rfl) rfl rfl (by kernel_rfl)) rfl rfl (cC3 (l := lfc88) (h := lhc88) body (by omega) 6 6 (by decide) rfl c3_6 rfl (by kernel_rfl) (xs := 28) (sg0 := [(1000, 560)]) rfl (cO3 body 6 (NN3 n body) rfl (by assumption)) (by kernel_rfl) (thx := [(6, .x 20), (9, .x 21), (13, .x 22)]) (thc3 rfl rfl rfl) (by kernel_rfl)) w hl
def hy22 : LK := hp4 ++ [(.byt (.x 16) (i6 0), .x 18), (.len (.x 16), .x 19), (.fit (.x 16), .b true), (.conv 3 (.x 0), .x 20), (.bin .add (.x 16) (.s 1 120), .x 21), (.len (.x 21), .x 22), (.bin .rem (.x 20) (.x 22), .x 23), (.bin .add (.x 23) (i6 1), .x 24), (.byt (.x 25) (i6 0), .x 27), (.len (.x 25), .x 28), (.fit (.x 25), .b true), (.byt (.x 29) (i6 0), .x 31), (.len (.x 29), .x 32), (.fit (.x 29), .b true), (.bin .add (.x 25) (.x 29), .x 33), (.bin .add (.s 0 0) (.x 33), .x 34)]
def lhd89 : LH := ⟨2, 100, 290, stG (.s 0 0) (.x 6) (.x 11) (.x 15) 36 34 35 65 64 4 0 ++ blD 66 0 0, stG (.x 17) (.x 6) (.x 11) (.x 15) 36 34 35 102 103 4 7 ++ blT 100 101 16⟩
def lfd89 : LF := ⟨2, 47, [(0, .p 36 0), (1, i6 1000000), (5, .p 66 0)], [], .exit 0, [(5, .p 100 0)], some lhd89⟩
def lhd90 : LH := ⟨2, 320, 510, stG (.s 0 0) (.x 6) (.x 11) (.x 15) 4 2 3 33 32 4 0 ++ blD 290 0 0, stG (.x 26) (.x 6) (.x 11) (.x 15) 4 2 3 322 323 4 1 ++ blT 320 321 25⟩
def lfd90 : LF := ⟨2, 47, [(0, .p 4 0), (1, .x 24), (5, .p 290 0)], [], .exit 0, [(5, .p 320 0)], some lhd90⟩
def lhd91 : LH := ⟨2, 700, 890, stH (.x 26) (.sl 552 0 1 0 true) 322 548 0 ++ blD 561 0 0, stH (.x 30) (.sl 552 0 1 0 true) 702 703 1 ++ blT 700 701 29⟩
def lfd91 : LF := ⟨2, 47, [(0, .p 4 0), (1, i6 1000000), (5, .p 561 0)], [], .exit 0, [(5, .p 700 0)], some lhd91⟩
def lhc92 : LH := ⟨2, 1000, 1060, [(890, .b ⟨79, .l [i6 65535, .x 34, .b false], 0, 0, 0, false, false⟩)], [rowK .und .und .und (ksT 4 1)]⟩
def lfc92 : LF := ⟨5, 87, [(0, .p 890 0), (6, .nils)], [], .ret, [(4, .sl 1001 0 2 0 true), (5, i6 0)], some lhc92⟩
noncomputable def tab22 : Tab := tabQ hy22 lfd89 lfd90 lfd91 lfc92
theorem run22 (e : Nat) : Go.AX.okB (call tab22 9000 3 [.x 0, .x 1] ⟨H0 e , 2, 0, 0⟩) = true := by kernel_rfl
noncomputable def nu22 (n : Int) (body : Int) : List Value := pn4 n body ++ [St' (AL4 body), St' ([] : LB), .int .u8 (bt (AL4 body) 0), .int .i64 (((AL4 body).length : Int)), .int .i64 (n), St' ((AL4 body) ++ [u8 120]), .int .i64 (((AL4 body).length : Int) + 1), .int .i64 (n % (((AL4 body).length : Int) + 1)), .int .i64 ((n % (((AL4 body).length : Int) + 1)) + 1), St' (TT4 body 1 (NN4 n body)), St' (RR4 body 1 (NN4 n body)), .int .u8 (bt (TT4 body 1 (NN4 n body)) 0), .int .i64 (((TT4 body 1 (NN4 n body)).length : Int)), St' ((RR4 body 1 (NN4 n body)) ++ abS), St' ([] : LB), .int .u8 (bt ((RR4 body 1 (NN4 n body)) ++ abS) 0), .int .i64 ((((RR4 body 1 (NN4 n body)) ++ abS).length : Int)), St' ((TT4 body 1 (NN4 n body)) ++ ((RR4 body 1 (NN4 n body)) ++ abS)), St' ((TT4 body 1 (NN4 n body)) ++ ((RR4 body 1 (NN4 n body)) ++ abS))]
theorem one22 (n : Int) (body : Int) : ∀ j, j < 1000000 → (nuL (nu22 n body) j).oneCell' = true := fun j _ => nuL_one (l := nu22 n body) rfl j
theorem path22 (n : Int) (body : Int) (b0 : 0 ≤ n) (b1 : n ≤ 65535) (b2 : 0 ≤ body) (b3 : body ≤ 65535) (h0 : 512 < (body % 3000)) (h1 : 512 < (body % 3000) - 512) (h2 : 512 < (body % 3000) - 1024) (h3 : ¬ (512 < (body % 3000) - 1536)) (h6 : (NN4 n body) ≤ LC4 body 1) (w : World) (hl : laidE w) : CwR 3 #[.int .u16 n, .int .u16 body] w (.bool true) := by
  have hn0 : ([] : LB).length = 0 := rfl
  have hAL := al4 body (by omega)
  have := em4 n body
  have hNN : NN4 n body = (n % (((AL4 body).length : Int) + 1)) + 1 := rfl
  have hL0 := lc4 body
  have hjk := jk4 body 1 (NN4 n body) (by decide) (fun _ => by show LC4 body 0 < (NN4 n body); omega) (.inl (by assumption))
  have hTT := tt4 body (by omega) 1 (NN4 n body) (by omega) hjk
  have ho : ∀ k r, (k, r) ∈ hy22 → HOk (cx (nuL (nu22 n body)) (one22 n body) 1 laidE laidE_stab) k r := by
    unfold hy22
    exact hc (rm3 rfl rfl (by omega)) <|
     hc (cvV tu3 rfl rfl (by omega)) <|
     hc (kZer (isX rfl) (by omega) (by omega) (denX rfl)) <|
     hc (lnR rfl rfl (by omega)) <|
     hc (gtcT rfl (by omega)) <|
     hc (rT rfl (by omega) rfl) <|
     hc (l512 rfl) <|
     hc (rD rfl rfl (by omega)) <|
     hc (lnR rfl rfl (by omega)) <|
     hc (gtcT rfl (by omega)) <|
     hc (rT rfl (by omega) rfl) <|
     hc (rD rfl rfl (by omega)) <|
     hc (lnR rfl rfl (by omega)) <|
     hc (gtcT rfl (by omega)) <|
     hc (rT rfl (by omega) rfl) <|
     hc (rD rfl rfl (by omega)) <|
     hc (lnR rfl rfl (by omega)) <|
     hc (gtcF rfl (by omega)) <|
     hc (neZ rfl (by omega)) <|
     hc (kMax (isX rfl) (isZ (m := 0) rfl) (denX rfl) (by omega)) <|
     hc (ngV rfl rfl (by omega)) <|
     hc (aG rfl rfl (by omega)) <|
     hc (byC rfl rfl (by omega)) <|
     hc (lnV rfl rfl (by omega)) <|
     hc (ftV rfl (by omega)) <|
     hc (cvV tu3 rfl rfl (by omega)) <|
     hc (c120 rfl rfl (by omega)) <|
     hc (l120 rfl rfl) <|
     hc (rmV rfl rfl rfl (by omega)) <|
     hc (adC rfl rfl (by omega)) <|
     hc (byC rfl rfl (by omega)) <|
     hc (lnV rfl rfl (by omega)) <|
     hc (ftV rfl (by omega)) <|
     hc (byC rfl rfl (by omega)) <|
     hc (lnV rfl rfl (by omega)) <|
     hc (ftV rfl (by omega)) <|
     hc (ctV rfl rfl rfl (by omega)) <|
     hc (ct0 rfl rfl (by first | omega | (rw [List.length_append]; omega) | (simp <;> omega))) <|
     hnil
  exact finQ (nu := nuL (nu22 n body)) (one := one22 n body) rfl rfl ho run22 rfl rfl (dW4 (l := lfd89) (h := lhd89) body (by omega) rfl (by kernel_rfl) (zi := 6) (ri := 11) (pi := 15) rfl rfl rfl (sg0 := [(100, 66), (102, 65), (103, 64)]) (t := 16) (rr := 17) (by kernel_rfl) rfl rfl (by kernel_rfl)) rfl rfl (dD4 (l := lfd90) (h := lhd90) body (by omega) (NN4 n body) (by omega) (by omega) 1 hjk rfl (by kernel_rfl) (ni := 24) rfl (zi := 6) (ri := 11) (pi := 15) rfl rfl rfl (sg0 := [(320, 290), (322, 33), (323, 32)]) (t := 25) (rr := 26) (by kernel_rfl) rfl rfl (by kernel_rfl)) rfl rfl (dF (l := lfd91) (h := lhd91) (RR4 body 1 (NN4 n body)) (by omega) rfl (by kernel_rfl) (ri := 26) (t := 29) (rr := 30) (sg0 := [(700, 561), (702, 322), (703, 548)]) rfl (by kernel_rfl) rfl rfl (by kernel_rfl)) rfl rfl (cC4 (l := lfc92) (h := lhc92) body (by omega) 1 2 (by decide) rfl c4_1 rfl (by kernel_rfl) (xs := 34) (sg0 := [(1000, 890)]) rfl (cJ4 body 1 (NN4 n body) rfl) (by kernel_rfl) (thx := []) (thc0) (by kernel_rfl)) w hl
def hy23 : LK := hp4 ++ [(.byt (.x 16) (i6 0), .x 18), (.len (.x 16), .x 19), (.fit (.x 16), .b true), (.conv 3 (.x 0), .x 20), (.bin .add (.x 16) (.s 1 120), .x 21), (.len (.x 21), .x 22), (.bin .rem (.x 20) (.x 22), .x 23), (.bin .add (.x 23) (i6 1), .x 24), (.byt (.x 25) (i6 0), .x 27), (.len (.x 25), .x 28), (.fit (.x 25), .b true), (.byt (.x 29) (i6 0), .x 31), (.len (.x 29), .x 32), (.fit (.x 29), .b true), (.bin .add (.x 25) (.x 29), .x 33), (.bin .add (.s 0 0) (.x 33), .x 34)]
def lhd93 : LH := ⟨2, 100, 290, stG (.s 0 0) (.x 6) (.x 11) (.x 15) 36 34 35 65 64 4 0 ++ blD 66 0 0, stG (.x 17) (.x 6) (.x 11) (.x 15) 36 34 35 102 103 4 7 ++ blT 100 101 16⟩
def lfd93 : LF := ⟨2, 47, [(0, .p 36 0), (1, i6 1000000), (5, .p 66 0)], [], .exit 0, [(5, .p 100 0)], some lhd93⟩
def lhd94 : LH := ⟨2, 320, 510, stG (.s 0 0) (.x 6) (.x 11) (.x 15) 4 2 3 33 32 4 0 ++ blD 290 0 0, stG (.x 26) (.x 6) (.x 11) (.x 15) 4 2 3 322 323 4 2 ++ blT 320 321 25⟩
def lfd94 : LF := ⟨2, 47, [(0, .p 4 0), (1, .x 24), (5, .p 290 0)], [], .exit 0, [(5, .p 320 0)], some lhd94⟩
def lhd95 : LH := ⟨2, 700, 890, stH (.x 26) (.sl 552 0 1 0 true) 322 548 0 ++ blD 561 0 0, stH (.x 30) (.sl 552 0 1 0 true) 702 703 1 ++ blT 700 701 29⟩
def lfd95 : LF := ⟨2, 47, [(0, .p 4 0), (1, i6 1000000), (5, .p 561 0)], [], .exit 0, [(5, .p 700 0)], some lhd95⟩
def lhc96 : LH := ⟨2, 1000, 1060, [(890, .b ⟨79, .l [i6 65535, .x 34, .b false], 0, 0, 0, false, false⟩)], [rowK .und .und .und (ksT 4 2)]⟩
def lfc96 : LF := ⟨5, 87, [(0, .p 890 0), (6, .nils)], [], .ret, [(4, .sl 1001 0 3 0 true), (5, i6 0)], some lhc96⟩
noncomputable def tab23 : Tab := tabQ hy23 lfd93 lfd94 lfd95 lfc96
theorem run23 (e : Nat) : Go.AX.okB (call tab23 9000 3 [.x 0, .x 1] ⟨H0 e , 2, 0, 0⟩) = true := by kernel_rfl
noncomputable def nu23 (n : Int) (body : Int) : List Value := pn4 n body ++ [St' (AL4 body), St' ([] : LB), .int .u8 (bt (AL4 body) 0), .int .i64 (((AL4 body).length : Int)), .int .i64 (n), St' ((AL4 body) ++ [u8 120]), .int .i64 (((AL4 body).length : Int) + 1), .int .i64 (n % (((AL4 body).length : Int) + 1)), .int .i64 ((n % (((AL4 body).length : Int) + 1)) + 1), St' (TT4 body 2 (NN4 n body)), St' (RR4 body 2 (NN4 n body)), .int .u8 (bt (TT4 body 2 (NN4 n body)) 0), .int .i64 (((TT4 body 2 (NN4 n body)).length : Int)), St' ((RR4 body 2 (NN4 n body)) ++ abS), St' ([] : LB), .int .u8 (bt ((RR4 body 2 (NN4 n body)) ++ abS) 0), .int .i64 ((((RR4 body 2 (NN4 n body)) ++ abS).length : Int)), St' ((TT4 body 2 (NN4 n body)) ++ ((RR4 body 2 (NN4 n body)) ++ abS)), St' ((TT4 body 2 (NN4 n body)) ++ ((RR4 body 2 (NN4 n body)) ++ abS))]
theorem one23 (n : Int) (body : Int) : ∀ j, j < 1000000 → (nuL (nu23 n body) j).oneCell' = true := fun j _ => nuL_one (l := nu23 n body) rfl j
theorem path23 (n : Int) (body : Int) (b0 : 0 ≤ n) (b1 : n ≤ 65535) (b2 : 0 ≤ body) (b3 : body ≤ 65535) (h0 : 512 < (body % 3000)) (h1 : 512 < (body % 3000) - 512) (h2 : 512 < (body % 3000) - 1024) (h3 : ¬ (512 < (body % 3000) - 1536)) (h6 : ¬ ((NN4 n body) ≤ LC4 body 1)) (h7 : (NN4 n body) ≤ LC4 body 2) (w : World) (hl : laidE w) : CwR 3 #[.int .u16 n, .int .u16 body] w (.bool true) := by
  have hn0 : ([] : LB).length = 0 := rfl
  have hAL := al4 body (by omega)
  have := em4 n body
  have hNN : NN4 n body = (n % (((AL4 body).length : Int) + 1)) + 1 := rfl
  have hjk := jk4 body 2 (NN4 n body) (by decide) (fun _ => by show LC4 body 1 < (NN4 n body); omega) (.inl (by assumption))
  have hTT := tt4 body (by omega) 2 (NN4 n body) (by omega) hjk
  have ho : ∀ k r, (k, r) ∈ hy23 → HOk (cx (nuL (nu23 n body)) (one23 n body) 1 laidE laidE_stab) k r := by
    unfold hy23
    exact hc (rm3 rfl rfl (by omega)) <|
     hc (cvV tu3 rfl rfl (by omega)) <|
     hc (kZer (isX rfl) (by omega) (by omega) (denX rfl)) <|
     hc (lnR rfl rfl (by omega)) <|
     hc (gtcT rfl (by omega)) <|
     hc (rT rfl (by omega) rfl) <|
     hc (l512 rfl) <|
     hc (rD rfl rfl (by omega)) <|
     hc (lnR rfl rfl (by omega)) <|
     hc (gtcT rfl (by omega)) <|
     hc (rT rfl (by omega) rfl) <|
     hc (rD rfl rfl (by omega)) <|
     hc (lnR rfl rfl (by omega)) <|
     hc (gtcT rfl (by omega)) <|
     hc (rT rfl (by omega) rfl) <|
     hc (rD rfl rfl (by omega)) <|
     hc (lnR rfl rfl (by omega)) <|
     hc (gtcF rfl (by omega)) <|
     hc (neZ rfl (by omega)) <|
     hc (kMax (isX rfl) (isZ (m := 0) rfl) (denX rfl) (by omega)) <|
     hc (ngV rfl rfl (by omega)) <|
     hc (aG rfl rfl (by omega)) <|
     hc (byC rfl rfl (by omega)) <|
     hc (lnV rfl rfl (by omega)) <|
     hc (ftV rfl (by omega)) <|
     hc (cvV tu3 rfl rfl (by omega)) <|
     hc (c120 rfl rfl (by omega)) <|
     hc (l120 rfl rfl) <|
     hc (rmV rfl rfl rfl (by omega)) <|
     hc (adC rfl rfl (by omega)) <|
     hc (byC rfl rfl (by omega)) <|
     hc (lnV rfl rfl (by omega)) <|
     hc (ftV rfl (by omega)) <|
     hc (byC rfl rfl (by omega)) <|
     hc (lnV rfl rfl (by omega)) <|
     hc (ftV rfl (by omega)) <|
     hc (ctV rfl rfl rfl (by omega)) <|
     hc (ct0 rfl rfl (by first | omega | (rw [List.length_append]; omega) | (simp <;> omega))) <|
     hnil
  exact finQ (nu := nuL (nu23 n body)) (one := one23 n body) rfl rfl ho run23 rfl rfl (dW4 (l := lfd93) (h := lhd93) body (by omega) rfl (by kernel_rfl) (zi := 6) (ri := 11) (pi := 15) rfl rfl rfl (sg0 := [(100, 66), (102, 65), (103, 64)]) (t := 16) (rr := 17) (by kernel_rfl) rfl rfl (by kernel_rfl)) rfl rfl (dD4 (l := lfd94) (h := lhd94) body (by omega) (NN4 n body) (by omega) (by omega) 2 hjk rfl (by kernel_rfl) (ni := 24) rfl (zi := 6) (ri := 11) (pi := 15) rfl rfl rfl (sg0 := [(320, 290), (322, 33), (323, 32)]) (t := 25) (rr := 26) (by kernel_rfl) rfl rfl (by kernel_rfl)) rfl rfl (dF (l := lfd95) (h := lhd95) (RR4 body 2 (NN4 n body)) (by omega) rfl (by kernel_rfl) (ri := 26) (t := 29) (rr := 30) (sg0 := [(700, 561), (702, 322), (703, 548)]) rfl (by kernel_rfl) rfl rfl (by kernel_rfl)) rfl rfl (cC4 (l := lfc96) (h := lhc96) body (by omega) 2 3 (by decide) rfl c4_2 rfl (by kernel_rfl) (xs := 34) (sg0 := [(1000, 890)]) rfl (cJ4 body 2 (NN4 n body) rfl) (by kernel_rfl) (thx := []) (thc0) (by kernel_rfl)) w hl
def hy24 : LK := hp4 ++ [(.byt (.x 16) (i6 0), .x 18), (.len (.x 16), .x 19), (.fit (.x 16), .b true), (.conv 3 (.x 0), .x 20), (.bin .add (.x 16) (.s 1 120), .x 21), (.len (.x 21), .x 22), (.bin .rem (.x 20) (.x 22), .x 23), (.bin .add (.x 23) (i6 1), .x 24), (.byt (.x 25) (i6 0), .x 27), (.len (.x 25), .x 28), (.fit (.x 25), .b true), (.byt (.x 29) (i6 0), .x 31), (.len (.x 29), .x 32), (.fit (.x 29), .b true), (.bin .add (.x 25) (.x 29), .x 33), (.bin .add (.s 0 0) (.x 33), .x 34), (.bin .add (.s 0 0) (.x 6), .x 6), (.bin .eql (.x 6) (.s 0 0), .b false)]
def lhd97 : LH := ⟨2, 100, 290, stG (.s 0 0) (.x 6) (.x 11) (.x 15) 36 34 35 65 64 4 0 ++ blD 66 0 0, stG (.x 17) (.x 6) (.x 11) (.x 15) 36 34 35 102 103 4 7 ++ blT 100 101 16⟩
def lfd97 : LF := ⟨2, 47, [(0, .p 36 0), (1, i6 1000000), (5, .p 66 0)], [], .exit 0, [(5, .p 100 0)], some lhd97⟩
def lhd98 : LH := ⟨2, 320, 510, stG (.s 0 0) (.x 6) (.x 11) (.x 15) 4 2 3 33 32 4 0 ++ blD 290 0 0, stG (.x 26) (.x 6) (.x 11) (.x 15) 4 2 3 322 323 4 3 ++ blT 320 321 25⟩
def lfd98 : LF := ⟨2, 47, [(0, .p 4 0), (1, .x 24), (5, .p 290 0)], [], .exit 0, [(5, .p 320 0)], some lhd98⟩
def lhd99 : LH := ⟨2, 700, 890, stH (.x 26) (.sl 552 0 1 0 true) 322 548 0 ++ blD 561 0 0, stH (.x 30) (.sl 552 0 1 0 true) 702 703 1 ++ blT 700 701 29⟩
def lfd99 : LF := ⟨2, 47, [(0, .p 4 0), (1, i6 1000000), (5, .p 561 0)], [], .exit 0, [(5, .p 700 0)], some lhd99⟩
def lhc100 : LH := ⟨2, 1000, 1060, [(890, .b ⟨79, .l [i6 65535, .x 34, .b false], 0, 0, 0, false, false⟩)], [rowK (.x 6) .und .und (ksT 4 3)]⟩
def lfc100 : LF := ⟨5, 87, [(0, .p 890 0), (6, .nils)], [], .ret, [(4, .sl 1001 0 4 0 true), (5, i6 0)], some lhc100⟩
noncomputable def tab24 : Tab := tabQ hy24 lfd97 lfd98 lfd99 lfc100
theorem run24 (e : Nat) : Go.AX.okB (call tab24 9000 3 [.x 0, .x 1] ⟨H0 e , 2, 0, 0⟩) = true := by kernel_rfl
noncomputable def nu24 (n : Int) (body : Int) : List Value := pn4 n body ++ [St' (AL4 body), St' ([] : LB), .int .u8 (bt (AL4 body) 0), .int .i64 (((AL4 body).length : Int)), .int .i64 (n), St' ((AL4 body) ++ [u8 120]), .int .i64 (((AL4 body).length : Int) + 1), .int .i64 (n % (((AL4 body).length : Int) + 1)), .int .i64 ((n % (((AL4 body).length : Int) + 1)) + 1), St' (TT4 body 3 (NN4 n body)), St' (RR4 body 3 (NN4 n body)), .int .u8 (bt (TT4 body 3 (NN4 n body)) 0), .int .i64 (((TT4 body 3 (NN4 n body)).length : Int)), St' ((RR4 body 3 (NN4 n body)) ++ abS), St' ([] : LB), .int .u8 (bt ((RR4 body 3 (NN4 n body)) ++ abS) 0), .int .i64 ((((RR4 body 3 (NN4 n body)) ++ abS).length : Int)), St' ((TT4 body 3 (NN4 n body)) ++ ((RR4 body 3 (NN4 n body)) ++ abS)), St' ((TT4 body 3 (NN4 n body)) ++ ((RR4 body 3 (NN4 n body)) ++ abS))]
theorem one24 (n : Int) (body : Int) : ∀ j, j < 1000000 → (nuL (nu24 n body) j).oneCell' = true := fun j _ => nuL_one (l := nu24 n body) rfl j
theorem path24 (n : Int) (body : Int) (b0 : 0 ≤ n) (b1 : n ≤ 65535) (b2 : 0 ≤ body) (b3 : body ≤ 65535) (h0 : 512 < (body % 3000)) (h1 : 512 < (body % 3000) - 512) (h2 : 512 < (body % 3000) - 1024) (h3 : ¬ (512 < (body % 3000) - 1536)) (h6 : ¬ ((NN4 n body) ≤ LC4 body 1)) (h7 : ¬ ((NN4 n body) ≤ LC4 body 2)) (h8 : (NN4 n body) ≤ LC4 body 3) (w : World) (hl : laidE w) : CwR 3 #[.int .u16 n, .int .u16 body] w (.bool true) := by
  have hn0 : ([] : LB).length = 0 := rfl
  have hAL := al4 body (by omega)
  have := em4 n body
  have hNN : NN4 n body = (n % (((AL4 body).length : Int) + 1)) + 1 := rfl
  have hjk := jk4 body 3 (NN4 n body) (by decide) (fun _ => by show LC4 body 2 < (NN4 n body); omega) (.inl (by assumption))
  have hTT := tt4 body (by omega) 3 (NN4 n body) (by omega) hjk
  have ho : ∀ k r, (k, r) ∈ hy24 → HOk (cx (nuL (nu24 n body)) (one24 n body) 1 laidE laidE_stab) k r := by
    unfold hy24
    exact hc (rm3 rfl rfl (by omega)) <|
     hc (cvV tu3 rfl rfl (by omega)) <|
     hc (kZer (isX rfl) (by omega) (by omega) (denX rfl)) <|
     hc (lnR rfl rfl (by omega)) <|
     hc (gtcT rfl (by omega)) <|
     hc (rT rfl (by omega) rfl) <|
     hc (l512 rfl) <|
     hc (rD rfl rfl (by omega)) <|
     hc (lnR rfl rfl (by omega)) <|
     hc (gtcT rfl (by omega)) <|
     hc (rT rfl (by omega) rfl) <|
     hc (rD rfl rfl (by omega)) <|
     hc (lnR rfl rfl (by omega)) <|
     hc (gtcT rfl (by omega)) <|
     hc (rT rfl (by omega) rfl) <|
     hc (rD rfl rfl (by omega)) <|
     hc (lnR rfl rfl (by omega)) <|
     hc (gtcF rfl (by omega)) <|
     hc (neZ rfl (by omega)) <|
     hc (kMax (isX rfl) (isZ (m := 0) rfl) (denX rfl) (by omega)) <|
     hc (ngV rfl rfl (by omega)) <|
     hc (aG rfl rfl (by omega)) <|
     hc (byC rfl rfl (by omega)) <|
     hc (lnV rfl rfl (by omega)) <|
     hc (ftV rfl (by omega)) <|
     hc (cvV tu3 rfl rfl (by omega)) <|
     hc (c120 rfl rfl (by omega)) <|
     hc (l120 rfl rfl) <|
     hc (rmV rfl rfl rfl (by omega)) <|
     hc (adC rfl rfl (by omega)) <|
     hc (byC rfl rfl (by omega)) <|
     hc (lnV rfl rfl (by omega)) <|
     hc (ftV rfl (by omega)) <|
     hc (byC rfl rfl (by omega)) <|
     hc (lnV rfl rfl (by omega)) <|
     hc (ftV rfl (by omega)) <|
     hc (ctV rfl rfl rfl (by omega)) <|
     hc (ct0 rfl rfl (by first | omega | (rw [List.length_append]; omega) | (simp <;> omega))) <|
     hc (ct0 rfl rfl (by first | omega | (rw [List.length_append]; omega) | (simp <;> omega))) <|
     hc (eqZ rfl (by omega)) <|
     hnil
  exact finQ (nu := nuL (nu24 n body)) (one := one24 n body) rfl rfl ho run24 rfl rfl (dW4 (l := lfd97) (h := lhd97) body (by omega) rfl (by kernel_rfl) (zi := 6) (ri := 11) (pi := 15) rfl rfl rfl (sg0 := [(100, 66), (102, 65), (103, 64)]) (t := 16) (rr := 17) (by kernel_rfl) rfl rfl (by kernel_rfl)) rfl rfl (dD4 (l := lfd98) (h := lhd98) body (by omega) (NN4 n body) (by omega) (by omega) 3 hjk rfl (by kernel_rfl) (ni := 24) rfl (zi := 6) (ri := 11) (pi := 15) rfl rfl rfl (sg0 := [(320, 290), (322, 33), (323, 32)]) (t := 25) (rr := 26) (by kernel_rfl) rfl rfl (by kernel_rfl)) rfl rfl (dF (l := lfd99) (h := lhd99) (RR4 body 3 (NN4 n body)) (by omega) rfl (by kernel_rfl) (ri := 26) (t := 29) (rr := 30) (sg0 := [(700, 561), (702, 322), (703, 548)]) rfl (by kernel_rfl) rfl rfl (by kernel_rfl)) rfl rfl (cC4 (l := lfc100) (h := lhc100) body (by omega) 3 4 (by decide) rfl c4_3 rfl (by kernel_rfl) (xs := 34) (sg0 := [(1000, 890)]) rfl (cJ4 body 3 (NN4 n body) rfl) (by kernel_rfl) (thx := [(6, .x 20)]) (thc1 rfl) (by kernel_rfl)) w hl
end Go.Proofs.YtaihihejljcniaaGreatDoor.muxEarly
