/- A part of the proof: an interpreter of the model's own code on partly known states, and that what it answers is what the program answers. No condition of its own. -/
import Derived.Test.YtaihihejljcniaaGreatDoorQ1MuxEarlyQ
set_option maxRecDepth 100000
set_option linter.unusedVariables false
set_option linter.unusedSimpArgs false
set_option maxHeartbeats 4000000
namespace Go.Proofs.YtaihihejljcniaaGreatDoor.muxEarly
open Go Go.AX Go.Proofs Go.Proofs.YtaihihejljcniaaGreatDoor
def hy35 : LK := hp5 ++ [(.byt (.x 18) (i6 0), .x 20), (.len (.x 18), .x 21), (.fit (.x 18), .b true), (.conv 3 (.x 0), .x 22), (.bin .add (.x 18) (.s 1 120), .x 23), (.len (.x 23), .x 24), (.bin .rem (.x 22) (.x 24), .x 25), (.bin .add (.x 25) (i6 1), .x 26), (.byt (.x 27) (i6 0), .x 29), (.len (.x 27), .x 30), (.fit (.x 27), .b true), (.byt (.x 31) (i6 0), .x 33), (.len (.x 31), .x 34), (.fit (.x 31), .b true), (.bin .add (.x 27) (.x 31), .x 35), (.bin .add (.s 0 0) (.x 35), .x 36), (.bin .add (.s 0 0) (.x 6), .x 6), (.bin .eql (.x 6) (.s 0 0), .b false), (.bin .add (.x 6) (.x 6), .x 37), (.bin .add (.x 37) (.x 6), .x 38), (.bin .add (.x 38) (.x 6), .x 39)]
def lhd141 : LH := ⟨2, 100, 290, stG (.s 0 0) (.x 6) (.x 13) (.x 17) 39 37 38 71 70 5 0 ++ blD 72 0 0, stG (.x 19) (.x 6) (.x 13) (.x 17) 39 37 38 102 103 5 8 ++ blT 100 101 18⟩
def lfd141 : LF := ⟨2, 47, [(0, .p 39 0), (1, i6 1000000), (5, .p 72 0)], [], .exit 0, [(5, .p 100 0)], some lhd141⟩
def lhd142 : LH := ⟨2, 320, 510, stG (.s 0 0) (.x 6) (.x 13) (.x 17) 4 2 3 36 35 5 0 ++ blD 290 0 0, stG (.x 28) (.x 6) (.x 13) (.x 17) 4 2 3 322 323 5 6 ++ blT 320 321 27⟩
def lfd142 : LF := ⟨2, 47, [(0, .p 4 0), (1, .x 26), (5, .p 290 0)], [], .exit 0, [(5, .p 320 0)], some lhd142⟩
def lhd143 : LH := ⟨2, 700, 890, stH (.x 28) (.sl 552 0 1 0 true) 322 548 0 ++ blD 561 0 0, stH (.x 32) (.sl 552 0 1 0 true) 702 703 1 ++ blT 700 701 31⟩
def lfd143 : LF := ⟨2, 47, [(0, .p 4 0), (1, i6 1000000), (5, .p 561 0)], [], .exit 0, [(5, .p 700 0)], some lhd143⟩
def lhc144 : LH := ⟨2, 1000, 1060, [(890, .b ⟨79, .l [i6 65535, .x 36, .b false], 0, 0, 0, false, false⟩)], [rowK (.x 6) .und .und (ksT 5 6)]⟩
def lfc144 : LF := ⟨5, 87, [(0, .p 890 0), (6, .nils)], [], .ret, [(4, .sl 1001 0 7 0 true), (5, i6 0)], some lhc144⟩
noncomputable def tab35 : Tab := tabQ hy35 lfd141 lfd142 lfd143 lfc144
theorem run35 (e : Nat) : Go.AX.okB (call tab35 9000 3 [.x 0, .x 1] ⟨H0 e , 2, 0, 0⟩) = true := by kernel_rfl
noncomputable def nu35 (n : Int) (body : Int) : List Value := pn5 n body ++ [St' (AL5 body), St' ([] : LB), .int .u8 (bt (AL5 body) 0), .int .i64 (((AL5 body).length : Int)), .int .i64 (n), St' ((AL5 body) ++ [u8 120]), .int .i64 (((AL5 body).length : Int) + 1), .int .i64 (n % (((AL5 body).length : Int) + 1)), .int .i64 ((n % (((AL5 body).length : Int) + 1)) + 1), St' (TT5 body 6 (NN5 n body)), St' (RR5 body 6 (NN5 n body)), .int .u8 (bt (TT5 body 6 (NN5 n body)) 0), .int .i64 (((TT5 body 6 (NN5 n body)).length : Int)), St' ((RR5 body 6 (NN5 n body)) ++ abS), St' ([] : LB), .int .u8 (bt ((RR5 body 6 (NN5 n body)) ++ abS) 0), .int .i64 ((((RR5 body 6 (NN5 n body)) ++ abS).length : Int)), St' ((TT5 body 6 (NN5 n body)) ++ ((RR5 body 6 (NN5 n body)) ++ abS)), St' ((TT5 body 6 (NN5 n body)) ++ ((RR5 body 6 (NN5 n body)) ++ abS)), St' ((List.replicate (Int.toNat (512)) 0) ++ (List.replicate (Int.toNat (512)) 0)), St' ((List.replicate (Int.toNat (512)) 0) ++ ((List.replicate (Int.toNat (512)) 0) ++ (List.replicate (Int.toNat (512)) 0))), St' ((List.replicate (Int.toNat (512)) 0) ++ ((List.replicate (Int.toNat (512)) 0) ++ ((List.replicate (Int.toNat (512)) 0) ++ (List.replicate (Int.toNat (512)) 0))))]
theorem one35 (n : Int) (body : Int) : ∀ j, j < 1000000 → (nuL (nu35 n body) j).oneCell' = true := fun j _ => nuL_one (l := nu35 n body) rfl j
theorem path35 (n : Int) (body : Int) (b0 : 0 ≤ n) (b1 : n ≤ 65535) (b2 : 0 ≤ body) (b3 : body ≤ 65535) (h0 : 512 < (body % 3000)) (h1 : 512 < (body % 3000) - 512) (h2 : 512 < (body % 3000) - 1024) (h3 : 512 < (body % 3000) - 1536) (h4 : ¬ (512 < (body % 3000) - 2048)) (h7 : ¬ ((NN5 n body) ≤ LC5 body 1)) (h8 : ¬ ((NN5 n body) ≤ LC5 body 2)) (h9 : ¬ ((NN5 n body) ≤ LC5 body 3)) (h10 : ¬ ((NN5 n body) ≤ LC5 body 4)) (h11 : ¬ ((NN5 n body) ≤ LC5 body 5)) (h12 : (NN5 n body) ≤ LC5 body 6) (w : World) (hl : laidE w) : CwR 3 #[.int .u16 n, .int .u16 body] w (.bool true) := by
  have hn0 : ([] : LB).length = 0 := rfl
  have hAL := al5 body (by omega)
  have := em5 n body
  have hNN : NN5 n body = (n % (((AL5 body).length : Int) + 1)) + 1 := rfl
  have hjk := jk5 body 6 (NN5 n body) (by decide) (fun _ => by show LC5 body 5 < (NN5 n body); omega) (.inl (by assumption))
  have hTT := tt5 body (by omega) 6 (NN5 n body) (by omega) hjk
  have ho : ∀ k r, (k, r) ∈ hy35 → HOk (cx (nuL (nu35 n body)) (one35 n body) 1 laidE laidE_stab) k r := by
    unfold hy35
    exact hc (rm3 rfl rfl (by omega)) <|
     hc (cvV tu3 rfl rfl (by omega)) <|
     hc (kZer (isX rfl) (by omega) (by omega) (denX rfl)) <|
     hc (lnR rfl rfl (by omega)) <|
     hc (gtcT rfl (by omega)) <|
     hc (rT rfl (by omega) rfl) <|
     hc (l512 rfl) <|
     hc (rD rfl rfl (by omega)) <|
     hc (lnR rfl rfl (by omega)) <|
     hc (gtcT rfl (by omega)) <|
     hc (rT rfl (by omega) rfl) <|
     hc (rD rfl rfl (by omega)) <|
     hc (lnR rfl rfl (by omega)) <|
     hc (gtcT rfl (by omega)) <|
     hc (rT rfl (by omega) rfl) <|
     hc (rD rfl rfl (by omega)) <|
     hc (lnR rfl rfl (by omega)) <|
     hc (gtcT rfl (by omega)) <|
     hc (rT rfl (by omega) rfl) <|
     hc (rD rfl rfl (by omega)) <|
     hc (lnR rfl rfl (by omega)) <|
     hc (gtcF rfl (by omega)) <|
     hc (neZ rfl (by omega)) <|
     hc (kMax (isX rfl) (isZ (m := 0) rfl) (denX rfl) (by omega)) <|
     hc (ngV rfl rfl (by omega)) <|
     hc (aG rfl rfl (by omega)) <|
     hc (byC rfl rfl (by omega)) <|
     hc (lnV rfl rfl (by omega)) <|
     hc (ftV rfl (by omega)) <|
     hc (cvV tu3 rfl rfl (by omega)) <|
     hc (c120 rfl rfl (by omega)) <|
     hc (l120 rfl rfl) <|
     hc (rmV rfl rfl rfl (by omega)) <|
     hc (adC rfl rfl (by omega)) <|
     hc (byC rfl rfl (by omega)) <|
     hc (lnV rfl rfl (by omega)) <|
     hc (ftV rfl (by omega)) <|
     hc (byC rfl rfl (by omega)) <|
     hc (lnV rfl rfl (by omega)) <|
     hc (ftV rfl (by omega)) <|
     hc (ctV rfl rfl rfl (by omega)) <|
     hc (ct0 rfl rfl (by first | omega | (rw [List.length_append]; omega) | (simp <;> omega))) <|
     hc (ct0 rfl rfl (by first | omega | (rw [List.length_append]; omega) | (simp <;> omega))) <|
     hc (eqZ rfl (by omega)) <|
     hc (kCat (isX rfl) (isX rfl) (denX rfl) (by first | rfl | (simp; done)) (by first | omega | (simp <;> omega))) <|
     hc (kCat (isX rfl) (isX rfl) (denX rfl) (by first | rfl | (simp; done)) (by first | omega | (simp <;> omega))) <|
     hc (kCat (isX rfl) (isX rfl) (denX rfl) (by first | rfl | (simp; done)) (by first | omega | (simp <;> omega))) <|
     hnil
  exact finQ (nu := nuL (nu35 n body)) (one := one35 n body) rfl rfl ho run35 rfl rfl (dW5 (l := lfd141) (h := lhd141) body (by omega) rfl (by kernel_rfl) (zi := 6) (ri := 13) (pi := 17) rfl rfl rfl (sg0 := [(100, 72), (102, 71), (103, 70)]) (t := 18) (rr := 19) (by kernel_rfl) rfl rfl (by kernel_rfl)) rfl rfl (dD5 (l := lfd142) (h := lhd142) body (by omega) (NN5 n body) (by omega) (by omega) 6 hjk rfl (by kernel_rfl) (ni := 26) rfl (zi := 6) (ri := 13) (pi := 17) rfl rfl rfl (sg0 := [(320, 290), (322, 36), (323, 35)]) (t := 27) (rr := 28) (by kernel_rfl) rfl rfl (by kernel_rfl)) rfl rfl (dF (l := lfd143) (h := lhd143) (RR5 body 6 (NN5 n body)) (by omega) rfl (by kernel_rfl) (ri := 28) (t := 31) (rr := 32) (sg0 := [(700, 561), (702, 322), (703, 548)]) rfl (by kernel_rfl) rfl rfl (by kernel_rfl)) rfl rfl (cC5 (l := lfc144) (h := lhc144) body (by omega) 6 7 (by decide) rfl c5_6 rfl (by kernel_rfl) (xs := 36) (sg0 := [(1000, 890)]) rfl (cJ5 body 6 (NN5 n body) rfl) (by kernel_rfl) (thx := [(6, .x 20)]) (thc1 rfl) (by kernel_rfl)) w hl
def hy36 : LK := hp5 ++ [(.byt (.x 18) (i6 0), .x 20), (.len (.x 18), .x 21), (.fit (.x 18), .b true), (.conv 3 (.x 0), .x 22), (.bin .add (.x 18) (.s 1 120), .x 23), (.len (.x 23), .x 24), (.bin .rem (.x 22) (.x 24), .x 25), (.bin .add (.x 25) (i6 1), .x 26), (.byt (.x 27) (i6 0), .x 29), (.len (.x 27), .x 30), (.fit (.x 27), .b true), (.byt (.x 31) (i6 0), .x 33), (.len (.x 31), .x 34), (.fit (.x 31), .b true), (.bin .add (.x 27) (.x 31), .x 35), (.bin .add (.s 0 0) (.x 35), .x 36), (.bin .add (.s 0 0) (.x 6), .x 6), (.bin .eql (.x 6) (.s 0 0), .b false), (.bin .add (.x 6) (.x 6), .x 37), (.bin .add (.x 37) (.x 6), .x 38), (.bin .add (.x 38) (.x 6), .x 39), (.bin .add (.x 39) (.x 13), .x 40), (.bin .eql (.x 13) (.s 0 0), .b false)]
def lhd145 : LH := ⟨2, 100, 290, stG (.s 0 0) (.x 6) (.x 13) (.x 17) 39 37 38 71 70 5 0 ++ blD 72 0 0, stG (.x 19) (.x 6) (.x 13) (.x 17) 39 37 38 102 103 5 8 ++ blT 100 101 18⟩
def lfd145 : LF := ⟨2, 47, [(0, .p 39 0), (1, i6 1000000), (5, .p 72 0)], [], .exit 0, [(5, .p 100 0)], some lhd145⟩
def lhd146 : LH := ⟨2, 320, 510, stG (.s 0 0) (.x 6) (.x 13) (.x 17) 4 2 3 36 35 5 0 ++ blD 290 0 0, stG (.x 28) (.x 6) (.x 13) (.x 17) 4 2 3 322 323 5 7 ++ blT 320 321 27⟩
def lfd146 : LF := ⟨2, 47, [(0, .p 4 0), (1, .x 26), (5, .p 290 0)], [], .exit 0, [(5, .p 320 0)], some lhd146⟩
def lhd147 : LH := ⟨2, 700, 890, stH (.x 28) (.sl 552 0 1 0 true) 322 548 0 ++ blD 561 0 0, stH (.x 32) (.sl 552 0 1 0 true) 702 703 1 ++ blT 700 701 31⟩
def lfd147 : LF := ⟨2, 47, [(0, .p 4 0), (1, i6 1000000), (5, .p 561 0)], [], .exit 0, [(5, .p 700 0)], some lhd147⟩
def lhc148 : LH := ⟨2, 1000, 1060, [(890, .b ⟨79, .l [i6 65535, .x 36, .b false], 0, 0, 0, false, false⟩)], [rowK (.x 6) (.x 13) (.x 17) (ksT 5 7)]⟩
def lfc148 : LF := ⟨5, 87, [(0, .p 890 0), (6, .nils)], [], .ret, [(4, .sl 1001 0 8 0 true), (5, i6 0)], some lhc148⟩
noncomputable def tab36 : Tab := tabQ hy36 lfd145 lfd146 lfd147 lfc148
theorem run36 (e : Nat) : Go.AX.okB (call tab36 9000 3 [.x 0, .x 1] ⟨H0 e , 2, 0, 0⟩) = true := by kernel_rfl
noncomputable def nu36 (n : Int) (body : Int) : List Value := pn5 n body ++ [St' (AL5 body), St' ([] : LB), .int .u8 (bt (AL5 body) 0), .int .i64 (((AL5 body).length : Int)), .int .i64 (n), St' ((AL5 body) ++ [u8 120]), .int .i64 (((AL5 body).length : Int) + 1), .int .i64 (n % (((AL5 body).length : Int) + 1)), .int .i64 ((n % (((AL5 body).length : Int) + 1)) + 1), St' (TT5 body 7 (NN5 n body)), St' (RR5 body 7 (NN5 n body)), .int .u8 (bt (TT5 body 7 (NN5 n body)) 0), .int .i64 (((TT5 body 7 (NN5 n body)).length : Int)), St' ((RR5 body 7 (NN5 n body)) ++ abS), St' ([] : LB), .int .u8 (bt ((RR5 body 7 (NN5 n body)) ++ abS) 0), .int .i64 ((((RR5 body 7 (NN5 n body)) ++ abS).length : Int)), St' ((TT5 body 7 (NN5 n body)) ++ ((RR5 body 7 (NN5 n body)) ++ abS)), St' ((TT5 body 7 (NN5 n body)) ++ ((RR5 body 7 (NN5 n body)) ++ abS)), St' ((List.replicate (Int.toNat (512)) 0) ++ (List.replicate (Int.toNat (512)) 0)), St' ((List.replicate (Int.toNat (512)) 0) ++ ((List.replicate (Int.toNat (512)) 0) ++ (List.replicate (Int.toNat (512)) 0))), St' ((List.replicate (Int.toNat (512)) 0) ++ ((List.replicate (Int.toNat (512)) 0) ++ ((List.replicate (Int.toNat (512)) 0) ++ (List.replicate (Int.toNat (512)) 0)))), St' ((List.replicate (Int.toNat (512)) 0) ++ ((List.replicate (Int.toNat (512)) 0) ++ ((List.replicate (Int.toNat (512)) 0) ++ ((List.replicate (Int.toNat (512)) 0) ++ (List.replicate (Int.toNat ((body % 3000) - 2048)) 0)))))]
theorem one36 (n : Int) (body : Int) : ∀ j, j < 1000000 → (nuL (nu36 n body) j).oneCell' = true := fun j _ => nuL_one (l := nu36 n body) rfl j
theorem path36 (n : Int) (body : Int) (b0 : 0 ≤ n) (b1 : n ≤ 65535) (b2 : 0 ≤ body) (b3 : body ≤ 65535) (h0 : 512 < (body % 3000)) (h1 : 512 < (body % 3000) - 512) (h2 : 512 < (body % 3000) - 1024) (h3 : 512 < (body % 3000) - 1536) (h4 : ¬ (512 < (body % 3000) - 2048)) (h7 : ¬ ((NN5 n body) ≤ LC5 body 1)) (h8 : ¬ ((NN5 n body) ≤ LC5 body 2)) (h9 : ¬ ((NN5 n body) ≤ LC5 body 3)) (h10 : ¬ ((NN5 n body) ≤ LC5 body 4)) (h11 : ¬ ((NN5 n body) ≤ LC5 body 5)) (h12 : ¬ ((NN5 n body) ≤ LC5 body 6)) (h13 : (NN5 n body) ≤ LC5 body 7) (w : World) (hl : laidE w) : CwR 3 #[.int .u16 n, .int .u16 body] w (.bool true) := by
  have hn0 : ([] : LB).length = 0 := rfl
  have hAL := al5 body (by omega)
  have := em5 n body
  have hNN : NN5 n body = (n % (((AL5 body).length : Int) + 1)) + 1 := rfl
  have hjk := jk5 body 7 (NN5 n body) (by decide) (fun _ => by show LC5 body 6 < (NN5 n body); omega) (.inl (by assumption))
  have hTT := tt5 body (by omega) 7 (NN5 n body) (by omega) hjk
  have ho : ∀ k r, (k, r) ∈ hy36 → HOk (cx (nuL (nu36 n body)) (one36 n body) 1 laidE laidE_stab) k r := by
    unfold hy36
    exact hc (rm3 rfl rfl (by omega)) <|
     hc (cvV tu3 rfl rfl (by omega)) <|
     hc (kZer (isX rfl) (by omega) (by omega) (denX rfl)) <|
     hc (lnR rfl rfl (by omega)) <|
     hc (gtcT rfl (by omega)) <|
     hc (rT rfl (by omega) rfl) <|
     hc (l512 rfl) <|
     hc (rD rfl rfl (by omega)) <|
     hc (lnR rfl rfl (by omega)) <|
     hc (gtcT rfl (by omega)) <|
     hc (rT rfl (by omega) rfl) <|
     hc (rD rfl rfl (by omega)) <|
     hc (lnR rfl rfl (by omega)) <|
     hc (gtcT rfl (by omega)) <|
     hc (rT rfl (by omega) rfl) <|
     hc (rD rfl rfl (by omega)) <|
     hc (lnR rfl rfl (by omega)) <|
     hc (gtcT rfl (by omega)) <|
     hc (rT rfl (by omega) rfl) <|
     hc (rD rfl rfl (by omega)) <|
     hc (lnR rfl rfl (by omega)) <|
     hc (gtcF rfl (by omega)) <|
     hc (neZ rfl (by omega)) <|
     hc (kMax (isX rfl) (isZ (m := 0) rfl) (denX rfl) (by omega)) <|
     hc (ngV rfl rfl (by omega)) <|
     hc (aG rfl rfl (by omega)) <|
     hc (byC rfl rfl (by omega)) <|
     hc (lnV rfl rfl (by omega)) <|
     hc (ftV rfl (by omega)) <|
     hc (cvV tu3 rfl rfl (by omega)) <|
     hc (c120 rfl rfl (by omega)) <|
     hc (l120 rfl rfl) <|
     hc (rmV rfl rfl rfl (by omega)) <|
     hc (adC rfl rfl (by omega)) <|
     hc (byC rfl rfl (by omega)) <|
     hc (lnV rfl rfl (by omega)) <|
     hc (ftV rfl (by omega)) <|
     hc (byC rfl rfl (by omega)) <|
     hc (lnV rfl rfl (by omega)) <|
     hc (ftV rfl (by omega)) <|
     hc (ctV rfl rfl rfl (by omega)) <|
     hc (ct0 rfl rfl (by first | omega | (rw [List.length_append]; omega) | (simp <;> omega))) <|
     hc (ct0 rfl rfl (by first | omega | (rw [List.length_append]; omega) | (simp <;> omega))) <|
     hc (eqZ rfl (by omega)) <|
     hc (kCat (isX rfl) (isX rfl) (denX rfl) (by first | rfl | (simp; done)) (by first | omega | (simp <;> omega))) <|
     hc (kCat (isX rfl) (isX rfl) (denX rfl) (by first | rfl | (simp; done)) (by first | omega | (simp <;> omega))) <|
     hc (kCat (isX rfl) (isX rfl) (denX rfl) (by first | rfl | (simp; done)) (by first | omega | (simp <;> omega))) <|
     hc (kCat (isX rfl) (isX rfl) (denX rfl) (by first | rfl | (simp; done)) (by first | omega | (simp <;> omega))) <|
     hc (eqZ rfl (by omega)) <|
     hnil
  exact finQ (nu := nuL (nu36 n body)) (one := one36 n body) rfl rfl ho run36 rfl rfl (dW5 (l := lfd145) (h := lhd145) body (by omega) rfl (by kernel_rfl) (zi := 6) (ri := 13) (pi := 17) rfl rfl rfl (sg0 := [(100, 72), (102, 71), (103, 70)]) (t := 18) (rr := 19) (by kernel_rfl) rfl rfl (by kernel_rfl)) rfl rfl (dD5 (l := lfd146) (h := lhd146) body (by omega) (NN5 n body) (by omega) (by omega) 7 hjk rfl (by kernel_rfl) (ni := 26) rfl (zi := 6) (ri := 13) (pi := 17) rfl rfl rfl (sg0 := [(320, 290), (322, 36), (323, 35)]) (t := 27) (rr := 28) (by kernel_rfl) rfl rfl (by kernel_rfl)) rfl rfl (dF (l := lfd147) (h := lhd147) (RR5 body 7 (NN5 n body)) (by omega) rfl (by kernel_rfl) (ri := 28) (t := 31) (rr := 32) (sg0 := [(700, 561), (702, 322), (703, 548)]) rfl (by kernel_rfl) rfl rfl (by kernel_rfl)) rfl rfl (cC5 (l := lfc148) (h := lhc148) body (by omega) 7 8 (by decide) rfl c5_7 rfl (by kernel_rfl) (xs := 36) (sg0 := [(1000, 890)]) rfl (cJ5 body 7 (NN5 n body) rfl) (by kernel_rfl) (thx := [(6, .x 20), (13, .x 21), (17, .x 22)]) (thc3 rfl rfl rfl) (by kernel_rfl)) w hl
def hy37 : LK := hp5 ++ [(.byt (.x 18) (i6 0), .x 20), (.len (.x 18), .x 21), (.fit (.x 18), .b true), (.conv 3 (.x 0), .x 22), (.bin .add (.x 18) (.s 1 120), .x 23), (.len (.x 23), .x 24), (.bin .rem (.x 22) (.x 24), .x 25), (.bin .add (.x 25) (i6 1), .x 26), (.byt (.x 27) (i6 0), .x 29), (.len (.x 27), .x 30), (.fit (.x 27), .b true), (.bin .neq (.x 28) (.s 0 0), .b true), (.bin .eql (.x 28) (.s 0 0), .b false), (.len (.x 28), .x 31), (.mm false (i6 1000000) (.x 31), .x 32), (.sub (.x 28) none (some (.x 32)), .x 33), (.byt (.x 33) (i6 0), .x 34), (.fit (.x 33), .b true), (.len (.x 33), .x 35), (.sub (.x 28) (some (.x 32)) none, .x 36), (.bin .sub (i6 1000000) (.x 32), .x 37), (.bin .gtr (.x 37) (i6 0), .b true), (.bin .neq (.x 36) (.s 0 0), .b false), (.bin .add (.x 27) (.x 33), .x 38), (.bin .add (.s 0 0) (.x 38), .x 39), (.bin .add (.s 0 0) (.x 6), .x 6), (.bin .eql (.x 6) (.s 0 0), .b false), (.bin .add (.x 6) (.x 6), .x 40), (.bin .add (.x 40) (.x 6), .x 41), (.bin .add (.x 41) (.x 6), .x 42), (.bin .add (.x 42) (.x 13), .x 43), (.bin .eql (.x 13) (.s 0 0), .b false), (.bin .add (.x 43) (.s 0 0), .x 43)]
def lhd149 : LH := ⟨2, 100, 290, stG (.s 0 0) (.x 6) (.x 13) (.x 17) 39 37 38 71 70 5 0 ++ blD 72 0 0, stG (.x 19) (.x 6) (.x 13) (.x 17) 39 37 38 102 103 5 8 ++ blT 100 101 18⟩
def lfd149 : LF := ⟨2, 47, [(0, .p 39 0), (1, i6 1000000), (5, .p 72 0)], [], .exit 0, [(5, .p 100 0)], some lhd149⟩
def lhd150 : LH := ⟨2, 320, 510, stG (.s 0 0) (.x 6) (.x 13) (.x 17) 4 2 3 36 35 5 0 ++ blD 290 0 0, stG (.x 28) (.x 6) (.x 13) (.x 17) 4 2 3 322 323 5 8 ++ blT 320 321 27⟩
def lfd150 : LF := ⟨2, 47, [(0, .p 4 0), (1, .x 26), (5, .p 290 0)], [], .exit 0, [(5, .p 320 0)], some lhd150⟩
def lhc152 : LH := ⟨2, 1000, 1060, [(561, .b ⟨79, .l [i6 65535, .x 39, .b false], 0, 0, 0, false, false⟩)], [rowK (.x 6) (.x 13) (.x 17) (ksT 5 8)]⟩
def lfc152 : LF := ⟨5, 87, [(0, .p 561 0), (6, .nils)], [], .ret, [(4, .sl 1001 0 8 0 true), (5, i6 0)], some lhc152⟩
noncomputable def tab37 : Tab := tabU hy37 lfd149 lfd150 lfc152
theorem run37 (e : Nat) : Go.AX.okB (call tab37 9000 3 [.x 0, .x 1] ⟨H0 e , 2, 0, 0⟩) = true := by kernel_rfl
noncomputable def nu37 (n : Int) (body : Int) : List Value := pn5 n body ++ [St' (AL5 body), St' ([] : LB), .int .u8 (bt (AL5 body) 0), .int .i64 (((AL5 body).length : Int)), .int .i64 (n), St' ((AL5 body) ++ [u8 120]), .int .i64 (((AL5 body).length : Int) + 1), .int .i64 (n % (((AL5 body).length : Int) + 1)), .int .i64 ((n % (((AL5 body).length : Int) + 1)) + 1), St' (TT5 body 8 (NN5 n body)), St' (RR5 body 8 (NN5 n body)), .int .u8 (bt (TT5 body 8 (NN5 n body)) 0), .int .i64 (((TT5 body 8 (NN5 n body)).length : Int)), .int .i64 (((RR5 body 8 (NN5 n body)).length : Int)), .int .i64 (((RR5 body 8 (NN5 n body)).length : Int)), St' (RR5 body 8 (NN5 n body)), .int .u8 (bt (RR5 body 8 (NN5 n body)) 0), .int .i64 (((RR5 body 8 (NN5 n body)).length : Int)), St' ([] : LB), .int .i64 (1000000 - ((RR5 body 8 (NN5 n body)).length : Int)), St' ((TT5 body 8 (NN5 n body)) ++ (RR5 body 8 (NN5 n body))), St' ((TT5 body 8 (NN5 n body)) ++ (RR5 body 8 (NN5 n body))), St' ((List.replicate (Int.toNat (512)) 0) ++ (List.replicate (Int.toNat (512)) 0)), St' ((List.replicate (Int.toNat (512)) 0) ++ ((List.replicate (Int.toNat (512)) 0) ++ (List.replicate (Int.toNat (512)) 0))), St' ((List.replicate (Int.toNat (512)) 0) ++ ((List.replicate (Int.toNat (512)) 0) ++ ((List.replicate (Int.toNat (512)) 0) ++ (List.replicate (Int.toNat (512)) 0)))), St' ((List.replicate (Int.toNat (512)) 0) ++ ((List.replicate (Int.toNat (512)) 0) ++ ((List.replicate (Int.toNat (512)) 0) ++ ((List.replicate (Int.toNat (512)) 0) ++ (List.replicate (Int.toNat ((body % 3000) - 2048)) 0)))))]
theorem one37 (n : Int) (body : Int) : ∀ j, j < 1000000 → (nuL (nu37 n body) j).oneCell' = true := fun j _ => nuL_one (l := nu37 n body) rfl j
theorem path37 (n : Int) (body : Int) (b0 : 0 ≤ n) (b1 : n ≤ 65535) (b2 : 0 ≤ body) (b3 : body ≤ 65535) (h0 : 512 < (body % 3000)) (h1 : 512 < (body % 3000) - 512) (h2 : 512 < (body % 3000) - 1024) (h3 : 512 < (body % 3000) - 1536) (h4 : ¬ (512 < (body % 3000) - 2048)) (h7 : ¬ ((NN5 n body) ≤ LC5 body 1)) (h8 : ¬ ((NN5 n body) ≤ LC5 body 2)) (h9 : ¬ ((NN5 n body) ≤ LC5 body 3)) (h10 : ¬ ((NN5 n body) ≤ LC5 body 4)) (h11 : ¬ ((NN5 n body) ≤ LC5 body 5)) (h12 : ¬ ((NN5 n body) ≤ LC5 body 6)) (h13 : ¬ ((NN5 n body) ≤ LC5 body 7)) (h14 : ¬ ((RR5 body 8 (NN5 n body)).length = 0)) (w : World) (hl : laidE w) : CwR 3 #[.int .u16 n, .int .u16 body] w (.bool true) := by
  have hn0 : ([] : LB).length = 0 := rfl
  have hAL := al5 body (by omega)
  have := em5 n body
  have hNN : NN5 n body = (n % (((AL5 body).length : Int) + 1)) + 1 := rfl
  have hjk := jk5 body 8 (NN5 n body) (by decide) (fun _ => by show LC5 body 7 < (NN5 n body); omega) (.inr rfl)
  have hTT := tt5 body (by omega) 8 (NN5 n body) (by omega) hjk
  have ho : ∀ k r, (k, r) ∈ hy37 → HOk (cx (nuL (nu37 n body)) (one37 n body) 1 laidE laidE_stab) k r := by
    unfold hy37
    exact hc (rm3 rfl rfl (by omega)) <|
     hc (cvV tu3 rfl rfl (by omega)) <|
     hc (kZer (isX rfl) (by omega) (by omega) (denX rfl)) <|
     hc (lnR rfl rfl (by omega)) <|
     hc (gtcT rfl (by omega)) <|
     hc (rT rfl (by omega) rfl) <|
     hc (l512 rfl) <|
     hc (rD rfl rfl (by omega)) <|
     hc (lnR rfl rfl (by omega)) <|
     hc (gtcT rfl (by omega)) <|
     hc (rT rfl (by omega) rfl) <|
     hc (rD rfl rfl (by omega)) <|
     hc (lnR rfl rfl (by omega)) <|
     hc (gtcT rfl (by omega)) <|
     hc (rT rfl (by omega) rfl) <|
     hc (rD rfl rfl (by omega)) <|
     hc (lnR rfl rfl (by omega)) <|
     hc (gtcT rfl (by omega)) <|
     hc (rT rfl (by omega) rfl) <|
     hc (rD rfl rfl (by omega)) <|
     hc (lnR rfl rfl (by omega)) <|
     hc (gtcF rfl (by omega)) <|
     hc (neZ rfl (by omega)) <|
     hc (kMax (isX rfl) (isZ (m := 0) rfl) (denX rfl) (by omega)) <|
     hc (ngV rfl rfl (by omega)) <|
     hc (aG rfl rfl (by omega)) <|
     hc (byC rfl rfl (by omega)) <|
     hc (lnV rfl rfl (by omega)) <|
     hc (ftV rfl (by omega)) <|
     hc (cvV tu3 rfl rfl (by omega)) <|
     hc (c120 rfl rfl (by omega)) <|
     hc (l120 rfl rfl) <|
     hc (rmV rfl rfl rfl (by omega)) <|
     hc (adC rfl rfl (by omega)) <|
     hc (byC rfl rfl (by omega)) <|
     hc (lnV rfl rfl (by omega)) <|
     hc (ftV rfl (by omega)) <|
     hc (kNeS (isX rfl) (isSx (l := ([] : LB)) 0 0 rfl) (bnT (nilF (by omega)))) <|
     hc (kEqS (isX rfl) (isSx (l := ([] : LB)) 0 0 rfl) (nilF (by omega))) <|
     hc (lnV rfl rfl (by omega)) <|
     hc (kMin (isZ (m := 1000000) rfl) (isX rfl) (denX rfl) (by omega)) <|
     hc (kCut (isX rfl) (.inl ⟨rfl, rfl⟩) (.inr ⟨_, _, rfl, (isX rfl)⟩) (p := ([] : LB)) (m := (RR5 body 8 (NN5 n body))) (q := ([] : LB)) (by first | rfl | (simp; done)) (by omega) (by omega) (denX rfl)) <|
     hc (byC rfl rfl (by omega)) <|
     hc (ftV rfl (by omega)) <|
     hc (lnV rfl rfl (by omega)) <|
     hc (kCut (isX rfl) (.inr ⟨_, _, rfl, (isX rfl)⟩) (.inl ⟨rfl, rfl⟩) (p := (RR5 body 8 (NN5 n body))) (m := ([] : LB)) (q := ([] : LB)) (by first | rfl | (simp; done)) (by omega) (by omega) (denX rfl)) <|
     hc (kSub (isZ (m := 1000000) rfl) (isX rfl) (denX rfl) (by omega) (fI64 (by omega) (by omega))) <|
     hc (gtcT rfl (by omega)) <|
     hc (kNeS (isX rfl) (isSx (l := ([] : LB)) 0 0 rfl) (bnF (decide_eq_true rfl))) <|
     hc (ctV rfl rfl rfl (by omega)) <|
     hc (ct0 rfl rfl (by first | omega | (rw [List.length_append]; omega) | (simp <;> omega))) <|
     hc (ct0 rfl rfl (by first | omega | (rw [List.length_append]; omega) | (simp <;> omega))) <|
     hc (eqZ rfl (by omega)) <|
     hc (kCat (isX rfl) (isX rfl) (denX rfl) (by first | rfl | (simp; done)) (by first | omega | (simp <;> omega))) <|
     hc (kCat (isX rfl) (isX rfl) (denX rfl) (by first | rfl | (simp; done)) (by first | omega | (simp <;> omega))) <|
     hc (kCat (isX rfl) (isX rfl) (denX rfl) (by first | rfl | (simp; done)) (by first | omega | (simp <;> omega))) <|
     hc (kCat (isX rfl) (isX rfl) (denX rfl) (by first | rfl | (simp; done)) (by first | omega | (simp <;> omega))) <|
     hc (eqZ rfl (by omega)) <|
     hc (kCat (isX rfl) (isSx (l := ([] : LB)) 0 0 rfl) (denX rfl) (by first | rfl | (simp; done)) (by first | omega | (simp <;> omega))) <|
     hnil
  exact finU (nu := nuL (nu37 n body)) (one := one37 n body) rfl rfl ho run37 rfl rfl (dW5 (l := lfd149) (h := lhd149) body (by omega) rfl (by kernel_rfl) (zi := 6) (ri := 13) (pi := 17) rfl rfl rfl (sg0 := [(100, 72), (102, 71), (103, 70)]) (t := 18) (rr := 19) (by kernel_rfl) rfl rfl (by kernel_rfl)) rfl rfl (dD5 (l := lfd150) (h := lhd150) body (by omega) (NN5 n body) (by omega) (by omega) 8 hjk rfl (by kernel_rfl) (ni := 26) rfl (zi := 6) (ri := 13) (pi := 17) rfl rfl rfl (sg0 := [(320, 290), (322, 36), (323, 35)]) (t := 27) (rr := 28) (by kernel_rfl) rfl rfl (by kernel_rfl)) rfl rfl (cC5 (l := lfc152) (h := lhc152) body (by omega) 8 8 (by decide) rfl c5_8 rfl (by kernel_rfl) (xs := 39) (sg0 := [(1000, 561)]) rfl (cK5 body 8 (NN5 n body) rfl) (by kernel_rfl) (thx := [(6, .x 20), (13, .x 21), (17, .x 22)]) (thc3 rfl rfl rfl) (by kernel_rfl)) w hl
def hy38 : LK := hp5 ++ [(.byt (.x 18) (i6 0), .x 20), (.len (.x 18), .x 21), (.fit (.x 18), .b true), (.conv 3 (.x 0), .x 22), (.bin .add (.x 18) (.s 1 120), .x 23), (.len (.x 23), .x 24), (.bin .rem (.x 22) (.x 24), .x 25), (.bin .add (.x 25) (i6 1), .x 26), (.byt (.x 27) (i6 0), .x 29), (.len (.x 27), .x 30), (.fit (.x 27), .b true), (.bin .neq (.x 28) (.s 0 0), .b false), (.bin .add (.x 27) (.s 0 0), .x 31), (.bin .add (.s 0 0) (.x 31), .x 32), (.bin .add (.s 0 0) (.x 6), .x 6), (.bin .eql (.x 6) (.s 0 0), .b false), (.bin .add (.x 6) (.x 6), .x 33), (.bin .add (.x 33) (.x 6), .x 34), (.bin .add (.x 34) (.x 6), .x 35), (.bin .add (.x 35) (.x 13), .x 36), (.bin .eql (.x 13) (.s 0 0), .b false), (.bin .add (.x 36) (.s 0 0), .x 36)]
def lhd153 : LH := ⟨2, 100, 290, stG (.s 0 0) (.x 6) (.x 13) (.x 17) 39 37 38 71 70 5 0 ++ blD 72 0 0, stG (.x 19) (.x 6) (.x 13) (.x 17) 39 37 38 102 103 5 8 ++ blT 100 101 18⟩
def lfd153 : LF := ⟨2, 47, [(0, .p 39 0), (1, i6 1000000), (5, .p 72 0)], [], .exit 0, [(5, .p 100 0)], some lhd153⟩
def lhd154 : LH := ⟨2, 320, 510, stG (.s 0 0) (.x 6) (.x 13) (.x 17) 4 2 3 36 35 5 0 ++ blD 290 0 0, stG (.x 28) (.x 6) (.x 13) (.x 17) 4 2 3 322 323 5 8 ++ blT 320 321 27⟩
def lfd154 : LF := ⟨2, 47, [(0, .p 4 0), (1, .x 26), (5, .p 290 0)], [], .exit 0, [(5, .p 320 0)], some lhd154⟩
def lhc156 : LH := ⟨2, 1000, 1060, [(560, .b ⟨79, .l [i6 65535, .x 32, .b false], 0, 0, 0, false, false⟩)], [rowK (.x 6) (.x 13) (.x 17) (ksT 5 8)]⟩
def lfc156 : LF := ⟨5, 87, [(0, .p 560 0), (6, .nils)], [], .ret, [(4, .sl 1001 0 8 0 true), (5, i6 0)], some lhc156⟩
noncomputable def tab38 : Tab := tabU hy38 lfd153 lfd154 lfc156
theorem run38 (e : Nat) : Go.AX.okB (call tab38 9000 3 [.x 0, .x 1] ⟨H0 e , 2, 0, 0⟩) = true := by kernel_rfl
noncomputable def nu38 (n : Int) (body : Int) : List Value := pn5 n body ++ [St' (AL5 body), St' ([] : LB), .int .u8 (bt (AL5 body) 0), .int .i64 (((AL5 body).length : Int)), .int .i64 (n), St' ((AL5 body) ++ [u8 120]), .int .i64 (((AL5 body).length : Int) + 1), .int .i64 (n % (((AL5 body).length : Int) + 1)), .int .i64 ((n % (((AL5 body).length : Int) + 1)) + 1), St' (TT5 body 8 (NN5 n body)), St' (RR5 body 8 (NN5 n body)), .int .u8 (bt (TT5 body 8 (NN5 n body)) 0), .int .i64 (((TT5 body 8 (NN5 n body)).length : Int)), St' (TT5 body 8 (NN5 n body)), St' (TT5 body 8 (NN5 n body)), St' ((List.replicate (Int.toNat (512)) 0) ++ (List.replicate (Int.toNat (512)) 0)), St' ((List.replicate (Int.toNat (512)) 0) ++ ((List.replicate (Int.toNat (512)) 0) ++ (List.replicate (Int.toNat (512)) 0))), St' ((List.replicate (Int.toNat (512)) 0) ++ ((List.replicate (Int.toNat (512)) 0) ++ ((List.replicate (Int.toNat (512)) 0) ++ (List.replicate (Int.toNat (512)) 0)))), St' ((List.replicate (Int.toNat (512)) 0) ++ ((List.replicate (Int.toNat (512)) 0) ++ ((List.replicate (Int.toNat (512)) 0) ++ ((List.replicate (Int.toNat (512)) 0) ++ (List.replicate (Int.toNat ((body % 3000) - 2048)) 0)))))]
theorem one38 (n : Int) (body : Int) : ∀ j, j < 1000000 → (nuL (nu38 n body) j).oneCell' = true := fun j _ => nuL_one (l := nu38 n body) rfl j
theorem path38 (n : Int) (body : Int) (b0 : 0 ≤ n) (b1 : n ≤ 65535) (b2 : 0 ≤ body) (b3 : body ≤ 65535) (h0 : 512 < (body % 3000)) (h1 : 512 < (body % 3000) - 512) (h2 : 512 < (body % 3000) - 1024) (h3 : 512 < (body % 3000) - 1536) (h4 : ¬ (512 < (body % 3000) - 2048)) (h7 : ¬ ((NN5 n body) ≤ LC5 body 1)) (h8 : ¬ ((NN5 n body) ≤ LC5 body 2)) (h9 : ¬ ((NN5 n body) ≤ LC5 body 3)) (h10 : ¬ ((NN5 n body) ≤ LC5 body 4)) (h11 : ¬ ((NN5 n body) ≤ LC5 body 5)) (h12 : ¬ ((NN5 n body) ≤ LC5 body 6)) (h13 : ¬ ((NN5 n body) ≤ LC5 body 7)) (h14 : (RR5 body 8 (NN5 n body)).length = 0) (w : World) (hl : laidE w) : CwR 3 #[.int .u16 n, .int .u16 body] w (.bool true) := by
  have hn0 : ([] : LB).length = 0 := rfl
  have hAL := al5 body (by omega)
  have := em5 n body
  have hNN : NN5 n body = (n % (((AL5 body).length : Int) + 1)) + 1 := rfl
  have hjk := jk5 body 8 (NN5 n body) (by decide) (fun _ => by show LC5 body 7 < (NN5 n body); omega) (.inr rfl)
  have hTT := tt5 body (by omega) 8 (NN5 n body) (by omega) hjk
  have ho : ∀ k r, (k, r) ∈ hy38 → HOk (cx (nuL (nu38 n body)) (one38 n body) 1 laidE laidE_stab) k r := by
    unfold hy38
    exact hc (rm3 rfl rfl (by omega)) <|
     hc (cvV tu3 rfl rfl (by omega)) <|
     hc (kZer (isX rfl) (by omega) (by omega) (denX rfl)) <|
     hc (lnR rfl rfl (by omega)) <|
     hc (gtcT rfl (by omega)) <|
     hc (rT rfl (by omega) rfl) <|
     hc (l512 rfl) <|
     hc (rD rfl rfl (by omega)) <|
     hc (lnR rfl rfl (by omega)) <|
     hc (gtcT rfl (by omega)) <|
     hc (rT rfl (by omega) rfl) <|
     hc (rD rfl rfl (by omega)) <|
     hc (lnR rfl rfl (by omega)) <|
     hc (gtcT rfl (by omega)) <|
     hc (rT rfl (by omega) rfl) <|
     hc (rD rfl rfl (by omega)) <|
     hc (lnR rfl rfl (by omega)) <|
     hc (gtcT rfl (by omega)) <|
     hc (rT rfl (by omega) rfl) <|
     hc (rD rfl rfl (by omega)) <|
     hc (lnR rfl rfl (by omega)) <|
     hc (gtcF rfl (by omega)) <|
     hc (neZ rfl (by omega)) <|
     hc (kMax (isX rfl) (isZ (m := 0) rfl) (denX rfl) (by omega)) <|
     hc (ngV rfl rfl (by omega)) <|
     hc (aG rfl rfl (by omega)) <|
     hc (byC rfl rfl (by omega)) <|
     hc (lnV rfl rfl (by omega)) <|
     hc (ftV rfl (by omega)) <|
     hc (cvV tu3 rfl rfl (by omega)) <|
     hc (c120 rfl rfl (by omega)) <|
     hc (l120 rfl rfl) <|
     hc (rmV rfl rfl rfl (by omega)) <|
     hc (adC rfl rfl (by omega)) <|
     hc (byC rfl rfl (by omega)) <|
     hc (lnV rfl rfl (by omega)) <|
     hc (ftV rfl (by omega)) <|
     hc (kNeS (isX rfl) (isSx (l := ([] : LB)) 0 0 rfl) (bnF (nilT (by omega)))) <|
     hc (kCat (isX rfl) (isSx (l := ([] : LB)) 0 0 rfl) (denX rfl) (by first | rfl | (simp; done)) (by omega)) <|
     hc (ct0 rfl rfl (by first | omega | (rw [List.length_append]; omega) | (simp <;> omega))) <|
     hc (ct0 rfl rfl (by first | omega | (rw [List.length_append]; omega) | (simp <;> omega))) <|
     hc (eqZ rfl (by omega)) <|
     hc (kCat (isX rfl) (isX rfl) (denX rfl) (by first | rfl | (simp; done)) (by first | omega | (simp <;> omega))) <|
     hc (kCat (isX rfl) (isX rfl) (denX rfl) (by first | rfl | (simp; done)) (by first | omega | (simp <;> omega))) <|
     hc (kCat (isX rfl) (isX rfl) (denX rfl) (by first | rfl | (simp; done)) (by first | omega | (simp <;> omega))) <|
     hc (kCat (isX rfl) (isX rfl) (denX rfl) (by first | rfl | (simp; done)) (by first | omega | (simp <;> omega))) <|
     hc (eqZ rfl (by omega)) <|
     hc (kCat (isX rfl) (isSx (l := ([] : LB)) 0 0 rfl) (denX rfl) (by first | rfl | (simp; done)) (by first | omega | (simp <;> omega))) <|
     hnil
  exact finU (nu := nuL (nu38 n body)) (one := one38 n body) rfl rfl ho run38 rfl rfl (dW5 (l := lfd153) (h := lhd153) body (by omega) rfl (by kernel_rfl) (zi := 6) (ri := 13) (pi := 17) rfl rfl rfl (sg0 := [(100, 72), (102, 71), (103, 70)]) (t := 18) (rr := 19) (by kernel_rfl) rfl rfl (by kernel_rfl)) rfl rfl (dD5 (l := lfd154) (h := lhd154) body (by omega) (NN5 n body) (by omega) (by omega) 8 hjk rfl (by kernel_rfl) (ni := 26) rfl (zi := 6) (ri := 13) (pi := 17) rfl rfl rfl (sg0 := [(320, 290), (322, 36), (323, 35)]) (t := 27) (rr := 28) (by kernel_rfl) rfl rfl (by kernel_rfl)) rfl rfl (cC5 (l := lfc156) (h := lhc156) body (by omega) 8 8 (by decide) rfl c5_8 rfl (by kernel_rfl) (xs := 32) (sg0 := [(1000, 560)]) rfl (cO5 body 8 (NN5 n body) rfl (by assumption)) (by kernel_rfl) (thx := [(6, .x 20), (13, .x 21), (17, .x 22)]) (thc3 rfl rfl rfl) (by kernel_rfl)) w hl
def hy39 : LK := hp6 ++ [(.byt (.x 20) (i6 0), .x 22), (.len (.x 20), .x 23), (.fit (.x 20), .b true), (.conv 3 (.x 0), .x 24), (.bin .add (.x 20) (.s 1 120), .x 25), (.len (.x 25), .x 26), (.bin .rem (.x 24) (.x 26), .x 27), (.bin .add (.x 27) (i6 1), .x 28), (.byt (.x 29) (i6 0), .x 31), (.len (.x 29), .x 32), (.fit (.x 29), .b true), (.byt (.x 33) (i6 0), .x 35), (.len (.x 33), .x 36), (.fit (.x 33), .b true), (.bin .add (.x 29) (.x 33), .x 37), (.bin .add (.s 0 0) (.x 37), .x 38)]
def lhd157 : LH := ⟨2, 100, 290, stG (.s 0 0) (.x 6) (.x 15) (.x 19) 42 40 41 77 76 6 0 ++ blD 78 0 0, stG (.x 21) (.x 6) (.x 15) (.x 19) 42 40 41 102 103 6 9 ++ blT 100 101 20⟩
def lfd157 : LF := ⟨2, 47, [(0, .p 42 0), (1, i6 1000000), (5, .p 78 0)], [], .exit 0, [(5, .p 100 0)], some lhd157⟩
def lhd158 : LH := ⟨2, 320, 510, stG (.s 0 0) (.x 6) (.x 15) (.x 19) 4 2 3 39 38 6 0 ++ blD 290 0 0, stG (.x 30) (.x 6) (.x 15) (.x 19) 4 2 3 322 323 6 1 ++ blT 320 321 29⟩
def lfd158 : LF := ⟨2, 47, [(0, .p 4 0), (1, .x 28), (5, .p 290 0)], [], .exit 0, [(5, .p 320 0)], some lhd158⟩
def lhd159 : LH := ⟨2, 700, 890, stH (.x 30) (.sl 552 0 1 0 true) 322 548 0 ++ blD 561 0 0, stH (.x 34) (.sl 552 0 1 0 true) 702 703 1 ++ blT 700 701 33⟩
def lfd159 : LF := ⟨2, 47, [(0, .p 4 0), (1, i6 1000000), (5, .p 561 0)], [], .exit 0, [(5, .p 700 0)], some lhd159⟩
def lhc160 : LH := ⟨2, 1000, 1060, [(890, .b ⟨79, .l [i6 65535, .x 38, .b false], 0, 0, 0, false, false⟩)], [rowK .und .und .und (ksT 6 1)]⟩
def lfc160 : LF := ⟨5, 87, [(0, .p 890 0), (6, .nils)], [], .ret, [(4, .sl 1001 0 2 0 true), (5, i6 0)], some lhc160⟩
noncomputable def tab39 : Tab := tabQ hy39 lfd157 lfd158 lfd159 lfc160
theorem run39 (e : Nat) : Go.AX.okB (call tab39 9000 3 [.x 0, .x 1] ⟨H0 e , 2, 0, 0⟩) = true := by kernel_rfl
noncomputable def nu39 (n : Int) (body : Int) : List Value := pn6 n body ++ [St' (AL6 body), St' ([] : LB), .int .u8 (bt (AL6 body) 0), .int .i64 (((AL6 body).length : Int)), .int .i64 (n), St' ((AL6 body) ++ [u8 120]), .int .i64 (((AL6 body).length : Int) + 1), .int .i64 (n % (((AL6 body).length : Int) + 1)), .int .i64 ((n % (((AL6 body).length : Int) + 1)) + 1), St' (TT6 body 1 (NN6 n body)), St' (RR6 body 1 (NN6 n body)), .int .u8 (bt (TT6 body 1 (NN6 n body)) 0), .int .i64 (((TT6 body 1 (NN6 n body)).length : Int)), St' ((RR6 body 1 (NN6 n body)) ++ abS), St' ([] : LB), .int .u8 (bt ((RR6 body 1 (NN6 n body)) ++ abS) 0), .int .i64 ((((RR6 body 1 (NN6 n body)) ++ abS).length : Int)), St' ((TT6 body 1 (NN6 n body)) ++ ((RR6 body 1 (NN6 n body)) ++ abS)), St' ((TT6 body 1 (NN6 n body)) ++ ((RR6 body 1 (NN6 n body)) ++ abS))]
theorem one39 (n : Int) (body : Int) : ∀ j, j < 1000000 → (nuL (nu39 n body) j).oneCell' = true := fun j _ => nuL_one (l := nu39 n body) rfl j
theorem path39 (n : Int) (body : Int) (b0 : 0 ≤ n) (b1 : n ≤ 65535) (b2 : 0 ≤ body) (b3 : body ≤ 65535) (h0 : 512 < (body % 3000)) (h1 : 512 < (body % 3000) - 512) (h2 : 512 < (body % 3000) - 1024) (h3 : 512 < (body % 3000) - 1536) (h4 : 512 < (body % 3000) - 2048) (h8 : (NN6 n body) ≤ LC6 body 1) (w : World) (hl : laidE w) : CwR 3 #[.int .u16 n, .int .u16 body] w (.bool true) := by
  have hn0 : ([] : LB).length = 0 := rfl
  have hAL := al6 body (by omega)
  have := em6 n body
  have hNN : NN6 n body = (n % (((AL6 body).length : Int) + 1)) + 1 := rfl
  have hL0 := lc6 body
  have hjk := jk6 body 1 (NN6 n body) (by decide) (fun _ => by show LC6 body 0 < (NN6 n body); omega) (.inl (by assumption))
  have hTT := tt6 body (by omega) 1 (NN6 n body) (by omega) hjk
  have ho : ∀ k r, (k, r) ∈ hy39 → HOk (cx (nuL (nu39 n body)) (one39 n body) 1 laidE laidE_stab) k r := by
    unfold hy39
    exact hc (rm3 rfl rfl (by omega)) <|
     hc (cvV tu3 rfl rfl (by omega)) <|
     hc (kZer (isX rfl) (by omega) (by omega) (denX rfl)) <|
     hc (lnR rfl rfl (by omega)) <|
     hc (gtcT rfl (by omega)) <|
     hc (rT rfl (by omega) rfl) <|
     hc (l512 rfl) <|
     hc (rD rfl rfl (by omega)) <|
     hc (lnR rfl rfl (by omega)) <|
     hc (gtcT rfl (by omega)) <|
     hc (rT rfl (by omega) rfl) <|
     hc (rD rfl rfl (by omega)) <|
     hc (lnR rfl rfl (by omega)) <|
     hc (gtcT rfl (by omega)) <|
     hc (rT rfl (by omega) rfl) <|
     hc (rD rfl rfl (by omega)) <|
     hc (lnR rfl rfl (by omega)) <|
     hc (gtcT rfl (by omega)) <|
     hc (rT rfl (by omega) rfl) <|
     hc (rD rfl rfl (by omega)) <|
     hc (lnR rfl rfl (by omega)) <|
     hc (gtcT rfl (by omega)) <|
     hc (rT rfl (by omega) rfl) <|
     hc (rD rfl rfl (by omega)) <|
     hc (lnR rfl rfl (by omega)) <|
     hc (gtcF rfl (by omega)) <|
     hc (neZ rfl (by omega)) <|
     hc (kMax (isX rfl) (isZ (m := 0) rfl) (denX rfl) (by omega)) <|
     hc (ngV rfl rfl (by omega)) <|
     hc (aG rfl rfl (by omega)) <|
     hc (byC rfl rfl (by omega)) <|
     hc (lnV rfl rfl (by omega)) <|
     hc (ftV rfl (by omega)) <|
     hc (cvV tu3 rfl rfl (by omega)) <|
     hc (c120 rfl rfl (by omega)) <|
     hc (l120 rfl rfl) <|
     hc (rmV rfl rfl rfl (by omega)) <|
     hc (adC rfl rfl (by omega)) <|
     hc (byC rfl rfl (by omega)) <|
     hc (lnV rfl rfl (by omega)) <|
     hc (ftV rfl (by omega)) <|
     hc (byC rfl rfl (by omega)) <|
     hc (lnV rfl rfl (by omega)) <|
     hc (ftV rfl (by omega)) <|
     hc (ctV rfl rfl rfl (by omega)) <|
     hc (ct0 rfl rfl (by first | omega | (rw [List.length_append]; omega) | (simp <;> omega))) <|
     hnil
  exact finQ (nu := nuL (nu39 n body)) (one := one39 n body) rfl rfl ho run39 rfl rfl (dW6 (l := lfd157) (h := lhd157) body (by omega) rfl (by kernel_rfl) (zi := 6) (ri := 15) (pi := 19) rfl rfl rfl (sg0 := [(100, 78), (102, 77), (103, 76)]) (t := 20) (rr := 21) (by kernel_rfl) rfl rfl (by kernel_rfl)) rfl rfl (dD6 (l := lfd158) (h := lhd158) body (by omega) (NN6 n body) (by omega) (by omega) 1 hjk rfl (by kernel_rfl) (ni := 28) rfl (zi := 6) (ri := 15) (pi := 19) rfl rfl rfl (sg0 := [(320, 290), (322, 39), (323, 38)]) (t := 29) (rr := 30) (by kernel_rfl) rfl rfl (by kernel_rfl)) rfl rfl (dF (l := lfd159) (h := lhd159) (RR6 body 1 (NN6 n body)) (by omega) rfl (by kernel_rfl) (ri := 30) (t := 33) (rr := 34) (sg0 := [(700, 561), (702, 322), (703, 548)]) rfl (by kernel_rfl) rfl rfl (by kernel_rfl)) rfl rfl (cC6 (l := lfc160) (h := lhc160) body (by omega) 1 2 (by decide) rfl c6_1 rfl (by kernel_rfl) (xs := 38) (sg0 := [(1000, 890)]) rfl (cJ6 body 1 (NN6 n body) rfl) (by kernel_rfl) (thx := []) (thc0) (by kernel_rfl)) w hl
end Go.Proofs.YtaihihejljcniaaGreatDoor.muxEarly
