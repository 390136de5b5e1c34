/- A part of the proof: an interpreter of the model's own code on partly known states, and that what it answers is what the program answers. No condition of its own. -/
import Derived.Test.YtaihihejljcniaaGreatDoorQ1MuxEarlyQ
set_option maxRecDepth 100000
set_option linter.unusedVariables false
set_option linter.unusedSimpArgs false
set_option maxHeartbeats 4000000
namespace Go.Proofs.YtaihihejljcniaaGreatDoor.muxEarly
open Go Go.AX Go.Proofs Go.Proofs.YtaihihejljcniaaGreatDoor
def hy45 : LK := hp6 ++ [(.byt (.x 20) (i6 0), .x 22), (.len (.x 20), .x 23), (.fit (.x 20), .b true), (.conv 3 (.x 0), .x 24), (.bin .add (.x 20) (.s 1 120), .x 25), (.len (.x 25), .x 26), (.bin .rem (.x 24) (.x 26), .x 27), (.bin .add (.x 27) (i6 1), .x 28), (.byt (.x 29) (i6 0), .x 31), (.len (.x 29), .x 32), (.fit (.x 29), .b true), (.byt (.x 33) (i6 0), .x 35), (.len (.x 33), .x 36), (.fit (.x 33), .b true), (.bin .add (.x 29) (.x 33), .x 37), (.bin .add (.s 0 0) (.x 37), .x 38), (.bin .add (.s 0 0) (.x 6), .x 6), (.bin .eql (.x 6) (.s 0 0), .b false), (.bin .add (.x 6) (.x 6), .x 39), (.bin .add (.x 39) (.x 6), .x 40), (.bin .add (.x 40) (.x 6), .x 41), (.bin .add (.x 41) (.x 6), .x 42)]
def lhd181 : LH := ⟨2, 100, 290, stG (.s 0 0) (.x 6) (.x 15) (.x 19) 42 40 41 77 76 6 0 ++ blD 78 0 0, stG (.x 21) (.x 6) (.x 15) (.x 19) 42 40 41 102 103 6 9 ++ blT 100 101 20⟩
def lfd181 : LF := ⟨2, 47, [(0, .p 42 0), (1, i6 1000000), (5, .p 78 0)], [], .exit 0, [(5, .p 100 0)], some lhd181⟩
def lhd182 : LH := ⟨2, 320, 510, stG (.s 0 0) (.x 6) (.x 15) (.x 19) 4 2 3 39 38 6 0 ++ blD 290 0 0, stG (.x 30) (.x 6) (.x 15) (.x 19) 4 2 3 322 323 6 7 ++ blT 320 321 29⟩
def lfd182 : LF := ⟨2, 47, [(0, .p 4 0), (1, .x 28), (5, .p 290 0)], [], .exit 0, [(5, .p 320 0)], some lhd182⟩
def lhd183 : LH := ⟨2, 700, 890, stH (.x 30) (.sl 552 0 1 0 true) 322 548 0 ++ blD 561 0 0, stH (.x 34) (.sl 552 0 1 0 true) 702 703 1 ++ blT 700 701 33⟩
def lfd183 : LF := ⟨2, 47, [(0, .p 4 0), (1, i6 1000000), (5, .p 561 0)], [], .exit 0, [(5, .p 700 0)], some lhd183⟩
def lhc184 : LH := ⟨2, 1000, 1060, [(890, .b ⟨79, .l [i6 65535, .x 38, .b false], 0, 0, 0, false, false⟩)], [rowK (.x 6) .und .und (ksT 6 7)]⟩
def lfc184 : LF := ⟨5, 87, [(0, .p 890 0), (6, .nils)], [], .ret, [(4, .sl 1001 0 8 0 true), (5, i6 0)], some lhc184⟩
noncomputable def tab45 : Tab := tabQ hy45 lfd181 lfd182 lfd183 lfc184
theorem run45 (e : Nat) : Go.AX.okB (call tab45 9000 3 [.x 0, .x 1] ⟨H0 e , 2, 0, 0⟩) = true := by kernel_rfl
noncomputable def nu45 (n : Int) (body : Int) : List Value := pn6 n body ++ [St' (AL6 body), St' ([] : LB), .int .u8 (bt (AL6 body) 0), .int .i64 (((AL6 body).length : Int)), .int .i64 (n), St' ((AL6 body) ++ [u8 120]), .int .i64 (((AL6 body).length : Int) + 1), .int .i64 (n % (((AL6 body).length : Int) + 1)), .int .i64 ((n % (((AL6 body).length : Int) + 1)) + 1), St' (TT6 body 7 (NN6 n body)), St' (RR6 body 7 (NN6 n body)), .int .u8 (bt (TT6 body 7 (NN6 n body)) 0), .int .i64 (((TT6 body 7 (NN6 n body)).length : Int)), St' ((RR6 body 7 (NN6 n body)) ++ abS), St' ([] : LB), .int .u8 (bt ((RR6 body 7 (NN6 n body)) ++ abS) 0), .int .i64 ((((RR6 body 7 (NN6 n body)) ++ abS).length : Int)), St' ((TT6 body 7 (NN6 n body)) ++ ((RR6 body 7 (NN6 n body)) ++ abS)), St' ((TT6 body 7 (NN6 n body)) ++ ((RR6 body 7 (NN6 n body)) ++ abS)), St' ((List.replicate (Int.toNat (512)) 0) ++ (List.replicate (Int.toNat (512)) 0)), St' ((List.replicate (Int.toNat (512)) 0) ++ ((List.replicate (Int.toNat (512)) 0) ++ (List.replicate (Int.toNat (512)) 0))), St' ((List.replicate (Int.toNat (512)) 0) ++ ((List.replicate (Int.toNat (512)) 0) ++ ((List.replicate (Int.toNat (512)) 0) ++ (List.replicate (Int.toNat (512)) 0)))), St' ((List.replicate (Int.toNat (512)) 0) ++ ((List.replicate (Int.toNat (512)) 0) ++ ((List.replicate (Int.toNat (512)) 0) ++ ((List.replicate (Int.toNat (512)) 0) ++ (List.replicate (Int.toNat (512)) 0)))))]
theorem one45 (n : Int) (body : Int) : ∀ j, j < 1000000 → (nuL (nu45 n body) j).oneCell' = true := fun j _ => nuL_one (l := nu45 n body) rfl j
theorem path45 (n : Int) (body : Int) (b0 : 0 ≤ n) (b1 : n ≤ 65535) (b2 : 0 ≤ body) (b3 : body ≤ 65535) (h0 : 512 < (body % 3000)) (h1 : 512 < (body % 3000) - 512) (h2 : 512 < (body % 3000) - 1024) (h3 : 512 < (body % 3000) - 1536) (h4 : 512 < (body % 3000) - 2048) (h8 : ¬ ((NN6 n body) ≤ LC6 body 1)) (h9 : ¬ ((NN6 n body) ≤ LC6 body 2)) (h10 : ¬ ((NN6 n body) ≤ LC6 body 3)) (h11 : ¬ ((NN6 n body) ≤ LC6 body 4)) (h12 : ¬ ((NN6 n body) ≤ LC6 body 5)) (h13 : ¬ ((NN6 n body) ≤ LC6 body 6)) (h14 : (NN6 n body) ≤ LC6 body 7) (w : World) (hl : laidE w) : CwR 3 #[.int .u16 n, .int .u16 body] w (.bool true) := by
  have hn0 : ([] : LB).length = 0 := rfl
  have hAL := al6 body (by omega)
  have := em6 n body
  have hNN : NN6 n body = (n % (((AL6 body).length : Int) + 1)) + 1 := rfl
  have hjk := jk6 body 7 (NN6 n body) (by decide) (fun _ => by show LC6 body 6 < (NN6 n body); omega) (.inl (by assumption))
  have hTT := tt6 body (by omega) 7 (NN6 n body) (by omega) hjk
  have ho : ∀ k r, (k, r) ∈ hy45 → HOk (cx (nuL (nu45 n body)) (one45 n body) 1 laidE laidE_stab) k r := by
    unfold hy45
    exact hc (rm3 rfl rfl (by omega)) <|
     hc (cvV tu3 rfl rfl (by omega)) <|
     hc (kZer (isX rfl) (by omega) (by omega) (denX rfl)) <|
     hc (lnR rfl rfl (by omega)) <|
     hc (gtcT rfl (by omega)) <|
     hc (rT rfl (by omega) rfl) <|
     hc (l512 rfl) <|
     hc (rD rfl rfl (by omega)) <|
     hc (lnR rfl rfl (by omega)) <|
     hc (gtcT rfl (by omega)) <|
     hc (rT rfl (by omega) rfl) <|
     hc (rD rfl rfl (by omega)) <|
     hc (lnR rfl rfl (by omega)) <|
     hc (gtcT rfl (by omega)) <|
     hc (rT rfl (by omega) rfl) <|
     hc (rD rfl rfl (by omega)) <|
     hc (lnR rfl rfl (by omega)) <|
     hc (gtcT rfl (by omega)) <|
     hc (rT rfl (by omega) rfl) <|
     hc (rD rfl rfl (by omega)) <|
     hc (lnR rfl rfl (by omega)) <|
     hc (gtcT rfl (by omega)) <|
     hc (rT rfl (by omega) rfl) <|
     hc (rD rfl rfl (by omega)) <|
     hc (lnR rfl rfl (by omega)) <|
     hc (gtcF rfl (by omega)) <|
     hc (neZ rfl (by omega)) <|
     hc (kMax (isX rfl) (isZ (m := 0) rfl) (denX rfl) (by omega)) <|
     hc (ngV rfl rfl (by omega)) <|
     hc (aG rfl rfl (by omega)) <|
     hc (byC rfl rfl (by omega)) <|
     hc (lnV rfl rfl (by omega)) <|
     hc (ftV rfl (by omega)) <|
     hc (cvV tu3 rfl rfl (by omega)) <|
     hc (c120 rfl rfl (by omega)) <|
     hc (l120 rfl rfl) <|
     hc (rmV rfl rfl rfl (by omega)) <|
     hc (adC rfl rfl (by omega)) <|
     hc (byC rfl rfl (by omega)) <|
     hc (lnV rfl rfl (by omega)) <|
     hc (ftV rfl (by omega)) <|
     hc (byC rfl rfl (by omega)) <|
     hc (lnV rfl rfl (by omega)) <|
     hc (ftV rfl (by omega)) <|
     hc (ctV rfl rfl rfl (by omega)) <|
     hc (ct0 rfl rfl (by first | omega | (rw [List.length_append]; omega) | (simp <;> omega))) <|
     hc (ct0 rfl rfl (by first | omega | (rw [List.length_append]; omega) | (simp <;> omega))) <|
     hc (eqZ rfl (by omega)) <|
     hc (kCat (isX rfl) (isX rfl) (denX rfl) (by first | rfl | (simp; done)) (by first | omega | (simp <;> omega))) <|
     hc (kCat (isX rfl) (isX rfl) (denX rfl) (by first | rfl | (simp; done)) (by first | omega | (simp <;> omega))) <|
     hc (kCat (isX rfl) (isX rfl) (denX rfl) (by first | rfl | (simp; done)) (by first | omega | (simp <;> omega))) <|
     hc (kCat (isX rfl) (isX rfl) (denX rfl) (by first | rfl | (simp; done)) (by first | omega | (simp <;> omega))) <|
     hnil
  exact finQ (nu := nuL (nu45 n body)) (one := one45 n body) rfl rfl ho run45 rfl rfl (dW6 (l := lfd181) (h := lhd181) body (by omega) rfl (by kernel_rfl) (zi := 6) (ri := 15) (pi := 19) rfl rfl rfl (sg0 := [(100, 78), (102, 77), (103, 76)]) (t := 20) (rr := 21) (by kernel_rfl) rfl rfl (by kernel_rfl)) rfl rfl (dD6 (l := lfd182) (h := lhd182) body (by omega) (NN6 n body) (by omega) (by omega) 7 hjk rfl (by kernel_rfl) (ni := 28) rfl (zi := 6) (ri := 15) (pi := 19) rfl rfl rfl (sg0 := [(320, 290), (322, 39), (323, 38)]) (t := 29) (rr := 30) (by kernel_rfl) rfl rfl (by kernel_rfl)) rfl rfl (dF (l := lfd183) (h := lhd183) (RR6 body 7 (NN6 n body)) (by omega) rfl (by kernel_rfl) (ri := 30) (t := 33) (rr := 34) (sg0 := [(700, 561), (702, 322), (703, 548)]) rfl (by kernel_rfl) rfl rfl (by kernel_rfl)) rfl rfl (cC6 (l := lfc184) (h := lhc184) body (by omega) 7 8 (by decide) rfl c6_7 rfl (by kernel_rfl) (xs := 38) (sg0 := [(1000, 890)]) rfl (cJ6 body 7 (NN6 n body) rfl) (by kernel_rfl) (thx := [(6, .x 20)]) (thc1 rfl) (by kernel_rfl)) w hl
def hy46 : LK := hp6 ++ [(.byt (.x 20) (i6 0), .x 22), (.len (.x 20), .x 23), (.fit (.x 20), .b true), (.conv 3 (.x 0), .x 24), (.bin .add (.x 20) (.s 1 120), .x 25), (.len (.x 25), .x 26), (.bin .rem (.x 24) (.x 26), .x 27), (.bin .add (.x 27) (i6 1), .x 28), (.byt (.x 29) (i6 0), .x 31), (.len (.x 29), .x 32), (.fit (.x 29), .b true), (.byt (.x 33) (i6 0), .x 35), (.len (.x 33), .x 36), (.fit (.x 33), .b true), (.bin .add (.x 29) (.x 33), .x 37), (.bin .add (.s 0 0) (.x 37), .x 38), (.bin .add (.s 0 0) (.x 6), .x 6), (.bin .eql (.x 6) (.s 0 0), .b false), (.bin .add (.x 6) (.x 6), .x 39), (.bin .add (.x 39) (.x 6), .x 40), (.bin .add (.x 40) (.x 6), .x 41), (.bin .add (.x 41) (.x 6), .x 42), (.bin .add (.x 42) (.x 15), .x 43), (.bin .eql (.x 15) (.s 0 0), .b false)]
def lhd185 : LH := ⟨2, 100, 290, stG (.s 0 0) (.x 6) (.x 15) (.x 19) 42 40 41 77 76 6 0 ++ blD 78 0 0, stG (.x 21) (.x 6) (.x 15) (.x 19) 42 40 41 102 103 6 9 ++ blT 100 101 20⟩
def lfd185 : LF := ⟨2, 47, [(0, .p 42 0), (1, i6 1000000), (5, .p 78 0)], [], .exit 0, [(5, .p 100 0)], some lhd185⟩
def lhd186 : LH := ⟨2, 320, 510, stG (.s 0 0) (.x 6) (.x 15) (.x 19) 4 2 3 39 38 6 0 ++ blD 290 0 0, stG (.x 30) (.x 6) (.x 15) (.x 19) 4 2 3 322 323 6 8 ++ blT 320 321 29⟩
def lfd186 : LF := ⟨2, 47, [(0, .p 4 0), (1, .x 28), (5, .p 290 0)], [], .exit 0, [(5, .p 320 0)], some lhd186⟩
def lhd187 : LH := ⟨2, 700, 890, stH (.x 30) (.sl 552 0 1 0 true) 322 548 0 ++ blD 561 0 0, stH (.x 34) (.sl 552 0 1 0 true) 702 703 1 ++ blT 700 701 33⟩
def lfd187 : LF := ⟨2, 47, [(0, .p 4 0), (1, i6 1000000), (5, .p 561 0)], [], .exit 0, [(5, .p 700 0)], some lhd187⟩
def lhc188 : LH := ⟨2, 1000, 1060, [(890, .b ⟨79, .l [i6 65535, .x 38, .b false], 0, 0, 0, false, false⟩)], [rowK (.x 6) (.x 15) (.x 19) (ksT 6 8)]⟩
def lfc188 : LF := ⟨5, 87, [(0, .p 890 0), (6, .nils)], [], .ret, [(4, .sl 1001 0 9 0 true), (5, i6 0)], some lhc188⟩
noncomputable def tab46 : Tab := tabQ hy46 lfd185 lfd186 lfd187 lfc188
theorem run46 (e : Nat) : Go.AX.okB (call tab46 9000 3 [.x 0, .x 1] ⟨H0 e , 2, 0, 0⟩) = true := by kernel_rfl
noncomputable def nu46 (n : Int) (body : Int) : List Value := pn6 n body ++ [St' (AL6 body), St' ([] : LB), .int .u8 (bt (AL6 body) 0), .int .i64 (((AL6 body).length : Int)), .int .i64 (n), St' ((AL6 body) ++ [u8 120]), .int .i64 (((AL6 body).length : Int) + 1), .int .i64 (n % (((AL6 body).length : Int) + 1)), .int .i64 ((n % (((AL6 body).length : Int) + 1)) + 1), St' (TT6 body 8 (NN6 n body)), St' (RR6 body 8 (NN6 n body)), .int .u8 (bt (TT6 body 8 (NN6 n body)) 0), .int .i64 (((TT6 body 8 (NN6 n body)).length : Int)), St' ((RR6 body 8 (NN6 n body)) ++ abS), St' ([] : LB), .int .u8 (bt ((RR6 body 8 (NN6 n body)) ++ abS) 0), .int .i64 ((((RR6 body 8 (NN6 n body)) ++ abS).length : Int)), St' ((TT6 body 8 (NN6 n body)) ++ ((RR6 body 8 (NN6 n body)) ++ abS)), St' ((TT6 body 8 (NN6 n body)) ++ ((RR6 body 8 (NN6 n body)) ++ abS)), St' ((List.replicate (Int.toNat (512)) 0) ++ (List.replicate (Int.toNat (512)) 0)), St' ((List.replicate (Int.toNat (512)) 0) ++ ((List.replicate (Int.toNat (512)) 0) ++ (List.replicate (Int.toNat (512)) 0))), St' ((List.replicate (Int.toNat (512)) 0) ++ ((List.replicate (Int.toNat (512)) 0) ++ ((List.replicate (Int.toNat (512)) 0) ++ (List.replicate (Int.toNat (512)) 0)))), St' ((List.replicate (Int.toNat (512)) 0) ++ ((List.replicate (Int.toNat (512)) 0) ++ ((List.replicate (Int.toNat (512)) 0) ++ ((List.replicate (Int.toNat (512)) 0) ++ (List.replicate (Int.toNat (512)) 0))))), St' ((List.replicate (Int.toNat (512)) 0) ++ ((List.replicate (Int.toNat (512)) 0) ++ ((List.replicate (Int.toNat (512)) 0) ++ ((List.replicate (Int.toNat (512)) 0) ++ ((List.replicate (Int.toNat (512)) 0) ++ (List.replicate (Int.toNat ((body % 3000) - 2560)) 0))))))]
theorem one46 (n : Int) (body : Int) : ∀ j, j < 1000000 → (nuL (nu46 n body) j).oneCell' = true := fun j _ => nuL_one (l := nu46 n body) rfl j
theorem path46 (n : Int) (body : Int) (b0 : 0 ≤ n) (b1 : n ≤ 65535) (b2 : 0 ≤ body) (b3 : body ≤ 65535) (h0 : 512 < (body % 3000)) (h1 : 512 < (body % 3000) - 512) (h2 : 512 < (body % 3000) - 1024) (h3 : 512 < (body % 3000) - 1536) (h4 : 512 < (body % 3000) - 2048) (h8 : ¬ ((NN6 n body) ≤ LC6 body 1)) (h9 : ¬ ((NN6 n body) ≤ LC6 body 2)) (h10 : ¬ ((NN6 n body) ≤ LC6 body 3)) (h11 : ¬ ((NN6 n body) ≤ LC6 body 4)) (h12 : ¬ ((NN6 n body) ≤ LC6 body 5)) (h13 : ¬ ((NN6 n body) ≤ LC6 body 6)) (h14 : ¬ ((NN6 n body) ≤ LC6 body 7)) (h15 : (NN6 n body) ≤ LC6 body 8) (w : World) (hl : laidE w) : CwR 3 #[.int .u16 n, .int .u16 body] w (.bool true) := by
  have hn0 : ([] : LB).length = 0 := rfl
  have hAL := al6 body (by omega)
  have := em6 n body
  have hNN : NN6 n body = (n % (((AL6 body).length : Int) + 1)) + 1 := rfl
  have hjk := jk6 body 8 (NN6 n body) (by decide) (fun _ => by show LC6 body 7 < (NN6 n body); omega) (.inl (by assumption))
  have hTT := tt6 body (by omega) 8 (NN6 n body) (by omega) hjk
  have ho : ∀ k r, (k, r) ∈ hy46 → HOk (cx (nuL (nu46 n body)) (one46 n body) 1 laidE laidE_stab) k r := by
    unfold hy46
    exact hc (rm3 rfl rfl (by omega)) <|
     hc (cvV tu3 rfl rfl (by omega)) <|
     hc (kZer (isX rfl) (by omega) (by omega) (denX rfl)) <|
     hc (lnR rfl rfl (by omega)) <|
     hc (gtcT rfl (by omega)) <|
     hc (rT rfl (by omega) rfl) <|
     hc (l512 rfl) <|
     hc (rD rfl rfl (by omega)) <|
     hc (lnR rfl rfl (by omega)) <|
     hc (gtcT rfl (by omega)) <|
     hc (rT rfl (by omega) rfl) <|
     hc (rD rfl rfl (by omega)) <|
     hc (lnR rfl rfl (by omega)) <|
     hc (gtcT rfl (by omega)) <|
     hc (rT rfl (by omega) rfl) <|
     hc (rD rfl rfl (by omega)) <|
     hc (lnR rfl rfl (by omega)) <|
     hc (gtcT rfl (by omega)) <|
     hc (rT rfl (by omega) rfl) <|
     hc (rD rfl rfl (by omega)) <|
     hc (lnR rfl rfl (by omega)) <|
     hc (gtcT rfl (by omega)) <|
     hc (rT rfl (by omega) rfl) <|
     hc (rD rfl rfl (by omega)) <|
     hc (lnR rfl rfl (by omega)) <|
     hc (gtcF rfl (by omega)) <|
     hc (neZ rfl (by omega)) <|
     hc (kMax (isX rfl) (isZ (m := 0) rfl) (denX rfl) (by omega)) <|
     hc (ngV rfl rfl (by omega)) <|
     hc (aG rfl rfl (by omega)) <|
     hc (byC rfl rfl (by omega)) <|
     hc (lnV rfl rfl (by omega)) <|
     hc (ftV rfl (by omega)) <|
     hc (cvV tu3 rfl rfl (by omega)) <|
     hc (c120 rfl rfl (by omega)) <|
     hc (l120 rfl rfl) <|
     hc (rmV rfl rfl rfl (by omega)) <|
     hc (adC rfl rfl (by omega)) <|
     hc (byC rfl rfl (by omega)) <|
     hc (lnV rfl rfl (by omega)) <|
     hc (ftV rfl (by omega)) <|
     hc (byC rfl rfl (by omega)) <|
     hc (lnV rfl rfl (by omega)) <|
     hc (ftV rfl (by omega)) <|
     hc (ctV rfl rfl rfl (by omega)) <|
     hc (ct0 rfl rfl (by first | omega | (rw [List.length_append]; omega) | (simp <;> omega))) <|
     hc (ct0 rfl rfl (by first | omega | (rw [List.length_append]; omega) | (simp <;> omega))) <|
     hc (eqZ rfl (by omega)) <|
     hc (kCat (isX rfl) (isX rfl) (denX rfl) (by first | rfl | (simp; done)) (by first | omega | (simp <;> omega))) <|
     hc (kCat (isX rfl) (isX rfl) (denX rfl) (by first | rfl | (simp; done)) (by first | omega | (simp <;> omega))) <|
     hc (kCat (isX rfl) (isX rfl) (denX rfl) (by first | rfl | (simp; done)) (by first | omega | (simp <;> omega))) <|
     hc (kCat (isX rfl) (isX rfl) (denX rfl) (by first | rfl | (simp; done)) (by first | omega | (simp <;> omega))) <|
     hc (kCat (isX rfl) (isX rfl) (denX rfl) (by first | rfl | (simp; done)) (by first | omega | (simp <;> omega))) <|
     hc (eqZ rfl (by omega)) <|
     hnil
  exact finQ (nu := nuL (nu46 n body)) (one := one46 n body) rfl rfl ho run46 rfl rfl (dW6 (l := lfd185) (h := lhd185) body (by omega) rfl (by kernel_rfl) (zi := 6) (ri := 15) (pi := 19) rfl rfl rfl (sg0 := [(100, 78), (102, 77), (103, 76)]) (t := 20) (rr := 21) (by kernel_rfl) rfl rfl (by kernel_rfl)) rfl rfl (dD6 (l := lfd186) (h := lhd186) body (by omega) (NN6 n body) (by omega) (by omega) 8 hjk rfl (by kernel_rfl) (ni := 28) rfl (zi := 6) (ri := 15) (pi := 19) rfl rfl rfl (sg0 := [(320, 290), (322, 39), (323, 38)]) (t := 29) (rr := 30) (by kernel_rfl) rfl rfl (by kernel_rfl)) rfl rfl (dF (l := lfd187) (h := lhd187) (RR6 body 8 (NN6 n body)) (by omega) rfl (by kernel_rfl) (ri := 30) (t := 33) (rr := 34) (sg0 := [(700, 561), (702, 322), (703, 548)]) rfl (by kernel_rfl) rfl rfl (by kernel_rfl)) rfl rfl (cC6 (l := lfc188) (h := lhc188) body (by omega) 8 9 (by decide) rfl c6_8 rfl (by kernel_rfl) (xs := 38) (sg0 := [(1000, 890)]) rfl (cJ6 body 8 (NN6 n body) rfl) (by kernel_rfl) (thx := [(6, .x 20), (15, .x 21), (19, .x 22)]) (thc3 rfl rfl rfl) (by kernel_rfl)) w hl
def hy47 : LK := hp6 ++ [(.byt (.x 20) (i6 0), .x 22), (.len (.x 20), .x 23), (.fit (.x 20), .b true), (.conv 3 (.x 0), .x 24), (.bin .add (.x 20) (.s 1 120), .x 25), (.len (.x 25), .x 26), (.bin .rem (.x 24) (.x 26), .x 27), (.bin .add (.x 27) (i6 1), .x 28), (.byt (.x 29) (i6 0), .x 31), (.len (.x 29), .x 32), (.fit (.x 29), .b true), (.bin .neq (.x 30) (.s 0 0), .b true), (.bin .eql (.x 30) (.s 0 0), .b false), (.len (.x 30), .x 33), (.mm false (i6 1000000) (.x 33), .x 34), (.sub (.x 30) none (some (.x 34)), .x 35), (.byt (.x 35) (i6 0), .x 36), (.fit (.x 35), .b true), (.len (.x 35), .x 37), (.sub (.x 30) (some (.x 34)) none, .x 38), (.bin .sub (i6 1000000) (.x 34), .x 39), (.bin .gtr (.x 39) (i6 0), .b true), (.bin .neq (.x 38) (.s 0 0), .b false), (.bin .add (.x 29) (.x 35), .x 40), (.bin .add (.s 0 0) (.x 40), .x 41), (.bin .add (.s 0 0) (.x 6), .x 6), (.bin .eql (.x 6) (.s 0 0), .b false), (.bin .add (.x 6) (.x 6), .x 42), (.bin .add (.x 42) (.x 6), .x 43), (.bin .add (.x 43) (.x 6), .x 44), (.bin .add (.x 44) (.x 6), .x 45), (.bin .add (.x 45) (.x 15), .x 46), (.bin .eql (.x 15) (.s 0 0), .b false), (.bin .add (.x 46) (.s 0 0), .x 46)]
def lhd189 : LH := ⟨2, 100, 290, stG (.s 0 0) (.x 6) (.x 15) (.x 19) 42 40 41 77 76 6 0 ++ blD 78 0 0, stG (.x 21) (.x 6) (.x 15) (.x 19) 42 40 41 102 103 6 9 ++ blT 100 101 20⟩
def lfd189 : LF := ⟨2, 47, [(0, .p 42 0), (1, i6 1000000), (5, .p 78 0)], [], .exit 0, [(5, .p 100 0)], some lhd189⟩
def lhd190 : LH := ⟨2, 320, 510, stG (.s 0 0) (.x 6) (.x 15) (.x 19) 4 2 3 39 38 6 0 ++ blD 290 0 0, stG (.x 30) (.x 6) (.x 15) (.x 19) 4 2 3 322 323 6 9 ++ blT 320 321 29⟩
def lfd190 : LF := ⟨2, 47, [(0, .p 4 0), (1, .x 28), (5, .p 290 0)], [], .exit 0, [(5, .p 320 0)], some lhd190⟩
def lhc192 : LH := ⟨2, 1000, 1060, [(561, .b ⟨79, .l [i6 65535, .x 41, .b false], 0, 0, 0, false, false⟩)], [rowK (.x 6) (.x 15) (.x 19) (ksT 6 9)]⟩
def lfc192 : LF := ⟨5, 87, [(0, .p 561 0), (6, .nils)], [], .ret, [(4, .sl 1001 0 9 0 true), (5, i6 0)], some lhc192⟩
noncomputable def tab47 : Tab := tabU hy47 lfd189 lfd190 lfc192
theorem run47 (e : Nat) : Go.AX.okB (call tab47 9000 3 [.x 0, .x 1] ⟨H0 e , 2, 0, 0⟩) = true := by kernel_rfl
noncomputable def nu47 (n : Int) (body : Int) : List Value := pn6 n body ++ [St' (AL6 body), St' ([] : LB), .int .u8 (bt (AL6 body) 0), .int .i64 (((AL6 body).length : Int)), .int .i64 (n), St' ((AL6 body) ++ [u8 120]), .int .i64 (((AL6 body).length : Int) + 1), .int .i64 (n % (((AL6 body).length : Int) + 1)), .int .i64 ((n % (((AL6 body).length : Int) + 1)) + 1), St' (TT6 body 9 (NN6 n body)), St' (RR6 body 9 (NN6 n body)), .int .u8 (bt (TT6 body 9 (NN6 n body)) 0), .int .i64 (((TT6 body 9 (NN6 n body)).length : Int)), .int .i64 (((RR6 body 9 (NN6 n body)).length : Int)), .int .i64 (((RR6 body 9 (NN6 n body)).length : Int)), St' (RR6 body 9 (NN6 n body)), .int .u8 (bt (RR6 body 9 (NN6 n body)) 0), .int .i64 (((RR6 body 9 (NN6 n body)).length : Int)), St' ([] : LB), .int .i64 (1000000 - ((RR6 body 9 (NN6 n body)).length : Int)), St' ((TT6 body 9 (NN6 n body)) ++ (RR6 body 9 (NN6 n body))), St' ((TT6 body 9 (NN6 n body)) ++ (RR6 body 9 (NN6 n body))), St' ((List.replicate (Int.toNat (512)) 0) ++ (List.replicate (Int.toNat (512)) 0)), St' ((List.replicate (Int.toNat (512)) 0) ++ ((List.replicate (Int.toNat (512)) 0) ++ (List.replicate (Int.toNat (512)) 0))), St' ((List.replicate (Int.toNat (512)) 0) ++ ((List.replicate (Int.toNat (512)) 0) ++ ((List.replicate (Int.toNat (512)) 0) ++ (List.replicate (Int.toNat (512)) 0)))), St' ((List.replicate (Int.toNat (512)) 0) ++ ((List.replicate (Int.toNat (512)) 0) ++ ((List.replicate (Int.toNat (512)) 0) ++ ((List.replicate (Int.toNat (512)) 0) ++ (List.replicate (Int.toNat (512)) 0))))), St' ((List.replicate (Int.toNat (512)) 0) ++ ((List.replicate (Int.toNat (512)) 0) ++ ((List.replicate (Int.toNat (512)) 0) ++ ((List.replicate (Int.toNat (512)) 0) ++ ((List.replicate (Int.toNat (512)) 0) ++ (List.replicate (Int.toNat ((body % 3000) - 2560)) 0))))))]
theorem one47 (n : Int) (body : Int) : ∀ j, j < 1000000 → (nuL (nu47 n body) j).oneCell' = true := fun j _ => nuL_one (l := nu47 n body) rfl j
theorem path47 (n : Int) (body : Int) (b0 : 0 ≤ n) (b1 : n ≤ 65535) (b2 : 0 ≤ body) (b3 : body ≤ 65535) (h0 : 512 < (body % 3000)) (h1 : 512 < (body % 3000) - 512) (h2 : 512 < (body % 3000) - 1024) (h3 : 512 < (body % 3000) - 1536) (h4 : 512 < (body % 3000) - 2048) (h8 : ¬ ((NN6 n body) ≤ LC6 body 1)) (h9 : ¬ ((NN6 n body) ≤ LC6 body 2)) (h10 : ¬ ((NN6 n body) ≤ LC6 body 3)) (h11 : ¬ ((NN6 n body) ≤ LC6 body 4)) (h12 : ¬ ((NN6 n body) ≤ LC6 body 5)) (h13 : ¬ ((NN6 n body) ≤ LC6 body 6)) (h14 : ¬ ((NN6 n body) ≤ LC6 body 7)) (h15 : ¬ ((NN6 n body) ≤ LC6 body 8)) (h16 : ¬ ((RR6 body 9 (NN6 n body)).length = 0)) (w : World) (hl : laidE w) : CwR 3 #[.int .u16 n, .int .u16 body] w (.bool true) := by
  have hn0 : ([] : LB).length = 0 := rfl
  have hAL := al6 body (by omega)
  have := em6 n body
  have hNN : NN6 n body = (n % (((AL6 body).length : Int) + 1)) + 1 := rfl
  have hjk := jk6 body 9 (NN6 n body) (by decide) (fun _ => by show LC6 body 8 < (NN6 n body); omega) (.inr rfl)
  have hTT := tt6 body (by omega) 9 (NN6 n body) (by omega) hjk
  have ho : ∀ k r, (k, r) ∈ hy47 → HOk (cx (nuL (nu47 n body)) (one47 n body) 1 laidE laidE_stab) k r := by
    unfold hy47
    exact hc (rm3 rfl rfl (by omega)) <|
     hc (cvV tu3 rfl rfl (by omega)) <|
     hc (kZer (isX rfl) (by omega) (by omega) (denX rfl)) <|
     hc (lnR rfl rfl (by omega)) <|
     hc (gtcT rfl (by omega)) <|
     hc (rT rfl (by omega) rfl) <|
     hc (l512 rfl) <|
     hc (rD rfl rfl (by omega)) <|
     hc (lnR rfl rfl (by omega)) <|
     hc (gtcT rfl (by omega)) <|
     hc (rT rfl (by omega) rfl) <|
     hc (rD rfl rfl (by omega)) <|
     hc (lnR rfl rfl (by omega)) <|
     hc (gtcT rfl (by omega)) <|
     hc (rT rfl (by omega) rfl) <|
     hc (rD rfl rfl (by omega)) <|
     hc (lnR rfl rfl (by omega)) <|
     hc (gtcT rfl (by omega)) <|
     hc (rT rfl (by omega) rfl) <|
     hc (rD rfl rfl (by omega)) <|
     hc (lnR rfl rfl (by omega)) <|
     hc (gtcT rfl (by omega)) <|
     hc (rT rfl (by omega) rfl) <|
     hc (rD rfl rfl (by omega)) <|
     hc (lnR rfl rfl (by omega)) <|
     hc (gtcF rfl (by omega)) <|
     hc (neZ rfl (by omega)) <|
     hc (kMax (isX rfl) (isZ (m := 0) rfl) (denX rfl) (by omega)) <|
     hc (ngV rfl rfl (by omega)) <|
     hc (aG rfl rfl (by omega)) <|
     hc (byC rfl rfl (by omega)) <|
     hc (lnV rfl rfl (by omega)) <|
     hc (ftV rfl (by omega)) <|
     hc (cvV tu3 rfl rfl (by omega)) <|
     hc (c120 rfl rfl (by omega)) <|
     hc (l120 rfl rfl) <|
     hc (rmV rfl rfl rfl (by omega)) <|
     hc (adC rfl rfl (by omega)) <|
     hc (byC rfl rfl (by omega)) <|
     hc (lnV rfl rfl (by omega)) <|
     hc (ftV rfl (by omega)) <|
     hc (kNeS (isX rfl) (isSx (l := ([] : LB)) 0 0 rfl) (bnT (nilF (by omega)))) <|
     hc (kEqS (isX rfl) (isSx (l := ([] : LB)) 0 0 rfl) (nilF (by omega))) <|
     hc (lnV rfl rfl (by omega)) <|
     hc (kMin (isZ (m := 1000000) rfl) (isX rfl) (denX rfl) (by omega)) <|
     hc (kCut (isX rfl) (.inl ⟨rfl, rfl⟩) (.inr ⟨_, _, rfl, (isX rfl)⟩) (p := ([] : LB)) (m := (RR6 body 9 (NN6 n body))) (q := ([] : LB)) (by first | rfl | (simp; done)) (by omega) (by omega) (denX rfl)) <|
     hc (byC rfl rfl (by omega)) <|
     hc (ftV rfl (by omega)) <|
     hc (lnV rfl rfl (by omega)) <|
     hc (kCut (isX rfl) (.inr ⟨_, _, rfl, (isX rfl)⟩) (.inl ⟨rfl, rfl⟩) (p := (RR6 body 9 (NN6 n body))) (m := ([] : LB)) (q := ([] : LB)) (by first | rfl | (simp; done)) (by omega) (by omega) (denX rfl)) <|
     hc (kSub (isZ (m := 1000000) rfl) (isX rfl) (denX rfl) (by omega) (fI64 (by omega) (by omega))) <|
     hc (gtcT rfl (by omega)) <|
     hc (kNeS (isX rfl) (isSx (l := ([] : LB)) 0 0 rfl) (bnF (decide_eq_true rfl))) <|
     hc (ctV rfl rfl rfl (by omega)) <|
     hc (ct0 rfl rfl (by first | omega | (rw [List.length_append]; omega) | (simp <;> omega))) <|
     hc (ct0 rfl rfl (by first | omega | (rw [List.length_append]; omega) | (simp <;> omega))) <|
     hc (eqZ rfl (by omega)) <|
     hc (kCat (isX rfl) (isX rfl) (denX rfl) (by first | rfl | (simp; done)) (by first | omega | (simp <;> omega))) <|
     hc (kCat (isX rfl) (isX rfl) (denX rfl) (by first | rfl | (simp; done)) (by first | omega | (simp <;> omega))) <|
     hc (kCat (isX rfl) (isX rfl) (denX rfl) (by first | rfl | (simp; done)) (by first | omega | (simp <;> omega))) <|
     hc (kCat (isX rfl) (isX rfl) (denX rfl) (by first | rfl | (simp; done)) (by first | omega | (simp <;> omega))) <|
     hc (kCat (isX rfl) (isX rfl) (denX rfl) (by first | rfl | (simp; done)) (by first | omega | (simp <;> omega))) <|
     hc (eqZ rfl (by omega)) <|
     hc (kCat (isX rfl) (isSx (l := ([] : LB)) 0 0 rfl) (denX rfl) (by first | rfl | (simp; done)) (by first | omega | (simp <;> omega))) <|
     hnil
  exact finU (nu := nuL (nu47 n body)) (one := one47 n body) rfl rfl ho run47 rfl rfl (dW6 (l := lfd189) (h := lhd189) body (by omega) rfl (by kernel_rfl) (zi := 6) (ri := 15) (pi := 19) rfl rfl rfl (sg0 := [(100, 78), (102, 77), (103, 76)]) (t := 20) (rr := 21) (by kernel_rfl) rfl rfl (by kernel_rfl)) rfl rfl (dD6 (l := lfd190) (h := lhd190) body (by omega) (NN6 n body) (by omega) (by omega) 9 hjk rfl (by kernel_rfl) (ni := 28) rfl (zi := 6) (ri := 15) (pi := 19) rfl rfl rfl (sg0 := [(320, 290), (322, 39), (323, 38)]) (t := 29) (rr := 30) (by kernel_rfl) rfl rfl (by kernel_rfl)) rfl rfl (cC6 (l := lfc192) (h := lhc192) body (by omega) 9 9 (by decide) rfl c6_9 rfl (by kernel_rfl) (xs := 41) (sg0 := [(1000, 561)]) rfl (cK6 body 9 (NN6 n body) rfl) (by kernel_rfl) (thx := [(6, .x 20), (15, .x 21), (19, .x 22)]) (thc3 rfl rfl rfl) (by kernel_rfl)) w hl
def hy48 : LK := hp6 ++ [(.byt (.x 20) (i6 0), .x 22), (.len (.x 20), .x 23), (.fit (.x 20), .b true), (.conv 3 (.x 0), .x 24), (.bin .add (.x 20) (.s 1 120), .x 25), (.len (.x 25), .x 26), (.bin .rem (.x 24) (.x 26), .x 27), (.bin .add (.x 27) (i6 1), .x 28), (.byt (.x 29) (i6 0), .x 31), (.len (.x 29), .x 32), (.fit (.x 29), .b true), (.bin .neq (.x 30) (.s 0 0), .b false), (.bin .add (.x 29) (.s 0 0), .x 33), (.bin .add (.s 0 0) (.x 33), .x 34), (.bin .add (.s 0 0) (.x 6), .x 6), (.bin .eql (.x 6) (.s 0 0), .b false), (.bin .add (.x 6) (.x 6), .x 35), (.bin .add (.x 35) (.x 6), .x 36), (.bin .add (.x 36) (.x 6), .x 37), (.bin .add (.x 37) (.x 6), .x 38), (.bin .add (.x 38) (.x 15), .x 39), (.bin .eql (.x 15) (.s 0 0), .b false), (.bin .add (.x 39) (.s 0 0), .x 39)]
def lhd193 : LH := ⟨2, 100, 290, stG (.s 0 0) (.x 6) (.x 15) (.x 19) 42 40 41 77 76 6 0 ++ blD 78 0 0, stG (.x 21) (.x 6) (.x 15) (.x 19) 42 40 41 102 103 6 9 ++ blT 100 101 20⟩
def lfd193 : LF := ⟨2, 47, [(0, .p 42 0), (1, i6 1000000), (5, .p 78 0)], [], .exit 0, [(5, .p 100 0)], some lhd193⟩
def lhd194 : LH := ⟨2, 320, 510, stG (.s 0 0) (.x 6) (.x 15) (.x 19) 4 2 3 39 38 6 0 ++ blD 290 0 0, stG (.x 30) (.x 6) (.x 15) (.x 19) 4 2 3 322 323 6 9 ++ blT 320 321 29⟩
def lfd194 : LF := ⟨2, 47, [(0, .p 4 0), (1, .x 28), (5, .p 290 0)], [], .exit 0, [(5, .p 320 0)], some lhd194⟩
def lhc196 : LH := ⟨2, 1000, 1060, [(560, .b ⟨79, .l [i6 65535, .x 34, .b false], 0, 0, 0, false, false⟩)], [rowK (.x 6) (.x 15) (.x 19) (ksT 6 9)]⟩
def lfc196 : LF := ⟨5, 87, [(0, .p 560 0), (6, .nils)], [], .ret, [(4, .sl 1001 0 9 0 true), (5, i6 0)], some lhc196⟩
noncomputable def tab48 : Tab := tabU hy48 lfd193 lfd194 lfc196
theorem run48 (e : Nat) : Go.AX.okB (call tab48 9000 3 [.x 0, .x 1] ⟨H0 e , 2, 0, 0⟩) = true := by kernel_rfl
noncomputable def nu48 (n : Int) (body : Int) : List Value := pn6 n body ++ [St' (AL6 body), St' ([] : LB), .int .u8 (bt (AL6 body) 0), .int .i64 (((AL6 body).length : Int)), .int .i64 (n), St' ((AL6 body) ++ [u8 120]), .int .i64 (((AL6 body).length : Int) + 1), .int .i64 (n % (((AL6 body).length : Int) + 1)), .int .i64 ((n % (((AL6 body).length : Int) + 1)) + 1), St' (TT6 body 9 (NN6 n body)), St' (RR6 body 9 (NN6 n body)), .int .u8 (bt (TT6 body 9 (NN6 n body)) 0), .int .i64 (((TT6 body 9 (NN6 n body)).length : Int)), St' (TT6 body 9 (NN6 n body)), St' (TT6 body 9 (NN6 n body)), St' ((List.replicate (Int.toNat (512)) 0) ++ (List.replicate (Int.toNat (512)) 0)), St' ((List.replicate (Int.toNat (512)) 0) ++ ((List.replicate (Int.toNat (512)) 0) ++ (List.replicate (Int.toNat (512)) 0))), St' ((List.replicate (Int.toNat (512)) 0) ++ ((List.replicate (Int.toNat (512)) 0) ++ ((List.replicate (Int.toNat (512)) 0) ++ (List.replicate (Int.toNat (512)) 0)))), St' ((List.replicate (Int.toNat (512)) 0) ++ ((List.replicate (Int.toNat (512)) 0) ++ ((List.replicate (Int.toNat (512)) 0) ++ ((List.replicate (Int.toNat (512)) 0) ++ (List.replicate (Int.toNat (512)) 0))))), St' ((List.replicate (Int.toNat (512)) 0) ++ ((List.replicate (Int.toNat (512)) 0) ++ ((List.replicate (Int.toNat (512)) 0) ++ ((List.replicate (Int.toNat (512)) 0) ++ ((List.replicate (Int.toNat (512)) 0) ++ (List.replicate (Int.toNat ((body % 3000) - 2560)) 0))))))]
theorem one48 (n : Int) (body : Int) : ∀ j, j < 1000000 → (nuL (nu48 n body) j).oneCell' = true := fun j _ => nuL_one (l := nu48 n body) rfl j
theorem path48 (n : Int) (body : Int) (b0 : 0 ≤ n) (b1 : n ≤ 65535) (b2 : 0 ≤ body) (b3 : body ≤ 65535) (h0 : 512 < (body % 3000)) (h1 : 512 < (body % 3000) - 512) (h2 : 512 < (body % 3000) - 1024) (h3 : 512 < (body % 3000) - 1536) (h4 : 512 < (body % 3000) - 2048) (h8 : ¬ ((NN6 n body) ≤ LC6 body 1)) (h9 : ¬ ((NN6 n body) ≤ LC6 body 2)) (h10 : ¬ ((NN6 n body) ≤ LC6 body 3)) (h11 : ¬ ((NN6 n body) ≤ LC6 body 4)) (h12 : ¬ ((NN6 n body) ≤ LC6 body 5)) (h13 : ¬ ((NN6 n body) ≤ LC6 body 6)) (h14 : ¬ ((NN6 n body) ≤ LC6 body 7)) (h15 : ¬ ((NN6 n body) ≤ LC6 body 8)) (h16 : (RR6 body 9 (NN6 n body)).length = 0) (w : World) (hl : laidE w) : CwR 3 #[.int .u16 n, .int .u16 body] w (.bool true) := by
  have hn0 : ([] : LB).length = 0 := rfl
  have hAL := al6 body (by omega)
  have := em6 n body
  have hNN : NN6 n body = (n % (((AL6 body).length : Int) + 1)) + 1 := rfl
  have hjk := jk6 body 9 (NN6 n body) (by decide) (fun _ => by show LC6 body 8 < (NN6 n body); omega) (.inr rfl)
  have hTT := tt6 body (by omega) 9 (NN6 n body) (by omega) hjk
  have ho : ∀ k r, (k, r) ∈ hy48 → HOk (cx (nuL (nu48 n body)) (one48 n body) 1 laidE laidE_stab) k r := by
    unfold hy48
    exact hc (rm3 rfl rfl (by omega)) <|
     hc (cvV tu3 rfl rfl (by omega)) <|
     hc (kZer (isX rfl) (by omega) (by omega) (denX rfl)) <|
     hc (lnR rfl rfl (by omega)) <|
     hc (gtcT rfl (by omega)) <|
     hc (rT rfl (by omega) rfl) <|
     hc (l512 rfl) <|
     hc (rD rfl rfl (by omega)) <|
     hc (lnR rfl rfl (by omega)) <|
     hc (gtcT rfl (by omega)) <|
     hc (rT rfl (by omega) rfl) <|
     hc (rD rfl rfl (by omega)) <|
     hc (lnR rfl rfl (by omega)) <|
     hc (gtcT rfl (by omega)) <|
     hc (rT rfl (by omega) rfl) <|
     hc (rD rfl rfl (by omega)) <|
     hc (lnR rfl rfl (by omega)) <|
     hc (gtcT rfl (by omega)) <|
     hc (rT rfl (by omega) rfl) <|
     hc (rD rfl rfl (by omega)) <|
     hc (lnR rfl rfl (by omega)) <|
     hc (gtcT rfl (by omega)) <|
     hc (rT rfl (by omega) rfl) <|
     hc (rD rfl rfl (by omega)) <|
     hc (lnR rfl rfl (by omega)) <|
     hc (gtcF rfl (by omega)) <|
     hc (neZ rfl (by omega)) <|
     hc (kMax (isX rfl) (isZ (m := 0) rfl) (denX rfl) (by omega)) <|
     hc (ngV rfl rfl (by omega)) <|
     hc (aG rfl rfl (by omega)) <|
     hc (byC rfl rfl (by omega)) <|
     hc (lnV rfl rfl (by omega)) <|
     hc (ftV rfl (by omega)) <|
     hc (cvV tu3 rfl rfl (by omega)) <|
     hc (c120 rfl rfl (by omega)) <|
     hc (l120 rfl rfl) <|
     hc (rmV rfl rfl rfl (by omega)) <|
     hc (adC rfl rfl (by omega)) <|
     hc (byC rfl rfl (by omega)) <|
     hc (lnV rfl rfl (by omega)) <|
     hc (ftV rfl (by omega)) <|
     hc (kNeS (isX rfl) (isSx (l := ([] : LB)) 0 0 rfl) (bnF (nilT (by omega)))) <|
     hc (kCat (isX rfl) (isSx (l := ([] : LB)) 0 0 rfl) (denX rfl) (by first | rfl | (simp; done)) (by omega)) <|
     hc (ct0 rfl rfl (by first | omega | (rw [List.length_append]; omega) | (simp <;> omega))) <|
     hc (ct0 rfl rfl (by first | omega | (rw [List.length_append]; omega) | (simp <;> omega))) <|
     hc (eqZ rfl (by omega)) <|
     hc (kCat (isX rfl) (isX rfl) (denX rfl) (by first | rfl | (simp; done)) (by first | omega | (simp <;> omega))) <|
     hc (kCat (isX rfl) (isX rfl) (denX rfl) (by first | rfl | (simp; done)) (by first | omega | (simp <;> omega))) <|
     hc (kCat (isX rfl) (isX rfl) (denX rfl) (by first | rfl | (simp; done)) (by first | omega | (simp <;> omega))) <|
     hc (kCat (isX rfl) (isX rfl) (denX rfl) (by first | rfl | (simp; done)) (by first | omega | (simp <;> omega))) <|
     hc (kCat (isX rfl) (isX rfl) (denX rfl) (by first | rfl | (simp; done)) (by first | omega | (simp <;> omega))) <|
     hc (eqZ rfl (by omega)) <|
     hc (kCat (isX rfl) (isSx (l := ([] : LB)) 0 0 rfl) (denX rfl) (by first | rfl | (simp; done)) (by first | omega | (simp <;> omega))) <|
     hnil
  exact finU (nu := nuL (nu48 n body)) (one := one48 n body) rfl rfl ho run48 rfl rfl (dW6 (l := lfd193) (h := lhd193) body (by omega) rfl (by kernel_rfl) (zi := 6) (ri := 15) (pi := 19) rfl rfl rfl (sg0 := [(100, 78), (102, 77), (103, 76)]) (t := 20) (rr := 21) (by kernel_rfl) rfl rfl (by kernel_rfl)) rfl rfl (dD6 (l := lfd194) (h := lhd194) body (by omega) (NN6 n body) (by omega) (by omega) 9 hjk rfl (by kernel_rfl) (ni := 28) rfl (zi := 6) (ri := 15) (pi := 19) rfl rfl rfl (sg0 := [(320, 290), (322, 39), (323, 38)]) (t := 29) (rr := 30) (by kernel_rfl) rfl rfl (by kernel_rfl)) rfl rfl (cC6 (l := lfc196) (h := lhc196) body (by omega) 9 9 (by decide) rfl c6_9 rfl (by kernel_rfl) (xs := 34) (sg0 := [(1000, 560)]) rfl (cO6 body 9 (NN6 n body) rfl (by assumption)) (by kernel_rfl) (thx := [(6, .x 20), (15, .x 21), (19, .x 22)]) (thc3 rfl rfl rfl) (by kernel_rfl)) w hl
end Go.Proofs.YtaihihejljcniaaGreatDoor.muxEarly
