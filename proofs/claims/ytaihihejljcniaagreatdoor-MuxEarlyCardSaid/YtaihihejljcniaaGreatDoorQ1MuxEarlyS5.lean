/- A part of the proof: an interpreter of the model's own code on partly known states, and that what it answers is what the program answers. No condition of its own. -/
import Derived.Test.YtaihihejljcniaaGreatDoorQ1MuxEarlyQ
set_option maxRecDepth 100000
set_option linter.unusedVariables false
set_option linter.unusedSimpArgs false
set_option maxHeartbeats 4000000
namespace Go.Proofs.YtaihihejljcniaaGreatDoor.muxEarly
open Go Go.AX Go.Proofs Go.Proofs.YtaihihejljcniaaGreatDoor
def hy25 : LK := hp4 ++ [(.byt (.x 16) (i6 0), .x 18), (.len (.x 16), .x 19), (.fit (.x 16), .b true), (.conv 3 (.x 0), .x 20), (.bin .add (.x 16) (.s 1 120), .x 21), (.len (.x 21), .x 22), (.bin .rem (.x 20) (.x 22), .x 23), (.bin .add (.x 23) (i6 1), .x 24), (.byt (.x 25) (i6 0), .x 27), (.len (.x 25), .x 28), (.fit (.x 25), .b true), (.byt (.x 29) (i6 0), .x 31), (.len (.x 29), .x 32), (.fit (.x 29), .b true), (.bin .add (.x 25) (.x 29), .x 33), (.bin .add (.s 0 0) (.x 33), .x 34), (.bin .add (.s 0 0) (.x 6), .x 6), (.bin .eql (.x 6) (.s 0 0), .b false), (.bin .add (.x 6) (.x 6), .x 35)]
def lhd101 : LH := ⟨2, 100, 290, stG (.s 0 0) (.x 6) (.x 11) (.x 15) 36 34 35 65 64 4 0 ++ blD 66 0 0, stG (.x 17) (.x 6) (.x 11) (.x 15) 36 34 35 102 103 4 7 ++ blT 100 101 16⟩
def lfd101 : LF := ⟨2, 47, [(0, .p 36 0), (1, i6 1000000), (5, .p 66 0)], [], .exit 0, [(5, .p 100 0)], some lhd101⟩
def lhd102 : LH := ⟨2, 320, 510, stG (.s 0 0) (.x 6) (.x 11) (.x 15) 4 2 3 33 32 4 0 ++ blD 290 0 0, stG (.x 26) (.x 6) (.x 11) (.x 15) 4 2 3 322 323 4 4 ++ blT 320 321 25⟩
def lfd102 : LF := ⟨2, 47, [(0, .p 4 0), (1, .x 24), (5, .p 290 0)], [], .exit 0, [(5, .p 320 0)], some lhd102⟩
def lhd103 : LH := ⟨2, 700, 890, stH (.x 26) (.sl 552 0 1 0 true) 322 548 0 ++ blD 561 0 0, stH (.x 30) (.sl 552 0 1 0 true) 702 703 1 ++ blT 700 701 29⟩
def lfd103 : LF := ⟨2, 47, [(0, .p 4 0), (1, i6 1000000), (5, .p 561 0)], [], .exit 0, [(5, .p 700 0)], some lhd103⟩
def lhc104 : LH := ⟨2, 1000, 1060, [(890, .b ⟨79, .l [i6 65535, .x 34, .b false], 0, 0, 0, false, false⟩)], [rowK (.x 6) .und .und (ksT 4 4)]⟩
def lfc104 : LF := ⟨5, 87, [(0, .p 890 0), (6, .nils)], [], .ret, [(4, .sl 1001 0 5 0 true), (5, i6 0)], some lhc104⟩
noncomputable def tab25 : Tab := tabQ hy25 lfd101 lfd102 lfd103 lfc104
theorem run25 (e : Nat) : Go.AX.okB (call tab25 9000 3 [.x 0, .x 1] ⟨H0 e , 2, 0, 0⟩) = true := by kernel_rfl
noncomputable def nu25 (n : Int) (body : Int) : List Value := pn4 n body ++ [St' (AL4 body), St' ([] : LB), .int .u8 (bt (AL4 body) 0), .int .i64 (((AL4 body).length : Int)), .int .i64 (n), St' ((AL4 body) ++ [u8 120]), .int .i64 (((AL4 body).length : Int) + 1), .int .i64 (n % (((AL4 body).length : Int) + 1)), .int .i64 ((n % (((AL4 body).length : Int) + 1)) + 1), St' (TT4 body 4 (NN4 n body)), St' (RR4 body 4 (NN4 n body)), .int .u8 (bt (TT4 body 4 (NN4 n body)) 0), .int .i64 (((TT4 body 4 (NN4 n body)).length : Int)), St' ((RR4 body 4 (NN4 n body)) ++ abS), St' ([] : LB), .int .u8 (bt ((RR4 body 4 (NN4 n body)) ++ abS) 0), .int .i64 ((((RR4 body 4 (NN4 n body)) ++ abS).length : Int)), St' ((TT4 body 4 (NN4 n body)) ++ ((RR4 body 4 (NN4 n body)) ++ abS)), St' ((TT4 body 4 (NN4 n body)) ++ ((RR4 body 4 (NN4 n body)) ++ abS)), St' ((List.replicate (Int.toNat (512)) 0) ++ (List.replicate (Int.toNat (512)) 0))]
theorem one25 (n : Int) (body : Int) : ∀ j, j < 1000000 → (nuL (nu25 n body) j).oneCell' = true := fun j _ => nuL_one (l := nu25 n body) rfl j
theorem path25 (n : Int) (body : Int) (b0 : 0 ≤ n) (b1 : n ≤ 65535) (b2 : 0 ≤ body) (b3 : body ≤ 65535) (h0 : 512 < (body % 3000)) (h1 : 512 < (body % 3000) - 512) (h2 : 512 < (body % 3000) - 1024) (h3 : ¬ (512 < (body % 3000) - 1536)) (h6 : ¬ ((NN4 n body) ≤ LC4 body 1)) (h7 : ¬ ((NN4 n body) ≤ LC4 body 2)) (h8 : ¬ ((NN4 n body) ≤ LC4 body 3)) (h9 : (NN4 n body) ≤ LC4 body 4) (w : World) (hl : laidE w) : CwR 3 #[.int .u16 n, .int .u16 body] w (.bool true) := by
  have hn0 : ([] : LB).length = 0 := rfl
  have hAL := al4 body (by omega)
  have := em4 n body
  have hNN : NN4 n body = (n % (((AL4 body).length : Int) + 1)) + 1 := rfl
  have hjk := jk4 body 4 (NN4 n body) (by decide) (fun _ => by show LC4 body 3 < (NN4 n body); omega) (.inl (by assumption))
  have hTT := tt4 body (by omega) 4 (NN4 n body) (by omega) hjk
  have ho : ∀ k r, (k, r) ∈ hy25 → HOk (cx (nuL (nu25 n body)) (one25 n body) 1 laidE laidE_stab) k r := by
    unfold hy25
    exact hc (rm3 rfl rfl (by omega)) <|
     hc (cvV tu3 rfl rfl (by omega)) <|
     hc (kZer (isX rfl) (by omega) (by omega) (denX rfl)) <|
     hc (lnR rfl rfl (by omega)) <|
     hc (gtcT rfl (by omega)) <|
     hc (rT rfl (by omega) rfl) <|
     hc (l512 rfl) <|
     hc (rD rfl rfl (by omega)) <|
     hc (lnR rfl rfl (by omega)) <|
     hc (gtcT rfl (by omega)) <|
     hc (rT rfl (by omega) rfl) <|
     hc (rD rfl rfl (by omega)) <|
     hc (lnR rfl rfl (by omega)) <|
     hc (gtcT rfl (by omega)) <|
     hc (rT rfl (by omega) rfl) <|
     hc (rD rfl rfl (by omega)) <|
     hc (lnR rfl rfl (by omega)) <|
     hc (gtcF rfl (by omega)) <|
     hc (neZ rfl (by omega)) <|
     hc (kMax (isX rfl) (isZ (m := 0) rfl) (denX rfl) (by omega)) <|
     hc (ngV rfl rfl (by omega)) <|
     hc (aG rfl rfl (by omega)) <|
     hc (byC rfl rfl (by omega)) <|
     hc (lnV rfl rfl (by omega)) <|
     hc (ftV rfl (by omega)) <|
     hc (cvV tu3 rfl rfl (by omega)) <|
     hc (c120 rfl rfl (by omega)) <|
     hc (l120 rfl rfl) <|
     hc (rmV rfl rfl rfl (by omega)) <|
     hc (adC rfl rfl (by omega)) <|
     hc (byC rfl rfl (by omega)) <|
     hc (lnV rfl rfl (by omega)) <|
     hc (ftV rfl (by omega)) <|
     hc (byC rfl rfl (by omega)) <|
     hc (lnV rfl rfl (by omega)) <|
     hc (ftV rfl (by omega)) <|
     hc (ctV rfl rfl rfl (by omega)) <|
     hc (ct0 rfl rfl (by first | omega | (rw [List.length_append]; omega) | (simp <;> omega))) <|
     hc (ct0 rfl rfl (by first | omega | (rw [List.length_append]; omega) | (simp <;> omega))) <|
     hc (eqZ rfl (by omega)) <|
     hc (kCat (isX rfl) (isX rfl) (denX rfl) (by first | rfl | (simp; done)) (by first | omega | (simp <;> omega))) <|
     hnil
  exact finQ (nu := nuL (nu25 n body)) (one := one25 n body) rfl rfl ho run25 rfl rfl (dW4 (l := lfd101) (h := lhd101) body (by omega) rfl (by kernel_rfl) (zi := 6) (ri := 11) (pi := 15) rfl rfl rfl (sg0 := [(100, 66), (102, 65), (103, 64)]) (t := 16) (rr := 17) (by kernel_rfl) rfl rfl (by kernel_rfl)) rfl rfl (dD4 (l := lfd102) (h := lhd102) body (by omega) (NN4 n body) (by omega) (by omega) 4 hjk rfl (by kernel_rfl) (ni := 24) rfl (zi := 6) (ri := 11) (pi := 15) rfl rfl rfl (sg0 := [(320, 290), (322, 33), (323, 32)]) (t := 25) (rr := 26) (by kernel_rfl) rfl rfl (by kernel_rfl)) rfl rfl (dF (l := lfd103) (h := lhd103) (RR4 body 4 (NN4 n body)) (by omega) rfl (by kernel_rfl) (ri := 26) (t := 29) (rr := 30) (sg0 := [(700, 561), (702, 322), (703, 548)]) rfl (by kernel_rfl) rfl rfl (by kernel_rfl)) rfl rfl (cC4 (l := lfc104) (h := lhc104) body (by omega) 4 5 (by decide) rfl c4_4 rfl (by kernel_rfl) (xs := 34) (sg0 := [(1000, 890)]) rfl (cJ4 body 4 (NN4 n body) rfl) (by kernel_rfl) (thx := [(6, .x 20)]) (thc1 rfl) (by kernel_rfl)) w hl
def hy26 : LK := hp4 ++ [(.byt (.x 16) (i6 0), .x 18), (.len (.x 16), .x 19), (.fit (.x 16), .b true), (.conv 3 (.x 0), .x 20), (.bin .add (.x 16) (.s 1 120), .x 21), (.len (.x 21), .x 22), (.bin .rem (.x 20) (.x 22), .x 23), (.bin .add (.x 23) (i6 1), .x 24), (.byt (.x 25) (i6 0), .x 27), (.len (.x 25), .x 28), (.fit (.x 25), .b true), (.byt (.x 29) (i6 0), .x 31), (.len (.x 29), .x 32), (.fit (.x 29), .b true), (.bin .add (.x 25) (.x 29), .x 33), (.bin .add (.s 0 0) (.x 33), .x 34), (.bin .add (.s 0 0) (.x 6), .x 6), (.bin .eql (.x 6) (.s 0 0), .b false), (.bin .add (.x 6) (.x 6), .x 35), (.bin .add (.x 35) (.x 6), .x 36)]
def lhd105 : LH := ⟨2, 100, 290, stG (.s 0 0) (.x 6) (.x 11) (.x 15) 36 34 35 65 64 4 0 ++ blD 66 0 0, stG (.x 17) (.x 6) (.x 11) (.x 15) 36 34 35 102 103 4 7 ++ blT 100 101 16⟩
def lfd105 : LF := ⟨2, 47, [(0, .p 36 0), (1, i6 1000000), (5, .p 66 0)], [], .exit 0, [(5, .p 100 0)], some lhd105⟩
def lhd106 : LH := ⟨2, 320, 510, stG (.s 0 0) (.x 6) (.x 11) (.x 15) 4 2 3 33 32 4 0 ++ blD 290 0 0, stG (.x 26) (.x 6) (.x 11) (.x 15) 4 2 3 322 323 4 5 ++ blT 320 321 25⟩
def lfd106 : LF := ⟨2, 47, [(0, .p 4 0), (1, .x 24), (5, .p 290 0)], [], .exit 0, [(5, .p 320 0)], some lhd106⟩
def lhd107 : LH := ⟨2, 700, 890, stH (.x 26) (.sl 552 0 1 0 true) 322 548 0 ++ blD 561 0 0, stH (.x 30) (.sl 552 0 1 0 true) 702 703 1 ++ blT 700 701 29⟩
def lfd107 : LF := ⟨2, 47, [(0, .p 4 0), (1, i6 1000000), (5, .p 561 0)], [], .exit 0, [(5, .p 700 0)], some lhd107⟩
def lhc108 : LH := ⟨2, 1000, 1060, [(890, .b ⟨79, .l [i6 65535, .x 34, .b false], 0, 0, 0, false, false⟩)], [rowK (.x 6) .und .und (ksT 4 5)]⟩
def lfc108 : LF := ⟨5, 87, [(0, .p 890 0), (6, .nils)], [], .ret, [(4, .sl 1001 0 6 0 true), (5, i6 0)], some lhc108⟩
noncomputable def tab26 : Tab := tabQ hy26 lfd105 lfd106 lfd107 lfc108
theorem run26 (e : Nat) : Go.AX.okB (call tab26 9000 3 [.x 0, .x 1] ⟨H0 e , 2, 0, 0⟩) = true := by kernel_rfl
noncomputable def nu26 (n : Int) (body : Int) : List Value := pn4 n body ++ [St' (AL4 body), St' ([] : LB), .int .u8 (bt (AL4 body) 0), .int .i64 (((AL4 body).length : Int)), .int .i64 (n), St' ((AL4 body) ++ [u8 120]), .int .i64 (((AL4 body).length : Int) + 1), .int .i64 (n % (((AL4 body).length : Int) + 1)), .int .i64 ((n % (((AL4 body).length : Int) + 1)) + 1), St' (TT4 body 5 (NN4 n body)), St' (RR4 body 5 (NN4 n body)), .int .u8 (bt (TT4 body 5 (NN4 n body)) 0), .int .i64 (((TT4 body 5 (NN4 n body)).length : Int)), St' ((RR4 body 5 (NN4 n body)) ++ abS), St' ([] : LB), .int .u8 (bt ((RR4 body 5 (NN4 n body)) ++ abS) 0), .int .i64 ((((RR4 body 5 (NN4 n body)) ++ abS).length : Int)), St' ((TT4 body 5 (NN4 n body)) ++ ((RR4 body 5 (NN4 n body)) ++ abS)), St' ((TT4 body 5 (NN4 n body)) ++ ((RR4 body 5 (NN4 n body)) ++ abS)), St' ((List.replicate (Int.toNat (512)) 0) ++ (List.replicate (Int.toNat (512)) 0)), St' ((List.replicate (Int.toNat (512)) 0) ++ ((List.replicate (Int.toNat (512)) 0) ++ (List.replicate (Int.toNat (512)) 0)))]
theorem one26 (n : Int) (body : Int) : ∀ j, j < 1000000 → (nuL (nu26 n body) j).oneCell' = true := fun j _ => nuL_one (l := nu26 n body) rfl j
theorem path26 (n : Int) (body : Int) (b0 : 0 ≤ n) (b1 : n ≤ 65535) (b2 : 0 ≤ body) (b3 : body ≤ 65535) (h0 : 512 < (body % 3000)) (h1 : 512 < (body % 3000) - 512) (h2 : 512 < (body % 3000) - 1024) (h3 : ¬ (512 < (body % 3000) - 1536)) (h6 : ¬ ((NN4 n body) ≤ LC4 body 1)) (h7 : ¬ ((NN4 n body) ≤ LC4 body 2)) (h8 : ¬ ((NN4 n body) ≤ LC4 body 3)) (h9 : ¬ ((NN4 n body) ≤ LC4 body 4)) (h10 : (NN4 n body) ≤ LC4 body 5) (w : World) (hl : laidE w) : CwR 3 #[.int .u16 n, .int .u16 body] w (.bool true) := by
  have hn0 : ([] : LB).length = 0 := rfl
  have hAL := al4 body (by omega)
  have := em4 n body
  have hNN : NN4 n body = (n % (((AL4 body).length : Int) + 1)) + 1 := rfl
  have hjk := jk4 body 5 (NN4 n body) (by decide) (fun _ => by show LC4 body 4 < (NN4 n body); omega) (.inl (by assumption))
  have hTT := tt4 body (by omega) 5 (NN4 n body) (by omega) hjk
  have ho : ∀ k r, (k, r) ∈ hy26 → HOk (cx (nuL (nu26 n body)) (one26 n body) 1 laidE laidE_stab) k r := by
    unfold hy26
    exact hc (rm3 rfl rfl (by omega)) <|
     hc (cvV tu3 rfl rfl (by omega)) <|
     hc (kZer (isX rfl) (by omega) (by omega) (denX rfl)) <|
     hc (lnR rfl rfl (by omega)) <|
     hc (gtcT rfl (by omega)) <|
     hc (rT rfl (by omega) rfl) <|
     hc (l512 rfl) <|
     hc (rD rfl rfl (by omega)) <|
     hc (lnR rfl rfl (by omega)) <|
     hc (gtcT rfl (by omega)) <|
     hc (rT rfl (by omega) rfl) <|
     hc (rD rfl rfl (by omega)) <|
     hc (lnR rfl rfl (by omega)) <|
     hc (gtcT rfl (by omega)) <|
     hc (rT rfl (by omega) rfl) <|
     hc (rD rfl rfl (by omega)) <|
     hc (lnR rfl rfl (by omega)) <|
     hc (gtcF rfl (by omega)) <|
     hc (neZ rfl (by omega)) <|
     hc (kMax (isX rfl) (isZ (m := 0) rfl) (denX rfl) (by omega)) <|
     hc (ngV rfl rfl (by omega)) <|
     hc (aG rfl rfl (by omega)) <|
     hc (byC rfl rfl (by omega)) <|
     hc (lnV rfl rfl (by omega)) <|
     hc (ftV rfl (by omega)) <|
     hc (cvV tu3 rfl rfl (by omega)) <|
     hc (c120 rfl rfl (by omega)) <|
     hc (l120 rfl rfl) <|
     hc (rmV rfl rfl rfl (by omega)) <|
     hc (adC rfl rfl (by omega)) <|
     hc (byC rfl rfl (by omega)) <|
     hc (lnV rfl rfl (by omega)) <|
     hc (ftV rfl (by omega)) <|
     hc (byC rfl rfl (by omega)) <|
     hc (lnV rfl rfl (by omega)) <|
     hc (ftV rfl (by omega)) <|
     hc (ctV rfl rfl rfl (by omega)) <|
     hc (ct0 rfl rfl (by first | omega | (rw [List.length_append]; omega) | (simp <;> omega))) <|
     hc (ct0 rfl rfl (by first | omega | (rw [List.length_append]; omega) | (simp <;> omega))) <|
     hc (eqZ rfl (by omega)) <|
     hc (kCat (isX rfl) (isX rfl) (denX rfl) (by first | rfl | (simp; done)) (by first | omega | (simp <;> omega))) <|
     hc (kCat (isX rfl) (isX rfl) (denX rfl) (by first | rfl | (simp; done)) (by first | omega | (simp <;> omega))) <|
     hnil
  exact finQ (nu := nuL (nu26 n body)) (one := one26 n body) rfl rfl ho run26 rfl rfl (dW4 (l := lfd105) (h := lhd105) body (by omega) rfl (by kernel_rfl) (zi := 6) (ri := 11) (pi := 15) rfl rfl rfl (sg0 := [(100, 66), (102, 65), (103, 64)]) (t := 16) (rr := 17) (by kernel_rfl) rfl rfl (by kernel_rfl)) rfl rfl (dD4 (l := lfd106) (h := lhd106) body (by omega) (NN4 n body) (by omega) (by omega) 5 hjk rfl (by kernel_rfl) (ni := 24) rfl (zi := 6) (ri := 11) (pi := 15) rfl rfl rfl (sg0 := [(320, 290), (322, 33), (323, 32)]) (t := 25) (rr := 26) (by kernel_rfl) rfl rfl (by kernel_rfl)) rfl rfl (dF (l := lfd107) (h := lhd107) (RR4 body 5 (NN4 n body)) (by omega) rfl (by kernel_rfl) (ri := 26) (t := 29) (rr := 30) (sg0 := [(700, 561), (702, 322), (703, 548)]) rfl (by kernel_rfl) rfl rfl (by kernel_rfl)) rfl rfl (cC4 (l := lfc108) (h := lhc108) body (by omega) 5 6 (by decide) rfl c4_5 rfl (by kernel_rfl) (xs := 34) (sg0 := [(1000, 890)]) rfl (cJ4 body 5 (NN4 n body) rfl) (by kernel_rfl) (thx := [(6, .x 20)]) (thc1 rfl) (by kernel_rfl)) w hl
def hy27 : LK := hp4 ++ [(.byt (.x 16) (i6 0), .x 18), (.len (.x 16), .x 19), (.fit (.x 16), .b true), (.conv 3 (.x 0), .x 20), (.bin .add (.x 16) (.s 1 120), .x 21), (.len (.x 21), .x 22), (.bin .rem (.x 20) (.x 22), .x 23), (.bin .add (.x 23) (i6 1), .x 24), (.byt (.x 25) (i6 0), .x 27), (.len (.x 25), .x 28), (.fit (.x 25), .b true), (.byt (.x 29) (i6 0), .x 31), (.len (.x 29), .x 32), (.fit (.x 29), .b true), (.bin .add (.x 25) (.x 29), .x 33), (.bin .add (.s 0 0) (.x 33), .x 34), (.bin .add (.s 0 0) (.x 6), .x 6), (.bin .eql (.x 6) (.s 0 0), .b false), (.bin .add (.x 6) (.x 6), .x 35), (.bin .add (.x 35) (.x 6), .x 36), (.bin .add (.x 36) (.x 11), .x 37), (.bin .eql (.x 11) (.s 0 0), .b false)]
def lhd109 : LH := ⟨2, 100, 290, stG (.s 0 0) (.x 6) (.x 11) (.x 15) 36 34 35 65 64 4 0 ++ blD 66 0 0, stG (.x 17) (.x 6) (.x 11) (.x 15) 36 34 35 102 103 4 7 ++ blT 100 101 16⟩
def lfd109 : LF := ⟨2, 47, [(0, .p 36 0), (1, i6 1000000), (5, .p 66 0)], [], .exit 0, [(5, .p 100 0)], some lhd109⟩
def lhd110 : LH := ⟨2, 320, 510, stG (.s 0 0) (.x 6) (.x 11) (.x 15) 4 2 3 33 32 4 0 ++ blD 290 0 0, stG (.x 26) (.x 6) (.x 11) (.x 15) 4 2 3 322 323 4 6 ++ blT 320 321 25⟩
def lfd110 : LF := ⟨2, 47, [(0, .p 4 0), (1, .x 24), (5, .p 290 0)], [], .exit 0, [(5, .p 320 0)], some lhd110⟩
def lhd111 : LH := ⟨2, 700, 890, stH (.x 26) (.sl 552 0 1 0 true) 322 548 0 ++ blD 561 0 0, stH (.x 30) (.sl 552 0 1 0 true) 702 703 1 ++ blT 700 701 29⟩
def lfd111 : LF := ⟨2, 47, [(0, .p 4 0), (1, i6 1000000), (5, .p 561 0)], [], .exit 0, [(5, .p 700 0)], some lhd111⟩
def lhc112 : LH := ⟨2, 1000, 1060, [(890, .b ⟨79, .l [i6 65535, .x 34, .b false], 0, 0, 0, false, false⟩)], [rowK (.x 6) (.x 11) (.x 15) (ksT 4 6)]⟩
def lfc112 : LF := ⟨5, 87, [(0, .p 890 0), (6, .nils)], [], .ret, [(4, .sl 1001 0 7 0 true), (5, i6 0)], some lhc112⟩
noncomputable def tab27 : Tab := tabQ hy27 lfd109 lfd110 lfd111 lfc112
theorem run27 (e : Nat) : Go.AX.okB (call tab27 9000 3 [.x 0, .x 1] ⟨H0 e , 2, 0, 0⟩) = true := by kernel_rfl
noncomputable def nu27 (n : Int) (body : Int) : List Value := pn4 n body ++ [St' (AL4 body), St' ([] : LB), .int .u8 (bt (AL4 body) 0), .int .i64 (((AL4 body).length : Int)), .int .i64 (n), St' ((AL4 body) ++ [u8 120]), .int .i64 (((AL4 body).length : Int) + 1), .int .i64 (n % (((AL4 body).length : Int) + 1)), .int .i64 ((n % (((AL4 body).length : Int) + 1)) + 1), St' (TT4 body 6 (NN4 n body)), St' (RR4 body 6 (NN4 n body)), .int .u8 (bt (TT4 body 6 (NN4 n body)) 0), .int .i64 (((TT4 body 6 (NN4 n body)).length : Int)), St' ((RR4 body 6 (NN4 n body)) ++ abS), St' ([] : LB), .int .u8 (bt ((RR4 body 6 (NN4 n body)) ++ abS) 0), .int .i64 ((((RR4 body 6 (NN4 n body)) ++ abS).length : Int)), St' ((TT4 body 6 (NN4 n body)) ++ ((RR4 body 6 (NN4 n body)) ++ abS)), St' ((TT4 body 6 (NN4 n body)) ++ ((RR4 body 6 (NN4 n body)) ++ abS)), St' ((List.replicate (Int.toNat (512)) 0) ++ (List.replicate (Int.toNat (512)) 0)), St' ((List.replicate (Int.toNat (512)) 0) ++ ((List.replicate (Int.toNat (512)) 0) ++ (List.replicate (Int.toNat (512)) 0))), St' ((List.replicate (Int.toNat (512)) 0) ++ ((List.replicate (Int.toNat (512)) 0) ++ ((List.replicate (Int.toNat (512)) 0) ++ (List.replicate (Int.toNat ((body % 3000) - 1536)) 0))))]
theorem one27 (n : Int) (body : Int) : ∀ j, j < 1000000 → (nuL (nu27 n body) j).oneCell' = true := fun j _ => nuL_one (l := nu27 n body) rfl j
theorem path27 (n : Int) (body : Int) (b0 : 0 ≤ n) (b1 : n ≤ 65535) (b2 : 0 ≤ body) (b3 : body ≤ 65535) (h0 : 512 < (body % 3000)) (h1 : 512 < (body % 3000) - 512) (h2 : 512 < (body % 3000) - 1024) (h3 : ¬ (512 < (body % 3000) - 1536)) (h6 : ¬ ((NN4 n body) ≤ LC4 body 1)) (h7 : ¬ ((NN4 n body) ≤ LC4 body 2)) (h8 : ¬ ((NN4 n body) ≤ LC4 body 3)) (h9 : ¬ ((NN4 n body) ≤ LC4 body 4)) (h10 : ¬ ((NN4 n body) ≤ LC4 body 5)) (h11 : (NN4 n body) ≤ LC4 body 6) (w : World) (hl : laidE w) : CwR 3 #[.int .u16 n, .int .u16 body] w (.bool true) := by
  have hn0 : ([] : LB).length = 0 := rfl
  have hAL := al4 body (by omega)
  have := em4 n body
  have hNN : NN4 n body = (n % (((AL4 body).length : Int) + 1)) + 1 := rfl
  have hjk := jk4 body 6 (NN4 n body) (by decide) (fun _ => by show LC4 body 5 < (NN4 n body); omega) (.inl (by assumption))
  have hTT := tt4 body (by omega) 6 (NN4 n body) (by omega) hjk
  have ho : ∀ k r, (k, r) ∈ hy27 → HOk (cx (nuL (nu27 n body)) (one27 n body) 1 laidE laidE_stab) k r := by
    unfold hy27
    exact hc (rm3 rfl rfl (by omega)) <|
     hc (cvV tu3 rfl rfl (by omega)) <|
     hc (kZer (isX rfl) (by omega) (by omega) (denX rfl)) <|
     hc (lnR rfl rfl (by omega)) <|
     hc (gtcT rfl (by omega)) <|
     hc (rT rfl (by omega) rfl) <|
     hc (l512 rfl) <|
     hc (rD rfl rfl (by omega)) <|
     hc (lnR rfl rfl (by omega)) <|
     hc (gtcT rfl (by omega)) <|
     hc (rT rfl (by omega) rfl) <|
     hc (rD rfl rfl (by omega)) <|
     hc (lnR rfl rfl (by omega)) <|
     hc (gtcT rfl (by omega)) <|
     hc (rT rfl (by omega) rfl) <|
     hc (rD rfl rfl (by omega)) <|
     hc (lnR rfl rfl (by omega)) <|
     hc (gtcF rfl (by omega)) <|
     hc (neZ rfl (by omega)) <|
     hc (kMax (isX rfl) (isZ (m := 0) rfl) (denX rfl) (by omega)) <|
     hc (ngV rfl rfl (by omega)) <|
     hc (aG rfl rfl (by omega)) <|
     hc (byC rfl rfl (by omega)) <|
     hc (lnV rfl rfl (by omega)) <|
     hc (ftV rfl (by omega)) <|
     hc (cvV tu3 rfl rfl (by omega)) <|
     hc (c120 rfl rfl (by omega)) <|
     hc (l120 rfl rfl) <|
     hc (rmV rfl rfl rfl (by omega)) <|
     hc (adC rfl rfl (by omega)) <|
     hc (byC rfl rfl (by omega)) <|
     hc (lnV rfl rfl (by omega)) <|
     hc (ftV rfl (by omega)) <|
     hc (byC rfl rfl (by omega)) <|
     hc (lnV rfl rfl (by omega)) <|
     hc (ftV rfl (by omega)) <|
     hc (ctV rfl rfl rfl (by omega)) <|
     hc (ct0 rfl rfl (by first | omega | (rw [List.length_append]; omega) | (simp <;> omega))) <|
     hc (ct0 rfl rfl (by first | omega | (rw [List.length_append]; omega) | (simp <;> omega))) <|
     hc (eqZ rfl (by omega)) <|
     hc (kCat (isX rfl) (isX rfl) (denX rfl) (by first | rfl | (simp; done)) (by first | omega | (simp <;> omega))) <|
     hc (kCat (isX rfl) (isX rfl) (denX rfl) (by first | rfl | (simp; done)) (by first | omega | (simp <;> omega))) <|
     hc (kCat (isX rfl) (isX rfl) (denX rfl) (by first | rfl | (simp; done)) (by first | omega | (simp <;> omega))) <|
     hc (eqZ rfl (by omega)) <|
     hnil
  exact finQ (nu := nuL (nu27 n body)) (one := one27 n body) rfl rfl ho run27 rfl rfl (dW4 (l := lfd109) (h := lhd109) body (by omega) rfl (by kernel_rfl) (zi := 6) (ri := 11) (pi := 15) rfl rfl rfl (sg0 := [(100, 66), (102, 65), (103, 64)]) (t := 16) (rr := 17) (by kernel_rfl) rfl rfl (by kernel_rfl)) rfl rfl (dD4 (l := lfd110) (h := lhd110) body (by omega) (NN4 n body) (by omega) (by omega) 6 hjk rfl (by kernel_rfl) (ni := 24) rfl (zi := 6) (ri := 11) (pi := 15) rfl rfl rfl (sg0 := [(320, 290), (322, 33), (323, 32)]) (t := 25) (rr := 26) (by kernel_rfl) rfl rfl (by kernel_rfl)) rfl rfl (dF (l := lfd111) (h := lhd111) (RR4 body 6 (NN4 n body)) (by omega) rfl (by kernel_rfl) (ri := 26) (t := 29) (rr := 30) (sg0 := [(700, 561), (702, 322), (703, 548)]) rfl (by kernel_rfl) rfl rfl (by kernel_rfl)) rfl rfl (cC4 (l := lfc112) (h := lhc112) body (by omega) 6 7 (by decide) rfl c4_6 rfl (by kernel_rfl) (xs := 34) (sg0 := [(1000, 890)]) rfl (cJ4 body 6 (NN4 n body) rfl) (by kernel_rfl) (thx := [(6, .x 20), (11, .x 21), (15, .x 22)]) (thc3 rfl rfl rfl) (by kernel_rfl)) w hl
def hy28 : LK := hp4 ++ [(.byt (.x 16) (i6 0), .x 18), (.len (.x 16), .x 19), (.fit (.x 16), .b true), (.conv 3 (.x 0), .x 20), (.bin .add (.x 16) (.s 1 120), .x 21), (.len (.x 21), .x 22), (.bin .rem (.x 20) (.x 22), .x 23), (.bin .add (.x 23) (i6 1), .x 24), (.byt (.x 25) (i6 0), .x 27), (.len (.x 25), .x 28), (.fit (.x 25), .b true), (.bin .neq (.x 26) (.s 0 0), .b true), (.bin .eql (.x 26) (.s 0 0), .b false), (.len (.x 26), .x 29), (.mm false (i6 1000000) (.x 29), .x 30), (.sub (.x 26) none (some (.x 30)), .x 31), (.byt (.x 31) (i6 0), .x 32), (.fit (.x 31), .b true), (.len (.x 31), .x 33), (.sub (.x 26) (some (.x 30)) none, .x 34), (.bin .sub (i6 1000000) (.x 30), .x 35), (.bin .gtr (.x 35) (i6 0), .b true), (.bin .neq (.x 34) (.s 0 0), .b false), (.bin .add (.x 25) (.x 31), .x 36), (.bin .add (.s 0 0) (.x 36), .x 37), (.bin .add (.s 0 0) (.x 6), .x 6), (.bin .eql (.x 6) (.s 0 0), .b false), (.bin .add (.x 6) (.x 6), .x 38), (.bin .add (.x 38) (.x 6), .x 39), (.bin .add (.x 39) (.x 11), .x 40), (.bin .eql (.x 11) (.s 0 0), .b false), (.bin .add (.x 40) (.s 0 0), .x 40)]
def lhd113 : LH := ⟨2, 100, 290, stG (.s 0 0) (.x 6) (.x 11) (.x 15) 36 34 35 65 64 4 0 ++ blD 66 0 0, stG (.x 17) (.x 6) (.x 11) (.x 15) 36 34 35 102 103 4 7 ++ blT 100 101 16⟩
def lfd113 : LF := ⟨2, 47, [(0, .p 36 0), (1, i6 1000000), (5, .p 66 0)], [], .exit 0, [(5, .p 100 0)], some lhd113⟩
def lhd114 : LH := ⟨2, 320, 510, stG (.s 0 0) (.x 6) (.x 11) (.x 15) 4 2 3 33 32 4 0 ++ blD 290 0 0, stG (.x 26) (.x 6) (.x 11) (.x 15) 4 2 3 322 323 4 7 ++ blT 320 321 25⟩
def lfd114 : LF := ⟨2, 47, [(0, .p 4 0), (1, .x 24), (5, .p 290 0)], [], .exit 0, [(5, .p 320 0)], some lhd114⟩
def lhc116 : LH := ⟨2, 1000, 1060, [(561, .b ⟨79, .l [i6 65535, .x 37, .b false], 0, 0, 0, false, false⟩)], [rowK (.x 6) (.x 11) (.x 15) (ksT 4 7)]⟩
def lfc116 : LF := ⟨5, 87, [(0, .p 561 0), (6, .nils)], [], .ret, [(4, .sl 1001 0 7 0 true), (5, i6 0)], some lhc116⟩
noncomputable def tab28 : Tab := tabU hy28 lfd113 lfd114 lfc116
theorem run28 (e : Nat) : Go.AX.okB (call tab28 9000 3 [.x 0, .x 1] ⟨H0 e , 2, 0, 0⟩) = true := by kernel_rfl
noncomputable def nu28 (n : Int) (body : Int) : List Value := pn4 n body ++ [St' (AL4 body), St' ([] : LB), .int .u8 (bt (AL4 body) 0), .int .i64 (((AL4 body).length : Int)), .int .i64 (n), St' ((AL4 body) ++ [u8 120]), .int .i64 (((AL4 body).length : Int) + 1), .int .i64 (n % (((AL4 body).length : Int) + 1)), .int .i64 ((n % (((AL4 body).length : Int) + 1)) + 1), St' (TT4 body 7 (NN4 n body)), St' (RR4 body 7 (NN4 n body)), .int .u8 (bt (TT4 body 7 (NN4 n body)) 0), .int .i64 (((TT4 body 7 (NN4 n body)).length : Int)), .int .i64 (((RR4 body 7 (NN4 n body)).length : Int)), .int .i64 (((RR4 body 7 (NN4 n body)).length : Int)), St' (RR4 body 7 (NN4 n body)), .int .u8 (bt (RR4 body 7 (NN4 n body)) 0), .int .i64 (((RR4 body 7 (NN4 n body)).length : Int)), St' ([] : LB), .int .i64 (1000000 - ((RR4 body 7 (NN4 n body)).length : Int)), St' ((TT4 body 7 (NN4 n body)) ++ (RR4 body 7 (NN4 n body))), St' ((TT4 body 7 (NN4 n body)) ++ (RR4 body 7 (NN4 n body))), St' ((List.replicate (Int.toNat (512)) 0) ++ (List.replicate (Int.toNat (512)) 0)), St' ((List.replicate (Int.toNat (512)) 0) ++ ((List.replicate (Int.toNat (512)) 0) ++ (List.replicate (Int.toNat (512)) 0))), St' ((List.replicate (Int.toNat (512)) 0) ++ ((List.replicate (Int.toNat (512)) 0) ++ ((List.replicate (Int.toNat (512)) 0) ++ (List.replicate (Int.toNat ((body % 3000) - 1536)) 0))))]
theorem one28 (n : Int) (body : Int) : ∀ j, j < 1000000 → (nuL (nu28 n body) j).oneCell' = true := fun j _ => nuL_one (l := nu28 n body) rfl j
theorem path28 (n : Int) (body : Int) (b0 : 0 ≤ n) (b1 : n ≤ 65535) (b2 : 0 ≤ body) (b3 : body ≤ 65535) (h0 : 512 < (body % 3000)) (h1 : 512 < (body % 3000) - 512) (h2 : 512 < (body % 3000) - 1024) (h3 : ¬ (512 < (body % 3000) - 1536)) (h6 : ¬ ((NN4 n body) ≤ LC4 body 1)) (h7 : ¬ ((NN4 n body) ≤ LC4 body 2)) (h8 : ¬ ((NN4 n body) ≤ LC4 body 3)) (h9 : ¬ ((NN4 n body) ≤ LC4 body 4)) (h10 : ¬ ((NN4 n body) ≤ LC4 body 5)) (h11 : ¬ ((NN4 n body) ≤ LC4 body 6)) (h12 : ¬ ((RR4 body 7 (NN4 n body)).length = 0)) (w : World) (hl : laidE w) : CwR 3 #[.int .u16 n, .int .u16 body] w (.bool true) := by
  have hn0 : ([] : LB).length = 0 := rfl
  have hAL := al4 body (by omega)
  have := em4 n body
  have hNN : NN4 n body = (n % (((AL4 body).length : Int) + 1)) + 1 := rfl
  have hjk := jk4 body 7 (NN4 n body) (by decide) (fun _ => by show LC4 body 6 < (NN4 n body); omega) (.inr rfl)
  have hTT := tt4 body (by omega) 7 (NN4 n body) (by omega) hjk
  have ho : ∀ k r, (k, r) ∈ hy28 → HOk (cx (nuL (nu28 n body)) (one28 n body) 1 laidE laidE_stab) k r := by
    unfold hy28
    exact hc (rm3 rfl rfl (by omega)) <|
     hc (cvV tu3 rfl rfl (by omega)) <|
     hc (kZer (isX rfl) (by omega) (by omega) (denX rfl)) <|
     hc (lnR rfl rfl (by omega)) <|
     hc (gtcT rfl (by omega)) <|
     hc (rT rfl (by omega) rfl) <|
     hc (l512 rfl) <|
     hc (rD rfl rfl (by omega)) <|
     hc (lnR rfl rfl (by omega)) <|
     hc (gtcT rfl (by omega)) <|
     hc (rT rfl (by omega) rfl) <|
     hc (rD rfl rfl (by omega)) <|
     hc (lnR rfl rfl (by omega)) <|
     hc (gtcT rfl (by omega)) <|
     hc (rT rfl (by omega) rfl) <|
     hc (rD rfl rfl (by omega)) <|
     hc (lnR rfl rfl (by omega)) <|
     hc (gtcF rfl (by omega)) <|
     hc (neZ rfl (by omega)) <|
     hc (kMax (isX rfl) (isZ (m := 0) rfl) (denX rfl) (by omega)) <|
     hc (ngV rfl rfl (by omega)) <|
     hc (aG rfl rfl (by omega)) <|
     hc (byC rfl rfl (by omega)) <|
     hc (lnV rfl rfl (by omega)) <|
     hc (ftV rfl (by omega)) <|
     hc (cvV tu3 rfl rfl (by omega)) <|
     hc (c120 rfl rfl (by omega)) <|
     hc (l120 rfl rfl) <|
     hc (rmV rfl rfl rfl (by omega)) <|
     hc (adC rfl rfl (by omega)) <|
     hc (byC rfl rfl (by omega)) <|
     hc (lnV rfl rfl (by omega)) <|
     hc (ftV rfl (by omega)) <|
     hc (kNeS (isX rfl) (isSx (l := ([] : LB)) 0 0 rfl) (bnT (nilF (by omega)))) <|
     hc (kEqS (isX rfl) (isSx (l := ([] : LB)) 0 0 rfl) (nilF (by omega))) <|
     hc (lnV rfl rfl (by omega)) <|
     hc (kMin (isZ (m := 1000000) rfl) (isX rfl) (denX rfl) (by omega)) <|
     hc (kCut (isX rfl) (.inl ⟨rfl, rfl⟩) (.inr ⟨_, _, rfl, (isX rfl)⟩) (p := ([] : LB)) (m := (RR4 body 7 (NN4 n body))) (q := ([] : LB)) (by first | rfl | (simp; done)) (by omega) (by omega) (denX rfl)) <|
     hc (byC rfl rfl (by omega)) <|
     hc (ftV rfl (by omega)) <|
     hc (lnV rfl rfl (by omega)) <|
     hc (kCut (isX rfl) (.inr ⟨_, _, rfl, (isX rfl)⟩) (.inl ⟨rfl, rfl⟩) (p := (RR4 body 7 (NN4 n body))) (m := ([] : LB)) (q := ([] : LB)) (by first | rfl | (simp; done)) (by omega) (by omega) (denX rfl)) <|
     hc (kSub (isZ (m := 1000000) rfl) (isX rfl) (denX rfl) (by omega) (fI64 (by omega) (by omega))) <|
     hc (gtcT rfl (by omega)) <|
     hc (kNeS (isX rfl) (isSx (l := ([] : LB)) 0 0 rfl) (bnF (decide_eq_true rfl))) <|
     hc (ctV rfl rfl rfl (by omega)) <|
     hc (ct0 rfl rfl (by first | omega | (rw [List.length_append]; omega) | (simp <;> omega))) <|
     hc (ct0 rfl rfl (by first | omega | (rw [List.length_append]; omega) | (simp <;> omega))) <|
     hc (eqZ rfl (by omega)) <|
     hc (kCat (isX rfl) (isX rfl) (denX rfl) (by first | rfl | (simp; done)) (by first | omega | (simp <;> omega))) <|
     hc (kCat (isX rfl) (isX rfl) (denX rfl) (by first | rfl | (simp; done)) (by first | omega | (simp <;> omega))) <|
     hc (kCat (isX rfl) (isX rfl) (denX rfl) (by first | rfl | (simp; done)) (by first | omega | (simp <;> omega))) <|
     hc (eqZ rfl (by omega)) <|
     hc (kCat (isX rfl) (isSx (l := ([] : LB)) 0 0 rfl) (denX rfl) (by first | rfl | (simp; done)) (by first | omega | (simp <;> omega))) <|
     hnil
  exact finU (nu := nuL (nu28 n body)) (one := one28 n body) rfl rfl ho run28 rfl rfl (dW4 (l := lfd113) (h := lhd113) body (by omega) rfl (by kernel_rfl) (zi := 6) (ri := 11) (pi := 15) rfl rfl rfl (sg0 := [(100, 66), (102, 65), (103, 64)]) (t := 16) (rr := 17) (by kernel_rfl) rfl rfl (by kernel_rfl)) rfl rfl (dD4 (l := lfd114) (h := lhd114) body (by omega) (NN4 n body) (by omega) (by omega) 7 hjk rfl (by kernel_rfl) (ni := 24) rfl (zi := 6) (ri := 11) (pi := 15) rfl rfl rfl (sg0 := [(320, 290), (322, 33), (323, 32)]) (t := 25) (rr := 26) (by kernel_rfl) rfl rfl (by kernel_rfl)) rfl rfl (cC4 (l := lfc116) (h := lhc116) body (by omega) 7 7 (by decide) rfl c4_7 rfl (by kernel_rfl) (xs := 37) (sg0 := [(1000, 561)]) rfl (cK4 body 7 (NN4 n body) rfl) (by kernel_rfl) (thx := [(6, .x 20), (11, .x 21), (15, .x 22)]) (thc3 rfl rfl rfl) (by kernel_rfl)) w hl
def hy29 : LK := hp4 ++ [(.byt (.x 16) (i6 0), .x 18), (.len (.x 16), .x 19), (.fit (.x 16), .b true), (.conv 3 (.x 0), .x 20), (.bin .add (.x 16) (.s 1 120), .x 21), (.len (.x 21), .x 22), (.bin .rem (.x 20) (.x 22), .x 23), (.bin .add (.x 23) (i6 1), .x 24), (.byt (.x 25) (i6 0), .x 27), (.len (.x 25), .x 28), (.fit (.x 25), .b true), (.bin .neq (.x 26) (.s 0 0), .b false), (.bin .add (.x 25) (.s 0 0), .x 29), (.bin .add (.s 0 0) (.x 29), .x 30), (.bin .add (.s 0 0) (.x 6), .x 6), (.bin .eql (.x 6) (.s 0 0), .b false), (.bin .add (.x 6) (.x 6), .x 31), (.bin .add (.x 31) (.x 6), .x 32), (.bin .add (.x 32) (.x 11), .x 33), (.bin .eql (.x 11) (.s 0 0), .b false), (.bin .add (.x 33) (.s 0 0), .x 33)]
def lhd117 : LH := ⟨2, 100, 290, stG (.s 0 0) (.x 6) (.x 11) (.x 15) 36 34 35 65 64 4 0 ++ blD 66 0 0, stG (.x 17) (.x 6) (.x 11) (.x 15) 36 34 35 102 103 4 7 ++ blT 100 101 16⟩
def lfd117 : LF := ⟨2, 47, [(0, .p 36 0), (1, i6 1000000), (5, .p 66 0)], [], .exit 0, [(5, .p 100 0)], some lhd117⟩
def lhd118 : LH := ⟨2, 320, 510, stG (.s 0 0) (.x 6) (.x 11) (.x 15) 4 2 3 33 32 4 0 ++ blD 290 0 0, stG (.x 26) (.x 6) (.x 11) (.x 15) 4 2 3 322 323 4 7 ++ blT 320 321 25⟩
def lfd118 : LF := ⟨2, 47, [(0, .p 4 0), (1, .x 24), (5, .p 290 0)], [], .exit 0, [(5, .p 320 0)], some lhd118⟩
def lhc120 : LH := ⟨2, 1000, 1060, [(560, .b ⟨79, .l [i6 65535, .x 30, .b false], 0, 0, 0, false, false⟩)], [rowK (.x 6) (.x 11) (.x 15) (ksT 4 7)]⟩
def lfc120 : LF := ⟨5, 87, [(0, .p 560 0), (6, .nils)], [], .ret, [(4, .sl 1001 0 7 0 true), (5, i6 0)], some lhc120⟩
noncomputable def tab29 : Tab := tabU hy29 lfd117 lfd118 lfc120
theorem run29 (e : Nat) : Go.AX.okB (call tab29 9000 3 [.x 0, .x 1] ⟨H0 e , 2, 0, 0⟩) = true := by kernel_rfl
noncomputable def nu29 (n : Int) (body : Int) : List Value := pn4 n body ++ [St' (AL4 body), St' ([] : LB), .int .u8 (bt (AL4 body) 0), .int .i64 (((AL4 body).length : Int)), .int .i64 (n), St' ((AL4 body) ++ [u8 120]), .int .i64 (((AL4 body).length : Int) + 1), .int .i64 (n % (((AL4 body).length : Int) + 1)), .int .i64 ((n % (((AL4 body).length : Int) + 1)) + 1), St' (TT4 body 7 (NN4 n body)), St' (RR4 body 7 (NN4 n body)), .int .u8 (bt (TT4 body 7 (NN4 n body)) 0), .int .i64 (((TT4 body 7 (NN4 n body)).length : Int)), St' (TT4 body 7 (NN4 n body)), St' (TT4 body 7 (NN4 n body)), St' ((List.replicate (Int.toNat (512)) 0) ++ (List.replicate (Int.toNat (512)) 0)), St' ((List.replicate (Int.toNat (512)) 0) ++ ((List.replicate (Int.toNat (512)) 0) ++ (List.replicate (Int.toNat (512)) 0))), St' ((List.replicate (Int.toNat (512)) 0) ++ ((List.replicate (Int.toNat (512)) 0) ++ ((List.replicate (Int.toNat (512)) 0) ++ (List.replicate (Int.toNat ((body % 3000) - 1536)) 0))))]
theorem one29 (n : Int) (body : Int) : ∀ j, j < 1000000 → (nuL (nu29 n body) j).oneCell' = true := fun j _ => nuL_one (l := nu29 n body) rfl j
theorem path29 (n : Int) (body : Int) (b0 : 0 ≤ n) (b1 : n ≤ 65535) (b2 : 0 ≤ body) (b3 : body ≤ 65535) (h0 : 512 < (body % 3000)) (h1 : 512 < (body % 3000) - 512) (h2 : 512 < (body % 3000) - 1024) (h3 : ¬ (512 < (body % 3000) - 1536)) (h6 : ¬ ((NN4 n body) ≤ LC4 body 1)) (h7 : ¬ ((NN4 n body) ≤ LC4 body 2)) (h8 : ¬ ((NN4 n body) ≤ LC4 body 3)) (h9 : ¬ ((NN4 n body) ≤ LC4 body 4)) (h10 : ¬ ((NN4 n body) ≤ LC4 body 5)) (h11 : ¬ ((NN4 n body) ≤ LC4 body 6)) (h12 : (RR4 body 7 (NN4 n body)).length = 0) (w : World) (hl : laidE w) : CwR 3 #[.int .u16 n, .int .u16 body] w (.bool true) := by
  have hn0 : ([] : LB).length = 0 := rfl
  have hAL := al4 body (by omega)
  have := em4 n body
  have hNN : NN4 n body = (n % (((AL4 body).length : Int) + 1)) + 1 := rfl
  have hjk := jk4 body 7 (NN4 n body) (by decide) (fun _ => by show LC4 body 6 < (NN4 n body); omega) (.inr rfl)
  have hTT := tt4 body (by omega) 7 (NN4 n body) (by omega) hjk
  have ho : ∀ k r, (k, r) ∈ hy29 → HOk (cx (nuL (nu29 n body)) (one29 n body) 1 laidE laidE_stab) k r := by
    unfold hy29
    exact hc (rm3 rfl rfl (by omega)) <|
     hc (cvV tu3 rfl rfl (by omega)) <|
     hc (kZer (isX rfl) (by omega) (by omega) (denX rfl)) <|
     hc (lnR rfl rfl (by omega)) <|
     hc (gtcT rfl (by omega)) <|
     hc (rT rfl (by omega) rfl) <|
     hc (l512 rfl) <|
     hc (rD rfl rfl (by omega)) <|
     hc (lnR rfl rfl (by omega)) <|
     hc (gtcT rfl (by omega)) <|
     hc (rT rfl (by omega) rfl) <|
     hc (rD rfl rfl (by omega)) <|
     hc (lnR rfl rfl (by omega)) <|
     hc (gtcT rfl (by omega)) <|
     hc (rT rfl (by omega) rfl) <|
     hc (rD rfl rfl (by omega)) <|
     hc (lnR rfl rfl (by omega)) <|
     hc (gtcF rfl (by omega)) <|
     hc (neZ rfl (by omega)) <|
     hc (kMax (isX rfl) (isZ (m := 0) rfl) (denX rfl) (by omega)) <|
     hc (ngV rfl rfl (by omega)) <|
     hc (aG rfl rfl (by omega)) <|
     hc (byC rfl rfl (by omega)) <|
     hc (lnV rfl rfl (by omega)) <|
     hc (ftV rfl (by omega)) <|
     hc (cvV tu3 rfl rfl (by omega)) <|
     hc (c120 rfl rfl (by omega)) <|
     hc (l120 rfl rfl) <|
     hc (rmV rfl rfl rfl (by omega)) <|
     hc (adC rfl rfl (by omega)) <|
     hc (byC rfl rfl (by omega)) <|
     hc (lnV rfl rfl (by omega)) <|
     hc (ftV rfl (by omega)) <|
     hc (kNeS (isX rfl) (isSx (l := ([] : LB)) 0 0 rfl) (bnF (nilT (by omega)))) <|
     hc (kCat (isX rfl) (isSx (l := ([] : LB)) 0 0 rfl) (denX rfl) (by first | rfl | (simp; done)) (by omega)) <|
     hc (ct0 rfl rfl (by first | omega | (rw [List.length_append]; omega) | (simp <;> omega))) <|
     hc (ct0 rfl rfl (by first | omega | (rw [List.length_append]; omega) | (simp <;> omega))) <|
     hc (eqZ rfl (by omega)) <|
     hc (kCat (isX rfl) (isX rfl) (denX rfl) (by first | rfl | (simp; done)) (by first | omega | (simp <;> omega))) <|
     hc (kCat (isX rfl) (isX rfl) (denX rfl) (by first | rfl | (simp; done)) (by first | omega | (simp <;> omega))) <|
     hc (kCat (isX rfl) (isX rfl) (denX rfl) (by first | rfl | (simp; done)) (by first | omega | (simp <;> omega))) <|
     hc (eqZ rfl (by omega)) <|
     hc (kCat (isX rfl) (isSx (l := ([] : LB)) 0 0 rfl) (denX rfl) (by first | rfl | (simp; done)) (by first | omega | (simp <;> omega))) <|
     hnil
  exact finU (nu := nuL (nu29 n body)) (one := one29 n body) rfl rfl ho run29 rfl rfl (dW4 (l := lfd117) (h := lhd117) body (by omega) rfl (by kernel_rfl) (zi := 6) (ri := 11) (pi := 15) rfl rfl rfl (sg0 := [(100, 66), (102, 65), (103, 64)]) (t := 16) (rr := 17) (by kernel_rfl) rfl rfl (by kernel_rfl)) rfl rfl (dD4 (l := lfd118) (h := lhd118) body (by omega) (NN4 n body) (by omega) (by omega) 7 hjk rfl (by kernel_rfl) (ni := 24) rfl (zi := 6) (ri := 11) (pi := 15) rfl rfl rfl (sg0 := [(320, 290), (322, 33), (323, 32)]) (t := 25) (rr := 26) (by kernel_rfl) rfl rfl (by kernel_rfl)) rfl rfl (cC4 (l := lfc120) (h := lhc120) body (by omega) 7 7 (by decide) rfl c4_7 rfl (by kernel_rfl) (xs := 30) (sg0 := [(1000, 560)]) rfl (cO4 body 7 (NN4 n body) rfl (by assumption)) (by kernel_rfl) (thx := [(6, .x 20), (11, .x 21), (15, .x 22)]) (thc3 rfl rfl rfl) (by kernel_rfl)) w hl
end Go.Proofs.YtaihihejljcniaaGreatDoor.muxEarly
