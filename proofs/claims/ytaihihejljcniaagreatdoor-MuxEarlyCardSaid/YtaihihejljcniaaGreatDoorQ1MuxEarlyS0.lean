/- A part of the proof: an interpreter of the model's own code on partly known states, and that what it answers is what the program answers. No condition of its own. -/
import Derived.Test.YtaihihejljcniaaGreatDoorQ1MuxEarlyQ
set_option maxRecDepth 100000
set_option linter.unusedVariables false
set_option linter.unusedSimpArgs false
set_option maxHeartbeats 4000000
namespace Go.Proofs.YtaihihejljcniaaGreatDoor.muxEarly
open Go Go.AX Go.Proofs Go.Proofs.YtaihihejljcniaaGreatDoor
def hy0 : LK := hp0 ++ [(.byt (.x 6) (i6 0), .x 8), (.len (.x 6), .x 9), (.fit (.x 6), .b true), (.conv 3 (.x 0), .x 10), (.bin .add (.x 6) (.s 1 120), .x 11), (.len (.x 11), .x 12), (.bin .rem (.x 10) (.x 12), .x 13), (.bin .add (.x 13) (i6 1), .x 14), (.byt (.x 15) (i6 0), .x 17), (.len (.x 15), .x 18), (.fit (.x 15), .b true), (.byt (.x 19) (i6 0), .x 21), (.len (.x 19), .x 22), (.fit (.x 19), .b true), (.bin .add (.x 15) (.x 19), .x 23), (.bin .add (.s 0 0) (.x 23), .x 24)]
def lhd1 : LH := ⟨2, 100, 290, stG (.s 0 0) (.und) (.und) (.und) 24 22 23 41 40 0 0 ++ blD 42 0 0, stG (.x 7) (.und) (.und) (.und) 24 22 23 102 103 0 3 ++ blT 100 101 6⟩
def lfd1 : LF := ⟨2, 47, [(0, .p 24 0), (1, i6 1000000), (5, .p 42 0)], [], .exit 0, [(5, .p 100 0)], some lhd1⟩
def lhd2 : LH := ⟨2, 320, 510, stG (.s 0 0) (.und) (.und) (.und) 4 2 3 21 20 0 0 ++ blD 290 0 0, stG (.x 16) (.und) (.und) (.und) 4 2 3 322 323 0 1 ++ blT 320 321 15⟩
def lfd2 : LF := ⟨2, 47, [(0, .p 4 0), (1, .x 14), (5, .p 290 0)], [], .exit 0, [(5, .p 320 0)], some lhd2⟩
def lhd3 : LH := ⟨2, 700, 890, stH (.x 16) (.sl 552 0 1 0 true) 322 548 0 ++ blD 561 0 0, stH (.x 20) (.sl 552 0 1 0 true) 702 703 1 ++ blT 700 701 19⟩
def lfd3 : LF := ⟨2, 47, [(0, .p 4 0), (1, i6 1000000), (5, .p 561 0)], [], .exit 0, [(5, .p 700 0)], some lhd3⟩
def lhc4 : LH := ⟨2, 1000, 1060, [(890, .b ⟨79, .l [i6 65535, .x 24, .b false], 0, 0, 0, false, false⟩)], [rowK .und .und .und (ksT 0 1)]⟩
def lfc4 : LF := ⟨5, 87, [(0, .p 890 0), (6, .nils)], [], .ret, [(4, .sl 1001 0 2 0 true), (5, i6 0)], some lhc4⟩
noncomputable def tab0 : Tab := tabQ hy0 lfd1 lfd2 lfd3 lfc4
theorem run0 (e : Nat) : Go.AX.okB (call tab0 9000 3 [.x 0, .x 1] ⟨H0 e , 2, 0, 0⟩) = true := by kernel_rfl
noncomputable def nu0 (n : Int) (body : Int) : List Value := pn0 n body ++ [St' (AL0 body), St' ([] : LB), .int .u8 (bt (AL0 body) 0), .int .i64 (((AL0 body).length : Int)), .int .i64 (n), St' ((AL0 body) ++ [u8 120]), .int .i64 (((AL0 body).length : Int) + 1), .int .i64 (n % (((AL0 body).length : Int) + 1)), .int .i64 ((n % (((AL0 body).length : Int) + 1)) + 1), St' (TT0 body 1 (NN0 n body)), St' (RR0 body 1 (NN0 n body)), .int .u8 (bt (TT0 body 1 (NN0 n body)) 0), .int .i64 (((TT0 body 1 (NN0 n body)).length : Int)), St' ((RR0 body 1 (NN0 n body)) ++ abS), St' ([] : LB), .int .u8 (bt ((RR0 body 1 (NN0 n body)) ++ abS) 0), .int .i64 ((((RR0 body 1 (NN0 n body)) ++ abS).length : Int)), St' ((TT0 body 1 (NN0 n body)) ++ ((RR0 body 1 (NN0 n body)) ++ abS)), St' ((TT0 body 1 (NN0 n body)) ++ ((RR0 body 1 (NN0 n body)) ++ abS))]
theorem one0 (n : Int) (body : Int) : ∀ j, j < 1000000 → (nuL (nu0 n body) j).oneCell' = true := fun j _ => nuL_one (l := nu0 n body) rfl j
theorem path0 (n : Int) (body : Int) (b0 : 0 ≤ n) (b1 : n ≤ 65535) (b2 : 0 ≤ body) (b3 : body ≤ 65535) (h0 : ¬ (512 < (body % 3000))) (h1 : (body % 3000) = 0) (h2 : (NN0 n body) ≤ LC0 body 1) (w : World) (hl : laidE w) : CwR 3 #[.int .u16 n, .int .u16 body] w (.bool true) := by
  have hn0 : ([] : LB).length = 0 := rfl
  have hAL := al0 body
  have := em0 n body
  have hNN : NN0 n body = (n % (((AL0 body).length : Int) + 1)) + 1 := rfl
  have hL0 := lc0 body
  have hjk := jk0 body 1 (NN0 n body) (by decide) (fun _ => by show LC0 body 0 < (NN0 n body); omega) (.inl (by assumption))
  have hTT := tt0 body 1 (NN0 n body) (by omega) hjk
  have ho : ∀ k r, (k, r) ∈ hy0 → HOk (cx (nuL (nu0 n body)) (one0 n body) 1 laidE laidE_stab) k r := by
    unfold hy0
    exact hc (rm3 rfl rfl (by omega)) <|
     hc (cvV tu3 rfl rfl (by omega)) <|
     hc (kZer (isX rfl) (by omega) (by omega) (denX rfl)) <|
     hc (lnR rfl rfl (by omega)) <|
     hc (gtcF rfl (by omega)) <|
     hc (kNeS (isX rfl) (isSx (l := ([] : LB)) 0 0 rfl) (bnF (nilT (by rw [List.length_replicate]; omega)))) <|
     hc (byC rfl rfl (by omega)) <|
     hc (lnV rfl rfl (by omega)) <|
     hc (ftV rfl (by omega)) <|
     hc (cvV tu3 rfl rfl (by omega)) <|
     hc (c120 rfl rfl (by omega)) <|
     hc (l120 rfl rfl) <|
     hc (rmV rfl rfl rfl (by omega)) <|
     hc (adC rfl rfl (by omega)) <|
     hc (byC rfl rfl (by omega)) <|
     hc (lnV rfl rfl (by omega)) <|
     hc (ftV rfl (by omega)) <|
     hc (byC rfl rfl (by omega)) <|
     hc (lnV rfl rfl (by omega)) <|
     hc (ftV rfl (by omega)) <|
     hc (ctV rfl rfl rfl (by omega)) <|
     hc (ct0 rfl rfl (by first | omega | (rw [List.length_append]; omega) | (simp <;> omega))) <|
     hnil
  exact finQ (nu := nuL (nu0 n body)) (one := one0 n body) rfl rfl ho run0 rfl rfl (dW0 (l := lfd1) (h := lhd1) body rfl (by kernel_rfl) (sg0 := [(100, 42), (102, 41), (103, 40)]) (t := 6) (rr := 7) (by kernel_rfl) rfl rfl (by kernel_rfl)) rfl rfl (dD0 (l := lfd2) (h := lhd2) body (NN0 n body) (by omega) (by omega) 1 hjk rfl (by kernel_rfl) (ni := 14) rfl (sg0 := [(320, 290), (322, 21), (323, 20)]) (t := 15) (rr := 16) (by kernel_rfl) rfl rfl (by kernel_rfl)) rfl rfl (dF (l := lfd3) (h := lhd3) (RR0 body 1 (NN0 n body)) (by omega) rfl (by kernel_rfl) (ri := 16) (t := 19) (rr := 20) (sg0 := [(700, 561), (702, 322), (703, 548)]) rfl (by kernel_rfl) rfl rfl (by kernel_rfl)) rfl rfl (cC0 (l := lfc4) (h := lhc4) body 1 2 (by decide) rfl c0_1 rfl (by kernel_rfl) (xs := 24) (sg0 := [(1000, 890)]) rfl (cJ0 body 1 (NN0 n body) rfl) (by kernel_rfl) (thx := []) (thc0) (by kernel_rfl)) w hl
def hy1 : LK := hp0 ++ [(.byt (.x 6) (i6 0), .x 8), (.len (.x 6), .x 9), (.fit (.x 6), .b true), (.conv 3 (.x 0), .x 10), (.bin .add (.x 6) (.s 1 120), .x 11), (.len (.x 11), .x 12), (.bin .rem (.x 10) (.x 12), .x 13), (.bin .add (.x 13) (i6 1), .x 14), (.byt (.x 15) (i6 0), .x 17), (.len (.x 15), .x 18), (.fit (.x 15), .b true), (.byt (.x 19) (i6 0), .x 21), (.len (.x 19), .x 22), (.fit (.x 19), .b true), (.bin .add (.x 15) (.x 19), .x 23), (.bin .add (.s 0 0) (.x 23), .x 24)]
def lhd5 : LH := ⟨2, 100, 290, stG (.s 0 0) (.und) (.und) (.und) 24 22 23 41 40 0 0 ++ blD 42 0 0, stG (.x 7) (.und) (.und) (.und) 24 22 23 102 103 0 3 ++ blT 100 101 6⟩
def lfd5 : LF := ⟨2, 47, [(0, .p 24 0), (1, i6 1000000), (5, .p 42 0)], [], .exit 0, [(5, .p 100 0)], some lhd5⟩
def lhd6 : LH := ⟨2, 320, 510, stG (.s 0 0) (.und) (.und) (.und) 4 2 3 21 20 0 0 ++ blD 290 0 0, stG (.x 16) (.und) (.und) (.und) 4 2 3 322 323 0 2 ++ blT 320 321 15⟩
def lfd6 : LF := ⟨2, 47, [(0, .p 4 0), (1, .x 14), (5, .p 290 0)], [], .exit 0, [(5, .p 320 0)], some lhd6⟩
def lhd7 : LH := ⟨2, 700, 890, stH (.x 16) (.sl 552 0 1 0 true) 322 548 0 ++ blD 561 0 0, stH (.x 20) (.sl 552 0 1 0 true) 702 703 1 ++ blT 700 701 19⟩
def lfd7 : LF := ⟨2, 47, [(0, .p 4 0), (1, i6 1000000), (5, .p 561 0)], [], .exit 0, [(5, .p 700 0)], some lhd7⟩
def lhc8 : LH := ⟨2, 1000, 1060, [(890, .b ⟨79, .l [i6 65535, .x 24, .b false], 0, 0, 0, false, false⟩)], [rowK .und .und .und (ksT 0 2)]⟩
def lfc8 : LF := ⟨5, 87, [(0, .p 890 0), (6, .nils)], [], .ret, [(4, .sl 1001 0 3 0 true), (5, i6 0)], some lhc8⟩
noncomputable def tab1 : Tab := tabQ hy1 lfd5 lfd6 lfd7 lfc8
theorem run1 (e : Nat) : Go.AX.okB (call tab1 9000 3 [.x 0, .x 1] ⟨H0 e , 2, 0, 0⟩) = true := by kernel_rfl
noncomputable def nu1 (n : Int) (body : Int) : List Value := pn0 n body ++ [St' (AL0 body), St' ([] : LB), .int .u8 (bt (AL0 body) 0), .int .i64 (((AL0 body).length : Int)), .int .i64 (n), St' ((AL0 body) ++ [u8 120]), .int .i64 (((AL0 body).length : Int) + 1), .int .i64 (n % (((AL0 body).length : Int) + 1)), .int .i64 ((n % (((AL0 body).length : Int) + 1)) + 1), St' (TT0 body 2 (NN0 n body)), St' (RR0 body 2 (NN0 n body)), .int .u8 (bt (TT0 body 2 (NN0 n body)) 0), .int .i64 (((TT0 body 2 (NN0 n body)).length : Int)), St' ((RR0 body 2 (NN0 n body)) ++ abS), St' ([] : LB), .int .u8 (bt ((RR0 body 2 (NN0 n body)) ++ abS) 0), .int .i64 ((((RR0 body 2 (NN0 n body)) ++ abS).length : Int)), St' ((TT0 body 2 (NN0 n body)) ++ ((RR0 body 2 (NN0 n body)) ++ abS)), St' ((TT0 body 2 (NN0 n body)) ++ ((RR0 body 2 (NN0 n body)) ++ abS))]
theorem one1 (n : Int) (body : Int) : ∀ j, j < 1000000 → (nuL (nu1 n body) j).oneCell' = true := fun j _ => nuL_one (l := nu1 n body) rfl j
theorem path1 (n : Int) (body : Int) (b0 : 0 ≤ n) (b1 : n ≤ 65535) (b2 : 0 ≤ body) (b3 : body ≤ 65535) (h0 : ¬ (512 < (body % 3000))) (h1 : (body % 3000) = 0) (h2 : ¬ ((NN0 n body) ≤ LC0 body 1)) (h3 : (NN0 n body) ≤ LC0 body 2) (w : World) (hl : laidE w) : CwR 3 #[.int .u16 n, .int .u16 body] w (.bool true) := by
  have hn0 : ([] : LB).length = 0 := rfl
  have hAL := al0 body
  have := em0 n body
  have hNN : NN0 n body = (n % (((AL0 body).length : Int) + 1)) + 1 := rfl
  have hjk := jk0 body 2 (NN0 n body) (by decide) (fun _ => by show LC0 body 1 < (NN0 n body); omega) (.inl (by assumption))
  have hTT := tt0 body 2 (NN0 n body) (by omega) hjk
  have ho : ∀ k r, (k, r) ∈ hy1 → HOk (cx (nuL (nu1 n body)) (one1 n body) 1 laidE laidE_stab) k r := by
    unfold hy1
    exact hc (rm3 rfl rfl (by omega)) <|
     hc (cvV tu3 rfl rfl (by omega)) <|
     hc (kZer (isX rfl) (by omega) (by omega) (denX rfl)) <|
     hc (lnR rfl rfl (by omega)) <|
     hc (gtcF rfl (by omega)) <|
     hc (kNeS (isX rfl) (isSx (l := ([] : LB)) 0 0 rfl) (bnF (nilT (by rw [List.length_replicate]; omega)))) <|
     hc (byC rfl rfl (by omega)) <|
     hc (lnV rfl rfl (by omega)) <|
     hc (ftV rfl (by omega)) <|
     hc (cvV tu3 rfl rfl (by omega)) <|
     hc (c120 rfl rfl (by omega)) <|
     hc (l120 rfl rfl) <|
     hc (rmV rfl rfl rfl (by omega)) <|
     hc (adC rfl rfl (by omega)) <|
     hc (byC rfl rfl (by omega)) <|
     hc (lnV rfl rfl (by omega)) <|
     hc (ftV rfl (by omega)) <|
     hc (byC rfl rfl (by omega)) <|
     hc (lnV rfl rfl (by omega)) <|
     hc (ftV rfl (by omega)) <|
     hc (ctV rfl rfl rfl (by omega)) <|
     hc (ct0 rfl rfl (by first | omega | (rw [List.length_append]; omega) | (simp <;> omega))) <|
     hnil
  exact finQ (nu := nuL (nu1 n body)) (one := one1 n body) rfl rfl ho run1 rfl rfl (dW0 (l := lfd5) (h := lhd5) body rfl (by kernel_rfl) (sg0 := [(100, 42), (102, 41), (103, 40)]) (t := 6) (rr := 7) (by kernel_rfl) rfl rfl (by kernel_rfl)) rfl rfl (dD0 (l := lfd6) (h := lhd6) body (NN0 n body) (by omega) (by omega) 2 hjk rfl (by kernel_rfl) (ni := 14) rfl (sg0 := [(320, 290), (322, 21), (323, 20)]) (t := 15) (rr := 16) (by kernel_rfl) rfl rfl (by kernel_rfl)) rfl rfl (dF (l := lfd7) (h := lhd7) (RR0 body 2 (NN0 n body)) (by omega) rfl (by kernel_rfl) (ri := 16) (t := 19) (rr := 20) (sg0 := [(700, 561), (702, 322), (703, 548)]) rfl (by kernel_rfl) rfl rfl (by kernel_rfl)) rfl rfl (cC0 (l := lfc8) (h := lhc8) body 2 3 (by decide) rfl c0_2 rfl (by kernel_rfl) (xs := 24) (sg0 := [(1000, 890)]) rfl (cJ0 body 2 (NN0 n body) rfl) (by kernel_rfl) (thx := []) (thc0) (by kernel_rfl)) w hl
def hy2 : LK := hp0 ++ [(.byt (.x 6) (i6 0), .x 8), (.len (.x 6), .x 9), (.fit (.x 6), .b true), (.conv 3 (.x 0), .x 10), (.bin .add (.x 6) (.s 1 120), .x 11), (.len (.x 11), .x 12), (.bin .rem (.x 10) (.x 12), .x 13), (.bin .add (.x 13) (i6 1), .x 14), (.byt (.x 15) (i6 0), .x 17), (.len (.x 15), .x 18), (.fit (.x 15), .b true), (.bin .neq (.x 16) (.s 0 0), .b true), (.bin .eql (.x 16) (.s 0 0), .b false), (.len (.x 16), .x 19), (.mm false (i6 1000000) (.x 19), .x 20), (.sub (.x 16) none (some (.x 20)), .x 21), (.byt (.x 21) (i6 0), .x 22), (.fit (.x 21), .b true), (.len (.x 21), .x 23), (.sub (.x 16) (some (.x 20)) none, .x 24), (.bin .sub (i6 1000000) (.x 20), .x 25), (.bin .gtr (.x 25) (i6 0), .b true), (.bin .neq (.x 24) (.s 0 0), .b false), (.bin .add (.x 15) (.x 21), .x 26), (.bin .add (.s 0 0) (.x 26), .x 27)]
def lhd9 : LH := ⟨2, 100, 290, stG (.s 0 0) (.und) (.und) (.und) 24 22 23 41 40 0 0 ++ blD 42 0 0, stG (.x 7) (.und) (.und) (.und) 24 22 23 102 103 0 3 ++ blT 100 101 6⟩
def lfd9 : LF := ⟨2, 47, [(0, .p 24 0), (1, i6 1000000), (5, .p 42 0)], [], .exit 0, [(5, .p 100 0)], some lhd9⟩
def lhd10 : LH := ⟨2, 320, 510, stG (.s 0 0) (.und) (.und) (.und) 4 2 3 21 20 0 0 ++ blD 290 0 0, stG (.x 16) (.und) (.und) (.und) 4 2 3 322 323 0 3 ++ blT 320 321 15⟩
def lfd10 : LF := ⟨2, 47, [(0, .p 4 0), (1, .x 14), (5, .p 290 0)], [], .exit 0, [(5, .p 320 0)], some lhd10⟩
def lhc12 : LH := ⟨2, 1000, 1060, [(561, .b ⟨79, .l [i6 65535, .x 27, .b false], 0, 0, 0, false, false⟩)], [rowK .und .und .und (ksT 0 3)]⟩
def lfc12 : LF := ⟨5, 87, [(0, .p 561 0), (6, .nils)], [], .ret, [(4, .sl 1001 0 3 0 true), (5, i6 0)], some lhc12⟩
noncomputable def tab2 : Tab := tabU hy2 lfd9 lfd10 lfc12
theorem run2 (e : Nat) : Go.AX.okB (call tab2 9000 3 [.x 0, .x 1] ⟨H0 e , 2, 0, 0⟩) = true := by kernel_rfl
noncomputable def nu2 (n : Int) (body : Int) : List Value := pn0 n body ++ [St' (AL0 body), St' ([] : LB), .int .u8 (bt (AL0 body) 0), .int .i64 (((AL0 body).length : Int)), .int .i64 (n), St' ((AL0 body) ++ [u8 120]), .int .i64 (((AL0 body).length : Int) + 1), .int .i64 (n % (((AL0 body).length : Int) + 1)), .int .i64 ((n % (((AL0 body).length : Int) + 1)) + 1), St' (TT0 body 3 (NN0 n body)), St' (RR0 body 3 (NN0 n body)), .int .u8 (bt (TT0 body 3 (NN0 n body)) 0), .int .i64 (((TT0 body 3 (NN0 n body)).length : Int)), .int .i64 (((RR0 body 3 (NN0 n body)).length : Int)), .int .i64 (((RR0 body 3 (NN0 n body)).length : Int)), St' (RR0 body 3 (NN0 n body)), .int .u8 (bt (RR0 body 3 (NN0 n body)) 0), .int .i64 (((RR0 body 3 (NN0 n body)).length : Int)), St' ([] : LB), .int .i64 (1000000 - ((RR0 body 3 (NN0 n body)).length : Int)), St' ((TT0 body 3 (NN0 n body)) ++ (RR0 body 3 (NN0 n body))), St' ((TT0 body 3 (NN0 n body)) ++ (RR0 body 3 (NN0 n body)))]
theorem one2 (n : Int) (body : Int) : ∀ j, j < 1000000 → (nuL (nu2 n body) j).oneCell' = true := fun j _ => nuL_one (l := nu2 n body) rfl j
theorem path2 (n : Int) (body : Int) (b0 : 0 ≤ n) (b1 : n ≤ 65535) (b2 : 0 ≤ body) (b3 : body ≤ 65535) (h0 : ¬ (512 < (body % 3000))) (h1 : (body % 3000) = 0) (h2 : ¬ ((NN0 n body) ≤ LC0 body 1)) (h3 : ¬ ((NN0 n body) ≤ LC0 body 2)) (h4 : ¬ ((RR0 body 3 (NN0 n body)).length = 0)) (w : World) (hl : laidE w) : CwR 3 #[.int .u16 n, .int .u16 body] w (.bool true) := by
  have hn0 : ([] : LB).length = 0 := rfl
  have hAL := al0 body
  have := em0 n body
  have hNN : NN0 n body = (n % (((AL0 body).length : Int) + 1)) + 1 := rfl
  have hjk := jk0 body 3 (NN0 n body) (by decide) (fun _ => by show LC0 body 2 < (NN0 n body); omega) (.inr rfl)
  have hTT := tt0 body 3 (NN0 n body) (by omega) hjk
  have ho : ∀ k r, (k, r) ∈ hy2 → HOk (cx (nuL (nu2 n body)) (one2 n body) 1 laidE laidE_stab) k r := by
    unfold hy2
    exact hc (rm3 rfl rfl (by omega)) <|
     hc (cvV tu3 rfl rfl (by omega)) <|
     hc (kZer (isX rfl) (by omega) (by omega) (denX rfl)) <|
     hc (lnR rfl rfl (by omega)) <|
     hc (gtcF rfl (by omega)) <|
     hc (kNeS (isX rfl) (isSx (l := ([] : LB)) 0 0 rfl) (bnF (nilT (by rw [List.length_replicate]; omega)))) <|
     hc (byC rfl rfl (by omega)) <|
     hc (lnV rfl rfl (by omega)) <|
     hc (ftV rfl (by omega)) <|
     hc (cvV tu3 rfl rfl (by omega)) <|
     hc (c120 rfl rfl (by omega)) <|
     hc (l120 rfl rfl) <|
     hc (rmV rfl rfl rfl (by omega)) <|
     hc (adC rfl rfl (by omega)) <|
     hc (byC rfl rfl (by omega)) <|
     hc (lnV rfl rfl (by omega)) <|
     hc (ftV rfl (by omega)) <|
     hc (kNeS (isX rfl) (isSx (l := ([] : LB)) 0 0 rfl) (bnT (nilF (by omega)))) <|
     hc (kEqS (isX rfl) (isSx (l := ([] : LB)) 0 0 rfl) (nilF (by omega))) <|
     hc (lnV rfl rfl (by omega)) <|
     hc (kMin (isZ (m := 1000000) rfl) (isX rfl) (denX rfl) (by omega)) <|
     hc (kCut (isX rfl) (.inl ⟨rfl, rfl⟩) (.inr ⟨_, _, rfl, (isX rfl)⟩) (p := ([] : LB)) (m := (RR0 body 3 (NN0 n body))) (q := ([] : LB)) (by first | rfl | (simp; done)) (by omega) (by omega) (denX rfl)) <|
     hc (byC rfl rfl (by omega)) <|
     hc (ftV rfl (by omega)) <|
     hc (lnV rfl rfl (by omega)) <|
     hc (kCut (isX rfl) (.inr ⟨_, _, rfl, (isX rfl)⟩) (.inl ⟨rfl, rfl⟩) (p := (RR0 body 3 (NN0 n body))) (m := ([] : LB)) (q := ([] : LB)) (by first | rfl | (simp; done)) (by omega) (by omega) (denX rfl)) <|
     hc (kSub (isZ (m := 1000000) rfl) (isX rfl) (denX rfl) (by omega) (fI64 (by omega) (by omega))) <|
     hc (gtcT rfl (by omega)) <|
     hc (kNeS (isX rfl) (isSx (l := ([] : LB)) 0 0 rfl) (bnF (decide_eq_true rfl))) <|
     hc (ctV rfl rfl rfl (by omega)) <|
     hc (ct0 rfl rfl (by first | omega | (rw [List.length_append]; omega) | (simp <;> omega))) <|
     hnil
  exact finU (nu := nuL (nu2 n body)) (one := one2 n body) rfl rfl ho run2 rfl rfl (dW0 (l := lfd9) (h := lhd9) body rfl (by kernel_rfl) (sg0 := [(100, 42), (102, 41), (103, 40)]) (t := 6) (rr := 7) (by kernel_rfl) rfl rfl (by kernel_rfl)) rfl rfl (dD0 (l := lfd10) (h := lhd10) body (NN0 n body) (by omega) (by omega) 3 hjk rfl (by kernel_rfl) (ni := 14) rfl (sg0 := [(320, 290), (322, 21), (323, 20)]) (t := 15) (rr := 16) (by kernel_rfl) rfl rfl (by kernel_rfl)) rfl rfl (cC0 (l := lfc12) (h := lhc12) body 3 3 (by decide) rfl c0_3 rfl (by kernel_rfl) (xs := 27) (sg0 := [(1000, 561)]) rfl (cK0 body 3 (NN0 n body) rfl) (by kernel_rfl) (thx := []) (thc0) (by kernel_rfl)) w hl
def hy3 : LK := hp0 ++ [(.byt (.x 6) (i6 0), .x 8), (.len (.x 6), .x 9), (.fit (.x 6), .b true), (.conv 3 (.x 0), .x 10), (.bin .add (.x 6) (.s 1 120), .x 11), (.len (.x 11), .x 12), (.bin .rem (.x 10) (.x 12), .x 13), (.bin .add (.x 13) (i6 1), .x 14), (.byt (.x 15) (i6 0), .x 17), (.len (.x 15), .x 18), (.fit (.x 15), .b true), (.bin .neq (.x 16) (.s 0 0), .b false), (.bin .add (.x 15) (.s 0 0), .x 19), (.bin .add (.s 0 0) (.x 19), .x 20)]
def lhd13 : LH := ⟨2, 100, 290, stG (.s 0 0) (.und) (.und) (.und) 24 22 23 41 40 0 0 ++ blD 42 0 0, stG (.x 7) (.und) (.und) (.und) 24 22 23 102 103 0 3 ++ blT 100 101 6⟩
def lfd13 : LF := ⟨2, 47, [(0, .p 24 0), (1, i6 1000000), (5, .p 42 0)], [], .exit 0, [(5, .p 100 0)], some lhd13⟩
def lhd14 : LH := ⟨2, 320, 510, stG (.s 0 0) (.und) (.und) (.und) 4 2 3 21 20 0 0 ++ blD 290 0 0, stG (.x 16) (.und) (.und) (.und) 4 2 3 322 323 0 3 ++ blT 320 321 15⟩
def lfd14 : LF := ⟨2, 47, [(0, .p 4 0), (1, .x 14), (5, .p 290 0)], [], .exit 0, [(5, .p 320 0)], some lhd14⟩
def lhc16 : LH := ⟨2, 1000, 1060, [(560, .b ⟨79, .l [i6 65535, .x 20, .b false], 0, 0, 0, false, false⟩)], [rowK .und .und .und (ksT 0 3)]⟩
def lfc16 : LF := ⟨5, 87, [(0, .p 560 0), (6, .nils)], [], .ret, [(4, .sl 1001 0 3 0 true), (5, i6 0)], some lhc16⟩
noncomputable def tab3 : Tab := tabU hy3 lfd13 lfd14 lfc16
theorem run3 (e : Nat) : Go.AX.okB (call tab3 9000 3 [.x 0, .x 1] ⟨H0 e , 2, 0, 0⟩) = true := by kernel_rfl
noncomputable def nu3 (n : Int) (body : Int) : List Value := pn0 n body ++ [St' (AL0 body), St' ([] : LB), .int .u8 (bt (AL0 body) 0), .int .i64 (((AL0 body).length : Int)), .int .i64 (n), St' ((AL0 body) ++ [u8 120]), .int .i64 (((AL0 body).length : Int) + 1), .int .i64 (n % (((AL0 body).length : Int) + 1)), .int .i64 ((n % (((AL0 body).length : Int) + 1)) + 1), St' (TT0 body 3 (NN0 n body)), St' (RR0 body 3 (NN0 n body)), .int .u8 (bt (TT0 body 3 (NN0 n body)) 0), .int .i64 (((TT0 body 3 (NN0 n body)).length : Int)), St' (TT0 body 3 (NN0 n body)), St' (TT0 body 3 (NN0 n body))]
theorem one3 (n : Int) (body : Int) : ∀ j, j < 1000000 → (nuL (nu3 n body) j).oneCell' = true := fun j _ => nuL_one (l := nu3 n body) rfl j
theorem path3 (n : Int) (body : Int) (b0 : 0 ≤ n) (b1 : n ≤ 65535) (b2 : 0 ≤ body) (b3 : body ≤ 65535) (h0 : ¬ (512 < (body % 3000))) (h1 : (body % 3000) = 0) (h2 : ¬ ((NN0 n body) ≤ LC0 body 1)) (h3 : ¬ ((NN0 n body) ≤ LC0 body 2)) (h4 : (RR0 body 3 (NN0 n body)).length = 0) (w : World) (hl : laidE w) : CwR 3 #[.int .u16 n, .int .u16 body] w (.bool true) := by
  have hn0 : ([] : LB).length = 0 := rfl
  have hAL := al0 body
  have := em0 n body
  have hNN : NN0 n body = (n % (((AL0 body).length : Int) + 1)) + 1 := rfl
  have hjk := jk0 body 3 (NN0 n body) (by decide) (fun _ => by show LC0 body 2 < (NN0 n body); omega) (.inr rfl)
  have hTT := tt0 body 3 (NN0 n body) (by omega) hjk
  have ho : ∀ k r, (k, r) ∈ hy3 → HOk (cx (nuL (nu3 n body)) (one3 n body) 1 laidE laidE_stab) k r := by
    unfold hy3
    exact hc (rm3 rfl rfl (by omega)) <|
     hc (cvV tu3 rfl rfl (by omega)) <|
     hc (kZer (isX rfl) (by omega) (by omega) (denX rfl)) <|
     hc (lnR rfl rfl (by omega)) <|
     hc (gtcF rfl (by omega)) <|
     hc (kNeS (isX rfl) (isSx (l := ([] : LB)) 0 0 rfl) (bnF (nilT (by rw [List.length_replicate]; omega)))) <|
     hc (byC rfl rfl (by omega)) <|
     hc (lnV rfl rfl (by omega)) <|
     hc (ftV rfl (by omega)) <|
     hc (cvV tu3 rfl rfl (by omega)) <|
     hc (c120 rfl rfl (by omega)) <|
     hc (l120 rfl rfl) <|
     hc (rmV rfl rfl rfl (by omega)) <|
     hc (adC rfl rfl (by omega)) <|
     hc (byC rfl rfl (by omega)) <|
     hc (lnV rfl rfl (by omega)) <|
     hc (ftV rfl (by omega)) <|
     hc (kNeS (isX rfl) (isSx (l := ([] : LB)) 0 0 rfl) (bnF (nilT (by omega)))) <|
     hc (kCat (isX rfl) (isSx (l := ([] : LB)) 0 0 rfl) (denX rfl) (by first | rfl | (simp; done)) (by omega)) <|
     hc (ct0 rfl rfl (by first | omega | (rw [List.length_append]; omega) | (simp <;> omega))) <|
     hnil
  exact finU (nu := nuL (nu3 n body)) (one := one3 n body) rfl rfl ho run3 rfl rfl (dW0 (l := lfd13) (h := lhd13) body rfl (by kernel_rfl) (sg0 := [(100, 42), (102, 41), (103, 40)]) (t := 6) (rr := 7) (by kernel_rfl) rfl rfl (by kernel_rfl)) rfl rfl (dD0 (l := lfd14) (h := lhd14) body (NN0 n body) (by omega) (by omega) 3 hjk rfl (by kernel_rfl) (ni := 14) rfl (sg0 := [(320, 290), (322, 21), (323, 20)]) (t := 15) (rr := 16) (by kernel_rfl) rfl rfl (by kernel_rfl)) rfl rfl (cC0 (l := lfc16) (h := lhc16) body 3 3 (by decide) rfl c0_3 rfl (by kernel_rfl) (xs := 20) (sg0 := [(1000, 560)]) rfl (cO0 body 3 (NN0 n body) rfl (by assumption)) (by kernel_rfl) (thx := []) (thc0) (by kernel_rfl)) w hl
def hy4 : LK := hp1 ++ [(.byt (.x 9) (i6 0), .x 11), (.len (.x 9), .x 12), (.fit (.x 9), .b true), (.conv 3 (.x 0), .x 13), (.bin .add (.x 9) (.s 1 120), .x 14), (.len (.x 14), .x 15), (.bin .rem (.x 13) (.x 15), .x 16), (.bin .add (.x 16) (i6 1), .x 17), (.byt (.x 18) (i6 0), .x 20), (.len (.x 18), .x 21), (.fit (.x 18), .b true), (.byt (.x 22) (i6 0), .x 24), (.len (.x 22), .x 25), (.fit (.x 22), .b true), (.bin .add (.x 18) (.x 22), .x 26), (.bin .add (.s 0 0) (.x 26), .x 27)]
def lhd17 : LH := ⟨2, 100, 290, stG (.s 0 0) (.und) (.x 4) (.x 8) 27 25 26 47 46 1 0 ++ blD 48 0 0, stG (.x 10) (.und) (.x 4) (.x 8) 27 25 26 102 103 1 4 ++ blT 100 101 9⟩
def lfd17 : LF := ⟨2, 47, [(0, .p 27 0), (1, i6 1000000), (5, .p 48 0)], [], .exit 0, [(5, .p 100 0)], some lhd17⟩
def lhd18 : LH := ⟨2, 320, 510, stG (.s 0 0) (.und) (.x 4) (.x 8) 4 2 3 24 23 1 0 ++ blD 290 0 0, stG (.x 19) (.und) (.x 4) (.x 8) 4 2 3 322 323 1 1 ++ blT 320 321 18⟩
def lfd18 : LF := ⟨2, 47, [(0, .p 4 0), (1, .x 17), (5, .p 290 0)], [], .exit 0, [(5, .p 320 0)], some lhd18⟩
def lhd19 : LH := ⟨2, 700, 890, stH (.x 19) (.sl 552 0 1 0 true) 322 548 0 ++ blD 561 0 0, stH (.x 23) (.sl 552 0 1 0 true) 702 703 1 ++ blT 700 701 22⟩
def lfd19 : LF := ⟨2, 47, [(0, .p 4 0), (1, i6 1000000), (5, .p 561 0)], [], .exit 0, [(5, .p 700 0)], some lhd19⟩
def lhc20 : LH := ⟨2, 1000, 1060, [(890, .b ⟨79, .l [i6 65535, .x 27, .b false], 0, 0, 0, false, false⟩)], [rowK .und .und .und (ksT 1 1)]⟩
def lfc20 : LF := ⟨5, 87, [(0, .p 890 0), (6, .nils)], [], .ret, [(4, .sl 1001 0 2 0 true), (5, i6 0)], some lhc20⟩
noncomputable def tab4 : Tab := tabQ hy4 lfd17 lfd18 lfd19 lfc20
theorem run4 (e : Nat) : Go.AX.okB (call tab4 9000 3 [.x 0, .x 1] ⟨H0 e , 2, 0, 0⟩) = true := by kernel_rfl
noncomputable def nu4 (n : Int) (body : Int) : List Value := pn1 n body ++ [St' (AL1 body), St' ([] : LB), .int .u8 (bt (AL1 body) 0), .int .i64 (((AL1 body).length : Int)), .int .i64 (n), St' ((AL1 body) ++ [u8 120]), .int .i64 (((AL1 body).length : Int) + 1), .int .i64 (n % (((AL1 body).length : Int) + 1)), .int .i64 ((n % (((AL1 body).length : Int) + 1)) + 1), St' (TT1 body 1 (NN1 n body)), St' (RR1 body 1 (NN1 n body)), .int .u8 (bt (TT1 body 1 (NN1 n body)) 0), .int .i64 (((TT1 body 1 (NN1 n body)).length : Int)), St' ((RR1 body 1 (NN1 n body)) ++ abS), St' ([] : LB), .int .u8 (bt ((RR1 body 1 (NN1 n body)) ++ abS) 0), .int .i64 ((((RR1 body 1 (NN1 n body)) ++ abS).length : Int)), St' ((TT1 body 1 (NN1 n body)) ++ ((RR1 body 1 (NN1 n body)) ++ abS)), St' ((TT1 body 1 (NN1 n body)) ++ ((RR1 body 1 (NN1 n body)) ++ abS))]
theorem one4 (n : Int) (body : Int) : ∀ j, j < 1000000 → (nuL (nu4 n body) j).oneCell' = true := fun j _ => nuL_one (l := nu4 n body) rfl j
theorem path4 (n : Int) (body : Int) (b0 : 0 ≤ n) (b1 : n ≤ 65535) (b2 : 0 ≤ body) (b3 : body ≤ 65535) (h0 : ¬ (512 < (body % 3000))) (h1 : ¬ ((body % 3000) = 0)) (h3 : (NN1 n body) ≤ LC1 body 1) (w : World) (hl : laidE w) : CwR 3 #[.int .u16 n, .int .u16 body] w (.bool true) := by
  have hn0 : ([] : LB).length = 0 := rfl
  have hAL := al1 body (by omega)
  have := em1 n body
  have hNN : NN1 n body = (n % (((AL1 body).length : Int) + 1)) + 1 := rfl
  have hL0 := lc1 body
  have hjk := jk1 body 1 (NN1 n body) (by decide) (fun _ => by show LC1 body 0 < (NN1 n body); omega) (.inl (by assumption))
  have hTT := tt1 body (by omega) 1 (NN1 n body) (by omega) hjk
  have ho : ∀ k r, (k, r) ∈ hy4 → HOk (cx (nuL (nu4 n body)) (one4 n body) 1 laidE laidE_stab) k r := by
    unfold hy4
    exact hc (rm3 rfl rfl (by omega)) <|
     hc (cvV tu3 rfl rfl (by omega)) <|
     hc (kZer (isX rfl) (by omega) (by omega) (denX rfl)) <|
     hc (lnR rfl rfl (by omega)) <|
     hc (gtcF rfl (by omega)) <|
     hc (neZ rfl (by omega)) <|
     hc (kMax (isX rfl) (isZ (m := 0) rfl) (denX rfl) (by omega)) <|
     hc (ngV rfl rfl (by omega)) <|
     hc (aG rfl rfl (by omega)) <|
     hc (byC rfl rfl (by omega)) <|
     hc (lnV rfl rfl (by omega)) <|
     hc (ftV rfl (by omega)) <|
     hc (cvV tu3 rfl rfl (by omega)) <|
     hc (c120 rfl rfl (by omega)) <|
     hc (l120 rfl rfl) <|
     hc (rmV rfl rfl rfl (by omega)) <|
     hc (adC rfl rfl (by omega)) <|
     hc (byC rfl rfl (by omega)) <|
     hc (lnV rfl rfl (by omega)) <|
     hc (ftV rfl (by omega)) <|
     hc (byC rfl rfl (by omega)) <|
     hc (lnV rfl rfl (by omega)) <|
     hc (ftV rfl (by omega)) <|
     hc (ctV rfl rfl rfl (by omega)) <|
     hc (ct0 rfl rfl (by first | omega | (rw [List.length_append]; omega) | (simp <;> omega))) <|
     hnil
  exact finQ (nu := nuL (nu4 n body)) (one := one4 n body) rfl rfl ho run4 rfl rfl (dW1 (l := lfd17) (h := lhd17) body (by omega) rfl (by kernel_rfl) (ri := 4) (pi := 8) rfl rfl (sg0 := [(100, 48), (102, 47), (103, 46)]) (t := 9) (rr := 10) (by kernel_rfl) rfl rfl (by kernel_rfl)) rfl rfl (dD1 (l := lfd18) (h := lhd18) body (by omega) (NN1 n body) (by omega) (by omega) 1 hjk rfl (by kernel_rfl) (ni := 17) rfl (ri := 4) (pi := 8) rfl rfl (sg0 := [(320, 290), (322, 24), (323, 23)]) (t := 18) (rr := 19) (by kernel_rfl) rfl rfl (by kernel_rfl)) rfl rfl (dF (l := lfd19) (h := lhd19) (RR1 body 1 (NN1 n body)) (by omega) rfl (by kernel_rfl) (ri := 19) (t := 22) (rr := 23) (sg0 := [(700, 561), (702, 322), (703, 548)]) rfl (by kernel_rfl) rfl rfl (by kernel_rfl)) rfl rfl (cC1 (l := lfc20) (h := lhc20) body (by omega) 1 2 (by decide) rfl c1_1 rfl (by kernel_rfl) (xs := 27) (sg0 := [(1000, 890)]) rfl (cJ1 body 1 (NN1 n body) rfl) (by kernel_rfl) (thx := []) (thc0) (by kernel_rfl)) w hl
end Go.Proofs.YtaihihejljcniaaGreatDoor.muxEarly
