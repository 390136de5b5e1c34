/- A part of the proof: an interpreter of the model's own code on partly known states, and that what it answers is what the program answers. No condition of its own. -/
import Derived.Test.YtaihihejljcniaaGreatDoorQ1MuxEarlyQ
set_option maxRecDepth 100000
set_option linter.unusedVariables false
set_option linter.unusedSimpArgs false
set_option maxHeartbeats 4000000
namespace Go.Proofs.YtaihihejljcniaaGreatDoor.muxEarly
open Go Go.AX Go.Proofs Go.Proofs.YtaihihejljcniaaGreatDoor
def hy10 : LK := hp2 ++ [(.byt (.x 12) (i6 0), .x 14), (.len (.x 12), .x 15), (.fit (.x 12), .b true), (.conv 3 (.x 0), .x 16), (.bin .add (.x 12) (.s 1 120), .x 17), (.len (.x 17), .x 18), (.bin .rem (.x 16) (.x 18), .x 19), (.bin .add (.x 19) (i6 1), .x 20), (.byt (.x 21) (i6 0), .x 23), (.len (.x 21), .x 24), (.fit (.x 21), .b true), (.byt (.x 25) (i6 0), .x 27), (.len (.x 25), .x 28), (.fit (.x 25), .b true), (.bin .add (.x 21) (.x 25), .x 29), (.bin .add (.s 0 0) (.x 29), .x 30)]
def lhd41 : LH := ⟨2, 100, 290, stG (.s 0 0) (.x 6) (.x 7) (.x 11) 30 28 29 53 52 2 0 ++ blD 54 0 0, stG (.x 13) (.x 6) (.x 7) (.x 11) 30 28 29 102 103 2 5 ++ blT 100 101 12⟩
def lfd41 : LF := ⟨2, 47, [(0, .p 30 0), (1, i6 1000000), (5, .p 54 0)], [], .exit 0, [(5, .p 100 0)], some lhd41⟩
def lhd42 : LH := ⟨2, 320, 510, stG (.s 0 0) (.x 6) (.x 7) (.x 11) 4 2 3 27 26 2 0 ++ blD 290 0 0, stG (.x 22) (.x 6) (.x 7) (.x 11) 4 2 3 322 323 2 2 ++ blT 320 321 21⟩
def lfd42 : LF := ⟨2, 47, [(0, .p 4 0), (1, .x 20), (5, .p 290 0)], [], .exit 0, [(5, .p 320 0)], some lhd42⟩
def lhd43 : LH := ⟨2, 700, 890, stH (.x 22) (.sl 552 0 1 0 true) 322 548 0 ++ blD 561 0 0, stH (.x 26) (.sl 552 0 1 0 true) 702 703 1 ++ blT 700 701 25⟩
def lfd43 : LF := ⟨2, 47, [(0, .p 4 0), (1, i6 1000000), (5, .p 561 0)], [], .exit 0, [(5, .p 700 0)], some lhd43⟩
def lhc44 : LH := ⟨2, 1000, 1060, [(890, .b ⟨79, .l [i6 65535, .x 30, .b false], 0, 0, 0, false, false⟩)], [rowK .und .und .und (ksT 2 2)]⟩
def lfc44 : LF := ⟨5, 87, [(0, .p 890 0), (6, .nils)], [], .ret, [(4, .sl 1001 0 3 0 true), (5, i6 0)], some lhc44⟩
noncomputable def tab10 : Tab := tabQ hy10 lfd41 lfd42 lfd43 lfc44
theorem run10 (e : Nat) : Go.AX.okB (call tab10 9000 3 [.x 0, .x 1] ⟨H0 e , 2, 0, 0⟩) = true := by kernel_rfl
noncomputable def nu10 (n : Int) (body : Int) : List Value := pn2 n body ++ [St' (AL2 body), St' ([] : LB), .int .u8 (bt (AL2 body) 0), .int .i64 (((AL2 body).length : Int)), .int .i64 (n), St' ((AL2 body) ++ [u8 120]), .int .i64 (((AL2 body).length : Int) + 1), .int .i64 (n % (((AL2 body).length : Int) + 1)), .int .i64 ((n % (((AL2 body).length : Int) + 1)) + 1), St' (TT2 body 2 (NN2 n body)), St' (RR2 body 2 (NN2 n body)), .int .u8 (bt (TT2 body 2 (NN2 n body)) 0), .int .i64 (((TT2 body 2 (NN2 n body)).length : Int)), St' ((RR2 body 2 (NN2 n body)) ++ abS), St' ([] : LB), .int .u8 (bt ((RR2 body 2 (NN2 n body)) ++ abS) 0), .int .i64 ((((RR2 body 2 (NN2 n body)) ++ abS).length : Int)), St' ((TT2 body 2 (NN2 n body)) ++ ((RR2 body 2 (NN2 n body)) ++ abS)), St' ((TT2 body 2 (NN2 n body)) ++ ((RR2 body 2 (NN2 n body)) ++ abS))]
theorem one10 (n : Int) (body : Int) : ∀ j, j < 1000000 → (nuL (nu10 n body) j).oneCell' = true := fun j _ => nuL_one (l := nu10 n body) rfl j
theorem path10 (n : Int) (body : Int) (b0 : 0 ≤ n) (b1 : n ≤ 65535) (b2 : 0 ≤ body) (b3 : body ≤ 65535) (h0 : 512 < (body % 3000)) (h1 : ¬ (512 < (body % 3000) - 512)) (h4 : ¬ ((NN2 n body) ≤ LC2 body 1)) (h5 : (NN2 n body) ≤ LC2 body 2) (w : World) (hl : laidE w) : CwR 3 #[.int .u16 n, .int .u16 body] w (.bool true) := by
  have hn0 : ([] : LB).length = 0 := rfl
  have hAL := al2 body (by omega)
  have := em2 n body
  have hNN : NN2 n body = (n % (((AL2 body).length : Int) + 1)) + 1 := rfl
  have hjk := jk2 body 2 (NN2 n body) (by decide) (fun _ => by show LC2 body 1 < (NN2 n body); omega) (.inl (by assumption))
  have hTT := tt2 body (by omega) 2 (NN2 n body) (by omega) hjk
  have ho : ∀ k r, (k, r) ∈ hy10 → HOk (cx (nuL (nu10 n body)) (one10 n body) 1 laidE laidE_stab) k r := by
    unfold hy10
    exact hc (rm3 rfl rfl (by omega)) <|
     hc (cvV tu3 rfl rfl (by omega)) <|
     hc (kZer (isX rfl) (by omega) (by omega) (denX rfl)) <|
     hc (lnR rfl rfl (by omega)) <|
     hc (gtcT rfl (by omega)) <|
     hc (rT rfl (by omega) rfl) <|
     hc (l512 rfl) <|
     hc (rD rfl rfl (by omega)) <|
     hc (lnR rfl rfl (by omega)) <|
     hc (gtcF rfl (by omega)) <|
     hc (neZ rfl (by omega)) <|
     hc (kMax (isX rfl) (isZ (m := 0) rfl) (denX rfl) (by omega)) <|
     hc (ngV rfl rfl (by omega)) <|
     hc (aG rfl rfl (by omega)) <|
     hc (byC rfl rfl (by omega)) <|
     hc (lnV rfl rfl (by omega)) <|
     hc (ftV rfl (by omega)) <|
     hc (cvV tu3 rfl rfl (by omega)) <|
     hc (c120 rfl rfl (by omega)) <|
     hc (l120 rfl rfl) <|
     hc (rmV rfl rfl rfl (by omega)) <|
     hc (adC rfl rfl (by omega)) <|
     hc (byC rfl rfl (by omega)) <|
     hc (lnV rfl rfl (by omega)) <|
     hc (ftV rfl (by omega)) <|
     hc (byC rfl rfl (by omega)) <|
     hc (lnV rfl rfl (by omega)) <|
     hc (ftV rfl (by omega)) <|
     hc (ctV rfl rfl rfl (by omega)) <|
     hc (ct0 rfl rfl (by first | omega | (rw [List.length_append]; omega) | (simp <;> omega))) <|
     hnil
  exact finQ (nu := nuL (nu10 n body)) (one := one10 n body) rfl rfl ho run10 rfl rfl (dW2 (l := lfd41) (h := lhd41) body (by omega) rfl (by kernel_rfl) (zi := 6) (ri := 7) (pi := 11) rfl rfl rfl (sg0 := [(100, 54), (102, 53), (103, 52)]) (t := 12) (rr := 13) (by kernel_rfl) rfl rfl (by kernel_rfl)) rfl rfl (dD2 (l := lfd42) (h := lhd42) body (by omega) (NN2 n body) (by omega) (by omega) 2 hjk rfl (by kernel_rfl) (ni := 20) rfl (zi := 6) (ri := 7) (pi := 11) rfl rfl rfl (sg0 := [(320, 290), (322, 27), (323, 26)]) (t := 21) (rr := 22) (by kernel_rfl) rfl rfl (by kernel_rfl)) rfl rfl (dF (l := lfd43) (h := lhd43) (RR2 body 2 (NN2 n body)) (by omega) rfl (by kernel_rfl) (ri := 22) (t := 25) (rr := 26) (sg0 := [(700, 561), (702, 322), (703, 548)]) rfl (by kernel_rfl) rfl rfl (by kernel_rfl)) rfl rfl (cC2 (l := lfc44) (h := lhc44) body (by omega) 2 3 (by decide) rfl c2_2 rfl (by kernel_rfl) (xs := 30) (sg0 := [(1000, 890)]) rfl (cJ2 body 2 (NN2 n body) rfl) (by kernel_rfl) (thx := []) (thc0) (by kernel_rfl)) w hl
def hy11 : LK := hp2 ++ [(.byt (.x 12) (i6 0), .x 14), (.len (.x 12), .x 15), (.fit (.x 12), .b true), (.conv 3 (.x 0), .x 16), (.bin .add (.x 12) (.s 1 120), .x 17), (.len (.x 17), .x 18), (.bin .rem (.x 16) (.x 18), .x 19), (.bin .add (.x 19) (i6 1), .x 20), (.byt (.x 21) (i6 0), .x 23), (.len (.x 21), .x 24), (.fit (.x 21), .b true), (.byt (.x 25) (i6 0), .x 27), (.len (.x 25), .x 28), (.fit (.x 25), .b true), (.bin .add (.x 21) (.x 25), .x 29), (.bin .add (.s 0 0) (.x 29), .x 30), (.bin .add (.s 0 0) (.x 6), .x 6), (.bin .eql (.x 6) (.s 0 0), .b false)]
def lhd45 : LH := ⟨2, 100, 290, stG (.s 0 0) (.x 6) (.x 7) (.x 11) 30 28 29 53 52 2 0 ++ blD 54 0 0, stG (.x 13) (.x 6) (.x 7) (.x 11) 30 28 29 102 103 2 5 ++ blT 100 101 12⟩
def lfd45 : LF := ⟨2, 47, [(0, .p 30 0), (1, i6 1000000), (5, .p 54 0)], [], .exit 0, [(5, .p 100 0)], some lhd45⟩
def lhd46 : LH := ⟨2, 320, 510, stG (.s 0 0) (.x 6) (.x 7) (.x 11) 4 2 3 27 26 2 0 ++ blD 290 0 0, stG (.x 22) (.x 6) (.x 7) (.x 11) 4 2 3 322 323 2 3 ++ blT 320 321 21⟩
def lfd46 : LF := ⟨2, 47, [(0, .p 4 0), (1, .x 20), (5, .p 290 0)], [], .exit 0, [(5, .p 320 0)], some lhd46⟩
def lhd47 : LH := ⟨2, 700, 890, stH (.x 22) (.sl 552 0 1 0 true) 322 548 0 ++ blD 561 0 0, stH (.x 26) (.sl 552 0 1 0 true) 702 703 1 ++ blT 700 701 25⟩
def lfd47 : LF := ⟨2, 47, [(0, .p 4 0), (1, i6 1000000), (5, .p 561 0)], [], .exit 0, [(5, .p 700 0)], some lhd47⟩
def lhc48 : LH := ⟨2, 1000, 1060, [(890, .b ⟨79, .l [i6 65535, .x 30, .b false], 0, 0, 0, false, false⟩)], [rowK (.x 6) .und .und (ksT 2 3)]⟩
def lfc48 : LF := ⟨5, 87, [(0, .p 890 0), (6, .nils)], [], .ret, [(4, .sl 1001 0 4 0 true), (5, i6 0)], some lhc48⟩
noncomputable def tab11 : Tab := tabQ hy11 lfd45 lfd46 lfd47 lfc48
theorem run11 (e : Nat) : Go.AX.okB (call tab11 9000 3 [.x 0, .x 1] ⟨H0 e , 2, 0, 0⟩) = true := by kernel_rfl
noncomputable def nu11 (n : Int) (body : Int) : List Value := pn2 n body ++ [St' (AL2 body), St' ([] : LB), .int .u8 (bt (AL2 body) 0), .int .i64 (((AL2 body).length : Int)), .int .i64 (n), St' ((AL2 body) ++ [u8 120]), .int .i64 (((AL2 body).length : Int) + 1), .int .i64 (n % (((AL2 body).length : Int) + 1)), .int .i64 ((n % (((AL2 body).length : Int) + 1)) + 1), St' (TT2 body 3 (NN2 n body)), St' (RR2 body 3 (NN2 n body)), .int .u8 (bt (TT2 body 3 (NN2 n body)) 0), .int .i64 (((TT2 body 3 (NN2 n body)).length : Int)), St' ((RR2 body 3 (NN2 n body)) ++ abS), St' ([] : LB), .int .u8 (bt ((RR2 body 3 (NN2 n body)) ++ abS) 0), .int .i64 ((((RR2 body 3 (NN2 n body)) ++ abS).length : Int)), St' ((TT2 body 3 (NN2 n body)) ++ ((RR2 body 3 (NN2 n body)) ++ abS)), St' ((TT2 body 3 (NN2 n body)) ++ ((RR2 body 3 (NN2 n body)) ++ abS))]
theorem one11 (n : Int) (body : Int) : ∀ j, j < 1000000 → (nuL (nu11 n body) j).oneCell' = true := fun j _ => nuL_one (l := nu11 n body) rfl j
theorem path11 (n : Int) (body : Int) (b0 : 0 ≤ n) (b1 : n ≤ 65535) (b2 : 0 ≤ body) (b3 : body ≤ 65535) (h0 : 512 < (body % 3000)) (h1 : ¬ (512 < (body % 3000) - 512)) (h4 : ¬ ((NN2 n body) ≤ LC2 body 1)) (h5 : ¬ ((NN2 n body) ≤ LC2 body 2)) (h6 : (NN2 n body) ≤ LC2 body 3) (w : World) (hl : laidE w) : CwR 3 #[.int .u16 n, .int .u16 body] w (.bool true) := by
  have hn0 : ([] : LB).length = 0 := rfl
  have hAL := al2 body (by omega)
  have := em2 n body
  have hNN : NN2 n body = (n % (((AL2 body).length : Int) + 1)) + 1 := rfl
  have hjk := jk2 body 3 (NN2 n body) (by decide) (fun _ => by show LC2 body 2 < (NN2 n body); omega) (.inl (by assumption))
  have hTT := tt2 body (by omega) 3 (NN2 n body) (by omega) hjk
  have ho : ∀ k r, (k, r) ∈ hy11 → HOk (cx (nuL (nu11 n body)) (one11 n body) 1 laidE laidE_stab) k r := by
    unfold hy11
    exact hc (rm3 rfl rfl (by omega)) <|
     hc (cvV tu3 rfl rfl (by omega)) <|
     hc (kZer (isX rfl) (by omega) (by omega) (denX rfl)) <|
     hc (lnR rfl rfl (by omega)) <|
     hc (gtcT rfl (by omega)) <|
     hc (rT rfl (by omega) rfl) <|
     hc (l512 rfl) <|
     hc (rD rfl rfl (by omega)) <|
     hc (lnR rfl rfl (by omega)) <|
     hc (gtcF rfl (by omega)) <|
     hc (neZ rfl (by omega)) <|
     hc (kMax (isX rfl) (isZ (m := 0) rfl) (denX rfl) (by omega)) <|
     hc (ngV rfl rfl (by omega)) <|
     hc (aG rfl rfl (by omega)) <|
     hc (byC rfl rfl (by omega)) <|
     hc (lnV rfl rfl (by omega)) <|
     hc (ftV rfl (by omega)) <|
     hc (cvV tu3 rfl rfl (by omega)) <|
     hc (c120 rfl rfl (by omega)) <|
     hc (l120 rfl rfl) <|
     hc (rmV rfl rfl rfl (by omega)) <|
     hc (adC rfl rfl (by omega)) <|
     hc (byC rfl rfl (by omega)) <|
     hc (lnV rfl rfl (by omega)) <|
     hc (ftV rfl (by omega)) <|
     hc (byC rfl rfl (by omega)) <|
     hc (lnV rfl rfl (by omega)) <|
     hc (ftV rfl (by omega)) <|
     hc (ctV rfl rfl rfl (by omega)) <|
     hc (ct0 rfl rfl (by first | omega | (rw [List.length_append]; omega) | (simp <;> omega))) <|
     hc (ct0 rfl rfl (by first | omega | (rw [List.length_append]; omega) | (simp <;> omega))) <|
     hc (eqZ rfl (by omega)) <|
     hnil
  exact finQ (nu := nuL (nu11 n body)) (one := one11 n body) rfl rfl ho run11 rfl rfl (dW2 (l := lfd45) (h := lhd45) body (by omega) rfl (by kernel_rfl) (zi := 6) (ri := 7) (pi := 11) rfl rfl rfl (sg0 := [(100, 54), (102, 53), (103, 52)]) (t := 12) (rr := 13) (by kernel_rfl) rfl rfl (by kernel_rfl)) rfl rfl (dD2 (l := lfd46) (h := lhd46) body (by omega) (NN2 n body) (by omega) (by omega) 3 hjk rfl (by kernel_rfl) (ni := 20) rfl (zi := 6) (ri := 7) (pi := 11) rfl rfl rfl (sg0 := [(320, 290), (322, 27), (323, 26)]) (t := 21) (rr := 22) (by kernel_rfl) rfl rfl (by kernel_rfl)) rfl rfl (dF (l := lfd47) (h := lhd47) (RR2 body 3 (NN2 n body)) (by omega) rfl (by kernel_rfl) (ri := 22) (t := 25) (rr := 26) (sg0 := [(700, 561), (702, 322), (703, 548)]) rfl (by kernel_rfl) rfl rfl (by kernel_rfl)) rfl rfl (cC2 (l := lfc48) (h := lhc48) body (by omega) 3 4 (by decide) rfl c2_3 rfl (by kernel_rfl) (xs := 30) (sg0 := [(1000, 890)]) rfl (cJ2 body 3 (NN2 n body) rfl) (by kernel_rfl) (thx := [(6, .x 20)]) (thc1 rfl) (by kernel_rfl)) w hl
def hy12 : LK := hp2 ++ [(.byt (.x 12) (i6 0), .x 14), (.len (.x 12), .x 15), (.fit (.x 12), .b true), (.conv 3 (.x 0), .x 16), (.bin .add (.x 12) (.s 1 120), .x 17), (.len (.x 17), .x 18), (.bin .rem (.x 16) (.x 18), .x 19), (.bin .add (.x 19) (i6 1), .x 20), (.byt (.x 21) (i6 0), .x 23), (.len (.x 21), .x 24), (.fit (.x 21), .b true), (.byt (.x 25) (i6 0), .x 27), (.len (.x 25), .x 28), (.fit (.x 25), .b true), (.bin .add (.x 21) (.x 25), .x 29), (.bin .add (.s 0 0) (.x 29), .x 30), (.bin .add (.s 0 0) (.x 6), .x 6), (.bin .eql (.x 6) (.s 0 0), .b false), (.bin .add (.x 6) (.x 7), .x 31), (.bin .eql (.x 7) (.s 0 0), .b false)]
def lhd49 : LH := ⟨2, 100, 290, stG (.s 0 0) (.x 6) (.x 7) (.x 11) 30 28 29 53 52 2 0 ++ blD 54 0 0, stG (.x 13) (.x 6) (.x 7) (.x 11) 30 28 29 102 103 2 5 ++ blT 100 101 12⟩
def lfd49 : LF := ⟨2, 47, [(0, .p 30 0), (1, i6 1000000), (5, .p 54 0)], [], .exit 0, [(5, .p 100 0)], some lhd49⟩
def lhd50 : LH := ⟨2, 320, 510, stG (.s 0 0) (.x 6) (.x 7) (.x 11) 4 2 3 27 26 2 0 ++ blD 290 0 0, stG (.x 22) (.x 6) (.x 7) (.x 11) 4 2 3 322 323 2 4 ++ blT 320 321 21⟩
def lfd50 : LF := ⟨2, 47, [(0, .p 4 0), (1, .x 20), (5, .p 290 0)], [], .exit 0, [(5, .p 320 0)], some lhd50⟩
def lhd51 : LH := ⟨2, 700, 890, stH (.x 22) (.sl 552 0 1 0 true) 322 548 0 ++ blD 561 0 0, stH (.x 26) (.sl 552 0 1 0 true) 702 703 1 ++ blT 700 701 25⟩
def lfd51 : LF := ⟨2, 47, [(0, .p 4 0), (1, i6 1000000), (5, .p 561 0)], [], .exit 0, [(5, .p 700 0)], some lhd51⟩
def lhc52 : LH := ⟨2, 1000, 1060, [(890, .b ⟨79, .l [i6 65535, .x 30, .b false], 0, 0, 0, false, false⟩)], [rowK (.x 6) (.x 7) (.x 11) (ksT 2 4)]⟩
def lfc52 : LF := ⟨5, 87, [(0, .p 890 0), (6, .nils)], [], .ret, [(4, .sl 1001 0 5 0 true), (5, i6 0)], some lhc52⟩
noncomputable def tab12 : Tab := tabQ hy12 lfd49 lfd50 lfd51 lfc52
theorem run12 (e : Nat) : Go.AX.okB (call tab12 9000 3 [.x 0, .x 1] ⟨H0 e , 2, 0, 0⟩) = true := by kernel_rfl
noncomputable def nu12 (n : Int) (body : Int) : List Value := pn2 n body ++ [St' (AL2 body), St' ([] : LB), .int .u8 (bt (AL2 body) 0), .int .i64 (((AL2 body).length : Int)), .int .i64 (n), St' ((AL2 body) ++ [u8 120]), .int .i64 (((AL2 body).length : Int) + 1), .int .i64 (n % (((AL2 body).length : Int) + 1)), .int .i64 ((n % (((AL2 body).length : Int) + 1)) + 1), St' (TT2 body 4 (NN2 n body)), St' (RR2 body 4 (NN2 n body)), .int .u8 (bt (TT2 body 4 (NN2 n body)) 0), .int .i64 (((TT2 body 4 (NN2 n body)).length : Int)), St' ((RR2 body 4 (NN2 n body)) ++ abS), St' ([] : LB), .int .u8 (bt ((RR2 body 4 (NN2 n body)) ++ abS) 0), .int .i64 ((((RR2 body 4 (NN2 n body)) ++ abS).length : Int)), St' ((TT2 body 4 (NN2 n body)) ++ ((RR2 body 4 (NN2 n body)) ++ abS)), St' ((TT2 body 4 (NN2 n body)) ++ ((RR2 body 4 (NN2 n body)) ++ abS)), St' ((List.replicate (Int.toNat (512)) 0) ++ (List.replicate (Int.toNat ((body % 3000) - 512)) 0))]
theorem one12 (n : Int) (body : Int) : ∀ j, j < 1000000 → (nuL (nu12 n body) j).oneCell' = true := fun j _ => nuL_one (l := nu12 n body) rfl j
theorem path12 (n : Int) (body : Int) (b0 : 0 ≤ n) (b1 : n ≤ 65535) (b2 : 0 ≤ body) (b3 : body ≤ 65535) (h0 : 512 < (body % 3000)) (h1 : ¬ (512 < (body % 3000) - 512)) (h4 : ¬ ((NN2 n body) ≤ LC2 body 1)) (h5 : ¬ ((NN2 n body) ≤ LC2 body 2)) (h6 : ¬ ((NN2 n body) ≤ LC2 body 3)) (h7 : (NN2 n body) ≤ LC2 body 4) (w : World) (hl : laidE w) : CwR 3 #[.int .u16 n, .int .u16 body] w (.bool true) := by
  have hn0 : ([] : LB).length = 0 := rfl
  have hAL := al2 body (by omega)
  have := em2 n body
  have hNN : NN2 n body = (n % (((AL2 body).length : Int) + 1)) + 1 := rfl
  have hjk := jk2 body 4 (NN2 n body) (by decide) (fun _ => by show LC2 body 3 < (NN2 n body); omega) (.inl (by assumption))
  have hTT := tt2 body (by omega) 4 (NN2 n body) (by omega) hjk
  have ho : ∀ k r, (k, r) ∈ hy12 → HOk (cx (nuL (nu12 n body)) (one12 n body) 1 laidE laidE_stab) k r := by
    unfold hy12
    exact hc (rm3 rfl rfl (by omega)) <|
     hc (cvV tu3 rfl rfl (by omega)) <|
     hc (kZer (isX rfl) (by omega) (by omega) (denX rfl)) <|
     hc (lnR rfl rfl (by omega)) <|
     hc (gtcT rfl (by omega)) <|
     hc (rT rfl (by omega) rfl) <|
     hc (l512 rfl) <|
     hc (rD rfl rfl (by omega)) <|
     hc (lnR rfl rfl (by omega)) <|
     hc (gtcF rfl (by omega)) <|
     hc (neZ rfl (by omega)) <|
     hc (kMax (isX rfl) (isZ (m := 0) rfl) (denX rfl) (by omega)) <|
     hc (ngV rfl rfl (by omega)) <|
     hc (aG rfl rfl (by omega)) <|
     hc (byC rfl rfl (by omega)) <|
     hc (lnV rfl rfl (by omega)) <|
     hc (ftV rfl (by omega)) <|
     hc (cvV tu3 rfl rfl (by omega)) <|
     hc (c120 rfl rfl (by omega)) <|
     hc (l120 rfl rfl) <|
     hc (rmV rfl rfl rfl (by omega)) <|
     hc (adC rfl rfl (by omega)) <|
     hc (byC rfl rfl (by omega)) <|
     hc (lnV rfl rfl (by omega)) <|
     hc (ftV rfl (by omega)) <|
     hc (byC rfl rfl (by omega)) <|
     hc (lnV rfl rfl (by omega)) <|
     hc (ftV rfl (by omega)) <|
     hc (ctV rfl rfl rfl (by omega)) <|
     hc (ct0 rfl rfl (by first | omega | (rw [List.length_append]; omega) | (simp <;> omega))) <|
     hc (ct0 rfl rfl (by first | omega | (rw [List.length_append]; omega) | (simp <;> omega))) <|
     hc (eqZ rfl (by omega)) <|
     hc (kCat (isX rfl) (isX rfl) (denX rfl) (by first | rfl | (simp; done)) (by first | omega | (simp <;> omega))) <|
     hc (eqZ rfl (by omega)) <|
     hnil
  exact finQ (nu := nuL (nu12 n body)) (one := one12 n body) rfl rfl ho run12 rfl rfl (dW2 (l := lfd49) (h := lhd49) body (by omega) rfl (by kernel_rfl) (zi := 6) (ri := 7) (pi := 11) rfl rfl rfl (sg0 := [(100, 54), (102, 53), (103, 52)]) (t := 12) (rr := 13) (by kernel_rfl) rfl rfl (by kernel_rfl)) rfl rfl (dD2 (l := lfd50) (h := lhd50) body (by omega) (NN2 n body) (by omega) (by omega) 4 hjk rfl (by kernel_rfl) (ni := 20) rfl (zi := 6) (ri := 7) (pi := 11) rfl rfl rfl (sg0 := [(320, 290), (322, 27), (323, 26)]) (t := 21) (rr := 22) (by kernel_rfl) rfl rfl (by kernel_rfl)) rfl rfl (dF (l := lfd51) (h := lhd51) (RR2 body 4 (NN2 n body)) (by omega) rfl (by kernel_rfl) (ri := 22) (t := 25) (rr := 26) (sg0 := [(700, 561), (702, 322), (703, 548)]) rfl (by kernel_rfl) rfl rfl (by kernel_rfl)) rfl rfl (cC2 (l := lfc52) (h := lhc52) body (by omega) 4 5 (by decide) rfl c2_4 rfl (by kernel_rfl) (xs := 30) (sg0 := [(1000, 890)]) rfl (cJ2 body 4 (NN2 n body) rfl) (by kernel_rfl) (thx := [(6, .x 20), (7, .x 21), (11, .x 22)]) (thc3 rfl rfl rfl) (by kernel_rfl)) w hl
def hy13 : LK := hp2 ++ [(.byt (.x 12) (i6 0), .x 14), (.len (.x 12), .x 15), (.fit (.x 12), .b true), (.conv 3 (.x 0), .x 16), (.bin .add (.x 12) (.s 1 120), .x 17), (.len (.x 17), .x 18), (.bin .rem (.x 16) (.x 18), .x 19), (.bin .add (.x 19) (i6 1), .x 20), (.byt (.x 21) (i6 0), .x 23), (.len (.x 21), .x 24), (.fit (.x 21), .b true), (.bin .neq (.x 22) (.s 0 0), .b true), (.bin .eql (.x 22) (.s 0 0), .b false), (.len (.x 22), .x 25), (.mm false (i6 1000000) (.x 25), .x 26), (.sub (.x 22) none (some (.x 26)), .x 27), (.byt (.x 27) (i6 0), .x 28), (.fit (.x 27), .b true), (.len (.x 27), .x 29), (.sub (.x 22) (some (.x 26)) none, .x 30), (.bin .sub (i6 1000000) (.x 26), .x 31), (.bin .gtr (.x 31) (i6 0), .b true), (.bin .neq (.x 30) (.s 0 0), .b false), (.bin .add (.x 21) (.x 27), .x 32), (.bin .add (.s 0 0) (.x 32), .x 33), (.bin .add (.s 0 0) (.x 6), .x 6), (.bin .eql (.x 6) (.s 0 0), .b false), (.bin .add (.x 6) (.x 7), .x 34), (.bin .eql (.x 7) (.s 0 0), .b false), (.bin .add (.x 34) (.s 0 0), .x 34)]
def lhd53 : LH := ⟨2, 100, 290, stG (.s 0 0) (.x 6) (.x 7) (.x 11) 30 28 29 53 52 2 0 ++ blD 54 0 0, stG (.x 13) (.x 6) (.x 7) (.x 11) 30 28 29 102 103 2 5 ++ blT 100 101 12⟩
def lfd53 : LF := ⟨2, 47, [(0, .p 30 0), (1, i6 1000000), (5, .p 54 0)], [], .exit 0, [(5, .p 100 0)], some lhd53⟩
def lhd54 : LH := ⟨2, 320, 510, stG (.s 0 0) (.x 6) (.x 7) (.x 11) 4 2 3 27 26 2 0 ++ blD 290 0 0, stG (.x 22) (.x 6) (.x 7) (.x 11) 4 2 3 322 323 2 5 ++ blT 320 321 21⟩
def lfd54 : LF := ⟨2, 47, [(0, .p 4 0), (1, .x 20), (5, .p 290 0)], [], .exit 0, [(5, .p 320 0)], some lhd54⟩
def lhc56 : LH := ⟨2, 1000, 1060, [(561, .b ⟨79, .l [i6 65535, .x 33, .b false], 0, 0, 0, false, false⟩)], [rowK (.x 6) (.x 7) (.x 11) (ksT 2 5)]⟩
def lfc56 : LF := ⟨5, 87, [(0, .p 561 0), (6, .nils)], [], .ret, [(4, .sl 1001 0 5 0 true), (5, i6 0)], some lhc56⟩
noncomputable def tab13 : Tab := tabU hy13 lfd53 lfd54 lfc56
theorem run13 (e : Nat) : Go.AX.okB (call tab13 9000 3 [.x 0, .x 1] ⟨H0 e , 2, 0, 0⟩) = true := by kernel_rfl
noncomputable def nu13 (n : Int) (body : Int) : List Value := pn2 n body ++ [St' (AL2 body), St' ([] : LB), .int .u8 (bt (AL2 body) 0), .int .i64 (((AL2 body).length : Int)), .int .i64 (n), St' ((AL2 body) ++ [u8 120]), .int .i64 (((AL2 body).length : Int) + 1), .int .i64 (n % (((AL2 body).length : Int) + 1)), .int .i64 ((n % (((AL2 body).length : Int) + 1)) + 1), St' (TT2 body 5 (NN2 n body)), St' (RR2 body 5 (NN2 n body)), .int .u8 (bt (TT2 body 5 (NN2 n body)) 0), .int .i64 (((TT2 body 5 (NN2 n body)).length : Int)), .int .i64 (((RR2 body 5 (NN2 n body)).length : Int)), .int .i64 (((RR2 body 5 (NN2 n body)).length : Int)), St' (RR2 body 5 (NN2 n body)), .int .u8 (bt (RR2 body 5 (NN2 n body)) 0), .int .i64 (((RR2 body 5 (NN2 n body)).length : Int)), St' ([] : LB), .int .i64 (1000000 - ((RR2 body 5 (NN2 n body)).length : Int)), St' ((TT2 body 5 (NN2 n body)) ++ (RR2 body 5 (NN2 n body))), St' ((TT2 body 5 (NN2 n body)) ++ (RR2 body 5 (NN2 n body))), St' ((List.replicate (Int.toNat (512)) 0) ++ (List.replicate (Int.toNat ((body % 3000) - 512)) 0))]
theorem one13 (n : Int) (body : Int) : ∀ j, j < 1000000 → (nuL (nu13 n body) j).oneCell' = true := fun j _ => nuL_one (l := nu13 n body) rfl j
theorem path13 (n : Int) (body : Int) (b0 : 0 ≤ n) (b1 : n ≤ 65535) (b2 : 0 ≤ body) (b3 : body ≤ 65535) (h0 : 512 < (body % 3000)) (h1 : ¬ (512 < (body % 3000) - 512)) (h4 : ¬ ((NN2 n body) ≤ LC2 body 1)) (h5 : ¬ ((NN2 n body) ≤ LC2 body 2)) (h6 : ¬ ((NN2 n body) ≤ LC2 body 3)) (h7 : ¬ ((NN2 n body) ≤ LC2 body 4)) (h8 : ¬ ((RR2 body 5 (NN2 n body)).length = 0)) (w : World) (hl : laidE w) : CwR 3 #[.int .u16 n, .int .u16 body] w (.bool true) := by
  have hn0 : ([] : LB).length = 0 := rfl
  have hAL := al2 body (by omega)
  have := em2 n body
  have hNN : NN2 n body = (n % (((AL2 body).length : Int) + 1)) + 1 := rfl
  have hjk := jk2 body 5 (NN2 n body) (by decide) (fun _ => by show LC2 body 4 < (NN2 n body); omega) (.inr rfl)
  have hTT := tt2 body (by omega) 5 (NN2 n body) (by omega) hjk
  have ho : ∀ k r, (k, r) ∈ hy13 → HOk (cx (nuL (nu13 n body)) (one13 n body) 1 laidE laidE_stab) k r := by
    unfold hy13
    exact hc (rm3 rfl rfl (by omega)) <|
     hc (cvV tu3 rfl rfl (by omega)) <|
     hc (kZer (isX rfl) (by omega) (by omega) (denX rfl)) <|
     hc (lnR rfl rfl (by omega)) <|
     hc (gtcT rfl (by omega)) <|
     hc (rT rfl (by omega) rfl) <|
     hc (l512 rfl) <|
     hc (rD rfl rfl (by omega)) <|
     hc (lnR rfl rfl (by omega)) <|
     hc (gtcF rfl (by omega)) <|
     hc (neZ rfl (by omega)) <|
     hc (kMax (isX rfl) (isZ (m := 0) rfl) (denX rfl) (by omega)) <|
     hc (ngV rfl rfl (by omega)) <|
     hc (aG rfl rfl (by omega)) <|
     hc (byC rfl rfl (by omega)) <|
     hc (lnV rfl rfl (by omega)) <|
     hc (ftV rfl (by omega)) <|
     hc (cvV tu3 rfl rfl (by omega)) <|
     hc (c120 rfl rfl (by omega)) <|
     hc (l120 rfl rfl) <|
     hc (rmV rfl rfl rfl (by omega)) <|
     hc (adC rfl rfl (by omega)) <|
     hc (byC rfl rfl (by omega)) <|
     hc (lnV rfl rfl (by omega)) <|
     hc (ftV rfl (by omega)) <|
     hc (kNeS (isX rfl) (isSx (l := ([] : LB)) 0 0 rfl) (bnT (nilF (by omega)))) <|
     hc (kEqS (isX rfl) (isSx (l := ([] : LB)) 0 0 rfl) (nilF (by omega))) <|
     hc (lnV rfl rfl (by omega)) <|
     hc (kMin (isZ (m := 1000000) rfl) (isX rfl) (denX rfl) (by omega)) <|
     hc (kCut (isX rfl) (.inl ⟨rfl, rfl⟩) (.inr ⟨_, _, rfl, (isX rfl)⟩) (p := ([] : LB)) (m := (RR2 body 5 (NN2 n body))) (q := ([] : LB)) (by first | rfl | (simp; done)) (by omega) (by omega) (denX rfl)) <|
     hc (byC rfl rfl (by omega)) <|
     hc (ftV rfl (by omega)) <|
     hc (lnV rfl rfl (by omega)) <|
     hc (kCut (isX rfl) (.inr ⟨_, _, rfl, (isX rfl)⟩) (.inl ⟨rfl, rfl⟩) (p := (RR2 body 5 (NN2 n body))) (m := ([] : LB)) (q := ([] : LB)) (by first | rfl | (simp; done)) (by omega) (by omega) (denX rfl)) <|
     hc (kSub (isZ (m := 1000000) rfl) (isX rfl) (denX rfl) (by omega) (fI64 (by omega) (by omega))) <|
     hc (gtcT rfl (by omega)) <|
     hc (kNeS (isX rfl) (isSx (l := ([] : LB)) 0 0 rfl) (bnF (decide_eq_true rfl))) <|
     hc (ctV rfl rfl rfl (by omega)) <|
     hc (ct0 rfl rfl (by first | omega | (rw [List.length_append]; omega) | (simp <;> omega))) <|
     hc (ct0 rfl rfl (by first | omega | (rw [List.length_append]; omega) | (simp <;> omega))) <|
     hc (eqZ rfl (by omega)) <|
     hc (kCat (isX rfl) (isX rfl) (denX rfl) (by first | rfl | (simp; done)) (by first | omega | (simp <;> omega))) <|
     hc (eqZ rfl (by omega)) <|
     hc (kCat (isX rfl) (isSx (l := ([] : LB)) 0 0 rfl) (denX rfl) (by first | rfl | (simp; done)) (by first | omega | (simp <;> omega))) <|
     hnil
  exact finU (nu := nuL (nu13 n body)) (one := one13 n body) rfl rfl ho run13 rfl rfl (dW2 (l := lfd53) (h := lhd53) body (by omega) rfl (by kernel_rfl) (zi := 6) (ri := 7) (pi := 11) rfl rfl rfl (sg0 := [(100, 54), (102, 53), (103, 52)]) (t := 12) (rr := 13) (by kernel_rfl) rfl rfl (by kernel_rfl)) rfl rfl (dD2 (l := lfd54) (h := lhd54) body (by omega) (NN2 n body) (by omega) (by omega) 5 hjk rfl (by kernel_rfl) (ni := 20) rfl (zi := 6) (ri := 7) (pi := 11) rfl rfl rfl (sg0 := [(320, 290), (322, 27), (323, 26)]) (t := 21) (rr := 22) (by kernel_rfl) rfl rfl (by kernel_rfl)) rfl rfl (cC2 (l := lfc56) (h := lhc56) body (by omega) 5 5 (by decide) rfl c2_5 rfl (by kernel_rfl) (xs := 33) (sg0 := [(1000, 561)]) rfl (cK2 body 5 (NN2 n body) rfl) (by kernel_rfl) (thx := [(6, .x 20), (7, .x 21), (11, .x 22)]) (thc3 rfl rfl rfl) (by kernel_rfl)) w hl
def hy14 : LK := hp2 ++ [(.byt (.x 12) (i6 0), .x 14), (.len (.x 12), .x 15), (.fit (.x 12), .b true), (.conv 3 (.x 0), .x 16), (.bin .add (.x 12) (.s 1 120), .x 17), (.len (.x 17), .x 18), (.bin .rem (.x 16) (.x 18), .x 19), (.bin .add (.x 19) (i6 1), .x 20), (.byt (.x 21) (i6 0), .x 23), (.len (.x 21), .x 24), (.fit (.x 21), .b true), (.bin .neq (.x 22) (.s 0 0), .b false), (.bin .add (.x 21) (.s 0 0), .x 25), (.bin .add (.s 0 0) (.x 25), .x 26), (.bin .add (.s 0 0) (.x 6), .x 6), (.bin .eql (.x 6) (.s 0 0), .b false), (.bin .add (.x 6) (.x 7), .x 27), (.bin .eql (.x 7) (.s 0 0), .b false), (.bin .add (.x 27) (.s 0 0), .x 27)]
def lhd57 : LH := ⟨2, 100, 290, stG (.s 0 0) (.x 6) (.x 7) (.x 11) 30 28 29 53 52 2 0 ++ blD 54 0 0, stG (.x 13) (.x 6) (.x 7) (.x 11) 30 28 29 102 103 2 5 ++ blT 100 101 12⟩
def lfd57 : LF := ⟨2, 47, [(0, .p 30 0), (1, i6 1000000), (5, .p 54 0)], [], .exit 0, [(5, .p 100 0)], some lhd57⟩
def lhd58 : LH := ⟨2, 320, 510, stG (.s 0 0) (.x 6) (.x 7) (.x 11) 4 2 3 27 26 2 0 ++ blD 290 0 0, stG (.x 22) (.x 6) (.x 7) (.x 11) 4 2 3 322 323 2 5 ++ blT 320 321 21⟩
def lfd58 : LF := ⟨2, 47, [(0, .p 4 0), (1, .x 20), (5, .p 290 0)], [], .exit 0, [(5, .p 320 0)], some lhd58⟩
def lhc60 : LH := ⟨2, 1000, 1060, [(560, .b ⟨79, .l [i6 65535, .x 26, .b false], 0, 0, 0, false, false⟩)], [rowK (.x 6) (.x 7) (.x 11) (ksT 2 5)]⟩
def lfc60 : LF := ⟨5, 87, [(0, .p 560 0), (6, .nils)], [], .ret, [(4, .sl 1001 0 5 0 true), (5, i6 0)], some lhc60⟩
noncomputable def tab14 : Tab := tabU hy14 lfd57 lfd58 lfc60
theorem run14 (e : Nat) : Go.AX.okB (call tab14 9000 3 [.x 0, .x 1] ⟨H0 e , 2, 0, 0⟩) = true := by kernel_rfl
noncomputable def nu14 (n : Int) (body : Int) : List Value := pn2 n body ++ [St' (AL2 body), St' ([] : LB), .int .u8 (bt (AL2 body) 0), .int .i64 (((AL2 body).length : Int)), .int .i64 (n), St' ((AL2 body) ++ [u8 120]), .int .i64 (((AL2 body).length : Int) + 1), .int .i64 (n % (((AL2 body).length : Int) + 1)), .int .i64 ((n % (((AL2 body).length : Int) + 1)) + 1), St' (TT2 body 5 (NN2 n body)), St' (RR2 body 5 (NN2 n body)), .int .u8 (bt (TT2 body 5 (NN2 n body)) 0), .int .i64 (((TT2 body 5 (NN2 n body)).length : Int)), St' (TT2 body 5 (NN2 n body)), St' (TT2 body 5 (NN2 n body)), St' ((List.replicate (Int.toNat (512)) 0) ++ (List.replicate (Int.toNat ((body % 3000) - 512)) 0))]
theorem one14 (n : Int) (body : Int) : ∀ j, j < 1000000 → (nuL (nu14 n body) j).oneCell' = true := fun j _ => nuL_one (l := nu14 n body) rfl j
theorem path14 (n : Int) (body : Int) (b0 : 0 ≤ n) (b1 : n ≤ 65535) (b2 : 0 ≤ body) (b3 : body ≤ 65535) (h0 : 512 < (body % 3000)) (h1 : ¬ (512 < (body % 3000) - 512)) (h4 : ¬ ((NN2 n body) ≤ LC2 body 1)) (h5 : ¬ ((NN2 n body) ≤ LC2 body 2)) (h6 : ¬ ((NN2 n body) ≤ LC2 body 3)) (h7 : ¬ ((NN2 n body) ≤ LC2 body 4)) (h8 : (RR2 body 5 (NN2 n body)).length = 0) (w : World) (hl : laidE w) : CwR 3 #[.int .u16 n, .int .u16 body] w (.bool true) := by
  have hn0 : ([] : LB).length = 0 := rfl
  have hAL := al2 body (by omega)
  have := em2 n body
  have hNN : NN2 n body = (n % (((AL2 body).length : Int) + 1)) + 1 := rfl
  have hjk := jk2 body 5 (NN2 n body) (by decide) (fun _ => by show LC2 body 4 < (NN2 n body); omega) (.inr rfl)
  have hTT := tt2 body (by omega) 5 (NN2 n body) (by omega) hjk
  have ho : ∀ k r, (k, r) ∈ hy14 → HOk (cx (nuL (nu14 n body)) (one14 n body) 1 laidE laidE_stab) k r := by
    unfold hy14
    exact hc (rm3 rfl rfl (by omega)) <|
     hc (cvV tu3 rfl rfl (by omega)) <|
     hc (kZer (isX rfl) (by omega) (by omega) (denX rfl)) <|
     hc (lnR rfl rfl (by omega)) <|
     hc (gtcT rfl (by omega)) <|
     hc (rT rfl (by omega) rfl) <|
     hc (l512 rfl) <|
     hc (rD rfl rfl (by omega)) <|
     hc (lnR rfl rfl (by omega)) <|
     hc (gtcF rfl (by omega)) <|
     hc (neZ rfl (by omega)) <|
     hc (kMax (isX rfl) (isZ (m := 0) rfl) (denX rfl) (by omega)) <|
     hc (ngV rfl rfl (by omega)) <|
     hc (aG rfl rfl (by omega)) <|
     hc (byC rfl rfl (by omega)) <|
     hc (lnV rfl rfl (by omega)) <|
     hc (ftV rfl (by omega)) <|
     hc (cvV tu3 rfl rfl (by omega)) <|
     hc (c120 rfl rfl (by omega)) <|
     hc (l120 rfl rfl) <|
     hc (rmV rfl rfl rfl (by omega)) <|
     hc (adC rfl rfl (by omega)) <|
     hc (byC rfl rfl (by omega)) <|
     hc (lnV rfl rfl (by omega)) <|
     hc (ftV rfl (by omega)) <|
     hc (kNeS (isX rfl) (isSx (l := ([] : LB)) 0 0 rfl) (bnF (nilT (by omega)))) <|
     hc (kCat (isX rfl) (isSx (l := ([] : LB)) 0 0 rfl) (denX rfl) (by first | rfl | (simp; done)) (by omega)) <|
     hc (ct0 rfl rfl (by first | omega | (rw [List.length_append]; omega) | (simp <;> omega))) <|
     hc (ct0 rfl rfl (by first | omega | (rw [List.length_append]; omega) | (simp <;> omega))) <|
     hc (eqZ rfl (by omega)) <|
     hc (kCat (isX rfl) (isX rfl) (denX rfl) (by first | rfl | (simp; done)) (by first | omega | (simp <;> omega))) <|
     hc (eqZ rfl (by omega)) <|
     hc (kCat (isX rfl) (isSx (l := ([] : LB)) 0 0 rfl) (denX rfl) (by first | rfl | (simp; done)) (by first | omega | (simp <;> omega))) <|
     hnil
  exact finU (nu := nuL (nu14 n body)) (one := one14 n body) rfl rfl ho run14 rfl rfl (dW2 (l := lfd57) (h := lhd57) body (by omega) rfl (by kernel_rfl) (zi := 6) (ri := 7) (pi := 11) rfl rfl rfl (sg0 := [(100, 54), (102, 53), (103, 52)]) (t := 12) (rr := 13) (by kernel_rfl) rfl rfl (by kernel_rfl)) rfl rfl (dD2 (l := lfd58) (h := lhd58) body (by omega) (NN2 n body) (by omega) (by omega) 5 hjk rfl (by kernel_rfl) (ni := 20) rfl (zi := 6) (ri := 7) (pi := 11) rfl rfl rfl (sg0 := [(320, 290), (322, 27), (323, 26)]) (t := 21) (rr := 22) (by kernel_rfl) rfl rfl (by kernel_rfl)) rfl rfl (cC2 (l := lfc60) (h := lhc60) body (by omega) 5 5 (by decide) rfl c2_5 rfl (by kernel_rfl) (xs := 26) (sg0 := [(1000, 560)]) rfl (cO2 body 5 (NN2 n body) rfl (by assumption)) (by kernel_rfl) (thx := [(6, .x 20), (7, .x 21), (11, .x 22)]) (thc3 rfl rfl rfl) (by kernel_rfl)) w hl
end Go.Proofs.YtaihihejljcniaaGreatDoor.muxEarly
