/- A part of the proof: an interpreter of the model's own code on partly known states, and that what it answers is what the program answers. No condition of its own. -/
import Derived.Test.YtaihihejljcniaaGreatDoorQ1MuxEarlyQ
set_option maxRecDepth 100000
set_option linter.unusedVariables false
set_option linter.unusedSimpArgs false
set_option maxHeartbeats 4000000
namespace Go.Proofs.YtaihihejljcniaaGreatDoor.muxEarly
open Go Go.AX Go.Proofs Go.Proofs.YtaihihejljcniaaGreatDoor
def hy5 : LK := hp1 ++ [(.byt (.x 9) (i6 0), .x 11), (.len (.x 9), .x 12), (.fit (.x 9), .b true), (.conv 3 (.x 0), .x 13), (.bin .add (.x 9) (.s 1 120), .x 14), (.len (.x 14), .x 15), (.bin .rem (.x 13) (.x 15), .x 16), (.bin .add (.x 16) (i6 1), .x 17), (.byt (.x 18) (i6 0), .x 20), (.len (.x 18), .x 21), (.fit (.x 18), .b true), (.byt (.x 22) (i6 0), .x 24), (.len (.x 22), .x 25), (.fit (.x 22), .b true), (.bin .add (.x 18) (.x 22), .x 26), (.bin .add (.s 0 0) (.x 26), .x 27)]
def lhd21 : LH := ⟨2, 100, 290, stG (.s 0 0) (.und) (.x 4) (.x 8) 27 25 26 47 46 1 0 ++ blD 48 0 0, stG (.x 10) (.und) (.x 4) (.x 8) 27 25 26 102 103 1 4 ++ blT 100 101 9⟩
def lfd21 : LF := ⟨2, 47, [(0, .p 27 0), (1, i6 1000000), (5, .p 48 0)], [], .exit 0, [(5, .p 100 0)], some lhd21⟩
def lhd22 : LH := ⟨2, 320, 510, stG (.s 0 0) (.und) (.x 4) (.x 8) 4 2 3 24 23 1 0 ++ blD 290 0 0, stG (.x 19) (.und) (.x 4) (.x 8) 4 2 3 322 323 1 2 ++ blT 320 321 18⟩
def lfd22 : LF := ⟨2, 47, [(0, .p 4 0), (1, .x 17), (5, .p 290 0)], [], .exit 0, [(5, .p 320 0)], some lhd22⟩
def lhd23 : LH := ⟨2, 700, 890, stH (.x 19) (.sl 552 0 1 0 true) 322 548 0 ++ blD 561 0 0, stH (.x 23) (.sl 552 0 1 0 true) 702 703 1 ++ blT 700 701 22⟩
def lfd23 : LF := ⟨2, 47, [(0, .p 4 0), (1, i6 1000000), (5, .p 561 0)], [], .exit 0, [(5, .p 700 0)], some lhd23⟩
def lhc24 : LH := ⟨2, 1000, 1060, [(890, .b ⟨79, .l [i6 65535, .x 27, .b false], 0, 0, 0, false, false⟩)], [rowK .und .und .und (ksT 1 2)]⟩
def lfc24 : LF := ⟨5, 87, [(0, .p 890 0), (6, .nils)], [], .ret, [(4, .sl 1001 0 3 0 true), (5, i6 0)], some lhc24⟩
noncomputable def tab5 : Tab := tabQ hy5 lfd21 lfd22 lfd23 lfc24
theorem run5 (e : Nat) : Go.AX.okB (call tab5 9000 3 [.x 0, .x 1] ⟨H0 e , 2, 0, 0⟩) = true := by kernel_rfl
noncomputable def nu5 (n : Int) (body : Int) : List Value := pn1 n body ++ [St' (AL1 body), St' ([] : LB), .int .u8 (bt (AL1 body) 0), .int .i64 (((AL1 body).length : Int)), .int .i64 (n), St' ((AL1 body) ++ [u8 120]), .int .i64 (((AL1 body).length : Int) + 1), .int .i64 (n % (((AL1 body).length : Int) + 1)), .int .i64 ((n % (((AL1 body).length : Int) + 1)) + 1), St' (TT1 body 2 (NN1 n body)), St' (RR1 body 2 (NN1 n body)), .int .u8 (bt (TT1 body 2 (NN1 n body)) 0), .int .i64 (((TT1 body 2 (NN1 n body)).length : Int)), St' ((RR1 body 2 (NN1 n body)) ++ abS), St' ([] : LB), .int .u8 (bt ((RR1 body 2 (NN1 n body)) ++ abS) 0), .int .i64 ((((RR1 body 2 (NN1 n body)) ++ abS).length : Int)), St' ((TT1 body 2 (NN1 n body)) ++ ((RR1 body 2 (NN1 n body)) ++ abS)), St' ((TT1 body 2 (NN1 n body)) ++ ((RR1 body 2 (NN1 n body)) ++ abS))]
theorem one5 (n : Int) (body : Int) : ∀ j, j < 1000000 → (nuL (nu5 n body) j).oneCell' = true := fun j _ => nuL_one (l := nu5 n body) rfl j
theorem path5 (n : Int) (body : Int) (b0 : 0 ≤ n) (b1 : n ≤ 65535) (b2 : 0 ≤ body) (b3 : body ≤ 65535) (h0 : ¬ (512 < (body % 3000))) (h1 : ¬ ((body % 3000) = 0)) (h3 : ¬ ((NN1 n body) ≤ LC1 body 1)) (h4 : (NN1 n body) ≤ LC1 body 2) (w : World) (hl : laidE w) : CwR 3 #[.int .u16 n, .int .u16 body] w (.bool true) := by
  have hn0 : ([] : LB).length = 0 := rfl
  have hAL := al1 body (by omega)
  have := em1 n body
  have hNN : NN1 n body = (n % (((AL1 body).length : Int) + 1)) + 1 := rfl
  have hjk := jk1 body 2 (NN1 n body) (by decide) (fun _ => by show LC1 body 1 < (NN1 n body); omega) (.inl (by assumption))
  have hTT := tt1 body (by omega) 2 (NN1 n body) (by omega) hjk
  have ho : ∀ k r, (k, r) ∈ hy5 → HOk (cx (nuL (nu5 n body)) (one5 n body) 1 laidE laidE_stab) k r := by
    unfold hy5
    exact hc (rm3 rfl rfl (by omega)) <|
     hc (cvV tu3 rfl rfl (by omega)) <|
     hc (kZer (isX rfl) (by omega) (by omega) (denX rfl)) <|
     hc (lnR rfl rfl (by omega)) <|
     hc (gtcF rfl (by omega)) <|
     hc (neZ rfl (by omega)) <|
     hc (kMax (isX rfl) (isZ (m := 0) rfl) (denX rfl) (by omega)) <|
     hc (ngV rfl rfl (by omega)) <|
     hc (aG rfl rfl (by omega)) <|
     hc (byC rfl rfl (by omega)) <|
     hc (lnV rfl rfl (by omega)) <|
     hc (ftV rfl (by omega)) <|
     hc (cvV tu3 rfl rfl (by omega)) <|
     hc (c120 rfl rfl (by omega)) <|
     hc (l120 rfl rfl) <|
     hc (rmV rfl rfl rfl (by omega)) <|
     hc (adC rfl rfl (by omega)) <|
     hc (byC rfl rfl (by omega)) <|
     hc (lnV rfl rfl (by omega)) <|
     hc (ftV rfl (by omega)) <|
     hc (byC rfl rfl (by omega)) <|
     hc (lnV rfl rfl (by omega)) <|
     hc (ftV rfl (by omega)) <|
     hc (ctV rfl rfl rfl (by omega)) <|
     hc (ct0 rfl rfl (by first | omega | (rw [List.length_append]; omega) | (simp <;> omega))) <|
     hnil
  exact finQ (nu := nuL (nu5 n body)) (one := one5 n body) rfl rfl ho run5 rfl rfl (dW1 (l := lfd21) (h := lhd21) body (by omega) rfl (by kernel_rfl) (ri := 4) (pi := 8) rfl rfl (sg0 := [(100, 48), (102, 47), (103, 46)]) (t := 9) (rr := 10) (by kernel_rfl) rfl rfl (by kernel_rfl)) rfl rfl (dD1 (l := lfd22) (h := lhd22) body (by omega) (NN1 n body) (by omega) (by omega) 2 hjk rfl (by kernel_rfl) (ni := 17) rfl (ri := 4) (pi := 8) rfl rfl (sg0 := [(320, 290), (322, 24), (323, 23)]) (t := 18) (rr := 19) (by kernel_rfl) rfl rfl (by kernel_rfl)) rfl rfl (dF (l := lfd23) (h := lhd23) (RR1 body 2 (NN1 n body)) (by omega) rfl (by kernel_rfl) (ri := 19) (t := 22) (rr := 23) (sg0 := [(700, 561), (702, 322), (703, 548)]) rfl (by kernel_rfl) rfl rfl (by kernel_rfl)) rfl rfl (cC1 (l := lfc24) (h := lhc24) body (by omega) 2 3 (by decide) rfl c1_2 rfl (by kernel_rfl) (xs := 27) (sg0 := [(1000, 890)]) rfl (cJ1 body 2 (NN1 n body) rfl) (by kernel_rfl) (thx := []) (thc0) (by kernel_rfl)) w hl
def hy6 : LK := hp1 ++ [(.byt (.x 9) (i6 0), .x 11), (.len (.x 9), .x 12), (.fit (.x 9), .b true), (.conv 3 (.x 0), .x 13), (.bin .add (.x 9) (.s 1 120), .x 14), (.len (.x 14), .x 15), (.bin .rem (.x 13) (.x 15), .x 16), (.bin .add (.x 16) (i6 1), .x 17), (.byt (.x 18) (i6 0), .x 20), (.len (.x 18), .x 21), (.fit (.x 18), .b true), (.byt (.x 22) (i6 0), .x 24), (.len (.x 22), .x 25), (.fit (.x 22), .b true), (.bin .add (.x 18) (.x 22), .x 26), (.bin .add (.s 0 0) (.x 26), .x 27), (.bin .add (.s 0 0) (.x 4), .x 4), (.bin .eql (.x 4) (.s 0 0), .b false)]
def lhd25 : LH := ⟨2, 100, 290, stG (.s 0 0) (.und) (.x 4) (.x 8) 27 25 26 47 46 1 0 ++ blD 48 0 0, stG (.x 10) (.und) (.x 4) (.x 8) 27 25 26 102 103 1 4 ++ blT 100 101 9⟩
def lfd25 : LF := ⟨2, 47, [(0, .p 27 0), (1, i6 1000000), (5, .p 48 0)], [], .exit 0, [(5, .p 100 0)], some lhd25⟩
def lhd26 : LH := ⟨2, 320, 510, stG (.s 0 0) (.und) (.x 4) (.x 8) 4 2 3 24 23 1 0 ++ blD 290 0 0, stG (.x 19) (.und) (.x 4) (.x 8) 4 2 3 322 323 1 3 ++ blT 320 321 18⟩
def lfd26 : LF := ⟨2, 47, [(0, .p 4 0), (1, .x 17), (5, .p 290 0)], [], .exit 0, [(5, .p 320 0)], some lhd26⟩
def lhd27 : LH := ⟨2, 700, 890, stH (.x 19) (.sl 552 0 1 0 true) 322 548 0 ++ blD 561 0 0, stH (.x 23) (.sl 552 0 1 0 true) 702 703 1 ++ blT 700 701 22⟩
def lfd27 : LF := ⟨2, 47, [(0, .p 4 0), (1, i6 1000000), (5, .p 561 0)], [], .exit 0, [(5, .p 700 0)], some lhd27⟩
def lhc28 : LH := ⟨2, 1000, 1060, [(890, .b ⟨79, .l [i6 65535, .x 27, .b false], 0, 0, 0, false, false⟩)], [rowK .und (.x 4) (.x 8) (ksT 1 3)]⟩
def lfc28 : LF := ⟨5, 87, [(0, .p 890 0), (6, .nils)], [], .ret, [(4, .sl 1001 0 4 0 true), (5, i6 0)], some lhc28⟩
noncomputable def tab6 : Tab := tabQ hy6 lfd25 lfd26 lfd27 lfc28
theorem run6 (e : Nat) : Go.AX.okB (call tab6 9000 3 [.x 0, .x 1] ⟨H0 e , 2, 0, 0⟩) = true := by kernel_rfl
noncomputable def nu6 (n : Int) (body : Int) : List Value := pn1 n body ++ [St' (AL1 body), St' ([] : LB), .int .u8 (bt (AL1 body) 0), .int .i64 (((AL1 body).length : Int)), .int .i64 (n), St' ((AL1 body) ++ [u8 120]), .int .i64 (((AL1 body).length : Int) + 1), .int .i64 (n % (((AL1 body).length : Int) + 1)), .int .i64 ((n % (((AL1 body).length : Int) + 1)) + 1), St' (TT1 body 3 (NN1 n body)), St' (RR1 body 3 (NN1 n body)), .int .u8 (bt (TT1 body 3 (NN1 n body)) 0), .int .i64 (((TT1 body 3 (NN1 n body)).length : Int)), St' ((RR1 body 3 (NN1 n body)) ++ abS), St' ([] : LB), .int .u8 (bt ((RR1 body 3 (NN1 n body)) ++ abS) 0), .int .i64 ((((RR1 body 3 (NN1 n body)) ++ abS).length : Int)), St' ((TT1 body 3 (NN1 n body)) ++ ((RR1 body 3 (NN1 n body)) ++ abS)), St' ((TT1 body 3 (NN1 n body)) ++ ((RR1 body 3 (NN1 n body)) ++ abS))]
theorem one6 (n : Int) (body : Int) : ∀ j, j < 1000000 → (nuL (nu6 n body) j).oneCell' = true := fun j _ => nuL_one (l := nu6 n body) rfl j
theorem path6 (n : Int) (body : Int) (b0 : 0 ≤ n) (b1 : n ≤ 65535) (b2 : 0 ≤ body) (b3 : body ≤ 65535) (h0 : ¬ (512 < (body % 3000))) (h1 : ¬ ((body % 3000) = 0)) (h3 : ¬ ((NN1 n body) ≤ LC1 body 1)) (h4 : ¬ ((NN1 n body) ≤ LC1 body 2)) (h5 : (NN1 n body) ≤ LC1 body 3) (w : World) (hl : laidE w) : CwR 3 #[.int .u16 n, .int .u16 body] w (.bool true) := by
  have hn0 : ([] : LB).length = 0 := rfl
  have hAL := al1 body (by omega)
  have := em1 n body
  have hNN : NN1 n body = (n % (((AL1 body).length : Int) + 1)) + 1 := rfl
  have hjk := jk1 body 3 (NN1 n body) (by decide) (fun _ => by show LC1 body 2 < (NN1 n body); omega) (.inl (by assumption))
  have hTT := tt1 body (by omega) 3 (NN1 n body) (by omega) hjk
  have ho : ∀ k r, (k, r) ∈ hy6 → HOk (cx (nuL (nu6 n body)) (one6 n body) 1 laidE laidE_stab) k r := by
    unfold hy6
    exact hc (rm3 rfl rfl (by omega)) <|
     hc (cvV tu3 rfl rfl (by omega)) <|
     hc (kZer (isX rfl) (by omega) (by omega) (denX rfl)) <|
     hc (lnR rfl rfl (by omega)) <|
     hc (gtcF rfl (by omega)) <|
     hc (neZ rfl (by omega)) <|
     hc (kMax (isX rfl) (isZ (m := 0) rfl) (denX rfl) (by omega)) <|
     hc (ngV rfl rfl (by omega)) <|
     hc (aG rfl rfl (by omega)) <|
     hc (byC rfl rfl (by omega)) <|
     hc (lnV rfl rfl (by omega)) <|
     hc (ftV rfl (by omega)) <|
     hc (cvV tu3 rfl rfl (by omega)) <|
     hc (c120 rfl rfl (by omega)) <|
     hc (l120 rfl rfl) <|
     hc (rmV rfl rfl rfl (by omega)) <|
     hc (adC rfl rfl (by omega)) <|
     hc (byC rfl rfl (by omega)) <|
     hc (lnV rfl rfl (by omega)) <|
     hc (ftV rfl (by omega)) <|
     hc (byC rfl rfl (by omega)) <|
     hc (lnV rfl rfl (by omega)) <|
     hc (ftV rfl (by omega)) <|
     hc (ctV rfl rfl rfl (by omega)) <|
     hc (ct0 rfl rfl (by first | omega | (rw [List.length_append]; omega) | (simp <;> omega))) <|
     hc (ct0 rfl rfl (by first | omega | (rw [List.length_append]; omega) | (simp <;> omega))) <|
     hc (eqZ rfl (by omega)) <|
     hnil
  exact finQ (nu := nuL (nu6 n body)) (one := one6 n body) rfl rfl ho run6 rfl rfl (dW1 (l := lfd25) (h := lhd25) body (by omega) rfl (by kernel_rfl) (ri := 4) (pi := 8) rfl rfl (sg0 := [(100, 48), (102, 47), (103, 46)]) (t := 9) (rr := 10) (by kernel_rfl) rfl rfl (by kernel_rfl)) rfl rfl (dD1 (l := lfd26) (h := lhd26) body (by omega) (NN1 n body) (by omega) (by omega) 3 hjk rfl (by kernel_rfl) (ni := 17) rfl (ri := 4) (pi := 8) rfl rfl (sg0 := [(320, 290), (322, 24), (323, 23)]) (t := 18) (rr := 19) (by kernel_rfl) rfl rfl (by kernel_rfl)) rfl rfl (dF (l := lfd27) (h := lhd27) (RR1 body 3 (NN1 n body)) (by omega) rfl (by kernel_rfl) (ri := 19) (t := 22) (rr := 23) (sg0 := [(700, 561), (702, 322), (703, 548)]) rfl (by kernel_rfl) rfl rfl (by kernel_rfl)) rfl rfl (cC1 (l := lfc28) (h := lhc28) body (by omega) 3 4 (by decide) rfl c1_3 rfl (by kernel_rfl) (xs := 27) (sg0 := [(1000, 890)]) rfl (cJ1 body 3 (NN1 n body) rfl) (by kernel_rfl) (thx := [(4, .x 21), (8, .x 22)]) (thc2 rfl rfl) (by kernel_rfl)) w hl
def hy7 : LK := hp1 ++ [(.byt (.x 9) (i6 0), .x 11), (.len (.x 9), .x 12), (.fit (.x 9), .b true), (.conv 3 (.x 0), .x 13), (.bin .add (.x 9) (.s 1 120), .x 14), (.len (.x 14), .x 15), (.bin .rem (.x 13) (.x 15), .x 16), (.bin .add (.x 16) (i6 1), .x 17), (.byt (.x 18) (i6 0), .x 20), (.len (.x 18), .x 21), (.fit (.x 18), .b true), (.bin .neq (.x 19) (.s 0 0), .b true), (.bin .eql (.x 19) (.s 0 0), .b false), (.len (.x 19), .x 22), (.mm false (i6 1000000) (.x 22), .x 23), (.sub (.x 19) none (some (.x 23)), .x 24), (.byt (.x 24) (i6 0), .x 25), (.fit (.x 24), .b true), (.len (.x 24), .x 26), (.sub (.x 19) (some (.x 23)) none, .x 27), (.bin .sub (i6 1000000) (.x 23), .x 28), (.bin .gtr (.x 28) (i6 0), .b true), (.bin .neq (.x 27) (.s 0 0), .b false), (.bin .add (.x 18) (.x 24), .x 29), (.bin .add (.s 0 0) (.x 29), .x 30), (.bin .add (.s 0 0) (.x 4), .x 4), (.bin .eql (.x 4) (.s 0 0), .b false), (.bin .add (.x 4) (.s 0 0), .x 4)]
def lhd29 : LH := ⟨2, 100, 290, stG (.s 0 0) (.und) (.x 4) (.x 8) 27 25 26 47 46 1 0 ++ blD 48 0 0, stG (.x 10) (.und) (.x 4) (.x 8) 27 25 26 102 103 1 4 ++ blT 100 101 9⟩
def lfd29 : LF := ⟨2, 47, [(0, .p 27 0), (1, i6 1000000), (5, .p 48 0)], [], .exit 0, [(5, .p 100 0)], some lhd29⟩
def lhd30 : LH := ⟨2, 320, 510, stG (.s 0 0) (.und) (.x 4) (.x 8) 4 2 3 24 23 1 0 ++ blD 290 0 0, stG (.x 19) (.und) (.x 4) (.x 8) 4 2 3 322 323 1 4 ++ blT 320 321 18⟩
def lfd30 : LF := ⟨2, 47, [(0, .p 4 0), (1, .x 17), (5, .p 290 0)], [], .exit 0, [(5, .p 320 0)], some lhd30⟩
def lhc32 : LH := ⟨2, 1000, 1060, [(561, .b ⟨79, .l [i6 65535, .x 30, .b false], 0, 0, 0, false, false⟩)], [rowK .und (.x 4) (.x 8) (ksT 1 4)]⟩
def lfc32 : LF := ⟨5, 87, [(0, .p 561 0), (6, .nils)], [], .ret, [(4, .sl 1001 0 4 0 true), (5, i6 0)], some lhc32⟩
noncomputable def tab7 : Tab := tabU hy7 lfd29 lfd30 lfc32
theorem run7 (e : Nat) : Go.AX.okB (call tab7 9000 3 [.x 0, .x 1] ⟨H0 e , 2, 0, 0⟩) = true := by kernel_rfl
noncomputable def nu7 (n : Int) (body : Int) : List Value := pn1 n body ++ [St' (AL1 body), St' ([] : LB), .int .u8 (bt (AL1 body) 0), .int .i64 (((AL1 body).length : Int)), .int .i64 (n), St' ((AL1 body) ++ [u8 120]), .int .i64 (((AL1 body).length : Int) + 1), .int .i64 (n % (((AL1 body).length : Int) + 1)), .int .i64 ((n % (((AL1 body).length : Int) + 1)) + 1), St' (TT1 body 4 (NN1 n body)), St' (RR1 body 4 (NN1 n body)), .int .u8 (bt (TT1 body 4 (NN1 n body)) 0), .int .i64 (((TT1 body 4 (NN1 n body)).length : Int)), .int .i64 (((RR1 body 4 (NN1 n body)).length : Int)), .int .i64 (((RR1 body 4 (NN1 n body)).length : Int)), St' (RR1 body 4 (NN1 n body)), .int .u8 (bt (RR1 body 4 (NN1 n body)) 0), .int .i64 (((RR1 body 4 (NN1 n body)).length : Int)), St' ([] : LB), .int .i64 (1000000 - ((RR1 body 4 (NN1 n body)).length : Int)), St' ((TT1 body 4 (NN1 n body)) ++ (RR1 body 4 (NN1 n body))), St' ((TT1 body 4 (NN1 n body)) ++ (RR1 body 4 (NN1 n body)))]
theorem one7 (n : Int) (body : Int) : ∀ j, j < 1000000 → (nuL (nu7 n body) j).oneCell' = true := fun j _ => nuL_one (l := nu7 n body) rfl j
theorem path7 (n : Int) (body : Int) (b0 : 0 ≤ n) (b1 : n ≤ 65535) (b2 : 0 ≤ body) (b3 : body ≤ 65535) (h0 : ¬ (512 < (body % 3000))) (h1 : ¬ ((body % 3000) = 0)) (h3 : ¬ ((NN1 n body) ≤ LC1 body 1)) (h4 : ¬ ((NN1 n body) ≤ LC1 body 2)) (h5 : ¬ ((NN1 n body) ≤ LC1 body 3)) (h6 : ¬ ((RR1 body 4 (NN1 n body)).length = 0)) (w : World) (hl : laidE w) : CwR 3 #[.int .u16 n, .int .u16 body] w (.bool true) := by
  have hn0 : ([] : LB).length = 0 := rfl
  have hAL := al1 body (by omega)
  have := em1 n body
  have hNN : NN1 n body = (n % (((AL1 body).length : Int) + 1)) + 1 := rfl
  have hjk := jk1 body 4 (NN1 n body) (by decide) (fun _ => by show LC1 body 3 < (NN1 n body); omega) (.inr rfl)
  have hTT := tt1 body (by omega) 4 (NN1 n body) (by omega) hjk
  have ho : ∀ k r, (k, r) ∈ hy7 → HOk (cx (nuL (nu7 n body)) (one7 n body) 1 laidE laidE_stab) k r := by
    unfold hy7
    exact hc (rm3 rfl rfl (by omega)) <|
     hc (cvV tu3 rfl rfl (by omega)) <|
     hc (kZer (isX rfl) (by omega) (by omega) (denX rfl)) <|
     hc (lnR rfl rfl (by omega)) <|
     hc (gtcF rfl (by omega)) <|
     hc (neZ rfl (by omega)) <|
     hc (kMax (isX rfl) (isZ (m := 0) rfl) (denX rfl) (by omega)) <|
     hc (ngV rfl rfl (by omega)) <|
     hc (aG rfl rfl (by omega)) <|
     hc (byC rfl rfl (by omega)) <|
     hc (lnV rfl rfl (by omega)) <|
     hc (ftV rfl (by omega)) <|
     hc (cvV tu3 rfl rfl (by omega)) <|
     hc (c120 rfl rfl (by omega)) <|
     hc (l120 rfl rfl) <|
     hc (rmV rfl rfl rfl (by omega)) <|
     hc (adC rfl rfl (by omega)) <|
     hc (byC rfl rfl (by omega)) <|
     hc (lnV rfl rfl (by omega)) <|
     hc (ftV rfl (by omega)) <|
     hc (kNeS (isX rfl) (isSx (l := ([] : LB)) 0 0 rfl) (bnT (nilF (by omega)))) <|
     hc (kEqS (isX rfl) (isSx (l := ([] : LB)) 0 0 rfl) (nilF (by omega))) <|
     hc (lnV rfl rfl (by omega)) <|
     hc (kMin (isZ (m := 1000000) rfl) (isX rfl) (denX rfl) (by omega)) <|
     hc (kCut (isX rfl) (.inl ⟨rfl, rfl⟩) (.inr ⟨_, _, rfl, (isX rfl)⟩) (p := ([] : LB)) (m := (RR1 body 4 (NN1 n body))) (q := ([] : LB)) (by first | rfl | (simp; done)) (by omega) (by omega) (denX rfl)) <|
     hc (byC rfl rfl (by omega)) <|
     hc (ftV rfl (by omega)) <|
     hc (lnV rfl rfl (by omega)) <|
     hc (kCut (isX rfl) (.inr ⟨_, _, rfl, (isX rfl)⟩) (.inl ⟨rfl, rfl⟩) (p := (RR1 body 4 (NN1 n body))) (m := ([] : LB)) (q := ([] : LB)) (by first | rfl | (simp; done)) (by omega) (by omega) (denX rfl)) <|
     hc (kSub (isZ (m := 1000000) rfl) (isX rfl) (denX rfl) (by omega) (fI64 (by omega) (by omega))) <|
     hc (gtcT rfl (by omega)) <|
     hc (kNeS (isX rfl) (isSx (l := ([] : LB)) 0 0 rfl) (bnF (decide_eq_true rfl))) <|
     hc (ctV rfl rfl rfl (by omega)) <|
     hc (ct0 rfl rfl (by first | omega | (rw [List.length_append]; omega) | (simp <;> omega))) <|
     hc (ct0 rfl rfl (by first | omega | (rw [List.length_append]; omega) | (simp <;> omega))) <|
     hc (eqZ rfl (by omega)) <|
     hc (kCat (isX rfl) (isSx (l := ([] : LB)) 0 0 rfl) (denX rfl) (by first | rfl | (simp; done)) (by first | omega | (simp <;> omega))) <|
     hnil
  exact finU (nu := nuL (nu7 n body)) (one := one7 n body) rfl rfl ho run7 rfl rfl (dW1 (l := lfd29) (h := lhd29) body (by omega) rfl (by kernel_rfl) (ri := 4) (pi := 8) rfl rfl (sg0 := [(100, 48), (102, 47), (103, 46)]) (t := 9) (rr := 10) (by kernel_rfl) rfl rfl (by kernel_rfl)) rfl rfl (dD1 (l := lfd30) (h := lhd30) body (by omega) (NN1 n body) (by omega) (by omega) 4 hjk rfl (by kernel_rfl) (ni := 17) rfl (ri := 4) (pi := 8) rfl rfl (sg0 := [(320, 290), (322, 24), (323, 23)]) (t := 18) (rr := 19) (by kernel_rfl) rfl rfl (by kernel_rfl)) rfl rfl (cC1 (l := lfc32) (h := lhc32) body (by omega) 4 4 (by decide) rfl c1_4 rfl (by kernel_rfl) (xs := 30) (sg0 := [(1000, 561)]) rfl (cK1 body 4 (NN1 n body) rfl) (by kernel_rfl) (thx := [(4, .x 21), (8, .x 22)]) (thc2 rfl rfl) (by kernel_rfl)) w hl
def hy8 : LK := hp1 ++ [(.byt (.x 9) (i6 0), .x 11), (.len (.x 9), .x 12), (.fit (.x 9), .b true), (.conv 3 (.x 0), .x 13), (.bin .add (.x 9) (.s 1 120), .x 14), (.len (.x 14), .x 15), (.bin .rem (.x 13) (.x 15), .x 16), (.bin .add (.x 16) (i6 1), .x 17), (.byt (.x 18) (i6 0), .x 20), (.len (.x 18), .x 21), (.fit (.x 18), .b true), (.bin .neq (.x 19) (.s 0 0), .b false), (.bin .add (.x 18) (.s 0 0), .x 22), (.bin .add (.s 0 0) (.x 22), .x 23), (.bin .add (.s 0 0) (.x 4), .x 4), (.bin .eql (.x 4) (.s 0 0), .b false), (.bin .add (.x 4) (.s 0 0), .x 4)]
def lhd33 : LH := ⟨2, 100, 290, stG (.s 0 0) (.und) (.x 4) (.x 8) 27 25 26 47 46 1 0 ++ blD 48 0 0, stG (.x 10) (.und) (.x 4) (.x 8) 27 25 26 102 103 1 4 ++ blT 100 101 9⟩
def lfd33 : LF := ⟨2, 47, [(0, .p 27 0), (1, i6 1000000), (5, .p 48 0)], [], .exit 0, [(5, .p 100 0)], some lhd33⟩
def lhd34 : LH := ⟨2, 320, 510, stG (.s 0 0) (.und) (.x 4) (.x 8) 4 2 3 24 23 1 0 ++ blD 290 0 0, stG (.x 19) (.und) (.x 4) (.x 8) 4 2 3 322 323 1 4 ++ blT 320 321 18⟩
def lfd34 : LF := ⟨2, 47, [(0, .p 4 0), (1, .x 17), (5, .p 290 0)], [], .exit 0, [(5, .p 320 0)], some lhd34⟩
def lhc36 : LH := ⟨2, 1000, 1060, [(560, .b ⟨79, .l [i6 65535, .x 23, .b false], 0, 0, 0, false, false⟩)], [rowK .und (.x 4) (.x 8) (ksT 1 4)]⟩
def lfc36 : LF := ⟨5, 87, [(0, .p 560 0), (6, .nils)], [], .ret, [(4, .sl 1001 0 4 0 true), (5, i6 0)], some lhc36⟩
noncomputable def tab8 : Tab := tabU hy8 lfd33 lfd34 lfc36
theorem run8 (e : Nat) : Go.AX.okB (call tab8 9000 3 [.x 0, .x 1] ⟨H0 e , 2, 0, 0⟩) = true := by kernel_rfl
noncomputable def nu8 (n : Int) (body : Int) : List Value := pn1 n body ++ [St' (AL1 body), St' ([] : LB), .int .u8 (bt (AL1 body) 0), .int .i64 (((AL1 body).length : Int)), .int .i64 (n), St' ((AL1 body) ++ [u8 120]), .int .i64 (((AL1 body).length : Int) + 1), .int .i64 (n % (((AL1 body).length : Int) + 1)), .int .i64 ((n % (((AL1 body).length : Int) + 1)) + 1), St' (TT1 body 4 (NN1 n body)), St' (RR1 body 4 (NN1 n body)), .int .u8 (bt (TT1 body 4 (NN1 n body)) 0), .int .i64 (((TT1 body 4 (NN1 n body)).length : Int)), St' (TT1 body 4 (NN1 n body)), St' (TT1 body 4 (NN1 n body))]
theorem one8 (n : Int) (body : Int) : ∀ j, j < 1000000 → (nuL (nu8 n body) j).oneCell' = true := fun j _ => nuL_one (l := nu8 n body) rfl j
theorem path8 (n : Int) (body : Int) (b0 : 0 ≤ n) (b1 : n ≤ 65535) (b2 : 0 ≤ body) (b3 : body ≤ 65535) (h0 : ¬ (512 < (body % 3000))) (h1 : ¬ ((body % 3000) = 0)) (h3 : ¬ ((NN1 n body) ≤ LC1 body 1)) (h4 : ¬ ((NN1 n body) ≤ LC1 body 2)) (h5 : ¬ ((NN1 n body) ≤ LC1 body 3)) (h6 : (RR1 body 4 (NN1 n body)).length = 0) (w : World) (hl : laidE w) : CwR 3 #[.int .u16 n, .int .u16 body] w (.bool true) := by
  have hn0 : ([] : LB).length = 0 := rfl
  have hAL := al1 body (by omega)
  have := em1 n body
  have hNN : NN1 n body = (n % (((AL1 body).length : Int) + 1)) + 1 := rfl
  have hjk := jk1 body 4 (NN1 n body) (by decide) (fun _ => by show LC1 body 3 < (NN1 n body); omega) (.inr rfl)
  have hTT := tt1 body (by omega) 4 (NN1 n body) (by omega) hjk
  have ho : ∀ k r, (k, r) ∈ hy8 → HOk (cx (nuL (nu8 n body)) (one8 n body) 1 laidE laidE_stab) k r := by
    unfold hy8
    exact hc (rm3 rfl rfl (by omega)) <|
     hc (cvV tu3 rfl rfl (by omega)) <|
     hc (kZer (isX rfl) (by omega) (by omega) (denX rfl)) <|
     hc (lnR rfl rfl (by omega)) <|
     hc (gtcF rfl (by omega)) <|
     hc (neZ rfl (by omega)) <|
     hc (kMax (isX rfl) (isZ (m := 0) rfl) (denX rfl) (by omega)) <|
     hc (ngV rfl rfl (by omega)) <|
     hc (aG rfl rfl (by omega)) <|
     hc (byC rfl rfl (by omega)) <|
     hc (lnV rfl rfl (by omega)) <|
     hc (ftV rfl (by omega)) <|
     hc (cvV tu3 rfl rfl (by omega)) <|
     hc (c120 rfl rfl (by omega)) <|
     hc (l120 rfl rfl) <|
     hc (rmV rfl rfl rfl (by omega)) <|
     hc (adC rfl rfl (by omega)) <|
     hc (byC rfl rfl (by omega)) <|
     hc (lnV rfl rfl (by omega)) <|
     hc (ftV rfl (by omega)) <|
     hc (kNeS (isX rfl) (isSx (l := ([] : LB)) 0 0 rfl) (bnF (nilT (by omega)))) <|
     hc (kCat (isX rfl) (isSx (l := ([] : LB)) 0 0 rfl) (denX rfl) (by first | rfl | (simp; done)) (by omega)) <|
     hc (ct0 rfl rfl (by first | omega | (rw [List.length_append]; omega) | (simp <;> omega))) <|
     hc (ct0 rfl rfl (by first | omega | (rw [List.length_append]; omega) | (simp <;> omega))) <|
     hc (eqZ rfl (by omega)) <|
     hc (kCat (isX rfl) (isSx (l := ([] : LB)) 0 0 rfl) (denX rfl) (by first | rfl | (simp; done)) (by first | omega | (simp <;> omega))) <|
     hnil
  exact finU (nu := nuL (nu8 n body)) (one := one8 n body) rfl rfl ho run8 rfl rfl (dW1 (l := lfd33) (h := lhd33) body (by omega) rfl (by kernel_rfl) (ri := 4) (pi := 8) rfl rfl (sg0 := [(100, 48), (102, 47), (103, 46)]) (t := 9) (rr := 10) (by kernel_rfl) rfl rfl (by kernel_rfl)) rfl rfl (dD1 (l := lfd34) (h := lhd34) body (by omega) (NN1 n body) (by omega) (by omega) 4 hjk rfl (by kernel_rfl) (ni := 17) rfl (ri := 4) (pi := 8) rfl rfl (sg0 := [(320, 290), (322, 24), (323, 23)]) (t := 18) (rr := 19) (by kernel_rfl) rfl rfl (by kernel_rfl)) rfl rfl (cC1 (l := lfc36) (h := lhc36) body (by omega) 4 4 (by decide) rfl c1_4 rfl (by kernel_rfl) (xs := 23) (sg0 := [(1000, 560)]) rfl (cO1 body 4 (NN1 n body) rfl (by assumption)) (by kernel_rfl) (thx := [(4, .x 21), (8, .x 22)]) (thc2 rfl rfl) (by kernel_rfl)) w hl
def hy9 : LK := hp2 ++ [(.byt (.x 12) (i6 0), .x 14), (.len (.x 12), .x 15), (.fit (.x 12), .b true), (.conv 3 (.x 0), .x 16), (.bin .add (.x 12) (.s 1 120), .x 17), (.len (.x 17), .x 18), (.bin .rem (.x 16) (.x 18), .x 19), (.bin .add (.x 19) (i6 1), .x 20), (.byt (.x 21) (i6 0), .x 23), (.len (.x 21), .x 24), (.fit (.x 21), .b true), (.byt (.x 25) (i6 0), .x 27), (.len (.x 25), .x 28), (.fit (.x 25), .b true), (.bin .add (.x 21) (.x 25), .x 29), (.bin .add (.s 0 0) (.x 29), .x 30)]
def lhd37 : LH := ⟨2, 100, 290, stG (.s 0 0) (.x 6) (.x 7) (.x 11) 30 28 29 53 52 2 0 ++ blD 54 0 0, stG (.x 13) (.x 6) (.x 7) (.x 11) 30 28 29 102 103 2 5 ++ blT 100 101 12⟩
def lfd37 : LF := ⟨2, 47, [(0, .p 30 0), (1, i6 1000000), (5, .p 54 0)], [], .exit 0, [(5, .p 100 0)], some lhd37⟩
def lhd38 : LH := ⟨2, 320, 510, stG (.s 0 0) (.x 6) (.x 7) (.x 11) 4 2 3 27 26 2 0 ++ blD 290 0 0, stG (.x 22) (.x 6) (.x 7) (.x 11) 4 2 3 322 323 2 1 ++ blT 320 321 21⟩
def lfd38 : LF := ⟨2, 47, [(0, .p 4 0), (1, .x 20), (5, .p 290 0)], [], .exit 0, [(5, .p 320 0)], some lhd38⟩
def lhd39 : LH := ⟨2, 700, 890, stH (.x 22) (.sl 552 0 1 0 true) 322 548 0 ++ blD 561 0 0, stH (.x 26) (.sl 552 0 1 0 true) 702 703 1 ++ blT 700 701 25⟩
def lfd39 : LF := ⟨2, 47, [(0, .p 4 0), (1, i6 1000000), (5, .p 561 0)], [], .exit 0, [(5, .p 700 0)], some lhd39⟩
def lhc40 : LH := ⟨2, 1000, 1060, [(890, .b ⟨79, .l [i6 65535, .x 30, .b false], 0, 0, 0, false, false⟩)], [rowK .und .und .und (ksT 2 1)]⟩
def lfc40 : LF := ⟨5, 87, [(0, .p 890 0), (6, .nils)], [], .ret, [(4, .sl 1001 0 2 0 true), (5, i6 0)], some lhc40⟩
noncomputable def tab9 : Tab := tabQ hy9 lfd37 lfd38 lfd39 lfc40
theorem run9 (e : Nat) : Go.AX.okB (call tab9 9000 3 [.x 0, .x 1] ⟨H0 e , 2, 0, 0⟩) = true := by kernel_rfl
noncomputable def nu9 (n : Int) (body : Int) : List Value := pn2 n body ++ [St' (AL2 body), St' ([] : LB), .int .u8 (bt (AL2 body) 0), .int .i64 (((AL2 body).length : Int)), .int .i64 (n), St' ((AL2 body) ++ [u8 120]), .int .i64 (((AL2 body).length : Int) + 1), .int .i64 (n % (((AL2 body).length : Int) + 1)), .int .i64 ((n % (((AL2 body).length : Int) + 1)) + 1), St' (TT2 body 1 (NN2 n body)), St' (RR2 body 1 (NN2 n body)), .int .u8 (bt (TT2 body 1 (NN2 n body)) 0), .int .i64 (((TT2 body 1 (NN2 n body)).length : Int)), St' ((RR2 body 1 (NN2 n body)) ++ abS), St' ([] : LB), .int .u8 (bt ((RR2 body 1 (NN2 n body)) ++ abS) 0), .int .i64 ((((RR2 body 1 (NN2 n body)) ++ abS).length : Int)), St' ((TT2 body 1 (NN2 n body)) ++ ((RR2 body 1 (NN2 n body)) ++ abS)), St' ((TT2 body 1 (NN2 n body)) ++ ((RR2 body 1 (NN2 n body)) ++ abS))]
theorem one9 (n : Int) (body : Int) : ∀ j, j < 1000000 → (nuL (nu9 n body) j).oneCell' = true := fun j _ => nuL_one (l := nu9 n body) rfl j
theorem path9 (n : Int) (body : Int) (b0 : 0 ≤ n) (b1 : n ≤ 65535) (b2 : 0 ≤ body) (b3 : body ≤ 65535) (h0 : 512 < (body % 3000)) (h1 : ¬ (512 < (body % 3000) - 512)) (h4 : (NN2 n body) ≤ LC2 body 1) (w : World) (hl : laidE w) : CwR 3 #[.int .u16 n, .int .u16 body] w (.bool true) := by
  have hn0 : ([] : LB).length = 0 := rfl
  have hAL := al2 body (by omega)
  have := em2 n body
  have hNN : NN2 n body = (n % (((AL2 body).length : Int) + 1)) + 1 := rfl
  have hL0 := lc2 body
  have hjk := jk2 body 1 (NN2 n body) (by decide) (fun _ => by show LC2 body 0 < (NN2 n body); omega) (.inl (by assumption))
  have hTT := tt2 body (by omega) 1 (NN2 n body) (by omega) hjk
  have ho : ∀ k r, (k, r) ∈ hy9 → HOk (cx (nuL (nu9 n body)) (one9 n body) 1 laidE laidE_stab) k r := by
    unfold hy9
    exact hc (rm3 rfl rfl (by omega)) <|
     hc (cvV tu3 rfl rfl (by omega)) <|
     hc (kZer (isX rfl) (by omega) (by omega) (denX rfl)) <|
     hc (lnR rfl rfl (by omega)) <|
     hc (gtcT rfl (by omega)) <|
     hc (rT rfl (by omega) rfl) <|
     hc (l512 rfl) <|
     hc (rD rfl rfl (by omega)) <|
     hc (lnR rfl rfl (by omega)) <|
     hc (gtcF rfl (by omega)) <|
     hc (neZ rfl (by omega)) <|
     hc (kMax (isX rfl) (isZ (m := 0) rfl) (denX rfl) (by omega)) <|
     hc (ngV rfl rfl (by omega)) <|
     hc (aG rfl rfl (by omega)) <|
     hc (byC rfl rfl (by omega)) <|
     hc (lnV rfl rfl (by omega)) <|
     hc (ftV rfl (by omega)) <|
     hc (cvV tu3 rfl rfl (by omega)) <|
     hc (c120 rfl rfl (by omega)) <|
     hc (l120 rfl rfl) <|
     hc (rmV rfl rfl rfl (by omega)) <|
     hc (adC rfl rfl (by omega)) <|
     hc (byC rfl rfl (by omega)) <|
     hc (lnV rfl rfl (by omega)) <|
     hc (ftV rfl (by omega)) <|
     hc (byC rfl rfl (by omega)) <|
     hc (lnV rfl rfl (by omega)) <|
     hc (ftV rfl (by omega)) <|
     hc (ctV rfl rfl rfl (by omega)) <|
     hc (ct0 rfl rfl (by first | omega | (rw [List.length_append]; omega) | (simp <;> omega))) <|
     hnil
  exact finQ (nu := nuL (nu9 n body)) (one := one9 n body) rfl rfl ho run9 rfl rfl (dW2 (l := lfd37) (h := lhd37) body (by omega) rfl (by kernel_rfl) (zi := 6) (ri := 7) (pi := 11) rfl rfl rfl (sg0 := [(100, 54), (102, 53), (103, 52)]) (t := 12) (rr := 13) (by kernel_rfl) rfl rfl (by kernel_rfl)) rfl rfl (dD2 (l := lfd38) (h := lhd38) body (by omega) (NN2 n body) (by omega) (by omega) 1 hjk rfl (by kernel_rfl) (ni := 20) rfl (zi := 6) (ri := 7) (pi := 11) rfl rfl rfl (sg0 := [(320, 290), (322, 27), (323, 26)]) (t := 21) (rr := 22) (by kernel_rfl) rfl rfl (by kernel_rfl)) rfl rfl (dF (l := lfd39) (h := lhd39) (RR2 body 1 (NN2 n body)) (by omega) rfl (by kernel_rfl) (ri := 22) (t := 25) (rr := 26) (sg0 := [(700, 561), (702, 322), (703, 548)]) rfl (by kernel_rfl) rfl rfl (by kernel_rfl)) rfl rfl (cC2 (l := lfc40) (h := lhc40) body (by omega) 1 2 (by decide) rfl c2_1 rfl (by kernel_rfl) (xs := 30) (sg0 := [(1000, 890)]) rfl (cJ2 body 1 (NN2 n body) rfl) (by kernel_rfl) (thx := []) (thc0) (by kernel_rfl)) w hl
end Go.Proofs.YtaihihejljcniaaGreatDoor.muxEarly
