/- A part of the proof: an interpreter of the model's own code on partly known states, and that what it answers is what the program answers. No condition of its own. -/
import Derived.Test.YtaihihejljcniaaGreatDoorQ1MuxEarlyQ
set_option maxRecDepth 100000
set_option linter.unusedVariables false
set_option linter.unusedSimpArgs false
set_option maxHeartbeats 4000000
namespace Go.Proofs.YtaihihejljcniaaGreatDoor.muxEarly
open Go Go.AX Go.Proofs Go.Proofs.YtaihihejljcniaaGreatDoor
def hy15 : LK := hp3 ++ [(.byt (.x 14) (i6 0), .x 16), (.len (.x 14), .x 17), (.fit (.x 14), .b true), (.conv 3 (.x 0), .x 18), (.bin .add (.x 14) (.s 1 120), .x 19), (.len (.x 19), .x 20), (.bin .rem (.x 18) (.x 20), .x 21), (.bin .add (.x 21) (i6 1), .x 22), (.byt (.x 23) (i6 0), .x 25), (.len (.x 23), .x 26), (.fit (.x 23), .b true), (.byt (.x 27) (i6 0), .x 29), (.len (.x 27), .x 30), (.fit (.x 27), .b true), (.bin .add (.x 23) (.x 27), .x 31), (.bin .add (.s 0 0) (.x 31), .x 32)]
def lhd61 : LH := ⟨2, 100, 290, stG (.s 0 0) (.x 6) (.x 9) (.x 13) 33 31 32 59 58 3 0 ++ blD 60 0 0, stG (.x 15) (.x 6) (.x 9) (.x 13) 33 31 32 102 103 3 6 ++ blT 100 101 14⟩
def lfd61 : LF := ⟨2, 47, [(0, .p 33 0), (1, i6 1000000), (5, .p 60 0)], [], .exit 0, [(5, .p 100 0)], some lhd61⟩
def lhd62 : LH := ⟨2, 320, 510, stG (.s 0 0) (.x 6) (.x 9) (.x 13) 4 2 3 30 29 3 0 ++ blD 290 0 0, stG (.x 24) (.x 6) (.x 9) (.x 13) 4 2 3 322 323 3 1 ++ blT 320 321 23⟩
def lfd62 : LF := ⟨2, 47, [(0, .p 4 0), (1, .x 22), (5, .p 290 0)], [], .exit 0, [(5, .p 320 0)], some lhd62⟩
def lhd63 : LH := ⟨2, 700, 890, stH (.x 24) (.sl 552 0 1 0 true) 322 548 0 ++ blD 561 0 0, stH (.x 28) (.sl 552 0 1 0 true) 702 703 1 ++ blT 700 701 27⟩
def lfd63 : LF := ⟨2, 47, [(0, .p 4 0), (1, i6 1000000), (5, .p 561 0)], [], .exit 0, [(5, .p 700 0)], some lhd63⟩
def lhc64 : LH := ⟨2, 1000, 1060, [(890, .b ⟨79, .l [i6 65535, .x 32, .b false], 0, 0, 0, false, false⟩)], [rowK .und .und .und (ksT 3 1)]⟩
def lfc64 : LF := ⟨5, 87, [(0, .p 890 0), (6, .nils)], [], .ret, [(4, .sl 1001 0 2 0 true), (5, i6 0)], some lhc64⟩
noncomputable def tab15 : Tab := tabQ hy15 lfd61 lfd62 lfd63 lfc64
theorem run15 (e : Nat) : Go.AX.okB (call tab15 9000 3 [.x 0, .x 1] ⟨H0 e , 2, 0, 0⟩) = true := by kernel_rfl
noncomputable def nu15 (n : Int) (body : Int) : List Value := pn3 n body ++ [St' (AL3 body), St' ([] : LB), .int .u8 (bt (AL3 body) 0), .int .i64 (((AL3 body).length : Int)), .int .i64 (n), St' ((AL3 body) ++ [u8 120]), .int .i64 (((AL3 body).length : Int) + 1), .int .i64 (n % (((AL3 body).length : Int) + 1)), .int .i64 ((n % (((AL3 body).length : Int) + 1)) + 1), St' (TT3 body 1 (NN3 n body)), St' (RR3 body 1 (NN3 n body)), .int .u8 (bt (TT3 body 1 (NN3 n body)) 0), .int .i64 (((TT3 body 1 (NN3 n body)).length : Int)), St' ((RR3 body 1 (NN3 n body)) ++ abS), St' ([] : LB), .int .u8 (bt ((RR3 body 1 (NN3 n body)) ++ abS) 0), .int .i64 ((((RR3 body 1 (NN3 n body)) ++ abS).length : Int)), St' ((TT3 body 1 (NN3 n body)) ++ ((RR3 body 1 (NN3 n body)) ++ abS)), St' ((TT3 body 1 (NN3 n body)) ++ ((RR3 body 1 (NN3 n body)) ++ abS))]
theorem one15 (n : Int) (body : Int) : ∀ j, j < 1000000 → (nuL (nu15 n body) j).oneCell' = true := fun j _ => nuL_one (l := nu15 n body) rfl j
theorem path15 (n : Int) (body : Int) (b0 : 0 ≤ n) (b1 : n ≤ 65535) (b2 : 0 ≤ body) (b3 : body ≤ 65535) (h0 : 512 < (body % 3000)) (h1 : 512 < (body % 3000) - 512) (h2 : ¬ (512 < (body % 3000) - 1024)) (h5 : (NN3 n body) ≤ LC3 body 1) (w : World) (hl : laidE w) : CwR 3 #[.int .u16 n, .int .u16 body] w (.bool true) := by
  have hn0 : ([] : LB).length = 0 := rfl
  have hAL := al3 body (by omega)
  have := em3 n body
  have hNN : NN3 n body = (n % (((AL3 body).length : Int) + 1)) + 1 := rfl
  have hL0 := lc3 body
  have hjk := jk3 body 1 (NN3 n body) (by decide) (fun _ => by show LC3 body 0 < (NN3 n body); omega) (.inl (by assumption))
  have hTT := tt3 body (by omega) 1 (NN3 n body) (by omega) hjk
  have ho : ∀ k r, (k, r) ∈ hy15 → HOk (cx (nuL (nu15 n body)) (one15 n body) 1 laidE laidE_stab) k r := by
    unfold hy15
    exact hc (rm3 rfl rfl (by omega)) <|
     hc (cvV tu3 rfl rfl (by omega)) <|
     hc (kZer (isX rfl) (by omega) (by omega) (denX rfl)) <|
     hc (lnR rfl rfl (by omega)) <|
     hc (gtcT rfl (by omega)) <|
     hc (rT rfl (by omega) rfl) <|
     hc (l512 rfl) <|
     hc (rD rfl rfl (by omega)) <|
     hc (lnR rfl rfl (by omega)) <|
     hc (gtcT rfl (by omega)) <|
     hc (rT rfl (by omega) rfl) <|
     hc (rD rfl rfl (by omega)) <|
     hc (lnR rfl rfl (by omega)) <|
     hc (gtcF rfl (by omega)) <|
     hc (neZ rfl (by omega)) <|
     hc (kMax (isX rfl) (isZ (m := 0) rfl) (denX rfl) (by omega)) <|
     hc (ngV rfl rfl (by omega)) <|
     hc (aG rfl rfl (by omega)) <|
     hc (byC rfl rfl (by omega)) <|
     hc (lnV rfl rfl (by omega)) <|
     hc (ftV rfl (by omega)) <|
     hc (cvV tu3 rfl rfl (by omega)) <|
     hc (c120 rfl rfl (by omega)) <|
     hc (l120 rfl rfl) <|
     hc (rmV rfl rfl rfl (by omega)) <|
     hc (adC rfl rfl (by omega)) <|
     hc (byC rfl rfl (by omega)) <|
     hc (lnV rfl rfl (by omega)) <|
     hc (ftV rfl (by omega)) <|
     hc (byC rfl rfl (by omega)) <|
     hc (lnV rfl rfl (by omega)) <|
     hc (ftV rfl (by omega)) <|
     hc (ctV rfl rfl rfl (by omega)) <|
     hc (ct0 rfl rfl (by first | omega | (rw [List.length_append]; omega) | (simp <;> omega))) <|
     hnil
  exact finQ (nu := nuL (nu15 n body)) (one := one15 n body) rfl rfl ho run15 rfl rfl (dW3 (l := lfd61) (h := lhd61) body (by omega) rfl (by kernel_rfl) (zi := 6) (ri := 9) (pi := 13) rfl rfl rfl (sg0 := [(100, 60), (102, 59), (103, 58)]) (t := 14) (rr := 15) (by kernel_rfl) rfl rfl (by kernel_rfl)) rfl rfl (dD3 (l := lfd62) (h := lhd62) body (by omega) (NN3 n body) (by omega) (by omega) 1 hjk rfl (by kernel_rfl) (ni := 22) rfl (zi := 6) (ri := 9) (pi := 13) rfl rfl rfl (sg0 := [(320, 290), (322, 30), (323, 29)]) (t := 23) (rr := 24) (by kernel_rfl) rfl rfl (by kernel_rfl)) rfl rfl (dF (l := lfd63) (h := lhd63) (RR3 body 1 (NN3 n body)) (by omega) rfl (by kernel_rfl) (ri := 24) (t := 27) (rr := 28) (sg0 := [(700, 561), (702, 322), (703, 548)]) rfl (by kernel_rfl) rfl rfl (by kernel_rfl)) rfl rfl (cC3 (l := lfc64) (h := lhc64) body (by omega) 1 2 (by decide) rfl c3_1 rfl (by kernel_rfl) (xs := 32) (sg0 := [(1000, 890)]) rfl (cJ3 body 1 (NN3 n body) rfl) (by kernel_rfl) (thx := []) (thc0) (by kernel_rfl)) w hl
def hy16 : LK := hp3 ++ [(.byt (.x 14) (i6 0), .x 16), (.len (.x 14), .x 17), (.fit (.x 14), .b true), (.conv 3 (.x 0), .x 18), (.bin .add (.x 14) (.s 1 120), .x 19), (.len (.x 19), .x 20), (.bin .rem (.x 18) (.x 20), .x 21), (.bin .add (.x 21) (i6 1), .x 22), (.byt (.x 23) (i6 0), .x 25), (.len (.x 23), .x 26), (.fit (.x 23), .b true), (.byt (.x 27) (i6 0), .x 29), (.len (.x 27), .x 30), (.fit (.x 27), .b true), (.bin .add (.x 23) (.x 27), .x 31), (.bin .add (.s 0 0) (.x 31), .x 32)]
def lhd65 : LH := ⟨2, 100, 290, stG (.s 0 0) (.x 6) (.x 9) (.x 13) 33 31 32 59 58 3 0 ++ blD 60 0 0, stG (.x 15) (.x 6) (.x 9) (.x 13) 33 31 32 102 103 3 6 ++ blT 100 101 14⟩
def lfd65 : LF := ⟨2, 47, [(0, .p 33 0), (1, i6 1000000), (5, .p 60 0)], [], .exit 0, [(5, .p 100 0)], some lhd65⟩
def lhd66 : LH := ⟨2, 320, 510, stG (.s 0 0) (.x 6) (.x 9) (.x 13) 4 2 3 30 29 3 0 ++ blD 290 0 0, stG (.x 24) (.x 6) (.x 9) (.x 13) 4 2 3 322 323 3 2 ++ blT 320 321 23⟩
def lfd66 : LF := ⟨2, 47, [(0, .p 4 0), (1, .x 22), (5, .p 290 0)], [], .exit 0, [(5, .p 320 0)], some lhd66⟩
def lhd67 : LH := ⟨2, 700, 890, stH (.x 24) (.sl 552 0 1 0 true) 322 548 0 ++ blD 561 0 0, stH (.x 28) (.sl 552 0 1 0 true) 702 703 1 ++ blT 700 701 27⟩
def lfd67 : LF := ⟨2, 47, [(0, .p 4 0), (1, i6 1000000), (5, .p 561 0)], [], .exit 0, [(5, .p 700 0)], some lhd67⟩
def lhc68 : LH := ⟨2, 1000, 1060, [(890, .b ⟨79, .l [i6 65535, .x 32, .b false], 0, 0, 0, false, false⟩)], [rowK .und .und .und (ksT 3 2)]⟩
def lfc68 : LF := ⟨5, 87, [(0, .p 890 0), (6, .nils)], [], .ret, [(4, .sl 1001 0 3 0 true), (5, i6 0)], some lhc68⟩
noncomputable def tab16 : Tab := tabQ hy16 lfd65 lfd66 lfd67 lfc68
theorem run16 (e : Nat) : Go.AX.okB (call tab16 9000 3 [.x 0, .x 1] ⟨H0 e , 2, 0, 0⟩) = true := by kernel_rfl
noncomputable def nu16 (n : Int) (body : Int) : List Value := pn3 n body ++ [St' (AL3 body), St' ([] : LB), .int .u8 (bt (AL3 body) 0), .int .i64 (((AL3 body).length : Int)), .int .i64 (n), St' ((AL3 body) ++ [u8 120]), .int .i64 (((AL3 body).length : Int) + 1), .int .i64 (n % (((AL3 body).length : Int) + 1)), .int .i64 ((n % (((AL3 body).length : Int) + 1)) + 1), St' (TT3 body 2 (NN3 n body)), St' (RR3 body 2 (NN3 n body)), .int .u8 (bt (TT3 body 2 (NN3 n body)) 0), .int .i64 (((TT3 body 2 (NN3 n body)).length : Int)), St' ((RR3 body 2 (NN3 n body)) ++ abS), St' ([] : LB), .int .u8 (bt ((RR3 body 2 (NN3 n body)) ++ abS) 0), .int .i64 ((((RR3 body 2 (NN3 n body)) ++ abS).length : Int)), St' ((TT3 body 2 (NN3 n body)) ++ ((RR3 body 2 (NN3 n body)) ++ abS)), St' ((TT3 body 2 (NN3 n body)) ++ ((RR3 body 2 (NN3 n body)) ++ abS))]
theorem one16 (n : Int) (body : Int) : ∀ j, j < 1000000 → (nuL (nu16 n body) j).oneCell' = true := fun j _ => nuL_one (l := nu16 n body) rfl j
theorem path16 (n : Int) (body : Int) (b0 : 0 ≤ n) (b1 : n ≤ 65535) (b2 : 0 ≤ body) (b3 : body ≤ 65535) (h0 : 512 < (body % 3000)) (h1 : 512 < (body % 3000) - 512) (h2 : ¬ (512 < (body % 3000) - 1024)) (h5 : ¬ ((NN3 n body) ≤ LC3 body 1)) (h6 : (NN3 n body) ≤ LC3 body 2) (w : World) (hl : laidE w) : CwR 3 #[.int .u16 n, .int .u16 body] w (.bool true) := by
  have hn0 : ([] : LB).length = 0 := rfl
  have hAL := al3 body (by omega)
  have := em3 n body
  have hNN : NN3 n body = (n % (((AL3 body).length : Int) + 1)) + 1 := rfl
  have hjk := jk3 body 2 (NN3 n body) (by decide) (fun _ => by show LC3 body 1 < (NN3 n body); omega) (.inl (by assumption))
  have hTT := tt3 body (by omega) 2 (NN3 n body) (by omega) hjk
  have ho : ∀ k r, (k, r) ∈ hy16 → HOk (cx (nuL (nu16 n body)) (one16 n body) 1 laidE laidE_stab) k r := by
    unfold hy16
    exact hc (rm3 rfl rfl (by omega)) <|
     hc (cvV tu3 rfl rfl (by omega)) <|
     hc (kZer (isX rfl) (by omega) (by omega) (denX rfl)) <|
     hc (lnR rfl rfl (by omega)) <|
     hc (gtcT rfl (by omega)) <|
     hc (rT rfl (by omega) rfl) <|
     hc (l512 rfl) <|
     hc (rD rfl rfl (by omega)) <|
     hc (lnR rfl rfl (by omega)) <|
     hc (gtcT rfl (by omega)) <|
     hc (rT rfl (by omega) rfl) <|
     hc (rD rfl rfl (by omega)) <|
     hc (lnR rfl rfl (by omega)) <|
     hc (gtcF rfl (by omega)) <|
     hc (neZ rfl (by omega)) <|
     hc (kMax (isX rfl) (isZ (m := 0) rfl) (denX rfl) (by omega)) <|
     hc (ngV rfl rfl (by omega)) <|
     hc (aG rfl rfl (by omega)) <|
     hc (byC rfl rfl (by omega)) <|
     hc (lnV rfl rfl (by omega)) <|
     hc (ftV rfl (by omega)) <|
     hc (cvV tu3 rfl rfl (by omega)) <|
     hc (c120 rfl rfl (by omega)) <|
     hc (l120 rfl rfl) <|
     hc (rmV rfl rfl rfl (by omega)) <|
     hc (adC rfl rfl (by omega)) <|
     hc (byC rfl rfl (by omega)) <|
     hc (lnV rfl rfl (by omega)) <|
     hc (ftV rfl (by omega)) <|
     hc (byC rfl rfl (by omega)) <|
     hc (lnV rfl rfl (by omega)) <|
     hc (ftV rfl (by omega)) <|
     hc (ctV rfl rfl rfl (by omega)) <|
     hc (ct0 rfl rfl (by first | omega | (rw [List.length_append]; omega) | (simp <;> omega))) <|
     hnil
  exact finQ (nu := nuL (nu16 n body)) (one := one16 n body) rfl rfl ho run16 rfl rfl (dW3 (l := lfd65) (h := lhd65) body (by omega) rfl (by kernel_rfl) (zi := 6) (ri := 9) (pi := 13) rfl rfl rfl (sg0 := [(100, 60), (102, 59), (103, 58)]) (t := 14) (rr := 15) (by kernel_rfl) rfl rfl (by kernel_rfl)) rfl rfl (dD3 (l := lfd66) (h := lhd66) body (by omega) (NN3 n body) (by omega) (by omega) 2 hjk rfl (by kernel_rfl) (ni := 22) rfl (zi := 6) (ri := 9) (pi := 13) rfl rfl rfl (sg0 := [(320, 290), (322, 30), (323, 29)]) (t := 23) (rr := 24) (by kernel_rfl) rfl rfl (by kernel_rfl)) rfl rfl (dF (l := lfd67) (h := lhd67) (RR3 body 2 (NN3 n body)) (by omega) rfl (by kernel_rfl) (ri := 24) (t := 27) (rr := 28) (sg0 := [(700, 561), (702, 322), (703, 548)]) rfl (by kernel_rfl) rfl rfl (by kernel_rfl)) rfl rfl (cC3 (l := lfc68) (h := lhc68) body (by omega) 2 3 (by decide) rfl c3_2 rfl (by kernel_rfl) (xs := 32) (sg0 := [(1000, 890)]) rfl (cJ3 body 2 (NN3 n body) rfl) (by kernel_rfl) (thx := []) (thc0) (by kernel_rfl)) w hl
def hy17 : LK := hp3 ++ [(.byt (.x 14) (i6 0), .x 16), (.len (.x 14), .x 17), (.fit (.x 14), .b true), (.conv 3 (.x 0), .x 18), (.bin .add (.x 14) (.s 1 120), .x 19), (.len (.x 19), .x 20), (.bin .rem (.x 18) (.x 20), .x 21), (.bin .add (.x 21) (i6 1), .x 22), (.byt (.x 23) (i6 0), .x 25), (.len (.x 23), .x 26), (.fit (.x 23), .b true), (.byt (.x 27) (i6 0), .x 29), (.len (.x 27), .x 30), (.fit (.x 27), .b true), (.bin .add (.x 23) (.x 27), .x 31), (.bin .add (.s 0 0) (.x 31), .x 32), (.bin .add (.s 0 0) (.x 6), .x 6), (.bin .eql (.x 6) (.s 0 0), .b false)]
def lhd69 : LH := ⟨2, 100, 290, stG (.s 0 0) (.x 6) (.x 9) (.x 13) 33 31 32 59 58 3 0 ++ blD 60 0 0, stG (.x 15) (.x 6) (.x 9) (.x 13) 33 31 32 102 103 3 6 ++ blT 100 101 14⟩
def lfd69 : LF := ⟨2, 47, [(0, .p 33 0), (1, i6 1000000), (5, .p 60 0)], [], .exit 0, [(5, .p 100 0)], some lhd69⟩
def lhd70 : LH := ⟨2, 320, 510, stG (.s 0 0) (.x 6) (.x 9) (.x 13) 4 2 3 30 29 3 0 ++ blD 290 0 0, stG (.x 24) (.x 6) (.x 9) (.x 13) 4 2 3 322 323 3 3 ++ blT 320 321 23⟩
def lfd70 : LF := ⟨2, 47, [(0, .p 4 0), (1, .x 22), (5, .p 290 0)], [], .exit 0, [(5, .p 320 0)], some lhd70⟩
def lhd71 : LH := ⟨2, 700, 890, stH (.x 24) (.sl 552 0 1 0 true) 322 548 0 ++ blD 561 0 0, stH (.x 28) (.sl 552 0 1 0 true) 702 703 1 ++ blT 700 701 27⟩
def lfd71 : LF := ⟨2, 47, [(0, .p 4 0), (1, i6 1000000), (5, .p 561 0)], [], .exit 0, [(5, .p 700 0)], some lhd71⟩
def lhc72 : LH := ⟨2, 1000, 1060, [(890, .b ⟨79, .l [i6 65535, .x 32, .b false], 0, 0, 0, false, false⟩)], [rowK (.x 6) .und .und (ksT 3 3)]⟩
def lfc72 : LF := ⟨5, 87, [(0, .p 890 0), (6, .nils)], [], .ret, [(4, .sl 1001 0 4 0 true), (5, i6 0)], some lhc72⟩
noncomputable def tab17 : Tab := tabQ hy17 lfd69 lfd70 lfd71 lfc72
theorem run17 (e : Nat) : Go.AX.okB (call tab17 9000 3 [.x 0, .x 1] ⟨H0 e , 2, 0, 0⟩) = true := by kernel_rfl
noncomputable def nu17 (n : Int) (body : Int) : List Value := pn3 n body ++ [St' (AL3 body), St' ([] : LB), .int .u8 (bt (AL3 body) 0), .int .i64 (((AL3 body).length : Int)), .int .i64 (n), St' ((AL3 body) ++ [u8 120]), .int .i64 (((AL3 body).length : Int) + 1), .int .i64 (n % (((AL3 body).length : Int) + 1)), .int .i64 ((n % (((AL3 body).length : Int) + 1)) + 1), St' (TT3 body 3 (NN3 n body)), St' (RR3 body 3 (NN3 n body)), .int .u8 (bt (TT3 body 3 (NN3 n body)) 0), .int .i64 (((TT3 body 3 (NN3 n body)).length : Int)), St' ((RR3 body 3 (NN3 n body)) ++ abS), St' ([] : LB), .int .u8 (bt ((RR3 body 3 (NN3 n body)) ++ abS) 0), .int .i64 ((((RR3 body 3 (NN3 n body)) ++ abS).length : Int)), St' ((TT3 body 3 (NN3 n body)) ++ ((RR3 body 3 (NN3 n body)) ++ abS)), St' ((TT3 body 3 (NN3 n body)) ++ ((RR3 body 3 (NN3 n body)) ++ abS))]
theorem one17 (n : Int) (body : Int) : ∀ j, j < 1000000 → (nuL (nu17 n body) j).oneCell' = true := fun j _ => nuL_one (l := nu17 n body) rfl j
theorem path17 (n : Int) (body : Int) (b0 : 0 ≤ n) (b1 : n ≤ 65535) (b2 : 0 ≤ body) (b3 : body ≤ 65535) (h0 : 512 < (body % 3000)) (h1 : 512 < (body % 3000) - 512) (h2 : ¬ (512 < (body % 3000) - 1024)) (h5 : ¬ ((NN3 n body) ≤ LC3 body 1)) (h6 : ¬ ((NN3 n body) ≤ LC3 body 2)) (h7 : (NN3 n body) ≤ LC3 body 3) (w : World) (hl : laidE w) : CwR 3 #[.int .u16 n, .int .u16 body] w (.bool true) := by
  have hn0 : ([] : LB).length = 0 := rfl
  have hAL := al3 body (by omega)
  have := em3 n body
  have hNN : NN3 n body = (n % (((AL3 body).length : Int) + 1)) + 1 := rfl
  have hjk := jk3 body 3 (NN3 n body) (by decide) (fun _ => by show LC3 body 2 < (NN3 n body); omega) (.inl (by assumption))
  have hTT := tt3 body (by omega) 3 (NN3 n body) (by omega) hjk
  have ho : ∀ k r, (k, r) ∈ hy17 → HOk (cx (nuL (nu17 n body)) (one17 n body) 1 laidE laidE_stab) k r := by
    unfold hy17
    exact hc (rm3 rfl rfl (by omega)) <|
     hc (cvV tu3 rfl rfl (by omega)) <|
     hc (kZer (isX rfl) (by omega) (by omega) (denX rfl)) <|
     hc (lnR rfl rfl (by omega)) <|
     hc (gtcT rfl (by omega)) <|
     hc (rT rfl (by omega) rfl) <|
     hc (l512 rfl) <|
     hc (rD rfl rfl (by omega)) <|
     hc (lnR rfl rfl (by omega)) <|
     hc (gtcT rfl (by omega)) <|
     hc (rT rfl (by omega) rfl) <|
     hc (rD rfl rfl (by omega)) <|
     hc (lnR rfl rfl (by omega)) <|
     hc (gtcF rfl (by omega)) <|
     hc (neZ rfl (by omega)) <|
     hc (kMax (isX rfl) (isZ (m := 0) rfl) (denX rfl) (by omega)) <|
     hc (ngV rfl rfl (by omega)) <|
     hc (aG rfl rfl (by omega)) <|
     hc (byC rfl rfl (by omega)) <|
     hc (lnV rfl rfl (by omega)) <|
     hc (ftV rfl (by omega)) <|
     hc (cvV tu3 rfl rfl (by omega)) <|
     hc (c120 rfl rfl (by omega)) <|
     hc (l120 rfl rfl) <|
     hc (rmV rfl rfl rfl (by omega)) <|
     hc (adC rfl rfl (by omega)) <|
     hc (byC rfl rfl (by omega)) <|
     hc (lnV rfl rfl (by omega)) <|
     hc (ftV rfl (by omega)) <|
     hc (byC rfl rfl (by omega)) <|
     hc (lnV rfl rfl (by omega)) <|
     hc (ftV rfl (by omega)) <|
     hc (ctV rfl rfl rfl (by omega)) <|
     hc (ct0 rfl rfl (by first | omega | (rw [List.length_append]; omega) | (simp <;> omega))) <|
     hc (ct0 rfl rfl (by first | omega | (rw [List.length_append]; omega) | (simp <;> omega))) <|
     hc (eqZ rfl (by omega)) <|
     hnil
  exact finQ (nu := nuL (nu17 n body)) (one := one17 n body) rfl rfl ho run17 rfl rfl (dW3 (l := lfd69) (h := lhd69) body (by omega) rfl (by kernel_rfl) (zi := 6) (ri := 9) (pi := 13) rfl rfl rfl (sg0 := [(100, 60), (102, 59), (103, 58)]) (t := 14) (rr := 15) (by kernel_rfl) rfl rfl (by kernel_rfl)) rfl rfl (dD3 (l := lfd70) (h := lhd70) body (by omega) (NN3 n body) (by omega) (by omega) 3 hjk rfl (by kernel_rfl) (ni := 22) rfl (zi := 6) (ri := 9) (pi := 13) rfl rfl rfl (sg0 := [(320, 290), (322, 30), (323, 29)]) (t := 23) (rr := 24) (by kernel_rfl) rfl rfl (by kernel_rfl)) rfl rfl (dF (l := lfd71) (h := lhd71) (RR3 body 3 (NN3 n body)) (by omega) rfl (by kernel_rfl) (ri := 24) (t := 27) (rr := 28) (sg0 := [(700, 561), (702, 322), (703, 548)]) rfl (by kernel_rfl) rfl rfl (by kernel_rfl)) rfl rfl (cC3 (l := lfc72) (h := lhc72) body (by omega) 3 4 (by decide) rfl c3_3 rfl (by kernel_rfl) (xs := 32) (sg0 := [(1000, 890)]) rfl (cJ3 body 3 (NN3 n body) rfl) (by kernel_rfl) (thx := [(6, .x 20)]) (thc1 rfl) (by kernel_rfl)) w hl
def hy18 : LK := hp3 ++ [(.byt (.x 14) (i6 0), .x 16), (.len (.x 14), .x 17), (.fit (.x 14), .b true), (.conv 3 (.x 0), .x 18), (.bin .add (.x 14) (.s 1 120), .x 19), (.len (.x 19), .x 20), (.bin .rem (.x 18) (.x 20), .x 21), (.bin .add (.x 21) (i6 1), .x 22), (.byt (.x 23) (i6 0), .x 25), (.len (.x 23), .x 26), (.fit (.x 23), .b true), (.byt (.x 27) (i6 0), .x 29), (.len (.x 27), .x 30), (.fit (.x 27), .b true), (.bin .add (.x 23) (.x 27), .x 31), (.bin .add (.s 0 0) (.x 31), .x 32), (.bin .add (.s 0 0) (.x 6), .x 6), (.bin .eql (.x 6) (.s 0 0), .b false), (.bin .add (.x 6) (.x 6), .x 33)]
def lhd73 : LH := ⟨2, 100, 290, stG (.s 0 0) (.x 6) (.x 9) (.x 13) 33 31 32 59 58 3 0 ++ blD 60 0 0, stG (.x 15) (.x 6) (.x 9) (.x 13) 33 31 32 102 103 3 6 ++ blT 100 101 14⟩
def lfd73 : LF := ⟨2, 47, [(0, .p 33 0), (1, i6 1000000), (5, .p 60 0)], [], .exit 0, [(5, .p 100 0)], some lhd73⟩
def lhd74 : LH := ⟨2, 320, 510, stG (.s 0 0) (.x 6) (.x 9) (.x 13) 4 2 3 30 29 3 0 ++ blD 290 0 0, stG (.x 24) (.x 6) (.x 9) (.x 13) 4 2 3 322 323 3 4 ++ blT 320 321 23⟩
def lfd74 : LF := ⟨2, 47, [(0, .p 4 0), (1, .x 22), (5, .p 290 0)], [], .exit 0, [(5, .p 320 0)], some lhd74⟩
def lhd75 : LH := ⟨2, 700, 890, stH (.x 24) (.sl 552 0 1 0 true) 322 548 0 ++ blD 561 0 0, stH (.x 28) (.sl 552 0 1 0 true) 702 703 1 ++ blT 700 701 27⟩
def lfd75 : LF := ⟨2, 47, [(0, .p 4 0), (1, i6 1000000), (5, .p 561 0)], [], .exit 0, [(5, .p 700 0)], some lhd75⟩
def lhc76 : LH := ⟨2, 1000, 1060, [(890, .b ⟨79, .l [i6 65535, .x 32, .b false], 0, 0, 0, false, false⟩)], [rowK (.x 6) .und .und (ksT 3 4)]⟩
def lfc76 : LF := ⟨5, 87, [(0, .p 890 0), (6, .nils)], [], .ret, [(4, .sl 1001 0 5 0 true), (5, i6 0)], some lhc76⟩
noncomputable def tab18 : Tab := tabQ hy18 lfd73 lfd74 lfd75 lfc76
theorem run18 (e : Nat) : Go.AX.okB (call tab18 9000 3 [.x 0, .x 1] ⟨H0 e , 2, 0, 0⟩) = true := by kernel_rfl
noncomputable def nu18 (n : Int) (body : Int) : List Value := pn3 n body ++ [St' (AL3 body), St' ([] : LB), .int .u8 (bt (AL3 body) 0), .int .i64 (((AL3 body).length : Int)), .int .i64 (n), St' ((AL3 body) ++ [u8 120]), .int .i64 (((AL3 body).length : Int) + 1), .int .i64 (n % (((AL3 body).length : Int) + 1)), .int .i64 ((n % (((AL3 body).length : Int) + 1)) + 1), St' (TT3 body 4 (NN3 n body)), St' (RR3 body 4 (NN3 n body)), .int .u8 (bt (TT3 body 4 (NN3 n body)) 0), .int .i64 (((TT3 body 4 (NN3 n body)).length : Int)), St' ((RR3 body 4 (NN3 n body)) ++ abS), St' ([] : LB), .int .u8 (bt ((RR3 body 4 (NN3 n body)) ++ abS) 0), .int .i64 ((((RR3 body 4 (NN3 n body)) ++ abS).length : Int)), St' ((TT3 body 4 (NN3 n body)) ++ ((RR3 body 4 (NN3 n body)) ++ abS)), St' ((TT3 body 4 (NN3 n body)) ++ ((RR3 body 4 (NN3 n body)) ++ abS)), St' ((List.replicate (Int.toNat (512)) 0) ++ (List.replicate (Int.toNat (512)) 0))]
theorem one18 (n : Int) (body : Int) : ∀ j, j < 1000000 → (nuL (nu18 n body) j).oneCell' = true := fun j _ => nuL_one (l := nu18 n body) rfl j
theorem path18 (n : Int) (body : Int) (b0 : 0 ≤ n) (b1 : n ≤ 65535) (b2 : 0 ≤ body) (b3 : body ≤ 65535) (h0 : 512 < (body % 3000)) (h1 : 512 < (body % 3000) - 512) (h2 : ¬ (512 < (body % 3000) - 1024)) (h5 : ¬ ((NN3 n body) ≤ LC3 body 1)) (h6 : ¬ ((NN3 n body) ≤ LC3 body 2)) (h7 : ¬ ((NN3 n body) ≤ LC3 body 3)) (h8 : (NN3 n body) ≤ LC3 body 4) (w : World) (hl : laidE w) : CwR 3 #[.int .u16 n, .int .u16 body] w (.bool true) := by
  have hn0 : ([] : LB).length = 0 := rfl
  have hAL := al3 body (by omega)
  have := em3 n body
  have hNN : NN3 n body = (n % (((AL3 body).length : Int) + 1)) + 1 := rfl
  have hjk := jk3 body 4 (NN3 n body) (by decide) (fun _ => by show LC3 body 3 < (NN3 n body); omega) (.inl (by assumption))
  have hTT := tt3 body (by omega) 4 (NN3 n body) (by omega) hjk
  have ho : ∀ k r, (k, r) ∈ hy18 → HOk (cx (nuL (nu18 n body)) (one18 n body) 1 laidE laidE_stab) k r := by
    unfold hy18
    exact hc (rm3 rfl rfl (by omega)) <|
     hc (cvV tu3 rfl rfl (by omega)) <|
     hc (kZer (isX rfl) (by omega) (by omega) (denX rfl)) <|
     hc (lnR rfl rfl (by omega)) <|
     hc (gtcT rfl (by omega)) <|
     hc (rT rfl (by omega) rfl) <|
     hc (l512 rfl) <|
     hc (rD rfl rfl (by omega)) <|
     hc (lnR rfl rfl (by omega)) <|
     hc (gtcT rfl (by omega)) <|
     hc (rT rfl (by omega) rfl) <|
     hc (rD rfl rfl (by omega)) <|
     hc (lnR rfl rfl (by omega)) <|
     hc (gtcF rfl (by omega)) <|
     hc (neZ rfl (by omega)) <|
     hc (kMax (isX rfl) (isZ (m := 0) rfl) (denX rfl) (by omega)) <|
     hc (ngV rfl rfl (by omega)) <|
     hc (aG rfl rfl (by omega)) <|
     hc (byC rfl rfl (by omega)) <|
     hc (lnV rfl rfl (by omega)) <|
     hc (ftV rfl (by omega)) <|
     hc (cvV tu3 rfl rfl (by omega)) <|
     hc (c120 rfl rfl (by omega)) <|
     hc (l120 rfl rfl) <|
     hc (rmV rfl rfl rfl (by omega)) <|
     hc (adC rfl rfl (by omega)) <|
     hc (byC rfl rfl (by omega)) <|
     hc (lnV rfl rfl (by omega)) <|
     hc (ftV rfl (by omega)) <|
     hc (byC rfl rfl (by omega)) <|
     hc (lnV rfl rfl (by omega)) <|
     hc (ftV rfl (by omega)) <|
     hc (ctV rfl rfl rfl (by omega)) <|
     hc (ct0 rfl rfl (by first | omega | (rw [List.length_append]; omega) | (simp <;> omega))) <|
     hc (ct0 rfl rfl (by first | omega | (rw [List.length_append]; omega) | (simp <;> omega))) <|
     hc (eqZ rfl (by omega)) <|
     hc (kCat (isX rfl) (isX rfl) (denX rfl) (by first | rfl | (simp; done)) (by first | omega | (simp <;> omega))) <|
     hnil
  exact finQ (nu := nuL (nu18 n body)) (one := one18 n body) rfl rfl ho run18 rfl rfl (dW3 (l := lfd73) (h := lhd73) body (by omega) rfl (by kernel_rfl) (zi := 6) (ri := 9) (pi := 13) rfl rfl rfl (sg0 := [(100, 60), (102, 59), (103, 58)]) (t := 14) (rr := 15) (by kernel_rfl) rfl rfl (by kernel_rfl)) rfl rfl (dD3 (l := lfd74) (h := lhd74) body (by omega) (NN3 n body) (by omega) (by omega) 4 hjk rfl (by kernel_rfl) (ni := 22) rfl (zi := 6) (ri := 9) (pi := 13) rfl rfl rfl (sg0 := [(320, 290), (322, 30), (323, 29)]) (t := 23) (rr := 24) (by kernel_rfl) rfl rfl (by kernel_rfl)) rfl rfl (dF (l := lfd75) (h := lhd75) (RR3 body 4 (NN3 n body)) (by omega) rfl (by kernel_rfl) (ri := 24) (t := 27) (rr := 28) (sg0 := [(700, 561), (702, 322), (703, 548)]) rfl (by kernel_rfl) rfl rfl (by kernel_rfl)) rfl rfl (cC3 (l := lfc76) (h := lhc76) body (by omega) 4 5 (by decide) rfl c3_4 rfl (by kernel_rfl) (xs := 32) (sg0 := [(1000, 890)]) rfl (cJ3 body 4 (NN3 n body) rfl) (by kernel_rfl) (thx := [(6, .x 20)]) (thc1 rfl) (by kernel_rfl)) w hl
def hy19 : LK := hp3 ++ [(.byt (.x 14) (i6 0), .x 16), (.len (.x 14), .x 17), (.fit (.x 14), .b true), (.conv 3 (.x 0), .x 18), (.bin .add (.x 14) (.s 1 120), .x 19), (.len (.x 19), .x 20), (.bin .rem (.x 18) (.x 20), .x 21), (.bin .add (.x 21) (i6 1), .x 22), (.byt (.x 23) (i6 0), .x 25), (.len (.x 23), .x 26), (.fit (.x 23), .b true), (.byt (.x 27) (i6 0), .x 29), (.len (.x 27), .x 30), (.fit (.x 27), .b true), (.bin .add (.x 23) (.x 27), .x 31), (.bin .add (.s 0 0) (.x 31), .x 32), (.bin .add (.s 0 0) (.x 6), .x 6), (.bin .eql (.x 6) (.s 0 0), .b false), (.bin .add (.x 6) (.x 6), .x 33), (.bin .add (.x 33) (.x 9), .x 34), (.bin .eql (.x 9) (.s 0 0), .b false)]
def lhd77 : LH := ⟨2, 100, 290, stG (.s 0 0) (.x 6) (.x 9) (.x 13) 33 31 32 59 58 3 0 ++ blD 60 0 0, stG (.x 15) (.x 6) (.x 9) (.x 13) 33 31 32 102 103 3 6 ++ blT 100 101 14⟩
def lfd77 : LF := ⟨2, 47, [(0, .p 33 0), (1, i6 1000000), (5, .p 60 0)], [], .exit 0, [(5, .p 100 0)], some lhd77⟩
def lhd78 : LH := ⟨2, 320, 510, stG (.s 0 0) (.x 6) (.x 9) (.x 13) 4 2 3 30 29 3 0 ++ blD 290 0 0, stG (.x 24) (.x 6) (.x 9) (.x 13) 4 2 3 322 323 3 5 ++ blT 320 321 23⟩
def lfd78 : LF := ⟨2, 47, [(0, .p 4 0), (1, .x 22), (5, .p 290 0)], [], .exit 0, [(5, .p 320 0)], some lhd78⟩
def lhd79 : LH := ⟨2, 700, 890, stH (.x 24) (.sl 552 0 1 0 true) 322 548 0 ++ blD 561 0 0, stH (.x 28) (.sl 552 0 1 0 true) 702 703 1 ++ blT 700 701 27⟩
def lfd79 : LF := ⟨2, 47, [(0, .p 4 0), (1, i6 1000000), (5, .p 561 0)], [], .exit 0, [(5, .p 700 0)], some lhd79⟩
def lhc80 : LH := ⟨2, 1000, 1060, [(890, .b ⟨79, .l [i6 65535, .x 32, .b false], 0, 0, 0, false, false⟩)], [rowK (.x 6) (.x 9) (.x 13) (ksT 3 5)]⟩
def lfc80 : LF := ⟨5, 87, [(0, .p 890 0), (6, .nils)], [], .ret, [(4, .sl 1001 0 6 0 true), (5, i6 0)], some lhc80⟩
noncomputable def tab19 : Tab := tabQ hy19 lfd77 lfd78 lfd79 lfc80
theorem run19 (e : Nat) : Go.AX.okB (call tab19 9000 3 [.x 0, .x 1] ⟨H0 e , 2, 0, 0⟩) = true := by kernel_rfl
noncomputable def nu19 (n : Int) (body : Int) : List Value := pn3 n body ++ [St' (AL3 body), St' ([] : LB), .int .u8 (bt (AL3 body) 0), .int .i64 (((AL3 body).length : Int)), .int .i64 (n), St' ((AL3 body) ++ [u8 120]), .int .i64 (((AL3 body).length : Int) + 1), .int .i64 (n % (((AL3 body).length : Int) + 1)), .int .i64 ((n % (((AL3 body).length : Int) + 1)) + 1), St' (TT3 body 5 (NN3 n body)), St' (RR3 body 5 (NN3 n body)), .int .u8 (bt (TT3 body 5 (NN3 n body)) 0), .int .i64 (((TT3 body 5 (NN3 n body)).length : Int)), St' ((RR3 body 5 (NN3 n body)) ++ abS), St' ([] : LB), .int .u8 (bt ((RR3 body 5 (NN3 n body)) ++ abS) 0), .int .i64 ((((RR3 body 5 (NN3 n body)) ++ abS).length : Int)), St' ((TT3 body 5 (NN3 n body)) ++ ((RR3 body 5 (NN3 n body)) ++ abS)), St' ((TT3 body 5 (NN3 n body)) ++ ((RR3 body 5 (NN3 n body)) ++ abS)), St' ((List.replicate (Int.toNat (512)) 0) ++ (List.replicate (Int.toNat (512)) 0)), St' ((List.replicate (Int.toNat (512)) 0) ++ ((List.replicate (Int.toNat (512)) 0) ++ (List.replicate (Int.toNat ((body % 3000) - 1024)) 0)))]
theorem one19 (n : Int) (body : Int) : ∀ j, j < 1000000 → (nuL (nu19 n body) j).oneCell' = true := fun j _ => nuL_one (l := nu19 n body) rfl j
theorem path19 (n : Int) (body : Int) (b0 : 0 ≤ n) (b1 : n ≤ 65535) (b2 : 0 ≤ body) (b3 : body ≤ 65535) (h0 : 512 < (body % 3000)) (h1 : 512 < (body % 3000) - 512) (h2 : ¬ (512 < (body % 3000) - 1024)) (h5 : ¬ ((NN3 n body) ≤ LC3 body 1)) (h6 : ¬ ((NN3 n body) ≤ LC3 body 2)) (h7 : ¬ ((NN3 n body) ≤ LC3 body 3)) (h8 : ¬ ((NN3 n body) ≤ LC3 body 4)) (h9 : (NN3 n body) ≤ LC3 body 5) (w : World) (hl : laidE w) : CwR 3 #[.int .u16 n, .int .u16 body] w (.bool true) := by
  have hn0 : ([] : LB).length = 0 := rfl
  have hAL := al3 body (by omega)
  have := em3 n body
  have hNN : NN3 n body = (n % (((AL3 body).length : Int) + 1)) + 1 := rfl
  have hjk := jk3 body 5 (NN3 n body) (by decide) (fun _ => by show LC3 body 4 < (NN3 n body); omega) (.inl (by assumption))
  have hTT := tt3 body (by omega) 5 (NN3 n body) (by omega) hjk
  have ho : ∀ k r, (k, r) ∈ hy19 → HOk (cx (nuL (nu19 n body)) (one19 n body) 1 laidE laidE_stab) k r := by
    unfold hy19
    exact hc (rm3 rfl rfl (by omega)) <|
     hc (cvV tu3 rfl rfl (by omega)) <|
     hc (kZer (isX rfl) (by omega) (by omega) (denX rfl)) <|
     hc (lnR rfl rfl (by omega)) <|
     hc (gtcT rfl (by omega)) <|
     hc (rT rfl (by omega) rfl) <|
     hc (l512 rfl) <|
     hc (rD rfl rfl (by omega)) <|
     hc (lnR rfl rfl (by omega)) <|
     hc (gtcT rfl (by omega)) <|
     hc (rT rfl (by omega) rfl) <|
     hc (rD rfl rfl (by omega)) <|
     hc (lnR rfl rfl (by omega)) <|
     hc (gtcF rfl (by omega)) <|
     hc (neZ rfl (by omega)) <|
     hc (kMax (isX rfl) (isZ (m := 0) rfl) (denX rfl) (by omega)) <|
     hc (ngV rfl rfl (by omega)) <|
     hc (aG rfl rfl (by omega)) <|
     hc (byC rfl rfl (by omega)) <|
     hc (lnV rfl rfl (by omega)) <|
     hc (ftV rfl (by omega)) <|
     hc (cvV tu3 rfl rfl (by omega)) <|
     hc (c120 rfl rfl (by omega)) <|
     hc (l120 rfl rfl) <|
     hc (rmV rfl rfl rfl (by omega)) <|
     hc (adC rfl rfl (by omega)) <|
     hc (byC rfl rfl (by omega)) <|
     hc (lnV rfl rfl (by omega)) <|
     hc (ftV rfl (by omega)) <|
     hc (byC rfl rfl (by omega)) <|
     hc (lnV rfl rfl (by omega)) <|
     hc (ftV rfl (by omega)) <|
     hc (ctV rfl rfl rfl (by omega)) <|
     hc (ct0 rfl rfl (by first | omega | (rw [List.length_append]; omega) | (simp <;> omega))) <|
     hc (ct0 rfl rfl (by first | omega | (rw [List.length_append]; omega) | (simp <;> omega))) <|
     hc (eqZ rfl (by omega)) <|
     hc (kCat (isX rfl) (isX rfl) (denX rfl) (by first | rfl | (simp; done)) (by first | omega | (simp <;> omega))) <|
     hc (kCat (isX rfl) (isX rfl) (denX rfl) (by first | rfl | (simp; done)) (by first | omega | (simp <;> omega))) <|
     hc (eqZ rfl (by omega)) <|
     hnil
  exact finQ (nu := nuL (nu19 n body)) (one := one19 n body) rfl rfl ho run19 rfl rfl (dW3 (l := lfd77) (h := lhd77) body (by omega) rfl (by kernel_rfl) (zi := 6) (ri := 9) (pi := 13) rfl rfl rfl (sg0 := [(100, 60), (102, 59), (103, 58)]) (t := 14) (rr := 15) (by kernel_rfl) rfl rfl (by kernel_rfl)) rfl rfl (dD3 (l := lfd78) (h := lhd78) body (by omega) (NN3 n body) (by omega) (by omega) 5 hjk rfl (by kernel_rfl) (ni := 22) rfl (zi := 6) (ri := 9) (pi := 13) rfl rfl rfl (sg0 := [(320, 290), (322, 30), (323, 29)]) (t := 23) (rr := 24) (by kernel_rfl) rfl rfl (by kernel_rfl)) rfl rfl (dF (l := lfd79) (h := lhd79) (RR3 body 5 (NN3 n body)) (by omega) rfl (by kernel_rfl) (ri := 24) (t := 27) (rr := 28) (sg0 := [(700, 561), (702, 322), (703, 548)]) rfl (by kernel_rfl) rfl rfl (by kernel_rfl)) rfl rfl (cC3 (l := lfc80) (h := lhc80) body (by omega) 5 6 (by decide) rfl c3_5 rfl (by kernel_rfl) (xs := 32) (sg0 := [(1000, 890)]) rfl (cJ3 body 5 (NN3 n body) rfl) (by kernel_rfl) (thx := [(6, .x 20), (9, .x 21), (13, .x 22)]) (thc3 rfl rfl rfl) (by kernel_rfl)) w hl
end Go.Proofs.YtaihihejljcniaaGreatDoor.muxEarly
