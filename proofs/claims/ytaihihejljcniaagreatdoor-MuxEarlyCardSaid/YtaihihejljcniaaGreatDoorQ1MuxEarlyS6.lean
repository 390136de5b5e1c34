/- A part of the proof: an interpreter of the model's own code on partly known states, and that what it answers is what the program answers. No condition of its own. -/
import Derived.Test.YtaihihejljcniaaGreatDoorQ1MuxEarlyQ
set_option maxRecDepth 100000
set_option linter.unusedVariables false
set_option linter.unusedSimpArgs false
set_option maxHeartbeats 4000000
namespace Go.Proofs.YtaihihejljcniaaGreatDoor.muxEarly
open Go Go.AX Go.Proofs Go.Proofs.YtaihihejljcniaaGreatDoor
def hy30 : LK := hp5 ++ [(.byt (.x 18) (i6 0), .x 20), (.len (.x 18), .x 21), (.fit (.x 18), .b true), (.conv 3 (.x 0), .x 22), (.bin .add (.x 18) (.s 1 120), .x 23), (.len (.x 23), .x 24), (.bin .rem (.x 22) (.x 24), .x 25), (.bin .add (.x 25) (i6 1), .x 26), (.byt (.x 27) (i6 0), .x 29), (.len (.x 27), .x 30), (.fit (.x 27), .b true), (.byt (.x 31) (i6 0), .x 33), (.len (.x 31), .x 34), (.fit (.x 31), .b true), (.bin .add (.x 27) (.x 31), .x 35), (.bin .add (.s 0 0) (.x 35), .x 36)]
def lhd121 : LH := ⟨2, 100, 290, stG (.s 0 0) (.x 6) (.x 13) (.x 17) 39 37 38 71 70 5 0 ++ blD 72 0 0, stG (.x 19) (.x 6) (.x 13) (.x 17) 39 37 38 102 103 5 8 ++ blT 100 101 18⟩
def lfd121 : LF := ⟨2, 47, [(0, .p 39 0), (1, i6 1000000), (5, .p 72 0)], [], .exit 0, [(5, .p 100 0)], some lhd121⟩
def lhd122 : LH := ⟨2, 320, 510, stG (.s 0 0) (.x 6) (.x 13) (.x 17) 4 2 3 36 35 5 0 ++ blD 290 0 0, stG (.x 28) (.x 6) (.x 13) (.x 17) 4 2 3 322 323 5 1 ++ blT 320 321 27⟩
def lfd122 : LF := ⟨2, 47, [(0, .p 4 0), (1, .x 26), (5, .p 290 0)], [], .exit 0, [(5, .p 320 0)], some lhd122⟩
def lhd123 : LH := ⟨2, 700, 890, stH (.x 28) (.sl 552 0 1 0 true) 322 548 0 ++ blD 561 0 0, stH (.x 32) (.sl 552 0 1 0 true) 702 703 1 ++ blT 700 701 31⟩
def lfd123 : LF := ⟨2, 47, [(0, .p 4 0), (1, i6 1000000), (5, .p 561 0)], [], .exit 0, [(5, .p 700 0)], some lhd123⟩
def lhc124 : LH := ⟨2, 1000, 1060, [(890, .b ⟨79, .l [i6 65535, .x 36, .b false], 0, 0, 0, false, false⟩)], [rowK .und .und .und (ksT 5 1)]⟩
def lfc124 : LF := ⟨5, 87, [(0, .p 890 0), (6, .nils)], [], .ret, [(4, .sl 1001 0 2 0 true), (5, i6 0)], some lhc124⟩
noncomputable def tab30 : Tab := tabQ hy30 lfd121 lfd122 lfd123 lfc124
theorem run30 (e : Nat) : Go.AX.okB (call tab30 9000 3 [.x 0, .x 1] ⟨H0 e , 2, 0, 0⟩) = true := by kernel_rfl
noncomputable def nu30 (n : Int) (body : Int) : List Value := pn5 n body ++ [St' (AL5 body), St' ([] : LB), .int .u8 (bt (AL5 body) 0), .int .i64 (((AL5 body).length : Int)), .int .i64 (n), St' ((AL5 body) ++ [u8 120]), .int .i64 (((AL5 body).length : Int) + 1), .int .i64 (n % (((AL5 body).length : Int) + 1)), .int .i64 ((n % (((AL5 body).length : Int) + 1)) + 1), St' (TT5 body 1 (NN5 n body)), St' (RR5 body 1 (NN5 n body)), .int .u8 (bt (TT5 body 1 (NN5 n body)) 0), .int .i64 (((TT5 body 1 (NN5 n body)).length : Int)), St' ((RR5 body 1 (NN5 n body)) ++ abS), St' ([] : LB), .int .u8 (bt ((RR5 body 1 (NN5 n body)) ++ abS) 0), .int .i64 ((((RR5 body 1 (NN5 n body)) ++ abS).length : Int)), St' ((TT5 body 1 (NN5 n body)) ++ ((RR5 body 1 (NN5 n body)) ++ abS)), St' ((TT5 body 1 (NN5 n body)) ++ ((RR5 body 1 (NN5 n body)) ++ abS))]
theorem one30 (n : Int) (body : Int) : ∀ j, j < 1000000 → (nuL (nu30 n body) j).oneCell' = true := fun j _ => nuL_one (l := nu30 n body) rfl j
theorem path30 (n : Int) (body : Int) (b0 : 0 ≤ n) (b1 : n ≤ 65535) (b2 : 0 ≤ body) (b3 : body ≤ 65535) (h0 : 512 < (body % 3000)) (h1 : 512 < (body % 3000) - 512) (h2 : 512 < (body % 3000) - 1024) (h3 : 512 < (body % 3000) - 1536) (h4 : ¬ (512 < (body % 3000) - 2048)) (h7 : (NN5 n body) ≤ LC5 body 1) (w : World) (hl : laidE w) : CwR 3 #[.int .u16 n, .int .u16 body] w (.bool true) := by
  have hn0 : ([] : LB).length = 0 := rfl
  have hAL := al5 body (by omega)
  have := em5 n body
  have hNN : NN5 n body = (n % (((AL5 body).length : Int) + 1)) + 1 := rfl
  have hL0 := lc5 body
  have hjk := jk5 body 1 (NN5 n body) (by decide) (fun _ => by show LC5 body 0 < (NN5 n body); omega) (.inl (by assumption))
  have hTT := tt5 body (by omega) 1 (NN5 n body) (by omega) hjk
  have ho : ∀ k r, (k, r) ∈ hy30 → HOk (cx (nuL (nu30 n body)) (one30 n body) 1 laidE laidE_stab) k r := by
    unfold hy30
    exact hc (rm3 rfl rfl (by omega)) <|
     hc (cvV tu3 rfl rfl (by omega)) <|
     hc (kZer (isX rfl) (by omega) (by omega) (denX rfl)) <|
     hc (lnR rfl rfl (by omega)) <|
     hc (gtcT rfl (by omega)) <|
     hc (rT rfl (by omega) rfl) <|
     hc (l512 rfl) <|
     hc (rD rfl rfl (by omega)) <|
     hc (lnR rfl rfl (by omega)) <|
     hc (gtcT rfl (by omega)) <|
     hc (rT rfl (by omega) rfl) <|
     hc (rD rfl rfl (by omega)) <|
     hc (lnR rfl rfl (by omega)) <|
     hc (gtcT rfl (by omega)) <|
     hc (rT rfl (by omega) rfl) <|
     hc (rD rfl rfl (by omega)) <|
     hc (lnR rfl rfl (by omega)) <|
     hc (gtcT rfl (by omega)) <|
     hc (rT rfl (by omega) rfl) <|
     hc (rD rfl rfl (by omega)) <|
     hc (lnR rfl rfl (by omega)) <|
     hc (gtcF rfl (by omega)) <|
     hc (neZ rfl (by omega)) <|
     hc (kMax (isX rfl) (isZ (m := 0) rfl) (denX rfl) (by omega)) <|
     hc (ngV rfl rfl (by omega)) <|
     hc (aG rfl rfl (by omega)) <|
     hc (byC rfl rfl (by omega)) <|
     hc (lnV rfl rfl (by omega)) <|
     hc (ftV rfl (by omega)) <|
     hc (cvV tu3 rfl rfl (by omega)) <|
     hc (c120 rfl rfl (by omega)) <|
     hc (l120 rfl rfl) <|
     hc (rmV rfl rfl rfl (by omega)) <|
     hc (adC rfl rfl (by omega)) <|
     hc (byC rfl rfl (by omega)) <|
     hc (lnV rfl rfl (by omega)) <|
     hc (ftV rfl (by omega)) <|
     hc (byC rfl rfl (by omega)) <|
     hc (lnV rfl rfl (by omega)) <|
     hc (ftV rfl (by omega)) <|
     hc (ctV rfl rfl rfl (by omega)) <|
     hc (ct0 rfl rfl (by first | omega | (rw [List.length_append]; omega) | (simp <;> omega))) <|
     hnil
  exact finQ (nu := nuL (nu30 n body)) (one := one30 n body) rfl rfl ho run30 rfl rfl (dW5 (l := lfd121) (h := lhd121) body (by omega) rfl (by kernel_rfl) (zi := 6) (ri := 13) (pi := 17) rfl rfl rfl (sg0 := [(100, 72), (102, 71), (103, 70)]) (t := 18) (rr := 19) (by kernel_rfl) rfl rfl (by kernel_rfl)) rfl rfl (dD5 (l := lfd122) (h := lhd122) body (by omega) (NN5 n body) (by omega) (by omega) 1 hjk rfl (by kernel_rfl) (ni := 26) rfl (zi := 6) (ri := 13) (pi := 17) rfl rfl rfl (sg0 := [(320, 290), (322, 36), (323, 35)]) (t := 27) (rr := 28) (by kernel_rfl) rfl rfl (by kernel_rfl)) rfl rfl (dF (l := lfd123) (h := lhd123) (RR5 body 1 (NN5 n body)) (by omega) rfl (by kernel_rfl) (ri := 28) (t := 31) (rr := 32) (sg0 := [(700, 561), (702, 322), (703, 548)]) rfl (by kernel_rfl) rfl rfl (by kernel_rfl)) rfl rfl (cC5 (l := lfc124) (h := lhc124) body (by omega) 1 2 (by decide) rfl c5_1 rfl (by kernel_rfl) (xs := 36) (sg0 := [(1000, 890)]) rfl (cJ5 body 1 (NN5 n body) rfl) (by kernel_rfl) (thx := []) (thc0) (by kernel_rfl)) w hl
def hy31 : LK := hp5 ++ [(.byt (.x 18) (i6 0), .x 20), (.len (.x 18), .x 21), (.fit (.x 18), .b true), (.conv 3 (.x 0), .x 22), (.bin .add (.x 18) (.s 1 120), .x 23), (.len (.x 23), .x 24), (.bin .rem (.x 22) (.x 24), .x 25), (.bin .add (.x 25) (i6 1), .x 26), (.byt (.x 27) (i6 0), .x 29), (.len (.x 27), .x 30), (.fit (.x 27), .b true), (.byt (.x 31) (i6 0), .x 33), (.len (.x 31), .x 34), (.fit (.x 31), .b true), (.bin .add (.x 27) (.x 31), .x 35), (.bin .add (.s 0 0) (.x 35), .x 36)]
def lhd125 : LH := ⟨2, 100, 290, stG (.s 0 0) (.x 6) (.x 13) (.x 17) 39 37 38 71 70 5 0 ++ blD 72 0 0, stG (.x 19) (.x 6) (.x 13) (.x 17) 39 37 38 102 103 5 8 ++ blT 100 101 18⟩
def lfd125 : LF := ⟨2, 47, [(0, .p 39 0), (1, i6 1000000), (5, .p 72 0)], [], .exit 0, [(5, .p 100 0)], some lhd125⟩
def lhd126 : LH := ⟨2, 320, 510, stG (.s 0 0) (.x 6) (.x 13) (.x 17) 4 2 3 36 35 5 0 ++ blD 290 0 0, stG (.x 28) (.x 6) (.x 13) (.x 17) 4 2 3 322 323 5 2 ++ blT 320 321 27⟩
def lfd126 : LF := ⟨2, 47, [(0, .p 4 0), (1, .x 26), (5, .p 290 0)], [], .exit 0, [(5, .p 320 0)], some lhd126⟩
def lhd127 : LH := ⟨2, 700, 890, stH (.x 28) (.sl 552 0 1 0 true) 322 548 0 ++ blD 561 0 0, stH (.x 32) (.sl 552 0 1 0 true) 702 703 1 ++ blT 700 701 31⟩
def lfd127 : LF := ⟨2, 47, [(0, .p 4 0), (1, i6 1000000), (5, .p 561 0)], [], .exit 0, [(5, .p 700 0)], some lhd127⟩
def lhc128 : LH := ⟨2, 1000, 1060, [(890, .b ⟨79, .l [i6 65535, .x 36, .b false], 0, 0, 0, false, false⟩)], [rowK .und .und .und (ksT 5 2)]⟩
def lfc128 : LF := ⟨5, 87, [(0, .p 890 0), (6, .nils)], [], .ret, [(4, .sl 1001 0 3 0 true), (5, i6 0)], some lhc128⟩
noncomputable def tab31 : Tab := tabQ hy31 lfd125 lfd126 lfd127 lfc128
theorem run31 (e : Nat) : Go.AX.okB (call tab31 9000 3 [.x 0, .x 1] ⟨H0 e , 2, 0, 0⟩) = true := by kernel_rfl
noncomputable def nu31 (n : Int) (body : Int) : List Value := pn5 n body ++ [St' (AL5 body), St' ([] : LB), .int .u8 (bt (AL5 body) 0), .int .i64 (((AL5 body).length : Int)), .int .i64 (n), St' ((AL5 body) ++ [u8 120]), .int .i64 (((AL5 body).length : Int) + 1), .int .i64 (n % (((AL5 body).length : Int) + 1)), .int .i64 ((n % (((AL5 body).length : Int) + 1)) + 1), St' (TT5 body 2 (NN5 n body)), St' (RR5 body 2 (NN5 n body)), .int .u8 (bt (TT5 body 2 (NN5 n body)) 0), .int .i64 (((TT5 body 2 (NN5 n body)).length : Int)), St' ((RR5 body 2 (NN5 n body)) ++ abS), St' ([] : LB), .int .u8 (bt ((RR5 body 2 (NN5 n body)) ++ abS) 0), .int .i64 ((((RR5 body 2 (NN5 n body)) ++ abS).length : Int)), St' ((TT5 body 2 (NN5 n body)) ++ ((RR5 body 2 (NN5 n body)) ++ abS)), St' ((TT5 body 2 (NN5 n body)) ++ ((RR5 body 2 (NN5 n body)) ++ abS))]
theorem one31 (n : Int) (body : Int) : ∀ j, j < 1000000 → (nuL (nu31 n body) j).oneCell' = true := fun j _ => nuL_one (l := nu31 n body) rfl j
theorem path31 (n : Int) (body : Int) (b0 : 0 ≤ n) (b1 : n ≤ 65535) (b2 : 0 ≤ body) (b3 : body ≤ 65535) (h0 : 512 < (body % 3000)) (h1 : 512 < (body % 3000) - 512) (h2 : 512 < (body % 3000) - 1024) (h3 : 512 < (body % 3000) - 1536) (h4 : ¬ (512 < (body % 3000) - 2048)) (h7 : ¬ ((NN5 n body) ≤ LC5 body 1)) (h8 : (NN5 n body) ≤ LC5 body 2) (w : World) (hl : laidE w) : CwR 3 #[.int .u16 n, .int .u16 body] w (.bool true) := by
  have hn0 : ([] : LB).length = 0 := rfl
  have hAL := al5 body (by omega)
  have := em5 n body
  have hNN : NN5 n body = (n % (((AL5 body).length : Int) + 1)) + 1 := rfl
  have hjk := jk5 body 2 (NN5 n body) (by decide) (fun _ => by show LC5 body 1 < (NN5 n body); omega) (.inl (by assumption))
  have hTT := tt5 body (by omega) 2 (NN5 n body) (by omega) hjk
  have ho : ∀ k r, (k, r) ∈ hy31 → HOk (cx (nuL (nu31 n body)) (one31 n body) 1 laidE laidE_stab) k r := by
    unfold hy31
    exact hc (rm3 rfl rfl (by omega)) <|
     hc (cvV tu3 rfl rfl (by omega)) <|
     hc (kZer (isX rfl) (by omega) (by omega) (denX rfl)) <|
     hc (lnR rfl rfl (by omega)) <|
     hc (gtcT rfl (by omega)) <|
     hc (rT rfl (by omega) rfl) <|
     hc (l512 rfl) <|
     hc (rD rfl rfl (by omega)) <|
     hc (lnR rfl rfl (by omega)) <|
     hc (gtcT rfl (by omega)) <|
     hc (rT rfl (by omega) rfl) <|
     hc (rD rfl rfl (by omega)) <|
     hc (lnR rfl rfl (by omega)) <|
     hc (gtcT rfl (by omega)) <|
     hc (rT rfl (by omega) rfl) <|
     hc (rD rfl rfl (by omega)) <|
     hc (lnR rfl rfl (by omega)) <|
     hc (gtcT rfl (by omega)) <|
     hc (rT rfl (by omega) rfl) <|
     hc (rD rfl rfl (by omega)) <|
     hc (lnR rfl rfl (by omega)) <|
     hc (gtcF rfl (by omega)) <|
     hc (neZ rfl (by omega)) <|
     hc (kMax (isX rfl) (isZ (m := 0) rfl) (denX rfl) (by omega)) <|
     hc (ngV rfl rfl (by omega)) <|
     hc (aG rfl rfl (by omega)) <|
     hc (byC rfl rfl (by omega)) <|
     hc (lnV rfl rfl (by omega)) <|
     hc (ftV rfl (by omega)) <|
     hc (cvV tu3 rfl rfl (by omega)) <|
     hc (c120 rfl rfl (by omega)) <|
     hc (l120 rfl rfl) <|
     hc (rmV rfl rfl rfl (by omega)) <|
     hc (adC rfl rfl (by omega)) <|
     hc (byC rfl rfl (by omega)) <|
     hc (lnV rfl rfl (by omega)) <|
     hc (ftV rfl (by omega)) <|
     hc (byC rfl rfl (by omega)) <|
     hc (lnV rfl rfl (by omega)) <|
     hc (ftV rfl (by omega)) <|
     hc (ctV rfl rfl rfl (by omega)) <|
     hc (ct0 rfl rfl (by first | omega | (rw [List.length_append]; omega) | (simp <;> omega))) <|
     hnil
  exact finQ (nu := nuL (nu31 n body)) (one := one31 n body) rfl rfl ho run31 rfl rfl (dW5 (l := lfd125) (h := lhd125) body (by omega) rfl (by kernel_rfl) (zi := 6) (ri := 13) (pi := 17) rfl rfl rfl (sg0 := [(100, 72), (102, 71), (103, 70)]) (t := 18) (rr := 19) (by kernel_rfl) rfl rfl (by kernel_rfl)) rfl rfl (dD5 (l := lfd126) (h := lhd126) body (by omega) (NN5 n body) (by omega) (by omega) 2 hjk rfl (by kernel_rfl) (ni := 26) rfl (zi := 6) (ri := 13) (pi := 17) rfl rfl rfl (sg0 := [(320, 290), (322, 36), (323, 35)]) (t := 27) (rr := 28) (by kernel_rfl) rfl rfl (by kernel_rfl)) rfl rfl (dF (l := lfd127) (h := lhd127) (RR5 body 2 (NN5 n body)) (by omega) rfl (by kernel_rfl) (ri := 28) (t := 31) (rr := 32) (sg0 := [(700, 561), (702, 322), (703, 548)]) rfl (by kernel_rfl) rfl rfl (by kernel_rfl)) rfl rfl (cC5 (l := lfc128) (h := lhc128) body (by omega) 2 3 (by decide) rfl c5_2 rfl (by kernel_rfl) (xs := 36) (sg0 := [(1000, 890)]) rfl (cJ5 body 2 (NN5 n body) rfl) (by kernel_rfl) (thx := []) (thc0) (by kernel_rfl)) w hl
def hy32 : LK := hp5 ++ [(.byt (.x 18) (i6 0), .x 20), (.len (.x 18), .x 21), (.fit (.x 18), .b true), (.conv 3 (.x 0), .x 22), (.bin .add (.x 18) (.s 1 120), .x 23), (.len (.x 23), .x 24), (.bin .rem (.x 22) (.x 24), .x 25), (.bin .add (.x 25) (i6 1), .x 26), (.byt (.x 27) (i6 0), .x 29), (.len (.x 27), .x 30), (.fit (.x 27), .b true), (.byt (.x 31) (i6 0), .x 33), (.len (.x 31), .x 34), (.fit (.x 31), .b true), (.bin .add (.x 27) (.x 31), .x 35), (.bin .add (.s 0 0) (.x 35), .x 36), (.bin .add (.s 0 0) (.x 6), .x 6), (.bin .eql (.x 6) (.s 0 0), .b false)]
def lhd129 : LH := ⟨2, 100, 290, stG (.s 0 0) (.x 6) (.x 13) (.x 17) 39 37 38 71 70 5 0 ++ blD 72 0 0, stG (.x 19) (.x 6) (.x 13) (.x 17) 39 37 38 102 103 5 8 ++ blT 100 101 18⟩
def lfd129 : LF := ⟨2, 47, [(0, .p 39 0), (1, i6 1000000), (5, .p 72 0)], [], .exit 0, [(5, .p 100 0)], some lhd129⟩
def lhd130 : LH := ⟨2, 320, 510, stG (.s 0 0) (.x 6) (.x 13) (.x 17) 4 2 3 36 35 5 0 ++ blD 290 0 0, stG (.x 28) (.x 6) (.x 13) (.x 17) 4 2 3 322 323 5 3 ++ blT 320 321 27⟩
def lfd130 : LF := ⟨2, 47, [(0, .p 4 0), (1, .x 26), (5, .p 290 0)], [], .exit 0, [(5, .p 320 0)], some lhd130⟩
def lhd131 : LH := ⟨2, 700, 890, stH (.x 28) (.sl 552 0 1 0 true) 322 548 0 ++ blD 561 0 0, stH (.x 32) (.sl 552 0 1 0 true) 702 703 1 ++ blT 700 701 31⟩
def lfd131 : LF := ⟨2, 47, [(0, .p 4 0), (1, i6 1000000), (5, .p 561 0)], [], .exit 0, [(5, .p 700 0)], some lhd131⟩
def lhc132 : LH := ⟨2, 1000, 1060, [(890, .b ⟨79, .l [i6 65535, .x 36, .b false], 0, 0, 0, false, false⟩)], [rowK (.x 6) .und .und (ksT 5 3)]⟩
def lfc132 : LF := ⟨5, 87, [(0, .p 890 0), (6, .nils)], [], .ret, [(4, .sl 1001 0 4 0 true), (5, i6 0)], some lhc132⟩
noncomputable def tab32 : Tab := tabQ hy32 lfd129 lfd130 lfd131 lfc132
theorem run32 (e : Nat) : Go.AX.okB (call tab32 9000 3 [.x 0, .x 1] ⟨H0 e , 2, 0, 0⟩) = true := by kernel_rfl
noncomputable def nu32 (n : Int) (body : Int) : List Value := pn5 n body ++ [St' (AL5 body), St' ([] : LB), .int .u8 (bt (AL5 body) 0), .int .i64 (((AL5 body).length : Int)), .int .i64 (n), St' ((AL5 body) ++ [u8 120]), .int .i64 (((AL5 body).length : Int) + 1), .int .i64 (n % (((AL5 body).length : Int) + 1)), .int .i64 ((n % (((AL5 body).length : Int) + 1)) + 1), St' (TT5 body 3 (NN5 n body)), St' (RR5 body 3 (NN5 n body)), .int .u8 (bt (TT5 body 3 (NN5 n body)) 0), .int .i64 (((TT5 body 3 (NN5 n body)).length : Int)), St' ((RR5 body 3 (NN5 n body)) ++ abS), St' ([] : LB), .int .u8 (bt ((RR5 body 3 (NN5 n body)) ++ abS) 0), .int .i64 ((((RR5 body 3 (NN5 n body)) ++ abS).length : Int)), St' ((TT5 body 3 (NN5 n body)) ++ ((RR5 body 3 (NN5 n body)) ++ abS)), St' ((TT5 body 3 (NN5 n body)) ++ ((RR5 body 3 (NN5 n body)) ++ abS))]
theorem one32 (n : Int) (body : Int) : ∀ j, j < 1000000 → (nuL (nu32 n body) j).oneCell' = true := fun j _ => nuL_one (l := nu32 n body) rfl j
theorem path32 (n : Int) (body : Int) (b0 : 0 ≤ n) (b1 : n ≤ 65535) (b2 : 0 ≤ body) (b3 : body ≤ 65535) (h0 : 512 < (body % 3000)) (h1 : 512 < (body % 3000) - 512) (h2 : 512 < (body % 3000) - 1024) (h3 : 512 < (body % 3000) - 1536) (h4 : ¬ (512 < (body % 3000) - 2048)) (h7 : ¬ ((NN5 n body) ≤ LC5 body 1)) (h8 : ¬ ((NN5 n body) ≤ LC5 body 2)) (h9 : (NN5 n body) ≤ LC5 body 3) (w : World) (hl : laidE w) : CwR 3 #[.int .u16 n, .int .u16 body] w (.bool true) := by
  have hn0 : ([] : LB).length = 0 := rfl
  have hAL := al5 body (by omega)
  have := em5 n body
  have hNN : NN5 n body = (n % (((AL5 body).length : Int) + 1)) + 1 := rfl
  have hjk := jk5 body 3 (NN5 n body) (by decide) (fun _ => by show LC5 body 2 < (NN5 n body); omega) (.inl (by assumption))
  have hTT := tt5 body (by omega) 3 (NN5 n body) (by omega) hjk
  have ho : ∀ k r, (k, r) ∈ hy32 → HOk (cx (nuL (nu32 n body)) (one32 n body) 1 laidE laidE_stab) k r := by
    unfold hy32
    exact hc (rm3 rfl rfl (by omega)) <|
     hc (cvV tu3 rfl rfl (by omega)) <|
     hc (kZer (isX rfl) (by omega) (by omega) (denX rfl)) <|
     hc (lnR rfl rfl (by omega)) <|
     hc (gtcT rfl (by omega)) <|
     hc (rT rfl (by omega) rfl) <|
     hc (l512 rfl) <|
     hc (rD rfl rfl (by omega)) <|
     hc (lnR rfl rfl (by omega)) <|
     hc (gtcT rfl (by omega)) <|
     hc (rT rfl (by omega) rfl) <|
     hc (rD rfl rfl (by omega)) <|
     hc (lnR rfl rfl (by omega)) <|
     hc (gtcT rfl (by omega)) <|
     hc (rT rfl (by omega) rfl) <|
     hc (rD rfl rfl (by omega)) <|
     hc (lnR rfl rfl (by omega)) <|
     hc (gtcT rfl (by omega)) <|
     hc (rT rfl (by omega) rfl) <|
     hc (rD rfl rfl (by omega)) <|
     hc (lnR rfl rfl (by omega)) <|
     hc (gtcF rfl (by omega)) <|
     hc (neZ rfl (by omega)) <|
     hc (kMax (isX rfl) (isZ (m := 0) rfl) (denX rfl) (by omega)) <|
     hc (ngV rfl rfl (by omega)) <|
     hc (aG rfl rfl (by omega)) <|
     hc (byC rfl rfl (by omega)) <|
     hc (lnV rfl rfl (by omega)) <|
     hc (ftV rfl (by omega)) <|
     hc (cvV tu3 rfl rfl (by omega)) <|
     hc (c120 rfl rfl (by omega)) <|
     hc (l120 rfl rfl) <|
     hc (rmV rfl rfl rfl (by omega)) <|
     hc (adC rfl rfl (by omega)) <|
     hc (byC rfl rfl (by omega)) <|
     hc (lnV rfl rfl (by omega)) <|
     hc (ftV rfl (by omega)) <|
     hc (byC rfl rfl (by omega)) <|
     hc (lnV rfl rfl (by omega)) <|
     hc (ftV rfl (by omega)) <|
     hc (ctV rfl rfl rfl (by omega)) <|
     hc (ct0 rfl rfl (by first | omega | (rw [List.length_append]; omega) | (simp <;> omega))) <|
     hc (ct0 rfl rfl (by first | omega | (rw [List.length_append]; omega) | (simp <;> omega))) <|
     hc (eqZ rfl (by omega)) <|
     hnil
  exact finQ (nu := nuL (nu32 n body)) (one := one32 n body) rfl rfl ho run32 rfl rfl (dW5 (l := lfd129) (h := lhd129) body (by omega) rfl (by kernel_rfl) (zi := 6) (ri := 13) (pi := 17) rfl rfl rfl (sg0 := [(100, 72), (102, 71), (103, 70)]) (t := 18) (rr := 19) (by kernel_rfl) rfl rfl (by kernel_rfl)) rfl rfl (dD5 (l := lfd130) (h := lhd130) body (by omega) (NN5 n body) (by omega) (by omega) 3 hjk rfl (by kernel_rfl) (ni := 26) rfl (zi := 6) (ri := 13) (pi := 17) rfl rfl rfl (sg0 := [(320, 290), (322, 36), (323, 35)]) (t := 27) (rr := 28) (by kernel_rfl) rfl rfl (by kernel_rfl)) rfl rfl (dF (l := lfd131) (h := lhd131) (RR5 body 3 (NN5 n body)) (by omega) rfl (by kernel_rfl) (ri := 28) (t := 31) (rr := 32) (sg0 := [(700, 561), (702, 322), (703, 548)]) rfl (by kernel_rfl) rfl rfl (by kernel_rfl)) rfl rfl (cC5 (l := lfc132) (h := lhc132) body (by omega) 3 4 (by decide) rfl c5_3 rfl (by kernel_rfl) (xs := 36) (sg0 := [(1000, 890)]) rfl (cJ5 body 3 (NN5 n body) rfl) (by kernel_rfl) (thx := [(6, .x 20)]) (thc1 rfl) (by kernel_rfl)) w hl
def hy33 : LK := hp5 ++ [(.byt (.x 18) (i6 0), .x 20), (.len (.x 18), .x 21), (.fit (.x 18), .b true), (.conv 3 (.x 0), .x 22), (.bin .add (.x 18) (.s 1 120), .x 23), (.len (.x 23), .x 24), (.bin .rem (.x 22) (.x 24), .x 25), (.bin .add (.x 25) (i6 1), .x 26), (.byt (.x 27) (i6 0), .x 29), (.len (.x 27), .x 30), (.fit (.x 27), .b true), (.byt (.x 31) (i6 0), .x 33), (.len (.x 31), .x 34), (.fit (.x 31), .b true), (.bin .add (.x 27) (.x 31), .x 35), (.bin .add (.s 0 0) (.x 35), .x 36), (.bin .add (.s 0 0) (.x 6), .x 6), (.bin .eql (.x 6) (.s 0 0), .b false), (.bin .add (.x 6) (.x 6), .x 37)]
def lhd133 : LH := ⟨2, 100, 290, stG (.s 0 0) (.x 6) (.x 13) (.x 17) 39 37 38 71 70 5 0 ++ blD 72 0 0, stG (.x 19) (.x 6) (.x 13) (.x 17) 39 37 38 102 103 5 8 ++ blT 100 101 18⟩
def lfd133 : LF := ⟨2, 47, [(0, .p 39 0), (1, i6 1000000), (5, .p 72 0)], [], .exit 0, [(5, .p 100 0)], some lhd133⟩
def lhd134 : LH := ⟨2, 320, 510, stG (.s 0 0) (.x 6) (.x 13) (.x 17) 4 2 3 36 35 5 0 ++ blD 290 0 0, stG (.x 28) (.x 6) (.x 13) (.x 17) 4 2 3 322 323 5 4 ++ blT 320 321 27⟩
def lfd134 : LF := ⟨2, 47, [(0, .p 4 0), (1, .x 26), (5, .p 290 0)], [], .exit 0, [(5, .p 320 0)], some lhd134⟩
def lhd135 : LH := ⟨2, 700, 890, stH (.x 28) (.sl 552 0 1 0 true) 322 548 0 ++ blD 561 0 0, stH (.x 32) (.sl 552 0 1 0 true) 702 703 1 ++ blT 700 701 31⟩
def lfd135 : LF := ⟨2, 47, [(0, .p 4 0), (1, i6 1000000), (5, .p 561 0)], [], .exit 0, [(5, .p 700 0)], some lhd135⟩
def lhc136 : LH := ⟨2, 1000, 1060, [(890, .b ⟨79, .l [i6 65535, .x 36, .b false], 0, 0, 0, false, false⟩)], [rowK (.x 6) .und .und (ksT 5 4)]⟩
def lfc136 : LF := ⟨5, 87, [(0, .p 890 0), (6, .nils)], [], .ret, [(4, .sl 1001 0 5 0 true), (5, i6 0)], some lhc136⟩
noncomputable def tab33 : Tab := tabQ hy33 lfd133 lfd134 lfd135 lfc136
theorem run33 (e : Nat) : Go.AX.okB (call tab33 9000 3 [.x 0, .x 1] ⟨H0 e , 2, 0, 0⟩) = true := by kernel_rfl
noncomputable def nu33 (n : Int) (body : Int) : List Value := pn5 n body ++ [St' (AL5 body), St' ([] : LB), .int .u8 (bt (AL5 body) 0), .int .i64 (((AL5 body).length : Int)), .int .i64 (n), St' ((AL5 body) ++ [u8 120]), .int .i64 (((AL5 body).length : Int) + 1), .int .i64 (n % (((AL5 body).length : Int) + 1)), .int .i64 ((n % (((AL5 body).length : Int) + 1)) + 1), St' (TT5 body 4 (NN5 n body)), St' (RR5 body 4 (NN5 n body)), .int .u8 (bt (TT5 body 4 (NN5 n body)) 0), .int .i64 (((TT5 body 4 (NN5 n body)).length : Int)), St' ((RR5 body 4 (NN5 n body)) ++ abS), St' ([] : LB), .int .u8 (bt ((RR5 body 4 (NN5 n body)) ++ abS) 0), .int .i64 ((((RR5 body 4 (NN5 n body)) ++ abS).length : Int)), St' ((TT5 body 4 (NN5 n body)) ++ ((RR5 body 4 (NN5 n body)) ++ abS)), St' ((TT5 body 4 (NN5 n body)) ++ ((RR5 body 4 (NN5 n body)) ++ abS)), St' ((List.replicate (Int.toNat (512)) 0) ++ (List.replicate (Int.toNat (512)) 0))]
theorem one33 (n : Int) (body : Int) : ∀ j, j < 1000000 → (nuL (nu33 n body) j).oneCell' = true := fun j _ => nuL_one (l := nu33 n body) rfl j
theorem path33 (n : Int) (body : Int) (b0 : 0 ≤ n) (b1 : n ≤ 65535) (b2 : 0 ≤ body) (b3 : body ≤ 65535) (h0 : 512 < (body % 3000)) (h1 : 512 < (body % 3000) - 512) (h2 : 512 < (body % 3000) - 1024) (h3 : 512 < (body % 3000) - 1536) (h4 : ¬ (512 < (body % 3000) - 2048)) (h7 : ¬ ((NN5 n body) ≤ LC5 body 1)) (h8 : ¬ ((NN5 n body) ≤ LC5 body 2)) (h9 : ¬ ((NN5 n body) ≤ LC5 body 3)) (h10 : (NN5 n body) ≤ LC5 body 4) (w : World) (hl : laidE w) : CwR 3 #[.int .u16 n, .int .u16 body] w (.bool true) := by
  have hn0 : ([] : LB).length = 0 := rfl
  have hAL := al5 body (by omega)
  have := em5 n body
  have hNN : NN5 n body = (n % (((AL5 body).length : Int) + 1)) + 1 := rfl
  have hjk := jk5 body 4 (NN5 n body) (by decide) (fun _ => by show LC5 body 3 < (NN5 n body); omega) (.inl (by assumption))
  have hTT := tt5 body (by omega) 4 (NN5 n body) (by omega) hjk
  have ho : ∀ k r, (k, r) ∈ hy33 → HOk (cx (nuL (nu33 n body)) (one33 n body) 1 laidE laidE_stab) k r := by
    unfold hy33
    exact hc (rm3 rfl rfl (by omega)) <|
     hc (cvV tu3 rfl rfl (by omega)) <|
     hc (kZer (isX rfl) (by omega) (by omega) (denX rfl)) <|
     hc (lnR rfl rfl (by omega)) <|
     hc (gtcT rfl (by omega)) <|
     hc (rT rfl (by omega) rfl) <|
     hc (l512 rfl) <|
     hc (rD rfl rfl (by omega)) <|
     hc (lnR rfl rfl (by omega)) <|
     hc (gtcT rfl (by omega)) <|
     hc (rT rfl (by omega) rfl) <|
     hc (rD rfl rfl (by omega)) <|
     hc (lnR rfl rfl (by omega)) <|
     hc (gtcT rfl (by omega)) <|
     hc (rT rfl (by omega) rfl) <|
     hc (rD rfl rfl (by omega)) <|
     hc (lnR rfl rfl (by omega)) <|
     hc (gtcT rfl (by omega)) <|
     hc (rT rfl (by omega) rfl) <|
     hc (rD rfl rfl (by omega)) <|
     hc (lnR rfl rfl (by omega)) <|
     hc (gtcF rfl (by omega)) <|
     hc (neZ rfl (by omega)) <|
     hc (kMax (isX rfl) (isZ (m := 0) rfl) (denX rfl) (by omega)) <|
     hc (ngV rfl rfl (by omega)) <|
     hc (aG rfl rfl (by omega)) <|
     hc (byC rfl rfl (by omega)) <|
     hc (lnV rfl rfl (by omega)) <|
     hc (ftV rfl (by omega)) <|
     hc (cvV tu3 rfl rfl (by omega)) <|
     hc (c120 rfl rfl (by omega)) <|
     hc (l120 rfl rfl) <|
     hc (rmV rfl rfl rfl (by omega)) <|
     hc (adC rfl rfl (by omega)) <|
     hc (byC rfl rfl (by omega)) <|
     hc (lnV rfl rfl (by omega)) <|
     hc (ftV rfl (by omega)) <|
     hc (byC rfl rfl (by omega)) <|
     hc (lnV rfl rfl (by omega)) <|
     hc (ftV rfl (by omega)) <|
     hc (ctV rfl rfl rfl (by omega)) <|
     hc (ct0 rfl rfl (by first | omega | (rw [List.length_append]; omega) | (simp <;> omega))) <|
     hc (ct0 rfl rfl (by first | omega | (rw [List.length_append]; omega) | (simp <;> omega))) <|
     hc (eqZ rfl (by omega)) <|
     hc (kCat (isX rfl) (isX rfl) (denX rfl) (by first | rfl | (simp; done)) (by first | omega | (simp <;> omega))) <|
     hnil
  exact finQ (nu := nuL (nu33 n body)) (one := one33 n body) rfl rfl ho run33 rfl rfl (dW5 (l := lfd133) (h := lhd133) body (by omega) rfl (by kernel_rfl) (zi := 6) (ri := 13) (pi := 17) rfl rfl rfl (sg0 := [(100, 72), (102, 71), (103, 70)]) (t := 18) (rr := 19) (by kernel_rfl) rfl rfl (by kernel_rfl)) rfl rfl (dD5 (l := lfd134) (h := lhd134) body (by omega) (NN5 n body) (by omega) (by omega) 4 hjk rfl (by kernel_rfl) (ni := 26) rfl (zi := 6) (ri := 13) (pi := 17) rfl rfl rfl (sg0 := [(320, 290), (322, 36), (323, 35)]) (t := 27) (rr := 28) (by kernel_rfl) rfl rfl (by kernel_rfl)) rfl rfl (dF (l := lfd135) (h := lhd135) (RR5 body 4 (NN5 n body)) (by omega) rfl (by kernel_rfl) (ri := 28) (t := 31) (rr := 32) (sg0 := [(700, 561), (702, 322), (703, 548)]) rfl (by kernel_rfl) rfl rfl (by kernel_rfl)) rfl rfl (cC5 (l := lfc136) (h := lhc136) body (by omega) 4 5 (by decide) rfl c5_4 rfl (by kernel_rfl) (xs := 36) (sg0 := [(1000, 890)]) rfl (cJ5 body 4 (NN5 n body) rfl) (by kernel_rfl) (thx := [(6, .x 20)]) (thc1 rfl) (by kernel_rfl)) w hl
def hy34 : LK := hp5 ++ [(.byt (.x 18) (i6 0), .x 20), (.len (.x 18), .x 21), (.fit (.x 18), .b true), (.conv 3 (.x 0), .x 22), (.bin .add (.x 18) (.s 1 120), .x 23), (.len (.x 23), .x 24), (.bin .rem (.x 22) (.x 24), .x 25), (.bin .add (.x 25) (i6 1), .x 26), (.byt (.x 27) (i6 0), .x 29), (.len (.x 27), .x 30), (.fit (.x 27), .b true), (.byt (.x 31) (i6 0), .x 33), (.len (.x 31), .x 34), (.fit (.x 31), .b true), (.bin .add (.x 27) (.x 31), .x 35), (.bin .add (.s 0 0) (.x 35), .x 36), (.bin .add (.s 0 0) (.x 6), .x 6), (.bin .eql (.x 6) (.s 0 0), .b false), (.bin .add (.x 6) (.x 6), .x 37), (.bin .add (.x 37) (.x 6), .x 38)]
def lhd137 : LH := ⟨2, 100, 290, stG (.s 0 0) (.x 6) (.x 13) (.x 17) 39 37 38 71 70 5 0 ++ blD 72 0 0, stG (.x 19) (.x 6) (.x 13) (.x 17) 39 37 38 102 103 5 8 ++ blT 100 101 18⟩
def lfd137 : LF := ⟨2, 47, [(0, .p 39 0), (1, i6 1000000), (5, .p 72 0)], [], .exit 0, [(5, .p 100 0)], some lhd137⟩
def lhd138 : LH := ⟨2, 320, 510, stG (.s 0 0) (.x 6) (.x 13) (.x 17) 4 2 3 36 35 5 0 ++ blD 290 0 0, stG (.x 28) (.x 6) (.x 13) (.x 17) 4 2 3 322 323 5 5 ++ blT 320 321 27⟩
def lfd138 : LF := ⟨2, 47, [(0, .p 4 0), (1, .x 26), (5, .p 290 0)], [], .exit 0, [(5, .p 320 0)], some lhd138⟩
def lhd139 : LH := ⟨2, 700, 890, stH (.x 28) (.sl 552 0 1 0 true) 322 548 0 ++ blD 561 0 0, stH (.x 32) (.sl 552 0 1 0 true) 702 703 1 ++ blT 700 701 31⟩
def lfd139 : LF := ⟨2, 47, [(0, .p 4 0), (1, i6 1000000), (5, .p 561 0)], [], .exit 0, [(5, .p 700 0)], some lhd139⟩
def lhc140 : LH := ⟨2, 1000, 1060, [(890, .b ⟨79, .l [i6 65535, .x 36, .b false], 0, 0, 0, false, false⟩)], [rowK (.x 6) .und .und (ksT 5 5)]⟩
def lfc140 : LF := ⟨5, 87, [(0, .p 890 0), (6, .nils)], [], .ret, [(4, .sl 1001 0 6 0 true), (5, i6 0)], some lhc140⟩
noncomputable def tab34 : Tab := tabQ hy34 lfd137 lfd138 lfd139 lfc140
theorem run34 (e : Nat) : Go.AX.okB (call tab34 9000 3 [.x 0, .x 1] ⟨H0 e , 2, 0, 0⟩) = true := by kernel_rfl
noncomputable def nu34 (n : Int) (body : Int) : List Value := pn5 n body ++ [St' (AL5 body), St' ([] : LB), .int .u8 (bt (AL5 body) 0), .int .i64 (((AL5 body).length : Int)), .int .i64 (n), St' ((AL5 body) ++ [u8 120]), .int .i64 (((AL5 body).length : Int) + 1), .int .i64 (n % (((AL5 body).length : Int) + 1)), .int .i64 ((n % (((AL5 body).length : Int) + 1)) + 1), St' (TT5 body 5 (NN5 n body)), St' (RR5 body 5 (NN5 n body)), .int .u8 (bt (TT5 body 5 (NN5 n body)) 0), .int .i64 (((TT5 body 5 (NN5 n body)).length : Int)), St' ((RR5 body 5 (NN5 n body)) ++ abS), St' ([] : LB), .int .u8 (bt ((RR5 body 5 (NN5 n body)) ++ abS) 0), .int .i64 ((((RR5 body 5 (NN5 n body)) ++ abS).length : Int)), St' ((TT5 body 5 (NN5 n body)) ++ ((RR5 body 5 (NN5 n body)) ++ abS)), St' ((TT5 body 5 (NN5 n body)) ++ ((RR5 body 5 (NN5 n body)) ++ abS)), St' ((List.replicate (Int.toNat (512)) 0) ++ (List.replicate (Int.toNat (512)) 0)), St' ((List.replicate (Int.toNat (512)) 0) ++ ((List.replicate (Int.toNat (512)) 0) ++ (List.replicate (Int.toNat (512)) 0)))]
theorem one34 (n : Int) (body : Int) : ∀ j, j < 1000000 → (nuL (nu34 n body) j).oneCell' = true := fun j _ => nuL_one (l := nu34 n body) rfl j
theorem path34 (n : Int) (body : Int) (b0 : 0 ≤ n) (b1 : n ≤ 65535) (b2 : 0 ≤ body) (b3 : body ≤ 65535) (h0 : 512 < (body % 3000)) (h1 : 512 < (body % 3000) - 512) (h2 : 512 < (body % 3000) - 1024) (h3 : 512 < (body % 3000) - 1536) (h4 : ¬ (512 < (body % 3000) - 2048)) (h7 : ¬ ((NN5 n body) ≤ LC5 body 1)) (h8 : ¬ ((NN5 n body) ≤ LC5 body 2)) (h9 : ¬ ((NN5 n body) ≤ LC5 body 3)) (h10 : ¬ ((NN5 n body) ≤ LC5 body 4)) (h11 : (NN5 n body) ≤ LC5 body 5) (w : World) (hl : laidE w) : CwR 3 #[.int .u16 n, .int .u16 body] w (.bool true) := by
  have hn0 : ([] : LB).length = 0 := rfl
  have hAL := al5 body (by omega)
  have := em5 n body
  have hNN : NN5 n body = (n % (((AL5 body).length : Int) + 1)) + 1 := rfl
  have hjk := jk5 body 5 (NN5 n body) (by decide) (fun _ => by show LC5 body 4 < (NN5 n body); omega) (.inl (by assumption))
  have hTT := tt5 body (by omega) 5 (NN5 n body) (by omega) hjk
  have ho : ∀ k r, (k, r) ∈ hy34 → HOk (cx (nuL (nu34 n body)) (one34 n body) 1 laidE laidE_stab) k r := by
    unfold hy34
    exact hc (rm3 rfl rfl (by omega)) <|
     hc (cvV tu3 rfl rfl (by omega)) <|
     hc (kZer (isX rfl) (by omega) (by omega) (denX rfl)) <|
     hc (lnR rfl rfl (by omega)) <|
     hc (gtcT rfl (by omega)) <|
     hc (rT rfl (by omega) rfl) <|
     hc (l512 rfl) <|
     hc (rD rfl rfl (by omega)) <|
     hc (lnR rfl rfl (by omega)) <|
     hc (gtcT rfl (by omega)) <|
     hc (rT rfl (by omega) rfl) <|
     hc (rD rfl rfl (by omega)) <|
     hc (lnR rfl rfl (by omega)) <|
     hc (gtcT rfl (by omega)) <|
     hc (rT rfl (by omega) rfl) <|
     hc (rD rfl rfl (by omega)) <|
     hc (lnR rfl rfl (by omega)) <|
     hc (gtcT rfl (by omega)) <|
     hc (rT rfl (by omega) rfl) <|
     hc (rD rfl rfl (by omega)) <|
     hc (lnR rfl rfl (by omega)) <|
     hc (gtcF rfl (by omega)) <|
     hc (neZ rfl (by omega)) <|
     hc (kMax (isX rfl) (isZ (m := 0) rfl) (denX rfl) (by omega)) <|
     hc (ngV rfl rfl (by omega)) <|
     hc (aG rfl rfl (by omega)) <|
     hc (byC rfl rfl (by omega)) <|
     hc (lnV rfl rfl (by omega)) <|
     hc (ftV rfl (by omega)) <|
     hc (cvV tu3 rfl rfl (by omega)) <|
     hc (c120 rfl rfl (by omega)) <|
     hc (l120 rfl rfl) <|
     hc (rmV rfl rfl rfl (by omega)) <|
     hc (adC rfl rfl (by omega)) <|
     hc (byC rfl rfl (by omega)) <|
     hc (lnV rfl rfl (by omega)) <|
     hc (ftV rfl (by omega)) <|
     hc (byC rfl rfl (by omega)) <|
     hc (lnV rfl rfl (by omega)) <|
     hc (ftV rfl (by omega)) <|
     hc (ctV rfl rfl rfl (by omega)) <|
     hc (ct0 rfl rfl (by first | omega | (rw [List.length_append]; omega) | (simp <;> omega))) <|
     hc (ct0 rfl rfl (by first | omega | (rw [List.length_append]; omega) | (simp <;> omega))) <|
     hc (eqZ rfl (by omega)) <|
     hc (kCat (isX rfl) (isX rfl) (denX rfl) (by first | rfl | (simp; done)) (by first | omega | (simp <;> omega))) <|
     hc (kCat (isX rfl) (isX rfl) (denX rfl) (by first | rfl | (simp; done)) (by first | omega | (simp <;> omega))) <|
     hnil
  exact finQ (nu := nuL (nu34 n body)) (one := one34 n body) rfl rfl ho run34 rfl rfl (dW5 (l := lfd137) (h := lhd137) body (by omega) rfl (by kernel_rfl) (zi := 6) (ri := 13) (pi := 17) rfl rfl rfl (sg0 := [(100, 72), (102, 71), (103, 70)]) (t := 18) (rr := 19) (by kernel_rfl) rfl rfl (by kernel_rfl)) rfl rfl (dD5 (l := lfd138) (h := lhd138) body (by omega) (NN5 n body) (by omega) (by omega) 5 hjk rfl (by kernel_rfl) (ni := 26) rfl (zi := 6) (ri := 13) (pi := 17) rfl rfl rfl (sg0 := [(320, 290), (322, 36), (323, 35)]) (t := 27) (rr := 28) (by kernel_rfl) rfl rfl (by kernel_rfl)) rfl rfl (dF (l := lfd139) (h := lhd139) (RR5 body 5 (NN5 n body)) (by omega) rfl (by kernel_rfl) (ri := 28) (t := 31) (rr := 32) (sg0 := [(700, 561), (702, 322), (703, 548)]) rfl (by kernel_rfl) rfl rfl (by kernel_rfl)) rfl rfl (cC5 (l := lfc140) (h := lhc140) body (by omega) 5 6 (by decide) rfl c5_5 rfl (by kernel_rfl) (xs := 36) (sg0 := [(1000, 890)]) rfl (cJ5 body 5 (NN5 n body) rfl) (by kernel_rfl) (thx := [(6, .x 20)]) (thc1 rfl) (by kernel_rfl)) w hl
end Go.Proofs.YtaihihejljcniaaGreatDoor.muxEarly
