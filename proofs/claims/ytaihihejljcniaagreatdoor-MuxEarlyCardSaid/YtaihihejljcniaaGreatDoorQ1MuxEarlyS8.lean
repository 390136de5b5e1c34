/- A part of the proof: an interpreter of the model's own code on partly known states, and that what it answers is what the program answers. No condition of its own. -/
import Derived.Test.YtaihihejljcniaaGreatDoorQ1MuxEarlyQ
set_option maxRecDepth 100000
set_option linter.unusedVariables false
set_option linter.unusedSimpArgs false
set_option maxHeartbeats 4000000
namespace Go.Proofs.YtaihihejljcniaaGreatDoor.muxEarly
open Go Go.AX Go.Proofs Go.Proofs.YtaihihejljcniaaGreatDoor
def hy40 : LK := hp6 ++ [(.byt (.x 20) (i6 0), .x 22), (.len (.x 20), .x 23), (.fit (.x 20), .b true), (.conv 3 (.x 0), .x 24), (.bin .add (.x 20) (.s 1 120), .x 25), (.len (.x 25), .x 26), (.bin .rem (.x 24) (.x 26), .x 27), (.bin .add (.x 27) (i6 1), .x 28), (.byt (.x 29) (i6 0), .x 31), (.len (.x 29), .x 32), (.fit (.x 29), .b true), (.byt (.x 33) (i6 0), .x 35), (.len (.x 33), .x 36), (.fit (.x 33), .b true), (.bin .add (.x 29) (.x 33), .x 37), (.bin .add (.s 0 0) (.x 37), .x 38)]
def lhd161 : LH := ⟨2, 100, 290, stG (.s 0 0) (.x 6) (.x 15) (.x 19) 42 40 41 77 76 6 0 ++ blD 78 0 0, stG (.x 21) (.x 6) (.x 15) (.x 19) 42 40 41 102 103 6 9 ++ blT 100 101 20⟩
def lfd161 : LF := ⟨2, 47, [(0, .p 42 0), (1, i6 1000000), (5, .p 78 0)], [], .exit 0, [(5, .p 100 0)], some lhd161⟩
def lhd162 : LH := ⟨2, 320, 510, stG (.s 0 0) (.x 6) (.x 15) (.x 19) 4 2 3 39 38 6 0 ++ blD 290 0 0, stG (.x 30) (.x 6) (.x 15) (.x 19) 4 2 3 322 323 6 2 ++ blT 320 321 29⟩
def lfd162 : LF := ⟨2, 47, [(0, .p 4 0), (1, .x 28), (5, .p 290 0)], [], .exit 0, [(5, .p 320 0)], some lhd162⟩
def lhd163 : LH := ⟨2, 700, 890, stH (.x 30) (.sl 552 0 1 0 true) 322 548 0 ++ blD 561 0 0, stH (.x 34) (.sl 552 0 1 0 true) 702 703 1 ++ blT 700 701 33⟩
def lfd163 : LF := ⟨2, 47, [(0, .p 4 0), (1, i6 1000000), (5, .p 561 0)], [], .exit 0, [(5, .p 700 0)], some lhd163⟩
def lhc164 : LH := ⟨2, 1000, 1060, [(890, .b ⟨79, .l [i6 65535, .x 38, .b false], 0, 0, 0, false, false⟩)], [rowK .und .und .und (ksT 6 2)]⟩
def lfc164 : LF := ⟨5, 87, [(0, .p 890 0), (6, .nils)], [], .ret, [(4, .sl 1001 0 3 0 true), (5, i6 0)], some lhc164⟩
noncomputable def tab40 : Tab := tabQ hy40 lfd161 lfd162 lfd163 lfc164
theorem run40 (e : Nat) : Go.AX.okB (call tab40 9000 3 [.x 0, .x 1] ⟨H0 e , 2, 0, 0⟩) = true := by kernel_rfl
noncomputable def nu40 (n : Int) (body : Int) : List Value := pn6 n body ++ [St' (AL6 body), St' ([] : LB), .int .u8 (bt (AL6 body) 0), .int .i64 (((AL6 body).length : Int)), .int .i64 (n), St' ((AL6 body) ++ [u8 120]), .int .i64 (((AL6 body).length : Int) + 1), .int .i64 (n % (((AL6 body).length : Int) + 1)), .int .i64 ((n % (((AL6 body).length : Int) + 1)) + 1), St' (TT6 body 2 (NN6 n body)), St' (RR6 body 2 (NN6 n body)), .int .u8 (bt (TT6 body 2 (NN6 n body)) 0), .int .i64 (((TT6 body 2 (NN6 n body)).length : Int)), St' ((RR6 body 2 (NN6 n body)) ++ abS), St' ([] : LB), .int .u8 (bt ((RR6 body 2 (NN6 n body)) ++ abS) 0), .int .i64 ((((RR6 body 2 (NN6 n body)) ++ abS).length : Int)), St' ((TT6 body 2 (NN6 n body)) ++ ((RR6 body 2 (NN6 n body)) ++ abS)), St' ((TT6 body 2 (NN6 n body)) ++ ((RR6 body 2 (NN6 n body)) ++ abS))]
theorem one40 (n : Int) (body : Int) : ∀ j, j < 1000000 → (nuL (nu40 n body) j).oneCell' = true := fun j _ => nuL_one (l := nu40 n body) rfl j
theorem path40 (n : Int) (body : Int) (b0 : 0 ≤ n) (b1 : n ≤ 65535) (b2 : 0 ≤ body) (b3 : body ≤ 65535) (h0 : 512 < (body % 3000)) (h1 : 512 < (body % 3000) - 512) (h2 : 512 < (body % 3000) - 1024) (h3 : 512 < (body % 3000) - 1536) (h4 : 512 < (body % 3000) - 2048) (h8 : ¬ ((NN6 n body) ≤ LC6 body 1)) (h9 : (NN6 n body) ≤ LC6 body 2) (w : World) (hl : laidE w) : CwR 3 #[.int .u16 n, .int .u16 body] w (.bool true) := by
  have hn0 : ([] : LB).length = 0 := rfl
  have hAL := al6 body (by omega)
  have := em6 n body
  have hNN : NN6 n body = (n % (((AL6 body).length : Int) + 1)) + 1 := rfl
  have hjk := jk6 body 2 (NN6 n body) (by decide) (fun _ => by show LC6 body 1 < (NN6 n body); omega) (.inl (by assumption))
  have hTT := tt6 body (by omega) 2 (NN6 n body) (by omega) hjk
  have ho : ∀ k r, (k, r) ∈ hy40 → HOk (cx (nuL (nu40 n body)) (one40 n body) 1 laidE laidE_stab) k r := by
    unfold hy40
    exact hc (rm3 rfl rfl (by omega)) <|
     hc (cvV tu3 rfl rfl (by omega)) <|
     hc (kZer (isX rfl) (by omega) (by omega) (denX rfl)) <|
     hc (lnR rfl rfl (by omega)) <|
     hc (gtcT rfl (by omega)) <|
     hc (rT rfl (by omega) rfl) <|
     hc (l512 rfl) <|
     hc (rD rfl rfl (by omega)) <|
     hc (lnR rfl rfl (by omega)) <|
     hc (gtcT rfl (by omega)) <|
     hc (rT rfl (by omega) rfl) <|
     hc (rD rfl rfl (by omega)) <|
     hc (lnR rfl rfl (by omega)) <|
     hc (gtcT rfl (by omega)) <|
     hc (rT rfl (by omega) rfl) <|
     hc (rD rfl rfl (by omega)) <|
     hc (lnR rfl rfl (by omega)) <|
     hc (gtcT rfl (by omega)) <|
     hc (rT rfl (by omega) rfl) <|
     hc (rD rfl rfl (by omega)) <|
     hc (lnR rfl rfl (by omega)) <|
     hc (gtcT rfl (by omega)) <|
     hc (rT rfl (by omega) rfl) <|
     hc (rD rfl rfl (by omega)) <|
     hc (lnR rfl rfl (by omega)) <|
     hc (gtcF rfl (by omega)) <|
     hc (neZ rfl (by omega)) <|
     hc (kMax (isX rfl) (isZ (m := 0) rfl) (denX rfl) (by omega)) <|
     hc (ngV rfl rfl (by omega)) <|
     hc (aG rfl rfl (by omega)) <|
     hc (byC rfl rfl (by omega)) <|
     hc (lnV rfl rfl (by omega)) <|
     hc (ftV rfl (by omega)) <|
     hc (cvV tu3 rfl rfl (by omega)) <|
     hc (c120 rfl rfl (by omega)) <|
     hc (l120 rfl rfl) <|
     hc (rmV rfl rfl rfl (by omega)) <|
     hc (adC rfl rfl (by omega)) <|
     hc (byC rfl rfl (by omega)) <|
     hc (lnV rfl rfl (by omega)) <|
     hc (ftV rfl (by omega)) <|
     hc (byC rfl rfl (by omega)) <|
     hc (lnV rfl rfl (by omega)) <|
     hc (ftV rfl (by omega)) <|
     hc (ctV rfl rfl rfl (by omega)) <|
     hc (ct0 rfl rfl (by first | omega | (rw [List.length_append]; omega) | (simp <;> omega))) <|
     hnil
  exact finQ (nu := nuL (nu40 n body)) (one := one40 n body) rfl rfl ho run40 rfl rfl (dW6 (l := lfd161) (h := lhd161) body (by omega) rfl (by kernel_rfl) (zi := 6) (ri := 15) (pi := 19) rfl rfl rfl (sg0 := [(100, 78), (102, 77), (103, 76)]) (t := 20) (rr := 21) (by kernel_rfl) rfl rfl (by kernel_rfl)) rfl rfl (dD6 (l := lfd162) (h := lhd162) body (by omega) (NN6 n body) (by omega) (by omega) 2 hjk rfl (by kernel_rfl) (ni := 28) rfl (zi := 6) (ri := 15) (pi := 19) rfl rfl rfl (sg0 := [(320, 290), (322, 39), (323, 38)]) (t := 29) (rr := 30) (by kernel_rfl) rfl rfl (by kernel_rfl)) rfl rfl (dF (l := lfd163) (h := lhd163) (RR6 body 2 (NN6 n body)) (by omega) rfl (by kernel_rfl) (ri := 30) (t := 33) (rr := 34) (sg0 := [(700, 561), (702, 322), (703, 548)]) rfl (by kernel_rfl) rfl rfl (by kernel_rfl)) rfl rfl (cC6 (l := lfc164) (h := lhc164) body (by omega) 2 3 (by decide) rfl c6_2 rfl (by kernel_rfl) (xs := 38) (sg0 := [(1000, 890)]) rfl (cJ6 body 2 (NN6 n body) rfl) (by kernel_rfl) (thx := []) (thc0) (by kernel_rfl)) w hl
def hy41 : LK := hp6 ++ [(.byt (.x 20) (i6 0), .x 22), (.len (.x 20), .x 23), (.fit (.x 20), .b true), (.conv 3 (.x 0), .x 24), (.bin .add (.x 20) (.s 1 120), .x 25), (.len (.x 25), .x 26), (.bin .rem (.x 24) (.x 26), .x 27), (.bin .add (.x 27) (i6 1), .x 28), (.byt (.x 29) (i6 0), .x 31), (.len (.x 29), .x 32), (.fit (.x 29), .b true), (.byt (.x 33) (i6 0), .x 35), (.len (.x 33), .x 36), (.fit (.x 33), .b true), (.bin .add (.x 29) (.x 33), .x 37), (.bin .add (.s 0 0) (.x 37), .x 38), (.bin .add (.s 0 0) (.x 6), .x 6), (.bin .eql (.x 6) (.s 0 0), .b false)]
def lhd165 : LH := ⟨2, 100, 290, stG (.s 0 0) (.x 6) (.x 15) (.x 19) 42 40 41 77 76 6 0 ++ blD 78 0 0, stG (.x 21) (.x 6) (.x 15) (.x 19) 42 40 41 102 103 6 9 ++ blT 100 101 20⟩
def lfd165 : LF := ⟨2, 47, [(0, .p 42 0), (1, i6 1000000), (5, .p 78 0)], [], .exit 0, [(5, .p 100 0)], some lhd165⟩
def lhd166 : LH := ⟨2, 320, 510, stG (.s 0 0) (.x 6) (.x 15) (.x 19) 4 2 3 39 38 6 0 ++ blD 290 0 0, stG (.x 30) (.x 6) (.x 15) (.x 19) 4 2 3 322 323 6 3 ++ blT 320 321 29⟩
def lfd166 : LF := ⟨2, 47, [(0, .p 4 0), (1, .x 28), (5, .p 290 0)], [], .exit 0, [(5, .p 320 0)], some lhd166⟩
def lhd167 : LH := ⟨2, 700, 890, stH (.x 30) (.sl 552 0 1 0 true) 322 548 0 ++ blD 561 0 0, stH (.x 34) (.sl 552 0 1 0 true) 702 703 1 ++ blT 700 701 33⟩
def lfd167 : LF := ⟨2, 47, [(0, .p 4 0), (1, i6 1000000), (5, .p 561 0)], [], .exit 0, [(5, .p 700 0)], some lhd167⟩
def lhc168 : LH := ⟨2, 1000, 1060, [(890, .b ⟨79, .l [i6 65535, .x 38, .b false], 0, 0, 0, false, false⟩)], [rowK (.x 6) .und .und (ksT 6 3)]⟩
def lfc168 : LF := ⟨5, 87, [(0, .p 890 0), (6, .nils)], [], .ret, [(4, .sl 1001 0 4 0 true), (5, i6 0)], some lhc168⟩
noncomputable def tab41 : Tab := tabQ hy41 lfd165 lfd166 lfd167 lfc168
theorem run41 (e : Nat) : Go.AX.okB (call tab41 9000 3 [.x 0, .x 1] ⟨H0 e , 2, 0, 0⟩) = true := by kernel_rfl
noncomputable def nu41 (n : Int) (body : Int) : List Value := pn6 n body ++ [St' (AL6 body), St' ([] : LB), .int .u8 (bt (AL6 body) 0), .int .i64 (((AL6 body).length : Int)), .int .i64 (n), St' ((AL6 body) ++ [u8 120]), .int .i64 (((AL6 body).length : Int) + 1), .int .i64 (n % (((AL6 body).length : Int) + 1)), .int .i64 ((n % (((AL6 body).length : Int) + 1)) + 1), St' (TT6 body 3 (NN6 n body)), St' (RR6 body 3 (NN6 n body)), .int .u8 (bt (TT6 body 3 (NN6 n body)) 0), .int .i64 (((TT6 body 3 (NN6 n body)).length : Int)), St' ((RR6 body 3 (NN6 n body)) ++ abS), St' ([] : LB), .int .u8 (bt ((RR6 body 3 (NN6 n body)) ++ abS) 0), .int .i64 ((((RR6 body 3 (NN6 n body)) ++ abS).length : Int)), St' ((TT6 body 3 (NN6 n body)) ++ ((RR6 body 3 (NN6 n body)) ++ abS)), St' ((TT6 body 3 (NN6 n body)) ++ ((RR6 body 3 (NN6 n body)) ++ abS))]
theorem one41 (n : Int) (body : Int) : ∀ j, j < 1000000 → (nuL (nu41 n body) j).oneCell' = true := fun j _ => nuL_one (l := nu41 n body) rfl j
theorem path41 (n : Int) (body : Int) (b0 : 0 ≤ n) (b1 : n ≤ 65535) (b2 : 0 ≤ body) (b3 : body ≤ 65535) (h0 : 512 < (body % 3000)) (h1 : 512 < (body % 3000) - 512) (h2 : 512 < (body % 3000) - 1024) (h3 : 512 < (body % 3000) - 1536) (h4 : 512 < (body % 3000) - 2048) (h8 : ¬ ((NN6 n body) ≤ LC6 body 1)) (h9 : ¬ ((NN6 n body) ≤ LC6 body 2)) (h10 : (NN6 n body) ≤ LC6 body 3) (w : World) (hl : laidE w) : CwR 3 #[.int .u16 n, .int .u16 body] w (.bool true) := by
  have hn0 : ([] : LB).length = 0 := rfl
  have hAL := al6 body (by omega)
  have := em6 n body
  have hNN : NN6 n body = (n % (((AL6 body).length : Int) + 1)) + 1 := rfl
  have hjk := jk6 body 3 (NN6 n body) (by decide) (fun _ => by show LC6 body 2 < (NN6 n body); omega) (.inl (by assumption))
  have hTT := tt6 body (by omega) 3 (NN6 n body) (by omega) hjk
  have ho : ∀ k r, (k, r) ∈ hy41 → HOk (cx (nuL (nu41 n body)) (one41 n body) 1 laidE laidE_stab) k r := by
    unfold hy41
    exact hc (rm3 rfl rfl (by omega)) <|
     hc (cvV tu3 rfl rfl (by omega)) <|
     hc (kZer (isX rfl) (by omega) (by omega) (denX rfl)) <|
     hc (lnR rfl rfl (by omega)) <|
     hc (gtcT rfl (by omega)) <|
     hc (rT rfl (by omega) rfl) <|
     hc (l512 rfl) <|
     hc (rD rfl rfl (by omega)) <|
     hc (lnR rfl rfl (by omega)) <|
     hc (gtcT rfl (by omega)) <|
     hc (rT rfl (by omega) rfl) <|
     hc (rD rfl rfl (by omega)) <|
     hc (lnR rfl rfl (by omega)) <|
     hc (gtcT rfl (by omega)) <|
     hc (rT rfl (by omega) rfl) <|
     hc (rD rfl rfl (by omega)) <|
     hc (lnR rfl rfl (by omega)) <|
     hc (gtcT rfl (by omega)) <|
     hc (rT rfl (by omega) rfl) <|
     hc (rD rfl rfl (by omega)) <|
     hc (lnR rfl rfl (by omega)) <|
     hc (gtcT rfl (by omega)) <|
     hc (rT rfl (by omega) rfl) <|
     hc (rD rfl rfl (by omega)) <|
     hc (lnR rfl rfl (by omega)) <|
     hc (gtcF rfl (by omega)) <|
     hc (neZ rfl (by omega)) <|
     hc (kMax (isX rfl) (isZ (m := 0) rfl) (denX rfl) (by omega)) <|
     hc (ngV rfl rfl (by omega)) <|
     hc (aG rfl rfl (by omega)) <|
     hc (byC rfl rfl (by omega)) <|
     hc (lnV rfl rfl (by omega)) <|
     hc (ftV rfl (by omega)) <|
     hc (cvV tu3 rfl rfl (by omega)) <|
     hc (c120 rfl rfl (by omega)) <|
     hc (l120 rfl rfl) <|
     hc (rmV rfl rfl rfl (by omega)) <|
     hc (adC rfl rfl (by omega)) <|
     hc (byC rfl rfl (by omega)) <|
     hc (lnV rfl rfl (by omega)) <|
     hc (ftV rfl (by omega)) <|
     hc (byC rfl rfl (by omega)) <|
     hc (lnV rfl rfl (by omega)) <|
     hc (ftV rfl (by omega)) <|
     hc (ctV rfl rfl rfl (by omega)) <|
     hc (ct0 rfl rfl (by first | omega | (rw [List.length_append]; omega) | (simp <;> omega))) <|
     hc (ct0 rfl rfl (by first | omega | (rw [List.length_append]; omega) | (simp <;> omega))) <|
     hc (eqZ rfl (by omega)) <|
     hnil
  exact finQ (nu := nuL (nu41 n body)) (one := one41 n body) rfl rfl ho run41 rfl rfl (dW6 (l := lfd165) (h := lhd165) body (by omega) rfl (by kernel_rfl) (zi := 6) (ri := 15) (pi := 19) rfl rfl rfl (sg0 := [(100, 78), (102, 77), (103, 76)]) (t := 20) (rr := 21) (by kernel_rfl) rfl rfl (by kernel_rfl)) rfl rfl (dD6 (l := lfd166) (h := lhd166) body (by omega) (NN6 n body) (by omega) (by omega) 3 hjk rfl (by kernel_rfl) (ni := 28) rfl (zi := 6) (ri := 15) (pi := 19) rfl rfl rfl (sg0 := [(320, 290), (322, 39), (323, 38)]) (t := 29) (rr := 30) (by kernel_rfl) rfl rfl (by kernel_rfl)) rfl rfl (dF (l := lfd167) (h := lhd167) (RR6 body 3 (NN6 n body)) (by omega) rfl (by kernel_rfl) (ri := 30) (t := 33) (rr := 34) (sg0 := [(700, 561), (702, 322), (703, 548)]) rfl (by kernel_rfl) rfl rfl (by kernel_rfl)) rfl rfl (cC6 (l := lfc168) (h := lhc168) body (by omega) 3 4 (by decide) rfl c6_3 rfl (by kernel_rfl) (xs := 38) (sg0 := [(1000, 890)]) rfl (cJ6 body 3 (NN6 n body) rfl) (by kernel_rfl) (thx := [(6, .x 20)]) (thc1 rfl) (by kernel_rfl)) w hl
def hy42 : LK := hp6 ++ [(.byt (.x 20) (i6 0), .x 22), (.len (.x 20), .x 23), (.fit (.x 20), .b true), (.conv 3 (.x 0), .x 24), (.bin .add (.x 20) (.s 1 120), .x 25), (.len (.x 25), .x 26), (.bin .rem (.x 24) (.x 26), .x 27), (.bin .add (.x 27) (i6 1), .x 28), (.byt (.x 29) (i6 0), .x 31), (.len (.x 29), .x 32), (.fit (.x 29), .b true), (.byt (.x 33) (i6 0), .x 35), (.len (.x 33), .x 36), (.fit (.x 33), .b true), (.bin .add (.x 29) (.x 33), .x 37), (.bin .add (.s 0 0) (.x 37), .x 38), (.bin .add (.s 0 0) (.x 6), .x 6), (.bin .eql (.x 6) (.s 0 0), .b false), (.bin .add (.x 6) (.x 6), .x 39)]
def lhd169 : LH := ⟨2, 100, 290, stG (.s 0 0) (.x 6) (.x 15) (.x 19) 42 40 41 77 76 6 0 ++ blD 78 0 0, stG (.x 21) (.x 6) (.x 15) (.x 19) 42 40 41 102 103 6 9 ++ blT 100 101 20⟩
def lfd169 : LF := ⟨2, 47, [(0, .p 42 0), (1, i6 1000000), (5, .p 78 0)], [], .exit 0, [(5, .p 100 0)], some lhd169⟩
def lhd170 : LH := ⟨2, 320, 510, stG (.s 0 0) (.x 6) (.x 15) (.x 19) 4 2 3 39 38 6 0 ++ blD 290 0 0, stG (.x 30) (.x 6) (.x 15) (.x 19) 4 2 3 322 323 6 4 ++ blT 320 321 29⟩
def lfd170 : LF := ⟨2, 47, [(0, .p 4 0), (1, .x 28), (5, .p 290 0)], [], .exit 0, [(5, .p 320 0)], some lhd170⟩
def lhd171 : LH := ⟨2, 700, 890, stH (.x 30) (.sl 552 0 1 0 true) 322 548 0 ++ blD 561 0 0, stH (.x 34) (.sl 552 0 1 0 true) 702 703 1 ++ blT 700 701 33⟩
def lfd171 : LF := ⟨2, 47, [(0, .p 4 0), (1, i6 1000000), (5, .p 561 0)], [], .exit 0, [(5, .p 700 0)], some lhd171⟩
def lhc172 : LH := ⟨2, 1000, 1060, [(890, .b ⟨79, .l [i6 65535, .x 38, .b false], 0, 0, 0, false, false⟩)], [rowK (.x 6) .und .und (ksT 6 4)]⟩
def lfc172 : LF := ⟨5, 87, [(0, .p 890 0), (6, .nils)], [], .ret, [(4, .sl 1001 0 5 0 true), (5, i6 0)], some lhc172⟩
noncomputable def tab42 : Tab := tabQ hy42 lfd169 lfd170 lfd171 lfc172
theorem run42 (e : Nat) : Go.AX.okB (call tab42 9000 3 [.x 0, .x 1] ⟨H0 e , 2, 0, 0⟩) = true := by kernel_rfl
noncomputable def nu42 (n : Int) (body : Int) : List Value := pn6 n body ++ [St' (AL6 body), St' ([] : LB), .int .u8 (bt (AL6 body) 0), .int .i64 (((AL6 body).length : Int)), .int .i64 (n), St' ((AL6 body) ++ [u8 120]), .int .i64 (((AL6 body).length : Int) + 1), .int .i64 (n % (((AL6 body).length : Int) + 1)), .int .i64 ((n % (((AL6 body).length : Int) + 1)) + 1), St' (TT6 body 4 (NN6 n body)), St' (RR6 body 4 (NN6 n body)), .int .u8 (bt (TT6 body 4 (NN6 n body)) 0), .int .i64 (((TT6 body 4 (NN6 n body)).length : Int)), St' ((RR6 body 4 (NN6 n body)) ++ abS), St' ([] : LB), .int .u8 (bt ((RR6 body 4 (NN6 n body)) ++ abS) 0), .int .i64 ((((RR6 body 4 (NN6 n body)) ++ abS).length : Int)), St' ((TT6 body 4 (NN6 n body)) ++ ((RR6 body 4 (NN6 n body)) ++ abS)), St' ((TT6 body 4 (NN6 n body)) ++ ((RR6 body 4 (NN6 n body)) ++ abS)), St' ((List.replicate (Int.toNat (512)) 0) ++ (List.replicate (Int.toNat (512)) 0))]
theorem one42 (n : Int) (body : Int) : ∀ j, j < 1000000 → (nuL (nu42 n body) j).oneCell' = true := fun j _ => nuL_one (l := nu42 n body) rfl j
theorem path42 (n : Int) (body : Int) (b0 : 0 ≤ n) (b1 : n ≤ 65535) (b2 : 0 ≤ body) (b3 : body ≤ 65535) (h0 : 512 < (body % 3000)) (h1 : 512 < (body % 3000) - 512) (h2 : 512 < (body % 3000) - 1024) (h3 : 512 < (body % 3000) - 1536) (h4 : 512 < (body % 3000) - 2048) (h8 : ¬ ((NN6 n body) ≤ LC6 body 1)) (h9 : ¬ ((NN6 n body) ≤ LC6 body 2)) (h10 : ¬ ((NN6 n body) ≤ LC6 body 3)) (h11 : (NN6 n body) ≤ LC6 body 4) (w : World) (hl : laidE w) : CwR 3 #[.int .u16 n, .int .u16 body] w (.bool true) := by
  have hn0 : ([] : LB).length = 0 := rfl
  have hAL := al6 body (by omega)
  have := em6 n body
  have hNN : NN6 n body = (n % (((AL6 body).length : Int) + 1)) + 1 := rfl
  have hjk := jk6 body 4 (NN6 n body) (by decide) (fun _ => by show LC6 body 3 < (NN6 n body); omega) (.inl (by assumption))
  have hTT := tt6 body (by omega) 4 (NN6 n body) (by omega) hjk
  have ho : ∀ k r, (k, r) ∈ hy42 → HOk (cx (nuL (nu42 n body)) (one42 n body) 1 laidE laidE_stab) k r := by
    unfold hy42
    exact hc (rm3 rfl rfl (by omega)) <|
     hc (cvV tu3 rfl rfl (by omega)) <|
     hc (kZer (isX rfl) (by omega) (by omega) (denX rfl)) <|
     hc (lnR rfl rfl (by omega)) <|
     hc (gtcT rfl (by omega)) <|
     hc (rT rfl (by omega) rfl) <|
     hc (l512 rfl) <|
     hc (rD rfl rfl (by omega)) <|
     hc (lnR rfl rfl (by omega)) <|
     hc (gtcT rfl (by omega)) <|
     hc (rT rfl (by omega) rfl) <|
     hc (rD rfl rfl (by omega)) <|
     hc (lnR rfl rfl (by omega)) <|
     hc (gtcT rfl (by omega)) <|
     hc (rT rfl (by omega) rfl) <|
     hc (rD rfl rfl (by omega)) <|
     hc (lnR rfl rfl (by omega)) <|
     hc (gtcT rfl (by omega)) <|
     hc (rT rfl (by omega) rfl) <|
     hc (rD rfl rfl (by omega)) <|
     hc (lnR rfl rfl (by omega)) <|
     hc (gtcT rfl (by omega)) <|
     hc (rT rfl (by omega) rfl) <|
     hc (rD rfl rfl (by omega)) <|
     hc (lnR rfl rfl (by omega)) <|
     hc (gtcF rfl (by omega)) <|
     hc (neZ rfl (by omega)) <|
     hc (kMax (isX rfl) (isZ (m := 0) rfl) (denX rfl) (by omega)) <|
     hc (ngV rfl rfl (by omega)) <|
     hc (aG rfl rfl (by omega)) <|
     hc (byC rfl rfl (by omega)) <|
     hc (lnV rfl rfl (by omega)) <|
     hc (ftV rfl (by omega)) <|
     hc (cvV tu3 rfl rfl (by omega)) <|
     hc (c120 rfl rfl (by omega)) <|
     hc (l120 rfl rfl) <|
     hc (rmV rfl rfl rfl (by omega)) <|
     hc (adC rfl rfl (by omega)) <|
     hc (byC rfl rfl (by omega)) <|
     hc (lnV rfl rfl (by omega)) <|
     hc (ftV rfl (by omega)) <|
     hc (byC rfl rfl (by omega)) <|
     hc (lnV rfl rfl (by omega)) <|
     hc (ftV rfl (by omega)) <|
     hc (ctV rfl rfl rfl (by omega)) <|
     hc (ct0 rfl rfl (by first | omega | (rw [List.length_append]; omega) | (simp <;> omega))) <|
     hc (ct0 rfl rfl (by first | omega | (rw [List.length_append]; omega) | (simp <;> omega))) <|
     hc (eqZ rfl (by omega)) <|
     hc (kCat (isX rfl) (isX rfl) (denX rfl) (by first | rfl | (simp; done)) (by first | omega | (simp <;> omega))) <|
     hnil
  exact finQ (nu := nuL (nu42 n body)) (one := one42 n body) rfl rfl ho run42 rfl rfl (dW6 (l := lfd169) (h := lhd169) body (by omega) rfl (by kernel_rfl) (zi := 6) (ri := 15) (pi := 19) rfl rfl rfl (sg0 := [(100, 78), (102, 77), (103, 76)]) (t := 20) (rr := 21) (by kernel_rfl) rfl rfl (by kernel_rfl)) rfl rfl (dD6 (l := lfd170) (h := lhd170) body (by omega) (NN6 n body) (by omega) (by omega) 4 hjk rfl (by kernel_rfl) (ni := 28) rfl (zi := 6) (ri := 15) (pi := 19) rfl rfl rfl (sg0 := [(320, 290), (322, 39), (323, 38)]) (t := 29) (rr := 30) (by kernel_rfl) rfl rfl (by kernel_rfl)) rfl rfl (dF (l := lfd171) (h := lhd171) (RR6 body 4 (NN6 n body)) (by omega) rfl (by kernel_rfl) (ri := 30) (t := 33) (rr := 34) (sg0 := [(700, 561), (702, 322), (703, 548)]) rfl (by kernel_rfl) rfl rfl (by kernel_rfl)) rfl rfl (cC6 (l := lfc172) (h := lhc172) body (by omega) 4 5 (by decide) rfl c6_4 rfl (by kernel_rfl) (xs := 38) (sg0 := [(1000, 890)]) rfl (cJ6 body 4 (NN6 n body) rfl) (by kernel_rfl) (thx := [(6, .x 20)]) (thc1 rfl) (by kernel_rfl)) w hl
def hy43 : LK := hp6 ++ [(.byt (.x 20) (i6 0), .x 22), (.len (.x 20), .x 23), (.fit (.x 20), .b true), (.conv 3 (.x 0), .x 24), (.bin .add (.x 20) (.s 1 120), .x 25), (.len (.x 25), .x 26), (.bin .rem (.x 24) (.x 26), .x 27), (.bin .add (.x 27) (i6 1), .x 28), (.byt (.x 29) (i6 0), .x 31), (.len (.x 29), .x 32), (.fit (.x 29), .b true), (.byt (.x 33) (i6 0), .x 35), (.len (.x 33), .x 36), (.fit (.x 33), .b true), (.bin .add (.x 29) (.x 33), .x 37), (.bin .add (.s 0 0) (.x 37), .x 38), (.bin .add (.s 0 0) (.x 6), .x 6), (.bin .eql (.x 6) (.s 0 0), .b false), (.bin .add (.x 6) (.x 6), .x 39), (.bin .add (.x 39) (.x 6), .x 40)]
def lhd173 : LH := ⟨2, 100, 290, stG (.s 0 0) (.x 6) (.x 15) (.x 19) 42 40 41 77 76 6 0 ++ blD 78 0 0, stG (.x 21) (.x 6) (.x 15) (.x 19) 42 40 41 102 103 6 9 ++ blT 100 101 20⟩
def lfd173 : LF := ⟨2, 47, [(0, .p 42 0), (1, i6 1000000), (5, .p 78 0)], [], .exit 0, [(5, .p 100 0)], some lhd173⟩
def lhd174 : LH := ⟨2, 320, 510, stG (.s 0 0) (.x 6) (.x 15) (.x 19) 4 2 3 39 38 6 0 ++ blD 290 0 0, stG (.x 30) (.x 6) (.x 15) (.x 19) 4 2 3 322 323 6 5 ++ blT 320 321 29⟩
def lfd174 : LF := ⟨2, 47, [(0, .p 4 0), (1, .x 28), (5, .p 290 0)], [], .exit 0, [(5, .p 320 0)], some lhd174⟩
def lhd175 : LH := ⟨2, 700, 890, stH (.x 30) (.sl 552 0 1 0 true) 322 548 0 ++ blD 561 0 0, stH (.x 34) (.sl 552 0 1 0 true) 702 703 1 ++ blT 700 701 33⟩
def lfd175 : LF := ⟨2, 47, [(0, .p 4 0), (1, i6 1000000), (5, .p 561 0)], [], .exit 0, [(5, .p 700 0)], some lhd175⟩
def lhc176 : LH := ⟨2, 1000, 1060, [(890, .b ⟨79, .l [i6 65535, .x 38, .b false], 0, 0, 0, false, false⟩)], [rowK (.x 6) .und .und (ksT 6 5)]⟩
def lfc176 : LF := ⟨5, 87, [(0, .p 890 0), (6, .nils)], [], .ret, [(4, .sl 1001 0 6 0 true), (5, i6 0)], some lhc176⟩
noncomputable def tab43 : Tab := tabQ hy43 lfd173 lfd174 lfd175 lfc176
theorem run43 (e : Nat) : Go.AX.okB (call tab43 9000 3 [.x 0, .x 1] ⟨H0 e , 2, 0, 0⟩) = true := by kernel_rfl
noncomputable def nu43 (n : Int) (body : Int) : List Value := pn6 n body ++ [St' (AL6 body), St' ([] : LB), .int .u8 (bt (AL6 body) 0), .int .i64 (((AL6 body).length : Int)), .int .i64 (n), St' ((AL6 body) ++ [u8 120]), .int .i64 (((AL6 body).length : Int) + 1), .int .i64 (n % (((AL6 body).length : Int) + 1)), .int .i64 ((n % (((AL6 body).length : Int) + 1)) + 1), St' (TT6 body 5 (NN6 n body)), St' (RR6 body 5 (NN6 n body)), .int .u8 (bt (TT6 body 5 (NN6 n body)) 0), .int .i64 (((TT6 body 5 (NN6 n body)).length : Int)), St' ((RR6 body 5 (NN6 n body)) ++ abS), St' ([] : LB), .int .u8 (bt ((RR6 body 5 (NN6 n body)) ++ abS) 0), .int .i64 ((((RR6 body 5 (NN6 n body)) ++ abS).length : Int)), St' ((TT6 body 5 (NN6 n body)) ++ ((RR6 body 5 (NN6 n body)) ++ abS)), St' ((TT6 body 5 (NN6 n body)) ++ ((RR6 body 5 (NN6 n body)) ++ abS)), St' ((List.replicate (Int.toNat (512)) 0) ++ (List.replicate (Int.toNat (512)) 0)), St' ((List.replicate (Int.toNat (512)) 0) ++ ((List.replicate (Int.toNat (512)) 0) ++ (List.replicate (Int.toNat (512)) 0)))]
theorem one43 (n : Int) (body : Int) : ∀ j, j < 1000000 → (nuL (nu43 n body) j).oneCell' = true := fun j _ => nuL_one (l := nu43 n body) rfl j
theorem path43 (n : Int) (body : Int) (b0 : 0 ≤ n) (b1 : n ≤ 65535) (b2 : 0 ≤ body) (b3 : body ≤ 65535) (h0 : 512 < (body % 3000)) (h1 : 512 < (body % 3000) - 512) (h2 : 512 < (body % 3000) - 1024) (h3 : 512 < (body % 3000) - 1536) (h4 : 512 < (body % 3000) - 2048) (h8 : ¬ ((NN6 n body) ≤ LC6 body 1)) (h9 : ¬ ((NN6 n body) ≤ LC6 body 2)) (h10 : ¬ ((NN6 n body) ≤ LC6 body 3)) (h11 : ¬ ((NN6 n body) ≤ LC6 body 4)) (h12 : (NN6 n body) ≤ LC6 body 5) (w : World) (hl : laidE w) : CwR 3 #[.int .u16 n, .int .u16 body] w (.bool true) := by
  have hn0 : ([] : LB).length = 0 := rfl
  have hAL := al6 body (by omega)
  have := em6 n body
  have hNN : NN6 n body = (n % (((AL6 body).length : Int) + 1)) + 1 := rfl
  have hjk := jk6 body 5 (NN6 n body) (by decide) (fun _ => by show LC6 body 4 < (NN6 n body); omega) (.inl (by assumption))
  have hTT := tt6 body (by omega) 5 (NN6 n body) (by omega) hjk
  have ho : ∀ k r, (k, r) ∈ hy43 → HOk (cx (nuL (nu43 n body)) (one43 n body) 1 laidE laidE_stab) k r := by
    unfold hy43
    exact hc (rm3 rfl rfl (by omega)) <|
     hc (cvV tu3 rfl rfl (by omega)) <|
     hc (kZer (isX rfl) (by omega) (by omega) (denX rfl)) <|
     hc (lnR rfl rfl (by omega)) <|
     hc (gtcT rfl (by omega)) <|
     hc (rT rfl (by omega) rfl) <|
     hc (l512 rfl) <|
     hc (rD rfl rfl (by omega)) <|
     hc (lnR rfl rfl (by omega)) <|
     hc (gtcT rfl (by omega)) <|
     hc (rT rfl (by omega) rfl) <|
     hc (rD rfl rfl (by omega)) <|
     hc (lnR rfl rfl (by omega)) <|
     hc (gtcT rfl (by omega)) <|
     hc (rT rfl (by omega) rfl) <|
     hc (rD rfl rfl (by omega)) <|
     hc (lnR rfl rfl (by omega)) <|
     hc (gtcT rfl (by omega)) <|
     hc (rT rfl (by omega) rfl) <|
     hc (rD rfl rfl (by omega)) <|
     hc (lnR rfl rfl (by omega)) <|
     hc (gtcT rfl (by omega)) <|
     hc (rT rfl (by omega) rfl) <|
     hc (rD rfl rfl (by omega)) <|
     hc (lnR rfl rfl (by omega)) <|
     hc (gtcF rfl (by omega)) <|
     hc (neZ rfl (by omega)) <|
     hc (kMax (isX rfl) (isZ (m := 0) rfl) (denX rfl) (by omega)) <|
     hc (ngV rfl rfl (by omega)) <|
     hc (aG rfl rfl (by omega)) <|
     hc (byC rfl rfl (by omega)) <|
     hc (lnV rfl rfl (by omega)) <|
     hc (ftV rfl (by omega)) <|
     hc (cvV tu3 rfl rfl (by omega)) <|
     hc (c120 rfl rfl (by omega)) <|
     hc (l120 rfl rfl) <|
     hc (rmV rfl rfl rfl (by omega)) <|
     hc (adC rfl rfl (by omega)) <|
     hc (byC rfl rfl (by omega)) <|
     hc (lnV rfl rfl (by omega)) <|
     hc (ftV rfl (by omega)) <|
     hc (byC rfl rfl (by omega)) <|
     hc (lnV rfl rfl (by omega)) <|
     hc (ftV rfl (by omega)) <|
     hc (ctV rfl rfl rfl (by omega)) <|
     hc (ct0 rfl rfl (by first | omega | (rw [List.length_append]; omega) | (simp <;> omega))) <|
     hc (ct0 rfl rfl (by first | omega | (rw [List.length_append]; omega) | (simp <;> omega))) <|
     hc (eqZ rfl (by omega)) <|
     hc (kCat (isX rfl) (isX rfl) (denX rfl) (by first | rfl | (simp; done)) (by first | omega | (simp <;> omega))) <|
     hc (kCat (isX rfl) (isX rfl) (denX rfl) (by first | rfl | (simp; done)) (by first | omega | (simp <;> omega))) <|
     hnil
  exact finQ (nu := nuL (nu43 n body)) (one := one43 n body) rfl rfl ho run43 rfl rfl (dW6 (l := lfd173) (h := lhd173) body (by omega) rfl (by kernel_rfl) (zi := 6) (ri := 15) (pi := 19) rfl rfl rfl (sg0 := [(100, 78), (102, 77), (103, 76)]) (t := 20) (rr := 21) (by kernel_rfl) rfl rfl (by kernel_rfl)) rfl rfl (dD6 (l := lfd174) (h := lhd174) body (by omega) (NN6 n body) (by omega) (by omega) 5 hjk rfl (by kernel_rfl) (ni := 28) rfl (zi := 6) (ri := 15) (pi := 19) rfl rfl rfl (sg0 := [(320, 290), (322, 39), (323, 38)]) (t := 29) (rr := 30) (by kernel_rfl) rfl rfl (by kernel_rfl)) rfl rfl (dF (l := lfd175) (h := lhd175) (RR6 body 5 (NN6 n body)) (by omega) rfl (by kernel_rfl) (ri := 30) (t := 33) (rr := 34) (sg0 := [(700, 561), (702, 322), (703, 548)]) rfl (by kernel_rfl) rfl rfl (by kernel_rfl)) rfl rfl (cC6 (l := lfc176) (h := lhc176) body (by omega) 5 6 (by decide) rfl c6_5 rfl (by kernel_rfl) (xs := 38) (sg0 := [(1000, 890)]) rfl (cJ6 body 5 (NN6 n body) rfl) (by kernel_rfl) (thx := [(6, .x 20)]) (thc1 rfl) (by kernel_rfl)) w hl
def hy44 : LK := hp6 ++ [(.byt (.x 20) (i6 0), .x 22), (.len (.x 20), .x 23), (.fit (.x 20), .b true), (.conv 3 (.x 0), .x 24), (.bin .add (.x 20) (.s 1 120), .x 25), (.len (.x 25), .x 26), (.bin .rem (.x 24) (.x 26), .x 27), (.bin .add (.x 27) (i6 1), .x 28), (.byt (.x 29) (i6 0), .x 31), (.len (.x 29), .x 32), (.fit (.x 29), .b true), (.byt (.x 33) (i6 0), .x 35), (.len (.x 33), .x 36), (.fit (.x 33), .b true), (.bin .add (.x 29) (.x 33), .x 37), (.bin .add (.s 0 0) (.x 37), .x 38), (.bin .add (.s 0 0) (.x 6), .x 6), (.bin .eql (.x 6) (.s 0 0), .b false), (.bin .add (.x 6) (.x 6), .x 39), (.bin .add (.x 39) (.x 6), .x 40), (.bin .add (.x 40) (.x 6), .x 41)]
def lhd177 : LH := ⟨2, 100, 290, stG (.s 0 0) (.x 6) (.x 15) (.x 19) 42 40 41 77 76 6 0 ++ blD 78 0 0, stG (.x 21) (.x 6) (.x 15) (.x 19) 42 40 41 102 103 6 9 ++ blT 100 101 20⟩
def lfd177 : LF := ⟨2, 47, [(0, .p 42 0), (1, i6 1000000), (5, .p 78 0)], [], .exit 0, [(5, .p 100 0)], some lhd177⟩
def lhd178 : LH := ⟨2, 320, 510, stG (.s 0 0) (.x 6) (.x 15) (.x 19) 4 2 3 39 38 6 0 ++ blD 290 0 0, stG (.x 30) (.x 6) (.x 15) (.x 19) 4 2 3 322 323 6 6 ++ blT 320 321 29⟩
def lfd178 : LF := ⟨2, 47, [(0, .p 4 0), (1, .x 28), (5, .p 290 0)], [], .exit 0, [(5, .p 320 0)], some lhd178⟩
def lhd179 : LH := ⟨2, 700, 890, stH (.x 30) (.sl 552 0 1 0 true) 322 548 0 ++ blD 561 0 0, stH (.x 34) (.sl 552 0 1 0 true) 702 703 1 ++ blT 700 701 33⟩
def lfd179 : LF := ⟨2, 47, [(0, .p 4 0), (1, i6 1000000), (5, .p 561 0)], [], .exit 0, [(5, .p 700 0)], some lhd179⟩
def lhc180 : LH := ⟨2, 1000, 1060, [(890, .b ⟨79, .l [i6 65535, .x 38, .b false], 0, 0, 0, false, false⟩)], [rowK (.x 6) .und .und (ksT 6 6)]⟩
def lfc180 : LF := ⟨5, 87, [(0, .p 890 0), (6, .nils)], [], .ret, [(4, .sl 1001 0 7 0 true), (5, i6 0)], some lhc180⟩
noncomputable def tab44 : Tab := tabQ hy44 lfd177 lfd178 lfd179 lfc180
theorem run44 (e : Nat) : Go.AX.okB (call tab44 9000 3 [.x 0, .x 1] ⟨H0 e , 2, 0, 0⟩) = true := by kernel_rfl
noncomputable def nu44 (n : Int) (body : Int) : List Value := pn6 n body ++ [St' (AL6 body), St' ([] : LB), .int .u8 (bt (AL6 body) 0), .int .i64 (((AL6 body).length : Int)), .int .i64 (n), St' ((AL6 body) ++ [u8 120]), .int .i64 (((AL6 body).length : Int) + 1), .int .i64 (n % (((AL6 body).length : Int) + 1)), .int .i64 ((n % (((AL6 body).length : Int) + 1)) + 1), St' (TT6 body 6 (NN6 n body)), St' (RR6 body 6 (NN6 n body)), .int .u8 (bt (TT6 body 6 (NN6 n body)) 0), .int .i64 (((TT6 body 6 (NN6 n body)).length : Int)), St' ((RR6 body 6 (NN6 n body)) ++ abS), St' ([] : LB), .int .u8 (bt ((RR6 body 6 (NN6 n body)) ++ abS) 0), .int .i64 ((((RR6 body 6 (NN6 n body)) ++ abS).length : Int)), St' ((TT6 body 6 (NN6 n body)) ++ ((RR6 body 6 (NN6 n body)) ++ abS)), St' ((TT6 body 6 (NN6 n body)) ++ ((RR6 body 6 (NN6 n body)) ++ abS)), St' ((List.replicate (Int.toNat (512)) 0) ++ (List.replicate (Int.toNat (512)) 0)), St' ((List.replicate (Int.toNat (512)) 0) ++ ((List.replicate (Int.toNat (512)) 0) ++ (List.replicate (Int.toNat (512)) 0))), St' ((List.replicate (Int.toNat (512)) 0) ++ ((List.replicate (Int.toNat (512)) 0) ++ ((List.replicate (Int.toNat (512)) 0) ++ (List.replicate (Int.toNat (512)) 0))))]
theorem one44 (n : Int) (body : Int) : ∀ j, j < 1000000 → (nuL (nu44 n body) j).oneCell' = true := fun j _ => nuL_one (l := nu44 n body) rfl j
theorem path44 (n : Int) (body : Int) (b0 : 0 ≤ n) (b1 : n ≤ 65535) (b2 : 0 ≤ body) (b3 : body ≤ 65535) (h0 : 512 < (body % 3000)) (h1 : 512 < (body % 3000) - 512) (h2 : 512 < (body % 3000) - 1024) (h3 : 512 < (body % 3000) - 1536) (h4 : 512 < (body % 3000) - 2048) (h8 : ¬ ((NN6 n body) ≤ LC6 body 1)) (h9 : ¬ ((NN6 n body) ≤ LC6 body 2)) (h10 : ¬ ((NN6 n body) ≤ LC6 body 3)) (h11 : ¬ ((NN6 n body) ≤ LC6 body 4)) (h12 : ¬ ((NN6 n body) ≤ LC6 body 5)) (h13 : (NN6 n body) ≤ LC6 body 6) (w : World) (hl : laidE w) : CwR 3 #[.int .u16 n, .int .u16 body] w (.bool true) := by
  have hn0 : ([] : LB).length = 0 := rfl
  have hAL := al6 body (by omega)
  have := em6 n body
  have hNN : NN6 n body = (n % (((AL6 body).length : Int) + 1)) + 1 := rfl
  have hjk := jk6 body 6 (NN6 n body) (by decide) (fun _ => by show LC6 body 5 < (NN6 n body); omega) (.inl (by assumption))
  have hTT := tt6 body (by omega) 6 (NN6 n body) (by omega) hjk
  have ho : ∀ k r, (k, r) ∈ hy44 → HOk (cx (nuL (nu44 n body)) (one44 n body) 1 laidE laidE_stab) k r := by
    unfold hy44
    exact hc (rm3 rfl rfl (by omega)) <|
     hc (cvV tu3 rfl rfl (by omega)) <|
     hc (kZer (isX rfl) (by omega) (by omega) (denX rfl)) <|
     hc (lnR rfl rfl (by omega)) <|
     hc (gtcT rfl (by omega)) <|
     hc (rT rfl (by omega) rfl) <|
     hc (l512 rfl) <|
     hc (rD rfl rfl (by omega)) <|
     hc (lnR rfl rfl (by omega)) <|
     hc (gtcT rfl (by omega)) <|
     hc (rT rfl (by omega) rfl) <|
     hc (rD rfl rfl (by omega)) <|
     hc (lnR rfl rfl (by omega)) <|
     hc (gtcT rfl (by omega)) <|
     hc (rT rfl (by omega) rfl) <|
     hc (rD rfl rfl (by omega)) <|
     hc (lnR rfl rfl (by omega)) <|
     hc (gtcT rfl (by omega)) <|
     hc (rT rfl (by omega) rfl) <|
     hc (rD rfl rfl (by omega)) <|
     hc (lnR rfl rfl (by omega)) <|
     hc (gtcT rfl (by omega)) <|
     hc (rT rfl (by omega) rfl) <|
     hc (rD rfl rfl (by omega)) <|
     hc (lnR rfl rfl (by omega)) <|
     hc (gtcF rfl (by omega)) <|
     hc (neZ rfl (by omega)) <|
     hc (kMax (isX rfl) (isZ (m := 0) rfl) (denX rfl) (by omega)) <|
     hc (ngV rfl rfl (by omega)) <|
     hc (aG rfl rfl (by omega)) <|
     hc (byC rfl rfl (by omega)) <|
     hc (lnV rfl rfl (by omega)) <|
     hc (ftV rfl (by omega)) <|
     hc (cvV tu3 rfl rfl (by omega)) <|
     hc (c120 rfl rfl (by omega)) <|
     hc (l120 rfl rfl) <|
     hc (rmV rfl rfl rfl (by omega)) <|
     hc (adC rfl rfl (by omega)) <|
     hc (byC rfl rfl (by omega)) <|
     hc (lnV rfl rfl (by omega)) <|
     hc (ftV rfl (by omega)) <|
     hc (byC rfl rfl (by omega)) <|
     hc (lnV rfl rfl (by omega)) <|
     hc (ftV rfl (by omega)) <|
     hc (ctV rfl rfl rfl (by omega)) <|
     hc (ct0 rfl rfl (by first | omega | (rw [List.length_append]; omega) | (simp <;> omega))) <|
     hc (ct0 rfl rfl (by first | omega | (rw [List.length_append]; omega) | (simp <;> omega))) <|
     hc (eqZ rfl (by omega)) <|
     hc (kCat (isX rfl) (isX rfl) (denX rfl) (by first | rfl | (simp; done)) (by first | omega | (simp <;> omega))) <|
     hc (kCat (isX rfl) (isX rfl) (denX rfl) (by first | rfl | (simp; done)) (by first | omega | (simp <;> omega))) <|
     hc (kCat (isX rfl) (isX rfl) (denX rfl) (by first | rfl | (simp; done)) (by first | omega | (simp <;> omega))) <|
     hnil
  exact finQ (nu := nuL (nu44 n body)) (one := one44 n body) rfl rfl ho run44 rfl rfl (dW6 (l := lfd177) (h := lhd177) body (by omega) rfl (by kernel_rfl) (zi := 6) (ri := 15) (pi := 19) rfl rfl rfl (sg0 := [(100, 78), (102, 77), (103, 76)]) (t := 20) (rr := 21) (by kernel_rfl) rfl rfl (by kernel_rfl)) rfl rfl (dD6 (l := lfd178) (h := lhd178) body (by omega) (NN6 n body) (by omega) (by omega) 6 hjk rfl (by kernel_rfl) (ni := 28) rfl (zi := 6) (ri := 15) (pi := 19) rfl rfl rfl (sg0 := [(320, 290), (322, 39), (323, 38)]) (t := 29) (rr := 30) (by kernel_rfl) rfl rfl (by kernel_rfl)) rfl rfl (dF (l := lfd179) (h := lhd179) (RR6 body 6 (NN6 n body)) (by omega) rfl (by kernel_rfl) (ri := 30) (t := 33) (rr := 34) (sg0 := [(700, 561), (702, 322), (703, 548)]) rfl (by kernel_rfl) rfl rfl (by kernel_rfl)) rfl rfl (cC6 (l := lfc180) (h := lhc180) body (by omega) 6 7 (by decide) rfl c6_6 rfl (by kernel_rfl) (xs := 38) (sg0 := [(1000, 890)]) rfl (cJ6 body 6 (NN6 n body) rfl) (by kernel_rfl) (thx := [(6, .x 20)]) (thc1 rfl) (by kernel_rfl)) w hl
end Go.Proofs.YtaihihejljcniaaGreatDoor.muxEarly
