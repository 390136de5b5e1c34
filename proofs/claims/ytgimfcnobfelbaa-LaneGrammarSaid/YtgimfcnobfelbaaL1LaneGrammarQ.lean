/- A part of the proof: an interpreter of the model's own code on partly known states, and that what it answers is what the program answers. No condition of its own. -/
import Derived.Test.YtgimfcnobfelbaaL1LaneGrammarR0
import Derived.Test.YtgimfcnobfelbaaL1LaneGrammarR1
import Derived.Test.YtgimfcnobfelbaaL1LaneGrammarR2
import Derived.Test.YtgimfcnobfelbaaL1LaneGrammarR3
import Derived.Test.YtgimfcnobfelbaaL1LaneGrammarR4
import Derived.Test.YtgimfcnobfelbaaL1LaneGrammarR5
import Derived.Test.YtgimfcnobfelbaaL1LaneGrammarR6
import Derived.Test.YtgimfcnobfelbaaL1LaneGrammarR7
set_option maxRecDepth 100000
set_option linter.unusedVariables false
set_option linter.unusedSimpArgs false
set_option maxHeartbeats 4000000
namespace Go.Proofs.Ytgimfcnobfelbaa.laneGrammar
open Go Go.AX Go.Proofs Go.Proofs.Ytgimfcnobfelbaa
theorem rnAll (t : Nat) (h : t < 162) : rnA t = true := by
  rcases (show t / 4 = 0 ∨ t / 4 = 1 ∨ t / 4 = 2 ∨ t / 4 = 3 ∨ t / 4 = 4 ∨ t / 4 = 5 ∨ t / 4 = 6 ∨ t / 4 = 7 ∨ t / 4 = 8 ∨ t / 4 = 9 ∨ t / 4 = 10 ∨ t / 4 = 11 ∨ t / 4 = 12 ∨ t / 4 = 13 ∨ t / 4 = 14 ∨ t / 4 = 15 ∨ t / 4 = 16 ∨ t / 4 = 17 ∨ t / 4 = 18 ∨ t / 4 = 19 ∨ t / 4 = 20 ∨ t / 4 = 21 ∨ t / 4 = 22 ∨ t / 4 = 23 ∨ t / 4 = 24 ∨ t / 4 = 25 ∨ t / 4 = 26 ∨ t / 4 = 27 ∨ t / 4 = 28 ∨ t / 4 = 29 ∨ t / 4 = 30 ∨ t / 4 = 31 ∨ t / 4 = 32 ∨ t / 4 = 33 ∨ t / 4 = 34 ∨ t / 4 = 35 ∨ t / 4 = 36 ∨ t / 4 = 37 ∨ t / 4 = 38 ∨ t / 4 = 39 ∨ t / 4 = 40 by omega) with h0 | h0 | h0 | h0 | h0 | h0 | h0 | h0 | h0 | h0 | h0 | h0 | h0 | h0 | h0 | h0 | h0 | h0 | h0 | h0 | h0 | h0 | h0 | h0 | h0 | h0 | h0 | h0 | h0 | h0 | h0 | h0 | h0 | h0 | h0 | h0 | h0 | h0 | h0 | h0 | h0
  · exact allN_at rl0 t (by omega) (by omega)
  · exact allN_at rl4 t (by omega) (by omega)
  · exact allN_at rl8 t (by omega) (by omega)
  · exact allN_at rl12 t (by omega) (by omega)
  · exact allN_at rl16 t (by omega) (by omega)
  · exact allN_at rl20 t (by omega) (by omega)
  · exact allN_at rl24 t (by omega) (by omega)
  · exact allN_at rl28 t (by omega) (by omega)
  · exact allN_at rl32 t (by omega) (by omega)
  · exact allN_at rl36 t (by omega) (by omega)
  · exact allN_at rl40 t (by omega) (by omega)
  · exact allN_at rl44 t (by omega) (by omega)
  · exact allN_at rl48 t (by omega) (by omega)
  · exact allN_at rl52 t (by omega) (by omega)
  · exact allN_at rl56 t (by omega) (by omega)
  · exact allN_at rl60 t (by omega) (by omega)
  · exact allN_at rl64 t (by omega) (by omega)
  · exact allN_at rl68 t (by omega) (by omega)
  · exact allN_at rl72 t (by omega) (by omega)
  · exact allN_at rl76 t (by omega) (by omega)
  · exact allN_at rl80 t (by omega) (by omega)
  · exact allN_at rl84 t (by omega) (by omega)
  · exact allN_at rl88 t (by omega) (by omega)
  · exact allN_at rl92 t (by omega) (by omega)
  · exact allN_at rl96 t (by omega) (by omega)
  · exact allN_at rl100 t (by omega) (by omega)
  · exact allN_at rl104 t (by omega) (by omega)
  · exact allN_at rl108 t (by omega) (by omega)
  · exact allN_at rl112 t (by omega) (by omega)
  · exact allN_at rl116 t (by omega) (by omega)
  · exact allN_at rl120 t (by omega) (by omega)
  · exact allN_at rl124 t (by omega) (by omega)
  · exact allN_at rl128 t (by omega) (by omega)
  · exact allN_at rl132 t (by omega) (by omega)
  · exact allN_at rl136 t (by omega) (by omega)
  · exact allN_at rl140 t (by omega) (by omega)
  · exact allN_at rl144 t (by omega) (by omega)
  · exact allN_at rl148 t (by omega) (by omega)
  · exact allN_at rl152 t (by omega) (by omega)
  · exact allN_at rl156 t (by omega) (by omega)
  · exact allN_at rl160 t (by omega) (by omega)
def nuD (i : Int) (c1 c2 c3 cl : LB) (pl n zl w ty id : Int) (co : LB) (pd : Int) : List Value := [.int .i64 (i), St' c1, St' c2, St' c3, St' cl, .int .i64 (pl), .int .i64 (n), .int .i64 (zl), .int .i64 (w), .int .i64 (ty), .int .i64 (id), St' co, .int .i64 (pd), .int .i64 (i + 1), .int .i64 (n + 1), .int .i64 ((co.length : Int)), .int .u8 (bt co 0), .int .u32 ((bt co 0)), .int .u32 ((bt co 0) * 16777216), .int .u8 (bt co 1), .int .u32 ((bt co 1)), .int .u32 ((bt co 1) * 65536), .int .u32 ((bt co 0) * 16777216 + (bt co 1) * 65536), .int .u8 (bt co 2), .int .u32 ((bt co 2)), .int .u32 ((bt co 2) * 256), .int .u32 ((bt co 0) * 16777216 + (bt co 1) * 65536 + (bt co 2) * 256), .int .u8 (bt co 3), .int .u32 ((bt co 3)), .int .u32 ((bt co 0) * 16777216 + (bt co 1) * 65536 + (bt co 2) * 256 + (bt co 3)), .int .u8 (bt co 4), .int .i64 ((bt co 4))]
noncomputable def DL (z : List (Int × Int × Int × LB × Int)) (i : Int) (c1 c2 c3 cl : LB) (pl n zl w ty id : Int) (co : LB) (pd : Int) (X : Nat → Value) : Cx := cx (nuX (nuD i c1 c2 c3 cl pl n zl w ty id co pd) (rX [rwG stC z] X)) (nuX_one (nuL_one (l := nuD i c1 c2 c3 cl pl n zl w ty id co pd) rfl)) 0 laidE laidE_stab
noncomputable def EL : Cx := cx (nuL []) (fun j _ => nuL_one (l := []) rfl j) 0 laidE laidE_stab
noncomputable def DS (z : List (Int × Int × Int × LB × Int)) (c1 c2 c3 cl : LB) (pl : Int) (st : Nat × Int × Int) (X : Nat → Value) : Cx := DL z st.2.1 c1 c2 c3 cl pl st.2.2 (z.length : Int) (nthS z st.2.1.toNat).1 (nthS z st.2.1.toNat).2.1 (nthS z st.2.1.toNat).2.2.1 (nthS z st.2.1.toNat).2.2.2.1 (nthS z st.2.1.toNat).2.2.2.2 X
def InvL (z : List (Int × Int × Int × LB × Int)) (st : Nat × Int × Int) : Prop := st.1 < 162 ∧ 0 ≤ st.2.1 ∧ st.2.1 ≤ (z.length : Int) ∧ 1 ≤ st.2.2 ∧ st.2.2 ≤ 8
def muL (z : List (Int × Int × Int × LB × Int)) (st : Nat × Int × Int) : Nat := z.length - st.2.1.toNat
def nQ (nj : Nat) (n : Int) : Int := cond (Nat.beq nj 0) n (Int.ofNat nj)
theorem ebL (t : Nat) : (lfB (epT t) && lfC []) = true := by
  have h : eps.all (fun e => lfB e && lfC []) = true := by kernel_rfl
  unfold epT
  rw [List.getD_eq_getElem?_getD]
  cases hq : eps[t]? with
  | none => rfl
  | some e => exact List.all_eq_true.1 h e (List.mem_of_getElem? hq)
theorem hq0 {z : List (Int × Int × Int × LB × Int)} {i : Int} {c1 c2 c3 cl : LB} {pl n zl w ty id : Int} {co : LB} {pd : Int} {X : Nat → Value} (z0 : z.length ≤ 60) (i0 : 0 ≤ i) (n0 : 1 ≤ n) (n8 : n ≤ 8) (hzl : zl = (z.length : Int)) (hw : (nthS z i.toNat).1 = w) (hty : (nthS z i.toNat).2.1 = ty) (hid : (nthS z i.toNat).2.2.1 = id) (hco : (nthS z i.toNat).2.2.2.1 = co) (hpd : (nthS z i.toNat).2.2.2.2 = pd) (hB : stB (nthS z i.toNat)) (d0 : ¬ (i < zl)) : ∀ k r, (k, r) ∈ hyQ 0 → HOk (DL z i c1 c2 c3 cl pl n zl w ty id co pd X) k r := by
  obtain ⟨bw, bty, bid, bco, bpd⟩ := hB
  rw [hw] at bw; rw [hty] at bty; rw [hid] at bid; rw [hco] at bco; rw [hpd] at bpd
  show ∀ k r, (k, r) ∈ ([(.rl (.x 2000000) 5, .x 7), (.bin .lss (.x 0) (.x 7), .b false)] : LK) → HOk (DL z i c1 c2 c3 cl pl n zl w ty id co pd X) k r
  exact hc (kRlG stC_len (isX rfl) (denX rfl) (by omega)) <|
    hc (kLt (isX rfl) (isX rfl) (decide_eq_false (by omega))) <|
    hnil
theorem hq1 {z : List (Int × Int × Int × LB × Int)} {i : Int} {c1 c2 c3 cl : LB} {pl n zl w ty id : Int} {co : LB} {pd : Int} {X : Nat → Value} (z0 : z.length ≤ 60) (i0 : 0 ≤ i) (n0 : 1 ≤ n) (n8 : n ≤ 8) (hzl : zl = (z.length : Int)) (hw : (nthS z i.toNat).1 = w) (hty : (nthS z i.toNat).2.1 = ty) (hid : (nthS z i.toNat).2.2.1 = id) (hco : (nthS z i.toNat).2.2.2.1 = co) (hpd : (nthS z i.toNat).2.2.2.2 = pd) (hB : stB (nthS z i.toNat)) (d0 : i < zl) (d1 : w ≤ 3) : ∀ k r, (k, r) ∈ hyQ 1 → HOk (DL z i c1 c2 c3 cl pl n zl w ty id co pd X) k r := by
  obtain ⟨bw, bty, bid, bco, bpd⟩ := hB
  rw [hw] at bw; rw [hty] at bty; rw [hid] at bid; rw [hco] at bco; rw [hpd] at bpd
  show ∀ k r, (k, r) ∈ ([(.rl (.x 2000000) 5, .x 7), (.bin .lss (.x 0) (.x 7), .b true), (.el (.x 2000000) (.x 0) 5 0, .x 8), (.el (.x 2000000) (.x 0) 5 1, .x 9), (.el (.x 2000000) (.x 0) 5 2, .x 10), (.el (.x 2000000) (.x 0) 5 3, .x 11), (.el (.x 2000000) (.x 0) 5 4, .x 12), (.bin .leq (.x 8) (.i .i64 (.ofNat 3)), .b true), (.bin .add (.x 0) (.i .i64 (.ofNat 1)), .x 13), (.bin .eql (.x 6) (.i .i64 (.ofNat 0)), .b false), (.bin .add (.x 6) (.i .i64 (.ofNat 1)), .x 14), (.eq 9 (.x 1) (.x 1), .b true), (.eq 9 (.x 2) (.x 2), .b true), (.eq 9 (.x 3) (.x 3), .b true), (.eq 9 (.x 4) (.x 4), .b true), (.eq 3 (.x 5) (.x 5), .b true)] : LK) → HOk (DL z i c1 c2 c3 cl pl n zl w ty id co pd X) k r
  exact hc (kRlG stC_len (isX rfl) (denX rfl) (by omega)) <|
    hc (kLt (isX rfl) (isX rfl) (decide_eq_true (by omega))) <|
    hc (kElG (j := Int.toNat i) (off := 0) (d := (0, 0, 0, [], 0)) stC_len (by decide) (isX rfl) (isX rfl) (denX rfl) (by omega) (by omega) (by rw [← hw]; rfl)) <|
    hc (kElG (j := Int.toNat i) (off := 1) (d := (0, 0, 0, [], 0)) stC_len (by decide) (isX rfl) (isX rfl) (denX rfl) (by omega) (by omega) (by rw [← hty]; rfl)) <|
    hc (kElG (j := Int.toNat i) (off := 2) (d := (0, 0, 0, [], 0)) stC_len (by decide) (isX rfl) (isX rfl) (denX rfl) (by omega) (by omega) (by rw [← hid]; rfl)) <|
    hc (kElG (j := Int.toNat i) (off := 3) (d := (0, 0, 0, [], 0)) stC_len (by decide) (isX rfl) (isX rfl) (denX rfl) (by omega) (by omega) (by rw [← hco]; rfl)) <|
    hc (kElG (j := Int.toNat i) (off := 4) (d := (0, 0, 0, [], 0)) stC_len (by decide) (isX rfl) (isX rfl) (denX rfl) (by omega) (by omega) (by rw [← hpd]; rfl)) <|
    hc (kLe (isX rfl) (isZ (m := 3) rfl) (decide_eq_true (by omega))) <|
    hc (kAdd (isX rfl) (isZ (m := 1) rfl) (denX rfl) (by omega) (fI64 (by omega) (by omega))) <|
    hc (kEqI (isX rfl) (isZ (m := 0) rfl) (decide_eq_false (by omega))) <|
    hc (kAdd (isX rfl) (isZ (m := 1) rfl) (denX rfl) (by omega) (fI64 (by omega) (by omega))) <|
    hc (kEqTS (isX rfl) (isX rfl) tv9 (decide_eq_true rfl)) <|
    hc (kEqTS (isX rfl) (isX rfl) tv9 (decide_eq_true rfl)) <|
    hc (kEqTS (isX rfl) (isX rfl) tv9 (decide_eq_true rfl)) <|
    hc (kEqTS (isX rfl) (isX rfl) tv9 (decide_eq_true rfl)) <|
    hc (kEqT (isX rfl) (isX rfl) tv3 (decide_eq_true (by omega))) <|
    hnil
theorem hq2 {z : List (Int × Int × Int × LB × Int)} {i : Int} {c1 c2 c3 cl : LB} {pl n zl w ty id : Int} {co : LB} {pd : Int} {X : Nat → Value} (z0 : z.length ≤ 60) (i0 : 0 ≤ i) (n0 : 1 ≤ n) (n8 : n ≤ 8) (hzl : zl = (z.length : Int)) (hw : (nthS z i.toNat).1 = w) (hty : (nthS z i.toNat).2.1 = ty) (hid : (nthS z i.toNat).2.2.1 = id) (hco : (nthS z i.toNat).2.2.2.1 = co) (hpd : (nthS z i.toNat).2.2.2.2 = pd) (hB : stB (nthS z i.toNat)) (d0 : i < zl) (d1 : ¬ (w ≤ 3)) (d2 : w = 4) : ∀ k r, (k, r) ∈ hyQ 2 → HOk (DL z i c1 c2 c3 cl pl n zl w ty id co pd X) k r := by
  obtain ⟨bw, bty, bid, bco, bpd⟩ := hB
  rw [hw] at bw; rw [hty] at bty; rw [hid] at bid; rw [hco] at bco; rw [hpd] at bpd
  show ∀ k r, (k, r) ∈ ([(.rl (.x 2000000) 5, .x 7), (.bin .lss (.x 0) (.x 7), .b true), (.el (.x 2000000) (.x 0) 5 0, .x 8), (.el (.x 2000000) (.x 0) 5 1, .x 9), (.el (.x 2000000) (.x 0) 5 2, .x 10), (.el (.x 2000000) (.x 0) 5 3, .x 11), (.el (.x 2000000) (.x 0) 5 4, .x 12), (.bin .leq (.x 8) (.i .i64 (.ofNat 3)), .b false), (.bin .eql (.x 8) (.i .i64 (.ofNat 4)), .b true), (.bin .add (.x 0) (.i .i64 (.ofNat 1)), .x 13)] : LK) → HOk (DL z i c1 c2 c3 cl pl n zl w ty id co pd X) k r
  exact hc (kRlG stC_len (isX rfl) (denX rfl) (by omega)) <|
    hc (kLt (isX rfl) (isX rfl) (decide_eq_true (by omega))) <|
    hc (kElG (j := Int.toNat i) (off := 0) (d := (0, 0, 0, [], 0)) stC_len (by decide) (isX rfl) (isX rfl) (denX rfl) (by omega) (by omega) (by rw [← hw]; rfl)) <|
    hc (kElG (j := Int.toNat i) (off := 1) (d := (0, 0, 0, [], 0)) stC_len (by decide) (isX rfl) (isX rfl) (denX rfl) (by omega) (by omega) (by rw [← hty]; rfl)) <|
    hc (kElG (j := Int.toNat i) (off := 2) (d := (0, 0, 0, [], 0)) stC_len (by decide) (isX rfl) (isX rfl) (denX rfl) (by omega) (by omega) (by rw [← hid]; rfl)) <|
    hc (kElG (j := Int.toNat i) (off := 3) (d := (0, 0, 0, [], 0)) stC_len (by decide) (isX rfl) (isX rfl) (denX rfl) (by omega) (by omega) (by rw [← hco]; rfl)) <|
    hc (kElG (j := Int.toNat i) (off := 4) (d := (0, 0, 0, [], 0)) stC_len (by decide) (isX rfl) (isX rfl) (denX rfl) (by omega) (by omega) (by rw [← hpd]; rfl)) <|
    hc (kLe (isX rfl) (isZ (m := 3) rfl) (decide_eq_false (by omega))) <|
    hc (kEqI (isX rfl) (isZ (m := 4) rfl) (decide_eq_true (by omega))) <|
    hc (kAdd (isX rfl) (isZ (m := 1) rfl) (denX rfl) (by omega) (fI64 (by omega) (by omega))) <|
    hnil
theorem hq3 {z : List (Int × Int × Int × LB × Int)} {i : Int} {c1 c2 c3 cl : LB} {pl n zl w ty id : Int} {co : LB} {pd : Int} {X : Nat → Value} (z0 : z.length ≤ 60) (i0 : 0 ≤ i) (n0 : 1 ≤ n) (n8 : n ≤ 8) (hzl : zl = (z.length : Int)) (hw : (nthS z i.toNat).1 = w) (hty : (nthS z i.toNat).2.1 = ty) (hid : (nthS z i.toNat).2.2.1 = id) (hco : (nthS z i.toNat).2.2.2.1 = co) (hpd : (nthS z i.toNat).2.2.2.2 = pd) (hB : stB (nthS z i.toNat)) (d0 : i < zl) (d1 : ¬ (w ≤ 3)) (d2 : ¬ (w = 4)) (d3 : ty = 6) (d4 : (co.length : Int) = 0) : ∀ k r, (k, r) ∈ hyQ 3 → HOk (DL z i c1 c2 c3 cl pl n zl w ty id co pd X) k r := by
  obtain ⟨bw, bty, bid, bco, bpd⟩ := hB
  rw [hw] at bw; rw [hty] at bty; rw [hid] at bid; rw [hco] at bco; rw [hpd] at bpd
  show ∀ k r, (k, r) ∈ ([(.rl (.x 2000000) 5, .x 7), (.bin .lss (.x 0) (.x 7), .b true), (.el (.x 2000000) (.x 0) 5 0, .x 8), (.el (.x 2000000) (.x 0) 5 1, .x 9), (.el (.x 2000000) (.x 0) 5 2, .x 10), (.el (.x 2000000) (.x 0) 5 3, .x 11), (.el (.x 2000000) (.x 0) 5 4, .x 12), (.bin .leq (.x 8) (.i .i64 (.ofNat 3)), .b false), (.bin .eql (.x 8) (.i .i64 (.ofNat 4)), .b false), (.bin .eql (.x 9) (.i .i64 (.ofNat 6)), .b true), (.bin .eql (.x 11) (.s 0 0), .b true), (.bin .add (.x 0) (.i .i64 (.ofNat 1)), .x 13)] : LK) → HOk (DL z i c1 c2 c3 cl pl n zl w ty id co pd X) k r
  exact hc (kRlG stC_len (isX rfl) (denX rfl) (by omega)) <|
    hc (kLt (isX rfl) (isX rfl) (decide_eq_true (by omega))) <|
    hc (kElG (j := Int.toNat i) (off := 0) (d := (0, 0, 0, [], 0)) stC_len (by decide) (isX rfl) (isX rfl) (denX rfl) (by omega) (by omega) (by rw [← hw]; rfl)) <|
    hc (kElG (j := Int.toNat i) (off := 1) (d := (0, 0, 0, [], 0)) stC_len (by decide) (isX rfl) (isX rfl) (denX rfl) (by omega) (by omega) (by rw [← hty]; rfl)) <|
    hc (kElG (j := Int.toNat i) (off := 2) (d := (0, 0, 0, [], 0)) stC_len (by decide) (isX rfl) (isX rfl) (denX rfl) (by omega) (by omega) (by rw [← hid]; rfl)) <|
    hc (kElG (j := Int.toNat i) (off := 3) (d := (0, 0, 0, [], 0)) stC_len (by decide) (isX rfl) (isX rfl) (denX rfl) (by omega) (by omega) (by rw [← hco]; rfl)) <|
    hc (kElG (j := Int.toNat i) (off := 4) (d := (0, 0, 0, [], 0)) stC_len (by decide) (isX rfl) (isX rfl) (denX rfl) (by omega) (by omega) (by rw [← hpd]; rfl)) <|
    hc (kLe (isX rfl) (isZ (m := 3) rfl) (decide_eq_false (by omega))) <|
    hc (kEqI (isX rfl) (isZ (m := 4) rfl) (decide_eq_false (by omega))) <|
    hc (kEqI (isX rfl) (isZ (m := 6) rfl) (decide_eq_true (by omega))) <|
    hc (kEqS (isX rfl) (isSx (l := ([] : LB)) 0 0 rfl) (nilT (by omega))) <|
    hc (kAdd (isX rfl) (isZ (m := 1) rfl) (denX rfl) (by omega) (fI64 (by omega) (by omega))) <|
    hnil
theorem hq4 {z : List (Int × Int × Int × LB × Int)} {i : Int} {c1 c2 c3 cl : LB} {pl n zl w ty id : Int} {co : LB} {pd : Int} {X : Nat → Value} (z0 : z.length ≤ 60) (i0 : 0 ≤ i) (n0 : 1 ≤ n) (n8 : n ≤ 8) (hzl : zl = (z.length : Int)) (hw : (nthS z i.toNat).1 = w) (hty : (nthS z i.toNat).2.1 = ty) (hid : (nthS z i.toNat).2.2.1 = id) (hco : (nthS z i.toNat).2.2.2.1 = co) (hpd : (nthS z i.toNat).2.2.2.2 = pd) (hB : stB (nthS z i.toNat)) (d0 : i < zl) (d1 : ¬ (w ≤ 3)) (d2 : ¬ (w = 4)) (d3 : ty = 6) (d4 : ¬ ((co.length : Int) = 0)) : ∀ k r, (k, r) ∈ hyQ 4 → HOk (DL z i c1 c2 c3 cl pl n zl w ty id co pd X) k r := by
  obtain ⟨bw, bty, bid, bco, bpd⟩ := hB
  rw [hw] at bw; rw [hty] at bty; rw [hid] at bid; rw [hco] at bco; rw [hpd] at bpd
  show ∀ k r, (k, r) ∈ ([(.rl (.x 2000000) 5, .x 7), (.bin .lss (.x 0) (.x 7), .b true), (.el (.x 2000000) (.x 0) 5 0, .x 8), (.el (.x 2000000) (.x 0) 5 1, .x 9), (.el (.x 2000000) (.x 0) 5 2, .x 10), (.el (.x 2000000) (.x 0) 5 3, .x 11), (.el (.x 2000000) (.x 0) 5 4, .x 12), (.bin .leq (.x 8) (.i .i64 (.ofNat 3)), .b false), (.bin .eql (.x 8) (.i .i64 (.ofNat 4)), .b false), (.bin .eql (.x 9) (.i .i64 (.ofNat 6)), .b true), (.bin .eql (.x 11) (.s 0 0), .b false), (.bin .add (.x 0) (.i .i64 (.ofNat 1)), .x 13)] : LK) → HOk (DL z i c1 c2 c3 cl pl n zl w ty id co pd X) k r
  exact hc (kRlG stC_len (isX rfl) (denX rfl) (by omega)) <|
    hc (kLt (isX rfl) (isX rfl) (decide_eq_true (by omega))) <|
    hc (kElG (j := Int.toNat i) (off := 0) (d := (0, 0, 0, [], 0)) stC_len (by decide) (isX rfl) (isX rfl) (denX rfl) (by omega) (by omega) (by rw [← hw]; rfl)) <|
    hc (kElG (j := Int.toNat i) (off := 1) (d := (0, 0, 0, [], 0)) stC_len (by decide) (isX rfl) (isX rfl) (denX rfl) (by omega) (by omega) (by rw [← hty]; rfl)) <|
    hc (kElG (j := Int.toNat i) (off := 2) (d := (0, 0, 0, [], 0)) stC_len (by decide) (isX rfl) (isX rfl) (denX rfl) (by omega) (by omega) (by rw [← hid]; rfl)) <|
    hc (kElG (j := Int.toNat i) (off := 3) (d := (0, 0, 0, [], 0)) stC_len (by decide) (isX rfl) (isX rfl) (denX rfl) (by omega) (by omega) (by rw [← hco]; rfl)) <|
    hc (kElG (j := Int.toNat i) (off := 4) (d := (0, 0, 0, [], 0)) stC_len (by decide) (isX rfl) (isX rfl) (denX rfl) (by omega) (by omega) (by rw [← hpd]; rfl)) <|
    hc (kLe (isX rfl) (isZ (m := 3) rfl) (decide_eq_false (by omega))) <|
    hc (kEqI (isX rfl) (isZ (m := 4) rfl) (decide_eq_false (by omega))) <|
    hc (kEqI (isX rfl) (isZ (m := 6) rfl) (decide_eq_true (by omega))) <|
    hc (kEqS (isX rfl) (isSx (l := ([] : LB)) 0 0 rfl) (nilF (by omega))) <|
    hc (kAdd (isX rfl) (isZ (m := 1) rfl) (denX rfl) (by omega) (fI64 (by omega) (by omega))) <|
    hnil
theorem hq5 {z : List (Int × Int × Int × LB × Int)} {i : Int} {c1 c2 c3 cl : LB} {pl n zl w ty id : Int} {co : LB} {pd : Int} {X : Nat → Value} (z0 : z.length ≤ 60) (i0 : 0 ≤ i) (n0 : 1 ≤ n) (n8 : n ≤ 8) (hzl : zl = (z.length : Int)) (hw : (nthS z i.toNat).1 = w) (hty : (nthS z i.toNat).2.1 = ty) (hid : (nthS z i.toNat).2.2.1 = id) (hco : (nthS z i.toNat).2.2.2.1 = co) (hpd : (nthS z i.toNat).2.2.2.2 = pd) (hB : stB (nthS z i.toNat)) (d0 : i < zl) (d1 : ¬ (w ≤ 3)) (d2 : ¬ (w = 4)) (d3 : ¬ (ty = 6)) (d4 : ty = 7) (d5 : (co.length : Int) = 0) : ∀ k r, (k, r) ∈ hyQ 5 → HOk (DL z i c1 c2 c3 cl pl n zl w ty id co pd X) k r := by
  obtain ⟨bw, bty, bid, bco, bpd⟩ := hB
  rw [hw] at bw; rw [hty] at bty; rw [hid] at bid; rw [hco] at bco; rw [hpd] at bpd
  show ∀ k r, (k, r) ∈ ([(.rl (.x 2000000) 5, .x 7), (.bin .lss (.x 0) (.x 7), .b true), (.el (.x 2000000) (.x 0) 5 0, .x 8), (.el (.x 2000000) (.x 0) 5 1, .x 9), (.el (.x 2000000) (.x 0) 5 2, .x 10), (.el (.x 2000000) (.x 0) 5 3, .x 11), (.el (.x 2000000) (.x 0) 5 4, .x 12), (.bin .leq (.x 8) (.i .i64 (.ofNat 3)), .b false), (.bin .eql (.x 8) (.i .i64 (.ofNat 4)), .b false), (.bin .eql (.x 9) (.i .i64 (.ofNat 6)), .b false), (.bin .eql (.x 9) (.i .i64 (.ofNat 7)), .b true), (.bin .eql (.x 11) (.s 0 0), .b true), (.bin .add (.x 0) (.i .i64 (.ofNat 1)), .x 13)] : LK) → HOk (DL z i c1 c2 c3 cl pl n zl w ty id co pd X) k r
  exact hc (kRlG stC_len (isX rfl) (denX rfl) (by omega)) <|
    hc (kLt (isX rfl) (isX rfl) (decide_eq_true (by omega))) <|
    hc (kElG (j := Int.toNat i) (off := 0) (d := (0, 0, 0, [], 0)) stC_len (by decide) (isX rfl) (isX rfl) (denX rfl) (by omega) (by omega) (by rw [← hw]; rfl)) <|
    hc (kElG (j := Int.toNat i) (off := 1) (d := (0, 0, 0, [], 0)) stC_len (by decide) (isX rfl) (isX rfl) (denX rfl) (by omega) (by omega) (by rw [← hty]; rfl)) <|
    hc (kElG (j := Int.toNat i) (off := 2) (d := (0, 0, 0, [], 0)) stC_len (by decide) (isX rfl) (isX rfl) (denX rfl) (by omega) (by omega) (by rw [← hid]; rfl)) <|
    hc (kElG (j := Int.toNat i) (off := 3) (d := (0, 0, 0, [], 0)) stC_len (by decide) (isX rfl) (isX rfl) (denX rfl) (by omega) (by omega) (by rw [← hco]; rfl)) <|
    hc (kElG (j := Int.toNat i) (off := 4) (d := (0, 0, 0, [], 0)) stC_len (by decide) (isX rfl) (isX rfl) (denX rfl) (by omega) (by omega) (by rw [← hpd]; rfl)) <|
    hc (kLe (isX rfl) (isZ (m := 3) rfl) (decide_eq_false (by omega))) <|
    hc (kEqI (isX rfl) (isZ (m := 4) rfl) (decide_eq_false (by omega))) <|
    hc (kEqI (isX rfl) (isZ (m := 6) rfl) (decide_eq_false (by omega))) <|
    hc (kEqI (isX rfl) (isZ (m := 7) rfl) (decide_eq_true (by omega))) <|
    hc (kEqS (isX rfl) (isSx (l := ([] : LB)) 0 0 rfl) (nilT (by omega))) <|
    hc (kAdd (isX rfl) (isZ (m := 1) rfl) (denX rfl) (by omega) (fI64 (by omega) (by omega))) <|
    hnil
theorem hq6 {z : List (Int × Int × Int × LB × Int)} {i : Int} {c1 c2 c3 cl : LB} {pl n zl w ty id : Int} {co : LB} {pd : Int} {X : Nat → Value} (z0 : z.length ≤ 60) (i0 : 0 ≤ i) (n0 : 1 ≤ n) (n8 : n ≤ 8) (hzl : zl = (z.length : Int)) (hw : (nthS z i.toNat).1 = w) (hty : (nthS z i.toNat).2.1 = ty) (hid : (nthS z i.toNat).2.2.1 = id) (hco : (nthS z i.toNat).2.2.2.1 = co) (hpd : (nthS z i.toNat).2.2.2.2 = pd) (hB : stB (nthS z i.toNat)) (d0 : i < zl) (d1 : ¬ (w ≤ 3)) (d2 : ¬ (w = 4)) (d3 : ¬ (ty = 6)) (d4 : ty = 7) (d5 : ¬ ((co.length : Int) = 0)) : ∀ k r, (k, r) ∈ hyQ 6 → HOk (DL z i c1 c2 c3 cl pl n zl w ty id co pd X) k r := by
  obtain ⟨bw, bty, bid, bco, bpd⟩ := hB
  rw [hw] at bw; rw [hty] at bty; rw [hid] at bid; rw [hco] at bco; rw [hpd] at bpd
  show ∀ k r, (k, r) ∈ ([(.rl (.x 2000000) 5, .x 7), (.bin .lss (.x 0) (.x 7), .b true), (.el (.x 2000000) (.x 0) 5 0, .x 8), (.el (.x 2000000) (.x 0) 5 1, .x 9), (.el (.x 2000000) (.x 0) 5 2, .x 10), (.el (.x 2000000) (.x 0) 5 3, .x 11), (.el (.x 2000000) (.x 0) 5 4, .x 12), (.bin .leq (.x 8) (.i .i64 (.ofNat 3)), .b false), (.bin .eql (.x 8) (.i .i64 (.ofNat 4)), .b false), (.bin .eql (.x 9) (.i .i64 (.ofNat 6)), .b false), (.bin .eql (.x 9) (.i .i64 (.ofNat 7)), .b true), (.bin .eql (.x 11) (.s 0 0), .b false), (.bin .add (.x 0) (.i .i64 (.ofNat 1)), .x 13)] : LK) → HOk (DL z i c1 c2 c3 cl pl n zl w ty id co pd X) k r
  exact hc (kRlG stC_len (isX rfl) (denX rfl) (by omega)) <|
    hc (kLt (isX rfl) (isX rfl) (decide_eq_true (by omega))) <|
    hc (kElG (j := Int.toNat i) (off := 0) (d := (0, 0, 0, [], 0)) stC_len (by decide) (isX rfl) (isX rfl) (denX rfl) (by omega) (by omega) (by rw [← hw]; rfl)) <|
    hc (kElG (j := Int.toNat i) (off := 1) (d := (0, 0, 0, [], 0)) stC_len (by decide) (isX rfl) (isX rfl) (denX rfl) (by omega) (by omega) (by rw [← hty]; rfl)) <|
    hc (kElG (j := Int.toNat i) (off := 2) (d := (0, 0, 0, [], 0)) stC_len (by decide) (isX rfl) (isX rfl) (denX rfl) (by omega) (by omega) (by rw [← hid]; rfl)) <|
    hc (kElG (j := Int.toNat i) (off := 3) (d := (0, 0, 0, [], 0)) stC_len (by decide) (isX rfl) (isX rfl) (denX rfl) (by omega) (by omega) (by rw [← hco]; rfl)) <|
    hc (kElG (j := Int.toNat i) (off := 4) (d := (0, 0, 0, [], 0)) stC_len (by decide) (isX rfl) (isX rfl) (denX rfl) (by omega) (by omega) (by rw [← hpd]; rfl)) <|
    hc (kLe (isX rfl) (isZ (m := 3) rfl) (decide_eq_false (by omega))) <|
    hc (kEqI (isX rfl) (isZ (m := 4) rfl) (decide_eq_false (by omega))) <|
    hc (kEqI (isX rfl) (isZ (m := 6) rfl) (decide_eq_false (by omega))) <|
    hc (kEqI (isX rfl) (isZ (m := 7) rfl) (decide_eq_true (by omega))) <|
    hc (kEqS (isX rfl) (isSx (l := ([] : LB)) 0 0 rfl) (nilF (by omega))) <|
    hc (kAdd (isX rfl) (isZ (m := 1) rfl) (denX rfl) (by omega) (fI64 (by omega) (by omega))) <|
    hnil
theorem hq7 {z : List (Int × Int × Int × LB × Int)} {i : Int} {c1 c2 c3 cl : LB} {pl n zl w ty id : Int} {co : LB} {pd : Int} {X : Nat → Value} (z0 : z.length ≤ 60) (i0 : 0 ≤ i) (n0 : 1 ≤ n) (n8 : n ≤ 8) (hzl : zl = (z.length : Int)) (hw : (nthS z i.toNat).1 = w) (hty : (nthS z i.toNat).2.1 = ty) (hid : (nthS z i.toNat).2.2.1 = id) (hco : (nthS z i.toNat).2.2.2.1 = co) (hpd : (nthS z i.toNat).2.2.2.2 = pd) (hB : stB (nthS z i.toNat)) (d0 : i < zl) (d1 : ¬ (w ≤ 3)) (d2 : ¬ (w = 4)) (d3 : ¬ (ty = 6)) (d4 : ¬ (ty = 7)) (d5 : ty = 3) (d6 : ¬ ((co.length : Int) = 8)) : ∀ k r, (k, r) ∈ hyQ 7 → HOk (DL z i c1 c2 c3 cl pl n zl w ty id co pd X) k r := by
  obtain ⟨bw, bty, bid, bco, bpd⟩ := hB
  rw [hw] at bw; rw [hty] at bty; rw [hid] at bid; rw [hco] at bco; rw [hpd] at bpd
  show ∀ k r, (k, r) ∈ ([(.rl (.x 2000000) 5, .x 7), (.bin .lss (.x 0) (.x 7), .b true), (.el (.x 2000000) (.x 0) 5 0, .x 8), (.el (.x 2000000) (.x 0) 5 1, .x 9), (.el (.x 2000000) (.x 0) 5 2, .x 10), (.el (.x 2000000) (.x 0) 5 3, .x 11), (.el (.x 2000000) (.x 0) 5 4, .x 12), (.bin .leq (.x 8) (.i .i64 (.ofNat 3)), .b false), (.bin .eql (.x 8) (.i .i64 (.ofNat 4)), .b false), (.bin .eql (.x 9) (.i .i64 (.ofNat 6)), .b false), (.bin .eql (.x 9) (.i .i64 (.ofNat 7)), .b false), (.bin .eql (.x 9) (.i .i64 (.ofNat 3)), .b true), (.bin .neq (.x 9) (.i .i64 (.ofNat 3)), .b false), (.len (.x 11), .x 15), (.bin .neq (.x 15) (.i .i64 (.ofNat 8)), .b true), (.bin .add (.x 0) (.i .i64 (.ofNat 1)), .x 13)] : LK) → HOk (DL z i c1 c2 c3 cl pl n zl w ty id co pd X) k r
  exact hc (kRlG stC_len (isX rfl) (denX rfl) (by omega)) <|
    hc (kLt (isX rfl) (isX rfl) (decide_eq_true (by omega))) <|
    hc (kElG (j := Int.toNat i) (off := 0) (d := (0, 0, 0, [], 0)) stC_len (by decide) (isX rfl) (isX rfl) (denX rfl) (by omega) (by omega) (by rw [← hw]; rfl)) <|
    hc (kElG (j := Int.toNat i) (off := 1) (d := (0, 0, 0, [], 0)) stC_len (by decide) (isX rfl) (isX rfl) (denX rfl) (by omega) (by omega) (by rw [← hty]; rfl)) <|
    hc (kElG (j := Int.toNat i) (off := 2) (d := (0, 0, 0, [], 0)) stC_len (by decide) (isX rfl) (isX rfl) (denX rfl) (by omega) (by omega) (by rw [← hid]; rfl)) <|
    hc (kElG (j := Int.toNat i) (off := 3) (d := (0, 0, 0, [], 0)) stC_len (by decide) (isX rfl) (isX rfl) (denX rfl) (by omega) (by omega) (by rw [← hco]; rfl)) <|
    hc (kElG (j := Int.toNat i) (off := 4) (d := (0, 0, 0, [], 0)) stC_len (by decide) (isX rfl) (isX rfl) (denX rfl) (by omega) (by omega) (by rw [← hpd]; rfl)) <|
    hc (kLe (isX rfl) (isZ (m := 3) rfl) (decide_eq_false (by omega))) <|
    hc (kEqI (isX rfl) (isZ (m := 4) rfl) (decide_eq_false (by omega))) <|
    hc (kEqI (isX rfl) (isZ (m := 6) rfl) (decide_eq_false (by omega))) <|
    hc (kEqI (isX rfl) (isZ (m := 7) rfl) (decide_eq_false (by omega))) <|
    hc (kEqI (isX rfl) (isZ (m := 3) rfl) (decide_eq_true (by omega))) <|
    hc (kNeI (isX rfl) (isZ (m := 3) rfl) (neF (by omega))) <|
    hc (kLenE (isX rfl) (denX rfl) (by first | omega | (simp <;> omega))) <|
    hc (kNeI (isX rfl) (isZ (m := 8) rfl) (neT (by omega))) <|
    hc (kAdd (isX rfl) (isZ (m := 1) rfl) (denX rfl) (by omega) (fI64 (by omega) (by omega))) <|
    hnil
theorem hq8 {z : List (Int × Int × Int × LB × Int)} {i : Int} {c1 c2 c3 cl : LB} {pl n zl w ty id : Int} {co : LB} {pd : Int} {X : Nat → Value} (z0 : z.length ≤ 60) (i0 : 0 ≤ i) (n0 : 1 ≤ n) (n8 : n ≤ 8) (hzl : zl = (z.length : Int)) (hw : (nthS z i.toNat).1 = w) (hty : (nthS z i.toNat).2.1 = ty) (hid : (nthS z i.toNat).2.2.1 = id) (hco : (nthS z i.toNat).2.2.2.1 = co) (hpd : (nthS z i.toNat).2.2.2.2 = pd) (hB : stB (nthS z i.toNat)) (d0 : i < zl) (d1 : ¬ (w ≤ 3)) (d2 : ¬ (w = 4)) (d3 : ¬ (ty = 6)) (d4 : ¬ (ty = 7)) (d5 : ty = 3) (d6 : (co.length : Int) = 8) : ∀ k r, (k, r) ∈ hyQ 8 → HOk (DL z i c1 c2 c3 cl pl n zl w ty id co pd X) k r := by
  obtain ⟨bw, bty, bid, bco, bpd⟩ := hB
  rw [hw] at bw; rw [hty] at bty; rw [hid] at bid; rw [hco] at bco; rw [hpd] at bpd
  have := bt_lo co 0; have := bt_hi co 0
  have := bt_lo co 1; have := bt_hi co 1
  have := bt_lo co 2; have := bt_hi co 2
  have := bt_lo co 3; have := bt_hi co 3
  have := bt_lo co 4; have := bt_hi co 4
  show ∀ k r, (k, r) ∈ ([(.rl (.x 2000000) 5, .x 7), (.bin .lss (.x 0) (.x 7), .b true), (.el (.x 2000000) (.x 0) 5 0, .x 8), (.el (.x 2000000) (.x 0) 5 1, .x 9), (.el (.x 2000000) (.x 0) 5 2, .x 10), (.el (.x 2000000) (.x 0) 5 3, .x 11), (.el (.x 2000000) (.x 0) 5 4, .x 12), (.bin .leq (.x 8) (.i .i64 (.ofNat 3)), .b false), (.bin .eql (.x 8) (.i .i64 (.ofNat 4)), .b false), (.bin .eql (.x 9) (.i .i64 (.ofNat 6)), .b false), (.bin .eql (.x 9) (.i .i64 (.ofNat 7)), .b false), (.bin .eql (.x 9) (.i .i64 (.ofNat 3)), .b true), (.bin .neq (.x 9) (.i .i64 (.ofNat 3)), .b false), (.len (.x 11), .x 15), (.bin .neq (.x 15) (.i .i64 (.ofNat 8)), .b false), (.idx (.x 11) (.i .i64 (.ofNat 0)), .x 16), (.conv 43 (.x 16), .x 17), (.bin .shl (.x 17) (.i .u64 (.ofNat 24)), .x 18), (.idx (.x 11) (.i .i64 (.ofNat 1)), .x 19), (.conv 43 (.x 19), .x 20), (.bin .shl (.x 20) (.i .u64 (.ofNat 16)), .x 21), (.bin .or (.x 18) (.x 21), .x 22), (.idx (.x 11) (.i .i64 (.ofNat 2)), .x 23), (.conv 43 (.x 23), .x 24), (.bin .shl (.x 24) (.i .u64 (.ofNat 8)), .x 25), (.bin .or (.x 22) (.x 25), .x 26), (.idx (.x 11) (.i .i64 (.ofNat 3)), .x 27), (.conv 43 (.x 27), .x 28), (.bin .or (.x 26) (.x 28), .x 29), (.idx (.x 11) (.i .i64 (.ofNat 4)), .x 30), (.conv 3 (.x 30), .x 31), (.bin .add (.x 0) (.i .i64 (.ofNat 1)), .x 13)] : LK) → HOk (DL z i c1 c2 c3 cl pl n zl w ty id co pd X) k r
  exact hc (kRlG stC_len (isX rfl) (denX rfl) (by omega)) <|
    hc (kLt (isX rfl) (isX rfl) (decide_eq_true (by omega))) <|
    hc (kElG (j := Int.toNat i) (off := 0) (d := (0, 0, 0, [], 0)) stC_len (by decide) (isX rfl) (isX rfl) (denX rfl) (by omega) (by omega) (by rw [← hw]; rfl)) <|
    hc (kElG (j := Int.toNat i) (off := 1) (d := (0, 0, 0, [], 0)) stC_len (by decide) (isX rfl) (isX rfl) (denX rfl) (by omega) (by omega) (by rw [← hty]; rfl)) <|
    hc (kElG (j := Int.toNat i) (off := 2) (d := (0, 0, 0, [], 0)) stC_len (by decide) (isX rfl) (isX rfl) (denX rfl) (by omega) (by omega) (by rw [← hid]; rfl)) <|
    hc (kElG (j := Int.toNat i) (off := 3) (d := (0, 0, 0, [], 0)) stC_len (by decide) (isX rfl) (isX rfl) (denX rfl) (by omega) (by omega) (by rw [← hco]; rfl)) <|
    hc (kElG (j := Int.toNat i) (off := 4) (d := (0, 0, 0, [], 0)) stC_len (by decide) (isX rfl) (isX rfl) (denX rfl) (by omega) (by omega) (by rw [← hpd]; rfl)) <|
    hc (kLe (isX rfl) (isZ (m := 3) rfl) (decide_eq_false (by omega))) <|
    hc (kEqI (isX rfl) (isZ (m := 4) rfl) (decide_eq_false (by omega))) <|
    hc (kEqI (isX rfl) (isZ (m := 6) rfl) (decide_eq_false (by omega))) <|
    hc (kEqI (isX rfl) (isZ (m := 7) rfl) (decide_eq_false (by omega))) <|
    hc (kEqI (isX rfl) (isZ (m := 3) rfl) (decide_eq_true (by omega))) <|
    hc (kNeI (isX rfl) (isZ (m := 3) rfl) (neF (by omega))) <|
    hc (kLenE (isX rfl) (denX rfl) (by first | omega | (simp <;> omega))) <|
    hc (kNeI (isX rfl) (isZ (m := 8) rfl) (neF (by omega))) <|
    hc (kIdxE (i := 0) (isX rfl) (isZ (m := 0) rfl) (denX rfl) rfl (by first | omega | (simp <;> omega)) rfl) <|
    hc (kConvF (isX rfl) tv43 (denX rfl) (fU32 (by omega) (by omega))) <|
    hc (kShlM 24 16777216 rfl (isX rfl) (isZ (m := 24) rfl) (denX rfl) rfl (by decide) (by omega) (fU32 (by omega) (by omega))) <|
    hc (kIdxE (i := 1) (isX rfl) (isZ (m := 1) rfl) (denX rfl) rfl (by first | omega | (simp <;> omega)) rfl) <|
    hc (kConvF (isX rfl) tv43 (denX rfl) (fU32 (by omega) (by omega))) <|
    hc (kShlM 16 65536 rfl (isX rfl) (isZ (m := 16) rfl) (denX rfl) rfl (by decide) (by omega) (fU32 (by omega) (by omega))) <|
    hc (kOrM 24 16777216 rfl (isX rfl) (isX rfl) (denX rfl) (by omega) (by omega) (fU32 (by omega) (by omega)) (fU32 (by omega) (by omega)) (by omega) (by omega) (by omega) (fU32 (by omega) (by omega))) <|
    hc (kIdxE (i := 2) (isX rfl) (isZ (m := 2) rfl) (denX rfl) rfl (by first | omega | (simp <;> omega)) rfl) <|
    hc (kConvF (isX rfl) tv43 (denX rfl) (fU32 (by omega) (by omega))) <|
    hc (kShlM 8 256 rfl (isX rfl) (isZ (m := 8) rfl) (denX rfl) rfl (by decide) (by omega) (fU32 (by omega) (by omega))) <|
    hc (kOrM 16 65536 rfl (isX rfl) (isX rfl) (denX rfl) (by omega) (by omega) (fU32 (by omega) (by omega)) (fU32 (by omega) (by omega)) (by omega) (by omega) (by omega) (fU32 (by omega) (by omega))) <|
    hc (kIdxE (i := 3) (isX rfl) (isZ (m := 3) rfl) (denX rfl) rfl (by first | omega | (simp <;> omega)) rfl) <|
    hc (kConvF (isX rfl) tv43 (denX rfl) (fU32 (by omega) (by omega))) <|
    hc (kOrM 8 256 rfl (isX rfl) (isX rfl) (denX rfl) (by omega) (by omega) (fU32 (by omega) (by omega)) (fU32 (by omega) (by omega)) (by omega) (by omega) (by omega) (fU32 (by omega) (by omega))) <|
    hc (kIdxE (i := 4) (isX rfl) (isZ (m := 4) rfl) (denX rfl) rfl (by first | omega | (simp <;> omega)) rfl) <|
    hc (kConvF (isX rfl) tv3 (denX rfl) (fI64 (by omega) (by omega))) <|
    hc (kAdd (isX rfl) (isZ (m := 1) rfl) (denX rfl) (by omega) (fI64 (by omega) (by omega))) <|
    hnil
theorem hq9 {z : List (Int × Int × Int × LB × Int)} {i : Int} {c1 c2 c3 cl : LB} {pl n zl w ty id : Int} {co : LB} {pd : Int} {X : Nat → Value} (z0 : z.length ≤ 60) (i0 : 0 ≤ i) (n0 : 1 ≤ n) (n8 : n ≤ 8) (hzl : zl = (z.length : Int)) (hw : (nthS z i.toNat).1 = w) (hty : (nthS z i.toNat).2.1 = ty) (hid : (nthS z i.toNat).2.2.1 = id) (hco : (nthS z i.toNat).2.2.2.1 = co) (hpd : (nthS z i.toNat).2.2.2.2 = pd) (hB : stB (nthS z i.toNat)) (d0 : i < zl) (d1 : ¬ (w ≤ 3)) (d2 : ¬ (w = 4)) (d3 : ¬ (ty = 6)) (d4 : ¬ (ty = 7)) (d5 : ¬ (ty = 3)) : ∀ k r, (k, r) ∈ hyQ 9 → HOk (DL z i c1 c2 c3 cl pl n zl w ty id co pd X) k r := by
  obtain ⟨bw, bty, bid, bco, bpd⟩ := hB
  rw [hw] at bw; rw [hty] at bty; rw [hid] at bid; rw [hco] at bco; rw [hpd] at bpd
  show ∀ k r, (k, r) ∈ ([(.rl (.x 2000000) 5, .x 7), (.bin .lss (.x 0) (.x 7), .b true), (.el (.x 2000000) (.x 0) 5 0, .x 8), (.el (.x 2000000) (.x 0) 5 1, .x 9), (.el (.x 2000000) (.x 0) 5 2, .x 10), (.el (.x 2000000) (.x 0) 5 3, .x 11), (.el (.x 2000000) (.x 0) 5 4, .x 12), (.bin .leq (.x 8) (.i .i64 (.ofNat 3)), .b false), (.bin .eql (.x 8) (.i .i64 (.ofNat 4)), .b false), (.bin .eql (.x 9) (.i .i64 (.ofNat 6)), .b false), (.bin .eql (.x 9) (.i .i64 (.ofNat 7)), .b false), (.bin .eql (.x 9) (.i .i64 (.ofNat 3)), .b false), (.bin .add (.x 0) (.i .i64 (.ofNat 1)), .x 13)] : LK) → HOk (DL z i c1 c2 c3 cl pl n zl w ty id co pd X) k r
  exact hc (kRlG stC_len (isX rfl) (denX rfl) (by omega)) <|
    hc (kLt (isX rfl) (isX rfl) (decide_eq_true (by omega))) <|
    hc (kElG (j := Int.toNat i) (off := 0) (d := (0, 0, 0, [], 0)) stC_len (by decide) (isX rfl) (isX rfl) (denX rfl) (by omega) (by omega) (by rw [← hw]; rfl)) <|
    hc (kElG (j := Int.toNat i) (off := 1) (d := (0, 0, 0, [], 0)) stC_len (by decide) (isX rfl) (isX rfl) (denX rfl) (by omega) (by omega) (by rw [← hty]; rfl)) <|
    hc (kElG (j := Int.toNat i) (off := 2) (d := (0, 0, 0, [], 0)) stC_len (by decide) (isX rfl) (isX rfl) (denX rfl) (by omega) (by omega) (by rw [← hid]; rfl)) <|
    hc (kElG (j := Int.toNat i) (off := 3) (d := (0, 0, 0, [], 0)) stC_len (by decide) (isX rfl) (isX rfl) (denX rfl) (by omega) (by omega) (by rw [← hco]; rfl)) <|
    hc (kElG (j := Int.toNat i) (off := 4) (d := (0, 0, 0, [], 0)) stC_len (by decide) (isX rfl) (isX rfl) (denX rfl) (by omega) (by omega) (by rw [← hpd]; rfl)) <|
    hc (kLe (isX rfl) (isZ (m := 3) rfl) (decide_eq_false (by omega))) <|
    hc (kEqI (isX rfl) (isZ (m := 4) rfl) (decide_eq_false (by omega))) <|
    hc (kEqI (isX rfl) (isZ (m := 6) rfl) (decide_eq_false (by omega))) <|
    hc (kEqI (isX rfl) (isZ (m := 7) rfl) (decide_eq_false (by omega))) <|
    hc (kEqI (isX rfl) (isZ (m := 3) rfl) (decide_eq_false (by omega))) <|
    hc (kAdd (isX rfl) (isZ (m := 1) rfl) (denX rfl) (by omega) (fI64 (by omega) (by omega))) <|
    hnil
theorem nextL {z : List (Int × Int × Int × LB × Int)} {c1 c2 c3 cl : LB} {pl : Int} {X : Nat → Value} {t : Nat} {i n : Int} (q : Nat) (hI : InvL z (t, i, n)) (hi : i < (z.length : Int)) (ho : ∀ k r, (k, r) ∈ hyQ q → HOk (DS z c1 c2 c3 cl pl (t, i, n) X) k r) (run : rnL t q = true) : RoundH EL bodyL [] 96 (.exit 0) 1 150 153 210 (fun st => epT st.1) (fun st => hpT st.1) [] [] (InvL z) (muL z) (DS z c1 c2 c3 cl pl) (t, i, n) X := by
  obtain ⟨h0, h1, h2, h3, h4⟩ := hI
  simp only [] at h0 h1 h2 h3 h4
  unfold rnL at run
  rw [Bool.and_eq_true, Bool.and_eq_true] at run
  obtain ⟨r1, r2, r3⟩ := run
  have r1 : nxT t q < 162 := by simpa [Nat.blt_eq] using r1
  have r2 := Nat.le_of_ble_eq_true r2
  refine RoundH.next (tb := tbl (hyQ q)) (L := []) (f := 3000) (th := thQ (njT t q)) (sg := sgT t q) (nxT t q, i + 1, nQ (njT t q) n) ((tabkOk _ _).hyps ho) (LpOk.nil _) rfl ⟨r1, by show 0 ≤ i + 1; omega, by show i + 1 ≤ (z.length : Int); omega, ?_, ?_⟩ (by show z.length - (i + 1).toNat < z.length - i.toNat; omega) ?_ r3
  · show 1 ≤ nQ (njT t q) n
    unfold nQ
    cases hb : Nat.beq (njT t q) 0 with
    | true => exact h3
    | false => 
      have : njT t q ≠ 0 := fun e => by rw [e] at hb; cases hb
      show 1 ≤ Int.ofNat (njT t q); have e : Int.ofNat (njT t q) = (njT t q : Int) := rfl; omega
  · show nQ (njT t q) n ≤ 8
    unfold nQ
    cases hb : Nat.beq (njT t q) 0 with
    | true => exact h4
    | false => show Int.ofNat (njT t q) ≤ 8; have e : Int.ofNat (njT t q) = (njT t q : Int) := rfl; omega
  · refine thXv (v := .int .i64 (i + 1)) rfl rfl <| thXv (v := St' c1) rfl rfl <| thXv (v := St' c2) rfl rfl <| thXv (v := St' c3) rfl rfl <| thXv (v := St' cl) rfl rfl <| thXv (v := .int .i64 pl) rfl rfl <| thCons (show Is _ _ (.int .i64 (nQ (njT t q) n)) from ?_) <| thXv (v := rwG stC z) rfl rfl thNil
    unfold nQ
    cases Nat.beq (njT t q) 0 with
    | true => exact isX rfl
    | false => exact isI _ _
theorem rdL (z : List (Int × Int × Int × LB × Int)) (c1 c2 c3 cl : LB) (pl : Int) (z0 : z.length ≤ 60) (zB : ∀ s, s ∈ z → stB s) (st : Nat × Int × Int) (X : Nat → Value) (hI : InvL z st) : RoundH EL bodyL [] 96 (.exit 0) 1 150 153 210 (fun st => epT st.1) (fun st => hpT st.1) [] [] (InvL z) (muL z) (DS z c1 c2 c3 cl pl) st X := by
  obtain ⟨t, i, n⟩ := st
  have hI0 := hI
  obtain ⟨h0, h1, h2, h3, h4⟩ := hI
  simp only [] at h0 h1 h2 h3 h4
  have hb := stAt zB i.toNat
  have ra := rnAll t h0
  unfold rnA at ra
  simp only [Bool.and_eq_true] at ra
  obtain ⟨rx, r1, r2, r3, r4, r5, r6, r7, r8, r9⟩ := ra
  by_cases hi : i < (z.length : Int)
  · by_cases a1 : (nthS z i.toNat).1 ≤ 3
    · exact nextL 1 hI0 hi (hq1 z0 h1 h3 h4 rfl rfl rfl rfl rfl rfl hb hi a1) r1
    by_cases a2 : (nthS z i.toNat).1 = 4
    · exact nextL 2 hI0 hi (hq2 z0 h1 h3 h4 rfl rfl rfl rfl rfl rfl hb hi a1 a2) r2
    by_cases a3 : (nthS z i.toNat).2.1 = 6
    · by_cases a4 : ((nthS z i.toNat).2.2.2.1.length : Int) = 0
      · exact nextL 3 hI0 hi (hq3 z0 h1 h3 h4 rfl rfl rfl rfl rfl rfl hb hi a1 a2 a3 a4) r3
      · exact nextL 4 hI0 hi (hq4 z0 h1 h3 h4 rfl rfl rfl rfl rfl rfl hb hi a1 a2 a3 a4) r4
    by_cases a5 : (nthS z i.toNat).2.1 = 7
    · by_cases a4 : ((nthS z i.toNat).2.2.2.1.length : Int) = 0
      · exact nextL 5 hI0 hi (hq5 z0 h1 h3 h4 rfl rfl rfl rfl rfl rfl hb hi a1 a2 a3 a5 a4) r5
      · exact nextL 6 hI0 hi (hq6 z0 h1 h3 h4 rfl rfl rfl rfl rfl rfl hb hi a1 a2 a3 a5 a4) r6
    by_cases a6 : (nthS z i.toNat).2.1 = 3
    · by_cases a7 : ((nthS z i.toNat).2.2.2.1.length : Int) = 8
      · exact nextL 8 hI0 hi (hq8 z0 h1 h3 h4 rfl rfl rfl rfl rfl rfl hb hi a1 a2 a3 a5 a6 a7) r8
      · exact nextL 7 hI0 hi (hq7 z0 h1 h3 h4 rfl rfl rfl rfl rfl rfl hb hi a1 a2 a3 a5 a6 a7) r7
    exact nextL 9 hI0 hi (hq9 z0 h1 h3 h4 rfl rfl rfl rfl rfl rfl hb hi a1 a2 a3 a5 a6) r9
  · exact RoundH.leave (tb := tbl (hyQ 0)) (L := []) (f := 3000) (th := []) (sg := []) ((tabkOk _ _).hyps (hq0 z0 h1 h3 h4 rfl rfl rfl rfl rfl rfl hb hi)) (LpOk.nil _) rfl rfl thNil rx
theorem ds1 {z : List (Int × Int × Int × LB × Int)} {c1 c2 c3 cl : LB} {pl : Int} {st : Nat × Int × Int} {X : Nat → Value} : (DS z c1 c2 c3 cl pl st X).nu 1 = St' c1 := rfl
theorem ds2 {z : List (Int × Int × Int × LB × Int)} {c1 c2 c3 cl : LB} {pl : Int} {st : Nat × Int × Int} {X : Nat → Value} : (DS z c1 c2 c3 cl pl st X).nu 2 = St' c2 := rfl
theorem ds3 {z : List (Int × Int × Int × LB × Int)} {c1 c2 c3 cl : LB} {pl : Int} {st : Nat × Int × Int} {X : Nat → Value} : (DS z c1 c2 c3 cl pl st X).nu 3 = St' c3 := rfl
theorem ds4 {z : List (Int × Int × Int × LB × Int)} {c1 c2 c3 cl : LB} {pl : Int} {st : Nat × Int × Int} {X : Nat → Value} : (DS z c1 c2 c3 cl pl st X).nu 4 = St' cl := rfl
theorem ds5 {z : List (Int × Int × Int × LB × Int)} {c1 c2 c3 cl : LB} {pl : Int} {st : Nat × Int × Int} {X : Nat → Value} : (DS z c1 c2 c3 cl pl st X).nu 5 = .int .i64 pl := rfl
theorem ds0 {z : List (Int × Int × Int × LB × Int)} {c1 c2 c3 cl : LB} {pl : Int} {st : Nat × Int × Int} {X : Nat → Value} : (DS z c1 c2 c3 cl pl st X).nu 0 = .int .i64 st.2.1 := rfl
theorem ds2000000 {z : List (Int × Int × Int × LB × Int)} {c1 c2 c3 cl : LB} {pl : Int} {st : Nat × Int × Int} {X : Nat → Value} : (DS z c1 c2 c3 cl pl st X).nu 2000000 = rwG stC z := rfl
theorem ds00 {z : List (Int × Int × Int × LB × Int)} {c1 c2 c3 cl : LB} {pl : Int} {t : Nat} {n : Int} {X : Nat → Value} : Value.int .i64 (Int.ofNat 0) = (DS z c1 c2 c3 cl pl (t, 0, n) X).nu 0 := rfl
theorem lfOkL {nu : Nat → Value} {one : ∀ i, i < 1000000 → (nu i).oneCell' = true} {l : LF} {h : LH} (z : List (Int × Int × Int × LB × Int)) (c1 c2 c3 cl : LB) (pl : Int) (z0 : z.length ≤ 60) (zB : ∀ s, s ∈ z → stB s) (t0 : Nat) (ht : t0 < 162) (hl : l.hp = some h) (hs : lfSame l h 96 [] (.exit 0) 1 150 210 = true) {th0 : LA} {sg0 : List (Nat × Nat)}
    (hth0 : ∀ X, ThOk (cx nu one 0 laidE laidE_stab) (DS z c1 c2 c3 cl pl (t0, 0, 1) X) th0) (h0 : startOk l h 96 150 153 th0 sg0 (epT t0) (hpT t0) = true) (hx : exitOk l h 96 150 210 [] [] [] = true) : LfOk (cx nu one 0 laidE laidE_stab) bodyL l :=
  lfOkX (E := EL) (ep := fun st => epT st.1) (hp := fun st => hpT st.1) (epx := []) (hpx := []) (keep := []) (nh := 153) (InvL z) (muL z) (DS z c1 c2 c3 cl pl) (fun _ _ => rfl) (fun _ _ => rfl) (fun _ _ => rfl) (fun _ _ t ht => by cases ht) rfl rfl rfl hl hs (fun st => ebL st.1) rfl rfl (t0, (0 : Int), (1 : Int)) ⟨ht, Int.le_refl _, by show (0 : Int) ≤ _; omega, by show (1 : Int) ≤ 1; omega, by show (1 : Int) ≤ 8; omega⟩ hth0 h0 (thx := []) thNil hx (rdL z c1 c2 c3 cl pl z0 zB)
end Go.Proofs.Ytgimfcnobfelbaa.laneGrammar
