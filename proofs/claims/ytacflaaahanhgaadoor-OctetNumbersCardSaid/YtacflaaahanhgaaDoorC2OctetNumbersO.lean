/- A part of the proof: an interpreter of the model's own code on partly known states, and that what it answers is what the program answers. No condition of its own. -/
import Derived.Test.YtacflaaahanhgaaDoorSeatC2
import Derived.Test.YtacflaaahanhgaaDoorTDx
set_option maxRecDepth 100000
set_option linter.unusedVariables false
set_option linter.unusedSimpArgs false
namespace Go.Proofs.YtacflaaahanhgaaDoor.octetNumbers
open Go Go.AX Go.Proofs Go.Proofs.YtacflaaahanhgaaDoor
/-- the variables that the runs read are laid -/
def laidE (w : World) : Prop := True
theorem laidE_stab : ∀ w w' : World, (∀ k, k < 0 → w'.heap[k]? = w.heap[k]?) → laidE w → laidE w' := fun w w' h _ => trivial
theorem laidE_size {w : World} (h : laidE w) : 0 ≤ w.heap.size := by
  exact Nat.zero_le _
noncomputable def H0 : T Ent := .leaf
theorem runP {nu : Nat → Value} {one : ∀ i, i < 1000000 → (nu i).oneCell' = true} {tb : Tab} (h : AllOk (cx nu one 0 laidE laidE_stab) tb) (hng : tb.ng = 7) {f g : Nat} {fi : FI} (hfi : tb.fn.get g = some fi) (hb : fi.body.isSome = true) {l : List AV} {args : List Value}
    (hr : okB (call tb f g l ⟨H0 , 7, 0, 0⟩) = true) (hl : RelL (cx nu one 0 laidE laidE_stab) (fun _ => none) l args) (w : World) (hw : laidE w) :
    Calls Tryd.prog g ⟨args⟩ w fun e w' => e = .returned (.bool true) ∧ Go.AX.Below (Go.AX.Fz.lt w.heap.size) w w' := by
  obtain ⟨S, hS⟩ := okB_inv hr
  refine (run_okG h (H := H0 ) hfi hb (by rw [hng]; exact hS) hl w hw (laidE_size hw) fun v k hv => ?_).mono fun e' w' he => ?_
  · unfold H0 at hv
    simp [T.get_leaf] at hv
  · obtain ⟨x, ρ, rfl, hx, hb⟩ := he
    simp only [Rel] at hx
    exact ⟨by rw [hx], hb⟩
theorem runS {nu : Nat → Value} {one : ∀ i, i < 1000000 → (nu i).oneCell' = true} {tb : Tab} (h : AllOk (cx nu one 0 laidE laidE_stab) tb) (hng : tb.ng = 7) {f g : Nat} {fi : FI} (hfi : tb.fn.get g = some fi) (hb : fi.body.isSome = true) {l : List AV} {args : List Value} {len n : Nat}
    (hr : okS (call tb f g l ⟨H0 , 7, 0, 0⟩) len n = true) (hl : RelL (cx nu one 0 laidE laidE_stab) (fun _ => none) l args) (w : World) (hw : laidE w) :
    Calls Tryd.prog g ⟨args⟩ w fun e w' => e = .returned (St' (strB len n)) ∧ Go.AX.Below (Go.AX.Fz.lt w.heap.size) w w' := by
  obtain ⟨S, hS⟩ := okS_inv hr
  refine (run_okG h (H := H0 ) hfi hb (by rw [hng]; exact hS) hl w hw (laidE_size hw) fun v k hv => ?_).mono fun e' w' he => ?_
  · unfold H0 at hv
    simp [T.get_leaf] at hv
  · obtain ⟨x, ρ, rfl, hx, hb⟩ := he
    simp only [Rel] at hx
    exact ⟨by rw [hx.1], hb⟩
theorem runA {nu : Nat → Value} {one : ∀ i, i < 1000000 → (nu i).oneCell' = true} {tb : Tab} (h : AllOk (cx nu one 0 laidE laidE_stab) tb) (hng : tb.ng = 7) {f g : Nat} {fi : FI} (hfi : tb.fn.get g = some fi) (hb : fi.body.isSome = true) {l : List AV} {args : List Value} {ra : AV} (hnr : noR 8 ra = true)
    (hr : okA (call tb f g l ⟨H0 , 7, 0, 0⟩) ra = true) (hl : RelL (cx nu one 0 laidE laidE_stab) (fun _ => none) l args) (w : World) (hw : laidE w) :
    Calls Tryd.prog g ⟨args⟩ w fun e w' => ∃ x, e = .returned x ∧ Rel (cx nu one 0 laidE laidE_stab) (fun _ => none) ra x ∧ Go.AX.Below (Go.AX.Fz.lt w.heap.size) w w' := by
  obtain ⟨S, hS⟩ := okA_inv hr
  refine (run_okG h (H := H0 ) hfi hb (by rw [hng]; exact hS) hl w hw (laidE_size hw) fun v k hv => ?_).mono fun e' w' he => ?_
  · unfold H0 at hv
    simp [T.get_leaf] at hv
  · obtain ⟨x, ρ, rfl, hx, hb⟩ := he
    exact ⟨x, rfl, noR_rel 8 _ hnr _ hx, hb⟩
noncomputable def fk : FI := ⟨Tryd.f13.body, Tryd.f13.ntmps, Tryd.f13.results.toList, 0, none, []⟩
theorem fk_at : tab.fn.get 13 = some fk := by kernel_rfl
theorem fk_body : fk.body.isSome = true := by kernel_rfl
theorem kk : okB (call tab 6000 13 [] ⟨H0 , 7, 0, 0⟩) = true := by kernel_rfl
noncomputable def tabk : Tab := addSum tab 13 fk (.b true)
section
variable (nu : Nat → Value) (one : ∀ i, i < 1000000 → (nu i).oneCell' = true)
theorem sumk : SumOk (cx nu one 0 laidE laidE_stab) 13 (.b true) := fun w hi hs => by
  refine (runP (tabOk nu one 0 laidE laidE_stab) rfl fk_at fk_body kk (args := []) (by simp only [RelL]) w hi).mono fun e w' he => ?_
  exact ⟨.bool true, he.1, by simp only [Rel], he.2⟩
theorem tabkOk : AllOk (cx nu one 0 laidE laidE_stab) tabk := (tabOk nu one 0 laidE laidE_stab).sum (by omega) fk_at fk_body (sumk nu one)
end
theorem tu3 : Tryd.prog.underlying 3 = some (.int .i64) := by kernel_rfl
theorem tu5 : Tryd.prog.underlying 5 = some (.int .u8) := by kernel_rfl
def LDgt : List Int := [16, 16, 16, 16, 16, 16, 16, 16, 16, 16, 16, 16, 16, 16, 16, 16, 16, 16, 16, 16, 16, 16, 16, 16, 16, 16, 16, 16, 16, 16, 16, 16, 16, 16, 16, 16, 16, 16, 16, 16, 16, 16, 16, 16, 16, 16, 16, 16, 0, 1, 2, 3, 4, 5, 6, 7, 8, 9, 16, 16, 16, 16, 16, 16, 16, 10, 11, 12, 13, 14, 15, 16, 16, 16, 16, 16, 16, 16, 16, 16, 16, 16, 16, 16, 16, 16, 16, 16, 16, 16, 16, 16, 16, 16, 16, 16, 16, 10, 11, 12, 13, 14, 15, 16, 16, 16, 16, 16, 16, 16, 16, 16, 16, 16, 16, 16, 16, 16, 16, 16, 16, 16, 16, 16, 16, 16, 16, 16, 16, 16, 16, 16, 16, 16, 16, 16, 16, 16, 16, 16, 16, 16, 16, 16, 16, 16, 16, 16, 16, 16, 16, 16, 16, 16, 16, 16, 16, 16, 16, 16, 16, 16, 16, 16, 16, 16, 16, 16, 16, 16, 16, 16, 16, 16, 16, 16, 16, 16, 16, 16, 16, 16, 16, 16, 16, 16, 16, 16, 16, 16, 16, 16, 16, 16, 16, 16, 16, 16, 16, 16, 16, 16, 16, 16, 16, 16, 16, 16, 16, 16, 16, 16, 16, 16, 16, 16, 16, 16, 16, 16, 16, 16, 16, 16, 16, 16, 16, 16, 16, 16, 16, 16, 16, 16, 16, 16, 16, 16, 16, 16, 16, 16, 16, 16, 16, 16, 16, 16, 16, 16, 16, 16, 16, 16, 16, 16]
def vDgt (c : Int) : Int := LDgt.getD c.toNat 0
noncomputable def bfDgt (n : Nat) : Bool := okA (call tabk 9000 90 [.i .u8 (.ofNat n)] ⟨H0 , 7, 0, 0⟩) (.i .i64 (LDgt.getD n 0))
theorem bfDgt_0 : allN (bfDgt ) 0 16 = true := by kernel_rfl
theorem bfDgt_1 : allN (bfDgt ) 16 16 = true := by kernel_rfl
theorem bfDgt_2 : allN (bfDgt ) 32 16 = true := by kernel_rfl
theorem bfDgt_3 : allN (bfDgt ) 48 16 = true := by kernel_rfl
theorem bfDgt_4 : allN (bfDgt ) 64 16 = true := by kernel_rfl
theorem bfDgt_5 : allN (bfDgt ) 80 16 = true := by kernel_rfl
theorem bfDgt_6 : allN (bfDgt ) 96 16 = true := by kernel_rfl
theorem bfDgt_7 : allN (bfDgt ) 112 16 = true := by kernel_rfl
theorem bfDgt_8 : allN (bfDgt ) 128 16 = true := by kernel_rfl
theorem bfDgt_9 : allN (bfDgt ) 144 16 = true := by kernel_rfl
theorem bfDgt_10 : allN (bfDgt ) 160 16 = true := by kernel_rfl
theorem bfDgt_11 : allN (bfDgt ) 176 16 = true := by kernel_rfl
theorem bfDgt_12 : allN (bfDgt ) 192 16 = true := by kernel_rfl
theorem bfDgt_13 : allN (bfDgt ) 208 16 = true := by kernel_rfl
theorem bfDgt_14 : allN (bfDgt ) 224 16 = true := by kernel_rfl
theorem bfDgt_15 : allN (bfDgt ) 240 16 = true := by kernel_rfl
theorem bfDgt_all (n : Nat) (h : n < 256) : bfDgt n = true := by
  by_cases h0 : n < 16
  · exact allN_at (bfDgt_0 ) n (by omega) (by omega)
  by_cases h1 : n < 32
  · exact allN_at (bfDgt_1 ) n (by omega) (by omega)
  by_cases h2 : n < 48
  · exact allN_at (bfDgt_2 ) n (by omega) (by omega)
  by_cases h3 : n < 64
  · exact allN_at (bfDgt_3 ) n (by omega) (by omega)
  by_cases h4 : n < 80
  · exact allN_at (bfDgt_4 ) n (by omega) (by omega)
  by_cases h5 : n < 96
  · exact allN_at (bfDgt_5 ) n (by omega) (by omega)
  by_cases h6 : n < 112
  · exact allN_at (bfDgt_6 ) n (by omega) (by omega)
  by_cases h7 : n < 128
  · exact allN_at (bfDgt_7 ) n (by omega) (by omega)
  by_cases h8 : n < 144
  · exact allN_at (bfDgt_8 ) n (by omega) (by omega)
  by_cases h9 : n < 160
  · exact allN_at (bfDgt_9 ) n (by omega) (by omega)
  by_cases h10 : n < 176
  · exact allN_at (bfDgt_10 ) n (by omega) (by omega)
  by_cases h11 : n < 192
  · exact allN_at (bfDgt_11 ) n (by omega) (by omega)
  by_cases h12 : n < 208
  · exact allN_at (bfDgt_12 ) n (by omega) (by omega)
  by_cases h13 : n < 224
  · exact allN_at (bfDgt_13 ) n (by omega) (by omega)
  by_cases h14 : n < 240
  · exact allN_at (bfDgt_14 ) n (by omega) (by omega)
  exact allN_at (bfDgt_15 ) n (by omega) (by omega)
theorem callsDgt (n : Nat) (h : n < 256) (w : World) (hl : laidE w) : Calls Tryd.prog 90 #[.int .u8 (n : Int)] w fun e w' => e = .returned (.int .i64 (vDgt (n : Int))) ∧ Go.AX.Below (Go.AX.Fz.lt w.heap.size) w w' := by
  obtain ⟨fi, hfi, hb⟩ : ∃ fi, tabk.fn.get 90 = some fi ∧ fi.body.isSome = true := ⟨_, rfl, by kernel_rfl⟩
  refine (runA (tb := tabk) (hnr := rfl) (tabkOk (nuL []) (fun j _ => nuL_one (l := []) rfl j)) rfl hfi hb (bfDgt_all n h) (args := [.int .u8 (n : Int)]) (by simp only [RelL, Rel]; exact ⟨_, _, rfl, rfl, rfl⟩) w hl).mono fun e w' he => ?_
  obtain ⟨x, rfl, hx, hb2⟩ := he
  simp only [Rel] at hx
  exact ⟨by rw [hx]; rfl, hb2⟩
theorem hokDgt {nu : Nat → Value} {one : ∀ i, i < 1000000 → (nu i).oneCell' = true} {x0 r : AV} {c : Int} (i0 : Is (cx nu one 0 laidE laidE_stab) x0 (.int .u8 c)) (b0 : 0 ≤ c) (b1 : c ≤ 255) (hr : Den (cx nu one 0 laidE laidE_stab) r (.int .i64 (vDgt c))) : HOk (cx nu one 0 laidE laidE_stab) (.call 90 [x0]) r := by
  intro ρ args ha w hl _
  simp only [RelL] at ha
  obtain ⟨v0, t0, rfl, a0, rfl⟩ := ha
  have e0 := i0 ρ _ a0; subst e0
  obtain ⟨n, rfl⟩ := Int.eq_ofNat_of_zero_le b0
  exact (callsDgt n (by omega) w hl).mono fun e w' he => ⟨_, he.1, hr ρ, he.2⟩
theorem rDgt {c : Int} (b0 : 0 ≤ c) (b1 : c ≤ 255) : 0 ≤ vDgt c ∧ vDgt c ≤ 16 := by
  obtain ⟨n, rfl⟩ := Int.eq_ofNat_of_zero_le b0
  have h : ∀ m : Fin 256, 0 ≤ LDgt.getD m.val 0 ∧ LDgt.getD m.val 0 ≤ 16 := by decide +kernel
  exact h ⟨n, by omega⟩
theorem dgtI {c : Int} (b0 : 0 ≤ c) (b1 : c ≤ 255) : vDgt c = digI c := by
  obtain ⟨n, rfl⟩ := Int.eq_ofNat_of_zero_le b0
  have h : ∀ m : Fin 256, LDgt.getD m.val 0 = digI (m.val : Int) := by decide +kernel
  exact h ⟨n, by omega⟩
noncomputable def bodyN10 : Code := loopNo (Tryd.f55.body.getD .skip) 0
def epN10 : List (Nat × AV) := [(0, .x 0), (1, .i .i64 (.ofNat 10)), (8, .x 1), (20, .x 2), (21, .x 3)]
def keepN10 : List Nat := [2, 6, 7]
def nuN10 (s : List UInt8) (V : Int) (i : Int) (n : Int) : List Value := [St' s, .int .i64 (n), .int .i64 ((s.length : Int)), .int .i64 (i), .int .u8 (bt s (Int.toNat (i))), .int .i64 (vDgt (bt s (Int.toNat (i)))), .int .i64 (n * 10), .int .i64 (n * 10 + (vDgt (bt s (Int.toNat (i))))), .int .i64 (i + 1)]
noncomputable def DN10 (s : List UInt8) (V : Int) (st : Int × Int) (X : Nat → Value) : Cx := cx (nuX (nuN10 s V (st.1) (st.2)) X) (nuX_one (nuL_one (l := nuN10 s V (st.1) (st.2)) rfl)) 0 laidE laidE_stab
def InvN10 (s : List UInt8) (V : Int) (i : Int) (n : Int) : Prop := (0 ≤ i) ∧ (i ≤ (s.length : Int)) ∧ (0 ≤ n) ∧ (n < (16 : Int) ^ i.toNat) ∧ (valF 10 (s.drop i.toNat) n = V)
def hyN10_0 : List (HK × AV) := [(.bin .lss (.x 3) (.x 2), .b true), (.idx (.x 0) (.x 3), .x 4), (.call 90 [.x 4], .x 5), (.bin .geq (.x 5) (.i .i64 (.ofNat 10)), .b false), (.bin .mul (.x 1) (.i .i64 (.ofNat 10)), .x 6), (.bin .add (.x 6) (.x 5), .x 7), (.bin .add (.x 3) (.i .i64 (.ofNat 1)), .x 8)]
noncomputable def tabN10_0 : Tab := { tabk with hyp := hyN10_0 }
def qN10_0 : List (Nat × AV) := [(0, .x 0), (1, .i .i64 (.ofNat 10)), (8, .x 7), (20, .x 2), (21, .x 8)]
theorem runN10_0 : okRd (code tabN10_0 900 [] bodyN10 (envOf (headOf epN10 keepN10) 38) ⟨.leaf, tabN10_0.ng, 0, 0⟩) .normal qN10_0 keepN10 38 = true := by kernel_rfl
set_option maxHeartbeats 2000000 in
theorem hyOkN10_0 (s : List UInt8) (V : Int) (i : Int) (n : Int) (X : Nat → Value) (c0 : s.length ≤ 9) (c1 : okD 10 s) (i0 : 0 ≤ i) (i1 : i ≤ (s.length : Int)) (i2 : 0 ≤ n) (i3 : n < (16 : Int) ^ i.toNat) (i4 : valF 10 (s.drop i.toNat) n = V) (h0 : i < (s.length : Int)) : ∀ k r, (k, r) ∈ hyN10_0 → HOk (cx (nuX (nuN10 s V i n) X) (nuX_one (nuL_one (l := nuN10 s V i n) rfl)) 0 laidE laidE_stab) k r := by
  have hd : i.toNat < s.length → digI (bt s i.toNat) < 10 := fun h => okD_at c1 h
  have hb : i.toNat ≤ 8 → 0 ≤ n * 10 ∧ n * 10 ≤ 68719476736 ∧ n ≤ 4294967296 := fun h => numBd (i := i.toNat) (B := 10) (.inl rfl) i2 i3 h
  have := bt_lo s (Int.toNat (i)); have := bt_hi s (Int.toNat (i))
  have := rDgt (c := bt s (Int.toNat (i))) (by omega) (by omega)
  have := dgtI (c := bt s (Int.toNat (i))) (by omega) (by omega); have := digI_bd (bt s (Int.toNat (i)))
  unfold hyN10_0
  refine hcons (kLt (isX rfl) (isX rfl) (decide_eq_true (by omega))) ?_
  refine hcons (kIdxE (i := (Int.toNat (i))) (isX rfl) (isX rfl) (denX rfl) (by omega) (by first | omega | (simp <;> omega)) rfl) ?_
  refine hcons (hokDgt (isX rfl) (by omega) (by omega) (denX rfl)) ?_
  refine hcons (kGe (isX rfl) (isZ (m := 10) rfl) (decide_eq_false (by omega))) ?_
  refine hcons (kMul (isX rfl) (isZ (m := 10) rfl) (denX rfl) (by omega) (fI64 (by omega) (by omega))) ?_
  refine hcons (kAdd (isX rfl) (isX rfl) (denX rfl) (by omega) (fI64 (by omega) (by omega))) ?_
  refine hcons (kAdd (isX rfl) (isZ (m := 1) rfl) (denX rfl) (by omega) (fI64 (by omega) (by omega))) ?_
  exact hnil
def hyN10_1 : List (HK × AV) := [(.bin .lss (.x 3) (.x 2), .b false)]
noncomputable def tabN10_1 : Tab := { tabk with hyp := hyN10_1 }
def qN10_1 : List (Nat × AV) := [(8, .x 1)]
theorem runN10_1 : okRd (code tabN10_1 900 [] bodyN10 (envOf (headOf epN10 keepN10) 38) ⟨.leaf, tabN10_1.ng, 0, 0⟩) (.exit 0) qN10_1 keepN10 38 = true := by kernel_rfl
set_option maxHeartbeats 2000000 in
theorem hyOkN10_1 (s : List UInt8) (V : Int) (i : Int) (n : Int) (X : Nat → Value) (c0 : s.length ≤ 9) (c1 : okD 10 s) (i0 : 0 ≤ i) (i1 : i ≤ (s.length : Int)) (i2 : 0 ≤ n) (i3 : n < (16 : Int) ^ i.toNat) (i4 : valF 10 (s.drop i.toNat) n = V) (h0 : ¬ (i < (s.length : Int))) : ∀ k r, (k, r) ∈ hyN10_1 → HOk (cx (nuX (nuN10 s V i n) X) (nuX_one (nuL_one (l := nuN10 s V i n) rfl)) 0 laidE laidE_stab) k r := by
  have hd : i.toNat < s.length → digI (bt s i.toNat) < 10 := fun h => okD_at c1 h
  have hb : i.toNat ≤ 8 → 0 ≤ n * 10 ∧ n * 10 ≤ 68719476736 ∧ n ≤ 4294967296 := fun h => numBd (i := i.toNat) (B := 10) (.inl rfl) i2 i3 h
  unfold hyN10_1
  refine hcons (kLt (isX rfl) (isX rfl) (decide_eq_false (by omega))) ?_
  exact hnil
def lfN10 (x0 x1 x2 x3 x4 z0 : AV) : LF := ⟨5, 38, [(0, x0), (1, x1), (8, x2), (20, x3), (21, x4)], keepN10, (.exit 0), [(8, z0)], none⟩
theorem lfOkN10 {nu : Nat → Value} {one : ∀ i, i < 1000000 → (nu i).oneCell' = true} {x0 x1 x2 x3 x4 z0 : AV} {s : List UInt8} {V : Int} {i : Int} {n : Int} (a0 : Is (cx nu one 0 laidE laidE_stab) x0 (St' s)) (a1 : Is (cx nu one 0 laidE laidE_stab) x1 (.int .i64 10)) (a2 : Is (cx nu one 0 laidE laidE_stab) x2 (.int .i64 (n))) (a3 : Is (cx nu one 0 laidE laidE_stab) x3 (.int .i64 ((s.length : Int)))) (a4 : Is (cx nu one 0 laidE laidE_stab) x4 (.int .i64 (i))) (r0 : Den (cx nu one 0 laidE laidE_stab) z0 (.int .i64 V)) (c0 : s.length ≤ 9) (c1 : okD 10 s) (i0 : 0 ≤ i) (i1 : i ≤ (s.length : Int)) (i2 : 0 ≤ n) (i3 : n < (16 : Int) ^ i.toNat) (i4 : valF 10 (s.drop i.toNat) n = V) : LfOk (cx nu one 0 laidE laidE_stab) bodyN10 (lfN10 x0 x1 x2 x3 x4 z0) := by
  refine loop_ok (ep := epN10) (I := fun st : Int × Int => InvN10 s V (st.1) (st.2)) (μ := fun st : Int × Int => (s.length - (st.1).toNat)) (D := DN10 s V) (fun _ _ => rfl) (fun _ _ => rfl) (fun _ _ => rfl) (fun st X t _ => nuX_keep) rfl (i, n) ⟨i0, i1, i2, i3, i4⟩ (fun X => ?_) (fun st X hI => ?_)
  · exact mapCons (.head _) (relIs a0 (denX rfl)) (mapCons (.tail _ (.head _)) (relIs a1 (denI _ _)) (mapCons (.tail _ (.tail _ (.head _))) (relIs a2 (denX rfl)) (mapCons (.tail _ (.tail _ (.tail _ (.head _)))) (relIs a3 (denX rfl)) (mapCons (.tail _ (.tail _ (.tail _ (.tail _ (.head _))))) (relIs a4 (denX rfl)) (mapNil)))))
  · obtain ⟨i, n⟩ := st
    have hI : InvN10 s V i n := hI
    obtain ⟨i0, i1, i2, i3, i4⟩ := hI
    have hd : i.toNat < s.length → digI (bt s i.toNat) < 10 := fun h => okD_at c1 h
    have hb : i.toNat ≤ 8 → 0 ≤ n * 10 ∧ n * 10 ≤ 68719476736 ∧ n ≤ 4294967296 := fun h => numBd (i := i.toNat) (B := 10) (.inl rfl) i2 i3 h
    by_cases h0 : i < (s.length : Int)
    · exact Round.next (tb := tabN10_0) (L := []) (f := 900) (q := qN10_0) (i + 1, n * 10 + (vDgt (bt s (Int.toNat (i))))) ((tabkOk (nuX (nuN10 s V i n) X) (nuX_one (nuL_one (l := nuN10 s V i n) rfl))).hyps (hyOkN10_0 s V i n X c0 c1 i0 i1 i2 i3 i4 h0)) (LpOk.nil _) runN10_0 (show InvN10 s V (i + 1) (n * 10 + (vDgt (bt s (Int.toNat (i))))) from (by unfold InvN10; rw [dgtI (c := bt s i.toNat) (bt_lo _ _) (bt_hi _ _)]; exact num_step (.inl rfl) c1 (by omega) i0 (by assumption) i2 i3 i4)) (by show s.length - (i + 1).toNat < s.length - i.toNat; omega) (mapCons (.head _) (relIs (isX rfl) (denX rfl)) (mapCons (.tail _ (.head _)) (relIs (isZ (m := 10) rfl) (denI _ _)) (mapCons (.tail _ (.tail _ (.head _))) (relIs (isX rfl) (denX rfl)) (mapCons (.tail _ (.tail _ (.tail _ (.head _)))) (relIs (isX rfl) (denX rfl)) (mapCons (.tail _ (.tail _ (.tail _ (.tail _ (.head _))))) (relIs (isX rfl) (denX rfl)) (mapNil))))))
    · exact Round.leave (tb := tabN10_1) (L := []) (f := 900) (q := qN10_1) ((tabkOk (nuX (nuN10 s V i n) X) (nuX_one (nuL_one (l := nuN10 s V i n) rfl))).hyps (hyOkN10_1 s V i n X c0 c1 i0 i1 i2 i3 i4 h0)) (LpOk.nil _) runN10_1 (by simp [lfN10]) (mapCons (.head _) (relIs (isX rfl) (by have e : n = V := (by rw [← i4]; exact (valEnd (by omega)).symm); rw [e]; exact r0)) (mapNil))
theorem keyN10 : oneKey (loopsOf (Tryd.f55.body.getD .skip)) 5 0 0 = true := by kernel_rfl
noncomputable def fi55 : FI := (tabk.fn.get 55).getD default
theorem fi55_at : tabk.fn.get 55 = some fi55 := by kernel_rfl
theorem fi55_body : fi55.body = some (Tryd.f55.body.getD .skip) := by kernel_rfl
def hyNum10_0 : List (HK × AV) := [(.bin .eql (.x 0) (.s 0 0), .b false), (.len (.x 0), .x 1), (.bin .gtr (.x 1) (.i .i64 (.ofNat 9)), .b false)]
noncomputable def tabNum10_0 : Tab := addLps ({ tabk with hyp := hyNum10_0 }) 55 fi55 [(lfN10 (.x 0) (.i .i64 (.ofNat 10)) (.i .i64 (.ofNat 0)) (.x 1) (.i .i64 (.ofNat 0)) (.x 2))]
theorem runNum10_0 : okA (call tabNum10_0 9000 55 [.x 0, .i .i64 (.ofNat 10), .i .i64 (.ofNat 9)] ⟨H0 , 7, 0, 0⟩) (.tu [.x 2, .b true]) = true := by kernel_rfl
def nuNum10_0 (s : List UInt8) : List Value := [St' s, .int .i64 ((s.length : Int)), .int .i64 (valF 10 s 0)]
theorem oneNum10_0 (s : List UInt8) : ∀ j, j < 1000000 → (nuL (nuNum10_0 s) j).oneCell' = true := fun j _ => nuL_one (l := nuNum10_0 s) rfl j
set_option maxHeartbeats 2000000 in
theorem hyOkNum10_0 (s : List UInt8) (b0 : s.length ≤ 9223372036854775807) (p0 : 1 ≤ s.length) (p1 : s.length ≤ 9) (p2 : okD 10 s) : ∀ k r, (k, r) ∈ hyNum10_0 → HOk (cx (nuL (nuNum10_0 s)) (oneNum10_0 s) 0 laidE laidE_stab) k r := by
  unfold hyNum10_0
  refine hcons (kEqS (isX rfl) (isSx (l := ([] : List UInt8)) 0 0 rfl) (by first | exact nilT (by first | omega | (simp <;> omega)) | exact nilF (by first | omega | (simp <;> omega)) | exact nilT' (by first | omega | (simp <;> omega)) | exact nilF' (by first | omega | (simp <;> omega)))) ?_
  refine hcons (kLenE (isX rfl) (denX rfl) (by first | omega | (simp <;> omega))) ?_
  refine hcons (kGt (isX rfl) (isZ (m := 9) rfl) (decide_eq_false (by omega))) ?_
  exact hnil
theorem pathNum10_0 (s : List UInt8) (b0 : s.length ≤ 9223372036854775807) (p0 : 1 ≤ s.length) (p1 : s.length ≤ 9) (p2 : okD 10 s) (w : World) (hl : laidE w) : Calls Tryd.prog 55 #[St' s, .int .i64 10, .int .i64 9] w fun e w' => e = .returned (.tuple #[.int .i64 (valF 10 s 0), .bool true]) ∧ Go.AX.Below (Go.AX.Fz.lt w.heap.size) w w' := by
  obtain ⟨fi, hfi, hb⟩ : ∃ fi, tabNum10_0.fn.get 55 = some fi ∧ fi.body.isSome = true := ⟨_, (get_lps (by omega)), by show fi55.body.isSome = true; rw [fi55_body]; rfl⟩
  refine (runA (tb := tabNum10_0) (ra := .tu [.x 2, .b true]) (hnr := rfl) (AllOk.lp1 ((tabkOk (nuL (nuNum10_0 s)) (oneNum10_0 s)).hyps (hyOkNum10_0 s b0 p0 p1 p2)) (by omega) fi55_at fi55_body (lfCons ⟨0, keyN10, lfOkN10 (s := s) (V := valF 10 s 0) (i := 0) (n := 0) (isX rfl) (isI .i64 10) (isI .i64 0) (isX rfl) (isI .i64 0) (denX rfl) (by omega) (by assumption) (by omega) (by omega) (by omega) (by decide) rfl⟩ lfNil)) rfl hfi hb (runNum10_0 ) (args := [St' s, .int .i64 10, .int .i64 9]) (by simp only [RelL, Rel]; exact ⟨_, _, rfl, rfl, ⟨_, _, rfl, rfl, ⟨_, _, rfl, rfl, rfl⟩⟩⟩) w hl).mono fun e w' he => ?_
  obtain ⟨x, rfl, hx, hb2⟩ := he
  simp only [Rel, RelL] at hx
  obtain ⟨_, rfl, _, _, rfl, rfl, _, _, rfl, rfl, rfl⟩ := hx
  exact ⟨rfl, hb2⟩
theorem callsNum10 (s : List UInt8) (b0 : s.length ≤ 9223372036854775807) (p0 : 1 ≤ s.length) (p1 : s.length ≤ 9) (p2 : okD 10 s) (w : World) (hl : laidE w) : Calls Tryd.prog 55 #[St' s, .int .i64 10, .int .i64 9] w fun e w' => e = .returned (.tuple #[.int .i64 (valF 10 s 0), .bool true]) ∧ Go.AX.Below (Go.AX.Fz.lt w.heap.size) w w' := by
  rw [show (.tuple #[.int .i64 (valF 10 s 0), .bool true] : Value) = (.tuple #[.int .i64 (valF 10 s 0), .bool true] : Value) from by rfl]
  exact pathNum10_0 s b0 p0 p1 p2 w hl
theorem hokNum10 {nu : Nat → Value} {one : ∀ i, i < 1000000 → (nu i).oneCell' = true} {x0 x1 x2 r : AV} {s : List UInt8} (i0 : Is (cx nu one 0 laidE laidE_stab) x0 (St' s)) (i1 : Is (cx nu one 0 laidE laidE_stab) x1 (.int .i64 10)) (i2 : Is (cx nu one 0 laidE laidE_stab) x2 (.int .i64 9)) (hr : Den (cx nu one 0 laidE laidE_stab) r (.tuple #[.int .i64 (valF 10 s 0), .bool true])) (b0 : s.length ≤ 9223372036854775807) (p0 : 1 ≤ s.length) (p1 : s.length ≤ 9) (p2 : okD 10 s) : HOk (cx nu one 0 laidE laidE_stab) (.call 55 [x0, x1, x2]) r := by
  intro ρ args ha w hl _
  simp only [RelL] at ha
  obtain ⟨v0, t0, rfl, a0, v1, t1, rfl, a1, v2, t2, rfl, a2, rfl⟩ := ha
  have e0 := i0 ρ _ a0; subst e0
  have e1 := i1 ρ _ a1; subst e1
  have e2 := i2 ρ _ a2; subst e2
  exact (callsNum10 s b0 p0 p1 p2 w hl).mono fun e w' he => ⟨_, he.1, hr ρ, he.2⟩
def hyLong10_0 : List (HK × AV) := [(.bin .eql (.x 0) (.s 0 0), .b false), (.len (.x 0), .x 1), (.bin .gtr (.x 1) (.i .i64 (.ofNat 9)), .b true)]
noncomputable def tabLong10_0 : Tab := { tabk with hyp := hyLong10_0 }
theorem runLong10_0 : okA (call tabLong10_0 9000 55 [.x 0, .i .i64 (.ofNat 10), .i .i64 (.ofNat 9)] ⟨H0 , 7, 0, 0⟩) (.tu [.i .i64 (.ofNat 0), .b false]) = true := by kernel_rfl
def nuLong10_0 (s : List UInt8) : List Value := [St' s, .int .i64 ((s.length : Int))]
theorem oneLong10_0 (s : List UInt8) : ∀ j, j < 1000000 → (nuL (nuLong10_0 s) j).oneCell' = true := fun j _ => nuL_one (l := nuLong10_0 s) rfl j
set_option maxHeartbeats 2000000 in
theorem hyOkLong10_0 (s : List UInt8) (b0 : s.length ≤ 9223372036854775807) (p0 : 9 < s.length) : ∀ k r, (k, r) ∈ hyLong10_0 → HOk (cx (nuL (nuLong10_0 s)) (oneLong10_0 s) 0 laidE laidE_stab) k r := by
  unfold hyLong10_0
  refine hcons (kEqS (isX rfl) (isSx (l := ([] : List UInt8)) 0 0 rfl) (by first | exact nilT (by first | omega | (simp <;> omega)) | exact nilF (by first | omega | (simp <;> omega)) | exact nilT' (by first | omega | (simp <;> omega)) | exact nilF' (by first | omega | (simp <;> omega)))) ?_
  refine hcons (kLenE (isX rfl) (denX rfl) (by first | omega | (simp <;> omega))) ?_
  refine hcons (kGt (isX rfl) (isZ (m := 9) rfl) (decide_eq_true (by omega))) ?_
  exact hnil
theorem pathLong10_0 (s : List UInt8) (b0 : s.length ≤ 9223372036854775807) (p0 : 9 < s.length) (w : World) (hl : laidE w) : Calls Tryd.prog 55 #[St' s, .int .i64 10, .int .i64 9] w fun e w' => e = .returned (.tuple #[.int .i64 0, .bool false]) ∧ Go.AX.Below (Go.AX.Fz.lt w.heap.size) w w' := by
  obtain ⟨fi, hfi, hb⟩ : ∃ fi, tabk.fn.get 55 = some fi ∧ fi.body.isSome = true := ⟨_, rfl, by kernel_rfl⟩
  refine (runA (tb := tabLong10_0) (ra := .tu [.i .i64 (.ofNat 0), .b false]) (hnr := rfl) ((tabkOk (nuL (nuLong10_0 s)) (oneLong10_0 s)).hyps (hyOkLong10_0 s b0 p0)) rfl hfi hb (runLong10_0 ) (args := [St' s, .int .i64 10, .int .i64 9]) (by simp only [RelL, Rel]; exact ⟨_, _, rfl, rfl, ⟨_, _, rfl, rfl, ⟨_, _, rfl, rfl, rfl⟩⟩⟩) w hl).mono fun e w' he => ?_
  obtain ⟨x, rfl, hx, hb2⟩ := he
  simp only [Rel, RelL] at hx
  obtain ⟨_, rfl, _, _, rfl, rfl, _, _, rfl, rfl, rfl⟩ := hx
  exact ⟨rfl, hb2⟩
theorem callsLong10 (s : List UInt8) (b0 : s.length ≤ 9223372036854775807) (p0 : 9 < s.length) (w : World) (hl : laidE w) : Calls Tryd.prog 55 #[St' s, .int .i64 10, .int .i64 9] w fun e w' => e = .returned (.tuple #[.int .i64 0, .bool false]) ∧ Go.AX.Below (Go.AX.Fz.lt w.heap.size) w w' := by
  rw [show (.tuple #[.int .i64 0, .bool false] : Value) = (.tuple #[.int .i64 0, .bool false] : Value) from by rfl]
  exact pathLong10_0 s b0 p0 w hl
theorem hokLong10 {nu : Nat → Value} {one : ∀ i, i < 1000000 → (nu i).oneCell' = true} {x0 x1 x2 r : AV} {s : List UInt8} (i0 : Is (cx nu one 0 laidE laidE_stab) x0 (St' s)) (i1 : Is (cx nu one 0 laidE laidE_stab) x1 (.int .i64 10)) (i2 : Is (cx nu one 0 laidE laidE_stab) x2 (.int .i64 9)) (hr : Den (cx nu one 0 laidE laidE_stab) r (.tuple #[.int .i64 0, .bool false])) (b0 : s.length ≤ 9223372036854775807) (p0 : 9 < s.length) : HOk (cx nu one 0 laidE laidE_stab) (.call 55 [x0, x1, x2]) r := by
  intro ρ args ha w hl _
  simp only [RelL] at ha
  obtain ⟨v0, t0, rfl, a0, v1, t1, rfl, a1, v2, t2, rfl, a2, rfl⟩ := ha
  have e0 := i0 ρ _ a0; subst e0
  have e1 := i1 ρ _ a1; subst e1
  have e2 := i2 ρ _ a2; subst e2
  exact (callsLong10 s b0 p0 w hl).mono fun e w' he => ⟨_, he.1, hr ρ, he.2⟩
noncomputable def bodyN16 : Code := loopNo (Tryd.f55.body.getD .skip) 0
def epN16 : List (Nat × AV) := [(0, .x 0), (1, .i .i64 (.ofNat 16)), (8, .x 1), (20, .x 2), (21, .x 3)]
def keepN16 : List Nat := [2, 6, 7]
def nuN16 (s : List UInt8) (V : Int) (i : Int) (n : Int) : List Value := [St' s, .int .i64 (n), .int .i64 ((s.length : Int)), .int .i64 (i), .int .u8 (bt s (Int.toNat (i))), .int .i64 (vDgt (bt s (Int.toNat (i)))), .int .i64 (n * 16), .int .i64 (n * 16 + (vDgt (bt s (Int.toNat (i))))), .int .i64 (i + 1)]
noncomputable def DN16 (s : List UInt8) (V : Int) (st : Int × Int) (X : Nat → Value) : Cx := cx (nuX (nuN16 s V (st.1) (st.2)) X) (nuX_one (nuL_one (l := nuN16 s V (st.1) (st.2)) rfl)) 0 laidE laidE_stab
def InvN16 (s : List UInt8) (V : Int) (i : Int) (n : Int) : Prop := (0 ≤ i) ∧ (i ≤ (s.length : Int)) ∧ (0 ≤ n) ∧ (n < (16 : Int) ^ i.toNat) ∧ (valF 16 (s.drop i.toNat) n = V)
def hyN16_0 : List (HK × AV) := [(.bin .lss (.x 3) (.x 2), .b true), (.idx (.x 0) (.x 3), .x 4), (.call 90 [.x 4], .x 5), (.bin .geq (.x 5) (.i .i64 (.ofNat 16)), .b false), (.bin .mul (.x 1) (.i .i64 (.ofNat 16)), .x 6), (.bin .add (.x 6) (.x 5), .x 7), (.bin .add (.x 3) (.i .i64 (.ofNat 1)), .x 8)]
noncomputable def tabN16_0 : Tab := { tabk with hyp := hyN16_0 }
def qN16_0 : List (Nat × AV) := [(0, .x 0), (1, .i .i64 (.ofNat 16)), (8, .x 7), (20, .x 2), (21, .x 8)]
theorem runN16_0 : okRd (code tabN16_0 900 [] bodyN16 (envOf (headOf epN16 keepN16) 38) ⟨.leaf, tabN16_0.ng, 0, 0⟩) .normal qN16_0 keepN16 38 = true := by kernel_rfl
set_option maxHeartbeats 2000000 in
theorem hyOkN16_0 (s : List UInt8) (V : Int) (i : Int) (n : Int) (X : Nat → Value) (c0 : s.length ≤ 7) (c1 : okD 16 s) (i0 : 0 ≤ i) (i1 : i ≤ (s.length : Int)) (i2 : 0 ≤ n) (i3 : n < (16 : Int) ^ i.toNat) (i4 : valF 16 (s.drop i.toNat) n = V) (h0 : i < (s.length : Int)) : ∀ k r, (k, r) ∈ hyN16_0 → HOk (cx (nuX (nuN16 s V i n) X) (nuX_one (nuL_one (l := nuN16 s V i n) rfl)) 0 laidE laidE_stab) k r := by
  have hd : i.toNat < s.length → digI (bt s i.toNat) < 16 := fun h => okD_at c1 h
  have hb : i.toNat ≤ 8 → 0 ≤ n * 16 ∧ n * 16 ≤ 68719476736 ∧ n ≤ 4294967296 := fun h => numBd (i := i.toNat) (B := 16) (.inr rfl) i2 i3 h
  have := bt_lo s (Int.toNat (i)); have := bt_hi s (Int.toNat (i))
  have := rDgt (c := bt s (Int.toNat (i))) (by omega) (by omega)
  have := dgtI (c := bt s (Int.toNat (i))) (by omega) (by omega); have := digI_bd (bt s (Int.toNat (i)))
  unfold hyN16_0
  refine hcons (kLt (isX rfl) (isX rfl) (decide_eq_true (by omega))) ?_
  refine hcons (kIdxE (i := (Int.toNat (i))) (isX rfl) (isX rfl) (denX rfl) (by omega) (by first | omega | (simp <;> omega)) rfl) ?_
  refine hcons (hokDgt (isX rfl) (by omega) (by omega) (denX rfl)) ?_
  refine hcons (kGe (isX rfl) (isZ (m := 16) rfl) (decide_eq_false (by omega))) ?_
  refine hcons (kMul (isX rfl) (isZ (m := 16) rfl) (denX rfl) (by omega) (fI64 (by omega) (by omega))) ?_
  refine hcons (kAdd (isX rfl) (isX rfl) (denX rfl) (by omega) (fI64 (by omega) (by omega))) ?_
  refine hcons (kAdd (isX rfl) (isZ (m := 1) rfl) (denX rfl) (by omega) (fI64 (by omega) (by omega))) ?_
  exact hnil
def hyN16_1 : List (HK × AV) := [(.bin .lss (.x 3) (.x 2), .b false)]
noncomputable def tabN16_1 : Tab := { tabk with hyp := hyN16_1 }
def qN16_1 : List (Nat × AV) := [(8, .x 1)]
theorem runN16_1 : okRd (code tabN16_1 900 [] bodyN16 (envOf (headOf epN16 keepN16) 38) ⟨.leaf, tabN16_1.ng, 0, 0⟩) (.exit 0) qN16_1 keepN16 38 = true := by kernel_rfl
set_option maxHeartbeats 2000000 in
theorem hyOkN16_1 (s : List UInt8) (V : Int) (i : Int) (n : Int) (X : Nat → Value) (c0 : s.length ≤ 7) (c1 : okD 16 s) (i0 : 0 ≤ i) (i1 : i ≤ (s.length : Int)) (i2 : 0 ≤ n) (i3 : n < (16 : Int) ^ i.toNat) (i4 : valF 16 (s.drop i.toNat) n = V) (h0 : ¬ (i < (s.length : Int))) : ∀ k r, (k, r) ∈ hyN16_1 → HOk (cx (nuX (nuN16 s V i n) X) (nuX_one (nuL_one (l := nuN16 s V i n) rfl)) 0 laidE laidE_stab) k r := by
  have hd : i.toNat < s.length → digI (bt s i.toNat) < 16 := fun h => okD_at c1 h
  have hb : i.toNat ≤ 8 → 0 ≤ n * 16 ∧ n * 16 ≤ 68719476736 ∧ n ≤ 4294967296 := fun h => numBd (i := i.toNat) (B := 16) (.inr rfl) i2 i3 h
  unfold hyN16_1
  refine hcons (kLt (isX rfl) (isX rfl) (decide_eq_false (by omega))) ?_
  exact hnil
def lfN16 (x0 x1 x2 x3 x4 z0 : AV) : LF := ⟨5, 38, [(0, x0), (1, x1), (8, x2), (20, x3), (21, x4)], keepN16, (.exit 0), [(8, z0)], none⟩
theorem lfOkN16 {nu : Nat → Value} {one : ∀ i, i < 1000000 → (nu i).oneCell' = true} {x0 x1 x2 x3 x4 z0 : AV} {s : List UInt8} {V : Int} {i : Int} {n : Int} (a0 : Is (cx nu one 0 laidE laidE_stab) x0 (St' s)) (a1 : Is (cx nu one 0 laidE laidE_stab) x1 (.int .i64 16)) (a2 : Is (cx nu one 0 laidE laidE_stab) x2 (.int .i64 (n))) (a3 : Is (cx nu one 0 laidE laidE_stab) x3 (.int .i64 ((s.length : Int)))) (a4 : Is (cx nu one 0 laidE laidE_stab) x4 (.int .i64 (i))) (r0 : Den (cx nu one 0 laidE laidE_stab) z0 (.int .i64 V)) (c0 : s.length ≤ 7) (c1 : okD 16 s) (i0 : 0 ≤ i) (i1 : i ≤ (s.length : Int)) (i2 : 0 ≤ n) (i3 : n < (16 : Int) ^ i.toNat) (i4 : valF 16 (s.drop i.toNat) n = V) : LfOk (cx nu one 0 laidE laidE_stab) bodyN16 (lfN16 x0 x1 x2 x3 x4 z0) := by
  refine loop_ok (ep := epN16) (I := fun st : Int × Int => InvN16 s V (st.1) (st.2)) (μ := fun st : Int × Int => (s.length - (st.1).toNat)) (D := DN16 s V) (fun _ _ => rfl) (fun _ _ => rfl) (fun _ _ => rfl) (fun st X t _ => nuX_keep) rfl (i, n) ⟨i0, i1, i2, i3, i4⟩ (fun X => ?_) (fun st X hI => ?_)
  · exact mapCons (.head _) (relIs a0 (denX rfl)) (mapCons (.tail _ (.head _)) (relIs a1 (denI _ _)) (mapCons (.tail _ (.tail _ (.head _))) (relIs a2 (denX rfl)) (mapCons (.tail _ (.tail _ (.tail _ (.head _)))) (relIs a3 (denX rfl)) (mapCons (.tail _ (.tail _ (.tail _ (.tail _ (.head _))))) (relIs a4 (denX rfl)) (mapNil)))))
  · obtain ⟨i, n⟩ := st
    have hI : InvN16 s V i n := hI
    obtain ⟨i0, i1, i2, i3, i4⟩ := hI
    have hd : i.toNat < s.length → digI (bt s i.toNat) < 16 := fun h => okD_at c1 h
    have hb : i.toNat ≤ 8 → 0 ≤ n * 16 ∧ n * 16 ≤ 68719476736 ∧ n ≤ 4294967296 := fun h => numBd (i := i.toNat) (B := 16) (.inr rfl) i2 i3 h
    by_cases h0 : i < (s.length : Int)
    · exact Round.next (tb := tabN16_0) (L := []) (f := 900) (q := qN16_0) (i + 1, n * 16 + (vDgt (bt s (Int.toNat (i))))) ((tabkOk (nuX (nuN16 s V i n) X) (nuX_one (nuL_one (l := nuN16 s V i n) rfl))).hyps (hyOkN16_0 s V i n X c0 c1 i0 i1 i2 i3 i4 h0)) (LpOk.nil _) runN16_0 (show InvN16 s V (i + 1) (n * 16 + (vDgt (bt s (Int.toNat (i))))) from (by unfold InvN16; rw [dgtI (c := bt s i.toNat) (bt_lo _ _) (bt_hi _ _)]; exact num_step (.inr rfl) c1 (by omega) i0 (by assumption) i2 i3 i4)) (by show s.length - (i + 1).toNat < s.length - i.toNat; omega) (mapCons (.head _) (relIs (isX rfl) (denX rfl)) (mapCons (.tail _ (.head _)) (relIs (isZ (m := 16) rfl) (denI _ _)) (mapCons (.tail _ (.tail _ (.head _))) (relIs (isX rfl) (denX rfl)) (mapCons (.tail _ (.tail _ (.tail _ (.head _)))) (relIs (isX rfl) (denX rfl)) (mapCons (.tail _ (.tail _ (.tail _ (.tail _ (.head _))))) (relIs (isX rfl) (denX rfl)) (mapNil))))))
    · exact Round.leave (tb := tabN16_1) (L := []) (f := 900) (q := qN16_1) ((tabkOk (nuX (nuN16 s V i n) X) (nuX_one (nuL_one (l := nuN16 s V i n) rfl))).hyps (hyOkN16_1 s V i n X c0 c1 i0 i1 i2 i3 i4 h0)) (LpOk.nil _) runN16_1 (by simp [lfN16]) (mapCons (.head _) (relIs (isX rfl) (by have e : n = V := (by rw [← i4]; exact (valEnd (by omega)).symm); rw [e]; exact r0)) (mapNil))
theorem keyN16 : oneKey (loopsOf (Tryd.f55.body.getD .skip)) 5 0 0 = true := by kernel_rfl
def hyNum16_0 : List (HK × AV) := [(.bin .eql (.x 0) (.s 0 0), .b false), (.len (.x 0), .x 1), (.bin .gtr (.x 1) (.i .i64 (.ofNat 7)), .b false)]
noncomputable def tabNum16_0 : Tab := addLps ({ tabk with hyp := hyNum16_0 }) 55 fi55 [(lfN16 (.x 0) (.i .i64 (.ofNat 16)) (.i .i64 (.ofNat 0)) (.x 1) (.i .i64 (.ofNat 0)) (.x 2))]
theorem runNum16_0 : okA (call tabNum16_0 9000 55 [.x 0, .i .i64 (.ofNat 16), .i .i64 (.ofNat 7)] ⟨H0 , 7, 0, 0⟩) (.tu [.x 2, .b true]) = true := by kernel_rfl
def nuNum16_0 (s : List UInt8) : List Value := [St' s, .int .i64 ((s.length : Int)), .int .i64 (valF 16 s 0)]
theorem oneNum16_0 (s : List UInt8) : ∀ j, j < 1000000 → (nuL (nuNum16_0 s) j).oneCell' = true := fun j _ => nuL_one (l := nuNum16_0 s) rfl j
set_option maxHeartbeats 2000000 in
theorem hyOkNum16_0 (s : List UInt8) (b0 : s.length ≤ 9223372036854775807) (p0 : 1 ≤ s.length) (p1 : s.length ≤ 7) (p2 : okD 16 s) : ∀ k r, (k, r) ∈ hyNum16_0 → HOk (cx (nuL (nuNum16_0 s)) (oneNum16_0 s) 0 laidE laidE_stab) k r := by
  unfold hyNum16_0
  refine hcons (kEqS (isX rfl) (isSx (l := ([] : List UInt8)) 0 0 rfl) (by first | exact nilT (by first | omega | (simp <;> omega)) | exact nilF (by first | omega | (simp <;> omega)) | exact nilT' (by first | omega | (simp <;> omega)) | exact nilF' (by first | omega | (simp <;> omega)))) ?_
  refine hcons (kLenE (isX rfl) (denX rfl) (by first | omega | (simp <;> omega))) ?_
  refine hcons (kGt (isX rfl) (isZ (m := 7) rfl) (decide_eq_false (by omega))) ?_
  exact hnil
theorem pathNum16_0 (s : List UInt8) (b0 : s.length ≤ 9223372036854775807) (p0 : 1 ≤ s.length) (p1 : s.length ≤ 7) (p2 : okD 16 s) (w : World) (hl : laidE w) : Calls Tryd.prog 55 #[St' s, .int .i64 16, .int .i64 7] w fun e w' => e = .returned (.tuple #[.int .i64 (valF 16 s 0), .bool true]) ∧ Go.AX.Below (Go.AX.Fz.lt w.heap.size) w w' := by
  obtain ⟨fi, hfi, hb⟩ : ∃ fi, tabNum16_0.fn.get 55 = some fi ∧ fi.body.isSome = true := ⟨_, (get_lps (by omega)), by show fi55.body.isSome = true; rw [fi55_body]; rfl⟩
  refine (runA (tb := tabNum16_0) (ra := .tu [.x 2, .b true]) (hnr := rfl) (AllOk.lp1 ((tabkOk (nuL (nuNum16_0 s)) (oneNum16_0 s)).hyps (hyOkNum16_0 s b0 p0 p1 p2)) (by omega) fi55_at fi55_body (lfCons ⟨0, keyN16, lfOkN16 (s := s) (V := valF 16 s 0) (i := 0) (n := 0) (isX rfl) (isI .i64 16) (isI .i64 0) (isX rfl) (isI .i64 0) (denX rfl) (by omega) (by assumption) (by omega) (by omega) (by omega) (by decide) rfl⟩ lfNil)) rfl hfi hb (runNum16_0 ) (args := [St' s, .int .i64 16, .int .i64 7]) (by simp only [RelL, Rel]; exact ⟨_, _, rfl, rfl, ⟨_, _, rfl, rfl, ⟨_, _, rfl, rfl, rfl⟩⟩⟩) w hl).mono fun e w' he => ?_
  obtain ⟨x, rfl, hx, hb2⟩ := he
  simp only [Rel, RelL] at hx
  obtain ⟨_, rfl, _, _, rfl, rfl, _, _, rfl, rfl, rfl⟩ := hx
  exact ⟨rfl, hb2⟩
theorem callsNum16 (s : List UInt8) (b0 : s.length ≤ 9223372036854775807) (p0 : 1 ≤ s.length) (p1 : s.length ≤ 7) (p2 : okD 16 s) (w : World) (hl : laidE w) : Calls Tryd.prog 55 #[St' s, .int .i64 16, .int .i64 7] w fun e w' => e = .returned (.tuple #[.int .i64 (valF 16 s 0), .bool true]) ∧ Go.AX.Below (Go.AX.Fz.lt w.heap.size) w w' := by
  rw [show (.tuple #[.int .i64 (valF 16 s 0), .bool true] : Value) = (.tuple #[.int .i64 (valF 16 s 0), .bool true] : Value) from by rfl]
  exact pathNum16_0 s b0 p0 p1 p2 w hl
theorem hokNum16 {nu : Nat → Value} {one : ∀ i, i < 1000000 → (nu i).oneCell' = true} {x0 x1 x2 r : AV} {s : List UInt8} (i0 : Is (cx nu one 0 laidE laidE_stab) x0 (St' s)) (i1 : Is (cx nu one 0 laidE laidE_stab) x1 (.int .i64 16)) (i2 : Is (cx nu one 0 laidE laidE_stab) x2 (.int .i64 7)) (hr : Den (cx nu one 0 laidE laidE_stab) r (.tuple #[.int .i64 (valF 16 s 0), .bool true])) (b0 : s.length ≤ 9223372036854775807) (p0 : 1 ≤ s.length) (p1 : s.length ≤ 7) (p2 : okD 16 s) : HOk (cx nu one 0 laidE laidE_stab) (.call 55 [x0, x1, x2]) r := by
  intro ρ args ha w hl _
  simp only [RelL] at ha
  obtain ⟨v0, t0, rfl, a0, v1, t1, rfl, a1, v2, t2, rfl, a2, rfl⟩ := ha
  have e0 := i0 ρ _ a0; subst e0
  have e1 := i1 ρ _ a1; subst e1
  have e2 := i2 ρ _ a2; subst e2
  exact (callsNum16 s b0 p0 p1 p2 w hl).mono fun e w' he => ⟨_, he.1, hr ρ, he.2⟩
def hyLong16_0 : List (HK × AV) := [(.bin .eql (.x 0) (.s 0 0), .b false), (.len (.x 0), .x 1), (.bin .gtr (.x 1) (.i .i64 (.ofNat 7)), .b true)]
noncomputable def tabLong16_0 : Tab := { tabk with hyp := hyLong16_0 }
theorem runLong16_0 : okA (call tabLong16_0 9000 55 [.x 0, .i .i64 (.ofNat 16), .i .i64 (.ofNat 7)] ⟨H0 , 7, 0, 0⟩) (.tu [.i .i64 (.ofNat 0), .b false]) = true := by kernel_rfl
def nuLong16_0 (s : List UInt8) : List Value := [St' s, .int .i64 ((s.length : Int))]
theorem oneLong16_0 (s : List UInt8) : ∀ j, j < 1000000 → (nuL (nuLong16_0 s) j).oneCell' = true := fun j _ => nuL_one (l := nuLong16_0 s) rfl j
set_option maxHeartbeats 2000000 in
theorem hyOkLong16_0 (s : List UInt8) (b0 : s.length ≤ 9223372036854775807) (p0 : 7 < s.length) : ∀ k r, (k, r) ∈ hyLong16_0 → HOk (cx (nuL (nuLong16_0 s)) (oneLong16_0 s) 0 laidE laidE_stab) k r := by
  unfold hyLong16_0
  refine hcons (kEqS (isX rfl) (isSx (l := ([] : List UInt8)) 0 0 rfl) (by first | exact nilT (by first | omega | (simp <;> omega)) | exact nilF (by first | omega | (simp <;> omega)) | exact nilT' (by first | omega | (simp <;> omega)) | exact nilF' (by first | omega | (simp <;> omega)))) ?_
  refine hcons (kLenE (isX rfl) (denX rfl) (by first | omega | (simp <;> omega))) ?_
  refine hcons (kGt (isX rfl) (isZ (m := 7) rfl) (decide_eq_true (by omega))) ?_
  exact hnil
theorem pathLong16_0 (s : List UInt8) (b0 : s.length ≤ 9223372036854775807) (p0 : 7 < s.length) (w : World) (hl : laidE w) : Calls Tryd.prog 55 #[St' s, .int .i64 16, .int .i64 7] w fun e w' => e = .returned (.tuple #[.int .i64 0, .bool false]) ∧ Go.AX.Below (Go.AX.Fz.lt w.heap.size) w w' := by
  obtain ⟨fi, hfi, hb⟩ : ∃ fi, tabk.fn.get 55 = some fi ∧ fi.body.isSome = true := ⟨_, rfl, by kernel_rfl⟩
  refine (runA (tb := tabLong16_0) (ra := .tu [.i .i64 (.ofNat 0), .b false]) (hnr := rfl) ((tabkOk (nuL (nuLong16_0 s)) (oneLong16_0 s)).hyps (hyOkLong16_0 s b0 p0)) rfl hfi hb (runLong16_0 ) (args := [St' s, .int .i64 16, .int .i64 7]) (by simp only [RelL, Rel]; exact ⟨_, _, rfl, rfl, ⟨_, _, rfl, rfl, ⟨_, _, rfl, rfl, rfl⟩⟩⟩) w hl).mono fun e w' he => ?_
  obtain ⟨x, rfl, hx, hb2⟩ := he
  simp only [Rel, RelL] at hx
  obtain ⟨_, rfl, _, _, rfl, rfl, _, _, rfl, rfl, rfl⟩ := hx
  exact ⟨rfl, hb2⟩
theorem callsLong16 (s : List UInt8) (b0 : s.length ≤ 9223372036854775807) (p0 : 7 < s.length) (w : World) (hl : laidE w) : Calls Tryd.prog 55 #[St' s, .int .i64 16, .int .i64 7] w fun e w' => e = .returned (.tuple #[.int .i64 0, .bool false]) ∧ Go.AX.Below (Go.AX.Fz.lt w.heap.size) w w' := by
  rw [show (.tuple #[.int .i64 0, .bool false] : Value) = (.tuple #[.int .i64 0, .bool false] : Value) from by rfl]
  exact pathLong16_0 s b0 p0 w hl
theorem hokLong16 {nu : Nat → Value} {one : ∀ i, i < 1000000 → (nu i).oneCell' = true} {x0 x1 x2 r : AV} {s : List UInt8} (i0 : Is (cx nu one 0 laidE laidE_stab) x0 (St' s)) (i1 : Is (cx nu one 0 laidE laidE_stab) x1 (.int .i64 16)) (i2 : Is (cx nu one 0 laidE laidE_stab) x2 (.int .i64 7)) (hr : Den (cx nu one 0 laidE laidE_stab) r (.tuple #[.int .i64 0, .bool false])) (b0 : s.length ≤ 9223372036854775807) (p0 : 7 < s.length) : HOk (cx nu one 0 laidE laidE_stab) (.call 55 [x0, x1, x2]) r := by
  intro ρ args ha w hl _
  simp only [RelL] at ha
  obtain ⟨v0, t0, rfl, a0, v1, t1, rfl, a1, v2, t2, rfl, a2, rfl⟩ := ha
  have e0 := i0 ρ _ a0; subst e0
  have e1 := i1 ρ _ a1; subst e1
  have e2 := i2 ρ _ a2; subst e2
  exact (callsLong16 s b0 p0 w hl).mono fun e w' he => ⟨_, he.1, hr ρ, he.2⟩
noncomputable def bodyLd : Code := loopNo (Tryd.f5.body.getD .skip) 0
def epLd : List (Nat × AV) := [(8, .x 0), (10, .x 1)]
def keepLd : List Nat := [0, 1, 2, 7, 9]
def nuLd (T : List UInt8) (f : Nat) (x : Int) (s : List UInt8) : List Value := [St' s, .int .i64 (x), .int .i64 (x % 10), .int .i64 ((x % 10) + 48), .int .u8 ((x % 10) + 48), St' ([u8 ((x % 10) + 48)]), St' ([u8 ((x % 10) + 48)] ++ s), .int .i64 (x / 10), .int .i64 (x % 10), .int .i64 ((x % 10) + 48), .int .u8 ((x % 10) + 48), St' ([u8 ((x % 10) + 48)]), St' ([u8 ((x % 10) + 48)] ++ s), .int .i64 (x / 10)]
noncomputable def DLd (T : List UInt8) (st : Nat × Int × List UInt8) (X : Nat → Value) : Cx := cx (nuX (nuLd T (st.1) (st.2.1) (st.2.2)) X) (nuX_one (nuL_one (l := nuLd T (st.1) (st.2.1) (st.2.2)) rfl)) 0 laidE laidE_stab
def InvLd (T : List UInt8) (f : Nat) (x : Int) (s : List UInt8) : Prop := (0 ≤ x) ∧ (x < (f : Int)) ∧ (s = [] → x + 1 < (f : Int)) ∧ (digsF 10 false f x s = T) ∧ (s.length + f ≤ 20000)
def hyLd_0 : List (HK × AV) := [(.bin .gtr (.x 1) (.i .i64 (.ofNat 0)), .b true), (.bin .rem (.x 1) (.i .i64 (.ofNat 10)), .x 2), (.bin .add (.i .i64 (.ofNat 48)) (.x 2), .x 3), (.conv 5 (.x 3), .x 4), (.bytes [.x 4], .x 5), (.bin .add (.x 5) (.x 0), .x 6), (.bin .quo (.x 1) (.i .i64 (.ofNat 10)), .x 7)]
noncomputable def tabLd_0 : Tab := { tabk with hyp := hyLd_0 }
def qLd_0 : List (Nat × AV) := [(8, .x 6), (10, .x 7)]
theorem runLd_0 : okRd (code tabLd_0 400 [] bodyLd (envOf (headOf epLd keepLd) 128) ⟨.leaf, tabLd_0.ng, 0, 0⟩) .normal qLd_0 keepLd 128 = true := by kernel_rfl
set_option maxHeartbeats 2000000 in
theorem hyOkLd_0 (T : List UInt8) (f : Nat) (x : Int) (s : List UInt8) (X : Nat → Value) (i0 : 0 ≤ x) (i1 : x < (f : Int)) (i2 : s = [] → x + 1 < (f : Int)) (i3 : digsF 10 false f x s = T) (i4 : s.length + f ≤ 20000) (h0 : 0 < x) : ∀ k r, (k, r) ∈ hyLd_0 → HOk (cx (nuX (nuLd T f x s) X) (nuX_one (nuL_one (l := nuLd T f x s) rfl)) 0 laidE laidE_stab) k r := by
  unfold hyLd_0
  refine hcons (kGt (isX rfl) (isZ (m := 0) rfl) (decide_eq_true (by omega))) ?_
  refine hcons (kRem (isX rfl) (isZ (m := 10) rfl) (denX rfl) (by omega) (by omega) rfl) ?_
  refine hcons (kAdd (isZ (m := 48) rfl) (isX rfl) (denX rfl) (by omega) (fI64 (by omega) (by omega))) ?_
  refine hcons (kConvF (isX rfl) tu5 (denX rfl) (fU8 (by omega) (by omega))) ?_
  refine hcons (kBytesB (bs := [u8 ((x % 10) + 48)]) (.cons (isB8 (isX rfl) (by omega) (by omega)) .nil) (denX rfl)) ?_
  refine hcons (kCat (isX rfl) (isX rfl) (denX rfl) (by first | rfl | (simp; done)) (by first | omega | (simp <;> omega))) ?_
  refine hcons (kQuo (isX rfl) (isZ (m := 10) rfl) (denX rfl) (by omega) (by omega) rfl (fI64 (by omega) (by omega))) ?_
  exact hnil
def hyLd_1 : List (HK × AV) := [(.bin .gtr (.x 1) (.i .i64 (.ofNat 0)), .b false), (.bin .eql (.x 0) (.s 0 0), .b false)]
noncomputable def tabLd_1 : Tab := { tabk with hyp := hyLd_1 }
def qLd_1 : List (Nat × AV) := [(8, .x 0)]
theorem runLd_1 : okRd (code tabLd_1 400 [] bodyLd (envOf (headOf epLd keepLd) 128) ⟨.leaf, tabLd_1.ng, 0, 0⟩) (.exit 0) qLd_1 keepLd 128 = true := by kernel_rfl
set_option maxHeartbeats 2000000 in
theorem hyOkLd_1 (T : List UInt8) (f : Nat) (x : Int) (s : List UInt8) (X : Nat → Value) (i0 : 0 ≤ x) (i1 : x < (f : Int)) (i2 : s = [] → x + 1 < (f : Int)) (i3 : digsF 10 false f x s = T) (i4 : s.length + f ≤ 20000) (h0 : ¬ (0 < x)) (h1 : ¬ ((s.length : Int) = 0)) : ∀ k r, (k, r) ∈ hyLd_1 → HOk (cx (nuX (nuLd T f x s) X) (nuX_one (nuL_one (l := nuLd T f x s) rfl)) 0 laidE laidE_stab) k r := by
  unfold hyLd_1
  refine hcons (kGt (isX rfl) (isZ (m := 0) rfl) (decide_eq_false (by omega))) ?_
  refine hcons (kEqS (isX rfl) (isSx (l := ([] : List UInt8)) 0 0 rfl) (by first | exact nilT (by first | omega | (simp <;> omega)) | exact nilF (by first | omega | (simp <;> omega)) | exact nilT' (by first | omega | (simp <;> omega)) | exact nilF' (by first | omega | (simp <;> omega)))) ?_
  exact hnil
def hyLd_2 : List (HK × AV) := [(.bin .gtr (.x 1) (.i .i64 (.ofNat 0)), .b false), (.bin .eql (.x 0) (.s 0 0), .b true), (.bin .rem (.x 1) (.i .i64 (.ofNat 10)), .x 8), (.bin .add (.i .i64 (.ofNat 48)) (.x 8), .x 9), (.conv 5 (.x 9), .x 10), (.bytes [.x 10], .x 11), (.bin .add (.x 11) (.x 0), .x 12), (.bin .quo (.x 1) (.i .i64 (.ofNat 10)), .x 13)]
noncomputable def tabLd_2 : Tab := { tabk with hyp := hyLd_2 }
def qLd_2 : List (Nat × AV) := [(8, .x 12), (10, .x 13)]
theorem runLd_2 : okRd (code tabLd_2 400 [] bodyLd (envOf (headOf epLd keepLd) 128) ⟨.leaf, tabLd_2.ng, 0, 0⟩) .normal qLd_2 keepLd 128 = true := by kernel_rfl
set_option maxHeartbeats 2000000 in
theorem hyOkLd_2 (T : List UInt8) (f : Nat) (x : Int) (s : List UInt8) (X : Nat → Value) (i0 : 0 ≤ x) (i1 : x < (f : Int)) (i2 : s = [] → x + 1 < (f : Int)) (i3 : digsF 10 false f x s = T) (i4 : s.length + f ≤ 20000) (h0 : ¬ (0 < x)) (h1 : (s.length : Int) = 0) : ∀ k r, (k, r) ∈ hyLd_2 → HOk (cx (nuX (nuLd T f x s) X) (nuX_one (nuL_one (l := nuLd T f x s) rfl)) 0 laidE laidE_stab) k r := by
  unfold hyLd_2
  refine hcons (kGt (isX rfl) (isZ (m := 0) rfl) (decide_eq_false (by omega))) ?_
  refine hcons (kEqS (isX rfl) (isSx (l := ([] : List UInt8)) 0 0 rfl) (by first | exact nilT (by first | omega | (simp <;> omega)) | exact nilF (by first | omega | (simp <;> omega)) | exact nilT' (by first | omega | (simp <;> omega)) | exact nilF' (by first | omega | (simp <;> omega)))) ?_
  refine hcons (kRem (isX rfl) (isZ (m := 10) rfl) (denX rfl) (by omega) (by omega) rfl) ?_
  refine hcons (kAdd (isZ (m := 48) rfl) (isX rfl) (denX rfl) (by omega) (fI64 (by omega) (by omega))) ?_
  refine hcons (kConvF (isX rfl) tu5 (denX rfl) (fU8 (by omega) (by omega))) ?_
  refine hcons (kBytesB (bs := [u8 ((x % 10) + 48)]) (.cons (isB8 (isX rfl) (by omega) (by omega)) .nil) (denX rfl)) ?_
  refine hcons (kCat (isX rfl) (isX rfl) (denX rfl) (by first | rfl | (simp; done)) (by first | omega | (simp <;> omega))) ?_
  refine hcons (kQuo (isX rfl) (isZ (m := 10) rfl) (denX rfl) (by omega) (by omega) rfl (fI64 (by omega) (by omega))) ?_
  exact hnil
def lfLd (x0 x1 z0 : AV) : LF := ⟨6, 128, [(8, x0), (10, x1)], keepLd, (.exit 0), [(8, z0)], none⟩
theorem lfOkLd {nu : Nat → Value} {one : ∀ i, i < 1000000 → (nu i).oneCell' = true} {x0 x1 z0 : AV} {T : List UInt8} {f : Nat} {x : Int} {s : List UInt8} (a0 : Is (cx nu one 0 laidE laidE_stab) x0 (St' s)) (a1 : Is (cx nu one 0 laidE laidE_stab) x1 (.int .i64 (x))) (r0 : Den (cx nu one 0 laidE laidE_stab) z0 (St' T)) (i0 : 0 ≤ x) (i1 : x < (f : Int)) (i2 : s = [] → x + 1 < (f : Int)) (i3 : digsF 10 false f x s = T) (i4 : s.length + f ≤ 20000) : LfOk (cx nu one 0 laidE laidE_stab) bodyLd (lfLd x0 x1 z0) := by
  refine loop_ok (ep := epLd) (I := fun st : Nat × Int × List UInt8 => InvLd T (st.1) (st.2.1) (st.2.2)) (μ := fun st : Nat × Int × List UInt8 => (st.1)) (D := DLd T) (fun _ _ => rfl) (fun _ _ => rfl) (fun _ _ => rfl) (fun st X t _ => nuX_keep) rfl (f, x, s) ⟨i0, i1, i2, i3, i4⟩ (fun X => ?_) (fun st X hI => ?_)
  · exact mapCons (.head _) (relIs a0 (denX rfl)) (mapCons (.tail _ (.head _)) (relIs a1 (denX rfl)) (mapNil))
  · obtain ⟨f, x, s⟩ := st
    have hI : InvLd T f x s := hI
    obtain ⟨i0, i1, i2, i3, i4⟩ := hI
    by_cases h0 : 0 < x
    · exact Round.next (tb := tabLd_0) (L := []) (f := 400) (q := qLd_0) (f - 1, x / 10, ([u8 ((x % 10) + 48)] ++ s)) ((tabkOk (nuX (nuLd T f x s) X) (nuX_one (nuL_one (l := nuLd T f x s) rfl))).hyps (hyOkLd_0 T f x s X i0 i1 i2 i3 i4 h0)) (LpOk.nil _) runLd_0 (show InvLd T (f - 1) (x / 10) (([u8 ((x % 10) + 48)] ++ s)) from ⟨by omega, (by first | omega | (have := i2 (List.eq_nil_of_length_eq_zero (by omega)); omega)), (fun h => by simp at h), (by have hd : ¬ (x = 0 ∧ s ≠ []) := (by first | (intro h; omega) | (intro h; exact h.2 (List.eq_nil_of_length_eq_zero (by omega)))); rw [← i3, digs_step (by first | omega | (have := i2 (List.eq_nil_of_length_eq_zero (by omega)); omega)) hd, dgc_lo (by omega)] <;> rfl), by simp only [List.length_append, List.length_cons, List.length_nil]; omega⟩) (by show f - 1 < f; first | omega | (have := i2 (List.eq_nil_of_length_eq_zero (by omega)); omega)) (mapCons (.head _) (relIs (isX rfl) (denX rfl)) (mapCons (.tail _ (.head _)) (relIs (isX rfl) (denX rfl)) (mapNil)))
    · by_cases h1 : (s.length : Int) = 0
      · exact Round.next (tb := tabLd_2) (L := []) (f := 400) (q := qLd_2) (f - 1, x / 10, ([u8 ((x % 10) + 48)] ++ s)) ((tabkOk (nuX (nuLd T f x s) X) (nuX_one (nuL_one (l := nuLd T f x s) rfl))).hyps (hyOkLd_2 T f x s X i0 i1 i2 i3 i4 h0 h1)) (LpOk.nil _) runLd_2 (show InvLd T (f - 1) (x / 10) (([u8 ((x % 10) + 48)] ++ s)) from ⟨by omega, (by first | omega | (have := i2 (List.eq_nil_of_length_eq_zero (by omega)); omega)), (fun h => by simp at h), (by have hd : ¬ (x = 0 ∧ s ≠ []) := (by first | (intro h; omega) | (intro h; exact h.2 (List.eq_nil_of_length_eq_zero (by omega)))); rw [← i3, digs_step (by first | omega | (have := i2 (List.eq_nil_of_length_eq_zero (by omega)); omega)) hd, dgc_lo (by omega)] <;> rfl), by simp only [List.length_append, List.length_cons, List.length_nil]; omega⟩) (by show f - 1 < f; first | omega | (have := i2 (List.eq_nil_of_length_eq_zero (by omega)); omega)) (mapCons (.head _) (relIs (isX rfl) (denX rfl)) (mapCons (.tail _ (.head _)) (relIs (isX rfl) (denX rfl)) (mapNil)))
      · exact Round.leave (tb := tabLd_1) (L := []) (f := 400) (q := qLd_1) ((tabkOk (nuX (nuLd T f x s) X) (nuX_one (nuL_one (l := nuLd T f x s) rfl))).hyps (hyOkLd_1 T f x s X i0 i1 i2 i3 i4 h0 h1)) (LpOk.nil _) runLd_1 (by simp [lfLd]) (mapCons (.head _) (relIs (isX rfl) (by have e0 : x = 0 := (by omega); have e : s = T := (by subst e0; rw [← i3]; exact (digs_end (neNil (by omega))).symm); rw [e]; exact r0)) (mapNil))
theorem keyLd : oneKey (loopsOf (Tryd.f5.body.getD .skip)) 6 0 0 = true := by kernel_rfl
noncomputable def bodyLu : Code := loopNo (Tryd.f5.body.getD .skip) 1
def epLu : List (Nat × AV) := [(9, .x 0), (11, .x 1), (2, .b true)]
def keepLu : List Nat := [0, 1, 7, 8]
def nuLu (T : List UInt8) (f : Nat) (x : Int) (s : List UInt8) : List Value := [St' s, .int .i64 (x), .int .i64 (x % 16), .int .i64 ((x % 16) + 48), .int .u8 ((x % 16) + 48), St' ([u8 ((x % 16) + 48)]), St' ([u8 ((x % 16) + 48)] ++ s), .int .i64 (x / 16), .int .i64 (x % 16), .int .i64 ((x % 16) + 48), .int .u8 ((x % 16) + 48), St' ([u8 ((x % 16) + 48)]), St' ([u8 ((x % 16) + 48)] ++ s), .int .i64 (x / 16), .int .i64 (x % 16), .int .i64 ((x % 16) + 48), .int .u8 ((x % 16) + 48), .int .i64 ((x % 16) + 65), .int .i64 ((x % 16) + 55), .int .u8 ((x % 16) + 55), St' ([u8 ((x % 16) + 55)]), St' ([u8 ((x % 16) + 55)] ++ s), .int .i64 (x / 16)]
noncomputable def DLu (T : List UInt8) (st : Nat × Int × List UInt8) (X : Nat → Value) : Cx := cx (nuX (nuLu T (st.1) (st.2.1) (st.2.2)) X) (nuX_one (nuL_one (l := nuLu T (st.1) (st.2.1) (st.2.2)) rfl)) 0 laidE laidE_stab
def InvLu (T : List UInt8) (f : Nat) (x : Int) (s : List UInt8) : Prop := (0 ≤ x) ∧ (x < (f : Int)) ∧ (s = [] → x + 1 < (f : Int)) ∧ (digsF 16 true f x s = T) ∧ (s.length + f ≤ 20000)
def hyLu_0 : List (HK × AV) := [(.bin .gtr (.x 1) (.i .i64 (.ofNat 0)), .b true), (.bin .rem (.x 1) (.i .i64 (.ofNat 16)), .x 2), (.bin .add (.i .i64 (.ofNat 48)) (.x 2), .x 3), (.conv 5 (.x 3), .x 4), (.bin .gtr (.x 2) (.i .i64 (.ofNat 9)), .b false), (.bytes [.x 4], .x 5), (.bin .add (.x 5) (.x 0), .x 6), (.bin .quo (.x 1) (.i .i64 (.ofNat 16)), .x 7)]
noncomputable def tabLu_0 : Tab := { tabk with hyp := hyLu_0 }
def qLu_0 : List (Nat × AV) := [(9, .x 6), (11, .x 7), (2, .b true)]
theorem runLu_0 : okRd (code tabLu_0 400 [] bodyLu (envOf (headOf epLu keepLu) 128) ⟨.leaf, tabLu_0.ng, 0, 0⟩) .normal qLu_0 keepLu 128 = true := by kernel_rfl
set_option maxHeartbeats 2000000 in
theorem hyOkLu_0 (T : List UInt8) (f : Nat) (x : Int) (s : List UInt8) (X : Nat → Value) (i0 : 0 ≤ x) (i1 : x < (f : Int)) (i2 : s = [] → x + 1 < (f : Int)) (i3 : digsF 16 true f x s = T) (i4 : s.length + f ≤ 20000) (h0 : 0 < x) (h1 : ¬ (9 < x % 16)) : ∀ k r, (k, r) ∈ hyLu_0 → HOk (cx (nuX (nuLu T f x s) X) (nuX_one (nuL_one (l := nuLu T f x s) rfl)) 0 laidE laidE_stab) k r := by
  unfold hyLu_0
  refine hcons (kGt (isX rfl) (isZ (m := 0) rfl) (decide_eq_true (by omega))) ?_
  refine hcons (kRem (isX rfl) (isZ (m := 16) rfl) (denX rfl) (by omega) (by omega) rfl) ?_
  refine hcons (kAdd (isZ (m := 48) rfl) (isX rfl) (denX rfl) (by omega) (fI64 (by omega) (by omega))) ?_
  refine hcons (kConvF (isX rfl) tu5 (denX rfl) (fU8 (by omega) (by omega))) ?_
  refine hcons (kGt (isX rfl) (isZ (m := 9) rfl) (decide_eq_false (by omega))) ?_
  refine hcons (kBytesB (bs := [u8 ((x % 16) + 48)]) (.cons (isB8 (isX rfl) (by omega) (by omega)) .nil) (denX rfl)) ?_
  refine hcons (kCat (isX rfl) (isX rfl) (denX rfl) (by first | rfl | (simp; done)) (by first | omega | (simp <;> omega))) ?_
  refine hcons (kQuo (isX rfl) (isZ (m := 16) rfl) (denX rfl) (by omega) (by omega) rfl (fI64 (by omega) (by omega))) ?_
  exact hnil
def hyLu_1 : List (HK × AV) := [(.bin .gtr (.x 1) (.i .i64 (.ofNat 0)), .b false), (.bin .eql (.x 0) (.s 0 0), .b false)]
noncomputable def tabLu_1 : Tab := { tabk with hyp := hyLu_1 }
def qLu_1 : List (Nat × AV) := [(9, .x 0)]
theorem runLu_1 : okRd (code tabLu_1 400 [] bodyLu (envOf (headOf epLu keepLu) 128) ⟨.leaf, tabLu_1.ng, 0, 0⟩) (.exit 2) qLu_1 keepLu 128 = true := by kernel_rfl
set_option maxHeartbeats 2000000 in
theorem hyOkLu_1 (T : List UInt8) (f : Nat) (x : Int) (s : List UInt8) (X : Nat → Value) (i0 : 0 ≤ x) (i1 : x < (f : Int)) (i2 : s = [] → x + 1 < (f : Int)) (i3 : digsF 16 true f x s = T) (i4 : s.length + f ≤ 20000) (h0 : ¬ (0 < x)) (h1 : ¬ ((s.length : Int) = 0)) : ∀ k r, (k, r) ∈ hyLu_1 → HOk (cx (nuX (nuLu T f x s) X) (nuX_one (nuL_one (l := nuLu T f x s) rfl)) 0 laidE laidE_stab) k r := by
  unfold hyLu_1
  refine hcons (kGt (isX rfl) (isZ (m := 0) rfl) (decide_eq_false (by omega))) ?_
  refine hcons (kEqS (isX rfl) (isSx (l := ([] : List UInt8)) 0 0 rfl) (by first | exact nilT (by first | omega | (simp <;> omega)) | exact nilF (by first | omega | (simp <;> omega)) | exact nilT' (by first | omega | (simp <;> omega)) | exact nilF' (by first | omega | (simp <;> omega)))) ?_
  exact hnil
def hyLu_2 : List (HK × AV) := [(.bin .gtr (.x 1) (.i .i64 (.ofNat 0)), .b false), (.bin .eql (.x 0) (.s 0 0), .b true), (.bin .rem (.x 1) (.i .i64 (.ofNat 16)), .x 8), (.bin .add (.i .i64 (.ofNat 48)) (.x 8), .x 9), (.conv 5 (.x 9), .x 10), (.bin .gtr (.x 8) (.i .i64 (.ofNat 9)), .b false), (.bytes [.x 10], .x 11), (.bin .add (.x 11) (.x 0), .x 12), (.bin .quo (.x 1) (.i .i64 (.ofNat 16)), .x 13)]
noncomputable def tabLu_2 : Tab := { tabk with hyp := hyLu_2 }
def qLu_2 : List (Nat × AV) := [(9, .x 12), (11, .x 13), (2, .b true)]
theorem runLu_2 : okRd (code tabLu_2 400 [] bodyLu (envOf (headOf epLu keepLu) 128) ⟨.leaf, tabLu_2.ng, 0, 0⟩) .normal qLu_2 keepLu 128 = true := by kernel_rfl
set_option maxHeartbeats 2000000 in
theorem hyOkLu_2 (T : List UInt8) (f : Nat) (x : Int) (s : List UInt8) (X : Nat → Value) (i0 : 0 ≤ x) (i1 : x < (f : Int)) (i2 : s = [] → x + 1 < (f : Int)) (i3 : digsF 16 true f x s = T) (i4 : s.length + f ≤ 20000) (h0 : ¬ (0 < x)) (h1 : (s.length : Int) = 0) : ∀ k r, (k, r) ∈ hyLu_2 → HOk (cx (nuX (nuLu T f x s) X) (nuX_one (nuL_one (l := nuLu T f x s) rfl)) 0 laidE laidE_stab) k r := by
  unfold hyLu_2
  refine hcons (kGt (isX rfl) (isZ (m := 0) rfl) (decide_eq_false (by omega))) ?_
  refine hcons (kEqS (isX rfl) (isSx (l := ([] : List UInt8)) 0 0 rfl) (by first | exact nilT (by first | omega | (simp <;> omega)) | exact nilF (by first | omega | (simp <;> omega)) | exact nilT' (by first | omega | (simp <;> omega)) | exact nilF' (by first | omega | (simp <;> omega)))) ?_
  refine hcons (kRem (isX rfl) (isZ (m := 16) rfl) (denX rfl) (by omega) (by omega) rfl) ?_
  refine hcons (kAdd (isZ (m := 48) rfl) (isX rfl) (denX rfl) (by omega) (fI64 (by omega) (by omega))) ?_
  refine hcons (kConvF (isX rfl) tu5 (denX rfl) (fU8 (by omega) (by omega))) ?_
  refine hcons (kGt (isX rfl) (isZ (m := 9) rfl) (decide_eq_false (by omega))) ?_
  refine hcons (kBytesB (bs := [u8 ((x % 16) + 48)]) (.cons (isB8 (isX rfl) (by omega) (by omega)) .nil) (denX rfl)) ?_
  refine hcons (kCat (isX rfl) (isX rfl) (denX rfl) (by first | rfl | (simp; done)) (by first | omega | (simp <;> omega))) ?_
  refine hcons (kQuo (isX rfl) (isZ (m := 16) rfl) (denX rfl) (by omega) (by omega) rfl (fI64 (by omega) (by omega))) ?_
  exact hnil
def hyLu_3 : List (HK × AV) := [(.bin .gtr (.x 1) (.i .i64 (.ofNat 0)), .b true), (.bin .rem (.x 1) (.i .i64 (.ofNat 16)), .x 14), (.bin .add (.i .i64 (.ofNat 48)) (.x 14), .x 15), (.conv 5 (.x 15), .x 16), (.bin .gtr (.x 14) (.i .i64 (.ofNat 9)), .b true), (.bin .add (.i .i64 (.ofNat 65)) (.x 14), .x 17), (.bin .sub (.x 17) (.i .i64 (.ofNat 10)), .x 18), (.conv 5 (.x 18), .x 19), (.bytes [.x 19], .x 20), (.bin .add (.x 20) (.x 0), .x 21), (.bin .quo (.x 1) (.i .i64 (.ofNat 16)), .x 22)]
noncomputable def tabLu_3 : Tab := { tabk with hyp := hyLu_3 }
def qLu_3 : List (Nat × AV) := [(9, .x 21), (11, .x 22), (2, .b true)]
theorem runLu_3 : okRd (code tabLu_3 400 [] bodyLu (envOf (headOf epLu keepLu) 128) ⟨.leaf, tabLu_3.ng, 0, 0⟩) .normal qLu_3 keepLu 128 = true := by kernel_rfl
set_option maxHeartbeats 2000000 in
theorem hyOkLu_3 (T : List UInt8) (f : Nat) (x : Int) (s : List UInt8) (X : Nat → Value) (i0 : 0 ≤ x) (i1 : x < (f : Int)) (i2 : s = [] → x + 1 < (f : Int)) (i3 : digsF 16 true f x s = T) (i4 : s.length + f ≤ 20000) (h0 : 0 < x) (h1 : 9 < x % 16) : ∀ k r, (k, r) ∈ hyLu_3 → HOk (cx (nuX (nuLu T f x s) X) (nuX_one (nuL_one (l := nuLu T f x s) rfl)) 0 laidE laidE_stab) k r := by
  unfold hyLu_3
  refine hcons (kGt (isX rfl) (isZ (m := 0) rfl) (decide_eq_true (by omega))) ?_
  refine hcons (kRem (isX rfl) (isZ (m := 16) rfl) (denX rfl) (by omega) (by omega) rfl) ?_
  refine hcons (kAdd (isZ (m := 48) rfl) (isX rfl) (denX rfl) (by omega) (fI64 (by omega) (by omega))) ?_
  refine hcons (kConvF (isX rfl) tu5 (denX rfl) (fU8 (by omega) (by omega))) ?_
  refine hcons (kGt (isX rfl) (isZ (m := 9) rfl) (decide_eq_true (by omega))) ?_
  refine hcons (kAdd (isZ (m := 65) rfl) (isX rfl) (denX rfl) (by omega) (fI64 (by omega) (by omega))) ?_
  refine hcons (kSub (isX rfl) (isZ (m := 10) rfl) (denX rfl) (by omega) (fI64 (by omega) (by omega))) ?_
  refine hcons (kConvF (isX rfl) tu5 (denX rfl) (fU8 (by omega) (by omega))) ?_
  refine hcons (kBytesB (bs := [u8 ((x % 16) + 55)]) (.cons (isB8 (isX rfl) (by omega) (by omega)) .nil) (denX rfl)) ?_
  refine hcons (kCat (isX rfl) (isX rfl) (denX rfl) (by first | rfl | (simp; done)) (by first | omega | (simp <;> omega))) ?_
  refine hcons (kQuo (isX rfl) (isZ (m := 16) rfl) (denX rfl) (by omega) (by omega) rfl (fI64 (by omega) (by omega))) ?_
  exact hnil
def lfLu (x0 x1 x2 z0 : AV) : LF := ⟨10, 128, [(9, x0), (11, x1), (2, x2)], keepLu, (.exit 2), [(9, z0)], none⟩
theorem lfOkLu {nu : Nat → Value} {one : ∀ i, i < 1000000 → (nu i).oneCell' = true} {x0 x1 x2 z0 : AV} {T : List UInt8} {f : Nat} {x : Int} {s : List UInt8} (a0 : Is (cx nu one 0 laidE laidE_stab) x0 (St' s)) (a1 : Is (cx nu one 0 laidE laidE_stab) x1 (.int .i64 (x))) (a2 : Is (cx nu one 0 laidE laidE_stab) x2 (.bool true)) (r0 : Den (cx nu one 0 laidE laidE_stab) z0 (St' T)) (i0 : 0 ≤ x) (i1 : x < (f : Int)) (i2 : s = [] → x + 1 < (f : Int)) (i3 : digsF 16 true f x s = T) (i4 : s.length + f ≤ 20000) : LfOk (cx nu one 0 laidE laidE_stab) bodyLu (lfLu x0 x1 x2 z0) := by
  refine loop_ok (ep := epLu) (I := fun st : Nat × Int × List UInt8 => InvLu T (st.1) (st.2.1) (st.2.2)) (μ := fun st : Nat × Int × List UInt8 => (st.1)) (D := DLu T) (fun _ _ => rfl) (fun _ _ => rfl) (fun _ _ => rfl) (fun st X t _ => nuX_keep) rfl (f, x, s) ⟨i0, i1, i2, i3, i4⟩ (fun X => ?_) (fun st X hI => ?_)
  · exact mapCons (.head _) (relIs a0 (denX rfl)) (mapCons (.tail _ (.head _)) (relIs a1 (denX rfl)) (mapCons (.tail _ (.tail _ (.head _))) (relIs a2 (denB _)) (mapNil)))
  · obtain ⟨f, x, s⟩ := st
    have hI : InvLu T f x s := hI
    obtain ⟨i0, i1, i2, i3, i4⟩ := hI
    by_cases h0 : 0 < x
    · by_cases h1 : 9 < x % 16
      · exact Round.next (tb := tabLu_3) (L := []) (f := 400) (q := qLu_3) (f - 1, x / 16, ([u8 ((x % 16) + 55)] ++ s)) ((tabkOk (nuX (nuLu T f x s) X) (nuX_one (nuL_one (l := nuLu T f x s) rfl))).hyps (hyOkLu_3 T f x s X i0 i1 i2 i3 i4 h0 h1)) (LpOk.nil _) runLu_3 (show InvLu T (f - 1) (x / 16) (([u8 ((x % 16) + 55)] ++ s)) from ⟨by omega, (by first | omega | (have := i2 (List.eq_nil_of_length_eq_zero (by omega)); omega)), (fun h => by simp at h), (by have hd : ¬ (x = 0 ∧ s ≠ []) := (by first | (intro h; omega) | (intro h; exact h.2 (List.eq_nil_of_length_eq_zero (by omega)))); rw [← i3, digs_step (by first | omega | (have := i2 (List.eq_nil_of_length_eq_zero (by omega)); omega)) hd, dgc_up (by omega)] <;> rfl), by simp only [List.length_append, List.length_cons, List.length_nil]; omega⟩) (by show f - 1 < f; first | omega | (have := i2 (List.eq_nil_of_length_eq_zero (by omega)); omega)) (mapCons (.head _) (relIs (isX rfl) (denX rfl)) (mapCons (.tail _ (.head _)) (relIs (isX rfl) (denX rfl)) (mapCons (.tail _ (.tail _ (.head _))) (relIs (isB _) (denB _)) (mapNil))))
      · exact Round.next (tb := tabLu_0) (L := []) (f := 400) (q := qLu_0) (f - 1, x / 16, ([u8 ((x % 16) + 48)] ++ s)) ((tabkOk (nuX (nuLu T f x s) X) (nuX_one (nuL_one (l := nuLu T f x s) rfl))).hyps (hyOkLu_0 T f x s X i0 i1 i2 i3 i4 h0 h1)) (LpOk.nil _) runLu_0 (show InvLu T (f - 1) (x / 16) (([u8 ((x % 16) + 48)] ++ s)) from ⟨by omega, (by first | omega | (have := i2 (List.eq_nil_of_length_eq_zero (by omega)); omega)), (fun h => by simp at h), (by have hd : ¬ (x = 0 ∧ s ≠ []) := (by first | (intro h; omega) | (intro h; exact h.2 (List.eq_nil_of_length_eq_zero (by omega)))); rw [← i3, digs_step (by first | omega | (have := i2 (List.eq_nil_of_length_eq_zero (by omega)); omega)) hd, dgc_lo (by omega)] <;> rfl), by simp only [List.length_append, List.length_cons, List.length_nil]; omega⟩) (by show f - 1 < f; first | omega | (have := i2 (List.eq_nil_of_length_eq_zero (by omega)); omega)) (mapCons (.head _) (relIs (isX rfl) (denX rfl)) (mapCons (.tail _ (.head _)) (relIs (isX rfl) (denX rfl)) (mapCons (.tail _ (.tail _ (.head _))) (relIs (isB _) (denB _)) (mapNil))))
    · by_cases h1 : (s.length : Int) = 0
      · exact Round.next (tb := tabLu_2) (L := []) (f := 400) (q := qLu_2) (f - 1, x / 16, ([u8 ((x % 16) + 48)] ++ s)) ((tabkOk (nuX (nuLu T f x s) X) (nuX_one (nuL_one (l := nuLu T f x s) rfl))).hyps (hyOkLu_2 T f x s X i0 i1 i2 i3 i4 h0 h1)) (LpOk.nil _) runLu_2 (show InvLu T (f - 1) (x / 16) (([u8 ((x % 16) + 48)] ++ s)) from ⟨by omega, (by first | omega | (have := i2 (List.eq_nil_of_length_eq_zero (by omega)); omega)), (fun h => by simp at h), (by have hd : ¬ (x = 0 ∧ s ≠ []) := (by first | (intro h; omega) | (intro h; exact h.2 (List.eq_nil_of_length_eq_zero (by omega)))); rw [← i3, digs_step (by first | omega | (have := i2 (List.eq_nil_of_length_eq_zero (by omega)); omega)) hd, dgc_lo (by omega)] <;> rfl), by simp only [List.length_append, List.length_cons, List.length_nil]; omega⟩) (by show f - 1 < f; first | omega | (have := i2 (List.eq_nil_of_length_eq_zero (by omega)); omega)) (mapCons (.head _) (relIs (isX rfl) (denX rfl)) (mapCons (.tail _ (.head _)) (relIs (isX rfl) (denX rfl)) (mapCons (.tail _ (.tail _ (.head _))) (relIs (isB _) (denB _)) (mapNil))))
      · exact Round.leave (tb := tabLu_1) (L := []) (f := 400) (q := qLu_1) ((tabkOk (nuX (nuLu T f x s) X) (nuX_one (nuL_one (l := nuLu T f x s) rfl))).hyps (hyOkLu_1 T f x s X i0 i1 i2 i3 i4 h0 h1)) (LpOk.nil _) runLu_1 (by simp [lfLu]) (mapCons (.head _) (relIs (isX rfl) (by have e0 : x = 0 := (by omega); have e : s = T := (by subst e0; rw [← i3]; exact (digs_end (neNil (by omega))).symm); rw [e]; exact r0)) (mapNil))
theorem keyLu : oneKey (loopsOf (Tryd.f5.body.getD .skip)) 10 1 0 = true := by kernel_rfl
noncomputable def bodyLn : Code := loopNo (Tryd.f5.body.getD .skip) 1
def epLn : List (Nat × AV) := [(9, .x 0), (11, .x 1), (2, .b false)]
def keepLn : List Nat := [0, 1, 7, 8]
def nuLn (T : List UInt8) (f : Nat) (x : Int) (s : List UInt8) : List Value := [St' s, .int .i64 (x), .int .i64 (x % 16), .int .i64 ((x % 16) + 48), .int .u8 ((x % 16) + 48), St' ([u8 ((x % 16) + 48)]), St' ([u8 ((x % 16) + 48)] ++ s), .int .i64 (x / 16), .int .i64 (x % 16), .int .i64 ((x % 16) + 48), .int .u8 ((x % 16) + 48), St' ([u8 ((x % 16) + 48)]), St' ([u8 ((x % 16) + 48)] ++ s), .int .i64 (x / 16), .int .i64 (x % 16), .int .i64 ((x % 16) + 48), .int .u8 ((x % 16) + 48), .int .i64 ((x % 16) + 97), .int .i64 ((x % 16) + 87), .int .u8 ((x % 16) + 87), St' ([u8 ((x % 16) + 87)]), St' ([u8 ((x % 16) + 87)] ++ s), .int .i64 (x / 16)]
noncomputable def DLn (T : List UInt8) (st : Nat × Int × List UInt8) (X : Nat → Value) : Cx := cx (nuX (nuLn T (st.1) (st.2.1) (st.2.2)) X) (nuX_one (nuL_one (l := nuLn T (st.1) (st.2.1) (st.2.2)) rfl)) 0 laidE laidE_stab
def InvLn (T : List UInt8) (f : Nat) (x : Int) (s : List UInt8) : Prop := (0 ≤ x) ∧ (x < (f : Int)) ∧ (s = [] → x + 1 < (f : Int)) ∧ (digsF 16 false f x s = T) ∧ (s.length + f ≤ 20000)
def hyLn_0 : List (HK × AV) := [(.bin .gtr (.x 1) (.i .i64 (.ofNat 0)), .b true), (.bin .rem (.x 1) (.i .i64 (.ofNat 16)), .x 2), (.bin .add (.i .i64 (.ofNat 48)) (.x 2), .x 3), (.conv 5 (.x 3), .x 4), (.bin .gtr (.x 2) (.i .i64 (.ofNat 9)), .b false), (.bytes [.x 4], .x 5), (.bin .add (.x 5) (.x 0), .x 6), (.bin .quo (.x 1) (.i .i64 (.ofNat 16)), .x 7)]
noncomputable def tabLn_0 : Tab := { tabk with hyp := hyLn_0 }
def qLn_0 : List (Nat × AV) := [(9, .x 6), (11, .x 7), (2, .b false)]
theorem runLn_0 : okRd (code tabLn_0 400 [] bodyLn (envOf (headOf epLn keepLn) 128) ⟨.leaf, tabLn_0.ng, 0, 0⟩) .normal qLn_0 keepLn 128 = true := by kernel_rfl
set_option maxHeartbeats 2000000 in
theorem hyOkLn_0 (T : List UInt8) (f : Nat) (x : Int) (s : List UInt8) (X : Nat → Value) (i0 : 0 ≤ x) (i1 : x < (f : Int)) (i2 : s = [] → x + 1 < (f : Int)) (i3 : digsF 16 false f x s = T) (i4 : s.length + f ≤ 20000) (h0 : 0 < x) (h1 : ¬ (9 < x % 16)) : ∀ k r, (k, r) ∈ hyLn_0 → HOk (cx (nuX (nuLn T f x s) X) (nuX_one (nuL_one (l := nuLn T f x s) rfl)) 0 laidE laidE_stab) k r := by
  unfold hyLn_0
  refine hcons (kGt (isX rfl) (isZ (m := 0) rfl) (decide_eq_true (by omega))) ?_
  refine hcons (kRem (isX rfl) (isZ (m := 16) rfl) (denX rfl) (by omega) (by omega) rfl) ?_
  refine hcons (kAdd (isZ (m := 48) rfl) (isX rfl) (denX rfl) (by omega) (fI64 (by omega) (by omega))) ?_
  refine hcons (kConvF (isX rfl) tu5 (denX rfl) (fU8 (by omega) (by omega))) ?_
  refine hcons (kGt (isX rfl) (isZ (m := 9) rfl) (decide_eq_false (by omega))) ?_
  refine hcons (kBytesB (bs := [u8 ((x % 16) + 48)]) (.cons (isB8 (isX rfl) (by omega) (by omega)) .nil) (denX rfl)) ?_
  refine hcons (kCat (isX rfl) (isX rfl) (denX rfl) (by first | rfl | (simp; done)) (by first | omega | (simp <;> omega))) ?_
  refine hcons (kQuo (isX rfl) (isZ (m := 16) rfl) (denX rfl) (by omega) (by omega) rfl (fI64 (by omega) (by omega))) ?_
  exact hnil
def hyLn_1 : List (HK × AV) := [(.bin .gtr (.x 1) (.i .i64 (.ofNat 0)), .b false), (.bin .eql (.x 0) (.s 0 0), .b false)]
noncomputable def tabLn_1 : Tab := { tabk with hyp := hyLn_1 }
def qLn_1 : List (Nat × AV) := [(9, .x 0)]
theorem runLn_1 : okRd (code tabLn_1 400 [] bodyLn (envOf (headOf epLn keepLn) 128) ⟨.leaf, tabLn_1.ng, 0, 0⟩) (.exit 2) qLn_1 keepLn 128 = true := by kernel_rfl
set_option maxHeartbeats 2000000 in
theorem hyOkLn_1 (T : List UInt8) (f : Nat) (x : Int) (s : List UInt8) (X : Nat → Value) (i0 : 0 ≤ x) (i1 : x < (f : Int)) (i2 : s = [] → x + 1 < (f : Int)) (i3 : digsF 16 false f x s = T) (i4 : s.length + f ≤ 20000) (h0 : ¬ (0 < x)) (h1 : ¬ ((s.length : Int) = 0)) : ∀ k r, (k, r) ∈ hyLn_1 → HOk (cx (nuX (nuLn T f x s) X) (nuX_one (nuL_one (l := nuLn T f x s) rfl)) 0 laidE laidE_stab) k r := by
  unfold hyLn_1
  refine hcons (kGt (isX rfl) (isZ (m := 0) rfl) (decide_eq_false (by omega))) ?_
  refine hcons (kEqS (isX rfl) (isSx (l := ([] : List UInt8)) 0 0 rfl) (by first | exact nilT (by first | omega | (simp <;> omega)) | exact nilF (by first | omega | (simp <;> omega)) | exact nilT' (by first | omega | (simp <;> omega)) | exact nilF' (by first | omega | (simp <;> omega)))) ?_
  exact hnil
def hyLn_2 : List (HK × AV) := [(.bin .gtr (.x 1) (.i .i64 (.ofNat 0)), .b false), (.bin .eql (.x 0) (.s 0 0), .b true), (.bin .rem (.x 1) (.i .i64 (.ofNat 16)), .x 8), (.bin .add (.i .i64 (.ofNat 48)) (.x 8), .x 9), (.conv 5 (.x 9), .x 10), (.bin .gtr (.x 8) (.i .i64 (.ofNat 9)), .b false), (.bytes [.x 10], .x 11), (.bin .add (.x 11) (.x 0), .x 12), (.bin .quo (.x 1) (.i .i64 (.ofNat 16)), .x 13)]
noncomputable def tabLn_2 : Tab := { tabk with hyp := hyLn_2 }
def qLn_2 : List (Nat × AV) := [(9, .x 12), (11, .x 13), (2, .b false)]
theorem runLn_2 : okRd (code tabLn_2 400 [] bodyLn (envOf (headOf epLn keepLn) 128) ⟨.leaf, tabLn_2.ng, 0, 0⟩) .normal qLn_2 keepLn 128 = true := by kernel_rfl
set_option maxHeartbeats 2000000 in
theorem hyOkLn_2 (T : List UInt8) (f : Nat) (x : Int) (s : List UInt8) (X : Nat → Value) (i0 : 0 ≤ x) (i1 : x < (f : Int)) (i2 : s = [] → x + 1 < (f : Int)) (i3 : digsF 16 false f x s = T) (i4 : s.length + f ≤ 20000) (h0 : ¬ (0 < x)) (h1 : (s.length : Int) = 0) : ∀ k r, (k, r) ∈ hyLn_2 → HOk (cx (nuX (nuLn T f x s) X) (nuX_one (nuL_one (l := nuLn T f x s) rfl)) 0 laidE laidE_stab) k r := by
  unfold hyLn_2
  refine hcons (kGt (isX rfl) (isZ (m := 0) rfl) (decide_eq_false (by omega))) ?_
  refine hcons (kEqS (isX rfl) (isSx (l := ([] : List UInt8)) 0 0 rfl) (by first | exact nilT (by first | omega | (simp <;> omega)) | exact nilF (by first | omega | (simp <;> omega)) | exact nilT' (by first | omega | (simp <;> omega)) | exact nilF' (by first | omega | (simp <;> omega)))) ?_
  refine hcons (kRem (isX rfl) (isZ (m := 16) rfl) (denX rfl) (by omega) (by omega) rfl) ?_
  refine hcons (kAdd (isZ (m := 48) rfl) (isX rfl) (denX rfl) (by omega) (fI64 (by omega) (by omega))) ?_
  refine hcons (kConvF (isX rfl) tu5 (denX rfl) (fU8 (by omega) (by omega))) ?_
  refine hcons (kGt (isX rfl) (isZ (m := 9) rfl) (decide_eq_false (by omega))) ?_
  refine hcons (kBytesB (bs := [u8 ((x % 16) + 48)]) (.cons (isB8 (isX rfl) (by omega) (by omega)) .nil) (denX rfl)) ?_
  refine hcons (kCat (isX rfl) (isX rfl) (denX rfl) (by first | rfl | (simp; done)) (by first | omega | (simp <;> omega))) ?_
  refine hcons (kQuo (isX rfl) (isZ (m := 16) rfl) (denX rfl) (by omega) (by omega) rfl (fI64 (by omega) (by omega))) ?_
  exact hnil
def hyLn_3 : List (HK × AV) := [(.bin .gtr (.x 1) (.i .i64 (.ofNat 0)), .b true), (.bin .rem (.x 1) (.i .i64 (.ofNat 16)), .x 14), (.bin .add (.i .i64 (.ofNat 48)) (.x 14), .x 15), (.conv 5 (.x 15), .x 16), (.bin .gtr (.x 14) (.i .i64 (.ofNat 9)), .b true), (.bin .add (.i .i64 (.ofNat 97)) (.x 14), .x 17), (.bin .sub (.x 17) (.i .i64 (.ofNat 10)), .x 18), (.conv 5 (.x 18), .x 19), (.bytes [.x 19], .x 20), (.bin .add (.x 20) (.x 0), .x 21), (.bin .quo (.x 1) (.i .i64 (.ofNat 16)), .x 22)]
noncomputable def tabLn_3 : Tab := { tabk with hyp := hyLn_3 }
def qLn_3 : List (Nat × AV) := [(9, .x 21), (11, .x 22), (2, .b false)]
theorem runLn_3 : okRd (code tabLn_3 400 [] bodyLn (envOf (headOf epLn keepLn) 128) ⟨.leaf, tabLn_3.ng, 0, 0⟩) .normal qLn_3 keepLn 128 = true := by kernel_rfl
set_option maxHeartbeats 2000000 in
theorem hyOkLn_3 (T : List UInt8) (f : Nat) (x : Int) (s : List UInt8) (X : Nat → Value) (i0 : 0 ≤ x) (i1 : x < (f : Int)) (i2 : s = [] → x + 1 < (f : Int)) (i3 : digsF 16 false f x s = T) (i4 : s.length + f ≤ 20000) (h0 : 0 < x) (h1 : 9 < x % 16) : ∀ k r, (k, r) ∈ hyLn_3 → HOk (cx (nuX (nuLn T f x s) X) (nuX_one (nuL_one (l := nuLn T f x s) rfl)) 0 laidE laidE_stab) k r := by
  unfold hyLn_3
  refine hcons (kGt (isX rfl) (isZ (m := 0) rfl) (decide_eq_true (by omega))) ?_
  refine hcons (kRem (isX rfl) (isZ (m := 16) rfl) (denX rfl) (by omega) (by omega) rfl) ?_
  refine hcons (kAdd (isZ (m := 48) rfl) (isX rfl) (denX rfl) (by omega) (fI64 (by omega) (by omega))) ?_
  refine hcons (kConvF (isX rfl) tu5 (denX rfl) (fU8 (by omega) (by omega))) ?_
  refine hcons (kGt (isX rfl) (isZ (m := 9) rfl) (decide_eq_true (by omega))) ?_
  refine hcons (kAdd (isZ (m := 97) rfl) (isX rfl) (denX rfl) (by omega) (fI64 (by omega) (by omega))) ?_
  refine hcons (kSub (isX rfl) (isZ (m := 10) rfl) (denX rfl) (by omega) (fI64 (by omega) (by omega))) ?_
  refine hcons (kConvF (isX rfl) tu5 (denX rfl) (fU8 (by omega) (by omega))) ?_
  refine hcons (kBytesB (bs := [u8 ((x % 16) + 87)]) (.cons (isB8 (isX rfl) (by omega) (by omega)) .nil) (denX rfl)) ?_
  refine hcons (kCat (isX rfl) (isX rfl) (denX rfl) (by first | rfl | (simp; done)) (by first | omega | (simp <;> omega))) ?_
  refine hcons (kQuo (isX rfl) (isZ (m := 16) rfl) (denX rfl) (by omega) (by omega) rfl (fI64 (by omega) (by omega))) ?_
  exact hnil
def lfLn (x0 x1 x2 z0 : AV) : LF := ⟨10, 128, [(9, x0), (11, x1), (2, x2)], keepLn, (.exit 2), [(9, z0)], none⟩
theorem lfOkLn {nu : Nat → Value} {one : ∀ i, i < 1000000 → (nu i).oneCell' = true} {x0 x1 x2 z0 : AV} {T : List UInt8} {f : Nat} {x : Int} {s : List UInt8} (a0 : Is (cx nu one 0 laidE laidE_stab) x0 (St' s)) (a1 : Is (cx nu one 0 laidE laidE_stab) x1 (.int .i64 (x))) (a2 : Is (cx nu one 0 laidE laidE_stab) x2 (.bool false)) (r0 : Den (cx nu one 0 laidE laidE_stab) z0 (St' T)) (i0 : 0 ≤ x) (i1 : x < (f : Int)) (i2 : s = [] → x + 1 < (f : Int)) (i3 : digsF 16 false f x s = T) (i4 : s.length + f ≤ 20000) : LfOk (cx nu one 0 laidE laidE_stab) bodyLn (lfLn x0 x1 x2 z0) := by
  refine loop_ok (ep := epLn) (I := fun st : Nat × Int × List UInt8 => InvLn T (st.1) (st.2.1) (st.2.2)) (μ := fun st : Nat × Int × List UInt8 => (st.1)) (D := DLn T) (fun _ _ => rfl) (fun _ _ => rfl) (fun _ _ => rfl) (fun st X t _ => nuX_keep) rfl (f, x, s) ⟨i0, i1, i2, i3, i4⟩ (fun X => ?_) (fun st X hI => ?_)
  · exact mapCons (.head _) (relIs a0 (denX rfl)) (mapCons (.tail _ (.head _)) (relIs a1 (denX rfl)) (mapCons (.tail _ (.tail _ (.head _))) (relIs a2 (denB _)) (mapNil)))
  · obtain ⟨f, x, s⟩ := st
    have hI : InvLn T f x s := hI
    obtain ⟨i0, i1, i2, i3, i4⟩ := hI
    by_cases h0 : 0 < x
    · by_cases h1 : 9 < x % 16
      · exact Round.next (tb := tabLn_3) (L := []) (f := 400) (q := qLn_3) (f - 1, x / 16, ([u8 ((x % 16) + 87)] ++ s)) ((tabkOk (nuX (nuLn T f x s) X) (nuX_one (nuL_one (l := nuLn T f x s) rfl))).hyps (hyOkLn_3 T f x s X i0 i1 i2 i3 i4 h0 h1)) (LpOk.nil _) runLn_3 (show InvLn T (f - 1) (x / 16) (([u8 ((x % 16) + 87)] ++ s)) from ⟨by omega, (by first | omega | (have := i2 (List.eq_nil_of_length_eq_zero (by omega)); omega)), (fun h => by simp at h), (by have hd : ¬ (x = 0 ∧ s ≠ []) := (by first | (intro h; omega) | (intro h; exact h.2 (List.eq_nil_of_length_eq_zero (by omega)))); rw [← i3, digs_step (by first | omega | (have := i2 (List.eq_nil_of_length_eq_zero (by omega)); omega)) hd, dgc_dn (by omega)] <;> rfl), by simp only [List.length_append, List.length_cons, List.length_nil]; omega⟩) (by show f - 1 < f; first | omega | (have := i2 (List.eq_nil_of_length_eq_zero (by omega)); omega)) (mapCons (.head _) (relIs (isX rfl) (denX rfl)) (mapCons (.tail _ (.head _)) (relIs (isX rfl) (denX rfl)) (mapCons (.tail _ (.tail _ (.head _))) (relIs (isB _) (denB _)) (mapNil))))
      · exact Round.next (tb := tabLn_0) (L := []) (f := 400) (q := qLn_0) (f - 1, x / 16, ([u8 ((x % 16) + 48)] ++ s)) ((tabkOk (nuX (nuLn T f x s) X) (nuX_one (nuL_one (l := nuLn T f x s) rfl))).hyps (hyOkLn_0 T f x s X i0 i1 i2 i3 i4 h0 h1)) (LpOk.nil _) runLn_0 (show InvLn T (f - 1) (x / 16) (([u8 ((x % 16) + 48)] ++ s)) from ⟨by omega, (by first | omega | (have := i2 (List.eq_nil_of_length_eq_zero (by omega)); omega)), (fun h => by simp at h), (by have hd : ¬ (x = 0 ∧ s ≠ []) := (by first | (intro h; omega) | (intro h; exact h.2 (List.eq_nil_of_length_eq_zero (by omega)))); rw [← i3, digs_step (by first | omega | (have := i2 (List.eq_nil_of_length_eq_zero (by omega)); omega)) hd, dgc_lo (by omega)] <;> rfl), by simp only [List.length_append, List.length_cons, List.length_nil]; omega⟩) (by show f - 1 < f; first | omega | (have := i2 (List.eq_nil_of_length_eq_zero (by omega)); omega)) (mapCons (.head _) (relIs (isX rfl) (denX rfl)) (mapCons (.tail _ (.head _)) (relIs (isX rfl) (denX rfl)) (mapCons (.tail _ (.tail _ (.head _))) (relIs (isB _) (denB _)) (mapNil))))
    · by_cases h1 : (s.length : Int) = 0
      · exact Round.next (tb := tabLn_2) (L := []) (f := 400) (q := qLn_2) (f - 1, x / 16, ([u8 ((x % 16) + 48)] ++ s)) ((tabkOk (nuX (nuLn T f x s) X) (nuX_one (nuL_one (l := nuLn T f x s) rfl))).hyps (hyOkLn_2 T f x s X i0 i1 i2 i3 i4 h0 h1)) (LpOk.nil _) runLn_2 (show InvLn T (f - 1) (x / 16) (([u8 ((x % 16) + 48)] ++ s)) from ⟨by omega, (by first | omega | (have := i2 (List.eq_nil_of_length_eq_zero (by omega)); omega)), (fun h => by simp at h), (by have hd : ¬ (x = 0 ∧ s ≠ []) := (by first | (intro h; omega) | (intro h; exact h.2 (List.eq_nil_of_length_eq_zero (by omega)))); rw [← i3, digs_step (by first | omega | (have := i2 (List.eq_nil_of_length_eq_zero (by omega)); omega)) hd, dgc_lo (by omega)] <;> rfl), by simp only [List.length_append, List.length_cons, List.length_nil]; omega⟩) (by show f - 1 < f; first | omega | (have := i2 (List.eq_nil_of_length_eq_zero (by omega)); omega)) (mapCons (.head _) (relIs (isX rfl) (denX rfl)) (mapCons (.tail _ (.head _)) (relIs (isX rfl) (denX rfl)) (mapCons (.tail _ (.tail _ (.head _))) (relIs (isB _) (denB _)) (mapNil))))
      · exact Round.leave (tb := tabLn_1) (L := []) (f := 400) (q := qLn_1) ((tabkOk (nuX (nuLn T f x s) X) (nuX_one (nuL_one (l := nuLn T f x s) rfl))).hyps (hyOkLn_1 T f x s X i0 i1 i2 i3 i4 h0 h1)) (LpOk.nil _) runLn_1 (by simp [lfLn]) (mapCons (.head _) (relIs (isX rfl) (by have e0 : x = 0 := (by omega); have e : s = T := (by subst e0; rw [← i3]; exact (digs_end (neNil (by omega))).symm); rw [e]; exact r0)) (mapNil))
theorem keyLn : oneKey (loopsOf (Tryd.f5.body.getD .skip)) 10 1 0 = true := by kernel_rfl
noncomputable def fi5 : FI := (tabk.fn.get 5).getD default
theorem fi5_at : tabk.fn.get 5 = some fi5 := by kernel_rfl
theorem fi5_body : fi5.body = some (Tryd.f5.body.getD .skip) := by kernel_rfl
end Go.Proofs.YtacflaaahanhgaaDoor.octetNumbers
