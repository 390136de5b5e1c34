/- A part of the proof: an interpreter of the model's own code on partly known states, and that what it answers is what the program answers. No condition of its own. -/
import Derived.Test.YtipdlfkjablekaaDoorR1PathBackO5
set_option maxRecDepth 100000
set_option linter.unusedVariables false
set_option linter.unusedSimpArgs false
set_option maxHeartbeats 4000000
namespace Go.Proofs.YtipdlfkjablekaaDoor.pathBack
open Go Go.AX Go.Proofs Go.Proofs.YtipdlfkjablekaaDoor
variable {nu : Nat → Value} {one : ∀ i, i < 1000000 → (nu i).oneCell' = true} {E' : Cx} {x' : Ex} {e' : LA} {h' : LE}
section
variable {s : LB}
theorem sg_a (h : ((lsP (sp47 [] s)).length : Int) = 0) : sgL (sp47 [] s) = segS s := by
  rw [segS_eq, kp0, if_pos (List.eq_nil_of_length_eq_zero (by omega)), List.append_nil]
theorem sg_b (h : ¬ ((lsP (sp47 [] s)).length : Int) = 0) : sgL (sp47 [] s) ++ [lsP (sp47 [] s)] = segS s := by
  rw [segS_eq, kp0, if_neg (fun e => h (by rw [e]; rfl))]
theorem sg_c (h0 : (sgL (sp47 [] s)).length = 0) (h : ¬ ((lsP (sp47 [] s)).length : Int) = 0) : ([] : LL) ++ [lsP (sp47 [] s)] = segS s := by
  rw [← sg_b h, List.eq_nil_of_length_eq_zero h0]
theorem sg_cases (s : LB) : ((lsP (sp47 [] s)).length = 0 ∧ (segS s).length = (sgL (sp47 [] s)).length) ∨ (¬ (lsP (sp47 [] s)).length = 0 ∧ (segS s).length = (sgL (sp47 [] s)).length + 1) := by
  by_cases h : (lsP (sp47 [] s)).length = 0
  · left; exact ⟨h, by rw [← sg_a (by omega)]⟩
  · right; exact ⟨h, by rw [← sg_b (by omega)]; simp⟩
theorem segS_len (s : LB) : (segS s).length ≤ s.length := by
  have := sg_len s; have := sg_cases s; omega
end
section
open Go.Shelf
def sh_sE_ren : Go.Shelf.Ren := ⟨fun | 193 => 20 | n => n, fun | 31 => 28 | 9 => 9 | 4 => 4 | 3 => 3 | 0 => 0 | n => n, fun | n => n⟩
theorem sh_sE : Go.Proofs.Lays.n193 Tryd.prog sh_sE_ren := {
  mixed := by kernel_rfl
  f193 := Tryd.func20.trans (congrArg some (by kernel_rfl))
  t0 := Tryd.underlying0
  a0 := Tryd.isAgg0
  z0 := Tryd.sizeOf0
  v0 := Tryd.zeroValue0
  t3 := Tryd.underlying3
  a3 := Tryd.isAgg3
  z3 := Tryd.sizeOf3
  v3 := Tryd.zeroValue3
  t4 := Tryd.underlying4
  a4 := Tryd.isAgg4
  z4 := Tryd.sizeOf4
  v4 := Tryd.zeroValue4
  t9 := Tryd.underlying9
  a9 := Tryd.isAgg9
  z9 := Tryd.sizeOf9
  v9 := Tryd.zeroValue9
  t31 := Tryd.underlying28
  a31 := Tryd.isAgg28
  z31 := Tryd.sizeOf28
  v31 := Tryd.zeroValue28 }
open Go.RowKit Go.Lib in
theorem sE (b1 o1 n c b2 o2 m d : Nat) (xs ys : List ByteArray) (w : World) (hx : n ≤ xs.length) (hy : m ≤ ys.length) (hbig : n ≤ 9223372036854775807) (hbig2 : m ≤ 9223372036854775807) (hc1 : ∀ j, j < xs.length → w.cell? ⟨b1, o1 + j, none⟩ = some (.string (xs.getD j ByteArray.empty))) (hc2 : ∀ j, j < ys.length → w.cell? ⟨b2, o2 + j, none⟩ = some (.string (ys.getD j ByteArray.empty))) :
    Calls Tryd.prog 20 #[.slice (some ⟨b1, o1, none⟩) n c, .slice (some ⟨b2, o2, none⟩) m d] w fun e w' => e = .returned (.bool (decide (xs.take n = ys.take m))) ∧ ∃ q, w' = w.drewN q := Any.slices_Equal_string sh_sE b1 o1 n c b2 o2 m d xs ys w hx hy hbig hbig2 hc1 hc2
end
theorem cfE {nu : Nat → Value} {one : ∀ i, i < 1000000 → (nu i).oneCell' = true} {l : LF} {h : LH} {v id e u id' e' j : Nat} {K J : LL} (hl : l.hp = some h) (hq : l.post = [(0, .x j)]) (hp : l.pre.map (·.2) = [.sr v, .sr u]) (hpre : h.pre = [(v, .r id e 1 false), (u, .r id' e' 1 false)]) (hpost : h.post = h.pre) (hn : h.n1 = h.n0)
    (hid : nu id = rwS K) (hid' : nu id' = rwS J) (hj : nu j = .bool (decide (K = J))) (hK : K.length ≤ 1000000) (hJ : J.length ≤ 1000000) : CfOk (cx nu one 0 laidE laidE_stab) 20 l := by
  have hd : ∀ (K : LL) (j : Nat), j < (K.map (fun q : LB => (⟨q.toArray⟩ : ByteArray))).length → (K.map (fun q : LB => (⟨q.toArray⟩ : ByteArray)))[j]? = some ((K.map (fun q : LB => (⟨q.toArray⟩ : ByteArray))).getD j ByteArray.empty) := fun K j hj => by
    rw [List.getD_eq_getElem?_getD, List.getElem?_eq_getElem hj]; rfl
  have hinj : ∀ a b : LB, (⟨a.toArray⟩ : ByteArray) = ⟨b.toArray⟩ → a = b := fun a b e => by
    have := congrArg (fun x : ByteArray => x.data.toList) e; simpa using this
  have he : (K.map (fun q : LB => (⟨q.toArray⟩ : ByteArray)) = J.map (fun q : LB => (⟨q.toArray⟩ : ByteArray))) ↔ K = J := ⟨fun e => List.map_inj_right (fun a b => hinj a b) |>.1 e, fun e => by rw [e]⟩
  refine cfEq (xs := K.map (fun q : LB => (⟨q.toArray⟩ : ByteArray))) (ys := J.map (fun q : LB => (⟨q.toArray⟩ : ByteArray))) hl hq hp hpre hpost hn (hid.trans ?_) (hid'.trans ?_) (fun ρ => ?_) fun b1 o1 c b2 o2 d w _ h1 h2 => ?_
  · unfold rwS; rw [List.map_map]; rfl
  · unfold rwS; rw [List.map_map]; rfl
  · show Rel _ _ (.x j) _; simp only [Rel]; rw [decide_eq_decide.2 he]; exact hj.symm
  · have := sE b1 o1 _ c b2 o2 _ d (K.map (fun q : LB => (⟨q.toArray⟩ : ByteArray))) (J.map (fun q : LB => (⟨q.toArray⟩ : ByteArray))) w (Nat.le_refl _) (Nat.le_refl _) (by rw [List.length_map]; omega) (by rw [List.length_map]; omega) (fun j hj => h1 j _ (hd K j hj)) (fun j hj => h2 j _ (hd J j hj))
    rw [List.take_length, List.take_length] at this
    exact this.mono fun e w' ⟨a, q, b⟩ => ⟨a, by rw [b]; exact ⟨rfl, rfl, rfl, Nat.le_refl _, fun _ _ => rfl⟩⟩
def begS (a b : LB) : Bool := decide ((segS b).length ≤ (segS a).length) && decide ((segS a).take (segS b).length = segS b)
section
variable {a b : LB}
theorem bg_z (h : (segS b).length = 0) : begS a b = true := by
  have e : segS b = [] := List.eq_nil_of_length_eq_zero h
  unfold begS; rw [e]; simp
theorem bg_n (h : ¬ ((segS b).length : Int) ≤ ((segS a).length : Int)) : begS a b = false := by
  unfold begS; rw [decide_eq_false (by omega)]; rfl
theorem bg_y (h : ((segS b).length : Int) ≤ ((segS a).length : Int)) : begS a b = decide ((segS a).take (Int.toNat ((segS b).length : Int)) = segS b) := by
  unfold begS; rw [decide_eq_true (by omega)]; simp
end
noncomputable def bodySg63 : Code := loopNo (Tryd.f29.body.getD .skip) 1
theorem keySg63 : oneKey (loopsOf (Tryd.f29.body.getD .skip)) 5 1 0 = true := by kernel_rfl
def keepSg63 : List Nat := []
def epSg63_0 : LA := [(0, .yl 67), (1, .p 65 0), (2, .p 64 0), (3, .p 66 0), (9, .s 1 47)]
def hpSg63_0 : LE := [(63, .b ⟨28, .l [.nils], 0, 0, 0, false, false⟩), (64, .b ⟨9, .l [.x 0], 0, 0, 0, false, false⟩), (65, .b ⟨9, .l [.s 1 47], 0, 0, 0, false, false⟩), (66, .b ⟨3, .l [.i .i64 (.ofNat 0)], 0, 0, 0, false, false⟩), (67, .k 7 [(3, .p 63 0)] 15 0 .normal)]
def nuSg63_0 (To : List LB) (Tr r : LB) (o : List LB) : List Value := [St' r, .int .i64 (idxB r 47), .int .i64 ((idxB r 47)), St' (List.take (Int.toNat ((idxB r 47))) r), .int .i64 ((idxB r 47) + 1), St' (List.drop (Int.toNat ((idxB r 47) + 1)) r), .int .i64 (idxB r 47), .int .i64 ((idxB r 47)), St' (List.take (Int.toNat ((idxB r 47))) r), .int .i64 ((idxB r 47) + 1), St' (List.drop (Int.toNat ((idxB r 47) + 1)) r), .int .i64 (idxB r 47), St' (List.take (Int.toNat (0)) r), St' (List.drop (Int.toNat (1)) r)]
def roSg63_0 (To : List LB) (Tr r : LB) (o : List LB) : List Value := [rwS ([] : List LB), rwS (([] : List LB) ++ [(List.take (Int.toNat ((idxB r 47))) r)]), rwS ([] : List LB), rwS ([] : List LB), rwS ([] : List LB)]
def epSg63_1 : LA := [(0, .yl 67), (1, .p 65 0), (2, .p 64 0), (3, .p 66 0), (9, .s 1 47)]
def hpSg63_1 : LE := [(63, .b ⟨28, .l [.sr 68], 0, 0, 0, false, false⟩), (64, .b ⟨9, .l [.x 0], 0, 0, 0, false, false⟩), (65, .b ⟨9, .l [.s 1 47], 0, 0, 0, false, false⟩), (66, .b ⟨3, .l [.i .i64 (.ofNat 0)], 0, 0, 0, false, false⟩), (67, .k 7 [(3, .p 63 0)] 15 0 .normal), (68, .r 2000000 9 1 false)]
def nuSg63_1 (To : List LB) (Tr r : LB) (o : List LB) : List Value := [St' r, .int .i64 (idxB r 47), .int .i64 ((idxB r 47)), St' (List.take (Int.toNat ((idxB r 47))) r), .int .i64 ((idxB r 47) + 1), St' (List.drop (Int.toNat ((idxB r 47) + 1)) r), .int .i64 (idxB r 47), .int .i64 ((idxB r 47)), St' (List.take (Int.toNat ((idxB r 47))) r), .int .i64 ((idxB r 47) + 1), St' (List.drop (Int.toNat ((idxB r 47) + 1)) r), .int .i64 (idxB r 47), St' (List.take (Int.toNat (0)) r), St' (List.drop (Int.toNat (1)) r)]
def roSg63_1 (To : List LB) (Tr r : LB) (o : List LB) : List Value := [rwS o, rwS ([] : List LB), rwS (o ++ [(List.take (Int.toNat ((idxB r 47))) r)]), rwS ([] : List LB), rwS ([] : List LB), rwS ([] : List LB)]
def epSg63 (st : Nat × LB × List LB) : LA := if st.1 = 0 then epSg63_0 else epSg63_1
def hpSg63 (st : Nat × LB × List LB) : LE := if st.1 = 0 then hpSg63_0 else hpSg63_1
def nuSg63 (To : List LB) (Tr : LB) (st : Nat × LB × List LB) : List Value := if st.1 = 0 then nuSg63_0 To Tr (st.2.1) (st.2.2) else nuSg63_1 To Tr (st.2.1) (st.2.2)
def roSg63 (To : List LB) (Tr : LB) (st : Nat × LB × List LB) : List Value := if st.1 = 0 then roSg63_0 To Tr (st.2.1) (st.2.2) else roSg63_1 To Tr (st.2.1) (st.2.2)
theorem onSg63 (To : List LB) (Tr : LB) (st : Nat × LB × List LB) : ∀ j, (nuL (nuSg63 To Tr st) j).oneCell' = true := by
  intro j
  unfold nuSg63
  by_cases g0 : st.1 = 0
  · rw [if_pos g0]; exact nuL_one (l := nuSg63_0 To Tr (st.2.1) (st.2.2)) rfl j
  rw [if_neg g0]
  exact nuL_one (l := nuSg63_1 To Tr (st.2.1) (st.2.2)) rfl j
theorem ebSg63 (st : Nat × LB × List LB) : (lfB (epSg63 st) && lfC keepSg63) = true := by
  unfold epSg63
  by_cases g0 : st.1 = 0
  · rw [if_pos g0]; rfl
  rw [if_neg g0]
  rfl
noncomputable def DSg63 (To : List LB) (Tr : LB) (st : Nat × LB × List LB) (X : Nat → Value) : Cx := cx (nuX (nuSg63 To Tr st) (rX (roSg63 To Tr st) X)) (nuX_one (onSg63 To Tr st)) 0 laidE laidE_stab
def InvSg63 (To : List LB) (Tr : LB) (st : Nat × LB × List LB) : Prop := ((st.2.2) ++ sgL (sp47 [] (st.2.1)) = To) ∧ (lsP (sp47 [] (st.2.1)) = Tr) ∧ ((st.2.1).length ≤ 1000000) ∧ ((st.2.2).length + (st.2.1).length ≤ 1000001) ∧ ((st.1) = 0 → (st.2.2) = []) ∧ ((st.1) = 1 → 1 ≤ (st.2.2).length) ∧ ((st.1) < 2)
abbrev CjSg63 (To : List LB) (Tr : LB) (tag : Nat) (r : LB) (o : List LB) : Prop := (o ++ sgL (sp47 [] r) = To) ∧ (lsP (sp47 [] r) = Tr) ∧ (r.length ≤ 1000000) ∧ (o.length + r.length ≤ 1000001) ∧ (tag = 0 → o = []) ∧ (tag = 1 → 1 ≤ o.length) ∧ (tag < 2)
theorem mkISg63 (To : List LB) (Tr : LB) (tag : Nat) (r : LB) (o : List LB) (h : CjSg63 To Tr tag r o) : InvSg63 To Tr (tag, r, o) := h
theorem unISg63 (To : List LB) (Tr : LB) (tag : Nat) (r : LB) (o : List LB) (h : InvSg63 To Tr (tag, r, o)) : (o ++ sgL (sp47 [] r) = To) ∧ (lsP (sp47 [] r) = Tr) ∧ (r.length ≤ 1000000) ∧ (o.length + r.length ≤ 1000001) ∧ (tag = 0 → o = []) ∧ (tag = 1 → 1 ≤ o.length) ∧ (tag < 2) := h
def muSg63 (To : List LB) (Tr : LB) (st : Nat × LB × List LB) : Nat := (st.2.1).length
abbrev RHSg63 (To : List LB) (Tr : LB) (E' : Cx) (ex' : Ex) (epx' : LA) (hpx' : LE) (st : Nat × LB × List LB) (X : Nat → Value) : Prop := RoundH E' bodySg63 keepSg63 52 ex' 3 68 69 80 epSg63 hpSg63 epx' hpx' (InvSg63 To Tr) (muSg63 To Tr) (DSg63 To Tr) st X
noncomputable abbrev RNSg63_0 (h : LK) (x : Ex) (th : LA) (sg : List (Nat × Nat)) (m : Nat) (ep : LA) (hp : LE) : Bool := okRdH (code (tbl h) 2000 [] bodySg63 (envOf (headOf epSg63_0 keepSg63) 52) ⟨lhSet hpSg63_0 .leaf, 69, 0, 0⟩) x keepSg63 52 80 th sg 68 m ep hp
theorem stSg63_0 (To : List LB) (Tr r : LB) (o : List LB) {X : Nat → Value} {h : LK} (y : Nat × LB × List LB) {th : LA} {sg : List (Nat × Nat)} (ho : ∀ a' r', (a', r') ∈ h → HOk (cx (nuX (nuSg63_0 To Tr r o) (rX (roSg63_0 To Tr r o) X)) (nuX_one (nuL_one (l := nuSg63_0 To Tr r o) rfl)) 0 laidE laidE_stab) a' r') (hy : InvSg63 To Tr y) (lt : muSg63 To Tr y < muSg63 To Tr (0, r, o)) (ht : ThOk (cx (nuX (nuSg63_0 To Tr r o) (rX (roSg63_0 To Tr r o) X)) (nuX_one (nuL_one (l := nuSg63_0 To Tr r o) rfl)) 0 laidE laidE_stab) (DSg63 To Tr y X) th) (run : RNSg63_0 h .normal th sg 69 (epSg63 y) (hpSg63 y) = true) : RHSg63 To Tr E' x' e' h' (0, r, o) X :=
  RoundH.next (tb := tbl h) (L := []) (f := 2000) y ((tabkOk _ _).hyps ho) (LpOk.nil _) rfl hy lt ht run
theorem lvSg63_0 (To : List LB) (Tr r : LB) (o : List LB) {X : Nat → Value} {h : LK} {th : LA} {sg : List (Nat × Nat)} (hne : exB x' .normal = false) (ho : ∀ a' r', (a', r') ∈ h → HOk (cx (nuX (nuSg63_0 To Tr r o) (rX (roSg63_0 To Tr r o) X)) (nuX_one (nuL_one (l := nuSg63_0 To Tr r o) rfl)) 0 laidE laidE_stab) a' r') (ht : ThOk (cx (nuX (nuSg63_0 To Tr r o) (rX (roSg63_0 To Tr r o) X)) (nuX_one (nuL_one (l := nuSg63_0 To Tr r o) rfl)) 0 laidE laidE_stab) E' th) (run : RNSg63_0 h x' th sg 80 e' h' = true) : RHSg63 To Tr E' x' e' h' (0, r, o) X :=
  RoundH.leave (tb := tbl h) (L := []) (f := 2000) ((tabkOk _ _).hyps ho) (LpOk.nil _) rfl hne ht run
noncomputable abbrev RNSg63_1 (h : LK) (x : Ex) (th : LA) (sg : List (Nat × Nat)) (m : Nat) (ep : LA) (hp : LE) : Bool := okRdH (code (tbl h) 2000 [] bodySg63 (envOf (headOf epSg63_1 keepSg63) 52) ⟨lhSet hpSg63_1 .leaf, 69, 0, 0⟩) x keepSg63 52 80 th sg 68 m ep hp
theorem stSg63_1 (To : List LB) (Tr r : LB) (o : List LB) {X : Nat → Value} {h : LK} (y : Nat × LB × List LB) {th : LA} {sg : List (Nat × Nat)} (ho : ∀ a' r', (a', r') ∈ h → HOk (cx (nuX (nuSg63_1 To Tr r o) (rX (roSg63_1 To Tr r o) X)) (nuX_one (nuL_one (l := nuSg63_1 To Tr r o) rfl)) 0 laidE laidE_stab) a' r') (hy : InvSg63 To Tr y) (lt : muSg63 To Tr y < muSg63 To Tr (1, r, o)) (ht : ThOk (cx (nuX (nuSg63_1 To Tr r o) (rX (roSg63_1 To Tr r o) X)) (nuX_one (nuL_one (l := nuSg63_1 To Tr r o) rfl)) 0 laidE laidE_stab) (DSg63 To Tr y X) th) (run : RNSg63_1 h .normal th sg 69 (epSg63 y) (hpSg63 y) = true) : RHSg63 To Tr E' x' e' h' (1, r, o) X :=
  RoundH.next (tb := tbl h) (L := []) (f := 2000) y ((tabkOk _ _).hyps ho) (LpOk.nil _) rfl hy lt ht run
theorem lvSg63_1 (To : List LB) (Tr r : LB) (o : List LB) {X : Nat → Value} {h : LK} {th : LA} {sg : List (Nat × Nat)} (hne : exB x' .normal = false) (ho : ∀ a' r', (a', r') ∈ h → HOk (cx (nuX (nuSg63_1 To Tr r o) (rX (roSg63_1 To Tr r o) X)) (nuX_one (nuL_one (l := nuSg63_1 To Tr r o) rfl)) 0 laidE laidE_stab) a' r') (ht : ThOk (cx (nuX (nuSg63_1 To Tr r o) (rX (roSg63_1 To Tr r o) X)) (nuX_one (nuL_one (l := nuSg63_1 To Tr r o) rfl)) 0 laidE laidE_stab) E' th) (run : RNSg63_1 h x' th sg 80 e' h' = true) : RHSg63 To Tr E' x' e' h' (1, r, o) X :=
  RoundH.leave (tb := tbl h) (L := []) (f := 2000) ((tabkOk _ _).hyps ho) (LpOk.nil _) rfl hne ht run
def hySg63_p0 : LK := [(.rn, .x 2000000), (.bin .eql (.s 1 47) (.x 0), .b false), (.ext 46 [.x 0, .i .u8 (.ofNat 47)], .x 1), (.bin .lss (.x 1) (.i .i64 (.ofNat 0)), .b false), (.bin .add (.x 1) (.i .i64 (.ofNat 0)), .x 2), (.sub (.x 0) none (some (.x 2)), .x 3), (.bin .neq (.x 3) (.s 0 0), .b true), (.ra (.x 2000000) [.x 3], .x 2000001), (.rf (.x 2000001) 1 16, .b true), (.bin .add (.x 1) (.i .i64 (.ofNat 1)), .x 4), (.sub (.x 0) (some (.x 4)) none, .x 5)]
theorem runSg63_p0 : RNSg63_0 hySg63_p0 .normal [(0, .x 5), (2000000, .x 2000001)] [(68, 70)] 69 epSg63_1 hpSg63_1 = true := by kernel_rfl
theorem nxSg63_p0 (To : List LB) (Tr : LB) (r : LB) (o : List LB) (X : Nat → Value) (hI : InvSg63 To Tr (0, r, o)) (h0 : ¬ ([u8 47] = r)) (h1 : ¬ (idxB r 47 < 0)) (h2 : ¬ ((idxB r 47) = 0)) : RHSg63 To Tr E' x' e' h' (0, r, o) X := by
  obtain ⟨i0, i1, i2, i3, i4, i5, it⟩ := unISg63 To Tr 0 r o hI
  have := ix_bd r 47
  have := lenTake (l := r) (Q := (idxB r 47)) (by omega) (by omega)
  have := lenDrop (l := r) (P := (idxB r 47) + 1) (by omega) (by omega)
  refine stSg63_0 To Tr r o (h := hySg63_p0) (1, (List.drop (Int.toNat ((idxB r 47) + 1)) r), (([] : List LB) ++ [(List.take (Int.toNat ((idxB r 47))) r)])) ?_ (mkISg63 To Tr 1 (List.drop (Int.toNat ((idxB r 47) + 1)) r) (([] : List LB) ++ [(List.take (Int.toNat ((idxB r 47))) r)]) ⟨sg_1 (o := []) (by omega) (tkn (by omega) (by omega)) (show [] ++ sgL (sp47 [] r) = To from by have e := i0; rw [i4 rfl] at e; exact e), sg_l (by omega) i1, by rw [List.length_drop]; omega, by first | omega | (simp only [List.length_append, List.length_cons, List.length_nil, List.length_drop]; omega), fun h => by omega, fun _ => by simp, by omega⟩) (by show (List.drop _ r).length < r.length; rw [List.length_drop]; omega) (thXv (v := St' (List.drop (Int.toNat ((idxB r 47) + 1)) r)) rfl rfl (thXv (v := rwS (([] : List LB) ++ [(List.take (Int.toNat ((idxB r 47))) r)])) rfl rfl (thNil))) runSg63_p0
  unfold hySg63_p0
  exact hc (kRn (denX rfl)) <|
   hc (kEqS (isSx (l := [u8 47]) 1 47 rfl) (isX rfl) (decide_eq_false (by assumption))) <|
   hc (kExtI (n := idxB r 47) exFIx exAIx exBIx (isX rfl) (isZ (m := 47) rfl) (denX rfl) rfl) <|
   hc (ltcF rfl (by omega)) <|
   hc (adC rfl rfl (by omega)) <|
   hc (tkV rfl rfl rfl (by omega)) <|
   hc (kNeS (isX rfl) (isSx (l := ([] : LB)) 0 0 rfl) (bnT (nilF (by omega)))) <|
   hc (kRa (isX rfl) (isX rfl) (denX rfl)) <|
   hc (kRf (isX rfl) (by first | omega | (simp <;> omega)) (by first | omega | (simp <;> omega))) <|
   hc (adC rfl rfl (by omega)) <|
   hc (drV rfl rfl rfl (by omega)) <|
   hnil
def hySg63_p1 : LK := [(.rn, .x 2000002), (.bin .eql (.s 1 47) (.x 0), .b false), (.ext 46 [.x 0, .i .u8 (.ofNat 47)], .x 6), (.bin .lss (.x 6) (.i .i64 (.ofNat 0)), .b false), (.bin .add (.x 6) (.i .i64 (.ofNat 0)), .x 7), (.sub (.x 0) none (some (.x 7)), .x 8), (.bin .neq (.x 8) (.s 0 0), .b false), (.bin .add (.x 6) (.i .i64 (.ofNat 1)), .x 9), (.sub (.x 0) (some (.x 9)) none, .x 10)]
theorem runSg63_p1 : RNSg63_0 hySg63_p1 .normal [(0, .x 10)] [] 69 epSg63_0 hpSg63_0 = true := by kernel_rfl
theorem nxSg63_p1 (To : List LB) (Tr : LB) (r : LB) (o : List LB) (X : Nat → Value) (hI : InvSg63 To Tr (0, r, o)) (h0 : ¬ ([u8 47] = r)) (h1 : ¬ (idxB r 47 < 0)) (h2 : (idxB r 47) = 0) : RHSg63 To Tr E' x' e' h' (0, r, o) X := by
  obtain ⟨i0, i1, i2, i3, i4, i5, it⟩ := unISg63 To Tr 0 r o hI
  have := ix_bd r 47
  have := lenTake (l := r) (Q := (idxB r 47)) (by omega) (by omega)
  have := lenDrop (l := r) (P := (idxB r 47) + 1) (by omega) (by omega)
  refine stSg63_0 To Tr r o (h := hySg63_p1) (0, (List.drop (Int.toNat ((idxB r 47) + 1)) r), ([] : List LB)) ?_ (mkISg63 To Tr 0 (List.drop (Int.toNat ((idxB r 47) + 1)) r) ([] : List LB) ⟨sg_0 (o := []) (by omega) (tk0 (by omega)) (show [] ++ sgL (sp47 [] r) = To from by have e := i0; rw [i4 rfl] at e; exact e), sg_l (by omega) i1, by rw [List.length_drop]; omega, by first | omega | (simp only [List.length_append, List.length_cons, List.length_nil, List.length_drop]; omega), fun _ => rfl, fun h => by omega, by omega⟩) (by show (List.drop _ r).length < r.length; rw [List.length_drop]; omega) (thXv (v := St' (List.drop (Int.toNat ((idxB r 47) + 1)) r)) rfl rfl (thNil)) runSg63_p1
  unfold hySg63_p1
  exact hc (kRn (denX rfl)) <|
   hc (kEqS (isSx (l := [u8 47]) 1 47 rfl) (isX rfl) (decide_eq_false (by assumption))) <|
   hc (kExtI (n := idxB r 47) exFIx exAIx exBIx (isX rfl) (isZ (m := 47) rfl) (denX rfl) rfl) <|
   hc (ltcF rfl (by omega)) <|
   hc (adC rfl rfl (by omega)) <|
   hc (tkV rfl rfl rfl (by omega)) <|
   hc (kNeS (isX rfl) (isSx (l := ([] : LB)) 0 0 rfl) (bnF (nilT (by omega)))) <|
   hc (adC rfl rfl (by omega)) <|
   hc (drV rfl rfl rfl (by omega)) <|
   hnil
def hySg63_p2 : LK := [(.rn, .x 2000003), (.bin .eql (.s 1 47) (.x 0), .b false), (.ext 46 [.x 0, .i .u8 (.ofNat 47)], .x 11), (.bin .lss (.x 11) (.i .i64 (.ofNat 0)), .b true)]
theorem runSg63_p2 : RNSg63_0 hySg63_p2 (.exit 2) [(0, .x 0)] [] 80 [(0, .yl 67), (2, .p 64 0)] [(63, .b ⟨28, .l [.nils], 0, 0, 0, false, false⟩), (64, .b ⟨9, .l [.x 0], 0, 0, 0, false, false⟩), (65, .b ⟨9, .l [.s 1 47], 0, 0, 0, false, false⟩), (66, .b ⟨3, .l [.i .i64 (.ofNat 0)], 0, 0, 0, false, false⟩), (67, .k 7 [(3, .p 63 0)] 15 0 .normal)] = true := by kernel_rfl
def hySg63_p3 : LK := [(.rn, .x 2000004), (.bin .eql (.s 1 47) (.x 0), .b true), (.sub (.x 0) none (some (.i .i64 (.ofNat 0))), .x 12), (.bin .neq (.x 12) (.s 0 0), .b false), (.sub (.x 0) (some (.i .i64 (.ofNat 1))) none, .x 13)]
theorem runSg63_p3 : RNSg63_0 hySg63_p3 .normal [(0, .x 13)] [] 69 epSg63_0 hpSg63_0 = true := by kernel_rfl
theorem nxSg63_p3 (To : List LB) (Tr : LB) (r : LB) (o : List LB) (X : Nat → Value) (hI : InvSg63 To Tr (0, r, o)) (h0 : [u8 47] = r) : RHSg63 To Tr E' x' e' h' (0, r, o) X := by
  obtain ⟨i0, i1, i2, i3, i4, i5, it⟩ := unISg63 To Tr 0 r o hI
  have hr1 := congrArg List.length (‹[u8 47] = r›); simp only [List.length_cons, List.length_nil] at hr1
  have := lenTake (l := r) (Q := 0) (by omega) (by omega)
  have := lenDrop (l := r) (P := 1) (by omega) (by omega)
  refine stSg63_0 To Tr r o (h := hySg63_p3) (0, (List.drop (Int.toNat (1)) r), ([] : List LB)) ?_ (mkISg63 To Tr 0 (List.drop (Int.toNat (1)) r) ([] : List LB) ⟨(sg_e (o := []) (by assumption) (show [] ++ sgL (sp47 [] r) = To from by have e := i0; rw [i4 rfl] at e; exact e) i1).1, (sg_e (by assumption) i0 i1).2, by rw [List.length_drop]; omega, by first | omega | (simp only [List.length_append, List.length_cons, List.length_nil, List.length_drop]; omega), fun _ => rfl, fun h => by omega, by omega⟩) (by have := congrArg List.length (‹[u8 47] = r›); simp only [List.length_cons, List.length_nil] at this; show (List.drop _ r).length < r.length; rw [List.length_drop]; omega) (thXv (v := St' (List.drop (Int.toNat (1)) r)) rfl rfl (thNil)) runSg63_p3
  unfold hySg63_p3
  exact hc (kRn (denX rfl)) <|
   hc (kEqS (isSx (l := [u8 47]) 1 47 rfl) (isX rfl) (decide_eq_true (by assumption))) <|
   hc (tkC rfl rfl (by omega)) <|
   hc (kNeS (isX rfl) (isSx (l := ([] : LB)) 0 0 rfl) (bnF (nilT (by omega)))) <|
   hc (drC rfl rfl (by omega)) <|
   hnil
def hySg63_p4 : LK := [(.rn, .x 2000001), (.bin .eql (.s 1 47) (.x 0), .b false), (.ext 46 [.x 0, .i .u8 (.ofNat 47)], .x 1), (.bin .lss (.x 1) (.i .i64 (.ofNat 0)), .b false), (.bin .add (.x 1) (.i .i64 (.ofNat 0)), .x 2), (.sub (.x 0) none (some (.x 2)), .x 3), (.bin .neq (.x 3) (.s 0 0), .b true), (.ra (.x 2000000) [.x 3], .x 2000002), (.rf (.x 2000002) 1 16, .b true), (.bin .add (.x 1) (.i .i64 (.ofNat 1)), .x 4), (.sub (.x 0) (some (.x 4)) none, .x 5)]
theorem runSg63_p4 : RNSg63_1 hySg63_p4 .normal [(0, .x 5), (2000000, .x 2000002)] [(68, 70)] 69 epSg63_1 hpSg63_1 = true := by kernel_rfl
theorem nxSg63_p4 (To : List LB) (Tr : LB) (r : LB) (o : List LB) (X : Nat → Value) (hI : InvSg63 To Tr (1, r, o)) (h0 : ¬ ([u8 47] = r)) (h1 : ¬ (idxB r 47 < 0)) (h2 : ¬ ((idxB r 47) = 0)) : RHSg63 To Tr E' x' e' h' (1, r, o) X := by
  obtain ⟨i0, i1, i2, i3, i4, i5, it⟩ := unISg63 To Tr 1 r o hI
  have := ix_bd r 47
  have := lenTake (l := r) (Q := (idxB r 47)) (by omega) (by omega)
  have := lenDrop (l := r) (P := (idxB r 47) + 1) (by omega) (by omega)
  refine stSg63_1 To Tr r o (h := hySg63_p4) (1, (List.drop (Int.toNat ((idxB r 47) + 1)) r), (o ++ [(List.take (Int.toNat ((idxB r 47))) r)])) ?_ (mkISg63 To Tr 1 (List.drop (Int.toNat ((idxB r 47) + 1)) r) (o ++ [(List.take (Int.toNat ((idxB r 47))) r)]) ⟨sg_1 (by omega) (tkn (by omega) (by omega)) i0, sg_l (by omega) i1, by rw [List.length_drop]; omega, by first | omega | (simp only [List.length_append, List.length_cons, List.length_nil, List.length_drop]; omega), fun h => by omega, fun _ => by simp, by omega⟩) (by show (List.drop _ r).length < r.length; rw [List.length_drop]; omega) (thXv (v := St' (List.drop (Int.toNat ((idxB r 47) + 1)) r)) rfl rfl (thXv (v := rwS (o ++ [(List.take (Int.toNat ((idxB r 47))) r)])) rfl rfl (thNil))) runSg63_p4
  unfold hySg63_p4
  exact hc (kRn (denX rfl)) <|
   hc (kEqS (isSx (l := [u8 47]) 1 47 rfl) (isX rfl) (decide_eq_false (by assumption))) <|
   hc (kExtI (n := idxB r 47) exFIx exAIx exBIx (isX rfl) (isZ (m := 47) rfl) (denX rfl) rfl) <|
   hc (ltcF rfl (by omega)) <|
   hc (adC rfl rfl (by omega)) <|
   hc (tkV rfl rfl rfl (by omega)) <|
   hc (kNeS (isX rfl) (isSx (l := ([] : LB)) 0 0 rfl) (bnT (nilF (by omega)))) <|
   hc (kRa (isX rfl) (isX rfl) (denX rfl)) <|
   hc (kRf (isX rfl) (by first | omega | (simp <;> omega)) (by first | omega | (simp <;> omega))) <|
   hc (adC rfl rfl (by omega)) <|
   hc (drV rfl rfl rfl (by omega)) <|
   hnil
def hySg63_p5 : LK := [(.rn, .x 2000003), (.bin .eql (.s 1 47) (.x 0), .b false), (.ext 46 [.x 0, .i .u8 (.ofNat 47)], .x 6), (.bin .lss (.x 6) (.i .i64 (.ofNat 0)), .b false), (.bin .add (.x 6) (.i .i64 (.ofNat 0)), .x 7), (.sub (.x 0) none (some (.x 7)), .x 8), (.bin .neq (.x 8) (.s 0 0), .b false), (.bin .add (.x 6) (.i .i64 (.ofNat 1)), .x 9), (.sub (.x 0) (some (.x 9)) none, .x 10)]
theorem runSg63_p5 : RNSg63_1 hySg63_p5 .normal [(0, .x 10), (2000000, .x 2000000)] [(68, 68)] 69 epSg63_1 hpSg63_1 = true := by kernel_rfl
theorem nxSg63_p5 (To : List LB) (Tr : LB) (r : LB) (o : List LB) (X : Nat → Value) (hI : InvSg63 To Tr (1, r, o)) (h0 : ¬ ([u8 47] = r)) (h1 : ¬ (idxB r 47 < 0)) (h2 : (idxB r 47) = 0) : RHSg63 To Tr E' x' e' h' (1, r, o) X := by
  obtain ⟨i0, i1, i2, i3, i4, i5, it⟩ := unISg63 To Tr 1 r o hI
  have := ix_bd r 47
  have := lenTake (l := r) (Q := (idxB r 47)) (by omega) (by omega)
  have := lenDrop (l := r) (P := (idxB r 47) + 1) (by omega) (by omega)
  refine stSg63_1 To Tr r o (h := hySg63_p5) (1, (List.drop (Int.toNat ((idxB r 47) + 1)) r), o) ?_ (mkISg63 To Tr 1 (List.drop (Int.toNat ((idxB r 47) + 1)) r) o ⟨sg_0 (by omega) (tk0 (by omega)) i0, sg_l (by omega) i1, by rw [List.length_drop]; omega, by first | omega | (simp only [List.length_append, List.length_cons, List.length_nil, List.length_drop]; omega), fun h => by omega, fun _ => i5 rfl, by omega⟩) (by show (List.drop _ r).length < r.length; rw [List.length_drop]; omega) (thXv (v := St' (List.drop (Int.toNat ((idxB r 47) + 1)) r)) rfl rfl (thXv (v := rwS o) rfl rfl (thNil))) runSg63_p5
  unfold hySg63_p5
  exact hc (kRn (denX rfl)) <|
   hc (kEqS (isSx (l := [u8 47]) 1 47 rfl) (isX rfl) (decide_eq_false (by assumption))) <|
   hc (kExtI (n := idxB r 47) exFIx exAIx exBIx (isX rfl) (isZ (m := 47) rfl) (denX rfl) rfl) <|
   hc (ltcF rfl (by omega)) <|
   hc (adC rfl rfl (by omega)) <|
   hc (tkV rfl rfl rfl (by omega)) <|
   hc (kNeS (isX rfl) (isSx (l := ([] : LB)) 0 0 rfl) (bnF (nilT (by omega)))) <|
   hc (adC rfl rfl (by omega)) <|
   hc (drV rfl rfl rfl (by omega)) <|
   hnil
def hySg63_p6 : LK := [(.rn, .x 2000004), (.bin .eql (.s 1 47) (.x 0), .b false), (.ext 46 [.x 0, .i .u8 (.ofNat 47)], .x 11), (.bin .lss (.x 11) (.i .i64 (.ofNat 0)), .b true)]
theorem runSg63_p6 : RNSg63_1 hySg63_p6 (.exit 2) [(0, .x 0), (2000000, .x 2000000)] [(68, 68)] 80 [(0, .yl 67), (2, .p 64 0)] [(63, .b ⟨28, .l [.sr 68], 0, 0, 0, false, false⟩), (64, .b ⟨9, .l [.x 0], 0, 0, 0, false, false⟩), (65, .b ⟨9, .l [.s 1 47], 0, 0, 0, false, false⟩), (66, .b ⟨3, .l [.i .i64 (.ofNat 0)], 0, 0, 0, false, false⟩), (67, .k 7 [(3, .p 63 0)] 15 0 .normal), (68, .r 2000000 9 1 false)] = true := by kernel_rfl
def hySg63_p7 : LK := [(.rn, .x 2000005), (.bin .eql (.s 1 47) (.x 0), .b true), (.sub (.x 0) none (some (.i .i64 (.ofNat 0))), .x 12), (.bin .neq (.x 12) (.s 0 0), .b false), (.sub (.x 0) (some (.i .i64 (.ofNat 1))) none, .x 13)]
theorem runSg63_p7 : RNSg63_1 hySg63_p7 .normal [(0, .x 13), (2000000, .x 2000000)] [(68, 68)] 69 epSg63_1 hpSg63_1 = true := by kernel_rfl
theorem nxSg63_p7 (To : List LB) (Tr : LB) (r : LB) (o : List LB) (X : Nat → Value) (hI : InvSg63 To Tr (1, r, o)) (h0 : [u8 47] = r) : RHSg63 To Tr E' x' e' h' (1, r, o) X := by
  obtain ⟨i0, i1, i2, i3, i4, i5, it⟩ := unISg63 To Tr 1 r o hI
  have hr1 := congrArg List.length (‹[u8 47] = r›); simp only [List.length_cons, List.length_nil] at hr1
  have := lenTake (l := r) (Q := 0) (by omega) (by omega)
  have := lenDrop (l := r) (P := 1) (by omega) (by omega)
  refine stSg63_1 To Tr r o (h := hySg63_p7) (1, (List.drop (Int.toNat (1)) r), o) ?_ (mkISg63 To Tr 1 (List.drop (Int.toNat (1)) r) o ⟨(sg_e (by assumption) i0 i1).1, (sg_e (by assumption) i0 i1).2, by rw [List.length_drop]; omega, by first | omega | (simp only [List.length_append, List.length_cons, List.length_nil, List.length_drop]; omega), fun h => by omega, fun _ => i5 rfl, by omega⟩) (by have := congrArg List.length (‹[u8 47] = r›); simp only [List.length_cons, List.length_nil] at this; show (List.drop _ r).length < r.length; rw [List.length_drop]; omega) (thXv (v := St' (List.drop (Int.toNat (1)) r)) rfl rfl (thXv (v := rwS o) rfl rfl (thNil))) runSg63_p7
  unfold hySg63_p7
  exact hc (kRn (denX rfl)) <|
   hc (kEqS (isSx (l := [u8 47]) 1 47 rfl) (isX rfl) (decide_eq_true (by assumption))) <|
   hc (tkC rfl rfl (by omega)) <|
   hc (kNeS (isX rfl) (isSx (l := ([] : LB)) 0 0 rfl) (bnF (nilT (by omega)))) <|
   hc (drC rfl rfl (by omega)) <|
   hnil
def nuESg63_0 (To : List LB) (Tr : LB) : List Value := [St' Tr]
def roESg63_0 (To : List LB) (Tr : LB) : List Value := []
noncomputable def ESg63_0 (To : List LB) (Tr : LB) : Cx := cx (nuX (nuESg63_0 To Tr) (rX (roESg63_0 To Tr) (fun _ => .bool true))) (nuX_one (nuL_one (l := nuESg63_0 To Tr) rfl)) 0 laidE laidE_stab
theorem roundsSg63_0 (To : List LB) (Tr : LB) (x0 : To.length = 0) (st : Nat × LB × List LB) (X : Nat → Value) (hI : InvSg63 To Tr st) : RHSg63 To Tr (ESg63_0 To Tr) (.exit 2) [(0, .yl 67), (2, .p 64 0)] [(63, .b ⟨28, .l [.nils], 0, 0, 0, false, false⟩), (64, .b ⟨9, .l [.x 0], 0, 0, 0, false, false⟩), (65, .b ⟨9, .l [.s 1 47], 0, 0, 0, false, false⟩), (66, .b ⟨3, .l [.i .i64 (.ofNat 0)], 0, 0, 0, false, false⟩), (67, .k 7 [(3, .p 63 0)] 15 0 .normal)] st X := by
  obtain ⟨tag, r, o⟩ := st
  have hI0 := hI
  obtain ⟨i0, i1, i2, i3, i4, i5, it⟩ := unISg63 To Tr tag r o hI
  rcases (show tag = 0 ∨ tag = 1 from by omega) with rfl | rfl
  · skip
    by_cases h0 : [u8 47] = r
    · exact nxSg63_p3 To Tr r o X hI0 h0
    · by_cases h1 : idxB r 47 < 0
      · skip
        have := ix_bd r 47
        refine lvSg63_0 To Tr r o (h := hySg63_p2) rfl ?_ (thXe (v := St' r) (u := St' Tr) rfl rfl (congrArg (fun l => St' l) (sg_r (by omega) i1)) (thNil)) runSg63_p2
        unfold hySg63_p2
        exact hc (kRn (denX rfl)) <|
         hc (kEqS (isSx (l := [u8 47]) 1 47 rfl) (isX rfl) (decide_eq_false (by assumption))) <|
         hc (kExtI (n := idxB r 47) exFIx exAIx exBIx (isX rfl) (isZ (m := 47) rfl) (denX rfl) rfl) <|
         hc (ltcT rfl (by omega)) <|
         hnil
      · by_cases h2 : (idxB r 47) = 0
        · exact nxSg63_p1 To Tr r o X hI0 h0 h1 h2
        · exact nxSg63_p0 To Tr r o X hI0 h0 h1 h2
  · skip
    by_cases h0 : [u8 47] = r
    · exact nxSg63_p7 To Tr r o X hI0 h0
    · by_cases h1 : idxB r 47 < 0
      · exfalso; have e := congrArg List.length (sg_o (by omega) i0); have := i5 rfl; omega
      · by_cases h2 : (idxB r 47) = 0
        · exact nxSg63_p5 To Tr r o X hI0 h0 h1 h2
        · exact nxSg63_p4 To Tr r o X hI0 h0 h1 h2
theorem lfOkSg63_0 {l : LF} {h : LH} (To : List LB) (Tr : LB) (x0 : To.length = 0) (st : Nat × LB × List LB) (hI : InvSg63 To Tr st) (hl : l.hp = some h) (hs : lfSame l h 52 keepSg63 (.exit 2) 3 68 80 = true) {th0 : LA} {sg0 : List (Nat × Nat)} (hth0 : ∀ X, ThOk (cx nu one 0 laidE laidE_stab) (DSg63 To Tr st X) th0) (h0 : startOk l h 52 68 69 th0 sg0 (epSg63 st) (hpSg63 st) = true) {thx : LA} (hthx : ThOk (ESg63_0 To Tr) (cx nu one 0 laidE laidE_stab) thx) (hx : exitOk l h 52 68 80 thx [(0, .yl 67), (2, .p 64 0)] [(63, .b ⟨28, .l [.nils], 0, 0, 0, false, false⟩), (64, .b ⟨9, .l [.x 0], 0, 0, 0, false, false⟩), (65, .b ⟨9, .l [.s 1 47], 0, 0, 0, false, false⟩), (66, .b ⟨3, .l [.i .i64 (.ofNat 0)], 0, 0, 0, false, false⟩), (67, .k 7 [(3, .p 63 0)] 15 0 .normal)] = true) : LfOk (cx nu one 0 laidE laidE_stab) bodySg63 l :=
  lfOkX (E := ESg63_0 To Tr) (InvSg63 To Tr) (muSg63 To Tr) (DSg63 To Tr) (fun _ _ => rfl) (fun _ _ => rfl) (fun _ _ => rfl) (fun st X t ht => nuX_keep.trans (rX_keep ((by decide : ∀ t, t ∈ keepSg63 → t < 1000000) t ht))) rfl rfl rfl hl hs ebSg63 rfl rfl st hI hth0 h0 hthx hx (roundsSg63_0 To Tr x0)
def nuESg63_1 (To : List LB) (Tr : LB) : List Value := [St' Tr]
def roESg63_1 (To : List LB) (Tr : LB) : List Value := [rwS To]
noncomputable def ESg63_1 (To : List LB) (Tr : LB) : Cx := cx (nuX (nuESg63_1 To Tr) (rX (roESg63_1 To Tr) (fun _ => .bool true))) (nuX_one (nuL_one (l := nuESg63_1 To Tr) rfl)) 0 laidE laidE_stab
theorem roundsSg63_1 (To : List LB) (Tr : LB) (x0 : ¬ To.length = 0) (st : Nat × LB × List LB) (X : Nat → Value) (hI : InvSg63 To Tr st) : RHSg63 To Tr (ESg63_1 To Tr) (.exit 2) [(0, .yl 67), (2, .p 64 0)] [(63, .b ⟨28, .l [.sr 68], 0, 0, 0, false, false⟩), (64, .b ⟨9, .l [.x 0], 0, 0, 0, false, false⟩), (65, .b ⟨9, .l [.s 1 47], 0, 0, 0, false, false⟩), (66, .b ⟨3, .l [.i .i64 (.ofNat 0)], 0, 0, 0, false, false⟩), (67, .k 7 [(3, .p 63 0)] 15 0 .normal), (68, .r 2000000 9 1 false)] st X := by
  obtain ⟨tag, r, o⟩ := st
  have hI0 := hI
  obtain ⟨i0, i1, i2, i3, i4, i5, it⟩ := unISg63 To Tr tag r o hI
  rcases (show tag = 0 ∨ tag = 1 from by omega) with rfl | rfl
  · skip
    by_cases h0 : [u8 47] = r
    · exact nxSg63_p3 To Tr r o X hI0 h0
    · by_cases h1 : idxB r 47 < 0
      · exfalso; have e := congrArg List.length (sg_o (by omega) i0); rw [i4 rfl] at e; exact x0 e.symm
      · by_cases h2 : (idxB r 47) = 0
        · exact nxSg63_p1 To Tr r o X hI0 h0 h1 h2
        · exact nxSg63_p0 To Tr r o X hI0 h0 h1 h2
  · skip
    by_cases h0 : [u8 47] = r
    · exact nxSg63_p7 To Tr r o X hI0 h0
    · by_cases h1 : idxB r 47 < 0
      · skip
        have := ix_bd r 47
        refine lvSg63_1 To Tr r o (h := hySg63_p6) rfl ?_ (thXe (v := St' r) (u := St' Tr) rfl rfl (congrArg (fun l => St' l) (sg_r (by omega) i1)) (thXe (v := rwS o) (u := rwS To) rfl rfl (congrArg rwS (sg_o (by omega) i0)) (thNil))) runSg63_p6
        unfold hySg63_p6
        exact hc (kRn (denX rfl)) <|
         hc (kEqS (isSx (l := [u8 47]) 1 47 rfl) (isX rfl) (decide_eq_false (by assumption))) <|
         hc (kExtI (n := idxB r 47) exFIx exAIx exBIx (isX rfl) (isZ (m := 47) rfl) (denX rfl) rfl) <|
         hc (ltcT rfl (by omega)) <|
         hnil
      · by_cases h2 : (idxB r 47) = 0
        · exact nxSg63_p5 To Tr r o X hI0 h0 h1 h2
        · exact nxSg63_p4 To Tr r o X hI0 h0 h1 h2
theorem lfOkSg63_1 {l : LF} {h : LH} (To : List LB) (Tr : LB) (x0 : ¬ To.length = 0) (st : Nat × LB × List LB) (hI : InvSg63 To Tr st) (hl : l.hp = some h) (hs : lfSame l h 52 keepSg63 (.exit 2) 3 68 80 = true) {th0 : LA} {sg0 : List (Nat × Nat)} (hth0 : ∀ X, ThOk (cx nu one 0 laidE laidE_stab) (DSg63 To Tr st X) th0) (h0 : startOk l h 52 68 69 th0 sg0 (epSg63 st) (hpSg63 st) = true) {thx : LA} (hthx : ThOk (ESg63_1 To Tr) (cx nu one 0 laidE laidE_stab) thx) (hx : exitOk l h 52 68 80 thx [(0, .yl 67), (2, .p 64 0)] [(63, .b ⟨28, .l [.sr 68], 0, 0, 0, false, false⟩), (64, .b ⟨9, .l [.x 0], 0, 0, 0, false, false⟩), (65, .b ⟨9, .l [.s 1 47], 0, 0, 0, false, false⟩), (66, .b ⟨3, .l [.i .i64 (.ofNat 0)], 0, 0, 0, false, false⟩), (67, .k 7 [(3, .p 63 0)] 15 0 .normal), (68, .r 2000000 9 1 false)] = true) : LfOk (cx nu one 0 laidE laidE_stab) bodySg63 l :=
  lfOkX (E := ESg63_1 To Tr) (InvSg63 To Tr) (muSg63 To Tr) (DSg63 To Tr) (fun _ _ => rfl) (fun _ _ => rfl) (fun _ _ => rfl) (fun st X t ht => nuX_keep.trans (rX_keep ((by decide : ∀ t, t ∈ keepSg63 → t < 1000000) t ht))) rfl rfl rfl hl hs ebSg63 rfl rfl st hI hth0 h0 hthx hx (roundsSg63_1 To Tr x0)
theorem mkA7 : (loopsOf (Tryd.f7.body.getD .skip)).all (fun b => !(keyEq (Go.AX.keyOf b) 7777777)) = true := by kernel_rfl
theorem mkB7 : Nat.beq (rfsOf (Tryd.f7.body.getD .skip)).length 1 = true := by kernel_rfl
theorem mkC7 : Tryd.f7.body = some (Tryd.f7.body.getD .skip) := by kernel_rfl
noncomputable def fi7 : FI := (tabk.fn.get 7).getD default
theorem fi7_at : tabk.fn.get 7 = some fi7 := by kernel_rfl
theorem fi7_body : fi7.body = some (Tryd.f7.body.getD .skip) := by kernel_rfl
theorem fiB7 : fi7.body.isSome = true := by rw [fi7_body]; rfl
theorem cfA7 : (loopsOf (Tryd.f7.body.getD .skip)).all (fun b => !(keyEq (Go.AX.keyOf b) 8888888)) = true := by kernel_rfl
def aPSeg63 : List AV := [.x 0]
def hpSeg63 : LE := []
def nuSeg63 (s : LB) : List Value := [St' s, St' (lsP (sp47 [] s)), St' (lsP (sp47 [] s)), St' (lsP (sp47 [] s)), St' (lsP (sp47 [] s))]
def roSeg63 (s : LB) : List Value := [rwS ([] : List LB), rwS ([] : List LB), rwS (([] : List LB) ++ [(lsP (sp47 [] s))]), rwS ([] : List LB), rwS (sgL (sp47 [] s)), rwS ([] : List LB), rwS (sgL (sp47 [] s)), rwS ((sgL (sp47 [] s)) ++ [(lsP (sp47 [] s))])]
noncomputable def DSeg63 (s : LB) : Cx := cx (nuX (nuSeg63 s) (rX (roSeg63 s) (fun _ => .bool true))) (nuX_one (nuL_one (l := nuSeg63 s) rfl)) 0 laidE laidE_stab
def hySeg63_c0 : LK := [(.rn, .x 2000000), (.bin .neq (.x 1) (.s 0 0), .b false)]
def lh39 : LH := ⟨3, 68, 80, [(63, .b ⟨28, .l [.nils], 0, 0, 0, false, false⟩), (64, .b ⟨9, .l [.x 0], 0, 0, 0, false, false⟩), (65, .b ⟨9, .l [.s 1 47], 0, 0, 0, false, false⟩), (66, .b ⟨3, .l [.i .i64 (.ofNat 0)], 0, 0, 0, false, false⟩), (67, .k 7 [(3, .p 63 0)] 15 0 .normal)], [(63, .b ⟨28, .l [.nils], 0, 0, 0, false, false⟩), (64, .b ⟨9, .l [.x 1], 0, 0, 0, false, false⟩), (65, .b ⟨9, .l [.s 1 47], 0, 0, 0, false, false⟩), (66, .b ⟨3, .l [.i .i64 (.ofNat 0)], 0, 0, 0, false, false⟩), (67, .k 7 [(3, .p 63 0)] 15 0 .normal)]⟩
def lf39 : LF := ⟨5, 52, [(0, .yl 67), (1, .p 65 0), (2, .p 64 0), (3, .p 66 0), (9, .s 1 47)], [], (.exit 2), [(0, .yl 67), (2, .p 64 0)], some lh39⟩
noncomputable def tbSeg63_c0 : Tab := addLps (addLps ((tbl hySeg63_c0)) 7 fi7 [⟨7777777, 7, [], [3], .goto 7777777, [], none⟩]) 29 fi29 [lf39]
theorem runSeg63_c0 (e : Unit) : okCf (call tbSeg63_c0 2000 7 aPSeg63 ⟨lhSet hpSeg63 ((fun _ : Unit => T.leaf) e), 63, 0, 0⟩) (.nils) [] [] 63 93 [] = true := by kernel_rfl
def hySeg63_c1 : LK := [(.rn, .x 2000001), (.bin .neq (.x 2) (.s 0 0), .b true), (.ra (.x 2000001) [.x 2], .x 2000002), (.rf (.x 2000002) 1 16, .b true)]
def lh40 : LH := ⟨3, 68, 80, [(63, .b ⟨28, .l [.nils], 0, 0, 0, false, false⟩), (64, .b ⟨9, .l [.x 0], 0, 0, 0, false, false⟩), (65, .b ⟨9, .l [.s 1 47], 0, 0, 0, false, false⟩), (66, .b ⟨3, .l [.i .i64 (.ofNat 0)], 0, 0, 0, false, false⟩), (67, .k 7 [(3, .p 63 0)] 15 0 .normal)], [(63, .b ⟨28, .l [.nils], 0, 0, 0, false, false⟩), (64, .b ⟨9, .l [.x 2], 0, 0, 0, false, false⟩), (65, .b ⟨9, .l [.s 1 47], 0, 0, 0, false, false⟩), (66, .b ⟨3, .l [.i .i64 (.ofNat 0)], 0, 0, 0, false, false⟩), (67, .k 7 [(3, .p 63 0)] 15 0 .normal)]⟩
def lf40 : LF := ⟨5, 52, [(0, .yl 67), (1, .p 65 0), (2, .p 64 0), (3, .p 66 0), (9, .s 1 47)], [], (.exit 2), [(0, .yl 67), (2, .p 64 0)], some lh40⟩
noncomputable def tbSeg63_c1 : Tab := addLps (addLps ((tbl hySeg63_c1)) 7 fi7 [⟨7777777, 7, [], [3], .goto 7777777, [], none⟩]) 29 fi29 [lf40]
theorem runSeg63_c1 (e : Unit) : okCf (call tbSeg63_c1 2000 7 aPSeg63 ⟨lhSet hpSeg63 ((fun _ : Unit => T.leaf) e), 63, 0, 0⟩) (.sr 63) [(2000000, .x 2000002)] [(63, 81)] 63 93 [(63, .r 2000000 9 1 false)] = true := by kernel_rfl
def hySeg63_c2 : LK := [(.rn, .x 2000003), (.bin .neq (.x 3) (.s 0 0), .b false)]
def lh41 : LH := ⟨3, 68, 80, [(63, .b ⟨28, .l [.nils], 0, 0, 0, false, false⟩), (64, .b ⟨9, .l [.x 0], 0, 0, 0, false, false⟩), (65, .b ⟨9, .l [.s 1 47], 0, 0, 0, false, false⟩), (66, .b ⟨3, .l [.i .i64 (.ofNat 0)], 0, 0, 0, false, false⟩), (67, .k 7 [(3, .p 63 0)] 15 0 .normal)], [(63, .b ⟨28, .l [.sr 68], 0, 0, 0, false, false⟩), (64, .b ⟨9, .l [.x 3], 0, 0, 0, false, false⟩), (65, .b ⟨9, .l [.s 1 47], 0, 0, 0, false, false⟩), (66, .b ⟨3, .l [.i .i64 (.ofNat 0)], 0, 0, 0, false, false⟩), (67, .k 7 [(3, .p 63 0)] 15 0 .normal), (68, .r 2000004 9 1 false)]⟩
def lf41 : LF := ⟨5, 52, [(0, .yl 67), (1, .p 65 0), (2, .p 64 0), (3, .p 66 0), (9, .s 1 47)], [], (.exit 2), [(0, .yl 67), (2, .p 64 0)], some lh41⟩
noncomputable def tbSeg63_c2 : Tab := addLps (addLps ((tbl hySeg63_c2)) 7 fi7 [⟨7777777, 7, [], [3], .goto 7777777, [], none⟩]) 29 fi29 [lf41]
theorem runSeg63_c2 (e : Unit) : okCf (call tbSeg63_c2 2000 7 aPSeg63 ⟨lhSet hpSeg63 ((fun _ : Unit => T.leaf) e), 63, 0, 0⟩) (.sr 63) [(2000000, .x 2000004)] [(63, 68)] 63 93 [(63, .r 2000000 9 1 false)] = true := by kernel_rfl
def hySeg63_c3 : LK := [(.rn, .x 2000005), (.bin .neq (.x 4) (.s 0 0), .b true), (.ra (.x 2000006) [.x 4], .x 2000007), (.rf (.x 2000007) 1 16, .b true)]
def lh42 : LH := ⟨3, 68, 80, [(63, .b ⟨28, .l [.nils], 0, 0, 0, false, false⟩), (64, .b ⟨9, .l [.x 0], 0, 0, 0, false, false⟩), (65, .b ⟨9, .l [.s 1 47], 0, 0, 0, false, false⟩), (66, .b ⟨3, .l [.i .i64 (.ofNat 0)], 0, 0, 0, false, false⟩), (67, .k 7 [(3, .p 63 0)] 15 0 .normal)], [(63, .b ⟨28, .l [.sr 68], 0, 0, 0, false, false⟩), (64, .b ⟨9, .l [.x 4], 0, 0, 0, false, false⟩), (65, .b ⟨9, .l [.s 1 47], 0, 0, 0, false, false⟩), (66, .b ⟨3, .l [.i .i64 (.ofNat 0)], 0, 0, 0, false, false⟩), (67, .k 7 [(3, .p 63 0)] 15 0 .normal), (68, .r 2000006 9 1 false)]⟩
def lf42 : LF := ⟨5, 52, [(0, .yl 67), (1, .p 65 0), (2, .p 64 0), (3, .p 66 0), (9, .s 1 47)], [], (.exit 2), [(0, .yl 67), (2, .p 64 0)], some lh42⟩
noncomputable def tbSeg63_c3 : Tab := addLps (addLps ((tbl hySeg63_c3)) 7 fi7 [⟨7777777, 7, [], [3], .goto 7777777, [], none⟩]) 29 fi29 [lf42]
theorem runSeg63_c3 (e : Unit) : okCf (call tbSeg63_c3 2000 7 aPSeg63 ⟨lhSet hpSeg63 ((fun _ : Unit => T.leaf) e), 63, 0, 0⟩) (.sr 63) [(2000000, .x 2000007)] [(63, 81)] 63 93 [(63, .r 2000000 9 1 false)] = true := by kernel_rfl
def nuESeg63_0 (s : LB) : List Value := []
def roESeg63_0 (s : LB) : List Value := []
noncomputable def ESeg63_0 (s : LB) : Cx := cx (nuX (nuESeg63_0 s) (rX (roESeg63_0 s) (fun _ => .bool true))) (nuX_one (nuL_one (l := nuESeg63_0 s) rfl)) 0 laidE laidE_stab
theorem cfSeg63_0 {l : LF} {h : LH} {q : Nat × AV} (s : LB) (p0 : s.length ≤ 1000000) (x0 : (segS s).length = 0) (hl : l.hp = some h) (hq : l.post = [q]) (hs : cfSame l h 3 63 93 = true) {th0 : LA} {sg0 : List (Nat × Nat)} (hth0 : ThOk (cx nu one 0 laidE laidE_stab) (DSeg63 s) th0) (h0 : (inAs th0 (sgB 63 63 sg0) aPSeg63 (l.pre.map (·.2)) && inHeap 63 63 th0 sg0 (lhSet h.pre .leaf) hpSeg63 && nodupN (numsOf 63 sg0 hpSeg63)) = true) {thx : LA} (hthx : ThOk (ESeg63_0 s) (cx nu one 0 laidE laidE_stab) thx) (hx : (inA thx (sgB 63 93 []) 8 q.2 (.nils) && inHeap 63 93 thx [] (lhSet [] .leaf) h.post && nodupN (numsOf 63 [] h.post)) = true) : CfOk (cx nu one 0 laidE laidE_stab) 7 l := by
  have hgl := sg_len s
  have hgc := sg_cases s
  by_cases d0 : (sgL (sp47 [] s)).length = 0
  · by_cases d1 : ((lsP (sp47 [] s)).length : Int) = 0
    · skip
      have hgl := sg_len s
      have hgc := sg_cases s
      have ho : ∀ a' r', (a', r') ∈ hySeg63_c0 → HOk (DSeg63 s) a' r' := by
        unfold hySeg63_c0
        exact hc (kRn (denX rfl)) <|
         hc (kNeS (isX rfl) (isSx (l := ([] : LB)) 0 0 rfl) (bnF (nilT (by omega)))) <|
         hnil
      exact cfOkX (D := DSeg63 s) (E := ESeg63_0 s) (Gf := (fun _ : Unit => T.leaf)) (f := 2000) (tb := tbSeg63_c0) rfl rfl rfl rfl rfl rfl hl hq hs rfl hth0 h0 hthx hx (AllOk.lp1 (AllOk.lp1 ((tabkOk _ _).hyps ho) (by omega) fi7_at fi7_body (lfCons (.inr ⟨rfl, mkA7, mkB7, _, Tryd.func7, mkC7⟩) lfNil)) (by omega) (get_lps2 (by omega) (by omega) fi29_at) fi29_body (lfCons (lpKnown rfl ⟨1, keySg63, lfOkSg63_0 (l := lf39) (h := lh39) (sgL (sp47 [] s)) (lsP (sp47 [] s)) (by assumption) (0, s, ([] : List LB)) (mkISg63 (sgL (sp47 [] s)) (lsP (sp47 [] s)) 0 s ([] : List LB) ⟨by simp, rfl, by omega, by simp only [List.length_nil]; omega, fun _ => rfl, fun h => by omega, by omega⟩) rfl (by kernel_rfl) (th0 := [(0, .x 0)]) (sg0 := []) (fun X => thXv (v := St' s) rfl rfl (thNil)) (by kernel_rfl) (thx := [(1, .x 0)]) (thXv (v := St' (lsP (sp47 [] s))) rfl rfl (thNil)) (by kernel_rfl)⟩) lfNil)) rfl (get_lps2 (by omega) (by omega) (get_lps (by omega))) fiB7 (.inl ⟨fun _ => rfl, ⟨()⟩⟩) (thNil) runSeg63_c0
    · exfalso; have := sg_cases s; omega
  · by_cases d1 : ((lsP (sp47 [] s)).length : Int) = 0
    · exfalso; have := sg_cases s; omega
    · exfalso; have := sg_cases s; omega
def nuESeg63_1 (s : LB) : List Value := []
def roESeg63_1 (s : LB) : List Value := [rwS (segS s)]
noncomputable def ESeg63_1 (s : LB) : Cx := cx (nuX (nuESeg63_1 s) (rX (roESeg63_1 s) (fun _ => .bool true))) (nuX_one (nuL_one (l := nuESeg63_1 s) rfl)) 0 laidE laidE_stab
theorem cfSeg63_1 {l : LF} {h : LH} {q : Nat × AV} (s : LB) (p0 : s.length ≤ 1000000) (x0 : ¬ (segS s).length = 0) (hl : l.hp = some h) (hq : l.post = [q]) (hs : cfSame l h 3 63 93 = true) {th0 : LA} {sg0 : List (Nat × Nat)} (hth0 : ThOk (cx nu one 0 laidE laidE_stab) (DSeg63 s) th0) (h0 : (inAs th0 (sgB 63 63 sg0) aPSeg63 (l.pre.map (·.2)) && inHeap 63 63 th0 sg0 (lhSet h.pre .leaf) hpSeg63 && nodupN (numsOf 63 sg0 hpSeg63)) = true) {thx : LA} (hthx : ThOk (ESeg63_1 s) (cx nu one 0 laidE laidE_stab) thx) (hx : (inA thx (sgB 63 93 []) 8 q.2 (.sr 63) && inHeap 63 93 thx [] (lhSet [(63, .r 2000000 9 1 false)] .leaf) h.post && nodupN (numsOf 63 [] h.post)) = true) : CfOk (cx nu one 0 laidE laidE_stab) 7 l := by
  have hgl := sg_len s
  have hgc := sg_cases s
  by_cases d0 : (sgL (sp47 [] s)).length = 0
  · by_cases d1 : ((lsP (sp47 [] s)).length : Int) = 0
    · exfalso; have := sg_cases s; omega
    · skip
      have hgl := sg_len s
      have hgc := sg_cases s
      have ho : ∀ a' r', (a', r') ∈ hySeg63_c1 → HOk (DSeg63 s) a' r' := by
        unfold hySeg63_c1
        exact hc (kRn (denX rfl)) <|
         hc (kNeS (isX rfl) (isSx (l := ([] : LB)) 0 0 rfl) (bnT (nilF (by omega)))) <|
         hc (kRa (isX rfl) (isX rfl) (denX rfl)) <|
         hc (kRf (isX rfl) (by first | omega | (simp <;> omega)) (by first | omega | (simp <;> omega))) <|
         hnil
      exact cfOkX (D := DSeg63 s) (E := ESeg63_1 s) (Gf := (fun _ : Unit => T.leaf)) (f := 2000) (tb := tbSeg63_c1) rfl rfl rfl rfl rfl rfl hl hq hs rfl hth0 h0 hthx hx (AllOk.lp1 (AllOk.lp1 ((tabkOk _ _).hyps ho) (by omega) fi7_at fi7_body (lfCons (.inr ⟨rfl, mkA7, mkB7, _, Tryd.func7, mkC7⟩) lfNil)) (by omega) (get_lps2 (by omega) (by omega) fi29_at) fi29_body (lfCons (lpKnown rfl ⟨1, keySg63, lfOkSg63_0 (l := lf40) (h := lh40) (sgL (sp47 [] s)) (lsP (sp47 [] s)) (by assumption) (0, s, ([] : List LB)) (mkISg63 (sgL (sp47 [] s)) (lsP (sp47 [] s)) 0 s ([] : List LB) ⟨by simp, rfl, by omega, by simp only [List.length_nil]; omega, fun _ => rfl, fun h => by omega, by omega⟩) rfl (by kernel_rfl) (th0 := [(0, .x 0)]) (sg0 := []) (fun X => thXv (v := St' s) rfl rfl (thNil)) (by kernel_rfl) (thx := [(2, .x 0)]) (thXv (v := St' (lsP (sp47 [] s))) rfl rfl (thNil)) (by kernel_rfl)⟩) lfNil)) rfl (get_lps2 (by omega) (by omega) (get_lps (by omega))) fiB7 (.inl ⟨fun _ => rfl, ⟨()⟩⟩) (thXe (v := rwS (([] : List LB) ++ [(lsP (sp47 [] s))])) (u := rwS (segS s)) rfl rfl (congrArg rwS (by first | exact sg_a (by omega) | exact sg_b (by omega) | exact sg_c (by omega) (by omega))) (thNil)) runSeg63_c1
  · by_cases d1 : ((lsP (sp47 [] s)).length : Int) = 0
    · skip
      have hgl := sg_len s
      have hgc := sg_cases s
      have ho : ∀ a' r', (a', r') ∈ hySeg63_c2 → HOk (DSeg63 s) a' r' := by
        unfold hySeg63_c2
        exact hc (kRn (denX rfl)) <|
         hc (kNeS (isX rfl) (isSx (l := ([] : LB)) 0 0 rfl) (bnF (nilT (by omega)))) <|
         hnil
      exact cfOkX (D := DSeg63 s) (E := ESeg63_1 s) (Gf := (fun _ : Unit => T.leaf)) (f := 2000) (tb := tbSeg63_c2) rfl rfl rfl rfl rfl rfl hl hq hs rfl hth0 h0 hthx hx (AllOk.lp1 (AllOk.lp1 ((tabkOk _ _).hyps ho) (by omega) fi7_at fi7_body (lfCons (.inr ⟨rfl, mkA7, mkB7, _, Tryd.func7, mkC7⟩) lfNil)) (by omega) (get_lps2 (by omega) (by omega) fi29_at) fi29_body (lfCons (lpKnown rfl ⟨1, keySg63, lfOkSg63_1 (l := lf41) (h := lh41) (sgL (sp47 [] s)) (lsP (sp47 [] s)) (by assumption) (0, s, ([] : List LB)) (mkISg63 (sgL (sp47 [] s)) (lsP (sp47 [] s)) 0 s ([] : List LB) ⟨by simp, rfl, by omega, by simp only [List.length_nil]; omega, fun _ => rfl, fun h => by omega, by omega⟩) rfl (by kernel_rfl) (th0 := [(0, .x 0)]) (sg0 := []) (fun X => thXv (v := St' s) rfl rfl (thNil)) (by kernel_rfl) (thx := [(3, .x 0), (2000004, .x 2000000)]) (thXv (v := St' (lsP (sp47 [] s))) rfl rfl (thXv (v := rwS (sgL (sp47 [] s))) rfl rfl (thNil))) (by kernel_rfl)⟩) lfNil)) rfl (get_lps2 (by omega) (by omega) (get_lps (by omega))) fiB7 (.inl ⟨fun _ => rfl, ⟨()⟩⟩) (thXe (v := rwS (sgL (sp47 [] s))) (u := rwS (segS s)) rfl rfl (congrArg rwS (by first | exact sg_a (by omega) | exact sg_b (by omega) | exact sg_c (by omega) (by omega))) (thNil)) runSeg63_c2
    · skip
      have hgl := sg_len s
      have hgc := sg_cases s
      have ho : ∀ a' r', (a', r') ∈ hySeg63_c3 → HOk (DSeg63 s) a' r' := by
        unfold hySeg63_c3
        exact hc (kRn (denX rfl)) <|
         hc (kNeS (isX rfl) (isSx (l := ([] : LB)) 0 0 rfl) (bnT (nilF (by omega)))) <|
         hc (kRa (isX rfl) (isX rfl) (denX rfl)) <|
         hc (kRf (isX rfl) (by first | omega | (simp <;> omega)) (by first | omega | (simp <;> omega))) <|
         hnil
      exact cfOkX (D := DSeg63 s) (E := ESeg63_1 s) (Gf := (fun _ : Unit => T.leaf)) (f := 2000) (tb := tbSeg63_c3) rfl rfl rfl rfl rfl rfl hl hq hs rfl hth0 h0 hthx hx (AllOk.lp1 (AllOk.lp1 ((tabkOk _ _).hyps ho) (by omega) fi7_at fi7_body (lfCons (.inr ⟨rfl, mkA7, mkB7, _, Tryd.func7, mkC7⟩) lfNil)) (by omega) (get_lps2 (by omega) (by omega) fi29_at) fi29_body (lfCons (lpKnown rfl ⟨1, keySg63, lfOkSg63_1 (l := lf42) (h := lh42) (sgL (sp47 [] s)) (lsP (sp47 [] s)) (by assumption) (0, s, ([] : List LB)) (mkISg63 (sgL (sp47 [] s)) (lsP (sp47 [] s)) 0 s ([] : List LB) ⟨by simp, rfl, by omega, by simp only [List.length_nil]; omega, fun _ => rfl, fun h => by omega, by omega⟩) rfl (by kernel_rfl) (th0 := [(0, .x 0)]) (sg0 := []) (fun X => thXv (v := St' s) rfl rfl (thNil)) (by kernel_rfl) (thx := [(4, .x 0), (2000006, .x 2000000)]) (thXv (v := St' (lsP (sp47 [] s))) rfl rfl (thXv (v := rwS (sgL (sp47 [] s))) rfl rfl (thNil))) (by kernel_rfl)⟩) lfNil)) rfl (get_lps2 (by omega) (by omega) (get_lps (by omega))) fiB7 (.inl ⟨fun _ => rfl, ⟨()⟩⟩) (thXe (v := rwS ((sgL (sp47 [] s)) ++ [(lsP (sp47 [] s))])) (u := rwS (segS s)) rfl rfl (congrArg rwS (by first | exact sg_a (by omega) | exact sg_b (by omega) | exact sg_c (by omega) (by omega))) (thNil)) runSeg63_c3
end Go.Proofs.YtipdlfkjablekaaDoor.pathBack
