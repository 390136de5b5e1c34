/- A part of the proof: an interpreter of the model's own code on partly known states, and that what it answers is what the program answers. No condition of its own. -/
import Derived.Test.YtbipkiiaajklhaaDoorS1PathTellsO5
set_option maxRecDepth 100000
set_option linter.unusedVariables false
set_option linter.unusedSimpArgs false
set_option maxHeartbeats 4000000
namespace Go.Proofs.YtbipkiiaajklhaaDoor.pathTells
open Go Go.AX Go.Proofs Go.Proofs.YtbipkiiaajklhaaDoor
variable {nu : Nat → Value} {one : ∀ i, i < 1000000 → (nu i).oneCell' = true} {E' : Cx} {x' : Ex} {e' : LA} {h' : LE}
section
variable {s : LB}
theorem sg_a (h : ((lsP (sp47 [] s)).length : Int) = 0) : sgL (sp47 [] s) = segS s := by
  rw [dX8, kp0, if_pos (List.eq_nil_of_length_eq_zero (by omega)), List.append_nil]
theorem sg_b (h : ¬ ((lsP (sp47 [] s)).length : Int) = 0) : sgL (sp47 [] s) ++ [lsP (sp47 [] s)] = segS s := by
  rw [dX8, kp0, if_neg (fun e => h (by rw [e]; rfl))]
theorem sg_c (h0 : (sgL (sp47 [] s)).length = 0) (h : ¬ ((lsP (sp47 [] s)).length : Int) = 0) : ([] : LL) ++ [lsP (sp47 [] s)] = segS s := by
  rw [← sg_b h, List.eq_nil_of_length_eq_zero h0]
theorem aJ3 (s : LB) : ((lsP (sp47 [] s)).length = 0 ∧ (segS s).length = (sgL (sp47 [] s)).length) ∨ (¬ (lsP (sp47 [] s)).length = 0 ∧ (segS s).length = (sgL (sp47 [] s)).length + 1) := by
  by_cases h : (lsP (sp47 [] s)).length = 0
  · left; exact ⟨h, by rw [← sg_a (by omega)]⟩
  · right; exact ⟨h, by rw [← sg_b (by omega)]; simp⟩
theorem aD5 (s : LB) : (segS s).length ≤ s.length := by
  have := bO0 s; have := aJ3 s; omega
end
section
open Go.Shelf
def sh_sE_ren : Go.Shelf.Ren := ⟨fun | 193 => 23 | n => n, fun | 31 => 31 | 9 => 9 | 4 => 4 | 3 => 3 | 0 => 0 | n => n, fun | n => n⟩
theorem sh_sE : Go.Proofs.Lays.n193 Tryd.prog sh_sE_ren := {
  mixed := by kernel_rfl
  f193 := Tryd.func23.trans (congrArg some (by kernel_rfl))
  t0 := Tryd.underlying0
  a0 := Tryd.isAgg0
  z0 := Tryd.sizeOf0
  v0 := Tryd.zeroValue0
  t3 := Tryd.underlying3
  a3 := Tryd.isAgg3
  z3 := Tryd.sizeOf3
  v3 := Tryd.zeroValue3
  t4 := Tryd.underlying4
  a4 := Tryd.isAgg4
  z4 := Tryd.sizeOf4
  v4 := Tryd.zeroValue4
  t9 := Tryd.underlying9
  a9 := Tryd.isAgg9
  z9 := Tryd.sizeOf9
  v9 := Tryd.zeroValue9
  t31 := Tryd.underlying31
  a31 := Tryd.isAgg31
  z31 := Tryd.sizeOf31
  v31 := Tryd.zeroValue31 }
open Go.RowKit Go.Lib in
theorem sE (b1 o1 n c b2 o2 m d : Nat) (xs ys : List ByteArray) (w : World) (hx : n ≤ xs.length) (hy : m ≤ ys.length) (hbig : n ≤ 9223372036854775807) (hbig2 : m ≤ 9223372036854775807) (hc1 : ∀ j, j < xs.length → w.cell? ⟨b1, o1 + j, none⟩ = some (.string (xs.getD j ByteArray.empty))) (hc2 : ∀ j, j < ys.length → w.cell? ⟨b2, o2 + j, none⟩ = some (.string (ys.getD j ByteArray.empty))) :
    Calls Tryd.prog 23 #[.slice (some ⟨b1, o1, none⟩) n c, .slice (some ⟨b2, o2, none⟩) m d] w fun e w' => e = .returned (.bool (decide (xs.take n = ys.take m))) ∧ ∃ q, w' = w.drewN q := Any.slices_Equal_string sh_sE b1 o1 n c b2 o2 m d xs ys w hx hy hbig hbig2 hc1 hc2
end
theorem cfE {nu : Nat → Value} {one : ∀ i, i < 1000000 → (nu i).oneCell' = true} {l : LF} {h : LH} {v id e u id' e' j : Nat} {K J : LL} (hl : l.hp = some h) (hq : l.post = [(0, .x j)]) (hp : l.pre.map (·.2) = [.sr v, .sr u]) (hpre : h.pre = [(v, .r id e 1 false), (u, .r id' e' 1 false)]) (hpost : h.post = h.pre) (hn : h.n1 = h.n0)
    (hid : nu id = rwS K) (hid' : nu id' = rwS J) (hj : nu j = .bool (decide (K = J))) (hK : K.length ≤ 1000000) (hJ : J.length ≤ 1000000) : CfOk (cx nu one 1 aA3 aA0) 23 l := by
  have hd : ∀ (K : LL) (j : Nat), j < (K.map (fun q : LB => (⟨q.toArray⟩ : ByteArray))).length → (K.map (fun q : LB => (⟨q.toArray⟩ : ByteArray)))[j]? = some ((K.map (fun q : LB => (⟨q.toArray⟩ : ByteArray))).getD j ByteArray.empty) := fun K j hj => by
    rw [List.getD_eq_getElem?_getD, List.getElem?_eq_getElem hj]; rfl
  have hinj : ∀ a b : LB, (⟨a.toArray⟩ : ByteArray) = ⟨b.toArray⟩ → a = b := fun a b e => by
    have := congrArg (fun x : ByteArray => x.data.toList) e; simpa using this
  have he : (K.map (fun q : LB => (⟨q.toArray⟩ : ByteArray)) = J.map (fun q : LB => (⟨q.toArray⟩ : ByteArray))) ↔ K = J := ⟨fun e => List.map_inj_right (fun a b => hinj a b) |>.1 e, fun e => by rw [e]⟩
  refine cfEq (xs := K.map (fun q : LB => (⟨q.toArray⟩ : ByteArray))) (ys := J.map (fun q : LB => (⟨q.toArray⟩ : ByteArray))) hl hq hp hpre hpost hn (hid.trans ?_) (hid'.trans ?_) (fun ρ => ?_) fun b1 o1 c b2 o2 d w _ h1 h2 => ?_
  · unfold rwS; rw [List.map_map]; rfl
  · unfold rwS; rw [List.map_map]; rfl
  · show Rel _ _ (.x j) _; simp only [Rel]; rw [decide_eq_decide.2 he]; exact hj.symm
  · have := sE b1 o1 _ c b2 o2 _ d (K.map (fun q : LB => (⟨q.toArray⟩ : ByteArray))) (J.map (fun q : LB => (⟨q.toArray⟩ : ByteArray))) w (Nat.le_refl _) (Nat.le_refl _) (by rw [List.length_map]; omega) (by rw [List.length_map]; omega) (fun j hj => h1 j _ (hd K j hj)) (fun j hj => h2 j _ (hd J j hj))
    rw [List.take_length, List.take_length] at this
    exact this.mono fun e w' ⟨a, q, b⟩ => ⟨a, by rw [b]; exact ⟨rfl, rfl, rfl, Nat.le_refl _, fun _ _ => rfl⟩⟩
def begS (a b : LB) : Bool := decide ((segS b).length ≤ (segS a).length) && decide ((segS a).take (segS b).length = segS b)
section
variable {a b : LB}
theorem bg_z (h : (segS b).length = 0) : begS a b = true := by
  have e : segS b = [] := List.eq_nil_of_length_eq_zero h
  unfold begS; rw [e]; simp
theorem bg_n (h : ¬ ((segS b).length : Int) ≤ ((segS a).length : Int)) : begS a b = false := by
  unfold begS; rw [decide_eq_false (by omega)]; rfl
theorem bg_y (h : ((segS b).length : Int) ≤ ((segS a).length : Int)) : begS a b = decide ((segS a).take (Int.toNat ((segS b).length : Int)) = segS b) := by
  unfold begS; rw [decide_eq_true (by omega)]; simp
end
noncomputable def bD8 : Code := aL8 (Tryd.f37.body.getD .skip) 1
theorem cG8 : aK6 (aC0 (Tryd.f37.body.getD .skip)) 5 1 0 = true := by kernel_rfl
def aK5 : List Nat := []
def cK5 : LA := [(0, .yl 68), (1, .p 66 0), (2, .p 65 0), (3, .p 67 0), (9, .s 1 47)]
def cJ9 : LE := [(64, bk 31 [.nils]), (65, bk 9 [.x 0]), (66, bk 9 [.s 1 47]), (67, bk 3 [I6 0]), (68, .k 9 [(3, .p 64 0)] 15 0 .normal)]
def aK4 (To : List LB) (Tr r : LB) (o : List LB) : List Value := [St' r, .int .i64 (idxB r 47), .int .i64 ((idxB r 47)), St' (fK r), .int .i64 ((idxB r 47) + 1), St' (List.drop (Int.toNat ((idxB r 47) + 1)) r), .int .i64 (idxB r 47), .int .i64 ((idxB r 47)), St' (fK r), .int .i64 ((idxB r 47) + 1), St' (List.drop (Int.toNat ((idxB r 47) + 1)) r), .int .i64 (idxB r 47)]
def bB5 (To : List LB) (Tr r : LB) (o : List LB) : List Value := [rwS ([] : List LB), rwS (([] : List LB) ++ [(fK r)]), rwS ([] : List LB), rwS ([] : List LB)]
def bD6 : LA := [(0, .yl 68), (1, .p 66 0), (2, .p 65 0), (3, .p 67 0), (9, .s 1 47)]
def bD0 : LE := [(64, bk 31 [.sr 69]), (65, bk 9 [.x 0]), (66, bk 9 [.s 1 47]), (67, bk 3 [I6 0]), (68, .k 9 [(3, .p 64 0)] 15 0 .normal), (69, .r 2000000 9 1 false)]
def aK3 (To : List LB) (Tr r : LB) (o : List LB) : List Value := [St' r, .int .i64 (idxB r 47), .int .i64 ((idxB r 47)), St' (fK r), .int .i64 ((idxB r 47) + 1), St' (List.drop (Int.toNat ((idxB r 47) + 1)) r), .int .i64 (idxB r 47), .int .i64 ((idxB r 47)), St' (fK r), .int .i64 ((idxB r 47) + 1), St' (List.drop (Int.toNat ((idxB r 47) + 1)) r), .int .i64 (idxB r 47)]
def bB4 (To : List LB) (Tr r : LB) (o : List LB) : List Value := [rwS o, rwS ([] : List LB), rwS (o ++ [(fK r)]), rwS ([] : List LB), rwS ([] : List LB)]
def bS7 (st : Nat × LB × List LB) : LA := if st.1 = 0 then cK5 else bD6
def cS0 (st : Nat × LB × List LB) : LE := if st.1 = 0 then cJ9 else bD0
def eE8 (To : List LB) (Tr : LB) (st : Nat × LB × List LB) : List Value := if st.1 = 0 then aK4 To Tr (st.2.1) (st.2.2) else aK3 To Tr (st.2.1) (st.2.2)
def roSg64 (To : List LB) (Tr : LB) (st : Nat × LB × List LB) : List Value := if st.1 = 0 then bB5 To Tr (st.2.1) (st.2.2) else bB4 To Tr (st.2.1) (st.2.2)
theorem onSg64 (To : List LB) (Tr : LB) (st : Nat × LB × List LB) : ∀ j, (nuL (eE8 To Tr st) j).oneCell' = true := by
  intro j
  unfold eE8
  by_cases g0 : st.1 = 0
  · rw [if_pos g0]; exact aA2 (l := aK4 To Tr (st.2.1) (st.2.2)) rfl j
  rw [if_neg g0]
  exact aA2 (l := aK3 To Tr (st.2.1) (st.2.2)) rfl j
theorem ebSg64 (st : Nat × LB × List LB) : (lfB (bS7 st) && lfC aK5) = true := by
  unfold bS7
  by_cases g0 : st.1 = 0
  · rw [if_pos g0]; rfl
  rw [if_neg g0]
  rfl
noncomputable def dJ5 (To : List LB) (Tr : LB) (st : Nat × LB × List LB) (X : Nat → Value) : Cx := cx (nuX (eE8 To Tr st) (rX (roSg64 To Tr st) X)) (aA4 (onSg64 To Tr st)) 1 aA3 aA0
def aI8 (To : List LB) (Tr : LB) (st : Nat × LB × List LB) : Prop := ((st.2.2) ++ sgL (sp47 [] (st.2.1)) = To) ∧ (lsP (sp47 [] (st.2.1)) = Tr) ∧ ((st.2.1).length ≤ 1000000) ∧ ((st.2.2).length + (st.2.1).length ≤ 1000001) ∧ ((st.1) = 0 → (st.2.2) = []) ∧ ((st.1) = 1 → 1 ≤ (st.2.2).length) ∧ ((st.1) < 2)
abbrev CjSg64 (To : List LB) (Tr : LB) (tag : Nat) (r : LB) (o : List LB) : Prop := (o ++ sgL (sp47 [] r) = To) ∧ (lsP (sp47 [] r) = Tr) ∧ (r.length ≤ 1000000) ∧ (o.length + r.length ≤ 1000001) ∧ (tag = 0 → o = []) ∧ (tag = 1 → 1 ≤ o.length) ∧ (tag < 2)
theorem aU0 {To : List LB} {Tr : LB} {tag : Nat} {r : LB} {o : List LB} (h : CjSg64 To Tr tag r o) : aI8 To Tr (tag, r, o) := h
theorem bE9 (To : List LB) (Tr : LB) (tag : Nat) (r : LB) (o : List LB) (h : aI8 To Tr (tag, r, o)) : (o ++ sgL (sp47 [] r) = To) ∧ (lsP (sp47 [] r) = Tr) ∧ (r.length ≤ 1000000) ∧ (o.length + r.length ≤ 1000001) ∧ (tag = 0 → o = []) ∧ (tag = 1 → 1 ≤ o.length) ∧ (tag < 2) := h
def bO9 (To : List LB) (Tr : LB) (st : Nat × LB × List LB) : Nat := (st.2.1).length
abbrev aZ6 (To : List LB) (Tr : LB) (E' : Cx) (ex' : Ex) (epx' : LA) (hpx' : LE) (st : Nat × LB × List LB) (X : Nat → Value) : Prop := aC3 E' bD8 aK5 52 ex' 4 69 70 81 bS7 cS0 epx' hpx' (aI8 To Tr) (bO9 To Tr) (dJ5 To Tr) st X
noncomputable abbrev bE7 (h : LK) (x : Ex) (th : LA) (sg : List (Nat × Nat)) (m : Nat) (ep : LA) (hp : LE) : Bool := aL4 (code (tbl h) 2000 [] bD8 (aH4 (aE4 cK5 aK5) 52) ⟨aD1 cJ9 .leaf, 70, 0, 0⟩) x aK5 52 81 th sg 69 m ep hp
theorem dN7 {To : List LB} {Tr r : LB} {o : List LB} {X : Nat → Value} {h : LK} (y : Nat × LB × List LB) {th : LA} {sg : List (Nat × Nat)} (ho : ∀ a' r', (a', r') ∈ h → HOk (cx (nuX (aK4 To Tr r o) (rX (bB5 To Tr r o) X)) (aA4 (aA2 (l := aK4 To Tr r o) rfl)) 1 aA3 aA0) a' r') (hy : aI8 To Tr y) (lt : bO9 To Tr y < bO9 To Tr (0, r, o)) (ht : ThOk (cx (nuX (aK4 To Tr r o) (rX (bB5 To Tr r o) X)) (aA4 (aA2 (l := aK4 To Tr r o) rfl)) 1 aA3 aA0) (dJ5 To Tr y X) th) (run : bE7 h .normal th sg 70 (bS7 y) (cS0 y) = true) : aZ6 To Tr E' x' e' h' (0, r, o) X :=
  aC3.next (tb := tbl h) (L := []) (f := 2000) y ((aB0 _ _).hyps ho) (LpOk.nil _) rfl hy lt ht run
theorem lvSg64_0 {To : List LB} {Tr r : LB} {o : List LB} {X : Nat → Value} {h : LK} {th : LA} {sg : List (Nat × Nat)} (hne : exB x' .normal = false) (ho : ∀ a' r', (a', r') ∈ h → HOk (cx (nuX (aK4 To Tr r o) (rX (bB5 To Tr r o) X)) (aA4 (aA2 (l := aK4 To Tr r o) rfl)) 1 aA3 aA0) a' r') (ht : ThOk (cx (nuX (aK4 To Tr r o) (rX (bB5 To Tr r o) X)) (aA4 (aA2 (l := aK4 To Tr r o) rfl)) 1 aA3 aA0) E' th) (run : bE7 h x' th sg 81 e' h' = true) : aZ6 To Tr E' x' e' h' (0, r, o) X :=
  aC3.leave (tb := tbl h) (L := []) (f := 2000) ((aB0 _ _).hyps ho) (LpOk.nil _) rfl hne ht run
noncomputable abbrev bE6 (h : LK) (x : Ex) (th : LA) (sg : List (Nat × Nat)) (m : Nat) (ep : LA) (hp : LE) : Bool := aL4 (code (tbl h) 2000 [] bD8 (aH4 (aE4 bD6 aK5) 52) ⟨aD1 bD0 .leaf, 70, 0, 0⟩) x aK5 52 81 th sg 69 m ep hp
theorem dN6 {To : List LB} {Tr r : LB} {o : List LB} {X : Nat → Value} {h : LK} (y : Nat × LB × List LB) {th : LA} {sg : List (Nat × Nat)} (ho : ∀ a' r', (a', r') ∈ h → HOk (cx (nuX (aK3 To Tr r o) (rX (bB4 To Tr r o) X)) (aA4 (aA2 (l := aK3 To Tr r o) rfl)) 1 aA3 aA0) a' r') (hy : aI8 To Tr y) (lt : bO9 To Tr y < bO9 To Tr (1, r, o)) (ht : ThOk (cx (nuX (aK3 To Tr r o) (rX (bB4 To Tr r o) X)) (aA4 (aA2 (l := aK3 To Tr r o) rfl)) 1 aA3 aA0) (dJ5 To Tr y X) th) (run : bE6 h .normal th sg 70 (bS7 y) (cS0 y) = true) : aZ6 To Tr E' x' e' h' (1, r, o) X :=
  aC3.next (tb := tbl h) (L := []) (f := 2000) y ((aB0 _ _).hyps ho) (LpOk.nil _) rfl hy lt ht run
theorem lvSg64_1 {To : List LB} {Tr r : LB} {o : List LB} {X : Nat → Value} {h : LK} {th : LA} {sg : List (Nat × Nat)} (hne : exB x' .normal = false) (ho : ∀ a' r', (a', r') ∈ h → HOk (cx (nuX (aK3 To Tr r o) (rX (bB4 To Tr r o) X)) (aA4 (aA2 (l := aK3 To Tr r o) rfl)) 1 aA3 aA0) a' r') (ht : ThOk (cx (nuX (aK3 To Tr r o) (rX (bB4 To Tr r o) X)) (aA4 (aA2 (l := aK3 To Tr r o) rfl)) 1 aA3 aA0) E' th) (run : bE6 h x' th sg 81 e' h' = true) : aZ6 To Tr E' x' e' h' (1, r, o) X :=
  aC3.leave (tb := tbl h) (L := []) (f := 2000) ((aB0 _ _).hyps ho) (LpOk.nil _) rfl hne ht run
def bR3 : LK := [(.rn, .x 2000000), (.call 39 [.x 0, .s 1 47], .x 1), (.bin .lss (.x 1) (I6 0), .b false), (.bin .add (.x 1) (I6 0), .x 2), (.sub (.x 0) none (some (.x 2)), .x 3), (.bin .neq (.x 3) (.s 0 0), .b true), (.ra (.x 2000000) [.x 3], .x 2000001), (.rf (.x 2000001) 1 16, .b true), (.bin .add (.x 1) (I6 1), .x 4), (.sub (.x 0) (some (.x 4)) none, .x 5)]
theorem runSg64_p0 : bE7 bR3 .normal [(0, .x 5), (2000000, .x 2000001)] [(69, 71)] 70 bD6 bD0 = true := by kernel_rfl
def bR0 : LK := [(.call 39 [.x 0, .s 1 47], .x 6), (.bin .lss (.x 6) (I6 0), .b false), (.bin .add (.x 6) (I6 0), .x 7), (.sub (.x 0) none (some (.x 7)), .x 8), (.bin .neq (.x 8) (.s 0 0), .b false), (.bin .add (.x 6) (I6 1), .x 9), (.sub (.x 0) (some (.x 9)) none, .x 10)]
theorem runSg64_p1 : bE7 bR0 .normal [(0, .x 10)] [] 70 cK5 cJ9 = true := by kernel_rfl
def bQ9 : LK := [(.call 39 [.x 0, .s 1 47], .x 11), (.bin .lss (.x 11) (I6 0), .b true)]
theorem runSg64_p2 : bE7 bQ9 (.exit 2) [(0, .x 0)] [] 81 [(0, .yl 68), (2, .p 65 0)] [(64, bk 31 [.nils]), (65, bk 9 [.x 0]), (66, bk 9 [.s 1 47]), (67, bk 3 [I6 0]), (68, .k 9 [(3, .p 64 0)] 15 0 .normal)] = true := by kernel_rfl
def bQ8 : LK := [(.call 39 [.x 0, .s 1 47], .x 1), (.bin .lss (.x 1) (I6 0), .b false), (.bin .add (.x 1) (I6 0), .x 2), (.sub (.x 0) none (some (.x 2)), .x 3), (.bin .neq (.x 3) (.s 0 0), .b true), (.ra (.x 2000000) [.x 3], .x 2000002), (.rf (.x 2000002) 1 16, .b true), (.bin .add (.x 1) (I6 1), .x 4), (.sub (.x 0) (some (.x 4)) none, .x 5)]
theorem runSg64_p3 : bE6 bQ8 .normal [(0, .x 5), (2000000, .x 2000002)] [(69, 71)] 70 bD6 bD0 = true := by kernel_rfl
def bQ7 : LK := [(.call 39 [.x 0, .s 1 47], .x 6), (.bin .lss (.x 6) (I6 0), .b false), (.bin .add (.x 6) (I6 0), .x 7), (.sub (.x 0) none (some (.x 7)), .x 8), (.bin .neq (.x 8) (.s 0 0), .b false), (.bin .add (.x 6) (I6 1), .x 9), (.sub (.x 0) (some (.x 9)) none, .x 10)]
theorem runSg64_p4 : bE6 bQ7 .normal [(0, .x 10), (2000000, .x 2000000)] [(69, 69)] 70 bD6 bD0 = true := by kernel_rfl
def bQ6 : LK := [(.call 39 [.x 0, .s 1 47], .x 11), (.bin .lss (.x 11) (I6 0), .b true)]
theorem runSg64_p5 : bE6 bQ6 (.exit 2) [(0, .x 0), (2000000, .x 2000000)] [(69, 69)] 81 [(0, .yl 68), (2, .p 65 0)] [(64, bk 31 [.sr 69]), (65, bk 9 [.x 0]), (66, bk 9 [.s 1 47]), (67, bk 3 [I6 0]), (68, .k 9 [(3, .p 64 0)] 15 0 .normal), (69, .r 2000000 9 1 false)] = true := by kernel_rfl
section
variable {To : List LB} {Tr : LB} {r : LB} {o : List LB} {X : Nat → Value}
theorem cP5 (hI : aI8 To Tr (0, r, o)) (h0 : ¬ (idxB r 47 < 0)) (h1 : ¬ ((idxB r 47) = 0)) : aZ6 To Tr E' x' e' h' (0, r, o) X := by
  obtain ⟨i0, i1, i2, i3, i4, i5, it⟩ := bE9 To Tr 0 r o hI
  have := aP7 r 47
  have := aP9 r (by omega)
  have := aH0 (l := r) (P := (idxB r 47) + 1) (by omega) (by omega)
  refine dN7 (h := bR3) (1, (List.drop (Int.toNat ((idxB r 47) + 1)) r), (([] : List LB) ++ [(fK r)])) ?_ (aU0 ⟨sg_1 (o := []) (by omega) (tkn (by omega) (by omega)) (show [] ++ sgL (sp47 [] r) = To from by have e := i0; rw [i4 rfl] at e; exact e), sg_l (by omega) i1, by rw [List.length_drop]; omega, by first | omega | (simp only [List.length_append, List.length_cons, List.length_nil, List.length_drop]; omega), fun h => by omega, fun _ => by simp, by omega⟩) (by show (List.drop _ r).length < r.length; rw [List.length_drop]; omega) (thXv (v := St' (List.drop (Int.toNat ((idxB r 47) + 1)) r)) rfl rfl (thXv (v := rwS (([] : List LB) ++ [(fK r)])) rfl rfl (aA6))) runSg64_p0
  unfold bR3
  exact hc (kRn (denX rfl)) <|hc (aK8 (s := r) (isX rfl) (isSx (l := [u8 47]) 1 47 rfl) (denX rfl) (by omega)) <|hc (ltcF rfl (by omega)) <|hc (adC rfl rfl (by omega)) <|hc (tkV rfl rfl rfl (by omega)) <|hc (kNeS (isX rfl) (isSx (l := ([] : LB)) 0 0 rfl) (bnT (nilF (by omega)))) <|hc (kRa (isX rfl) (isX rfl) (denX rfl)) <|hc (kRf (isX rfl) (by first | omega | (simp <;> omega)) (by first | omega | (simp <;> omega))) <|hc (adC rfl rfl (by omega)) <|hc (drV rfl rfl rfl (by omega)) <|hnil
theorem cP4 (hI : aI8 To Tr (0, r, o)) (h0 : ¬ (idxB r 47 < 0)) (h1 : (idxB r 47) = 0) : aZ6 To Tr E' x' e' h' (0, r, o) X := by
  obtain ⟨i0, i1, i2, i3, i4, i5, it⟩ := bE9 To Tr 0 r o hI
  have := aP7 r 47
  have := aP9 r (by omega)
  have := aH0 (l := r) (P := (idxB r 47) + 1) (by omega) (by omega)
  refine dN7 (h := bR0) (0, (List.drop (Int.toNat ((idxB r 47) + 1)) r), ([] : List LB)) ?_ (aU0 ⟨sg_0 (o := []) (by omega) (tk0 (by omega)) (show [] ++ sgL (sp47 [] r) = To from by have e := i0; rw [i4 rfl] at e; exact e), sg_l (by omega) i1, by rw [List.length_drop]; omega, by first | omega | (simp only [List.length_append, List.length_cons, List.length_nil, List.length_drop]; omega), fun _ => rfl, fun h => by omega, by omega⟩) (by show (List.drop _ r).length < r.length; rw [List.length_drop]; omega) (thXv (v := St' (List.drop (Int.toNat ((idxB r 47) + 1)) r)) rfl rfl (aA6)) runSg64_p1
  unfold bR0
  exact hc (aK8 (s := r) (isX rfl) (isSx (l := [u8 47]) 1 47 rfl) (denX rfl) (by omega)) <|hc (ltcF rfl (by omega)) <|hc (adC rfl rfl (by omega)) <|hc (tkV rfl rfl rfl (by omega)) <|hc (kNeS (isX rfl) (isSx (l := ([] : LB)) 0 0 rfl) (bnF (nilT (by omega)))) <|hc (adC rfl rfl (by omega)) <|hc (drV rfl rfl rfl (by omega)) <|hnil
theorem cP3 (hI : aI8 To Tr (1, r, o)) (h0 : ¬ (idxB r 47 < 0)) (h1 : ¬ ((idxB r 47) = 0)) : aZ6 To Tr E' x' e' h' (1, r, o) X := by
  obtain ⟨i0, i1, i2, i3, i4, i5, it⟩ := bE9 To Tr 1 r o hI
  have := aP7 r 47
  have := aP9 r (by omega)
  have := aH0 (l := r) (P := (idxB r 47) + 1) (by omega) (by omega)
  refine dN6 (h := bQ8) (1, (List.drop (Int.toNat ((idxB r 47) + 1)) r), (o ++ [(fK r)])) ?_ (aU0 ⟨sg_1 (by omega) (tkn (by omega) (by omega)) i0, sg_l (by omega) i1, by rw [List.length_drop]; omega, by first | omega | (simp only [List.length_append, List.length_cons, List.length_nil, List.length_drop]; omega), fun h => by omega, fun _ => by simp, by omega⟩) (by show (List.drop _ r).length < r.length; rw [List.length_drop]; omega) (thXv (v := St' (List.drop (Int.toNat ((idxB r 47) + 1)) r)) rfl rfl (thXv (v := rwS (o ++ [(fK r)])) rfl rfl (aA6))) runSg64_p3
  unfold bQ8
  exact hc (aK8 (s := r) (isX rfl) (isSx (l := [u8 47]) 1 47 rfl) (denX rfl) (by omega)) <|hc (ltcF rfl (by omega)) <|hc (adC rfl rfl (by omega)) <|hc (tkV rfl rfl rfl (by omega)) <|hc (kNeS (isX rfl) (isSx (l := ([] : LB)) 0 0 rfl) (bnT (nilF (by omega)))) <|hc (kRa (isX rfl) (isX rfl) (denX rfl)) <|hc (kRf (isX rfl) (by first | omega | (simp <;> omega)) (by first | omega | (simp <;> omega))) <|hc (adC rfl rfl (by omega)) <|hc (drV rfl rfl rfl (by omega)) <|hnil
theorem cP2 (hI : aI8 To Tr (1, r, o)) (h0 : ¬ (idxB r 47 < 0)) (h1 : (idxB r 47) = 0) : aZ6 To Tr E' x' e' h' (1, r, o) X := by
  obtain ⟨i0, i1, i2, i3, i4, i5, it⟩ := bE9 To Tr 1 r o hI
  have := aP7 r 47
  have := aP9 r (by omega)
  have := aH0 (l := r) (P := (idxB r 47) + 1) (by omega) (by omega)
  refine dN6 (h := bQ7) (1, (List.drop (Int.toNat ((idxB r 47) + 1)) r), o) ?_ (aU0 ⟨sg_0 (by omega) (tk0 (by omega)) i0, sg_l (by omega) i1, by rw [List.length_drop]; omega, by first | omega | (simp only [List.length_append, List.length_cons, List.length_nil, List.length_drop]; omega), fun h => by omega, fun _ => i5 rfl, by omega⟩) (by show (List.drop _ r).length < r.length; rw [List.length_drop]; omega) (thXv (v := St' (List.drop (Int.toNat ((idxB r 47) + 1)) r)) rfl rfl (thXv (v := rwS o) rfl rfl (aA6))) runSg64_p4
  unfold bQ7
  exact hc (aK8 (s := r) (isX rfl) (isSx (l := [u8 47]) 1 47 rfl) (denX rfl) (by omega)) <|hc (ltcF rfl (by omega)) <|hc (adC rfl rfl (by omega)) <|hc (tkV rfl rfl rfl (by omega)) <|hc (kNeS (isX rfl) (isSx (l := ([] : LB)) 0 0 rfl) (bnF (nilT (by omega)))) <|hc (adC rfl rfl (by omega)) <|hc (drV rfl rfl rfl (by omega)) <|hnil
end
def cP7 (To : List LB) (Tr : LB) : List Value := [St' Tr]
def roESg64_0 (To : List LB) (Tr : LB) : List Value := []
noncomputable def dJ4 (To : List LB) (Tr : LB) : Cx := cx (nuX (cP7 To Tr) (rX (roESg64_0 To Tr) (fun _ => .bool true))) (aA4 (aA2 (l := cP7 To Tr) rfl)) 1 aA3 aA0
theorem roundsSg64_0 (To : List LB) (Tr : LB) (x0 : To.length = 0) (st : Nat × LB × List LB) (X : Nat → Value) (hI : aI8 To Tr st) : aZ6 To Tr (dJ4 To Tr) (.exit 2) [(0, .yl 68), (2, .p 65 0)] [(64, bk 31 [.nils]), (65, bk 9 [.x 0]), (66, bk 9 [.s 1 47]), (67, bk 3 [I6 0]), (68, .k 9 [(3, .p 64 0)] 15 0 .normal)] st X := by
  obtain ⟨tag, r, o⟩ := st
  have hI0 := hI
  obtain ⟨i0, i1, i2, i3, i4, i5, it⟩ := bE9 To Tr tag r o hI
  rcases (show tag = 0 ∨ tag = 1 from by omega) with rfl | rfl
  · skip
    by_cases h0 : idxB r 47 < 0
    · skip
      have := aP7 r 47
      refine lvSg64_0 (h := bQ9) rfl ?_ (thXe (v := St' r) (u := St' Tr) rfl rfl (congrArg (fun l => St' l) (sg_r (by omega) i1)) (aA6)) runSg64_p2
      unfold bQ9
      exact hc (aK8 (s := r) (isX rfl) (isSx (l := [u8 47]) 1 47 rfl) (denX rfl) (by omega)) <|hc (ltcT rfl (by omega)) <|hnil
    · by_cases h1 : (idxB r 47) = 0
      · exact cP4 hI0 h0 h1
      · exact cP5 hI0 h0 h1
  · skip
    by_cases h0 : idxB r 47 < 0
    · exfalso; have e := congrArg List.length (sg_o (by omega) i0); have := i5 rfl; omega
    · by_cases h1 : (idxB r 47) = 0
      · exact cP2 hI0 h0 h1
      · exact cP3 hI0 h0 h1
theorem bY2 {l : LF} {h : LH} (To : List LB) (Tr : LB) (x0 : To.length = 0) (st : Nat × LB × List LB) (hI : aI8 To Tr st) (hl : l.hp = some h) (hs : aF3 l h 52 aK5 (.exit 2) 4 69 81 = true) {th0 : LA} {sg0 : List (Nat × Nat)} (hth0 : ∀ X, ThOk (cx nu one 1 aA3 aA0) (dJ5 To Tr st X) th0) (h0 : aD9 l h 52 69 70 th0 sg0 (bS7 st) (cS0 st) = true) {thx : LA} (hthx : ThOk (dJ4 To Tr) (cx nu one 1 aA3 aA0) thx) (hx : aF5 l h 52 69 81 thx [(0, .yl 68), (2, .p 65 0)] [(64, bk 31 [.nils]), (65, bk 9 [.x 0]), (66, bk 9 [.s 1 47]), (67, bk 3 [I6 0]), (68, .k 9 [(3, .p 64 0)] 15 0 .normal)] = true) : LfOk (cx nu one 1 aA3 aA0) bD8 l :=
  aL5 (E := dJ4 To Tr) (aI8 To Tr) (bO9 To Tr) (dJ5 To Tr) (fun _ _ => rfl) (fun _ _ => rfl) (fun _ _ => rfl) (fun st X t ht => aD3.trans (aE2 ((by decide : ∀ t, t ∈ aK5 → t < 1000000) t ht))) rfl rfl rfl hl hs ebSg64 rfl rfl st hI hth0 h0 hthx hx (roundsSg64_0 To Tr x0)
def cP6 (To : List LB) (Tr : LB) : List Value := [St' Tr]
def roESg64_1 (To : List LB) (Tr : LB) : List Value := [rwS To]
noncomputable def dJ3 (To : List LB) (Tr : LB) : Cx := cx (nuX (cP6 To Tr) (rX (roESg64_1 To Tr) (fun _ => .bool true))) (aA4 (aA2 (l := cP6 To Tr) rfl)) 1 aA3 aA0
theorem roundsSg64_1 (To : List LB) (Tr : LB) (x0 : ¬ To.length = 0) (st : Nat × LB × List LB) (X : Nat → Value) (hI : aI8 To Tr st) : aZ6 To Tr (dJ3 To Tr) (.exit 2) [(0, .yl 68), (2, .p 65 0)] [(64, bk 31 [.sr 69]), (65, bk 9 [.x 0]), (66, bk 9 [.s 1 47]), (67, bk 3 [I6 0]), (68, .k 9 [(3, .p 64 0)] 15 0 .normal), (69, .r 2000000 9 1 false)] st X := by
  obtain ⟨tag, r, o⟩ := st
  have hI0 := hI
  obtain ⟨i0, i1, i2, i3, i4, i5, it⟩ := bE9 To Tr tag r o hI
  rcases (show tag = 0 ∨ tag = 1 from by omega) with rfl | rfl
  · skip
    by_cases h0 : idxB r 47 < 0
    · exfalso; have e := congrArg List.length (sg_o (by omega) i0); rw [i4 rfl] at e; exact x0 e.symm
    · by_cases h1 : (idxB r 47) = 0
      · exact cP4 hI0 h0 h1
      · exact cP5 hI0 h0 h1
  · skip
    by_cases h0 : idxB r 47 < 0
    · skip
      have := aP7 r 47
      refine lvSg64_1 (h := bQ6) rfl ?_ (thXe (v := St' r) (u := St' Tr) rfl rfl (congrArg (fun l => St' l) (sg_r (by omega) i1)) (thXe (v := rwS o) (u := rwS To) rfl rfl (congrArg rwS (sg_o (by omega) i0)) (aA6))) runSg64_p5
      unfold bQ6
      exact hc (aK8 (s := r) (isX rfl) (isSx (l := [u8 47]) 1 47 rfl) (denX rfl) (by omega)) <|hc (ltcT rfl (by omega)) <|hnil
    · by_cases h1 : (idxB r 47) = 0
      · exact cP2 hI0 h0 h1
      · exact cP3 hI0 h0 h1
theorem bY1 {l : LF} {h : LH} (To : List LB) (Tr : LB) (x0 : ¬ To.length = 0) (st : Nat × LB × List LB) (hI : aI8 To Tr st) (hl : l.hp = some h) (hs : aF3 l h 52 aK5 (.exit 2) 4 69 81 = true) {th0 : LA} {sg0 : List (Nat × Nat)} (hth0 : ∀ X, ThOk (cx nu one 1 aA3 aA0) (dJ5 To Tr st X) th0) (h0 : aD9 l h 52 69 70 th0 sg0 (bS7 st) (cS0 st) = true) {thx : LA} (hthx : ThOk (dJ3 To Tr) (cx nu one 1 aA3 aA0) thx) (hx : aF5 l h 52 69 81 thx [(0, .yl 68), (2, .p 65 0)] [(64, bk 31 [.sr 69]), (65, bk 9 [.x 0]), (66, bk 9 [.s 1 47]), (67, bk 3 [I6 0]), (68, .k 9 [(3, .p 64 0)] 15 0 .normal), (69, .r 2000000 9 1 false)] = true) : LfOk (cx nu one 1 aA3 aA0) bD8 l :=
  aL5 (E := dJ3 To Tr) (aI8 To Tr) (bO9 To Tr) (dJ5 To Tr) (fun _ _ => rfl) (fun _ _ => rfl) (fun _ _ => rfl) (fun st X t ht => aD3.trans (aE2 ((by decide : ∀ t, t ∈ aK5 → t < 1000000) t ht))) rfl rfl rfl hl hs ebSg64 rfl rfl st hI hth0 h0 hthx hx (roundsSg64_1 To Tr x0)
theorem mkA9 : (aC0 (Tryd.f9.body.getD .skip)).all (fun b => !(aM1 (Go.AX.keyOf b) 7777777)) = true := by kernel_rfl
theorem mkB9 : Nat.beq (aT9 (Tryd.f9.body.getD .skip)).length 1 = true := by kernel_rfl
theorem mkC9 : Tryd.f9.body = some (Tryd.f9.body.getD .skip) := by kernel_rfl
noncomputable def fi9 : FI := (tabk.fn.get 9).getD default
theorem aP8 : tabk.fn.get 9 = some fi9 := by kernel_rfl
theorem aG6 : fi9.body = some (Tryd.f9.body.getD .skip) := by kernel_rfl
theorem fiB9 : fi9.body.isSome = true := by rw [aG6]; rfl
theorem cfA9 : (aC0 (Tryd.f9.body.getD .skip)).all (fun b => !(aM1 (Go.AX.keyOf b) 8888888)) = true := by kernel_rfl
def bI7 : List AV := [.x 0]
def aU8 : LE := []
def eE9 (s : LB) : List Value := [St' s, St' (lsP (sp47 [] s)), St' (lsP (sp47 [] s)), St' (lsP (sp47 [] s)), St' (lsP (sp47 [] s))]
def roSeg64 (s : LB) : List Value := [rwS ([] : List LB), rwS ([] : List LB), rwS (([] : List LB) ++ [(lsP (sp47 [] s))]), rwS ([] : List LB), rwS (sgL (sp47 [] s)), rwS ([] : List LB), rwS (sgL (sp47 [] s)), rwS ((sgL (sp47 [] s)) ++ [(lsP (sp47 [] s))])]
noncomputable def aZ7 (s : LB) : Cx := cx (nuX (eE9 s) (rX (roSeg64 s) (fun _ => .bool true))) (aA4 (aA2 (l := eE9 s) rfl)) 1 aA3 aA0
def bG4 : LK := [(.bin .neq (.x 1) (.s 0 0), .b false)]
def lh39 : LH := ⟨4, 69, 81, [(64, bk 31 [.nils]), (65, bk 9 [.x 0]), (66, bk 9 [.s 1 47]), (67, bk 3 [I6 0]), (68, .k 9 [(3, .p 64 0)] 15 0 .normal)], [(64, bk 31 [.nils]), (65, bk 9 [.x 1]), (66, bk 9 [.s 1 47]), (67, bk 3 [I6 0]), (68, .k 9 [(3, .p 64 0)] 15 0 .normal)]⟩
def lf39 : LF := ⟨5, 52, [(0, .yl 68), (1, .p 66 0), (2, .p 65 0), (3, .p 67 0), (9, .s 1 47)], [], (.exit 2), [(0, .yl 68), (2, .p 65 0)], some lh39⟩
noncomputable def bV2 : Tab := aB2 (aB2 ((tbl bG4)) 9 fi9 [⟨7777777, 9, [], [3], .goto 7777777, [], none⟩]) 37 fi37 [lf39]
theorem runSeg64_c0 (e : Unit) : okCf (call bV2 2000 9 bI7 ⟨aD1 aU8 ((fun _ : Unit => T.leaf) e), 64, 0, 0⟩) (.nils) [] [] 64 94 [] = true := by kernel_rfl
def bG3 : LK := [(.rn, .x 2000001), (.bin .neq (.x 2) (.s 0 0), .b true), (.ra (.x 2000001) [.x 2], .x 2000002), (.rf (.x 2000002) 1 16, .b true)]
def lh40 : LH := ⟨4, 69, 81, [(64, bk 31 [.nils]), (65, bk 9 [.x 0]), (66, bk 9 [.s 1 47]), (67, bk 3 [I6 0]), (68, .k 9 [(3, .p 64 0)] 15 0 .normal)], [(64, bk 31 [.nils]), (65, bk 9 [.x 2]), (66, bk 9 [.s 1 47]), (67, bk 3 [I6 0]), (68, .k 9 [(3, .p 64 0)] 15 0 .normal)]⟩
def lf40 : LF := ⟨5, 52, [(0, .yl 68), (1, .p 66 0), (2, .p 65 0), (3, .p 67 0), (9, .s 1 47)], [], (.exit 2), [(0, .yl 68), (2, .p 65 0)], some lh40⟩
noncomputable def bV1 : Tab := aB2 (aB2 ((tbl bG3)) 9 fi9 [⟨7777777, 9, [], [3], .goto 7777777, [], none⟩]) 37 fi37 [lf40]
theorem runSeg64_c1 (e : Unit) : okCf (call bV1 2000 9 bI7 ⟨aD1 aU8 ((fun _ : Unit => T.leaf) e), 64, 0, 0⟩) (.sr 64) [(2000000, .x 2000002)] [(64, 82)] 64 94 [(64, .r 2000000 9 1 false)] = true := by kernel_rfl
def bG2 : LK := [(.bin .neq (.x 3) (.s 0 0), .b false)]
def lh41 : LH := ⟨4, 69, 81, [(64, bk 31 [.nils]), (65, bk 9 [.x 0]), (66, bk 9 [.s 1 47]), (67, bk 3 [I6 0]), (68, .k 9 [(3, .p 64 0)] 15 0 .normal)], [(64, bk 31 [.sr 69]), (65, bk 9 [.x 3]), (66, bk 9 [.s 1 47]), (67, bk 3 [I6 0]), (68, .k 9 [(3, .p 64 0)] 15 0 .normal), (69, .r 2000004 9 1 false)]⟩
def lf41 : LF := ⟨5, 52, [(0, .yl 68), (1, .p 66 0), (2, .p 65 0), (3, .p 67 0), (9, .s 1 47)], [], (.exit 2), [(0, .yl 68), (2, .p 65 0)], some lh41⟩
noncomputable def bV0 : Tab := aB2 (aB2 ((tbl bG2)) 9 fi9 [⟨7777777, 9, [], [3], .goto 7777777, [], none⟩]) 37 fi37 [lf41]
theorem runSeg64_c2 (e : Unit) : okCf (call bV0 2000 9 bI7 ⟨aD1 aU8 ((fun _ : Unit => T.leaf) e), 64, 0, 0⟩) (.sr 64) [(2000000, .x 2000004)] [(64, 69)] 64 94 [(64, .r 2000000 9 1 false)] = true := by kernel_rfl
def bG1 : LK := [(.bin .neq (.x 4) (.s 0 0), .b true), (.ra (.x 2000006) [.x 4], .x 2000007), (.rf (.x 2000007) 1 16, .b true)]
def lh42 : LH := ⟨4, 69, 81, [(64, bk 31 [.nils]), (65, bk 9 [.x 0]), (66, bk 9 [.s 1 47]), (67, bk 3 [I6 0]), (68, .k 9 [(3, .p 64 0)] 15 0 .normal)], [(64, bk 31 [.sr 69]), (65, bk 9 [.x 4]), (66, bk 9 [.s 1 47]), (67, bk 3 [I6 0]), (68, .k 9 [(3, .p 64 0)] 15 0 .normal), (69, .r 2000006 9 1 false)]⟩
def lf42 : LF := ⟨5, 52, [(0, .yl 68), (1, .p 66 0), (2, .p 65 0), (3, .p 67 0), (9, .s 1 47)], [], (.exit 2), [(0, .yl 68), (2, .p 65 0)], some lh42⟩
noncomputable def bU9 : Tab := aB2 (aB2 ((tbl bG1)) 9 fi9 [⟨7777777, 9, [], [3], .goto 7777777, [], none⟩]) 37 fi37 [lf42]
theorem runSeg64_c3 (e : Unit) : okCf (call bU9 2000 9 bI7 ⟨aD1 aU8 ((fun _ : Unit => T.leaf) e), 64, 0, 0⟩) (.sr 64) [(2000000, .x 2000007)] [(64, 82)] 64 94 [(64, .r 2000000 9 1 false)] = true := by kernel_rfl
def bX1 (s : LB) : List Value := []
def roESeg64_0 (s : LB) : List Value := []
noncomputable def dV4 (s : LB) : Cx := cx (nuX (bX1 s) (rX (roESeg64_0 s) (fun _ => .bool true))) (aA4 (aA2 (l := bX1 s) rfl)) 1 aA3 aA0
theorem aQ1 {l : LF} {h : LH} {q : Nat × AV} (s : LB) (p0 : s.length ≤ 1000000) (x0 : (segS s).length = 0) (hl : l.hp = some h) (hq : l.post = [q]) (hs : bZ8 l h 4 64 94 = true) {th0 : LA} {sg0 : List (Nat × Nat)} (hth0 : ThOk (cx nu one 1 aA3 aA0) (aZ7 s) th0) (h0 : (inAs th0 (sgB 64 64 sg0) bI7 (l.pre.map (·.2)) && aG5 64 64 th0 sg0 (aD1 h.pre .leaf) aU8 && aG2 (numsOf 64 sg0 aU8)) = true) {thx : LA} (hthx : ThOk (dV4 s) (cx nu one 1 aA3 aA0) thx) (hx : (inA thx (sgB 64 94 []) 8 q.2 (.nils) && aG5 64 94 thx [] (aD1 [] .leaf) h.post && aG2 (numsOf 64 [] h.post)) = true) : CfOk (cx nu one 1 aA3 aA0) 9 l := by
  have hgl := bO0 s
  have hgc := aJ3 s
  by_cases d0 : (sgL (sp47 [] s)).length = 0
  · by_cases d1 : ((lsP (sp47 [] s)).length : Int) = 0
    · skip
      have hgl := bO0 s
      have hgc := aJ3 s
      have ho : ∀ a' r', (a', r') ∈ bG4 → HOk (aZ7 s) a' r' := by
        unfold bG4
        exact hc (kNeS (isX rfl) (isSx (l := ([] : LB)) 0 0 rfl) (bnF (nilT (by omega)))) <|hnil
      exact dW1 (D := aZ7 s) (E := dV4 s) (Gf := (fun _ : Unit => T.leaf)) (f := 2000) (tb := bV2) rfl rfl rfl rfl rfl rfl hl hq hs rfl hth0 h0 hthx hx (aB3.lp1 (aB3.lp1 ((aB0 _ _).hyps ho) (by omega) aP8 aG6 (aB1 (.inr ⟨rfl, mkA9, mkB9, _, Tryd.func9, mkC9⟩) aC1)) (by omega) (aA8 (by omega) (by omega) aH3) aE0 (aB1 (aB9 rfl ⟨1, cG8, bY2 (l := lf39) (h := lh39) (sgL (sp47 [] s)) (lsP (sp47 [] s)) (by assumption) (0, s, ([] : List LB)) (aU0 ⟨by simp, rfl, by omega, by simp only [List.length_nil]; omega, fun _ => rfl, fun h => by omega, by omega⟩) rfl (by kernel_rfl) (th0 := [(0, .x 0)]) (sg0 := []) (fun X => thXv (v := St' s) rfl rfl (aA6)) (by kernel_rfl) (thx := [(1, .x 0)]) (thXv (v := St' (lsP (sp47 [] s))) rfl rfl (aA6)) (by kernel_rfl)⟩) aC1)) rfl (aA8 (by omega) (by omega) (aC7 (by omega))) fiB9 (.inl ⟨fun _ => rfl, ⟨()⟩⟩) (aA6) runSeg64_c0
    · exfalso; have := aJ3 s; omega
  · by_cases d1 : ((lsP (sp47 [] s)).length : Int) = 0
    · exfalso; have := aJ3 s; omega
    · exfalso; have := aJ3 s; omega
def bX0 (s : LB) : List Value := []
def roESeg64_1 (s : LB) : List Value := [rwS (segS s)]
noncomputable def bN4 (s : LB) : Cx := cx (nuX (bX0 s) (rX (roESeg64_1 s) (fun _ => .bool true))) (aA4 (aA2 (l := bX0 s) rfl)) 1 aA3 aA0
theorem aK9 {l : LF} {h : LH} {q : Nat × AV} (s : LB) (p0 : s.length ≤ 1000000) (x0 : ¬ (segS s).length = 0) (hl : l.hp = some h) (hq : l.post = [q]) (hs : bZ8 l h 4 64 94 = true) {th0 : LA} {sg0 : List (Nat × Nat)} (hth0 : ThOk (cx nu one 1 aA3 aA0) (aZ7 s) th0) (h0 : (inAs th0 (sgB 64 64 sg0) bI7 (l.pre.map (·.2)) && aG5 64 64 th0 sg0 (aD1 h.pre .leaf) aU8 && aG2 (numsOf 64 sg0 aU8)) = true) {thx : LA} (hthx : ThOk (bN4 s) (cx nu one 1 aA3 aA0) thx) (hx : (inA thx (sgB 64 94 []) 8 q.2 (.sr 64) && aG5 64 94 thx [] (aD1 [(64, .r 2000000 9 1 false)] .leaf) h.post && aG2 (numsOf 64 [] h.post)) = true) : CfOk (cx nu one 1 aA3 aA0) 9 l := by
  have hgl := bO0 s
  have hgc := aJ3 s
  by_cases d0 : (sgL (sp47 [] s)).length = 0
  · by_cases d1 : ((lsP (sp47 [] s)).length : Int) = 0
    · exfalso; have := aJ3 s; omega
    · skip
      have hgl := bO0 s
      have hgc := aJ3 s
      have ho : ∀ a' r', (a', r') ∈ bG3 → HOk (aZ7 s) a' r' := by
        unfold bG3
        exact hc (kRn (denX rfl)) <|hc (kNeS (isX rfl) (isSx (l := ([] : LB)) 0 0 rfl) (bnT (nilF (by omega)))) <|hc (kRa (isX rfl) (isX rfl) (denX rfl)) <|hc (kRf (isX rfl) (by first | omega | (simp <;> omega)) (by first | omega | (simp <;> omega))) <|hnil
      exact dW1 (D := aZ7 s) (E := bN4 s) (Gf := (fun _ : Unit => T.leaf)) (f := 2000) (tb := bV1) rfl rfl rfl rfl rfl rfl hl hq hs rfl hth0 h0 hthx hx (aB3.lp1 (aB3.lp1 ((aB0 _ _).hyps ho) (by omega) aP8 aG6 (aB1 (.inr ⟨rfl, mkA9, mkB9, _, Tryd.func9, mkC9⟩) aC1)) (by omega) (aA8 (by omega) (by omega) aH3) aE0 (aB1 (aB9 rfl ⟨1, cG8, bY2 (l := lf40) (h := lh40) (sgL (sp47 [] s)) (lsP (sp47 [] s)) (by assumption) (0, s, ([] : List LB)) (aU0 ⟨by simp, rfl, by omega, by simp only [List.length_nil]; omega, fun _ => rfl, fun h => by omega, by omega⟩) rfl (by kernel_rfl) (th0 := [(0, .x 0)]) (sg0 := []) (fun X => thXv (v := St' s) rfl rfl (aA6)) (by kernel_rfl) (thx := [(2, .x 0)]) (thXv (v := St' (lsP (sp47 [] s))) rfl rfl (aA6)) (by kernel_rfl)⟩) aC1)) rfl (aA8 (by omega) (by omega) (aC7 (by omega))) fiB9 (.inl ⟨fun _ => rfl, ⟨()⟩⟩) (thXe (v := rwS (([] : List LB) ++ [(lsP (sp47 [] s))])) (u := rwS (segS s)) rfl rfl (congrArg rwS (by first | exact sg_a (by omega) | exact sg_b (by omega) | exact sg_c (by omega) (by omega))) (aA6)) runSeg64_c1
  · by_cases d1 : ((lsP (sp47 [] s)).length : Int) = 0
    · skip
      have hgl := bO0 s
      have hgc := aJ3 s
      have ho : ∀ a' r', (a', r') ∈ bG2 → HOk (aZ7 s) a' r' := by
        unfold bG2
        exact hc (kNeS (isX rfl) (isSx (l := ([] : LB)) 0 0 rfl) (bnF (nilT (by omega)))) <|hnil
      exact dW1 (D := aZ7 s) (E := bN4 s) (Gf := (fun _ : Unit => T.leaf)) (f := 2000) (tb := bV0) rfl rfl rfl rfl rfl rfl hl hq hs rfl hth0 h0 hthx hx (aB3.lp1 (aB3.lp1 ((aB0 _ _).hyps ho) (by omega) aP8 aG6 (aB1 (.inr ⟨rfl, mkA9, mkB9, _, Tryd.func9, mkC9⟩) aC1)) (by omega) (aA8 (by omega) (by omega) aH3) aE0 (aB1 (aB9 rfl ⟨1, cG8, bY1 (l := lf41) (h := lh41) (sgL (sp47 [] s)) (lsP (sp47 [] s)) (by assumption) (0, s, ([] : List LB)) (aU0 ⟨by simp, rfl, by omega, by simp only [List.length_nil]; omega, fun _ => rfl, fun h => by omega, by omega⟩) rfl (by kernel_rfl) (th0 := [(0, .x 0)]) (sg0 := []) (fun X => thXv (v := St' s) rfl rfl (aA6)) (by kernel_rfl) (thx := [(3, .x 0), (2000004, .x 2000000)]) (thXv (v := St' (lsP (sp47 [] s))) rfl rfl (thXv (v := rwS (sgL (sp47 [] s))) rfl rfl (aA6))) (by kernel_rfl)⟩) aC1)) rfl (aA8 (by omega) (by omega) (aC7 (by omega))) fiB9 (.inl ⟨fun _ => rfl, ⟨()⟩⟩) (thXe (v := rwS (sgL (sp47 [] s))) (u := rwS (segS s)) rfl rfl (congrArg rwS (by first | exact sg_a (by omega) | exact sg_b (by omega) | exact sg_c (by omega) (by omega))) (aA6)) runSeg64_c2
    · skip
      have hgl := bO0 s
      have hgc := aJ3 s
      have ho : ∀ a' r', (a', r') ∈ bG1 → HOk (aZ7 s) a' r' := by
        unfold bG1
        exact hc (kNeS (isX rfl) (isSx (l := ([] : LB)) 0 0 rfl) (bnT (nilF (by omega)))) <|hc (kRa (isX rfl) (isX rfl) (denX rfl)) <|hc (kRf (isX rfl) (by first | omega | (simp <;> omega)) (by first | omega | (simp <;> omega))) <|hnil
      exact dW1 (D := aZ7 s) (E := bN4 s) (Gf := (fun _ : Unit => T.leaf)) (f := 2000) (tb := bU9) rfl rfl rfl rfl rfl rfl hl hq hs rfl hth0 h0 hthx hx (aB3.lp1 (aB3.lp1 ((aB0 _ _).hyps ho) (by omega) aP8 aG6 (aB1 (.inr ⟨rfl, mkA9, mkB9, _, Tryd.func9, mkC9⟩) aC1)) (by omega) (aA8 (by omega) (by omega) aH3) aE0 (aB1 (aB9 rfl ⟨1, cG8, bY1 (l := lf42) (h := lh42) (sgL (sp47 [] s)) (lsP (sp47 [] s)) (by assumption) (0, s, ([] : List LB)) (aU0 ⟨by simp, rfl, by omega, by simp only [List.length_nil]; omega, fun _ => rfl, fun h => by omega, by omega⟩) rfl (by kernel_rfl) (th0 := [(0, .x 0)]) (sg0 := []) (fun X => thXv (v := St' s) rfl rfl (aA6)) (by kernel_rfl) (thx := [(4, .x 0), (2000006, .x 2000000)]) (thXv (v := St' (lsP (sp47 [] s))) rfl rfl (thXv (v := rwS (sgL (sp47 [] s))) rfl rfl (aA6))) (by kernel_rfl)⟩) aC1)) rfl (aA8 (by omega) (by omega) (aC7 (by omega))) fiB9 (.inl ⟨fun _ => rfl, ⟨()⟩⟩) (thXe (v := rwS ((sgL (sp47 [] s)) ++ [(lsP (sp47 [] s))])) (u := rwS (segS s)) rfl rfl (congrArg rwS (by first | exact sg_a (by omega) | exact sg_b (by omega) | exact sg_c (by omega) (by omega))) (aA6)) runSeg64_c3
end Go.Proofs.YtbipkiiaajklhaaDoor.pathTells
