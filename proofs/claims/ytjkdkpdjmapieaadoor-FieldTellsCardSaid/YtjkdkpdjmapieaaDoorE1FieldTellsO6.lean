/- A part of the proof: what an interpreter answers on partly known states is what the program answers. No condition. -/
import Derived.Test.YtjkdkpdjmapieaaDoorE1FieldTellsO5
set_option maxRecDepth 100000
set_option linter.unusedVariables false
set_option linter.unusedSimpArgs false
set_option maxHeartbeats 4000000
namespace Go.Proofs.YtjkdkpdjmapieaaDoor.fieldTells
open Go Go.AX Go.Proofs Go.Proofs.YtjkdkpdjmapieaaDoor
variable {nu : Nat → Value} {one : ∀ i, i < 1000000 → (nu i).oneCell' = true} {E' : Cx} {x' : Ex} {e' : LA} {h' : LE}
def fE (c : LB) : List LB := if (aT c).length = 0 then [] else [aT c]
def bD : LB → LB → List LB
  | cur, [] => fE cur
  | cur, c :: r => if c = 44 then fE cur ++ bD [] r else bD (cur ++ [c]) r
def md (s : LB) (a b : Int) : LB := List.take (Int.toNat (b - (a))) (List.drop a.toNat s)
theorem sO {c : LB} (h : ¬ (aT c).length = 0) : fE c = [aT c] := if_neg h
theorem sP {c : LB} (h : (aT c).length = 0) : fE c = [] := if_pos h
theorem bE3 {l : LB} {i : Nat} (hi : i < l.length) : l.drop i = u8 (bt l i) :: l.drop (i + 1) := by
  rw [List.drop_eq_getElem_cons hi, jP, List.getD_eq_getElem?_getD, List.getElem?_eq_getElem hi, Option.getD_some]
theorem md_nil {s : LB} {a : Int} : md s a a = [] := by unfold md; rw [show (a - a).toNat = 0 by omega]; rfl
theorem md_succ {s : LB} {fr i : Int} (h0 : 0 ≤ fr) (h1 : fr ≤ i) (h2 : i < s.length) : md s fr (i + 1) = md s fr i ++ [u8 (bt s i.toNat)] := by
  unfold md
  have e : (i + 1 - fr).toNat = (i - fr).toNat + 1 := by omega
  have hl : (i - fr).toNat < (s.drop fr.toNat).length := by rw [List.length_drop]; omega
  rw [e, List.take_succ_eq_append_getElem hl, jP, List.getElem_drop, List.getD_eq_getElem?_getD, List.getElem?_eq_getElem (by omega), Option.getD_some]
  congr 3; congr 1; omega
theorem u8_44 {c : Int} (h0 : 0 ≤ c) (h1 : c ≤ 255) : (u8 c = 44) ↔ c = 44 := by
  constructor
  · intro h
    have := congrArg (fun b : UInt8 => (b.toNat : Int)) h
    simp only [l7 h0 h1] at this
    exact this
  · rintro rfl; rfl
section
variable {s : LB} {o T : List LB} {fr i : Int}
theorem ls_a (h0 : 0 ≤ fr) (h1 : fr ≤ i) (h2 : i < s.length) (hc : ¬ bt s i.toNat = 44) (h : o ++ bD (md s fr i) (s.drop i.toNat) = T) : o ++ bD (md s fr (i + 1)) (s.drop (Int.toNat (i + 1))) = T := by
  rw [← h, bE3 (i := i.toNat) (by omega), bD, if_neg (fun e => hc ((u8_44 (bF _ _) (bG _ _)).1 e)), md_succ h0 h1 h2, show (i + 1).toNat = i.toNat + 1 by omega]
theorem ls_at (h0 : 0 ≤ fr) (h1 : fr ≤ i) (h2 : i < s.length) (hc : bt s i.toNat = 44) : bD (md s fr i) (s.drop i.toNat) = fE (md s fr i) ++ bD (md s (i + 1) (i + 1)) (s.drop (Int.toNat (i + 1))) := by
  rw [bE3 (i := i.toNat) (by omega), bD, if_pos ((u8_44 (bF _ _) (bG _ _)).2 hc), md_nil, show (i + 1).toNat = i.toNat + 1 by omega]
theorem ls_b1 (h0 : 0 ≤ fr) (h1 : fr ≤ i) (h2 : i < s.length) (hc : bt s i.toNat = 44) (hk : ¬ ((aT (md s fr i)).length : Int) = 0) (h : o ++ bD (md s fr i) (s.drop i.toNat) = T) : (o ++ [aT (md s fr i)]) ++ bD (md s (i + 1) (i + 1)) (s.drop (Int.toNat (i + 1))) = T := by
  rw [← h, ls_at h0 h1 h2 hc, sO (by omega), List.append_assoc]
theorem ls_b0 (h0 : 0 ≤ fr) (h1 : fr ≤ i) (h2 : i < s.length) (hc : bt s i.toNat = 44) (hk : ((aT (md s fr i)).length : Int) = 0) (h : o ++ bD (md s fr i) (s.drop i.toNat) = T) : o ++ bD (md s (i + 1) (i + 1)) (s.drop (Int.toNat (i + 1))) = T := by
  rw [← h, ls_at h0 h1 h2 hc, sP (by omega), List.nil_append]
theorem bE2 (he : i = s.length) : bD (md s fr i) (s.drop i.toNat) = fE (md s fr i) := by
  rw [List.drop_eq_nil_of_le (by omega), bD]
theorem ls_c1 (he : i = s.length) (hk : ¬ ((aT (md s fr i)).length : Int) = 0) (h : o ++ bD (md s fr i) (s.drop i.toNat) = T) : o ++ [aT (md s fr i)] = T := by
  rw [← h, bE2 he, sO (by omega)]
theorem ls_c0 (he : i = s.length) (hk : ((aT (md s fr i)).length : Int) = 0) (h : o ++ bD (md s fr i) (s.drop i.toNat) = T) : o = T := by
  rw [← h, bE2 he, sP (by omega), List.append_nil]
end
def a8 : LB → LB → List LB × LB
  | cur, [] => ([], cur)
  | cur, c :: r => if c = 44 then (fE cur ++ (a8 [] r).1, (a8 [] r).2) else a8 (cur ++ [c]) r
theorem r7 : ∀ (s cur : LB), bD cur s = (a8 cur s).1 ++ fE (a8 cur s).2
  | [], cur => rfl
  | c :: r, cur => by
    unfold bD a8
    split
    · rw [r7 r []]; simp
    · exact r7 r _
theorem keepQ_len (c : LB) : (fE c).length ≤ 1 := by unfold fE; split <;> simp
theorem jc : ∀ (s cur : LB), (a8 cur s).1.length ≤ s.length ∧ (a8 cur s).2.length ≤ cur.length + s.length
  | [], cur => by simp [a8]
  | c :: r, cur => by
    unfold a8
    split
    · have := jc r []; have := keepQ_len cur
      simp only [List.length_append, List.length_cons, List.length_nil] at *; omega
    · have := jc r (cur ++ [c])
      simp only [List.length_append, List.length_cons, List.length_nil] at *; omega
theorem Du : ∀ (l cur : LB), aD l 44 < 0 → a8 cur l = ([], cur ++ l)
  | [], cur, _ => by simp [a8]
  | b :: l, cur, h => by
    unfold aD at h
    unfold Lib.indexByte at h
    have h44 : u8 44 = 44 := rfl
    rw [h44] at h
    split at h
    · exact absurd h (by decide)
    · rename_i hb
      have hne : ¬ b = 44 := by simpa using hb
      have hl : aD l 44 < 0 := by
        unfold aD; rw [h44]
        split at h
        · rename_i h1; rw [beq_iff_eq] at h1; omega
        · have := Lib.indexByte_ge l 44; omega
      rw [a8, if_neg hne, Du l _ hl]; simp
theorem yL : ∀ (l cur : LB), 0 ≤ aD l 44 → a8 cur l = (fE (cur ++ l.take (aD l 44).toNat) ++ (a8 [] (l.drop (aD l 44 + 1).toNat)).1, (a8 [] (l.drop (aD l 44 + 1).toNat)).2)
  | [], cur, h => absurd h (by decide)
  | b :: l, cur, h => by
    have h44 : u8 44 = 44 := rfl
    by_cases hb : b = 44
    · have e : aD (b :: l) 44 = 0 := by unfold aD Lib.indexByte; rw [h44, hb]; rfl
      rw [e]; subst hb
      rw [a8, if_pos rfl]; simp
    · have hb' : (b == (44 : UInt8)) = false := by simpa using hb
      have e : aD (b :: l) 44 = if Lib.indexByte l 44 == -1 then -1 else Lib.indexByte l 44 + 1 := by
        unfold aD; rw [h44]; show Lib.indexByte (b :: l) 44 = _
        rw [Lib.indexByte, hb']; rfl
      have hl : aD l 44 = Lib.indexByte l 44 := by unfold aD; rw [h44]
      have h0 : 0 ≤ aD l 44 ∧ aD (b :: l) 44 = aD l 44 + 1 := by
        rw [e] at h ⊢
        rw [hl]
        split at h
        · exact absurd h (by decide)
        · rename_i h1
          have := Lib.indexByte_ge l 44
          have h2 : ¬ Lib.indexByte l 44 = -1 := by simpa using h1
          rw [if_neg h1]
          omega
      rw [a8, if_neg hb, yL l _ h0.1, h0.2]
      have e1 : (aD l 44 + 1).toNat = (aD l 44).toNat + 1 := by omega
      have e2 : (aD l 44 + 1 + 1).toNat = (aD l 44 + 1).toNat + 1 := by omega
      rw [e2, List.drop_succ_cons, e1, List.take_succ_cons]; simp
theorem mW (s : LB) : ((aT (a8 [] s).2).length = 0 ∧ (bD [] s).length = (a8 [] s).1.length) ∨ (¬ (aT (a8 [] s).2).length = 0 ∧ (bD [] s).length = (a8 [] s).1.length + 1) := by
  rw [r7]
  by_cases h : (aT (a8 [] s).2).length = 0
  · left; refine ⟨h, ?_⟩; rw [sP h]; simp
  · right; refine ⟨h, ?_⟩; rw [sO h]; simp
section
variable {r Tr : LB} {o To : List LB}
theorem sp_k (h : 0 ≤ aD r 44) (h1 : o ++ (a8 [] r).1 = To) : o ++ fE (r.take (aD r 44).toNat) ++ (a8 [] (r.drop (aD r 44 + 1).toNat)).1 = To := by
  rw [← h1, yL r [] h, List.append_assoc]; rfl
theorem sp_1 (h : 0 ≤ aD r 44) (hk : ¬ ((aT (r.take (aD r 44).toNat)).length : Int) = 0) (h1 : o ++ (a8 [] r).1 = To) : (o ++ [aT (r.take (aD r 44).toNat)]) ++ (a8 [] (r.drop (aD r 44 + 1).toNat)).1 = To := by
  have := sp_k h h1; rw [sO (by omega)] at this; exact this
theorem sp_0 (h : 0 ≤ aD r 44) (hk : ((aT (r.take (aD r 44).toNat)).length : Int) = 0) (h1 : o ++ (a8 [] r).1 = To) : o ++ (a8 [] (r.drop (aD r 44 + 1).toNat)).1 = To := by
  have := sp_k h h1; rw [sP (by omega), List.append_nil] at this; exact this
theorem sp_eq (he : [u8 44] = r) : aD r 44 = 0 := by subst he; rfl
theorem sp_0e (he : [u8 44] = r) (h1 : o ++ (a8 [] r).1 = To) : o ++ (a8 [] (r.drop (Int.toNat (1)))).1 = To := by
  have h := sp_eq he
  have hk : ((aT (r.take (aD r 44).toNat)).length : Int) = 0 := by
    rw [h]; rfl
  have := sp_0 (by omega) hk h1
  rw [h] at this; exact this
theorem sp_te (he : [u8 44] = r) (h1 : (a8 [] r).2 = Tr) : (a8 [] (r.drop (Int.toNat (1)))).2 = Tr := by
  have h := sp_eq he
  rw [← h1, yL r [] (by omega), h]; rfl
theorem vz (h : 0 ≤ aD r 44) (h1 : (a8 [] r).2 = Tr) : (a8 [] (r.drop (aD r 44 + 1).toNat)).2 = Tr := by
  rw [← h1, yL r [] h]
theorem sp_o (h : aD r 44 < 0) (h1 : o ++ (a8 [] r).1 = To) : o = To := by rw [← h1, Du r [] h]; simp
theorem sp_r (h : aD r 44 < 0) (h1 : (a8 [] r).2 = Tr) : r = Tr := by rw [← h1, Du r [] h]; rfl
end
section
variable {s : LB}
theorem Dt (h : ((aT (a8 [] s).2).length : Int) = 0) : (a8 [] s).1 = bD [] s := by rw [r7, sP (by omega), List.append_nil]
theorem yK (h : ¬ ((aT (a8 [] s).2).length : Int) = 0) : (a8 [] s).1 ++ [aT (a8 [] s).2] = bD [] s := by rw [r7, sO (by omega)]
theorem Ds (h0 : (a8 [] s).1.length = 0) (h : ¬ ((aT (a8 [] s).2).length : Int) = 0) : ([] : List LB) ++ [aT (a8 [] s).2] = bD [] s := by rw [← yK h, List.eq_nil_of_length_eq_zero h0]
end
theorem oF (s : LB) : (bD [] s).length ≤ s.length + 1 := by
  have := jc s []; have := mW s; omega
noncomputable def uQ : Code := cS (Tryd.f75.body.getD .skip) 1
theorem yj : cU (br (Tryd.f75.body.getD .skip)) 5 1 0 = true := by kernel_rfl
def iY : List Nat := []
def Ai : LA := [(0, .yl 408), (1, .p 406 0), (2, .p 405 0), (3, .p 407 0), (9, .s 1 44)]
def zf : LE := [(404, bk 33 [.aq]), (405, bk 9 [.x 0]), (406, bk 9 [.s 1 44]), (407, bk 3 [I6 0]), (408, .k 34 [(3, .p 404 0)] 17 0 .normal)]
def wU (To : List LB) (Tr r : LB) (o : List LB) : List Value := [St' r, .int .i64 (aD r 44), .int .i64 ((aD r 44)), St' (List.take (Int.toNat ((aD r 44))) r), St' (aT (List.take (Int.toNat ((aD r 44))) r)), .int .i64 ((aD r 44) + 1), St' (List.drop (Int.toNat ((aD r 44) + 1)) r), .int .i64 (aD r 44), .int .i64 ((aD r 44)), St' (List.take (Int.toNat ((aD r 44))) r), St' (aT (List.take (Int.toNat ((aD r 44))) r)), .int .i64 ((aD r 44) + 1), St' (List.drop (Int.toNat ((aD r 44) + 1)) r), .int .i64 (aD r 44), St' (List.take (Int.toNat (0)) r), St' (aT (List.take (Int.toNat (0)) r)), St' (List.drop (Int.toNat (1)) r)]
def roSp_0 (To : List LB) (Tr r : LB) (o : List LB) : List Value := [aO ([] : List LB), aO (([] : List LB) ++ [(aT (List.take (Int.toNat ((aD r 44))) r))]), aO ([] : List LB), aO ([] : List LB), aO ([] : List LB)]
def pO : LA := [(0, .yl 408), (1, .p 406 0), (2, .p 405 0), (3, .p 407 0), (9, .s 1 44)]
def od : LE := [(404, bk 33 [.sr 409]), (405, bk 9 [.x 0]), (406, bk 9 [.s 1 44]), (407, bk 3 [I6 0]), (408, .k 34 [(3, .p 404 0)] 17 0 .normal), (409, .r 2000000 9 1 false)]
def wT (To : List LB) (Tr r : LB) (o : List LB) : List Value := [St' r, .int .i64 (aD r 44), .int .i64 ((aD r 44)), St' (List.take (Int.toNat ((aD r 44))) r), St' (aT (List.take (Int.toNat ((aD r 44))) r)), .int .i64 ((aD r 44) + 1), St' (List.drop (Int.toNat ((aD r 44) + 1)) r), .int .i64 (aD r 44), .int .i64 ((aD r 44)), St' (List.take (Int.toNat ((aD r 44))) r), St' (aT (List.take (Int.toNat ((aD r 44))) r)), .int .i64 ((aD r 44) + 1), St' (List.drop (Int.toNat ((aD r 44) + 1)) r), .int .i64 (aD r 44), St' (List.take (Int.toNat (0)) r), St' (aT (List.take (Int.toNat (0)) r)), St' (List.drop (Int.toNat (1)) r)]
def roSp_1 (To : List LB) (Tr r : LB) (o : List LB) : List Value := [aO o, aO ([] : List LB), aO (o ++ [(aT (List.take (Int.toNat ((aD r 44))) r))]), aO ([] : List LB), aO ([] : List LB), aO ([] : List LB)]
def my (st : Nat × LB × List LB) : LA := if st.1 = 0 then Ai else pO
def sc (st : Nat × LB × List LB) : LE := if st.1 = 0 then zf else od
def nuSp (To : List LB) (Tr : LB) (st : Nat × LB × List LB) : List Value := if st.1 = 0 then wU To Tr (st.2.1) (st.2.2) else wT To Tr (st.2.1) (st.2.2)
def roSp (To : List LB) (Tr : LB) (st : Nat × LB × List LB) : List Value := if st.1 = 0 then roSp_0 To Tr (st.2.1) (st.2.2) else roSp_1 To Tr (st.2.1) (st.2.2)
theorem onSp (To : List LB) (Tr : LB) (st : Nat × LB × List LB) : ∀ j, (ai (nuSp To Tr st) j).oneCell' = true := by
  intro j
  unfold nuSp
  by_cases g0 : st.1 = 0
  · rw [if_pos g0]; exact aQ (l := wU To Tr (st.2.1) (st.2.2)) rfl j
  rw [if_neg g0]
  exact aQ (l := wT To Tr (st.2.1) (st.2.2)) rfl j
theorem ebSp (st : Nat × LB × List LB) : (cG (my st) && cO iY) = true := by
  unfold my
  by_cases g0 : st.1 = 0
  · rw [if_pos g0]; rfl
  rw [if_neg g0]
  rfl
noncomputable def DSp (To : List LB) (Tr : LB) (st : Nat × LB × List LB) (X : Nat → Value) : Cx := cx (af (nuSp To Tr st) (rX (roSp To Tr st) X)) (ah (onSp To Tr st)) 1 aC aG
abbrev CjSp (To : List LB) (Tr : LB) (tag : Nat) (r : LB) (o : List LB) : Prop := (o ++ (a8 [] r).1 = To) ∧ ((a8 [] r).2 = Tr) ∧ (r.length ≤ 1000) ∧ (o.length + r.length ≤ 1001) ∧ (tag = 0 → o = []) ∧ (tag = 1 → 1 ≤ o.length) ∧ (tag < 2)
def ew (To : List LB) (Tr : LB) (st : Nat × LB × List LB) : Prop := CjSp To Tr st.1 (st.2.1) (st.2.2)
theorem iR {To : List LB} {Tr : LB} {tag : Nat} {r : LB} {o : List LB} (h : CjSp To Tr tag r o) : ew To Tr (tag, r, o) := h
theorem kQ (To : List LB) (Tr : LB) (tag : Nat) (r : LB) (o : List LB) (h : ew To Tr (tag, r, o)) : CjSp To Tr tag r o := h
def mL (To : List LB) (Tr : LB) (st : Nat × LB × List LB) : Nat := (st.2.1).length
abbrev gj (To : List LB) (Tr : LB) (E' : Cx) (ex' : Ex) (epx' : LA) (hpx' : LE) (st : Nat × LB × List LB) (X : Nat → Value) : Prop := a6 E' uQ iY 52 ex' 4 409 410 421 my sc epx' hpx' (ew To Tr) (mL To Tr) (DSp To Tr) st X
noncomputable abbrev Bs (To : List LB) (Tr r : LB) (o : List LB) (X : Nat → Value) : Cx := cx (af (wU To Tr r o) (rX (roSp_0 To Tr r o) X)) (ah (aQ (l := wU To Tr r o) rfl)) 1 aC aG
noncomputable abbrev pz (h : LK) (x : Ex) (th : LA) (sg : List (Nat × Nat)) (m : Nat) (ep : LA) (hp : LE) : Bool := bn (code (aV h) 2000 [] uQ (bc (bf Ai iY) 52) ⟨ay zf .leaf, 410, 0, 0⟩) x iY 52 421 th sg 409 m ep hp
theorem Cj {To : List LB} {Tr r : LB} {o : List LB} {X : Nat → Value} {h : LK} (y : Nat × LB × List LB) {th : LA} {sg : List (Nat × Nat)} (ho : ∀ a' r', (a', r') ∈ h → aL (Bs To Tr r o X) a' r') (hy : ew To Tr y) (lt : mL To Tr y < mL To Tr (0, r, o)) (ht : aw (Bs To Tr r o X) (DSp To Tr y X) th) (run : pz h .normal th sg 410 (my y) (sc y) = true) : gj To Tr E' x' e' h' (0, r, o) X :=
  a6.next (tb := aV h) (L := []) (f := 2000) y ((ae _ _).hyps ho) (bA.nil _) rfl hy lt ht run
theorem lvSp_0 {To : List LB} {Tr r : LB} {o : List LB} {X : Nat → Value} {h : LK} {th : LA} {sg : List (Nat × Nat)} (hne : cI x' .normal = false) (ho : ∀ a' r', (a', r') ∈ h → aL (Bs To Tr r o X) a' r') (ht : aw (Bs To Tr r o X) E' th) (run : pz h x' th sg 421 e' h' = true) : gj To Tr E' x' e' h' (0, r, o) X :=
  a6.leave (tb := aV h) (L := []) (f := 2000) ((ae _ _).hyps ho) (bA.nil _) rfl hne ht run
noncomputable abbrev Br (To : List LB) (Tr r : LB) (o : List LB) (X : Nat → Value) : Cx := cx (af (wT To Tr r o) (rX (roSp_1 To Tr r o) X)) (ah (aQ (l := wT To Tr r o) rfl)) 1 aC aG
noncomputable abbrev py (h : LK) (x : Ex) (th : LA) (sg : List (Nat × Nat)) (m : Nat) (ep : LA) (hp : LE) : Bool := bn (code (aV h) 2000 [] uQ (bc (bf pO iY) 52) ⟨ay od .leaf, 410, 0, 0⟩) x iY 52 421 th sg 409 m ep hp
theorem Ci {To : List LB} {Tr r : LB} {o : List LB} {X : Nat → Value} {h : LK} (y : Nat × LB × List LB) {th : LA} {sg : List (Nat × Nat)} (ho : ∀ a' r', (a', r') ∈ h → aL (Br To Tr r o X) a' r') (hy : ew To Tr y) (lt : mL To Tr y < mL To Tr (1, r, o)) (ht : aw (Br To Tr r o X) (DSp To Tr y X) th) (run : py h .normal th sg 410 (my y) (sc y) = true) : gj To Tr E' x' e' h' (1, r, o) X :=
  a6.next (tb := aV h) (L := []) (f := 2000) y ((ae _ _).hyps ho) (bA.nil _) rfl hy lt ht run
theorem lvSp_1 {To : List LB} {Tr r : LB} {o : List LB} {X : Nat → Value} {h : LK} {th : LA} {sg : List (Nat × Nat)} (hne : cI x' .normal = false) (ho : ∀ a' r', (a', r') ∈ h → aL (Br To Tr r o X) a' r') (ht : aw (Br To Tr r o X) E' th) (run : py h x' th sg 421 e' h' = true) : gj To Tr E' x' e' h' (1, r, o) X :=
  a6.leave (tb := aV h) (L := []) (f := 2000) ((ae _ _).hyps ho) (bA.nil _) rfl hne ht run
def E0 : LK := [(.rn, .x 2000000), (.bin .eql (.s 1 44) (.x 0), .b false), (.ext 77 [.x 0, .i .u8 (.ofNat 44)], .x 1), (.bin .lss (.x 1) (I6 0), .b false), (.bin .add (.x 1) (I6 0), .x 2), (.sub (.x 0) none (some (.x 2)), .x 3), (.call 40 [.x 3, .s 2 2336], .x 4), (.bin .neq (.x 4) (.s 0 0), .b true), (.ra (.x 2000000) [.x 4], .x 2000001), (.rf (.x 2000001) 1 16, .b true), (.bin .add (.x 1) (I6 1), .x 5), (.sub (.x 0) (some (.x 5)) none, .x 6)]
theorem runSp_p0 : pz E0 .normal [(0, .x 6), (2000000, .x 2000001)] [(409, 411)] 410 pO od = true := by kernel_rfl
def Ez : LK := [(.bin .eql (.s 1 44) (.x 0), .b false), (.ext 77 [.x 0, .i .u8 (.ofNat 44)], .x 7), (.bin .lss (.x 7) (I6 0), .b false), (.bin .add (.x 7) (I6 0), .x 8), (.sub (.x 0) none (some (.x 8)), .x 9), (.call 40 [.x 9, .s 2 2336], .x 10), (.bin .neq (.x 10) (.s 0 0), .b false), (.bin .add (.x 7) (I6 1), .x 11), (.sub (.x 0) (some (.x 11)) none, .x 12)]
theorem runSp_p1 : pz Ez .normal [(0, .x 12)] [] 410 Ai zf = true := by kernel_rfl
def Ey : LK := [(.bin .eql (.s 1 44) (.x 0), .b false), (.ext 77 [.x 0, .i .u8 (.ofNat 44)], .x 13), (.bin .lss (.x 13) (I6 0), .b true)]
theorem runSp_p2 : pz Ey (.exit 2) [(0, .x 0)] [] 421 [(0, .yl 408), (2, .p 405 0)] [(404, bk 33 [.aq]), (405, bk 9 [.x 0]), (406, bk 9 [.s 1 44]), (407, bk 3 [I6 0]), (408, .k 34 [(3, .p 404 0)] 17 0 .normal)] = true := by kernel_rfl
def Ew : LK := [(.bin .eql (.s 1 44) (.x 0), .b true), (.sub (.x 0) none (some (I6 0)), .x 14), (.call 40 [.x 14, .s 2 2336], .x 15), (.bin .neq (.x 15) (.s 0 0), .b false), (.sub (.x 0) (some (I6 1)) none, .x 16)]
theorem runSp_p3 : pz Ew .normal [(0, .x 16)] [] 410 Ai zf = true := by kernel_rfl
def Ev : LK := [(.bin .eql (.s 1 44) (.x 0), .b false), (.ext 77 [.x 0, .i .u8 (.ofNat 44)], .x 1), (.bin .lss (.x 1) (I6 0), .b false), (.bin .add (.x 1) (I6 0), .x 2), (.sub (.x 0) none (some (.x 2)), .x 3), (.call 40 [.x 3, .s 2 2336], .x 4), (.bin .neq (.x 4) (.s 0 0), .b true), (.ra (.x 2000000) [.x 4], .x 2000002), (.rf (.x 2000002) 1 16, .b true), (.bin .add (.x 1) (I6 1), .x 5), (.sub (.x 0) (some (.x 5)) none, .x 6)]
theorem runSp_p4 : py Ev .normal [(0, .x 6), (2000000, .x 2000002)] [(409, 411)] 410 pO od = true := by kernel_rfl
def Eu : LK := [(.bin .eql (.s 1 44) (.x 0), .b false), (.ext 77 [.x 0, .i .u8 (.ofNat 44)], .x 7), (.bin .lss (.x 7) (I6 0), .b false), (.bin .add (.x 7) (I6 0), .x 8), (.sub (.x 0) none (some (.x 8)), .x 9), (.call 40 [.x 9, .s 2 2336], .x 10), (.bin .neq (.x 10) (.s 0 0), .b false), (.bin .add (.x 7) (I6 1), .x 11), (.sub (.x 0) (some (.x 11)) none, .x 12)]
theorem runSp_p5 : py Eu .normal [(0, .x 12), (2000000, .x 2000000)] [(409, 409)] 410 pO od = true := by kernel_rfl
def Et : LK := [(.bin .eql (.s 1 44) (.x 0), .b false), (.ext 77 [.x 0, .i .u8 (.ofNat 44)], .x 13), (.bin .lss (.x 13) (I6 0), .b true)]
theorem runSp_p6 : py Et (.exit 2) [(0, .x 0), (2000000, .x 2000000)] [(409, 409)] 421 [(0, .yl 408), (2, .p 405 0)] [(404, bk 33 [.sr 409]), (405, bk 9 [.x 0]), (406, bk 9 [.s 1 44]), (407, bk 3 [I6 0]), (408, .k 34 [(3, .p 404 0)] 17 0 .normal), (409, .r 2000000 9 1 false)] = true := by kernel_rfl
def Er : LK := [(.bin .eql (.s 1 44) (.x 0), .b true), (.sub (.x 0) none (some (I6 0)), .x 14), (.call 40 [.x 14, .s 2 2336], .x 15), (.bin .neq (.x 15) (.s 0 0), .b false), (.sub (.x 0) (some (I6 1)) none, .x 16)]
theorem runSp_p7 : py Er .normal [(0, .x 16), (2000000, .x 2000000)] [(409, 409)] 410 pO od = true := by kernel_rfl
section
variable {To : List LB} {Tr : LB} {r : LB} {o : List LB} {X : Nat → Value}
theorem aZ7 (hI : ew To Tr (0, r, o)) (h0 : ¬ ([u8 44] = r)) (h1 : ¬ (aD r 44 < 0)) (h2 : ¬ (((aT (List.take (Int.toNat ((aD r 44))) r)).length : Int) = 0)) : gj To Tr E' x' e' h' (0, r, o) X := by
  obtain ⟨i0, i1, i2, i3, i4, i5, it⟩ := kQ To Tr 0 r o hI
  have := dT r 44
  have := dq (l := r) (Q := (aD r 44)) (by omega) (by omega)
  have := cR (List.take (Int.toNat ((aD r 44))) r)
  have := eA (l := r) (P := (aD r 44) + 1) (by omega) (by omega)
  refine Cj (h := E0) (1, (List.drop (Int.toNat ((aD r 44) + 1)) r), (([] : List LB) ++ [(aT (List.take (Int.toNat ((aD r 44))) r))])) ?_ (iR ⟨sp_1 (o := []) (by omega) (by assumption) (by have e := i0; rw [i4 rfl] at e; exact e), vz (by omega) i1, by rw [List.length_drop]; omega, by first | omega | (simp only [List.length_append, List.length_cons, List.length_nil, List.length_drop]; omega), fun h => by omega, fun _ => by simp, by omega⟩) (by show (List.drop _ r).length < r.length; rw [List.length_drop]; omega) (aB (v := St' (List.drop (Int.toNat ((aD r 44) + 1)) r)) rfl rfl (aB (v := aO (([] : List LB) ++ [(aT (List.take (Int.toNat ((aD r 44))) r))])) rfl rfl (aI))) runSp_p0
  unfold E0
  exact hc (da (aE rfl)) <|hc (cH (bQ (l := [u8 44]) 1 44 rfl) (aA rfl) (decide_eq_false (by assumption))) <|hc (gO (n := aD r 44) gW gY gX (aA rfl) (dr (m := 44) rfl) (aE rfl) rfl) <|hc (ei rfl (by omega)) <|hc (bO rfl rfl (by omega)) <|hc (eS rfl rfl rfl (by omega)) <|hc (eF (s := (List.take (Int.toNat ((aD r 44))) r)) (aA rfl) (bQ (l := [u8 32, u8 9]) 2 2336 rfl) (aE (congrArg (fun l => St' l) ((dn _).symm)))) <|hc (ck (aA rfl) (bQ (l := ([] : LB)) 0 0 rfl) (gd (iQ (by omega)))) <|hc (gN (aA rfl) (aA rfl) (aE rfl)) <|hc (gM (aA rfl) (by first | omega | (simp <;> omega)) (by first | omega | (simp <;> omega))) <|hc (bO rfl rfl (by omega)) <|hc (fm rfl rfl rfl (by omega)) <|hnil
theorem aZ6 (hI : ew To Tr (0, r, o)) (h0 : ¬ ([u8 44] = r)) (h1 : ¬ (aD r 44 < 0)) (h2 : ((aT (List.take (Int.toNat ((aD r 44))) r)).length : Int) = 0) : gj To Tr E' x' e' h' (0, r, o) X := by
  obtain ⟨i0, i1, i2, i3, i4, i5, it⟩ := kQ To Tr 0 r o hI
  have := dT r 44
  have := dq (l := r) (Q := (aD r 44)) (by omega) (by omega)
  have := cR (List.take (Int.toNat ((aD r 44))) r)
  have := eA (l := r) (P := (aD r 44) + 1) (by omega) (by omega)
  refine Cj (h := Ez) (0, (List.drop (Int.toNat ((aD r 44) + 1)) r), ([] : List LB)) ?_ (iR ⟨sp_0 (o := []) (by omega) (by assumption) (by have e := i0; rw [i4 rfl] at e; exact e), vz (by omega) i1, by rw [List.length_drop]; omega, by first | omega | (simp only [List.length_append, List.length_cons, List.length_nil, List.length_drop]; omega), fun _ => rfl, fun h => by omega, by omega⟩) (by show (List.drop _ r).length < r.length; rw [List.length_drop]; omega) (aB (v := St' (List.drop (Int.toNat ((aD r 44) + 1)) r)) rfl rfl (aI)) runSp_p1
  unfold Ez
  exact hc (cH (bQ (l := [u8 44]) 1 44 rfl) (aA rfl) (decide_eq_false (by assumption))) <|hc (gO (n := aD r 44) gW gY gX (aA rfl) (dr (m := 44) rfl) (aE rfl) rfl) <|hc (ei rfl (by omega)) <|hc (bO rfl rfl (by omega)) <|hc (eS rfl rfl rfl (by omega)) <|hc (eF (s := (List.take (Int.toNat ((aD r 44))) r)) (aA rfl) (bQ (l := [u8 32, u8 9]) 2 2336 rfl) (aE (congrArg (fun l => St' l) ((dn _).symm)))) <|hc (ck (aA rfl) (bQ (l := ([] : LB)) 0 0 rfl) (ev (gG (by omega)))) <|hc (bO rfl rfl (by omega)) <|hc (fm rfl rfl rfl (by omega)) <|hnil
theorem aZ5 (hI : ew To Tr (0, r, o)) (h0 : [u8 44] = r) : gj To Tr E' x' e' h' (0, r, o) X := by
  obtain ⟨i0, i1, i2, i3, i4, i5, it⟩ := kQ To Tr 0 r o hI
  have hr1 := congrArg List.length (‹[u8 44] = r›); simp only [List.length_cons, List.length_nil] at hr1
  have := dq (l := r) (Q := 0) (by omega) (by omega)
  have := cR (List.take (Int.toNat (0)) r)
  have := eA (l := r) (P := 1) (by omega) (by omega)
  refine Cj (h := Ew) (0, (List.drop (Int.toNat (1)) r), ([] : List LB)) ?_ (iR ⟨sp_0e (o := []) (by assumption) (by have e := i0; rw [i4 rfl] at e; exact e), sp_te (by assumption) i1, by rw [List.length_drop]; omega, by first | omega | (simp only [List.length_append, List.length_cons, List.length_nil, List.length_drop]; omega), fun _ => rfl, fun h => by omega, by omega⟩) (by have := congrArg List.length (‹[u8 44] = r›); simp only [List.length_cons, List.length_nil] at this; show (List.drop _ r).length < r.length; rw [List.length_drop]; omega) (aB (v := St' (List.drop (Int.toNat (1)) r)) rfl rfl (aI)) runSp_p3
  unfold Ew
  exact hc (cH (bQ (l := [u8 44]) 1 44 rfl) (aA rfl) (decide_eq_true (by assumption))) <|hc (tkC rfl rfl (by omega)) <|hc (eF (s := (List.take (Int.toNat (0)) r)) (aA rfl) (bQ (l := [u8 32, u8 9]) 2 2336 rfl) (aE (congrArg (fun l => St' l) ((dn _).symm)))) <|hc (ck (aA rfl) (bQ (l := ([] : LB)) 0 0 rfl) (ev (gG (by omega)))) <|hc (drC rfl rfl (by omega)) <|hnil
theorem aZ4 (hI : ew To Tr (1, r, o)) (h0 : ¬ ([u8 44] = r)) (h1 : ¬ (aD r 44 < 0)) (h2 : ¬ (((aT (List.take (Int.toNat ((aD r 44))) r)).length : Int) = 0)) : gj To Tr E' x' e' h' (1, r, o) X := by
  obtain ⟨i0, i1, i2, i3, i4, i5, it⟩ := kQ To Tr 1 r o hI
  have := dT r 44
  have := dq (l := r) (Q := (aD r 44)) (by omega) (by omega)
  have := cR (List.take (Int.toNat ((aD r 44))) r)
  have := eA (l := r) (P := (aD r 44) + 1) (by omega) (by omega)
  refine Ci (h := Ev) (1, (List.drop (Int.toNat ((aD r 44) + 1)) r), (o ++ [(aT (List.take (Int.toNat ((aD r 44))) r))])) ?_ (iR ⟨sp_1 (by omega) (by assumption) i0, vz (by omega) i1, by rw [List.length_drop]; omega, by first | omega | (simp only [List.length_append, List.length_cons, List.length_nil, List.length_drop]; omega), fun h => by omega, fun _ => by simp, by omega⟩) (by show (List.drop _ r).length < r.length; rw [List.length_drop]; omega) (aB (v := St' (List.drop (Int.toNat ((aD r 44) + 1)) r)) rfl rfl (aB (v := aO (o ++ [(aT (List.take (Int.toNat ((aD r 44))) r))])) rfl rfl (aI))) runSp_p4
  unfold Ev
  exact hc (cH (bQ (l := [u8 44]) 1 44 rfl) (aA rfl) (decide_eq_false (by assumption))) <|hc (gO (n := aD r 44) gW gY gX (aA rfl) (dr (m := 44) rfl) (aE rfl) rfl) <|hc (ei rfl (by omega)) <|hc (bO rfl rfl (by omega)) <|hc (eS rfl rfl rfl (by omega)) <|hc (eF (s := (List.take (Int.toNat ((aD r 44))) r)) (aA rfl) (bQ (l := [u8 32, u8 9]) 2 2336 rfl) (aE (congrArg (fun l => St' l) ((dn _).symm)))) <|hc (ck (aA rfl) (bQ (l := ([] : LB)) 0 0 rfl) (gd (iQ (by omega)))) <|hc (gN (aA rfl) (aA rfl) (aE rfl)) <|hc (gM (aA rfl) (by first | omega | (simp <;> omega)) (by first | omega | (simp <;> omega))) <|hc (bO rfl rfl (by omega)) <|hc (fm rfl rfl rfl (by omega)) <|hnil
theorem aZ3 (hI : ew To Tr (1, r, o)) (h0 : ¬ ([u8 44] = r)) (h1 : ¬ (aD r 44 < 0)) (h2 : ((aT (List.take (Int.toNat ((aD r 44))) r)).length : Int) = 0) : gj To Tr E' x' e' h' (1, r, o) X := by
  obtain ⟨i0, i1, i2, i3, i4, i5, it⟩ := kQ To Tr 1 r o hI
  have := dT r 44
  have := dq (l := r) (Q := (aD r 44)) (by omega) (by omega)
  have := cR (List.take (Int.toNat ((aD r 44))) r)
  have := eA (l := r) (P := (aD r 44) + 1) (by omega) (by omega)
  refine Ci (h := Eu) (1, (List.drop (Int.toNat ((aD r 44) + 1)) r), o) ?_ (iR ⟨sp_0 (by omega) (by assumption) i0, vz (by omega) i1, by rw [List.length_drop]; omega, by first | omega | (simp only [List.length_append, List.length_cons, List.length_nil, List.length_drop]; omega), fun h => by omega, fun _ => i5 rfl, by omega⟩) (by show (List.drop _ r).length < r.length; rw [List.length_drop]; omega) (aB (v := St' (List.drop (Int.toNat ((aD r 44) + 1)) r)) rfl rfl (aB (v := aO o) rfl rfl (aI))) runSp_p5
  unfold Eu
  exact hc (cH (bQ (l := [u8 44]) 1 44 rfl) (aA rfl) (decide_eq_false (by assumption))) <|hc (gO (n := aD r 44) gW gY gX (aA rfl) (dr (m := 44) rfl) (aE rfl) rfl) <|hc (ei rfl (by omega)) <|hc (bO rfl rfl (by omega)) <|hc (eS rfl rfl rfl (by omega)) <|hc (eF (s := (List.take (Int.toNat ((aD r 44))) r)) (aA rfl) (bQ (l := [u8 32, u8 9]) 2 2336 rfl) (aE (congrArg (fun l => St' l) ((dn _).symm)))) <|hc (ck (aA rfl) (bQ (l := ([] : LB)) 0 0 rfl) (ev (gG (by omega)))) <|hc (bO rfl rfl (by omega)) <|hc (fm rfl rfl rfl (by omega)) <|hnil
theorem aZ2 (hI : ew To Tr (1, r, o)) (h0 : [u8 44] = r) : gj To Tr E' x' e' h' (1, r, o) X := by
  obtain ⟨i0, i1, i2, i3, i4, i5, it⟩ := kQ To Tr 1 r o hI
  have hr1 := congrArg List.length (‹[u8 44] = r›); simp only [List.length_cons, List.length_nil] at hr1
  have := dq (l := r) (Q := 0) (by omega) (by omega)
  have := cR (List.take (Int.toNat (0)) r)
  have := eA (l := r) (P := 1) (by omega) (by omega)
  refine Ci (h := Er) (1, (List.drop (Int.toNat (1)) r), o) ?_ (iR ⟨sp_0e (by assumption) i0, sp_te (by assumption) i1, by rw [List.length_drop]; omega, by first | omega | (simp only [List.length_append, List.length_cons, List.length_nil, List.length_drop]; omega), fun h => by omega, fun _ => i5 rfl, by omega⟩) (by have := congrArg List.length (‹[u8 44] = r›); simp only [List.length_cons, List.length_nil] at this; show (List.drop _ r).length < r.length; rw [List.length_drop]; omega) (aB (v := St' (List.drop (Int.toNat (1)) r)) rfl rfl (aB (v := aO o) rfl rfl (aI))) runSp_p7
  unfold Er
  exact hc (cH (bQ (l := [u8 44]) 1 44 rfl) (aA rfl) (decide_eq_true (by assumption))) <|hc (tkC rfl rfl (by omega)) <|hc (eF (s := (List.take (Int.toNat (0)) r)) (aA rfl) (bQ (l := [u8 32, u8 9]) 2 2336 rfl) (aE (congrArg (fun l => St' l) ((dn _).symm)))) <|hc (ck (aA rfl) (bQ (l := ([] : LB)) 0 0 rfl) (ev (gG (by omega)))) <|hc (drC rfl rfl (by omega)) <|hnil
end
def bC1 (To : List LB) (Tr : LB) : List Value := [St' Tr]
def roESp_0 (To : List LB) (Tr : LB) : List Value := []
noncomputable def ESp_0 (To : List LB) (Tr : LB) : Cx := cx (af (bC1 To Tr) (rX (roESp_0 To Tr) (fun _ => .bool true))) (ah (aQ (l := bC1 To Tr) rfl)) 1 aC aG
theorem roundsSp_0 (To : List LB) (Tr : LB) (x0 : To.length = 0) (st : Nat × LB × List LB) (X : Nat → Value) (hI : ew To Tr st) : gj To Tr (ESp_0 To Tr) (.exit 2) [(0, .yl 408), (2, .p 405 0)] [(404, bk 33 [.aq]), (405, bk 9 [.x 0]), (406, bk 9 [.s 1 44]), (407, bk 3 [I6 0]), (408, .k 34 [(3, .p 404 0)] 17 0 .normal)] st X := by
  obtain ⟨tag, r, o⟩ := st
  have hI0 := hI
  obtain ⟨i0, i1, i2, i3, i4, i5, it⟩ := kQ To Tr tag r o hI
  rcases (show tag = 0 ∨ tag = 1 from by omega) with rfl | rfl
  · skip
    by_cases h0 : [u8 44] = r
    · exact aZ5 hI0 h0
    · by_cases h1 : aD r 44 < 0
      · skip
        have := dT r 44
        refine lvSp_0 (h := Ey) rfl ?_ (dK (v := St' r) (u := St' Tr) rfl rfl (congrArg (fun l => St' l) (sp_r (by omega) i1)) (aI)) runSp_p2
        unfold Ey
        exact hc (cH (bQ (l := [u8 44]) 1 44 rfl) (aA rfl) (decide_eq_false (by assumption))) <|hc (gO (n := aD r 44) gW gY gX (aA rfl) (dr (m := 44) rfl) (aE rfl) rfl) <|hc (jb rfl (by omega)) <|hnil
      · by_cases h2 : ((aT (List.take (Int.toNat ((aD r 44))) r)).length : Int) = 0
        · exact aZ6 hI0 h0 h1 h2
        · exact aZ7 hI0 h0 h1 h2
  · skip
    by_cases h0 : [u8 44] = r
    · exact aZ2 hI0 h0
    · by_cases h1 : aD r 44 < 0
      · exfalso; have e := congrArg List.length (sp_o (by omega) i0); have := i5 rfl; omega
      · by_cases h2 : ((aT (List.take (Int.toNat ((aD r 44))) r)).length : Int) = 0
        · exact aZ3 hI0 h0 h1 h2
        · exact aZ4 hI0 h0 h1 h2
theorem aU2 (To : List LB) (Tr : LB) (x0 : To.length = 0) : ax (cx nu one 1 aC aG) (ESp_0 To Tr) uQ iY 52 (.exit 2) 4 409 410 421 my sc [(0, .yl 408), (2, .p 405 0)] [(404, bk 33 [.aq]), (405, bk 9 [.x 0]), (406, bk 9 [.s 1 44]), (407, bk 3 [I6 0]), (408, .k 34 [(3, .p 404 0)] 17 0 .normal)] (ew To Tr) (DSp To Tr) :=
  cF (mL To Tr) (fun _ _ => rfl) (fun _ _ => rfl) (fun _ _ => rfl) (fun st X t ht => cE.trans (cD ((by decide : ∀ t, t ∈ iY → t < 1000000) t ht))) rfl rfl rfl ebSp rfl rfl (roundsSp_0 To Tr x0)
def bC0 (To : List LB) (Tr : LB) : List Value := [St' Tr]
def roESp_1 (To : List LB) (Tr : LB) : List Value := [aO To]
noncomputable def ESp_1 (To : List LB) (Tr : LB) : Cx := cx (af (bC0 To Tr) (rX (roESp_1 To Tr) (fun _ => .bool true))) (ah (aQ (l := bC0 To Tr) rfl)) 1 aC aG
theorem roundsSp_1 (To : List LB) (Tr : LB) (x0 : ¬ To.length = 0) (st : Nat × LB × List LB) (X : Nat → Value) (hI : ew To Tr st) : gj To Tr (ESp_1 To Tr) (.exit 2) [(0, .yl 408), (2, .p 405 0)] [(404, bk 33 [.sr 409]), (405, bk 9 [.x 0]), (406, bk 9 [.s 1 44]), (407, bk 3 [I6 0]), (408, .k 34 [(3, .p 404 0)] 17 0 .normal), (409, .r 2000000 9 1 false)] st X := by
  obtain ⟨tag, r, o⟩ := st
  have hI0 := hI
  obtain ⟨i0, i1, i2, i3, i4, i5, it⟩ := kQ To Tr tag r o hI
  rcases (show tag = 0 ∨ tag = 1 from by omega) with rfl | rfl
  · skip
    by_cases h0 : [u8 44] = r
    · exact aZ5 hI0 h0
    · by_cases h1 : aD r 44 < 0
      · exfalso; have e := congrArg List.length (sp_o (by omega) i0); rw [i4 rfl] at e; exact x0 e.symm
      · by_cases h2 : ((aT (List.take (Int.toNat ((aD r 44))) r)).length : Int) = 0
        · exact aZ6 hI0 h0 h1 h2
        · exact aZ7 hI0 h0 h1 h2
  · skip
    by_cases h0 : [u8 44] = r
    · exact aZ2 hI0 h0
    · by_cases h1 : aD r 44 < 0
      · skip
        have := dT r 44
        refine lvSp_1 (h := Et) rfl ?_ (dK (v := St' r) (u := St' Tr) rfl rfl (congrArg (fun l => St' l) (sp_r (by omega) i1)) (dK (v := aO o) (u := aO To) rfl rfl (congrArg aO (sp_o (by omega) i0)) (aI))) runSp_p6
        unfold Et
        exact hc (cH (bQ (l := [u8 44]) 1 44 rfl) (aA rfl) (decide_eq_false (by assumption))) <|hc (gO (n := aD r 44) gW gY gX (aA rfl) (dr (m := 44) rfl) (aE rfl) rfl) <|hc (jb rfl (by omega)) <|hnil
      · by_cases h2 : ((aT (List.take (Int.toNat ((aD r 44))) r)).length : Int) = 0
        · exact aZ3 hI0 h0 h1 h2
        · exact aZ4 hI0 h0 h1 h2
theorem aU1 (To : List LB) (Tr : LB) (x0 : ¬ To.length = 0) : ax (cx nu one 1 aC aG) (ESp_1 To Tr) uQ iY 52 (.exit 2) 4 409 410 421 my sc [(0, .yl 408), (2, .p 405 0)] [(404, bk 33 [.sr 409]), (405, bk 9 [.x 0]), (406, bk 9 [.s 1 44]), (407, bk 3 [I6 0]), (408, .k 34 [(3, .p 404 0)] 17 0 .normal), (409, .r 2000000 9 1 false)] (ew To Tr) (DSp To Tr) :=
  cF (mL To Tr) (fun _ _ => rfl) (fun _ _ => rfl) (fun _ _ => rfl) (fun st X t ht => cE.trans (cD ((by decide : ∀ t, t ∈ iY → t < 1000000) t ht))) rfl rfl rfl ebSp rfl rfl (roundsSp_1 To Tr x0)
theorem yJ : (br (Tryd.f34.body.getD .skip)).all (fun b => !(hM (Go.AX.keyOf b) 7777777)) = true := by kernel_rfl
theorem yI : Nat.beq (eU (Tryd.f34.body.getD .skip)).length 1 = true := by kernel_rfl
theorem yH : Tryd.f34.body = some (Tryd.f34.body.getD .skip) := by kernel_rfl
noncomputable def iy : FI := (bB.fn.get 34).getD default
theorem mr : bB.fn.get 34 = some iy := by kernel_rfl
theorem lN : iy.body = some (Tryd.f34.body.getD .skip) := by kernel_rfl
theorem AM : iy.body.isSome = true := by rw [lN]; rfl
theorem Ib : (br (Tryd.f34.body.getD .skip)).all (fun b => !(hM (Go.AX.keyOf b) 8888888)) = true := by kernel_rfl
noncomputable def oy : FI := (bB.fn.get 75).getD default
theorem AP : bB.fn.get 75 = some oy := by kernel_rfl
theorem AO : oy.body = some (Tryd.f75.body.getD .skip) := by kernel_rfl
def pq : List AV := [.x 0]
def lH : LE := []
def nuLsa (s : LB) : List Value := [St' s, St' ((a8 [] s).2), St' (aT ((a8 [] s).2)), St' ((a8 [] s).2), St' (aT ((a8 [] s).2)), St' ((a8 [] s).2), St' (aT ((a8 [] s).2)), St' ((a8 [] s).2), St' (aT ((a8 [] s).2))]
def roLsa (s : LB) : List Value := [aO ([] : List LB), aO ([] : List LB), aO (([] : List LB) ++ [(aT ((a8 [] s).2))]), aO ([] : List LB), aO ((a8 [] s).1), aO ([] : List LB), aO ((a8 [] s).1), aO ((a8 [] s).1 ++ [(aT ((a8 [] s).2))])]
noncomputable def jO (s : LB) : Cx := cx (af (nuLsa s) (rX (roLsa s) (fun _ => .bool true))) (ah (aQ (l := nuLsa s) rfl)) 1 aC aG
def Ft : LK := [(.call 40 [.x 1, .s 2 2336], .x 2), (.bin .neq (.x 2) (.s 0 0), .b false)]
def lh17 : LH := ⟨4, 409, 421, [(404, bk 33 [.aq]), (405, bk 9 [.x 0]), (406, bk 9 [.s 1 44]), (407, bk 3 [I6 0]), (408, .k 34 [(3, .p 404 0)] 17 0 .normal)], [(404, bk 33 [.aq]), (405, bk 9 [.x 1]), (406, bk 9 [.s 1 44]), (407, bk 3 [I6 0]), (408, .k 34 [(3, .p 404 0)] 17 0 .normal)]⟩
def lf17 : LF := ⟨5, 52, [(0, .yl 408), (1, .p 406 0), (2, .p 405 0), (3, .p 407 0), (9, .s 1 44)], [], (.exit 2), [(0, .yl 408), (2, .p 405 0)], some lh17⟩
noncomputable def aP0 : Tab := bI (bI ((aV Ft)) 34 iy [⟨7777777, 34, [], [3], .goto 7777777, [], none⟩]) 75 oy [lf17]
theorem runLsa_c0 (e : Unit) : fA (call aP0 2000 34 pq ⟨ay lH ((fun _ : Unit => T.leaf) e), 404, 0, 0⟩) (.aq) [] [] 404 434 [] = true := by kernel_rfl
def Fs : LK := [(.rn, .x 2000001), (.call 40 [.x 3, .s 2 2336], .x 4), (.bin .neq (.x 4) (.s 0 0), .b true), (.ra (.x 2000001) [.x 4], .x 2000002), (.rf (.x 2000002) 1 16, .b true)]
def lh18 : LH := ⟨4, 409, 421, [(404, bk 33 [.aq]), (405, bk 9 [.x 0]), (406, bk 9 [.s 1 44]), (407, bk 3 [I6 0]), (408, .k 34 [(3, .p 404 0)] 17 0 .normal)], [(404, bk 33 [.aq]), (405, bk 9 [.x 3]), (406, bk 9 [.s 1 44]), (407, bk 3 [I6 0]), (408, .k 34 [(3, .p 404 0)] 17 0 .normal)]⟩
def lf18 : LF := ⟨5, 52, [(0, .yl 408), (1, .p 406 0), (2, .p 405 0), (3, .p 407 0), (9, .s 1 44)], [], (.exit 2), [(0, .yl 408), (2, .p 405 0)], some lh18⟩
noncomputable def aO9 : Tab := bI (bI ((aV Fs)) 34 iy [⟨7777777, 34, [], [3], .goto 7777777, [], none⟩]) 75 oy [lf18]
theorem runLsa_c1 (e : Unit) : fA (call aO9 2000 34 pq ⟨ay lH ((fun _ : Unit => T.leaf) e), 404, 0, 0⟩) (.sr 404) [(2000000, .x 2000002)] [(404, 422)] 404 434 [(404, .r 2000000 9 1 false)] = true := by kernel_rfl
def Fq : LK := [(.call 40 [.x 5, .s 2 2336], .x 6), (.bin .neq (.x 6) (.s 0 0), .b false)]
def lh19 : LH := ⟨4, 409, 421, [(404, bk 33 [.aq]), (405, bk 9 [.x 0]), (406, bk 9 [.s 1 44]), (407, bk 3 [I6 0]), (408, .k 34 [(3, .p 404 0)] 17 0 .normal)], [(404, bk 33 [.sr 409]), (405, bk 9 [.x 5]), (406, bk 9 [.s 1 44]), (407, bk 3 [I6 0]), (408, .k 34 [(3, .p 404 0)] 17 0 .normal), (409, .r 2000004 9 1 false)]⟩
def lf19 : LF := ⟨5, 52, [(0, .yl 408), (1, .p 406 0), (2, .p 405 0), (3, .p 407 0), (9, .s 1 44)], [], (.exit 2), [(0, .yl 408), (2, .p 405 0)], some lh19⟩
noncomputable def aO8 : Tab := bI (bI ((aV Fq)) 34 iy [⟨7777777, 34, [], [3], .goto 7777777, [], none⟩]) 75 oy [lf19]
theorem runLsa_c2 (e : Unit) : fA (call aO8 2000 34 pq ⟨ay lH ((fun _ : Unit => T.leaf) e), 404, 0, 0⟩) (.sr 404) [(2000000, .x 2000004)] [(404, 409)] 404 434 [(404, .r 2000000 9 1 false)] = true := by kernel_rfl
def Fp : LK := [(.call 40 [.x 7, .s 2 2336], .x 8), (.bin .neq (.x 8) (.s 0 0), .b true), (.ra (.x 2000006) [.x 8], .x 2000007), (.rf (.x 2000007) 1 16, .b true)]
def lh20 : LH := ⟨4, 409, 421, [(404, bk 33 [.aq]), (405, bk 9 [.x 0]), (406, bk 9 [.s 1 44]), (407, bk 3 [I6 0]), (408, .k 34 [(3, .p 404 0)] 17 0 .normal)], [(404, bk 33 [.sr 409]), (405, bk 9 [.x 7]), (406, bk 9 [.s 1 44]), (407, bk 3 [I6 0]), (408, .k 34 [(3, .p 404 0)] 17 0 .normal), (409, .r 2000006 9 1 false)]⟩
def lf20 : LF := ⟨5, 52, [(0, .yl 408), (1, .p 406 0), (2, .p 405 0), (3, .p 407 0), (9, .s 1 44)], [], (.exit 2), [(0, .yl 408), (2, .p 405 0)], some lh20⟩
noncomputable def aO7 : Tab := bI (bI ((aV Fp)) 34 iy [⟨7777777, 34, [], [3], .goto 7777777, [], none⟩]) 75 oy [lf20]
theorem runLsa_c3 (e : Unit) : fA (call aO7 2000 34 pq ⟨ay lH ((fun _ : Unit => T.leaf) e), 404, 0, 0⟩) (.sr 404) [(2000000, .x 2000007)] [(404, 422)] 404 434 [(404, .r 2000000 9 1 false)] = true := by kernel_rfl
def aS6 (s : LB) : List Value := []
def roELsa_0 (s : LB) : List Value := []
noncomputable def ELsa_0 (s : LB) : Cx := cx (af (aS6 s) (rX (roELsa_0 s) (fun _ => .bool true))) (ah (aQ (l := aS6 s) rfl)) 1 aC aG
theorem cfLsa_0 {l : LF} {h : LH} {q : Nat × AV} (s : LB) (p0 : s.length ≤ 1000) (x0 : (bD [] s).length = 0) (hl : l.hp = some h) (hq : l.post = [q]) (hs : lX l h 4 404 434 = true) {ao : LA} {aj : List (Nat × Nat)} (cq : aw (cx nu one 1 aC aG) (jO s) ao) (h0 : (iu ao (cb 404 404 aj) pq (l.pre.map (·.2)) && cf 404 404 ao aj (ay h.pre .leaf) lH && cd (numsOf 404 aj lH)) = true) {ak : LA} (cn : aw (ELsa_0 s) (cx nu one 1 aC aG) ak) (hx : (inA ak (cb 404 434 []) 8 q.2 (.aq) && cf 404 434 ak [] (ay [] .leaf) h.post && cd (numsOf 404 [] h.post)) = true) : ey (cx nu one 1 aC aG) 34 l := by
  have hgl := jc s []
  have hgc := mW s
  have hgn : ([] : LB).length = 0 := rfl
  by_cases d0 : (a8 [] s).1.length = 0
  · by_cases d1 : ((aT ((a8 [] s).2)).length : Int) = 0
    · skip
      have hgl := jc s []
      have hgc := mW s
      have hgn : ([] : LB).length = 0 := rfl
      have := cR ((a8 [] s).2)
      have ho : ∀ a' r', (a', r') ∈ Ft → aL (jO s) a' r' := by
        unfold Ft
        exact hc (eF (s := (a8 [] s).2) (aA rfl) (bQ (l := [u8 32, u8 9]) 2 2336 rfl) (aE (congrArg (fun l => St' l) ((dn _).symm)))) <|hc (ck (aA rfl) (bQ (l := ([] : LB)) 0 0 rfl) (ev (gG (by omega)))) <|hnil
      exact ga (D := jO s) (E := ELsa_0 s) (Gf := (fun _ : Unit => T.leaf)) (f := 2000) (tb := aP0) rfl rfl rfl rfl rfl rfl hl hq hs rfl cq h0 cn hx (ar.bS (ar.bS ((ae _ _).hyps ho) (by omega) mr lN (bH (.inr ⟨rfl, yJ, yI, _, Tryd.func34, yH⟩) bE)) (by omega) (aS (by omega) (by omega) AP) AO (bH (bR rfl ⟨1, yj, ax.use (l := lf17) (h := lh17) (aU2 ((a8 [] s).1) ((a8 [] s).2) (by assumption)) (0, s, ([] : List LB)) (iR ⟨by simp, rfl, by omega, by simp only [List.length_nil]; omega, fun _ => rfl, fun h => by omega, by omega⟩) rfl (by kernel_rfl) (ao := [(0, .x 0)]) (aj := []) (fun X => aB (v := St' s) rfl rfl (aI)) (by kernel_rfl) (ak := [(1, .x 0)]) (aB (v := St' ((a8 [] s).2)) rfl rfl (aI)) (by kernel_rfl)⟩) bE)) rfl (aS (by omega) (by omega) (cP (by omega))) AM (.inl ⟨fun _ => rfl, ⟨()⟩⟩) (aI) runLsa_c0
    · exfalso; omega
  · by_cases d1 : ((aT ((a8 [] s).2)).length : Int) = 0
    · exfalso; omega
    · exfalso; omega
def aS5 (s : LB) : List Value := []
def roELsa_1 (s : LB) : List Value := [aO (bD [] s)]
noncomputable def Bd (s : LB) : Cx := cx (af (aS5 s) (rX (roELsa_1 s) (fun _ => .bool true))) (ah (aQ (l := aS5 s) rfl)) 1 aC aG
theorem bG3 {l : LF} {h : LH} {q : Nat × AV} (s : LB) (p0 : s.length ≤ 1000) (x0 : ¬ (bD [] s).length = 0) (hl : l.hp = some h) (hq : l.post = [q]) (hs : lX l h 4 404 434 = true) {ao : LA} {aj : List (Nat × Nat)} (cq : aw (cx nu one 1 aC aG) (jO s) ao) (h0 : (iu ao (cb 404 404 aj) pq (l.pre.map (·.2)) && cf 404 404 ao aj (ay h.pre .leaf) lH && cd (numsOf 404 aj lH)) = true) {ak : LA} (cn : aw (Bd s) (cx nu one 1 aC aG) ak) (hx : (inA ak (cb 404 434 []) 8 q.2 (.sr 404) && cf 404 434 ak [] (ay [(404, .r 2000000 9 1 false)] .leaf) h.post && cd (numsOf 404 [] h.post)) = true) : ey (cx nu one 1 aC aG) 34 l := by
  have hgl := jc s []
  have hgc := mW s
  have hgn : ([] : LB).length = 0 := rfl
  by_cases d0 : (a8 [] s).1.length = 0
  · by_cases d1 : ((aT ((a8 [] s).2)).length : Int) = 0
    · exfalso; omega
    · skip
      have hgl := jc s []
      have hgc := mW s
      have hgn : ([] : LB).length = 0 := rfl
      have := cR ((a8 [] s).2)
      have ho : ∀ a' r', (a', r') ∈ Fs → aL (jO s) a' r' := by
        unfold Fs
        exact hc (da (aE rfl)) <|hc (eF (s := (a8 [] s).2) (aA rfl) (bQ (l := [u8 32, u8 9]) 2 2336 rfl) (aE (congrArg (fun l => St' l) ((dn _).symm)))) <|hc (ck (aA rfl) (bQ (l := ([] : LB)) 0 0 rfl) (gd (iQ (by omega)))) <|hc (gN (aA rfl) (aA rfl) (aE rfl)) <|hc (gM (aA rfl) (by first | omega | (simp <;> omega)) (by first | omega | (simp <;> omega))) <|hnil
      exact ga (D := jO s) (E := Bd s) (Gf := (fun _ : Unit => T.leaf)) (f := 2000) (tb := aO9) rfl rfl rfl rfl rfl rfl hl hq hs rfl cq h0 cn hx (ar.bS (ar.bS ((ae _ _).hyps ho) (by omega) mr lN (bH (.inr ⟨rfl, yJ, yI, _, Tryd.func34, yH⟩) bE)) (by omega) (aS (by omega) (by omega) AP) AO (bH (bR rfl ⟨1, yj, ax.use (l := lf18) (h := lh18) (aU2 ((a8 [] s).1) ((a8 [] s).2) (by assumption)) (0, s, ([] : List LB)) (iR ⟨by simp, rfl, by omega, by simp only [List.length_nil]; omega, fun _ => rfl, fun h => by omega, by omega⟩) rfl (by kernel_rfl) (ao := [(0, .x 0)]) (aj := []) (fun X => aB (v := St' s) rfl rfl (aI)) (by kernel_rfl) (ak := [(3, .x 0)]) (aB (v := St' ((a8 [] s).2)) rfl rfl (aI)) (by kernel_rfl)⟩) bE)) rfl (aS (by omega) (by omega) (cP (by omega))) AM (.inl ⟨fun _ => rfl, ⟨()⟩⟩) (dK (v := aO (([] : List LB) ++ [(aT ((a8 [] s).2))])) (u := aO (bD [] s)) rfl rfl (congrArg aO (by first | exact Dt (by omega) | exact yK (by omega) | exact Ds (by omega) (by omega))) (aI)) runLsa_c1
  · by_cases d1 : ((aT ((a8 [] s).2)).length : Int) = 0
    · skip
      have hgl := jc s []
      have hgc := mW s
      have hgn : ([] : LB).length = 0 := rfl
      have := cR ((a8 [] s).2)
      have ho : ∀ a' r', (a', r') ∈ Fq → aL (jO s) a' r' := by
        unfold Fq
        exact hc (eF (s := (a8 [] s).2) (aA rfl) (bQ (l := [u8 32, u8 9]) 2 2336 rfl) (aE (congrArg (fun l => St' l) ((dn _).symm)))) <|hc (ck (aA rfl) (bQ (l := ([] : LB)) 0 0 rfl) (ev (gG (by omega)))) <|hnil
      exact ga (D := jO s) (E := Bd s) (Gf := (fun _ : Unit => T.leaf)) (f := 2000) (tb := aO8) rfl rfl rfl rfl rfl rfl hl hq hs rfl cq h0 cn hx (ar.bS (ar.bS ((ae _ _).hyps ho) (by omega) mr lN (bH (.inr ⟨rfl, yJ, yI, _, Tryd.func34, yH⟩) bE)) (by omega) (aS (by omega) (by omega) AP) AO (bH (bR rfl ⟨1, yj, ax.use (l := lf19) (h := lh19) (aU1 ((a8 [] s).1) ((a8 [] s).2) (by assumption)) (0, s, ([] : List LB)) (iR ⟨by simp, rfl, by omega, by simp only [List.length_nil]; omega, fun _ => rfl, fun h => by omega, by omega⟩) rfl (by kernel_rfl) (ao := [(0, .x 0)]) (aj := []) (fun X => aB (v := St' s) rfl rfl (aI)) (by kernel_rfl) (ak := [(5, .x 0), (2000004, .x 2000000)]) (aB (v := St' ((a8 [] s).2)) rfl rfl (aB (v := aO ((a8 [] s).1)) rfl rfl (aI))) (by kernel_rfl)⟩) bE)) rfl (aS (by omega) (by omega) (cP (by omega))) AM (.inl ⟨fun _ => rfl, ⟨()⟩⟩) (dK (v := aO ((a8 [] s).1)) (u := aO (bD [] s)) rfl rfl (congrArg aO (by first | exact Dt (by omega) | exact yK (by omega) | exact Ds (by omega) (by omega))) (aI)) runLsa_c2
    · skip
      have hgl := jc s []
      have hgc := mW s
      have hgn : ([] : LB).length = 0 := rfl
      have := cR ((a8 [] s).2)
      have ho : ∀ a' r', (a', r') ∈ Fp → aL (jO s) a' r' := by
        unfold Fp
        exact hc (eF (s := (a8 [] s).2) (aA rfl) (bQ (l := [u8 32, u8 9]) 2 2336 rfl) (aE (congrArg (fun l => St' l) ((dn _).symm)))) <|hc (ck (aA rfl) (bQ (l := ([] : LB)) 0 0 rfl) (gd (iQ (by omega)))) <|hc (gN (aA rfl) (aA rfl) (aE rfl)) <|hc (gM (aA rfl) (by first | omega | (simp <;> omega)) (by first | omega | (simp <;> omega))) <|hnil
      exact ga (D := jO s) (E := Bd s) (Gf := (fun _ : Unit => T.leaf)) (f := 2000) (tb := aO7) rfl rfl rfl rfl rfl rfl hl hq hs rfl cq h0 cn hx (ar.bS (ar.bS ((ae _ _).hyps ho) (by omega) mr lN (bH (.inr ⟨rfl, yJ, yI, _, Tryd.func34, yH⟩) bE)) (by omega) (aS (by omega) (by omega) AP) AO (bH (bR rfl ⟨1, yj, ax.use (l := lf20) (h := lh20) (aU1 ((a8 [] s).1) ((a8 [] s).2) (by assumption)) (0, s, ([] : List LB)) (iR ⟨by simp, rfl, by omega, by simp only [List.length_nil]; omega, fun _ => rfl, fun h => by omega, by omega⟩) rfl (by kernel_rfl) (ao := [(0, .x 0)]) (aj := []) (fun X => aB (v := St' s) rfl rfl (aI)) (by kernel_rfl) (ak := [(7, .x 0), (2000006, .x 2000000)]) (aB (v := St' ((a8 [] s).2)) rfl rfl (aB (v := aO ((a8 [] s).1)) rfl rfl (aI))) (by kernel_rfl)⟩) bE)) rfl (aS (by omega) (by omega) (cP (by omega))) AM (.inl ⟨fun _ => rfl, ⟨()⟩⟩) (dK (v := aO ((a8 [] s).1 ++ [(aT ((a8 [] s).2))])) (u := aO (bD [] s)) rfl rfl (congrArg aO (by first | exact Dt (by omega) | exact yK (by omega) | exact Ds (by omega) (by omega))) (aI)) runLsa_c3
noncomputable def uR : Code := cS (Tryd.f35.body.getD .skip) 0
theorem keyLs : cU (br (Tryd.f35.body.getD .skip)) 4 0 0 = true := by kernel_rfl
def iZ : List Nat := []
def uB : LA := [(0, .x 0), (3, .aq), (4, .x 2), (5, .x 1)]
def sf : LE := []
def xA (s : LB) (T : List LB) (i fr : Int) (o : List LB) : List Value := [St' s, .int .i64 (i), .int .i64 (fr), .int .i64 ((s.length : Int)), .int .u8 (bt s i.toNat), .int .i64 (i + 1), .int .i64 ((s.length : Int)), .int .u8 (bt s i.toNat), St' (List.take (Int.toNat (i - (fr))) (List.drop fr.toNat s)), St' (aT (List.take (Int.toNat (i - (fr))) (List.drop fr.toNat s))), .int .i64 (i + 1), .int .i64 ((s.length : Int)), .int .u8 (bt s i.toNat), St' (List.take (Int.toNat (i - (fr))) (List.drop fr.toNat s)), St' (aT (List.take (Int.toNat (i - (fr))) (List.drop fr.toNat s))), .int .i64 (i + 1), .int .i64 ((s.length : Int)), St' (List.take (Int.toNat (i - (fr))) (List.drop fr.toNat s)), St' (aT (List.take (Int.toNat (i - (fr))) (List.drop fr.toNat s))), .int .i64 (i + 1), .int .i64 ((s.length : Int)), St' (List.take (Int.toNat (i - (fr))) (List.drop fr.toNat s)), St' (aT (List.take (Int.toNat (i - (fr))) (List.drop fr.toNat s))), .int .i64 (i + 1), .int .i64 ((s.length : Int))]
def roLs_0 (s : LB) (T : List LB) (i fr : Int) (o : List LB) : List Value := [aO ([] : List LB), aO ([] : List LB), aO (([] : List LB) ++ [(aT (List.take (Int.toNat (i - (fr))) (List.drop fr.toNat s)))]), aO ([] : List LB), aO ([] : List LB), aO (([] : List LB) ++ [(aT (List.take (Int.toNat (i - (fr))) (List.drop fr.toNat s)))]), aO ([] : List LB), aO ([] : List LB)]
def j8 : LA := [(0, .x 0), (3, .sr 404), (4, .x 2), (5, .x 1)]
def jm : LE := [(404, .r 2000000 9 1 false)]
def w9 (s : LB) (T : List LB) (i fr : Int) (o : List LB) : List Value := [St' s, .int .i64 (i), .int .i64 (fr), .int .i64 ((s.length : Int)), .int .u8 (bt s i.toNat), .int .i64 (i + 1), .int .i64 ((s.length : Int)), .int .u8 (bt s i.toNat), St' (List.take (Int.toNat (i - (fr))) (List.drop fr.toNat s)), St' (aT (List.take (Int.toNat (i - (fr))) (List.drop fr.toNat s))), .int .i64 (i + 1), .int .i64 ((s.length : Int)), .int .u8 (bt s i.toNat), St' (List.take (Int.toNat (i - (fr))) (List.drop fr.toNat s)), St' (aT (List.take (Int.toNat (i - (fr))) (List.drop fr.toNat s))), .int .i64 (i + 1), .int .i64 ((s.length : Int)), St' (List.take (Int.toNat (i - (fr))) (List.drop fr.toNat s)), St' (aT (List.take (Int.toNat (i - (fr))) (List.drop fr.toNat s))), .int .i64 (i + 1), .int .i64 ((s.length : Int)), St' (List.take (Int.toNat (i - (fr))) (List.drop fr.toNat s)), St' (aT (List.take (Int.toNat (i - (fr))) (List.drop fr.toNat s))), .int .i64 (i + 1), .int .i64 ((s.length : Int))]
def roLs_1 (s : LB) (T : List LB) (i fr : Int) (o : List LB) : List Value := [aO o, aO ([] : List LB), aO ([] : List LB), aO (o ++ [(aT (List.take (Int.toNat (i - (fr))) (List.drop fr.toNat s)))]), aO ([] : List LB), aO ([] : List LB), aO (o ++ [(aT (List.take (Int.toNat (i - (fr))) (List.drop fr.toNat s)))]), aO ([] : List LB), aO ([] : List LB)]
def mz (st : Nat × Int × Int × List LB) : LA := if st.1 = 0 then uB else j8
def sj (st : Nat × Int × Int × List LB) : LE := if st.1 = 0 then sf else jm
def nuLs (s : LB) (T : List LB) (st : Nat × Int × Int × List LB) : List Value := if st.1 = 0 then xA s T (st.2.1) (st.2.2.1) (st.2.2.2) else w9 s T (st.2.1) (st.2.2.1) (st.2.2.2)
def roLs (s : LB) (T : List LB) (st : Nat × Int × Int × List LB) : List Value := if st.1 = 0 then roLs_0 s T (st.2.1) (st.2.2.1) (st.2.2.2) else roLs_1 s T (st.2.1) (st.2.2.1) (st.2.2.2)
theorem onLs (s : LB) (T : List LB) (st : Nat × Int × Int × List LB) : ∀ j, (ai (nuLs s T st) j).oneCell' = true := by
  intro j
  unfold nuLs
  by_cases g0 : st.1 = 0
  · rw [if_pos g0]; exact aQ (l := xA s T (st.2.1) (st.2.2.1) (st.2.2.2)) rfl j
  rw [if_neg g0]
  exact aQ (l := w9 s T (st.2.1) (st.2.2.1) (st.2.2.2)) rfl j
theorem ebLs (st : Nat × Int × Int × List LB) : (cG (mz st) && cO iZ) = true := by
  unfold mz
  by_cases g0 : st.1 = 0
  · rw [if_pos g0]; rfl
  rw [if_neg g0]
  rfl
noncomputable def DLs (s : LB) (T : List LB) (st : Nat × Int × Int × List LB) (X : Nat → Value) : Cx := cx (af (nuLs s T st) (rX (roLs s T st) X)) (ah (onLs s T st)) 1 aC aG
abbrev CjLs (s : LB) (T : List LB) (tag : Nat) (i fr : Int) (o : List LB) : Prop := (0 ≤ fr) ∧ (fr ≤ i) ∧ (i ≤ (s.length : Int) + 1) ∧ (i ≤ (s.length : Int) → o ++ bD (md s fr i) (s.drop i.toNat) = T) ∧ (i = (s.length : Int) + 1 → o = T) ∧ ((o.length : Int) ≤ i) ∧ (tag = 0 → o = []) ∧ (tag = 1 → 1 ≤ o.length) ∧ (tag < 2)
def dt (s : LB) (T : List LB) (st : Nat × Int × Int × List LB) : Prop := CjLs s T st.1 (st.2.1) (st.2.2.1) (st.2.2.2)
theorem gH {s : LB} {T : List LB} {tag : Nat} {i fr : Int} {o : List LB} (h : CjLs s T tag i fr o) : dt s T (tag, i, fr, o) := h
theorem fy (s : LB) (T : List LB) (tag : Nat) (i fr : Int) (o : List LB) (h : dt s T (tag, i, fr, o)) : CjLs s T tag i fr o := h
def mM (s : LB) (T : List LB) (st : Nat × Int × Int × List LB) : Nat := (s.length + 1 - (st.2.1).toNat)
abbrev eZ (s : LB) (T : List LB) (E' : Cx) (ex' : Ex) (epx' : LA) (hpx' : LE) (st : Nat × Int × Int × List LB) (X : Nat → Value) : Prop := a6 E' uR iZ 37 ex' 4 404 405 408 mz sj epx' hpx' (dt s T) (mM s T) (DLs s T) st X
noncomputable abbrev B6 (s : LB) (T : List LB) (i fr : Int) (o : List LB) (X : Nat → Value) : Cx := cx (af (xA s T i fr o) (rX (roLs_0 s T i fr o) X)) (ah (aQ (l := xA s T i fr o) rfl)) 1 aC aG
noncomputable abbrev lr (h : LK) (x : Ex) (th : LA) (sg : List (Nat × Nat)) (m : Nat) (ep : LA) (hp : LE) : Bool := bn (code (aV h) 2000 [] uR (bc (bf uB iZ) 37) ⟨ay sf .leaf, 405, 0, 0⟩) x iZ 37 408 th sg 404 m ep hp
theorem qW {s : LB} {T : List LB} {i fr : Int} {o : List LB} {X : Nat → Value} {h : LK} (y : Nat × Int × Int × List LB) {th : LA} {sg : List (Nat × Nat)} (ho : ∀ a' r', (a', r') ∈ h → aL (B6 s T i fr o X) a' r') (hy : dt s T y) (lt : mM s T y < mM s T (0, i, fr, o)) (ht : aw (B6 s T i fr o X) (DLs s T y X) th) (run : lr h .normal th sg 405 (mz y) (sj y) = true) : eZ s T E' x' e' h' (0, i, fr, o) X :=
  a6.next (tb := aV h) (L := []) (f := 2000) y ((ae _ _).hyps ho) (bA.nil _) rfl hy lt ht run
theorem lvLs_0 {s : LB} {T : List LB} {i fr : Int} {o : List LB} {X : Nat → Value} {h : LK} {th : LA} {sg : List (Nat × Nat)} (hne : cI x' .normal = false) (ho : ∀ a' r', (a', r') ∈ h → aL (B6 s T i fr o X) a' r') (ht : aw (B6 s T i fr o X) E' th) (run : lr h x' th sg 408 e' h' = true) : eZ s T E' x' e' h' (0, i, fr, o) X :=
  a6.leave (tb := aV h) (L := []) (f := 2000) ((ae _ _).hyps ho) (bA.nil _) rfl hne ht run
noncomputable abbrev B5 (s : LB) (T : List LB) (i fr : Int) (o : List LB) (X : Nat → Value) : Cx := cx (af (w9 s T i fr o) (rX (roLs_1 s T i fr o) X)) (ah (aQ (l := w9 s T i fr o) rfl)) 1 aC aG
noncomputable abbrev lq (h : LK) (x : Ex) (th : LA) (sg : List (Nat × Nat)) (m : Nat) (ep : LA) (hp : LE) : Bool := bn (code (aV h) 2000 [] uR (bc (bf j8 iZ) 37) ⟨ay jm .leaf, 405, 0, 0⟩) x iZ 37 408 th sg 404 m ep hp
theorem qV {s : LB} {T : List LB} {i fr : Int} {o : List LB} {X : Nat → Value} {h : LK} (y : Nat × Int × Int × List LB) {th : LA} {sg : List (Nat × Nat)} (ho : ∀ a' r', (a', r') ∈ h → aL (B5 s T i fr o X) a' r') (hy : dt s T y) (lt : mM s T y < mM s T (1, i, fr, o)) (ht : aw (B5 s T i fr o X) (DLs s T y X) th) (run : lq h .normal th sg 405 (mz y) (sj y) = true) : eZ s T E' x' e' h' (1, i, fr, o) X :=
  a6.next (tb := aV h) (L := []) (f := 2000) y ((ae _ _).hyps ho) (bA.nil _) rfl hy lt ht run
theorem lvLs_1 {s : LB} {T : List LB} {i fr : Int} {o : List LB} {X : Nat → Value} {h : LK} {th : LA} {sg : List (Nat × Nat)} (hne : cI x' .normal = false) (ho : ∀ a' r', (a', r') ∈ h → aL (B5 s T i fr o X) a' r') (ht : aw (B5 s T i fr o X) E' th) (run : lq h x' th sg 408 e' h' = true) : eZ s T E' x' e' h' (1, i, fr, o) X :=
  a6.leave (tb := aV h) (L := []) (f := 2000) ((ae _ _).hyps ho) (bA.nil _) rfl hne ht run
def F6 : LK := [(.len (.x 0), .x 3), (.bin .leq (.x 1) (.x 3), .b true), (.bin .eql (.x 1) (.x 3), .b false), (.idx (.x 0) (.x 1), .x 4), (.bin .eql (.x 4) (.i .u8 (.ofNat 44)), .b false), (.bin .add (.x 1) (I6 1), .x 5)]
theorem runLs_p0 : lr F6 .normal [(0, .x 0), (1, .x 5), (2, .x 2)] [] 405 uB sf = true := by kernel_rfl
def F5 : LK := [(.rn, .x 2000001), (.len (.x 0), .x 6), (.bin .leq (.x 1) (.x 6), .b true), (.bin .eql (.x 1) (.x 6), .b false), (.idx (.x 0) (.x 1), .x 7), (.bin .eql (.x 7) (.i .u8 (.ofNat 44)), .b true), (.sub (.x 0) (some (.x 2)) (some (.x 1)), .x 8), (.call 31 [.x 8], .x 9), (.bin .neq (.x 9) (.s 0 0), .b true), (.ra (.x 2000001) [.x 9], .x 2000002), (.rf (.x 2000002) 1 16, .b true), (.bin .add (.x 1) (I6 1), .x 10)]
theorem runLs_p1 : lr F5 .normal [(0, .x 0), (1, .x 10), (2, .x 10), (2000000, .x 2000002)] [(404, 406)] 405 j8 jm = true := by kernel_rfl
def F2 : LK := [(.len (.x 0), .x 11), (.bin .leq (.x 1) (.x 11), .b true), (.bin .eql (.x 1) (.x 11), .b false), (.idx (.x 0) (.x 1), .x 12), (.bin .eql (.x 12) (.i .u8 (.ofNat 44)), .b true), (.sub (.x 0) (some (.x 2)) (some (.x 1)), .x 13), (.call 31 [.x 13], .x 14), (.bin .neq (.x 14) (.s 0 0), .b false), (.bin .add (.x 1) (I6 1), .x 15)]
theorem runLs_p2 : lr F2 .normal [(0, .x 0), (1, .x 15), (2, .x 15)] [] 405 uB sf = true := by kernel_rfl
def F1 : LK := [(.rn, .x 2000004), (.len (.x 0), .x 16), (.bin .leq (.x 1) (.x 16), .b true), (.bin .eql (.x 1) (.x 16), .b true), (.sub (.x 0) (some (.x 2)) (some (.x 1)), .x 17), (.call 31 [.x 17], .x 18), (.bin .neq (.x 18) (.s 0 0), .b true), (.ra (.x 2000004) [.x 18], .x 2000005), (.rf (.x 2000005) 1 16, .b true), (.bin .add (.x 1) (I6 1), .x 19)]
theorem runLs_p3 : lr F1 .normal [(0, .x 0), (1, .x 19), (2, .x 19), (2000000, .x 2000005)] [(404, 406)] 405 j8 jm = true := by kernel_rfl
def F0 : LK := [(.len (.x 0), .x 20), (.bin .leq (.x 1) (.x 20), .b true), (.bin .eql (.x 1) (.x 20), .b true), (.sub (.x 0) (some (.x 2)) (some (.x 1)), .x 21), (.call 31 [.x 21], .x 22), (.bin .neq (.x 22) (.s 0 0), .b false), (.bin .add (.x 1) (I6 1), .x 23)]
theorem runLs_p4 : lr F0 .normal [(0, .x 0), (1, .x 23), (2, .x 23)] [] 405 uB sf = true := by kernel_rfl
def Fy : LK := [(.len (.x 0), .x 24), (.bin .leq (.x 1) (.x 24), .b false)]
theorem runLs_p5 : lr Fy (.exit 0) [] [] 408 [(3, .aq)] [] = true := by kernel_rfl
def Fx : LK := [(.len (.x 0), .x 3), (.bin .leq (.x 1) (.x 3), .b true), (.bin .eql (.x 1) (.x 3), .b false), (.idx (.x 0) (.x 1), .x 4), (.bin .eql (.x 4) (.i .u8 (.ofNat 44)), .b false), (.bin .add (.x 1) (I6 1), .x 5)]
theorem runLs_p6 : lq Fx .normal [(0, .x 0), (1, .x 5), (2, .x 2), (2000000, .x 2000000)] [(404, 404)] 405 j8 jm = true := by kernel_rfl
def Fw : LK := [(.len (.x 0), .x 6), (.bin .leq (.x 1) (.x 6), .b true), (.bin .eql (.x 1) (.x 6), .b false), (.idx (.x 0) (.x 1), .x 7), (.bin .eql (.x 7) (.i .u8 (.ofNat 44)), .b true), (.sub (.x 0) (some (.x 2)) (some (.x 1)), .x 8), (.call 31 [.x 8], .x 9), (.bin .neq (.x 9) (.s 0 0), .b true), (.ra (.x 2000000) [.x 9], .x 2000003), (.rf (.x 2000003) 1 16, .b true), (.bin .add (.x 1) (I6 1), .x 10)]
theorem runLs_p7 : lq Fw .normal [(0, .x 0), (1, .x 10), (2, .x 10), (2000000, .x 2000003)] [(404, 406)] 405 j8 jm = true := by kernel_rfl
def Fv : LK := [(.len (.x 0), .x 11), (.bin .leq (.x 1) (.x 11), .b true), (.bin .eql (.x 1) (.x 11), .b false), (.idx (.x 0) (.x 1), .x 12), (.bin .eql (.x 12) (.i .u8 (.ofNat 44)), .b true), (.sub (.x 0) (some (.x 2)) (some (.x 1)), .x 13), (.call 31 [.x 13], .x 14), (.bin .neq (.x 14) (.s 0 0), .b false), (.bin .add (.x 1) (I6 1), .x 15)]
theorem runLs_p8 : lq Fv .normal [(0, .x 0), (1, .x 15), (2, .x 15), (2000000, .x 2000000)] [(404, 404)] 405 j8 jm = true := by kernel_rfl
def Fu : LK := [(.len (.x 0), .x 16), (.bin .leq (.x 1) (.x 16), .b true), (.bin .eql (.x 1) (.x 16), .b true), (.sub (.x 0) (some (.x 2)) (some (.x 1)), .x 17), (.call 31 [.x 17], .x 18), (.bin .neq (.x 18) (.s 0 0), .b true), (.ra (.x 2000000) [.x 18], .x 2000006), (.rf (.x 2000006) 1 16, .b true), (.bin .add (.x 1) (I6 1), .x 19)]
theorem runLs_p9 : lq Fu .normal [(0, .x 0), (1, .x 19), (2, .x 19), (2000000, .x 2000006)] [(404, 406)] 405 j8 jm = true := by kernel_rfl
def F4 : LK := [(.len (.x 0), .x 20), (.bin .leq (.x 1) (.x 20), .b true), (.bin .eql (.x 1) (.x 20), .b true), (.sub (.x 0) (some (.x 2)) (some (.x 1)), .x 21), (.call 31 [.x 21], .x 22), (.bin .neq (.x 22) (.s 0 0), .b false), (.bin .add (.x 1) (I6 1), .x 23)]
theorem runLs_p10 : lq F4 .normal [(0, .x 0), (1, .x 23), (2, .x 23), (2000000, .x 2000000)] [(404, 404)] 405 j8 jm = true := by kernel_rfl
def F3 : LK := [(.len (.x 0), .x 24), (.bin .leq (.x 1) (.x 24), .b false)]
theorem runLs_p11 : lq F3 (.exit 0) [(2000000, .x 2000000)] [(404, 404)] 408 [(3, .sr 404)] [(404, .r 2000000 9 1 false)] = true := by kernel_rfl
section
set_option linter.unusedSectionVars false
variable {s : LB} {T : List LB} (c0 : s.length ≤ 1000) {i fr : Int} {o : List LB} {X : Nat → Value}
include c0
theorem bA9 (hI : dt s T (0, i, fr, o)) (h0 : i ≤ (s.length : Int)) (h1 : ¬ (i = (s.length : Int))) (h2 : ¬ (bt s i.toNat = 44)) : eZ s T E' x' e' h' (0, i, fr, o) X := by
  obtain ⟨i0, i1, i2, i3, i4, i5, i6, i7, it⟩ := fy s T 0 i fr o hI
  have := bF s i.toNat; have := bG s i.toNat
  refine qW (h := F6) (0, i + 1, fr, ([] : List LB)) ?_ (gH ⟨by omega, by omega, by omega, fun _ => ls_a (fr := fr) (i := i) (o := []) (by omega) (by omega) (by omega) (by assumption) (by have e := i3 (by omega); rw [i6 rfl] at e; exact e), fun h => by omega, by first | omega | (simp only [List.length_append, List.length_cons, List.length_nil]; omega), fun _ => rfl, fun h => by omega, by omega⟩) (by show s.length + 1 - (i + 1).toNat < s.length + 1 - i.toNat; omega) (aB (v := St' s) rfl rfl (bT (b := ((i + 1))) rfl rfl (by omega) (aB (v := .int .i64 (fr)) rfl rfl (aI)))) runLs_p0
  unfold F6
  exact hc (au rfl rfl (by omega)) <|hc (iV rfl rfl (by omega)) <|hc (pJ rfl rfl (by omega)) <|hc (cm rfl rfl rfl (by omega)) <|hc (ek rfl (by omega)) <|hc (bO rfl rfl (by omega)) <|hnil
theorem bA8 (hI : dt s T (0, i, fr, o)) (h0 : i ≤ (s.length : Int)) (h1 : ¬ (i = (s.length : Int))) (h2 : bt s i.toNat = 44) (h3 : ¬ (((aT (List.take (Int.toNat (i - (fr))) (List.drop fr.toNat s))).length : Int) = 0)) : eZ s T E' x' e' h' (0, i, fr, o) X := by
  obtain ⟨i0, i1, i2, i3, i4, i5, i6, i7, it⟩ := fy s T 0 i fr o hI
  have := bF s i.toNat; have := bG s i.toNat
  have := kp (l := s) (P := fr) (Q := i) (by omega)
  have := cR (List.take (Int.toNat (i - (fr))) (List.drop fr.toNat s))
  refine qW (h := F5) (1, i + 1, i + 1, (([] : List LB) ++ [(aT (List.take (Int.toNat (i - (fr))) (List.drop fr.toNat s)))])) ?_ (gH ⟨by omega, by omega, by omega, fun _ => ls_b1 (fr := fr) (i := i) (o := []) (by omega) (by omega) (by omega) (by assumption) (by assumption) (by have e := i3 (by omega); rw [i6 rfl] at e; exact e), fun h => by omega, by first | omega | (simp only [List.length_append, List.length_cons, List.length_nil]; omega), fun h => by omega, fun _ => by simp, by omega⟩) (by show s.length + 1 - (i + 1).toNat < s.length + 1 - i.toNat; omega) (aB (v := St' s) rfl rfl (bT (b := ((i + 1))) rfl rfl (by omega) (bT (b := ((i + 1))) rfl rfl (by omega) (aB (v := aO (([] : List LB) ++ [(aT (List.take (Int.toNat (i - (fr))) (List.drop fr.toNat s)))])) rfl rfl (aI))))) runLs_p1
  unfold F5
  exact hc (da (aE rfl)) <|hc (au rfl rfl (by omega)) <|hc (iV rfl rfl (by omega)) <|hc (pJ rfl rfl (by omega)) <|hc (cm rfl rfl rfl (by omega)) <|hc (gZ rfl (by omega)) <|hc (ke rfl rfl rfl rfl (by omega)) <|hc (fe (s := (List.take (Int.toNat (i - (fr))) (List.drop fr.toNat s))) (aA rfl) (aE rfl)) <|hc (ck (aA rfl) (bQ (l := ([] : LB)) 0 0 rfl) (gd (iQ (by omega)))) <|hc (gN (aA rfl) (aA rfl) (aE rfl)) <|hc (gM (aA rfl) (by first | omega | (simp <;> omega)) (by first | omega | (simp <;> omega))) <|hc (bO rfl rfl (by omega)) <|hnil
theorem bA7 (hI : dt s T (0, i, fr, o)) (h0 : i ≤ (s.length : Int)) (h1 : ¬ (i = (s.length : Int))) (h2 : bt s i.toNat = 44) (h3 : ((aT (List.take (Int.toNat (i - (fr))) (List.drop fr.toNat s))).length : Int) = 0) : eZ s T E' x' e' h' (0, i, fr, o) X := by
  obtain ⟨i0, i1, i2, i3, i4, i5, i6, i7, it⟩ := fy s T 0 i fr o hI
  have := bF s i.toNat; have := bG s i.toNat
  have := kp (l := s) (P := fr) (Q := i) (by omega)
  have := cR (List.take (Int.toNat (i - (fr))) (List.drop fr.toNat s))
  refine qW (h := F2) (0, i + 1, i + 1, ([] : List LB)) ?_ (gH ⟨by omega, by omega, by omega, fun _ => ls_b0 (fr := fr) (i := i) (o := []) (by omega) (by omega) (by omega) (by assumption) (by assumption) (by have e := i3 (by omega); rw [i6 rfl] at e; exact e), fun h => by omega, by first | omega | (simp only [List.length_append, List.length_cons, List.length_nil]; omega), fun _ => rfl, fun h => by omega, by omega⟩) (by show s.length + 1 - (i + 1).toNat < s.length + 1 - i.toNat; omega) (aB (v := St' s) rfl rfl (bT (b := ((i + 1))) rfl rfl (by omega) (bT (b := ((i + 1))) rfl rfl (by omega) (aI)))) runLs_p2
  unfold F2
  exact hc (au rfl rfl (by omega)) <|hc (iV rfl rfl (by omega)) <|hc (pJ rfl rfl (by omega)) <|hc (cm rfl rfl rfl (by omega)) <|hc (gZ rfl (by omega)) <|hc (ke rfl rfl rfl rfl (by omega)) <|hc (fe (s := (List.take (Int.toNat (i - (fr))) (List.drop fr.toNat s))) (aA rfl) (aE rfl)) <|hc (ck (aA rfl) (bQ (l := ([] : LB)) 0 0 rfl) (ev (gG (by omega)))) <|hc (bO rfl rfl (by omega)) <|hnil
theorem bA6 (hI : dt s T (0, i, fr, o)) (h0 : i ≤ (s.length : Int)) (h1 : i = (s.length : Int)) (h2 : ¬ (((aT (List.take (Int.toNat (i - (fr))) (List.drop fr.toNat s))).length : Int) = 0)) : eZ s T E' x' e' h' (0, i, fr, o) X := by
  obtain ⟨i0, i1, i2, i3, i4, i5, i6, i7, it⟩ := fy s T 0 i fr o hI
  have := kp (l := s) (P := fr) (Q := i) (by omega)
  have := cR (List.take (Int.toNat (i - (fr))) (List.drop fr.toNat s))
  refine qW (h := F1) (1, i + 1, i + 1, (([] : List LB) ++ [(aT (List.take (Int.toNat (i - (fr))) (List.drop fr.toNat s)))])) ?_ (gH ⟨by omega, by omega, by omega, fun h => by omega, fun _ => ls_c1 (fr := fr) (i := i) (o := []) (by omega) (by assumption) (by have e := i3 (by omega); rw [i6 rfl] at e; exact e), by first | omega | (simp only [List.length_append, List.length_cons, List.length_nil]; omega), fun h => by omega, fun _ => by simp, by omega⟩) (by show s.length + 1 - (i + 1).toNat < s.length + 1 - i.toNat; omega) (aB (v := St' s) rfl rfl (bT (b := ((i + 1))) rfl rfl (by omega) (bT (b := ((i + 1))) rfl rfl (by omega) (aB (v := aO (([] : List LB) ++ [(aT (List.take (Int.toNat (i - (fr))) (List.drop fr.toNat s)))])) rfl rfl (aI))))) runLs_p3
  unfold F1
  exact hc (da (aE rfl)) <|hc (au rfl rfl (by omega)) <|hc (iV rfl rfl (by omega)) <|hc (lS rfl rfl (by omega)) <|hc (ke rfl rfl rfl rfl (by omega)) <|hc (fe (s := (List.take (Int.toNat (i - (fr))) (List.drop fr.toNat s))) (aA rfl) (aE rfl)) <|hc (ck (aA rfl) (bQ (l := ([] : LB)) 0 0 rfl) (gd (iQ (by omega)))) <|hc (gN (aA rfl) (aA rfl) (aE rfl)) <|hc (gM (aA rfl) (by first | omega | (simp <;> omega)) (by first | omega | (simp <;> omega))) <|hc (bO rfl rfl (by omega)) <|hnil
theorem bA5 (hI : dt s T (0, i, fr, o)) (h0 : i ≤ (s.length : Int)) (h1 : i = (s.length : Int)) (h2 : ((aT (List.take (Int.toNat (i - (fr))) (List.drop fr.toNat s))).length : Int) = 0) : eZ s T E' x' e' h' (0, i, fr, o) X := by
  obtain ⟨i0, i1, i2, i3, i4, i5, i6, i7, it⟩ := fy s T 0 i fr o hI
  have := kp (l := s) (P := fr) (Q := i) (by omega)
  have := cR (List.take (Int.toNat (i - (fr))) (List.drop fr.toNat s))
  refine qW (h := F0) (0, i + 1, i + 1, ([] : List LB)) ?_ (gH ⟨by omega, by omega, by omega, fun h => by omega, fun _ => ls_c0 (fr := fr) (i := i) (o := []) (by omega) (by assumption) (by have e := i3 (by omega); rw [i6 rfl] at e; exact e), by first | omega | (simp only [List.length_append, List.length_cons, List.length_nil]; omega), fun _ => rfl, fun h => by omega, by omega⟩) (by show s.length + 1 - (i + 1).toNat < s.length + 1 - i.toNat; omega) (aB (v := St' s) rfl rfl (bT (b := ((i + 1))) rfl rfl (by omega) (bT (b := ((i + 1))) rfl rfl (by omega) (aI)))) runLs_p4
  unfold F0
  exact hc (au rfl rfl (by omega)) <|hc (iV rfl rfl (by omega)) <|hc (lS rfl rfl (by omega)) <|hc (ke rfl rfl rfl rfl (by omega)) <|hc (fe (s := (List.take (Int.toNat (i - (fr))) (List.drop fr.toNat s))) (aA rfl) (aE rfl)) <|hc (ck (aA rfl) (bQ (l := ([] : LB)) 0 0 rfl) (ev (gG (by omega)))) <|hc (bO rfl rfl (by omega)) <|hnil
theorem bA4 (hI : dt s T (1, i, fr, o)) (h0 : i ≤ (s.length : Int)) (h1 : ¬ (i = (s.length : Int))) (h2 : ¬ (bt s i.toNat = 44)) : eZ s T E' x' e' h' (1, i, fr, o) X := by
  obtain ⟨i0, i1, i2, i3, i4, i5, i6, i7, it⟩ := fy s T 1 i fr o hI
  have := bF s i.toNat; have := bG s i.toNat
  refine qV (h := Fx) (1, i + 1, fr, o) ?_ (gH ⟨by omega, by omega, by omega, fun _ => ls_a (fr := fr) (i := i) (by omega) (by omega) (by omega) (by assumption) (i3 (by omega)), fun h => by omega, by first | omega | (simp only [List.length_append, List.length_cons, List.length_nil]; omega), fun h => by omega, fun _ => i7 rfl, by omega⟩) (by show s.length + 1 - (i + 1).toNat < s.length + 1 - i.toNat; omega) (aB (v := St' s) rfl rfl (bT (b := ((i + 1))) rfl rfl (by omega) (aB (v := .int .i64 (fr)) rfl rfl (aB (v := aO o) rfl rfl (aI))))) runLs_p6
  unfold Fx
  exact hc (au rfl rfl (by omega)) <|hc (iV rfl rfl (by omega)) <|hc (pJ rfl rfl (by omega)) <|hc (cm rfl rfl rfl (by omega)) <|hc (ek rfl (by omega)) <|hc (bO rfl rfl (by omega)) <|hnil
theorem bA3 (hI : dt s T (1, i, fr, o)) (h0 : i ≤ (s.length : Int)) (h1 : ¬ (i = (s.length : Int))) (h2 : bt s i.toNat = 44) (h3 : ¬ (((aT (List.take (Int.toNat (i - (fr))) (List.drop fr.toNat s))).length : Int) = 0)) : eZ s T E' x' e' h' (1, i, fr, o) X := by
  obtain ⟨i0, i1, i2, i3, i4, i5, i6, i7, it⟩ := fy s T 1 i fr o hI
  have := bF s i.toNat; have := bG s i.toNat
  have := kp (l := s) (P := fr) (Q := i) (by omega)
  have := cR (List.take (Int.toNat (i - (fr))) (List.drop fr.toNat s))
  refine qV (h := Fw) (1, i + 1, i + 1, (o ++ [(aT (List.take (Int.toNat (i - (fr))) (List.drop fr.toNat s)))])) ?_ (gH ⟨by omega, by omega, by omega, fun _ => ls_b1 (fr := fr) (i := i) (by omega) (by omega) (by omega) (by assumption) (by assumption) (i3 (by omega)), fun h => by omega, by first | omega | (simp only [List.length_append, List.length_cons, List.length_nil]; omega), fun h => by omega, fun _ => by simp, by omega⟩) (by show s.length + 1 - (i + 1).toNat < s.length + 1 - i.toNat; omega) (aB (v := St' s) rfl rfl (bT (b := ((i + 1))) rfl rfl (by omega) (bT (b := ((i + 1))) rfl rfl (by omega) (aB (v := aO (o ++ [(aT (List.take (Int.toNat (i - (fr))) (List.drop fr.toNat s)))])) rfl rfl (aI))))) runLs_p7
  unfold Fw
  exact hc (au rfl rfl (by omega)) <|hc (iV rfl rfl (by omega)) <|hc (pJ rfl rfl (by omega)) <|hc (cm rfl rfl rfl (by omega)) <|hc (gZ rfl (by omega)) <|hc (ke rfl rfl rfl rfl (by omega)) <|hc (fe (s := (List.take (Int.toNat (i - (fr))) (List.drop fr.toNat s))) (aA rfl) (aE rfl)) <|hc (ck (aA rfl) (bQ (l := ([] : LB)) 0 0 rfl) (gd (iQ (by omega)))) <|hc (gN (aA rfl) (aA rfl) (aE rfl)) <|hc (gM (aA rfl) (by first | omega | (simp <;> omega)) (by first | omega | (simp <;> omega))) <|hc (bO rfl rfl (by omega)) <|hnil
theorem bA2 (hI : dt s T (1, i, fr, o)) (h0 : i ≤ (s.length : Int)) (h1 : ¬ (i = (s.length : Int))) (h2 : bt s i.toNat = 44) (h3 : ((aT (List.take (Int.toNat (i - (fr))) (List.drop fr.toNat s))).length : Int) = 0) : eZ s T E' x' e' h' (1, i, fr, o) X := by
  obtain ⟨i0, i1, i2, i3, i4, i5, i6, i7, it⟩ := fy s T 1 i fr o hI
  have := bF s i.toNat; have := bG s i.toNat
  have := kp (l := s) (P := fr) (Q := i) (by omega)
  have := cR (List.take (Int.toNat (i - (fr))) (List.drop fr.toNat s))
  refine qV (h := Fv) (1, i + 1, i + 1, o) ?_ (gH ⟨by omega, by omega, by omega, fun _ => ls_b0 (fr := fr) (i := i) (by omega) (by omega) (by omega) (by assumption) (by assumption) (i3 (by omega)), fun h => by omega, by first | omega | (simp only [List.length_append, List.length_cons, List.length_nil]; omega), fun h => by omega, fun _ => i7 rfl, by omega⟩) (by show s.length + 1 - (i + 1).toNat < s.length + 1 - i.toNat; omega) (aB (v := St' s) rfl rfl (bT (b := ((i + 1))) rfl rfl (by omega) (bT (b := ((i + 1))) rfl rfl (by omega) (aB (v := aO o) rfl rfl (aI))))) runLs_p8
  unfold Fv
  exact hc (au rfl rfl (by omega)) <|hc (iV rfl rfl (by omega)) <|hc (pJ rfl rfl (by omega)) <|hc (cm rfl rfl rfl (by omega)) <|hc (gZ rfl (by omega)) <|hc (ke rfl rfl rfl rfl (by omega)) <|hc (fe (s := (List.take (Int.toNat (i - (fr))) (List.drop fr.toNat s))) (aA rfl) (aE rfl)) <|hc (ck (aA rfl) (bQ (l := ([] : LB)) 0 0 rfl) (ev (gG (by omega)))) <|hc (bO rfl rfl (by omega)) <|hnil
theorem bA1 (hI : dt s T (1, i, fr, o)) (h0 : i ≤ (s.length : Int)) (h1 : i = (s.length : Int)) (h2 : ¬ (((aT (List.take (Int.toNat (i - (fr))) (List.drop fr.toNat s))).length : Int) = 0)) : eZ s T E' x' e' h' (1, i, fr, o) X := by
  obtain ⟨i0, i1, i2, i3, i4, i5, i6, i7, it⟩ := fy s T 1 i fr o hI
  have := kp (l := s) (P := fr) (Q := i) (by omega)
  have := cR (List.take (Int.toNat (i - (fr))) (List.drop fr.toNat s))
  refine qV (h := Fu) (1, i + 1, i + 1, (o ++ [(aT (List.take (Int.toNat (i - (fr))) (List.drop fr.toNat s)))])) ?_ (gH ⟨by omega, by omega, by omega, fun h => by omega, fun _ => ls_c1 (fr := fr) (i := i) (by omega) (by assumption) (i3 (by omega)), by first | omega | (simp only [List.length_append, List.length_cons, List.length_nil]; omega), fun h => by omega, fun _ => by simp, by omega⟩) (by show s.length + 1 - (i + 1).toNat < s.length + 1 - i.toNat; omega) (aB (v := St' s) rfl rfl (bT (b := ((i + 1))) rfl rfl (by omega) (bT (b := ((i + 1))) rfl rfl (by omega) (aB (v := aO (o ++ [(aT (List.take (Int.toNat (i - (fr))) (List.drop fr.toNat s)))])) rfl rfl (aI))))) runLs_p9
  unfold Fu
  exact hc (au rfl rfl (by omega)) <|hc (iV rfl rfl (by omega)) <|hc (lS rfl rfl (by omega)) <|hc (ke rfl rfl rfl rfl (by omega)) <|hc (fe (s := (List.take (Int.toNat (i - (fr))) (List.drop fr.toNat s))) (aA rfl) (aE rfl)) <|hc (ck (aA rfl) (bQ (l := ([] : LB)) 0 0 rfl) (gd (iQ (by omega)))) <|hc (gN (aA rfl) (aA rfl) (aE rfl)) <|hc (gM (aA rfl) (by first | omega | (simp <;> omega)) (by first | omega | (simp <;> omega))) <|hc (bO rfl rfl (by omega)) <|hnil
theorem aR3 (hI : dt s T (1, i, fr, o)) (h0 : i ≤ (s.length : Int)) (h1 : i = (s.length : Int)) (h2 : ((aT (List.take (Int.toNat (i - (fr))) (List.drop fr.toNat s))).length : Int) = 0) : eZ s T E' x' e' h' (1, i, fr, o) X := by
  obtain ⟨i0, i1, i2, i3, i4, i5, i6, i7, it⟩ := fy s T 1 i fr o hI
  have := kp (l := s) (P := fr) (Q := i) (by omega)
  have := cR (List.take (Int.toNat (i - (fr))) (List.drop fr.toNat s))
  refine qV (h := F4) (1, i + 1, i + 1, o) ?_ (gH ⟨by omega, by omega, by omega, fun h => by omega, fun _ => ls_c0 (fr := fr) (i := i) (by omega) (by assumption) (i3 (by omega)), by first | omega | (simp only [List.length_append, List.length_cons, List.length_nil]; omega), fun h => by omega, fun _ => i7 rfl, by omega⟩) (by show s.length + 1 - (i + 1).toNat < s.length + 1 - i.toNat; omega) (aB (v := St' s) rfl rfl (bT (b := ((i + 1))) rfl rfl (by omega) (bT (b := ((i + 1))) rfl rfl (by omega) (aB (v := aO o) rfl rfl (aI))))) runLs_p10
  unfold F4
  exact hc (au rfl rfl (by omega)) <|hc (iV rfl rfl (by omega)) <|hc (lS rfl rfl (by omega)) <|hc (ke rfl rfl rfl rfl (by omega)) <|hc (fe (s := (List.take (Int.toNat (i - (fr))) (List.drop fr.toNat s))) (aA rfl) (aE rfl)) <|hc (ck (aA rfl) (bQ (l := ([] : LB)) 0 0 rfl) (ev (gG (by omega)))) <|hc (bO rfl rfl (by omega)) <|hnil
end
def bD1 (s : LB) (T : List LB) : List Value := []
def roELs_0 (s : LB) (T : List LB) : List Value := []
noncomputable def ELs_0 (s : LB) (T : List LB) : Cx := cx (af (bD1 s T) (rX (roELs_0 s T) (fun _ => .bool true))) (ah (aQ (l := bD1 s T) rfl)) 1 aC aG
theorem roundsLs_0 (s : LB) (T : List LB) (c0 : s.length ≤ 1000) (x0 : T.length = 0) (st : Nat × Int × Int × List LB) (X : Nat → Value) (hI : dt s T st) : eZ s T (ELs_0 s T) (.exit 0) [(3, .aq)] [] st X := by
  obtain ⟨tag, i, fr, o⟩ := st
  have hI0 := hI
  obtain ⟨i0, i1, i2, i3, i4, i5, i6, i7, it⟩ := fy s T tag i fr o hI
  rcases (show tag = 0 ∨ tag = 1 from by omega) with rfl | rfl
  · skip
    by_cases h0 : i ≤ (s.length : Int)
    · by_cases h1 : i = (s.length : Int)
      · by_cases h2 : ((aT (List.take (Int.toNat (i - (fr))) (List.drop fr.toNat s))).length : Int) = 0
        · exact bA5 c0 hI0 h0 h1 h2
        · exact bA6 c0 hI0 h0 h1 h2
      · by_cases h2 : bt s i.toNat = 44
        · by_cases h3 : ((aT (List.take (Int.toNat (i - (fr))) (List.drop fr.toNat s))).length : Int) = 0
          · exact bA7 c0 hI0 h0 h1 h2 h3
          · exact bA8 c0 hI0 h0 h1 h2 h3
        · exact bA9 c0 hI0 h0 h1 h2
    · skip
      refine lvLs_0 (h := Fy) rfl ?_ (aI) runLs_p5
      unfold Fy
      exact hc (au rfl rfl (by omega)) <|hc (leF rfl rfl (by omega)) <|hnil
  · skip
    by_cases h0 : i ≤ (s.length : Int)
    · by_cases h1 : i = (s.length : Int)
      · by_cases h2 : ((aT (List.take (Int.toNat (i - (fr))) (List.drop fr.toNat s))).length : Int) = 0
        · exact aR3 c0 hI0 h0 h1 h2
        · exact bA1 c0 hI0 h0 h1 h2
      · by_cases h2 : bt s i.toNat = 44
        · by_cases h3 : ((aT (List.take (Int.toNat (i - (fr))) (List.drop fr.toNat s))).length : Int) = 0
          · exact bA2 c0 hI0 h0 h1 h2 h3
          · exact bA3 c0 hI0 h0 h1 h2 h3
        · exact bA4 c0 hI0 h0 h1 h2
    · exfalso; have e := congrArg List.length (i4 (by omega)); have := i7 rfl; omega
theorem lfOkLs_0 (s : LB) (T : List LB) (c0 : s.length ≤ 1000) (x0 : T.length = 0) : ax (cx nu one 1 aC aG) (ELs_0 s T) uR iZ 37 (.exit 0) 4 404 405 408 mz sj [(3, .aq)] [] (dt s T) (DLs s T) :=
  cF (mM s T) (fun _ _ => rfl) (fun _ _ => rfl) (fun _ _ => rfl) (fun st X t ht => cE.trans (cD ((by decide : ∀ t, t ∈ iZ → t < 1000000) t ht))) rfl rfl rfl ebLs rfl rfl (roundsLs_0 s T c0 x0)
def bD0 (s : LB) (T : List LB) : List Value := []
def roELs_1 (s : LB) (T : List LB) : List Value := [aO T]
noncomputable def ELs_1 (s : LB) (T : List LB) : Cx := cx (af (bD0 s T) (rX (roELs_1 s T) (fun _ => .bool true))) (ah (aQ (l := bD0 s T) rfl)) 1 aC aG
theorem roundsLs_1 (s : LB) (T : List LB) (c0 : s.length ≤ 1000) (x0 : ¬ T.length = 0) (st : Nat × Int × Int × List LB) (X : Nat → Value) (hI : dt s T st) : eZ s T (ELs_1 s T) (.exit 0) [(3, .sr 404)] [(404, .r 2000000 9 1 false)] st X := by
  obtain ⟨tag, i, fr, o⟩ := st
  have hI0 := hI
  obtain ⟨i0, i1, i2, i3, i4, i5, i6, i7, it⟩ := fy s T tag i fr o hI
  rcases (show tag = 0 ∨ tag = 1 from by omega) with rfl | rfl
  · skip
    by_cases h0 : i ≤ (s.length : Int)
    · by_cases h1 : i = (s.length : Int)
      · by_cases h2 : ((aT (List.take (Int.toNat (i - (fr))) (List.drop fr.toNat s))).length : Int) = 0
        · exact bA5 c0 hI0 h0 h1 h2
        · exact bA6 c0 hI0 h0 h1 h2
      · by_cases h2 : bt s i.toNat = 44
        · by_cases h3 : ((aT (List.take (Int.toNat (i - (fr))) (List.drop fr.toNat s))).length : Int) = 0
          · exact bA7 c0 hI0 h0 h1 h2 h3
          · exact bA8 c0 hI0 h0 h1 h2 h3
        · exact bA9 c0 hI0 h0 h1 h2
    · exfalso; have e := congrArg List.length (i4 (by omega)); rw [i6 rfl] at e; exact x0 e.symm
  · skip
    by_cases h0 : i ≤ (s.length : Int)
    · by_cases h1 : i = (s.length : Int)
      · by_cases h2 : ((aT (List.take (Int.toNat (i - (fr))) (List.drop fr.toNat s))).length : Int) = 0
        · exact aR3 c0 hI0 h0 h1 h2
        · exact bA1 c0 hI0 h0 h1 h2
      · by_cases h2 : bt s i.toNat = 44
        · by_cases h3 : ((aT (List.take (Int.toNat (i - (fr))) (List.drop fr.toNat s))).length : Int) = 0
          · exact bA2 c0 hI0 h0 h1 h2 h3
          · exact bA3 c0 hI0 h0 h1 h2 h3
        · exact bA4 c0 hI0 h0 h1 h2
    · skip
      refine lvLs_1 (h := F3) rfl ?_ (dK (v := aO o) (u := aO T) rfl rfl (congrArg aO (i4 (by omega))) (aI)) runLs_p11
      unfold F3
      exact hc (au rfl rfl (by omega)) <|hc (leF rfl rfl (by omega)) <|hnil
theorem lfOkLs_1 (s : LB) (T : List LB) (c0 : s.length ≤ 1000) (x0 : ¬ T.length = 0) : ax (cx nu one 1 aC aG) (ELs_1 s T) uR iZ 37 (.exit 0) 4 404 405 408 mz sj [(3, .sr 404)] [(404, .r 2000000 9 1 false)] (dt s T) (DLs s T) :=
  cF (mM s T) (fun _ _ => rfl) (fun _ _ => rfl) (fun _ _ => rfl) (fun st X t ht => cE.trans (cD ((by decide : ∀ t, t ∈ iZ → t < 1000000) t ht))) rfl rfl rfl ebLs rfl rfl (roundsLs_1 s T c0 x0)
noncomputable def lM : FI := (bB.fn.get 35).getD default
theorem tU : bB.fn.get 35 = some lM := by kernel_rfl
theorem o4 : lM.body = some (Tryd.f35.body.getD .skip) := by kernel_rfl
theorem fiB35 : lM.body.isSome = true := by rw [o4]; rfl
theorem Ia : (br (Tryd.f35.body.getD .skip)).all (fun b => !(hM (Go.AX.keyOf b) 8888888)) = true := by kernel_rfl
def BM : List AV := [.x 0]
def og : LE := []
def nuLsr (s : LB) : List Value := [St' s]
def roLsr (s : LB) : List Value := [aO ([] : List LB), aO ([] : List LB), aO (bD [] s)]
noncomputable def qN (s : LB) : Cx := cx (af (nuLsr s) (rX (roLsr s) (fun _ => .bool true))) (ah (aQ (l := nuLsr s) rfl)) 1 aC aG
def Fo : LK := []
def lh21 : LH := ⟨4, 404, 408, [], []⟩
def lf21 : LF := ⟨4, 37, [(0, .x 0), (3, .aq), (4, I6 0), (5, I6 0)], [], (.exit 0), [(3, .aq)], some lh21⟩
noncomputable def aO6 : Tab := bI ((aV Fo)) 35 lM [lf21]
theorem runLsr_c0 (e : Unit) : fA (call aO6 2000 35 BM ⟨ay og ((fun _ : Unit => T.leaf) e), 404, 0, 0⟩) (.aq) [] [] 404 424 [] = true := by kernel_rfl
def Fm : LK := []
def lh22 : LH := ⟨4, 404, 408, [], [(404, .r 2000002 9 1 false)]⟩
def lf22 : LF := ⟨4, 37, [(0, .x 0), (3, .aq), (4, I6 0), (5, I6 0)], [], (.exit 0), [(3, .sr 404)], some lh22⟩
noncomputable def aO5 : Tab := bI ((aV Fm)) 35 lM [lf22]
theorem runLsr_c1 (e : Unit) : fA (call aO5 2000 35 BM ⟨ay og ((fun _ : Unit => T.leaf) e), 404, 0, 0⟩) (.sr 404) [(2000000, .x 2000002)] [(404, 404)] 404 424 [(404, .r 2000000 9 1 false)] = true := by kernel_rfl
def aS4 (s : LB) : List Value := []
def roELsr_0 (s : LB) : List Value := []
noncomputable def ELsr_0 (s : LB) : Cx := cx (af (aS4 s) (rX (roELsr_0 s) (fun _ => .bool true))) (ah (aQ (l := aS4 s) rfl)) 1 aC aG
theorem cfLsr_0 {l : LF} {h : LH} {q : Nat × AV} (s : LB) (p0 : s.length ≤ 1000) (x0 : (bD [] s).length = 0) (hl : l.hp = some h) (hq : l.post = [q]) (hs : lX l h 4 404 424 = true) {ao : LA} {aj : List (Nat × Nat)} (cq : aw (cx nu one 1 aC aG) (qN s) ao) (h0 : (iu ao (cb 404 404 aj) BM (l.pre.map (·.2)) && cf 404 404 ao aj (ay h.pre .leaf) og && cd (numsOf 404 aj og)) = true) {ak : LA} (cn : aw (ELsr_0 s) (cx nu one 1 aC aG) ak) (hx : (inA ak (cb 404 424 []) 8 q.2 (.aq) && cf 404 424 ak [] (ay [] .leaf) h.post && cd (numsOf 404 [] h.post)) = true) : ey (cx nu one 1 aC aG) 35 l := by
  by_cases d0 : (bD [] s).length = 0
  · skip
    have ho : ∀ a' r', (a', r') ∈ Fo → aL (qN s) a' r' := by
      unfold Fo
      exact hnil
    exact ga (D := qN s) (E := ELsr_0 s) (Gf := (fun _ : Unit => T.leaf)) (f := 2000) (tb := aO6) rfl rfl rfl rfl rfl rfl hl hq hs rfl cq h0 cn hx (ar.bS ((ae _ _).hyps ho) (by omega) tU o4 (bH (bR rfl ⟨0, keyLs, ax.use (l := lf21) (h := lh21) (lfOkLs_0 s (bD [] s) (by omega) (by assumption)) (0, (0 : Int), (0 : Int), ([] : List LB)) (gH ⟨by omega, by omega, by omega, fun _ => rfl, fun h => by omega, by simp, fun _ => rfl, fun h => by omega, by omega⟩) rfl (by kernel_rfl) (ao := [(0, .x 0), (1, I6 0), (2, I6 0)]) (aj := []) (fun X => aB (v := St' s) rfl rfl (bK (show Is _ (I6 0) (.int .i64 ((0 : Int))) from bL (v := .int .i64 0) (bP _ _) (by first | rfl | (congr 1; omega))) (bK (show Is _ (I6 0) (.int .i64 ((0 : Int))) from bL (v := .int .i64 0) (bP _ _) (by first | rfl | (congr 1; omega))) (aI)))) (by kernel_rfl) (ak := []) (aI) (by kernel_rfl)⟩) bE)) rfl (cP (by omega)) fiB35 (.inl ⟨fun _ => rfl, ⟨()⟩⟩) (aI) runLsr_c0
  · exfalso; omega
def aS3 (s : LB) : List Value := []
def roELsr_1 (s : LB) : List Value := [aO (bD [] s)]
noncomputable def ELsr_1 (s : LB) : Cx := cx (af (aS3 s) (rX (roELsr_1 s) (fun _ => .bool true))) (ah (aQ (l := aS3 s) rfl)) 1 aC aG
theorem bG2 {l : LF} {h : LH} {q : Nat × AV} (s : LB) (p0 : s.length ≤ 1000) (x0 : ¬ (bD [] s).length = 0) (hl : l.hp = some h) (hq : l.post = [q]) (hs : lX l h 4 404 424 = true) {ao : LA} {aj : List (Nat × Nat)} (cq : aw (cx nu one 1 aC aG) (qN s) ao) (h0 : (iu ao (cb 404 404 aj) BM (l.pre.map (·.2)) && cf 404 404 ao aj (ay h.pre .leaf) og && cd (numsOf 404 aj og)) = true) {ak : LA} (cn : aw (ELsr_1 s) (cx nu one 1 aC aG) ak) (hx : (inA ak (cb 404 424 []) 8 q.2 (.sr 404) && cf 404 424 ak [] (ay [(404, .r 2000000 9 1 false)] .leaf) h.post && cd (numsOf 404 [] h.post)) = true) : ey (cx nu one 1 aC aG) 35 l := by
  by_cases d0 : (bD [] s).length = 0
  · exfalso; omega
  · skip
    have ho : ∀ a' r', (a', r') ∈ Fm → aL (qN s) a' r' := by
      unfold Fm
      exact hnil
    exact ga (D := qN s) (E := ELsr_1 s) (Gf := (fun _ : Unit => T.leaf)) (f := 2000) (tb := aO5) rfl rfl rfl rfl rfl rfl hl hq hs rfl cq h0 cn hx (ar.bS ((ae _ _).hyps ho) (by omega) tU o4 (bH (bR rfl ⟨0, keyLs, ax.use (l := lf22) (h := lh22) (lfOkLs_1 s (bD [] s) (by omega) (by assumption)) (0, (0 : Int), (0 : Int), ([] : List LB)) (gH ⟨by omega, by omega, by omega, fun _ => rfl, fun h => by omega, by simp, fun _ => rfl, fun h => by omega, by omega⟩) rfl (by kernel_rfl) (ao := [(0, .x 0), (1, I6 0), (2, I6 0)]) (aj := []) (fun X => aB (v := St' s) rfl rfl (bK (show Is _ (I6 0) (.int .i64 ((0 : Int))) from bL (v := .int .i64 0) (bP _ _) (by first | rfl | (congr 1; omega))) (bK (show Is _ (I6 0) (.int .i64 ((0 : Int))) from bL (v := .int .i64 0) (bP _ _) (by first | rfl | (congr 1; omega))) (aI)))) (by kernel_rfl) (ak := [(2000002, .x 2000000)]) (aB (v := aO (bD [] s)) rfl rfl (aI)) (by kernel_rfl)⟩) bE)) rfl (cP (by omega)) fiB35 (.inl ⟨fun _ => rfl, ⟨()⟩⟩) (aB (v := aO (bD [] s)) rfl rfl (aI)) runLsr_c1
end Go.Proofs.YtjkdkpdjmapieaaDoor.fieldTells

