/- A part of the proof: an interpreter of the model's own code on partly known states, and that what it answers is what the program answers. No condition of its own. -/
import Derived.Test.YtacflaaahanhgaaDoorC2OctetTellsO8
set_option maxRecDepth 100000
set_option linter.unusedVariables false
set_option linter.unusedSimpArgs false
set_option maxHeartbeats 4000000
namespace Go.Proofs.YtacflaaahanhgaaDoor.octetTells
open Go Go.AX Go.Proofs Go.Proofs.YtacflaaahanhgaaDoor
variable {nu : Nat → Value} {one : ∀ i, i < 1000000 → (nu i).oneCell' = true} {E' : Cx} {x' : Ex} {e' : LA} {h' : LE}
def keepQ (c : LB) : List LB := if (trQ c).length = 0 then [] else [trQ c]
def lsQ : LB → LB → List LB
  | cur, [] => keepQ cur
  | cur, c :: r => if c = 44 then keepQ cur ++ lsQ [] r else lsQ (cur ++ [c]) r
def md (s : LB) (a b : Int) : LB := List.take (Int.toNat (b - (a))) (List.drop (Int.toNat (a)) s)
theorem trQ_len (l : LB) : (trQ l).length ≤ l.length := Nat.le_trans (trR_len _) (trL_len _)
theorem keepQ_yes {c : LB} (h : ¬ (trQ c).length = 0) : keepQ c = [trQ c] := if_neg h
theorem keepQ_no {c : LB} (h : (trQ c).length = 0) : keepQ c = [] := if_pos h
theorem ls_drop {l : LB} {i : Nat} (hi : i < l.length) : l.drop i = u8 (bt l i) :: l.drop (i + 1) := by
  rw [List.drop_eq_getElem_cons hi, u8_bt, List.getD_eq_getElem?_getD, List.getElem?_eq_getElem hi, Option.getD_some]
theorem md_nil {s : LB} {a : Int} : md s a a = [] := by unfold md; rw [show (a - a).toNat = 0 by omega]; rfl
theorem md_succ {s : LB} {fr i : Int} (h0 : 0 ≤ fr) (h1 : fr ≤ i) (h2 : i < s.length) : md s fr (i + 1) = md s fr i ++ [u8 (bt s i.toNat)] := by
  unfold md
  have e : (i + 1 - fr).toNat = (i - fr).toNat + 1 := by omega
  have hl : (i - fr).toNat < (s.drop fr.toNat).length := by rw [List.length_drop]; omega
  rw [e, List.take_succ_eq_append_getElem hl, u8_bt, List.getElem_drop, List.getD_eq_getElem?_getD, List.getElem?_eq_getElem (by omega), Option.getD_some]
  congr 3; congr 1; omega
theorem u8_44 {c : Int} (h0 : 0 ≤ c) (h1 : c ≤ 255) : (u8 c = 44) ↔ c = 44 := by
  constructor
  · intro h
    have := congrArg (fun b : UInt8 => (b.toNat : Int)) h
    simp only [u8_toNat h0 h1] at this
    exact this
  · rintro rfl; rfl
section
variable {s : LB} {o T : List LB} {fr i : Int}
theorem ls_a (h0 : 0 ≤ fr) (h1 : fr ≤ i) (h2 : i < s.length) (hc : ¬ bt s (Int.toNat (i)) = 44) (h : o ++ lsQ (md s fr i) (s.drop (Int.toNat (i))) = T) : o ++ lsQ (md s fr (i + 1)) (s.drop (Int.toNat (i + 1))) = T := by
  rw [← h, ls_drop (i := i.toNat) (by omega), lsQ, if_neg (fun e => hc ((u8_44 (bt_lo _ _) (bt_hi _ _)).1 e)), md_succ h0 h1 h2, show (i + 1).toNat = i.toNat + 1 by omega]
theorem ls_at (h0 : 0 ≤ fr) (h1 : fr ≤ i) (h2 : i < s.length) (hc : bt s (Int.toNat (i)) = 44) : lsQ (md s fr i) (s.drop (Int.toNat (i))) = keepQ (md s fr i) ++ lsQ (md s (i + 1) (i + 1)) (s.drop (Int.toNat (i + 1))) := by
  rw [ls_drop (i := i.toNat) (by omega), lsQ, if_pos ((u8_44 (bt_lo _ _) (bt_hi _ _)).2 hc), md_nil, show (i + 1).toNat = i.toNat + 1 by omega]
theorem ls_b1 (h0 : 0 ≤ fr) (h1 : fr ≤ i) (h2 : i < s.length) (hc : bt s (Int.toNat (i)) = 44) (hk : ¬ ((trQ (md s fr i)).length : Int) = 0) (h : o ++ lsQ (md s fr i) (s.drop (Int.toNat (i))) = T) : (o ++ [trQ (md s fr i)]) ++ lsQ (md s (i + 1) (i + 1)) (s.drop (Int.toNat (i + 1))) = T := by
  rw [← h, ls_at h0 h1 h2 hc, keepQ_yes (by omega), List.append_assoc]
theorem ls_b0 (h0 : 0 ≤ fr) (h1 : fr ≤ i) (h2 : i < s.length) (hc : bt s (Int.toNat (i)) = 44) (hk : ((trQ (md s fr i)).length : Int) = 0) (h : o ++ lsQ (md s fr i) (s.drop (Int.toNat (i))) = T) : o ++ lsQ (md s (i + 1) (i + 1)) (s.drop (Int.toNat (i + 1))) = T := by
  rw [← h, ls_at h0 h1 h2 hc, keepQ_no (by omega), List.nil_append]
theorem ls_last (he : i = s.length) : lsQ (md s fr i) (s.drop (Int.toNat (i))) = keepQ (md s fr i) := by
  rw [List.drop_eq_nil_of_le (by omega), lsQ]
theorem ls_c1 (he : i = s.length) (hk : ¬ ((trQ (md s fr i)).length : Int) = 0) (h : o ++ lsQ (md s fr i) (s.drop (Int.toNat (i))) = T) : o ++ [trQ (md s fr i)] = T := by
  rw [← h, ls_last he, keepQ_yes (by omega)]
theorem ls_c0 (he : i = s.length) (hk : ((trQ (md s fr i)).length : Int) = 0) (h : o ++ lsQ (md s fr i) (s.drop (Int.toNat (i))) = T) : o = T := by
  rw [← h, ls_last he, keepQ_no (by omega), List.append_nil]
end
def lsI : LB → LB → List LB × LB
  | cur, [] => ([], cur)
  | cur, c :: r => if c = 44 then (keepQ cur ++ (lsI [] r).1, (lsI [] r).2) else lsI (cur ++ [c]) r
theorem lsI_Q : ∀ (s cur : LB), lsQ cur s = (lsI cur s).1 ++ keepQ (lsI cur s).2
  | [], cur => rfl
  | c :: r, cur => by
    unfold lsQ lsI
    split
    · rw [lsI_Q r []]; simp
    · exact lsI_Q r _
theorem keepQ_len (c : LB) : (keepQ c).length ≤ 1 := by unfold keepQ; split <;> simp
theorem lsI_len : ∀ (s cur : LB), (lsI cur s).1.length ≤ s.length ∧ (lsI cur s).2.length ≤ cur.length + s.length
  | [], cur => by simp [lsI]
  | c :: r, cur => by
    unfold lsI
    split
    · have := lsI_len r []; have := keepQ_len cur
      simp only [List.length_append, List.length_cons, List.length_nil] at *; omega
    · have := lsI_len r (cur ++ [c])
      simp only [List.length_append, List.length_cons, List.length_nil] at *; omega
theorem ix_bd (l : LB) (c : Int) : -1 ≤ idxB l c ∧ idxB l c < (l.length : Int) := by
  unfold idxB
  induction l with
  | nil => simp [Lib.indexByte]
  | cons b l ih =>
    unfold Lib.indexByte
    split
    · simp only [List.length_cons]; omega
    · split
      · simp only [List.length_cons]; omega
      · simp only [List.length_cons]; omega
theorem lsI_no : ∀ (l cur : LB), idxB l 44 < 0 → lsI cur l = ([], cur ++ l)
  | [], cur, _ => by simp [lsI]
  | b :: l, cur, h => by
    unfold idxB at h
    unfold Lib.indexByte at h
    have h44 : u8 44 = 44 := rfl
    rw [h44] at h
    split at h
    · exact absurd h (by decide)
    · rename_i hb
      have hne : ¬ b = 44 := by simpa using hb
      have hl : idxB l 44 < 0 := by
        unfold idxB; rw [h44]
        split at h
        · rename_i h1; rw [beq_iff_eq] at h1; omega
        · have := Lib.indexByte_ge l 44; omega
      rw [lsI, if_neg hne, lsI_no l _ hl]; simp
theorem lsI_at : ∀ (l cur : LB), 0 ≤ idxB l 44 → lsI cur l = (keepQ (cur ++ l.take (idxB l 44).toNat) ++ (lsI [] (l.drop (idxB l 44 + 1).toNat)).1, (lsI [] (l.drop (idxB l 44 + 1).toNat)).2)
  | [], cur, h => absurd h (by decide)
  | b :: l, cur, h => by
    have h44 : u8 44 = 44 := rfl
    by_cases hb : b = 44
    · have e : idxB (b :: l) 44 = 0 := by unfold idxB Lib.indexByte; rw [h44, hb]; rfl
      rw [e]; subst hb
      rw [lsI, if_pos rfl]; simp
    · have hb' : (b == (44 : UInt8)) = false := by simpa using hb
      have e : idxB (b :: l) 44 = if Lib.indexByte l 44 == -1 then -1 else Lib.indexByte l 44 + 1 := by
        unfold idxB; rw [h44]; show Lib.indexByte (b :: l) 44 = _
        rw [Lib.indexByte, hb']; rfl
      have hl : idxB l 44 = Lib.indexByte l 44 := by unfold idxB; rw [h44]
      have h0 : 0 ≤ idxB l 44 ∧ idxB (b :: l) 44 = idxB l 44 + 1 := by
        rw [e] at h ⊢
        rw [hl]
        split at h
        · exact absurd h (by decide)
        · rename_i h1
          have := Lib.indexByte_ge l 44
          have h2 : ¬ Lib.indexByte l 44 = -1 := by simpa using h1
          rw [if_neg h1]
          omega
      rw [lsI, if_neg hb, lsI_at l _ h0.1, h0.2]
      have e1 : (idxB l 44 + 1).toNat = (idxB l 44).toNat + 1 := by omega
      have e2 : (idxB l 44 + 1 + 1).toNat = (idxB l 44 + 1).toNat + 1 := by omega
      rw [e2, List.drop_succ_cons, e1, List.take_succ_cons]; simp
theorem lsq_len (s : LB) : ((trQ (lsI [] s).2).length = 0 ∧ (lsQ [] s).length = (lsI [] s).1.length) ∨ (¬ (trQ (lsI [] s).2).length = 0 ∧ (lsQ [] s).length = (lsI [] s).1.length + 1) := by
  rw [lsI_Q]
  by_cases h : (trQ (lsI [] s).2).length = 0
  · left; refine ⟨h, ?_⟩; rw [keepQ_no h]; simp
  · right; refine ⟨h, ?_⟩; rw [keepQ_yes h]; simp
section
variable {r Tr : LB} {o To : List LB}
theorem sp_k (h : 0 ≤ idxB r 44) (h1 : o ++ (lsI [] r).1 = To) : o ++ keepQ (r.take (idxB r 44).toNat) ++ (lsI [] (r.drop (idxB r 44 + 1).toNat)).1 = To := by
  rw [← h1, lsI_at r [] h, List.append_assoc]; rfl
theorem sp_1 (h : 0 ≤ idxB r 44) (hk : ¬ ((trQ (r.take (idxB r 44).toNat)).length : Int) = 0) (h1 : o ++ (lsI [] r).1 = To) : (o ++ [trQ (r.take (idxB r 44).toNat)]) ++ (lsI [] (r.drop (idxB r 44 + 1).toNat)).1 = To := by
  have := sp_k h h1; rw [keepQ_yes (by omega)] at this; exact this
theorem sp_0 (h : 0 ≤ idxB r 44) (hk : ((trQ (r.take (idxB r 44).toNat)).length : Int) = 0) (h1 : o ++ (lsI [] r).1 = To) : o ++ (lsI [] (r.drop (idxB r 44 + 1).toNat)).1 = To := by
  have := sp_k h h1; rw [keepQ_no (by omega), List.append_nil] at this; exact this
theorem sp_eq (he : [u8 44] = r) : idxB r 44 = 0 := by subst he; rfl
theorem sp_0e (he : [u8 44] = r) (h1 : o ++ (lsI [] r).1 = To) : o ++ (lsI [] (r.drop (Int.toNat (1)))).1 = To := by
  have h := sp_eq he
  have hk : ((trQ (r.take (idxB r 44).toNat)).length : Int) = 0 := by
    rw [h]; rfl
  have := sp_0 (by omega) hk h1
  rw [h] at this; exact this
theorem sp_te (he : [u8 44] = r) (h1 : (lsI [] r).2 = Tr) : (lsI [] (r.drop (Int.toNat (1)))).2 = Tr := by
  have h := sp_eq he
  rw [← h1, lsI_at r [] (by omega), h]; rfl
theorem sp_t (h : 0 ≤ idxB r 44) (h1 : (lsI [] r).2 = Tr) : (lsI [] (r.drop (idxB r 44 + 1).toNat)).2 = Tr := by
  rw [← h1, lsI_at r [] h]
theorem sp_o (h : idxB r 44 < 0) (h1 : o ++ (lsI [] r).1 = To) : o = To := by rw [← h1, lsI_no r [] h]; simp
theorem sp_r (h : idxB r 44 < 0) (h1 : (lsI [] r).2 = Tr) : r = Tr := by rw [← h1, lsI_no r [] h]; rfl
end
theorem exFIx : Tryd.prog.funcs[117]? = some Tryd.f117 := Tryd.func117
theorem exAIx : (Extern.findNext Tryd.f117).isNone = true := by kernel_rfl
theorem exBIx : Extern.find Tryd.f117 = some Extern.BytealgIndexByte.indexByte := by kernel_rfl
noncomputable def bodySp7 : Code := loopNo (Tryd.f124.body.getD .skip) 1
theorem keySp7 : oneKey (loopsOf (Tryd.f124.body.getD .skip)) 5 1 0 = true := by kernel_rfl
def keepSp7 : List Nat := []
def epSp7_0 : LA := [(0, .yl 11), (1, .p 9 0), (2, .p 8 0), (3, .p 10 0), (9, .s 1 44)]
def hpSp7_0 : LE := [(7, .b ⟨35, .l [.nils], 0, 0, 0, false, false⟩), (8, .b ⟨9, .l [.x 0], 0, 0, 0, false, false⟩), (9, .b ⟨9, .l [.s 1 44], 0, 0, 0, false, false⟩), (10, .b ⟨3, .l [.i .i64 (.ofNat 0)], 0, 0, 0, false, false⟩), (11, .k 30 [(3, .p 7 0)] 17 0 .normal)]
def nuSp7_0 (To : List LB) (Tr r : LB) (o : List LB) : List Value := [St' r, .int .i64 (idxB r 44), .int .i64 ((idxB r 44)), St' (List.take (Int.toNat ((idxB r 44))) r), St' (trQ (List.take (Int.toNat ((idxB r 44))) r)), .int .i64 ((idxB r 44) + 1), St' (List.drop (Int.toNat ((idxB r 44) + 1)) r), .int .i64 (idxB r 44), .int .i64 ((idxB r 44)), St' (List.take (Int.toNat ((idxB r 44))) r), St' (trQ (List.take (Int.toNat ((idxB r 44))) r)), .int .i64 ((idxB r 44) + 1), St' (List.drop (Int.toNat ((idxB r 44) + 1)) r), .int .i64 (idxB r 44), St' (List.take (Int.toNat (0)) r), St' (trQ (List.take (Int.toNat (0)) r)), St' (List.drop (Int.toNat (1)) r)]
def roSp7_0 (To : List LB) (Tr r : LB) (o : List LB) : List Value := [rwS ([] : List LB), rwS (([] : List LB) ++ [(trQ (List.take (Int.toNat ((idxB r 44))) r))]), rwS ([] : List LB), rwS ([] : List LB), rwS ([] : List LB)]
def epSp7_1 : LA := [(0, .yl 11), (1, .p 9 0), (2, .p 8 0), (3, .p 10 0), (9, .s 1 44)]
def hpSp7_1 : LE := [(7, .b ⟨35, .l [.sr 12], 0, 0, 0, false, false⟩), (8, .b ⟨9, .l [.x 0], 0, 0, 0, false, false⟩), (9, .b ⟨9, .l [.s 1 44], 0, 0, 0, false, false⟩), (10, .b ⟨3, .l [.i .i64 (.ofNat 0)], 0, 0, 0, false, false⟩), (11, .k 30 [(3, .p 7 0)] 17 0 .normal), (12, .r 2000000 9 1 false)]
def nuSp7_1 (To : List LB) (Tr r : LB) (o : List LB) : List Value := [St' r, .int .i64 (idxB r 44), .int .i64 ((idxB r 44)), St' (List.take (Int.toNat ((idxB r 44))) r), St' (trQ (List.take (Int.toNat ((idxB r 44))) r)), .int .i64 ((idxB r 44) + 1), St' (List.drop (Int.toNat ((idxB r 44) + 1)) r), .int .i64 (idxB r 44), .int .i64 ((idxB r 44)), St' (List.take (Int.toNat ((idxB r 44))) r), St' (trQ (List.take (Int.toNat ((idxB r 44))) r)), .int .i64 ((idxB r 44) + 1), St' (List.drop (Int.toNat ((idxB r 44) + 1)) r), .int .i64 (idxB r 44), St' (List.take (Int.toNat (0)) r), St' (trQ (List.take (Int.toNat (0)) r)), St' (List.drop (Int.toNat (1)) r)]
def roSp7_1 (To : List LB) (Tr r : LB) (o : List LB) : List Value := [rwS o, rwS ([] : List LB), rwS (o ++ [(trQ (List.take (Int.toNat ((idxB r 44))) r))]), rwS ([] : List LB), rwS ([] : List LB), rwS ([] : List LB)]
def epSp7 (st : Nat × LB × List LB) : LA := if st.1 = 0 then epSp7_0 else epSp7_1
def hpSp7 (st : Nat × LB × List LB) : LE := if st.1 = 0 then hpSp7_0 else hpSp7_1
def nuSp7 (To : List LB) (Tr : LB) (st : Nat × LB × List LB) : List Value := if st.1 = 0 then nuSp7_0 To Tr (st.2.1) (st.2.2) else nuSp7_1 To Tr (st.2.1) (st.2.2)
def roSp7 (To : List LB) (Tr : LB) (st : Nat × LB × List LB) : List Value := if st.1 = 0 then roSp7_0 To Tr (st.2.1) (st.2.2) else roSp7_1 To Tr (st.2.1) (st.2.2)
theorem onSp7 (To : List LB) (Tr : LB) (st : Nat × LB × List LB) : ∀ j, (nuL (nuSp7 To Tr st) j).oneCell' = true := by
  intro j
  unfold nuSp7
  split
  · exact nuL_one (l := nuSp7_0 To Tr (st.2.1) (st.2.2)) rfl j
  exact nuL_one (l := nuSp7_1 To Tr (st.2.1) (st.2.2)) rfl j
theorem ebSp7 (st : Nat × LB × List LB) : (lfB (epSp7 st) && lfC keepSp7) = true := by
  unfold epSp7
  split
  · rfl
  rfl
noncomputable def DSp7 (To : List LB) (Tr : LB) (st : Nat × LB × List LB) (X : Nat → Value) : Cx := cx (nuX (nuSp7 To Tr st) (rX (roSp7 To Tr st) X)) (nuX_one (onSp7 To Tr st)) 1 laidE laidE_stab
def InvSp7 (To : List LB) (Tr : LB) (st : Nat × LB × List LB) : Prop := ((st.2.2) ++ (lsI [] (st.2.1)).1 = To) ∧ ((lsI [] (st.2.1)).2 = Tr) ∧ ((st.2.1).length ≤ 400) ∧ ((st.2.2).length + (st.2.1).length ≤ 401) ∧ ((st.1) = 0 → (st.2.2) = []) ∧ ((st.1) = 1 → 1 ≤ (st.2.2).length) ∧ ((st.1) < 2)
abbrev CjSp7 (To : List LB) (Tr : LB) (tag : Nat) (r : LB) (o : List LB) : Prop := (o ++ (lsI [] r).1 = To) ∧ ((lsI [] r).2 = Tr) ∧ (r.length ≤ 400) ∧ (o.length + r.length ≤ 401) ∧ (tag = 0 → o = []) ∧ (tag = 1 → 1 ≤ o.length) ∧ (tag < 2)
theorem mkISp7 (To : List LB) (Tr : LB) (tag : Nat) (r : LB) (o : List LB) (h : CjSp7 To Tr tag r o) : InvSp7 To Tr (tag, r, o) := h
theorem unISp7 (To : List LB) (Tr : LB) (tag : Nat) (r : LB) (o : List LB) (h : InvSp7 To Tr (tag, r, o)) : (o ++ (lsI [] r).1 = To) ∧ ((lsI [] r).2 = Tr) ∧ (r.length ≤ 400) ∧ (o.length + r.length ≤ 401) ∧ (tag = 0 → o = []) ∧ (tag = 1 → 1 ≤ o.length) ∧ (tag < 2) := h
def muSp7 (To : List LB) (Tr : LB) (st : Nat × LB × List LB) : Nat := (st.2.1).length
abbrev RHSp7 (To : List LB) (Tr : LB) (E' : Cx) (ex' : Ex) (epx' : LA) (hpx' : LE) (st : Nat × LB × List LB) (X : Nat → Value) : Prop := RoundH E' bodySp7 keepSp7 52 ex' 7 12 13 24 epSp7 hpSp7 epx' hpx' (InvSp7 To Tr) (muSp7 To Tr) (DSp7 To Tr) st X
noncomputable abbrev RNSp7_0 (h : LK) (x : Ex) (th : LA) (sg : List (Nat × Nat)) (m : Nat) (ep : LA) (hp : LE) : Bool := okRdH (code (tbl h) 2000 [] bodySp7 (envOf (headOf epSp7_0 keepSp7) 52) ⟨lhSet hpSp7_0 .leaf, 13, 0, 0⟩) x keepSp7 52 24 th sg 12 m ep hp
theorem stSp7_0 (To : List LB) (Tr r : LB) (o : List LB) {X : Nat → Value} {h : LK} (y : Nat × LB × List LB) {th : LA} {sg : List (Nat × Nat)} (ho : ∀ a' r', (a', r') ∈ h → HOk (cx (nuX (nuSp7_0 To Tr r o) (rX (roSp7_0 To Tr r o) X)) (nuX_one (nuL_one (l := nuSp7_0 To Tr r o) rfl)) 1 laidE laidE_stab) a' r') (hy : InvSp7 To Tr y) (lt : muSp7 To Tr y < muSp7 To Tr (0, r, o)) (ht : ThOk (cx (nuX (nuSp7_0 To Tr r o) (rX (roSp7_0 To Tr r o) X)) (nuX_one (nuL_one (l := nuSp7_0 To Tr r o) rfl)) 1 laidE laidE_stab) (DSp7 To Tr y X) th) (run : RNSp7_0 h .normal th sg 13 (epSp7 y) (hpSp7 y) = true) : RHSp7 To Tr E' x' e' h' (0, r, o) X :=
  RoundH.next (tb := tbl h) (L := []) (f := 2000) y ((tabkOk _ _).hyps ho) (LpOk.nil _) rfl hy lt ht run
theorem lvSp7_0 (To : List LB) (Tr r : LB) (o : List LB) {X : Nat → Value} {h : LK} {th : LA} {sg : List (Nat × Nat)} (hne : exB x' .normal = false) (ho : ∀ a' r', (a', r') ∈ h → HOk (cx (nuX (nuSp7_0 To Tr r o) (rX (roSp7_0 To Tr r o) X)) (nuX_one (nuL_one (l := nuSp7_0 To Tr r o) rfl)) 1 laidE laidE_stab) a' r') (ht : ThOk (cx (nuX (nuSp7_0 To Tr r o) (rX (roSp7_0 To Tr r o) X)) (nuX_one (nuL_one (l := nuSp7_0 To Tr r o) rfl)) 1 laidE laidE_stab) E' th) (run : RNSp7_0 h x' th sg 24 e' h' = true) : RHSp7 To Tr E' x' e' h' (0, r, o) X :=
  RoundH.leave (tb := tbl h) (L := []) (f := 2000) ((tabkOk _ _).hyps ho) (LpOk.nil _) rfl hne ht run
noncomputable abbrev RNSp7_1 (h : LK) (x : Ex) (th : LA) (sg : List (Nat × Nat)) (m : Nat) (ep : LA) (hp : LE) : Bool := okRdH (code (tbl h) 2000 [] bodySp7 (envOf (headOf epSp7_1 keepSp7) 52) ⟨lhSet hpSp7_1 .leaf, 13, 0, 0⟩) x keepSp7 52 24 th sg 12 m ep hp
theorem stSp7_1 (To : List LB) (Tr r : LB) (o : List LB) {X : Nat → Value} {h : LK} (y : Nat × LB × List LB) {th : LA} {sg : List (Nat × Nat)} (ho : ∀ a' r', (a', r') ∈ h → HOk (cx (nuX (nuSp7_1 To Tr r o) (rX (roSp7_1 To Tr r o) X)) (nuX_one (nuL_one (l := nuSp7_1 To Tr r o) rfl)) 1 laidE laidE_stab) a' r') (hy : InvSp7 To Tr y) (lt : muSp7 To Tr y < muSp7 To Tr (1, r, o)) (ht : ThOk (cx (nuX (nuSp7_1 To Tr r o) (rX (roSp7_1 To Tr r o) X)) (nuX_one (nuL_one (l := nuSp7_1 To Tr r o) rfl)) 1 laidE laidE_stab) (DSp7 To Tr y X) th) (run : RNSp7_1 h .normal th sg 13 (epSp7 y) (hpSp7 y) = true) : RHSp7 To Tr E' x' e' h' (1, r, o) X :=
  RoundH.next (tb := tbl h) (L := []) (f := 2000) y ((tabkOk _ _).hyps ho) (LpOk.nil _) rfl hy lt ht run
theorem lvSp7_1 (To : List LB) (Tr r : LB) (o : List LB) {X : Nat → Value} {h : LK} {th : LA} {sg : List (Nat × Nat)} (hne : exB x' .normal = false) (ho : ∀ a' r', (a', r') ∈ h → HOk (cx (nuX (nuSp7_1 To Tr r o) (rX (roSp7_1 To Tr r o) X)) (nuX_one (nuL_one (l := nuSp7_1 To Tr r o) rfl)) 1 laidE laidE_stab) a' r') (ht : ThOk (cx (nuX (nuSp7_1 To Tr r o) (rX (roSp7_1 To Tr r o) X)) (nuX_one (nuL_one (l := nuSp7_1 To Tr r o) rfl)) 1 laidE laidE_stab) E' th) (run : RNSp7_1 h x' th sg 24 e' h' = true) : RHSp7 To Tr E' x' e' h' (1, r, o) X :=
  RoundH.leave (tb := tbl h) (L := []) (f := 2000) ((tabkOk _ _).hyps ho) (LpOk.nil _) rfl hne ht run
def hySp7_p0 : LK := [(.rn, .x 2000000), (.bin .eql (.s 1 44) (.x 0), .b false), (.ext 117 [.x 0, .i .u8 (.ofNat 44)], .x 1), (.bin .lss (.x 1) (.i .i64 (.ofNat 0)), .b false), (.bin .add (.x 1) (.i .i64 (.ofNat 0)), .x 2), (.sub (.x 0) none (some (.x 2)), .x 3), (.call 65 [.x 3, .s 2 2336], .x 4), (.bin .neq (.x 4) (.s 0 0), .b true), (.ra (.x 2000000) [.x 4], .x 2000001), (.rf (.x 2000001) 1 16, .b true), (.bin .add (.x 1) (.i .i64 (.ofNat 1)), .x 5), (.sub (.x 0) (some (.x 5)) none, .x 6)]
theorem runSp7_p0 : RNSp7_0 hySp7_p0 .normal [(0, .x 6), (2000000, .x 2000001)] [(12, 14)] 13 epSp7_1 hpSp7_1 = true := by kernel_rfl
theorem nxSp7_p0 (To : List LB) (Tr : LB) (r : LB) (o : List LB) (X : Nat → Value) (hI : InvSp7 To Tr (0, r, o)) (h0 : ¬ ([u8 44] = r)) (h1 : ¬ (idxB r 44 < 0)) (h2 : ¬ (((trQ (List.take (Int.toNat ((idxB r 44))) r)).length : Int) = 0)) : RHSp7 To Tr E' x' e' h' (0, r, o) X := by
  obtain ⟨i0, i1, i2, i3, i4, i5, it⟩ := unISp7 To Tr 0 r o hI
  have := ix_bd r 44
  have := lenTake (l := r) (Q := (idxB r 44)) (by omega) (by omega)
  have := trQ_len (List.take (Int.toNat ((idxB r 44))) r)
  have := lenDrop (l := r) (P := (idxB r 44) + 1) (by omega) (by omega)
  refine stSp7_0 To Tr r o (h := hySp7_p0) (1, (List.drop (Int.toNat ((idxB r 44) + 1)) r), (([] : List LB) ++ [(trQ (List.take (Int.toNat ((idxB r 44))) r))])) ?_ (mkISp7 To Tr 1 (List.drop (Int.toNat ((idxB r 44) + 1)) r) (([] : List LB) ++ [(trQ (List.take (Int.toNat ((idxB r 44))) r))]) ⟨sp_1 (o := []) (by omega) (by assumption) (by have e := i0; rw [i4 rfl] at e; exact e), sp_t (by omega) i1, by rw [List.length_drop]; omega, by first | omega | (simp only [List.length_append, List.length_cons, List.length_nil, List.length_drop]; omega), fun h => by omega, fun _ => by simp, by omega⟩) (by show (List.drop _ r).length < r.length; rw [List.length_drop]; omega) (thXv (v := St' (List.drop (Int.toNat ((idxB r 44) + 1)) r)) rfl rfl (thXv (v := rwS (([] : List LB) ++ [(trQ (List.take (Int.toNat ((idxB r 44))) r))])) rfl rfl (thNil))) runSp7_p0
  unfold hySp7_p0
  exact hc (kRn (denX rfl)) <|
   hc (kEqS (isSx (l := [u8 44]) 1 44 rfl) (isX rfl) (decide_eq_false (by assumption))) <|
   hc (kExtI (n := idxB r 44) exFIx exAIx exBIx (isX rfl) (isZ (m := 44) rfl) (denX rfl) rfl) <|
   hc (ltcF rfl (by omega)) <|
   hc (adC rfl rfl (by omega)) <|
   hc (tkV rfl rfl rfl (by omega)) <|
   hc (hokTrim (s := (List.take (Int.toNat ((idxB r 44))) r)) (isX rfl) (isSx (l := [u8 32, u8 9]) 2 2336 rfl) (denX (congrArg (fun l => St' l) (trSQ _).symm)) (by omega) (by omega)) <|
   hc (kNeS (isX rfl) (isSx (l := ([] : LB)) 0 0 rfl) (bnT (nilF (by omega)))) <|
   hc (kRa (isX rfl) (isX rfl) (denX rfl)) <|
   hc (kRf (isX rfl) (by first | omega | (simp <;> omega)) (by first | omega | (simp <;> omega))) <|
   hc (adC rfl rfl (by omega)) <|
   hc (drV rfl rfl rfl (by omega)) <|
   hnil
def hySp7_p1 : LK := [(.rn, .x 2000002), (.bin .eql (.s 1 44) (.x 0), .b false), (.ext 117 [.x 0, .i .u8 (.ofNat 44)], .x 7), (.bin .lss (.x 7) (.i .i64 (.ofNat 0)), .b false), (.bin .add (.x 7) (.i .i64 (.ofNat 0)), .x 8), (.sub (.x 0) none (some (.x 8)), .x 9), (.call 65 [.x 9, .s 2 2336], .x 10), (.bin .neq (.x 10) (.s 0 0), .b false), (.bin .add (.x 7) (.i .i64 (.ofNat 1)), .x 11), (.sub (.x 0) (some (.x 11)) none, .x 12)]
theorem runSp7_p1 : RNSp7_0 hySp7_p1 .normal [(0, .x 12)] [] 13 epSp7_0 hpSp7_0 = true := by kernel_rfl
theorem nxSp7_p1 (To : List LB) (Tr : LB) (r : LB) (o : List LB) (X : Nat → Value) (hI : InvSp7 To Tr (0, r, o)) (h0 : ¬ ([u8 44] = r)) (h1 : ¬ (idxB r 44 < 0)) (h2 : ((trQ (List.take (Int.toNat ((idxB r 44))) r)).length : Int) = 0) : RHSp7 To Tr E' x' e' h' (0, r, o) X := by
  obtain ⟨i0, i1, i2, i3, i4, i5, it⟩ := unISp7 To Tr 0 r o hI
  have := ix_bd r 44
  have := lenTake (l := r) (Q := (idxB r 44)) (by omega) (by omega)
  have := trQ_len (List.take (Int.toNat ((idxB r 44))) r)
  have := lenDrop (l := r) (P := (idxB r 44) + 1) (by omega) (by omega)
  refine stSp7_0 To Tr r o (h := hySp7_p1) (0, (List.drop (Int.toNat ((idxB r 44) + 1)) r), ([] : List LB)) ?_ (mkISp7 To Tr 0 (List.drop (Int.toNat ((idxB r 44) + 1)) r) ([] : List LB) ⟨sp_0 (o := []) (by omega) (by assumption) (by have e := i0; rw [i4 rfl] at e; exact e), sp_t (by omega) i1, by rw [List.length_drop]; omega, by first | omega | (simp only [List.length_append, List.length_cons, List.length_nil, List.length_drop]; omega), fun _ => rfl, fun h => by omega, by omega⟩) (by show (List.drop _ r).length < r.length; rw [List.length_drop]; omega) (thXv (v := St' (List.drop (Int.toNat ((idxB r 44) + 1)) r)) rfl rfl (thNil)) runSp7_p1
  unfold hySp7_p1
  exact hc (kRn (denX rfl)) <|
   hc (kEqS (isSx (l := [u8 44]) 1 44 rfl) (isX rfl) (decide_eq_false (by assumption))) <|
   hc (kExtI (n := idxB r 44) exFIx exAIx exBIx (isX rfl) (isZ (m := 44) rfl) (denX rfl) rfl) <|
   hc (ltcF rfl (by omega)) <|
   hc (adC rfl rfl (by omega)) <|
   hc (tkV rfl rfl rfl (by omega)) <|
   hc (hokTrim (s := (List.take (Int.toNat ((idxB r 44))) r)) (isX rfl) (isSx (l := [u8 32, u8 9]) 2 2336 rfl) (denX (congrArg (fun l => St' l) (trSQ _).symm)) (by omega) (by omega)) <|
   hc (kNeS (isX rfl) (isSx (l := ([] : LB)) 0 0 rfl) (bnF (nilT (by omega)))) <|
   hc (adC rfl rfl (by omega)) <|
   hc (drV rfl rfl rfl (by omega)) <|
   hnil
def hySp7_p2 : LK := [(.rn, .x 2000003), (.bin .eql (.s 1 44) (.x 0), .b false), (.ext 117 [.x 0, .i .u8 (.ofNat 44)], .x 13), (.bin .lss (.x 13) (.i .i64 (.ofNat 0)), .b true)]
theorem runSp7_p2 : RNSp7_0 hySp7_p2 (.exit 2) [(0, .x 0)] [] 24 [(0, .yl 11), (2, .p 8 0)] [(7, .b ⟨35, .l [.nils], 0, 0, 0, false, false⟩), (8, .b ⟨9, .l [.x 0], 0, 0, 0, false, false⟩), (9, .b ⟨9, .l [.s 1 44], 0, 0, 0, false, false⟩), (10, .b ⟨3, .l [.i .i64 (.ofNat 0)], 0, 0, 0, false, false⟩), (11, .k 30 [(3, .p 7 0)] 17 0 .normal)] = true := by kernel_rfl
def hySp7_p3 : LK := [(.rn, .x 2000004), (.bin .eql (.s 1 44) (.x 0), .b true), (.sub (.x 0) none (some (.i .i64 (.ofNat 0))), .x 14), (.call 65 [.x 14, .s 2 2336], .x 15), (.bin .neq (.x 15) (.s 0 0), .b false), (.sub (.x 0) (some (.i .i64 (.ofNat 1))) none, .x 16)]
theorem runSp7_p3 : RNSp7_0 hySp7_p3 .normal [(0, .x 16)] [] 13 epSp7_0 hpSp7_0 = true := by kernel_rfl
theorem nxSp7_p3 (To : List LB) (Tr : LB) (r : LB) (o : List LB) (X : Nat → Value) (hI : InvSp7 To Tr (0, r, o)) (h0 : [u8 44] = r) : RHSp7 To Tr E' x' e' h' (0, r, o) X := by
  obtain ⟨i0, i1, i2, i3, i4, i5, it⟩ := unISp7 To Tr 0 r o hI
  have hr1 := congrArg List.length (‹[u8 44] = r›); simp only [List.length_cons, List.length_nil] at hr1
  have := lenTake (l := r) (Q := 0) (by omega) (by omega)
  have := trQ_len (List.take (Int.toNat (0)) r)
  have := lenDrop (l := r) (P := 1) (by omega) (by omega)
  refine stSp7_0 To Tr r o (h := hySp7_p3) (0, (List.drop (Int.toNat (1)) r), ([] : List LB)) ?_ (mkISp7 To Tr 0 (List.drop (Int.toNat (1)) r) ([] : List LB) ⟨sp_0e (o := []) (by assumption) (by have e := i0; rw [i4 rfl] at e; exact e), sp_te (by assumption) i1, by rw [List.length_drop]; omega, by first | omega | (simp only [List.length_append, List.length_cons, List.length_nil, List.length_drop]; omega), fun _ => rfl, fun h => by omega, by omega⟩) (by have := congrArg List.length (‹[u8 44] = r›); simp only [List.length_cons, List.length_nil] at this; show (List.drop _ r).length < r.length; rw [List.length_drop]; omega) (thXv (v := St' (List.drop (Int.toNat (1)) r)) rfl rfl (thNil)) runSp7_p3
  unfold hySp7_p3
  exact hc (kRn (denX rfl)) <|
   hc (kEqS (isSx (l := [u8 44]) 1 44 rfl) (isX rfl) (decide_eq_true (by assumption))) <|
   hc (tkC rfl rfl (by omega)) <|
   hc (hokTrim (s := (List.take (Int.toNat (0)) r)) (isX rfl) (isSx (l := [u8 32, u8 9]) 2 2336 rfl) (denX (congrArg (fun l => St' l) (trSQ _).symm)) (by omega) (by omega)) <|
   hc (kNeS (isX rfl) (isSx (l := ([] : LB)) 0 0 rfl) (bnF (nilT (by omega)))) <|
   hc (drC rfl rfl (by omega)) <|
   hnil
def hySp7_p4 : LK := [(.rn, .x 2000001), (.bin .eql (.s 1 44) (.x 0), .b false), (.ext 117 [.x 0, .i .u8 (.ofNat 44)], .x 1), (.bin .lss (.x 1) (.i .i64 (.ofNat 0)), .b false), (.bin .add (.x 1) (.i .i64 (.ofNat 0)), .x 2), (.sub (.x 0) none (some (.x 2)), .x 3), (.call 65 [.x 3, .s 2 2336], .x 4), (.bin .neq (.x 4) (.s 0 0), .b true), (.ra (.x 2000000) [.x 4], .x 2000002), (.rf (.x 2000002) 1 16, .b true), (.bin .add (.x 1) (.i .i64 (.ofNat 1)), .x 5), (.sub (.x 0) (some (.x 5)) none, .x 6)]
theorem runSp7_p4 : RNSp7_1 hySp7_p4 .normal [(0, .x 6), (2000000, .x 2000002)] [(12, 14)] 13 epSp7_1 hpSp7_1 = true := by kernel_rfl
theorem nxSp7_p4 (To : List LB) (Tr : LB) (r : LB) (o : List LB) (X : Nat → Value) (hI : InvSp7 To Tr (1, r, o)) (h0 : ¬ ([u8 44] = r)) (h1 : ¬ (idxB r 44 < 0)) (h2 : ¬ (((trQ (List.take (Int.toNat ((idxB r 44))) r)).length : Int) = 0)) : RHSp7 To Tr E' x' e' h' (1, r, o) X := by
  obtain ⟨i0, i1, i2, i3, i4, i5, it⟩ := unISp7 To Tr 1 r o hI
  have := ix_bd r 44
  have := lenTake (l := r) (Q := (idxB r 44)) (by omega) (by omega)
  have := trQ_len (List.take (Int.toNat ((idxB r 44))) r)
  have := lenDrop (l := r) (P := (idxB r 44) + 1) (by omega) (by omega)
  refine stSp7_1 To Tr r o (h := hySp7_p4) (1, (List.drop (Int.toNat ((idxB r 44) + 1)) r), (o ++ [(trQ (List.take (Int.toNat ((idxB r 44))) r))])) ?_ (mkISp7 To Tr 1 (List.drop (Int.toNat ((idxB r 44) + 1)) r) (o ++ [(trQ (List.take (Int.toNat ((idxB r 44))) r))]) ⟨sp_1 (by omega) (by assumption) i0, sp_t (by omega) i1, by rw [List.length_drop]; omega, by first | omega | (simp only [List.length_append, List.length_cons, List.length_nil, List.length_drop]; omega), fun h => by omega, fun _ => by simp, by omega⟩) (by show (List.drop _ r).length < r.length; rw [List.length_drop]; omega) (thXv (v := St' (List.drop (Int.toNat ((idxB r 44) + 1)) r)) rfl rfl (thXv (v := rwS (o ++ [(trQ (List.take (Int.toNat ((idxB r 44))) r))])) rfl rfl (thNil))) runSp7_p4
  unfold hySp7_p4
  exact hc (kRn (denX rfl)) <|
   hc (kEqS (isSx (l := [u8 44]) 1 44 rfl) (isX rfl) (decide_eq_false (by assumption))) <|
   hc (kExtI (n := idxB r 44) exFIx exAIx exBIx (isX rfl) (isZ (m := 44) rfl) (denX rfl) rfl) <|
   hc (ltcF rfl (by omega)) <|
   hc (adC rfl rfl (by omega)) <|
   hc (tkV rfl rfl rfl (by omega)) <|
   hc (hokTrim (s := (List.take (Int.toNat ((idxB r 44))) r)) (isX rfl) (isSx (l := [u8 32, u8 9]) 2 2336 rfl) (denX (congrArg (fun l => St' l) (trSQ _).symm)) (by omega) (by omega)) <|
   hc (kNeS (isX rfl) (isSx (l := ([] : LB)) 0 0 rfl) (bnT (nilF (by omega)))) <|
   hc (kRa (isX rfl) (isX rfl) (denX rfl)) <|
   hc (kRf (isX rfl) (by first | omega | (simp <;> omega)) (by first | omega | (simp <;> omega))) <|
   hc (adC rfl rfl (by omega)) <|
   hc (drV rfl rfl rfl (by omega)) <|
   hnil
def hySp7_p5 : LK := [(.rn, .x 2000003), (.bin .eql (.s 1 44) (.x 0), .b false), (.ext 117 [.x 0, .i .u8 (.ofNat 44)], .x 7), (.bin .lss (.x 7) (.i .i64 (.ofNat 0)), .b false), (.bin .add (.x 7) (.i .i64 (.ofNat 0)), .x 8), (.sub (.x 0) none (some (.x 8)), .x 9), (.call 65 [.x 9, .s 2 2336], .x 10), (.bin .neq (.x 10) (.s 0 0), .b false), (.bin .add (.x 7) (.i .i64 (.ofNat 1)), .x 11), (.sub (.x 0) (some (.x 11)) none, .x 12)]
theorem runSp7_p5 : RNSp7_1 hySp7_p5 .normal [(0, .x 12), (2000000, .x 2000000)] [(12, 12)] 13 epSp7_1 hpSp7_1 = true := by kernel_rfl
theorem nxSp7_p5 (To : List LB) (Tr : LB) (r : LB) (o : List LB) (X : Nat → Value) (hI : InvSp7 To Tr (1, r, o)) (h0 : ¬ ([u8 44] = r)) (h1 : ¬ (idxB r 44 < 0)) (h2 : ((trQ (List.take (Int.toNat ((idxB r 44))) r)).length : Int) = 0) : RHSp7 To Tr E' x' e' h' (1, r, o) X := by
  obtain ⟨i0, i1, i2, i3, i4, i5, it⟩ := unISp7 To Tr 1 r o hI
  have := ix_bd r 44
  have := lenTake (l := r) (Q := (idxB r 44)) (by omega) (by omega)
  have := trQ_len (List.take (Int.toNat ((idxB r 44))) r)
  have := lenDrop (l := r) (P := (idxB r 44) + 1) (by omega) (by omega)
  refine stSp7_1 To Tr r o (h := hySp7_p5) (1, (List.drop (Int.toNat ((idxB r 44) + 1)) r), o) ?_ (mkISp7 To Tr 1 (List.drop (Int.toNat ((idxB r 44) + 1)) r) o ⟨sp_0 (by omega) (by assumption) i0, sp_t (by omega) i1, by rw [List.length_drop]; omega, by first | omega | (simp only [List.length_append, List.length_cons, List.length_nil, List.length_drop]; omega), fun h => by omega, fun _ => i5 rfl, by omega⟩) (by show (List.drop _ r).length < r.length; rw [List.length_drop]; omega) (thXv (v := St' (List.drop (Int.toNat ((idxB r 44) + 1)) r)) rfl rfl (thXv (v := rwS o) rfl rfl (thNil))) runSp7_p5
  unfold hySp7_p5
  exact hc (kRn (denX rfl)) <|
   hc (kEqS (isSx (l := [u8 44]) 1 44 rfl) (isX rfl) (decide_eq_false (by assumption))) <|
   hc (kExtI (n := idxB r 44) exFIx exAIx exBIx (isX rfl) (isZ (m := 44) rfl) (denX rfl) rfl) <|
   hc (ltcF rfl (by omega)) <|
   hc (adC rfl rfl (by omega)) <|
   hc (tkV rfl rfl rfl (by omega)) <|
   hc (hokTrim (s := (List.take (Int.toNat ((idxB r 44))) r)) (isX rfl) (isSx (l := [u8 32, u8 9]) 2 2336 rfl) (denX (congrArg (fun l => St' l) (trSQ _).symm)) (by omega) (by omega)) <|
   hc (kNeS (isX rfl) (isSx (l := ([] : LB)) 0 0 rfl) (bnF (nilT (by omega)))) <|
   hc (adC rfl rfl (by omega)) <|
   hc (drV rfl rfl rfl (by omega)) <|
   hnil
def hySp7_p6 : LK := [(.rn, .x 2000004), (.bin .eql (.s 1 44) (.x 0), .b false), (.ext 117 [.x 0, .i .u8 (.ofNat 44)], .x 13), (.bin .lss (.x 13) (.i .i64 (.ofNat 0)), .b true)]
theorem runSp7_p6 : RNSp7_1 hySp7_p6 (.exit 2) [(0, .x 0), (2000000, .x 2000000)] [(12, 12)] 24 [(0, .yl 11), (2, .p 8 0)] [(7, .b ⟨35, .l [.sr 12], 0, 0, 0, false, false⟩), (8, .b ⟨9, .l [.x 0], 0, 0, 0, false, false⟩), (9, .b ⟨9, .l [.s 1 44], 0, 0, 0, false, false⟩), (10, .b ⟨3, .l [.i .i64 (.ofNat 0)], 0, 0, 0, false, false⟩), (11, .k 30 [(3, .p 7 0)] 17 0 .normal), (12, .r 2000000 9 1 false)] = true := by kernel_rfl
def hySp7_p7 : LK := [(.rn, .x 2000005), (.bin .eql (.s 1 44) (.x 0), .b true), (.sub (.x 0) none (some (.i .i64 (.ofNat 0))), .x 14), (.call 65 [.x 14, .s 2 2336], .x 15), (.bin .neq (.x 15) (.s 0 0), .b false), (.sub (.x 0) (some (.i .i64 (.ofNat 1))) none, .x 16)]
theorem runSp7_p7 : RNSp7_1 hySp7_p7 .normal [(0, .x 16), (2000000, .x 2000000)] [(12, 12)] 13 epSp7_1 hpSp7_1 = true := by kernel_rfl
theorem nxSp7_p7 (To : List LB) (Tr : LB) (r : LB) (o : List LB) (X : Nat → Value) (hI : InvSp7 To Tr (1, r, o)) (h0 : [u8 44] = r) : RHSp7 To Tr E' x' e' h' (1, r, o) X := by
  obtain ⟨i0, i1, i2, i3, i4, i5, it⟩ := unISp7 To Tr 1 r o hI
  have hr1 := congrArg List.length (‹[u8 44] = r›); simp only [List.length_cons, List.length_nil] at hr1
  have := lenTake (l := r) (Q := 0) (by omega) (by omega)
  have := trQ_len (List.take (Int.toNat (0)) r)
  have := lenDrop (l := r) (P := 1) (by omega) (by omega)
  refine stSp7_1 To Tr r o (h := hySp7_p7) (1, (List.drop (Int.toNat (1)) r), o) ?_ (mkISp7 To Tr 1 (List.drop (Int.toNat (1)) r) o ⟨sp_0e (by assumption) i0, sp_te (by assumption) i1, by rw [List.length_drop]; omega, by first | omega | (simp only [List.length_append, List.length_cons, List.length_nil, List.length_drop]; omega), fun h => by omega, fun _ => i5 rfl, by omega⟩) (by have := congrArg List.length (‹[u8 44] = r›); simp only [List.length_cons, List.length_nil] at this; show (List.drop _ r).length < r.length; rw [List.length_drop]; omega) (thXv (v := St' (List.drop (Int.toNat (1)) r)) rfl rfl (thXv (v := rwS o) rfl rfl (thNil))) runSp7_p7
  unfold hySp7_p7
  exact hc (kRn (denX rfl)) <|
   hc (kEqS (isSx (l := [u8 44]) 1 44 rfl) (isX rfl) (decide_eq_true (by assumption))) <|
   hc (tkC rfl rfl (by omega)) <|
   hc (hokTrim (s := (List.take (Int.toNat (0)) r)) (isX rfl) (isSx (l := [u8 32, u8 9]) 2 2336 rfl) (denX (congrArg (fun l => St' l) (trSQ _).symm)) (by omega) (by omega)) <|
   hc (kNeS (isX rfl) (isSx (l := ([] : LB)) 0 0 rfl) (bnF (nilT (by omega)))) <|
   hc (drC rfl rfl (by omega)) <|
   hnil
def nuESp7_0 (To : List LB) (Tr : LB) : List Value := [St' Tr]
def roESp7_0 (To : List LB) (Tr : LB) : List Value := []
noncomputable def ESp7_0 (To : List LB) (Tr : LB) : Cx := cx (nuX (nuESp7_0 To Tr) (rX (roESp7_0 To Tr) (fun _ => .bool true))) (nuX_one (nuL_one (l := nuESp7_0 To Tr) rfl)) 1 laidE laidE_stab
theorem roundsSp7_0 (To : List LB) (Tr : LB) (x0 : To.length = 0) (st : Nat × LB × List LB) (X : Nat → Value) (hI : InvSp7 To Tr st) : RHSp7 To Tr (ESp7_0 To Tr) (.exit 2) [(0, .yl 11), (2, .p 8 0)] [(7, .b ⟨35, .l [.nils], 0, 0, 0, false, false⟩), (8, .b ⟨9, .l [.x 0], 0, 0, 0, false, false⟩), (9, .b ⟨9, .l [.s 1 44], 0, 0, 0, false, false⟩), (10, .b ⟨3, .l [.i .i64 (.ofNat 0)], 0, 0, 0, false, false⟩), (11, .k 30 [(3, .p 7 0)] 17 0 .normal)] st X := by
  obtain ⟨tag, r, o⟩ := st
  have hI0 := hI
  obtain ⟨i0, i1, i2, i3, i4, i5, it⟩ := unISp7 To Tr tag r o hI
  rcases (show tag = 0 ∨ tag = 1 from by omega) with rfl | rfl
  · skip
    by_cases h0 : [u8 44] = r
    · exact nxSp7_p3 To Tr r o X hI0 h0
    · by_cases h1 : idxB r 44 < 0
      · skip
        have := ix_bd r 44
        refine lvSp7_0 To Tr r o (h := hySp7_p2) rfl ?_ (thXe (v := St' r) (u := St' Tr) rfl rfl (congrArg (fun l => St' l) (sp_r (by omega) i1)) (thNil)) runSp7_p2
        unfold hySp7_p2
        exact hc (kRn (denX rfl)) <|
         hc (kEqS (isSx (l := [u8 44]) 1 44 rfl) (isX rfl) (decide_eq_false (by assumption))) <|
         hc (kExtI (n := idxB r 44) exFIx exAIx exBIx (isX rfl) (isZ (m := 44) rfl) (denX rfl) rfl) <|
         hc (ltcT rfl (by omega)) <|
         hnil
      · by_cases h2 : ((trQ (List.take (Int.toNat ((idxB r 44))) r)).length : Int) = 0
        · exact nxSp7_p1 To Tr r o X hI0 h0 h1 h2
        · exact nxSp7_p0 To Tr r o X hI0 h0 h1 h2
  · skip
    by_cases h0 : [u8 44] = r
    · exact nxSp7_p7 To Tr r o X hI0 h0
    · by_cases h1 : idxB r 44 < 0
      · exfalso; have e := congrArg List.length (sp_o (by omega) i0); have := i5 rfl; omega
      · by_cases h2 : ((trQ (List.take (Int.toNat ((idxB r 44))) r)).length : Int) = 0
        · exact nxSp7_p5 To Tr r o X hI0 h0 h1 h2
        · exact nxSp7_p4 To Tr r o X hI0 h0 h1 h2
theorem lfOkSp7_0 {l : LF} {h : LH} (To : List LB) (Tr : LB) (x0 : To.length = 0) (st : Nat × LB × List LB) (hI : InvSp7 To Tr st) (hl : l.hp = some h) (hs : lfSame l h 52 keepSp7 (.exit 2) 7 12 24 = true) {th0 : LA} {sg0 : List (Nat × Nat)} (hth0 : ∀ X, ThOk (cx nu one 1 laidE laidE_stab) (DSp7 To Tr st X) th0) (h0 : startOk l h 52 12 13 th0 sg0 (epSp7 st) (hpSp7 st) = true) {thx : LA} (hthx : ThOk (ESp7_0 To Tr) (cx nu one 1 laidE laidE_stab) thx) (hx : exitOk l h 52 12 24 thx [(0, .yl 11), (2, .p 8 0)] [(7, .b ⟨35, .l [.nils], 0, 0, 0, false, false⟩), (8, .b ⟨9, .l [.x 0], 0, 0, 0, false, false⟩), (9, .b ⟨9, .l [.s 1 44], 0, 0, 0, false, false⟩), (10, .b ⟨3, .l [.i .i64 (.ofNat 0)], 0, 0, 0, false, false⟩), (11, .k 30 [(3, .p 7 0)] 17 0 .normal)] = true) : LfOk (cx nu one 1 laidE laidE_stab) bodySp7 l :=
  lfOkX (E := ESp7_0 To Tr) (InvSp7 To Tr) (muSp7 To Tr) (DSp7 To Tr) (fun _ _ => rfl) (fun _ _ => rfl) (fun _ _ => rfl) (fun st X t ht => nuX_keep.trans (rX_keep ((by decide : ∀ t, t ∈ keepSp7 → t < 1000000) t ht))) rfl rfl rfl hl hs ebSp7 rfl rfl st hI hth0 h0 hthx hx (roundsSp7_0 To Tr x0)
def nuESp7_1 (To : List LB) (Tr : LB) : List Value := [St' Tr]
def roESp7_1 (To : List LB) (Tr : LB) : List Value := [rwS To]
noncomputable def ESp7_1 (To : List LB) (Tr : LB) : Cx := cx (nuX (nuESp7_1 To Tr) (rX (roESp7_1 To Tr) (fun _ => .bool true))) (nuX_one (nuL_one (l := nuESp7_1 To Tr) rfl)) 1 laidE laidE_stab
theorem roundsSp7_1 (To : List LB) (Tr : LB) (x0 : ¬ To.length = 0) (st : Nat × LB × List LB) (X : Nat → Value) (hI : InvSp7 To Tr st) : RHSp7 To Tr (ESp7_1 To Tr) (.exit 2) [(0, .yl 11), (2, .p 8 0)] [(7, .b ⟨35, .l [.sr 12], 0, 0, 0, false, false⟩), (8, .b ⟨9, .l [.x 0], 0, 0, 0, false, false⟩), (9, .b ⟨9, .l [.s 1 44], 0, 0, 0, false, false⟩), (10, .b ⟨3, .l [.i .i64 (.ofNat 0)], 0, 0, 0, false, false⟩), (11, .k 30 [(3, .p 7 0)] 17 0 .normal), (12, .r 2000000 9 1 false)] st X := by
  obtain ⟨tag, r, o⟩ := st
  have hI0 := hI
  obtain ⟨i0, i1, i2, i3, i4, i5, it⟩ := unISp7 To Tr tag r o hI
  rcases (show tag = 0 ∨ tag = 1 from by omega) with rfl | rfl
  · skip
    by_cases h0 : [u8 44] = r
    · exact nxSp7_p3 To Tr r o X hI0 h0
    · by_cases h1 : idxB r 44 < 0
      · exfalso; have e := congrArg List.length (sp_o (by omega) i0); rw [i4 rfl] at e; exact x0 e.symm
      · by_cases h2 : ((trQ (List.take (Int.toNat ((idxB r 44))) r)).length : Int) = 0
        · exact nxSp7_p1 To Tr r o X hI0 h0 h1 h2
        · exact nxSp7_p0 To Tr r o X hI0 h0 h1 h2
  · skip
    by_cases h0 : [u8 44] = r
    · exact nxSp7_p7 To Tr r o X hI0 h0
    · by_cases h1 : idxB r 44 < 0
      · skip
        have := ix_bd r 44
        refine lvSp7_1 To Tr r o (h := hySp7_p6) rfl ?_ (thXe (v := St' r) (u := St' Tr) rfl rfl (congrArg (fun l => St' l) (sp_r (by omega) i1)) (thXe (v := rwS o) (u := rwS To) rfl rfl (congrArg rwS (sp_o (by omega) i0)) (thNil))) runSp7_p6
        unfold hySp7_p6
        exact hc (kRn (denX rfl)) <|
         hc (kEqS (isSx (l := [u8 44]) 1 44 rfl) (isX rfl) (decide_eq_false (by assumption))) <|
         hc (kExtI (n := idxB r 44) exFIx exAIx exBIx (isX rfl) (isZ (m := 44) rfl) (denX rfl) rfl) <|
         hc (ltcT rfl (by omega)) <|
         hnil
      · by_cases h2 : ((trQ (List.take (Int.toNat ((idxB r 44))) r)).length : Int) = 0
        · exact nxSp7_p5 To Tr r o X hI0 h0 h1 h2
        · exact nxSp7_p4 To Tr r o X hI0 h0 h1 h2
theorem lfOkSp7_1 {l : LF} {h : LH} (To : List LB) (Tr : LB) (x0 : ¬ To.length = 0) (st : Nat × LB × List LB) (hI : InvSp7 To Tr st) (hl : l.hp = some h) (hs : lfSame l h 52 keepSp7 (.exit 2) 7 12 24 = true) {th0 : LA} {sg0 : List (Nat × Nat)} (hth0 : ∀ X, ThOk (cx nu one 1 laidE laidE_stab) (DSp7 To Tr st X) th0) (h0 : startOk l h 52 12 13 th0 sg0 (epSp7 st) (hpSp7 st) = true) {thx : LA} (hthx : ThOk (ESp7_1 To Tr) (cx nu one 1 laidE laidE_stab) thx) (hx : exitOk l h 52 12 24 thx [(0, .yl 11), (2, .p 8 0)] [(7, .b ⟨35, .l [.sr 12], 0, 0, 0, false, false⟩), (8, .b ⟨9, .l [.x 0], 0, 0, 0, false, false⟩), (9, .b ⟨9, .l [.s 1 44], 0, 0, 0, false, false⟩), (10, .b ⟨3, .l [.i .i64 (.ofNat 0)], 0, 0, 0, false, false⟩), (11, .k 30 [(3, .p 7 0)] 17 0 .normal), (12, .r 2000000 9 1 false)] = true) : LfOk (cx nu one 1 laidE laidE_stab) bodySp7 l :=
  lfOkX (E := ESp7_1 To Tr) (InvSp7 To Tr) (muSp7 To Tr) (DSp7 To Tr) (fun _ _ => rfl) (fun _ _ => rfl) (fun _ _ => rfl) (fun st X t ht => nuX_keep.trans (rX_keep ((by decide : ∀ t, t ∈ keepSp7 → t < 1000000) t ht))) rfl rfl rfl hl hs ebSp7 rfl rfl st hI hth0 h0 hthx hx (roundsSp7_1 To Tr x0)
noncomputable def bodyLs : Code := loopNo (Tryd.f31.body.getD .skip) 0
theorem keyLs : oneKey (loopsOf (Tryd.f31.body.getD .skip)) 4 0 0 = true := by kernel_rfl
def keepLs : List Nat := []
def epLs_0 : LA := [(0, .x 0), (3, .nils), (4, .x 2), (5, .x 1)]
def hpLs_0 : LE := []
def nuLs_0 (s : LB) (T : List LB) (i fr : Int) (o : List LB) : List Value := [St' s, .int .i64 (i), .int .i64 (fr), .int .i64 ((s.length : Int)), .int .u8 (bt s (Int.toNat (i))), .int .i64 (i + 1), .int .i64 ((s.length : Int)), .int .u8 (bt s (Int.toNat (i))), St' (List.take (Int.toNat (i - (fr))) (List.drop (Int.toNat (fr)) s)), St' (trQ (List.take (Int.toNat (i - (fr))) (List.drop (Int.toNat (fr)) s))), .int .i64 (i + 1), .int .i64 ((s.length : Int)), .int .u8 (bt s (Int.toNat (i))), St' (List.take (Int.toNat (i - (fr))) (List.drop (Int.toNat (fr)) s)), St' (trQ (List.take (Int.toNat (i - (fr))) (List.drop (Int.toNat (fr)) s))), .int .i64 (i + 1), .int .i64 ((s.length : Int)), St' (List.take (Int.toNat (i - (fr))) (List.drop (Int.toNat (fr)) s)), St' (trQ (List.take (Int.toNat (i - (fr))) (List.drop (Int.toNat (fr)) s))), .int .i64 (i + 1), .int .i64 ((s.length : Int)), St' (List.take (Int.toNat (i - (fr))) (List.drop (Int.toNat (fr)) s)), St' (trQ (List.take (Int.toNat (i - (fr))) (List.drop (Int.toNat (fr)) s))), .int .i64 (i + 1), .int .i64 ((s.length : Int))]
def roLs_0 (s : LB) (T : List LB) (i fr : Int) (o : List LB) : List Value := [rwS ([] : List LB), rwS ([] : List LB), rwS (([] : List LB) ++ [(trQ (List.take (Int.toNat (i - (fr))) (List.drop (Int.toNat (fr)) s)))]), rwS ([] : List LB), rwS ([] : List LB), rwS (([] : List LB) ++ [(trQ (List.take (Int.toNat (i - (fr))) (List.drop (Int.toNat (fr)) s)))]), rwS ([] : List LB), rwS ([] : List LB)]
def epLs_1 : LA := [(0, .x 0), (3, .sr 47), (4, .x 2), (5, .x 1)]
def hpLs_1 : LE := [(47, .r 2000000 9 1 false)]
def nuLs_1 (s : LB) (T : List LB) (i fr : Int) (o : List LB) : List Value := [St' s, .int .i64 (i), .int .i64 (fr), .int .i64 ((s.length : Int)), .int .u8 (bt s (Int.toNat (i))), .int .i64 (i + 1), .int .i64 ((s.length : Int)), .int .u8 (bt s (Int.toNat (i))), St' (List.take (Int.toNat (i - (fr))) (List.drop (Int.toNat (fr)) s)), St' (trQ (List.take (Int.toNat (i - (fr))) (List.drop (Int.toNat (fr)) s))), .int .i64 (i + 1), .int .i64 ((s.length : Int)), .int .u8 (bt s (Int.toNat (i))), St' (List.take (Int.toNat (i - (fr))) (List.drop (Int.toNat (fr)) s)), St' (trQ (List.take (Int.toNat (i - (fr))) (List.drop (Int.toNat (fr)) s))), .int .i64 (i + 1), .int .i64 ((s.length : Int)), St' (List.take (Int.toNat (i - (fr))) (List.drop (Int.toNat (fr)) s)), St' (trQ (List.take (Int.toNat (i - (fr))) (List.drop (Int.toNat (fr)) s))), .int .i64 (i + 1), .int .i64 ((s.length : Int)), St' (List.take (Int.toNat (i - (fr))) (List.drop (Int.toNat (fr)) s)), St' (trQ (List.take (Int.toNat (i - (fr))) (List.drop (Int.toNat (fr)) s))), .int .i64 (i + 1), .int .i64 ((s.length : Int))]
def roLs_1 (s : LB) (T : List LB) (i fr : Int) (o : List LB) : List Value := [rwS o, rwS ([] : List LB), rwS ([] : List LB), rwS (o ++ [(trQ (List.take (Int.toNat (i - (fr))) (List.drop (Int.toNat (fr)) s)))]), rwS ([] : List LB), rwS ([] : List LB), rwS (o ++ [(trQ (List.take (Int.toNat (i - (fr))) (List.drop (Int.toNat (fr)) s)))]), rwS ([] : List LB), rwS ([] : List LB)]
def epLs (st : Nat × Int × Int × List LB) : LA := if st.1 = 0 then epLs_0 else epLs_1
def hpLs (st : Nat × Int × Int × List LB) : LE := if st.1 = 0 then hpLs_0 else hpLs_1
def nuLs (s : LB) (T : List LB) (st : Nat × Int × Int × List LB) : List Value := if st.1 = 0 then nuLs_0 s T (st.2.1) (st.2.2.1) (st.2.2.2) else nuLs_1 s T (st.2.1) (st.2.2.1) (st.2.2.2)
def roLs (s : LB) (T : List LB) (st : Nat × Int × Int × List LB) : List Value := if st.1 = 0 then roLs_0 s T (st.2.1) (st.2.2.1) (st.2.2.2) else roLs_1 s T (st.2.1) (st.2.2.1) (st.2.2.2)
theorem onLs (s : LB) (T : List LB) (st : Nat × Int × Int × List LB) : ∀ j, (nuL (nuLs s T st) j).oneCell' = true := by
  intro j
  unfold nuLs
  split
  · exact nuL_one (l := nuLs_0 s T (st.2.1) (st.2.2.1) (st.2.2.2)) rfl j
  exact nuL_one (l := nuLs_1 s T (st.2.1) (st.2.2.1) (st.2.2.2)) rfl j
theorem ebLs (st : Nat × Int × Int × List LB) : (lfB (epLs st) && lfC keepLs) = true := by
  unfold epLs
  split
  · rfl
  rfl
noncomputable def DLs (s : LB) (T : List LB) (st : Nat × Int × Int × List LB) (X : Nat → Value) : Cx := cx (nuX (nuLs s T st) (rX (roLs s T st) X)) (nuX_one (onLs s T st)) 1 laidE laidE_stab
def InvLs (s : LB) (T : List LB) (st : Nat × Int × Int × List LB) : Prop := (0 ≤ (st.2.2.1)) ∧ ((st.2.2.1) ≤ (st.2.1)) ∧ ((st.2.1) ≤ (s.length : Int) + 1) ∧ ((st.2.1) ≤ (s.length : Int) → (st.2.2.2) ++ lsQ (md s (st.2.2.1) (st.2.1)) (s.drop (Int.toNat (st.2.1))) = T) ∧ ((st.2.1) = (s.length : Int) + 1 → (st.2.2.2) = T) ∧ (((st.2.2.2).length : Int) ≤ (st.2.1)) ∧ ((st.1) = 0 → (st.2.2.2) = []) ∧ ((st.1) = 1 → 1 ≤ (st.2.2.2).length) ∧ ((st.1) < 2)
abbrev CjLs (s : LB) (T : List LB) (tag : Nat) (i fr : Int) (o : List LB) : Prop := (0 ≤ fr) ∧ (fr ≤ i) ∧ (i ≤ (s.length : Int) + 1) ∧ (i ≤ (s.length : Int) → o ++ lsQ (md s fr i) (s.drop (Int.toNat i)) = T) ∧ (i = (s.length : Int) + 1 → o = T) ∧ ((o.length : Int) ≤ i) ∧ (tag = 0 → o = []) ∧ (tag = 1 → 1 ≤ o.length) ∧ (tag < 2)
theorem mkILs (s : LB) (T : List LB) (tag : Nat) (i fr : Int) (o : List LB) (h : CjLs s T tag i fr o) : InvLs s T (tag, i, fr, o) := h
theorem unILs (s : LB) (T : List LB) (tag : Nat) (i fr : Int) (o : List LB) (h : InvLs s T (tag, i, fr, o)) : (0 ≤ fr) ∧ (fr ≤ i) ∧ (i ≤ (s.length : Int) + 1) ∧ (i ≤ (s.length : Int) → o ++ lsQ (md s fr i) (s.drop (Int.toNat i)) = T) ∧ (i = (s.length : Int) + 1 → o = T) ∧ ((o.length : Int) ≤ i) ∧ (tag = 0 → o = []) ∧ (tag = 1 → 1 ≤ o.length) ∧ (tag < 2) := h
def muLs (s : LB) (T : List LB) (st : Nat × Int × Int × List LB) : Nat := (s.length + 1 - (st.2.1).toNat)
abbrev RHLs (s : LB) (T : List LB) (E' : Cx) (ex' : Ex) (epx' : LA) (hpx' : LE) (st : Nat × Int × Int × List LB) (X : Nat → Value) : Prop := RoundH E' bodyLs keepLs 37 ex' 7 47 48 51 epLs hpLs epx' hpx' (InvLs s T) (muLs s T) (DLs s T) st X
noncomputable abbrev RNLs_0 (h : LK) (x : Ex) (th : LA) (sg : List (Nat × Nat)) (m : Nat) (ep : LA) (hp : LE) : Bool := okRdH (code (tbl h) 2000 [] bodyLs (envOf (headOf epLs_0 keepLs) 37) ⟨lhSet hpLs_0 .leaf, 48, 0, 0⟩) x keepLs 37 51 th sg 47 m ep hp
theorem stLs_0 (s : LB) (T : List LB) (i fr : Int) (o : List LB) {X : Nat → Value} {h : LK} (y : Nat × Int × Int × List LB) {th : LA} {sg : List (Nat × Nat)} (ho : ∀ a' r', (a', r') ∈ h → HOk (cx (nuX (nuLs_0 s T i fr o) (rX (roLs_0 s T i fr o) X)) (nuX_one (nuL_one (l := nuLs_0 s T i fr o) rfl)) 1 laidE laidE_stab) a' r') (hy : InvLs s T y) (lt : muLs s T y < muLs s T (0, i, fr, o)) (ht : ThOk (cx (nuX (nuLs_0 s T i fr o) (rX (roLs_0 s T i fr o) X)) (nuX_one (nuL_one (l := nuLs_0 s T i fr o) rfl)) 1 laidE laidE_stab) (DLs s T y X) th) (run : RNLs_0 h .normal th sg 48 (epLs y) (hpLs y) = true) : RHLs s T E' x' e' h' (0, i, fr, o) X :=
  RoundH.next (tb := tbl h) (L := []) (f := 2000) y ((tabkOk _ _).hyps ho) (LpOk.nil _) rfl hy lt ht run
theorem lvLs_0 (s : LB) (T : List LB) (i fr : Int) (o : List LB) {X : Nat → Value} {h : LK} {th : LA} {sg : List (Nat × Nat)} (hne : exB x' .normal = false) (ho : ∀ a' r', (a', r') ∈ h → HOk (cx (nuX (nuLs_0 s T i fr o) (rX (roLs_0 s T i fr o) X)) (nuX_one (nuL_one (l := nuLs_0 s T i fr o) rfl)) 1 laidE laidE_stab) a' r') (ht : ThOk (cx (nuX (nuLs_0 s T i fr o) (rX (roLs_0 s T i fr o) X)) (nuX_one (nuL_one (l := nuLs_0 s T i fr o) rfl)) 1 laidE laidE_stab) E' th) (run : RNLs_0 h x' th sg 51 e' h' = true) : RHLs s T E' x' e' h' (0, i, fr, o) X :=
  RoundH.leave (tb := tbl h) (L := []) (f := 2000) ((tabkOk _ _).hyps ho) (LpOk.nil _) rfl hne ht run
noncomputable abbrev RNLs_1 (h : LK) (x : Ex) (th : LA) (sg : List (Nat × Nat)) (m : Nat) (ep : LA) (hp : LE) : Bool := okRdH (code (tbl h) 2000 [] bodyLs (envOf (headOf epLs_1 keepLs) 37) ⟨lhSet hpLs_1 .leaf, 48, 0, 0⟩) x keepLs 37 51 th sg 47 m ep hp
theorem stLs_1 (s : LB) (T : List LB) (i fr : Int) (o : List LB) {X : Nat → Value} {h : LK} (y : Nat × Int × Int × List LB) {th : LA} {sg : List (Nat × Nat)} (ho : ∀ a' r', (a', r') ∈ h → HOk (cx (nuX (nuLs_1 s T i fr o) (rX (roLs_1 s T i fr o) X)) (nuX_one (nuL_one (l := nuLs_1 s T i fr o) rfl)) 1 laidE laidE_stab) a' r') (hy : InvLs s T y) (lt : muLs s T y < muLs s T (1, i, fr, o)) (ht : ThOk (cx (nuX (nuLs_1 s T i fr o) (rX (roLs_1 s T i fr o) X)) (nuX_one (nuL_one (l := nuLs_1 s T i fr o) rfl)) 1 laidE laidE_stab) (DLs s T y X) th) (run : RNLs_1 h .normal th sg 48 (epLs y) (hpLs y) = true) : RHLs s T E' x' e' h' (1, i, fr, o) X :=
  RoundH.next (tb := tbl h) (L := []) (f := 2000) y ((tabkOk _ _).hyps ho) (LpOk.nil _) rfl hy lt ht run
theorem lvLs_1 (s : LB) (T : List LB) (i fr : Int) (o : List LB) {X : Nat → Value} {h : LK} {th : LA} {sg : List (Nat × Nat)} (hne : exB x' .normal = false) (ho : ∀ a' r', (a', r') ∈ h → HOk (cx (nuX (nuLs_1 s T i fr o) (rX (roLs_1 s T i fr o) X)) (nuX_one (nuL_one (l := nuLs_1 s T i fr o) rfl)) 1 laidE laidE_stab) a' r') (ht : ThOk (cx (nuX (nuLs_1 s T i fr o) (rX (roLs_1 s T i fr o) X)) (nuX_one (nuL_one (l := nuLs_1 s T i fr o) rfl)) 1 laidE laidE_stab) E' th) (run : RNLs_1 h x' th sg 51 e' h' = true) : RHLs s T E' x' e' h' (1, i, fr, o) X :=
  RoundH.leave (tb := tbl h) (L := []) (f := 2000) ((tabkOk _ _).hyps ho) (LpOk.nil _) rfl hne ht run
def hyLs_p0 : LK := [(.rn, .x 2000000), (.len (.x 0), .x 3), (.bin .leq (.x 1) (.x 3), .b true), (.bin .eql (.x 1) (.x 3), .b false), (.idx (.x 0) (.x 1), .x 4), (.bin .eql (.x 4) (.i .u8 (.ofNat 44)), .b false), (.bin .add (.x 1) (.i .i64 (.ofNat 1)), .x 5)]
theorem runLs_p0 : RNLs_0 hyLs_p0 .normal [(0, .x 0), (1, .x 5), (2, .x 2)] [] 48 epLs_0 hpLs_0 = true := by kernel_rfl
theorem nxLs_p0 (s : LB) (T : List LB) (c0 : s.length ≤ 400) (i fr : Int) (o : List LB) (X : Nat → Value) (hI : InvLs s T (0, i, fr, o)) (h0 : i ≤ (s.length : Int)) (h1 : ¬ (i = (s.length : Int))) (h2 : ¬ (bt s (Int.toNat (i)) = 44)) : RHLs s T E' x' e' h' (0, i, fr, o) X := by
  obtain ⟨i0, i1, i2, i3, i4, i5, i6, i7, it⟩ := unILs s T 0 i fr o hI
  have := bt_lo s (Int.toNat (i)); have := bt_hi s (Int.toNat (i))
  refine stLs_0 s T i fr o (h := hyLs_p0) (0, i + 1, fr, ([] : List LB)) ?_ (mkILs s T 0 (i + 1) fr ([] : List LB) ⟨by omega, by omega, by omega, fun _ => ls_a (fr := fr) (i := i) (o := []) (by omega) (by omega) (by omega) (by assumption) (by have e := i3 (by omega); rw [i6 rfl] at e; exact e), fun h => by omega, by first | omega | (simp only [List.length_append, List.length_cons, List.length_nil]; omega), fun _ => rfl, fun h => by omega, by omega⟩) (by show s.length + 1 - (i + 1).toNat < s.length + 1 - i.toNat; omega) (thXv (v := St' s) rfl rfl (thXi (b := ((i + 1))) rfl rfl (by omega) (thXv (v := .int .i64 (fr)) rfl rfl (thNil)))) runLs_p0
  unfold hyLs_p0
  exact hc (kRn (denX rfl)) <|
   hc (lnV rfl rfl (by omega)) <|
   hc (leT rfl rfl (by omega)) <|
   hc (eqXF rfl rfl (by omega)) <|
   hc (ixV rfl rfl rfl (by omega)) <|
   hc (eqcF rfl (by omega)) <|
   hc (adC rfl rfl (by omega)) <|
   hnil
def hyLs_p1 : LK := [(.rn, .x 2000001), (.len (.x 0), .x 6), (.bin .leq (.x 1) (.x 6), .b true), (.bin .eql (.x 1) (.x 6), .b false), (.idx (.x 0) (.x 1), .x 7), (.bin .eql (.x 7) (.i .u8 (.ofNat 44)), .b true), (.sub (.x 0) (some (.x 2)) (some (.x 1)), .x 8), (.call 25 [.x 8], .x 9), (.bin .neq (.x 9) (.s 0 0), .b true), (.ra (.x 2000001) [.x 9], .x 2000002), (.rf (.x 2000002) 1 16, .b true), (.bin .add (.x 1) (.i .i64 (.ofNat 1)), .x 10)]
theorem runLs_p1 : RNLs_0 hyLs_p1 .normal [(0, .x 0), (1, .x 10), (2, .x 10), (2000000, .x 2000002)] [(47, 49)] 48 epLs_1 hpLs_1 = true := by kernel_rfl
theorem nxLs_p1 (s : LB) (T : List LB) (c0 : s.length ≤ 400) (i fr : Int) (o : List LB) (X : Nat → Value) (hI : InvLs s T (0, i, fr, o)) (h0 : i ≤ (s.length : Int)) (h1 : ¬ (i = (s.length : Int))) (h2 : bt s (Int.toNat (i)) = 44) (h3 : ¬ (((trQ (List.take (Int.toNat (i - (fr))) (List.drop (Int.toNat (fr)) s))).length : Int) = 0)) : RHLs s T E' x' e' h' (0, i, fr, o) X := by
  obtain ⟨i0, i1, i2, i3, i4, i5, i6, i7, it⟩ := unILs s T 0 i fr o hI
  have := bt_lo s (Int.toNat (i)); have := bt_hi s (Int.toNat (i))
  have := lenMd (l := s) (P := fr) (Q := i) (by omega)
  have := trQ_len (List.take (Int.toNat (i - (fr))) (List.drop (Int.toNat (fr)) s))
  refine stLs_0 s T i fr o (h := hyLs_p1) (1, i + 1, i + 1, (([] : List LB) ++ [(trQ (List.take (Int.toNat (i - (fr))) (List.drop (Int.toNat (fr)) s)))])) ?_ (mkILs s T 1 (i + 1) (i + 1) (([] : List LB) ++ [(trQ (List.take (Int.toNat (i - (fr))) (List.drop (Int.toNat (fr)) s)))]) ⟨by omega, by omega, by omega, fun _ => ls_b1 (fr := fr) (i := i) (o := []) (by omega) (by omega) (by omega) (by assumption) (by assumption) (by have e := i3 (by omega); rw [i6 rfl] at e; exact e), fun h => by omega, by first | omega | (simp only [List.length_append, List.length_cons, List.length_nil]; omega), fun h => by omega, fun _ => by simp, by omega⟩) (by show s.length + 1 - (i + 1).toNat < s.length + 1 - i.toNat; omega) (thXv (v := St' s) rfl rfl (thXi (b := ((i + 1))) rfl rfl (by omega) (thXi (b := ((i + 1))) rfl rfl (by omega) (thXv (v := rwS (([] : List LB) ++ [(trQ (List.take (Int.toNat (i - (fr))) (List.drop (Int.toNat (fr)) s)))])) rfl rfl (thNil))))) runLs_p1
  unfold hyLs_p1
  exact hc (kRn (denX rfl)) <|
   hc (lnV rfl rfl (by omega)) <|
   hc (leT rfl rfl (by omega)) <|
   hc (eqXF rfl rfl (by omega)) <|
   hc (ixV rfl rfl rfl (by omega)) <|
   hc (eqcT rfl (by omega)) <|
   hc (mdV rfl rfl rfl rfl (by omega)) <|
   hc (hokQTrim (isX rfl) (denX rfl) (by omega) (by omega)) <|
   hc (kNeS (isX rfl) (isSx (l := ([] : LB)) 0 0 rfl) (bnT (nilF (by omega)))) <|
   hc (kRa (isX rfl) (isX rfl) (denX rfl)) <|
   hc (kRf (isX rfl) (by first | omega | (simp <;> omega)) (by first | omega | (simp <;> omega))) <|
   hc (adC rfl rfl (by omega)) <|
   hnil
def hyLs_p2 : LK := [(.rn, .x 2000003), (.len (.x 0), .x 11), (.bin .leq (.x 1) (.x 11), .b true), (.bin .eql (.x 1) (.x 11), .b false), (.idx (.x 0) (.x 1), .x 12), (.bin .eql (.x 12) (.i .u8 (.ofNat 44)), .b true), (.sub (.x 0) (some (.x 2)) (some (.x 1)), .x 13), (.call 25 [.x 13], .x 14), (.bin .neq (.x 14) (.s 0 0), .b false), (.bin .add (.x 1) (.i .i64 (.ofNat 1)), .x 15)]
theorem runLs_p2 : RNLs_0 hyLs_p2 .normal [(0, .x 0), (1, .x 15), (2, .x 15)] [] 48 epLs_0 hpLs_0 = true := by kernel_rfl
theorem nxLs_p2 (s : LB) (T : List LB) (c0 : s.length ≤ 400) (i fr : Int) (o : List LB) (X : Nat → Value) (hI : InvLs s T (0, i, fr, o)) (h0 : i ≤ (s.length : Int)) (h1 : ¬ (i = (s.length : Int))) (h2 : bt s (Int.toNat (i)) = 44) (h3 : ((trQ (List.take (Int.toNat (i - (fr))) (List.drop (Int.toNat (fr)) s))).length : Int) = 0) : RHLs s T E' x' e' h' (0, i, fr, o) X := by
  obtain ⟨i0, i1, i2, i3, i4, i5, i6, i7, it⟩ := unILs s T 0 i fr o hI
  have := bt_lo s (Int.toNat (i)); have := bt_hi s (Int.toNat (i))
  have := lenMd (l := s) (P := fr) (Q := i) (by omega)
  have := trQ_len (List.take (Int.toNat (i - (fr))) (List.drop (Int.toNat (fr)) s))
  refine stLs_0 s T i fr o (h := hyLs_p2) (0, i + 1, i + 1, ([] : List LB)) ?_ (mkILs s T 0 (i + 1) (i + 1) ([] : List LB) ⟨by omega, by omega, by omega, fun _ => ls_b0 (fr := fr) (i := i) (o := []) (by omega) (by omega) (by omega) (by assumption) (by assumption) (by have e := i3 (by omega); rw [i6 rfl] at e; exact e), fun h => by omega, by first | omega | (simp only [List.length_append, List.length_cons, List.length_nil]; omega), fun _ => rfl, fun h => by omega, by omega⟩) (by show s.length + 1 - (i + 1).toNat < s.length + 1 - i.toNat; omega) (thXv (v := St' s) rfl rfl (thXi (b := ((i + 1))) rfl rfl (by omega) (thXi (b := ((i + 1))) rfl rfl (by omega) (thNil)))) runLs_p2
  unfold hyLs_p2
  exact hc (kRn (denX rfl)) <|
   hc (lnV rfl rfl (by omega)) <|
   hc (leT rfl rfl (by omega)) <|
   hc (eqXF rfl rfl (by omega)) <|
   hc (ixV rfl rfl rfl (by omega)) <|
   hc (eqcT rfl (by omega)) <|
   hc (mdV rfl rfl rfl rfl (by omega)) <|
   hc (hokQTrim (isX rfl) (denX rfl) (by omega) (by omega)) <|
   hc (kNeS (isX rfl) (isSx (l := ([] : LB)) 0 0 rfl) (bnF (nilT (by omega)))) <|
   hc (adC rfl rfl (by omega)) <|
   hnil
def hyLs_p3 : LK := [(.rn, .x 2000004), (.len (.x 0), .x 16), (.bin .leq (.x 1) (.x 16), .b true), (.bin .eql (.x 1) (.x 16), .b true), (.sub (.x 0) (some (.x 2)) (some (.x 1)), .x 17), (.call 25 [.x 17], .x 18), (.bin .neq (.x 18) (.s 0 0), .b true), (.ra (.x 2000004) [.x 18], .x 2000005), (.rf (.x 2000005) 1 16, .b true), (.bin .add (.x 1) (.i .i64 (.ofNat 1)), .x 19)]
theorem runLs_p3 : RNLs_0 hyLs_p3 .normal [(0, .x 0), (1, .x 19), (2, .x 19), (2000000, .x 2000005)] [(47, 49)] 48 epLs_1 hpLs_1 = true := by kernel_rfl
theorem nxLs_p3 (s : LB) (T : List LB) (c0 : s.length ≤ 400) (i fr : Int) (o : List LB) (X : Nat → Value) (hI : InvLs s T (0, i, fr, o)) (h0 : i ≤ (s.length : Int)) (h1 : i = (s.length : Int)) (h2 : ¬ (((trQ (List.take (Int.toNat (i - (fr))) (List.drop (Int.toNat (fr)) s))).length : Int) = 0)) : RHLs s T E' x' e' h' (0, i, fr, o) X := by
  obtain ⟨i0, i1, i2, i3, i4, i5, i6, i7, it⟩ := unILs s T 0 i fr o hI
  have := lenMd (l := s) (P := fr) (Q := i) (by omega)
  have := trQ_len (List.take (Int.toNat (i - (fr))) (List.drop (Int.toNat (fr)) s))
  refine stLs_0 s T i fr o (h := hyLs_p3) (1, i + 1, i + 1, (([] : List LB) ++ [(trQ (List.take (Int.toNat (i - (fr))) (List.drop (Int.toNat (fr)) s)))])) ?_ (mkILs s T 1 (i + 1) (i + 1) (([] : List LB) ++ [(trQ (List.take (Int.toNat (i - (fr))) (List.drop (Int.toNat (fr)) s)))]) ⟨by omega, by omega, by omega, fun h => by omega, fun _ => ls_c1 (fr := fr) (i := i) (o := []) (by omega) (by assumption) (by have e := i3 (by omega); rw [i6 rfl] at e; exact e), by first | omega | (simp only [List.length_append, List.length_cons, List.length_nil]; omega), fun h => by omega, fun _ => by simp, by omega⟩) (by show s.length + 1 - (i + 1).toNat < s.length + 1 - i.toNat; omega) (thXv (v := St' s) rfl rfl (thXi (b := ((i + 1))) rfl rfl (by omega) (thXi (b := ((i + 1))) rfl rfl (by omega) (thXv (v := rwS (([] : List LB) ++ [(trQ (List.take (Int.toNat (i - (fr))) (List.drop (Int.toNat (fr)) s)))])) rfl rfl (thNil))))) runLs_p3
  unfold hyLs_p3
  exact hc (kRn (denX rfl)) <|
   hc (lnV rfl rfl (by omega)) <|
   hc (leT rfl rfl (by omega)) <|
   hc (eqXT rfl rfl (by omega)) <|
   hc (mdV rfl rfl rfl rfl (by omega)) <|
   hc (hokQTrim (isX rfl) (denX rfl) (by omega) (by omega)) <|
   hc (kNeS (isX rfl) (isSx (l := ([] : LB)) 0 0 rfl) (bnT (nilF (by omega)))) <|
   hc (kRa (isX rfl) (isX rfl) (denX rfl)) <|
   hc (kRf (isX rfl) (by first | omega | (simp <;> omega)) (by first | omega | (simp <;> omega))) <|
   hc (adC rfl rfl (by omega)) <|
   hnil
def hyLs_p4 : LK := [(.rn, .x 2000006), (.len (.x 0), .x 20), (.bin .leq (.x 1) (.x 20), .b true), (.bin .eql (.x 1) (.x 20), .b true), (.sub (.x 0) (some (.x 2)) (some (.x 1)), .x 21), (.call 25 [.x 21], .x 22), (.bin .neq (.x 22) (.s 0 0), .b false), (.bin .add (.x 1) (.i .i64 (.ofNat 1)), .x 23)]
theorem runLs_p4 : RNLs_0 hyLs_p4 .normal [(0, .x 0), (1, .x 23), (2, .x 23)] [] 48 epLs_0 hpLs_0 = true := by kernel_rfl
theorem nxLs_p4 (s : LB) (T : List LB) (c0 : s.length ≤ 400) (i fr : Int) (o : List LB) (X : Nat → Value) (hI : InvLs s T (0, i, fr, o)) (h0 : i ≤ (s.length : Int)) (h1 : i = (s.length : Int)) (h2 : ((trQ (List.take (Int.toNat (i - (fr))) (List.drop (Int.toNat (fr)) s))).length : Int) = 0) : RHLs s T E' x' e' h' (0, i, fr, o) X := by
  obtain ⟨i0, i1, i2, i3, i4, i5, i6, i7, it⟩ := unILs s T 0 i fr o hI
  have := lenMd (l := s) (P := fr) (Q := i) (by omega)
  have := trQ_len (List.take (Int.toNat (i - (fr))) (List.drop (Int.toNat (fr)) s))
  refine stLs_0 s T i fr o (h := hyLs_p4) (0, i + 1, i + 1, ([] : List LB)) ?_ (mkILs s T 0 (i + 1) (i + 1) ([] : List LB) ⟨by omega, by omega, by omega, fun h => by omega, fun _ => ls_c0 (fr := fr) (i := i) (o := []) (by omega) (by assumption) (by have e := i3 (by omega); rw [i6 rfl] at e; exact e), by first | omega | (simp only [List.length_append, List.length_cons, List.length_nil]; omega), fun _ => rfl, fun h => by omega, by omega⟩) (by show s.length + 1 - (i + 1).toNat < s.length + 1 - i.toNat; omega) (thXv (v := St' s) rfl rfl (thXi (b := ((i + 1))) rfl rfl (by omega) (thXi (b := ((i + 1))) rfl rfl (by omega) (thNil)))) runLs_p4
  unfold hyLs_p4
  exact hc (kRn (denX rfl)) <|
   hc (lnV rfl rfl (by omega)) <|
   hc (leT rfl rfl (by omega)) <|
   hc (eqXT rfl rfl (by omega)) <|
   hc (mdV rfl rfl rfl rfl (by omega)) <|
   hc (hokQTrim (isX rfl) (denX rfl) (by omega) (by omega)) <|
   hc (kNeS (isX rfl) (isSx (l := ([] : LB)) 0 0 rfl) (bnF (nilT (by omega)))) <|
   hc (adC rfl rfl (by omega)) <|
   hnil
def hyLs_p5 : LK := [(.rn, .x 2000007), (.len (.x 0), .x 24), (.bin .leq (.x 1) (.x 24), .b false)]
theorem runLs_p5 : RNLs_0 hyLs_p5 (.exit 0) [] [] 51 [(3, .nils)] [] = true := by kernel_rfl
def hyLs_p6 : LK := [(.rn, .x 2000001), (.len (.x 0), .x 3), (.bin .leq (.x 1) (.x 3), .b true), (.bin .eql (.x 1) (.x 3), .b false), (.idx (.x 0) (.x 1), .x 4), (.bin .eql (.x 4) (.i .u8 (.ofNat 44)), .b false), (.bin .add (.x 1) (.i .i64 (.ofNat 1)), .x 5)]
theorem runLs_p6 : RNLs_1 hyLs_p6 .normal [(0, .x 0), (1, .x 5), (2, .x 2), (2000000, .x 2000000)] [(47, 47)] 48 epLs_1 hpLs_1 = true := by kernel_rfl
theorem nxLs_p6 (s : LB) (T : List LB) (c0 : s.length ≤ 400) (i fr : Int) (o : List LB) (X : Nat → Value) (hI : InvLs s T (1, i, fr, o)) (h0 : i ≤ (s.length : Int)) (h1 : ¬ (i = (s.length : Int))) (h2 : ¬ (bt s (Int.toNat (i)) = 44)) : RHLs s T E' x' e' h' (1, i, fr, o) X := by
  obtain ⟨i0, i1, i2, i3, i4, i5, i6, i7, it⟩ := unILs s T 1 i fr o hI
  have := bt_lo s (Int.toNat (i)); have := bt_hi s (Int.toNat (i))
  refine stLs_1 s T i fr o (h := hyLs_p6) (1, i + 1, fr, o) ?_ (mkILs s T 1 (i + 1) fr o ⟨by omega, by omega, by omega, fun _ => ls_a (fr := fr) (i := i) (by omega) (by omega) (by omega) (by assumption) (i3 (by omega)), fun h => by omega, by first | omega | (simp only [List.length_append, List.length_cons, List.length_nil]; omega), fun h => by omega, fun _ => i7 rfl, by omega⟩) (by show s.length + 1 - (i + 1).toNat < s.length + 1 - i.toNat; omega) (thXv (v := St' s) rfl rfl (thXi (b := ((i + 1))) rfl rfl (by omega) (thXv (v := .int .i64 (fr)) rfl rfl (thXv (v := rwS o) rfl rfl (thNil))))) runLs_p6
  unfold hyLs_p6
  exact hc (kRn (denX rfl)) <|
   hc (lnV rfl rfl (by omega)) <|
   hc (leT rfl rfl (by omega)) <|
   hc (eqXF rfl rfl (by omega)) <|
   hc (ixV rfl rfl rfl (by omega)) <|
   hc (eqcF rfl (by omega)) <|
   hc (adC rfl rfl (by omega)) <|
   hnil
def hyLs_p7 : LK := [(.rn, .x 2000002), (.len (.x 0), .x 6), (.bin .leq (.x 1) (.x 6), .b true), (.bin .eql (.x 1) (.x 6), .b false), (.idx (.x 0) (.x 1), .x 7), (.bin .eql (.x 7) (.i .u8 (.ofNat 44)), .b true), (.sub (.x 0) (some (.x 2)) (some (.x 1)), .x 8), (.call 25 [.x 8], .x 9), (.bin .neq (.x 9) (.s 0 0), .b true), (.ra (.x 2000000) [.x 9], .x 2000003), (.rf (.x 2000003) 1 16, .b true), (.bin .add (.x 1) (.i .i64 (.ofNat 1)), .x 10)]
theorem runLs_p7 : RNLs_1 hyLs_p7 .normal [(0, .x 0), (1, .x 10), (2, .x 10), (2000000, .x 2000003)] [(47, 49)] 48 epLs_1 hpLs_1 = true := by kernel_rfl
theorem nxLs_p7 (s : LB) (T : List LB) (c0 : s.length ≤ 400) (i fr : Int) (o : List LB) (X : Nat → Value) (hI : InvLs s T (1, i, fr, o)) (h0 : i ≤ (s.length : Int)) (h1 : ¬ (i = (s.length : Int))) (h2 : bt s (Int.toNat (i)) = 44) (h3 : ¬ (((trQ (List.take (Int.toNat (i - (fr))) (List.drop (Int.toNat (fr)) s))).length : Int) = 0)) : RHLs s T E' x' e' h' (1, i, fr, o) X := by
  obtain ⟨i0, i1, i2, i3, i4, i5, i6, i7, it⟩ := unILs s T 1 i fr o hI
  have := bt_lo s (Int.toNat (i)); have := bt_hi s (Int.toNat (i))
  have := lenMd (l := s) (P := fr) (Q := i) (by omega)
  have := trQ_len (List.take (Int.toNat (i - (fr))) (List.drop (Int.toNat (fr)) s))
  refine stLs_1 s T i fr o (h := hyLs_p7) (1, i + 1, i + 1, (o ++ [(trQ (List.take (Int.toNat (i - (fr))) (List.drop (Int.toNat (fr)) s)))])) ?_ (mkILs s T 1 (i + 1) (i + 1) (o ++ [(trQ (List.take (Int.toNat (i - (fr))) (List.drop (Int.toNat (fr)) s)))]) ⟨by omega, by omega, by omega, fun _ => ls_b1 (fr := fr) (i := i) (by omega) (by omega) (by omega) (by assumption) (by assumption) (i3 (by omega)), fun h => by omega, by first | omega | (simp only [List.length_append, List.length_cons, List.length_nil]; omega), fun h => by omega, fun _ => by simp, by omega⟩) (by show s.length + 1 - (i + 1).toNat < s.length + 1 - i.toNat; omega) (thXv (v := St' s) rfl rfl (thXi (b := ((i + 1))) rfl rfl (by omega) (thXi (b := ((i + 1))) rfl rfl (by omega) (thXv (v := rwS (o ++ [(trQ (List.take (Int.toNat (i - (fr))) (List.drop (Int.toNat (fr)) s)))])) rfl rfl (thNil))))) runLs_p7
  unfold hyLs_p7
  exact hc (kRn (denX rfl)) <|
   hc (lnV rfl rfl (by omega)) <|
   hc (leT rfl rfl (by omega)) <|
   hc (eqXF rfl rfl (by omega)) <|
   hc (ixV rfl rfl rfl (by omega)) <|
   hc (eqcT rfl (by omega)) <|
   hc (mdV rfl rfl rfl rfl (by omega)) <|
   hc (hokQTrim (isX rfl) (denX rfl) (by omega) (by omega)) <|
   hc (kNeS (isX rfl) (isSx (l := ([] : LB)) 0 0 rfl) (bnT (nilF (by omega)))) <|
   hc (kRa (isX rfl) (isX rfl) (denX rfl)) <|
   hc (kRf (isX rfl) (by first | omega | (simp <;> omega)) (by first | omega | (simp <;> omega))) <|
   hc (adC rfl rfl (by omega)) <|
   hnil
def hyLs_p8 : LK := [(.rn, .x 2000004), (.len (.x 0), .x 11), (.bin .leq (.x 1) (.x 11), .b true), (.bin .eql (.x 1) (.x 11), .b false), (.idx (.x 0) (.x 1), .x 12), (.bin .eql (.x 12) (.i .u8 (.ofNat 44)), .b true), (.sub (.x 0) (some (.x 2)) (some (.x 1)), .x 13), (.call 25 [.x 13], .x 14), (.bin .neq (.x 14) (.s 0 0), .b false), (.bin .add (.x 1) (.i .i64 (.ofNat 1)), .x 15)]
theorem runLs_p8 : RNLs_1 hyLs_p8 .normal [(0, .x 0), (1, .x 15), (2, .x 15), (2000000, .x 2000000)] [(47, 47)] 48 epLs_1 hpLs_1 = true := by kernel_rfl
theorem nxLs_p8 (s : LB) (T : List LB) (c0 : s.length ≤ 400) (i fr : Int) (o : List LB) (X : Nat → Value) (hI : InvLs s T (1, i, fr, o)) (h0 : i ≤ (s.length : Int)) (h1 : ¬ (i = (s.length : Int))) (h2 : bt s (Int.toNat (i)) = 44) (h3 : ((trQ (List.take (Int.toNat (i - (fr))) (List.drop (Int.toNat (fr)) s))).length : Int) = 0) : RHLs s T E' x' e' h' (1, i, fr, o) X := by
  obtain ⟨i0, i1, i2, i3, i4, i5, i6, i7, it⟩ := unILs s T 1 i fr o hI
  have := bt_lo s (Int.toNat (i)); have := bt_hi s (Int.toNat (i))
  have := lenMd (l := s) (P := fr) (Q := i) (by omega)
  have := trQ_len (List.take (Int.toNat (i - (fr))) (List.drop (Int.toNat (fr)) s))
  refine stLs_1 s T i fr o (h := hyLs_p8) (1, i + 1, i + 1, o) ?_ (mkILs s T 1 (i + 1) (i + 1) o ⟨by omega, by omega, by omega, fun _ => ls_b0 (fr := fr) (i := i) (by omega) (by omega) (by omega) (by assumption) (by assumption) (i3 (by omega)), fun h => by omega, by first | omega | (simp only [List.length_append, List.length_cons, List.length_nil]; omega), fun h => by omega, fun _ => i7 rfl, by omega⟩) (by show s.length + 1 - (i + 1).toNat < s.length + 1 - i.toNat; omega) (thXv (v := St' s) rfl rfl (thXi (b := ((i + 1))) rfl rfl (by omega) (thXi (b := ((i + 1))) rfl rfl (by omega) (thXv (v := rwS o) rfl rfl (thNil))))) runLs_p8
  unfold hyLs_p8
  exact hc (kRn (denX rfl)) <|
   hc (lnV rfl rfl (by omega)) <|
   hc (leT rfl rfl (by omega)) <|
   hc (eqXF rfl rfl (by omega)) <|
   hc (ixV rfl rfl rfl (by omega)) <|
   hc (eqcT rfl (by omega)) <|
   hc (mdV rfl rfl rfl rfl (by omega)) <|
   hc (hokQTrim (isX rfl) (denX rfl) (by omega) (by omega)) <|
   hc (kNeS (isX rfl) (isSx (l := ([] : LB)) 0 0 rfl) (bnF (nilT (by omega)))) <|
   hc (adC rfl rfl (by omega)) <|
   hnil
def hyLs_p9 : LK := [(.rn, .x 2000005), (.len (.x 0), .x 16), (.bin .leq (.x 1) (.x 16), .b true), (.bin .eql (.x 1) (.x 16), .b true), (.sub (.x 0) (some (.x 2)) (some (.x 1)), .x 17), (.call 25 [.x 17], .x 18), (.bin .neq (.x 18) (.s 0 0), .b true), (.ra (.x 2000000) [.x 18], .x 2000006), (.rf (.x 2000006) 1 16, .b true), (.bin .add (.x 1) (.i .i64 (.ofNat 1)), .x 19)]
theorem runLs_p9 : RNLs_1 hyLs_p9 .normal [(0, .x 0), (1, .x 19), (2, .x 19), (2000000, .x 2000006)] [(47, 49)] 48 epLs_1 hpLs_1 = true := by kernel_rfl
theorem nxLs_p9 (s : LB) (T : List LB) (c0 : s.length ≤ 400) (i fr : Int) (o : List LB) (X : Nat → Value) (hI : InvLs s T (1, i, fr, o)) (h0 : i ≤ (s.length : Int)) (h1 : i = (s.length : Int)) (h2 : ¬ (((trQ (List.take (Int.toNat (i - (fr))) (List.drop (Int.toNat (fr)) s))).length : Int) = 0)) : RHLs s T E' x' e' h' (1, i, fr, o) X := by
  obtain ⟨i0, i1, i2, i3, i4, i5, i6, i7, it⟩ := unILs s T 1 i fr o hI
  have := lenMd (l := s) (P := fr) (Q := i) (by omega)
  have := trQ_len (List.take (Int.toNat (i - (fr))) (List.drop (Int.toNat (fr)) s))
  refine stLs_1 s T i fr o (h := hyLs_p9) (1, i + 1, i + 1, (o ++ [(trQ (List.take (Int.toNat (i - (fr))) (List.drop (Int.toNat (fr)) s)))])) ?_ (mkILs s T 1 (i + 1) (i + 1) (o ++ [(trQ (List.take (Int.toNat (i - (fr))) (List.drop (Int.toNat (fr)) s)))]) ⟨by omega, by omega, by omega, fun h => by omega, fun _ => ls_c1 (fr := fr) (i := i) (by omega) (by assumption) (i3 (by omega)), by first | omega | (simp only [List.length_append, List.length_cons, List.length_nil]; omega), fun h => by omega, fun _ => by simp, by omega⟩) (by show s.length + 1 - (i + 1).toNat < s.length + 1 - i.toNat; omega) (thXv (v := St' s) rfl rfl (thXi (b := ((i + 1))) rfl rfl (by omega) (thXi (b := ((i + 1))) rfl rfl (by omega) (thXv (v := rwS (o ++ [(trQ (List.take (Int.toNat (i - (fr))) (List.drop (Int.toNat (fr)) s)))])) rfl rfl (thNil))))) runLs_p9
  unfold hyLs_p9
  exact hc (kRn (denX rfl)) <|
   hc (lnV rfl rfl (by omega)) <|
   hc (leT rfl rfl (by omega)) <|
   hc (eqXT rfl rfl (by omega)) <|
   hc (mdV rfl rfl rfl rfl (by omega)) <|
   hc (hokQTrim (isX rfl) (denX rfl) (by omega) (by omega)) <|
   hc (kNeS (isX rfl) (isSx (l := ([] : LB)) 0 0 rfl) (bnT (nilF (by omega)))) <|
   hc (kRa (isX rfl) (isX rfl) (denX rfl)) <|
   hc (kRf (isX rfl) (by first | omega | (simp <;> omega)) (by first | omega | (simp <;> omega))) <|
   hc (adC rfl rfl (by omega)) <|
   hnil
def hyLs_p10 : LK := [(.rn, .x 2000007), (.len (.x 0), .x 20), (.bin .leq (.x 1) (.x 20), .b true), (.bin .eql (.x 1) (.x 20), .b true), (.sub (.x 0) (some (.x 2)) (some (.x 1)), .x 21), (.call 25 [.x 21], .x 22), (.bin .neq (.x 22) (.s 0 0), .b false), (.bin .add (.x 1) (.i .i64 (.ofNat 1)), .x 23)]
theorem runLs_p10 : RNLs_1 hyLs_p10 .normal [(0, .x 0), (1, .x 23), (2, .x 23), (2000000, .x 2000000)] [(47, 47)] 48 epLs_1 hpLs_1 = true := by kernel_rfl
theorem nxLs_p10 (s : LB) (T : List LB) (c0 : s.length ≤ 400) (i fr : Int) (o : List LB) (X : Nat → Value) (hI : InvLs s T (1, i, fr, o)) (h0 : i ≤ (s.length : Int)) (h1 : i = (s.length : Int)) (h2 : ((trQ (List.take (Int.toNat (i - (fr))) (List.drop (Int.toNat (fr)) s))).length : Int) = 0) : RHLs s T E' x' e' h' (1, i, fr, o) X := by
  obtain ⟨i0, i1, i2, i3, i4, i5, i6, i7, it⟩ := unILs s T 1 i fr o hI
  have := lenMd (l := s) (P := fr) (Q := i) (by omega)
  have := trQ_len (List.take (Int.toNat (i - (fr))) (List.drop (Int.toNat (fr)) s))
  refine stLs_1 s T i fr o (h := hyLs_p10) (1, i + 1, i + 1, o) ?_ (mkILs s T 1 (i + 1) (i + 1) o ⟨by omega, by omega, by omega, fun h => by omega, fun _ => ls_c0 (fr := fr) (i := i) (by omega) (by assumption) (i3 (by omega)), by first | omega | (simp only [List.length_append, List.length_cons, List.length_nil]; omega), fun h => by omega, fun _ => i7 rfl, by omega⟩) (by show s.length + 1 - (i + 1).toNat < s.length + 1 - i.toNat; omega) (thXv (v := St' s) rfl rfl (thXi (b := ((i + 1))) rfl rfl (by omega) (thXi (b := ((i + 1))) rfl rfl (by omega) (thXv (v := rwS o) rfl rfl (thNil))))) runLs_p10
  unfold hyLs_p10
  exact hc (kRn (denX rfl)) <|
   hc (lnV rfl rfl (by omega)) <|
   hc (leT rfl rfl (by omega)) <|
   hc (eqXT rfl rfl (by omega)) <|
   hc (mdV rfl rfl rfl rfl (by omega)) <|
   hc (hokQTrim (isX rfl) (denX rfl) (by omega) (by omega)) <|
   hc (kNeS (isX rfl) (isSx (l := ([] : LB)) 0 0 rfl) (bnF (nilT (by omega)))) <|
   hc (adC rfl rfl (by omega)) <|
   hnil
def hyLs_p11 : LK := [(.rn, .x 2000008), (.len (.x 0), .x 24), (.bin .leq (.x 1) (.x 24), .b false)]
theorem runLs_p11 : RNLs_1 hyLs_p11 (.exit 0) [(2000000, .x 2000000)] [(47, 47)] 51 [(3, .sr 47)] [(47, .r 2000000 9 1 false)] = true := by kernel_rfl
def nuELs_0 (s : LB) (T : List LB) : List Value := []
def roELs_0 (s : LB) (T : List LB) : List Value := []
noncomputable def ELs_0 (s : LB) (T : List LB) : Cx := cx (nuX (nuELs_0 s T) (rX (roELs_0 s T) (fun _ => .bool true))) (nuX_one (nuL_one (l := nuELs_0 s T) rfl)) 1 laidE laidE_stab
theorem roundsLs_0 (s : LB) (T : List LB) (c0 : s.length ≤ 400) (x0 : T.length = 0) (st : Nat × Int × Int × List LB) (X : Nat → Value) (hI : InvLs s T st) : RHLs s T (ELs_0 s T) (.exit 0) [(3, .nils)] [] st X := by
  obtain ⟨tag, i, fr, o⟩ := st
  have hI0 := hI
  obtain ⟨i0, i1, i2, i3, i4, i5, i6, i7, it⟩ := unILs s T tag i fr o hI
  rcases (show tag = 0 ∨ tag = 1 from by omega) with rfl | rfl
  · skip
    by_cases h0 : i ≤ (s.length : Int)
    · by_cases h1 : i = (s.length : Int)
      · by_cases h2 : ((trQ (List.take (Int.toNat (i - (fr))) (List.drop (Int.toNat (fr)) s))).length : Int) = 0
        · exact nxLs_p4 s T c0 i fr o X hI0 h0 h1 h2
        · exact nxLs_p3 s T c0 i fr o X hI0 h0 h1 h2
      · by_cases h2 : bt s (Int.toNat (i)) = 44
        · by_cases h3 : ((trQ (List.take (Int.toNat (i - (fr))) (List.drop (Int.toNat (fr)) s))).length : Int) = 0
          · exact nxLs_p2 s T c0 i fr o X hI0 h0 h1 h2 h3
          · exact nxLs_p1 s T c0 i fr o X hI0 h0 h1 h2 h3
        · exact nxLs_p0 s T c0 i fr o X hI0 h0 h1 h2
    · skip
      refine lvLs_0 s T i fr o (h := hyLs_p5) rfl ?_ (thNil) runLs_p5
      unfold hyLs_p5
      exact hc (kRn (denX rfl)) <|
       hc (lnV rfl rfl (by omega)) <|
       hc (leF rfl rfl (by omega)) <|
       hnil
  · skip
    by_cases h0 : i ≤ (s.length : Int)
    · by_cases h1 : i = (s.length : Int)
      · by_cases h2 : ((trQ (List.take (Int.toNat (i - (fr))) (List.drop (Int.toNat (fr)) s))).length : Int) = 0
        · exact nxLs_p10 s T c0 i fr o X hI0 h0 h1 h2
        · exact nxLs_p9 s T c0 i fr o X hI0 h0 h1 h2
      · by_cases h2 : bt s (Int.toNat (i)) = 44
        · by_cases h3 : ((trQ (List.take (Int.toNat (i - (fr))) (List.drop (Int.toNat (fr)) s))).length : Int) = 0
          · exact nxLs_p8 s T c0 i fr o X hI0 h0 h1 h2 h3
          · exact nxLs_p7 s T c0 i fr o X hI0 h0 h1 h2 h3
        · exact nxLs_p6 s T c0 i fr o X hI0 h0 h1 h2
    · exfalso; have e := congrArg List.length (i4 (by omega)); have := i7 rfl; omega
theorem lfOkLs_0 {l : LF} {h : LH} (s : LB) (T : List LB) (c0 : s.length ≤ 400) (x0 : T.length = 0) (st : Nat × Int × Int × List LB) (hI : InvLs s T st) (hl : l.hp = some h) (hs : lfSame l h 37 keepLs (.exit 0) 7 47 51 = true) {th0 : LA} {sg0 : List (Nat × Nat)} (hth0 : ∀ X, ThOk (cx nu one 1 laidE laidE_stab) (DLs s T st X) th0) (h0 : startOk l h 37 47 48 th0 sg0 (epLs st) (hpLs st) = true) {thx : LA} (hthx : ThOk (ELs_0 s T) (cx nu one 1 laidE laidE_stab) thx) (hx : exitOk l h 37 47 51 thx [(3, .nils)] [] = true) : LfOk (cx nu one 1 laidE laidE_stab) bodyLs l :=
  lfOkX (E := ELs_0 s T) (InvLs s T) (muLs s T) (DLs s T) (fun _ _ => rfl) (fun _ _ => rfl) (fun _ _ => rfl) (fun st X t ht => nuX_keep.trans (rX_keep ((by decide : ∀ t, t ∈ keepLs → t < 1000000) t ht))) rfl rfl rfl hl hs ebLs rfl rfl st hI hth0 h0 hthx hx (roundsLs_0 s T c0 x0)
def nuELs_1 (s : LB) (T : List LB) : List Value := []
def roELs_1 (s : LB) (T : List LB) : List Value := [rwS T]
noncomputable def ELs_1 (s : LB) (T : List LB) : Cx := cx (nuX (nuELs_1 s T) (rX (roELs_1 s T) (fun _ => .bool true))) (nuX_one (nuL_one (l := nuELs_1 s T) rfl)) 1 laidE laidE_stab
theorem roundsLs_1 (s : LB) (T : List LB) (c0 : s.length ≤ 400) (x0 : ¬ T.length = 0) (st : Nat × Int × Int × List LB) (X : Nat → Value) (hI : InvLs s T st) : RHLs s T (ELs_1 s T) (.exit 0) [(3, .sr 47)] [(47, .r 2000000 9 1 false)] st X := by
  obtain ⟨tag, i, fr, o⟩ := st
  have hI0 := hI
  obtain ⟨i0, i1, i2, i3, i4, i5, i6, i7, it⟩ := unILs s T tag i fr o hI
  rcases (show tag = 0 ∨ tag = 1 from by omega) with rfl | rfl
  · skip
    by_cases h0 : i ≤ (s.length : Int)
    · by_cases h1 : i = (s.length : Int)
      · by_cases h2 : ((trQ (List.take (Int.toNat (i - (fr))) (List.drop (Int.toNat (fr)) s))).length : Int) = 0
        · exact nxLs_p4 s T c0 i fr o X hI0 h0 h1 h2
        · exact nxLs_p3 s T c0 i fr o X hI0 h0 h1 h2
      · by_cases h2 : bt s (Int.toNat (i)) = 44
        · by_cases h3 : ((trQ (List.take (Int.toNat (i - (fr))) (List.drop (Int.toNat (fr)) s))).length : Int) = 0
          · exact nxLs_p2 s T c0 i fr o X hI0 h0 h1 h2 h3
          · exact nxLs_p1 s T c0 i fr o X hI0 h0 h1 h2 h3
        · exact nxLs_p0 s T c0 i fr o X hI0 h0 h1 h2
    · exfalso; have e := congrArg List.length (i4 (by omega)); rw [i6 rfl] at e; exact x0 e.symm
  · skip
    by_cases h0 : i ≤ (s.length : Int)
    · by_cases h1 : i = (s.length : Int)
      · by_cases h2 : ((trQ (List.take (Int.toNat (i - (fr))) (List.drop (Int.toNat (fr)) s))).length : Int) = 0
        · exact nxLs_p10 s T c0 i fr o X hI0 h0 h1 h2
        · exact nxLs_p9 s T c0 i fr o X hI0 h0 h1 h2
      · by_cases h2 : bt s (Int.toNat (i)) = 44
        · by_cases h3 : ((trQ (List.take (Int.toNat (i - (fr))) (List.drop (Int.toNat (fr)) s))).length : Int) = 0
          · exact nxLs_p8 s T c0 i fr o X hI0 h0 h1 h2 h3
          · exact nxLs_p7 s T c0 i fr o X hI0 h0 h1 h2 h3
        · exact nxLs_p6 s T c0 i fr o X hI0 h0 h1 h2
    · skip
      refine lvLs_1 s T i fr o (h := hyLs_p11) rfl ?_ (thXe (v := rwS o) (u := rwS T) rfl rfl (congrArg rwS (i4 (by omega))) (thNil)) runLs_p11
      unfold hyLs_p11
      exact hc (kRn (denX rfl)) <|
       hc (lnV rfl rfl (by omega)) <|
       hc (leF rfl rfl (by omega)) <|
       hnil
theorem lfOkLs_1 {l : LF} {h : LH} (s : LB) (T : List LB) (c0 : s.length ≤ 400) (x0 : ¬ T.length = 0) (st : Nat × Int × Int × List LB) (hI : InvLs s T st) (hl : l.hp = some h) (hs : lfSame l h 37 keepLs (.exit 0) 7 47 51 = true) {th0 : LA} {sg0 : List (Nat × Nat)} (hth0 : ∀ X, ThOk (cx nu one 1 laidE laidE_stab) (DLs s T st X) th0) (h0 : startOk l h 37 47 48 th0 sg0 (epLs st) (hpLs st) = true) {thx : LA} (hthx : ThOk (ELs_1 s T) (cx nu one 1 laidE laidE_stab) thx) (hx : exitOk l h 37 47 51 thx [(3, .sr 47)] [(47, .r 2000000 9 1 false)] = true) : LfOk (cx nu one 1 laidE laidE_stab) bodyLs l :=
  lfOkX (E := ELs_1 s T) (InvLs s T) (muLs s T) (DLs s T) (fun _ _ => rfl) (fun _ _ => rfl) (fun _ _ => rfl) (fun st X t ht => nuX_keep.trans (rX_keep ((by decide : ∀ t, t ∈ keepLs → t < 1000000) t ht))) rfl rfl rfl hl hs ebLs rfl rfl st hI hth0 h0 hthx hx (roundsLs_1 s T c0 x0)
noncomputable def bodySm : Code := loopNo (Tryd.f29.body.getD .skip) 0
theorem keySm : oneKey (loopsOf (Tryd.f29.body.getD .skip)) 4 0 0 = true := by kernel_rfl
def keepSm : List Nat := []
def epSm_0 : LA := [(0, .sr 67), (1, .sr 68), (5, .x 0)]
def hpSm_0 : LE := [(67, .r 2000000 9 1 false), (68, .r 2000001 9 1 false)]
def nuSm_0 (T : List LB) (i : Int) : List Value := [.int .i64 (i), .int .i64 ((T.length : Int)), St' (List.getD T (Int.toNat (i)) []), St' (List.getD T (Int.toNat (i)) []), .int .i64 (i + 1), .int .i64 ((T.length : Int))]
def roSm_0 (T : List LB) (i : Int) : List Value := [rwS T, rwS T]
def epSm (st : Nat × Int) : LA := epSm_0
def hpSm (st : Nat × Int) : LE := hpSm_0
def nuSm (T : List LB) (st : Nat × Int) : List Value := nuSm_0 T (st.2)
def roSm (T : List LB) (st : Nat × Int) : List Value := roSm_0 T (st.2)
theorem onSm (T : List LB) (st : Nat × Int) : ∀ j, (nuL (nuSm T st) j).oneCell' = true := by
  intro j
  unfold nuSm
  exact nuL_one (l := nuSm_0 T (st.2)) rfl j
theorem ebSm (st : Nat × Int) : (lfB (epSm st) && lfC keepSm) = true := by
  unfold epSm
  rfl
noncomputable def DSm (T : List LB) (st : Nat × Int) (X : Nat → Value) : Cx := cx (nuX (nuSm T st) (rX (roSm T st) X)) (nuX_one (onSm T st)) 1 laidE laidE_stab
def InvSm (T : List LB) (st : Nat × Int) : Prop := (0 ≤ (st.2)) ∧ ((st.2) ≤ (T.length : Int)) ∧ (T.length ≤ 401) ∧ ((st.1) < 1)
abbrev CjSm (T : List LB) (tag : Nat) (i : Int) : Prop := (0 ≤ i) ∧ (i ≤ (T.length : Int)) ∧ (T.length ≤ 401) ∧ (tag < 1)
theorem mkISm (T : List LB) (tag : Nat) (i : Int) (h : CjSm T tag i) : InvSm T (tag, i) := h
theorem unISm (T : List LB) (tag : Nat) (i : Int) (h : InvSm T (tag, i)) : (0 ≤ i) ∧ (i ≤ (T.length : Int)) ∧ (T.length ≤ 401) ∧ (tag < 1) := h
def muSm (T : List LB) (st : Nat × Int) : Nat := (T.length - (st.2).toNat)
abbrev RHSm (T : List LB) (E' : Cx) (ex' : Ex) (epx' : LA) (hpx' : LE) (st : Nat × Int) (X : Nat → Value) : Prop := RoundH E' bodySm keepSm 26 ex' 7 67 69 69 epSm hpSm epx' hpx' (InvSm T) (muSm T) (DSm T) st X
noncomputable abbrev RNSm_0 (h : LK) (x : Ex) (th : LA) (sg : List (Nat × Nat)) (m : Nat) (ep : LA) (hp : LE) : Bool := okRdH (code (tbl h) 500 [] bodySm (envOf (headOf epSm_0 keepSm) 26) ⟨lhSet hpSm_0 .leaf, 69, 0, 0⟩) x keepSm 26 69 th sg 67 m ep hp
theorem stSm_0 (T : List LB) (i : Int) {X : Nat → Value} {h : LK} (y : Nat × Int) {th : LA} {sg : List (Nat × Nat)} (ho : ∀ a' r', (a', r') ∈ h → HOk (cx (nuX (nuSm_0 T i) (rX (roSm_0 T i) X)) (nuX_one (nuL_one (l := nuSm_0 T i) rfl)) 1 laidE laidE_stab) a' r') (hy : InvSm T y) (lt : muSm T y < muSm T (0, i)) (ht : ThOk (cx (nuX (nuSm_0 T i) (rX (roSm_0 T i) X)) (nuX_one (nuL_one (l := nuSm_0 T i) rfl)) 1 laidE laidE_stab) (DSm T y X) th) (run : RNSm_0 h .normal th sg 69 (epSm y) (hpSm y) = true) : RHSm T E' x' e' h' (0, i) X :=
  RoundH.next (tb := tbl h) (L := []) (f := 500) y ((tabkOk _ _).hyps ho) (LpOk.nil _) rfl hy lt ht run
theorem lvSm_0 (T : List LB) (i : Int) {X : Nat → Value} {h : LK} {th : LA} {sg : List (Nat × Nat)} (hne : exB x' .normal = false) (ho : ∀ a' r', (a', r') ∈ h → HOk (cx (nuX (nuSm_0 T i) (rX (roSm_0 T i) X)) (nuX_one (nuL_one (l := nuSm_0 T i) rfl)) 1 laidE laidE_stab) a' r') (ht : ThOk (cx (nuX (nuSm_0 T i) (rX (roSm_0 T i) X)) (nuX_one (nuL_one (l := nuSm_0 T i) rfl)) 1 laidE laidE_stab) E' th) (run : RNSm_0 h x' th sg 69 e' h' = true) : RHSm T E' x' e' h' (0, i) X :=
  RoundH.leave (tb := tbl h) (L := []) (f := 500) ((tabkOk _ _).hyps ho) (LpOk.nil _) rfl hne ht run
def hySm_p0 : LK := [(.rl (.x 2000000) 1, .x 1), (.bin .lss (.x 0) (.x 1), .b true), (.el (.x 2000000) (.x 0) 1 0, .x 2), (.el (.x 2000001) (.x 0) 1 0, .x 3), (.bin .neq (.x 2) (.x 3), .b false), (.bin .add (.x 0) (.i .i64 (.ofNat 1)), .x 4)]
theorem runSm_p0 : RNSm_0 hySm_p0 .normal [(0, .x 4), (2000000, .x 2000000), (2000001, .x 2000001)] [(67, 67), (68, 68)] 69 epSm_0 hpSm_0 = true := by kernel_rfl
theorem nxSm_p0 (T : List LB) (i : Int) (X : Nat → Value) (hI : InvSm T (0, i)) (h0 : i < (T.length : Int)) : RHSm T E' x' e' h' (0, i) X := by
  obtain ⟨i0, i1, i2, it⟩ := unISm T 0 i hI
  refine stSm_0 T i (h := hySm_p0) (0, (i + 1)) ?_ (mkISm T 0 (i + 1) ⟨by omega, by omega, by omega, by omega⟩) (by show T.length - (i + 1).toNat < T.length - i.toNat; omega) (thXi (b := ((i + 1))) rfl rfl (by omega) (thXv (v := rwS T) rfl rfl (thXv (v := rwS T) rfl rfl (thNil)))) runSm_p0
  unfold hySm_p0
  exact hc (kRl (isX rfl) (denX rfl) (by first | omega | (simp <;> omega))) <|
   hc (ltT rfl rfl (by omega)) <|
   hc (kEl (j := (Int.toNat (i))) (isX rfl) (isX rfl) (denX rfl) (by omega) (by first | omega | (simp <;> omega))) <|
   hc (kEl (j := (Int.toNat (i))) (isX rfl) (isX rfl) (denX rfl) (by omega) (by first | omega | (simp <;> omega))) <|
   hc (kNeS (isX rfl) (isX rfl) (bnF (decide_eq_true rfl))) <|
   hc (adC rfl rfl (by omega)) <|
   hnil
def hySm_p1 : LK := [(.rl (.x 2000000) 1, .x 5), (.bin .lss (.x 0) (.x 5), .b false)]
theorem runSm_p1 : RNSm_0 hySm_p1 (.exit 0) [] [] 69 [] [] = true := by kernel_rfl
def nuESm_0 (T : List LB) : List Value := []
def roESm_0 (T : List LB) : List Value := []
noncomputable def ESm_0 (T : List LB) : Cx := cx (nuX (nuESm_0 T) (rX (roESm_0 T) (fun _ => .bool true))) (nuX_one (nuL_one (l := nuESm_0 T) rfl)) 1 laidE laidE_stab
theorem roundsSm_0 (T : List LB) (st : Nat × Int) (X : Nat → Value) (hI : InvSm T st) : RHSm T (ESm_0 T) (.exit 0) [] [] st X := by
  obtain ⟨tag, i⟩ := st
  have hI0 := hI
  obtain ⟨i0, i1, i2, it⟩ := unISm T tag i hI
  obtain rfl : tag = 0 := by omega
  skip
  by_cases h0 : i < (T.length : Int)
  · exact nxSm_p0 T i X hI0 h0
  · skip
    refine lvSm_0 T i (h := hySm_p1) rfl ?_ (thNil) runSm_p1
    unfold hySm_p1
    exact hc (kRl (isX rfl) (denX rfl) (by first | omega | (simp <;> omega))) <|
     hc (ltF rfl rfl (by omega)) <|
     hnil
theorem lfOkSm_0 {l : LF} {h : LH} (T : List LB) (st : Nat × Int) (hI : InvSm T st) (hl : l.hp = some h) (hs : lfSame l h 26 keepSm (.exit 0) 7 67 69 = true) {th0 : LA} {sg0 : List (Nat × Nat)} (hth0 : ∀ X, ThOk (cx nu one 1 laidE laidE_stab) (DSm T st X) th0) (h0 : startOk l h 26 67 69 th0 sg0 (epSm st) (hpSm st) = true) {thx : LA} (hthx : ThOk (ESm_0 T) (cx nu one 1 laidE laidE_stab) thx) (hx : exitOk l h 26 67 69 thx [] [] = true) : LfOk (cx nu one 1 laidE laidE_stab) bodySm l :=
  lfOkX (E := ESm_0 T) (InvSm T) (muSm T) (DSm T) (fun _ _ => rfl) (fun _ _ => rfl) (fun _ _ => rfl) (fun st X t ht => nuX_keep.trans (rX_keep ((by decide : ∀ t, t ∈ keepSm → t < 1000000) t ht))) rfl rfl rfl hl hs ebSm rfl rfl st hI hth0 h0 hthx hx (roundsSm_0 T)
theorem mkA30 : (loopsOf (Tryd.f30.body.getD .skip)).all (fun b => !(keyEq (Go.AX.keyOf b) 7777777)) = true := by kernel_rfl
theorem mkB30 : Nat.beq (rfsOf (Tryd.f30.body.getD .skip)).length 1 = true := by kernel_rfl
theorem mkC30 : Tryd.f30.body = some (Tryd.f30.body.getD .skip) := by kernel_rfl
noncomputable def fi30 : FI := (tabk.fn.get 30).getD default
theorem fi30_at : tabk.fn.get 30 = some fi30 := by kernel_rfl
theorem fi30_body : fi30.body = some (Tryd.f30.body.getD .skip) := by kernel_rfl
theorem fiB30 : fi30.body.isSome = true := by rw [fi30_body]; rfl
noncomputable def fi3 : FI := (tabk.fn.get 3).getD default
theorem fi3_at : tabk.fn.get 3 = some fi3 := by kernel_rfl
theorem fi3_body : fi3.body = some (Tryd.f3.body.getD .skip) := by kernel_rfl
theorem fiB3 : fi3.body.isSome = true := by rw [fi3_body]; rfl
noncomputable def fi124 : FI := (tabk.fn.get 124).getD default
theorem fi124_at : tabk.fn.get 124 = some fi124 := by kernel_rfl
theorem fi124_body : fi124.body = some (Tryd.f124.body.getD .skip) := by kernel_rfl
theorem fiB124 : fi124.body.isSome = true := by rw [fi124_body]; rfl
noncomputable def fi31 : FI := (tabk.fn.get 31).getD default
theorem fi31_at : tabk.fn.get 31 = some fi31 := by kernel_rfl
theorem fi31_body : fi31.body = some (Tryd.f31.body.getD .skip) := by kernel_rfl
theorem fiB31 : fi31.body.isSome = true := by rw [fi31_body]; rfl
noncomputable def fi29 : FI := (tabk.fn.get 29).getD default
theorem fi29_at : tabk.fn.get 29 = some fi29 := by kernel_rfl
theorem fi29_body : fi29.body = some (Tryd.f29.body.getD .skip) := by kernel_rfl
theorem fiB29 : fi29.body.isSome = true := by rw [fi29_body]; rfl
end Go.Proofs.YtacflaaahanhgaaDoor.octetTells
