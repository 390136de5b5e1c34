/- A part of the proof: an interpreter of the model's own code on partly known states, and that what it answers is what the program answers. No condition of its own. -/
import Derived.Test.YtacflaaahanhgaaDoorC2OctetListsO
set_option maxRecDepth 100000
set_option linter.unusedVariables false
set_option linter.unusedSimpArgs false
set_option maxHeartbeats 4000000
namespace Go.Proofs.YtacflaaahanhgaaDoor.octetLists
open Go Go.AX Go.Proofs Go.Proofs.YtacflaaahanhgaaDoor
variable {nu : Nat → Value} {one : ∀ i, i < 1000000 → (nu i).oneCell' = true} {E' : Cx} {x' : Ex} {e' : LA} {h' : LE}
def tx0 : List AV := [.s 1 97, .s 0 0, .s 3 6496354, .s 1 100, .s 1 32]
theorem tx0_len (c : Int) : (tabS tx0 c).length ≤ 3 := by
  have h : ∀ x ∈ tx0, (match x with | .s len n => (strB len n).length | _ => 0) ≤ 3 := by decide
  unfold tabS
  cases hc : tx0[c.toNat]? with
  | none => exact Nat.zero_le _
  | some x => have := h x (List.mem_of_getElem? hc); cases x <;> first | exact this | exact Nat.zero_le _
def tx1 : List AV := [.s 0 0, .s 1 32, .s 1 9]
theorem tx1_len (c : Int) : (tabS tx1 c).length ≤ 1 := by
  have h : ∀ x ∈ tx1, (match x with | .s len n => (strB len n).length | _ => 0) ≤ 1 := by decide
  unfold tabS
  cases hc : tx1[c.toNat]? with
  | none => exact Nat.zero_le _
  | some x => have := h x (List.mem_of_getElem? hc); cases x <;> first | exact this | exact Nat.zero_le _
def tx2 : List AV := [.s 0 0, .s 1 32]
theorem tx2_len (c : Int) : (tabS tx2 c).length ≤ 1 := by
  have h : ∀ x ∈ tx2, (match x with | .s len n => (strB len n).length | _ => 0) ≤ 1 := by decide
  unfold tabS
  cases hc : tx2[c.toNat]? with
  | none => exact Nat.zero_le _
  | some x => have := h x (List.mem_of_getElem? hc); cases x <;> first | exact this | exact Nat.zero_le _
def pcT (c : Int) : LB := tabS tx1 (c / 5 % 3) ++ (tabS tx0 (c % 5) ++ tabS tx2 (c / 15 % 2))
def wdT (c : Int) : List LB := if (tabS tx0 (c % 5)).length = 0 then [] else if tabS tx0 (c % 5) = [u8 32] then [] else [tabS tx0 (c % 5)]
def jnT : Bool → LB → List Int → LB
  | _, s, [] => s
  | true, s, c :: r => jnT false (s ++ pcT c) r
  | false, s, c :: r => jnT false (s ++ ([u8 44] ++ pcT c)) r
def wtT : List Int → List LB
  | [] => []
  | c :: r => wdT c ++ wtT r
theorem dropI {l : List Int} {i : Int} (h0 : 0 ≤ i) (h1 : i < (l.length : Int)) : l.drop i.toNat = nthI l i.toNat :: l.drop (i + 1).toNat := by
  have hi : i.toNat < l.length := by omega
  have e : (i + 1).toNat = i.toNat + 1 := by omega
  rw [e, List.drop_eq_getElem_cons hi, nthI, List.getD_eq_getElem?_getD, List.getElem?_eq_getElem hi]; rfl
section
variable {l : List Int} {i : Int} {s Ts : LB} {o To : List LB}
theorem jn_0 (h0 : 0 ≤ i) (h1 : i < (l.length : Int)) (hz : ¬ 0 < i) (h : jnT (decide (i = 0)) s (l.drop i.toNat) = Ts) : jnT (decide (i + 1 = 0)) (s ++ pcT (nthI l i.toNat)) (l.drop (i + 1).toNat) = Ts := by
  rw [dropI h0 h1, decide_eq_true (show i = 0 by omega), jnT] at h; rw [decide_eq_false (show ¬ i + 1 = 0 by omega)]; exact h
theorem jn_1 (h0 : 0 ≤ i) (h1 : i < (l.length : Int)) (hz : 0 < i) (h : jnT (decide (i = 0)) s (l.drop i.toNat) = Ts) : jnT (decide (i + 1 = 0)) (s ++ ([u8 44] ++ pcT (nthI l i.toNat))) (l.drop (i + 1).toNat) = Ts := by
  rw [dropI h0 h1, decide_eq_false (show ¬ i = 0 by omega), jnT] at h; rw [decide_eq_false (show ¬ i + 1 = 0 by omega)]; exact h
theorem wt_a (h0 : 0 ≤ i) (h1 : i < (l.length : Int)) (h : o ++ wtT (l.drop i.toNat) = To) : o ++ wdT (nthI l i.toNat) ++ wtT (l.drop (i + 1).toNat) = To := by
  rw [dropI h0 h1, wtT, ← List.append_assoc] at h; exact h
theorem wt_e (h0 : 0 ≤ i) (h1 : i < (l.length : Int)) (hw : ((tabS tx0 (nthI l i.toNat % 5)).length : Int) = 0) (h : o ++ wtT (l.drop i.toNat) = To) : o ++ wtT (l.drop (i + 1).toNat) = To := by
  have := wt_a h0 h1 h; rw [wdT, if_pos (by omega), List.append_nil] at this; exact this
theorem wt_b (h0 : 0 ≤ i) (h1 : i < (l.length : Int)) (hw : tabS tx0 (nthI l i.toNat % 5) = [u8 32]) (h : o ++ wtT (l.drop i.toNat) = To) : o ++ wtT (l.drop (i + 1).toNat) = To := by
  have := wt_a h0 h1 h; rw [wdT, if_pos hw] at this
  split at this <;> simpa using this
theorem wt_c (h0 : 0 ≤ i) (h1 : i < (l.length : Int)) (hv : ¬ ((tabS tx0 (nthI l i.toNat % 5)).length : Int) = 0) (hw : ¬ tabS tx0 (nthI l i.toNat % 5) = [u8 32]) (h : o ++ wtT (l.drop i.toNat) = To) : (o ++ [tabS tx0 (nthI l i.toNat % 5)]) ++ wtT (l.drop (i + 1).toNat) = To := by
  have := wt_a h0 h1 h; rw [wdT, if_neg (by omega), if_neg hw] at this; exact this
theorem jn_x (h0 : 0 ≤ i) (h1 : ¬ i < (l.length : Int)) (h : jnT (decide (i = 0)) s (l.drop i.toNat) = Ts) : s = Ts := by
  rw [List.drop_eq_nil_of_le (by omega)] at h
  cases hd : decide (i = 0) <;> rw [hd] at h <;> exact h
theorem wt_x (h0 : 0 ≤ i) (h1 : ¬ i < (l.length : Int)) (h : o ++ wtT (l.drop i.toNat) = To) : o = To := by
  rw [List.drop_eq_nil_of_le (by omega)] at h
  rw [← h]; simp [wtT]
end
/-- the list of the joined text -/
theorem lsQ_app : ∀ (a cur b : LB), lsQ cur (a ++ 44 :: b) = lsQ cur a ++ lsQ [] b
  | [], cur, b => by
    have e1 : lsQ cur (44 :: b) = keepQ cur ++ lsQ [] b := by rw [lsQ]; exact if_pos rfl
    have e2 : lsQ cur [] = keepQ cur := by rw [lsQ]
    rw [List.nil_append, e1, e2]
  | c :: a, cur, b => by
    have e1 : ∀ x, lsQ cur (c :: x) = if c = 44 then keepQ cur ++ lsQ [] x else lsQ (cur ++ [c]) x := fun x => by rw [lsQ]
    rw [List.cons_append, e1, e1]
    split
    · rw [lsQ_app a [] b, List.append_assoc]
    · exact lsQ_app a _ b
theorem pcT_wd {c : Int} (h0 : 0 ≤ c) (h1 : c ≤ 255) : lsQ [] (pcT c) = wdT c := by
  obtain ⟨n, rfl⟩ := Int.eq_ofNat_of_zero_le h0
  have h : ∀ m : Fin 256, lsQ [] (pcT (m.val : Int)) = wdT (m.val : Int) := by decide +kernel
  exact h ⟨n, by omega⟩
theorem jnF : ∀ (l : List Int) (s : LB), (∀ n, n ∈ l → 0 ≤ n ∧ n ≤ 255) → lsQ [] (jnT false s l) = lsQ [] s ++ wtT l
  | [], s, _ => by rw [jnT, wtT, List.append_nil]
  | c :: l, s, h => by
    have hc := h c (List.mem_cons_self ..)
    rw [jnT, jnF l _ (fun n hn => h n (List.mem_cons_of_mem _ hn)), wtT, ← pcT_wd hc.1 hc.2, show s ++ ([u8 44] ++ pcT c) = s ++ 44 :: pcT c from rfl, lsQ_app, List.append_assoc]
theorem lsQ_jn (l : List Int) (h : ∀ n, n ∈ l → 0 ≤ n ∧ n ≤ 255) : lsQ [] (jnT true [] l) = wtT l := by
  cases l with
  | nil => rfl
  | cons c l =>
    have hc := h c (List.mem_cons_self ..)
    rw [jnT, jnF l _ (fun n hn => h n (List.mem_cons_of_mem _ hn)), List.nil_append, pcT_wd hc.1 hc.2]; rfl
theorem pcT_len (c : Int) : (pcT c).length ≤ 5 := by
  have h0 := tx0_len (c % 5); have h1 := tx1_len (c / 5 % 3); have h2 := tx2_len (c / 15 % 2)
  unfold pcT; simp only [List.length_append]; omega
theorem jnT_len : ∀ (l : List Int) (b : Bool) (s : LB), (jnT b s l).length ≤ s.length + 6 * l.length
  | [], b, s => by cases b <;> exact Nat.le_refl _
  | c :: l, b, s => by
    have h := pcT_len c
    cases b
    · have h2 := jnT_len l false (s ++ ([u8 44] ++ pcT c))
      rw [jnT]; refine Nat.le_trans h2 ?_; simp only [List.length_append, List.length_cons, List.length_nil]; omega
    · have h2 := jnT_len l false (s ++ pcT c)
      rw [jnT]; refine Nat.le_trans h2 ?_; simp only [List.length_append, List.length_cons, List.length_nil]; omega
theorem wdT_len (c : Int) : (wdT c).length ≤ 1 := by
  unfold wdT; split
  · exact Nat.zero_le _
  · split
    · exact Nat.zero_le _
    · exact Nat.le_refl _
theorem wtT_len : ∀ l : List Int, (wtT l).length ≤ l.length
  | [] => Nat.le_refl _
  | c :: l => by have := wtT_len l; have := wdT_len c; rw [wtT]; simp only [List.length_append, List.length_cons]; omega
noncomputable def bodyOl : Code := loopNo (Tryd.f6.body.getD .skip) 0
theorem keyOl : oneKey (loopsOf (Tryd.f6.body.getD .skip)) 8 0 0 = true := by kernel_rfl
def keepOl : List Nat := []
def epOl_0 : LA := [(0, .sr 7), (3, .x 0), (5, .x 1), (4, .nils)]
def hpOl_0 : LE := [(7, .r 2000000 5 1 true)]
def nuOl_0 (z : List Int) (Ts : LB) (To : List LB) (i : Int) (s : LB) (o : List LB) : List Value := [St' s, .int .i64 (i), .int .i64 ((z.length : Int)), .int .u8 (nthI z (Int.toNat (i))), .int .u8 ((nthI z (Int.toNat (i))) % 5), St' (tabS tx0 ((nthI z (Int.toNat (i))) % 5)), .int .u8 ((nthI z (Int.toNat (i))) / 5), .int .u8 (((nthI z (Int.toNat (i))) / 5) % 3), St' (tabS tx1 (((nthI z (Int.toNat (i))) / 5) % 3)), St' (s ++ (tabS tx1 (((nthI z (Int.toNat (i))) / 5) % 3))), St' (s ++ ((tabS tx1 (((nthI z (Int.toNat (i))) / 5) % 3)) ++ (tabS tx0 ((nthI z (Int.toNat (i))) % 5)))), .int .u8 ((nthI z (Int.toNat (i))) / 15), .int .u8 (((nthI z (Int.toNat (i))) / 15) % 2), St' (tabS tx2 (((nthI z (Int.toNat (i))) / 15) % 2)), St' (s ++ ((tabS tx1 (((nthI z (Int.toNat (i))) / 5) % 3)) ++ ((tabS tx0 ((nthI z (Int.toNat (i))) % 5)) ++ (tabS tx2 (((nthI z (Int.toNat (i))) / 15) % 2))))), .int .i64 (i + 1), .int .i64 ((z.length : Int)), .int .u8 (nthI z (Int.toNat (i))), .int .u8 ((nthI z (Int.toNat (i))) % 5), St' (tabS tx0 ((nthI z (Int.toNat (i))) % 5)), .int .u8 ((nthI z (Int.toNat (i))) / 5), .int .u8 (((nthI z (Int.toNat (i))) / 5) % 3), St' (tabS tx1 (((nthI z (Int.toNat (i))) / 5) % 3)), St' (s ++ (tabS tx1 (((nthI z (Int.toNat (i))) / 5) % 3))), St' (s ++ ((tabS tx1 (((nthI z (Int.toNat (i))) / 5) % 3)) ++ (tabS tx0 ((nthI z (Int.toNat (i))) % 5)))), .int .u8 ((nthI z (Int.toNat (i))) / 15), .int .u8 (((nthI z (Int.toNat (i))) / 15) % 2), St' (tabS tx2 (((nthI z (Int.toNat (i))) / 15) % 2)), St' (s ++ ((tabS tx1 (((nthI z (Int.toNat (i))) / 5) % 3)) ++ ((tabS tx0 ((nthI z (Int.toNat (i))) % 5)) ++ (tabS tx2 (((nthI z (Int.toNat (i))) / 15) % 2))))), .int .i64 (i + 1), .int .i64 ((z.length : Int)), .int .u8 (nthI z (Int.toNat (i))), .int .u8 ((nthI z (Int.toNat (i))) % 5), St' (tabS tx0 ((nthI z (Int.toNat (i))) % 5)), .int .u8 ((nthI z (Int.toNat (i))) / 5), .int .u8 (((nthI z (Int.toNat (i))) / 5) % 3), St' (tabS tx1 (((nthI z (Int.toNat (i))) / 5) % 3)), St' (s ++ (tabS tx1 (((nthI z (Int.toNat (i))) / 5) % 3))), St' (s ++ ((tabS tx1 (((nthI z (Int.toNat (i))) / 5) % 3)) ++ (tabS tx0 ((nthI z (Int.toNat (i))) % 5)))), .int .u8 ((nthI z (Int.toNat (i))) / 15), .int .u8 (((nthI z (Int.toNat (i))) / 15) % 2), St' (tabS tx2 (((nthI z (Int.toNat (i))) / 15) % 2)), St' (s ++ ((tabS tx1 (((nthI z (Int.toNat (i))) / 5) % 3)) ++ ((tabS tx0 ((nthI z (Int.toNat (i))) % 5)) ++ (tabS tx2 (((nthI z (Int.toNat (i))) / 15) % 2))))), .int .i64 (i + 1), .int .i64 ((z.length : Int)), .int .u8 (nthI z (Int.toNat (i))), .int .u8 ((nthI z (Int.toNat (i))) % 5), St' (tabS tx0 ((nthI z (Int.toNat (i))) % 5)), St' (s ++ [u8 44]), .int .u8 ((nthI z (Int.toNat (i))) / 5), .int .u8 (((nthI z (Int.toNat (i))) / 5) % 3), St' (tabS tx1 (((nthI z (Int.toNat (i))) / 5) % 3)), St' (s ++ ([u8 44] ++ (tabS tx1 (((nthI z (Int.toNat (i))) / 5) % 3)))), St' (s ++ ([u8 44] ++ ((tabS tx1 (((nthI z (Int.toNat (i))) / 5) % 3)) ++ (tabS tx0 ((nthI z (Int.toNat (i))) % 5))))), .int .u8 ((nthI z (Int.toNat (i))) / 15), .int .u8 (((nthI z (Int.toNat (i))) / 15) % 2), St' (tabS tx2 (((nthI z (Int.toNat (i))) / 15) % 2)), St' (s ++ ([u8 44] ++ ((tabS tx1 (((nthI z (Int.toNat (i))) / 5) % 3)) ++ ((tabS tx0 ((nthI z (Int.toNat (i))) % 5)) ++ (tabS tx2 (((nthI z (Int.toNat (i))) / 15) % 2)))))), .int .i64 (i + 1), .int .i64 ((z.length : Int)), .int .u8 (nthI z (Int.toNat (i))), .int .u8 ((nthI z (Int.toNat (i))) % 5), St' (tabS tx0 ((nthI z (Int.toNat (i))) % 5)), St' (s ++ [u8 44]), .int .u8 ((nthI z (Int.toNat (i))) / 5), .int .u8 (((nthI z (Int.toNat (i))) / 5) % 3), St' (tabS tx1 (((nthI z (Int.toNat (i))) / 5) % 3)), St' (s ++ ([u8 44] ++ (tabS tx1 (((nthI z (Int.toNat (i))) / 5) % 3)))), St' (s ++ ([u8 44] ++ ((tabS tx1 (((nthI z (Int.toNat (i))) / 5) % 3)) ++ (tabS tx0 ((nthI z (Int.toNat (i))) % 5))))), .int .u8 ((nthI z (Int.toNat (i))) / 15), .int .u8 (((nthI z (Int.toNat (i))) / 15) % 2), St' (tabS tx2 (((nthI z (Int.toNat (i))) / 15) % 2)), St' (s ++ ([u8 44] ++ ((tabS tx1 (((nthI z (Int.toNat (i))) / 5) % 3)) ++ ((tabS tx0 ((nthI z (Int.toNat (i))) % 5)) ++ (tabS tx2 (((nthI z (Int.toNat (i))) / 15) % 2)))))), .int .i64 (i + 1), .int .i64 ((z.length : Int)), .int .u8 (nthI z (Int.toNat (i))), .int .u8 ((nthI z (Int.toNat (i))) % 5), St' (tabS tx0 ((nthI z (Int.toNat (i))) % 5)), St' (s ++ [u8 44]), .int .u8 ((nthI z (Int.toNat (i))) / 5), .int .u8 (((nthI z (Int.toNat (i))) / 5) % 3), St' (tabS tx1 (((nthI z (Int.toNat (i))) / 5) % 3)), St' (s ++ ([u8 44] ++ (tabS tx1 (((nthI z (Int.toNat (i))) / 5) % 3)))), St' (s ++ ([u8 44] ++ ((tabS tx1 (((nthI z (Int.toNat (i))) / 5) % 3)) ++ (tabS tx0 ((nthI z (Int.toNat (i))) % 5))))), .int .u8 ((nthI z (Int.toNat (i))) / 15), .int .u8 (((nthI z (Int.toNat (i))) / 15) % 2), St' (tabS tx2 (((nthI z (Int.toNat (i))) / 15) % 2)), St' (s ++ ([u8 44] ++ ((tabS tx1 (((nthI z (Int.toNat (i))) / 5) % 3)) ++ ((tabS tx0 ((nthI z (Int.toNat (i))) % 5)) ++ (tabS tx2 (((nthI z (Int.toNat (i))) / 15) % 2)))))), .int .i64 (i + 1), .int .i64 ((z.length : Int))]
def roOl_0 (z : List Int) (Ts : LB) (To : List LB) (i : Int) (s : LB) (o : List LB) : List Value := [rwI .u8 z, rwS ([] : List LB), rwS (([] : List LB) ++ [(tabS tx0 ((nthI z (Int.toNat (i))) % 5))]), rwS ([] : List LB), rwS ([] : List LB), rwS ([] : List LB), rwS (([] : List LB) ++ [(tabS tx0 ((nthI z (Int.toNat (i))) % 5))]), rwS ([] : List LB), rwS ([] : List LB), rwS ([] : List LB)]
def epOl_1 : LA := [(0, .sr 7), (3, .x 0), (5, .x 1), (4, .sr 8)]
def hpOl_1 : LE := [(7, .r 2000000 5 1 true), (8, .r 2000001 9 1 false)]
def nuOl_1 (z : List Int) (Ts : LB) (To : List LB) (i : Int) (s : LB) (o : List LB) : List Value := [St' s, .int .i64 (i), .int .i64 ((z.length : Int)), .int .u8 (nthI z (Int.toNat (i))), .int .u8 ((nthI z (Int.toNat (i))) % 5), St' (tabS tx0 ((nthI z (Int.toNat (i))) % 5)), .int .u8 ((nthI z (Int.toNat (i))) / 5), .int .u8 (((nthI z (Int.toNat (i))) / 5) % 3), St' (tabS tx1 (((nthI z (Int.toNat (i))) / 5) % 3)), St' (s ++ (tabS tx1 (((nthI z (Int.toNat (i))) / 5) % 3))), St' (s ++ ((tabS tx1 (((nthI z (Int.toNat (i))) / 5) % 3)) ++ (tabS tx0 ((nthI z (Int.toNat (i))) % 5)))), .int .u8 ((nthI z (Int.toNat (i))) / 15), .int .u8 (((nthI z (Int.toNat (i))) / 15) % 2), St' (tabS tx2 (((nthI z (Int.toNat (i))) / 15) % 2)), St' (s ++ ((tabS tx1 (((nthI z (Int.toNat (i))) / 5) % 3)) ++ ((tabS tx0 ((nthI z (Int.toNat (i))) % 5)) ++ (tabS tx2 (((nthI z (Int.toNat (i))) / 15) % 2))))), .int .i64 (i + 1), .int .i64 ((z.length : Int)), .int .u8 (nthI z (Int.toNat (i))), .int .u8 ((nthI z (Int.toNat (i))) % 5), St' (tabS tx0 ((nthI z (Int.toNat (i))) % 5)), .int .u8 ((nthI z (Int.toNat (i))) / 5), .int .u8 (((nthI z (Int.toNat (i))) / 5) % 3), St' (tabS tx1 (((nthI z (Int.toNat (i))) / 5) % 3)), St' (s ++ (tabS tx1 (((nthI z (Int.toNat (i))) / 5) % 3))), St' (s ++ ((tabS tx1 (((nthI z (Int.toNat (i))) / 5) % 3)) ++ (tabS tx0 ((nthI z (Int.toNat (i))) % 5)))), .int .u8 ((nthI z (Int.toNat (i))) / 15), .int .u8 (((nthI z (Int.toNat (i))) / 15) % 2), St' (tabS tx2 (((nthI z (Int.toNat (i))) / 15) % 2)), St' (s ++ ((tabS tx1 (((nthI z (Int.toNat (i))) / 5) % 3)) ++ ((tabS tx0 ((nthI z (Int.toNat (i))) % 5)) ++ (tabS tx2 (((nthI z (Int.toNat (i))) / 15) % 2))))), .int .i64 (i + 1), .int .i64 ((z.length : Int)), .int .u8 (nthI z (Int.toNat (i))), .int .u8 ((nthI z (Int.toNat (i))) % 5), St' (tabS tx0 ((nthI z (Int.toNat (i))) % 5)), .int .u8 ((nthI z (Int.toNat (i))) / 5), .int .u8 (((nthI z (Int.toNat (i))) / 5) % 3), St' (tabS tx1 (((nthI z (Int.toNat (i))) / 5) % 3)), St' (s ++ (tabS tx1 (((nthI z (Int.toNat (i))) / 5) % 3))), St' (s ++ ((tabS tx1 (((nthI z (Int.toNat (i))) / 5) % 3)) ++ (tabS tx0 ((nthI z (Int.toNat (i))) % 5)))), .int .u8 ((nthI z (Int.toNat (i))) / 15), .int .u8 (((nthI z (Int.toNat (i))) / 15) % 2), St' (tabS tx2 (((nthI z (Int.toNat (i))) / 15) % 2)), St' (s ++ ((tabS tx1 (((nthI z (Int.toNat (i))) / 5) % 3)) ++ ((tabS tx0 ((nthI z (Int.toNat (i))) % 5)) ++ (tabS tx2 (((nthI z (Int.toNat (i))) / 15) % 2))))), .int .i64 (i + 1), .int .i64 ((z.length : Int)), .int .u8 (nthI z (Int.toNat (i))), .int .u8 ((nthI z (Int.toNat (i))) % 5), St' (tabS tx0 ((nthI z (Int.toNat (i))) % 5)), St' (s ++ [u8 44]), .int .u8 ((nthI z (Int.toNat (i))) / 5), .int .u8 (((nthI z (Int.toNat (i))) / 5) % 3), St' (tabS tx1 (((nthI z (Int.toNat (i))) / 5) % 3)), St' (s ++ ([u8 44] ++ (tabS tx1 (((nthI z (Int.toNat (i))) / 5) % 3)))), St' (s ++ ([u8 44] ++ ((tabS tx1 (((nthI z (Int.toNat (i))) / 5) % 3)) ++ (tabS tx0 ((nthI z (Int.toNat (i))) % 5))))), .int .u8 ((nthI z (Int.toNat (i))) / 15), .int .u8 (((nthI z (Int.toNat (i))) / 15) % 2), St' (tabS tx2 (((nthI z (Int.toNat (i))) / 15) % 2)), St' (s ++ ([u8 44] ++ ((tabS tx1 (((nthI z (Int.toNat (i))) / 5) % 3)) ++ ((tabS tx0 ((nthI z (Int.toNat (i))) % 5)) ++ (tabS tx2 (((nthI z (Int.toNat (i))) / 15) % 2)))))), .int .i64 (i + 1), .int .i64 ((z.length : Int)), .int .u8 (nthI z (Int.toNat (i))), .int .u8 ((nthI z (Int.toNat (i))) % 5), St' (tabS tx0 ((nthI z (Int.toNat (i))) % 5)), St' (s ++ [u8 44]), .int .u8 ((nthI z (Int.toNat (i))) / 5), .int .u8 (((nthI z (Int.toNat (i))) / 5) % 3), St' (tabS tx1 (((nthI z (Int.toNat (i))) / 5) % 3)), St' (s ++ ([u8 44] ++ (tabS tx1 (((nthI z (Int.toNat (i))) / 5) % 3)))), St' (s ++ ([u8 44] ++ ((tabS tx1 (((nthI z (Int.toNat (i))) / 5) % 3)) ++ (tabS tx0 ((nthI z (Int.toNat (i))) % 5))))), .int .u8 ((nthI z (Int.toNat (i))) / 15), .int .u8 (((nthI z (Int.toNat (i))) / 15) % 2), St' (tabS tx2 (((nthI z (Int.toNat (i))) / 15) % 2)), St' (s ++ ([u8 44] ++ ((tabS tx1 (((nthI z (Int.toNat (i))) / 5) % 3)) ++ ((tabS tx0 ((nthI z (Int.toNat (i))) % 5)) ++ (tabS tx2 (((nthI z (Int.toNat (i))) / 15) % 2)))))), .int .i64 (i + 1), .int .i64 ((z.length : Int)), .int .u8 (nthI z (Int.toNat (i))), .int .u8 ((nthI z (Int.toNat (i))) % 5), St' (tabS tx0 ((nthI z (Int.toNat (i))) % 5)), St' (s ++ [u8 44]), .int .u8 ((nthI z (Int.toNat (i))) / 5), .int .u8 (((nthI z (Int.toNat (i))) / 5) % 3), St' (tabS tx1 (((nthI z (Int.toNat (i))) / 5) % 3)), St' (s ++ ([u8 44] ++ (tabS tx1 (((nthI z (Int.toNat (i))) / 5) % 3)))), St' (s ++ ([u8 44] ++ ((tabS tx1 (((nthI z (Int.toNat (i))) / 5) % 3)) ++ (tabS tx0 ((nthI z (Int.toNat (i))) % 5))))), .int .u8 ((nthI z (Int.toNat (i))) / 15), .int .u8 (((nthI z (Int.toNat (i))) / 15) % 2), St' (tabS tx2 (((nthI z (Int.toNat (i))) / 15) % 2)), St' (s ++ ([u8 44] ++ ((tabS tx1 (((nthI z (Int.toNat (i))) / 5) % 3)) ++ ((tabS tx0 ((nthI z (Int.toNat (i))) % 5)) ++ (tabS tx2 (((nthI z (Int.toNat (i))) / 15) % 2)))))), .int .i64 (i + 1), .int .i64 ((z.length : Int))]
def roOl_1 (z : List Int) (Ts : LB) (To : List LB) (i : Int) (s : LB) (o : List LB) : List Value := [rwI .u8 z, rwS o, rwS ([] : List LB), rwS (o ++ [(tabS tx0 ((nthI z (Int.toNat (i))) % 5))]), rwS ([] : List LB), rwS ([] : List LB), rwS ([] : List LB), rwS (o ++ [(tabS tx0 ((nthI z (Int.toNat (i))) % 5))]), rwS ([] : List LB), rwS ([] : List LB), rwS ([] : List LB)]
def epOl (st : Nat × Int × LB × List LB) : LA := if st.1 = 0 then epOl_0 else epOl_1
def hpOl (st : Nat × Int × LB × List LB) : LE := if st.1 = 0 then hpOl_0 else hpOl_1
def nuOl (z : List Int) (Ts : LB) (To : List LB) (st : Nat × Int × LB × List LB) : List Value := if st.1 = 0 then nuOl_0 z Ts To (st.2.1) (st.2.2.1) (st.2.2.2) else nuOl_1 z Ts To (st.2.1) (st.2.2.1) (st.2.2.2)
def roOl (z : List Int) (Ts : LB) (To : List LB) (st : Nat × Int × LB × List LB) : List Value := if st.1 = 0 then roOl_0 z Ts To (st.2.1) (st.2.2.1) (st.2.2.2) else roOl_1 z Ts To (st.2.1) (st.2.2.1) (st.2.2.2)
theorem onOl (z : List Int) (Ts : LB) (To : List LB) (st : Nat × Int × LB × List LB) : ∀ j, (nuL (nuOl z Ts To st) j).oneCell' = true := by
  intro j
  unfold nuOl
  split
  · exact nuL_one (l := nuOl_0 z Ts To (st.2.1) (st.2.2.1) (st.2.2.2)) rfl j
  exact nuL_one (l := nuOl_1 z Ts To (st.2.1) (st.2.2.1) (st.2.2.2)) rfl j
theorem ebOl (st : Nat × Int × LB × List LB) : (lfB (epOl st) && lfC keepOl) = true := by
  unfold epOl
  split
  · rfl
  rfl
noncomputable def DOl (z : List Int) (Ts : LB) (To : List LB) (st : Nat × Int × LB × List LB) (X : Nat → Value) : Cx := cx (nuX (nuOl z Ts To st) (rX (roOl z Ts To st) X)) (nuX_one (onOl z Ts To st)) 0 laidE laidE_stab
def InvOl (z : List Int) (Ts : LB) (To : List LB) (st : Nat × Int × LB × List LB) : Prop := (0 ≤ (st.2.1)) ∧ ((st.2.1) ≤ (z.length : Int)) ∧ (z.length ≤ 30) ∧ (∀ n, n ∈ z → 0 ≤ n ∧ n ≤ 255) ∧ (jnT (decide ((st.2.1) = 0)) (st.2.2.1) (z.drop (Int.toNat (st.2.1))) = Ts) ∧ ((st.2.2.2) ++ wtT (z.drop (Int.toNat (st.2.1))) = To) ∧ (((st.2.2.1).length : Int) ≤ 7 * (st.2.1)) ∧ (((st.2.2.2).length : Int) ≤ (st.2.1)) ∧ ((st.1) = 0 → (st.2.2.2) = []) ∧ ((st.1) = 1 → 1 ≤ (st.2.2.2).length) ∧ ((st.1) < 2)
abbrev CjOl (z : List Int) (Ts : LB) (To : List LB) (tag : Nat) (i : Int) (s : LB) (o : List LB) : Prop := (0 ≤ i) ∧ (i ≤ (z.length : Int)) ∧ (z.length ≤ 30) ∧ (∀ n, n ∈ z → 0 ≤ n ∧ n ≤ 255) ∧ (jnT (decide (i = 0)) s (z.drop (Int.toNat i)) = Ts) ∧ (o ++ wtT (z.drop (Int.toNat i)) = To) ∧ ((s.length : Int) ≤ 7 * i) ∧ ((o.length : Int) ≤ i) ∧ (tag = 0 → o = []) ∧ (tag = 1 → 1 ≤ o.length) ∧ (tag < 2)
theorem mkIOl (z : List Int) (Ts : LB) (To : List LB) (tag : Nat) (i : Int) (s : LB) (o : List LB) (h : CjOl z Ts To tag i s o) : InvOl z Ts To (tag, i, s, o) := h
theorem unIOl (z : List Int) (Ts : LB) (To : List LB) (tag : Nat) (i : Int) (s : LB) (o : List LB) (h : InvOl z Ts To (tag, i, s, o)) : (0 ≤ i) ∧ (i ≤ (z.length : Int)) ∧ (z.length ≤ 30) ∧ (∀ n, n ∈ z → 0 ≤ n ∧ n ≤ 255) ∧ (jnT (decide (i = 0)) s (z.drop (Int.toNat i)) = Ts) ∧ (o ++ wtT (z.drop (Int.toNat i)) = To) ∧ ((s.length : Int) ≤ 7 * i) ∧ ((o.length : Int) ≤ i) ∧ (tag = 0 → o = []) ∧ (tag = 1 → 1 ≤ o.length) ∧ (tag < 2) := h
def muOl (z : List Int) (Ts : LB) (To : List LB) (st : Nat × Int × LB × List LB) : Nat := (z.length - (st.2.1).toNat)
abbrev RHOl (z : List Int) (Ts : LB) (To : List LB) (E' : Cx) (ex' : Ex) (epx' : LA) (hpx' : LE) (st : Nat × Int × LB × List LB) (X : Nat → Value) : Prop := RoundH E' bodyOl keepOl 64 ex' 7 8 9 21 epOl hpOl epx' hpx' (InvOl z Ts To) (muOl z Ts To) (DOl z Ts To) st X
noncomputable abbrev RNOl_0 (h : LK) (x : Ex) (th : LA) (sg : List (Nat × Nat)) (m : Nat) (ep : LA) (hp : LE) : Bool := okRdH (code (tbl h) 2000 [] bodyOl (envOf (headOf epOl_0 keepOl) 64) ⟨lhSet hpOl_0 .leaf, 9, 0, 0⟩) x keepOl 64 21 th sg 8 m ep hp
theorem stOl_0 (z : List Int) (Ts : LB) (To : List LB) (i : Int) (s : LB) (o : List LB) {X : Nat → Value} {h : LK} (y : Nat × Int × LB × List LB) {th : LA} {sg : List (Nat × Nat)} (ho : ∀ a' r', (a', r') ∈ h → HOk (cx (nuX (nuOl_0 z Ts To i s o) (rX (roOl_0 z Ts To i s o) X)) (nuX_one (nuL_one (l := nuOl_0 z Ts To i s o) rfl)) 0 laidE laidE_stab) a' r') (hy : InvOl z Ts To y) (lt : muOl z Ts To y < muOl z Ts To (0, i, s, o)) (ht : ThOk (cx (nuX (nuOl_0 z Ts To i s o) (rX (roOl_0 z Ts To i s o) X)) (nuX_one (nuL_one (l := nuOl_0 z Ts To i s o) rfl)) 0 laidE laidE_stab) (DOl z Ts To y X) th) (run : RNOl_0 h .normal th sg 9 (epOl y) (hpOl y) = true) : RHOl z Ts To E' x' e' h' (0, i, s, o) X :=
  RoundH.next (tb := tbl h) (L := []) (f := 2000) y ((tabkOk _ _).hyps ho) (LpOk.nil _) rfl hy lt ht run
theorem lvOl_0 (z : List Int) (Ts : LB) (To : List LB) (i : Int) (s : LB) (o : List LB) {X : Nat → Value} {h : LK} {th : LA} {sg : List (Nat × Nat)} (hne : exB x' .normal = false) (ho : ∀ a' r', (a', r') ∈ h → HOk (cx (nuX (nuOl_0 z Ts To i s o) (rX (roOl_0 z Ts To i s o) X)) (nuX_one (nuL_one (l := nuOl_0 z Ts To i s o) rfl)) 0 laidE laidE_stab) a' r') (ht : ThOk (cx (nuX (nuOl_0 z Ts To i s o) (rX (roOl_0 z Ts To i s o) X)) (nuX_one (nuL_one (l := nuOl_0 z Ts To i s o) rfl)) 0 laidE laidE_stab) E' th) (run : RNOl_0 h x' th sg 21 e' h' = true) : RHOl z Ts To E' x' e' h' (0, i, s, o) X :=
  RoundH.leave (tb := tbl h) (L := []) (f := 2000) ((tabkOk _ _).hyps ho) (LpOk.nil _) rfl hne ht run
noncomputable abbrev RNOl_1 (h : LK) (x : Ex) (th : LA) (sg : List (Nat × Nat)) (m : Nat) (ep : LA) (hp : LE) : Bool := okRdH (code (tbl h) 2000 [] bodyOl (envOf (headOf epOl_1 keepOl) 64) ⟨lhSet hpOl_1 .leaf, 9, 0, 0⟩) x keepOl 64 21 th sg 8 m ep hp
theorem stOl_1 (z : List Int) (Ts : LB) (To : List LB) (i : Int) (s : LB) (o : List LB) {X : Nat → Value} {h : LK} (y : Nat × Int × LB × List LB) {th : LA} {sg : List (Nat × Nat)} (ho : ∀ a' r', (a', r') ∈ h → HOk (cx (nuX (nuOl_1 z Ts To i s o) (rX (roOl_1 z Ts To i s o) X)) (nuX_one (nuL_one (l := nuOl_1 z Ts To i s o) rfl)) 0 laidE laidE_stab) a' r') (hy : InvOl z Ts To y) (lt : muOl z Ts To y < muOl z Ts To (1, i, s, o)) (ht : ThOk (cx (nuX (nuOl_1 z Ts To i s o) (rX (roOl_1 z Ts To i s o) X)) (nuX_one (nuL_one (l := nuOl_1 z Ts To i s o) rfl)) 0 laidE laidE_stab) (DOl z Ts To y X) th) (run : RNOl_1 h .normal th sg 9 (epOl y) (hpOl y) = true) : RHOl z Ts To E' x' e' h' (1, i, s, o) X :=
  RoundH.next (tb := tbl h) (L := []) (f := 2000) y ((tabkOk _ _).hyps ho) (LpOk.nil _) rfl hy lt ht run
theorem lvOl_1 (z : List Int) (Ts : LB) (To : List LB) (i : Int) (s : LB) (o : List LB) {X : Nat → Value} {h : LK} {th : LA} {sg : List (Nat × Nat)} (hne : exB x' .normal = false) (ho : ∀ a' r', (a', r') ∈ h → HOk (cx (nuX (nuOl_1 z Ts To i s o) (rX (roOl_1 z Ts To i s o) X)) (nuX_one (nuL_one (l := nuOl_1 z Ts To i s o) rfl)) 0 laidE laidE_stab) a' r') (ht : ThOk (cx (nuX (nuOl_1 z Ts To i s o) (rX (roOl_1 z Ts To i s o) X)) (nuX_one (nuL_one (l := nuOl_1 z Ts To i s o) rfl)) 0 laidE laidE_stab) E' th) (run : RNOl_1 h x' th sg 21 e' h' = true) : RHOl z Ts To E' x' e' h' (1, i, s, o) X :=
  RoundH.leave (tb := tbl h) (L := []) (f := 2000) ((tabkOk _ _).hyps ho) (LpOk.nil _) rfl hne ht run
def hyOl_p0 : LK := [(.rn, .x 2000001), (.rl (.x 2000000) 1, .x 2), (.bin .lss (.x 1) (.x 2), .b true), (.el (.x 2000000) (.x 1) 1 0, .x 3), (.bin .rem (.x 3) (.i .u8 (.ofNat 5)), .x 4), (.tab [.s 1 97, .s 0 0, .s 3 6496354, .s 1 100, .s 1 32] (.x 4), .x 5), (.bin .gtr (.x 1) (.i .i64 (.ofNat 0)), .b false), (.bin .quo (.x 3) (.i .u8 (.ofNat 5)), .x 6), (.bin .rem (.x 6) (.i .u8 (.ofNat 3)), .x 7), (.tab [.s 0 0, .s 1 32, .s 1 9] (.x 7), .x 8), (.bin .add (.x 0) (.x 8), .x 9), (.bin .add (.x 9) (.x 5), .x 10), (.bin .quo (.x 3) (.i .u8 (.ofNat 15)), .x 11), (.bin .rem (.x 11) (.i .u8 (.ofNat 2)), .x 12), (.tab [.s 0 0, .s 1 32] (.x 12), .x 13), (.bin .add (.x 10) (.x 13), .x 14), (.bin .neq (.x 5) (.s 0 0), .b true), (.bin .neq (.x 5) (.s 1 32), .b true), (.ra (.x 2000001) [.x 5], .x 2000002), (.rf (.x 2000002) 1 16, .b true), (.bin .add (.x 1) (.i .i64 (.ofNat 1)), .x 15)]
theorem runOl_p0 : RNOl_0 hyOl_p0 .normal [(0, .x 14), (1, .x 15), (2000000, .x 2000000), (2000001, .x 2000002)] [(8, 10)] 9 epOl_1 hpOl_1 = true := by kernel_rfl
theorem nxOl_p0 (z : List Int) (Ts : LB) (To : List LB) (i : Int) (s : LB) (o : List LB) (X : Nat → Value) (hI : InvOl z Ts To (0, i, s, o)) (h0 : i < (z.length : Int)) (h1 : ¬ (0 < i)) (h2 : ¬ (((tabS tx0 ((nthI z (Int.toNat (i))) % 5)).length : Int) = 0)) (h3 : ¬ ((tabS tx0 ((nthI z (Int.toNat (i))) % 5)) = [u8 32])) : RHOl z Ts To E' x' e' h' (0, i, s, o) X := by
  obtain ⟨i0, i1, i2, i3, i4, i5, i6, i7, i8, i9, it⟩ := unIOl z Ts To 0 i s o hI
  have := rngAt (lo := 0) (hi := 255) (l := z) (by decide) (by decide) (by assumption) (Int.toNat (i))
  have := tx0_len ((nthI z (Int.toNat (i))) % 5)
  have := tx1_len (((nthI z (Int.toNat (i))) / 5) % 3)
  have := tx2_len (((nthI z (Int.toNat (i))) / 15) % 2)
  refine stOl_0 z Ts To i s o (h := hyOl_p0) (1, (i + 1), (s ++ ((tabS tx1 (((nthI z (Int.toNat (i))) / 5) % 3)) ++ ((tabS tx0 ((nthI z (Int.toNat (i))) % 5)) ++ (tabS tx2 (((nthI z (Int.toNat (i))) / 15) % 2))))), (([] : List LB) ++ [(tabS tx0 ((nthI z (Int.toNat (i))) % 5))])) ?_ (mkIOl z Ts To 1 (i + 1) (s ++ ((tabS tx1 (((nthI z (Int.toNat (i))) / 5) % 3)) ++ ((tabS tx0 ((nthI z (Int.toNat (i))) % 5)) ++ (tabS tx2 (((nthI z (Int.toNat (i))) / 15) % 2))))) (([] : List LB) ++ [(tabS tx0 ((nthI z (Int.toNat (i))) % 5))]) ⟨by omega, by omega, i2, i3, jn_0 (by omega) (by omega) (by omega) i4, wt_c (o := []) (by omega) (by omega) (by assumption) (by assumption) (by have e := i5; rw [i8 rfl] at e; exact e), by simp only [List.length_append, List.length_cons, List.length_nil]; omega, by first | omega | (simp only [List.length_append, List.length_cons, List.length_nil]; omega), fun h => by omega, fun _ => by simp, by omega⟩) (by show z.length - (i + 1).toNat < z.length - i.toNat; omega) (thXv (v := St' (s ++ ((tabS tx1 (((nthI z (Int.toNat (i))) / 5) % 3)) ++ ((tabS tx0 ((nthI z (Int.toNat (i))) % 5)) ++ (tabS tx2 (((nthI z (Int.toNat (i))) / 15) % 2)))))) rfl rfl (thXi (b := ((i + 1))) rfl rfl (by omega) (thXv (v := rwI .u8 z) rfl rfl (thXv (v := rwS (([] : List LB) ++ [(tabS tx0 ((nthI z (Int.toNat (i))) % 5))])) rfl rfl (thNil))))) runOl_p0
  unfold hyOl_p0
  exact hc (kRn (denX rfl)) <|
   hc (kRlI (isX rfl) (denX rfl) (by first | omega | (simp <;> omega))) <|
   hc (ltT rfl rfl (by omega)) <|
   hc (kElI (j := (Int.toNat (i))) (isX rfl) (isX rfl) (denX rfl) (by omega) (by omega)) <|
   hc (kRem (isX rfl) (isZ (m := 5) rfl) (denX rfl) (by omega) (by omega) rfl) <|
   hc (kTabS (t := tx0) (isX rfl) (by omega) (by have : (tx0.length : Int) = 5 := rfl; omega) rfl rfl) <|
   hc (gtcF rfl (by omega)) <|
   hc (kQuo (isX rfl) (isZ (m := 5) rfl) (denX rfl) (by omega) (by omega) rfl (fU8 (by omega) (by omega))) <|
   hc (kRem (isX rfl) (isZ (m := 3) rfl) (denX rfl) (by omega) (by omega) rfl) <|
   hc (kTabS (t := tx1) (isX rfl) (by omega) (by have : (tx1.length : Int) = 3 := rfl; omega) rfl rfl) <|
   hc (kCat (isX rfl) (isX rfl) (denX rfl) (by first | rfl | (simp; done)) (by omega)) <|
   hc (kCat (isX rfl) (isX rfl) (denX rfl) (by first | rfl | (simp; done)) (by first | omega | (simp <;> omega))) <|
   hc (kQuo (isX rfl) (isZ (m := 15) rfl) (denX rfl) (by omega) (by omega) rfl (fU8 (by omega) (by omega))) <|
   hc (kRem (isX rfl) (isZ (m := 2) rfl) (denX rfl) (by omega) (by omega) rfl) <|
   hc (kTabS (t := tx2) (isX rfl) (by omega) (by have : (tx2.length : Int) = 2 := rfl; omega) rfl rfl) <|
   hc (kCat (isX rfl) (isX rfl) (denX rfl) (by first | rfl | (simp; done)) (by first | omega | (simp <;> omega))) <|
   hc (kNeS (isX rfl) (isSx (l := ([] : LB)) 0 0 rfl) (bnT (nilF (by omega)))) <|
   hc (kNeS (isX rfl) (isSx (l := [u8 32]) 1 32 rfl) (bnT (by first | exact decide_eq_true rfl | exact decide_eq_true ‹_› | exact decide_eq_false ‹_›))) <|
   hc (kRa (isX rfl) (isX rfl) (denX rfl)) <|
   hc (kRf (isX rfl) (by first | omega | (simp <;> omega)) (by first | omega | (simp <;> omega))) <|
   hc (adC rfl rfl (by omega)) <|
   hnil
def hyOl_p1 : LK := [(.rn, .x 2000003), (.rl (.x 2000000) 1, .x 16), (.bin .lss (.x 1) (.x 16), .b true), (.el (.x 2000000) (.x 1) 1 0, .x 17), (.bin .rem (.x 17) (.i .u8 (.ofNat 5)), .x 18), (.tab [.s 1 97, .s 0 0, .s 3 6496354, .s 1 100, .s 1 32] (.x 18), .x 19), (.bin .gtr (.x 1) (.i .i64 (.ofNat 0)), .b false), (.bin .quo (.x 17) (.i .u8 (.ofNat 5)), .x 20), (.bin .rem (.x 20) (.i .u8 (.ofNat 3)), .x 21), (.tab [.s 0 0, .s 1 32, .s 1 9] (.x 21), .x 22), (.bin .add (.x 0) (.x 22), .x 23), (.bin .add (.x 23) (.x 19), .x 24), (.bin .quo (.x 17) (.i .u8 (.ofNat 15)), .x 25), (.bin .rem (.x 25) (.i .u8 (.ofNat 2)), .x 26), (.tab [.s 0 0, .s 1 32] (.x 26), .x 27), (.bin .add (.x 24) (.x 27), .x 28), (.bin .neq (.x 19) (.s 0 0), .b false), (.bin .add (.x 1) (.i .i64 (.ofNat 1)), .x 29)]
theorem runOl_p1 : RNOl_0 hyOl_p1 .normal [(0, .x 28), (1, .x 29), (2000000, .x 2000000)] [] 9 epOl_0 hpOl_0 = true := by kernel_rfl
theorem nxOl_p1 (z : List Int) (Ts : LB) (To : List LB) (i : Int) (s : LB) (o : List LB) (X : Nat → Value) (hI : InvOl z Ts To (0, i, s, o)) (h0 : i < (z.length : Int)) (h1 : ¬ (0 < i)) (h2 : ((tabS tx0 ((nthI z (Int.toNat (i))) % 5)).length : Int) = 0) : RHOl z Ts To E' x' e' h' (0, i, s, o) X := by
  obtain ⟨i0, i1, i2, i3, i4, i5, i6, i7, i8, i9, it⟩ := unIOl z Ts To 0 i s o hI
  have := rngAt (lo := 0) (hi := 255) (l := z) (by decide) (by decide) (by assumption) (Int.toNat (i))
  have := tx0_len ((nthI z (Int.toNat (i))) % 5)
  have := tx1_len (((nthI z (Int.toNat (i))) / 5) % 3)
  have := tx2_len (((nthI z (Int.toNat (i))) / 15) % 2)
  refine stOl_0 z Ts To i s o (h := hyOl_p1) (0, (i + 1), (s ++ ((tabS tx1 (((nthI z (Int.toNat (i))) / 5) % 3)) ++ ((tabS tx0 ((nthI z (Int.toNat (i))) % 5)) ++ (tabS tx2 (((nthI z (Int.toNat (i))) / 15) % 2))))), ([] : List LB)) ?_ (mkIOl z Ts To 0 (i + 1) (s ++ ((tabS tx1 (((nthI z (Int.toNat (i))) / 5) % 3)) ++ ((tabS tx0 ((nthI z (Int.toNat (i))) % 5)) ++ (tabS tx2 (((nthI z (Int.toNat (i))) / 15) % 2))))) ([] : List LB) ⟨by omega, by omega, i2, i3, jn_0 (by omega) (by omega) (by omega) i4, wt_e (o := []) (by omega) (by omega) (by assumption) (by have e := i5; rw [i8 rfl] at e; exact e), by simp only [List.length_append, List.length_cons, List.length_nil]; omega, by first | omega | (simp only [List.length_append, List.length_cons, List.length_nil]; omega), fun _ => rfl, fun h => by omega, by omega⟩) (by show z.length - (i + 1).toNat < z.length - i.toNat; omega) (thXv (v := St' (s ++ ((tabS tx1 (((nthI z (Int.toNat (i))) / 5) % 3)) ++ ((tabS tx0 ((nthI z (Int.toNat (i))) % 5)) ++ (tabS tx2 (((nthI z (Int.toNat (i))) / 15) % 2)))))) rfl rfl (thXi (b := ((i + 1))) rfl rfl (by omega) (thXv (v := rwI .u8 z) rfl rfl (thNil)))) runOl_p1
  unfold hyOl_p1
  exact hc (kRn (denX rfl)) <|
   hc (kRlI (isX rfl) (denX rfl) (by first | omega | (simp <;> omega))) <|
   hc (ltT rfl rfl (by omega)) <|
   hc (kElI (j := (Int.toNat (i))) (isX rfl) (isX rfl) (denX rfl) (by omega) (by omega)) <|
   hc (kRem (isX rfl) (isZ (m := 5) rfl) (denX rfl) (by omega) (by omega) rfl) <|
   hc (kTabS (t := tx0) (isX rfl) (by omega) (by have : (tx0.length : Int) = 5 := rfl; omega) rfl rfl) <|
   hc (gtcF rfl (by omega)) <|
   hc (kQuo (isX rfl) (isZ (m := 5) rfl) (denX rfl) (by omega) (by omega) rfl (fU8 (by omega) (by omega))) <|
   hc (kRem (isX rfl) (isZ (m := 3) rfl) (denX rfl) (by omega) (by omega) rfl) <|
   hc (kTabS (t := tx1) (isX rfl) (by omega) (by have : (tx1.length : Int) = 3 := rfl; omega) rfl rfl) <|
   hc (kCat (isX rfl) (isX rfl) (denX rfl) (by first | rfl | (simp; done)) (by omega)) <|
   hc (kCat (isX rfl) (isX rfl) (denX rfl) (by first | rfl | (simp; done)) (by first | omega | (simp <;> omega))) <|
   hc (kQuo (isX rfl) (isZ (m := 15) rfl) (denX rfl) (by omega) (by omega) rfl (fU8 (by omega) (by omega))) <|
   hc (kRem (isX rfl) (isZ (m := 2) rfl) (denX rfl) (by omega) (by omega) rfl) <|
   hc (kTabS (t := tx2) (isX rfl) (by omega) (by have : (tx2.length : Int) = 2 := rfl; omega) rfl rfl) <|
   hc (kCat (isX rfl) (isX rfl) (denX rfl) (by first | rfl | (simp; done)) (by first | omega | (simp <;> omega))) <|
   hc (kNeS (isX rfl) (isSx (l := ([] : LB)) 0 0 rfl) (bnF (nilT (by omega)))) <|
   hc (adC rfl rfl (by omega)) <|
   hnil
def hyOl_p2 : LK := [(.rn, .x 2000004), (.rl (.x 2000000) 1, .x 30), (.bin .lss (.x 1) (.x 30), .b true), (.el (.x 2000000) (.x 1) 1 0, .x 31), (.bin .rem (.x 31) (.i .u8 (.ofNat 5)), .x 32), (.tab [.s 1 97, .s 0 0, .s 3 6496354, .s 1 100, .s 1 32] (.x 32), .x 33), (.bin .gtr (.x 1) (.i .i64 (.ofNat 0)), .b false), (.bin .quo (.x 31) (.i .u8 (.ofNat 5)), .x 34), (.bin .rem (.x 34) (.i .u8 (.ofNat 3)), .x 35), (.tab [.s 0 0, .s 1 32, .s 1 9] (.x 35), .x 36), (.bin .add (.x 0) (.x 36), .x 37), (.bin .add (.x 37) (.x 33), .x 38), (.bin .quo (.x 31) (.i .u8 (.ofNat 15)), .x 39), (.bin .rem (.x 39) (.i .u8 (.ofNat 2)), .x 40), (.tab [.s 0 0, .s 1 32] (.x 40), .x 41), (.bin .add (.x 38) (.x 41), .x 42), (.bin .neq (.x 33) (.s 0 0), .b true), (.bin .neq (.x 33) (.s 1 32), .b false), (.bin .add (.x 1) (.i .i64 (.ofNat 1)), .x 43)]
theorem runOl_p2 : RNOl_0 hyOl_p2 .normal [(0, .x 42), (1, .x 43), (2000000, .x 2000000)] [] 9 epOl_0 hpOl_0 = true := by kernel_rfl
theorem nxOl_p2 (z : List Int) (Ts : LB) (To : List LB) (i : Int) (s : LB) (o : List LB) (X : Nat → Value) (hI : InvOl z Ts To (0, i, s, o)) (h0 : i < (z.length : Int)) (h1 : ¬ (0 < i)) (h2 : ¬ (((tabS tx0 ((nthI z (Int.toNat (i))) % 5)).length : Int) = 0)) (h3 : (tabS tx0 ((nthI z (Int.toNat (i))) % 5)) = [u8 32]) : RHOl z Ts To E' x' e' h' (0, i, s, o) X := by
  obtain ⟨i0, i1, i2, i3, i4, i5, i6, i7, i8, i9, it⟩ := unIOl z Ts To 0 i s o hI
  have := rngAt (lo := 0) (hi := 255) (l := z) (by decide) (by decide) (by assumption) (Int.toNat (i))
  have := tx0_len ((nthI z (Int.toNat (i))) % 5)
  have := tx1_len (((nthI z (Int.toNat (i))) / 5) % 3)
  have := tx2_len (((nthI z (Int.toNat (i))) / 15) % 2)
  refine stOl_0 z Ts To i s o (h := hyOl_p2) (0, (i + 1), (s ++ ((tabS tx1 (((nthI z (Int.toNat (i))) / 5) % 3)) ++ ((tabS tx0 ((nthI z (Int.toNat (i))) % 5)) ++ (tabS tx2 (((nthI z (Int.toNat (i))) / 15) % 2))))), ([] : List LB)) ?_ (mkIOl z Ts To 0 (i + 1) (s ++ ((tabS tx1 (((nthI z (Int.toNat (i))) / 5) % 3)) ++ ((tabS tx0 ((nthI z (Int.toNat (i))) % 5)) ++ (tabS tx2 (((nthI z (Int.toNat (i))) / 15) % 2))))) ([] : List LB) ⟨by omega, by omega, i2, i3, jn_0 (by omega) (by omega) (by omega) i4, wt_b (o := []) (by omega) (by omega) (by assumption) (by have e := i5; rw [i8 rfl] at e; exact e), by simp only [List.length_append, List.length_cons, List.length_nil]; omega, by first | omega | (simp only [List.length_append, List.length_cons, List.length_nil]; omega), fun _ => rfl, fun h => by omega, by omega⟩) (by show z.length - (i + 1).toNat < z.length - i.toNat; omega) (thXv (v := St' (s ++ ((tabS tx1 (((nthI z (Int.toNat (i))) / 5) % 3)) ++ ((tabS tx0 ((nthI z (Int.toNat (i))) % 5)) ++ (tabS tx2 (((nthI z (Int.toNat (i))) / 15) % 2)))))) rfl rfl (thXi (b := ((i + 1))) rfl rfl (by omega) (thXv (v := rwI .u8 z) rfl rfl (thNil)))) runOl_p2
  unfold hyOl_p2
  exact hc (kRn (denX rfl)) <|
   hc (kRlI (isX rfl) (denX rfl) (by first | omega | (simp <;> omega))) <|
   hc (ltT rfl rfl (by omega)) <|
   hc (kElI (j := (Int.toNat (i))) (isX rfl) (isX rfl) (denX rfl) (by omega) (by omega)) <|
   hc (kRem (isX rfl) (isZ (m := 5) rfl) (denX rfl) (by omega) (by omega) rfl) <|
   hc (kTabS (t := tx0) (isX rfl) (by omega) (by have : (tx0.length : Int) = 5 := rfl; omega) rfl rfl) <|
   hc (gtcF rfl (by omega)) <|
   hc (kQuo (isX rfl) (isZ (m := 5) rfl) (denX rfl) (by omega) (by omega) rfl (fU8 (by omega) (by omega))) <|
   hc (kRem (isX rfl) (isZ (m := 3) rfl) (denX rfl) (by omega) (by omega) rfl) <|
   hc (kTabS (t := tx1) (isX rfl) (by omega) (by have : (tx1.length : Int) = 3 := rfl; omega) rfl rfl) <|
   hc (kCat (isX rfl) (isX rfl) (denX rfl) (by first | rfl | (simp; done)) (by omega)) <|
   hc (kCat (isX rfl) (isX rfl) (denX rfl) (by first | rfl | (simp; done)) (by first | omega | (simp <;> omega))) <|
   hc (kQuo (isX rfl) (isZ (m := 15) rfl) (denX rfl) (by omega) (by omega) rfl (fU8 (by omega) (by omega))) <|
   hc (kRem (isX rfl) (isZ (m := 2) rfl) (denX rfl) (by omega) (by omega) rfl) <|
   hc (kTabS (t := tx2) (isX rfl) (by omega) (by have : (tx2.length : Int) = 2 := rfl; omega) rfl rfl) <|
   hc (kCat (isX rfl) (isX rfl) (denX rfl) (by first | rfl | (simp; done)) (by first | omega | (simp <;> omega))) <|
   hc (kNeS (isX rfl) (isSx (l := ([] : LB)) 0 0 rfl) (bnT (nilF (by omega)))) <|
   hc (kNeS (isX rfl) (isSx (l := [u8 32]) 1 32 rfl) (bnF (by first | exact decide_eq_true rfl | exact decide_eq_true ‹_› | exact decide_eq_false ‹_›))) <|
   hc (adC rfl rfl (by omega)) <|
   hnil
def hyOl_p3 : LK := [(.rn, .x 2000005), (.rl (.x 2000000) 1, .x 44), (.bin .lss (.x 1) (.x 44), .b true), (.el (.x 2000000) (.x 1) 1 0, .x 45), (.bin .rem (.x 45) (.i .u8 (.ofNat 5)), .x 46), (.tab [.s 1 97, .s 0 0, .s 3 6496354, .s 1 100, .s 1 32] (.x 46), .x 47), (.bin .gtr (.x 1) (.i .i64 (.ofNat 0)), .b true), (.bin .add (.x 0) (.s 1 44), .x 48), (.bin .quo (.x 45) (.i .u8 (.ofNat 5)), .x 49), (.bin .rem (.x 49) (.i .u8 (.ofNat 3)), .x 50), (.tab [.s 0 0, .s 1 32, .s 1 9] (.x 50), .x 51), (.bin .add (.x 48) (.x 51), .x 52), (.bin .add (.x 52) (.x 47), .x 53), (.bin .quo (.x 45) (.i .u8 (.ofNat 15)), .x 54), (.bin .rem (.x 54) (.i .u8 (.ofNat 2)), .x 55), (.tab [.s 0 0, .s 1 32] (.x 55), .x 56), (.bin .add (.x 53) (.x 56), .x 57), (.bin .neq (.x 47) (.s 0 0), .b true), (.bin .neq (.x 47) (.s 1 32), .b true), (.ra (.x 2000005) [.x 47], .x 2000006), (.rf (.x 2000006) 1 16, .b true), (.bin .add (.x 1) (.i .i64 (.ofNat 1)), .x 58)]
theorem runOl_p3 : RNOl_0 hyOl_p3 .normal [(0, .x 57), (1, .x 58), (2000000, .x 2000000), (2000001, .x 2000006)] [(8, 10)] 9 epOl_1 hpOl_1 = true := by kernel_rfl
theorem nxOl_p3 (z : List Int) (Ts : LB) (To : List LB) (i : Int) (s : LB) (o : List LB) (X : Nat → Value) (hI : InvOl z Ts To (0, i, s, o)) (h0 : i < (z.length : Int)) (h1 : 0 < i) (h2 : ¬ (((tabS tx0 ((nthI z (Int.toNat (i))) % 5)).length : Int) = 0)) (h3 : ¬ ((tabS tx0 ((nthI z (Int.toNat (i))) % 5)) = [u8 32])) : RHOl z Ts To E' x' e' h' (0, i, s, o) X := by
  obtain ⟨i0, i1, i2, i3, i4, i5, i6, i7, i8, i9, it⟩ := unIOl z Ts To 0 i s o hI
  have := rngAt (lo := 0) (hi := 255) (l := z) (by decide) (by decide) (by assumption) (Int.toNat (i))
  have := tx0_len ((nthI z (Int.toNat (i))) % 5)
  have := tx1_len (((nthI z (Int.toNat (i))) / 5) % 3)
  have := tx2_len (((nthI z (Int.toNat (i))) / 15) % 2)
  refine stOl_0 z Ts To i s o (h := hyOl_p3) (1, (i + 1), (s ++ ([u8 44] ++ ((tabS tx1 (((nthI z (Int.toNat (i))) / 5) % 3)) ++ ((tabS tx0 ((nthI z (Int.toNat (i))) % 5)) ++ (tabS tx2 (((nthI z (Int.toNat (i))) / 15) % 2)))))), (([] : List LB) ++ [(tabS tx0 ((nthI z (Int.toNat (i))) % 5))])) ?_ (mkIOl z Ts To 1 (i + 1) (s ++ ([u8 44] ++ ((tabS tx1 (((nthI z (Int.toNat (i))) / 5) % 3)) ++ ((tabS tx0 ((nthI z (Int.toNat (i))) % 5)) ++ (tabS tx2 (((nthI z (Int.toNat (i))) / 15) % 2)))))) (([] : List LB) ++ [(tabS tx0 ((nthI z (Int.toNat (i))) % 5))]) ⟨by omega, by omega, i2, i3, jn_1 (by omega) (by omega) (by omega) i4, wt_c (o := []) (by omega) (by omega) (by assumption) (by assumption) (by have e := i5; rw [i8 rfl] at e; exact e), by simp only [List.length_append, List.length_cons, List.length_nil]; omega, by first | omega | (simp only [List.length_append, List.length_cons, List.length_nil]; omega), fun h => by omega, fun _ => by simp, by omega⟩) (by show z.length - (i + 1).toNat < z.length - i.toNat; omega) (thXv (v := St' (s ++ ([u8 44] ++ ((tabS tx1 (((nthI z (Int.toNat (i))) / 5) % 3)) ++ ((tabS tx0 ((nthI z (Int.toNat (i))) % 5)) ++ (tabS tx2 (((nthI z (Int.toNat (i))) / 15) % 2))))))) rfl rfl (thXi (b := ((i + 1))) rfl rfl (by omega) (thXv (v := rwI .u8 z) rfl rfl (thXv (v := rwS (([] : List LB) ++ [(tabS tx0 ((nthI z (Int.toNat (i))) % 5))])) rfl rfl (thNil))))) runOl_p3
  unfold hyOl_p3
  exact hc (kRn (denX rfl)) <|
   hc (kRlI (isX rfl) (denX rfl) (by first | omega | (simp <;> omega))) <|
   hc (ltT rfl rfl (by omega)) <|
   hc (kElI (j := (Int.toNat (i))) (isX rfl) (isX rfl) (denX rfl) (by omega) (by omega)) <|
   hc (kRem (isX rfl) (isZ (m := 5) rfl) (denX rfl) (by omega) (by omega) rfl) <|
   hc (kTabS (t := tx0) (isX rfl) (by omega) (by have : (tx0.length : Int) = 5 := rfl; omega) rfl rfl) <|
   hc (gtcT rfl (by omega)) <|
   hc (kCat (isX rfl) (isSx (l := [u8 44]) 1 44 rfl) (denX rfl) (by first | rfl | (simp; done)) (by first | omega | (simp <;> omega))) <|
   hc (kQuo (isX rfl) (isZ (m := 5) rfl) (denX rfl) (by omega) (by omega) rfl (fU8 (by omega) (by omega))) <|
   hc (kRem (isX rfl) (isZ (m := 3) rfl) (denX rfl) (by omega) (by omega) rfl) <|
   hc (kTabS (t := tx1) (isX rfl) (by omega) (by have : (tx1.length : Int) = 3 := rfl; omega) rfl rfl) <|
   hc (kCat (isX rfl) (isX rfl) (denX rfl) (by first | rfl | (simp; done)) (by first | omega | (simp <;> omega))) <|
   hc (kCat (isX rfl) (isX rfl) (denX rfl) (by first | rfl | (simp; done)) (by first | omega | (simp <;> omega))) <|
   hc (kQuo (isX rfl) (isZ (m := 15) rfl) (denX rfl) (by omega) (by omega) rfl (fU8 (by omega) (by omega))) <|
   hc (kRem (isX rfl) (isZ (m := 2) rfl) (denX rfl) (by omega) (by omega) rfl) <|
   hc (kTabS (t := tx2) (isX rfl) (by omega) (by have : (tx2.length : Int) = 2 := rfl; omega) rfl rfl) <|
   hc (kCat (isX rfl) (isX rfl) (denX rfl) (by first | rfl | (simp; done)) (by first | omega | (simp <;> omega))) <|
   hc (kNeS (isX rfl) (isSx (l := ([] : LB)) 0 0 rfl) (bnT (nilF (by omega)))) <|
   hc (kNeS (isX rfl) (isSx (l := [u8 32]) 1 32 rfl) (bnT (by first | exact decide_eq_true rfl | exact decide_eq_true ‹_› | exact decide_eq_false ‹_›))) <|
   hc (kRa (isX rfl) (isX rfl) (denX rfl)) <|
   hc (kRf (isX rfl) (by first | omega | (simp <;> omega)) (by first | omega | (simp <;> omega))) <|
   hc (adC rfl rfl (by omega)) <|
   hnil
def hyOl_p4 : LK := [(.rn, .x 2000007), (.rl (.x 2000000) 1, .x 59), (.bin .lss (.x 1) (.x 59), .b true), (.el (.x 2000000) (.x 1) 1 0, .x 60), (.bin .rem (.x 60) (.i .u8 (.ofNat 5)), .x 61), (.tab [.s 1 97, .s 0 0, .s 3 6496354, .s 1 100, .s 1 32] (.x 61), .x 62), (.bin .gtr (.x 1) (.i .i64 (.ofNat 0)), .b true), (.bin .add (.x 0) (.s 1 44), .x 63), (.bin .quo (.x 60) (.i .u8 (.ofNat 5)), .x 64), (.bin .rem (.x 64) (.i .u8 (.ofNat 3)), .x 65), (.tab [.s 0 0, .s 1 32, .s 1 9] (.x 65), .x 66), (.bin .add (.x 63) (.x 66), .x 67), (.bin .add (.x 67) (.x 62), .x 68), (.bin .quo (.x 60) (.i .u8 (.ofNat 15)), .x 69), (.bin .rem (.x 69) (.i .u8 (.ofNat 2)), .x 70), (.tab [.s 0 0, .s 1 32] (.x 70), .x 71), (.bin .add (.x 68) (.x 71), .x 72), (.bin .neq (.x 62) (.s 0 0), .b false), (.bin .add (.x 1) (.i .i64 (.ofNat 1)), .x 73)]
theorem runOl_p4 : RNOl_0 hyOl_p4 .normal [(0, .x 72), (1, .x 73), (2000000, .x 2000000)] [] 9 epOl_0 hpOl_0 = true := by kernel_rfl
theorem nxOl_p4 (z : List Int) (Ts : LB) (To : List LB) (i : Int) (s : LB) (o : List LB) (X : Nat → Value) (hI : InvOl z Ts To (0, i, s, o)) (h0 : i < (z.length : Int)) (h1 : 0 < i) (h2 : ((tabS tx0 ((nthI z (Int.toNat (i))) % 5)).length : Int) = 0) : RHOl z Ts To E' x' e' h' (0, i, s, o) X := by
  obtain ⟨i0, i1, i2, i3, i4, i5, i6, i7, i8, i9, it⟩ := unIOl z Ts To 0 i s o hI
  have := rngAt (lo := 0) (hi := 255) (l := z) (by decide) (by decide) (by assumption) (Int.toNat (i))
  have := tx0_len ((nthI z (Int.toNat (i))) % 5)
  have := tx1_len (((nthI z (Int.toNat (i))) / 5) % 3)
  have := tx2_len (((nthI z (Int.toNat (i))) / 15) % 2)
  refine stOl_0 z Ts To i s o (h := hyOl_p4) (0, (i + 1), (s ++ ([u8 44] ++ ((tabS tx1 (((nthI z (Int.toNat (i))) / 5) % 3)) ++ ((tabS tx0 ((nthI z (Int.toNat (i))) % 5)) ++ (tabS tx2 (((nthI z (Int.toNat (i))) / 15) % 2)))))), ([] : List LB)) ?_ (mkIOl z Ts To 0 (i + 1) (s ++ ([u8 44] ++ ((tabS tx1 (((nthI z (Int.toNat (i))) / 5) % 3)) ++ ((tabS tx0 ((nthI z (Int.toNat (i))) % 5)) ++ (tabS tx2 (((nthI z (Int.toNat (i))) / 15) % 2)))))) ([] : List LB) ⟨by omega, by omega, i2, i3, jn_1 (by omega) (by omega) (by omega) i4, wt_e (o := []) (by omega) (by omega) (by assumption) (by have e := i5; rw [i8 rfl] at e; exact e), by simp only [List.length_append, List.length_cons, List.length_nil]; omega, by first | omega | (simp only [List.length_append, List.length_cons, List.length_nil]; omega), fun _ => rfl, fun h => by omega, by omega⟩) (by show z.length - (i + 1).toNat < z.length - i.toNat; omega) (thXv (v := St' (s ++ ([u8 44] ++ ((tabS tx1 (((nthI z (Int.toNat (i))) / 5) % 3)) ++ ((tabS tx0 ((nthI z (Int.toNat (i))) % 5)) ++ (tabS tx2 (((nthI z (Int.toNat (i))) / 15) % 2))))))) rfl rfl (thXi (b := ((i + 1))) rfl rfl (by omega) (thXv (v := rwI .u8 z) rfl rfl (thNil)))) runOl_p4
  unfold hyOl_p4
  exact hc (kRn (denX rfl)) <|
   hc (kRlI (isX rfl) (denX rfl) (by first | omega | (simp <;> omega))) <|
   hc (ltT rfl rfl (by omega)) <|
   hc (kElI (j := (Int.toNat (i))) (isX rfl) (isX rfl) (denX rfl) (by omega) (by omega)) <|
   hc (kRem (isX rfl) (isZ (m := 5) rfl) (denX rfl) (by omega) (by omega) rfl) <|
   hc (kTabS (t := tx0) (isX rfl) (by omega) (by have : (tx0.length : Int) = 5 := rfl; omega) rfl rfl) <|
   hc (gtcT rfl (by omega)) <|
   hc (kCat (isX rfl) (isSx (l := [u8 44]) 1 44 rfl) (denX rfl) (by first | rfl | (simp; done)) (by first | omega | (simp <;> omega))) <|
   hc (kQuo (isX rfl) (isZ (m := 5) rfl) (denX rfl) (by omega) (by omega) rfl (fU8 (by omega) (by omega))) <|
   hc (kRem (isX rfl) (isZ (m := 3) rfl) (denX rfl) (by omega) (by omega) rfl) <|
   hc (kTabS (t := tx1) (isX rfl) (by omega) (by have : (tx1.length : Int) = 3 := rfl; omega) rfl rfl) <|
   hc (kCat (isX rfl) (isX rfl) (denX rfl) (by first | rfl | (simp; done)) (by first | omega | (simp <;> omega))) <|
   hc (kCat (isX rfl) (isX rfl) (denX rfl) (by first | rfl | (simp; done)) (by first | omega | (simp <;> omega))) <|
   hc (kQuo (isX rfl) (isZ (m := 15) rfl) (denX rfl) (by omega) (by omega) rfl (fU8 (by omega) (by omega))) <|
   hc (kRem (isX rfl) (isZ (m := 2) rfl) (denX rfl) (by omega) (by omega) rfl) <|
   hc (kTabS (t := tx2) (isX rfl) (by omega) (by have : (tx2.length : Int) = 2 := rfl; omega) rfl rfl) <|
   hc (kCat (isX rfl) (isX rfl) (denX rfl) (by first | rfl | (simp; done)) (by first | omega | (simp <;> omega))) <|
   hc (kNeS (isX rfl) (isSx (l := ([] : LB)) 0 0 rfl) (bnF (nilT (by omega)))) <|
   hc (adC rfl rfl (by omega)) <|
   hnil
def hyOl_p5 : LK := [(.rn, .x 2000008), (.rl (.x 2000000) 1, .x 74), (.bin .lss (.x 1) (.x 74), .b true), (.el (.x 2000000) (.x 1) 1 0, .x 75), (.bin .rem (.x 75) (.i .u8 (.ofNat 5)), .x 76), (.tab [.s 1 97, .s 0 0, .s 3 6496354, .s 1 100, .s 1 32] (.x 76), .x 77), (.bin .gtr (.x 1) (.i .i64 (.ofNat 0)), .b true), (.bin .add (.x 0) (.s 1 44), .x 78), (.bin .quo (.x 75) (.i .u8 (.ofNat 5)), .x 79), (.bin .rem (.x 79) (.i .u8 (.ofNat 3)), .x 80), (.tab [.s 0 0, .s 1 32, .s 1 9] (.x 80), .x 81), (.bin .add (.x 78) (.x 81), .x 82), (.bin .add (.x 82) (.x 77), .x 83), (.bin .quo (.x 75) (.i .u8 (.ofNat 15)), .x 84), (.bin .rem (.x 84) (.i .u8 (.ofNat 2)), .x 85), (.tab [.s 0 0, .s 1 32] (.x 85), .x 86), (.bin .add (.x 83) (.x 86), .x 87), (.bin .neq (.x 77) (.s 0 0), .b true), (.bin .neq (.x 77) (.s 1 32), .b false), (.bin .add (.x 1) (.i .i64 (.ofNat 1)), .x 88)]
theorem runOl_p5 : RNOl_0 hyOl_p5 .normal [(0, .x 87), (1, .x 88), (2000000, .x 2000000)] [] 9 epOl_0 hpOl_0 = true := by kernel_rfl
theorem nxOl_p5 (z : List Int) (Ts : LB) (To : List LB) (i : Int) (s : LB) (o : List LB) (X : Nat → Value) (hI : InvOl z Ts To (0, i, s, o)) (h0 : i < (z.length : Int)) (h1 : 0 < i) (h2 : ¬ (((tabS tx0 ((nthI z (Int.toNat (i))) % 5)).length : Int) = 0)) (h3 : (tabS tx0 ((nthI z (Int.toNat (i))) % 5)) = [u8 32]) : RHOl z Ts To E' x' e' h' (0, i, s, o) X := by
  obtain ⟨i0, i1, i2, i3, i4, i5, i6, i7, i8, i9, it⟩ := unIOl z Ts To 0 i s o hI
  have := rngAt (lo := 0) (hi := 255) (l := z) (by decide) (by decide) (by assumption) (Int.toNat (i))
  have := tx0_len ((nthI z (Int.toNat (i))) % 5)
  have := tx1_len (((nthI z (Int.toNat (i))) / 5) % 3)
  have := tx2_len (((nthI z (Int.toNat (i))) / 15) % 2)
  refine stOl_0 z Ts To i s o (h := hyOl_p5) (0, (i + 1), (s ++ ([u8 44] ++ ((tabS tx1 (((nthI z (Int.toNat (i))) / 5) % 3)) ++ ((tabS tx0 ((nthI z (Int.toNat (i))) % 5)) ++ (tabS tx2 (((nthI z (Int.toNat (i))) / 15) % 2)))))), ([] : List LB)) ?_ (mkIOl z Ts To 0 (i + 1) (s ++ ([u8 44] ++ ((tabS tx1 (((nthI z (Int.toNat (i))) / 5) % 3)) ++ ((tabS tx0 ((nthI z (Int.toNat (i))) % 5)) ++ (tabS tx2 (((nthI z (Int.toNat (i))) / 15) % 2)))))) ([] : List LB) ⟨by omega, by omega, i2, i3, jn_1 (by omega) (by omega) (by omega) i4, wt_b (o := []) (by omega) (by omega) (by assumption) (by have e := i5; rw [i8 rfl] at e; exact e), by simp only [List.length_append, List.length_cons, List.length_nil]; omega, by first | omega | (simp only [List.length_append, List.length_cons, List.length_nil]; omega), fun _ => rfl, fun h => by omega, by omega⟩) (by show z.length - (i + 1).toNat < z.length - i.toNat; omega) (thXv (v := St' (s ++ ([u8 44] ++ ((tabS tx1 (((nthI z (Int.toNat (i))) / 5) % 3)) ++ ((tabS tx0 ((nthI z (Int.toNat (i))) % 5)) ++ (tabS tx2 (((nthI z (Int.toNat (i))) / 15) % 2))))))) rfl rfl (thXi (b := ((i + 1))) rfl rfl (by omega) (thXv (v := rwI .u8 z) rfl rfl (thNil)))) runOl_p5
  unfold hyOl_p5
  exact hc (kRn (denX rfl)) <|
   hc (kRlI (isX rfl) (denX rfl) (by first | omega | (simp <;> omega))) <|
   hc (ltT rfl rfl (by omega)) <|
   hc (kElI (j := (Int.toNat (i))) (isX rfl) (isX rfl) (denX rfl) (by omega) (by omega)) <|
   hc (kRem (isX rfl) (isZ (m := 5) rfl) (denX rfl) (by omega) (by omega) rfl) <|
   hc (kTabS (t := tx0) (isX rfl) (by omega) (by have : (tx0.length : Int) = 5 := rfl; omega) rfl rfl) <|
   hc (gtcT rfl (by omega)) <|
   hc (kCat (isX rfl) (isSx (l := [u8 44]) 1 44 rfl) (denX rfl) (by first | rfl | (simp; done)) (by first | omega | (simp <;> omega))) <|
   hc (kQuo (isX rfl) (isZ (m := 5) rfl) (denX rfl) (by omega) (by omega) rfl (fU8 (by omega) (by omega))) <|
   hc (kRem (isX rfl) (isZ (m := 3) rfl) (denX rfl) (by omega) (by omega) rfl) <|
   hc (kTabS (t := tx1) (isX rfl) (by omega) (by have : (tx1.length : Int) = 3 := rfl; omega) rfl rfl) <|
   hc (kCat (isX rfl) (isX rfl) (denX rfl) (by first | rfl | (simp; done)) (by first | omega | (simp <;> omega))) <|
   hc (kCat (isX rfl) (isX rfl) (denX rfl) (by first | rfl | (simp; done)) (by first | omega | (simp <;> omega))) <|
   hc (kQuo (isX rfl) (isZ (m := 15) rfl) (denX rfl) (by omega) (by omega) rfl (fU8 (by omega) (by omega))) <|
   hc (kRem (isX rfl) (isZ (m := 2) rfl) (denX rfl) (by omega) (by omega) rfl) <|
   hc (kTabS (t := tx2) (isX rfl) (by omega) (by have : (tx2.length : Int) = 2 := rfl; omega) rfl rfl) <|
   hc (kCat (isX rfl) (isX rfl) (denX rfl) (by first | rfl | (simp; done)) (by first | omega | (simp <;> omega))) <|
   hc (kNeS (isX rfl) (isSx (l := ([] : LB)) 0 0 rfl) (bnT (nilF (by omega)))) <|
   hc (kNeS (isX rfl) (isSx (l := [u8 32]) 1 32 rfl) (bnF (by first | exact decide_eq_true rfl | exact decide_eq_true ‹_› | exact decide_eq_false ‹_›))) <|
   hc (adC rfl rfl (by omega)) <|
   hnil
def hyOl_p6 : LK := [(.rn, .x 2000009), (.rl (.x 2000000) 1, .x 89), (.bin .lss (.x 1) (.x 89), .b false)]
theorem runOl_p6 : RNOl_0 hyOl_p6 (.exit 0) [(0, .x 0), (2000000, .x 2000000)] [] 21 [(0, .sr 7), (3, .x 0), (4, .nils)] [(7, .r 2000000 5 1 true)] = true := by kernel_rfl
def hyOl_p7 : LK := [(.rn, .x 2000002), (.rl (.x 2000000) 1, .x 2), (.bin .lss (.x 1) (.x 2), .b true), (.el (.x 2000000) (.x 1) 1 0, .x 3), (.bin .rem (.x 3) (.i .u8 (.ofNat 5)), .x 4), (.tab [.s 1 97, .s 0 0, .s 3 6496354, .s 1 100, .s 1 32] (.x 4), .x 5), (.bin .gtr (.x 1) (.i .i64 (.ofNat 0)), .b false), (.bin .quo (.x 3) (.i .u8 (.ofNat 5)), .x 6), (.bin .rem (.x 6) (.i .u8 (.ofNat 3)), .x 7), (.tab [.s 0 0, .s 1 32, .s 1 9] (.x 7), .x 8), (.bin .add (.x 0) (.x 8), .x 9), (.bin .add (.x 9) (.x 5), .x 10), (.bin .quo (.x 3) (.i .u8 (.ofNat 15)), .x 11), (.bin .rem (.x 11) (.i .u8 (.ofNat 2)), .x 12), (.tab [.s 0 0, .s 1 32] (.x 12), .x 13), (.bin .add (.x 10) (.x 13), .x 14), (.bin .neq (.x 5) (.s 0 0), .b true), (.bin .neq (.x 5) (.s 1 32), .b true), (.ra (.x 2000001) [.x 5], .x 2000003), (.rf (.x 2000003) 1 16, .b true), (.bin .add (.x 1) (.i .i64 (.ofNat 1)), .x 15)]
theorem runOl_p7 : RNOl_1 hyOl_p7 .normal [(0, .x 14), (1, .x 15), (2000000, .x 2000000), (2000001, .x 2000003)] [(8, 10)] 9 epOl_1 hpOl_1 = true := by kernel_rfl
theorem nxOl_p7 (z : List Int) (Ts : LB) (To : List LB) (i : Int) (s : LB) (o : List LB) (X : Nat → Value) (hI : InvOl z Ts To (1, i, s, o)) (h0 : i < (z.length : Int)) (h1 : ¬ (0 < i)) (h2 : ¬ (((tabS tx0 ((nthI z (Int.toNat (i))) % 5)).length : Int) = 0)) (h3 : ¬ ((tabS tx0 ((nthI z (Int.toNat (i))) % 5)) = [u8 32])) : RHOl z Ts To E' x' e' h' (1, i, s, o) X := by
  obtain ⟨i0, i1, i2, i3, i4, i5, i6, i7, i8, i9, it⟩ := unIOl z Ts To 1 i s o hI
  have := rngAt (lo := 0) (hi := 255) (l := z) (by decide) (by decide) (by assumption) (Int.toNat (i))
  have := tx0_len ((nthI z (Int.toNat (i))) % 5)
  have := tx1_len (((nthI z (Int.toNat (i))) / 5) % 3)
  have := tx2_len (((nthI z (Int.toNat (i))) / 15) % 2)
  refine stOl_1 z Ts To i s o (h := hyOl_p7) (1, (i + 1), (s ++ ((tabS tx1 (((nthI z (Int.toNat (i))) / 5) % 3)) ++ ((tabS tx0 ((nthI z (Int.toNat (i))) % 5)) ++ (tabS tx2 (((nthI z (Int.toNat (i))) / 15) % 2))))), (o ++ [(tabS tx0 ((nthI z (Int.toNat (i))) % 5))])) ?_ (mkIOl z Ts To 1 (i + 1) (s ++ ((tabS tx1 (((nthI z (Int.toNat (i))) / 5) % 3)) ++ ((tabS tx0 ((nthI z (Int.toNat (i))) % 5)) ++ (tabS tx2 (((nthI z (Int.toNat (i))) / 15) % 2))))) (o ++ [(tabS tx0 ((nthI z (Int.toNat (i))) % 5))]) ⟨by omega, by omega, i2, i3, jn_0 (by omega) (by omega) (by omega) i4, wt_c (by omega) (by omega) (by assumption) (by assumption) i5, by simp only [List.length_append, List.length_cons, List.length_nil]; omega, by first | omega | (simp only [List.length_append, List.length_cons, List.length_nil]; omega), fun h => by omega, fun _ => by simp, by omega⟩) (by show z.length - (i + 1).toNat < z.length - i.toNat; omega) (thXv (v := St' (s ++ ((tabS tx1 (((nthI z (Int.toNat (i))) / 5) % 3)) ++ ((tabS tx0 ((nthI z (Int.toNat (i))) % 5)) ++ (tabS tx2 (((nthI z (Int.toNat (i))) / 15) % 2)))))) rfl rfl (thXi (b := ((i + 1))) rfl rfl (by omega) (thXv (v := rwI .u8 z) rfl rfl (thXv (v := rwS (o ++ [(tabS tx0 ((nthI z (Int.toNat (i))) % 5))])) rfl rfl (thNil))))) runOl_p7
  unfold hyOl_p7
  exact hc (kRn (denX rfl)) <|
   hc (kRlI (isX rfl) (denX rfl) (by first | omega | (simp <;> omega))) <|
   hc (ltT rfl rfl (by omega)) <|
   hc (kElI (j := (Int.toNat (i))) (isX rfl) (isX rfl) (denX rfl) (by omega) (by omega)) <|
   hc (kRem (isX rfl) (isZ (m := 5) rfl) (denX rfl) (by omega) (by omega) rfl) <|
   hc (kTabS (t := tx0) (isX rfl) (by omega) (by have : (tx0.length : Int) = 5 := rfl; omega) rfl rfl) <|
   hc (gtcF rfl (by omega)) <|
   hc (kQuo (isX rfl) (isZ (m := 5) rfl) (denX rfl) (by omega) (by omega) rfl (fU8 (by omega) (by omega))) <|
   hc (kRem (isX rfl) (isZ (m := 3) rfl) (denX rfl) (by omega) (by omega) rfl) <|
   hc (kTabS (t := tx1) (isX rfl) (by omega) (by have : (tx1.length : Int) = 3 := rfl; omega) rfl rfl) <|
   hc (kCat (isX rfl) (isX rfl) (denX rfl) (by first | rfl | (simp; done)) (by omega)) <|
   hc (kCat (isX rfl) (isX rfl) (denX rfl) (by first | rfl | (simp; done)) (by first | omega | (simp <;> omega))) <|
   hc (kQuo (isX rfl) (isZ (m := 15) rfl) (denX rfl) (by omega) (by omega) rfl (fU8 (by omega) (by omega))) <|
   hc (kRem (isX rfl) (isZ (m := 2) rfl) (denX rfl) (by omega) (by omega) rfl) <|
   hc (kTabS (t := tx2) (isX rfl) (by omega) (by have : (tx2.length : Int) = 2 := rfl; omega) rfl rfl) <|
   hc (kCat (isX rfl) (isX rfl) (denX rfl) (by first | rfl | (simp; done)) (by first | omega | (simp <;> omega))) <|
   hc (kNeS (isX rfl) (isSx (l := ([] : LB)) 0 0 rfl) (bnT (nilF (by omega)))) <|
   hc (kNeS (isX rfl) (isSx (l := [u8 32]) 1 32 rfl) (bnT (by first | exact decide_eq_true rfl | exact decide_eq_true ‹_› | exact decide_eq_false ‹_›))) <|
   hc (kRa (isX rfl) (isX rfl) (denX rfl)) <|
   hc (kRf (isX rfl) (by first | omega | (simp <;> omega)) (by first | omega | (simp <;> omega))) <|
   hc (adC rfl rfl (by omega)) <|
   hnil
def hyOl_p8 : LK := [(.rn, .x 2000004), (.rl (.x 2000000) 1, .x 16), (.bin .lss (.x 1) (.x 16), .b true), (.el (.x 2000000) (.x 1) 1 0, .x 17), (.bin .rem (.x 17) (.i .u8 (.ofNat 5)), .x 18), (.tab [.s 1 97, .s 0 0, .s 3 6496354, .s 1 100, .s 1 32] (.x 18), .x 19), (.bin .gtr (.x 1) (.i .i64 (.ofNat 0)), .b false), (.bin .quo (.x 17) (.i .u8 (.ofNat 5)), .x 20), (.bin .rem (.x 20) (.i .u8 (.ofNat 3)), .x 21), (.tab [.s 0 0, .s 1 32, .s 1 9] (.x 21), .x 22), (.bin .add (.x 0) (.x 22), .x 23), (.bin .add (.x 23) (.x 19), .x 24), (.bin .quo (.x 17) (.i .u8 (.ofNat 15)), .x 25), (.bin .rem (.x 25) (.i .u8 (.ofNat 2)), .x 26), (.tab [.s 0 0, .s 1 32] (.x 26), .x 27), (.bin .add (.x 24) (.x 27), .x 28), (.bin .neq (.x 19) (.s 0 0), .b false), (.bin .add (.x 1) (.i .i64 (.ofNat 1)), .x 29)]
theorem runOl_p8 : RNOl_1 hyOl_p8 .normal [(0, .x 28), (1, .x 29), (2000000, .x 2000000), (2000001, .x 2000001)] [(8, 8)] 9 epOl_1 hpOl_1 = true := by kernel_rfl
theorem nxOl_p8 (z : List Int) (Ts : LB) (To : List LB) (i : Int) (s : LB) (o : List LB) (X : Nat → Value) (hI : InvOl z Ts To (1, i, s, o)) (h0 : i < (z.length : Int)) (h1 : ¬ (0 < i)) (h2 : ((tabS tx0 ((nthI z (Int.toNat (i))) % 5)).length : Int) = 0) : RHOl z Ts To E' x' e' h' (1, i, s, o) X := by
  obtain ⟨i0, i1, i2, i3, i4, i5, i6, i7, i8, i9, it⟩ := unIOl z Ts To 1 i s o hI
  have := rngAt (lo := 0) (hi := 255) (l := z) (by decide) (by decide) (by assumption) (Int.toNat (i))
  have := tx0_len ((nthI z (Int.toNat (i))) % 5)
  have := tx1_len (((nthI z (Int.toNat (i))) / 5) % 3)
  have := tx2_len (((nthI z (Int.toNat (i))) / 15) % 2)
  refine stOl_1 z Ts To i s o (h := hyOl_p8) (1, (i + 1), (s ++ ((tabS tx1 (((nthI z (Int.toNat (i))) / 5) % 3)) ++ ((tabS tx0 ((nthI z (Int.toNat (i))) % 5)) ++ (tabS tx2 (((nthI z (Int.toNat (i))) / 15) % 2))))), o) ?_ (mkIOl z Ts To 1 (i + 1) (s ++ ((tabS tx1 (((nthI z (Int.toNat (i))) / 5) % 3)) ++ ((tabS tx0 ((nthI z (Int.toNat (i))) % 5)) ++ (tabS tx2 (((nthI z (Int.toNat (i))) / 15) % 2))))) o ⟨by omega, by omega, i2, i3, jn_0 (by omega) (by omega) (by omega) i4, wt_e (by omega) (by omega) (by assumption) i5, by simp only [List.length_append, List.length_cons, List.length_nil]; omega, by first | omega | (simp only [List.length_append, List.length_cons, List.length_nil]; omega), fun h => by omega, fun _ => i9 rfl, by omega⟩) (by show z.length - (i + 1).toNat < z.length - i.toNat; omega) (thXv (v := St' (s ++ ((tabS tx1 (((nthI z (Int.toNat (i))) / 5) % 3)) ++ ((tabS tx0 ((nthI z (Int.toNat (i))) % 5)) ++ (tabS tx2 (((nthI z (Int.toNat (i))) / 15) % 2)))))) rfl rfl (thXi (b := ((i + 1))) rfl rfl (by omega) (thXv (v := rwI .u8 z) rfl rfl (thXv (v := rwS o) rfl rfl (thNil))))) runOl_p8
  unfold hyOl_p8
  exact hc (kRn (denX rfl)) <|
   hc (kRlI (isX rfl) (denX rfl) (by first | omega | (simp <;> omega))) <|
   hc (ltT rfl rfl (by omega)) <|
   hc (kElI (j := (Int.toNat (i))) (isX rfl) (isX rfl) (denX rfl) (by omega) (by omega)) <|
   hc (kRem (isX rfl) (isZ (m := 5) rfl) (denX rfl) (by omega) (by omega) rfl) <|
   hc (kTabS (t := tx0) (isX rfl) (by omega) (by have : (tx0.length : Int) = 5 := rfl; omega) rfl rfl) <|
   hc (gtcF rfl (by omega)) <|
   hc (kQuo (isX rfl) (isZ (m := 5) rfl) (denX rfl) (by omega) (by omega) rfl (fU8 (by omega) (by omega))) <|
   hc (kRem (isX rfl) (isZ (m := 3) rfl) (denX rfl) (by omega) (by omega) rfl) <|
   hc (kTabS (t := tx1) (isX rfl) (by omega) (by have : (tx1.length : Int) = 3 := rfl; omega) rfl rfl) <|
   hc (kCat (isX rfl) (isX rfl) (denX rfl) (by first | rfl | (simp; done)) (by omega)) <|
   hc (kCat (isX rfl) (isX rfl) (denX rfl) (by first | rfl | (simp; done)) (by first | omega | (simp <;> omega))) <|
   hc (kQuo (isX rfl) (isZ (m := 15) rfl) (denX rfl) (by omega) (by omega) rfl (fU8 (by omega) (by omega))) <|
   hc (kRem (isX rfl) (isZ (m := 2) rfl) (denX rfl) (by omega) (by omega) rfl) <|
   hc (kTabS (t := tx2) (isX rfl) (by omega) (by have : (tx2.length : Int) = 2 := rfl; omega) rfl rfl) <|
   hc (kCat (isX rfl) (isX rfl) (denX rfl) (by first | rfl | (simp; done)) (by first | omega | (simp <;> omega))) <|
   hc (kNeS (isX rfl) (isSx (l := ([] : LB)) 0 0 rfl) (bnF (nilT (by omega)))) <|
   hc (adC rfl rfl (by omega)) <|
   hnil
def hyOl_p9 : LK := [(.rn, .x 2000005), (.rl (.x 2000000) 1, .x 30), (.bin .lss (.x 1) (.x 30), .b true), (.el (.x 2000000) (.x 1) 1 0, .x 31), (.bin .rem (.x 31) (.i .u8 (.ofNat 5)), .x 32), (.tab [.s 1 97, .s 0 0, .s 3 6496354, .s 1 100, .s 1 32] (.x 32), .x 33), (.bin .gtr (.x 1) (.i .i64 (.ofNat 0)), .b false), (.bin .quo (.x 31) (.i .u8 (.ofNat 5)), .x 34), (.bin .rem (.x 34) (.i .u8 (.ofNat 3)), .x 35), (.tab [.s 0 0, .s 1 32, .s 1 9] (.x 35), .x 36), (.bin .add (.x 0) (.x 36), .x 37), (.bin .add (.x 37) (.x 33), .x 38), (.bin .quo (.x 31) (.i .u8 (.ofNat 15)), .x 39), (.bin .rem (.x 39) (.i .u8 (.ofNat 2)), .x 40), (.tab [.s 0 0, .s 1 32] (.x 40), .x 41), (.bin .add (.x 38) (.x 41), .x 42), (.bin .neq (.x 33) (.s 0 0), .b true), (.bin .neq (.x 33) (.s 1 32), .b false), (.bin .add (.x 1) (.i .i64 (.ofNat 1)), .x 43)]
theorem runOl_p9 : RNOl_1 hyOl_p9 .normal [(0, .x 42), (1, .x 43), (2000000, .x 2000000), (2000001, .x 2000001)] [(8, 8)] 9 epOl_1 hpOl_1 = true := by kernel_rfl
theorem nxOl_p9 (z : List Int) (Ts : LB) (To : List LB) (i : Int) (s : LB) (o : List LB) (X : Nat → Value) (hI : InvOl z Ts To (1, i, s, o)) (h0 : i < (z.length : Int)) (h1 : ¬ (0 < i)) (h2 : ¬ (((tabS tx0 ((nthI z (Int.toNat (i))) % 5)).length : Int) = 0)) (h3 : (tabS tx0 ((nthI z (Int.toNat (i))) % 5)) = [u8 32]) : RHOl z Ts To E' x' e' h' (1, i, s, o) X := by
  obtain ⟨i0, i1, i2, i3, i4, i5, i6, i7, i8, i9, it⟩ := unIOl z Ts To 1 i s o hI
  have := rngAt (lo := 0) (hi := 255) (l := z) (by decide) (by decide) (by assumption) (Int.toNat (i))
  have := tx0_len ((nthI z (Int.toNat (i))) % 5)
  have := tx1_len (((nthI z (Int.toNat (i))) / 5) % 3)
  have := tx2_len (((nthI z (Int.toNat (i))) / 15) % 2)
  refine stOl_1 z Ts To i s o (h := hyOl_p9) (1, (i + 1), (s ++ ((tabS tx1 (((nthI z (Int.toNat (i))) / 5) % 3)) ++ ((tabS tx0 ((nthI z (Int.toNat (i))) % 5)) ++ (tabS tx2 (((nthI z (Int.toNat (i))) / 15) % 2))))), o) ?_ (mkIOl z Ts To 1 (i + 1) (s ++ ((tabS tx1 (((nthI z (Int.toNat (i))) / 5) % 3)) ++ ((tabS tx0 ((nthI z (Int.toNat (i))) % 5)) ++ (tabS tx2 (((nthI z (Int.toNat (i))) / 15) % 2))))) o ⟨by omega, by omega, i2, i3, jn_0 (by omega) (by omega) (by omega) i4, wt_b (by omega) (by omega) (by assumption) i5, by simp only [List.length_append, List.length_cons, List.length_nil]; omega, by first | omega | (simp only [List.length_append, List.length_cons, List.length_nil]; omega), fun h => by omega, fun _ => i9 rfl, by omega⟩) (by show z.length - (i + 1).toNat < z.length - i.toNat; omega) (thXv (v := St' (s ++ ((tabS tx1 (((nthI z (Int.toNat (i))) / 5) % 3)) ++ ((tabS tx0 ((nthI z (Int.toNat (i))) % 5)) ++ (tabS tx2 (((nthI z (Int.toNat (i))) / 15) % 2)))))) rfl rfl (thXi (b := ((i + 1))) rfl rfl (by omega) (thXv (v := rwI .u8 z) rfl rfl (thXv (v := rwS o) rfl rfl (thNil))))) runOl_p9
  unfold hyOl_p9
  exact hc (kRn (denX rfl)) <|
   hc (kRlI (isX rfl) (denX rfl) (by first | omega | (simp <;> omega))) <|
   hc (ltT rfl rfl (by omega)) <|
   hc (kElI (j := (Int.toNat (i))) (isX rfl) (isX rfl) (denX rfl) (by omega) (by omega)) <|
   hc (kRem (isX rfl) (isZ (m := 5) rfl) (denX rfl) (by omega) (by omega) rfl) <|
   hc (kTabS (t := tx0) (isX rfl) (by omega) (by have : (tx0.length : Int) = 5 := rfl; omega) rfl rfl) <|
   hc (gtcF rfl (by omega)) <|
   hc (kQuo (isX rfl) (isZ (m := 5) rfl) (denX rfl) (by omega) (by omega) rfl (fU8 (by omega) (by omega))) <|
   hc (kRem (isX rfl) (isZ (m := 3) rfl) (denX rfl) (by omega) (by omega) rfl) <|
   hc (kTabS (t := tx1) (isX rfl) (by omega) (by have : (tx1.length : Int) = 3 := rfl; omega) rfl rfl) <|
   hc (kCat (isX rfl) (isX rfl) (denX rfl) (by first | rfl | (simp; done)) (by omega)) <|
   hc (kCat (isX rfl) (isX rfl) (denX rfl) (by first | rfl | (simp; done)) (by first | omega | (simp <;> omega))) <|
   hc (kQuo (isX rfl) (isZ (m := 15) rfl) (denX rfl) (by omega) (by omega) rfl (fU8 (by omega) (by omega))) <|
   hc (kRem (isX rfl) (isZ (m := 2) rfl) (denX rfl) (by omega) (by omega) rfl) <|
   hc (kTabS (t := tx2) (isX rfl) (by omega) (by have : (tx2.length : Int) = 2 := rfl; omega) rfl rfl) <|
   hc (kCat (isX rfl) (isX rfl) (denX rfl) (by first | rfl | (simp; done)) (by first | omega | (simp <;> omega))) <|
   hc (kNeS (isX rfl) (isSx (l := ([] : LB)) 0 0 rfl) (bnT (nilF (by omega)))) <|
   hc (kNeS (isX rfl) (isSx (l := [u8 32]) 1 32 rfl) (bnF (by first | exact decide_eq_true rfl | exact decide_eq_true ‹_› | exact decide_eq_false ‹_›))) <|
   hc (adC rfl rfl (by omega)) <|
   hnil
def hyOl_p10 : LK := [(.rn, .x 2000006), (.rl (.x 2000000) 1, .x 44), (.bin .lss (.x 1) (.x 44), .b true), (.el (.x 2000000) (.x 1) 1 0, .x 45), (.bin .rem (.x 45) (.i .u8 (.ofNat 5)), .x 46), (.tab [.s 1 97, .s 0 0, .s 3 6496354, .s 1 100, .s 1 32] (.x 46), .x 47), (.bin .gtr (.x 1) (.i .i64 (.ofNat 0)), .b true), (.bin .add (.x 0) (.s 1 44), .x 48), (.bin .quo (.x 45) (.i .u8 (.ofNat 5)), .x 49), (.bin .rem (.x 49) (.i .u8 (.ofNat 3)), .x 50), (.tab [.s 0 0, .s 1 32, .s 1 9] (.x 50), .x 51), (.bin .add (.x 48) (.x 51), .x 52), (.bin .add (.x 52) (.x 47), .x 53), (.bin .quo (.x 45) (.i .u8 (.ofNat 15)), .x 54), (.bin .rem (.x 54) (.i .u8 (.ofNat 2)), .x 55), (.tab [.s 0 0, .s 1 32] (.x 55), .x 56), (.bin .add (.x 53) (.x 56), .x 57), (.bin .neq (.x 47) (.s 0 0), .b true), (.bin .neq (.x 47) (.s 1 32), .b true), (.ra (.x 2000001) [.x 47], .x 2000007), (.rf (.x 2000007) 1 16, .b true), (.bin .add (.x 1) (.i .i64 (.ofNat 1)), .x 58)]
theorem runOl_p10 : RNOl_1 hyOl_p10 .normal [(0, .x 57), (1, .x 58), (2000000, .x 2000000), (2000001, .x 2000007)] [(8, 10)] 9 epOl_1 hpOl_1 = true := by kernel_rfl
theorem nxOl_p10 (z : List Int) (Ts : LB) (To : List LB) (i : Int) (s : LB) (o : List LB) (X : Nat → Value) (hI : InvOl z Ts To (1, i, s, o)) (h0 : i < (z.length : Int)) (h1 : 0 < i) (h2 : ¬ (((tabS tx0 ((nthI z (Int.toNat (i))) % 5)).length : Int) = 0)) (h3 : ¬ ((tabS tx0 ((nthI z (Int.toNat (i))) % 5)) = [u8 32])) : RHOl z Ts To E' x' e' h' (1, i, s, o) X := by
  obtain ⟨i0, i1, i2, i3, i4, i5, i6, i7, i8, i9, it⟩ := unIOl z Ts To 1 i s o hI
  have := rngAt (lo := 0) (hi := 255) (l := z) (by decide) (by decide) (by assumption) (Int.toNat (i))
  have := tx0_len ((nthI z (Int.toNat (i))) % 5)
  have := tx1_len (((nthI z (Int.toNat (i))) / 5) % 3)
  have := tx2_len (((nthI z (Int.toNat (i))) / 15) % 2)
  refine stOl_1 z Ts To i s o (h := hyOl_p10) (1, (i + 1), (s ++ ([u8 44] ++ ((tabS tx1 (((nthI z (Int.toNat (i))) / 5) % 3)) ++ ((tabS tx0 ((nthI z (Int.toNat (i))) % 5)) ++ (tabS tx2 (((nthI z (Int.toNat (i))) / 15) % 2)))))), (o ++ [(tabS tx0 ((nthI z (Int.toNat (i))) % 5))])) ?_ (mkIOl z Ts To 1 (i + 1) (s ++ ([u8 44] ++ ((tabS tx1 (((nthI z (Int.toNat (i))) / 5) % 3)) ++ ((tabS tx0 ((nthI z (Int.toNat (i))) % 5)) ++ (tabS tx2 (((nthI z (Int.toNat (i))) / 15) % 2)))))) (o ++ [(tabS tx0 ((nthI z (Int.toNat (i))) % 5))]) ⟨by omega, by omega, i2, i3, jn_1 (by omega) (by omega) (by omega) i4, wt_c (by omega) (by omega) (by assumption) (by assumption) i5, by simp only [List.length_append, List.length_cons, List.length_nil]; omega, by first | omega | (simp only [List.length_append, List.length_cons, List.length_nil]; omega), fun h => by omega, fun _ => by simp, by omega⟩) (by show z.length - (i + 1).toNat < z.length - i.toNat; omega) (thXv (v := St' (s ++ ([u8 44] ++ ((tabS tx1 (((nthI z (Int.toNat (i))) / 5) % 3)) ++ ((tabS tx0 ((nthI z (Int.toNat (i))) % 5)) ++ (tabS tx2 (((nthI z (Int.toNat (i))) / 15) % 2))))))) rfl rfl (thXi (b := ((i + 1))) rfl rfl (by omega) (thXv (v := rwI .u8 z) rfl rfl (thXv (v := rwS (o ++ [(tabS tx0 ((nthI z (Int.toNat (i))) % 5))])) rfl rfl (thNil))))) runOl_p10
  unfold hyOl_p10
  exact hc (kRn (denX rfl)) <|
   hc (kRlI (isX rfl) (denX rfl) (by first | omega | (simp <;> omega))) <|
   hc (ltT rfl rfl (by omega)) <|
   hc (kElI (j := (Int.toNat (i))) (isX rfl) (isX rfl) (denX rfl) (by omega) (by omega)) <|
   hc (kRem (isX rfl) (isZ (m := 5) rfl) (denX rfl) (by omega) (by omega) rfl) <|
   hc (kTabS (t := tx0) (isX rfl) (by omega) (by have : (tx0.length : Int) = 5 := rfl; omega) rfl rfl) <|
   hc (gtcT rfl (by omega)) <|
   hc (kCat (isX rfl) (isSx (l := [u8 44]) 1 44 rfl) (denX rfl) (by first | rfl | (simp; done)) (by first | omega | (simp <;> omega))) <|
   hc (kQuo (isX rfl) (isZ (m := 5) rfl) (denX rfl) (by omega) (by omega) rfl (fU8 (by omega) (by omega))) <|
   hc (kRem (isX rfl) (isZ (m := 3) rfl) (denX rfl) (by omega) (by omega) rfl) <|
   hc (kTabS (t := tx1) (isX rfl) (by omega) (by have : (tx1.length : Int) = 3 := rfl; omega) rfl rfl) <|
   hc (kCat (isX rfl) (isX rfl) (denX rfl) (by first | rfl | (simp; done)) (by first | omega | (simp <;> omega))) <|
   hc (kCat (isX rfl) (isX rfl) (denX rfl) (by first | rfl | (simp; done)) (by first | omega | (simp <;> omega))) <|
   hc (kQuo (isX rfl) (isZ (m := 15) rfl) (denX rfl) (by omega) (by omega) rfl (fU8 (by omega) (by omega))) <|
   hc (kRem (isX rfl) (isZ (m := 2) rfl) (denX rfl) (by omega) (by omega) rfl) <|
   hc (kTabS (t := tx2) (isX rfl) (by omega) (by have : (tx2.length : Int) = 2 := rfl; omega) rfl rfl) <|
   hc (kCat (isX rfl) (isX rfl) (denX rfl) (by first | rfl | (simp; done)) (by first | omega | (simp <;> omega))) <|
   hc (kNeS (isX rfl) (isSx (l := ([] : LB)) 0 0 rfl) (bnT (nilF (by omega)))) <|
   hc (kNeS (isX rfl) (isSx (l := [u8 32]) 1 32 rfl) (bnT (by first | exact decide_eq_true rfl | exact decide_eq_true ‹_› | exact decide_eq_false ‹_›))) <|
   hc (kRa (isX rfl) (isX rfl) (denX rfl)) <|
   hc (kRf (isX rfl) (by first | omega | (simp <;> omega)) (by first | omega | (simp <;> omega))) <|
   hc (adC rfl rfl (by omega)) <|
   hnil
def hyOl_p11 : LK := [(.rn, .x 2000008), (.rl (.x 2000000) 1, .x 59), (.bin .lss (.x 1) (.x 59), .b true), (.el (.x 2000000) (.x 1) 1 0, .x 60), (.bin .rem (.x 60) (.i .u8 (.ofNat 5)), .x 61), (.tab [.s 1 97, .s 0 0, .s 3 6496354, .s 1 100, .s 1 32] (.x 61), .x 62), (.bin .gtr (.x 1) (.i .i64 (.ofNat 0)), .b true), (.bin .add (.x 0) (.s 1 44), .x 63), (.bin .quo (.x 60) (.i .u8 (.ofNat 5)), .x 64), (.bin .rem (.x 64) (.i .u8 (.ofNat 3)), .x 65), (.tab [.s 0 0, .s 1 32, .s 1 9] (.x 65), .x 66), (.bin .add (.x 63) (.x 66), .x 67), (.bin .add (.x 67) (.x 62), .x 68), (.bin .quo (.x 60) (.i .u8 (.ofNat 15)), .x 69), (.bin .rem (.x 69) (.i .u8 (.ofNat 2)), .x 70), (.tab [.s 0 0, .s 1 32] (.x 70), .x 71), (.bin .add (.x 68) (.x 71), .x 72), (.bin .neq (.x 62) (.s 0 0), .b false), (.bin .add (.x 1) (.i .i64 (.ofNat 1)), .x 73)]
theorem runOl_p11 : RNOl_1 hyOl_p11 .normal [(0, .x 72), (1, .x 73), (2000000, .x 2000000), (2000001, .x 2000001)] [(8, 8)] 9 epOl_1 hpOl_1 = true := by kernel_rfl
theorem nxOl_p11 (z : List Int) (Ts : LB) (To : List LB) (i : Int) (s : LB) (o : List LB) (X : Nat → Value) (hI : InvOl z Ts To (1, i, s, o)) (h0 : i < (z.length : Int)) (h1 : 0 < i) (h2 : ((tabS tx0 ((nthI z (Int.toNat (i))) % 5)).length : Int) = 0) : RHOl z Ts To E' x' e' h' (1, i, s, o) X := by
  obtain ⟨i0, i1, i2, i3, i4, i5, i6, i7, i8, i9, it⟩ := unIOl z Ts To 1 i s o hI
  have := rngAt (lo := 0) (hi := 255) (l := z) (by decide) (by decide) (by assumption) (Int.toNat (i))
  have := tx0_len ((nthI z (Int.toNat (i))) % 5)
  have := tx1_len (((nthI z (Int.toNat (i))) / 5) % 3)
  have := tx2_len (((nthI z (Int.toNat (i))) / 15) % 2)
  refine stOl_1 z Ts To i s o (h := hyOl_p11) (1, (i + 1), (s ++ ([u8 44] ++ ((tabS tx1 (((nthI z (Int.toNat (i))) / 5) % 3)) ++ ((tabS tx0 ((nthI z (Int.toNat (i))) % 5)) ++ (tabS tx2 (((nthI z (Int.toNat (i))) / 15) % 2)))))), o) ?_ (mkIOl z Ts To 1 (i + 1) (s ++ ([u8 44] ++ ((tabS tx1 (((nthI z (Int.toNat (i))) / 5) % 3)) ++ ((tabS tx0 ((nthI z (Int.toNat (i))) % 5)) ++ (tabS tx2 (((nthI z (Int.toNat (i))) / 15) % 2)))))) o ⟨by omega, by omega, i2, i3, jn_1 (by omega) (by omega) (by omega) i4, wt_e (by omega) (by omega) (by assumption) i5, by simp only [List.length_append, List.length_cons, List.length_nil]; omega, by first | omega | (simp only [List.length_append, List.length_cons, List.length_nil]; omega), fun h => by omega, fun _ => i9 rfl, by omega⟩) (by show z.length - (i + 1).toNat < z.length - i.toNat; omega) (thXv (v := St' (s ++ ([u8 44] ++ ((tabS tx1 (((nthI z (Int.toNat (i))) / 5) % 3)) ++ ((tabS tx0 ((nthI z (Int.toNat (i))) % 5)) ++ (tabS tx2 (((nthI z (Int.toNat (i))) / 15) % 2))))))) rfl rfl (thXi (b := ((i + 1))) rfl rfl (by omega) (thXv (v := rwI .u8 z) rfl rfl (thXv (v := rwS o) rfl rfl (thNil))))) runOl_p11
  unfold hyOl_p11
  exact hc (kRn (denX rfl)) <|
   hc (kRlI (isX rfl) (denX rfl) (by first | omega | (simp <;> omega))) <|
   hc (ltT rfl rfl (by omega)) <|
   hc (kElI (j := (Int.toNat (i))) (isX rfl) (isX rfl) (denX rfl) (by omega) (by omega)) <|
   hc (kRem (isX rfl) (isZ (m := 5) rfl) (denX rfl) (by omega) (by omega) rfl) <|
   hc (kTabS (t := tx0) (isX rfl) (by omega) (by have : (tx0.length : Int) = 5 := rfl; omega) rfl rfl) <|
   hc (gtcT rfl (by omega)) <|
   hc (kCat (isX rfl) (isSx (l := [u8 44]) 1 44 rfl) (denX rfl) (by first | rfl | (simp; done)) (by first | omega | (simp <;> omega))) <|
   hc (kQuo (isX rfl) (isZ (m := 5) rfl) (denX rfl) (by omega) (by omega) rfl (fU8 (by omega) (by omega))) <|
   hc (kRem (isX rfl) (isZ (m := 3) rfl) (denX rfl) (by omega) (by omega) rfl) <|
   hc (kTabS (t := tx1) (isX rfl) (by omega) (by have : (tx1.length : Int) = 3 := rfl; omega) rfl rfl) <|
   hc (kCat (isX rfl) (isX rfl) (denX rfl) (by first | rfl | (simp; done)) (by first | omega | (simp <;> omega))) <|
   hc (kCat (isX rfl) (isX rfl) (denX rfl) (by first | rfl | (simp; done)) (by first | omega | (simp <;> omega))) <|
   hc (kQuo (isX rfl) (isZ (m := 15) rfl) (denX rfl) (by omega) (by omega) rfl (fU8 (by omega) (by omega))) <|
   hc (kRem (isX rfl) (isZ (m := 2) rfl) (denX rfl) (by omega) (by omega) rfl) <|
   hc (kTabS (t := tx2) (isX rfl) (by omega) (by have : (tx2.length : Int) = 2 := rfl; omega) rfl rfl) <|
   hc (kCat (isX rfl) (isX rfl) (denX rfl) (by first | rfl | (simp; done)) (by first | omega | (simp <;> omega))) <|
   hc (kNeS (isX rfl) (isSx (l := ([] : LB)) 0 0 rfl) (bnF (nilT (by omega)))) <|
   hc (adC rfl rfl (by omega)) <|
   hnil
def hyOl_p12 : LK := [(.rn, .x 2000009), (.rl (.x 2000000) 1, .x 74), (.bin .lss (.x 1) (.x 74), .b true), (.el (.x 2000000) (.x 1) 1 0, .x 75), (.bin .rem (.x 75) (.i .u8 (.ofNat 5)), .x 76), (.tab [.s 1 97, .s 0 0, .s 3 6496354, .s 1 100, .s 1 32] (.x 76), .x 77), (.bin .gtr (.x 1) (.i .i64 (.ofNat 0)), .b true), (.bin .add (.x 0) (.s 1 44), .x 78), (.bin .quo (.x 75) (.i .u8 (.ofNat 5)), .x 79), (.bin .rem (.x 79) (.i .u8 (.ofNat 3)), .x 80), (.tab [.s 0 0, .s 1 32, .s 1 9] (.x 80), .x 81), (.bin .add (.x 78) (.x 81), .x 82), (.bin .add (.x 82) (.x 77), .x 83), (.bin .quo (.x 75) (.i .u8 (.ofNat 15)), .x 84), (.bin .rem (.x 84) (.i .u8 (.ofNat 2)), .x 85), (.tab [.s 0 0, .s 1 32] (.x 85), .x 86), (.bin .add (.x 83) (.x 86), .x 87), (.bin .neq (.x 77) (.s 0 0), .b true), (.bin .neq (.x 77) (.s 1 32), .b false), (.bin .add (.x 1) (.i .i64 (.ofNat 1)), .x 88)]
theorem runOl_p12 : RNOl_1 hyOl_p12 .normal [(0, .x 87), (1, .x 88), (2000000, .x 2000000), (2000001, .x 2000001)] [(8, 8)] 9 epOl_1 hpOl_1 = true := by kernel_rfl
theorem nxOl_p12 (z : List Int) (Ts : LB) (To : List LB) (i : Int) (s : LB) (o : List LB) (X : Nat → Value) (hI : InvOl z Ts To (1, i, s, o)) (h0 : i < (z.length : Int)) (h1 : 0 < i) (h2 : ¬ (((tabS tx0 ((nthI z (Int.toNat (i))) % 5)).length : Int) = 0)) (h3 : (tabS tx0 ((nthI z (Int.toNat (i))) % 5)) = [u8 32]) : RHOl z Ts To E' x' e' h' (1, i, s, o) X := by
  obtain ⟨i0, i1, i2, i3, i4, i5, i6, i7, i8, i9, it⟩ := unIOl z Ts To 1 i s o hI
  have := rngAt (lo := 0) (hi := 255) (l := z) (by decide) (by decide) (by assumption) (Int.toNat (i))
  have := tx0_len ((nthI z (Int.toNat (i))) % 5)
  have := tx1_len (((nthI z (Int.toNat (i))) / 5) % 3)
  have := tx2_len (((nthI z (Int.toNat (i))) / 15) % 2)
  refine stOl_1 z Ts To i s o (h := hyOl_p12) (1, (i + 1), (s ++ ([u8 44] ++ ((tabS tx1 (((nthI z (Int.toNat (i))) / 5) % 3)) ++ ((tabS tx0 ((nthI z (Int.toNat (i))) % 5)) ++ (tabS tx2 (((nthI z (Int.toNat (i))) / 15) % 2)))))), o) ?_ (mkIOl z Ts To 1 (i + 1) (s ++ ([u8 44] ++ ((tabS tx1 (((nthI z (Int.toNat (i))) / 5) % 3)) ++ ((tabS tx0 ((nthI z (Int.toNat (i))) % 5)) ++ (tabS tx2 (((nthI z (Int.toNat (i))) / 15) % 2)))))) o ⟨by omega, by omega, i2, i3, jn_1 (by omega) (by omega) (by omega) i4, wt_b (by omega) (by omega) (by assumption) i5, by simp only [List.length_append, List.length_cons, List.length_nil]; omega, by first | omega | (simp only [List.length_append, List.length_cons, List.length_nil]; omega), fun h => by omega, fun _ => i9 rfl, by omega⟩) (by show z.length - (i + 1).toNat < z.length - i.toNat; omega) (thXv (v := St' (s ++ ([u8 44] ++ ((tabS tx1 (((nthI z (Int.toNat (i))) / 5) % 3)) ++ ((tabS tx0 ((nthI z (Int.toNat (i))) % 5)) ++ (tabS tx2 (((nthI z (Int.toNat (i))) / 15) % 2))))))) rfl rfl (thXi (b := ((i + 1))) rfl rfl (by omega) (thXv (v := rwI .u8 z) rfl rfl (thXv (v := rwS o) rfl rfl (thNil))))) runOl_p12
  unfold hyOl_p12
  exact hc (kRn (denX rfl)) <|
   hc (kRlI (isX rfl) (denX rfl) (by first | omega | (simp <;> omega))) <|
   hc (ltT rfl rfl (by omega)) <|
   hc (kElI (j := (Int.toNat (i))) (isX rfl) (isX rfl) (denX rfl) (by omega) (by omega)) <|
   hc (kRem (isX rfl) (isZ (m := 5) rfl) (denX rfl) (by omega) (by omega) rfl) <|
   hc (kTabS (t := tx0) (isX rfl) (by omega) (by have : (tx0.length : Int) = 5 := rfl; omega) rfl rfl) <|
   hc (gtcT rfl (by omega)) <|
   hc (kCat (isX rfl) (isSx (l := [u8 44]) 1 44 rfl) (denX rfl) (by first | rfl | (simp; done)) (by first | omega | (simp <;> omega))) <|
   hc (kQuo (isX rfl) (isZ (m := 5) rfl) (denX rfl) (by omega) (by omega) rfl (fU8 (by omega) (by omega))) <|
   hc (kRem (isX rfl) (isZ (m := 3) rfl) (denX rfl) (by omega) (by omega) rfl) <|
   hc (kTabS (t := tx1) (isX rfl) (by omega) (by have : (tx1.length : Int) = 3 := rfl; omega) rfl rfl) <|
   hc (kCat (isX rfl) (isX rfl) (denX rfl) (by first | rfl | (simp; done)) (by first | omega | (simp <;> omega))) <|
   hc (kCat (isX rfl) (isX rfl) (denX rfl) (by first | rfl | (simp; done)) (by first | omega | (simp <;> omega))) <|
   hc (kQuo (isX rfl) (isZ (m := 15) rfl) (denX rfl) (by omega) (by omega) rfl (fU8 (by omega) (by omega))) <|
   hc (kRem (isX rfl) (isZ (m := 2) rfl) (denX rfl) (by omega) (by omega) rfl) <|
   hc (kTabS (t := tx2) (isX rfl) (by omega) (by have : (tx2.length : Int) = 2 := rfl; omega) rfl rfl) <|
   hc (kCat (isX rfl) (isX rfl) (denX rfl) (by first | rfl | (simp; done)) (by first | omega | (simp <;> omega))) <|
   hc (kNeS (isX rfl) (isSx (l := ([] : LB)) 0 0 rfl) (bnT (nilF (by omega)))) <|
   hc (kNeS (isX rfl) (isSx (l := [u8 32]) 1 32 rfl) (bnF (by first | exact decide_eq_true rfl | exact decide_eq_true ‹_› | exact decide_eq_false ‹_›))) <|
   hc (adC rfl rfl (by omega)) <|
   hnil
def hyOl_p13 : LK := [(.rn, .x 2000010), (.rl (.x 2000000) 1, .x 89), (.bin .lss (.x 1) (.x 89), .b false)]
theorem runOl_p13 : RNOl_1 hyOl_p13 (.exit 0) [(0, .x 0), (2000000, .x 2000000), (2000001, .x 2000001)] [(8, 8)] 21 [(0, .sr 7), (3, .x 0), (4, .sr 8)] [(7, .r 2000000 5 1 true), (8, .r 2000001 9 1 false)] = true := by kernel_rfl
def nuEOl_0 (z : List Int) (Ts : LB) (To : List LB) : List Value := [St' Ts]
def roEOl_0 (z : List Int) (Ts : LB) (To : List LB) : List Value := [rwI .u8 z]
noncomputable def EOl_0 (z : List Int) (Ts : LB) (To : List LB) : Cx := cx (nuX (nuEOl_0 z Ts To) (rX (roEOl_0 z Ts To) (fun _ => .bool true))) (nuX_one (nuL_one (l := nuEOl_0 z Ts To) rfl)) 0 laidE laidE_stab
theorem roundsOl_0 (z : List Int) (Ts : LB) (To : List LB) (x0 : To.length = 0) (st : Nat × Int × LB × List LB) (X : Nat → Value) (hI : InvOl z Ts To st) : RHOl z Ts To (EOl_0 z Ts To) (.exit 0) [(0, .sr 7), (3, .x 0), (4, .nils)] [(7, .r 2000000 5 1 true)] st X := by
  obtain ⟨tag, i, s, o⟩ := st
  have hI0 := hI
  obtain ⟨i0, i1, i2, i3, i4, i5, i6, i7, i8, i9, it⟩ := unIOl z Ts To tag i s o hI
  rcases (show tag = 0 ∨ tag = 1 from by omega) with rfl | rfl
  · skip
    by_cases h0 : i < (z.length : Int)
    · by_cases h1 : 0 < i
      · by_cases h2 : ((tabS tx0 ((nthI z (Int.toNat (i))) % 5)).length : Int) = 0
        · exact nxOl_p4 z Ts To i s o X hI0 h0 h1 h2
        · by_cases h3 : (tabS tx0 ((nthI z (Int.toNat (i))) % 5)) = [u8 32]
          · exact nxOl_p5 z Ts To i s o X hI0 h0 h1 h2 h3
          · exact nxOl_p3 z Ts To i s o X hI0 h0 h1 h2 h3
      · by_cases h2 : ((tabS tx0 ((nthI z (Int.toNat (i))) % 5)).length : Int) = 0
        · exact nxOl_p1 z Ts To i s o X hI0 h0 h1 h2
        · by_cases h3 : (tabS tx0 ((nthI z (Int.toNat (i))) % 5)) = [u8 32]
          · exact nxOl_p2 z Ts To i s o X hI0 h0 h1 h2 h3
          · exact nxOl_p0 z Ts To i s o X hI0 h0 h1 h2 h3
    · skip
      refine lvOl_0 z Ts To i s o (h := hyOl_p6) rfl ?_ (thXe (v := St' s) (u := St' Ts) rfl rfl (congrArg (fun l => St' l) (jn_x (by omega) (by omega) i4)) (thXv (v := rwI .u8 z) rfl rfl (thNil))) runOl_p6
      unfold hyOl_p6
      exact hc (kRn (denX rfl)) <|
       hc (kRlI (isX rfl) (denX rfl) (by first | omega | (simp <;> omega))) <|
       hc (ltF rfl rfl (by omega)) <|
       hnil
  · skip
    by_cases h0 : i < (z.length : Int)
    · by_cases h1 : 0 < i
      · by_cases h2 : ((tabS tx0 ((nthI z (Int.toNat (i))) % 5)).length : Int) = 0
        · exact nxOl_p11 z Ts To i s o X hI0 h0 h1 h2
        · by_cases h3 : (tabS tx0 ((nthI z (Int.toNat (i))) % 5)) = [u8 32]
          · exact nxOl_p12 z Ts To i s o X hI0 h0 h1 h2 h3
          · exact nxOl_p10 z Ts To i s o X hI0 h0 h1 h2 h3
      · by_cases h2 : ((tabS tx0 ((nthI z (Int.toNat (i))) % 5)).length : Int) = 0
        · exact nxOl_p8 z Ts To i s o X hI0 h0 h1 h2
        · by_cases h3 : (tabS tx0 ((nthI z (Int.toNat (i))) % 5)) = [u8 32]
          · exact nxOl_p9 z Ts To i s o X hI0 h0 h1 h2 h3
          · exact nxOl_p7 z Ts To i s o X hI0 h0 h1 h2 h3
    · exfalso; have e := congrArg List.length (wt_x (by omega) (by omega) i5); have := i9 rfl; omega
theorem lfOkOl_0 {l : LF} {h : LH} (z : List Int) (Ts : LB) (To : List LB) (x0 : To.length = 0) (st : Nat × Int × LB × List LB) (hI : InvOl z Ts To st) (hl : l.hp = some h) (hs : lfSame l h 64 keepOl (.exit 0) 7 8 21 = true) {th0 : LA} {sg0 : List (Nat × Nat)} (hth0 : ∀ X, ThOk (cx nu one 0 laidE laidE_stab) (DOl z Ts To st X) th0) (h0 : startOk l h 64 8 9 th0 sg0 (epOl st) (hpOl st) = true) {thx : LA} (hthx : ThOk (EOl_0 z Ts To) (cx nu one 0 laidE laidE_stab) thx) (hx : exitOk l h 64 8 21 thx [(0, .sr 7), (3, .x 0), (4, .nils)] [(7, .r 2000000 5 1 true)] = true) : LfOk (cx nu one 0 laidE laidE_stab) bodyOl l :=
  lfOkX (E := EOl_0 z Ts To) (InvOl z Ts To) (muOl z Ts To) (DOl z Ts To) (fun _ _ => rfl) (fun _ _ => rfl) (fun _ _ => rfl) (fun st X t ht => nuX_keep.trans (rX_keep ((by decide : ∀ t, t ∈ keepOl → t < 1000000) t ht))) rfl rfl rfl hl hs ebOl rfl rfl st hI hth0 h0 hthx hx (roundsOl_0 z Ts To x0)
def nuEOl_1 (z : List Int) (Ts : LB) (To : List LB) : List Value := [St' Ts]
def roEOl_1 (z : List Int) (Ts : LB) (To : List LB) : List Value := [rwI .u8 z, rwS To]
noncomputable def EOl_1 (z : List Int) (Ts : LB) (To : List LB) : Cx := cx (nuX (nuEOl_1 z Ts To) (rX (roEOl_1 z Ts To) (fun _ => .bool true))) (nuX_one (nuL_one (l := nuEOl_1 z Ts To) rfl)) 0 laidE laidE_stab
theorem roundsOl_1 (z : List Int) (Ts : LB) (To : List LB) (x0 : ¬ To.length = 0) (st : Nat × Int × LB × List LB) (X : Nat → Value) (hI : InvOl z Ts To st) : RHOl z Ts To (EOl_1 z Ts To) (.exit 0) [(0, .sr 7), (3, .x 0), (4, .sr 8)] [(7, .r 2000000 5 1 true), (8, .r 2000001 9 1 false)] st X := by
  obtain ⟨tag, i, s, o⟩ := st
  have hI0 := hI
  obtain ⟨i0, i1, i2, i3, i4, i5, i6, i7, i8, i9, it⟩ := unIOl z Ts To tag i s o hI
  rcases (show tag = 0 ∨ tag = 1 from by omega) with rfl | rfl
  · skip
    by_cases h0 : i < (z.length : Int)
    · by_cases h1 : 0 < i
      · by_cases h2 : ((tabS tx0 ((nthI z (Int.toNat (i))) % 5)).length : Int) = 0
        · exact nxOl_p4 z Ts To i s o X hI0 h0 h1 h2
        · by_cases h3 : (tabS tx0 ((nthI z (Int.toNat (i))) % 5)) = [u8 32]
          · exact nxOl_p5 z Ts To i s o X hI0 h0 h1 h2 h3
          · exact nxOl_p3 z Ts To i s o X hI0 h0 h1 h2 h3
      · by_cases h2 : ((tabS tx0 ((nthI z (Int.toNat (i))) % 5)).length : Int) = 0
        · exact nxOl_p1 z Ts To i s o X hI0 h0 h1 h2
        · by_cases h3 : (tabS tx0 ((nthI z (Int.toNat (i))) % 5)) = [u8 32]
          · exact nxOl_p2 z Ts To i s o X hI0 h0 h1 h2 h3
          · exact nxOl_p0 z Ts To i s o X hI0 h0 h1 h2 h3
    · exfalso; have e := congrArg List.length (wt_x (by omega) (by omega) i5); rw [i8 rfl] at e; exact x0 e.symm
  · skip
    by_cases h0 : i < (z.length : Int)
    · by_cases h1 : 0 < i
      · by_cases h2 : ((tabS tx0 ((nthI z (Int.toNat (i))) % 5)).length : Int) = 0
        · exact nxOl_p11 z Ts To i s o X hI0 h0 h1 h2
        · by_cases h3 : (tabS tx0 ((nthI z (Int.toNat (i))) % 5)) = [u8 32]
          · exact nxOl_p12 z Ts To i s o X hI0 h0 h1 h2 h3
          · exact nxOl_p10 z Ts To i s o X hI0 h0 h1 h2 h3
      · by_cases h2 : ((tabS tx0 ((nthI z (Int.toNat (i))) % 5)).length : Int) = 0
        · exact nxOl_p8 z Ts To i s o X hI0 h0 h1 h2
        · by_cases h3 : (tabS tx0 ((nthI z (Int.toNat (i))) % 5)) = [u8 32]
          · exact nxOl_p9 z Ts To i s o X hI0 h0 h1 h2 h3
          · exact nxOl_p7 z Ts To i s o X hI0 h0 h1 h2 h3
    · skip
      refine lvOl_1 z Ts To i s o (h := hyOl_p13) rfl ?_ (thXe (v := St' s) (u := St' Ts) rfl rfl (congrArg (fun l => St' l) (jn_x (by omega) (by omega) i4)) (thXv (v := rwI .u8 z) rfl rfl (thXe (v := rwS o) (u := rwS To) rfl rfl (congrArg rwS (wt_x (by omega) (by omega) i5)) (thNil)))) runOl_p13
      unfold hyOl_p13
      exact hc (kRn (denX rfl)) <|
       hc (kRlI (isX rfl) (denX rfl) (by first | omega | (simp <;> omega))) <|
       hc (ltF rfl rfl (by omega)) <|
       hnil
theorem lfOkOl_1 {l : LF} {h : LH} (z : List Int) (Ts : LB) (To : List LB) (x0 : ¬ To.length = 0) (st : Nat × Int × LB × List LB) (hI : InvOl z Ts To st) (hl : l.hp = some h) (hs : lfSame l h 64 keepOl (.exit 0) 7 8 21 = true) {th0 : LA} {sg0 : List (Nat × Nat)} (hth0 : ∀ X, ThOk (cx nu one 0 laidE laidE_stab) (DOl z Ts To st X) th0) (h0 : startOk l h 64 8 9 th0 sg0 (epOl st) (hpOl st) = true) {thx : LA} (hthx : ThOk (EOl_1 z Ts To) (cx nu one 0 laidE laidE_stab) thx) (hx : exitOk l h 64 8 21 thx [(0, .sr 7), (3, .x 0), (4, .sr 8)] [(7, .r 2000000 5 1 true), (8, .r 2000001 9 1 false)] = true) : LfOk (cx nu one 0 laidE laidE_stab) bodyOl l :=
  lfOkX (E := EOl_1 z Ts To) (InvOl z Ts To) (muOl z Ts To) (DOl z Ts To) (fun _ _ => rfl) (fun _ _ => rfl) (fun _ _ => rfl) (fun st X t ht => nuX_keep.trans (rX_keep ((by decide : ∀ t, t ∈ keepOl → t < 1000000) t ht))) rfl rfl rfl hl hs ebOl rfl rfl st hI hth0 h0 hthx hx (roundsOl_1 z Ts To x0)
noncomputable def bodySm : Code := loopNo (Tryd.f29.body.getD .skip) 0
theorem keySm : oneKey (loopsOf (Tryd.f29.body.getD .skip)) 4 0 0 = true := by kernel_rfl
def keepSm : List Nat := []
def epSm_0 : LA := [(0, .sr 67), (1, .sr 68), (5, .x 0)]
def hpSm_0 : LE := [(67, .r 2000000 9 1 false), (68, .r 2000001 9 1 false)]
def nuSm_0 (T : List LB) (i : Int) : List Value := [.int .i64 (i), .int .i64 ((T.length : Int)), St' (List.getD T (Int.toNat (i)) []), St' (List.getD T (Int.toNat (i)) []), .int .i64 (i + 1), .int .i64 ((T.length : Int))]
def roSm_0 (T : List LB) (i : Int) : List Value := [rwS T, rwS T]
def epSm (st : Nat × Int) : LA := epSm_0
def hpSm (st : Nat × Int) : LE := hpSm_0
def nuSm (T : List LB) (st : Nat × Int) : List Value := nuSm_0 T (st.2)
def roSm (T : List LB) (st : Nat × Int) : List Value := roSm_0 T (st.2)
theorem onSm (T : List LB) (st : Nat × Int) : ∀ j, (nuL (nuSm T st) j).oneCell' = true := by
  intro j
  unfold nuSm
  exact nuL_one (l := nuSm_0 T (st.2)) rfl j
theorem ebSm (st : Nat × Int) : (lfB (epSm st) && lfC keepSm) = true := by
  unfold epSm
  rfl
noncomputable def DSm (T : List LB) (st : Nat × Int) (X : Nat → Value) : Cx := cx (nuX (nuSm T st) (rX (roSm T st) X)) (nuX_one (onSm T st)) 0 laidE laidE_stab
def InvSm (T : List LB) (st : Nat × Int) : Prop := (0 ≤ (st.2)) ∧ ((st.2) ≤ (T.length : Int)) ∧ (T.length ≤ 401) ∧ ((st.1) < 1)
abbrev CjSm (T : List LB) (tag : Nat) (i : Int) : Prop := (0 ≤ i) ∧ (i ≤ (T.length : Int)) ∧ (T.length ≤ 401) ∧ (tag < 1)
theorem mkISm (T : List LB) (tag : Nat) (i : Int) (h : CjSm T tag i) : InvSm T (tag, i) := h
theorem unISm (T : List LB) (tag : Nat) (i : Int) (h : InvSm T (tag, i)) : (0 ≤ i) ∧ (i ≤ (T.length : Int)) ∧ (T.length ≤ 401) ∧ (tag < 1) := h
def muSm (T : List LB) (st : Nat × Int) : Nat := (T.length - (st.2).toNat)
abbrev RHSm (T : List LB) (E' : Cx) (ex' : Ex) (epx' : LA) (hpx' : LE) (st : Nat × Int) (X : Nat → Value) : Prop := RoundH E' bodySm keepSm 26 ex' 7 67 69 69 epSm hpSm epx' hpx' (InvSm T) (muSm T) (DSm T) st X
noncomputable abbrev RNSm_0 (h : LK) (x : Ex) (th : LA) (sg : List (Nat × Nat)) (m : Nat) (ep : LA) (hp : LE) : Bool := okRdH (code (tbl h) 500 [] bodySm (envOf (headOf epSm_0 keepSm) 26) ⟨lhSet hpSm_0 .leaf, 69, 0, 0⟩) x keepSm 26 69 th sg 67 m ep hp
theorem stSm_0 (T : List LB) (i : Int) {X : Nat → Value} {h : LK} (y : Nat × Int) {th : LA} {sg : List (Nat × Nat)} (ho : ∀ a' r', (a', r') ∈ h → HOk (cx (nuX (nuSm_0 T i) (rX (roSm_0 T i) X)) (nuX_one (nuL_one (l := nuSm_0 T i) rfl)) 0 laidE laidE_stab) a' r') (hy : InvSm T y) (lt : muSm T y < muSm T (0, i)) (ht : ThOk (cx (nuX (nuSm_0 T i) (rX (roSm_0 T i) X)) (nuX_one (nuL_one (l := nuSm_0 T i) rfl)) 0 laidE laidE_stab) (DSm T y X) th) (run : RNSm_0 h .normal th sg 69 (epSm y) (hpSm y) = true) : RHSm T E' x' e' h' (0, i) X :=
  RoundH.next (tb := tbl h) (L := []) (f := 500) y ((tabkOk _ _).hyps ho) (LpOk.nil _) rfl hy lt ht run
theorem lvSm_0 (T : List LB) (i : Int) {X : Nat → Value} {h : LK} {th : LA} {sg : List (Nat × Nat)} (hne : exB x' .normal = false) (ho : ∀ a' r', (a', r') ∈ h → HOk (cx (nuX (nuSm_0 T i) (rX (roSm_0 T i) X)) (nuX_one (nuL_one (l := nuSm_0 T i) rfl)) 0 laidE laidE_stab) a' r') (ht : ThOk (cx (nuX (nuSm_0 T i) (rX (roSm_0 T i) X)) (nuX_one (nuL_one (l := nuSm_0 T i) rfl)) 0 laidE laidE_stab) E' th) (run : RNSm_0 h x' th sg 69 e' h' = true) : RHSm T E' x' e' h' (0, i) X :=
  RoundH.leave (tb := tbl h) (L := []) (f := 500) ((tabkOk _ _).hyps ho) (LpOk.nil _) rfl hne ht run
def hySm_p0 : LK := [(.rl (.x 2000000) 1, .x 1), (.bin .lss (.x 0) (.x 1), .b true), (.el (.x 2000000) (.x 0) 1 0, .x 2), (.el (.x 2000001) (.x 0) 1 0, .x 3), (.bin .neq (.x 2) (.x 3), .b false), (.bin .add (.x 0) (.i .i64 (.ofNat 1)), .x 4)]
theorem runSm_p0 : RNSm_0 hySm_p0 .normal [(0, .x 4), (2000000, .x 2000000), (2000001, .x 2000001)] [(67, 67), (68, 68)] 69 epSm_0 hpSm_0 = true := by kernel_rfl
theorem nxSm_p0 (T : List LB) (i : Int) (X : Nat → Value) (hI : InvSm T (0, i)) (h0 : i < (T.length : Int)) : RHSm T E' x' e' h' (0, i) X := by
  obtain ⟨i0, i1, i2, it⟩ := unISm T 0 i hI
  refine stSm_0 T i (h := hySm_p0) (0, (i + 1)) ?_ (mkISm T 0 (i + 1) ⟨by omega, by omega, by omega, by omega⟩) (by show T.length - (i + 1).toNat < T.length - i.toNat; omega) (thXi (b := ((i + 1))) rfl rfl (by omega) (thXv (v := rwS T) rfl rfl (thXv (v := rwS T) rfl rfl (thNil)))) runSm_p0
  unfold hySm_p0
  exact hc (kRl (isX rfl) (denX rfl) (by first | omega | (simp <;> omega))) <|
   hc (ltT rfl rfl (by omega)) <|
   hc (kEl (j := (Int.toNat (i))) (isX rfl) (isX rfl) (denX rfl) (by omega) (by first | omega | (simp <;> omega))) <|
   hc (kEl (j := (Int.toNat (i))) (isX rfl) (isX rfl) (denX rfl) (by omega) (by first | omega | (simp <;> omega))) <|
   hc (kNeS (isX rfl) (isX rfl) (bnF (decide_eq_true rfl))) <|
   hc (adC rfl rfl (by omega)) <|
   hnil
def hySm_p1 : LK := [(.rl (.x 2000000) 1, .x 5), (.bin .lss (.x 0) (.x 5), .b false)]
theorem runSm_p1 : RNSm_0 hySm_p1 (.exit 0) [] [] 69 [] [] = true := by kernel_rfl
def nuESm_0 (T : List LB) : List Value := []
def roESm_0 (T : List LB) : List Value := []
noncomputable def ESm_0 (T : List LB) : Cx := cx (nuX (nuESm_0 T) (rX (roESm_0 T) (fun _ => .bool true))) (nuX_one (nuL_one (l := nuESm_0 T) rfl)) 0 laidE laidE_stab
theorem roundsSm_0 (T : List LB) (st : Nat × Int) (X : Nat → Value) (hI : InvSm T st) : RHSm T (ESm_0 T) (.exit 0) [] [] st X := by
  obtain ⟨tag, i⟩ := st
  have hI0 := hI
  obtain ⟨i0, i1, i2, it⟩ := unISm T tag i hI
  obtain rfl : tag = 0 := by omega
  skip
  by_cases h0 : i < (T.length : Int)
  · exact nxSm_p0 T i X hI0 h0
  · skip
    refine lvSm_0 T i (h := hySm_p1) rfl ?_ (thNil) runSm_p1
    unfold hySm_p1
    exact hc (kRl (isX rfl) (denX rfl) (by first | omega | (simp <;> omega))) <|
     hc (ltF rfl rfl (by omega)) <|
     hnil
theorem lfOkSm_0 {l : LF} {h : LH} (T : List LB) (st : Nat × Int) (hI : InvSm T st) (hl : l.hp = some h) (hs : lfSame l h 26 keepSm (.exit 0) 7 67 69 = true) {th0 : LA} {sg0 : List (Nat × Nat)} (hth0 : ∀ X, ThOk (cx nu one 0 laidE laidE_stab) (DSm T st X) th0) (h0 : startOk l h 26 67 69 th0 sg0 (epSm st) (hpSm st) = true) {thx : LA} (hthx : ThOk (ESm_0 T) (cx nu one 0 laidE laidE_stab) thx) (hx : exitOk l h 26 67 69 thx [] [] = true) : LfOk (cx nu one 0 laidE laidE_stab) bodySm l :=
  lfOkX (E := ESm_0 T) (InvSm T) (muSm T) (DSm T) (fun _ _ => rfl) (fun _ _ => rfl) (fun _ _ => rfl) (fun st X t ht => nuX_keep.trans (rX_keep ((by decide : ∀ t, t ∈ keepSm → t < 1000000) t ht))) rfl rfl rfl hl hs ebSm rfl rfl st hI hth0 h0 hthx hx (roundsSm_0 T)
theorem mkA30 : (loopsOf (Tryd.f30.body.getD .skip)).all (fun b => !(keyEq (Go.AX.keyOf b) 7777777)) = true := by kernel_rfl
theorem mkB30 : Nat.beq (rfsOf (Tryd.f30.body.getD .skip)).length 1 = true := by kernel_rfl
theorem mkC30 : Tryd.f30.body = some (Tryd.f30.body.getD .skip) := by kernel_rfl
noncomputable def fi30 : FI := (tabk.fn.get 30).getD default
theorem fi30_at : tabk.fn.get 30 = some fi30 := by kernel_rfl
theorem fi30_body : fi30.body = some (Tryd.f30.body.getD .skip) := by kernel_rfl
theorem fiB30 : fi30.body.isSome = true := by rw [fi30_body]; rfl
noncomputable def fi6 : FI := (tabk.fn.get 6).getD default
theorem fi6_at : tabk.fn.get 6 = some fi6 := by kernel_rfl
theorem fi6_body : fi6.body = some (Tryd.f6.body.getD .skip) := by kernel_rfl
theorem fiB6 : fi6.body.isSome = true := by rw [fi6_body]; rfl
noncomputable def fi124 : FI := (tabk.fn.get 124).getD default
theorem fi124_at : tabk.fn.get 124 = some fi124 := by kernel_rfl
theorem fi124_body : fi124.body = some (Tryd.f124.body.getD .skip) := by kernel_rfl
theorem fiB124 : fi124.body.isSome = true := by rw [fi124_body]; rfl
noncomputable def fi29 : FI := (tabk.fn.get 29).getD default
theorem fi29_at : tabk.fn.get 29 = some fi29 := by kernel_rfl
theorem fi29_body : fi29.body = some (Tryd.f29.body.getD .skip) := by kernel_rfl
theorem fiB29 : fi29.body.isSome = true := by rw [fi29_body]; rfl
end Go.Proofs.YtacflaaahanhgaaDoor.octetLists
