/- A part of the proof: an interpreter of the model's own code on partly known states, and that what it answers is what the program answers. No condition of its own. -/
import Derived.Test.YtalblkipoopdgaaDoorM1StartBackO
set_option maxRecDepth 100000
set_option linter.unusedVariables false
set_option linter.unusedSimpArgs false
set_option maxHeartbeats 4000000
namespace Go.Proofs.YtalblkipoopdgaaDoor.startBack
open Go Go.AX Go.Proofs Go.Proofs.YtalblkipoopdgaaDoor
variable {nu : Nat → Value} {one : ∀ i, i < 1000000 → (nu i).oneCell' = true} {E' : Cx} {x' : Ex} {e' : LA} {h' : LE}
theorem ix_bd (l : LB) (c : Int) : -1 ≤ idxB l c ∧ idxB l c < (l.length : Int) := by
  unfold idxB
  induction l with
  | nil => simp [Lib.indexByte]
  | cons b l ih =>
    unfold Lib.indexByte
    split
    · simp only [List.length_cons]; omega
    · split
      · simp only [List.length_cons]; omega
      · simp only [List.length_cons]; omega
def msk (M : Nat) (b : UInt8) : Bool := tb8 M (b.toNat : Int)
theorem al_at {M : Nat} {s : LB} {i : Int} (h0 : 0 ≤ i) (h : i < s.length) : (s.drop (Int.toNat i)).all (msk M) = (tb8 M (bt s (Int.toNat (i))) && (s.drop (Int.toNat (i + 1))).all (msk M)) := by
  have e : s.drop i.toNat = u8 (bt s i.toNat) :: s.drop (i.toNat + 1) := by
    rw [List.drop_eq_getElem_cons (by omega), u8_bt, List.getD_eq_getElem?_getD, List.getElem?_eq_getElem (by omega), Option.getD_some]
  rw [e, List.all_cons, msk, u8_toNat (bt_lo _ _) (bt_hi _ _), show (i + 1).toNat = i.toNat + 1 by omega]
theorem al_yes {M : Nat} {s : LB} {i : Int} {A : Bool} (h0 : 0 ≤ i) (h : i < s.length) (hb : tb8 M (bt s (Int.toNat (i))) = true) (hA : (s.drop (Int.toNat i)).all (msk M) = A) : (s.drop (Int.toNat (i + 1))).all (msk M) = A := by
  rw [al_at h0 h, hb, Bool.true_and] at hA; exact hA
theorem al_no {M : Nat} {s : LB} {i : Int} {A : Bool} (h0 : 0 ≤ i) (h : i < s.length) (hb : tb8 M (bt s (Int.toNat (i))) = false) (hA : (s.drop (Int.toNat i)).all (msk M) = A) : A = false := by
  rw [al_at h0 h, hb, Bool.false_and] at hA; exact hA.symm
theorem al_end {M : Nat} {s : LB} {i : Int} {A : Bool} (h : (s.length : Int) ≤ i) (hA : (s.drop (Int.toNat i)).all (msk M) = A) : A = true := by
  rw [List.drop_eq_nil_of_le (by omega)] at hA; exact hA.symm
def spC : LB → LB → List LB
  | cur, [] => [cur]
  | cur, b :: r => if b = 32 then cur :: spC [] r else spC (cur ++ [b]) r
def spl (l : LB) : List LB := spC [] l
theorem spC_ne : ∀ l cur, 1 ≤ (spC cur l).length
  | [], cur => by simp [spC]
  | b :: l, cur => by
    unfold spC; split
    · simp
    · exact spC_ne l _
theorem ix_c {c : Int} {b : UInt8} {l : LB} : idxB (b :: l) c = if b = u8 c then 0 else if idxB l c < 0 then -1 else idxB l c + 1 := by
  have hb := ix_bd l c
  unfold idxB at hb ⊢
  rw [Lib.indexByte]
  by_cases h : b = u8 c
  · rw [if_pos h, if_pos (by simpa using h)]
  · rw [if_neg h, if_neg (by simpa using h)]
    by_cases h2 : Lib.indexByte l (u8 c) < 0
    · rw [if_pos h2, if_pos (by rw [beq_iff_eq]; omega)]
    · rw [if_neg h2, if_neg (by rw [beq_iff_eq]; omega)]
theorem u8_32 : u8 32 = (32 : UInt8) := rfl
theorem spC_no : ∀ l cur, idxB l 32 < 0 → spC cur l = [cur ++ l]
  | [], cur, _ => by simp [spC]
  | b :: l, cur, h => by
    have hb := ix_bd l 32
    rw [ix_c, u8_32] at h
    by_cases e : b = 32
    · rw [if_pos e] at h; omega
    · rw [if_neg e] at h
      have hl : idxB l 32 < 0 := by
        by_cases q : idxB l 32 < 0
        · exact q
        · rw [if_neg q] at h; omega
      rw [spC, if_neg e, spC_no l _ hl]; simp
theorem spC_at : ∀ l cur, 0 ≤ idxB l 32 → spC cur l = (cur ++ l.take (idxB l 32).toNat) :: spl (l.drop (idxB l 32 + 1).toNat)
  | [], cur, h => absurd h (by decide)
  | b :: l, cur, h => by
    have hb := ix_bd l 32
    by_cases e : b = 32
    · have e0 : idxB (b :: l) 32 = 0 := by rw [ix_c, u8_32, if_pos e]
      rw [e0, spC, if_pos e]; simp [spl]
    · rw [ix_c, u8_32, if_neg e] at h ⊢
      by_cases q : idxB l 32 < 0
      · rw [if_pos q] at h; omega
      · rw [if_neg q] at h ⊢
        rw [spC, if_neg e, spC_at l _ (by omega), show (idxB l 32 + 1).toNat = (idxB l 32).toNat + 1 by omega, show (idxB l 32 + 1 + 1).toNat = ((idxB l 32).toNat + 1) + 1 by omega, List.take_succ_cons, List.drop_succ_cons, List.append_assoc]; rfl
theorem cnt_c {b : UInt8} {l : LB} : cntB (b :: l) 32 = if b = 32 then cntB l 32 + 1 else cntB l 32 := by
  unfold cntB Lib.countByte
  rw [u8_32, List.count_cons]
  by_cases e : b = 32
  · rw [if_pos (by simpa using e), if_pos e]; omega
  · rw [if_neg (by simpa using e), if_neg e]; omega
theorem spC_cnt : ∀ l cur, ((spC cur l).length : Int) = cntB l 32 + 1
  | [], cur => rfl
  | b :: l, cur => by
    rw [cnt_c]
    by_cases e : b = 32
    · have := spC_cnt l []
      rw [spC, if_pos e, if_pos e, List.length_cons]; omega
    · have := spC_cnt l (cur ++ [b])
      rw [spC, if_neg e, if_neg e]; omega
theorem spC_le : ∀ l cur, (spC cur l).length ≤ l.length + 1
  | [], cur => by simp [spC]
  | b :: l, cur => by
    unfold spC; split
    · have := spC_le l []; simp only [List.length_cons] at *; omega
    · have := spC_le l (cur ++ [b]); simp only [List.length_cons] at *; omega
theorem spC_len : ∀ l cur q, q ∈ spC cur l → q.length ≤ cur.length + l.length
  | [], cur, q, h => by simp [spC] at h; subst h; simp
  | b :: l, cur, q, h => by
    unfold spC at h; split at h
    · rcases List.mem_cons.1 h with rfl | h
      · omega
      · have := spC_len l [] q h; simp only [List.length_cons, List.length_nil] at *; omega
    · have := spC_len l _ q h; simp only [List.length_cons, List.length_nil, List.length_append] at *; omega
theorem spl_cnt (l : LB) : ((spl l).length : Int) = cntB l 32 + 1 ∧ (spl l).length ≤ l.length + 1 ∧ 1 ≤ (spl l).length := ⟨spC_cnt l [], spC_le l [], spC_ne l []⟩
theorem spl_le (l : LB) (j : Nat) : (nthS (spl l) j).length ≤ l.length := by
  by_cases h : j < (spl l).length
  · have : (nthS (spl l) j).length ≤ ([] : LB).length + l.length := spC_len l [] _ (nthS_mem h)
    simpa using this
  · rw [nthS, List.getD_eq_getElem?_getD, List.getElem?_eq_none (by omega)]; simp
theorem spl_no {l : LB} (h : idxB l 32 < 0) : spl l = [l] := by rw [spl, spC_no l [] h]; rfl
theorem spl_at {l : LB} (h : 0 ≤ idxB l 32) : spl l = l.take (idxB l 32).toNat :: spl (l.drop (idxB l 32 + 1).toNat) := by rw [spl, spC_at l [] h]; rfl
theorem spl_f (l : LB) : (idxB l 32 < 0 → (spl l).length = 1) ∧ (0 ≤ idxB l 32 → (spl l).length = (spl (l.drop (idxB l 32 + 1).toNat)).length + 1 ∧ 1 ≤ (spl (l.drop (idxB l 32 + 1).toNat)).length) ∧ -1 ≤ idxB l 32 ∧ idxB l 32 < (l.length : Int) ∧ 1 ≤ (spl l).length :=
  ⟨fun h => by rw [spl_no h]; rfl, fun h => ⟨by rw [spl_at h, List.length_cons], spC_ne _ _⟩, (ix_bd l 32).1, (ix_bd l 32).2, spC_ne _ _⟩
theorem sp_eq {r : LB} (he : [u8 32] = r) : idxB r 32 = 0 := by subst he; rfl
/-- the row that Split fills -/
def rwE (l : List LB) (i : Int) : List LB := l.take i.toNat ++ List.replicate (l.length - i.toNat) []
theorem rwE_len {l : List LB} {i : Int} (h : i ≤ (l.length : Int)) : (rwE l i).length = l.length := by
  unfold rwE; simp only [List.length_append, List.length_take, List.length_replicate]; omega
theorem rwE_0 {l : List LB} {n : Int} (h : (l.length : Int) = n) : List.replicate (Int.toNat n) [] = rwE l 0 := by
  unfold rwE; rw [show (0 : Int).toNat = 0 from rfl, List.take_zero, List.nil_append, show n.toNat = l.length - 0 by omega]
theorem rwE_set {l : List LB} {i : Int} (h0 : 0 ≤ i) (h : i < (l.length : Int)) : (rwE l i).set i.toNat (nthS l i.toNat) = rwE l (i + 1) := by
  unfold rwE
  obtain ⟨n, rfl⟩ := Int.eq_ofNat_of_zero_le h0
  have hn : n < l.length := by omega
  rw [show ((n : Nat) : Int).toNat = n from rfl, show ((n : Nat) + 1 : Int).toNat = n + 1 by omega]
  rw [List.set_append_right _ _ (by simp only [List.length_take]; omega), show l.length - n = (l.length - (n + 1)) + 1 by omega, List.replicate_succ, show n - (l.take n).length = 0 by simp only [List.length_take]; omega, List.set_cons_zero, List.take_add_one, List.getElem?_eq_getElem hn, List.append_assoc]
  simp [nthS, List.getD_eq_getElem?_getD, List.getElem?_eq_getElem hn]
theorem rwE_all {l : List LB} {i : Int} (h : (l.length : Int) = i) : rwE l i = l := by
  unfold rwE; rw [show i.toNat = l.length by omega, List.take_length, Nat.sub_self]; simp
theorem rwE_last {l : List LB} {i : Int} (h0 : 0 ≤ i) (h : i = (l.length : Int) - 1) : (rwE l i).set i.toNat (nthS l i.toNat) = l := by
  rw [rwE_set h0 (by omega), rwE_all (by omega)]
theorem gs_nth {T : List LB} {x : LB} {s : List LB} {i : Int} (h : T.drop i.toNat = x :: s) : nthS T i.toNat = x := by
  have := congrArg (fun l : List LB => l[0]?) h
  simp only [List.getElem?_drop, List.getElem?_cons_zero, Nat.add_zero] at this
  rw [nthS, List.getD_eq_getElem?_getD, this]; rfl
theorem gs_step {T : List LB} {r : LB} {i : Int} (h0 : 0 ≤ i) (h : T.drop i.toNat = spl r) (hb : 0 ≤ idxB r 32) : T.drop (i + 1).toNat = spl (r.drop (idxB r 32 + 1).toNat) ∧ (rwE T i).set i.toNat (r.take (idxB r 32).toNat) = rwE T (i + 1) := by
  rw [spl_at hb] at h
  have hl : i < (T.length : Int) := by
    have := congrArg List.length h
    simp only [List.length_drop, List.length_cons] at this; omega
  constructor
  · have := congrArg List.tail h
    rw [List.tail_drop, List.tail_cons] at this
    rw [show (i + 1).toNat = i.toNat + 1 by omega]; exact this
  · rw [← gs_nth h]; exact rwE_set h0 hl
theorem gs_end {T : List LB} {r : LB} {i : Int} (h : T.drop i.toNat = spl r) (h1 : (spl r).length = 1) : r = nthS T i.toNat := by
  have e : spl r = [r] := by
    by_cases q : idxB r 32 < 0
    · exact spl_no q
    · have := (spl_f r).2.1 (by omega); omega
  rw [e] at h; exact (gs_nth h).symm
/-- what is wrong with a line: 0 nothing -/
abbrev lV0 : LB := [u8 72, u8 84, u8 84, u8 80, u8 47, u8 49, u8 46, u8 48]
abbrev lV1 : LB := [u8 72, u8 84, u8 84, u8 80, u8 47, u8 49, u8 46, u8 49]
abbrev lH5 : LB := [u8 72, u8 84, u8 84, u8 80, u8 47]
abbrev lOP : LB := [u8 79, u8 80, u8 84, u8 73, u8 79, u8 78, u8 83]
def MTs : Nat := 170141183460469231731687303672934432768
def mthK (s : LB) : Bool := tokS s && decide (s.length ≤ 16)
def verK (s : LB) : Nat := if s = lV0 ∨ s = lV1 then 0 else if s.take 5 = lH5 then 3 else 4
def tgK (m t : LB) : Nat := if ¬ (t = [u8 42] ∧ m = lOP) ∧ ¬ t.take 1 = [u8 47] then 5 else if ¬ t.all (msk MTs) = true then 6 else if 256 < t.length then 7 else 0
def msg (k : Nat) : LB := if k = 1 then [u8 97, u8 32, u8 114, u8 101, u8 113, u8 117, u8 101, u8 115, u8 116, u8 32, u8 108, u8 105, u8 110, u8 101, u8 32, u8 116, u8 104, u8 97, u8 116, u8 32, u8 104, u8 97, u8 115, u8 110, u8 39, u8 116, u8 32, u8 116, u8 104, u8 114, u8 101, u8 101, u8 32, u8 112, u8 97, u8 114, u8 116, u8 115] else if k = 2 then [u8 97, u8 32, u8 109, u8 101, u8 116, u8 104, u8 111, u8 100, u8 32, u8 116, u8 104, u8 97, u8 116, u8 32, u8 105, u8 115, u8 32, u8 110, u8 111, u8 110, u8 101] else if k = 3 then [u8 97, u8 110, u8 111, u8 116, u8 104, u8 101, u8 114, u8 32, u8 118, u8 101, u8 114, u8 115, u8 105, u8 111, u8 110, u8 32, u8 111, u8 102, u8 32, u8 72, u8 84, u8 84, u8 80] else if k = 4 then [u8 97, u8 32, u8 118, u8 101, u8 114, u8 115, u8 105, u8 111, u8 110, u8 32, u8 116, u8 104, u8 97, u8 116, u8 32, u8 105, u8 115, u8 32, u8 110, u8 111, u8 110, u8 101] else if k = 5 then [u8 97, u8 32, u8 116, u8 97, u8 114, u8 103, u8 101, u8 116, u8 32, u8 116, u8 104, u8 97, u8 116, u8 32, u8 100, u8 111, u8 101, u8 115, u8 110, u8 39, u8 116, u8 32, u8 98, u8 101, u8 103, u8 105, u8 110, u8 32, u8 119, u8 105, u8 116, u8 104, u8 32, u8 97, u8 32, u8 115, u8 108, u8 97, u8 115, u8 104] else if k = 6 then [u8 97, u8 32, u8 116, u8 97, u8 114, u8 103, u8 101, u8 116, u8 32, u8 119, u8 105, u8 116, u8 104, u8 32, u8 97, u8 32, u8 98, u8 121, u8 116, u8 101, u8 32, u8 116, u8 104, u8 97, u8 116, u8 32, u8 109, u8 97, u8 121, u8 32, u8 110, u8 111, u8 116, u8 32, u8 98, u8 101] else [u8 97, u8 32, u8 116, u8 97, u8 114, u8 103, u8 101, u8 116, u8 32, u8 116, u8 104, u8 97, u8 116, u8 32, u8 105, u8 115, u8 32, u8 116, u8 111, u8 111, u8 32, u8 108, u8 111, u8 110, u8 103]
def cdK (k : Nat) : Int := if k = 0 then 0 else if k = 3 then 13 else if k = 7 then 12 else 10
def erK (k : Nat) : Value := if k = 0 then .nilIface else .iface 60 (.agg #[.int .i64 (cdK k), St' (msg k)])
def mtN (s : LB) : Nat := if mthK s = true then 0 else 2
def stK (ln : LB) : Nat := if ¬ (spl ln).length = 3 then 1 else if ¬ mthK (nthS (spl ln) 0) = true then 2 else if ¬ verK (nthS (spl ln) 2) = 0 then verK (nthS (spl ln) 2) else tgK (nthS (spl ln) 0) (nthS (spl ln) 1)
def stI (ln : LB) : Int := if nthS (spl ln) 2 = lV1 then 1 else 0
def rqV (m t : LB) (n : Int) : Value := .agg #[St' m, St' t, .int .i64 n, .slice none 0 0, St' []]
def stR (ln : LB) : Value := if stK ln = 0 then rqV (nthS (spl ln) 0) (nthS (spl ln) 1) (stI ln) else rqV [] [] 0
theorem er0 : erK 0 = .nilIface := rfl
theorem cdK_bd (k : Nat) : 0 ≤ cdK k ∧ cdK k ≤ 13 := by unfold cdK; (repeat' split) <;> omega
theorem cdK_pos {k : Nat} (h : ¬ k = 0) : 10 ≤ cdK k := by unfold cdK; rw [if_neg h]; (repeat' split) <;> omega
theorem verK_cases (s : LB) : verK s = 0 ∨ verK s = 3 ∨ verK s = 4 := by unfold verK; (repeat' split) <;> simp
theorem tgK_cases (m t : LB) : tgK m t = 0 ∨ tgK m t = 5 ∨ tgK m t = 6 ∨ tgK m t = 7 := by unfold tgK; (repeat' split) <;> simp
theorem sK1 {ln : LB} (h : ¬ (spl ln).length = 3) : stK ln = 1 := by unfold stK; rw [if_pos h]
theorem sK2 {ln : LB} (h : (spl ln).length = 3) (h2 : ¬ mthK (nthS (spl ln) 0) = true) : stK ln = 2 := by unfold stK; rw [if_neg (fun e => e h), if_pos h2]
theorem sK3 {ln : LB} (h : (spl ln).length = 3) (h2 : mthK (nthS (spl ln) 0) = true) {k : Nat} (h3 : verK (nthS (spl ln) 2) = k) (hk : ¬ k = 0) : stK ln = k := by unfold stK; rw [if_neg (fun e => e h), if_neg (fun e => e h2), if_pos (by rw [h3]; exact hk), h3]
theorem sK4 {ln : LB} (h : (spl ln).length = 3) (h2 : mthK (nthS (spl ln) 0) = true) (h3 : verK (nthS (spl ln) 2) = 0) {k : Nat} (h4 : tgK (nthS (spl ln) 0) (nthS (spl ln) 1) = k) : stK ln = k := by unfold stK; rw [if_neg (fun e => e h), if_neg (fun e => e h2), if_neg (fun e => e h3), h4]
theorem isRq {C : Cx} {x y : AV} {a b : LB} (hx : Is C x (St' a)) (hy : Is C y (St' b)) : Is C (.ag [x, y, .i .i64 0, .nils, .s 0 0]) (rqV a b 0) := fun ρ w h => by
  simp only [Rel, RelL] at h
  obtain ⟨l, rfl, p, t, rfl, h1, p2, t2, rfl, h2, p3, t3, rfl, h3, p4, t4, rfl, h4, p5, t5, rfl, h5, rfl⟩ := h
  rw [hx ρ _ h1, hy ρ _ h2]
  first | (rw [h3, h4, h5.1]; rfl) | (subst h3 h4; rw [h5.1]; rfl)
theorem denRq {C : Cx} {x y z : AV} {a b : LB} {n : Int} (hx : Den C x (St' a)) (hy : Den C y (St' b)) (hz : Den C z (.int .i64 n)) : Den C (.ag [x, y, z, .nils, .s 0 0]) (rqV a b n) := fun ρ => by
  simp only [Rel, RelL]
  exact ⟨_, rfl, _, _, rfl, hx ρ, _, _, rfl, hy ρ, _, _, rfl, hz ρ, _, _, rfl, rfl, _, _, rfl, ⟨rfl, by decide⟩, rfl⟩
theorem denNn {C : Cx} : Den C .ni .nilIface := fun ρ => by simp only [Rel]
theorem denS0' {C : Cx} : Den C (.s 0 0) (St' []) := denS (len := 0) (n := 0) (by decide)
theorem denEr {C : Cx} {a b : AV} {k : Nat} (hk : ¬ k = 0) (ha : Den C a (.int .i64 (cdK k))) (hb : Den C b (St' (msg k))) : Den C (.ifc 60 (.ag [a, b])) (erK k) := fun ρ => by
  unfold erK; rw [if_neg hk]
  simp only [Rel, RelL]
  exact ⟨_, rfl, _, rfl, _, _, rfl, ha ρ, _, _, rfl, hb ρ, rfl⟩
theorem denE0' {C : Cx} {k : Nat} (h : k = 0) : Den C .ni (erK k) := by subst h; exact denNn
theorem denR0 {C : Cx} {x y z : AV} {ln : LB} (h : stK ln = 0) (hx : Den C x (St' (nthS (spl ln) 0))) (hy : Den C y (St' (nthS (spl ln) 1))) (hz : Den C z (.int .i64 (stI ln))) : Den C (.ag [x, y, z, .nils, .s 0 0]) (stR ln) := by
  unfold stR; rw [if_pos h]; exact denRq hx hy hz
theorem denR1 {C : Cx} {ln : LB} (h : ¬ stK ln = 0) : Den C (.ag [.s 0 0, .s 0 0, .i .i64 0, .nils, .s 0 0]) (stR ln) := by
  unfold stR; rw [if_neg h]; exact denRq denS0' denS0' (denZ rfl)
theorem erK_one (k : Nat) : (erK k).oneCell' = true := by unfold erK; split <;> rfl
theorem denEk {C : Cx} {k len n : Nat} {c : Int} (hk : ¬ k = 0) (hc : cdK k = c) (hm : strB len n = msg k) (hn : Nat.blt n (2 ^ (8 * len)) = true) : Den C (.ifc 60 (.ag [.i .i64 c, .s len n])) (erK k) := denEr hk (denZ hc.symm) (hm ▸ denS (by rw [Nat.blt_eq] at hn; exact hn))
theorem mt_ok {s : LB} (h : tokS s = true) (hl : (s.length : Int) ≤ 16) : mtN s = 0 := by unfold mtN mthK; rw [if_pos]; rw [h, decide_eq_true (by omega)]; rfl
theorem mk_y {s : LB} (h : tokS s = true) (hl : (s.length : Int) ≤ 16) : mthK s = true := by unfold mthK; rw [h, decide_eq_true (by omega)]; rfl
theorem mk_t {s : LB} (h : ¬ tokS s = true) : ¬ mthK s = true := by unfold mthK; rw [Bool.and_eq_true]; exact fun e => h e.1
theorem mk_l {s : LB} (h : 16 < (s.length : Int)) : ¬ mthK s = true := by unfold mthK; rw [Bool.and_eq_true, decide_eq_true_eq]; intro e; omega
theorem mt_t {s : LB} (h : ¬ tokS s = true) : mtN s = 2 := by rw [mtN, if_neg (mk_t h)]
theorem mt_l {s : LB} (h : 16 < (s.length : Int)) : mtN s = 2 := by rw [mtN, if_neg (mk_l h)]
theorem vr_0 {s : LB} (h : s = lV0) : verK s = 0 := by rw [verK, if_pos (Or.inl h)]
theorem vr_1 {s : LB} (h : s = lV1) : verK s = 0 := by rw [verK, if_pos (Or.inr h)]
theorem vr_n {s : LB} (h : verK s = 0) : s = lV0 ∨ s = lV1 := by
  unfold verK at h; split at h
  · assumption
  · split at h <;> cases h
theorem vr_o {s : LB} (h : verK s = 0) (h1 : ¬ s = lV1) : s = lV0 := (vr_n h).resolve_right h1
theorem vr_3 {s : LB} (h0 : ¬ s = lV0) (h1 : ¬ s = lV1) (h : (List.take (Int.toNat (5)) s) = lH5) : verK s = 3 := by
  have h' : s.take 5 = lH5 := h
  rw [verK, if_neg (fun e => e.elim h0 h1), if_pos h']
theorem vr_45 {s : LB} (h : ¬ (List.take (Int.toNat (5)) s) = lH5) : verK s = 4 := by
  have h' : ¬ s.take 5 = lH5 := h
  rw [verK, if_neg, if_neg h']
  rintro (rfl | rfl) <;> exact h' rfl
theorem vr_s5 {s : LB} (h : (s.length : Int) < 5) : verK s = 4 := vr_45 (fun e => by
  have := congrArg List.length e
  have h5 : lH5.length = 5 := rfl
  rw [h5, List.length_take] at this
  omega)
theorem vr_s {s : LB} (h0 : ¬ s = lV0) (h1 : ¬ s = lV1) (h : (s.length : Int) < 5) : verK s = 4 := vr_s5 h
theorem vr_4 {s : LB} (h0 : ¬ s = lV0) (h1 : ¬ s = lV1) (h : ¬ (List.take (Int.toNat (5)) s) = lH5) : verK s = 4 := vr_45 h
theorem tg_c {c : Int} (h0 : 0 ≤ c) (h1 : c ≤ 255) : tb8 MTs c = decide (33 ≤ c ∧ c ≤ 126 ∧ c ≠ 35) := by
  obtain ⟨n, rfl⟩ := Int.eq_ofNat_of_zero_le h0
  have h : ∀ m : Fin 256, tb8 MTs (m.val : Int) = decide (33 ≤ (m.val : Int) ∧ (m.val : Int) ≤ 126 ∧ (m.val : Int) ≠ 35) := by decide +kernel
  exact h ⟨n, by omega⟩
theorem tg_y {c : Int} (h0 : 0 ≤ c) (h1 : c ≤ 255) (h : 33 ≤ c ∧ c ≤ 126 ∧ c ≠ 35) : tb8 MTs c = true := by rw [tg_c h0 h1]; exact decide_eq_true h
theorem tg_n {c : Int} (h0 : 0 ≤ c) (h1 : c ≤ 255) (h : ¬ (33 ≤ c ∧ c ≤ 126 ∧ c ≠ 35)) : tb8 MTs c = false := by rw [tg_c h0 h1]; exact decide_eq_false h
theorem star1 {t : LB} (h : t = [u8 42]) : ¬ (List.take (Int.toNat (1)) t) = [u8 47] := by rw [h]; decide
theorem tk_0 {m t : LB} (h : (List.take (Int.toNat (1)) t) = [u8 47]) (ha : t.all (msk MTs) = true) (hl : (t.length : Int) ≤ 256) : tgK m t = 0 := by
  have h' : t.take 1 = [u8 47] := h
  rw [tgK, if_neg (fun e => e.2 h'), if_neg (fun e => e ha), if_neg (by omega)]
theorem tk_0s {m t : LB} (h : t = [u8 42]) (hm : m = lOP) : tgK m t = 0 := by
  rw [tgK, if_neg (fun e => e.1 ⟨h, hm⟩), if_neg (by rw [h]; decide), if_neg (by rw [h]; decide)]
theorem tk_6 {m t : LB} (h : (List.take (Int.toNat (1)) t) = [u8 47]) (ha : ¬ t.all (msk MTs) = true) : tgK m t = 6 := by
  have h' : t.take 1 = [u8 47] := h
  rw [tgK, if_neg (fun e => e.2 h'), if_pos ha]
theorem tk_7 {m t : LB} (h : (List.take (Int.toNat (1)) t) = [u8 47]) (ha : t.all (msk MTs) = true) (hl : 256 < (t.length : Int)) : tgK m t = 7 := by
  have h' : t.take 1 = [u8 47] := h
  rw [tgK, if_neg (fun e => e.2 h'), if_neg (fun e => e ha), if_pos (by omega)]
theorem tk_5 {m t : LB} (hs : ¬ t = [u8 42]) (h : ¬ (List.take (Int.toNat (1)) t) = [u8 47]) : tgK m t = 5 := by
  have h' : ¬ t.take 1 = [u8 47] := h
  rw [tgK, if_pos ⟨fun e => hs e.1, h'⟩]
theorem tk_5m {m t : LB} (hs : t = [u8 42]) (hm : ¬ m = lOP) : tgK m t = 5 := by
  rw [tgK, if_pos ⟨fun e => hm e.2, star1 hs⟩]
theorem tk_5l {m t : LB} (h : (t.length : Int) < 1) : tgK m t = 5 := by
  obtain rfl : t = [] := List.eq_nil_of_length_eq_zero (by omega)
  rw [tgK, if_pos ⟨fun e => absurd e.1 (by simp), by simp⟩]
def tgB (m t : LB) : Bool := decide (tgK m t = 0 ∨ tgK m t = 7)
theorem take1 {t : LB} (h : 0 < (t.length : Int)) : (List.take (Int.toNat (1)) t) = [u8 (bt t 0)] := by
  cases t with
  | nil => simp at h
  | cons a l => rw [u8_bt]; rfl
theorem tgB_y {m t : LB} {k : Nat} (h : tgK m t = k) (hk : k = 0 ∨ k = 7) : tgB m t = true := by unfold tgB; rw [h]; exact decide_eq_true hk
theorem tgB_n {m t : LB} {k : Nat} (h : tgK m t = k) (hk : ¬ (k = 0 ∨ k = 7)) : tgB m t = false := by unfold tgB; rw [h]; exact decide_eq_false hk
theorem tb_s {m t : LB} (h : t = [u8 42]) (hm : m = lOP) : tgB m t = true := tgB_y (tk_0s h hm) (.inl rfl)
theorem tb_ns {m t : LB} (h : t = [u8 42]) (hm : ¬ m = lOP) : tgB m t = false := tgB_n (tk_5m h hm) (by decide)
theorem tb_a {m t : LB} (hs : ¬ t = [u8 42]) (ha : ¬ t.all (msk MTs) = true) : tgB m t = false := by
  by_cases h : (List.take (Int.toNat (1)) t) = [u8 47]
  · exact tgB_n (tk_6 h ha) (by decide)
  · exact tgB_n (tk_5 hs h) (by decide)
theorem tb_y {m t : LB} (hs : ¬ t = [u8 42]) (ha : t.all (msk MTs) = true) (h0 : 0 < (t.length : Int)) (hb : bt t 0 = 47) : tgB m t = true := by
  have h := take1 h0; rw [hb] at h
  by_cases hl : 256 < (t.length : Int)
  · exact tgB_y (tk_7 h ha hl) (.inr rfl)
  · exact tgB_y (tk_0 h ha (by omega)) (.inl rfl)
theorem tb_n {m t : LB} (hs : ¬ t = [u8 42]) (h0 : 0 < (t.length : Int)) (hb : ¬ bt t 0 = 47) : tgB m t = false := tgB_n (tk_5 hs (fun e => by
  have h := take1 h0; rw [h] at e
  injection e with e
  have e' := congrArg (fun b : UInt8 => (b.toNat : Int)) e
  simp only [u8_toNat (bt_lo _ _) (bt_hi _ _)] at e'
  exact hb e')) (by decide)
theorem tb_0 {m t : LB} (h : (t.length : Int) ≤ 0) : tgB m t = false := tgB_n (tk_5l (by omega)) (by decide)
theorem tg_l {m t : LB} : (tgK m t = 0 → (t.length : Int) ≤ 256) ∧ (tgK m t = 7 → 256 < (t.length : Int)) := by
  unfold tgK
  refine ⟨fun h => ?_, fun h => ?_⟩ <;> (repeat' split at h) <;> first | (cases h; done) | omega
theorem tb_7 {m t : LB} (h : tgB m t = true) (hl : 256 < (t.length : Int)) : tgK m t = 7 := by
  have e := of_decide_eq_true h; have := (tg_l (m := m) (t := t)).1; omega
theorem tb_00 {m t : LB} (h : tgB m t = true) (hl : (t.length : Int) ≤ 256) : tgK m t = 0 := by
  have e := of_decide_eq_true h; have := (tg_l (m := m) (t := t)).2; omega
theorem tb_56 {m t : LB} (hb : ¬ tgB m t = true) : tgK m t = 5 ∨ tgK m t = 6 := by
  rcases tgK_cases m t with e | e | e | e
  · exact absurd (tgB_y e (.inl rfl)) hb
  · exact .inl e
  · exact .inr e
  · exact absurd (tgB_y e (.inr rfl)) hb
def pcS (ln : LB) (fr i : Int) : LB := List.take (Int.toNat (i - fr)) (List.drop (Int.toNat fr) ln)
theorem pcS_len {ln : LB} {fr i : Int} (h0 : 0 ≤ fr) (h1 : fr ≤ i) (h2 : i ≤ (ln.length : Int)) : ((pcS ln fr i).length : Int) = i - fr := by
  unfold pcS; rw [List.length_take, List.length_drop]; omega
theorem rs_0 (ln : LB) : [] ++ spC (pcS ln 0 0) (ln.drop (Int.toNat 0)) = spl ln := rfl
theorem drop_bt {l : LB} {i : Int} (h0 : 0 ≤ i) (h : i < (l.length : Int)) : l.drop (Int.toNat i) = u8 (bt l (Int.toNat (i))) :: l.drop (Int.toNat (i + 1)) := by
  rw [List.drop_eq_getElem_cons (by omega), u8_bt, List.getD_eq_getElem?_getD, List.getElem?_eq_getElem (by omega), Option.getD_some, show (i + 1).toNat = i.toNat + 1 by omega]
theorem pcS_snoc {ln : LB} {fr i : Int} (h0 : 0 ≤ fr) (h1 : fr ≤ i) (h2 : i < (ln.length : Int)) : pcS ln fr (i + 1) = pcS ln fr i ++ [u8 (bt ln (Int.toNat (i)))] := by
  unfold pcS
  rw [show (i + 1 - fr).toNat = (i - fr).toNat + 1 by omega, List.take_add_one, List.getElem?_drop, show fr.toNat + (i - fr).toNat = i.toNat by omega, List.getElem?_eq_getElem (by omega), u8_bt, List.getD_eq_getElem?_getD, List.getElem?_eq_getElem (by omega)]
  rfl
theorem rs_n {ln : LB} {fr i : Int} {o : List LB} (h0 : 0 ≤ fr) (h1 : fr ≤ i) (h2 : i < (ln.length : Int)) (hb : ¬ bt ln (Int.toNat (i)) = 32) (h : o ++ spC (pcS ln fr i) (ln.drop (Int.toNat i)) = spl ln) : o ++ spC (pcS ln fr (i + 1)) (ln.drop (Int.toNat (i + 1))) = spl ln := by
  have hne : ¬ u8 (bt ln (Int.toNat (i))) = 32 := fun e => hb (by
    have := congrArg (fun b : UInt8 => (b.toNat : Int)) e
    simp only [u8_toNat (bt_lo _ _) (bt_hi _ _)] at this
    exact this)
  rw [drop_bt (by omega) h2, spC, if_neg hne] at h
  rw [pcS_snoc h0 h1 h2]; exact h
theorem rs_b {ln : LB} {fr i : Int} {o : List LB} (h0 : 0 ≤ fr) (h1 : fr ≤ i) (h2 : i < (ln.length : Int)) (hb : bt ln (Int.toNat (i)) = 32) (h : o ++ spC (pcS ln fr i) (ln.drop (Int.toNat i)) = spl ln) : (o ++ [pcS ln fr i]) ++ spC (pcS ln (i + 1) (i + 1)) (ln.drop (Int.toNat (i + 1))) = spl ln := by
  rw [drop_bt (by omega) h2, spC, if_pos (by rw [hb]; rfl)] at h
  rw [List.append_assoc, show pcS ln (i + 1) (i + 1) = [] by unfold pcS; rw [show (i + 1 - (i + 1)).toNat = 0 by omega, List.take_zero]]; exact h
theorem rs_e {ln : LB} {fr i : Int} {o : List LB} (h0 : 0 ≤ fr) (h1 : fr ≤ i) (h2 : i = (ln.length : Int)) (h : o ++ spC (pcS ln fr i) (ln.drop (Int.toNat i)) = spl ln) : o ++ [pcS ln fr i] = spl ln := by
  rw [List.drop_eq_nil_of_le (by omega)] at h; exact h
def ixG (ln : LB) (i : Int) : Int := if idxB (ln.drop (Int.toNat i)) 63 < 0 then -1 else i + idxB (ln.drop (Int.toNat i)) 63
theorem ixG_y {ln : LB} {i A : Int} (h0 : 0 ≤ i) (h : i < (ln.length : Int)) (hb : bt ln (Int.toNat (i)) = 63) (hA : ixG ln i = A) : i = A := by
  rw [← hA, ixG, drop_bt h0 h, hb, ix_c, if_pos rfl, if_neg (by omega)]; omega
theorem ixG_n {ln : LB} {i A : Int} (h0 : 0 ≤ i) (h : i < (ln.length : Int)) (hb : ¬ bt ln (Int.toNat (i)) = 63) (hA : ixG ln i = A) : ixG ln (i + 1) = A := by
  have hne : ¬ u8 (bt ln (Int.toNat (i))) = u8 63 := fun e => hb (by
    have := congrArg (fun b : UInt8 => (b.toNat : Int)) e
    simp only [u8_toNat (bt_lo _ _) (bt_hi _ _)] at this
    exact this)
  rw [← hA]
  have hb2 := ix_bd (ln.drop (Int.toNat (i + 1))) 63
  unfold ixG
  rw [drop_bt h0 h, ix_c, if_neg hne]
  by_cases h2 : idxB (ln.drop (Int.toNat (i + 1))) 63 < 0
  · rw [if_pos h2, if_pos h2, if_pos (by omega)]
  · rw [if_neg h2, if_neg h2, if_neg (by omega)]; omega
theorem ixG_0 (ln : LB) : ixG ln 0 = idxB ln 63 := by
  have := ix_bd ln 63
  unfold ixG
  rw [show (0 : Int).toNat = 0 from rfl, List.drop_zero]
  split <;> omega
theorem ixG_e {ln : LB} {i A : Int} (h : (ln.length : Int) ≤ i) (hA : ixG ln i = A) : A = -1 := by
  rw [← hA, ixG, List.drop_eq_nil_of_le (by omega), if_pos (by decide)]
def qsA (t : LB) : LB := if idxB t 63 < 0 then t else List.take (Int.toNat (idxB t 63)) t
def qsB (t : LB) : LB := if idxB t 63 < 0 then [] else List.drop (Int.toNat (idxB t 63 + 1)) t
theorem qs_n {t : LB} (h : idxB t 63 < 0) : (.tuple #[St' (qsA t), St' (qsB t)] : Value) = .tuple #[St' t, St' []] := by rw [qsA, qsB, if_pos h, if_pos h]
theorem qs_y {t : LB} (h : 0 ≤ idxB t 63) : (.tuple #[St' (qsA t), St' (qsB t)] : Value) = .tuple #[St' (List.take (Int.toNat (idxB t 63)) t), St' (List.drop (Int.toNat (idxB t 63 + 1)) t)] := by rw [qsA, qsB, if_neg (by omega), if_neg (by omega)]
theorem qs_1 {t : LB} (h : [u8 63] = t) : (.tuple #[St' (qsA t), St' (qsB t)] : Value) = .tuple #[St' (List.take (Int.toNat (0)) t), St' (List.drop (Int.toNat (1)) t)] := by
  subst h; rw [qs_y (by decide)]; rfl
theorem qs_len (t : LB) : (qsA t).length ≤ t.length ∧ (qsB t).length ≤ t.length := by
  unfold qsA qsB; constructor <;> split <;> simp <;> omega
theorem stI_bd (ln : LB) : 0 ≤ stI ln ∧ stI ln ≤ 1 := by unfold stI; split <;> omega
theorem cd0 {ln : LB} (h : stK ln = 0) : cdK (stK ln) = 0 := by rw [h]; rfl
theorem msg_len (k : Nat) : (msg k).length ≤ 60 := by unfold msg; (repeat' split) <;> simp
def jnS : List LB → LB
  | [] => []
  | [a] => a
  | a :: b :: l => a ++ 32 :: jnS (b :: l)
theorem jnS_cons {a : LB} {l : List LB} (h : 1 ≤ l.length) : jnS (a :: l) = a ++ 32 :: jnS l := by
  cases l with
  | nil => simp at h
  | cons b l => rfl
theorem jn_spC : ∀ l cur, jnS (spC cur l) = cur ++ l
  | [], cur => by simp [spC, jnS]
  | b :: l, cur => by
    rw [spC]
    by_cases e : b = 32
    · rw [if_pos e, jnS_cons (spC_ne _ _), jn_spC l [], e]; rfl
    · rw [if_neg e, jn_spC l _]; simp
theorem spl_join {ln : LB} (h : (spl ln).length = 3) : nthS (spl ln) 0 ++ ([u8 32] ++ (nthS (spl ln) 1 ++ ([u8 32] ++ nthS (spl ln) 2))) = ln := by
  have hj := jn_spC ln []
  change jnS (spl ln) = ln at hj
  generalize spl ln = T at h hj ⊢
  obtain ⟨a, b, c, rfl⟩ : ∃ a b c, T = [a, b, c] := by
    rcases T with _ | ⟨a, _ | ⟨b, _ | ⟨c, _ | ⟨d, l⟩⟩⟩⟩ <;> simp at h
    exact ⟨a, b, c, rfl⟩
  rw [← hj]; rfl
theorem stK_3 {ln : LB} (h : stK ln = 0) : (spl ln).length = 3 := by
  unfold stK at h
  by_cases e : (spl ln).length = 3
  · exact e
  · rw [if_pos e] at h; cases h
theorem drop_u8 {t : LB} {c : Int} : ∀ l : LB, 0 ≤ idxB l c → l.take (idxB l c).toNat ++ (u8 c :: l.drop (idxB l c + 1).toNat) = l
  | [], h => absurd h (by unfold idxB; rw [Lib.indexByte]; decide)
  | b :: l, h => by
    have hb := ix_bd l c
    by_cases e : b = u8 c
    · have e0 : idxB (b :: l) c = 0 := by rw [ix_c, if_pos e]
      rw [e0, e]; rfl
    · rw [ix_c, if_neg e] at h ⊢
      by_cases q : idxB l c < 0
      · rw [if_pos q] at h; omega
      · rw [if_neg q, show (idxB l c + 1).toNat = (idxB l c).toNat + 1 by omega, show (idxB l c + 1 + 1).toNat = (idxB l c + 1).toNat + 1 by omega, List.take_succ_cons, List.drop_succ_cons, List.cons_append, drop_u8 (t := t) l (by omega)]
theorem qs_yA {t : LB} (h : 0 ≤ idxB t 63) : qsA t = List.take (Int.toNat (idxB t 63)) t ∧ qsB t = List.drop (Int.toNat (idxB t 63 + 1)) t := by rw [qsA, qsB, if_neg (by omega), if_neg (by omega)]; exact ⟨rfl, rfl⟩
theorem qs_nA {t : LB} (h : idxB t 63 < 0) : qsA t = t ∧ qsB t = [] := by rw [qsA, qsB, if_pos h, if_pos h]; exact ⟨rfl, rfl⟩
theorem stK_v {ln : LB} (h : stK ln = 0) : verK (nthS (spl ln) 2) = 0 := by
  by_cases e : verK (nthS (spl ln) 2) = 0
  · exact e
  · unfold stK at h
    rw [if_neg (fun q => q (stK_3 h))] at h
    by_cases e2 : mthK (nthS (spl ln) 0) = true
    · rw [if_neg (fun q => q e2), if_pos e] at h; exact absurd h e
    · rw [if_pos e2] at h; cases h
end Go.Proofs.YtalblkipoopdgaaDoor.startBack
