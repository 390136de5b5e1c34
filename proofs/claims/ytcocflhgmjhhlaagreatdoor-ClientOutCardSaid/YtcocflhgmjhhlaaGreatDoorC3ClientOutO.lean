/- A part of the proof: an interpreter of the model's own code on partly known states, and that what it answers is what the program answers. No condition of its own. -/
import Derived.Test.YtcocflhgmjhhlaaGreatDoorSeatC3
import Derived.Test.YtcocflhgmjhhlaaGreatDoorHXpart4
set_option maxRecDepth 100000
set_option linter.unusedVariables false
set_option linter.unusedSimpArgs false
namespace Go.Proofs.YtcocflhgmjhhlaaGreatDoor.clientOut
open Go Go.AX Go.Proofs Go.Proofs.YtcocflhgmjhhlaaGreatDoor
/-- the variables that the runs read are laid -/
def laidE (w : World) : Prop := True
theorem laidE_stab : ∀ w w' : World, (∀ k, k < 0 → w'.heap[k]? = w.heap[k]?) → laidE w → laidE w' := fun w w' h _ => trivial
theorem laidE_size {w : World} (h : laidE w) : 0 ≤ w.heap.size := by
  exact Nat.zero_le _
noncomputable def H0 : T Ent := .leaf
theorem runP {nu : Nat → Value} {one : ∀ i, i < 1000000 → (nu i).oneCell' = true} {tb : Tab} (h : AllOk (cx nu one 0 laidE laidE_stab) tb) (hng : tb.ng = 4) {f g : Nat} {fi : FI} (hfi : tb.fn.get g = some fi) (hb : fi.body.isSome = true) {l : List AV} {args : List Value}
    (hr : okB (call tb f g l ⟨H0 , 4, 0, 0⟩) = true) (hl : RelL (cx nu one 0 laidE laidE_stab) (fun _ => none) l args) (w : World) (hw : laidE w) :
    Calls Tryz.prog g ⟨args⟩ w fun e w' => e = .returned (.bool true) ∧ Go.AX.Below (Go.AX.Fz.lt w.heap.size) w w' := by
  obtain ⟨S, hS⟩ := okB_inv hr
  refine (run_okG h (H := H0 ) hfi hb (by rw [hng]; exact hS) hl w hw (laidE_size hw) fun v k hv => ?_).mono fun e' w' he => ?_
  · unfold H0 at hv
    simp [T.get_leaf] at hv
  · obtain ⟨x, ρ, rfl, hx, hb⟩ := he
    simp only [Rel] at hx
    exact ⟨by rw [hx], hb⟩
theorem runS {nu : Nat → Value} {one : ∀ i, i < 1000000 → (nu i).oneCell' = true} {tb : Tab} (h : AllOk (cx nu one 0 laidE laidE_stab) tb) (hng : tb.ng = 4) {f g : Nat} {fi : FI} (hfi : tb.fn.get g = some fi) (hb : fi.body.isSome = true) {l : List AV} {args : List Value} {len n : Nat}
    (hr : okS (call tb f g l ⟨H0 , 4, 0, 0⟩) len n = true) (hl : RelL (cx nu one 0 laidE laidE_stab) (fun _ => none) l args) (w : World) (hw : laidE w) :
    Calls Tryz.prog g ⟨args⟩ w fun e w' => e = .returned (St' (strB len n)) ∧ Go.AX.Below (Go.AX.Fz.lt w.heap.size) w w' := by
  obtain ⟨S, hS⟩ := okS_inv hr
  refine (run_okG h (H := H0 ) hfi hb (by rw [hng]; exact hS) hl w hw (laidE_size hw) fun v k hv => ?_).mono fun e' w' he => ?_
  · unfold H0 at hv
    simp [T.get_leaf] at hv
  · obtain ⟨x, ρ, rfl, hx, hb⟩ := he
    simp only [Rel] at hx
    exact ⟨by rw [hx.1], hb⟩
theorem runA {nu : Nat → Value} {one : ∀ i, i < 1000000 → (nu i).oneCell' = true} {tb : Tab} (h : AllOk (cx nu one 0 laidE laidE_stab) tb) (hng : tb.ng = 4) {f g : Nat} {fi : FI} (hfi : tb.fn.get g = some fi) (hb : fi.body.isSome = true) {l : List AV} {args : List Value} {ra : AV} (hnr : noR 8 ra = true)
    (hr : okA (call tb f g l ⟨H0 , 4, 0, 0⟩) ra = true) (hl : RelL (cx nu one 0 laidE laidE_stab) (fun _ => none) l args) (w : World) (hw : laidE w) :
    Calls Tryz.prog g ⟨args⟩ w fun e w' => ∃ x, e = .returned x ∧ Rel (cx nu one 0 laidE laidE_stab) (fun _ => none) ra x ∧ Go.AX.Below (Go.AX.Fz.lt w.heap.size) w w' := by
  obtain ⟨S, hS⟩ := okA_inv hr
  refine (run_okG h (H := H0 ) hfi hb (by rw [hng]; exact hS) hl w hw (laidE_size hw) fun v k hv => ?_).mono fun e' w' he => ?_
  · unfold H0 at hv
    simp [T.get_leaf] at hv
  · obtain ⟨x, ρ, rfl, hx, hb⟩ := he
    exact ⟨x, rfl, noR_rel 8 _ hnr _ hx, hb⟩
theorem runPR {nu : Nat → Value} {one : ∀ i, i < 1000000 → (nu i).oneCell' = true} {tb : Tab} (h : AllOk (cx nu one 0 laidE laidE_stab) tb) (hng : tb.ng = 4) {f g : Nat} {fi : FI} (hfi : tb.fn.get g = some fi) (hb : fi.body.isSome = true) {l : List AV} {args : List Value} (rs0 : List Ent) (rs : List R)
    (hr : okB (call tb f g l ⟨addR 4 rs0 (H0 ), 4 + rs0.length, 0, 0⟩) = true) (hl : RelL (cx nu one 0 laidE laidE_stab) (rhoA 4 rs) l args) (w : World) (hw : laidE w) (hlen : rs0.length = rs.length) (hbd : 4 + rs0.length ≤ 16777213) (hA : ∀ (j : Nat) (k : Ent) (r : R), rs0[j]? = some k → rs[j]? = some r → ArgAt (cx nu one 0 laidE laidE_stab) w (H0 ) k r) (hnd : ∀ (i j : Nat) (r q : R), rs[i]? = some r → rs[j]? = some q → r.blk = q.blk → i = j) :
    Calls Tryz.prog g ⟨args⟩ w fun e w' => e = .returned (.bool true) ∧ Go.AX.Below (Go.AX.Fz.lt w.heap.size) w w' := by
  obtain ⟨S, hS⟩ := okB_inv hr
  refine (run_okGA h (H := H0 ) hfi hb rs0 rs (by rw [hng]; exact hS) (by rw [hng]; exact hl) w hw (laidE_size hw) hlen (by rw [hng]; exact hbd) (hA ) hnd fun v k hv => ?_).mono fun e' w' he => ?_
  · unfold H0 at hv
    simp [T.get_leaf] at hv
  · obtain ⟨x, ρ, rfl, hx, hb⟩ := he
    simp only [Rel] at hx
    exact ⟨by rw [hx], hb⟩
noncomputable def fk : FI := ⟨Tryz.f23.body, Tryz.f23.ntmps, Tryz.f23.results.toList, 0, none, []⟩
theorem fk_at : tab.fn.get 23 = some fk := by kernel_rfl
theorem fk_body : fk.body.isSome = true := by kernel_rfl
theorem kk : okB (call tab 6000 23 [] ⟨H0 , 4, 0, 0⟩) = true := by kernel_rfl
noncomputable def tabk : Tab := addSum tab 23 fk (.b true)
section
variable (nu : Nat → Value) (one : ∀ i, i < 1000000 → (nu i).oneCell' = true)
theorem sumk : SumOk (cx nu one 0 laidE laidE_stab) 23 (.b true) := fun w hi hs => by
  refine (runP (tabOk nu one 0 laidE laidE_stab) rfl fk_at fk_body kk (args := []) (by simp only [RelL]) w hi).mono fun e w' he => ?_
  exact ⟨.bool true, he.1, by simp only [Rel], he.2⟩
theorem tabkOk : AllOk (cx nu one 0 laidE laidE_stab) tabk := (tabOk nu one 0 laidE laidE_stab).sum (by omega) fk_at fk_body (sumk nu one)
end
theorem tu3 : Tryz.prog.underlying 3 = some (.int .i64) := by kernel_rfl
noncomputable def tbl (h : LK) : Tab := { tabk with hyp := h }
theorem fiE : ∃ fi, tabk.fn.get 6 = some fi ∧ fi.body.isSome = true := ⟨_, rfl, by kernel_rfl⟩
abbrev CwR (g : Nat) (args : Array Value) (w : World) (v : Value) : Prop := Calls Tryz.prog g args w fun e w' => e = .returned v ∧ Go.AX.Below (Go.AX.Fz.lt w.heap.size) w w'
theorem runC {nu : Nat → Value} {one : ∀ i, i < 1000000 → (nu i).oneCell' = true} {tb : Tab} {ra : AV} {v : Value} (hnr : noR 8 ra = true) (h : AllOk (cx nu one 0 laidE laidE_stab) tb) (hng : tb.ng = 4) {f g : Nat} {fi : FI} (hfi : tb.fn.get g = some fi) (hb : fi.body.isSome = true) {l : List AV} {args : List Value}
    (hr : okA (call tb f g l ⟨H0 , 4, 0, 0⟩) ra = true) (hl : RelL (cx nu one 0 laidE laidE_stab) (fun _ => none) l args) (w : World) (hw : laidE w) (hv : ∀ x, Rel (cx nu one 0 laidE laidE_stab) (fun _ => none) ra x → x = v) : CwR g ⟨args⟩ w v :=
  (runA h hng hfi hb hnr hr hl w hw).mono fun e w' he => by
    obtain ⟨x, rfl, hx, hb2⟩ := he
    exact ⟨by rw [hv x hx], hb2⟩
def tlN (n m : Int) : List Int → Int
  | [] => n
  | k :: r => if n + k ≤ m then tlN (n + k) m r else n
def tlB (n m : Int) : List Int → Bool
  | [] => true
  | k :: r => if n + k ≤ m then tlB (n + k) m r else false
theorem tl_rng : ∀ (l : List Int) (n m : Int), (∀ k, k ∈ l → 0 ≤ k ∧ k ≤ 255) → 0 ≤ n → n ≤ m → 0 ≤ tlN n m l ∧ tlN n m l ≤ m
  | [], n, m, _, h0, h1 => ⟨h0, h1⟩
  | k :: l, n, m, h, h0, h1 => by
    have hk := h k (List.mem_cons_self ..)
    rw [tlN]; split
    · exact tl_rng l _ m (fun x hx => h x (List.mem_cons_of_mem _ hx)) (by omega) (by assumption)
    · exact ⟨h0, h1⟩
theorem dropI {l : List Int} {i : Int} (h0 : 0 ≤ i) (h1 : i < (l.length : Int)) : l.drop i.toNat = nthI l i.toNat :: l.drop (i + 1).toNat := by
  have hi : i.toNat < l.length := by omega
  have e : (i + 1).toNat = i.toNat + 1 := by omega
  rw [e, List.drop_eq_getElem_cons hi, nthI, List.getD_eq_getElem?_getD, List.getElem?_eq_getElem hi]; rfl
section
variable {z : List Int} {i n n' m N : Int} {B : Bool}
theorem tl_a (h0 : 0 ≤ i) (h1 : i < (z.length : Int)) (hn : n' = n + nthI z i.toNat) (hm : n' ≤ m) (h : tlN n m (z.drop i.toNat) = N) : tlN n' m (z.drop (i + 1).toNat) = N := by
  subst hn; rw [dropI h0 h1, tlN, if_pos hm] at h; exact h
theorem tb_a (h0 : 0 ≤ i) (h1 : i < (z.length : Int)) (hn : n' = n + nthI z i.toNat) (hm : n' ≤ m) (h : tlB n m (z.drop i.toNat) = B) : tlB n' m (z.drop (i + 1).toNat) = B := by
  subst hn; rw [dropI h0 h1, tlB, if_pos hm] at h; exact h
theorem tl_c (h0 : 0 ≤ i) (h1 : i < (z.length : Int)) (hm : ¬ n + nthI z i.toNat ≤ m) (h : tlN n m (z.drop i.toNat) = N) : n = N := by
  rw [dropI h0 h1, tlN, if_neg hm] at h; exact h
theorem tb_c (h0 : 0 ≤ i) (h1 : i < (z.length : Int)) (hm : ¬ n + nthI z i.toNat ≤ m) (h : tlB n m (z.drop i.toNat) = B) : B = false := by
  rw [dropI h0 h1, tlB, if_neg hm] at h; exact h.symm
theorem tl_x (h0 : 0 ≤ i) (h1 : ¬ i < (z.length : Int)) (h : tlN n m (z.drop i.toNat) = N) : n = N := by
  rw [List.drop_eq_nil_of_le (by omega)] at h; exact h
theorem tb_x (h0 : 0 ≤ i) (h1 : ¬ i < (z.length : Int)) (h : tlB n m (z.drop i.toNat) = B) : B = true := by
  rw [List.drop_eq_nil_of_le (by omega)] at h; exact h.symm
theorem rep_add {a b c : Int} (h0 : 0 ≤ a) (h1 : 0 ≤ b) (h : c = a + b) : List.replicate a.toNat (0 : UInt8) ++ List.replicate b.toNat 0 = List.replicate c.toNat 0 := by
  rw [List.replicate_append_replicate]; congr 1; omega
theorem rep_to {a c : Int} (h : a = c) : List.replicate a.toNat (0 : UInt8) = List.replicate c.toNat 0 := by rw [h]
end
variable {nu : Nat → Value} {one : ∀ i, i < 1000000 → (nu i).oneCell' = true} {E' : Cx} {x' : Ex} {e' : LA} {h' : LE}
noncomputable def bodyOc : Code := loopNo (Tryz.f6.body.getD .skip) 0
theorem keyOc : oneKey (loopsOf (Tryz.f6.body.getD .skip)) 9 0 0 = true := by kernel_rfl
def keepOc : List Nat := []
def epOc_0 : LA := [(0, .sr 4), (5, .x 2), (6, .p 6 0), (7, .x 1), (8, .b true), (9, .x 0)]
def hpOc_0 : LE := [(4, .r 2000000 5 1 true), (6, .b ⟨112, .l [.i .i64 (.ofNat 1000), .i .i64 (.ofNat 100), .x 2, .i .i64 (.ofNat 0), .p 5 0, .b false, .nils], 0, 0, 0, false, false⟩)]
def nuOc_0 (z : List Int) (m N : Int) (B : Bool) (i n : Int) : List Value := [.int .i64 (i), .int .i64 (n), .int .i64 (m), .int .i64 ((z.length : Int)), .int .i64 (n), .int .i64 (i + 1), .int .i64 ((z.length : Int)), .int .u8 (nthI z (Int.toNat (i))), .int .i64 ((nthI z (Int.toNat (i)))), St' (List.replicate (Int.toNat ((nthI z (Int.toNat (i))))) 0), .int .i64 ((nthI z (Int.toNat (i)))), .int .i64 ((nthI z (Int.toNat (i)))), .int .u8 (bt (List.replicate (Int.toNat ((nthI z (Int.toNat (i))))) 0) 0), .int .i64 (n + (nthI z (Int.toNat (i)))), .int .i64 (i + 1), .int .i64 ((z.length : Int)), .int .u8 (nthI z (Int.toNat (i))), .int .i64 ((nthI z (Int.toNat (i)))), St' (List.replicate (Int.toNat ((nthI z (Int.toNat (i))))) 0), .int .i64 ((nthI z (Int.toNat (i)))), .int .i64 ((nthI z (Int.toNat (i)))), .int .i64 (n + (nthI z (Int.toNat (i)))), .int .i64 (i + 1), .int .i64 ((z.length : Int))]
def roOc_0 (z : List Int) (m N : Int) (B : Bool) (i n : Int) : List Value := [rwI .u8 z]
def epOc_1 : LA := [(0, .sr 4), (5, .x 2), (6, .p 6 0), (7, .x 1), (8, .b true), (9, .x 0)]
def hpOc_1 : LE := [(4, .r 2000000 5 1 true), (6, .b ⟨112, .l [.i .i64 (.ofNat 1000), .i .i64 (.ofNat 100), .x 2, .i .i64 (.ofNat 0), .p 5 0, .b false, .sy 7], 0, 0, 0, false, false⟩), (7, .t 3 5)]
def nuOc_1 (z : List Int) (m N : Int) (B : Bool) (i n : Int) : List Value := [.int .i64 (i), .int .i64 (n), .int .i64 (m), St' (List.replicate (Int.toNat (n)) 0), .int .i64 ((z.length : Int)), .int .i64 (n), .int .i64 (n), St' (List.replicate (Int.toNat (n)) 0), .int .i64 (n), .int .i64 (n), .int .i64 (i + 1), .int .i64 ((z.length : Int)), .int .u8 (nthI z (Int.toNat (i))), .int .i64 ((nthI z (Int.toNat (i)))), St' (List.replicate (Int.toNat ((nthI z (Int.toNat (i))))) 0), .int .i64 (n), .int .i64 ((nthI z (Int.toNat (i)))), .int .i64 (n + (nthI z (Int.toNat (i)))), St' ((List.replicate (Int.toNat (n)) 0) ++ (List.replicate (Int.toNat ((nthI z (Int.toNat (i))))) 0)), .int .i64 (n + (nthI z (Int.toNat (i)))), .int .i64 (n + (nthI z (Int.toNat (i)))), .int .i64 (i + 1), .int .i64 ((z.length : Int)), .int .u8 (nthI z (Int.toNat (i))), .int .i64 ((nthI z (Int.toNat (i)))), St' (List.replicate (Int.toNat ((nthI z (Int.toNat (i))))) 0), .int .i64 (n), .int .i64 ((nthI z (Int.toNat (i)))), .int .i64 (n + (nthI z (Int.toNat (i)))), .int .i64 (n + (nthI z (Int.toNat (i)))), .int .i64 (i + 1), .int .i64 ((z.length : Int))]
def roOc_1 (z : List Int) (m N : Int) (B : Bool) (i n : Int) : List Value := [rwI .u8 z]
def epOc_2 : LA := [(0, .sr 4), (5, .x 2), (6, .p 6 0), (7, .x 1), (8, .b false), (9, .x 0)]
def hpOc_2 : LE := [(4, .r 2000000 5 1 true), (6, .b ⟨112, .l [.i .i64 (.ofNat 1000), .i .i64 (.ofNat 100), .x 2, .i .i64 (.ofNat 2), .p 5 0, .b false, .nils], 0, 0, 0, false, false⟩)]
def nuOc_2 (z : List Int) (m N : Int) (B : Bool) (i n : Int) : List Value := [.int .i64 (i), .int .i64 (n), .int .i64 (m), .int .i64 ((z.length : Int)), .int .i64 ((z.length : Int))]
def roOc_2 (z : List Int) (m N : Int) (B : Bool) (i n : Int) : List Value := [rwI .u8 z]
def epOc_3 : LA := [(0, .sr 4), (5, .x 2), (6, .p 6 0), (7, .x 1), (8, .b false), (9, .x 0)]
def hpOc_3 : LE := [(4, .r 2000000 5 1 true), (6, .b ⟨112, .l [.i .i64 (.ofNat 1000), .i .i64 (.ofNat 100), .x 2, .i .i64 (.ofNat 2), .p 5 0, .b false, .sy 7], 0, 0, 0, false, false⟩), (7, .t 3 5)]
def nuOc_3 (z : List Int) (m N : Int) (B : Bool) (i n : Int) : List Value := [.int .i64 (i), .int .i64 (n), .int .i64 (m), St' (List.replicate (Int.toNat (n)) 0), .int .i64 ((z.length : Int)), .int .i64 ((z.length : Int))]
def roOc_3 (z : List Int) (m N : Int) (B : Bool) (i n : Int) : List Value := [rwI .u8 z]
def epOc (st : Nat × Int × Int) : LA := if st.1 = 0 then epOc_0 else if st.1 = 1 then epOc_1 else if st.1 = 2 then epOc_2 else epOc_3
def hpOc (st : Nat × Int × Int) : LE := if st.1 = 0 then hpOc_0 else if st.1 = 1 then hpOc_1 else if st.1 = 2 then hpOc_2 else hpOc_3
def nuOc (z : List Int) (m N : Int) (B : Bool) (st : Nat × Int × Int) : List Value := if st.1 = 0 then nuOc_0 z m N B (st.2.1) (st.2.2) else if st.1 = 1 then nuOc_1 z m N B (st.2.1) (st.2.2) else if st.1 = 2 then nuOc_2 z m N B (st.2.1) (st.2.2) else nuOc_3 z m N B (st.2.1) (st.2.2)
def roOc (z : List Int) (m N : Int) (B : Bool) (st : Nat × Int × Int) : List Value := if st.1 = 0 then roOc_0 z m N B (st.2.1) (st.2.2) else if st.1 = 1 then roOc_1 z m N B (st.2.1) (st.2.2) else if st.1 = 2 then roOc_2 z m N B (st.2.1) (st.2.2) else roOc_3 z m N B (st.2.1) (st.2.2)
theorem onOc (z : List Int) (m N : Int) (B : Bool) (st : Nat × Int × Int) : ∀ j, (nuL (nuOc z m N B st) j).oneCell' = true := by
  intro j
  unfold nuOc
  split
  · exact nuL_one (l := nuOc_0 z m N B (st.2.1) (st.2.2)) rfl j
  split
  · exact nuL_one (l := nuOc_1 z m N B (st.2.1) (st.2.2)) rfl j
  split
  · exact nuL_one (l := nuOc_2 z m N B (st.2.1) (st.2.2)) rfl j
  exact nuL_one (l := nuOc_3 z m N B (st.2.1) (st.2.2)) rfl j
theorem ebOc (st : Nat × Int × Int) : (lfB (epOc st) && lfC keepOc) = true := by
  unfold epOc
  split
  · rfl
  split
  · rfl
  split
  · rfl
  rfl
noncomputable def DOc (z : List Int) (m N : Int) (B : Bool) (st : Nat × Int × Int) (X : Nat → Value) : Cx := cx (nuX (nuOc z m N B st) (rX (roOc z m N B st) X)) (nuX_one (onOc z m N B st)) 0 laidE laidE_stab
def InvOc (z : List Int) (m N : Int) (B : Bool) (st : Nat × Int × Int) : Prop := (0 ≤ (st.2.1)) ∧ ((st.2.1) ≤ (z.length : Int)) ∧ (z.length ≤ 30) ∧ (∀ q, q ∈ z → 0 ≤ q ∧ q ≤ 255) ∧ (0 ≤ m) ∧ (m ≤ 999) ∧ (0 ≤ (st.2.2)) ∧ ((st.2.2) ≤ m) ∧ ((st.1) ≤ 1 → tlN (st.2.2) m (z.drop (Int.toNat (st.2.1))) = N) ∧ ((st.1) ≤ 1 → tlB (st.2.2) m (z.drop (Int.toNat (st.2.1))) = B) ∧ (2 ≤ (st.1) → (st.2.2) = N) ∧ (2 ≤ (st.1) → B = false) ∧ ((st.1) = 0 ∨ (st.1) = 2 → (st.2.2) = 0) ∧ ((st.1) = 1 ∨ (st.1) = 3 → 1 ≤ (st.2.2)) ∧ ((st.1) < 4)
abbrev CjOc (z : List Int) (m N : Int) (B : Bool) (tag : Nat) (i n : Int) : Prop := (0 ≤ i) ∧ (i ≤ (z.length : Int)) ∧ (z.length ≤ 30) ∧ (∀ q, q ∈ z → 0 ≤ q ∧ q ≤ 255) ∧ (0 ≤ m) ∧ (m ≤ 999) ∧ (0 ≤ n) ∧ (n ≤ m) ∧ (tag ≤ 1 → tlN n m (z.drop (Int.toNat i)) = N) ∧ (tag ≤ 1 → tlB n m (z.drop (Int.toNat i)) = B) ∧ (2 ≤ tag → n = N) ∧ (2 ≤ tag → B = false) ∧ (tag = 0 ∨ tag = 2 → n = 0) ∧ (tag = 1 ∨ tag = 3 → 1 ≤ n) ∧ (tag < 4)
theorem mkIOc (z : List Int) (m N : Int) (B : Bool) (tag : Nat) (i n : Int) (h : CjOc z m N B tag i n) : InvOc z m N B (tag, i, n) := h
theorem unIOc (z : List Int) (m N : Int) (B : Bool) (tag : Nat) (i n : Int) (h : InvOc z m N B (tag, i, n)) : (0 ≤ i) ∧ (i ≤ (z.length : Int)) ∧ (z.length ≤ 30) ∧ (∀ q, q ∈ z → 0 ≤ q ∧ q ≤ 255) ∧ (0 ≤ m) ∧ (m ≤ 999) ∧ (0 ≤ n) ∧ (n ≤ m) ∧ (tag ≤ 1 → tlN n m (z.drop (Int.toNat i)) = N) ∧ (tag ≤ 1 → tlB n m (z.drop (Int.toNat i)) = B) ∧ (2 ≤ tag → n = N) ∧ (2 ≤ tag → B = false) ∧ (tag = 0 ∨ tag = 2 → n = 0) ∧ (tag = 1 ∨ tag = 3 → 1 ≤ n) ∧ (tag < 4) := h
def muOc (z : List Int) (m N : Int) (B : Bool) (st : Nat × Int × Int) : Nat := (z.length - (st.2.1).toNat)
abbrev RHOc (z : List Int) (m N : Int) (B : Bool) (E' : Cx) (ex' : Ex) (epx' : LA) (hpx' : LE) (st : Nat × Int × Int) (X : Nat → Value) : Prop := RoundH E' bodyOc keepOc 96 ex' 4 7 8 18 epOc hpOc epx' hpx' (InvOc z m N B) (muOc z m N B) (DOc z m N B) st X
noncomputable abbrev RNOc_0 (h : LK) (x : Ex) (th : LA) (sg : List (Nat × Nat)) (m : Nat) (ep : LA) (hp : LE) : Bool := okRdH (code (tbl h) 3000 [] bodyOc (envOf (headOf epOc_0 keepOc) 96) ⟨lhSet hpOc_0 .leaf, 8, 0, 0⟩) x keepOc 96 18 th sg 7 m ep hp
theorem stOc_0 (z : List Int) (m N : Int) (B : Bool) (i n : Int) {X : Nat → Value} {h : LK} (y : Nat × Int × Int) {th : LA} {sg : List (Nat × Nat)} (ho : ∀ a' r', (a', r') ∈ h → HOk (cx (nuX (nuOc_0 z m N B i n) (rX (roOc_0 z m N B i n) X)) (nuX_one (nuL_one (l := nuOc_0 z m N B i n) rfl)) 0 laidE laidE_stab) a' r') (hy : InvOc z m N B y) (lt : muOc z m N B y < muOc z m N B (0, i, n)) (ht : ThOk (cx (nuX (nuOc_0 z m N B i n) (rX (roOc_0 z m N B i n) X)) (nuX_one (nuL_one (l := nuOc_0 z m N B i n) rfl)) 0 laidE laidE_stab) (DOc z m N B y X) th) (run : RNOc_0 h .normal th sg 8 (epOc y) (hpOc y) = true) : RHOc z m N B E' x' e' h' (0, i, n) X :=
  RoundH.next (tb := tbl h) (L := []) (f := 3000) y ((tabkOk _ _).hyps ho) (LpOk.nil _) rfl hy lt ht run
theorem lvOc_0 (z : List Int) (m N : Int) (B : Bool) (i n : Int) {X : Nat → Value} {h : LK} {th : LA} {sg : List (Nat × Nat)} (hne : exB x' .normal = false) (ho : ∀ a' r', (a', r') ∈ h → HOk (cx (nuX (nuOc_0 z m N B i n) (rX (roOc_0 z m N B i n) X)) (nuX_one (nuL_one (l := nuOc_0 z m N B i n) rfl)) 0 laidE laidE_stab) a' r') (ht : ThOk (cx (nuX (nuOc_0 z m N B i n) (rX (roOc_0 z m N B i n) X)) (nuX_one (nuL_one (l := nuOc_0 z m N B i n) rfl)) 0 laidE laidE_stab) E' th) (run : RNOc_0 h x' th sg 18 e' h' = true) : RHOc z m N B E' x' e' h' (0, i, n) X :=
  RoundH.leave (tb := tbl h) (L := []) (f := 3000) ((tabkOk _ _).hyps ho) (LpOk.nil _) rfl hne ht run
noncomputable abbrev RNOc_1 (h : LK) (x : Ex) (th : LA) (sg : List (Nat × Nat)) (m : Nat) (ep : LA) (hp : LE) : Bool := okRdH (code (tbl h) 3000 [] bodyOc (envOf (headOf epOc_1 keepOc) 96) ⟨lhSet hpOc_1 .leaf, 8, 0, 0⟩) x keepOc 96 18 th sg 7 m ep hp
theorem stOc_1 (z : List Int) (m N : Int) (B : Bool) (i n : Int) {X : Nat → Value} {h : LK} (y : Nat × Int × Int) {th : LA} {sg : List (Nat × Nat)} (ho : ∀ a' r', (a', r') ∈ h → HOk (cx (nuX (nuOc_1 z m N B i n) (rX (roOc_1 z m N B i n) X)) (nuX_one (nuL_one (l := nuOc_1 z m N B i n) rfl)) 0 laidE laidE_stab) a' r') (hy : InvOc z m N B y) (lt : muOc z m N B y < muOc z m N B (1, i, n)) (ht : ThOk (cx (nuX (nuOc_1 z m N B i n) (rX (roOc_1 z m N B i n) X)) (nuX_one (nuL_one (l := nuOc_1 z m N B i n) rfl)) 0 laidE laidE_stab) (DOc z m N B y X) th) (run : RNOc_1 h .normal th sg 8 (epOc y) (hpOc y) = true) : RHOc z m N B E' x' e' h' (1, i, n) X :=
  RoundH.next (tb := tbl h) (L := []) (f := 3000) y ((tabkOk _ _).hyps ho) (LpOk.nil _) rfl hy lt ht run
theorem lvOc_1 (z : List Int) (m N : Int) (B : Bool) (i n : Int) {X : Nat → Value} {h : LK} {th : LA} {sg : List (Nat × Nat)} (hne : exB x' .normal = false) (ho : ∀ a' r', (a', r') ∈ h → HOk (cx (nuX (nuOc_1 z m N B i n) (rX (roOc_1 z m N B i n) X)) (nuX_one (nuL_one (l := nuOc_1 z m N B i n) rfl)) 0 laidE laidE_stab) a' r') (ht : ThOk (cx (nuX (nuOc_1 z m N B i n) (rX (roOc_1 z m N B i n) X)) (nuX_one (nuL_one (l := nuOc_1 z m N B i n) rfl)) 0 laidE laidE_stab) E' th) (run : RNOc_1 h x' th sg 18 e' h' = true) : RHOc z m N B E' x' e' h' (1, i, n) X :=
  RoundH.leave (tb := tbl h) (L := []) (f := 3000) ((tabkOk _ _).hyps ho) (LpOk.nil _) rfl hne ht run
noncomputable abbrev RNOc_2 (h : LK) (x : Ex) (th : LA) (sg : List (Nat × Nat)) (m : Nat) (ep : LA) (hp : LE) : Bool := okRdH (code (tbl h) 3000 [] bodyOc (envOf (headOf epOc_2 keepOc) 96) ⟨lhSet hpOc_2 .leaf, 8, 0, 0⟩) x keepOc 96 18 th sg 7 m ep hp
theorem stOc_2 (z : List Int) (m N : Int) (B : Bool) (i n : Int) {X : Nat → Value} {h : LK} (y : Nat × Int × Int) {th : LA} {sg : List (Nat × Nat)} (ho : ∀ a' r', (a', r') ∈ h → HOk (cx (nuX (nuOc_2 z m N B i n) (rX (roOc_2 z m N B i n) X)) (nuX_one (nuL_one (l := nuOc_2 z m N B i n) rfl)) 0 laidE laidE_stab) a' r') (hy : InvOc z m N B y) (lt : muOc z m N B y < muOc z m N B (2, i, n)) (ht : ThOk (cx (nuX (nuOc_2 z m N B i n) (rX (roOc_2 z m N B i n) X)) (nuX_one (nuL_one (l := nuOc_2 z m N B i n) rfl)) 0 laidE laidE_stab) (DOc z m N B y X) th) (run : RNOc_2 h .normal th sg 8 (epOc y) (hpOc y) = true) : RHOc z m N B E' x' e' h' (2, i, n) X :=
  RoundH.next (tb := tbl h) (L := []) (f := 3000) y ((tabkOk _ _).hyps ho) (LpOk.nil _) rfl hy lt ht run
theorem lvOc_2 (z : List Int) (m N : Int) (B : Bool) (i n : Int) {X : Nat → Value} {h : LK} {th : LA} {sg : List (Nat × Nat)} (hne : exB x' .normal = false) (ho : ∀ a' r', (a', r') ∈ h → HOk (cx (nuX (nuOc_2 z m N B i n) (rX (roOc_2 z m N B i n) X)) (nuX_one (nuL_one (l := nuOc_2 z m N B i n) rfl)) 0 laidE laidE_stab) a' r') (ht : ThOk (cx (nuX (nuOc_2 z m N B i n) (rX (roOc_2 z m N B i n) X)) (nuX_one (nuL_one (l := nuOc_2 z m N B i n) rfl)) 0 laidE laidE_stab) E' th) (run : RNOc_2 h x' th sg 18 e' h' = true) : RHOc z m N B E' x' e' h' (2, i, n) X :=
  RoundH.leave (tb := tbl h) (L := []) (f := 3000) ((tabkOk _ _).hyps ho) (LpOk.nil _) rfl hne ht run
noncomputable abbrev RNOc_3 (h : LK) (x : Ex) (th : LA) (sg : List (Nat × Nat)) (m : Nat) (ep : LA) (hp : LE) : Bool := okRdH (code (tbl h) 3000 [] bodyOc (envOf (headOf epOc_3 keepOc) 96) ⟨lhSet hpOc_3 .leaf, 8, 0, 0⟩) x keepOc 96 18 th sg 7 m ep hp
theorem stOc_3 (z : List Int) (m N : Int) (B : Bool) (i n : Int) {X : Nat → Value} {h : LK} (y : Nat × Int × Int) {th : LA} {sg : List (Nat × Nat)} (ho : ∀ a' r', (a', r') ∈ h → HOk (cx (nuX (nuOc_3 z m N B i n) (rX (roOc_3 z m N B i n) X)) (nuX_one (nuL_one (l := nuOc_3 z m N B i n) rfl)) 0 laidE laidE_stab) a' r') (hy : InvOc z m N B y) (lt : muOc z m N B y < muOc z m N B (3, i, n)) (ht : ThOk (cx (nuX (nuOc_3 z m N B i n) (rX (roOc_3 z m N B i n) X)) (nuX_one (nuL_one (l := nuOc_3 z m N B i n) rfl)) 0 laidE laidE_stab) (DOc z m N B y X) th) (run : RNOc_3 h .normal th sg 8 (epOc y) (hpOc y) = true) : RHOc z m N B E' x' e' h' (3, i, n) X :=
  RoundH.next (tb := tbl h) (L := []) (f := 3000) y ((tabkOk _ _).hyps ho) (LpOk.nil _) rfl hy lt ht run
theorem lvOc_3 (z : List Int) (m N : Int) (B : Bool) (i n : Int) {X : Nat → Value} {h : LK} {th : LA} {sg : List (Nat × Nat)} (hne : exB x' .normal = false) (ho : ∀ a' r', (a', r') ∈ h → HOk (cx (nuX (nuOc_3 z m N B i n) (rX (roOc_3 z m N B i n) X)) (nuX_one (nuL_one (l := nuOc_3 z m N B i n) rfl)) 0 laidE laidE_stab) a' r') (ht : ThOk (cx (nuX (nuOc_3 z m N B i n) (rX (roOc_3 z m N B i n) X)) (nuX_one (nuL_one (l := nuOc_3 z m N B i n) rfl)) 0 laidE laidE_stab) E' th) (run : RNOc_3 h x' th sg 18 e' h' = true) : RHOc z m N B E' x' e' h' (3, i, n) X :=
  RoundH.leave (tb := tbl h) (L := []) (f := 3000) ((tabkOk _ _).hyps ho) (LpOk.nil _) rfl hne ht run
def hyOc_p0 : LK := [(.rl (.x 2000000) 1, .x 3), (.bin .lss (.x 0) (.x 3), .b true), (.el (.x 2000000) (.x 0) 1 0, .i .u8 (.ofNat 0)), (.bin .leq (.i .i64 (.ofNat 0)) (.x 2), .b true), (.bin .add (.x 1) (.i .i64 (.ofNat 0)), .x 4), (.bin .leq (.x 4) (.x 2), .b true), (.bin .neq (.i .i64 (.ofNat 0)) (.x 4), .b false), (.bin .add (.x 0) (.i .i64 (.ofNat 1)), .x 5)]
theorem runOc_p0 : RNOc_0 hyOc_p0 .normal [(0, .x 5), (1, .x 4), (2, .x 2), (2000000, .x 2000000)] [] 8 epOc_0 hpOc_0 = true := by kernel_rfl
theorem nxOc_p0 (z : List Int) (m N : Int) (B : Bool) (i n : Int) (X : Nat → Value) (hI : InvOc z m N B (0, i, n)) (h0 : i < (z.length : Int)) (h1 : nthI z (Int.toNat (i)) = 0) : RHOc z m N B E' x' e' h' (0, i, n) X := by
  obtain ⟨i0, i1, i2, i3, i4, i5, i6, i7, i8, i9, i10, i11, i12, i13, it⟩ := unIOc z m N B 0 i n hI
  have hnt := i12 (by omega)
  have := rngAt (lo := 0) (hi := 255) (l := z) (by decide) (by decide) (by assumption) (Int.toNat (i))
  refine stOc_0 z m N B i n (h := hyOc_p0) (0, i + 1, n) ?_ (mkIOc z m N B 0 (i + 1) n ⟨by omega, by omega, i2, i3, i4, i5, by omega, by omega, fun _ => tl_a (by omega) (by omega) (by omega) (by omega) (i8 (by omega)), fun _ => tb_a (by omega) (by omega) (by omega) (by omega) (i9 (by omega)), fun h => by omega, fun h => by omega, fun h => by omega, fun h => by omega, by omega⟩) (by show z.length - (i + 1).toNat < z.length - i.toNat; omega) (thXi (b := ((i + 1))) rfl rfl (by omega) (thXv (v := .int .i64 (n)) rfl rfl (thXv (v := .int .i64 (m)) rfl rfl (thXv (v := rwI .u8 z) rfl rfl (thNil))))) runOc_p0
  unfold hyOc_p0
  exact hc (kRlI (isX rfl) (denX rfl) (by first | omega | (simp <;> omega))) <|
   hc (ltT rfl rfl (by omega)) <|
   hc (kElI (j := (Int.toNat (i))) (isX rfl) (isX rfl) (denZ (show (0 : Int) = _ by omega)) (by omega) (by omega)) <|
   hc (kLe (isZ (m := 0) rfl) (isX rfl) (decide_eq_true (by omega))) <|
   hc (adC rfl rfl (by omega)) <|
   hc (leT rfl rfl (by omega)) <|
   hc (kNeI (isZ (m := 0) rfl) (isX rfl) (neF (by omega))) <|
   hc (adC rfl rfl (by omega)) <|
   hnil
def hyOc_p1 : LK := [(.rl (.x 2000000) 1, .x 6), (.bin .lss (.x 0) (.x 6), .b true), (.el (.x 2000000) (.x 0) 1 0, .x 7), (.conv 3 (.x 7), .x 8), (.zer (.x 8), .x 9), (.len (.x 9), .x 10), (.bin .add (.i .i64 (.ofNat 0)) (.x 10), .x 11), (.bin .leq (.x 11) (.x 2), .b true), (.byt (.x 9) (.i .i64 (.ofNat 0)), .x 12), (.fit (.x 9), .b true), (.bin .add (.x 1) (.x 8), .x 13), (.bin .leq (.x 13) (.x 2), .b true), (.bin .neq (.x 10) (.x 13), .b false), (.bin .add (.x 0) (.i .i64 (.ofNat 1)), .x 14)]
theorem runOc_p1 : RNOc_0 hyOc_p1 .normal [(0, .x 14), (1, .x 13), (2, .x 2), (3, .x 9), (2000000, .x 2000000)] [(7, 9)] 8 epOc_1 hpOc_1 = true := by kernel_rfl
theorem nxOc_p1 (z : List Int) (m N : Int) (B : Bool) (i n : Int) (X : Nat → Value) (hI : InvOc z m N B (0, i, n)) (h0 : i < (z.length : Int)) (h1 : ¬ (nthI z (Int.toNat (i)) = 0)) (h2 : (nthI z (Int.toNat (i))) ≤ m) : RHOc z m N B E' x' e' h' (0, i, n) X := by
  obtain ⟨i0, i1, i2, i3, i4, i5, i6, i7, i8, i9, i10, i11, i12, i13, it⟩ := unIOc z m N B 0 i n hI
  have hnt := i12 (by omega)
  have := rngAt (lo := 0) (hi := 255) (l := z) (by decide) (by decide) (by assumption) (Int.toNat (i))
  have := bt_lo (List.replicate (Int.toNat ((nthI z (Int.toNat (i))))) 0) 0; have := bt_hi (List.replicate (Int.toNat ((nthI z (Int.toNat (i))))) 0) 0
  refine stOc_0 z m N B i n (h := hyOc_p1) (1, i + 1, n + (nthI z (Int.toNat (i)))) ?_ (mkIOc z m N B 1 (i + 1) (n + (nthI z (Int.toNat (i)))) ⟨by omega, by omega, i2, i3, i4, i5, by omega, by omega, fun _ => tl_a (by omega) (by omega) (by omega) (by omega) (i8 (by omega)), fun _ => tb_a (by omega) (by omega) (by omega) (by omega) (i9 (by omega)), fun h => by omega, fun h => by omega, fun h => by omega, fun h => by omega, by omega⟩) (by show z.length - (i + 1).toNat < z.length - i.toNat; omega) (thXi (b := ((i + 1))) rfl rfl (by omega) (thXi (b := ((n + (nthI z (Int.toNat (i)))))) rfl rfl (by omega) (thXv (v := .int .i64 (m)) rfl rfl (thXe (v := St' (List.replicate (Int.toNat ((nthI z (Int.toNat (i))))) 0)) (u := St' (List.replicate (Int.toNat ((n + (nthI z (Int.toNat (i)))))) 0)) rfl rfl (congrArg (fun l => St' l) (rep_to (by omega))) (thXv (v := rwI .u8 z) rfl rfl (thNil)))))) runOc_p1
  unfold hyOc_p1
  exact hc (kRlI (isX rfl) (denX rfl) (by first | omega | (simp <;> omega))) <|
   hc (ltT rfl rfl (by omega)) <|
   hc (kElI (j := (Int.toNat (i))) (isX rfl) (isX rfl) (denX rfl) (by omega) (by omega)) <|
   hc (kConvF (isX rfl) tu3 (denX rfl) (fI64 (by omega) (by omega))) <|
   hc (kZer (isX rfl) (by omega) (by omega) (denX rfl)) <|
   hc (lnV rfl rfl (by first | omega | (simp <;> omega))) <|
   hc (kAdd (isZ (m := 0) rfl) (isX rfl) (denX rfl) (by omega) (fI64 (by omega) (by omega))) <|
   hc (leT rfl rfl (by omega)) <|
   hc (kByt (i := 0) (isX rfl) (isZ (m := 0) rfl) (denX rfl) rfl (by first | omega | (simp <;> omega)) rfl) <|
   hc (kFit (isX rfl) (by first | omega | (simp <;> omega))) <|
   hc (adX rfl rfl rfl (by omega)) <|
   hc (leT rfl rfl (by omega)) <|
   hc (kNeI (isX rfl) (isX rfl) (neF (by omega))) <|
   hc (adC rfl rfl (by omega)) <|
   hnil
def hyOc_p2 : LK := [(.rl (.x 2000000) 1, .x 15), (.bin .lss (.x 0) (.x 15), .b true), (.el (.x 2000000) (.x 0) 1 0, .x 16), (.conv 3 (.x 16), .x 17), (.zer (.x 17), .x 18), (.len (.x 18), .x 19), (.bin .add (.i .i64 (.ofNat 0)) (.x 19), .x 20), (.bin .leq (.x 20) (.x 2), .b false), (.bin .add (.x 1) (.x 17), .x 21), (.bin .leq (.x 21) (.x 2), .b false), (.bin .neq (.i .i64 (.ofNat 0)) (.x 1), .b false), (.bin .eql (.x 1) (.i .i64 (.ofNat 0)), .b true), (.bin .add (.x 0) (.i .i64 (.ofNat 1)), .x 22)]
theorem runOc_p2 : RNOc_0 hyOc_p2 .normal [(0, .x 22), (1, .x 1), (2, .x 2), (2000000, .x 2000000)] [] 8 epOc_2 hpOc_2 = true := by kernel_rfl
theorem nxOc_p2 (z : List Int) (m N : Int) (B : Bool) (i n : Int) (X : Nat → Value) (hI : InvOc z m N B (0, i, n)) (h0 : i < (z.length : Int)) (h1 : ¬ (nthI z (Int.toNat (i)) = 0)) (h2 : ¬ ((nthI z (Int.toNat (i))) ≤ m)) : RHOc z m N B E' x' e' h' (0, i, n) X := by
  obtain ⟨i0, i1, i2, i3, i4, i5, i6, i7, i8, i9, i10, i11, i12, i13, it⟩ := unIOc z m N B 0 i n hI
  have hnt := i12 (by omega)
  have := rngAt (lo := 0) (hi := 255) (l := z) (by decide) (by decide) (by assumption) (Int.toNat (i))
  refine stOc_0 z m N B i n (h := hyOc_p2) (2, i + 1, n) ?_ (mkIOc z m N B 2 (i + 1) n ⟨by omega, by omega, i2, i3, i4, i5, by omega, by omega, fun h => by omega, fun h => by omega, fun _ => tl_c (by omega) (by omega) (by omega) (i8 (by omega)), fun _ => tb_c (by omega) (by omega) (by omega) (i9 (by omega)), fun h => by omega, fun h => by omega, by omega⟩) (by show z.length - (i + 1).toNat < z.length - i.toNat; omega) (thXi (b := ((i + 1))) rfl rfl (by omega) (thXv (v := .int .i64 (n)) rfl rfl (thXv (v := .int .i64 (m)) rfl rfl (thXv (v := rwI .u8 z) rfl rfl (thNil))))) runOc_p2
  unfold hyOc_p2
  exact hc (kRlI (isX rfl) (denX rfl) (by first | omega | (simp <;> omega))) <|
   hc (ltT rfl rfl (by omega)) <|
   hc (kElI (j := (Int.toNat (i))) (isX rfl) (isX rfl) (denX rfl) (by omega) (by omega)) <|
   hc (kConvF (isX rfl) tu3 (denX rfl) (fI64 (by omega) (by omega))) <|
   hc (kZer (isX rfl) (by omega) (by omega) (denX rfl)) <|
   hc (lnV rfl rfl (by first | omega | (simp <;> omega))) <|
   hc (kAdd (isZ (m := 0) rfl) (isX rfl) (denX rfl) (by omega) (fI64 (by omega) (by omega))) <|
   hc (leF rfl rfl (by omega)) <|
   hc (adX rfl rfl rfl (by omega)) <|
   hc (leF rfl rfl (by omega)) <|
   hc (kNeI (isZ (m := 0) rfl) (isX rfl) (neF (by omega))) <|
   hc (eqcT rfl (by omega)) <|
   hc (adC rfl rfl (by omega)) <|
   hnil
def hyOc_p3 : LK := [(.rl (.x 2000000) 1, .x 23), (.bin .lss (.x 0) (.x 23), .b false)]
theorem runOc_p3 : RNOc_0 hyOc_p3 (.exit 0) [(0, .x 1), (1, .x 2), (2000000, .x 2000000)] [] 18 [(0, .sr 4), (5, .x 1), (6, .p 6 0), (7, .x 0), (8, .b true)] [(4, .r 2000000 5 1 true), (6, .b ⟨112, .l [.i .i64 (.ofNat 1000), .i .i64 (.ofNat 100), .x 1, .i .i64 (.ofNat 0), .p 5 0, .b false, .nils], 0, 0, 0, false, false⟩)] = true := by kernel_rfl
def hyOc_p4 : LK := [(.rl (.x 2000000) 1, .x 4), (.bin .lss (.x 0) (.x 4), .b true), (.el (.x 2000000) (.x 0) 1 0, .i .u8 (.ofNat 0)), (.len (.x 3), .x 5), (.bin .add (.x 5) (.i .i64 (.ofNat 0)), .x 6), (.bin .leq (.x 6) (.x 2), .b true), (.app (.x 3) [], .x 7), (.fit (.x 7), .b true), (.bin .add (.x 1) (.i .i64 (.ofNat 0)), .x 8), (.bin .leq (.x 8) (.x 2), .b true), (.len (.x 7), .x 9), (.bin .neq (.x 9) (.x 8), .b false), (.bin .add (.x 0) (.i .i64 (.ofNat 1)), .x 10)]
theorem runOc_p4 : RNOc_1 hyOc_p4 .normal [(0, .x 10), (1, .x 8), (2, .x 2), (3, .x 7), (2000000, .x 2000000)] [(7, 9)] 8 epOc_1 hpOc_1 = true := by kernel_rfl
theorem nxOc_p4 (z : List Int) (m N : Int) (B : Bool) (i n : Int) (X : Nat → Value) (hI : InvOc z m N B (1, i, n)) (h0 : i < (z.length : Int)) (h1 : nthI z (Int.toNat (i)) = 0) : RHOc z m N B E' x' e' h' (1, i, n) X := by
  obtain ⟨i0, i1, i2, i3, i4, i5, i6, i7, i8, i9, i10, i11, i12, i13, it⟩ := unIOc z m N B 1 i n hI
  have hnt := i13 (by omega)
  have := rngAt (lo := 0) (hi := 255) (l := z) (by decide) (by decide) (by assumption) (Int.toNat (i))
  refine stOc_1 z m N B i n (h := hyOc_p4) (1, i + 1, n) ?_ (mkIOc z m N B 1 (i + 1) n ⟨by omega, by omega, i2, i3, i4, i5, by omega, by omega, fun _ => tl_a (by omega) (by omega) (by omega) (by omega) (i8 (by omega)), fun _ => tb_a (by omega) (by omega) (by omega) (by omega) (i9 (by omega)), fun h => by omega, fun h => by omega, fun h => by omega, fun h => by omega, by omega⟩) (by show z.length - (i + 1).toNat < z.length - i.toNat; omega) (thXi (b := ((i + 1))) rfl rfl (by omega) (thXv (v := .int .i64 (n)) rfl rfl (thXv (v := .int .i64 (m)) rfl rfl (thXv (v := St' (List.replicate (Int.toNat (n)) 0)) rfl rfl (thXv (v := rwI .u8 z) rfl rfl (thNil)))))) runOc_p4
  unfold hyOc_p4
  exact hc (kRlI (isX rfl) (denX rfl) (by first | omega | (simp <;> omega))) <|
   hc (ltT rfl rfl (by omega)) <|
   hc (kElI (j := (Int.toNat (i))) (isX rfl) (isX rfl) (denZ (show (0 : Int) = _ by omega)) (by omega) (by omega)) <|
   hc (lnV rfl rfl (by first | omega | (simp <;> omega))) <|
   hc (adC rfl rfl (by omega)) <|
   hc (leT rfl rfl (by omega)) <|
   hc (kApp (bs := ([] : LB)) (isX rfl) .nil (denX rfl) (by first | rfl | (simp; done))) <|
   hc (kFit (isX rfl) (by first | omega | (simp <;> omega))) <|
   hc (adC rfl rfl (by omega)) <|
   hc (leT rfl rfl (by omega)) <|
   hc (lnV rfl rfl (by first | omega | (simp <;> omega))) <|
   hc (kNeI (isX rfl) (isX rfl) (neF (by omega))) <|
   hc (adC rfl rfl (by omega)) <|
   hnil
def hyOc_p5 : LK := [(.rl (.x 2000000) 1, .x 11), (.bin .lss (.x 0) (.x 11), .b true), (.el (.x 2000000) (.x 0) 1 0, .x 12), (.conv 3 (.x 12), .x 13), (.zer (.x 13), .x 14), (.len (.x 3), .x 15), (.len (.x 14), .x 16), (.bin .add (.x 15) (.x 16), .x 17), (.bin .leq (.x 17) (.x 2), .b true), (.bin .add (.x 3) (.x 14), .x 18), (.fit (.x 18), .b true), (.bin .add (.x 1) (.x 13), .x 19), (.bin .leq (.x 19) (.x 2), .b true), (.len (.x 18), .x 20), (.bin .neq (.x 20) (.x 19), .b false), (.bin .add (.x 0) (.i .i64 (.ofNat 1)), .x 21)]
theorem runOc_p5 : RNOc_1 hyOc_p5 .normal [(0, .x 21), (1, .x 19), (2, .x 2), (3, .x 18), (2000000, .x 2000000)] [(7, 9)] 8 epOc_1 hpOc_1 = true := by kernel_rfl
theorem nxOc_p5 (z : List Int) (m N : Int) (B : Bool) (i n : Int) (X : Nat → Value) (hI : InvOc z m N B (1, i, n)) (h0 : i < (z.length : Int)) (h1 : ¬ (nthI z (Int.toNat (i)) = 0)) (h2 : n + (nthI z (Int.toNat (i))) ≤ m) : RHOc z m N B E' x' e' h' (1, i, n) X := by
  obtain ⟨i0, i1, i2, i3, i4, i5, i6, i7, i8, i9, i10, i11, i12, i13, it⟩ := unIOc z m N B 1 i n hI
  have hnt := i13 (by omega)
  have := rngAt (lo := 0) (hi := 255) (l := z) (by decide) (by decide) (by assumption) (Int.toNat (i))
  refine stOc_1 z m N B i n (h := hyOc_p5) (1, i + 1, n + (nthI z (Int.toNat (i)))) ?_ (mkIOc z m N B 1 (i + 1) (n + (nthI z (Int.toNat (i)))) ⟨by omega, by omega, i2, i3, i4, i5, by omega, by omega, fun _ => tl_a (by omega) (by omega) (by omega) (by omega) (i8 (by omega)), fun _ => tb_a (by omega) (by omega) (by omega) (by omega) (i9 (by omega)), fun h => by omega, fun h => by omega, fun h => by omega, fun h => by omega, by omega⟩) (by show z.length - (i + 1).toNat < z.length - i.toNat; omega) (thXi (b := ((i + 1))) rfl rfl (by omega) (thXi (b := ((n + (nthI z (Int.toNat (i)))))) rfl rfl (by omega) (thXv (v := .int .i64 (m)) rfl rfl (thXe (v := St' ((List.replicate (Int.toNat (n)) 0) ++ (List.replicate (Int.toNat ((nthI z (Int.toNat (i))))) 0))) (u := St' (List.replicate (Int.toNat ((n + (nthI z (Int.toNat (i)))))) 0)) rfl rfl (congrArg (fun l => St' l) (rep_add (by omega) (by omega) (by omega))) (thXv (v := rwI .u8 z) rfl rfl (thNil)))))) runOc_p5
  unfold hyOc_p5
  exact hc (kRlI (isX rfl) (denX rfl) (by first | omega | (simp <;> omega))) <|
   hc (ltT rfl rfl (by omega)) <|
   hc (kElI (j := (Int.toNat (i))) (isX rfl) (isX rfl) (denX rfl) (by omega) (by omega)) <|
   hc (kConvF (isX rfl) tu3 (denX rfl) (fI64 (by omega) (by omega))) <|
   hc (kZer (isX rfl) (by omega) (by omega) (denX rfl)) <|
   hc (lnV rfl rfl (by first | omega | (simp <;> omega))) <|
   hc (lnV rfl rfl (by first | omega | (simp <;> omega))) <|
   hc (adX rfl rfl rfl (by omega)) <|
   hc (leT rfl rfl (by omega)) <|
   hc (kCat (isX rfl) (isX rfl) (denX rfl) (by first | rfl | (simp; done)) (by first | omega | (simp <;> omega))) <|
   hc (kFit (isX rfl) (by first | omega | (simp <;> omega))) <|
   hc (adX rfl rfl rfl (by omega)) <|
   hc (leT rfl rfl (by omega)) <|
   hc (lnV rfl rfl (by first | omega | (simp <;> omega))) <|
   hc (kNeI (isX rfl) (isX rfl) (neF (by omega))) <|
   hc (adC rfl rfl (by omega)) <|
   hnil
def hyOc_p6 : LK := [(.rl (.x 2000000) 1, .x 22), (.bin .lss (.x 0) (.x 22), .b true), (.el (.x 2000000) (.x 0) 1 0, .x 23), (.conv 3 (.x 23), .x 24), (.zer (.x 24), .x 25), (.len (.x 3), .x 26), (.len (.x 25), .x 27), (.bin .add (.x 26) (.x 27), .x 28), (.bin .leq (.x 28) (.x 2), .b false), (.bin .add (.x 1) (.x 24), .x 29), (.bin .leq (.x 29) (.x 2), .b false), (.bin .neq (.x 26) (.x 1), .b false), (.bin .eql (.x 26) (.i .i64 (.ofNat 0)), .b false), (.bin .eql (.x 1) (.i .i64 (.ofNat 0)), .b false), (.bin .add (.x 0) (.i .i64 (.ofNat 1)), .x 30)]
theorem runOc_p6 : RNOc_1 hyOc_p6 .normal [(0, .x 30), (1, .x 1), (2, .x 2), (3, .x 3), (2000000, .x 2000000)] [(7, 7)] 8 epOc_3 hpOc_3 = true := by kernel_rfl
theorem nxOc_p6 (z : List Int) (m N : Int) (B : Bool) (i n : Int) (X : Nat → Value) (hI : InvOc z m N B (1, i, n)) (h0 : i < (z.length : Int)) (h1 : ¬ (nthI z (Int.toNat (i)) = 0)) (h2 : ¬ (n + (nthI z (Int.toNat (i))) ≤ m)) : RHOc z m N B E' x' e' h' (1, i, n) X := by
  obtain ⟨i0, i1, i2, i3, i4, i5, i6, i7, i8, i9, i10, i11, i12, i13, it⟩ := unIOc z m N B 1 i n hI
  have hnt := i13 (by omega)
  have := rngAt (lo := 0) (hi := 255) (l := z) (by decide) (by decide) (by assumption) (Int.toNat (i))
  refine stOc_1 z m N B i n (h := hyOc_p6) (3, i + 1, n) ?_ (mkIOc z m N B 3 (i + 1) n ⟨by omega, by omega, i2, i3, i4, i5, by omega, by omega, fun h => by omega, fun h => by omega, fun _ => tl_c (by omega) (by omega) (by omega) (i8 (by omega)), fun _ => tb_c (by omega) (by omega) (by omega) (i9 (by omega)), fun h => by omega, fun h => by omega, by omega⟩) (by show z.length - (i + 1).toNat < z.length - i.toNat; omega) (thXi (b := ((i + 1))) rfl rfl (by omega) (thXv (v := .int .i64 (n)) rfl rfl (thXv (v := .int .i64 (m)) rfl rfl (thXv (v := St' (List.replicate (Int.toNat (n)) 0)) rfl rfl (thXv (v := rwI .u8 z) rfl rfl (thNil)))))) runOc_p6
  unfold hyOc_p6
  exact hc (kRlI (isX rfl) (denX rfl) (by first | omega | (simp <;> omega))) <|
   hc (ltT rfl rfl (by omega)) <|
   hc (kElI (j := (Int.toNat (i))) (isX rfl) (isX rfl) (denX rfl) (by omega) (by omega)) <|
   hc (kConvF (isX rfl) tu3 (denX rfl) (fI64 (by omega) (by omega))) <|
   hc (kZer (isX rfl) (by omega) (by omega) (denX rfl)) <|
   hc (lnV rfl rfl (by first | omega | (simp <;> omega))) <|
   hc (lnV rfl rfl (by first | omega | (simp <;> omega))) <|
   hc (adX rfl rfl rfl (by omega)) <|
   hc (leF rfl rfl (by omega)) <|
   hc (adX rfl rfl rfl (by omega)) <|
   hc (leF rfl rfl (by omega)) <|
   hc (kNeI (isX rfl) (isX rfl) (neF (by omega))) <|
   hc (eqcF rfl (by omega)) <|
   hc (eqcF rfl (by omega)) <|
   hc (adC rfl rfl (by omega)) <|
   hnil
def hyOc_p7 : LK := [(.rl (.x 2000000) 1, .x 31), (.bin .lss (.x 0) (.x 31), .b false)]
theorem runOc_p7 : RNOc_1 hyOc_p7 (.exit 0) [(0, .x 1), (1, .x 2), (2, .x 3), (2000000, .x 2000000)] [(7, 7)] 18 [(0, .sr 4), (5, .x 1), (6, .p 6 0), (7, .x 0), (8, .b true)] [(4, .r 2000000 5 1 true), (6, .b ⟨112, .l [.i .i64 (.ofNat 1000), .i .i64 (.ofNat 100), .x 1, .i .i64 (.ofNat 0), .p 5 0, .b false, .sy 7], 0, 0, 0, false, false⟩), (7, .t 2 5)] = true := by kernel_rfl
def hyOc_p8 : LK := [(.rl (.x 2000000) 1, .x 3), (.bin .lss (.x 0) (.x 3), .b true)]
theorem runOc_p8 : RNOc_2 hyOc_p8 (.exit 0) [(0, .x 1), (1, .x 2), (2000000, .x 2000000)] [] 18 [(0, .sr 4), (5, .x 1), (6, .p 6 0), (7, .x 0), (8, .b false)] [(4, .r 2000000 5 1 true), (6, .b ⟨112, .l [.i .i64 (.ofNat 1000), .i .i64 (.ofNat 100), .x 1, .i .i64 (.ofNat 2), .p 5 0, .b false, .nils], 0, 0, 0, false, false⟩)] = true := by kernel_rfl
def hyOc_p9 : LK := [(.rl (.x 2000000) 1, .x 4), (.bin .lss (.x 0) (.x 4), .b false)]
theorem runOc_p9 : RNOc_2 hyOc_p9 (.exit 0) [(0, .x 1), (1, .x 2), (2000000, .x 2000000)] [] 18 [(0, .sr 4), (5, .x 1), (6, .p 6 0), (7, .x 0), (8, .b false)] [(4, .r 2000000 5 1 true), (6, .b ⟨112, .l [.i .i64 (.ofNat 1000), .i .i64 (.ofNat 100), .x 1, .i .i64 (.ofNat 2), .p 5 0, .b false, .nils], 0, 0, 0, false, false⟩)] = true := by kernel_rfl
def hyOc_p10 : LK := [(.rl (.x 2000000) 1, .x 4), (.bin .lss (.x 0) (.x 4), .b true)]
theorem runOc_p10 : RNOc_3 hyOc_p10 (.exit 0) [(0, .x 1), (1, .x 2), (2, .x 3), (2000000, .x 2000000)] [(7, 7)] 18 [(0, .sr 4), (5, .x 1), (6, .p 6 0), (7, .x 0), (8, .b false)] [(4, .r 2000000 5 1 true), (6, .b ⟨112, .l [.i .i64 (.ofNat 1000), .i .i64 (.ofNat 100), .x 1, .i .i64 (.ofNat 2), .p 5 0, .b false, .sy 7], 0, 0, 0, false, false⟩), (7, .t 2 5)] = true := by kernel_rfl
def hyOc_p11 : LK := [(.rl (.x 2000000) 1, .x 5), (.bin .lss (.x 0) (.x 5), .b false)]
theorem runOc_p11 : RNOc_3 hyOc_p11 (.exit 0) [(0, .x 1), (1, .x 2), (2, .x 3), (2000000, .x 2000000)] [(7, 7)] 18 [(0, .sr 4), (5, .x 1), (6, .p 6 0), (7, .x 0), (8, .b false)] [(4, .r 2000000 5 1 true), (6, .b ⟨112, .l [.i .i64 (.ofNat 1000), .i .i64 (.ofNat 100), .x 1, .i .i64 (.ofNat 2), .p 5 0, .b false, .sy 7], 0, 0, 0, false, false⟩), (7, .t 2 5)] = true := by kernel_rfl
def nuEOc_0 (z : List Int) (m N : Int) (B : Bool) : List Value := [.int .i64 (N), .int .i64 (m)]
def roEOc_0 (z : List Int) (m N : Int) (B : Bool) : List Value := [rwI .u8 z]
noncomputable def EOc_0 (z : List Int) (m N : Int) (B : Bool) : Cx := cx (nuX (nuEOc_0 z m N B) (rX (roEOc_0 z m N B) (fun _ => .bool true))) (nuX_one (nuL_one (l := nuEOc_0 z m N B) rfl)) 0 laidE laidE_stab
theorem roundsOc_0 (z : List Int) (m N : Int) (B : Bool) (x0 : B = true) (x1 : N = 0) (st : Nat × Int × Int) (X : Nat → Value) (hI : InvOc z m N B st) : RHOc z m N B (EOc_0 z m N B) (.exit 0) [(0, .sr 4), (5, .x 1), (6, .p 6 0), (7, .x 0), (8, .b true)] [(4, .r 2000000 5 1 true), (6, .b ⟨112, .l [.i .i64 (.ofNat 1000), .i .i64 (.ofNat 100), .x 1, .i .i64 (.ofNat 0), .p 5 0, .b false, .nils], 0, 0, 0, false, false⟩)] st X := by
  obtain ⟨tag, i, n⟩ := st
  have hI0 := hI
  obtain ⟨i0, i1, i2, i3, i4, i5, i6, i7, i8, i9, i10, i11, i12, i13, it⟩ := unIOc z m N B tag i n hI
  rcases (show tag = 0 ∨ tag = 1 ∨ tag = 2 ∨ tag = 3 from by omega) with rfl | rfl | rfl | rfl
  · skip
    by_cases h0 : i < (z.length : Int)
    · by_cases h1 : nthI z (Int.toNat (i)) = 0
      · exact nxOc_p0 z m N B i n X hI0 h0 h1
      · by_cases h2 : (nthI z (Int.toNat (i))) ≤ m
        · exact nxOc_p1 z m N B i n X hI0 h0 h1 h2
        · exact nxOc_p2 z m N B i n X hI0 h0 h1 h2
    · skip
      have hnt := i12 (by omega)
      have hN := tl_x (by omega) (by omega) (i8 (by omega))
      have hB := tb_x (by omega) (by omega) (i9 (by omega))
      refine lvOc_0 z m N B i n (h := hyOc_p3) rfl ?_ (thXi (b := (N)) rfl rfl (by omega) (thXv (v := .int .i64 (m)) rfl rfl (thXv (v := rwI .u8 z) rfl rfl (thNil)))) runOc_p3
      unfold hyOc_p3
      exact hc (kRlI (isX rfl) (denX rfl) (by first | omega | (simp <;> omega))) <|
       hc (ltF rfl rfl (by omega)) <|
       hnil
  · skip
    by_cases h0 : i < (z.length : Int)
    · by_cases h1 : nthI z (Int.toNat (i)) = 0
      · exact nxOc_p4 z m N B i n X hI0 h0 h1
      · by_cases h2 : n + (nthI z (Int.toNat (i))) ≤ m
        · exact nxOc_p5 z m N B i n X hI0 h0 h1 h2
        · exact nxOc_p6 z m N B i n X hI0 h0 h1 h2
    · exfalso; have hN := tl_x (by omega) (by omega) (i8 (by omega)); have hB := tb_x (by omega) (by omega) (i9 (by omega)); have hnt := i13 (by omega); omega
  · skip
    by_cases h0 : i < (z.length : Int)
    · exfalso; have hN := i10 (by omega); have hB := i11 (by omega); rw [x0] at hB; cases hB
    · exfalso; have hN := i10 (by omega); have hB := i11 (by omega); rw [x0] at hB; cases hB
  · skip
    by_cases h0 : i < (z.length : Int)
    · exfalso; have hN := i10 (by omega); have hB := i11 (by omega); rw [x0] at hB; cases hB
    · exfalso; have hN := i10 (by omega); have hB := i11 (by omega); rw [x0] at hB; cases hB
theorem lfOkOc_0 {l : LF} {h : LH} (z : List Int) (m N : Int) (B : Bool) (x0 : B = true) (x1 : N = 0) (st : Nat × Int × Int) (hI : InvOc z m N B st) (hl : l.hp = some h) (hs : lfSame l h 96 keepOc (.exit 0) 4 7 18 = true) {th0 : LA} {sg0 : List (Nat × Nat)} (hth0 : ∀ X, ThOk (cx nu one 0 laidE laidE_stab) (DOc z m N B st X) th0) (h0 : startOk l h 96 7 8 th0 sg0 (epOc st) (hpOc st) = true) {thx : LA} (hthx : ThOk (EOc_0 z m N B) (cx nu one 0 laidE laidE_stab) thx) (hx : exitOk l h 96 7 18 thx [(0, .sr 4), (5, .x 1), (6, .p 6 0), (7, .x 0), (8, .b true)] [(4, .r 2000000 5 1 true), (6, .b ⟨112, .l [.i .i64 (.ofNat 1000), .i .i64 (.ofNat 100), .x 1, .i .i64 (.ofNat 0), .p 5 0, .b false, .nils], 0, 0, 0, false, false⟩)] = true) : LfOk (cx nu one 0 laidE laidE_stab) bodyOc l :=
  lfOkX (E := EOc_0 z m N B) (InvOc z m N B) (muOc z m N B) (DOc z m N B) (fun _ _ => rfl) (fun _ _ => rfl) (fun _ _ => rfl) (fun st X t ht => nuX_keep.trans (rX_keep ((by decide : ∀ t, t ∈ keepOc → t < 1000000) t ht))) rfl rfl rfl hl hs ebOc rfl rfl st hI hth0 h0 hthx hx (roundsOc_0 z m N B x0 x1)
def nuEOc_1 (z : List Int) (m N : Int) (B : Bool) : List Value := [.int .i64 (N), .int .i64 (m), St' (List.replicate (Int.toNat (N)) 0)]
def roEOc_1 (z : List Int) (m N : Int) (B : Bool) : List Value := [rwI .u8 z]
noncomputable def EOc_1 (z : List Int) (m N : Int) (B : Bool) : Cx := cx (nuX (nuEOc_1 z m N B) (rX (roEOc_1 z m N B) (fun _ => .bool true))) (nuX_one (nuL_one (l := nuEOc_1 z m N B) rfl)) 0 laidE laidE_stab
theorem roundsOc_1 (z : List Int) (m N : Int) (B : Bool) (x0 : B = true) (x1 : ¬ N = 0) (st : Nat × Int × Int) (X : Nat → Value) (hI : InvOc z m N B st) : RHOc z m N B (EOc_1 z m N B) (.exit 0) [(0, .sr 4), (5, .x 1), (6, .p 6 0), (7, .x 0), (8, .b true)] [(4, .r 2000000 5 1 true), (6, .b ⟨112, .l [.i .i64 (.ofNat 1000), .i .i64 (.ofNat 100), .x 1, .i .i64 (.ofNat 0), .p 5 0, .b false, .sy 7], 0, 0, 0, false, false⟩), (7, .t 2 5)] st X := by
  obtain ⟨tag, i, n⟩ := st
  have hI0 := hI
  obtain ⟨i0, i1, i2, i3, i4, i5, i6, i7, i8, i9, i10, i11, i12, i13, it⟩ := unIOc z m N B tag i n hI
  rcases (show tag = 0 ∨ tag = 1 ∨ tag = 2 ∨ tag = 3 from by omega) with rfl | rfl | rfl | rfl
  · skip
    by_cases h0 : i < (z.length : Int)
    · by_cases h1 : nthI z (Int.toNat (i)) = 0
      · exact nxOc_p0 z m N B i n X hI0 h0 h1
      · by_cases h2 : (nthI z (Int.toNat (i))) ≤ m
        · exact nxOc_p1 z m N B i n X hI0 h0 h1 h2
        · exact nxOc_p2 z m N B i n X hI0 h0 h1 h2
    · exfalso; have hN := tl_x (by omega) (by omega) (i8 (by omega)); have hB := tb_x (by omega) (by omega) (i9 (by omega)); have hnt := i12 (by omega); omega
  · skip
    by_cases h0 : i < (z.length : Int)
    · by_cases h1 : nthI z (Int.toNat (i)) = 0
      · exact nxOc_p4 z m N B i n X hI0 h0 h1
      · by_cases h2 : n + (nthI z (Int.toNat (i))) ≤ m
        · exact nxOc_p5 z m N B i n X hI0 h0 h1 h2
        · exact nxOc_p6 z m N B i n X hI0 h0 h1 h2
    · skip
      have hnt := i13 (by omega)
      have hN := tl_x (by omega) (by omega) (i8 (by omega))
      have hB := tb_x (by omega) (by omega) (i9 (by omega))
      refine lvOc_1 z m N B i n (h := hyOc_p7) rfl ?_ (thXi (b := (N)) rfl rfl (by omega) (thXv (v := .int .i64 (m)) rfl rfl (thXe (v := St' (List.replicate (Int.toNat (n)) 0)) (u := St' (List.replicate (Int.toNat (N)) 0)) rfl rfl (congrArg (fun l => St' l) (rep_to (by omega))) (thXv (v := rwI .u8 z) rfl rfl (thNil))))) runOc_p7
      unfold hyOc_p7
      exact hc (kRlI (isX rfl) (denX rfl) (by first | omega | (simp <;> omega))) <|
       hc (ltF rfl rfl (by omega)) <|
       hnil
  · skip
    by_cases h0 : i < (z.length : Int)
    · exfalso; have hN := i10 (by omega); have hB := i11 (by omega); rw [x0] at hB; cases hB
    · exfalso; have hN := i10 (by omega); have hB := i11 (by omega); rw [x0] at hB; cases hB
  · skip
    by_cases h0 : i < (z.length : Int)
    · exfalso; have hN := i10 (by omega); have hB := i11 (by omega); rw [x0] at hB; cases hB
    · exfalso; have hN := i10 (by omega); have hB := i11 (by omega); rw [x0] at hB; cases hB
theorem lfOkOc_1 {l : LF} {h : LH} (z : List Int) (m N : Int) (B : Bool) (x0 : B = true) (x1 : ¬ N = 0) (st : Nat × Int × Int) (hI : InvOc z m N B st) (hl : l.hp = some h) (hs : lfSame l h 96 keepOc (.exit 0) 4 7 18 = true) {th0 : LA} {sg0 : List (Nat × Nat)} (hth0 : ∀ X, ThOk (cx nu one 0 laidE laidE_stab) (DOc z m N B st X) th0) (h0 : startOk l h 96 7 8 th0 sg0 (epOc st) (hpOc st) = true) {thx : LA} (hthx : ThOk (EOc_1 z m N B) (cx nu one 0 laidE laidE_stab) thx) (hx : exitOk l h 96 7 18 thx [(0, .sr 4), (5, .x 1), (6, .p 6 0), (7, .x 0), (8, .b true)] [(4, .r 2000000 5 1 true), (6, .b ⟨112, .l [.i .i64 (.ofNat 1000), .i .i64 (.ofNat 100), .x 1, .i .i64 (.ofNat 0), .p 5 0, .b false, .sy 7], 0, 0, 0, false, false⟩), (7, .t 2 5)] = true) : LfOk (cx nu one 0 laidE laidE_stab) bodyOc l :=
  lfOkX (E := EOc_1 z m N B) (InvOc z m N B) (muOc z m N B) (DOc z m N B) (fun _ _ => rfl) (fun _ _ => rfl) (fun _ _ => rfl) (fun st X t ht => nuX_keep.trans (rX_keep ((by decide : ∀ t, t ∈ keepOc → t < 1000000) t ht))) rfl rfl rfl hl hs ebOc rfl rfl st hI hth0 h0 hthx hx (roundsOc_1 z m N B x0 x1)
def nuEOc_2 (z : List Int) (m N : Int) (B : Bool) : List Value := [.int .i64 (N), .int .i64 (m)]
def roEOc_2 (z : List Int) (m N : Int) (B : Bool) : List Value := [rwI .u8 z]
noncomputable def EOc_2 (z : List Int) (m N : Int) (B : Bool) : Cx := cx (nuX (nuEOc_2 z m N B) (rX (roEOc_2 z m N B) (fun _ => .bool true))) (nuX_one (nuL_one (l := nuEOc_2 z m N B) rfl)) 0 laidE laidE_stab
theorem roundsOc_2 (z : List Int) (m N : Int) (B : Bool) (x0 : B = false) (x1 : N = 0) (st : Nat × Int × Int) (X : Nat → Value) (hI : InvOc z m N B st) : RHOc z m N B (EOc_2 z m N B) (.exit 0) [(0, .sr 4), (5, .x 1), (6, .p 6 0), (7, .x 0), (8, .b false)] [(4, .r 2000000 5 1 true), (6, .b ⟨112, .l [.i .i64 (.ofNat 1000), .i .i64 (.ofNat 100), .x 1, .i .i64 (.ofNat 2), .p 5 0, .b false, .nils], 0, 0, 0, false, false⟩)] st X := by
  obtain ⟨tag, i, n⟩ := st
  have hI0 := hI
  obtain ⟨i0, i1, i2, i3, i4, i5, i6, i7, i8, i9, i10, i11, i12, i13, it⟩ := unIOc z m N B tag i n hI
  rcases (show tag = 0 ∨ tag = 1 ∨ tag = 2 ∨ tag = 3 from by omega) with rfl | rfl | rfl | rfl
  · skip
    by_cases h0 : i < (z.length : Int)
    · by_cases h1 : nthI z (Int.toNat (i)) = 0
      · exact nxOc_p0 z m N B i n X hI0 h0 h1
      · by_cases h2 : (nthI z (Int.toNat (i))) ≤ m
        · exact nxOc_p1 z m N B i n X hI0 h0 h1 h2
        · exact nxOc_p2 z m N B i n X hI0 h0 h1 h2
    · exfalso; have hN := tl_x (by omega) (by omega) (i8 (by omega)); have hB := tb_x (by omega) (by omega) (i9 (by omega)); rw [x0] at hB; cases hB
  · skip
    by_cases h0 : i < (z.length : Int)
    · by_cases h1 : nthI z (Int.toNat (i)) = 0
      · exact nxOc_p4 z m N B i n X hI0 h0 h1
      · by_cases h2 : n + (nthI z (Int.toNat (i))) ≤ m
        · exact nxOc_p5 z m N B i n X hI0 h0 h1 h2
        · exact nxOc_p6 z m N B i n X hI0 h0 h1 h2
    · exfalso; have hN := tl_x (by omega) (by omega) (i8 (by omega)); have hB := tb_x (by omega) (by omega) (i9 (by omega)); rw [x0] at hB; cases hB
  · skip
    by_cases h0 : i < (z.length : Int)
    · skip
      have hnt := i12 (by omega)
      have hN := i10 (by omega)
      have hB := i11 (by omega)
      refine lvOc_2 z m N B i n (h := hyOc_p8) rfl ?_ (thXi (b := (N)) rfl rfl (by omega) (thXv (v := .int .i64 (m)) rfl rfl (thXv (v := rwI .u8 z) rfl rfl (thNil)))) runOc_p8
      unfold hyOc_p8
      exact hc (kRlI (isX rfl) (denX rfl) (by first | omega | (simp <;> omega))) <|
       hc (ltT rfl rfl (by omega)) <|
       hnil
    · skip
      have hnt := i12 (by omega)
      have hN := i10 (by omega)
      have hB := i11 (by omega)
      refine lvOc_2 z m N B i n (h := hyOc_p9) rfl ?_ (thXi (b := (N)) rfl rfl (by omega) (thXv (v := .int .i64 (m)) rfl rfl (thXv (v := rwI .u8 z) rfl rfl (thNil)))) runOc_p9
      unfold hyOc_p9
      exact hc (kRlI (isX rfl) (denX rfl) (by first | omega | (simp <;> omega))) <|
       hc (ltF rfl rfl (by omega)) <|
       hnil
  · skip
    by_cases h0 : i < (z.length : Int)
    · exfalso; have hN := i10 (by omega); have hB := i11 (by omega); have hnt := i13 (by omega); omega
    · exfalso; have hN := i10 (by omega); have hB := i11 (by omega); have hnt := i13 (by omega); omega
theorem lfOkOc_2 {l : LF} {h : LH} (z : List Int) (m N : Int) (B : Bool) (x0 : B = false) (x1 : N = 0) (st : Nat × Int × Int) (hI : InvOc z m N B st) (hl : l.hp = some h) (hs : lfSame l h 96 keepOc (.exit 0) 4 7 18 = true) {th0 : LA} {sg0 : List (Nat × Nat)} (hth0 : ∀ X, ThOk (cx nu one 0 laidE laidE_stab) (DOc z m N B st X) th0) (h0 : startOk l h 96 7 8 th0 sg0 (epOc st) (hpOc st) = true) {thx : LA} (hthx : ThOk (EOc_2 z m N B) (cx nu one 0 laidE laidE_stab) thx) (hx : exitOk l h 96 7 18 thx [(0, .sr 4), (5, .x 1), (6, .p 6 0), (7, .x 0), (8, .b false)] [(4, .r 2000000 5 1 true), (6, .b ⟨112, .l [.i .i64 (.ofNat 1000), .i .i64 (.ofNat 100), .x 1, .i .i64 (.ofNat 2), .p 5 0, .b false, .nils], 0, 0, 0, false, false⟩)] = true) : LfOk (cx nu one 0 laidE laidE_stab) bodyOc l :=
  lfOkX (E := EOc_2 z m N B) (InvOc z m N B) (muOc z m N B) (DOc z m N B) (fun _ _ => rfl) (fun _ _ => rfl) (fun _ _ => rfl) (fun st X t ht => nuX_keep.trans (rX_keep ((by decide : ∀ t, t ∈ keepOc → t < 1000000) t ht))) rfl rfl rfl hl hs ebOc rfl rfl st hI hth0 h0 hthx hx (roundsOc_2 z m N B x0 x1)
def nuEOc_3 (z : List Int) (m N : Int) (B : Bool) : List Value := [.int .i64 (N), .int .i64 (m), St' (List.replicate (Int.toNat (N)) 0)]
def roEOc_3 (z : List Int) (m N : Int) (B : Bool) : List Value := [rwI .u8 z]
noncomputable def EOc_3 (z : List Int) (m N : Int) (B : Bool) : Cx := cx (nuX (nuEOc_3 z m N B) (rX (roEOc_3 z m N B) (fun _ => .bool true))) (nuX_one (nuL_one (l := nuEOc_3 z m N B) rfl)) 0 laidE laidE_stab
theorem roundsOc_3 (z : List Int) (m N : Int) (B : Bool) (x0 : B = false) (x1 : ¬ N = 0) (st : Nat × Int × Int) (X : Nat → Value) (hI : InvOc z m N B st) : RHOc z m N B (EOc_3 z m N B) (.exit 0) [(0, .sr 4), (5, .x 1), (6, .p 6 0), (7, .x 0), (8, .b false)] [(4, .r 2000000 5 1 true), (6, .b ⟨112, .l [.i .i64 (.ofNat 1000), .i .i64 (.ofNat 100), .x 1, .i .i64 (.ofNat 2), .p 5 0, .b false, .sy 7], 0, 0, 0, false, false⟩), (7, .t 2 5)] st X := by
  obtain ⟨tag, i, n⟩ := st
  have hI0 := hI
  obtain ⟨i0, i1, i2, i3, i4, i5, i6, i7, i8, i9, i10, i11, i12, i13, it⟩ := unIOc z m N B tag i n hI
  rcases (show tag = 0 ∨ tag = 1 ∨ tag = 2 ∨ tag = 3 from by omega) with rfl | rfl | rfl | rfl
  · skip
    by_cases h0 : i < (z.length : Int)
    · by_cases h1 : nthI z (Int.toNat (i)) = 0
      · exact nxOc_p0 z m N B i n X hI0 h0 h1
      · by_cases h2 : (nthI z (Int.toNat (i))) ≤ m
        · exact nxOc_p1 z m N B i n X hI0 h0 h1 h2
        · exact nxOc_p2 z m N B i n X hI0 h0 h1 h2
    · exfalso; have hN := tl_x (by omega) (by omega) (i8 (by omega)); have hB := tb_x (by omega) (by omega) (i9 (by omega)); rw [x0] at hB; cases hB
  · skip
    by_cases h0 : i < (z.length : Int)
    · by_cases h1 : nthI z (Int.toNat (i)) = 0
      · exact nxOc_p4 z m N B i n X hI0 h0 h1
      · by_cases h2 : n + (nthI z (Int.toNat (i))) ≤ m
        · exact nxOc_p5 z m N B i n X hI0 h0 h1 h2
        · exact nxOc_p6 z m N B i n X hI0 h0 h1 h2
    · exfalso; have hN := tl_x (by omega) (by omega) (i8 (by omega)); have hB := tb_x (by omega) (by omega) (i9 (by omega)); rw [x0] at hB; cases hB
  · skip
    by_cases h0 : i < (z.length : Int)
    · exfalso; have hN := i10 (by omega); have hB := i11 (by omega); have hnt := i12 (by omega); omega
    · exfalso; have hN := i10 (by omega); have hB := i11 (by omega); have hnt := i12 (by omega); omega
  · skip
    by_cases h0 : i < (z.length : Int)
    · skip
      have hnt := i13 (by omega)
      have hN := i10 (by omega)
      have hB := i11 (by omega)
      refine lvOc_3 z m N B i n (h := hyOc_p10) rfl ?_ (thXi (b := (N)) rfl rfl (by omega) (thXv (v := .int .i64 (m)) rfl rfl (thXe (v := St' (List.replicate (Int.toNat (n)) 0)) (u := St' (List.replicate (Int.toNat (N)) 0)) rfl rfl (congrArg (fun l => St' l) (rep_to (by omega))) (thXv (v := rwI .u8 z) rfl rfl (thNil))))) runOc_p10
      unfold hyOc_p10
      exact hc (kRlI (isX rfl) (denX rfl) (by first | omega | (simp <;> omega))) <|
       hc (ltT rfl rfl (by omega)) <|
       hnil
    · skip
      have hnt := i13 (by omega)
      have hN := i10 (by omega)
      have hB := i11 (by omega)
      refine lvOc_3 z m N B i n (h := hyOc_p11) rfl ?_ (thXi (b := (N)) rfl rfl (by omega) (thXv (v := .int .i64 (m)) rfl rfl (thXe (v := St' (List.replicate (Int.toNat (n)) 0)) (u := St' (List.replicate (Int.toNat (N)) 0)) rfl rfl (congrArg (fun l => St' l) (rep_to (by omega))) (thXv (v := rwI .u8 z) rfl rfl (thNil))))) runOc_p11
      unfold hyOc_p11
      exact hc (kRlI (isX rfl) (denX rfl) (by first | omega | (simp <;> omega))) <|
       hc (ltF rfl rfl (by omega)) <|
       hnil
theorem lfOkOc_3 {l : LF} {h : LH} (z : List Int) (m N : Int) (B : Bool) (x0 : B = false) (x1 : ¬ N = 0) (st : Nat × Int × Int) (hI : InvOc z m N B st) (hl : l.hp = some h) (hs : lfSame l h 96 keepOc (.exit 0) 4 7 18 = true) {th0 : LA} {sg0 : List (Nat × Nat)} (hth0 : ∀ X, ThOk (cx nu one 0 laidE laidE_stab) (DOc z m N B st X) th0) (h0 : startOk l h 96 7 8 th0 sg0 (epOc st) (hpOc st) = true) {thx : LA} (hthx : ThOk (EOc_3 z m N B) (cx nu one 0 laidE laidE_stab) thx) (hx : exitOk l h 96 7 18 thx [(0, .sr 4), (5, .x 1), (6, .p 6 0), (7, .x 0), (8, .b false)] [(4, .r 2000000 5 1 true), (6, .b ⟨112, .l [.i .i64 (.ofNat 1000), .i .i64 (.ofNat 100), .x 1, .i .i64 (.ofNat 2), .p 5 0, .b false, .sy 7], 0, 0, 0, false, false⟩), (7, .t 2 5)] = true) : LfOk (cx nu one 0 laidE laidE_stab) bodyOc l :=
  lfOkX (E := EOc_3 z m N B) (InvOc z m N B) (muOc z m N B) (DOc z m N B) (fun _ _ => rfl) (fun _ _ => rfl) (fun _ _ => rfl) (fun st X t ht => nuX_keep.trans (rX_keep ((by decide : ∀ t, t ∈ keepOc → t < 1000000) t ht))) rfl rfl rfl hl hs ebOc rfl rfl st hI hth0 h0 hthx hx (roundsOc_3 z m N B x0 x1)
noncomputable def fi6 : FI := (tabk.fn.get 6).getD default
theorem fi6_at : tabk.fn.get 6 = some fi6 := by kernel_rfl
theorem fi6_body : fi6.body = some (Tryz.f6.body.getD .skip) := by kernel_rfl
theorem fiB6 : fi6.body.isSome = true := by rw [fi6_body]; rfl
end Go.Proofs.YtcocflhgmjhhlaaGreatDoor.clientOut
