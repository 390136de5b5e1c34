/- A part of the proof: an interpreter of the model's own code on partly known states, and that what it answers is what the program answers. No condition of its own. -/
import Derived.Test.YtkhcgoeccmkmdaaSeatP1
import Derived.Test.YtkhcgoeccmkmdaaHXpart4
import Derived.Test.YtkhcgoeccmkmdaaAXro
import Derived.Test.YtkhcgoeccmkmdaaHKA
import Derived.Test.YtkhcgoeccmkmdaaHKG
set_option maxRecDepth 100000
set_option linter.unusedVariables false
set_option linter.unusedSimpArgs false
namespace Go.Proofs.Ytkhcgoeccmkmdaa.recordRows
open Go Go.AX Go.Proofs Go.Proofs.Ytkhcgoeccmkmdaa
/-- the variables that the runs read are laid -/
def laidE (w : World) : Prop := True
theorem laidE_stab : ∀ w w' : World, (∀ k, k < 0 → w'.heap[k]? = w.heap[k]?) → laidE w → laidE w' := fun w w' h _ => trivial
theorem laidE_size {w : World} (h : laidE w) : 0 ≤ w.heap.size := by
  exact Nat.zero_le _
noncomputable def H0 : T Ent := .leaf
theorem runP {nu : Nat → Value} {one : ∀ i, i < 1000000 → (nu i).oneCell' = true} {tb : Tab} (h : AllOk (cx nu one 0 laidE laidE_stab) tb) (hng : tb.ng = 1) {f g : Nat} {fi : FI} (hfi : tb.fn.get g = some fi) (hb : fi.body.isSome = true) {l : List AV} {args : List Value}
    (hr : okB (call tb f g l ⟨H0 , 1, 0, 0⟩) = true) (hl : RelL (cx nu one 0 laidE laidE_stab) (fun _ => none) l args) (w : World) (hw : laidE w) :
    Calls Try.prog g ⟨args⟩ w fun e w' => e = .returned (.bool true) ∧ Go.AX.Below (Go.AX.Fz.lt w.heap.size) w w' := by
  obtain ⟨S, hS⟩ := okB_inv hr
  refine (run_okG h (H := H0 ) hfi hb (by rw [hng]; exact hS) hl w hw (laidE_size hw) fun v k hv => ?_).mono fun e' w' he => ?_
  · unfold H0 at hv
    simp [T.get_leaf] at hv
  · obtain ⟨x, ρ, rfl, hx, hb⟩ := he
    simp only [Rel] at hx
    exact ⟨by rw [hx], hb⟩
theorem runS {nu : Nat → Value} {one : ∀ i, i < 1000000 → (nu i).oneCell' = true} {tb : Tab} (h : AllOk (cx nu one 0 laidE laidE_stab) tb) (hng : tb.ng = 1) {f g : Nat} {fi : FI} (hfi : tb.fn.get g = some fi) (hb : fi.body.isSome = true) {l : List AV} {args : List Value} {len n : Nat}
    (hr : okS (call tb f g l ⟨H0 , 1, 0, 0⟩) len n = true) (hl : RelL (cx nu one 0 laidE laidE_stab) (fun _ => none) l args) (w : World) (hw : laidE w) :
    Calls Try.prog g ⟨args⟩ w fun e w' => e = .returned (St' (strB len n)) ∧ Go.AX.Below (Go.AX.Fz.lt w.heap.size) w w' := by
  obtain ⟨S, hS⟩ := okS_inv hr
  refine (run_okG h (H := H0 ) hfi hb (by rw [hng]; exact hS) hl w hw (laidE_size hw) fun v k hv => ?_).mono fun e' w' he => ?_
  · unfold H0 at hv
    simp [T.get_leaf] at hv
  · obtain ⟨x, ρ, rfl, hx, hb⟩ := he
    simp only [Rel] at hx
    exact ⟨by rw [hx.1], hb⟩
theorem runA {nu : Nat → Value} {one : ∀ i, i < 1000000 → (nu i).oneCell' = true} {tb : Tab} (h : AllOk (cx nu one 0 laidE laidE_stab) tb) (hng : tb.ng = 1) {f g : Nat} {fi : FI} (hfi : tb.fn.get g = some fi) (hb : fi.body.isSome = true) {l : List AV} {args : List Value} {ra : AV} (hnr : noR 8 ra = true)
    (hr : okA (call tb f g l ⟨H0 , 1, 0, 0⟩) ra = true) (hl : RelL (cx nu one 0 laidE laidE_stab) (fun _ => none) l args) (w : World) (hw : laidE w) :
    Calls Try.prog g ⟨args⟩ w fun e w' => ∃ x, e = .returned x ∧ Rel (cx nu one 0 laidE laidE_stab) (fun _ => none) ra x ∧ Go.AX.Below (Go.AX.Fz.lt w.heap.size) w w' := by
  obtain ⟨S, hS⟩ := okA_inv hr
  refine (run_okG h (H := H0 ) hfi hb (by rw [hng]; exact hS) hl w hw (laidE_size hw) fun v k hv => ?_).mono fun e' w' he => ?_
  · unfold H0 at hv
    simp [T.get_leaf] at hv
  · obtain ⟨x, ρ, rfl, hx, hb⟩ := he
    exact ⟨x, rfl, noR_rel 8 _ hnr _ hx, hb⟩
theorem runPR {nu : Nat → Value} {one : ∀ i, i < 1000000 → (nu i).oneCell' = true} {tb : Tab} (h : AllOk (cx nu one 0 laidE laidE_stab) tb) (hng : tb.ng = 1) {f g : Nat} {fi : FI} (hfi : tb.fn.get g = some fi) (hb : fi.body.isSome = true) {l : List AV} {args : List Value} (rs0 : List Ent) (rs : List R)
    (hr : okB (call tb f g l ⟨addR 1 rs0 (H0 ), 1 + rs0.length, 0, 0⟩) = true) (hl : RelL (cx nu one 0 laidE laidE_stab) (rhoA 1 rs) l args) (w : World) (hw : laidE w) (hlen : rs0.length = rs.length) (hbd : 1 + rs0.length ≤ 16777213) (hA : ∀ (j : Nat) (k : Ent) (r : R), rs0[j]? = some k → rs[j]? = some r → ArgAt (cx nu one 0 laidE laidE_stab) w (H0 ) k r) (hnd : ∀ (i j : Nat) (r q : R), rs[i]? = some r → rs[j]? = some q → r.blk = q.blk → i = j) :
    Calls Try.prog g ⟨args⟩ w fun e w' => e = .returned (.bool true) ∧ Go.AX.Below (Go.AX.Fz.lt w.heap.size) w w' := by
  obtain ⟨S, hS⟩ := okB_inv hr
  refine (run_okGA h (H := H0 ) hfi hb rs0 rs (by rw [hng]; exact hS) (by rw [hng]; exact hl) w hw (laidE_size hw) hlen (by rw [hng]; exact hbd) (hA ) hnd fun v k hv => ?_).mono fun e' w' he => ?_
  · unfold H0 at hv
    simp [T.get_leaf] at hv
  · obtain ⟨x, ρ, rfl, hx, hb⟩ := he
    simp only [Rel] at hx
    exact ⟨by rw [hx], hb⟩
noncomputable def fk : FI := ⟨Try.f6.body, Try.f6.ntmps, Try.f6.results.toList, 0, none, []⟩
theorem fk_at : tab.fn.get 6 = some fk := by kernel_rfl
theorem fk_body : fk.body.isSome = true := by kernel_rfl
theorem kk : okB (call tab 6000 6 [] ⟨H0 , 1, 0, 0⟩) = true := by kernel_rfl
noncomputable def tabk : Tab := addSum tab 6 fk (.b true)
section
variable (nu : Nat → Value) (one : ∀ i, i < 1000000 → (nu i).oneCell' = true)
theorem sumk : SumOk (cx nu one 0 laidE laidE_stab) 6 (.b true) := fun w hi hs => by
  refine (runP (tabOk nu one 0 laidE laidE_stab) rfl fk_at fk_body kk (args := []) (by simp only [RelL]) w hi).mono fun e w' he => ?_
  exact ⟨.bool true, he.1, by simp only [Rel], he.2⟩
theorem tabkOk : AllOk (cx nu one 0 laidE laidE_stab) tabk := (tabOk nu one 0 laidE laidE_stab).sum (by omega) fk_at fk_body (sumk nu one)
end
theorem tu3 : Try.prog.underlying 3 = some (.int .i64) := by kernel_rfl
theorem tu5 : Try.prog.underlying 5 = some (.int .u8) := by kernel_rfl
theorem tu9 : Try.prog.underlying 9 = some .string := by kernel_rfl
noncomputable def tbl (h : LK) : Tab := { tabk with hyp := h }
theorem fiE : ∃ fi, tabk.fn.get 3 = some fi ∧ fi.body.isSome = true := ⟨_, rfl, by kernel_rfl⟩
abbrev CwR (g : Nat) (args : Array Value) (w : World) (v : Value) : Prop := Calls Try.prog g args w fun e w' => e = .returned v ∧ Go.AX.Below (Go.AX.Fz.lt w.heap.size) w w'
theorem runC {nu : Nat → Value} {one : ∀ i, i < 1000000 → (nu i).oneCell' = true} {tb : Tab} {ra : AV} {v : Value} (hnr : noR 8 ra = true) (h : AllOk (cx nu one 0 laidE laidE_stab) tb) (hng : tb.ng = 1) {f g : Nat} {fi : FI} (hfi : tb.fn.get g = some fi) (hb : fi.body.isSome = true) {l : List AV} {args : List Value}
    (hr : okA (call tb f g l ⟨H0 , 1, 0, 0⟩) ra = true) (hl : RelL (cx nu one 0 laidE laidE_stab) (fun _ => none) l args) (w : World) (hw : laidE w) (hv : ∀ x, Rel (cx nu one 0 laidE laidE_stab) (fun _ => none) ra x → x = v) : CwR g ⟨args⟩ w v :=
  (runA h hng hfi hb hnr hr hl w hw).mono fun e w' he => by
    obtain ⟨x, rfl, hx, hb2⟩ := he
    exact ⟨by rw [hv x hx], hb2⟩
abbrev isRB (r : Int × Int × LB × Int) : Prop := 1 ≤ r.1 ∧ r.1 ≤ 255 ∧ 0 ≤ r.2.1 ∧ r.2.1 ≤ 65535 ∧ (r.2.2.1.length : Int) ≤ 65535 ∧ 0 ≤ r.2.2.2 ∧ r.2.2.2 ≤ 255
def rbP (r : Int × Int × LB × Int) : LB := [u8 1, u8 (r.1 % 256), u8 ((r.2.1 / 256) % 256), u8 (r.2.1 % 256), u8 (((r.2.2.1.length : Int) / 256) % 256), u8 ((r.2.2.1.length : Int) % 256), u8 (r.2.2.2 % 256), u8 0] ++ (r.2.2.1 ++ List.replicate (Int.toNat r.2.2.2) 0)
def rbO (r : Int × Int × LB × Int) : LB := if isRB r then rbP r else []
def rbS (l : List (Int × Int × LB × Int)) : LB := l.flatMap rbO
def okC (l : List (Int × Int × LB × Int)) : Bool := l.all fun r => decide (r.2.2.1.length ≤ 400)
theorem rbP_len (r : Int × Int × LB × Int) : (rbP r).length = 8 + r.2.2.1.length + r.2.2.2.toNat := by
  unfold rbP; simp only [List.length_append, List.length_cons, List.length_nil, List.length_replicate]; omega
theorem rbS_len : ∀ l : List (Int × Int × LB × Int), okC l = true → (rbS l).length ≤ 663 * l.length
  | [], _ => Nat.le_refl _
  | r :: l, h => by
    unfold okC at h
    rw [List.all_cons, Bool.and_eq_true] at h
    have h0 := of_decide_eq_true h.1
    have h1 := rbS_len l h.2
    have e : rbS (r :: l) = rbO r ++ rbS l := List.flatMap_cons
    rw [e, List.length_append, List.length_cons]
    unfold rbO
    split
    · rename_i hr
      rw [rbP_len]; omega
    · rw [List.length_nil]; omega
section
variable {z : List (Int × Int × LB × Int)} {i : Int} {T : LB}
theorem ra_y (h0 : 0 ≤ i) (h1 : i < (z.length : Int)) (hy : isRB (nthR z i.toNat)) (h : T = rbS (z.take i.toNat)) : T ++ rbP (nthR z i.toNat) = rbS (z.take (i + 1).toNat) := by
  subst h; rw [takeR h0 h1, rbS, rbS, List.flatMap_append, List.flatMap_cons, List.flatMap_nil, List.append_nil, rbO, if_pos hy]
theorem ra_n (h0 : 0 ≤ i) (h1 : i < (z.length : Int)) (hy : ¬ isRB (nthR z i.toNat)) (h : T = rbS (z.take i.toNat)) : T = rbS (z.take (i + 1).toNat) := by
  subst h; rw [takeR h0 h1, rbS, rbS, List.flatMap_append, List.flatMap_cons, List.flatMap_nil, List.append_nil, rbO, if_neg hy, List.append_nil]
theorem ra_x (h0 : 0 ≤ i) (h1 : ¬ i < (z.length : Int)) (h : T = rbS (z.take i.toNat)) : T = rbS z := by
  rw [List.take_of_length_le (by omega)] at h; exact h
theorem oc_a (h0 : 0 ≤ i) (h1 : i < (z.length : Int)) (h : okC (z.take i.toNat) = true) (hc : (nthR z i.toNat).2.2.1.length ≤ 400) : okC (z.take (i + 1).toNat) = true := by
  rw [takeR h0 h1]; unfold okC at h ⊢; rw [List.all_append, h, List.all_cons, List.all_nil, decide_eq_true hc]; rfl
theorem oc_x (h0 : 0 ≤ i) (h1 : ¬ i < (z.length : Int)) (h : okC (z.take i.toNat) = true) : okC z = true := by
  rw [List.take_of_length_le (by omega)] at h; exact h
theorem oc_at (h0 : 0 ≤ i) (h1 : i < (z.length : Int)) (h : okC z = true) : (nthR z i.toNat).2.2.1.length ≤ 400 := by
  have hi : i.toNat < z.length := by omega
  have hm := List.all_eq_true.1 h _ (List.getElem_mem hi)
  have e : nthR z i.toNat = z[i.toNat] := by rw [nthR, List.getD_eq_getElem?_getD, List.getElem?_eq_getElem hi]; rfl
  rw [e]; exact of_decide_eq_true hm
theorem rs_y (h0 : 0 ≤ i) (h1 : i < (z.length : Int)) (hy : isRB (nthR z i.toNat)) : rbS (z.drop i.toNat) = rbP (nthR z i.toNat) ++ rbS (z.drop (i + 1).toNat) := by
  rw [dropR h0 h1, rbS, List.flatMap_cons, rbO, if_pos hy]; rfl
theorem rs_n (h0 : 0 ≤ i) (h1 : i < (z.length : Int)) (hy : ¬ isRB (nthR z i.toNat)) : rbS (z.drop i.toNat) = rbS (z.drop (i + 1).toNat) := by
  rw [dropR h0 h1, rbS, List.flatMap_cons, rbO, if_neg hy]; rfl
theorem rs_x (h0 : 0 ≤ i) (h1 : ¬ i < (z.length : Int)) : rbS (z.drop i.toNat) = [] := by
  rw [List.drop_eq_nil_of_le (by omega)]; rfl
theorem rs_len (h : okC z = true) (h2 : z.length ≤ 12) : (rbS (z.drop i.toNat)).length ≤ 7956 := by
  have h3 : okC (z.drop i.toNat) = true := List.all_eq_true.2 fun x hx => List.all_eq_true.1 h x (List.mem_of_mem_drop hx)
  have := rbS_len _ h3
  rw [List.length_drop] at this
  omega
end
noncomputable def repI (n : Nat) : Bool := okS (call tabk 9000 19 [.s 1 0, .i .i64 (.ofNat n)] ⟨H0 , 1, 0, 0⟩) n 0
theorem rep0 : allN (repI ) 0 16 = true := by kernel_rfl
theorem rep4 : allN (repI ) 64 16 = true := by kernel_rfl
theorem rep8 : allN (repI ) 128 16 = true := by kernel_rfl
theorem rep12 : allN (repI ) 192 16 = true := by kernel_rfl
end Go.Proofs.Ytkhcgoeccmkmdaa.recordRows
