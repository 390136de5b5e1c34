/- A part of the proof: an interpreter of the model's own code on partly known states, and that what it answers is what the program answers. No condition of its own. -/
import Derived.Test.YtkhcgoeccmkmdaaSeatP1
import Derived.Test.YtkhcgoeccmkmdaaHXpart4
import Derived.Test.YtkhcgoeccmkmdaaAXro
import Derived.Test.YtkhcgoeccmkmdaaHKA
set_option maxRecDepth 100000
set_option linter.unusedVariables false
set_option linter.unusedSimpArgs false
namespace Go.Proofs.Ytkhcgoeccmkmdaa.poolNumbers
open Go Go.AX Go.Proofs Go.Proofs.Ytkhcgoeccmkmdaa
/-- the variables that the runs read are laid -/
def laidE (w : World) : Prop := True
theorem laidE_stab : ∀ w w' : World, (∀ k, k < 0 → w'.heap[k]? = w.heap[k]?) → laidE w → laidE w' := fun w w' h _ => trivial
theorem laidE_size {w : World} (h : laidE w) : 0 ≤ w.heap.size := by
  exact Nat.zero_le _
noncomputable def H0 : T Ent := .leaf
theorem runP {nu : Nat → Value} {one : ∀ i, i < 1000000 → (nu i).oneCell' = true} {tb : Tab} (h : AllOk (cx nu one 0 laidE laidE_stab) tb) (hng : tb.ng = 1) {f g : Nat} {fi : FI} (hfi : tb.fn.get g = some fi) (hb : fi.body.isSome = true) {l : List AV} {args : List Value}
    (hr : okB (call tb f g l ⟨H0 , 1, 0, 0⟩) = true) (hl : RelL (cx nu one 0 laidE laidE_stab) (fun _ => none) l args) (w : World) (hw : laidE w) :
    Calls Try.prog g ⟨args⟩ w fun e w' => e = .returned (.bool true) ∧ Go.AX.Below (Go.AX.Fz.lt w.heap.size) w w' := by
  obtain ⟨S, hS⟩ := okB_inv hr
  refine (run_okG h (H := H0 ) hfi hb (by rw [hng]; exact hS) hl w hw (laidE_size hw) fun v k hv => ?_).mono fun e' w' he => ?_
  · unfold H0 at hv
    simp [T.get_leaf] at hv
  · obtain ⟨x, ρ, rfl, hx, hb⟩ := he
    simp only [Rel] at hx
    exact ⟨by rw [hx], hb⟩
theorem runS {nu : Nat → Value} {one : ∀ i, i < 1000000 → (nu i).oneCell' = true} {tb : Tab} (h : AllOk (cx nu one 0 laidE laidE_stab) tb) (hng : tb.ng = 1) {f g : Nat} {fi : FI} (hfi : tb.fn.get g = some fi) (hb : fi.body.isSome = true) {l : List AV} {args : List Value} {len n : Nat}
    (hr : okS (call tb f g l ⟨H0 , 1, 0, 0⟩) len n = true) (hl : RelL (cx nu one 0 laidE laidE_stab) (fun _ => none) l args) (w : World) (hw : laidE w) :
    Calls Try.prog g ⟨args⟩ w fun e w' => e = .returned (St' (strB len n)) ∧ Go.AX.Below (Go.AX.Fz.lt w.heap.size) w w' := by
  obtain ⟨S, hS⟩ := okS_inv hr
  refine (run_okG h (H := H0 ) hfi hb (by rw [hng]; exact hS) hl w hw (laidE_size hw) fun v k hv => ?_).mono fun e' w' he => ?_
  · unfold H0 at hv
    simp [T.get_leaf] at hv
  · obtain ⟨x, ρ, rfl, hx, hb⟩ := he
    simp only [Rel] at hx
    exact ⟨by rw [hx.1], hb⟩
theorem runA {nu : Nat → Value} {one : ∀ i, i < 1000000 → (nu i).oneCell' = true} {tb : Tab} (h : AllOk (cx nu one 0 laidE laidE_stab) tb) (hng : tb.ng = 1) {f g : Nat} {fi : FI} (hfi : tb.fn.get g = some fi) (hb : fi.body.isSome = true) {l : List AV} {args : List Value} {ra : AV} (hnr : noR 8 ra = true)
    (hr : okA (call tb f g l ⟨H0 , 1, 0, 0⟩) ra = true) (hl : RelL (cx nu one 0 laidE laidE_stab) (fun _ => none) l args) (w : World) (hw : laidE w) :
    Calls Try.prog g ⟨args⟩ w fun e w' => ∃ x, e = .returned x ∧ Rel (cx nu one 0 laidE laidE_stab) (fun _ => none) ra x ∧ Go.AX.Below (Go.AX.Fz.lt w.heap.size) w w' := by
  obtain ⟨S, hS⟩ := okA_inv hr
  refine (run_okG h (H := H0 ) hfi hb (by rw [hng]; exact hS) hl w hw (laidE_size hw) fun v k hv => ?_).mono fun e' w' he => ?_
  · unfold H0 at hv
    simp [T.get_leaf] at hv
  · obtain ⟨x, ρ, rfl, hx, hb⟩ := he
    exact ⟨x, rfl, noR_rel 8 _ hnr _ hx, hb⟩
theorem runPR {nu : Nat → Value} {one : ∀ i, i < 1000000 → (nu i).oneCell' = true} {tb : Tab} (h : AllOk (cx nu one 0 laidE laidE_stab) tb) (hng : tb.ng = 1) {f g : Nat} {fi : FI} (hfi : tb.fn.get g = some fi) (hb : fi.body.isSome = true) {l : List AV} {args : List Value} (rs0 : List Ent) (rs : List R)
    (hr : okB (call tb f g l ⟨addR 1 rs0 (H0 ), 1 + rs0.length, 0, 0⟩) = true) (hl : RelL (cx nu one 0 laidE laidE_stab) (rhoA 1 rs) l args) (w : World) (hw : laidE w) (hlen : rs0.length = rs.length) (hbd : 1 + rs0.length ≤ 16777213) (hA : ∀ (j : Nat) (k : Ent) (r : R), rs0[j]? = some k → rs[j]? = some r → ArgAt (cx nu one 0 laidE laidE_stab) w (H0 ) k r) (hnd : ∀ (i j : Nat) (r q : R), rs[i]? = some r → rs[j]? = some q → r.blk = q.blk → i = j) :
    Calls Try.prog g ⟨args⟩ w fun e w' => e = .returned (.bool true) ∧ Go.AX.Below (Go.AX.Fz.lt w.heap.size) w w' := by
  obtain ⟨S, hS⟩ := okB_inv hr
  refine (run_okGA h (H := H0 ) hfi hb rs0 rs (by rw [hng]; exact hS) (by rw [hng]; exact hl) w hw (laidE_size hw) hlen (by rw [hng]; exact hbd) (hA ) hnd fun v k hv => ?_).mono fun e' w' he => ?_
  · unfold H0 at hv
    simp [T.get_leaf] at hv
  · obtain ⟨x, ρ, rfl, hx, hb⟩ := he
    simp only [Rel] at hx
    exact ⟨by rw [hx], hb⟩
noncomputable def fk : FI := ⟨Try.f10.body, Try.f10.ntmps, Try.f10.results.toList, 0, none, []⟩
theorem fk_at : tab.fn.get 10 = some fk := by kernel_rfl
theorem fk_body : fk.body.isSome = true := by kernel_rfl
theorem kk : okB (call tab 6000 10 [] ⟨H0 , 1, 0, 0⟩) = true := by kernel_rfl
noncomputable def tabk : Tab := addSum tab 10 fk (.b true)
section
variable (nu : Nat → Value) (one : ∀ i, i < 1000000 → (nu i).oneCell' = true)
theorem sumk : SumOk (cx nu one 0 laidE laidE_stab) 10 (.b true) := fun w hi hs => by
  refine (runP (tabOk nu one 0 laidE laidE_stab) rfl fk_at fk_body kk (args := []) (by simp only [RelL]) w hi).mono fun e w' he => ?_
  exact ⟨.bool true, he.1, by simp only [Rel], he.2⟩
theorem tabkOk : AllOk (cx nu one 0 laidE laidE_stab) tabk := (tabOk nu one 0 laidE laidE_stab).sum (by omega) fk_at fk_body (sumk nu one)
end
theorem tu3 : Try.prog.underlying 3 = some (.int .i64) := by kernel_rfl
noncomputable def tbl (h : LK) : Tab := { tabk with hyp := h }
theorem fiE : ∃ fi, tabk.fn.get 5 = some fi ∧ fi.body.isSome = true := ⟨_, rfl, by kernel_rfl⟩
abbrev CwR (g : Nat) (args : Array Value) (w : World) (v : Value) : Prop := Calls Try.prog g args w fun e w' => e = .returned v ∧ Go.AX.Below (Go.AX.Fz.lt w.heap.size) w w'
theorem runC {nu : Nat → Value} {one : ∀ i, i < 1000000 → (nu i).oneCell' = true} {tb : Tab} {ra : AV} {v : Value} (hnr : noR 8 ra = true) (h : AllOk (cx nu one 0 laidE laidE_stab) tb) (hng : tb.ng = 1) {f g : Nat} {fi : FI} (hfi : tb.fn.get g = some fi) (hb : fi.body.isSome = true) {l : List AV} {args : List Value}
    (hr : okA (call tb f g l ⟨H0 , 1, 0, 0⟩) ra = true) (hl : RelL (cx nu one 0 laidE laidE_stab) (fun _ => none) l args) (w : World) (hw : laidE w) (hv : ∀ x, Rel (cx nu one 0 laidE laidE_stab) (fun _ => none) ra x → x = v) : CwR g ⟨args⟩ w v :=
  (runA h hng hfi hb hnr hr hl w hw).mono fun e w' he => by
    obtain ⟨x, rfl, hx, hb2⟩ := he
    exact ⟨by rw [hv x hx], hb2⟩
def stp (s : Nat × Int × Int × Int) (q : Int) : Nat × Int × Int × Int :=
  if s.1 = 0 ∨ s.1 = 2 then (1, s.2.1 + 1, s.2.1 + 1, s.2.2.2)
  else if s.1 = 5 then (4, s.2.1 + 1, s.2.1 + 1, s.2.2.2)
  else if s.1 = 1 then (if q % 3 = 0 then (2, s.2.1, s.2.2.1, s.2.2.2) else (3, s.2.1 + 1, s.2.2.1, s.2.1 + 1))
  else if s.1 = 4 then (if q % 3 = 0 then (5, s.2.1, s.2.2.1, s.2.2.2) else (3, s.2.1 + 1, s.2.2.1, s.2.1 + 1))
  else if q % 3 = 0 then (if q % 2 = 0 then (4, s.2.1, s.2.2.2, s.2.2.2) else (4, s.2.1, s.2.2.1, s.2.2.2)) else s
def smu (s : Nat × Int × Int × Int) : List Int → Nat × Int × Int × Int
  | [] => s
  | q :: l => smu (stp s q) l
def okT (s : Nat × Int × Int × Int) (k : Int) : Prop := s.1 ≤ 5 ∧ 0 ≤ s.2.1 ∧ s.2.1 ≤ k ∧ (s.1 = 1 ∨ s.1 = 3 ∨ s.1 = 4 → 1 ≤ s.2.2.1 ∧ s.2.2.1 ≤ s.2.1) ∧ (s.1 = 3 → s.2.2.1 < s.2.2.2 ∧ s.2.2.2 ≤ s.2.1)
theorem stp_ok {s : Nat × Int × Int × Int} {k q : Int} (h : okT s k) : okT (stp s q) (k + 1) := by
  obtain ⟨t, m, a, b⟩ := s
  simp only [okT, stp] at h ⊢
  obtain ⟨h0, h1, h2, h3, h4⟩ := h
  repeat' split
  all_goals refine ⟨?_, ?_, ?_, ?_, ?_⟩
  all_goals simp only []
  all_goals omega
theorem smu_ok : ∀ (l : List Int) (s : Nat × Int × Int × Int) (k : Int), okT s k → okT (smu s l) (k + l.length)
  | [], s, k, h => by simpa [smu] using h
  | q :: l, s, k, h => by
    have := smu_ok l (stp s q) (k + 1) (stp_ok h)
    rw [List.length_cons, smu]
    have e : k + ((l.length + 1 : Nat) : Int) = k + 1 + (l.length : Int) := by omega
    rw [e]; exact this
theorem smu_rng (z : List Int) : (smu (0, 0, 0, 0) z).1 ≤ 5 ∧ 0 ≤ (smu (0, 0, 0, 0) z).2.1 ∧ (smu (0, 0, 0, 0) z).2.1 ≤ z.length ∧ ((smu (0, 0, 0, 0) z).1 = 1 ∨ (smu (0, 0, 0, 0) z).1 = 3 ∨ (smu (0, 0, 0, 0) z).1 = 4 → 1 ≤ (smu (0, 0, 0, 0) z).2.2.1 ∧ (smu (0, 0, 0, 0) z).2.2.1 ≤ (smu (0, 0, 0, 0) z).2.1) ∧ ((smu (0, 0, 0, 0) z).1 = 3 → (smu (0, 0, 0, 0) z).2.2.1 < (smu (0, 0, 0, 0) z).2.2.2 ∧ (smu (0, 0, 0, 0) z).2.2.2 ≤ (smu (0, 0, 0, 0) z).2.1) := by
  have h := smu_ok z (0, 0, 0, 0) 0 ⟨by decide, by decide, by decide, by simp, by simp⟩
  rw [Int.zero_add] at h
  exact h
theorem dropI {l : List Int} {i : Int} (h0 : 0 ≤ i) (h1 : i < (l.length : Int)) : l.drop i.toNat = nthI l i.toNat :: l.drop (i + 1).toNat := by
  have hi : i.toNat < l.length := by omega
  have e : (i + 1).toNat = i.toNat + 1 := by omega
  rw [e, List.drop_eq_getElem_cons hi, nthI, List.getD_eq_getElem?_getD, List.getElem?_eq_getElem hi]; rfl
section
variable {m a b q : Int}
theorem st1c (h : q % 3 = 0) : stp (1, m, a, b) q = (2, m, a, b) := by simp [stp, h]
theorem st1o (h : ¬ q % 3 = 0) : stp (1, m, a, b) q = (3, m + 1, a, m + 1) := by simp [stp, h]
theorem st4c (h : q % 3 = 0) : stp (4, m, a, b) q = (5, m, a, b) := by simp [stp, h]
theorem st4o (h : ¬ q % 3 = 0) : stp (4, m, a, b) q = (3, m + 1, a, m + 1) := by simp [stp, h]
theorem st3a (h : q % 3 = 0) (h2 : q % 2 = 0) : stp (3, m, a, b) q = (4, m, b, b) := by simp [stp, h, h2]
theorem st3b (h : q % 3 = 0) (h2 : ¬ q % 2 = 0) : stp (3, m, a, b) q = (4, m, a, b) := by simp [stp, h, h2]
theorem st3n (h : ¬ q % 3 = 0) : stp (3, m, a, b) q = (3, m, a, b) := by simp [stp, h]
end
section
variable {z : List Int} {i : Int} {s s' S : Nat × Int × Int × Int}
theorem sm_a (h0 : 0 ≤ i) (h1 : i < (z.length : Int)) (h : smu s (z.drop i.toNat) = S) (hs : stp s (nthI z i.toNat) = s') : smu s' (z.drop (i + 1).toNat) = S := by
  subst hs; rw [dropI h0 h1, smu] at h; exact h
theorem sm_x (h0 : 0 ≤ i) (h1 : ¬ i < (z.length : Int)) (h : smu s (z.drop i.toNat) = S) : s = S := by
  rw [List.drop_eq_nil_of_le (by omega)] at h; exact h
theorem q4 {a b c d : Int} {t u : Nat} (h0 : t = u) (h1 : a = b) (h2 : c = d) {e f : Int} (h3 : e = f) : (t, a, c, e) = (u, b, d, f) := by subst h0; subst h1; subst h2; subst h3; rfl
end
variable {nu : Nat → Value} {one : ∀ i, i < 1000000 → (nu i).oneCell' = true} {E' : Cx} {x' : Ex} {e' : LA} {h' : LE}
noncomputable def bodyPn : Code := loopNo (Try.f5.body.getD .skip) 0
theorem keyPn : oneKey (loopsOf (Try.f5.body.getD .skip)) 8 0 0 = true := by kernel_rfl
def keepPn : List Nat := []
def epPn_0 : LA := [(0, .sr 1), (3, .p 2 0), (4, .x 1), (5, .x 0)]
def hpPn_0 : LE := [(1, .r 2000000 5 1 true), (2, .b ⟨56, .l [.i .i64 (.ofNat 1), .i .i64 (.ofNat 2), .i .i64 (.ofNat 1), .x 1, .nils], 0, 0, 0, false, false⟩)]
def nuPn_0 (z : List Int) (T : Nat) (M A B i m a b : Int) : List Value := [.int .i64 (i), .int .i64 (m), .int .i64 ((z.length : Int)), .int .u8 (nthI z (Int.toNat (i))), .int .u8 ((nthI z (Int.toNat (i))) % 3), .int .i64 (m + 1), .int .i64 (i + 1), .int .i64 ((z.length : Int)), .int .u8 (nthI z (Int.toNat (i))), .int .u8 ((nthI z (Int.toNat (i))) % 3), .int .i64 (m + 1), .int .i64 (i + 1), .int .i64 ((z.length : Int))]
def roPn_0 (z : List Int) (T : Nat) (M A B i m a b : Int) : List Value := [rwI .u8 z]
def epPn_1 : LA := [(0, .sr 1), (3, .p 2 0), (4, .x 1), (5, .x 0)]
def hpPn_1 : LE := [(1, .r 2000000 5 1 true), (2, .b ⟨56, .l [.i .i64 (.ofNat 1), .i .i64 (.ofNat 2), .i .i64 (.ofNat 1), .x 1, .sl 3 0 1 0 true], 0, 0, 0, false, false⟩), (3, .b ⟨58, .l [.p 4 0], 1, 1, 0, false, true⟩), (4, .b ⟨61, .l [.x 2, .i .i64 (.ofNat 0), .p 5 0], 0, 0, 0, false, false⟩), (5, .b ⟨66, .l [.sl 6 0 1 1 false, .p 9 0, .s 0 0, .i .i64 (.ofNat 0), .nils, .b false], 0, 0, 0, false, false⟩), (6, .b ⟨67, .l [.p 7 0], 0, 0, 0, false, false⟩), (7, .b ⟨111, .l [.i .i64 (.ofNat 1), .sl 8 0 3 0 true, .b false, .b false, .b false, .b false, .b false, .i .u32 (.ofNat 0), .i .i64 (.ofNat 0)], 0, 0, 0, false, false⟩), (8, .b ⟨25, .l [.i .i64 (.ofNat 1), .i .i64 (.ofNat 1), .s 8 65792, .i .i64 (.ofNat 0), .i .i64 (.ofNat 4), .i .i64 (.ofNat 1), .s 0 0, .i .i64 (.ofNat 0), .i .i64 (.ofNat 5), .i .i64 (.ofNat 1), .s 0 0, .i .i64 (.ofNat 0)], 12, 4, 0, false, true⟩), (9, .b ⟨123, .l [.i .i64 (.ofNat 65535), .nils, .i .i64 (.ofNat 0), .b false], 0, 0, 0, false, false⟩)]
def nuPn_1 (z : List Int) (T : Nat) (M A B i m a b : Int) : List Value := [.int .i64 (i), .int .i64 (m), .int .i64 (a), .int .i64 ((z.length : Int)), .int .u8 (nthI z (Int.toNat (i))), .int .u8 ((nthI z (Int.toNat (i))) % 3), .int .i64 ((nthI z (Int.toNat (i)))), .int .i64 (i + 1), .int .i64 ((z.length : Int)), .int .u8 (nthI z (Int.toNat (i))), .int .u8 ((nthI z (Int.toNat (i))) % 3), .int .i64 (m + 1), .int .i64 (i + 1), .int .i64 ((z.length : Int))]
def roPn_1 (z : List Int) (T : Nat) (M A B i m a b : Int) : List Value := [rwI .u8 z]
def epPn_2 : LA := [(0, .sr 1), (3, .p 2 0), (4, .x 1), (5, .x 0)]
def hpPn_2 : LE := [(1, .r 2000000 5 1 true), (2, .b ⟨56, .l [.i .i64 (.ofNat 1), .i .i64 (.ofNat 2), .i .i64 (.ofNat 1), .x 1, .sl 3 0 0 0 true], 0, 0, 0, false, false⟩), (3, .b ⟨58, .l [.nilp], 1, 1, 0, false, true⟩)]
def nuPn_2 (z : List Int) (T : Nat) (M A B i m a b : Int) : List Value := [.int .i64 (i), .int .i64 (m), .int .i64 ((z.length : Int)), .int .u8 (nthI z (Int.toNat (i))), .int .u8 ((nthI z (Int.toNat (i))) % 3), .int .i64 (m + 1), .int .i64 (i + 1), .int .i64 ((z.length : Int)), .int .u8 (nthI z (Int.toNat (i))), .int .u8 ((nthI z (Int.toNat (i))) % 3), .int .i64 (m + 1), .int .i64 (i + 1), .int .i64 ((z.length : Int))]
def roPn_2 (z : List Int) (T : Nat) (M A B i m a b : Int) : List Value := [rwI .u8 z]
def epPn_3 : LA := [(0, .sr 1), (3, .p 2 0), (4, .x 1), (5, .x 0)]
def hpPn_3 : LE := [(1, .r 2000000 5 1 true), (2, .b ⟨56, .l [.i .i64 (.ofNat 1), .i .i64 (.ofNat 2), .i .i64 (.ofNat 1), .x 1, .sl 3 0 2 0 true], 0, 0, 0, false, false⟩), (3, .b ⟨58, .l [.p 4 0, .p 10 0], 2, 1, 0, false, true⟩), (4, .b ⟨61, .l [.x 2, .i .i64 (.ofNat 0), .p 5 0], 0, 0, 0, false, false⟩), (5, .b ⟨66, .l [.sl 6 0 1 1 false, .p 9 0, .s 0 0, .i .i64 (.ofNat 0), .nils, .b false], 0, 0, 0, false, false⟩), (6, .b ⟨67, .l [.p 7 0], 0, 0, 0, false, false⟩), (7, .b ⟨111, .l [.i .i64 (.ofNat 1), .sl 8 0 3 0 true, .b false, .b false, .b false, .b false, .b false, .i .u32 (.ofNat 0), .i .i64 (.ofNat 0)], 0, 0, 0, false, false⟩), (8, .b ⟨25, .l [.i .i64 (.ofNat 1), .i .i64 (.ofNat 1), .s 8 65792, .i .i64 (.ofNat 0), .i .i64 (.ofNat 4), .i .i64 (.ofNat 1), .s 0 0, .i .i64 (.ofNat 0), .i .i64 (.ofNat 5), .i .i64 (.ofNat 1), .s 0 0, .i .i64 (.ofNat 0)], 12, 4, 0, false, true⟩), (9, .b ⟨123, .l [.i .i64 (.ofNat 65535), .nils, .i .i64 (.ofNat 0), .b false], 0, 0, 0, false, false⟩), (10, .b ⟨61, .l [.x 3, .i .i64 (.ofNat 0), .p 11 0], 0, 0, 0, false, false⟩), (11, .b ⟨66, .l [.sl 12 0 1 1 false, .p 15 0, .s 0 0, .i .i64 (.ofNat 0), .nils, .b false], 0, 0, 0, false, false⟩), (12, .b ⟨67, .l [.p 13 0], 0, 0, 0, false, false⟩), (13, .b ⟨111, .l [.i .i64 (.ofNat 1), .sl 14 0 3 0 true, .b false, .b false, .b false, .b false, .b false, .i .u32 (.ofNat 0), .i .i64 (.ofNat 0)], 0, 0, 0, false, false⟩), (14, .b ⟨25, .l [.i .i64 (.ofNat 1), .i .i64 (.ofNat 1), .s 8 65792, .i .i64 (.ofNat 0), .i .i64 (.ofNat 4), .i .i64 (.ofNat 1), .s 0 0, .i .i64 (.ofNat 0), .i .i64 (.ofNat 5), .i .i64 (.ofNat 1), .s 0 0, .i .i64 (.ofNat 0)], 12, 4, 0, false, true⟩), (15, .b ⟨123, .l [.i .i64 (.ofNat 65535), .nils, .i .i64 (.ofNat 0), .b false], 0, 0, 0, false, false⟩)]
def nuPn_3 (z : List Int) (T : Nat) (M A B i m a b : Int) : List Value := [.int .i64 (i), .int .i64 (m), .int .i64 (a), .int .i64 (b), .int .i64 ((z.length : Int)), .int .u8 (nthI z (Int.toNat (i))), .int .u8 ((nthI z (Int.toNat (i))) % 3), .int .i64 ((nthI z (Int.toNat (i)))), .int .i64 (i + 1), .int .i64 ((z.length : Int)), .int .u8 (nthI z (Int.toNat (i))), .int .u8 ((nthI z (Int.toNat (i))) % 3), .int .i64 ((nthI z (Int.toNat (i)))), .int .i64 (i + 1), .int .i64 ((z.length : Int)), .int .u8 (nthI z (Int.toNat (i))), .int .u8 ((nthI z (Int.toNat (i))) % 3), .int .i64 (i + 1), .int .i64 ((z.length : Int))]
def roPn_3 (z : List Int) (T : Nat) (M A B i m a b : Int) : List Value := [rwI .u8 z]
def epPn_4 : LA := [(0, .sr 1), (3, .p 2 0), (4, .x 1), (5, .x 0)]
def hpPn_4 : LE := [(1, .r 2000000 5 1 true), (2, .b ⟨56, .l [.i .i64 (.ofNat 1), .i .i64 (.ofNat 2), .i .i64 (.ofNat 1), .x 1, .sl 3 0 1 0 true], 0, 0, 0, false, false⟩), (3, .b ⟨58, .l [.p 4 0, .nilp], 2, 1, 0, false, true⟩), (4, .b ⟨61, .l [.x 2, .i .i64 (.ofNat 0), .p 5 0], 0, 0, 0, false, false⟩), (5, .b ⟨66, .l [.sl 6 0 1 1 false, .p 9 0, .s 0 0, .i .i64 (.ofNat 0), .nils, .b false], 0, 0, 0, false, false⟩), (6, .b ⟨67, .l [.p 7 0], 0, 0, 0, false, false⟩), (7, .b ⟨111, .l [.i .i64 (.ofNat 1), .sl 8 0 3 0 true, .b false, .b false, .b false, .b false, .b false, .i .u32 (.ofNat 0), .i .i64 (.ofNat 0)], 0, 0, 0, false, false⟩), (8, .b ⟨25, .l [.i .i64 (.ofNat 1), .i .i64 (.ofNat 1), .s 8 65792, .i .i64 (.ofNat 0), .i .i64 (.ofNat 4), .i .i64 (.ofNat 1), .s 0 0, .i .i64 (.ofNat 0), .i .i64 (.ofNat 5), .i .i64 (.ofNat 1), .s 0 0, .i .i64 (.ofNat 0)], 12, 4, 0, false, true⟩), (9, .b ⟨123, .l [.i .i64 (.ofNat 65535), .nils, .i .i64 (.ofNat 0), .b false], 0, 0, 0, false, false⟩)]
def nuPn_4 (z : List Int) (T : Nat) (M A B i m a b : Int) : List Value := [.int .i64 (i), .int .i64 (m), .int .i64 (a), .int .i64 ((z.length : Int)), .int .u8 (nthI z (Int.toNat (i))), .int .u8 ((nthI z (Int.toNat (i))) % 3), .int .i64 ((nthI z (Int.toNat (i)))), .int .i64 (i + 1), .int .i64 ((z.length : Int)), .int .u8 (nthI z (Int.toNat (i))), .int .u8 ((nthI z (Int.toNat (i))) % 3), .int .i64 (m + 1), .int .i64 (i + 1), .int .i64 ((z.length : Int))]
def roPn_4 (z : List Int) (T : Nat) (M A B i m a b : Int) : List Value := [rwI .u8 z]
def epPn_5 : LA := [(0, .sr 1), (3, .p 2 0), (4, .x 1), (5, .x 0)]
def hpPn_5 : LE := [(1, .r 2000000 5 1 true), (2, .b ⟨56, .l [.i .i64 (.ofNat 1), .i .i64 (.ofNat 2), .i .i64 (.ofNat 1), .x 1, .sl 3 0 0 0 true], 0, 0, 0, false, false⟩), (3, .b ⟨58, .l [.nilp, .nilp], 2, 1, 0, false, true⟩)]
def nuPn_5 (z : List Int) (T : Nat) (M A B i m a b : Int) : List Value := [.int .i64 (i), .int .i64 (m), .int .i64 ((z.length : Int)), .int .u8 (nthI z (Int.toNat (i))), .int .u8 ((nthI z (Int.toNat (i))) % 3), .int .i64 (m + 1), .int .i64 (i + 1), .int .i64 ((z.length : Int)), .int .u8 (nthI z (Int.toNat (i))), .int .u8 ((nthI z (Int.toNat (i))) % 3), .int .i64 (m + 1), .int .i64 (i + 1), .int .i64 ((z.length : Int))]
def roPn_5 (z : List Int) (T : Nat) (M A B i m a b : Int) : List Value := [rwI .u8 z]
def epPn (st : Nat × Int × Int × Int × Int) : LA := if st.1 = 0 then epPn_0 else if st.1 = 1 then epPn_1 else if st.1 = 2 then epPn_2 else if st.1 = 3 then epPn_3 else if st.1 = 4 then epPn_4 else epPn_5
def hpPn (st : Nat × Int × Int × Int × Int) : LE := if st.1 = 0 then hpPn_0 else if st.1 = 1 then hpPn_1 else if st.1 = 2 then hpPn_2 else if st.1 = 3 then hpPn_3 else if st.1 = 4 then hpPn_4 else hpPn_5
def nuPn (z : List Int) (T : Nat) (M A B : Int) (st : Nat × Int × Int × Int × Int) : List Value := if st.1 = 0 then nuPn_0 z T M A B (st.2.1) (st.2.2.1) (st.2.2.2.1) (st.2.2.2.2) else if st.1 = 1 then nuPn_1 z T M A B (st.2.1) (st.2.2.1) (st.2.2.2.1) (st.2.2.2.2) else if st.1 = 2 then nuPn_2 z T M A B (st.2.1) (st.2.2.1) (st.2.2.2.1) (st.2.2.2.2) else if st.1 = 3 then nuPn_3 z T M A B (st.2.1) (st.2.2.1) (st.2.2.2.1) (st.2.2.2.2) else if st.1 = 4 then nuPn_4 z T M A B (st.2.1) (st.2.2.1) (st.2.2.2.1) (st.2.2.2.2) else nuPn_5 z T M A B (st.2.1) (st.2.2.1) (st.2.2.2.1) (st.2.2.2.2)
def roPn (z : List Int) (T : Nat) (M A B : Int) (st : Nat × Int × Int × Int × Int) : List Value := if st.1 = 0 then roPn_0 z T M A B (st.2.1) (st.2.2.1) (st.2.2.2.1) (st.2.2.2.2) else if st.1 = 1 then roPn_1 z T M A B (st.2.1) (st.2.2.1) (st.2.2.2.1) (st.2.2.2.2) else if st.1 = 2 then roPn_2 z T M A B (st.2.1) (st.2.2.1) (st.2.2.2.1) (st.2.2.2.2) else if st.1 = 3 then roPn_3 z T M A B (st.2.1) (st.2.2.1) (st.2.2.2.1) (st.2.2.2.2) else if st.1 = 4 then roPn_4 z T M A B (st.2.1) (st.2.2.1) (st.2.2.2.1) (st.2.2.2.2) else roPn_5 z T M A B (st.2.1) (st.2.2.1) (st.2.2.2.1) (st.2.2.2.2)
theorem onPn (z : List Int) (T : Nat) (M A B : Int) (st : Nat × Int × Int × Int × Int) : ∀ j, (nuL (nuPn z T M A B st) j).oneCell' = true := by
  intro j
  unfold nuPn
  split
  · exact nuL_one (l := nuPn_0 z T M A B (st.2.1) (st.2.2.1) (st.2.2.2.1) (st.2.2.2.2)) rfl j
  split
  · exact nuL_one (l := nuPn_1 z T M A B (st.2.1) (st.2.2.1) (st.2.2.2.1) (st.2.2.2.2)) rfl j
  split
  · exact nuL_one (l := nuPn_2 z T M A B (st.2.1) (st.2.2.1) (st.2.2.2.1) (st.2.2.2.2)) rfl j
  split
  · exact nuL_one (l := nuPn_3 z T M A B (st.2.1) (st.2.2.1) (st.2.2.2.1) (st.2.2.2.2)) rfl j
  split
  · exact nuL_one (l := nuPn_4 z T M A B (st.2.1) (st.2.2.1) (st.2.2.2.1) (st.2.2.2.2)) rfl j
  exact nuL_one (l := nuPn_5 z T M A B (st.2.1) (st.2.2.1) (st.2.2.2.1) (st.2.2.2.2)) rfl j
theorem ebPn (st : Nat × Int × Int × Int × Int) : (lfB (epPn st) && lfC keepPn) = true := by
  unfold epPn
  split
  · rfl
  split
  · rfl
  split
  · rfl
  split
  · rfl
  split
  · rfl
  rfl
noncomputable def DPn (z : List Int) (T : Nat) (M A B : Int) (st : Nat × Int × Int × Int × Int) (X : Nat → Value) : Cx := cx (nuX (nuPn z T M A B st) (rX (roPn z T M A B st) X)) (nuX_one (onPn z T M A B st)) 0 laidE laidE_stab
def InvPn (z : List Int) (T : Nat) (M A B : Int) (st : Nat × Int × Int × Int × Int) : Prop := (0 ≤ (st.2.1)) ∧ ((st.2.1) ≤ (z.length : Int)) ∧ (z.length ≤ 30) ∧ (∀ q, q ∈ z → 0 ≤ q ∧ q ≤ 255) ∧ (0 ≤ (st.2.2.1)) ∧ ((st.2.2.1) ≤ (st.2.1)) ∧ (smu ((st.1), (st.2.2.1), (st.2.2.2.1), (st.2.2.2.2)) (z.drop (Int.toNat (st.2.1))) = (T, M, A, B)) ∧ ((st.1) = 1 ∨ (st.1) = 3 ∨ (st.1) = 4 → 1 ≤ (st.2.2.2.1) ∧ (st.2.2.2.1) ≤ (st.2.2.1)) ∧ ((st.1) = 3 → (st.2.2.2.1) < (st.2.2.2.2) ∧ (st.2.2.2.2) ≤ (st.2.2.1)) ∧ ((st.1) < 6)
abbrev CjPn (z : List Int) (T : Nat) (M A B : Int) (tag : Nat) (i m a b : Int) : Prop := (0 ≤ i) ∧ (i ≤ (z.length : Int)) ∧ (z.length ≤ 30) ∧ (∀ q, q ∈ z → 0 ≤ q ∧ q ≤ 255) ∧ (0 ≤ m) ∧ (m ≤ i) ∧ (smu (tag, m, a, b) (z.drop (Int.toNat i)) = (T, M, A, B)) ∧ (tag = 1 ∨ tag = 3 ∨ tag = 4 → 1 ≤ a ∧ a ≤ m) ∧ (tag = 3 → a < b ∧ b ≤ m) ∧ (tag < 6)
theorem mkIPn (z : List Int) (T : Nat) (M A B : Int) (tag : Nat) (i m a b : Int) (h : CjPn z T M A B tag i m a b) : InvPn z T M A B (tag, i, m, a, b) := h
theorem unIPn (z : List Int) (T : Nat) (M A B : Int) (tag : Nat) (i m a b : Int) (h : InvPn z T M A B (tag, i, m, a, b)) : (0 ≤ i) ∧ (i ≤ (z.length : Int)) ∧ (z.length ≤ 30) ∧ (∀ q, q ∈ z → 0 ≤ q ∧ q ≤ 255) ∧ (0 ≤ m) ∧ (m ≤ i) ∧ (smu (tag, m, a, b) (z.drop (Int.toNat i)) = (T, M, A, B)) ∧ (tag = 1 ∨ tag = 3 ∨ tag = 4 → 1 ≤ a ∧ a ≤ m) ∧ (tag = 3 → a < b ∧ b ≤ m) ∧ (tag < 6) := h
def muPn (z : List Int) (T : Nat) (M A B : Int) (st : Nat × Int × Int × Int × Int) : Nat := (z.length - (st.2.1).toNat)
abbrev RHPn (z : List Int) (T : Nat) (M A B : Int) (E' : Cx) (ex' : Ex) (epx' : LA) (hpx' : LE) (st : Nat × Int × Int × Int × Int) (X : Nat → Value) : Prop := RoundH E' bodyPn keepPn 97 ex' 1 3 16 76 epPn hpPn epx' hpx' (InvPn z T M A B) (muPn z T M A B) (DPn z T M A B) st X
noncomputable abbrev RNPn_0 (h : LK) (x : Ex) (th : LA) (sg : List (Nat × Nat)) (m : Nat) (ep : LA) (hp : LE) : Bool := okRdH (code (tbl h) 3000 [] bodyPn (envOf (headOf epPn_0 keepPn) 97) ⟨lhSet hpPn_0 .leaf, 16, 0, 0⟩) x keepPn 97 76 th sg 3 m ep hp
theorem stPn_0 (z : List Int) (T : Nat) (M A B i m a b : Int) {X : Nat → Value} {h : LK} (y : Nat × Int × Int × Int × Int) {th : LA} {sg : List (Nat × Nat)} (ho : ∀ a' r', (a', r') ∈ h → HOk (cx (nuX (nuPn_0 z T M A B i m a b) (rX (roPn_0 z T M A B i m a b) X)) (nuX_one (nuL_one (l := nuPn_0 z T M A B i m a b) rfl)) 0 laidE laidE_stab) a' r') (hy : InvPn z T M A B y) (lt : muPn z T M A B y < muPn z T M A B (0, i, m, a, b)) (ht : ThOk (cx (nuX (nuPn_0 z T M A B i m a b) (rX (roPn_0 z T M A B i m a b) X)) (nuX_one (nuL_one (l := nuPn_0 z T M A B i m a b) rfl)) 0 laidE laidE_stab) (DPn z T M A B y X) th) (run : RNPn_0 h .normal th sg 16 (epPn y) (hpPn y) = true) : RHPn z T M A B E' x' e' h' (0, i, m, a, b) X :=
  RoundH.next (tb := tbl h) (L := []) (f := 3000) y ((tabkOk _ _).hyps ho) (LpOk.nil _) rfl hy lt ht run
theorem lvPn_0 (z : List Int) (T : Nat) (M A B i m a b : Int) {X : Nat → Value} {h : LK} {th : LA} {sg : List (Nat × Nat)} (hne : exB x' .normal = false) (ho : ∀ a' r', (a', r') ∈ h → HOk (cx (nuX (nuPn_0 z T M A B i m a b) (rX (roPn_0 z T M A B i m a b) X)) (nuX_one (nuL_one (l := nuPn_0 z T M A B i m a b) rfl)) 0 laidE laidE_stab) a' r') (ht : ThOk (cx (nuX (nuPn_0 z T M A B i m a b) (rX (roPn_0 z T M A B i m a b) X)) (nuX_one (nuL_one (l := nuPn_0 z T M A B i m a b) rfl)) 0 laidE laidE_stab) E' th) (run : RNPn_0 h x' th sg 76 e' h' = true) : RHPn z T M A B E' x' e' h' (0, i, m, a, b) X :=
  RoundH.leave (tb := tbl h) (L := []) (f := 3000) ((tabkOk _ _).hyps ho) (LpOk.nil _) rfl hne ht run
noncomputable abbrev RNPn_1 (h : LK) (x : Ex) (th : LA) (sg : List (Nat × Nat)) (m : Nat) (ep : LA) (hp : LE) : Bool := okRdH (code (tbl h) 3000 [] bodyPn (envOf (headOf epPn_1 keepPn) 97) ⟨lhSet hpPn_1 .leaf, 16, 0, 0⟩) x keepPn 97 76 th sg 3 m ep hp
theorem stPn_1 (z : List Int) (T : Nat) (M A B i m a b : Int) {X : Nat → Value} {h : LK} (y : Nat × Int × Int × Int × Int) {th : LA} {sg : List (Nat × Nat)} (ho : ∀ a' r', (a', r') ∈ h → HOk (cx (nuX (nuPn_1 z T M A B i m a b) (rX (roPn_1 z T M A B i m a b) X)) (nuX_one (nuL_one (l := nuPn_1 z T M A B i m a b) rfl)) 0 laidE laidE_stab) a' r') (hy : InvPn z T M A B y) (lt : muPn z T M A B y < muPn z T M A B (1, i, m, a, b)) (ht : ThOk (cx (nuX (nuPn_1 z T M A B i m a b) (rX (roPn_1 z T M A B i m a b) X)) (nuX_one (nuL_one (l := nuPn_1 z T M A B i m a b) rfl)) 0 laidE laidE_stab) (DPn z T M A B y X) th) (run : RNPn_1 h .normal th sg 16 (epPn y) (hpPn y) = true) : RHPn z T M A B E' x' e' h' (1, i, m, a, b) X :=
  RoundH.next (tb := tbl h) (L := []) (f := 3000) y ((tabkOk _ _).hyps ho) (LpOk.nil _) rfl hy lt ht run
theorem lvPn_1 (z : List Int) (T : Nat) (M A B i m a b : Int) {X : Nat → Value} {h : LK} {th : LA} {sg : List (Nat × Nat)} (hne : exB x' .normal = false) (ho : ∀ a' r', (a', r') ∈ h → HOk (cx (nuX (nuPn_1 z T M A B i m a b) (rX (roPn_1 z T M A B i m a b) X)) (nuX_one (nuL_one (l := nuPn_1 z T M A B i m a b) rfl)) 0 laidE laidE_stab) a' r') (ht : ThOk (cx (nuX (nuPn_1 z T M A B i m a b) (rX (roPn_1 z T M A B i m a b) X)) (nuX_one (nuL_one (l := nuPn_1 z T M A B i m a b) rfl)) 0 laidE laidE_stab) E' th) (run : RNPn_1 h x' th sg 76 e' h' = true) : RHPn z T M A B E' x' e' h' (1, i, m, a, b) X :=
  RoundH.leave (tb := tbl h) (L := []) (f := 3000) ((tabkOk _ _).hyps ho) (LpOk.nil _) rfl hne ht run
noncomputable abbrev RNPn_2 (h : LK) (x : Ex) (th : LA) (sg : List (Nat × Nat)) (m : Nat) (ep : LA) (hp : LE) : Bool := okRdH (code (tbl h) 3000 [] bodyPn (envOf (headOf epPn_2 keepPn) 97) ⟨lhSet hpPn_2 .leaf, 16, 0, 0⟩) x keepPn 97 76 th sg 3 m ep hp
theorem stPn_2 (z : List Int) (T : Nat) (M A B i m a b : Int) {X : Nat → Value} {h : LK} (y : Nat × Int × Int × Int × Int) {th : LA} {sg : List (Nat × Nat)} (ho : ∀ a' r', (a', r') ∈ h → HOk (cx (nuX (nuPn_2 z T M A B i m a b) (rX (roPn_2 z T M A B i m a b) X)) (nuX_one (nuL_one (l := nuPn_2 z T M A B i m a b) rfl)) 0 laidE laidE_stab) a' r') (hy : InvPn z T M A B y) (lt : muPn z T M A B y < muPn z T M A B (2, i, m, a, b)) (ht : ThOk (cx (nuX (nuPn_2 z T M A B i m a b) (rX (roPn_2 z T M A B i m a b) X)) (nuX_one (nuL_one (l := nuPn_2 z T M A B i m a b) rfl)) 0 laidE laidE_stab) (DPn z T M A B y X) th) (run : RNPn_2 h .normal th sg 16 (epPn y) (hpPn y) = true) : RHPn z T M A B E' x' e' h' (2, i, m, a, b) X :=
  RoundH.next (tb := tbl h) (L := []) (f := 3000) y ((tabkOk _ _).hyps ho) (LpOk.nil _) rfl hy lt ht run
theorem lvPn_2 (z : List Int) (T : Nat) (M A B i m a b : Int) {X : Nat → Value} {h : LK} {th : LA} {sg : List (Nat × Nat)} (hne : exB x' .normal = false) (ho : ∀ a' r', (a', r') ∈ h → HOk (cx (nuX (nuPn_2 z T M A B i m a b) (rX (roPn_2 z T M A B i m a b) X)) (nuX_one (nuL_one (l := nuPn_2 z T M A B i m a b) rfl)) 0 laidE laidE_stab) a' r') (ht : ThOk (cx (nuX (nuPn_2 z T M A B i m a b) (rX (roPn_2 z T M A B i m a b) X)) (nuX_one (nuL_one (l := nuPn_2 z T M A B i m a b) rfl)) 0 laidE laidE_stab) E' th) (run : RNPn_2 h x' th sg 76 e' h' = true) : RHPn z T M A B E' x' e' h' (2, i, m, a, b) X :=
  RoundH.leave (tb := tbl h) (L := []) (f := 3000) ((tabkOk _ _).hyps ho) (LpOk.nil _) rfl hne ht run
noncomputable abbrev RNPn_3 (h : LK) (x : Ex) (th : LA) (sg : List (Nat × Nat)) (m : Nat) (ep : LA) (hp : LE) : Bool := okRdH (code (tbl h) 3000 [] bodyPn (envOf (headOf epPn_3 keepPn) 97) ⟨lhSet hpPn_3 .leaf, 16, 0, 0⟩) x keepPn 97 76 th sg 3 m ep hp
theorem stPn_3 (z : List Int) (T : Nat) (M A B i m a b : Int) {X : Nat → Value} {h : LK} (y : Nat × Int × Int × Int × Int) {th : LA} {sg : List (Nat × Nat)} (ho : ∀ a' r', (a', r') ∈ h → HOk (cx (nuX (nuPn_3 z T M A B i m a b) (rX (roPn_3 z T M A B i m a b) X)) (nuX_one (nuL_one (l := nuPn_3 z T M A B i m a b) rfl)) 0 laidE laidE_stab) a' r') (hy : InvPn z T M A B y) (lt : muPn z T M A B y < muPn z T M A B (3, i, m, a, b)) (ht : ThOk (cx (nuX (nuPn_3 z T M A B i m a b) (rX (roPn_3 z T M A B i m a b) X)) (nuX_one (nuL_one (l := nuPn_3 z T M A B i m a b) rfl)) 0 laidE laidE_stab) (DPn z T M A B y X) th) (run : RNPn_3 h .normal th sg 16 (epPn y) (hpPn y) = true) : RHPn z T M A B E' x' e' h' (3, i, m, a, b) X :=
  RoundH.next (tb := tbl h) (L := []) (f := 3000) y ((tabkOk _ _).hyps ho) (LpOk.nil _) rfl hy lt ht run
theorem lvPn_3 (z : List Int) (T : Nat) (M A B i m a b : Int) {X : Nat → Value} {h : LK} {th : LA} {sg : List (Nat × Nat)} (hne : exB x' .normal = false) (ho : ∀ a' r', (a', r') ∈ h → HOk (cx (nuX (nuPn_3 z T M A B i m a b) (rX (roPn_3 z T M A B i m a b) X)) (nuX_one (nuL_one (l := nuPn_3 z T M A B i m a b) rfl)) 0 laidE laidE_stab) a' r') (ht : ThOk (cx (nuX (nuPn_3 z T M A B i m a b) (rX (roPn_3 z T M A B i m a b) X)) (nuX_one (nuL_one (l := nuPn_3 z T M A B i m a b) rfl)) 0 laidE laidE_stab) E' th) (run : RNPn_3 h x' th sg 76 e' h' = true) : RHPn z T M A B E' x' e' h' (3, i, m, a, b) X :=
  RoundH.leave (tb := tbl h) (L := []) (f := 3000) ((tabkOk _ _).hyps ho) (LpOk.nil _) rfl hne ht run
noncomputable abbrev RNPn_4 (h : LK) (x : Ex) (th : LA) (sg : List (Nat × Nat)) (m : Nat) (ep : LA) (hp : LE) : Bool := okRdH (code (tbl h) 3000 [] bodyPn (envOf (headOf epPn_4 keepPn) 97) ⟨lhSet hpPn_4 .leaf, 16, 0, 0⟩) x keepPn 97 76 th sg 3 m ep hp
theorem stPn_4 (z : List Int) (T : Nat) (M A B i m a b : Int) {X : Nat → Value} {h : LK} (y : Nat × Int × Int × Int × Int) {th : LA} {sg : List (Nat × Nat)} (ho : ∀ a' r', (a', r') ∈ h → HOk (cx (nuX (nuPn_4 z T M A B i m a b) (rX (roPn_4 z T M A B i m a b) X)) (nuX_one (nuL_one (l := nuPn_4 z T M A B i m a b) rfl)) 0 laidE laidE_stab) a' r') (hy : InvPn z T M A B y) (lt : muPn z T M A B y < muPn z T M A B (4, i, m, a, b)) (ht : ThOk (cx (nuX (nuPn_4 z T M A B i m a b) (rX (roPn_4 z T M A B i m a b) X)) (nuX_one (nuL_one (l := nuPn_4 z T M A B i m a b) rfl)) 0 laidE laidE_stab) (DPn z T M A B y X) th) (run : RNPn_4 h .normal th sg 16 (epPn y) (hpPn y) = true) : RHPn z T M A B E' x' e' h' (4, i, m, a, b) X :=
  RoundH.next (tb := tbl h) (L := []) (f := 3000) y ((tabkOk _ _).hyps ho) (LpOk.nil _) rfl hy lt ht run
theorem lvPn_4 (z : List Int) (T : Nat) (M A B i m a b : Int) {X : Nat → Value} {h : LK} {th : LA} {sg : List (Nat × Nat)} (hne : exB x' .normal = false) (ho : ∀ a' r', (a', r') ∈ h → HOk (cx (nuX (nuPn_4 z T M A B i m a b) (rX (roPn_4 z T M A B i m a b) X)) (nuX_one (nuL_one (l := nuPn_4 z T M A B i m a b) rfl)) 0 laidE laidE_stab) a' r') (ht : ThOk (cx (nuX (nuPn_4 z T M A B i m a b) (rX (roPn_4 z T M A B i m a b) X)) (nuX_one (nuL_one (l := nuPn_4 z T M A B i m a b) rfl)) 0 laidE laidE_stab) E' th) (run : RNPn_4 h x' th sg 76 e' h' = true) : RHPn z T M A B E' x' e' h' (4, i, m, a, b) X :=
  RoundH.leave (tb := tbl h) (L := []) (f := 3000) ((tabkOk _ _).hyps ho) (LpOk.nil _) rfl hne ht run
noncomputable abbrev RNPn_5 (h : LK) (x : Ex) (th : LA) (sg : List (Nat × Nat)) (m : Nat) (ep : LA) (hp : LE) : Bool := okRdH (code (tbl h) 3000 [] bodyPn (envOf (headOf epPn_5 keepPn) 97) ⟨lhSet hpPn_5 .leaf, 16, 0, 0⟩) x keepPn 97 76 th sg 3 m ep hp
theorem stPn_5 (z : List Int) (T : Nat) (M A B i m a b : Int) {X : Nat → Value} {h : LK} (y : Nat × Int × Int × Int × Int) {th : LA} {sg : List (Nat × Nat)} (ho : ∀ a' r', (a', r') ∈ h → HOk (cx (nuX (nuPn_5 z T M A B i m a b) (rX (roPn_5 z T M A B i m a b) X)) (nuX_one (nuL_one (l := nuPn_5 z T M A B i m a b) rfl)) 0 laidE laidE_stab) a' r') (hy : InvPn z T M A B y) (lt : muPn z T M A B y < muPn z T M A B (5, i, m, a, b)) (ht : ThOk (cx (nuX (nuPn_5 z T M A B i m a b) (rX (roPn_5 z T M A B i m a b) X)) (nuX_one (nuL_one (l := nuPn_5 z T M A B i m a b) rfl)) 0 laidE laidE_stab) (DPn z T M A B y X) th) (run : RNPn_5 h .normal th sg 16 (epPn y) (hpPn y) = true) : RHPn z T M A B E' x' e' h' (5, i, m, a, b) X :=
  RoundH.next (tb := tbl h) (L := []) (f := 3000) y ((tabkOk _ _).hyps ho) (LpOk.nil _) rfl hy lt ht run
theorem lvPn_5 (z : List Int) (T : Nat) (M A B i m a b : Int) {X : Nat → Value} {h : LK} {th : LA} {sg : List (Nat × Nat)} (hne : exB x' .normal = false) (ho : ∀ a' r', (a', r') ∈ h → HOk (cx (nuX (nuPn_5 z T M A B i m a b) (rX (roPn_5 z T M A B i m a b) X)) (nuX_one (nuL_one (l := nuPn_5 z T M A B i m a b) rfl)) 0 laidE laidE_stab) a' r') (ht : ThOk (cx (nuX (nuPn_5 z T M A B i m a b) (rX (roPn_5 z T M A B i m a b) X)) (nuX_one (nuL_one (l := nuPn_5 z T M A B i m a b) rfl)) 0 laidE laidE_stab) E' th) (run : RNPn_5 h x' th sg 76 e' h' = true) : RHPn z T M A B E' x' e' h' (5, i, m, a, b) X :=
  RoundH.leave (tb := tbl h) (L := []) (f := 3000) ((tabkOk _ _).hyps ho) (LpOk.nil _) rfl hne ht run
def hyPn_p0 : LK := [(.rl (.x 2000000) 1, .x 2), (.bin .lss (.x 0) (.x 2), .b true), (.el (.x 2000000) (.x 0) 1 0, .x 3), (.bin .rem (.x 3) (.i .u8 (.ofNat 3)), .x 4), (.bin .eql (.x 4) (.i .u8 (.ofNat 0)), .b true), (.bin .add (.x 1) (.i .i64 (.ofNat 1)), .x 5), (.bin .neq (.x 5) (.x 5), .b false), (.bin .add (.x 0) (.i .i64 (.ofNat 1)), .x 6)]
theorem runPn_p0 : RNPn_0 hyPn_p0 .normal [(0, .x 6), (1, .x 5), (2, .x 5), (2000000, .x 2000000)] [(3, 21), (4, 19), (5, 18), (6, 16), (9, 17), (7, 37), (8, 36)] 16 epPn_1 hpPn_1 = true := by kernel_rfl
theorem nxPn_p0 (z : List Int) (T : Nat) (M A B : Int) (i m a b : Int) (X : Nat → Value) (hI : InvPn z T M A B (0, i, m, a, b)) (h0 : i < (z.length : Int)) (h1 : (nthI z (Int.toNat (i))) % 3 = 0) : RHPn z T M A B E' x' e' h' (0, i, m, a, b) X := by
  obtain ⟨i0, i1, i2, i3, i4, i5, i6, i7, i8, it⟩ := unIPn z T M A B 0 i m a b hI
  have := rngAt (lo := 0) (hi := 255) (l := z) (by decide) (by decide) (by assumption) (Int.toNat (i))
  refine stPn_0 z T M A B i m a b (h := hyPn_p0) (1, i + 1, m + 1, m + 1, b) ?_ (mkIPn z T M A B 1 (i + 1) (m + 1) (m + 1) b ⟨by omega, by omega, i2, i3, by omega, by omega, sm_a (by omega) (by omega) i6 rfl, by omega, by omega, by omega⟩) (by show z.length - (i + 1).toNat < z.length - i.toNat; omega) (thXi (b := ((i + 1))) rfl rfl (by omega) (thXi (b := ((m + 1))) rfl rfl (by omega) (thXi (b := ((m + 1))) rfl rfl (by omega) (thXv (v := rwI .u8 z) rfl rfl (thNil))))) runPn_p0
  unfold hyPn_p0
  exact hc (kRlI (isX rfl) (denX rfl) (by first | omega | (simp <;> omega))) <|
   hc (ltT rfl rfl (by omega)) <|
   hc (kElI (j := (Int.toNat (i))) (isX rfl) (isX rfl) (denX rfl) (by omega) (by omega)) <|
   hc (kRem (isX rfl) (isZ (m := 3) rfl) (denX rfl) (by omega) (by omega) rfl) <|
   hc (eqcT rfl (by omega)) <|
   hc (adC rfl rfl (by omega)) <|
   hc (kNeI (isX rfl) (isX rfl) (neF (by omega))) <|
   hc (adC rfl rfl (by omega)) <|
   hnil
def hyPn_p1 : LK := [(.rl (.x 2000000) 1, .x 7), (.bin .lss (.x 0) (.x 7), .b true), (.el (.x 2000000) (.x 0) 1 0, .x 8), (.bin .rem (.x 8) (.i .u8 (.ofNat 3)), .x 9), (.bin .eql (.x 9) (.i .u8 (.ofNat 0)), .b false), (.bin .add (.x 1) (.i .i64 (.ofNat 1)), .x 10), (.bin .neq (.x 10) (.x 10), .b false), (.bin .add (.x 0) (.i .i64 (.ofNat 1)), .x 11)]
theorem runPn_p1 : RNPn_0 hyPn_p1 .normal [(0, .x 11), (1, .x 10), (2, .x 10), (2000000, .x 2000000)] [(3, 21), (4, 19), (5, 18), (6, 16), (9, 17), (7, 37), (8, 36)] 16 epPn_1 hpPn_1 = true := by kernel_rfl
theorem nxPn_p1 (z : List Int) (T : Nat) (M A B : Int) (i m a b : Int) (X : Nat → Value) (hI : InvPn z T M A B (0, i, m, a, b)) (h0 : i < (z.length : Int)) (h1 : ¬ ((nthI z (Int.toNat (i))) % 3 = 0)) : RHPn z T M A B E' x' e' h' (0, i, m, a, b) X := by
  obtain ⟨i0, i1, i2, i3, i4, i5, i6, i7, i8, it⟩ := unIPn z T M A B 0 i m a b hI
  have := rngAt (lo := 0) (hi := 255) (l := z) (by decide) (by decide) (by assumption) (Int.toNat (i))
  refine stPn_0 z T M A B i m a b (h := hyPn_p1) (1, i + 1, m + 1, m + 1, b) ?_ (mkIPn z T M A B 1 (i + 1) (m + 1) (m + 1) b ⟨by omega, by omega, i2, i3, by omega, by omega, sm_a (by omega) (by omega) i6 rfl, by omega, by omega, by omega⟩) (by show z.length - (i + 1).toNat < z.length - i.toNat; omega) (thXi (b := ((i + 1))) rfl rfl (by omega) (thXi (b := ((m + 1))) rfl rfl (by omega) (thXi (b := ((m + 1))) rfl rfl (by omega) (thXv (v := rwI .u8 z) rfl rfl (thNil))))) runPn_p1
  unfold hyPn_p1
  exact hc (kRlI (isX rfl) (denX rfl) (by first | omega | (simp <;> omega))) <|
   hc (ltT rfl rfl (by omega)) <|
   hc (kElI (j := (Int.toNat (i))) (isX rfl) (isX rfl) (denX rfl) (by omega) (by omega)) <|
   hc (kRem (isX rfl) (isZ (m := 3) rfl) (denX rfl) (by omega) (by omega) rfl) <|
   hc (eqcF rfl (by omega)) <|
   hc (adC rfl rfl (by omega)) <|
   hc (kNeI (isX rfl) (isX rfl) (neF (by omega))) <|
   hc (adC rfl rfl (by omega)) <|
   hnil
def hyPn_p2 : LK := [(.rl (.x 2000000) 1, .x 3), (.bin .lss (.x 0) (.x 3), .b true), (.el (.x 2000000) (.x 0) 1 0, .x 4), (.bin .rem (.x 4) (.i .u8 (.ofNat 3)), .x 5), (.bin .eql (.x 5) (.i .u8 (.ofNat 0)), .b true), (.conv 3 (.x 4), .x 6), (.bin .rem (.x 6) (.i .i64 (.ofNat 1)), .i .i64 (.ofNat 0)), (.bin .eql (.x 2) (.x 2), .b true), (.bin .add (.x 0) (.i .i64 (.ofNat 1)), .x 7)]
theorem runPn_p2 : RNPn_1 hyPn_p2 .normal [(0, .x 7), (1, .x 1), (2000000, .x 2000000)] [(3, 3)] 16 epPn_2 hpPn_2 = true := by kernel_rfl
theorem nxPn_p2 (z : List Int) (T : Nat) (M A B : Int) (i m a b : Int) (X : Nat → Value) (hI : InvPn z T M A B (1, i, m, a, b)) (h0 : i < (z.length : Int)) (h1 : (nthI z (Int.toNat (i))) % 3 = 0) : RHPn z T M A B E' x' e' h' (1, i, m, a, b) X := by
  obtain ⟨i0, i1, i2, i3, i4, i5, i6, i7, i8, it⟩ := unIPn z T M A B 1 i m a b hI
  have := rngAt (lo := 0) (hi := 255) (l := z) (by decide) (by decide) (by assumption) (Int.toNat (i))
  refine stPn_1 z T M A B i m a b (h := hyPn_p2) (2, i + 1, m, a, b) ?_ (mkIPn z T M A B 2 (i + 1) m a b ⟨by omega, by omega, i2, i3, by omega, by omega, sm_a (by omega) (by omega) i6 (st1c (by omega)), by omega, by omega, by omega⟩) (by show z.length - (i + 1).toNat < z.length - i.toNat; omega) (thXi (b := ((i + 1))) rfl rfl (by omega) (thXv (v := .int .i64 (m)) rfl rfl (thXv (v := rwI .u8 z) rfl rfl (thNil)))) runPn_p2
  unfold hyPn_p2
  exact hc (kRlI (isX rfl) (denX rfl) (by first | omega | (simp <;> omega))) <|
   hc (ltT rfl rfl (by omega)) <|
   hc (kElI (j := (Int.toNat (i))) (isX rfl) (isX rfl) (denX rfl) (by omega) (by omega)) <|
   hc (kRem (isX rfl) (isZ (m := 3) rfl) (denX rfl) (by omega) (by omega) rfl) <|
   hc (eqcT rfl (by omega)) <|
   hc (kConvF (isX rfl) tu3 (denX rfl) (fI64 (by omega) (by omega))) <|
   hc (kRem (isX rfl) (isZ (m := 1) rfl) (denZ (m := 0) rfl) (by omega) (by omega) (by omega)) <|
   hc (eqXT rfl rfl (by omega)) <|
   hc (adC rfl rfl (by omega)) <|
   hnil
def hyPn_p3 : LK := [(.rl (.x 2000000) 1, .x 8), (.bin .lss (.x 0) (.x 8), .b true), (.el (.x 2000000) (.x 0) 1 0, .x 9), (.bin .rem (.x 9) (.i .u8 (.ofNat 3)), .x 10), (.bin .eql (.x 10) (.i .u8 (.ofNat 0)), .b false), (.bin .add (.x 1) (.i .i64 (.ofNat 1)), .x 11), (.bin .neq (.x 11) (.x 11), .b false), (.bin .add (.x 0) (.i .i64 (.ofNat 1)), .x 12)]
theorem runPn_p3 : RNPn_1 hyPn_p3 .normal [(0, .x 12), (1, .x 11), (2, .x 2), (3, .x 11), (2000000, .x 2000000)] [(3, 27), (4, 4), (10, 25), (5, 5), (6, 6), (9, 9), (7, 7), (8, 8), (11, 24), (12, 22), (15, 23), (13, 43), (14, 42)] 16 epPn_3 hpPn_3 = true := by kernel_rfl
theorem nxPn_p3 (z : List Int) (T : Nat) (M A B : Int) (i m a b : Int) (X : Nat → Value) (hI : InvPn z T M A B (1, i, m, a, b)) (h0 : i < (z.length : Int)) (h1 : ¬ ((nthI z (Int.toNat (i))) % 3 = 0)) : RHPn z T M A B E' x' e' h' (1, i, m, a, b) X := by
  obtain ⟨i0, i1, i2, i3, i4, i5, i6, i7, i8, it⟩ := unIPn z T M A B 1 i m a b hI
  have := rngAt (lo := 0) (hi := 255) (l := z) (by decide) (by decide) (by assumption) (Int.toNat (i))
  refine stPn_1 z T M A B i m a b (h := hyPn_p3) (3, i + 1, m + 1, a, m + 1) ?_ (mkIPn z T M A B 3 (i + 1) (m + 1) a (m + 1) ⟨by omega, by omega, i2, i3, by omega, by omega, sm_a (by omega) (by omega) i6 (st1o (by omega)), by omega, by omega, by omega⟩) (by show z.length - (i + 1).toNat < z.length - i.toNat; omega) (thXi (b := ((i + 1))) rfl rfl (by omega) (thXi (b := ((m + 1))) rfl rfl (by omega) (thXv (v := .int .i64 (a)) rfl rfl (thXi (b := ((m + 1))) rfl rfl (by omega) (thXv (v := rwI .u8 z) rfl rfl (thNil)))))) runPn_p3
  unfold hyPn_p3
  exact hc (kRlI (isX rfl) (denX rfl) (by first | omega | (simp <;> omega))) <|
   hc (ltT rfl rfl (by omega)) <|
   hc (kElI (j := (Int.toNat (i))) (isX rfl) (isX rfl) (denX rfl) (by omega) (by omega)) <|
   hc (kRem (isX rfl) (isZ (m := 3) rfl) (denX rfl) (by omega) (by omega) rfl) <|
   hc (eqcF rfl (by omega)) <|
   hc (adC rfl rfl (by omega)) <|
   hc (kNeI (isX rfl) (isX rfl) (neF (by omega))) <|
   hc (adC rfl rfl (by omega)) <|
   hnil
def hyPn_p4 : LK := [(.rl (.x 2000000) 1, .x 2), (.bin .lss (.x 0) (.x 2), .b true), (.el (.x 2000000) (.x 0) 1 0, .x 3), (.bin .rem (.x 3) (.i .u8 (.ofNat 3)), .x 4), (.bin .eql (.x 4) (.i .u8 (.ofNat 0)), .b true), (.bin .add (.x 1) (.i .i64 (.ofNat 1)), .x 5), (.bin .neq (.x 5) (.x 5), .b false), (.bin .add (.x 0) (.i .i64 (.ofNat 1)), .x 6)]
theorem runPn_p4 : RNPn_2 hyPn_p4 .normal [(0, .x 6), (1, .x 5), (2, .x 5), (2000000, .x 2000000)] [(3, 3), (4, 19), (5, 18), (6, 16), (9, 17), (7, 36), (8, 35)] 16 epPn_1 hpPn_1 = true := by kernel_rfl
theorem nxPn_p4 (z : List Int) (T : Nat) (M A B : Int) (i m a b : Int) (X : Nat → Value) (hI : InvPn z T M A B (2, i, m, a, b)) (h0 : i < (z.length : Int)) (h1 : (nthI z (Int.toNat (i))) % 3 = 0) : RHPn z T M A B E' x' e' h' (2, i, m, a, b) X := by
  obtain ⟨i0, i1, i2, i3, i4, i5, i6, i7, i8, it⟩ := unIPn z T M A B 2 i m a b hI
  have := rngAt (lo := 0) (hi := 255) (l := z) (by decide) (by decide) (by assumption) (Int.toNat (i))
  refine stPn_2 z T M A B i m a b (h := hyPn_p4) (1, i + 1, m + 1, m + 1, b) ?_ (mkIPn z T M A B 1 (i + 1) (m + 1) (m + 1) b ⟨by omega, by omega, i2, i3, by omega, by omega, sm_a (by omega) (by omega) i6 rfl, by omega, by omega, by omega⟩) (by show z.length - (i + 1).toNat < z.length - i.toNat; omega) (thXi (b := ((i + 1))) rfl rfl (by omega) (thXi (b := ((m + 1))) rfl rfl (by omega) (thXi (b := ((m + 1))) rfl rfl (by omega) (thXv (v := rwI .u8 z) rfl rfl (thNil))))) runPn_p4
  unfold hyPn_p4
  exact hc (kRlI (isX rfl) (denX rfl) (by first | omega | (simp <;> omega))) <|
   hc (ltT rfl rfl (by omega)) <|
   hc (kElI (j := (Int.toNat (i))) (isX rfl) (isX rfl) (denX rfl) (by omega) (by omega)) <|
   hc (kRem (isX rfl) (isZ (m := 3) rfl) (denX rfl) (by omega) (by omega) rfl) <|
   hc (eqcT rfl (by omega)) <|
   hc (adC rfl rfl (by omega)) <|
   hc (kNeI (isX rfl) (isX rfl) (neF (by omega))) <|
   hc (adC rfl rfl (by omega)) <|
   hnil
def hyPn_p5 : LK := [(.rl (.x 2000000) 1, .x 7), (.bin .lss (.x 0) (.x 7), .b true), (.el (.x 2000000) (.x 0) 1 0, .x 8), (.bin .rem (.x 8) (.i .u8 (.ofNat 3)), .x 9), (.bin .eql (.x 9) (.i .u8 (.ofNat 0)), .b false), (.bin .add (.x 1) (.i .i64 (.ofNat 1)), .x 10), (.bin .neq (.x 10) (.x 10), .b false), (.bin .add (.x 0) (.i .i64 (.ofNat 1)), .x 11)]
theorem runPn_p5 : RNPn_2 hyPn_p5 .normal [(0, .x 11), (1, .x 10), (2, .x 10), (2000000, .x 2000000)] [(3, 3), (4, 19), (5, 18), (6, 16), (9, 17), (7, 36), (8, 35)] 16 epPn_1 hpPn_1 = true := by kernel_rfl
theorem nxPn_p5 (z : List Int) (T : Nat) (M A B : Int) (i m a b : Int) (X : Nat → Value) (hI : InvPn z T M A B (2, i, m, a, b)) (h0 : i < (z.length : Int)) (h1 : ¬ ((nthI z (Int.toNat (i))) % 3 = 0)) : RHPn z T M A B E' x' e' h' (2, i, m, a, b) X := by
  obtain ⟨i0, i1, i2, i3, i4, i5, i6, i7, i8, it⟩ := unIPn z T M A B 2 i m a b hI
  have := rngAt (lo := 0) (hi := 255) (l := z) (by decide) (by decide) (by assumption) (Int.toNat (i))
  refine stPn_2 z T M A B i m a b (h := hyPn_p5) (1, i + 1, m + 1, m + 1, b) ?_ (mkIPn z T M A B 1 (i + 1) (m + 1) (m + 1) b ⟨by omega, by omega, i2, i3, by omega, by omega, sm_a (by omega) (by omega) i6 rfl, by omega, by omega, by omega⟩) (by show z.length - (i + 1).toNat < z.length - i.toNat; omega) (thXi (b := ((i + 1))) rfl rfl (by omega) (thXi (b := ((m + 1))) rfl rfl (by omega) (thXi (b := ((m + 1))) rfl rfl (by omega) (thXv (v := rwI .u8 z) rfl rfl (thNil))))) runPn_p5
  unfold hyPn_p5
  exact hc (kRlI (isX rfl) (denX rfl) (by first | omega | (simp <;> omega))) <|
   hc (ltT rfl rfl (by omega)) <|
   hc (kElI (j := (Int.toNat (i))) (isX rfl) (isX rfl) (denX rfl) (by omega) (by omega)) <|
   hc (kRem (isX rfl) (isZ (m := 3) rfl) (denX rfl) (by omega) (by omega) rfl) <|
   hc (eqcF rfl (by omega)) <|
   hc (adC rfl rfl (by omega)) <|
   hc (kNeI (isX rfl) (isX rfl) (neF (by omega))) <|
   hc (adC rfl rfl (by omega)) <|
   hnil
def hyPn_p6 : LK := [(.rl (.x 2000000) 1, .x 4), (.bin .lss (.x 0) (.x 4), .b true), (.el (.x 2000000) (.x 0) 1 0, .x 5), (.bin .rem (.x 5) (.i .u8 (.ofNat 3)), .x 6), (.bin .eql (.x 6) (.i .u8 (.ofNat 0)), .b true), (.conv 3 (.x 5), .x 7), (.bin .rem (.x 7) (.i .i64 (.ofNat 2)), .i .i64 (.ofNat 0)), (.bin .eql (.x 2) (.x 2), .b true), (.bin .add (.x 0) (.i .i64 (.ofNat 1)), .x 8)]
theorem runPn_p6 : RNPn_3 hyPn_p6 .normal [(0, .x 8), (1, .x 1), (2, .x 3), (2000000, .x 2000000)] [(3, 3), (4, 10), (5, 11), (6, 12), (9, 15), (7, 13), (8, 14)] 16 epPn_4 hpPn_4 = true := by kernel_rfl
theorem nxPn_p6 (z : List Int) (T : Nat) (M A B : Int) (i m a b : Int) (X : Nat → Value) (hI : InvPn z T M A B (3, i, m, a, b)) (h0 : i < (z.length : Int)) (h1 : (nthI z (Int.toNat (i))) % 3 = 0) (h2 : ((nthI z (Int.toNat (i)))) % 2 = 0) : RHPn z T M A B E' x' e' h' (3, i, m, a, b) X := by
  obtain ⟨i0, i1, i2, i3, i4, i5, i6, i7, i8, it⟩ := unIPn z T M A B 3 i m a b hI
  have := rngAt (lo := 0) (hi := 255) (l := z) (by decide) (by decide) (by assumption) (Int.toNat (i))
  refine stPn_3 z T M A B i m a b (h := hyPn_p6) (4, i + 1, m, b, b) ?_ (mkIPn z T M A B 4 (i + 1) m b b ⟨by omega, by omega, i2, i3, by omega, by omega, sm_a (by omega) (by omega) i6 (st3a (by omega) (by omega)), by omega, by omega, by omega⟩) (by show z.length - (i + 1).toNat < z.length - i.toNat; omega) (thXi (b := ((i + 1))) rfl rfl (by omega) (thXv (v := .int .i64 (m)) rfl rfl (thXv (v := .int .i64 (b)) rfl rfl (thXv (v := rwI .u8 z) rfl rfl (thNil))))) runPn_p6
  unfold hyPn_p6
  exact hc (kRlI (isX rfl) (denX rfl) (by first | omega | (simp <;> omega))) <|
   hc (ltT rfl rfl (by omega)) <|
   hc (kElI (j := (Int.toNat (i))) (isX rfl) (isX rfl) (denX rfl) (by omega) (by omega)) <|
   hc (kRem (isX rfl) (isZ (m := 3) rfl) (denX rfl) (by omega) (by omega) rfl) <|
   hc (eqcT rfl (by omega)) <|
   hc (kConvF (isX rfl) tu3 (denX rfl) (fI64 (by omega) (by omega))) <|
   hc (kRem (isX rfl) (isZ (m := 2) rfl) (denZ (m := 0) rfl) (by omega) (by omega) (by omega)) <|
   hc (eqXT rfl rfl (by omega)) <|
   hc (adC rfl rfl (by omega)) <|
   hnil
def hyPn_p7 : LK := [(.rl (.x 2000000) 1, .x 9), (.bin .lss (.x 0) (.x 9), .b true), (.el (.x 2000000) (.x 0) 1 0, .x 10), (.bin .rem (.x 10) (.i .u8 (.ofNat 3)), .x 11), (.bin .eql (.x 11) (.i .u8 (.ofNat 0)), .b true), (.conv 3 (.x 10), .x 12), (.bin .rem (.x 12) (.i .i64 (.ofNat 2)), .i .i64 (.ofNat 1)), (.bin .eql (.x 2) (.x 3), .b false), (.bin .eql (.x 3) (.x 3), .b true), (.bin .add (.x 0) (.i .i64 (.ofNat 1)), .x 13)]
theorem runPn_p7 : RNPn_3 hyPn_p7 .normal [(0, .x 13), (1, .x 1), (2, .x 2), (2000000, .x 2000000)] [(3, 3), (4, 4), (5, 5), (6, 6), (9, 9), (7, 7), (8, 8)] 16 epPn_4 hpPn_4 = true := by kernel_rfl
theorem nxPn_p7 (z : List Int) (T : Nat) (M A B : Int) (i m a b : Int) (X : Nat → Value) (hI : InvPn z T M A B (3, i, m, a, b)) (h0 : i < (z.length : Int)) (h1 : (nthI z (Int.toNat (i))) % 3 = 0) (h2 : ¬ (((nthI z (Int.toNat (i)))) % 2 = 0)) : RHPn z T M A B E' x' e' h' (3, i, m, a, b) X := by
  obtain ⟨i0, i1, i2, i3, i4, i5, i6, i7, i8, it⟩ := unIPn z T M A B 3 i m a b hI
  have := rngAt (lo := 0) (hi := 255) (l := z) (by decide) (by decide) (by assumption) (Int.toNat (i))
  refine stPn_3 z T M A B i m a b (h := hyPn_p7) (4, i + 1, m, a, b) ?_ (mkIPn z T M A B 4 (i + 1) m a b ⟨by omega, by omega, i2, i3, by omega, by omega, sm_a (by omega) (by omega) i6 (st3b (by omega) (by omega)), by omega, by omega, by omega⟩) (by show z.length - (i + 1).toNat < z.length - i.toNat; omega) (thXi (b := ((i + 1))) rfl rfl (by omega) (thXv (v := .int .i64 (m)) rfl rfl (thXv (v := .int .i64 (a)) rfl rfl (thXv (v := rwI .u8 z) rfl rfl (thNil))))) runPn_p7
  unfold hyPn_p7
  exact hc (kRlI (isX rfl) (denX rfl) (by first | omega | (simp <;> omega))) <|
   hc (ltT rfl rfl (by omega)) <|
   hc (kElI (j := (Int.toNat (i))) (isX rfl) (isX rfl) (denX rfl) (by omega) (by omega)) <|
   hc (kRem (isX rfl) (isZ (m := 3) rfl) (denX rfl) (by omega) (by omega) rfl) <|
   hc (eqcT rfl (by omega)) <|
   hc (kConvF (isX rfl) tu3 (denX rfl) (fI64 (by omega) (by omega))) <|
   hc (kRem (isX rfl) (isZ (m := 2) rfl) (denZ (m := 1) rfl) (by omega) (by omega) (by omega)) <|
   hc (eqXF rfl rfl (by omega)) <|
   hc (eqXT rfl rfl (by omega)) <|
   hc (adC rfl rfl (by omega)) <|
   hnil
def hyPn_p8 : LK := [(.rl (.x 2000000) 1, .x 14), (.bin .lss (.x 0) (.x 14), .b true), (.el (.x 2000000) (.x 0) 1 0, .x 15), (.bin .rem (.x 15) (.i .u8 (.ofNat 3)), .x 16), (.bin .eql (.x 16) (.i .u8 (.ofNat 0)), .b false), (.bin .add (.x 0) (.i .i64 (.ofNat 1)), .x 17)]
theorem runPn_p8 : RNPn_3 hyPn_p8 .normal [(0, .x 17), (1, .x 1), (2, .x 2), (3, .x 3), (2000000, .x 2000000)] [(3, 3), (4, 4), (10, 10), (5, 5), (6, 6), (9, 9), (7, 7), (8, 8), (11, 11), (12, 12), (15, 15), (13, 13), (14, 14)] 16 epPn_3 hpPn_3 = true := by kernel_rfl
theorem nxPn_p8 (z : List Int) (T : Nat) (M A B : Int) (i m a b : Int) (X : Nat → Value) (hI : InvPn z T M A B (3, i, m, a, b)) (h0 : i < (z.length : Int)) (h1 : ¬ ((nthI z (Int.toNat (i))) % 3 = 0)) : RHPn z T M A B E' x' e' h' (3, i, m, a, b) X := by
  obtain ⟨i0, i1, i2, i3, i4, i5, i6, i7, i8, it⟩ := unIPn z T M A B 3 i m a b hI
  have := rngAt (lo := 0) (hi := 255) (l := z) (by decide) (by decide) (by assumption) (Int.toNat (i))
  refine stPn_3 z T M A B i m a b (h := hyPn_p8) (3, i + 1, m, a, b) ?_ (mkIPn z T M A B 3 (i + 1) m a b ⟨by omega, by omega, i2, i3, by omega, by omega, sm_a (by omega) (by omega) i6 (st3n (by omega)), by omega, by omega, by omega⟩) (by show z.length - (i + 1).toNat < z.length - i.toNat; omega) (thXi (b := ((i + 1))) rfl rfl (by omega) (thXv (v := .int .i64 (m)) rfl rfl (thXv (v := .int .i64 (a)) rfl rfl (thXv (v := .int .i64 (b)) rfl rfl (thXv (v := rwI .u8 z) rfl rfl (thNil)))))) runPn_p8
  unfold hyPn_p8
  exact hc (kRlI (isX rfl) (denX rfl) (by first | omega | (simp <;> omega))) <|
   hc (ltT rfl rfl (by omega)) <|
   hc (kElI (j := (Int.toNat (i))) (isX rfl) (isX rfl) (denX rfl) (by omega) (by omega)) <|
   hc (kRem (isX rfl) (isZ (m := 3) rfl) (denX rfl) (by omega) (by omega) rfl) <|
   hc (eqcF rfl (by omega)) <|
   hc (adC rfl rfl (by omega)) <|
   hnil
def hyPn_p9 : LK := [(.rl (.x 2000000) 1, .x 3), (.bin .lss (.x 0) (.x 3), .b true), (.el (.x 2000000) (.x 0) 1 0, .x 4), (.bin .rem (.x 4) (.i .u8 (.ofNat 3)), .x 5), (.bin .eql (.x 5) (.i .u8 (.ofNat 0)), .b true), (.conv 3 (.x 4), .x 6), (.bin .rem (.x 6) (.i .i64 (.ofNat 1)), .i .i64 (.ofNat 0)), (.bin .eql (.x 2) (.x 2), .b true), (.bin .add (.x 0) (.i .i64 (.ofNat 1)), .x 7)]
theorem runPn_p9 : RNPn_4 hyPn_p9 .normal [(0, .x 7), (1, .x 1), (2000000, .x 2000000)] [(3, 3)] 16 epPn_5 hpPn_5 = true := by kernel_rfl
theorem nxPn_p9 (z : List Int) (T : Nat) (M A B : Int) (i m a b : Int) (X : Nat → Value) (hI : InvPn z T M A B (4, i, m, a, b)) (h0 : i < (z.length : Int)) (h1 : (nthI z (Int.toNat (i))) % 3 = 0) : RHPn z T M A B E' x' e' h' (4, i, m, a, b) X := by
  obtain ⟨i0, i1, i2, i3, i4, i5, i6, i7, i8, it⟩ := unIPn z T M A B 4 i m a b hI
  have := rngAt (lo := 0) (hi := 255) (l := z) (by decide) (by decide) (by assumption) (Int.toNat (i))
  refine stPn_4 z T M A B i m a b (h := hyPn_p9) (5, i + 1, m, a, b) ?_ (mkIPn z T M A B 5 (i + 1) m a b ⟨by omega, by omega, i2, i3, by omega, by omega, sm_a (by omega) (by omega) i6 (st4c (by omega)), by omega, by omega, by omega⟩) (by show z.length - (i + 1).toNat < z.length - i.toNat; omega) (thXi (b := ((i + 1))) rfl rfl (by omega) (thXv (v := .int .i64 (m)) rfl rfl (thXv (v := rwI .u8 z) rfl rfl (thNil)))) runPn_p9
  unfold hyPn_p9
  exact hc (kRlI (isX rfl) (denX rfl) (by first | omega | (simp <;> omega))) <|
   hc (ltT rfl rfl (by omega)) <|
   hc (kElI (j := (Int.toNat (i))) (isX rfl) (isX rfl) (denX rfl) (by omega) (by omega)) <|
   hc (kRem (isX rfl) (isZ (m := 3) rfl) (denX rfl) (by omega) (by omega) rfl) <|
   hc (eqcT rfl (by omega)) <|
   hc (kConvF (isX rfl) tu3 (denX rfl) (fI64 (by omega) (by omega))) <|
   hc (kRem (isX rfl) (isZ (m := 1) rfl) (denZ (m := 0) rfl) (by omega) (by omega) (by omega)) <|
   hc (eqXT rfl rfl (by omega)) <|
   hc (adC rfl rfl (by omega)) <|
   hnil
def hyPn_p10 : LK := [(.rl (.x 2000000) 1, .x 8), (.bin .lss (.x 0) (.x 8), .b true), (.el (.x 2000000) (.x 0) 1 0, .x 9), (.bin .rem (.x 9) (.i .u8 (.ofNat 3)), .x 10), (.bin .eql (.x 10) (.i .u8 (.ofNat 0)), .b false), (.bin .add (.x 1) (.i .i64 (.ofNat 1)), .x 11), (.bin .neq (.x 11) (.x 11), .b false), (.bin .add (.x 0) (.i .i64 (.ofNat 1)), .x 12)]
theorem runPn_p10 : RNPn_4 hyPn_p10 .normal [(0, .x 12), (1, .x 11), (2, .x 2), (3, .x 11), (2000000, .x 2000000)] [(3, 3), (4, 4), (10, 25), (5, 5), (6, 6), (9, 9), (7, 7), (8, 8), (11, 24), (12, 22), (15, 23), (13, 42), (14, 41)] 16 epPn_3 hpPn_3 = true := by kernel_rfl
theorem nxPn_p10 (z : List Int) (T : Nat) (M A B : Int) (i m a b : Int) (X : Nat → Value) (hI : InvPn z T M A B (4, i, m, a, b)) (h0 : i < (z.length : Int)) (h1 : ¬ ((nthI z (Int.toNat (i))) % 3 = 0)) : RHPn z T M A B E' x' e' h' (4, i, m, a, b) X := by
  obtain ⟨i0, i1, i2, i3, i4, i5, i6, i7, i8, it⟩ := unIPn z T M A B 4 i m a b hI
  have := rngAt (lo := 0) (hi := 255) (l := z) (by decide) (by decide) (by assumption) (Int.toNat (i))
  refine stPn_4 z T M A B i m a b (h := hyPn_p10) (3, i + 1, m + 1, a, m + 1) ?_ (mkIPn z T M A B 3 (i + 1) (m + 1) a (m + 1) ⟨by omega, by omega, i2, i3, by omega, by omega, sm_a (by omega) (by omega) i6 (st4o (by omega)), by omega, by omega, by omega⟩) (by show z.length - (i + 1).toNat < z.length - i.toNat; omega) (thXi (b := ((i + 1))) rfl rfl (by omega) (thXi (b := ((m + 1))) rfl rfl (by omega) (thXv (v := .int .i64 (a)) rfl rfl (thXi (b := ((m + 1))) rfl rfl (by omega) (thXv (v := rwI .u8 z) rfl rfl (thNil)))))) runPn_p10
  unfold hyPn_p10
  exact hc (kRlI (isX rfl) (denX rfl) (by first | omega | (simp <;> omega))) <|
   hc (ltT rfl rfl (by omega)) <|
   hc (kElI (j := (Int.toNat (i))) (isX rfl) (isX rfl) (denX rfl) (by omega) (by omega)) <|
   hc (kRem (isX rfl) (isZ (m := 3) rfl) (denX rfl) (by omega) (by omega) rfl) <|
   hc (eqcF rfl (by omega)) <|
   hc (adC rfl rfl (by omega)) <|
   hc (kNeI (isX rfl) (isX rfl) (neF (by omega))) <|
   hc (adC rfl rfl (by omega)) <|
   hnil
def hyPn_p11 : LK := [(.rl (.x 2000000) 1, .x 2), (.bin .lss (.x 0) (.x 2), .b true), (.el (.x 2000000) (.x 0) 1 0, .x 3), (.bin .rem (.x 3) (.i .u8 (.ofNat 3)), .x 4), (.bin .eql (.x 4) (.i .u8 (.ofNat 0)), .b true), (.bin .add (.x 1) (.i .i64 (.ofNat 1)), .x 5), (.bin .neq (.x 5) (.x 5), .b false), (.bin .add (.x 0) (.i .i64 (.ofNat 1)), .x 6)]
theorem runPn_p11 : RNPn_5 hyPn_p11 .normal [(0, .x 6), (1, .x 5), (2, .x 5), (2000000, .x 2000000)] [(3, 3), (4, 19), (5, 18), (6, 16), (9, 17), (7, 36), (8, 35)] 16 epPn_4 hpPn_4 = true := by kernel_rfl
theorem nxPn_p11 (z : List Int) (T : Nat) (M A B : Int) (i m a b : Int) (X : Nat → Value) (hI : InvPn z T M A B (5, i, m, a, b)) (h0 : i < (z.length : Int)) (h1 : (nthI z (Int.toNat (i))) % 3 = 0) : RHPn z T M A B E' x' e' h' (5, i, m, a, b) X := by
  obtain ⟨i0, i1, i2, i3, i4, i5, i6, i7, i8, it⟩ := unIPn z T M A B 5 i m a b hI
  have := rngAt (lo := 0) (hi := 255) (l := z) (by decide) (by decide) (by assumption) (Int.toNat (i))
  refine stPn_5 z T M A B i m a b (h := hyPn_p11) (4, i + 1, m + 1, m + 1, b) ?_ (mkIPn z T M A B 4 (i + 1) (m + 1) (m + 1) b ⟨by omega, by omega, i2, i3, by omega, by omega, sm_a (by omega) (by omega) i6 rfl, by omega, by omega, by omega⟩) (by show z.length - (i + 1).toNat < z.length - i.toNat; omega) (thXi (b := ((i + 1))) rfl rfl (by omega) (thXi (b := ((m + 1))) rfl rfl (by omega) (thXi (b := ((m + 1))) rfl rfl (by omega) (thXv (v := rwI .u8 z) rfl rfl (thNil))))) runPn_p11
  unfold hyPn_p11
  exact hc (kRlI (isX rfl) (denX rfl) (by first | omega | (simp <;> omega))) <|
   hc (ltT rfl rfl (by omega)) <|
   hc (kElI (j := (Int.toNat (i))) (isX rfl) (isX rfl) (denX rfl) (by omega) (by omega)) <|
   hc (kRem (isX rfl) (isZ (m := 3) rfl) (denX rfl) (by omega) (by omega) rfl) <|
   hc (eqcT rfl (by omega)) <|
   hc (adC rfl rfl (by omega)) <|
   hc (kNeI (isX rfl) (isX rfl) (neF (by omega))) <|
   hc (adC rfl rfl (by omega)) <|
   hnil
def hyPn_p12 : LK := [(.rl (.x 2000000) 1, .x 7), (.bin .lss (.x 0) (.x 7), .b true), (.el (.x 2000000) (.x 0) 1 0, .x 8), (.bin .rem (.x 8) (.i .u8 (.ofNat 3)), .x 9), (.bin .eql (.x 9) (.i .u8 (.ofNat 0)), .b false), (.bin .add (.x 1) (.i .i64 (.ofNat 1)), .x 10), (.bin .neq (.x 10) (.x 10), .b false), (.bin .add (.x 0) (.i .i64 (.ofNat 1)), .x 11)]
theorem runPn_p12 : RNPn_5 hyPn_p12 .normal [(0, .x 11), (1, .x 10), (2, .x 10), (2000000, .x 2000000)] [(3, 3), (4, 19), (5, 18), (6, 16), (9, 17), (7, 36), (8, 35)] 16 epPn_4 hpPn_4 = true := by kernel_rfl
theorem nxPn_p12 (z : List Int) (T : Nat) (M A B : Int) (i m a b : Int) (X : Nat → Value) (hI : InvPn z T M A B (5, i, m, a, b)) (h0 : i < (z.length : Int)) (h1 : ¬ ((nthI z (Int.toNat (i))) % 3 = 0)) : RHPn z T M A B E' x' e' h' (5, i, m, a, b) X := by
  obtain ⟨i0, i1, i2, i3, i4, i5, i6, i7, i8, it⟩ := unIPn z T M A B 5 i m a b hI
  have := rngAt (lo := 0) (hi := 255) (l := z) (by decide) (by decide) (by assumption) (Int.toNat (i))
  refine stPn_5 z T M A B i m a b (h := hyPn_p12) (4, i + 1, m + 1, m + 1, b) ?_ (mkIPn z T M A B 4 (i + 1) (m + 1) (m + 1) b ⟨by omega, by omega, i2, i3, by omega, by omega, sm_a (by omega) (by omega) i6 rfl, by omega, by omega, by omega⟩) (by show z.length - (i + 1).toNat < z.length - i.toNat; omega) (thXi (b := ((i + 1))) rfl rfl (by omega) (thXi (b := ((m + 1))) rfl rfl (by omega) (thXi (b := ((m + 1))) rfl rfl (by omega) (thXv (v := rwI .u8 z) rfl rfl (thNil))))) runPn_p12
  unfold hyPn_p12
  exact hc (kRlI (isX rfl) (denX rfl) (by first | omega | (simp <;> omega))) <|
   hc (ltT rfl rfl (by omega)) <|
   hc (kElI (j := (Int.toNat (i))) (isX rfl) (isX rfl) (denX rfl) (by omega) (by omega)) <|
   hc (kRem (isX rfl) (isZ (m := 3) rfl) (denX rfl) (by omega) (by omega) rfl) <|
   hc (eqcF rfl (by omega)) <|
   hc (adC rfl rfl (by omega)) <|
   hc (kNeI (isX rfl) (isX rfl) (neF (by omega))) <|
   hc (adC rfl rfl (by omega)) <|
   hnil
def hyPn_p13 : LK := [(.rl (.x 2000000) 1, .x 12), (.bin .lss (.x 0) (.x 12), .b false)]
theorem runPn_p13 : RNPn_0 hyPn_p13 (.exit 0) [(0, .x 1), (2000000, .x 2000000)] [] 76 [(0, .sr 1), (3, .p 2 0), (4, .x 0)] [(1, .r 2000000 5 1 true), (2, .b ⟨56, .l [.i .i64 (.ofNat 1), .i .i64 (.ofNat 2), .i .i64 (.ofNat 1), .x 0, .nils], 0, 0, 0, false, false⟩)] = true := by kernel_rfl
def hyPn_p14 : LK := [(.rl (.x 2000000) 1, .x 13), (.bin .lss (.x 0) (.x 13), .b false)]
theorem runPn_p14 : RNPn_1 hyPn_p14 (.exit 0) [(0, .x 1), (1, .x 2), (2000000, .x 2000000)] [(3, 3), (4, 4), (5, 5), (6, 6), (9, 9), (7, 7), (8, 8)] 76 [(0, .sr 1), (3, .p 2 0), (4, .x 0)] [(1, .r 2000000 5 1 true), (2, .b ⟨56, .l [.i .i64 (.ofNat 1), .i .i64 (.ofNat 2), .i .i64 (.ofNat 1), .x 0, .sl 3 0 1 0 true], 0, 0, 0, false, false⟩), (3, .b ⟨58, .l [.p 4 0], 1, 1, 0, false, true⟩), (4, .b ⟨61, .l [.x 1, .i .i64 (.ofNat 0), .p 5 0], 0, 0, 0, false, false⟩), (5, .b ⟨66, .l [.sl 6 0 1 1 false, .p 9 0, .s 0 0, .i .i64 (.ofNat 0), .nils, .b false], 0, 0, 0, false, false⟩), (6, .b ⟨67, .l [.p 7 0], 0, 0, 0, false, false⟩), (7, .b ⟨111, .l [.i .i64 (.ofNat 1), .sl 8 0 3 0 true, .b false, .b false, .b false, .b false, .b false, .i .u32 (.ofNat 0), .i .i64 (.ofNat 0)], 0, 0, 0, false, false⟩), (8, .b ⟨25, .l [.i .i64 (.ofNat 1), .i .i64 (.ofNat 1), .s 8 65792, .i .i64 (.ofNat 0), .i .i64 (.ofNat 4), .i .i64 (.ofNat 1), .s 0 0, .i .i64 (.ofNat 0), .i .i64 (.ofNat 5), .i .i64 (.ofNat 1), .s 0 0, .i .i64 (.ofNat 0)], 12, 4, 0, false, true⟩), (9, .b ⟨123, .l [.i .i64 (.ofNat 65535), .nils, .i .i64 (.ofNat 0), .b false], 0, 0, 0, false, false⟩)] = true := by kernel_rfl
def hyPn_p15 : LK := [(.rl (.x 2000000) 1, .x 12), (.bin .lss (.x 0) (.x 12), .b false)]
theorem runPn_p15 : RNPn_2 hyPn_p15 (.exit 0) [(0, .x 1), (2000000, .x 2000000)] [(3, 3)] 76 [(0, .sr 1), (3, .p 2 0), (4, .x 0)] [(1, .r 2000000 5 1 true), (2, .b ⟨56, .l [.i .i64 (.ofNat 1), .i .i64 (.ofNat 2), .i .i64 (.ofNat 1), .x 0, .sl 3 0 0 0 true], 0, 0, 0, false, false⟩), (3, .b ⟨58, .l [.nilp], 1, 1, 0, false, true⟩)] = true := by kernel_rfl
def hyPn_p16 : LK := [(.rl (.x 2000000) 1, .x 18), (.bin .lss (.x 0) (.x 18), .b false)]
theorem runPn_p16 : RNPn_3 hyPn_p16 (.exit 0) [(0, .x 1), (1, .x 2), (2, .x 3), (2000000, .x 2000000)] [(3, 3), (4, 4), (10, 10), (5, 5), (6, 6), (9, 9), (7, 7), (8, 8), (11, 11), (12, 12), (15, 15), (13, 13), (14, 14)] 76 [(0, .sr 1), (3, .p 2 0), (4, .x 0)] [(1, .r 2000000 5 1 true), (2, .b ⟨56, .l [.i .i64 (.ofNat 1), .i .i64 (.ofNat 2), .i .i64 (.ofNat 1), .x 0, .sl 3 0 2 0 true], 0, 0, 0, false, false⟩), (3, .b ⟨58, .l [.p 4 0, .p 10 0], 2, 1, 0, false, true⟩), (4, .b ⟨61, .l [.x 1, .i .i64 (.ofNat 0), .p 5 0], 0, 0, 0, false, false⟩), (5, .b ⟨66, .l [.sl 6 0 1 1 false, .p 9 0, .s 0 0, .i .i64 (.ofNat 0), .nils, .b false], 0, 0, 0, false, false⟩), (6, .b ⟨67, .l [.p 7 0], 0, 0, 0, false, false⟩), (7, .b ⟨111, .l [.i .i64 (.ofNat 1), .sl 8 0 3 0 true, .b false, .b false, .b false, .b false, .b false, .i .u32 (.ofNat 0), .i .i64 (.ofNat 0)], 0, 0, 0, false, false⟩), (8, .b ⟨25, .l [.i .i64 (.ofNat 1), .i .i64 (.ofNat 1), .s 8 65792, .i .i64 (.ofNat 0), .i .i64 (.ofNat 4), .i .i64 (.ofNat 1), .s 0 0, .i .i64 (.ofNat 0), .i .i64 (.ofNat 5), .i .i64 (.ofNat 1), .s 0 0, .i .i64 (.ofNat 0)], 12, 4, 0, false, true⟩), (9, .b ⟨123, .l [.i .i64 (.ofNat 65535), .nils, .i .i64 (.ofNat 0), .b false], 0, 0, 0, false, false⟩), (10, .b ⟨61, .l [.x 2, .i .i64 (.ofNat 0), .p 11 0], 0, 0, 0, false, false⟩), (11, .b ⟨66, .l [.sl 12 0 1 1 false, .p 15 0, .s 0 0, .i .i64 (.ofNat 0), .nils, .b false], 0, 0, 0, false, false⟩), (12, .b ⟨67, .l [.p 13 0], 0, 0, 0, false, false⟩), (13, .b ⟨111, .l [.i .i64 (.ofNat 1), .sl 14 0 3 0 true, .b false, .b false, .b false, .b false, .b false, .i .u32 (.ofNat 0), .i .i64 (.ofNat 0)], 0, 0, 0, false, false⟩), (14, .b ⟨25, .l [.i .i64 (.ofNat 1), .i .i64 (.ofNat 1), .s 8 65792, .i .i64 (.ofNat 0), .i .i64 (.ofNat 4), .i .i64 (.ofNat 1), .s 0 0, .i .i64 (.ofNat 0), .i .i64 (.ofNat 5), .i .i64 (.ofNat 1), .s 0 0, .i .i64 (.ofNat 0)], 12, 4, 0, false, true⟩), (15, .b ⟨123, .l [.i .i64 (.ofNat 65535), .nils, .i .i64 (.ofNat 0), .b false], 0, 0, 0, false, false⟩)] = true := by kernel_rfl
def hyPn_p17 : LK := [(.rl (.x 2000000) 1, .x 13), (.bin .lss (.x 0) (.x 13), .b false)]
theorem runPn_p17 : RNPn_4 hyPn_p17 (.exit 0) [(0, .x 1), (1, .x 2), (2000000, .x 2000000)] [(3, 3), (4, 4), (5, 5), (6, 6), (9, 9), (7, 7), (8, 8)] 76 [(0, .sr 1), (3, .p 2 0), (4, .x 0)] [(1, .r 2000000 5 1 true), (2, .b ⟨56, .l [.i .i64 (.ofNat 1), .i .i64 (.ofNat 2), .i .i64 (.ofNat 1), .x 0, .sl 3 0 1 0 true], 0, 0, 0, false, false⟩), (3, .b ⟨58, .l [.p 4 0, .nilp], 2, 1, 0, false, true⟩), (4, .b ⟨61, .l [.x 1, .i .i64 (.ofNat 0), .p 5 0], 0, 0, 0, false, false⟩), (5, .b ⟨66, .l [.sl 6 0 1 1 false, .p 9 0, .s 0 0, .i .i64 (.ofNat 0), .nils, .b false], 0, 0, 0, false, false⟩), (6, .b ⟨67, .l [.p 7 0], 0, 0, 0, false, false⟩), (7, .b ⟨111, .l [.i .i64 (.ofNat 1), .sl 8 0 3 0 true, .b false, .b false, .b false, .b false, .b false, .i .u32 (.ofNat 0), .i .i64 (.ofNat 0)], 0, 0, 0, false, false⟩), (8, .b ⟨25, .l [.i .i64 (.ofNat 1), .i .i64 (.ofNat 1), .s 8 65792, .i .i64 (.ofNat 0), .i .i64 (.ofNat 4), .i .i64 (.ofNat 1), .s 0 0, .i .i64 (.ofNat 0), .i .i64 (.ofNat 5), .i .i64 (.ofNat 1), .s 0 0, .i .i64 (.ofNat 0)], 12, 4, 0, false, true⟩), (9, .b ⟨123, .l [.i .i64 (.ofNat 65535), .nils, .i .i64 (.ofNat 0), .b false], 0, 0, 0, false, false⟩)] = true := by kernel_rfl
def hyPn_p18 : LK := [(.rl (.x 2000000) 1, .x 12), (.bin .lss (.x 0) (.x 12), .b false)]
theorem runPn_p18 : RNPn_5 hyPn_p18 (.exit 0) [(0, .x 1), (2000000, .x 2000000)] [(3, 3)] 76 [(0, .sr 1), (3, .p 2 0), (4, .x 0)] [(1, .r 2000000 5 1 true), (2, .b ⟨56, .l [.i .i64 (.ofNat 1), .i .i64 (.ofNat 2), .i .i64 (.ofNat 1), .x 0, .sl 3 0 0 0 true], 0, 0, 0, false, false⟩), (3, .b ⟨58, .l [.nilp, .nilp], 2, 1, 0, false, true⟩)] = true := by kernel_rfl
def nuEPn_0 (z : List Int) (T : Nat) (M A B : Int) : List Value := [.int .i64 (M)]
def roEPn_0 (z : List Int) (T : Nat) (M A B : Int) : List Value := [rwI .u8 z]
noncomputable def EPn_0 (z : List Int) (T : Nat) (M A B : Int) : Cx := cx (nuX (nuEPn_0 z T M A B) (rX (roEPn_0 z T M A B) (fun _ => .bool true))) (nuX_one (nuL_one (l := nuEPn_0 z T M A B) rfl)) 0 laidE laidE_stab
theorem roundsPn_0 (z : List Int) (T : Nat) (M A B : Int) (x0 : T = 0) (st : Nat × Int × Int × Int × Int) (X : Nat → Value) (hI : InvPn z T M A B st) : RHPn z T M A B (EPn_0 z T M A B) (.exit 0) [(0, .sr 1), (3, .p 2 0), (4, .x 0)] [(1, .r 2000000 5 1 true), (2, .b ⟨56, .l [.i .i64 (.ofNat 1), .i .i64 (.ofNat 2), .i .i64 (.ofNat 1), .x 0, .nils], 0, 0, 0, false, false⟩)] st X := by
  obtain ⟨tag, i, m, a, b⟩ := st
  have hI0 := hI
  obtain ⟨i0, i1, i2, i3, i4, i5, i6, i7, i8, it⟩ := unIPn z T M A B tag i m a b hI
  rcases (show tag = 0 ∨ tag = 1 ∨ tag = 2 ∨ tag = 3 ∨ tag = 4 ∨ tag = 5 from by omega) with rfl | rfl | rfl | rfl | rfl | rfl
  · skip
    by_cases h0 : i < (z.length : Int)
    · by_cases h1 : (nthI z (Int.toNat (i))) % 3 = 0
      · exact nxPn_p0 z T M A B i m a b X hI0 h0 h1
      · exact nxPn_p1 z T M A B i m a b X hI0 h0 h1
    · skip
      have hX := sm_x (by omega) (by omega) i6
      injection hX with hX0 hX1
      injection hX1 with hX1 hX2
      injection hX2 with hX2 hX3
      refine lvPn_0 z T M A B i m a b (h := hyPn_p13) rfl ?_ (thXi (b := (M)) rfl rfl (by omega) (thXv (v := rwI .u8 z) rfl rfl (thNil))) runPn_p13
      unfold hyPn_p13
      exact hc (kRlI (isX rfl) (denX rfl) (by first | omega | (simp <;> omega))) <|
       hc (ltF rfl rfl (by omega)) <|
       hnil
  · skip
    by_cases h0 : i < (z.length : Int)
    · by_cases h1 : (nthI z (Int.toNat (i))) % 3 = 0
      · exact nxPn_p2 z T M A B i m a b X hI0 h0 h1
      · exact nxPn_p3 z T M A B i m a b X hI0 h0 h1
    · exfalso; have hX := sm_x (by omega) (by omega) i6; injection hX with hX0 hX1; omega
  · skip
    by_cases h0 : i < (z.length : Int)
    · by_cases h1 : (nthI z (Int.toNat (i))) % 3 = 0
      · exact nxPn_p4 z T M A B i m a b X hI0 h0 h1
      · exact nxPn_p5 z T M A B i m a b X hI0 h0 h1
    · exfalso; have hX := sm_x (by omega) (by omega) i6; injection hX with hX0 hX1; omega
  · skip
    by_cases h0 : i < (z.length : Int)
    · by_cases h1 : (nthI z (Int.toNat (i))) % 3 = 0
      · by_cases h2 : ((nthI z (Int.toNat (i)))) % 2 = 0
        · exact nxPn_p6 z T M A B i m a b X hI0 h0 h1 h2
        · exact nxPn_p7 z T M A B i m a b X hI0 h0 h1 h2
      · exact nxPn_p8 z T M A B i m a b X hI0 h0 h1
    · exfalso; have hX := sm_x (by omega) (by omega) i6; injection hX with hX0 hX1; omega
  · skip
    by_cases h0 : i < (z.length : Int)
    · by_cases h1 : (nthI z (Int.toNat (i))) % 3 = 0
      · exact nxPn_p9 z T M A B i m a b X hI0 h0 h1
      · exact nxPn_p10 z T M A B i m a b X hI0 h0 h1
    · exfalso; have hX := sm_x (by omega) (by omega) i6; injection hX with hX0 hX1; omega
  · skip
    by_cases h0 : i < (z.length : Int)
    · by_cases h1 : (nthI z (Int.toNat (i))) % 3 = 0
      · exact nxPn_p11 z T M A B i m a b X hI0 h0 h1
      · exact nxPn_p12 z T M A B i m a b X hI0 h0 h1
    · exfalso; have hX := sm_x (by omega) (by omega) i6; injection hX with hX0 hX1; omega
theorem lfOkPn_0 {l : LF} {h : LH} (z : List Int) (T : Nat) (M A B : Int) (x0 : T = 0) (st : Nat × Int × Int × Int × Int) (hI : InvPn z T M A B st) (hl : l.hp = some h) (hs : lfSame l h 97 keepPn (.exit 0) 1 3 76 = true) {th0 : LA} {sg0 : List (Nat × Nat)} (hth0 : ∀ X, ThOk (cx nu one 0 laidE laidE_stab) (DPn z T M A B st X) th0) (h0 : startOk l h 97 3 16 th0 sg0 (epPn st) (hpPn st) = true) {thx : LA} (hthx : ThOk (EPn_0 z T M A B) (cx nu one 0 laidE laidE_stab) thx) (hx : exitOk l h 97 3 76 thx [(0, .sr 1), (3, .p 2 0), (4, .x 0)] [(1, .r 2000000 5 1 true), (2, .b ⟨56, .l [.i .i64 (.ofNat 1), .i .i64 (.ofNat 2), .i .i64 (.ofNat 1), .x 0, .nils], 0, 0, 0, false, false⟩)] = true) : LfOk (cx nu one 0 laidE laidE_stab) bodyPn l :=
  lfOkX (E := EPn_0 z T M A B) (InvPn z T M A B) (muPn z T M A B) (DPn z T M A B) (fun _ _ => rfl) (fun _ _ => rfl) (fun _ _ => rfl) (fun st X t ht => nuX_keep.trans (rX_keep ((by decide : ∀ t, t ∈ keepPn → t < 1000000) t ht))) rfl rfl rfl hl hs ebPn rfl rfl st hI hth0 h0 hthx hx (roundsPn_0 z T M A B x0)
def nuEPn_1 (z : List Int) (T : Nat) (M A B : Int) : List Value := [.int .i64 (M), .int .i64 (A)]
def roEPn_1 (z : List Int) (T : Nat) (M A B : Int) : List Value := [rwI .u8 z]
noncomputable def EPn_1 (z : List Int) (T : Nat) (M A B : Int) : Cx := cx (nuX (nuEPn_1 z T M A B) (rX (roEPn_1 z T M A B) (fun _ => .bool true))) (nuX_one (nuL_one (l := nuEPn_1 z T M A B) rfl)) 0 laidE laidE_stab
theorem roundsPn_1 (z : List Int) (T : Nat) (M A B : Int) (x0 : T = 1) (st : Nat × Int × Int × Int × Int) (X : Nat → Value) (hI : InvPn z T M A B st) : RHPn z T M A B (EPn_1 z T M A B) (.exit 0) [(0, .sr 1), (3, .p 2 0), (4, .x 0)] [(1, .r 2000000 5 1 true), (2, .b ⟨56, .l [.i .i64 (.ofNat 1), .i .i64 (.ofNat 2), .i .i64 (.ofNat 1), .x 0, .sl 3 0 1 0 true], 0, 0, 0, false, false⟩), (3, .b ⟨58, .l [.p 4 0], 1, 1, 0, false, true⟩), (4, .b ⟨61, .l [.x 1, .i .i64 (.ofNat 0), .p 5 0], 0, 0, 0, false, false⟩), (5, .b ⟨66, .l [.sl 6 0 1 1 false, .p 9 0, .s 0 0, .i .i64 (.ofNat 0), .nils, .b false], 0, 0, 0, false, false⟩), (6, .b ⟨67, .l [.p 7 0], 0, 0, 0, false, false⟩), (7, .b ⟨111, .l [.i .i64 (.ofNat 1), .sl 8 0 3 0 true, .b false, .b false, .b false, .b false, .b false, .i .u32 (.ofNat 0), .i .i64 (.ofNat 0)], 0, 0, 0, false, false⟩), (8, .b ⟨25, .l [.i .i64 (.ofNat 1), .i .i64 (.ofNat 1), .s 8 65792, .i .i64 (.ofNat 0), .i .i64 (.ofNat 4), .i .i64 (.ofNat 1), .s 0 0, .i .i64 (.ofNat 0), .i .i64 (.ofNat 5), .i .i64 (.ofNat 1), .s 0 0, .i .i64 (.ofNat 0)], 12, 4, 0, false, true⟩), (9, .b ⟨123, .l [.i .i64 (.ofNat 65535), .nils, .i .i64 (.ofNat 0), .b false], 0, 0, 0, false, false⟩)] st X := by
  obtain ⟨tag, i, m, a, b⟩ := st
  have hI0 := hI
  obtain ⟨i0, i1, i2, i3, i4, i5, i6, i7, i8, it⟩ := unIPn z T M A B tag i m a b hI
  rcases (show tag = 0 ∨ tag = 1 ∨ tag = 2 ∨ tag = 3 ∨ tag = 4 ∨ tag = 5 from by omega) with rfl | rfl | rfl | rfl | rfl | rfl
  · skip
    by_cases h0 : i < (z.length : Int)
    · by_cases h1 : (nthI z (Int.toNat (i))) % 3 = 0
      · exact nxPn_p0 z T M A B i m a b X hI0 h0 h1
      · exact nxPn_p1 z T M A B i m a b X hI0 h0 h1
    · exfalso; have hX := sm_x (by omega) (by omega) i6; injection hX with hX0 hX1; omega
  · skip
    by_cases h0 : i < (z.length : Int)
    · by_cases h1 : (nthI z (Int.toNat (i))) % 3 = 0
      · exact nxPn_p2 z T M A B i m a b X hI0 h0 h1
      · exact nxPn_p3 z T M A B i m a b X hI0 h0 h1
    · skip
      have hX := sm_x (by omega) (by omega) i6
      injection hX with hX0 hX1
      injection hX1 with hX1 hX2
      injection hX2 with hX2 hX3
      refine lvPn_1 z T M A B i m a b (h := hyPn_p14) rfl ?_ (thXi (b := (M)) rfl rfl (by omega) (thXi (b := (A)) rfl rfl (by omega) (thXv (v := rwI .u8 z) rfl rfl (thNil)))) runPn_p14
      unfold hyPn_p14
      exact hc (kRlI (isX rfl) (denX rfl) (by first | omega | (simp <;> omega))) <|
       hc (ltF rfl rfl (by omega)) <|
       hnil
  · skip
    by_cases h0 : i < (z.length : Int)
    · by_cases h1 : (nthI z (Int.toNat (i))) % 3 = 0
      · exact nxPn_p4 z T M A B i m a b X hI0 h0 h1
      · exact nxPn_p5 z T M A B i m a b X hI0 h0 h1
    · exfalso; have hX := sm_x (by omega) (by omega) i6; injection hX with hX0 hX1; omega
  · skip
    by_cases h0 : i < (z.length : Int)
    · by_cases h1 : (nthI z (Int.toNat (i))) % 3 = 0
      · by_cases h2 : ((nthI z (Int.toNat (i)))) % 2 = 0
        · exact nxPn_p6 z T M A B i m a b X hI0 h0 h1 h2
        · exact nxPn_p7 z T M A B i m a b X hI0 h0 h1 h2
      · exact nxPn_p8 z T M A B i m a b X hI0 h0 h1
    · exfalso; have hX := sm_x (by omega) (by omega) i6; injection hX with hX0 hX1; omega
  · skip
    by_cases h0 : i < (z.length : Int)
    · by_cases h1 : (nthI z (Int.toNat (i))) % 3 = 0
      · exact nxPn_p9 z T M A B i m a b X hI0 h0 h1
      · exact nxPn_p10 z T M A B i m a b X hI0 h0 h1
    · exfalso; have hX := sm_x (by omega) (by omega) i6; injection hX with hX0 hX1; omega
  · skip
    by_cases h0 : i < (z.length : Int)
    · by_cases h1 : (nthI z (Int.toNat (i))) % 3 = 0
      · exact nxPn_p11 z T M A B i m a b X hI0 h0 h1
      · exact nxPn_p12 z T M A B i m a b X hI0 h0 h1
    · exfalso; have hX := sm_x (by omega) (by omega) i6; injection hX with hX0 hX1; omega
theorem lfOkPn_1 {l : LF} {h : LH} (z : List Int) (T : Nat) (M A B : Int) (x0 : T = 1) (st : Nat × Int × Int × Int × Int) (hI : InvPn z T M A B st) (hl : l.hp = some h) (hs : lfSame l h 97 keepPn (.exit 0) 1 3 76 = true) {th0 : LA} {sg0 : List (Nat × Nat)} (hth0 : ∀ X, ThOk (cx nu one 0 laidE laidE_stab) (DPn z T M A B st X) th0) (h0 : startOk l h 97 3 16 th0 sg0 (epPn st) (hpPn st) = true) {thx : LA} (hthx : ThOk (EPn_1 z T M A B) (cx nu one 0 laidE laidE_stab) thx) (hx : exitOk l h 97 3 76 thx [(0, .sr 1), (3, .p 2 0), (4, .x 0)] [(1, .r 2000000 5 1 true), (2, .b ⟨56, .l [.i .i64 (.ofNat 1), .i .i64 (.ofNat 2), .i .i64 (.ofNat 1), .x 0, .sl 3 0 1 0 true], 0, 0, 0, false, false⟩), (3, .b ⟨58, .l [.p 4 0], 1, 1, 0, false, true⟩), (4, .b ⟨61, .l [.x 1, .i .i64 (.ofNat 0), .p 5 0], 0, 0, 0, false, false⟩), (5, .b ⟨66, .l [.sl 6 0 1 1 false, .p 9 0, .s 0 0, .i .i64 (.ofNat 0), .nils, .b false], 0, 0, 0, false, false⟩), (6, .b ⟨67, .l [.p 7 0], 0, 0, 0, false, false⟩), (7, .b ⟨111, .l [.i .i64 (.ofNat 1), .sl 8 0 3 0 true, .b false, .b false, .b false, .b false, .b false, .i .u32 (.ofNat 0), .i .i64 (.ofNat 0)], 0, 0, 0, false, false⟩), (8, .b ⟨25, .l [.i .i64 (.ofNat 1), .i .i64 (.ofNat 1), .s 8 65792, .i .i64 (.ofNat 0), .i .i64 (.ofNat 4), .i .i64 (.ofNat 1), .s 0 0, .i .i64 (.ofNat 0), .i .i64 (.ofNat 5), .i .i64 (.ofNat 1), .s 0 0, .i .i64 (.ofNat 0)], 12, 4, 0, false, true⟩), (9, .b ⟨123, .l [.i .i64 (.ofNat 65535), .nils, .i .i64 (.ofNat 0), .b false], 0, 0, 0, false, false⟩)] = true) : LfOk (cx nu one 0 laidE laidE_stab) bodyPn l :=
  lfOkX (E := EPn_1 z T M A B) (InvPn z T M A B) (muPn z T M A B) (DPn z T M A B) (fun _ _ => rfl) (fun _ _ => rfl) (fun _ _ => rfl) (fun st X t ht => nuX_keep.trans (rX_keep ((by decide : ∀ t, t ∈ keepPn → t < 1000000) t ht))) rfl rfl rfl hl hs ebPn rfl rfl st hI hth0 h0 hthx hx (roundsPn_1 z T M A B x0)
def nuEPn_2 (z : List Int) (T : Nat) (M A B : Int) : List Value := [.int .i64 (M)]
def roEPn_2 (z : List Int) (T : Nat) (M A B : Int) : List Value := [rwI .u8 z]
noncomputable def EPn_2 (z : List Int) (T : Nat) (M A B : Int) : Cx := cx (nuX (nuEPn_2 z T M A B) (rX (roEPn_2 z T M A B) (fun _ => .bool true))) (nuX_one (nuL_one (l := nuEPn_2 z T M A B) rfl)) 0 laidE laidE_stab
theorem roundsPn_2 (z : List Int) (T : Nat) (M A B : Int) (x0 : T = 2) (st : Nat × Int × Int × Int × Int) (X : Nat → Value) (hI : InvPn z T M A B st) : RHPn z T M A B (EPn_2 z T M A B) (.exit 0) [(0, .sr 1), (3, .p 2 0), (4, .x 0)] [(1, .r 2000000 5 1 true), (2, .b ⟨56, .l [.i .i64 (.ofNat 1), .i .i64 (.ofNat 2), .i .i64 (.ofNat 1), .x 0, .sl 3 0 0 0 true], 0, 0, 0, false, false⟩), (3, .b ⟨58, .l [.nilp], 1, 1, 0, false, true⟩)] st X := by
  obtain ⟨tag, i, m, a, b⟩ := st
  have hI0 := hI
  obtain ⟨i0, i1, i2, i3, i4, i5, i6, i7, i8, it⟩ := unIPn z T M A B tag i m a b hI
  rcases (show tag = 0 ∨ tag = 1 ∨ tag = 2 ∨ tag = 3 ∨ tag = 4 ∨ tag = 5 from by omega) with rfl | rfl | rfl | rfl | rfl | rfl
  · skip
    by_cases h0 : i < (z.length : Int)
    · by_cases h1 : (nthI z (Int.toNat (i))) % 3 = 0
      · exact nxPn_p0 z T M A B i m a b X hI0 h0 h1
      · exact nxPn_p1 z T M A B i m a b X hI0 h0 h1
    · exfalso; have hX := sm_x (by omega) (by omega) i6; injection hX with hX0 hX1; omega
  · skip
    by_cases h0 : i < (z.length : Int)
    · by_cases h1 : (nthI z (Int.toNat (i))) % 3 = 0
      · exact nxPn_p2 z T M A B i m a b X hI0 h0 h1
      · exact nxPn_p3 z T M A B i m a b X hI0 h0 h1
    · exfalso; have hX := sm_x (by omega) (by omega) i6; injection hX with hX0 hX1; omega
  · skip
    by_cases h0 : i < (z.length : Int)
    · by_cases h1 : (nthI z (Int.toNat (i))) % 3 = 0
      · exact nxPn_p4 z T M A B i m a b X hI0 h0 h1
      · exact nxPn_p5 z T M A B i m a b X hI0 h0 h1
    · skip
      have hX := sm_x (by omega) (by omega) i6
      injection hX with hX0 hX1
      injection hX1 with hX1 hX2
      injection hX2 with hX2 hX3
      refine lvPn_2 z T M A B i m a b (h := hyPn_p15) rfl ?_ (thXi (b := (M)) rfl rfl (by omega) (thXv (v := rwI .u8 z) rfl rfl (thNil))) runPn_p15
      unfold hyPn_p15
      exact hc (kRlI (isX rfl) (denX rfl) (by first | omega | (simp <;> omega))) <|
       hc (ltF rfl rfl (by omega)) <|
       hnil
  · skip
    by_cases h0 : i < (z.length : Int)
    · by_cases h1 : (nthI z (Int.toNat (i))) % 3 = 0
      · by_cases h2 : ((nthI z (Int.toNat (i)))) % 2 = 0
        · exact nxPn_p6 z T M A B i m a b X hI0 h0 h1 h2
        · exact nxPn_p7 z T M A B i m a b X hI0 h0 h1 h2
      · exact nxPn_p8 z T M A B i m a b X hI0 h0 h1
    · exfalso; have hX := sm_x (by omega) (by omega) i6; injection hX with hX0 hX1; omega
  · skip
    by_cases h0 : i < (z.length : Int)
    · by_cases h1 : (nthI z (Int.toNat (i))) % 3 = 0
      · exact nxPn_p9 z T M A B i m a b X hI0 h0 h1
      · exact nxPn_p10 z T M A B i m a b X hI0 h0 h1
    · exfalso; have hX := sm_x (by omega) (by omega) i6; injection hX with hX0 hX1; omega
  · skip
    by_cases h0 : i < (z.length : Int)
    · by_cases h1 : (nthI z (Int.toNat (i))) % 3 = 0
      · exact nxPn_p11 z T M A B i m a b X hI0 h0 h1
      · exact nxPn_p12 z T M A B i m a b X hI0 h0 h1
    · exfalso; have hX := sm_x (by omega) (by omega) i6; injection hX with hX0 hX1; omega
theorem lfOkPn_2 {l : LF} {h : LH} (z : List Int) (T : Nat) (M A B : Int) (x0 : T = 2) (st : Nat × Int × Int × Int × Int) (hI : InvPn z T M A B st) (hl : l.hp = some h) (hs : lfSame l h 97 keepPn (.exit 0) 1 3 76 = true) {th0 : LA} {sg0 : List (Nat × Nat)} (hth0 : ∀ X, ThOk (cx nu one 0 laidE laidE_stab) (DPn z T M A B st X) th0) (h0 : startOk l h 97 3 16 th0 sg0 (epPn st) (hpPn st) = true) {thx : LA} (hthx : ThOk (EPn_2 z T M A B) (cx nu one 0 laidE laidE_stab) thx) (hx : exitOk l h 97 3 76 thx [(0, .sr 1), (3, .p 2 0), (4, .x 0)] [(1, .r 2000000 5 1 true), (2, .b ⟨56, .l [.i .i64 (.ofNat 1), .i .i64 (.ofNat 2), .i .i64 (.ofNat 1), .x 0, .sl 3 0 0 0 true], 0, 0, 0, false, false⟩), (3, .b ⟨58, .l [.nilp], 1, 1, 0, false, true⟩)] = true) : LfOk (cx nu one 0 laidE laidE_stab) bodyPn l :=
  lfOkX (E := EPn_2 z T M A B) (InvPn z T M A B) (muPn z T M A B) (DPn z T M A B) (fun _ _ => rfl) (fun _ _ => rfl) (fun _ _ => rfl) (fun st X t ht => nuX_keep.trans (rX_keep ((by decide : ∀ t, t ∈ keepPn → t < 1000000) t ht))) rfl rfl rfl hl hs ebPn rfl rfl st hI hth0 h0 hthx hx (roundsPn_2 z T M A B x0)
def nuEPn_3 (z : List Int) (T : Nat) (M A B : Int) : List Value := [.int .i64 (M), .int .i64 (A), .int .i64 (B)]
def roEPn_3 (z : List Int) (T : Nat) (M A B : Int) : List Value := [rwI .u8 z]
noncomputable def EPn_3 (z : List Int) (T : Nat) (M A B : Int) : Cx := cx (nuX (nuEPn_3 z T M A B) (rX (roEPn_3 z T M A B) (fun _ => .bool true))) (nuX_one (nuL_one (l := nuEPn_3 z T M A B) rfl)) 0 laidE laidE_stab
theorem roundsPn_3 (z : List Int) (T : Nat) (M A B : Int) (x0 : T = 3) (st : Nat × Int × Int × Int × Int) (X : Nat → Value) (hI : InvPn z T M A B st) : RHPn z T M A B (EPn_3 z T M A B) (.exit 0) [(0, .sr 1), (3, .p 2 0), (4, .x 0)] [(1, .r 2000000 5 1 true), (2, .b ⟨56, .l [.i .i64 (.ofNat 1), .i .i64 (.ofNat 2), .i .i64 (.ofNat 1), .x 0, .sl 3 0 2 0 true], 0, 0, 0, false, false⟩), (3, .b ⟨58, .l [.p 4 0, .p 10 0], 2, 1, 0, false, true⟩), (4, .b ⟨61, .l [.x 1, .i .i64 (.ofNat 0), .p 5 0], 0, 0, 0, false, false⟩), (5, .b ⟨66, .l [.sl 6 0 1 1 false, .p 9 0, .s 0 0, .i .i64 (.ofNat 0), .nils, .b false], 0, 0, 0, false, false⟩), (6, .b ⟨67, .l [.p 7 0], 0, 0, 0, false, false⟩), (7, .b ⟨111, .l [.i .i64 (.ofNat 1), .sl 8 0 3 0 true, .b false, .b false, .b false, .b false, .b false, .i .u32 (.ofNat 0), .i .i64 (.ofNat 0)], 0, 0, 0, false, false⟩), (8, .b ⟨25, .l [.i .i64 (.ofNat 1), .i .i64 (.ofNat 1), .s 8 65792, .i .i64 (.ofNat 0), .i .i64 (.ofNat 4), .i .i64 (.ofNat 1), .s 0 0, .i .i64 (.ofNat 0), .i .i64 (.ofNat 5), .i .i64 (.ofNat 1), .s 0 0, .i .i64 (.ofNat 0)], 12, 4, 0, false, true⟩), (9, .b ⟨123, .l [.i .i64 (.ofNat 65535), .nils, .i .i64 (.ofNat 0), .b false], 0, 0, 0, false, false⟩), (10, .b ⟨61, .l [.x 2, .i .i64 (.ofNat 0), .p 11 0], 0, 0, 0, false, false⟩), (11, .b ⟨66, .l [.sl 12 0 1 1 false, .p 15 0, .s 0 0, .i .i64 (.ofNat 0), .nils, .b false], 0, 0, 0, false, false⟩), (12, .b ⟨67, .l [.p 13 0], 0, 0, 0, false, false⟩), (13, .b ⟨111, .l [.i .i64 (.ofNat 1), .sl 14 0 3 0 true, .b false, .b false, .b false, .b false, .b false, .i .u32 (.ofNat 0), .i .i64 (.ofNat 0)], 0, 0, 0, false, false⟩), (14, .b ⟨25, .l [.i .i64 (.ofNat 1), .i .i64 (.ofNat 1), .s 8 65792, .i .i64 (.ofNat 0), .i .i64 (.ofNat 4), .i .i64 (.ofNat 1), .s 0 0, .i .i64 (.ofNat 0), .i .i64 (.ofNat 5), .i .i64 (.ofNat 1), .s 0 0, .i .i64 (.ofNat 0)], 12, 4, 0, false, true⟩), (15, .b ⟨123, .l [.i .i64 (.ofNat 65535), .nils, .i .i64 (.ofNat 0), .b false], 0, 0, 0, false, false⟩)] st X := by
  obtain ⟨tag, i, m, a, b⟩ := st
  have hI0 := hI
  obtain ⟨i0, i1, i2, i3, i4, i5, i6, i7, i8, it⟩ := unIPn z T M A B tag i m a b hI
  rcases (show tag = 0 ∨ tag = 1 ∨ tag = 2 ∨ tag = 3 ∨ tag = 4 ∨ tag = 5 from by omega) with rfl | rfl | rfl | rfl | rfl | rfl
  · skip
    by_cases h0 : i < (z.length : Int)
    · by_cases h1 : (nthI z (Int.toNat (i))) % 3 = 0
      · exact nxPn_p0 z T M A B i m a b X hI0 h0 h1
      · exact nxPn_p1 z T M A B i m a b X hI0 h0 h1
    · exfalso; have hX := sm_x (by omega) (by omega) i6; injection hX with hX0 hX1; omega
  · skip
    by_cases h0 : i < (z.length : Int)
    · by_cases h1 : (nthI z (Int.toNat (i))) % 3 = 0
      · exact nxPn_p2 z T M A B i m a b X hI0 h0 h1
      · exact nxPn_p3 z T M A B i m a b X hI0 h0 h1
    · exfalso; have hX := sm_x (by omega) (by omega) i6; injection hX with hX0 hX1; omega
  · skip
    by_cases h0 : i < (z.length : Int)
    · by_cases h1 : (nthI z (Int.toNat (i))) % 3 = 0
      · exact nxPn_p4 z T M A B i m a b X hI0 h0 h1
      · exact nxPn_p5 z T M A B i m a b X hI0 h0 h1
    · exfalso; have hX := sm_x (by omega) (by omega) i6; injection hX with hX0 hX1; omega
  · skip
    by_cases h0 : i < (z.length : Int)
    · by_cases h1 : (nthI z (Int.toNat (i))) % 3 = 0
      · by_cases h2 : ((nthI z (Int.toNat (i)))) % 2 = 0
        · exact nxPn_p6 z T M A B i m a b X hI0 h0 h1 h2
        · exact nxPn_p7 z T M A B i m a b X hI0 h0 h1 h2
      · exact nxPn_p8 z T M A B i m a b X hI0 h0 h1
    · skip
      have hX := sm_x (by omega) (by omega) i6
      injection hX with hX0 hX1
      injection hX1 with hX1 hX2
      injection hX2 with hX2 hX3
      refine lvPn_3 z T M A B i m a b (h := hyPn_p16) rfl ?_ (thXi (b := (M)) rfl rfl (by omega) (thXi (b := (A)) rfl rfl (by omega) (thXi (b := (B)) rfl rfl (by omega) (thXv (v := rwI .u8 z) rfl rfl (thNil))))) runPn_p16
      unfold hyPn_p16
      exact hc (kRlI (isX rfl) (denX rfl) (by first | omega | (simp <;> omega))) <|
       hc (ltF rfl rfl (by omega)) <|
       hnil
  · skip
    by_cases h0 : i < (z.length : Int)
    · by_cases h1 : (nthI z (Int.toNat (i))) % 3 = 0
      · exact nxPn_p9 z T M A B i m a b X hI0 h0 h1
      · exact nxPn_p10 z T M A B i m a b X hI0 h0 h1
    · exfalso; have hX := sm_x (by omega) (by omega) i6; injection hX with hX0 hX1; omega
  · skip
    by_cases h0 : i < (z.length : Int)
    · by_cases h1 : (nthI z (Int.toNat (i))) % 3 = 0
      · exact nxPn_p11 z T M A B i m a b X hI0 h0 h1
      · exact nxPn_p12 z T M A B i m a b X hI0 h0 h1
    · exfalso; have hX := sm_x (by omega) (by omega) i6; injection hX with hX0 hX1; omega
theorem lfOkPn_3 {l : LF} {h : LH} (z : List Int) (T : Nat) (M A B : Int) (x0 : T = 3) (st : Nat × Int × Int × Int × Int) (hI : InvPn z T M A B st) (hl : l.hp = some h) (hs : lfSame l h 97 keepPn (.exit 0) 1 3 76 = true) {th0 : LA} {sg0 : List (Nat × Nat)} (hth0 : ∀ X, ThOk (cx nu one 0 laidE laidE_stab) (DPn z T M A B st X) th0) (h0 : startOk l h 97 3 16 th0 sg0 (epPn st) (hpPn st) = true) {thx : LA} (hthx : ThOk (EPn_3 z T M A B) (cx nu one 0 laidE laidE_stab) thx) (hx : exitOk l h 97 3 76 thx [(0, .sr 1), (3, .p 2 0), (4, .x 0)] [(1, .r 2000000 5 1 true), (2, .b ⟨56, .l [.i .i64 (.ofNat 1), .i .i64 (.ofNat 2), .i .i64 (.ofNat 1), .x 0, .sl 3 0 2 0 true], 0, 0, 0, false, false⟩), (3, .b ⟨58, .l [.p 4 0, .p 10 0], 2, 1, 0, false, true⟩), (4, .b ⟨61, .l [.x 1, .i .i64 (.ofNat 0), .p 5 0], 0, 0, 0, false, false⟩), (5, .b ⟨66, .l [.sl 6 0 1 1 false, .p 9 0, .s 0 0, .i .i64 (.ofNat 0), .nils, .b false], 0, 0, 0, false, false⟩), (6, .b ⟨67, .l [.p 7 0], 0, 0, 0, false, false⟩), (7, .b ⟨111, .l [.i .i64 (.ofNat 1), .sl 8 0 3 0 true, .b false, .b false, .b false, .b false, .b false, .i .u32 (.ofNat 0), .i .i64 (.ofNat 0)], 0, 0, 0, false, false⟩), (8, .b ⟨25, .l [.i .i64 (.ofNat 1), .i .i64 (.ofNat 1), .s 8 65792, .i .i64 (.ofNat 0), .i .i64 (.ofNat 4), .i .i64 (.ofNat 1), .s 0 0, .i .i64 (.ofNat 0), .i .i64 (.ofNat 5), .i .i64 (.ofNat 1), .s 0 0, .i .i64 (.ofNat 0)], 12, 4, 0, false, true⟩), (9, .b ⟨123, .l [.i .i64 (.ofNat 65535), .nils, .i .i64 (.ofNat 0), .b false], 0, 0, 0, false, false⟩), (10, .b ⟨61, .l [.x 2, .i .i64 (.ofNat 0), .p 11 0], 0, 0, 0, false, false⟩), (11, .b ⟨66, .l [.sl 12 0 1 1 false, .p 15 0, .s 0 0, .i .i64 (.ofNat 0), .nils, .b false], 0, 0, 0, false, false⟩), (12, .b ⟨67, .l [.p 13 0], 0, 0, 0, false, false⟩), (13, .b ⟨111, .l [.i .i64 (.ofNat 1), .sl 14 0 3 0 true, .b false, .b false, .b false, .b false, .b false, .i .u32 (.ofNat 0), .i .i64 (.ofNat 0)], 0, 0, 0, false, false⟩), (14, .b ⟨25, .l [.i .i64 (.ofNat 1), .i .i64 (.ofNat 1), .s 8 65792, .i .i64 (.ofNat 0), .i .i64 (.ofNat 4), .i .i64 (.ofNat 1), .s 0 0, .i .i64 (.ofNat 0), .i .i64 (.ofNat 5), .i .i64 (.ofNat 1), .s 0 0, .i .i64 (.ofNat 0)], 12, 4, 0, false, true⟩), (15, .b ⟨123, .l [.i .i64 (.ofNat 65535), .nils, .i .i64 (.ofNat 0), .b false], 0, 0, 0, false, false⟩)] = true) : LfOk (cx nu one 0 laidE laidE_stab) bodyPn l :=
  lfOkX (E := EPn_3 z T M A B) (InvPn z T M A B) (muPn z T M A B) (DPn z T M A B) (fun _ _ => rfl) (fun _ _ => rfl) (fun _ _ => rfl) (fun st X t ht => nuX_keep.trans (rX_keep ((by decide : ∀ t, t ∈ keepPn → t < 1000000) t ht))) rfl rfl rfl hl hs ebPn rfl rfl st hI hth0 h0 hthx hx (roundsPn_3 z T M A B x0)
def nuEPn_4 (z : List Int) (T : Nat) (M A B : Int) : List Value := [.int .i64 (M), .int .i64 (A)]
def roEPn_4 (z : List Int) (T : Nat) (M A B : Int) : List Value := [rwI .u8 z]
noncomputable def EPn_4 (z : List Int) (T : Nat) (M A B : Int) : Cx := cx (nuX (nuEPn_4 z T M A B) (rX (roEPn_4 z T M A B) (fun _ => .bool true))) (nuX_one (nuL_one (l := nuEPn_4 z T M A B) rfl)) 0 laidE laidE_stab
theorem roundsPn_4 (z : List Int) (T : Nat) (M A B : Int) (x0 : T = 4) (st : Nat × Int × Int × Int × Int) (X : Nat → Value) (hI : InvPn z T M A B st) : RHPn z T M A B (EPn_4 z T M A B) (.exit 0) [(0, .sr 1), (3, .p 2 0), (4, .x 0)] [(1, .r 2000000 5 1 true), (2, .b ⟨56, .l [.i .i64 (.ofNat 1), .i .i64 (.ofNat 2), .i .i64 (.ofNat 1), .x 0, .sl 3 0 1 0 true], 0, 0, 0, false, false⟩), (3, .b ⟨58, .l [.p 4 0, .nilp], 2, 1, 0, false, true⟩), (4, .b ⟨61, .l [.x 1, .i .i64 (.ofNat 0), .p 5 0], 0, 0, 0, false, false⟩), (5, .b ⟨66, .l [.sl 6 0 1 1 false, .p 9 0, .s 0 0, .i .i64 (.ofNat 0), .nils, .b false], 0, 0, 0, false, false⟩), (6, .b ⟨67, .l [.p 7 0], 0, 0, 0, false, false⟩), (7, .b ⟨111, .l [.i .i64 (.ofNat 1), .sl 8 0 3 0 true, .b false, .b false, .b false, .b false, .b false, .i .u32 (.ofNat 0), .i .i64 (.ofNat 0)], 0, 0, 0, false, false⟩), (8, .b ⟨25, .l [.i .i64 (.ofNat 1), .i .i64 (.ofNat 1), .s 8 65792, .i .i64 (.ofNat 0), .i .i64 (.ofNat 4), .i .i64 (.ofNat 1), .s 0 0, .i .i64 (.ofNat 0), .i .i64 (.ofNat 5), .i .i64 (.ofNat 1), .s 0 0, .i .i64 (.ofNat 0)], 12, 4, 0, false, true⟩), (9, .b ⟨123, .l [.i .i64 (.ofNat 65535), .nils, .i .i64 (.ofNat 0), .b false], 0, 0, 0, false, false⟩)] st X := by
  obtain ⟨tag, i, m, a, b⟩ := st
  have hI0 := hI
  obtain ⟨i0, i1, i2, i3, i4, i5, i6, i7, i8, it⟩ := unIPn z T M A B tag i m a b hI
  rcases (show tag = 0 ∨ tag = 1 ∨ tag = 2 ∨ tag = 3 ∨ tag = 4 ∨ tag = 5 from by omega) with rfl | rfl | rfl | rfl | rfl | rfl
  · skip
    by_cases h0 : i < (z.length : Int)
    · by_cases h1 : (nthI z (Int.toNat (i))) % 3 = 0
      · exact nxPn_p0 z T M A B i m a b X hI0 h0 h1
      · exact nxPn_p1 z T M A B i m a b X hI0 h0 h1
    · exfalso; have hX := sm_x (by omega) (by omega) i6; injection hX with hX0 hX1; omega
  · skip
    by_cases h0 : i < (z.length : Int)
    · by_cases h1 : (nthI z (Int.toNat (i))) % 3 = 0
      · exact nxPn_p2 z T M A B i m a b X hI0 h0 h1
      · exact nxPn_p3 z T M A B i m a b X hI0 h0 h1
    · exfalso; have hX := sm_x (by omega) (by omega) i6; injection hX with hX0 hX1; omega
  · skip
    by_cases h0 : i < (z.length : Int)
    · by_cases h1 : (nthI z (Int.toNat (i))) % 3 = 0
      · exact nxPn_p4 z T M A B i m a b X hI0 h0 h1
      · exact nxPn_p5 z T M A B i m a b X hI0 h0 h1
    · exfalso; have hX := sm_x (by omega) (by omega) i6; injection hX with hX0 hX1; omega
  · skip
    by_cases h0 : i < (z.length : Int)
    · by_cases h1 : (nthI z (Int.toNat (i))) % 3 = 0
      · by_cases h2 : ((nthI z (Int.toNat (i)))) % 2 = 0
        · exact nxPn_p6 z T M A B i m a b X hI0 h0 h1 h2
        · exact nxPn_p7 z T M A B i m a b X hI0 h0 h1 h2
      · exact nxPn_p8 z T M A B i m a b X hI0 h0 h1
    · exfalso; have hX := sm_x (by omega) (by omega) i6; injection hX with hX0 hX1; omega
  · skip
    by_cases h0 : i < (z.length : Int)
    · by_cases h1 : (nthI z (Int.toNat (i))) % 3 = 0
      · exact nxPn_p9 z T M A B i m a b X hI0 h0 h1
      · exact nxPn_p10 z T M A B i m a b X hI0 h0 h1
    · skip
      have hX := sm_x (by omega) (by omega) i6
      injection hX with hX0 hX1
      injection hX1 with hX1 hX2
      injection hX2 with hX2 hX3
      refine lvPn_4 z T M A B i m a b (h := hyPn_p17) rfl ?_ (thXi (b := (M)) rfl rfl (by omega) (thXi (b := (A)) rfl rfl (by omega) (thXv (v := rwI .u8 z) rfl rfl (thNil)))) runPn_p17
      unfold hyPn_p17
      exact hc (kRlI (isX rfl) (denX rfl) (by first | omega | (simp <;> omega))) <|
       hc (ltF rfl rfl (by omega)) <|
       hnil
  · skip
    by_cases h0 : i < (z.length : Int)
    · by_cases h1 : (nthI z (Int.toNat (i))) % 3 = 0
      · exact nxPn_p11 z T M A B i m a b X hI0 h0 h1
      · exact nxPn_p12 z T M A B i m a b X hI0 h0 h1
    · exfalso; have hX := sm_x (by omega) (by omega) i6; injection hX with hX0 hX1; omega
theorem lfOkPn_4 {l : LF} {h : LH} (z : List Int) (T : Nat) (M A B : Int) (x0 : T = 4) (st : Nat × Int × Int × Int × Int) (hI : InvPn z T M A B st) (hl : l.hp = some h) (hs : lfSame l h 97 keepPn (.exit 0) 1 3 76 = true) {th0 : LA} {sg0 : List (Nat × Nat)} (hth0 : ∀ X, ThOk (cx nu one 0 laidE laidE_stab) (DPn z T M A B st X) th0) (h0 : startOk l h 97 3 16 th0 sg0 (epPn st) (hpPn st) = true) {thx : LA} (hthx : ThOk (EPn_4 z T M A B) (cx nu one 0 laidE laidE_stab) thx) (hx : exitOk l h 97 3 76 thx [(0, .sr 1), (3, .p 2 0), (4, .x 0)] [(1, .r 2000000 5 1 true), (2, .b ⟨56, .l [.i .i64 (.ofNat 1), .i .i64 (.ofNat 2), .i .i64 (.ofNat 1), .x 0, .sl 3 0 1 0 true], 0, 0, 0, false, false⟩), (3, .b ⟨58, .l [.p 4 0, .nilp], 2, 1, 0, false, true⟩), (4, .b ⟨61, .l [.x 1, .i .i64 (.ofNat 0), .p 5 0], 0, 0, 0, false, false⟩), (5, .b ⟨66, .l [.sl 6 0 1 1 false, .p 9 0, .s 0 0, .i .i64 (.ofNat 0), .nils, .b false], 0, 0, 0, false, false⟩), (6, .b ⟨67, .l [.p 7 0], 0, 0, 0, false, false⟩), (7, .b ⟨111, .l [.i .i64 (.ofNat 1), .sl 8 0 3 0 true, .b false, .b false, .b false, .b false, .b false, .i .u32 (.ofNat 0), .i .i64 (.ofNat 0)], 0, 0, 0, false, false⟩), (8, .b ⟨25, .l [.i .i64 (.ofNat 1), .i .i64 (.ofNat 1), .s 8 65792, .i .i64 (.ofNat 0), .i .i64 (.ofNat 4), .i .i64 (.ofNat 1), .s 0 0, .i .i64 (.ofNat 0), .i .i64 (.ofNat 5), .i .i64 (.ofNat 1), .s 0 0, .i .i64 (.ofNat 0)], 12, 4, 0, false, true⟩), (9, .b ⟨123, .l [.i .i64 (.ofNat 65535), .nils, .i .i64 (.ofNat 0), .b false], 0, 0, 0, false, false⟩)] = true) : LfOk (cx nu one 0 laidE laidE_stab) bodyPn l :=
  lfOkX (E := EPn_4 z T M A B) (InvPn z T M A B) (muPn z T M A B) (DPn z T M A B) (fun _ _ => rfl) (fun _ _ => rfl) (fun _ _ => rfl) (fun st X t ht => nuX_keep.trans (rX_keep ((by decide : ∀ t, t ∈ keepPn → t < 1000000) t ht))) rfl rfl rfl hl hs ebPn rfl rfl st hI hth0 h0 hthx hx (roundsPn_4 z T M A B x0)
def nuEPn_5 (z : List Int) (T : Nat) (M A B : Int) : List Value := [.int .i64 (M)]
def roEPn_5 (z : List Int) (T : Nat) (M A B : Int) : List Value := [rwI .u8 z]
noncomputable def EPn_5 (z : List Int) (T : Nat) (M A B : Int) : Cx := cx (nuX (nuEPn_5 z T M A B) (rX (roEPn_5 z T M A B) (fun _ => .bool true))) (nuX_one (nuL_one (l := nuEPn_5 z T M A B) rfl)) 0 laidE laidE_stab
theorem roundsPn_5 (z : List Int) (T : Nat) (M A B : Int) (x0 : T = 5) (st : Nat × Int × Int × Int × Int) (X : Nat → Value) (hI : InvPn z T M A B st) : RHPn z T M A B (EPn_5 z T M A B) (.exit 0) [(0, .sr 1), (3, .p 2 0), (4, .x 0)] [(1, .r 2000000 5 1 true), (2, .b ⟨56, .l [.i .i64 (.ofNat 1), .i .i64 (.ofNat 2), .i .i64 (.ofNat 1), .x 0, .sl 3 0 0 0 true], 0, 0, 0, false, false⟩), (3, .b ⟨58, .l [.nilp, .nilp], 2, 1, 0, false, true⟩)] st X := by
  obtain ⟨tag, i, m, a, b⟩ := st
  have hI0 := hI
  obtain ⟨i0, i1, i2, i3, i4, i5, i6, i7, i8, it⟩ := unIPn z T M A B tag i m a b hI
  rcases (show tag = 0 ∨ tag = 1 ∨ tag = 2 ∨ tag = 3 ∨ tag = 4 ∨ tag = 5 from by omega) with rfl | rfl | rfl | rfl | rfl | rfl
  · skip
    by_cases h0 : i < (z.length : Int)
    · by_cases h1 : (nthI z (Int.toNat (i))) % 3 = 0
      · exact nxPn_p0 z T M A B i m a b X hI0 h0 h1
      · exact nxPn_p1 z T M A B i m a b X hI0 h0 h1
    · exfalso; have hX := sm_x (by omega) (by omega) i6; injection hX with hX0 hX1; omega
  · skip
    by_cases h0 : i < (z.length : Int)
    · by_cases h1 : (nthI z (Int.toNat (i))) % 3 = 0
      · exact nxPn_p2 z T M A B i m a b X hI0 h0 h1
      · exact nxPn_p3 z T M A B i m a b X hI0 h0 h1
    · exfalso; have hX := sm_x (by omega) (by omega) i6; injection hX with hX0 hX1; omega
  · skip
    by_cases h0 : i < (z.length : Int)
    · by_cases h1 : (nthI z (Int.toNat (i))) % 3 = 0
      · exact nxPn_p4 z T M A B i m a b X hI0 h0 h1
      · exact nxPn_p5 z T M A B i m a b X hI0 h0 h1
    · exfalso; have hX := sm_x (by omega) (by omega) i6; injection hX with hX0 hX1; omega
  · skip
    by_cases h0 : i < (z.length : Int)
    · by_cases h1 : (nthI z (Int.toNat (i))) % 3 = 0
      · by_cases h2 : ((nthI z (Int.toNat (i)))) % 2 = 0
        · exact nxPn_p6 z T M A B i m a b X hI0 h0 h1 h2
        · exact nxPn_p7 z T M A B i m a b X hI0 h0 h1 h2
      · exact nxPn_p8 z T M A B i m a b X hI0 h0 h1
    · exfalso; have hX := sm_x (by omega) (by omega) i6; injection hX with hX0 hX1; omega
  · skip
    by_cases h0 : i < (z.length : Int)
    · by_cases h1 : (nthI z (Int.toNat (i))) % 3 = 0
      · exact nxPn_p9 z T M A B i m a b X hI0 h0 h1
      · exact nxPn_p10 z T M A B i m a b X hI0 h0 h1
    · exfalso; have hX := sm_x (by omega) (by omega) i6; injection hX with hX0 hX1; omega
  · skip
    by_cases h0 : i < (z.length : Int)
    · by_cases h1 : (nthI z (Int.toNat (i))) % 3 = 0
      · exact nxPn_p11 z T M A B i m a b X hI0 h0 h1
      · exact nxPn_p12 z T M A B i m a b X hI0 h0 h1
    · skip
      have hX := sm_x (by omega) (by omega) i6
      injection hX with hX0 hX1
      injection hX1 with hX1 hX2
      injection hX2 with hX2 hX3
      refine lvPn_5 z T M A B i m a b (h := hyPn_p18) rfl ?_ (thXi (b := (M)) rfl rfl (by omega) (thXv (v := rwI .u8 z) rfl rfl (thNil))) runPn_p18
      unfold hyPn_p18
      exact hc (kRlI (isX rfl) (denX rfl) (by first | omega | (simp <;> omega))) <|
       hc (ltF rfl rfl (by omega)) <|
       hnil
theorem lfOkPn_5 {l : LF} {h : LH} (z : List Int) (T : Nat) (M A B : Int) (x0 : T = 5) (st : Nat × Int × Int × Int × Int) (hI : InvPn z T M A B st) (hl : l.hp = some h) (hs : lfSame l h 97 keepPn (.exit 0) 1 3 76 = true) {th0 : LA} {sg0 : List (Nat × Nat)} (hth0 : ∀ X, ThOk (cx nu one 0 laidE laidE_stab) (DPn z T M A B st X) th0) (h0 : startOk l h 97 3 16 th0 sg0 (epPn st) (hpPn st) = true) {thx : LA} (hthx : ThOk (EPn_5 z T M A B) (cx nu one 0 laidE laidE_stab) thx) (hx : exitOk l h 97 3 76 thx [(0, .sr 1), (3, .p 2 0), (4, .x 0)] [(1, .r 2000000 5 1 true), (2, .b ⟨56, .l [.i .i64 (.ofNat 1), .i .i64 (.ofNat 2), .i .i64 (.ofNat 1), .x 0, .sl 3 0 0 0 true], 0, 0, 0, false, false⟩), (3, .b ⟨58, .l [.nilp, .nilp], 2, 1, 0, false, true⟩)] = true) : LfOk (cx nu one 0 laidE laidE_stab) bodyPn l :=
  lfOkX (E := EPn_5 z T M A B) (InvPn z T M A B) (muPn z T M A B) (DPn z T M A B) (fun _ _ => rfl) (fun _ _ => rfl) (fun _ _ => rfl) (fun st X t ht => nuX_keep.trans (rX_keep ((by decide : ∀ t, t ∈ keepPn → t < 1000000) t ht))) rfl rfl rfl hl hs ebPn rfl rfl st hI hth0 h0 hthx hx (roundsPn_5 z T M A B x0)
noncomputable def fi5 : FI := (tabk.fn.get 5).getD default
theorem fi5_at : tabk.fn.get 5 = some fi5 := by kernel_rfl
theorem fi5_body : fi5.body = some (Try.f5.body.getD .skip) := by kernel_rfl
theorem fiB5 : fi5.body.isSome = true := by rw [fi5_body]; rfl
end Go.Proofs.Ytkhcgoeccmkmdaa.poolNumbers
