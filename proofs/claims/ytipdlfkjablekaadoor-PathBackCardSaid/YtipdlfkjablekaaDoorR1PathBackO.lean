/- A part of the proof: an interpreter of the model's own code on partly known states, and that what it answers is what the program answers. No condition of its own. -/
import Derived.Test.YtipdlfkjablekaaDoorSeatR1
import Derived.Test.YtipdlfkjablekaaDoorHXpart4
import Derived.Test.YtipdlfkjablekaaDoorTDx
import Derived.Test.YtipdlfkjablekaaDoorAXro
import Derived.Test.YtipdlfkjablekaaDoorHKA
import Derived.Test.YtipdlfkjablekaaDoorHKN
import Derived.Test.YtipdlfkjablekaaDoorHKK
import Derived.Test.YtipdlfkjablekaaDoorHKQ
import Derived.Test.YtipdlfkjablekaaDoorAXcf
import Derived.Test.YtipdlfkjablekaaDoorAXcs
import Derived.Test.YtipdlfkjablekaaDoorPB
import Derived.Shelf.Strings.OnBuilder
import Derived.Shelf.Slices.Equal
set_option maxRecDepth 100000
set_option linter.unusedVariables false
set_option linter.unusedSimpArgs false
namespace Go.Proofs.YtipdlfkjablekaaDoor.pathBack
open Go Go.AX Go.Proofs Go.Proofs.YtipdlfkjablekaaDoor
/-- the variables that the runs read are laid -/
def laidE (w : World) : Prop := True
theorem laidE_stab : ∀ w w' : World, (∀ k, k < 0 → w'.heap[k]? = w.heap[k]?) → laidE w → laidE w' := fun w w' h _ => trivial
theorem laidE_size {w : World} (h : laidE w) : 0 ≤ w.heap.size := by
  exact Nat.zero_le _
noncomputable def H0 : T Ent := .leaf
theorem runP {nu : Nat → Value} {one : ∀ i, i < 1000000 → (nu i).oneCell' = true} {tb : Tab} (h : AllOk (cx nu one 0 laidE laidE_stab) tb) (hng : tb.ng = 3) {f g : Nat} {fi : FI} (hfi : tb.fn.get g = some fi) (hb : fi.body.isSome = true) {l : List AV} {args : List Value}
    (hr : okB (call tb f g l ⟨H0 , 3, 0, 0⟩) = true) (hl : RelL (cx nu one 0 laidE laidE_stab) (fun _ => none) l args) (w : World) (hw : laidE w) :
    Calls Tryd.prog g ⟨args⟩ w fun e w' => e = .returned (.bool true) ∧ Go.AX.Below (Go.AX.Fz.lt w.heap.size) w w' := by
  obtain ⟨S, hS⟩ := okB_inv hr
  refine (run_okG h (H := H0 ) hfi hb (by rw [hng]; exact hS) hl w hw (laidE_size hw) fun v k hv => ?_).mono fun e' w' he => ?_
  · unfold H0 at hv
    simp [T.get_leaf] at hv
  · obtain ⟨x, ρ, rfl, hx, hb⟩ := he
    simp only [Rel] at hx
    exact ⟨by rw [hx], hb⟩
theorem runS {nu : Nat → Value} {one : ∀ i, i < 1000000 → (nu i).oneCell' = true} {tb : Tab} (h : AllOk (cx nu one 0 laidE laidE_stab) tb) (hng : tb.ng = 3) {f g : Nat} {fi : FI} (hfi : tb.fn.get g = some fi) (hb : fi.body.isSome = true) {l : List AV} {args : List Value} {len n : Nat}
    (hr : okS (call tb f g l ⟨H0 , 3, 0, 0⟩) len n = true) (hl : RelL (cx nu one 0 laidE laidE_stab) (fun _ => none) l args) (w : World) (hw : laidE w) :
    Calls Tryd.prog g ⟨args⟩ w fun e w' => e = .returned (St' (strB len n)) ∧ Go.AX.Below (Go.AX.Fz.lt w.heap.size) w w' := by
  obtain ⟨S, hS⟩ := okS_inv hr
  refine (run_okG h (H := H0 ) hfi hb (by rw [hng]; exact hS) hl w hw (laidE_size hw) fun v k hv => ?_).mono fun e' w' he => ?_
  · unfold H0 at hv
    simp [T.get_leaf] at hv
  · obtain ⟨x, ρ, rfl, hx, hb⟩ := he
    simp only [Rel] at hx
    exact ⟨by rw [hx.1], hb⟩
theorem runA {nu : Nat → Value} {one : ∀ i, i < 1000000 → (nu i).oneCell' = true} {tb : Tab} (h : AllOk (cx nu one 0 laidE laidE_stab) tb) (hng : tb.ng = 3) {f g : Nat} {fi : FI} (hfi : tb.fn.get g = some fi) (hb : fi.body.isSome = true) {l : List AV} {args : List Value} {ra : AV} (hnr : noR 8 ra = true)
    (hr : okA (call tb f g l ⟨H0 , 3, 0, 0⟩) ra = true) (hl : RelL (cx nu one 0 laidE laidE_stab) (fun _ => none) l args) (w : World) (hw : laidE w) :
    Calls Tryd.prog g ⟨args⟩ w fun e w' => ∃ x, e = .returned x ∧ Rel (cx nu one 0 laidE laidE_stab) (fun _ => none) ra x ∧ Go.AX.Below (Go.AX.Fz.lt w.heap.size) w w' := by
  obtain ⟨S, hS⟩ := okA_inv hr
  refine (run_okG h (H := H0 ) hfi hb (by rw [hng]; exact hS) hl w hw (laidE_size hw) fun v k hv => ?_).mono fun e' w' he => ?_
  · unfold H0 at hv
    simp [T.get_leaf] at hv
  · obtain ⟨x, ρ, rfl, hx, hb⟩ := he
    exact ⟨x, rfl, noR_rel 8 _ hnr _ hx, hb⟩
noncomputable def fk : FI := ⟨Tryd.f4.body, Tryd.f4.ntmps, Tryd.f4.results.toList, 0, none, []⟩
theorem fk_at : tab.fn.get 4 = some fk := by kernel_rfl
theorem fk_body : fk.body.isSome = true := by kernel_rfl
theorem kk : okB (call tab 6000 4 [] ⟨H0 , 3, 0, 0⟩) = true := by kernel_rfl
noncomputable def tabk : Tab := addSum tab 4 fk (.b true)
section
variable (nu : Nat → Value) (one : ∀ i, i < 1000000 → (nu i).oneCell' = true)
theorem sumk : SumOk (cx nu one 0 laidE laidE_stab) 4 (.b true) := fun w hi hs => by
  refine (runP (tabOk nu one 0 laidE laidE_stab) rfl fk_at fk_body kk (args := []) (by simp only [RelL]) w hi).mono fun e w' he => ?_
  exact ⟨.bool true, he.1, by simp only [Rel], he.2⟩
theorem tabkOk : AllOk (cx nu one 0 laidE laidE_stab) tabk := (tabOk nu one 0 laidE laidE_stab).sum (by omega) fk_at fk_body (sumk nu one)
end
theorem tu5 : Tryd.prog.underlying 5 = some (.int .u8) := by kernel_rfl
noncomputable def tbl (h : LK) : Tab := { tabk with hyp := h }
theorem fiE : ∃ fi, tabk.fn.get 3 = some fi ∧ fi.body.isSome = true := ⟨_, rfl, by kernel_rfl⟩
abbrev CwR (g : Nat) (args : Array Value) (w : World) (v : Value) : Prop := Calls Tryd.prog g args w fun e w' => e = .returned v ∧ Go.AX.Below (Go.AX.Fz.lt w.heap.size) w w'
theorem runC {nu : Nat → Value} {one : ∀ i, i < 1000000 → (nu i).oneCell' = true} {tb : Tab} {ra : AV} {v : Value} (hnr : noR 8 ra = true) (h : AllOk (cx nu one 0 laidE laidE_stab) tb) (hng : tb.ng = 3) {f g : Nat} {fi : FI} (hfi : tb.fn.get g = some fi) (hb : fi.body.isSome = true) {l : List AV} {args : List Value}
    (hr : okA (call tb f g l ⟨H0 , 3, 0, 0⟩) ra = true) (hl : RelL (cx nu one 0 laidE laidE_stab) (fun _ => none) l args) (w : World) (hw : laidE w) (hv : ∀ x, Rel (cx nu one 0 laidE laidE_stab) (fun _ => none) ra x → x = v) : CwR g ⟨args⟩ w v :=
  (runA h hng hfi hb hnr hr hl w hw).mono fun e w' he => by
    obtain ⟨x, rfl, hx, hb2⟩ := he
    exact ⟨by rw [hv x hx], hb2⟩
variable {nu : Nat → Value} {one : ∀ i, i < 1000000 → (nu i).oneCell' = true} {E' : Cx} {x' : Ex} {e' : LA} {h' : LE}
def LDgt : List Int := [16, 16, 16, 16, 16, 16, 16, 16, 16, 16, 16, 16, 16, 16, 16, 16, 16, 16, 16, 16, 16, 16, 16, 16, 16, 16, 16, 16, 16, 16, 16, 16, 16, 16, 16, 16, 16, 16, 16, 16, 16, 16, 16, 16, 16, 16, 16, 16, 0, 1, 2, 3, 4, 5, 6, 7, 8, 9, 16, 16, 16, 16, 16, 16, 16, 10, 11, 12, 13, 14, 15, 16, 16, 16, 16, 16, 16, 16, 16, 16, 16, 16, 16, 16, 16, 16, 16, 16, 16, 16, 16, 16, 16, 16, 16, 16, 16, 10, 11, 12, 13, 14, 15, 16, 16, 16, 16, 16, 16, 16, 16, 16, 16, 16, 16, 16, 16, 16, 16, 16, 16, 16, 16, 16, 16, 16, 16, 16, 16, 16, 16, 16, 16, 16, 16, 16, 16, 16, 16, 16, 16, 16, 16, 16, 16, 16, 16, 16, 16, 16, 16, 16, 16, 16, 16, 16, 16, 16, 16, 16, 16, 16, 16, 16, 16, 16, 16, 16, 16, 16, 16, 16, 16, 16, 16, 16, 16, 16, 16, 16, 16, 16, 16, 16, 16, 16, 16, 16, 16, 16, 16, 16, 16, 16, 16, 16, 16, 16, 16, 16, 16, 16, 16, 16, 16, 16, 16, 16, 16, 16, 16, 16, 16, 16, 16, 16, 16, 16, 16, 16, 16, 16, 16, 16, 16, 16, 16, 16, 16, 16, 16, 16, 16, 16, 16, 16, 16, 16, 16, 16, 16, 16, 16, 16, 16, 16, 16, 16, 16, 16, 16, 16, 16, 16, 16, 16]
def vDgt (c : Int) : Int := LDgt.getD c.toNat 0
noncomputable def bfDgt (n : Nat) : Bool := okA (call tabk 9000 48 [.i .u8 (.ofNat n)] ⟨H0 , 3, 0, 0⟩) (.i .i64 (LDgt.getD n 0))
theorem bfDgt_0 : allN (bfDgt ) 0 64 = true := by kernel_rfl
theorem bfDgt_1 : allN (bfDgt ) 64 64 = true := by kernel_rfl
theorem bfDgt_2 : allN (bfDgt ) 128 64 = true := by kernel_rfl
theorem bfDgt_3 : allN (bfDgt ) 192 64 = true := by kernel_rfl
theorem bfDgt_all (n : Nat) (h : n < 256) : bfDgt n = true := by
  rcases (show n / 64 = 0 ∨ n / 64 = 1 ∨ n / 64 = 2 ∨ n / 64 = 3 by omega) with h | h | h | h
  · exact allN_at (bfDgt_0 ) n (by omega) (by omega)
  · exact allN_at (bfDgt_1 ) n (by omega) (by omega)
  · exact allN_at (bfDgt_2 ) n (by omega) (by omega)
  · exact allN_at (bfDgt_3 ) n (by omega) (by omega)
theorem callsDgt (n : Nat) (h : n < 256) (w : World) (hl : laidE w) : CwR 48 #[.int .u8 (n : Int)] w (.int .i64 (vDgt (n : Int))) := by
  refine runC (tb := tabk) rfl (tabkOk (nuL []) (fun j _ => nuL_one (l := []) rfl j)) rfl (fi := fI Tryd.f48 0) rfl (by kernel_rfl) (bfDgt_all n h) (args := [.int .u8 (n : Int)]) (by simp only [RelL, Rel]; exact ⟨_, _, rfl, rfl, rfl⟩) w hl fun x hx => ?_
  simp only [Rel] at hx
  rw [hx]; rfl
theorem hokDgt {x0 r : AV} {c : Int} (i0 : Is (cx nu one 0 laidE laidE_stab) x0 (.int .u8 c)) (b0 : 0 ≤ c) (b1 : c ≤ 255) (hr : Den (cx nu one 0 laidE laidE_stab) r (.int .i64 (vDgt c))) : HOk (cx nu one 0 laidE laidE_stab) (.call 48 [x0]) r := by
  intro ρ args ha w hl _
  simp only [RelL] at ha
  obtain ⟨v0, t0, rfl, a0, rfl⟩ := ha
  have e0 := i0 ρ _ a0; subst e0
  obtain ⟨n, rfl⟩ := Int.eq_ofNat_of_zero_le b0
  exact (callsDgt n (by omega) w hl).mono fun e w' he => ⟨_, he.1, hr ρ, he.2⟩
theorem rDgt {c : Int} (b0 : 0 ≤ c) (b1 : c ≤ 255) : 0 ≤ vDgt c ∧ vDgt c ≤ 16 := by
  obtain ⟨n, rfl⟩ := Int.eq_ofNat_of_zero_le b0
  have h : ∀ m : Fin 256, 0 ≤ LDgt.getD m.val 0 ∧ LDgt.getD m.val 0 ≤ 16 := by decide +kernel
  exact h ⟨n, by omega⟩
def unF : Nat → LB → Option (LB)
  | 0, _ => none
  | f + 1, r => if r.length = 0 then some [] else if ¬ (bt r 0 = 37) then (unF f (r.drop 1)).map (u8 (bt r 0) :: ·) else if r.length < 3 then none
    else if vDgt (bt r 1) < 16 ∧ vDgt (bt r 2) < 16 ∧ ¬ (vDgt (bt r 1) * 16 + vDgt (bt r 2) = 0) then (unF f (r.drop 3)).map (u8 ((vDgt (bt r 1) * 16 + vDgt (bt r 2)) % 256) :: ·) else none
def unS (r : LB) : Option (LB) := unF (r.length + 1) r
theorem unF_fuel : ∀ (f g : Nat) (r : LB), r.length < f → r.length < g → unF f r = unF g r
  | 0, _, _, h, _ => by omega
  | _ + 1, 0, _, _, h => by omega
  | f + 1, g + 1, r, h1, h2 => by
    unfold unF
    by_cases h : r.length = 0
    · rw [if_pos h, if_pos h]
    · rw [if_neg h, if_neg h]
      rw [unF_fuel f g (r.drop 1) (by rw [List.length_drop]; omega) (by rw [List.length_drop]; omega)]
      by_cases h3 : r.length < 3
      · rw [if_pos h3, if_pos h3]
      · rw [unF_fuel f g (r.drop 3) (by rw [List.length_drop]; omega) (by rw [List.length_drop]; omega)]
theorem un_nil {r : LB} (h : r.length = 0) : unS r = some [] := by unfold unS unF; rw [if_pos h]
theorem un_plain {r : LB} (h : ¬ r.length = 0) (h1 : ¬ (bt r 0 = 37)) : unS r = (unS (r.drop 1)).map (u8 (bt r 0) :: ·) := by
  unfold unS
  conv => lhs; unfold unF
  rw [if_neg h, if_pos h1, unF_fuel r.length ((r.drop 1).length + 1) (r.drop 1) (by rw [List.length_drop]; omega) (by omega)]
theorem un_short {r : LB} (h : ¬ r.length = 0) (h1 : bt r 0 = 37) (h2 : r.length < 3) : unS r = none := by
  unfold unS unF; rw [if_neg h, if_neg (by omega), if_pos h2]
theorem un_bad {r : LB} (h1 : bt r 0 = 37) (h2 : 3 ≤ r.length) (h3 : ¬ (vDgt (bt r 1) < 16 ∧ vDgt (bt r 2) < 16 ∧ ¬ (vDgt (bt r 1) * 16 + vDgt (bt r 2) = 0))) : unS r = none := by
  unfold unS unF; rw [if_neg (by omega), if_neg (by omega), if_neg (by omega), if_neg h3]
theorem un_esc {r : LB} (h1 : bt r 0 = 37) (h2 : 3 ≤ r.length) (h3 : vDgt (bt r 1) < 16 ∧ vDgt (bt r 2) < 16 ∧ ¬ (vDgt (bt r 1) * 16 + vDgt (bt r 2) = 0)) : unS r = (unS (r.drop 3)).map (u8 ((vDgt (bt r 1) * 16 + vDgt (bt r 2)) % 256) :: ·) := by
  unfold unS
  conv => lhs; unfold unF
  rw [if_neg (by omega), if_neg (by omega), if_neg (by omega), if_pos h3, unF_fuel r.length ((r.drop 3).length + 1) (r.drop 3) (by rw [List.length_drop]; omega) (by omega)]
def mDig : LB := [u8 97, u8 32, u8 112, u8 101, u8 114, u8 99, u8 101, u8 110, u8 116, u8 32, u8 115, u8 105, u8 103, u8 110, u8 32, u8 119, u8 105, u8 116, u8 104, u8 111, u8 117, u8 116, u8 32, u8 116, u8 119, u8 111, u8 32, u8 100, u8 105, u8 103, u8 105, u8 116, u8 115]
def mZer : LB := [u8 97, u8 32, u8 112, u8 101, u8 114, u8 99, u8 101, u8 110, u8 116, u8 32, u8 115, u8 105, u8 103, u8 110, u8 32, u8 116, u8 104, u8 97, u8 116, u8 32, u8 116, u8 101, u8 108, u8 108, u8 115, u8 32, u8 98, u8 121, u8 116, u8 101, u8 32, u8 48]
def umF : Nat → LB → LB
  | 0, _ => []
  | f + 1, r => if r.length = 0 then [] else if ¬ (bt r 0 = 37) then umF f (r.drop 1) else if r.length < 3 then mDig
    else if ¬ (vDgt (bt r 1) < 16 ∧ vDgt (bt r 2) < 16) then mDig else if vDgt (bt r 1) * 16 + vDgt (bt r 2) = 0 then mZer else umF f (r.drop 3)
def unM (r : LB) : LB := umF (r.length + 1) r
theorem umF_fuel : ∀ (f g : Nat) (r : LB), r.length < f → r.length < g → umF f r = umF g r
  | 0, _, _, h, _ => by omega
  | _ + 1, 0, _, _, h => by omega
  | f + 1, g + 1, r, h1, h2 => by
    unfold umF
    by_cases h : r.length = 0
    · rw [if_pos h, if_pos h]
    · rw [if_neg h, if_neg h]
      rw [umF_fuel f g (r.drop 1) (by rw [List.length_drop]; omega) (by rw [List.length_drop]; omega)]
      by_cases h3 : r.length < 3
      · rw [if_pos h3, if_pos h3]
      · rw [umF_fuel f g (r.drop 3) (by rw [List.length_drop]; omega) (by rw [List.length_drop]; omega)]
theorem um_plain {r : LB} (h : ¬ r.length = 0) (h1 : ¬ (bt r 0 = 37)) : unM r = unM (r.drop 1) := by
  unfold unM
  conv => lhs; unfold umF
  rw [if_neg h, if_pos h1, umF_fuel r.length ((r.drop 1).length + 1) (r.drop 1) (by rw [List.length_drop]; omega) (by omega)]
theorem um_short {r : LB} (h : ¬ r.length = 0) (h1 : bt r 0 = 37) (h2 : r.length < 3) : unM r = mDig := by
  unfold unM umF; rw [if_neg h, if_neg (by omega), if_pos h2]
theorem um_dig {r : LB} (h1 : bt r 0 = 37) (h2 : 3 ≤ r.length) (h3 : ¬ (vDgt (bt r 1) < 16 ∧ vDgt (bt r 2) < 16)) : unM r = mDig := by
  unfold unM umF; rw [if_neg (by omega), if_neg (by omega), if_neg (by omega), if_pos h3]
theorem um_zer {r : LB} (h1 : bt r 0 = 37) (h2 : 3 ≤ r.length) (h3 : vDgt (bt r 1) < 16 ∧ vDgt (bt r 2) < 16) (h4 : vDgt (bt r 1) * 16 + vDgt (bt r 2) = 0) : unM r = mZer := by
  unfold unM umF; rw [if_neg (by omega), if_neg (by omega), if_neg (by omega), if_neg (fun h => h h3), if_pos h4]
theorem um_esc {r : LB} (h1 : bt r 0 = 37) (h2 : 3 ≤ r.length) (h3 : vDgt (bt r 1) < 16 ∧ vDgt (bt r 2) < 16) (h4 : ¬ (vDgt (bt r 1) * 16 + vDgt (bt r 2) = 0)) : unM r = unM (r.drop 3) := by
  unfold unM
  conv => lhs; unfold umF
  rw [if_neg (by omega), if_neg (by omega), if_neg (by omega), if_neg (fun h => h h3), if_neg h4, umF_fuel r.length ((r.drop 3).length + 1) (r.drop 3) (by rw [List.length_drop]; omega) (by omega)]
def unO (b r : LB) : Option (LB) := (unS r).map (b ++ ·)
theorem unO_cons {b r t : LB} {c : UInt8} (h : unS r = (unS t).map (c :: ·)) : unO (b ++ [c]) t = unO b r := by
  unfold unO; rw [h]; cases unS t <;> simp
theorem unO_cons0 {r t : LB} {c : UInt8} (h : unS r = (unS t).map (c :: ·)) : unO [c] t = unO [] r := unO_cons (b := []) h
theorem unO_nil {b r : LB} (h : r.length = 0) : unO b r = some b := by unfold unO; rw [un_nil h]; simp
theorem unO_none {b r : LB} (h : unS r = none) : unO b r = none := by unfold unO; rw [h]; rfl
theorem unF_len : ∀ (f : Nat) (r t : LB), unF f r = some t → t.length ≤ r.length ∧ (¬ r.length = 0 → 1 ≤ t.length)
  | 0, _, _, h => by cases h
  | f + 1, r, t, h => by
    unfold unF at h
    split at h
    · injection h with h; subst h; exact ⟨by simp, fun h => absurd (by assumption) h⟩
    · split at h
      · cases hu : unF f (r.drop 1) with
        | none => rw [hu] at h; cases h
        | some v =>
          rw [hu] at h; injection h with h; subst h
          have := (unF_len f _ _ hu).1
          rw [List.length_drop] at this
          exact ⟨by simp only [List.length_cons]; omega, fun _ => by simp⟩
      · split at h
        · cases h
        · split at h
          · cases hu : unF f (r.drop 3) with
            | none => rw [hu] at h; cases h
            | some v =>
              rw [hu] at h; injection h with h; subst h
              have := (unF_len f _ _ hu).1
              rw [List.length_drop] at this
              exact ⟨by simp only [List.length_cons]; omega, fun _ => by simp⟩
          · cases h
theorem unS_len {r t : LB} (h : unS r = some t) : t.length ≤ r.length ∧ (¬ r.length = 0 → 1 ≤ t.length) := unF_len _ _ _ h
noncomputable def bodyUn : Code := loopNo (Tryd.f25.body.getD .skip) 0
theorem keyUn : oneKey (loopsOf (Tryd.f25.body.getD .skip)) 2 0 0 = true := by kernel_rfl
def keepUn : List Nat := []
def epUn_0 : LA := [(0, .x 0), (2, .s 0 0), (3, .ni), (4, .p 3 0)]
def hpUn_0 : LE := [(3, .b ⟨52, .l [.nilp, .nils], 0, 0, 0, false, false⟩)]
def nuUn_0 (s T q b : LB) : List Value := [St' q, St' ([] : LB), St' ([] : LB), .int .u8 (bt q 0), St' ([u8 (bt q 0)]), .int .u8 (bt q 0), St' (List.drop (Int.toNat (1)) q), St' ([] : LB), .int .u8 (bt q 0), .int .i64 ((q.length : Int)), St' ([] : LB), .int .u8 (bt q 0), .int .i64 ((q.length : Int)), St' ([u8 (bt q 1), u8 (bt q 2)]), .int .u8 (bt q 1), .int .i64 (vDgt (bt q 1)), St' ([] : LB), .int .u8 (bt q 0), .int .i64 ((q.length : Int)), St' ([u8 (bt q 1), u8 (bt q 2)]), .int .u8 (bt q 1), .int .i64 (vDgt (bt q 1)), .int .i64 ((vDgt (bt q 1))), .int .u8 (bt q 2), .int .i64 (vDgt (bt q 2)), St' ([] : LB), .int .u8 (bt q 0), .int .i64 ((q.length : Int)), St' ([u8 (bt q 1), u8 (bt q 2)]), .int .u8 (bt q 1), .int .i64 (vDgt (bt q 1)), .int .i64 ((vDgt (bt q 1))), .int .u8 (bt q 2), .int .i64 (vDgt (bt q 2)), .int .i64 ((vDgt (bt q 1)) * 16), .int .i64 ((vDgt (bt q 1)) * 16 + (vDgt (bt q 2))), St' ([] : LB), .int .u8 (bt q 0), .int .i64 ((q.length : Int)), St' ([u8 (bt q 1), u8 (bt q 2)]), .int .u8 (bt q 1), .int .i64 (vDgt (bt q 1)), .int .i64 ((vDgt (bt q 1))), .int .u8 (bt q 2), .int .i64 (vDgt (bt q 2)), .int .i64 ((vDgt (bt q 1)) * 16), .int .i64 ((vDgt (bt q 1)) * 16 + (vDgt (bt q 2))), .int .u8 (((vDgt (bt q 1)) * 16 + (vDgt (bt q 2))) % 256), St' ([u8 (((vDgt (bt q 1)) * 16 + (vDgt (bt q 2))) % 256)]), .int .u8 (((vDgt (bt q 1)) * 16 + (vDgt (bt q 2))) % 256), St' (List.drop (Int.toNat (3)) q)]
def roUn_0 (s T q b : LB) : List Value := []
def epUn_1 : LA := [(0, .x 0), (2, .s 0 0), (3, .ni), (4, .p 3 0)]
def hpUn_1 : LE := [(3, .b ⟨52, .l [.p 3 0, .sy 4], 0, 0, 0, false, false⟩), (4, .t 1 5)]
def nuUn_1 (s T q b : LB) : List Value := [St' q, St' b, St' ([] : LB), St' ([] : LB), .int .u8 (bt q 0), St' (b ++ [u8 (bt q 0)]), St' (List.drop (Int.toNat (1)) q), St' ([] : LB), .int .u8 (bt q 0), .int .i64 ((q.length : Int)), St' ([] : LB), .int .u8 (bt q 0), .int .i64 ((q.length : Int)), St' ([u8 (bt q 1), u8 (bt q 2)]), .int .u8 (bt q 1), .int .i64 (vDgt (bt q 1)), St' ([] : LB), .int .u8 (bt q 0), .int .i64 ((q.length : Int)), St' ([u8 (bt q 1), u8 (bt q 2)]), .int .u8 (bt q 1), .int .i64 (vDgt (bt q 1)), .int .i64 ((vDgt (bt q 1))), .int .u8 (bt q 2), .int .i64 (vDgt (bt q 2)), St' ([] : LB), .int .u8 (bt q 0), .int .i64 ((q.length : Int)), St' ([u8 (bt q 1), u8 (bt q 2)]), .int .u8 (bt q 1), .int .i64 (vDgt (bt q 1)), .int .i64 ((vDgt (bt q 1))), .int .u8 (bt q 2), .int .i64 (vDgt (bt q 2)), .int .i64 ((vDgt (bt q 1)) * 16), .int .i64 ((vDgt (bt q 1)) * 16 + (vDgt (bt q 2))), St' ([] : LB), .int .u8 (bt q 0), .int .i64 ((q.length : Int)), St' ([u8 (bt q 1), u8 (bt q 2)]), .int .u8 (bt q 1), .int .i64 (vDgt (bt q 1)), .int .i64 ((vDgt (bt q 1))), .int .u8 (bt q 2), .int .i64 (vDgt (bt q 2)), .int .i64 ((vDgt (bt q 1)) * 16), .int .i64 ((vDgt (bt q 1)) * 16 + (vDgt (bt q 2))), .int .u8 (((vDgt (bt q 1)) * 16 + (vDgt (bt q 2))) % 256), St' (b ++ [u8 (((vDgt (bt q 1)) * 16 + (vDgt (bt q 2))) % 256)]), St' (List.drop (Int.toNat (3)) q)]
def roUn_1 (s T q b : LB) : List Value := []
def epUn (st : Nat × LB × LB) : LA := if st.1 = 0 then epUn_0 else epUn_1
def hpUn (st : Nat × LB × LB) : LE := if st.1 = 0 then hpUn_0 else hpUn_1
def nuUn (s T : LB) (st : Nat × LB × LB) : List Value := if st.1 = 0 then nuUn_0 s T (st.2.1) (st.2.2) else nuUn_1 s T (st.2.1) (st.2.2)
def roUn (s T : LB) (st : Nat × LB × LB) : List Value := if st.1 = 0 then roUn_0 s T (st.2.1) (st.2.2) else roUn_1 s T (st.2.1) (st.2.2)
theorem onUn (s T : LB) (st : Nat × LB × LB) : ∀ j, (nuL (nuUn s T st) j).oneCell' = true := by
  intro j
  unfold nuUn
  by_cases g0 : st.1 = 0
  · rw [if_pos g0]; exact nuL_one (l := nuUn_0 s T (st.2.1) (st.2.2)) rfl j
  rw [if_neg g0]
  exact nuL_one (l := nuUn_1 s T (st.2.1) (st.2.2)) rfl j
theorem ebUn (st : Nat × LB × LB) : (lfB (epUn st) && lfC keepUn) = true := by
  unfold epUn
  by_cases g0 : st.1 = 0
  · rw [if_pos g0]; rfl
  rw [if_neg g0]
  rfl
noncomputable def DUn (s T : LB) (st : Nat × LB × LB) (X : Nat → Value) : Cx := cx (nuX (nuUn s T st) (rX (roUn s T st) X)) (nuX_one (onUn s T st)) 0 laidE laidE_stab
def InvUn (s T : LB) (st : Nat × LB × LB) : Prop := (unO (st.2.2) (st.2.1) = unS s) ∧ (unM (st.2.1) = unM s) ∧ ((st.1) = 0 → (st.2.1) = s ∧ (st.2.2) = []) ∧ ((st.1) = 1 → ¬ s.length = 0) ∧ (((st.2.2).length : Int) + ((st.2.1).length : Int) ≤ 140737488355328) ∧ ((st.1) < 2)
abbrev CjUn (s T : LB) (tag : Nat) (q b : LB) : Prop := (unO b q = unS s) ∧ (unM q = unM s) ∧ (tag = 0 → q = s ∧ b = []) ∧ (tag = 1 → ¬ s.length = 0) ∧ ((b.length : Int) + (q.length : Int) ≤ 140737488355328) ∧ (tag < 2)
theorem mkIUn (s T : LB) (tag : Nat) (q b : LB) (h : CjUn s T tag q b) : InvUn s T (tag, q, b) := h
theorem unIUn (s T : LB) (tag : Nat) (q b : LB) (h : InvUn s T (tag, q, b)) : (unO b q = unS s) ∧ (unM q = unM s) ∧ (tag = 0 → q = s ∧ b = []) ∧ (tag = 1 → ¬ s.length = 0) ∧ ((b.length : Int) + (q.length : Int) ≤ 140737488355328) ∧ (tag < 2) := h
def muUn (s T : LB) (st : Nat × LB × LB) : Nat := (st.2.1).length
abbrev RHUn (s T : LB) (E' : Cx) (ex' : Ex) (epx' : LA) (hpx' : LE) (st : Nat × LB × LB) (X : Nat → Value) : Prop := RoundH E' bodyUn keepUn 26 ex' 3 4 5 34 epUn hpUn epx' hpx' (InvUn s T) (muUn s T) (DUn s T) st X
noncomputable abbrev RNUn_0 (h : LK) (x : Ex) (th : LA) (sg : List (Nat × Nat)) (m : Nat) (ep : LA) (hp : LE) : Bool := okRdH (code (tbl h) 2000 [] bodyUn (envOf (headOf epUn_0 keepUn) 26) ⟨lhSet hpUn_0 .leaf, 5, 0, 0⟩) x keepUn 26 34 th sg 4 m ep hp
theorem stUn_0 (s T q b : LB) {X : Nat → Value} {h : LK} (y : Nat × LB × LB) {th : LA} {sg : List (Nat × Nat)} (ho : ∀ a' r', (a', r') ∈ h → HOk (cx (nuX (nuUn_0 s T q b) (rX (roUn_0 s T q b) X)) (nuX_one (nuL_one (l := nuUn_0 s T q b) rfl)) 0 laidE laidE_stab) a' r') (hy : InvUn s T y) (lt : muUn s T y < muUn s T (0, q, b)) (ht : ThOk (cx (nuX (nuUn_0 s T q b) (rX (roUn_0 s T q b) X)) (nuX_one (nuL_one (l := nuUn_0 s T q b) rfl)) 0 laidE laidE_stab) (DUn s T y X) th) (run : RNUn_0 h .normal th sg 5 (epUn y) (hpUn y) = true) : RHUn s T E' x' e' h' (0, q, b) X :=
  RoundH.next (tb := tbl h) (L := []) (f := 2000) y ((tabkOk _ _).hyps ho) (LpOk.nil _) rfl hy lt ht run
theorem lvUn_0 (s T q b : LB) {X : Nat → Value} {h : LK} {th : LA} {sg : List (Nat × Nat)} (hne : exB x' .normal = false) (ho : ∀ a' r', (a', r') ∈ h → HOk (cx (nuX (nuUn_0 s T q b) (rX (roUn_0 s T q b) X)) (nuX_one (nuL_one (l := nuUn_0 s T q b) rfl)) 0 laidE laidE_stab) a' r') (ht : ThOk (cx (nuX (nuUn_0 s T q b) (rX (roUn_0 s T q b) X)) (nuX_one (nuL_one (l := nuUn_0 s T q b) rfl)) 0 laidE laidE_stab) E' th) (run : RNUn_0 h x' th sg 34 e' h' = true) : RHUn s T E' x' e' h' (0, q, b) X :=
  RoundH.leave (tb := tbl h) (L := []) (f := 2000) ((tabkOk _ _).hyps ho) (LpOk.nil _) rfl hne ht run
noncomputable abbrev RNUn_1 (h : LK) (x : Ex) (th : LA) (sg : List (Nat × Nat)) (m : Nat) (ep : LA) (hp : LE) : Bool := okRdH (code (tbl h) 2000 [] bodyUn (envOf (headOf epUn_1 keepUn) 26) ⟨lhSet hpUn_1 .leaf, 5, 0, 0⟩) x keepUn 26 34 th sg 4 m ep hp
theorem stUn_1 (s T q b : LB) {X : Nat → Value} {h : LK} (y : Nat × LB × LB) {th : LA} {sg : List (Nat × Nat)} (ho : ∀ a' r', (a', r') ∈ h → HOk (cx (nuX (nuUn_1 s T q b) (rX (roUn_1 s T q b) X)) (nuX_one (nuL_one (l := nuUn_1 s T q b) rfl)) 0 laidE laidE_stab) a' r') (hy : InvUn s T y) (lt : muUn s T y < muUn s T (1, q, b)) (ht : ThOk (cx (nuX (nuUn_1 s T q b) (rX (roUn_1 s T q b) X)) (nuX_one (nuL_one (l := nuUn_1 s T q b) rfl)) 0 laidE laidE_stab) (DUn s T y X) th) (run : RNUn_1 h .normal th sg 5 (epUn y) (hpUn y) = true) : RHUn s T E' x' e' h' (1, q, b) X :=
  RoundH.next (tb := tbl h) (L := []) (f := 2000) y ((tabkOk _ _).hyps ho) (LpOk.nil _) rfl hy lt ht run
theorem lvUn_1 (s T q b : LB) {X : Nat → Value} {h : LK} {th : LA} {sg : List (Nat × Nat)} (hne : exB x' .normal = false) (ho : ∀ a' r', (a', r') ∈ h → HOk (cx (nuX (nuUn_1 s T q b) (rX (roUn_1 s T q b) X)) (nuX_one (nuL_one (l := nuUn_1 s T q b) rfl)) 0 laidE laidE_stab) a' r') (ht : ThOk (cx (nuX (nuUn_1 s T q b) (rX (roUn_1 s T q b) X)) (nuX_one (nuL_one (l := nuUn_1 s T q b) rfl)) 0 laidE laidE_stab) E' th) (run : RNUn_1 h x' th sg 34 e' h' = true) : RHUn s T E' x' e' h' (1, q, b) X :=
  RoundH.leave (tb := tbl h) (L := []) (f := 2000) ((tabkOk _ _).hyps ho) (LpOk.nil _) rfl hne ht run
def hyUn_p0 : LK := [(.bytes [], .x 1), (.bin .neq (.x 0) (.s 0 0), .b false)]
theorem runUn_p0 : RNUn_0 hyUn_p0 (.exit 0) [] [] 34 [(2, .s 0 0), (3, .ni), (4, .p 3 0)] [(3, .b ⟨52, .l [.nilp, .nils], 0, 0, 0, false, false⟩)] = true := by kernel_rfl
def hyUn_p1 : LK := [(.bytes [], .x 2), (.bin .neq (.x 0) (.s 0 0), .b true), (.idx (.x 0) (.i .i64 (.ofNat 0)), .x 3), (.bin .neq (.x 3) (.i .u8 (.ofNat 37)), .b true), (.app (.x 2) [.x 3], .x 4), (.byt (.x 4) (.i .i64 (.ofNat 0)), .x 5), (.fit (.x 4), .b true), (.sub (.x 0) (some (.i .i64 (.ofNat 1))) none, .x 6)]
theorem runUn_p1 : RNUn_0 hyUn_p1 .normal [(0, .x 6), (1, .x 4)] [(4, 6)] 5 epUn_1 hpUn_1 = true := by kernel_rfl
theorem nxUn_p1 (s T : LB) (q b : LB) (X : Nat → Value) (hI : InvUn s T (0, q, b)) (h0 : ¬ ((q.length : Int) = 0)) (h1 : ¬ (bt q 0 = 37)) : RHUn s T E' x' e' h' (0, q, b) X := by
  obtain ⟨i0, i1, i2, i3, i4, it⟩ := unIUn s T 0 q b hI
  have := bt_lo q 0; have := bt_hi q 0
  have := lenDrop (l := q) (P := 1) (by omega) (by omega)
  refine stUn_0 s T q b (h := hyUn_p1) (1, (List.drop (Int.toNat (1)) q), [u8 (bt q 0)]) ?_ (mkIUn s T 1 (List.drop (Int.toNat (1)) q) ([u8 (bt q 0)]) ⟨by rw [← i0, (i2 rfl).2]; exact unO_cons0 (un_plain (by omega) (by omega)), by rw [← i1]; exact (um_plain (by omega) (by omega)).symm, fun h => by omega, fun _ => by rw [← (i2 rfl).1]; omega, by simp only [List.length_append, List.length_cons, List.length_nil, List.length_drop]; omega, by omega⟩) (by show (List.drop (Int.toNat (1)) q).length < q.length; rw [List.length_drop]; omega) (thXv (v := St' (List.drop (Int.toNat (1)) q)) rfl rfl (thXv (v := St' ([u8 (bt q 0)])) rfl rfl (thNil))) runUn_p1
  unfold hyUn_p1
  exact hc (kBytesB (bs := ([] : LB)) .nil (denX rfl)) <|
   hc (kNeS (isX rfl) (isSx (l := ([] : LB)) 0 0 rfl) (bnT (nilF (by omega)))) <|
   hc (ixC rfl rfl (by omega)) <|
   hc (necT rfl (by omega)) <|
   hc (kApp (bs := [u8 (bt q 0)]) (isX rfl) (.cons (isB8 (isX rfl) (by omega) (by omega)) .nil) (denX rfl) (by first | rfl | (simp; done))) <|
   hc (kByt (i := 0) (isX rfl) (isZ (m := 0) rfl) (denX rfl) rfl (by simp) (bt_at rfl (by omega) (by omega))) <|
   hc (kFit (isX rfl) (by first | omega | (simp <;> omega))) <|
   hc (drC rfl rfl (by omega)) <|
   hnil
def hyUn_p2 : LK := [(.bytes [], .x 7), (.bin .neq (.x 0) (.s 0 0), .b true), (.idx (.x 0) (.i .i64 (.ofNat 0)), .x 8), (.bin .neq (.x 8) (.i .u8 (.ofNat 37)), .b false), (.len (.x 0), .x 9), (.bin .lss (.x 9) (.i .i64 (.ofNat 3)), .b true)]
theorem runUn_p2 : RNUn_0 hyUn_p2 .ret [(0, .s 33 13368744785390035796918722136903017317701998366312311048873520557726775689355361)] [] 34 [(2, .s 0 0), (3, .ifc 48 (.ag [.i .i64 (.ofNat 10), .x 0]))] [] = true := by kernel_rfl
def hyUn_p3 : LK := [(.bytes [], .x 10), (.bin .neq (.x 0) (.s 0 0), .b true), (.idx (.x 0) (.i .i64 (.ofNat 0)), .x 11), (.bin .neq (.x 11) (.i .u8 (.ofNat 37)), .b false), (.len (.x 0), .x 12), (.bin .lss (.x 12) (.i .i64 (.ofNat 3)), .b false), (.sub (.x 0) (some (.i .i64 (.ofNat 1))) (some (.i .i64 (.ofNat 3))), .x 13), (.bin .eql (.x 13) (.s 0 0), .b false), (.len (.x 13), .i .i64 (.ofNat 2)), (.idx (.x 13) (.i .i64 (.ofNat 0)), .x 14), (.call 48 [.x 14], .x 15), (.bin .geq (.x 15) (.i .i64 (.ofNat 16)), .b true)]
theorem runUn_p3 : RNUn_0 hyUn_p3 .ret [(0, .s 33 13368744785390035796918722136903017317701998366312311048873520557726775689355361)] [] 34 [(2, .s 0 0), (3, .ifc 48 (.ag [.i .i64 (.ofNat 10), .x 0]))] [] = true := by kernel_rfl
def hyUn_p4 : LK := [(.bytes [], .x 16), (.bin .neq (.x 0) (.s 0 0), .b true), (.idx (.x 0) (.i .i64 (.ofNat 0)), .x 17), (.bin .neq (.x 17) (.i .u8 (.ofNat 37)), .b false), (.len (.x 0), .x 18), (.bin .lss (.x 18) (.i .i64 (.ofNat 3)), .b false), (.sub (.x 0) (some (.i .i64 (.ofNat 1))) (some (.i .i64 (.ofNat 3))), .x 19), (.bin .eql (.x 19) (.s 0 0), .b false), (.len (.x 19), .i .i64 (.ofNat 2)), (.idx (.x 19) (.i .i64 (.ofNat 0)), .x 20), (.call 48 [.x 20], .x 21), (.bin .geq (.x 21) (.i .i64 (.ofNat 16)), .b false), (.bin .add (.i .i64 (.ofNat 0)) (.x 21), .x 22), (.idx (.x 19) (.i .i64 (.ofNat 1)), .x 23), (.call 48 [.x 23], .x 24), (.bin .geq (.x 24) (.i .i64 (.ofNat 16)), .b true)]
theorem runUn_p4 : RNUn_0 hyUn_p4 .ret [(0, .s 33 13368744785390035796918722136903017317701998366312311048873520557726775689355361)] [] 34 [(2, .s 0 0), (3, .ifc 48 (.ag [.i .i64 (.ofNat 10), .x 0]))] [] = true := by kernel_rfl
def hyUn_p5 : LK := [(.bytes [], .x 25), (.bin .neq (.x 0) (.s 0 0), .b true), (.idx (.x 0) (.i .i64 (.ofNat 0)), .x 26), (.bin .neq (.x 26) (.i .u8 (.ofNat 37)), .b false), (.len (.x 0), .x 27), (.bin .lss (.x 27) (.i .i64 (.ofNat 3)), .b false), (.sub (.x 0) (some (.i .i64 (.ofNat 1))) (some (.i .i64 (.ofNat 3))), .x 28), (.bin .eql (.x 28) (.s 0 0), .b false), (.len (.x 28), .i .i64 (.ofNat 2)), (.idx (.x 28) (.i .i64 (.ofNat 0)), .x 29), (.call 48 [.x 29], .x 30), (.bin .geq (.x 30) (.i .i64 (.ofNat 16)), .b false), (.bin .add (.i .i64 (.ofNat 0)) (.x 30), .x 31), (.idx (.x 28) (.i .i64 (.ofNat 1)), .x 32), (.call 48 [.x 32], .x 33), (.bin .geq (.x 33) (.i .i64 (.ofNat 16)), .b false), (.bin .mul (.x 31) (.i .i64 (.ofNat 16)), .x 34), (.bin .add (.x 34) (.x 33), .x 35), (.bin .eql (.x 35) (.i .i64 (.ofNat 0)), .b true)]
theorem runUn_p5 : RNUn_0 hyUn_p5 .ret [(0, .s 32 21768256054587688476975411894329487999234560186767463358109307209918322843745)] [] 34 [(2, .s 0 0), (3, .ifc 48 (.ag [.i .i64 (.ofNat 10), .x 0]))] [] = true := by kernel_rfl
def hyUn_p6 : LK := [(.bytes [], .x 36), (.bin .neq (.x 0) (.s 0 0), .b true), (.idx (.x 0) (.i .i64 (.ofNat 0)), .x 37), (.bin .neq (.x 37) (.i .u8 (.ofNat 37)), .b false), (.len (.x 0), .x 38), (.bin .lss (.x 38) (.i .i64 (.ofNat 3)), .b false), (.sub (.x 0) (some (.i .i64 (.ofNat 1))) (some (.i .i64 (.ofNat 3))), .x 39), (.bin .eql (.x 39) (.s 0 0), .b false), (.len (.x 39), .i .i64 (.ofNat 2)), (.idx (.x 39) (.i .i64 (.ofNat 0)), .x 40), (.call 48 [.x 40], .x 41), (.bin .geq (.x 41) (.i .i64 (.ofNat 16)), .b false), (.bin .add (.i .i64 (.ofNat 0)) (.x 41), .x 42), (.idx (.x 39) (.i .i64 (.ofNat 1)), .x 43), (.call 48 [.x 43], .x 44), (.bin .geq (.x 44) (.i .i64 (.ofNat 16)), .b false), (.bin .mul (.x 42) (.i .i64 (.ofNat 16)), .x 45), (.bin .add (.x 45) (.x 44), .x 46), (.bin .eql (.x 46) (.i .i64 (.ofNat 0)), .b false), (.conv 5 (.x 46), .x 47), (.app (.x 36) [.x 47], .x 48), (.byt (.x 48) (.i .i64 (.ofNat 0)), .x 49), (.fit (.x 48), .b true), (.sub (.x 0) (some (.i .i64 (.ofNat 3))) none, .x 50)]
theorem runUn_p6 : RNUn_0 hyUn_p6 .normal [(0, .x 50), (1, .x 48)] [(4, 6)] 5 epUn_1 hpUn_1 = true := by kernel_rfl
theorem nxUn_p6 (s T : LB) (q b : LB) (X : Nat → Value) (hI : InvUn s T (0, q, b)) (h0 : ¬ ((q.length : Int) = 0)) (h1 : bt q 0 = 37) (h2 : ¬ ((q.length : Int) < 3)) (h4 : ¬ (16 ≤ vDgt (bt q 1))) (h5 : ¬ (16 ≤ vDgt (bt q 2))) (h6 : ¬ ((vDgt (bt q 1)) * 16 + (vDgt (bt q 2)) = 0)) : RHUn s T E' x' e' h' (0, q, b) X := by
  obtain ⟨i0, i1, i2, i3, i4, it⟩ := unIUn s T 0 q b hI
  have := bt_lo q 0; have := bt_hi q 0
  have := bt_lo q 1; have := bt_hi q 1
  have := bt_lo q 2; have := bt_hi q 2
  have := rDgt (c := bt q 1) (by omega) (by omega)
  have := rDgt (c := bt q 2) (by omega) (by omega)
  have := lenDrop (l := q) (P := 3) (by omega) (by omega)
  refine stUn_0 s T q b (h := hyUn_p6) (1, (List.drop (Int.toNat (3)) q), [u8 (((vDgt (bt q 1)) * 16 + (vDgt (bt q 2))) % 256)]) ?_ (mkIUn s T 1 (List.drop (Int.toNat (3)) q) ([u8 (((vDgt (bt q 1)) * 16 + (vDgt (bt q 2))) % 256)]) ⟨by rw [← i0, (i2 rfl).2]; exact unO_cons0 (un_esc (by omega) (by omega) ⟨by omega, by omega, by omega⟩), by rw [← i1]; exact (um_esc (by omega) (by omega) ⟨by omega, by omega⟩ (by omega)).symm, fun h => by omega, fun _ => by rw [← (i2 rfl).1]; omega, by simp only [List.length_append, List.length_cons, List.length_nil, List.length_drop]; omega, by omega⟩) (by show (List.drop (Int.toNat (3)) q).length < q.length; rw [List.length_drop]; omega) (thXv (v := St' (List.drop (Int.toNat (3)) q)) rfl rfl (thXv (v := St' ([u8 (((vDgt (bt q 1)) * 16 + (vDgt (bt q 2))) % 256)])) rfl rfl (thNil))) runUn_p6
  unfold hyUn_p6
  exact hc (kBytesB (bs := ([] : LB)) .nil (denX rfl)) <|
   hc (kNeS (isX rfl) (isSx (l := ([] : LB)) 0 0 rfl) (bnT (nilF (by omega)))) <|
   hc (ixC rfl rfl (by omega)) <|
   hc (necF rfl (by omega)) <|
   hc (lnV rfl rfl (by omega)) <|
   hc (ltcF rfl (by omega)) <|
   hc (kMid (P := 1) (Q := 3) (isX rfl) (.inr ⟨_, _, rfl, (isZ (m := 1) rfl)⟩) (.inr ⟨_, _, rfl, (isZ (m := 3) rfl)⟩) (by omega) (by omega) (by omega) (denX (congrArg (fun l => St' l) (mid2 (i := 1) (by omega) (by omega) (by omega))))) <|
   hc (kEqS (isX rfl) (isSx (l := ([] : LB)) 0 0 rfl) (nilF (by first | omega | (simp <;> omega)))) <|
   hc (kLenE (isX rfl) (denZ (m := 2) rfl) rfl) <|
   hc (kIdxE (i := 0) (isX rfl) (isZ (m := 0) rfl) (denX rfl) rfl (by simp) (bt_at rfl (by omega) (by omega))) <|
   hc (hokDgt (isX rfl) (by omega) (by omega) (denX rfl)) <|
   hc (gecF rfl (by omega)) <|
   hc (kAdd (isZ (m := 0) rfl) (isX rfl) (denX rfl) (by omega) (fI64 (by omega) (by omega))) <|
   hc (kIdxE (i := 1) (isX rfl) (isZ (m := 1) rfl) (denX rfl) rfl (by simp) (bt_at rfl (by omega) (by omega))) <|
   hc (hokDgt (isX rfl) (by omega) (by omega) (denX rfl)) <|
   hc (gecF rfl (by omega)) <|
   hc (kMul (isX rfl) (isZ (m := 16) rfl) (denX rfl) (by omega) (fI64 (by omega) (by omega))) <|
   hc (adX rfl rfl rfl (by omega)) <|
   hc (eqcF rfl (by omega)) <|
   hc (kConv8 (isX rfl) tu5 (denX rfl) rfl) <|
   hc (kApp (bs := [u8 (((vDgt (bt q 1)) * 16 + (vDgt (bt q 2))) % 256)]) (isX rfl) (.cons (isB8 (isX rfl) (by omega) (by omega)) .nil) (denX rfl) (by first | rfl | (simp; done))) <|
   hc (kByt (i := 0) (isX rfl) (isZ (m := 0) rfl) (denX rfl) rfl (by simp) (bt_at rfl (by omega) (by omega))) <|
   hc (kFit (isX rfl) (by first | omega | (simp <;> omega))) <|
   hc (drC rfl rfl (by omega)) <|
   hnil
def hyUn_p7 : LK := [(.bytes [], .x 2), (.bin .neq (.x 0) (.s 0 0), .b false)]
theorem runUn_p7 : RNUn_1 hyUn_p7 (.exit 0) [(0, .x 1)] [(4, 4)] 34 [(2, .s 0 0), (3, .ni), (4, .p 3 0)] [(3, .b ⟨52, .l [.p 3 0, .sy 4], 0, 0, 0, false, false⟩), (4, .t 0 5)] = true := by kernel_rfl
def hyUn_p8 : LK := [(.bytes [], .x 3), (.bin .neq (.x 0) (.s 0 0), .b true), (.idx (.x 0) (.i .i64 (.ofNat 0)), .x 4), (.bin .neq (.x 4) (.i .u8 (.ofNat 37)), .b true), (.app (.x 1) [.x 4], .x 5), (.fit (.x 5), .b true), (.sub (.x 0) (some (.i .i64 (.ofNat 1))) none, .x 6)]
theorem runUn_p8 : RNUn_1 hyUn_p8 .normal [(0, .x 6), (1, .x 5)] [(4, 6)] 5 epUn_1 hpUn_1 = true := by kernel_rfl
theorem nxUn_p8 (s T : LB) (q b : LB) (X : Nat → Value) (hI : InvUn s T (1, q, b)) (h0 : ¬ ((q.length : Int) = 0)) (h1 : ¬ (bt q 0 = 37)) : RHUn s T E' x' e' h' (1, q, b) X := by
  obtain ⟨i0, i1, i2, i3, i4, it⟩ := unIUn s T 1 q b hI
  have := bt_lo q 0; have := bt_hi q 0
  have := lenDrop (l := q) (P := 1) (by omega) (by omega)
  refine stUn_1 s T q b (h := hyUn_p8) (1, (List.drop (Int.toNat (1)) q), (b ++ [u8 (bt q 0)])) ?_ (mkIUn s T 1 (List.drop (Int.toNat (1)) q) (b ++ [u8 (bt q 0)]) ⟨by rw [← i0]; exact unO_cons (un_plain (by omega) (by omega)), by rw [← i1]; exact (um_plain (by omega) (by omega)).symm, fun h => by omega, fun _ => i3 rfl, by simp only [List.length_append, List.length_cons, List.length_nil, List.length_drop]; omega, by omega⟩) (by show (List.drop (Int.toNat (1)) q).length < q.length; rw [List.length_drop]; omega) (thXv (v := St' (List.drop (Int.toNat (1)) q)) rfl rfl (thXv (v := St' (b ++ [u8 (bt q 0)])) rfl rfl (thNil))) runUn_p8
  unfold hyUn_p8
  exact hc (kBytesB (bs := ([] : LB)) .nil (denX rfl)) <|
   hc (kNeS (isX rfl) (isSx (l := ([] : LB)) 0 0 rfl) (bnT (nilF (by omega)))) <|
   hc (ixC rfl rfl (by omega)) <|
   hc (necT rfl (by omega)) <|
   hc (kApp (bs := [u8 (bt q 0)]) (isX rfl) (.cons (isB8 (isX rfl) (by omega) (by omega)) .nil) (denX rfl) (by first | rfl | (simp; done))) <|
   hc (kFit (isX rfl) (by first | omega | (simp <;> omega))) <|
   hc (drC rfl rfl (by omega)) <|
   hnil
def hyUn_p9 : LK := [(.bytes [], .x 7), (.bin .neq (.x 0) (.s 0 0), .b true), (.idx (.x 0) (.i .i64 (.ofNat 0)), .x 8), (.bin .neq (.x 8) (.i .u8 (.ofNat 37)), .b false), (.len (.x 0), .x 9), (.bin .lss (.x 9) (.i .i64 (.ofNat 3)), .b true)]
theorem runUn_p9 : RNUn_1 hyUn_p9 .ret [(0, .s 33 13368744785390035796918722136903017317701998366312311048873520557726775689355361)] [] 34 [(2, .s 0 0), (3, .ifc 48 (.ag [.i .i64 (.ofNat 10), .x 0]))] [] = true := by kernel_rfl
def hyUn_p10 : LK := [(.bytes [], .x 10), (.bin .neq (.x 0) (.s 0 0), .b true), (.idx (.x 0) (.i .i64 (.ofNat 0)), .x 11), (.bin .neq (.x 11) (.i .u8 (.ofNat 37)), .b false), (.len (.x 0), .x 12), (.bin .lss (.x 12) (.i .i64 (.ofNat 3)), .b false), (.sub (.x 0) (some (.i .i64 (.ofNat 1))) (some (.i .i64 (.ofNat 3))), .x 13), (.bin .eql (.x 13) (.s 0 0), .b false), (.len (.x 13), .i .i64 (.ofNat 2)), (.idx (.x 13) (.i .i64 (.ofNat 0)), .x 14), (.call 48 [.x 14], .x 15), (.bin .geq (.x 15) (.i .i64 (.ofNat 16)), .b true)]
theorem runUn_p10 : RNUn_1 hyUn_p10 .ret [(0, .s 33 13368744785390035796918722136903017317701998366312311048873520557726775689355361)] [] 34 [(2, .s 0 0), (3, .ifc 48 (.ag [.i .i64 (.ofNat 10), .x 0]))] [] = true := by kernel_rfl
def hyUn_p11 : LK := [(.bytes [], .x 16), (.bin .neq (.x 0) (.s 0 0), .b true), (.idx (.x 0) (.i .i64 (.ofNat 0)), .x 17), (.bin .neq (.x 17) (.i .u8 (.ofNat 37)), .b false), (.len (.x 0), .x 18), (.bin .lss (.x 18) (.i .i64 (.ofNat 3)), .b false), (.sub (.x 0) (some (.i .i64 (.ofNat 1))) (some (.i .i64 (.ofNat 3))), .x 19), (.bin .eql (.x 19) (.s 0 0), .b false), (.len (.x 19), .i .i64 (.ofNat 2)), (.idx (.x 19) (.i .i64 (.ofNat 0)), .x 20), (.call 48 [.x 20], .x 21), (.bin .geq (.x 21) (.i .i64 (.ofNat 16)), .b false), (.bin .add (.i .i64 (.ofNat 0)) (.x 21), .x 22), (.idx (.x 19) (.i .i64 (.ofNat 1)), .x 23), (.call 48 [.x 23], .x 24), (.bin .geq (.x 24) (.i .i64 (.ofNat 16)), .b true)]
theorem runUn_p11 : RNUn_1 hyUn_p11 .ret [(0, .s 33 13368744785390035796918722136903017317701998366312311048873520557726775689355361)] [] 34 [(2, .s 0 0), (3, .ifc 48 (.ag [.i .i64 (.ofNat 10), .x 0]))] [] = true := by kernel_rfl
def hyUn_p12 : LK := [(.bytes [], .x 25), (.bin .neq (.x 0) (.s 0 0), .b true), (.idx (.x 0) (.i .i64 (.ofNat 0)), .x 26), (.bin .neq (.x 26) (.i .u8 (.ofNat 37)), .b false), (.len (.x 0), .x 27), (.bin .lss (.x 27) (.i .i64 (.ofNat 3)), .b false), (.sub (.x 0) (some (.i .i64 (.ofNat 1))) (some (.i .i64 (.ofNat 3))), .x 28), (.bin .eql (.x 28) (.s 0 0), .b false), (.len (.x 28), .i .i64 (.ofNat 2)), (.idx (.x 28) (.i .i64 (.ofNat 0)), .x 29), (.call 48 [.x 29], .x 30), (.bin .geq (.x 30) (.i .i64 (.ofNat 16)), .b false), (.bin .add (.i .i64 (.ofNat 0)) (.x 30), .x 31), (.idx (.x 28) (.i .i64 (.ofNat 1)), .x 32), (.call 48 [.x 32], .x 33), (.bin .geq (.x 33) (.i .i64 (.ofNat 16)), .b false), (.bin .mul (.x 31) (.i .i64 (.ofNat 16)), .x 34), (.bin .add (.x 34) (.x 33), .x 35), (.bin .eql (.x 35) (.i .i64 (.ofNat 0)), .b true)]
theorem runUn_p12 : RNUn_1 hyUn_p12 .ret [(0, .s 32 21768256054587688476975411894329487999234560186767463358109307209918322843745)] [] 34 [(2, .s 0 0), (3, .ifc 48 (.ag [.i .i64 (.ofNat 10), .x 0]))] [] = true := by kernel_rfl
def hyUn_p13 : LK := [(.bytes [], .x 36), (.bin .neq (.x 0) (.s 0 0), .b true), (.idx (.x 0) (.i .i64 (.ofNat 0)), .x 37), (.bin .neq (.x 37) (.i .u8 (.ofNat 37)), .b false), (.len (.x 0), .x 38), (.bin .lss (.x 38) (.i .i64 (.ofNat 3)), .b false), (.sub (.x 0) (some (.i .i64 (.ofNat 1))) (some (.i .i64 (.ofNat 3))), .x 39), (.bin .eql (.x 39) (.s 0 0), .b false), (.len (.x 39), .i .i64 (.ofNat 2)), (.idx (.x 39) (.i .i64 (.ofNat 0)), .x 40), (.call 48 [.x 40], .x 41), (.bin .geq (.x 41) (.i .i64 (.ofNat 16)), .b false), (.bin .add (.i .i64 (.ofNat 0)) (.x 41), .x 42), (.idx (.x 39) (.i .i64 (.ofNat 1)), .x 43), (.call 48 [.x 43], .x 44), (.bin .geq (.x 44) (.i .i64 (.ofNat 16)), .b false), (.bin .mul (.x 42) (.i .i64 (.ofNat 16)), .x 45), (.bin .add (.x 45) (.x 44), .x 46), (.bin .eql (.x 46) (.i .i64 (.ofNat 0)), .b false), (.conv 5 (.x 46), .x 47), (.app (.x 1) [.x 47], .x 48), (.fit (.x 48), .b true), (.sub (.x 0) (some (.i .i64 (.ofNat 3))) none, .x 49)]
theorem runUn_p13 : RNUn_1 hyUn_p13 .normal [(0, .x 49), (1, .x 48)] [(4, 6)] 5 epUn_1 hpUn_1 = true := by kernel_rfl
theorem nxUn_p13 (s T : LB) (q b : LB) (X : Nat → Value) (hI : InvUn s T (1, q, b)) (h0 : ¬ ((q.length : Int) = 0)) (h1 : bt q 0 = 37) (h2 : ¬ ((q.length : Int) < 3)) (h4 : ¬ (16 ≤ vDgt (bt q 1))) (h5 : ¬ (16 ≤ vDgt (bt q 2))) (h6 : ¬ ((vDgt (bt q 1)) * 16 + (vDgt (bt q 2)) = 0)) : RHUn s T E' x' e' h' (1, q, b) X := by
  obtain ⟨i0, i1, i2, i3, i4, it⟩ := unIUn s T 1 q b hI
  have := bt_lo q 0; have := bt_hi q 0
  have := bt_lo q 1; have := bt_hi q 1
  have := bt_lo q 2; have := bt_hi q 2
  have := rDgt (c := bt q 1) (by omega) (by omega)
  have := rDgt (c := bt q 2) (by omega) (by omega)
  have := lenDrop (l := q) (P := 3) (by omega) (by omega)
  refine stUn_1 s T q b (h := hyUn_p13) (1, (List.drop (Int.toNat (3)) q), (b ++ [u8 (((vDgt (bt q 1)) * 16 + (vDgt (bt q 2))) % 256)])) ?_ (mkIUn s T 1 (List.drop (Int.toNat (3)) q) (b ++ [u8 (((vDgt (bt q 1)) * 16 + (vDgt (bt q 2))) % 256)]) ⟨by rw [← i0]; exact unO_cons (un_esc (by omega) (by omega) ⟨by omega, by omega, by omega⟩), by rw [← i1]; exact (um_esc (by omega) (by omega) ⟨by omega, by omega⟩ (by omega)).symm, fun h => by omega, fun _ => i3 rfl, by simp only [List.length_append, List.length_cons, List.length_nil, List.length_drop]; omega, by omega⟩) (by show (List.drop (Int.toNat (3)) q).length < q.length; rw [List.length_drop]; omega) (thXv (v := St' (List.drop (Int.toNat (3)) q)) rfl rfl (thXv (v := St' (b ++ [u8 (((vDgt (bt q 1)) * 16 + (vDgt (bt q 2))) % 256)])) rfl rfl (thNil))) runUn_p13
  unfold hyUn_p13
  exact hc (kBytesB (bs := ([] : LB)) .nil (denX rfl)) <|
   hc (kNeS (isX rfl) (isSx (l := ([] : LB)) 0 0 rfl) (bnT (nilF (by omega)))) <|
   hc (ixC rfl rfl (by omega)) <|
   hc (necF rfl (by omega)) <|
   hc (lnV rfl rfl (by omega)) <|
   hc (ltcF rfl (by omega)) <|
   hc (kMid (P := 1) (Q := 3) (isX rfl) (.inr ⟨_, _, rfl, (isZ (m := 1) rfl)⟩) (.inr ⟨_, _, rfl, (isZ (m := 3) rfl)⟩) (by omega) (by omega) (by omega) (denX (congrArg (fun l => St' l) (mid2 (i := 1) (by omega) (by omega) (by omega))))) <|
   hc (kEqS (isX rfl) (isSx (l := ([] : LB)) 0 0 rfl) (nilF (by first | omega | (simp <;> omega)))) <|
   hc (kLenE (isX rfl) (denZ (m := 2) rfl) rfl) <|
   hc (kIdxE (i := 0) (isX rfl) (isZ (m := 0) rfl) (denX rfl) rfl (by simp) (bt_at rfl (by omega) (by omega))) <|
   hc (hokDgt (isX rfl) (by omega) (by omega) (denX rfl)) <|
   hc (gecF rfl (by omega)) <|
   hc (kAdd (isZ (m := 0) rfl) (isX rfl) (denX rfl) (by omega) (fI64 (by omega) (by omega))) <|
   hc (kIdxE (i := 1) (isX rfl) (isZ (m := 1) rfl) (denX rfl) rfl (by simp) (bt_at rfl (by omega) (by omega))) <|
   hc (hokDgt (isX rfl) (by omega) (by omega) (denX rfl)) <|
   hc (gecF rfl (by omega)) <|
   hc (kMul (isX rfl) (isZ (m := 16) rfl) (denX rfl) (by omega) (fI64 (by omega) (by omega))) <|
   hc (adX rfl rfl rfl (by omega)) <|
   hc (eqcF rfl (by omega)) <|
   hc (kConv8 (isX rfl) tu5 (denX rfl) rfl) <|
   hc (kApp (bs := [u8 (((vDgt (bt q 1)) * 16 + (vDgt (bt q 2))) % 256)]) (isX rfl) (.cons (isB8 (isX rfl) (by omega) (by omega)) .nil) (denX rfl) (by first | rfl | (simp; done))) <|
   hc (kFit (isX rfl) (by first | omega | (simp <;> omega))) <|
   hc (drC rfl rfl (by omega)) <|
   hnil
def nuEUn_0 (s T : LB) : List Value := []
def roEUn_0 (s T : LB) : List Value := []
noncomputable def EUn_0 (s T : LB) : Cx := cx (nuX (nuEUn_0 s T) (rX (roEUn_0 s T) (fun _ => .bool true))) (nuX_one (nuL_one (l := nuEUn_0 s T) rfl)) 0 laidE laidE_stab
theorem roundsUn_0 (s T : LB) (x0 : s.length = 0) (st : Nat × LB × LB) (X : Nat → Value) (hI : InvUn s T st) : RHUn s T (EUn_0 s T) (.exit 0) [(2, .s 0 0), (3, .ni), (4, .p 3 0)] [(3, .b ⟨52, .l [.nilp, .nils], 0, 0, 0, false, false⟩)] st X := by
  obtain ⟨tag, q, b⟩ := st
  have hI0 := hI
  obtain ⟨i0, i1, i2, i3, i4, it⟩ := unIUn s T tag q b hI
  rcases (show tag = 0 ∨ tag = 1 from by omega) with rfl | rfl
  · skip
    by_cases h0 : (q.length : Int) = 0
    · skip
      refine lvUn_0 s T q b (h := hyUn_p0) rfl ?_ (thNil) runUn_p0
      unfold hyUn_p0
      exact hc (kBytesB (bs := ([] : LB)) .nil (denX rfl)) <|
       hc (kNeS (isX rfl) (isSx (l := ([] : LB)) 0 0 rfl) (bnF (nilT (by omega)))) <|
       hnil
    · by_cases h1 : bt q 0 = 37
      · by_cases h2 : (q.length : Int) < 3
        · exfalso; rw [unO_none (un_short (by omega) (by omega) (by omega)), un_nil x0] at i0; cases i0
        · by_cases h4 : 16 ≤ vDgt (bt q 1)
          · exfalso; rw [unO_none (un_bad (by omega) (by omega) (fun h => by have := h.1; have := h.2.1; omega)), un_nil x0] at i0; cases i0
          · by_cases h5 : 16 ≤ vDgt (bt q 2)
            · exfalso; rw [unO_none (un_bad (by omega) (by omega) (fun h => by have := h.1; have := h.2.1; omega)), un_nil x0] at i0; cases i0
            · by_cases h6 : (vDgt (bt q 1)) * 16 + (vDgt (bt q 2)) = 0
              · exfalso; rw [unO_none (un_bad (by omega) (by omega) (fun h => h.2.2 (by omega))), un_nil x0] at i0; cases i0
              · exact nxUn_p6 s T q b X hI0 h0 h1 h2 h4 h5 h6
      · exact nxUn_p1 s T q b X hI0 h0 h1
  · skip
    by_cases h0 : (q.length : Int) = 0
    · exfalso; have h := i3 rfl; omega
    · by_cases h1 : bt q 0 = 37
      · by_cases h2 : (q.length : Int) < 3
        · exfalso; rw [unO_none (un_short (by omega) (by omega) (by omega)), un_nil x0] at i0; cases i0
        · by_cases h4 : 16 ≤ vDgt (bt q 1)
          · exfalso; rw [unO_none (un_bad (by omega) (by omega) (fun h => by have := h.1; have := h.2.1; omega)), un_nil x0] at i0; cases i0
          · by_cases h5 : 16 ≤ vDgt (bt q 2)
            · exfalso; rw [unO_none (un_bad (by omega) (by omega) (fun h => by have := h.1; have := h.2.1; omega)), un_nil x0] at i0; cases i0
            · by_cases h6 : (vDgt (bt q 1)) * 16 + (vDgt (bt q 2)) = 0
              · exfalso; rw [unO_none (un_bad (by omega) (by omega) (fun h => h.2.2 (by omega))), un_nil x0] at i0; cases i0
              · exact nxUn_p13 s T q b X hI0 h0 h1 h2 h4 h5 h6
      · exact nxUn_p8 s T q b X hI0 h0 h1
theorem lfOkUn_0 {l : LF} {h : LH} (s T : LB) (x0 : s.length = 0) (st : Nat × LB × LB) (hI : InvUn s T st) (hl : l.hp = some h) (hs : lfSame l h 26 keepUn (.exit 0) 3 4 34 = true) {th0 : LA} {sg0 : List (Nat × Nat)} (hth0 : ∀ X, ThOk (cx nu one 0 laidE laidE_stab) (DUn s T st X) th0) (h0 : startOk l h 26 4 5 th0 sg0 (epUn st) (hpUn st) = true) {thx : LA} (hthx : ThOk (EUn_0 s T) (cx nu one 0 laidE laidE_stab) thx) (hx : exitOk l h 26 4 34 thx [(2, .s 0 0), (3, .ni), (4, .p 3 0)] [(3, .b ⟨52, .l [.nilp, .nils], 0, 0, 0, false, false⟩)] = true) : LfOk (cx nu one 0 laidE laidE_stab) bodyUn l :=
  lfOkX (E := EUn_0 s T) (InvUn s T) (muUn s T) (DUn s T) (fun _ _ => rfl) (fun _ _ => rfl) (fun _ _ => rfl) (fun st X t ht => nuX_keep.trans (rX_keep ((by decide : ∀ t, t ∈ keepUn → t < 1000000) t ht))) rfl rfl rfl hl hs ebUn rfl rfl st hI hth0 h0 hthx hx (roundsUn_0 s T x0)
def nuEUn_1 (s T : LB) : List Value := [St' T]
def roEUn_1 (s T : LB) : List Value := []
noncomputable def EUn_1 (s T : LB) : Cx := cx (nuX (nuEUn_1 s T) (rX (roEUn_1 s T) (fun _ => .bool true))) (nuX_one (nuL_one (l := nuEUn_1 s T) rfl)) 0 laidE laidE_stab
theorem roundsUn_1 (s T : LB) (x0 : ¬ s.length = 0) (x1 : unS s = some T) (st : Nat × LB × LB) (X : Nat → Value) (hI : InvUn s T st) : RHUn s T (EUn_1 s T) (.exit 0) [(2, .s 0 0), (3, .ni), (4, .p 3 0)] [(3, .b ⟨52, .l [.p 3 0, .sy 4], 0, 0, 0, false, false⟩), (4, .t 0 5)] st X := by
  obtain ⟨tag, q, b⟩ := st
  have hI0 := hI
  obtain ⟨i0, i1, i2, i3, i4, it⟩ := unIUn s T tag q b hI
  rcases (show tag = 0 ∨ tag = 1 from by omega) with rfl | rfl
  · skip
    by_cases h0 : (q.length : Int) = 0
    · exfalso; have h := (i2 rfl).1; rw [← h] at x0; omega
    · by_cases h1 : bt q 0 = 37
      · by_cases h2 : (q.length : Int) < 3
        · exfalso; rw [unO_none (un_short (by omega) (by omega) (by omega)), x1] at i0; cases i0
        · by_cases h4 : 16 ≤ vDgt (bt q 1)
          · exfalso; rw [unO_none (un_bad (by omega) (by omega) (fun h => by have := h.1; have := h.2.1; omega)), x1] at i0; cases i0
          · by_cases h5 : 16 ≤ vDgt (bt q 2)
            · exfalso; rw [unO_none (un_bad (by omega) (by omega) (fun h => by have := h.1; have := h.2.1; omega)), x1] at i0; cases i0
            · by_cases h6 : (vDgt (bt q 1)) * 16 + (vDgt (bt q 2)) = 0
              · exfalso; rw [unO_none (un_bad (by omega) (by omega) (fun h => h.2.2 (by omega))), x1] at i0; cases i0
              · exact nxUn_p6 s T q b X hI0 h0 h1 h2 h4 h5 h6
      · exact nxUn_p1 s T q b X hI0 h0 h1
  · skip
    by_cases h0 : (q.length : Int) = 0
    · skip
      refine lvUn_1 s T q b (h := hyUn_p7) rfl ?_ (thXe (v := St' b) (u := St' T) rfl rfl (congrArg (fun l => St' l) (by have h := i0; rw [unO_nil (by omega), x1] at h; injection h)) (thNil)) runUn_p7
      unfold hyUn_p7
      exact hc (kBytesB (bs := ([] : LB)) .nil (denX rfl)) <|
       hc (kNeS (isX rfl) (isSx (l := ([] : LB)) 0 0 rfl) (bnF (nilT (by omega)))) <|
       hnil
    · by_cases h1 : bt q 0 = 37
      · by_cases h2 : (q.length : Int) < 3
        · exfalso; rw [unO_none (un_short (by omega) (by omega) (by omega)), x1] at i0; cases i0
        · by_cases h4 : 16 ≤ vDgt (bt q 1)
          · exfalso; rw [unO_none (un_bad (by omega) (by omega) (fun h => by have := h.1; have := h.2.1; omega)), x1] at i0; cases i0
          · by_cases h5 : 16 ≤ vDgt (bt q 2)
            · exfalso; rw [unO_none (un_bad (by omega) (by omega) (fun h => by have := h.1; have := h.2.1; omega)), x1] at i0; cases i0
            · by_cases h6 : (vDgt (bt q 1)) * 16 + (vDgt (bt q 2)) = 0
              · exfalso; rw [unO_none (un_bad (by omega) (by omega) (fun h => h.2.2 (by omega))), x1] at i0; cases i0
              · exact nxUn_p13 s T q b X hI0 h0 h1 h2 h4 h5 h6
      · exact nxUn_p8 s T q b X hI0 h0 h1
theorem lfOkUn_1 {l : LF} {h : LH} (s T : LB) (x0 : ¬ s.length = 0) (x1 : unS s = some T) (st : Nat × LB × LB) (hI : InvUn s T st) (hl : l.hp = some h) (hs : lfSame l h 26 keepUn (.exit 0) 3 4 34 = true) {th0 : LA} {sg0 : List (Nat × Nat)} (hth0 : ∀ X, ThOk (cx nu one 0 laidE laidE_stab) (DUn s T st X) th0) (h0 : startOk l h 26 4 5 th0 sg0 (epUn st) (hpUn st) = true) {thx : LA} (hthx : ThOk (EUn_1 s T) (cx nu one 0 laidE laidE_stab) thx) (hx : exitOk l h 26 4 34 thx [(2, .s 0 0), (3, .ni), (4, .p 3 0)] [(3, .b ⟨52, .l [.p 3 0, .sy 4], 0, 0, 0, false, false⟩), (4, .t 0 5)] = true) : LfOk (cx nu one 0 laidE laidE_stab) bodyUn l :=
  lfOkX (E := EUn_1 s T) (InvUn s T) (muUn s T) (DUn s T) (fun _ _ => rfl) (fun _ _ => rfl) (fun _ _ => rfl) (fun st X t ht => nuX_keep.trans (rX_keep ((by decide : ∀ t, t ∈ keepUn → t < 1000000) t ht))) rfl rfl rfl hl hs ebUn rfl rfl st hI hth0 h0 hthx hx (roundsUn_1 s T x0 x1)
def nuEUn_2 (s T : LB) : List Value := [St' T]
def roEUn_2 (s T : LB) : List Value := []
noncomputable def EUn_2 (s T : LB) : Cx := cx (nuX (nuEUn_2 s T) (rX (roEUn_2 s T) (fun _ => .bool true))) (nuX_one (nuL_one (l := nuEUn_2 s T) rfl)) 0 laidE laidE_stab
theorem roundsUn_2 (s T : LB) (x0 : unS s = none) (x1 : unM s = T) (st : Nat × LB × LB) (X : Nat → Value) (hI : InvUn s T st) : RHUn s T (EUn_2 s T) .ret [(2, .s 0 0), (3, .ifc 48 (.ag [.i .i64 (.ofNat 10), .x 0]))] [] st X := by
  obtain ⟨tag, q, b⟩ := st
  have hI0 := hI
  obtain ⟨i0, i1, i2, i3, i4, it⟩ := unIUn s T tag q b hI
  rcases (show tag = 0 ∨ tag = 1 from by omega) with rfl | rfl
  · skip
    by_cases h0 : (q.length : Int) = 0
    · exfalso; rw [unO_nil (by omega), x0] at i0; cases i0
    · by_cases h1 : bt q 0 = 37
      · by_cases h2 : (q.length : Int) < 3
        · skip
          have := bt_lo q 0; have := bt_hi q 0
          refine lvUn_0 s T q b (h := hyUn_p2) rfl ?_ (thCons (show Is _ (.s 33 13368744785390035796918722136903017317701998366312311048873520557726775689355361) (St' T) from isTo (v := St' ([u8 97, u8 32, u8 112, u8 101, u8 114, u8 99, u8 101, u8 110, u8 116, u8 32, u8 115, u8 105, u8 103, u8 110, u8 32, u8 119, u8 105, u8 116, u8 104, u8 111, u8 117, u8 116, u8 32, u8 116, u8 119, u8 111, u8 32, u8 100, u8 105, u8 103, u8 105, u8 116, u8 115])) (isSx (l := [u8 97, u8 32, u8 112, u8 101, u8 114, u8 99, u8 101, u8 110, u8 116, u8 32, u8 115, u8 105, u8 103, u8 110, u8 32, u8 119, u8 105, u8 116, u8 104, u8 111, u8 117, u8 116, u8 32, u8 116, u8 119, u8 111, u8 32, u8 100, u8 105, u8 103, u8 105, u8 116, u8 115]) 33 13368744785390035796918722136903017317701998366312311048873520557726775689355361 rfl) (congrArg (fun l => St' l) (by rw [← x1, ← i1, um_short (by omega) (by omega) (by omega)]; rfl))) (thNil)) runUn_p2
          unfold hyUn_p2
          exact hc (kBytesB (bs := ([] : LB)) .nil (denX rfl)) <|
           hc (kNeS (isX rfl) (isSx (l := ([] : LB)) 0 0 rfl) (bnT (nilF (by omega)))) <|
           hc (ixC rfl rfl (by omega)) <|
           hc (necF rfl (by omega)) <|
           hc (lnV rfl rfl (by omega)) <|
           hc (ltcT rfl (by omega)) <|
           hnil
        · by_cases h4 : 16 ≤ vDgt (bt q 1)
          · skip
            have := bt_lo q 0; have := bt_hi q 0
            have := bt_lo q 1; have := bt_hi q 1
            have := bt_lo q 2; have := bt_hi q 2
            have := rDgt (c := bt q 1) (by omega) (by omega)
            refine lvUn_0 s T q b (h := hyUn_p3) rfl ?_ (thCons (show Is _ (.s 33 13368744785390035796918722136903017317701998366312311048873520557726775689355361) (St' T) from isTo (v := St' ([u8 97, u8 32, u8 112, u8 101, u8 114, u8 99, u8 101, u8 110, u8 116, u8 32, u8 115, u8 105, u8 103, u8 110, u8 32, u8 119, u8 105, u8 116, u8 104, u8 111, u8 117, u8 116, u8 32, u8 116, u8 119, u8 111, u8 32, u8 100, u8 105, u8 103, u8 105, u8 116, u8 115])) (isSx (l := [u8 97, u8 32, u8 112, u8 101, u8 114, u8 99, u8 101, u8 110, u8 116, u8 32, u8 115, u8 105, u8 103, u8 110, u8 32, u8 119, u8 105, u8 116, u8 104, u8 111, u8 117, u8 116, u8 32, u8 116, u8 119, u8 111, u8 32, u8 100, u8 105, u8 103, u8 105, u8 116, u8 115]) 33 13368744785390035796918722136903017317701998366312311048873520557726775689355361 rfl) (congrArg (fun l => St' l) (by rw [← x1, ← i1, um_dig (by omega) (by omega) (fun h => by have := h.1; have := h.2; omega)]; rfl))) (thNil)) runUn_p3
            unfold hyUn_p3
            exact hc (kBytesB (bs := ([] : LB)) .nil (denX rfl)) <|
             hc (kNeS (isX rfl) (isSx (l := ([] : LB)) 0 0 rfl) (bnT (nilF (by omega)))) <|
             hc (ixC rfl rfl (by omega)) <|
             hc (necF rfl (by omega)) <|
             hc (lnV rfl rfl (by omega)) <|
             hc (ltcF rfl (by omega)) <|
             hc (kMid (P := 1) (Q := 3) (isX rfl) (.inr ⟨_, _, rfl, (isZ (m := 1) rfl)⟩) (.inr ⟨_, _, rfl, (isZ (m := 3) rfl)⟩) (by omega) (by omega) (by omega) (denX (congrArg (fun l => St' l) (mid2 (i := 1) (by omega) (by omega) (by omega))))) <|
             hc (kEqS (isX rfl) (isSx (l := ([] : LB)) 0 0 rfl) (nilF (by first | omega | (simp <;> omega)))) <|
             hc (kLenE (isX rfl) (denZ (m := 2) rfl) rfl) <|
             hc (kIdxE (i := 0) (isX rfl) (isZ (m := 0) rfl) (denX rfl) rfl (by simp) (bt_at rfl (by omega) (by omega))) <|
             hc (hokDgt (isX rfl) (by omega) (by omega) (denX rfl)) <|
             hc (gecT rfl (by omega)) <|
             hnil
          · by_cases h5 : 16 ≤ vDgt (bt q 2)
            · skip
              have := bt_lo q 0; have := bt_hi q 0
              have := bt_lo q 1; have := bt_hi q 1
              have := bt_lo q 2; have := bt_hi q 2
              have := rDgt (c := bt q 1) (by omega) (by omega)
              have := rDgt (c := bt q 2) (by omega) (by omega)
              refine lvUn_0 s T q b (h := hyUn_p4) rfl ?_ (thCons (show Is _ (.s 33 13368744785390035796918722136903017317701998366312311048873520557726775689355361) (St' T) from isTo (v := St' ([u8 97, u8 32, u8 112, u8 101, u8 114, u8 99, u8 101, u8 110, u8 116, u8 32, u8 115, u8 105, u8 103, u8 110, u8 32, u8 119, u8 105, u8 116, u8 104, u8 111, u8 117, u8 116, u8 32, u8 116, u8 119, u8 111, u8 32, u8 100, u8 105, u8 103, u8 105, u8 116, u8 115])) (isSx (l := [u8 97, u8 32, u8 112, u8 101, u8 114, u8 99, u8 101, u8 110, u8 116, u8 32, u8 115, u8 105, u8 103, u8 110, u8 32, u8 119, u8 105, u8 116, u8 104, u8 111, u8 117, u8 116, u8 32, u8 116, u8 119, u8 111, u8 32, u8 100, u8 105, u8 103, u8 105, u8 116, u8 115]) 33 13368744785390035796918722136903017317701998366312311048873520557726775689355361 rfl) (congrArg (fun l => St' l) (by rw [← x1, ← i1, um_dig (by omega) (by omega) (fun h => by have := h.1; have := h.2; omega)]; rfl))) (thNil)) runUn_p4
              unfold hyUn_p4
              exact hc (kBytesB (bs := ([] : LB)) .nil (denX rfl)) <|
               hc (kNeS (isX rfl) (isSx (l := ([] : LB)) 0 0 rfl) (bnT (nilF (by omega)))) <|
               hc (ixC rfl rfl (by omega)) <|
               hc (necF rfl (by omega)) <|
               hc (lnV rfl rfl (by omega)) <|
               hc (ltcF rfl (by omega)) <|
               hc (kMid (P := 1) (Q := 3) (isX rfl) (.inr ⟨_, _, rfl, (isZ (m := 1) rfl)⟩) (.inr ⟨_, _, rfl, (isZ (m := 3) rfl)⟩) (by omega) (by omega) (by omega) (denX (congrArg (fun l => St' l) (mid2 (i := 1) (by omega) (by omega) (by omega))))) <|
               hc (kEqS (isX rfl) (isSx (l := ([] : LB)) 0 0 rfl) (nilF (by first | omega | (simp <;> omega)))) <|
               hc (kLenE (isX rfl) (denZ (m := 2) rfl) rfl) <|
               hc (kIdxE (i := 0) (isX rfl) (isZ (m := 0) rfl) (denX rfl) rfl (by simp) (bt_at rfl (by omega) (by omega))) <|
               hc (hokDgt (isX rfl) (by omega) (by omega) (denX rfl)) <|
               hc (gecF rfl (by omega)) <|
               hc (kAdd (isZ (m := 0) rfl) (isX rfl) (denX rfl) (by omega) (fI64 (by omega) (by omega))) <|
               hc (kIdxE (i := 1) (isX rfl) (isZ (m := 1) rfl) (denX rfl) rfl (by simp) (bt_at rfl (by omega) (by omega))) <|
               hc (hokDgt (isX rfl) (by omega) (by omega) (denX rfl)) <|
               hc (gecT rfl (by omega)) <|
               hnil
            · by_cases h6 : (vDgt (bt q 1)) * 16 + (vDgt (bt q 2)) = 0
              · skip
                have := bt_lo q 0; have := bt_hi q 0
                have := bt_lo q 1; have := bt_hi q 1
                have := bt_lo q 2; have := bt_hi q 2
                have := rDgt (c := bt q 1) (by omega) (by omega)
                have := rDgt (c := bt q 2) (by omega) (by omega)
                refine lvUn_0 s T q b (h := hyUn_p5) rfl ?_ (thCons (show Is _ (.s 32 21768256054587688476975411894329487999234560186767463358109307209918322843745) (St' T) from isTo (v := St' ([u8 97, u8 32, u8 112, u8 101, u8 114, u8 99, u8 101, u8 110, u8 116, u8 32, u8 115, u8 105, u8 103, u8 110, u8 32, u8 116, u8 104, u8 97, u8 116, u8 32, u8 116, u8 101, u8 108, u8 108, u8 115, u8 32, u8 98, u8 121, u8 116, u8 101, u8 32, u8 48])) (isSx (l := [u8 97, u8 32, u8 112, u8 101, u8 114, u8 99, u8 101, u8 110, u8 116, u8 32, u8 115, u8 105, u8 103, u8 110, u8 32, u8 116, u8 104, u8 97, u8 116, u8 32, u8 116, u8 101, u8 108, u8 108, u8 115, u8 32, u8 98, u8 121, u8 116, u8 101, u8 32, u8 48]) 32 21768256054587688476975411894329487999234560186767463358109307209918322843745 rfl) (congrArg (fun l => St' l) (by rw [← x1, ← i1, um_zer (by omega) (by omega) ⟨by omega, by omega⟩ (by omega)]; rfl))) (thNil)) runUn_p5
                unfold hyUn_p5
                exact hc (kBytesB (bs := ([] : LB)) .nil (denX rfl)) <|
                 hc (kNeS (isX rfl) (isSx (l := ([] : LB)) 0 0 rfl) (bnT (nilF (by omega)))) <|
                 hc (ixC rfl rfl (by omega)) <|
                 hc (necF rfl (by omega)) <|
                 hc (lnV rfl rfl (by omega)) <|
                 hc (ltcF rfl (by omega)) <|
                 hc (kMid (P := 1) (Q := 3) (isX rfl) (.inr ⟨_, _, rfl, (isZ (m := 1) rfl)⟩) (.inr ⟨_, _, rfl, (isZ (m := 3) rfl)⟩) (by omega) (by omega) (by omega) (denX (congrArg (fun l => St' l) (mid2 (i := 1) (by omega) (by omega) (by omega))))) <|
                 hc (kEqS (isX rfl) (isSx (l := ([] : LB)) 0 0 rfl) (nilF (by first | omega | (simp <;> omega)))) <|
                 hc (kLenE (isX rfl) (denZ (m := 2) rfl) rfl) <|
                 hc (kIdxE (i := 0) (isX rfl) (isZ (m := 0) rfl) (denX rfl) rfl (by simp) (bt_at rfl (by omega) (by omega))) <|
                 hc (hokDgt (isX rfl) (by omega) (by omega) (denX rfl)) <|
                 hc (gecF rfl (by omega)) <|
                 hc (kAdd (isZ (m := 0) rfl) (isX rfl) (denX rfl) (by omega) (fI64 (by omega) (by omega))) <|
                 hc (kIdxE (i := 1) (isX rfl) (isZ (m := 1) rfl) (denX rfl) rfl (by simp) (bt_at rfl (by omega) (by omega))) <|
                 hc (hokDgt (isX rfl) (by omega) (by omega) (denX rfl)) <|
                 hc (gecF rfl (by omega)) <|
                 hc (kMul (isX rfl) (isZ (m := 16) rfl) (denX rfl) (by omega) (fI64 (by omega) (by omega))) <|
                 hc (adX rfl rfl rfl (by omega)) <|
                 hc (eqcT rfl (by omega)) <|
                 hnil
              · exact nxUn_p6 s T q b X hI0 h0 h1 h2 h4 h5 h6
      · exact nxUn_p1 s T q b X hI0 h0 h1
  · skip
    by_cases h0 : (q.length : Int) = 0
    · exfalso; rw [unO_nil (by omega), x0] at i0; cases i0
    · by_cases h1 : bt q 0 = 37
      · by_cases h2 : (q.length : Int) < 3
        · skip
          have := bt_lo q 0; have := bt_hi q 0
          refine lvUn_1 s T q b (h := hyUn_p9) rfl ?_ (thCons (show Is _ (.s 33 13368744785390035796918722136903017317701998366312311048873520557726775689355361) (St' T) from isTo (v := St' ([u8 97, u8 32, u8 112, u8 101, u8 114, u8 99, u8 101, u8 110, u8 116, u8 32, u8 115, u8 105, u8 103, u8 110, u8 32, u8 119, u8 105, u8 116, u8 104, u8 111, u8 117, u8 116, u8 32, u8 116, u8 119, u8 111, u8 32, u8 100, u8 105, u8 103, u8 105, u8 116, u8 115])) (isSx (l := [u8 97, u8 32, u8 112, u8 101, u8 114, u8 99, u8 101, u8 110, u8 116, u8 32, u8 115, u8 105, u8 103, u8 110, u8 32, u8 119, u8 105, u8 116, u8 104, u8 111, u8 117, u8 116, u8 32, u8 116, u8 119, u8 111, u8 32, u8 100, u8 105, u8 103, u8 105, u8 116, u8 115]) 33 13368744785390035796918722136903017317701998366312311048873520557726775689355361 rfl) (congrArg (fun l => St' l) (by rw [← x1, ← i1, um_short (by omega) (by omega) (by omega)]; rfl))) (thNil)) runUn_p9
          unfold hyUn_p9
          exact hc (kBytesB (bs := ([] : LB)) .nil (denX rfl)) <|
           hc (kNeS (isX rfl) (isSx (l := ([] : LB)) 0 0 rfl) (bnT (nilF (by omega)))) <|
           hc (ixC rfl rfl (by omega)) <|
           hc (necF rfl (by omega)) <|
           hc (lnV rfl rfl (by omega)) <|
           hc (ltcT rfl (by omega)) <|
           hnil
        · by_cases h4 : 16 ≤ vDgt (bt q 1)
          · skip
            have := bt_lo q 0; have := bt_hi q 0
            have := bt_lo q 1; have := bt_hi q 1
            have := bt_lo q 2; have := bt_hi q 2
            have := rDgt (c := bt q 1) (by omega) (by omega)
            refine lvUn_1 s T q b (h := hyUn_p10) rfl ?_ (thCons (show Is _ (.s 33 13368744785390035796918722136903017317701998366312311048873520557726775689355361) (St' T) from isTo (v := St' ([u8 97, u8 32, u8 112, u8 101, u8 114, u8 99, u8 101, u8 110, u8 116, u8 32, u8 115, u8 105, u8 103, u8 110, u8 32, u8 119, u8 105, u8 116, u8 104, u8 111, u8 117, u8 116, u8 32, u8 116, u8 119, u8 111, u8 32, u8 100, u8 105, u8 103, u8 105, u8 116, u8 115])) (isSx (l := [u8 97, u8 32, u8 112, u8 101, u8 114, u8 99, u8 101, u8 110, u8 116, u8 32, u8 115, u8 105, u8 103, u8 110, u8 32, u8 119, u8 105, u8 116, u8 104, u8 111, u8 117, u8 116, u8 32, u8 116, u8 119, u8 111, u8 32, u8 100, u8 105, u8 103, u8 105, u8 116, u8 115]) 33 13368744785390035796918722136903017317701998366312311048873520557726775689355361 rfl) (congrArg (fun l => St' l) (by rw [← x1, ← i1, um_dig (by omega) (by omega) (fun h => by have := h.1; have := h.2; omega)]; rfl))) (thNil)) runUn_p10
            unfold hyUn_p10
            exact hc (kBytesB (bs := ([] : LB)) .nil (denX rfl)) <|
             hc (kNeS (isX rfl) (isSx (l := ([] : LB)) 0 0 rfl) (bnT (nilF (by omega)))) <|
             hc (ixC rfl rfl (by omega)) <|
             hc (necF rfl (by omega)) <|
             hc (lnV rfl rfl (by omega)) <|
             hc (ltcF rfl (by omega)) <|
             hc (kMid (P := 1) (Q := 3) (isX rfl) (.inr ⟨_, _, rfl, (isZ (m := 1) rfl)⟩) (.inr ⟨_, _, rfl, (isZ (m := 3) rfl)⟩) (by omega) (by omega) (by omega) (denX (congrArg (fun l => St' l) (mid2 (i := 1) (by omega) (by omega) (by omega))))) <|
             hc (kEqS (isX rfl) (isSx (l := ([] : LB)) 0 0 rfl) (nilF (by first | omega | (simp <;> omega)))) <|
             hc (kLenE (isX rfl) (denZ (m := 2) rfl) rfl) <|
             hc (kIdxE (i := 0) (isX rfl) (isZ (m := 0) rfl) (denX rfl) rfl (by simp) (bt_at rfl (by omega) (by omega))) <|
             hc (hokDgt (isX rfl) (by omega) (by omega) (denX rfl)) <|
             hc (gecT rfl (by omega)) <|
             hnil
          · by_cases h5 : 16 ≤ vDgt (bt q 2)
            · skip
              have := bt_lo q 0; have := bt_hi q 0
              have := bt_lo q 1; have := bt_hi q 1
              have := bt_lo q 2; have := bt_hi q 2
              have := rDgt (c := bt q 1) (by omega) (by omega)
              have := rDgt (c := bt q 2) (by omega) (by omega)
              refine lvUn_1 s T q b (h := hyUn_p11) rfl ?_ (thCons (show Is _ (.s 33 13368744785390035796918722136903017317701998366312311048873520557726775689355361) (St' T) from isTo (v := St' ([u8 97, u8 32, u8 112, u8 101, u8 114, u8 99, u8 101, u8 110, u8 116, u8 32, u8 115, u8 105, u8 103, u8 110, u8 32, u8 119, u8 105, u8 116, u8 104, u8 111, u8 117, u8 116, u8 32, u8 116, u8 119, u8 111, u8 32, u8 100, u8 105, u8 103, u8 105, u8 116, u8 115])) (isSx (l := [u8 97, u8 32, u8 112, u8 101, u8 114, u8 99, u8 101, u8 110, u8 116, u8 32, u8 115, u8 105, u8 103, u8 110, u8 32, u8 119, u8 105, u8 116, u8 104, u8 111, u8 117, u8 116, u8 32, u8 116, u8 119, u8 111, u8 32, u8 100, u8 105, u8 103, u8 105, u8 116, u8 115]) 33 13368744785390035796918722136903017317701998366312311048873520557726775689355361 rfl) (congrArg (fun l => St' l) (by rw [← x1, ← i1, um_dig (by omega) (by omega) (fun h => by have := h.1; have := h.2; omega)]; rfl))) (thNil)) runUn_p11
              unfold hyUn_p11
              exact hc (kBytesB (bs := ([] : LB)) .nil (denX rfl)) <|
               hc (kNeS (isX rfl) (isSx (l := ([] : LB)) 0 0 rfl) (bnT (nilF (by omega)))) <|
               hc (ixC rfl rfl (by omega)) <|
               hc (necF rfl (by omega)) <|
               hc (lnV rfl rfl (by omega)) <|
               hc (ltcF rfl (by omega)) <|
               hc (kMid (P := 1) (Q := 3) (isX rfl) (.inr ⟨_, _, rfl, (isZ (m := 1) rfl)⟩) (.inr ⟨_, _, rfl, (isZ (m := 3) rfl)⟩) (by omega) (by omega) (by omega) (denX (congrArg (fun l => St' l) (mid2 (i := 1) (by omega) (by omega) (by omega))))) <|
               hc (kEqS (isX rfl) (isSx (l := ([] : LB)) 0 0 rfl) (nilF (by first | omega | (simp <;> omega)))) <|
               hc (kLenE (isX rfl) (denZ (m := 2) rfl) rfl) <|
               hc (kIdxE (i := 0) (isX rfl) (isZ (m := 0) rfl) (denX rfl) rfl (by simp) (bt_at rfl (by omega) (by omega))) <|
               hc (hokDgt (isX rfl) (by omega) (by omega) (denX rfl)) <|
               hc (gecF rfl (by omega)) <|
               hc (kAdd (isZ (m := 0) rfl) (isX rfl) (denX rfl) (by omega) (fI64 (by omega) (by omega))) <|
               hc (kIdxE (i := 1) (isX rfl) (isZ (m := 1) rfl) (denX rfl) rfl (by simp) (bt_at rfl (by omega) (by omega))) <|
               hc (hokDgt (isX rfl) (by omega) (by omega) (denX rfl)) <|
               hc (gecT rfl (by omega)) <|
               hnil
            · by_cases h6 : (vDgt (bt q 1)) * 16 + (vDgt (bt q 2)) = 0
              · skip
                have := bt_lo q 0; have := bt_hi q 0
                have := bt_lo q 1; have := bt_hi q 1
                have := bt_lo q 2; have := bt_hi q 2
                have := rDgt (c := bt q 1) (by omega) (by omega)
                have := rDgt (c := bt q 2) (by omega) (by omega)
                refine lvUn_1 s T q b (h := hyUn_p12) rfl ?_ (thCons (show Is _ (.s 32 21768256054587688476975411894329487999234560186767463358109307209918322843745) (St' T) from isTo (v := St' ([u8 97, u8 32, u8 112, u8 101, u8 114, u8 99, u8 101, u8 110, u8 116, u8 32, u8 115, u8 105, u8 103, u8 110, u8 32, u8 116, u8 104, u8 97, u8 116, u8 32, u8 116, u8 101, u8 108, u8 108, u8 115, u8 32, u8 98, u8 121, u8 116, u8 101, u8 32, u8 48])) (isSx (l := [u8 97, u8 32, u8 112, u8 101, u8 114, u8 99, u8 101, u8 110, u8 116, u8 32, u8 115, u8 105, u8 103, u8 110, u8 32, u8 116, u8 104, u8 97, u8 116, u8 32, u8 116, u8 101, u8 108, u8 108, u8 115, u8 32, u8 98, u8 121, u8 116, u8 101, u8 32, u8 48]) 32 21768256054587688476975411894329487999234560186767463358109307209918322843745 rfl) (congrArg (fun l => St' l) (by rw [← x1, ← i1, um_zer (by omega) (by omega) ⟨by omega, by omega⟩ (by omega)]; rfl))) (thNil)) runUn_p12
                unfold hyUn_p12
                exact hc (kBytesB (bs := ([] : LB)) .nil (denX rfl)) <|
                 hc (kNeS (isX rfl) (isSx (l := ([] : LB)) 0 0 rfl) (bnT (nilF (by omega)))) <|
                 hc (ixC rfl rfl (by omega)) <|
                 hc (necF rfl (by omega)) <|
                 hc (lnV rfl rfl (by omega)) <|
                 hc (ltcF rfl (by omega)) <|
                 hc (kMid (P := 1) (Q := 3) (isX rfl) (.inr ⟨_, _, rfl, (isZ (m := 1) rfl)⟩) (.inr ⟨_, _, rfl, (isZ (m := 3) rfl)⟩) (by omega) (by omega) (by omega) (denX (congrArg (fun l => St' l) (mid2 (i := 1) (by omega) (by omega) (by omega))))) <|
                 hc (kEqS (isX rfl) (isSx (l := ([] : LB)) 0 0 rfl) (nilF (by first | omega | (simp <;> omega)))) <|
                 hc (kLenE (isX rfl) (denZ (m := 2) rfl) rfl) <|
                 hc (kIdxE (i := 0) (isX rfl) (isZ (m := 0) rfl) (denX rfl) rfl (by simp) (bt_at rfl (by omega) (by omega))) <|
                 hc (hokDgt (isX rfl) (by omega) (by omega) (denX rfl)) <|
                 hc (gecF rfl (by omega)) <|
                 hc (kAdd (isZ (m := 0) rfl) (isX rfl) (denX rfl) (by omega) (fI64 (by omega) (by omega))) <|
                 hc (kIdxE (i := 1) (isX rfl) (isZ (m := 1) rfl) (denX rfl) rfl (by simp) (bt_at rfl (by omega) (by omega))) <|
                 hc (hokDgt (isX rfl) (by omega) (by omega) (denX rfl)) <|
                 hc (gecF rfl (by omega)) <|
                 hc (kMul (isX rfl) (isZ (m := 16) rfl) (denX rfl) (by omega) (fI64 (by omega) (by omega))) <|
                 hc (adX rfl rfl rfl (by omega)) <|
                 hc (eqcT rfl (by omega)) <|
                 hnil
              · exact nxUn_p13 s T q b X hI0 h0 h1 h2 h4 h5 h6
      · exact nxUn_p8 s T q b X hI0 h0 h1
theorem lfOkUn_2 {l : LF} {h : LH} (s T : LB) (x0 : unS s = none) (x1 : unM s = T) (st : Nat × LB × LB) (hI : InvUn s T st) (hl : l.hp = some h) (hs : lfSame l h 26 keepUn .ret 3 4 34 = true) {th0 : LA} {sg0 : List (Nat × Nat)} (hth0 : ∀ X, ThOk (cx nu one 0 laidE laidE_stab) (DUn s T st X) th0) (h0 : startOk l h 26 4 5 th0 sg0 (epUn st) (hpUn st) = true) {thx : LA} (hthx : ThOk (EUn_2 s T) (cx nu one 0 laidE laidE_stab) thx) (hx : exitOk l h 26 4 34 thx [(2, .s 0 0), (3, .ifc 48 (.ag [.i .i64 (.ofNat 10), .x 0]))] [] = true) : LfOk (cx nu one 0 laidE laidE_stab) bodyUn l :=
  lfOkX (E := EUn_2 s T) (InvUn s T) (muUn s T) (DUn s T) (fun _ _ => rfl) (fun _ _ => rfl) (fun _ _ => rfl) (fun st X t ht => nuX_keep.trans (rX_keep ((by decide : ∀ t, t ∈ keepUn → t < 1000000) t ht))) rfl rfl rfl hl hs ebUn rfl rfl st hI hth0 h0 hthx hx (roundsUn_2 s T x0 x1)
noncomputable def fi25 : FI := (tabk.fn.get 25).getD default
theorem fi25_at : tabk.fn.get 25 = some fi25 := by kernel_rfl
theorem fi25_body : fi25.body = some (Tryd.f25.body.getD .skip) := by kernel_rfl
theorem fiB25 : fi25.body.isSome = true := by rw [fi25_body]; rfl
theorem cfA25 : (loopsOf (Tryd.f25.body.getD .skip)).all (fun b => !(keyEq (Go.AX.keyOf b) 8888888)) = true := by kernel_rfl
def hyUnesc_0 : LK := []
def lh1 : LH := ⟨3, 4, 34, [(3, .b ⟨52, .l [.nilp, .nils], 0, 0, 0, false, false⟩)], [(3, .b ⟨52, .l [.nilp, .nils], 0, 0, 0, false, false⟩)]⟩
def lf1 : LF := ⟨2, 26, [(0, .x 0), (2, .s 0 0), (3, .ni), (4, .p 3 0)], [], (.exit 0), [(2, .s 0 0), (3, .ni), (4, .p 3 0)], some lh1⟩
noncomputable def tabUnesc_0 : Tab := addLps ({ tabk with hyp := hyUnesc_0 }) 25 fi25 [lf1]
theorem runUnesc_0 : okA (call tabUnesc_0 9000 25 [.x 0] ⟨H0 , 3, 0, 0⟩) (.tu [.s 0 0, .ni]) = true := by kernel_rfl
def nuUnesc_0 (s : LB) : List Value := [St' s]
theorem pathUnesc_0 (s : LB) (b0 : s.length ≤ 9223372036854775807) (p0 : s.length ≤ 140737488355328) (h0 : ¬ (unS s = none)) (h1 : s.length = 0) (w : World) (hl : laidE w) : CwR 25 #[St' s] w (.tuple #[St' ([] : LB), .nilIface]) := by
  have ho : ∀ k r, (k, r) ∈ hyUnesc_0 → HOk (cx (nuL (nuUnesc_0 s)) (fun j _ => nuL_one (l := nuUnesc_0 s) rfl j) 0 laidE laidE_stab) k r := by
    unfold hyUnesc_0
    exact hnil
  refine runC (tb := tabUnesc_0) (ra := .tu [.s 0 0, .ni]) rfl (AllOk.lp1 ((tabkOk (nuL (nuUnesc_0 s)) (fun j _ => nuL_one (l := nuUnesc_0 s) rfl j)).hyps ho) (by omega) fi25_at fi25_body (lfCons (lpKnown rfl ⟨0, keyUn, lfOkUn_0 (l := lf1) (h := lh1) s ([] : LB) (by assumption) (0, s, ([] : LB)) (mkIUn s ([] : LB) 0 s ([] : LB) ⟨by unfold unO; cases unS s <;> simp, rfl, fun _ => ⟨rfl, rfl⟩, fun h => by omega, by simp; omega, by omega⟩) rfl (by kernel_rfl) (th0 := [(0, .x 0)]) (sg0 := []) (fun X => thXv (v := St' s) rfl rfl (thNil)) (by kernel_rfl) (thx := []) (thNil) (by kernel_rfl)⟩) lfNil)) rfl (get_lps (by omega)) fiB25 (runUnesc_0 ) (args := [St' s]) (by simp only [RelL, Rel]; exact ⟨_, _, rfl, rfl, rfl⟩) w hl fun x hx => ?_
  simp only [Rel, RelL] at hx
  obtain ⟨_, rfl, ⟨_, _, rfl, ⟨rfl, _⟩, ⟨_, _, rfl, rfl, rfl⟩⟩⟩ := hx
  rfl
def hyUnesc_1 : LK := [(.byt (.x 1) (.i .i64 (.ofNat 0)), .x 2), (.len (.x 1), .x 3), (.fit (.x 1), .b true)]
def lh2 : LH := ⟨3, 4, 34, [(3, .b ⟨52, .l [.nilp, .nils], 0, 0, 0, false, false⟩)], [(3, .b ⟨52, .l [.p 3 0, .sy 4], 0, 0, 0, false, false⟩), (4, .t 1 5)]⟩
def lf2 : LF := ⟨2, 26, [(0, .x 0), (2, .s 0 0), (3, .ni), (4, .p 3 0)], [], (.exit 0), [(2, .s 0 0), (3, .ni), (4, .p 3 0)], some lh2⟩
noncomputable def tabUnesc_1 : Tab := addLps ({ tabk with hyp := hyUnesc_1 }) 25 fi25 [lf2]
theorem runUnesc_1 : okA (call tabUnesc_1 9000 25 [.x 0] ⟨H0 , 3, 0, 0⟩) (.tu [.x 1, .ni]) = true := by kernel_rfl
def nuUnesc_1 (s : LB) : List Value := [St' s, St' ((unS s).getD []), .int .u8 (bt ((unS s).getD []) 0), .int .i64 ((((unS s).getD []).length : Int))]
theorem pathUnesc_1 (s : LB) (b0 : s.length ≤ 9223372036854775807) (p0 : s.length ≤ 140737488355328) (h0 : ¬ (unS s = none)) (h1 : ¬ (s.length = 0)) (w : World) (hl : laidE w) : CwR 25 #[St' s] w (.tuple #[St' ((unS s).getD []), .nilIface]) := by
  obtain ⟨T, hT⟩ : ∃ T, unS s = some T := by cases h : unS s with | none => exact absurd h (by assumption) | some T => exact ⟨T, rfl⟩
  have hTg : (unS s).getD [] = T := by rw [hT]; rfl
  have := unS_len hT
  rw [← hTg] at this
  have := bt_lo ((unS s).getD []) 0; have := bt_hi ((unS s).getD []) 0
  have ho : ∀ k r, (k, r) ∈ hyUnesc_1 → HOk (cx (nuL (nuUnesc_1 s)) (fun j _ => nuL_one (l := nuUnesc_1 s) rfl j) 0 laidE laidE_stab) k r := by
    unfold hyUnesc_1
    exact hc (kByt (i := 0) (isX rfl) (isZ (m := 0) rfl) (denX rfl) rfl (by first | omega | (simp <;> omega)) rfl) <|
     hc (lnV rfl rfl (by omega)) <|
     hc (kFit (isX rfl) (by first | omega | (simp <;> omega))) <|
     hnil
  refine runC (tb := tabUnesc_1) (ra := .tu [.x 1, .ni]) rfl (AllOk.lp1 ((tabkOk (nuL (nuUnesc_1 s)) (fun j _ => nuL_one (l := nuUnesc_1 s) rfl j)).hyps ho) (by omega) fi25_at fi25_body (lfCons (lpKnown rfl ⟨0, keyUn, lfOkUn_1 (l := lf2) (h := lh2) s ((unS s).getD []) (by assumption) (by rw [hT]; rfl) (0, s, ([] : LB)) (mkIUn s ((unS s).getD []) 0 s ([] : LB) ⟨by unfold unO; cases unS s <;> simp, rfl, fun _ => ⟨rfl, rfl⟩, fun h => by omega, by simp; omega, by omega⟩) rfl (by kernel_rfl) (th0 := [(0, .x 0)]) (sg0 := []) (fun X => thXv (v := St' s) rfl rfl (thNil)) (by kernel_rfl) (thx := [(1, .x 0)]) (thXv (v := St' ((unS s).getD [])) rfl rfl (thNil)) (by kernel_rfl)⟩) lfNil)) rfl (get_lps (by omega)) fiB25 (runUnesc_1 ) (args := [St' s]) (by simp only [RelL, Rel]; exact ⟨_, _, rfl, rfl, rfl⟩) w hl fun x hx => ?_
  simp only [Rel, RelL] at hx
  obtain ⟨_, rfl, ⟨_, _, rfl, rfl, ⟨_, _, rfl, rfl, rfl⟩⟩⟩ := hx
  rfl
def hyUnesc_2 : LK := []
def lh3 : LH := ⟨3, 4, 34, [(3, .b ⟨52, .l [.nilp, .nils], 0, 0, 0, false, false⟩)], []⟩
def lf3 : LF := ⟨2, 26, [(0, .x 0), (2, .s 0 0), (3, .ni), (4, .p 3 0)], [], .ret, [(2, .s 0 0), (3, .ifc 48 (.ag [.i .i64 (.ofNat 10), .x 1]))], some lh3⟩
noncomputable def tabUnesc_2 : Tab := addLps ({ tabk with hyp := hyUnesc_2 }) 25 fi25 [lf3]
theorem runUnesc_2 : okA (call tabUnesc_2 9000 25 [.x 0] ⟨H0 , 3, 0, 0⟩) (.tu [.s 0 0, .ifc 48 (.ag [.i .i64 (.ofNat 10), .x 1])]) = true := by kernel_rfl
def nuUnesc_2 (s : LB) : List Value := [St' s, St' (unM s)]
theorem pathUnesc_2 (s : LB) (b0 : s.length ≤ 9223372036854775807) (p0 : s.length ≤ 140737488355328) (h0 : unS s = none) (w : World) (hl : laidE w) : CwR 25 #[St' s] w (.tuple #[St' ([] : LB), .iface 48 (.agg #[.int .i64 10, St' (unM s)])]) := by
  have ho : ∀ k r, (k, r) ∈ hyUnesc_2 → HOk (cx (nuL (nuUnesc_2 s)) (fun j _ => nuL_one (l := nuUnesc_2 s) rfl j) 0 laidE laidE_stab) k r := by
    unfold hyUnesc_2
    exact hnil
  refine runC (tb := tabUnesc_2) (ra := .tu [.s 0 0, .ifc 48 (.ag [.i .i64 (.ofNat 10), .x 1])]) rfl (AllOk.lp1 ((tabkOk (nuL (nuUnesc_2 s)) (fun j _ => nuL_one (l := nuUnesc_2 s) rfl j)).hyps ho) (by omega) fi25_at fi25_body (lfCons (lpKnown rfl ⟨0, keyUn, lfOkUn_2 (l := lf3) (h := lh3) s (unM s) (by assumption) rfl (0, s, ([] : LB)) (mkIUn s (unM s) 0 s ([] : LB) ⟨by unfold unO; cases unS s <;> simp, rfl, fun _ => ⟨rfl, rfl⟩, fun h => by omega, by simp; omega, by omega⟩) rfl (by kernel_rfl) (th0 := [(0, .x 0)]) (sg0 := []) (fun X => thXv (v := St' s) rfl rfl (thNil)) (by kernel_rfl) (thx := [(1, .x 0)]) (thXv (v := St' (unM s)) rfl rfl (thNil)) (by kernel_rfl)⟩) lfNil)) rfl (get_lps (by omega)) fiB25 (runUnesc_2 ) (args := [St' s]) (by simp only [RelL, Rel]; exact ⟨_, _, rfl, rfl, rfl⟩) w hl fun x hx => ?_
  simp only [Rel, RelL] at hx
  obtain ⟨_, rfl, ⟨_, _, rfl, ⟨rfl, _⟩, ⟨_, _, rfl, ⟨_, rfl, ⟨_, rfl, ⟨_, _, rfl, rfl, ⟨_, _, rfl, rfl, rfl⟩⟩⟩⟩, rfl⟩⟩⟩ := hx
  rfl
theorem callsUnesc (s : LB) (b0 : s.length ≤ 9223372036854775807) (p0 : s.length ≤ 140737488355328) (w : World) (hl : laidE w) : CwR 25 #[St' s] w (if unS s = none then .tuple #[St' [], .iface 48 (.agg #[.int .i64 10, St' (unM s)])] else .tuple #[St' ((unS s).getD []), .nilIface]) := by
  by_cases h0 : unS s = none
  · rw [show (if unS s = none then .tuple #[St' [], .iface 48 (.agg #[.int .i64 10, St' (unM s)])] else .tuple #[St' ((unS s).getD []), .nilIface] : Value) = (.tuple #[St' ([] : LB), .iface 48 (.agg #[.int .i64 10, St' (unM s)])] : Value) from by first | (rw [if_pos (by assumption)]; done) | (rw [if_neg (by assumption)]; done) | (rw [if_neg (by assumption), un_nil (by assumption)]; rfl)]
    exact pathUnesc_2 s b0 p0 h0 w hl
  · by_cases h1 : s.length = 0
    · rw [show (if unS s = none then .tuple #[St' [], .iface 48 (.agg #[.int .i64 10, St' (unM s)])] else .tuple #[St' ((unS s).getD []), .nilIface] : Value) = (.tuple #[St' ([] : LB), .nilIface] : Value) from by first | (rw [if_pos (by assumption)]; done) | (rw [if_neg (by assumption)]; done) | (rw [if_neg (by assumption), un_nil (by assumption)]; rfl)]
      exact pathUnesc_0 s b0 p0 h0 h1 w hl
    · rw [show (if unS s = none then .tuple #[St' [], .iface 48 (.agg #[.int .i64 10, St' (unM s)])] else .tuple #[St' ((unS s).getD []), .nilIface] : Value) = (.tuple #[St' ((unS s).getD []), .nilIface] : Value) from by first | (rw [if_pos (by assumption)]; done) | (rw [if_neg (by assumption)]; done) | (rw [if_neg (by assumption), un_nil (by assumption)]; rfl)]
      exact pathUnesc_1 s b0 p0 h0 h1 w hl
theorem hokUnesc {x0 r : AV} {s : LB} (i0 : Is (cx nu one 0 laidE laidE_stab) x0 (St' s)) (hr : Den (cx nu one 0 laidE laidE_stab) r (if unS s = none then .tuple #[St' [], .iface 48 (.agg #[.int .i64 10, St' (unM s)])] else .tuple #[St' ((unS s).getD []), .nilIface])) (b0 : s.length ≤ 9223372036854775807) (p0 : s.length ≤ 140737488355328) : HOk (cx nu one 0 laidE laidE_stab) (.call 25 [x0]) r := by
  intro ρ args ha w hl _
  simp only [RelL] at ha
  obtain ⟨v0, t0, rfl, a0, rfl⟩ := ha
  have e0 := i0 ρ _ a0; subst e0
  exact (callsUnesc s b0 p0 w hl).mono fun e w' he => ⟨_, he.1, hr ρ, he.2⟩
theorem denNi {C : Cx} : Den C .ni .nilIface := fun ρ => by simp only [Rel]
theorem denIfc {C : Cx} {t : Nat} {a : AV} {v : Value} (h : Den C a v) : Den C (.ifc t a) (.iface t v) := fun ρ => by simp only [Rel]; exact ⟨_, rfl, h ρ⟩
theorem denA2 {C : Cx} {a b : AV} {v u : Value} (h : Den C a v) (k : Den C b u) : Den C (.ag [a, b]) (.agg #[v, u]) := fun ρ => by simp only [Rel, RelL]; exact ⟨_, rfl, _, _, rfl, h ρ, _, _, rfl, k ρ, rfl⟩
theorem denS0 {C : Cx} : Den C (.s 0 0) (St' []) := denS (len := 0) (n := 0) (by decide)
end Go.Proofs.YtipdlfkjablekaaDoor.pathBack
