/- A part of the proof: an interpreter of the model's own code on partly known states, and that what it answers is what the program answers. No condition of its own. -/
import Derived.Test.YtalblkipoopdgaaDoorSeatM1
import Derived.Test.YtalblkipoopdgaaDoorHXpart4
import Derived.Test.YtalblkipoopdgaaDoorAXro
import Derived.Test.YtalblkipoopdgaaDoorHKA
import Derived.Test.YtalblkipoopdgaaDoorHKI
import Derived.Test.YtalblkipoopdgaaDoorHKJ
import Derived.Test.YtalblkipoopdgaaDoorHKK
import Derived.Test.YtalblkipoopdgaaDoorHKN
import Derived.Test.YtalblkipoopdgaaDoorHKQ
import Derived.Test.YtalblkipoopdgaaDoorCT
import Derived.Test.YtalblkipoopdgaaDoorAXcf
set_option maxRecDepth 100000
set_option linter.unusedVariables false
set_option linter.unusedSimpArgs false
namespace Go.Proofs.YtalblkipoopdgaaDoor.startBack
open Go Go.AX Go.Proofs Go.Proofs.YtalblkipoopdgaaDoor
def laidE0 (w : World) : Prop := ∃ e fz, w.heap[0]? = some (.cells ⟨[.iface 76 (.agg #[typeHandle Tryd.prog 27])]⟩ e fz)
theorem laidE0_same {w w' : World} (h : laidE0 w) (hh : w'.heap[0]? = w.heap[0]?) : laidE0 w' := by
  obtain ⟨e, fz, hw⟩ := h
  exact ⟨e, fz, by rw [hh]; exact hw⟩
theorem laidE0_size {w : World} (h : laidE0 w) : 0 < w.heap.size := by
  obtain ⟨e, fz, hw⟩ := h
  rcases Nat.lt_or_ge 0 w.heap.size with h0 | h0
  · exact h0
  · rw [Array.getElem?_eq_none h0] at hw; cases hw
theorem geOf {C : Cx} {w : World} (hP : C.P = Tryd.prog) (h : laidE0 w) : ∃ e, GArr C w 0 e [.ifc 76 (.ag [.h 27])] := by
  obtain ⟨e, fz, h0⟩ := h
  refine ⟨e, _, fz, h0, rfl, fun j a hj => ?_⟩
  match j, hj with
  | 0, hj =>
    simp only [List.getElem?_cons_zero, Option.some.injEq] at hj
    subst hj
    refine ⟨.iface 76 (.agg #[typeHandle Tryd.prog 27]), rfl, ?_, rfl⟩
    simp only [Rel, RelL, hP]
    exact ⟨_, rfl, _, rfl, _, _, rfl, rfl, rfl⟩
  | j + 1, hj => simp at hj
/-- the variables that the runs read are laid -/
def laidE (w : World) : Prop := laidE0 w
theorem laidE_stab : ∀ w w' : World, (∀ k, k < 1 → w'.heap[k]? = w.heap[k]?) → laidE w → laidE w' := fun w w' h hE => laidE0_same hE (h 0 (by omega))
theorem laidE_size {w : World} (h : laidE w) : 1 ≤ w.heap.size := by
  have hE := h
  have := laidE0_size hE
  omega
noncomputable def H0 (e : Nat) : T Ent := T.set .leaf 0 (gBlk e (.l [.ifc 76 (.ag [.h 27])]))
theorem runP {nu : Nat → Value} {one : ∀ i, i < 1000000 → (nu i).oneCell' = true} {tb : Tab} (h : AllOk (cx nu one 1 laidE laidE_stab) tb) (hng : tb.ng = 7) {f g : Nat} {fi : FI} (hfi : tb.fn.get g = some fi) (hb : fi.body.isSome = true) {l : List AV} {args : List Value}
    (hr : ∀ e, okB (call tb f g l ⟨H0 e , 7, 0, 0⟩) = true) (hl : RelL (cx nu one 1 laidE laidE_stab) (fun _ => none) l args) (w : World) (hw : laidE w) :
    Calls Tryd.prog g ⟨args⟩ w fun e w' => e = .returned (.bool true) ∧ Go.AX.Below (Go.AX.Fz.lt w.heap.size) w w' := by
  have hE := id hw
  obtain ⟨e, g0⟩ := geOf (C := cx nu one 1 laidE laidE_stab) rfl hE
  obtain ⟨S, hS⟩ := okB_inv (hr e)
  refine (run_okG h (H := H0 e ) hfi hb (by rw [hng]; exact hS) hl w hw (laidE_size hw) fun v k hv => ?_).mono fun e' w' he => ?_
  · unfold H0 at hv
    rw [get_set _ _ _ _ (by omega)] at hv
    split at hv
    · rename_i e0; subst e0; injection hv with hv; subst hv
      exact ⟨by rw [hng]; omega, e, _, _, rfl, ⟨trivial, rfl⟩, g0⟩
    simp [T.get_leaf] at hv
  · obtain ⟨x, ρ, rfl, hx, hb⟩ := he
    simp only [Rel] at hx
    exact ⟨by rw [hx], hb⟩
theorem runS {nu : Nat → Value} {one : ∀ i, i < 1000000 → (nu i).oneCell' = true} {tb : Tab} (h : AllOk (cx nu one 1 laidE laidE_stab) tb) (hng : tb.ng = 7) {f g : Nat} {fi : FI} (hfi : tb.fn.get g = some fi) (hb : fi.body.isSome = true) {l : List AV} {args : List Value} {len n : Nat}
    (hr : ∀ e, okS (call tb f g l ⟨H0 e , 7, 0, 0⟩) len n = true) (hl : RelL (cx nu one 1 laidE laidE_stab) (fun _ => none) l args) (w : World) (hw : laidE w) :
    Calls Tryd.prog g ⟨args⟩ w fun e w' => e = .returned (St' (strB len n)) ∧ Go.AX.Below (Go.AX.Fz.lt w.heap.size) w w' := by
  have hE := id hw
  obtain ⟨e, g0⟩ := geOf (C := cx nu one 1 laidE laidE_stab) rfl hE
  obtain ⟨S, hS⟩ := okS_inv (hr e)
  refine (run_okG h (H := H0 e ) hfi hb (by rw [hng]; exact hS) hl w hw (laidE_size hw) fun v k hv => ?_).mono fun e' w' he => ?_
  · unfold H0 at hv
    rw [get_set _ _ _ _ (by omega)] at hv
    split at hv
    · rename_i e0; subst e0; injection hv with hv; subst hv
      exact ⟨by rw [hng]; omega, e, _, _, rfl, ⟨trivial, rfl⟩, g0⟩
    simp [T.get_leaf] at hv
  · obtain ⟨x, ρ, rfl, hx, hb⟩ := he
    simp only [Rel] at hx
    exact ⟨by rw [hx.1], hb⟩
theorem runA {nu : Nat → Value} {one : ∀ i, i < 1000000 → (nu i).oneCell' = true} {tb : Tab} (h : AllOk (cx nu one 1 laidE laidE_stab) tb) (hng : tb.ng = 7) {f g : Nat} {fi : FI} (hfi : tb.fn.get g = some fi) (hb : fi.body.isSome = true) {l : List AV} {args : List Value} {ra : AV} (hnr : noR 8 ra = true)
    (hr : ∀ e, okA (call tb f g l ⟨H0 e , 7, 0, 0⟩) ra = true) (hl : RelL (cx nu one 1 laidE laidE_stab) (fun _ => none) l args) (w : World) (hw : laidE w) :
    Calls Tryd.prog g ⟨args⟩ w fun e w' => ∃ x, e = .returned x ∧ Rel (cx nu one 1 laidE laidE_stab) (fun _ => none) ra x ∧ Go.AX.Below (Go.AX.Fz.lt w.heap.size) w w' := by
  have hE := id hw
  obtain ⟨e, g0⟩ := geOf (C := cx nu one 1 laidE laidE_stab) rfl hE
  obtain ⟨S, hS⟩ := okA_inv (hr e)
  refine (run_okG h (H := H0 e ) hfi hb (by rw [hng]; exact hS) hl w hw (laidE_size hw) fun v k hv => ?_).mono fun e' w' he => ?_
  · unfold H0 at hv
    rw [get_set _ _ _ _ (by omega)] at hv
    split at hv
    · rename_i e0; subst e0; injection hv with hv; subst hv
      exact ⟨by rw [hng]; omega, e, _, _, rfl, ⟨trivial, rfl⟩, g0⟩
    simp [T.get_leaf] at hv
  · obtain ⟨x, ρ, rfl, hx, hb⟩ := he
    exact ⟨x, rfl, noR_rel 8 _ hnr _ hx, hb⟩
noncomputable def fk : FI := ⟨Tryd.f5.body, Tryd.f5.ntmps, Tryd.f5.results.toList, 0, none, []⟩
theorem fk_at : tab.fn.get 5 = some fk := by kernel_rfl
theorem fk_body : fk.body.isSome = true := by kernel_rfl
theorem kk (e : Nat) : okB (call tab 6000 5 [] ⟨H0 e , 7, 0, 0⟩) = true := by kernel_rfl
noncomputable def tabk : Tab := addSum tab 5 fk (.b true)
section
variable (nu : Nat → Value) (one : ∀ i, i < 1000000 → (nu i).oneCell' = true)
theorem sumk : SumOk (cx nu one 1 laidE laidE_stab) 5 (.b true) := fun w hi hs => by
  refine (runP (tabOk nu one 1 laidE laidE_stab) rfl fk_at fk_body kk (args := []) (by simp only [RelL]) w hi).mono fun e w' he => ?_
  exact ⟨.bool true, he.1, by simp only [Rel], he.2⟩
theorem tabkOk : AllOk (cx nu one 1 laidE laidE_stab) tabk := (tabOk nu one 1 laidE laidE_stab).sum (by omega) fk_at fk_body (sumk nu one)
end
theorem exF52 : Tryd.prog.funcs[52]? = some Tryd.f52 := Tryd.func52
theorem exA52 : (Extern.findNext Tryd.f52).isNone = true := by kernel_rfl
theorem exB52 : Extern.find Tryd.f52 = some Extern.BytealgCount.count := by kernel_rfl
theorem exF62 : Tryd.prog.funcs[62]? = some Tryd.f62 := Tryd.func62
theorem exA62 : (Extern.findNext Tryd.f62).isNone = true := by kernel_rfl
theorem exB62 : Extern.find Tryd.f62 = some Extern.BytealgIndexByte.indexByte := by kernel_rfl
noncomputable def tbl (h : LK) : Tab := { tabk with hyp := h }
theorem fiE : ∃ fi, tabk.fn.get 4 = some fi ∧ fi.body.isSome = true := ⟨_, rfl, by kernel_rfl⟩
abbrev CwR (g : Nat) (args : Array Value) (w : World) (v : Value) : Prop := Calls Tryd.prog g args w fun e w' => e = .returned v ∧ Go.AX.Below (Go.AX.Fz.lt w.heap.size) w w'
theorem runC {nu : Nat → Value} {one : ∀ i, i < 1000000 → (nu i).oneCell' = true} {tb : Tab} {ra : AV} {v : Value} (hnr : noR 8 ra = true) (h : AllOk (cx nu one 1 laidE laidE_stab) tb) (hng : tb.ng = 7) {f g : Nat} {fi : FI} (hfi : tb.fn.get g = some fi) (hb : fi.body.isSome = true) {l : List AV} {args : List Value}
    (hr : ∀ e, okA (call tb f g l ⟨H0 e , 7, 0, 0⟩) ra = true) (hl : RelL (cx nu one 1 laidE laidE_stab) (fun _ => none) l args) (w : World) (hw : laidE w) (hv : ∀ x, Rel (cx nu one 1 laidE laidE_stab) (fun _ => none) ra x → x = v) : CwR g ⟨args⟩ w v :=
  (runA h hng hfi hb hnr hr hl w hw).mono fun e w' he => by
    obtain ⟨x, rfl, hx, hb2⟩ := he
    exact ⟨by rw [hv x hx], hb2⟩
variable {nu : Nat → Value} {one : ∀ i, i < 1000000 → (nu i).oneCell' = true} {E' : Cx} {x' : Ex} {e' : LA} {h' : LE}
def MAln : Nat := 10633823810298881996667002598709002240
noncomputable def bfAln (e : Nat) (n : Nat) : Bool := okA (call tabk 9000 43 [.i .u8 (.ofNat n)] ⟨H0 e , 7, 0, 0⟩) (.b (Nat.testBit MAln n))
theorem bfAln_0 (e : Nat) : allN (bfAln e ) 0 64 = true := by kernel_rfl
theorem bfAln_1 (e : Nat) : allN (bfAln e ) 64 64 = true := by kernel_rfl
theorem bfAln_2 (e : Nat) : allN (bfAln e ) 128 64 = true := by kernel_rfl
theorem bfAln_3 (e : Nat) : allN (bfAln e ) 192 64 = true := by kernel_rfl
theorem bfAln_all (e : Nat) (n : Nat) (h : n < 256) : bfAln e n = true := by
  rcases (show n / 64 = 0 ∨ n / 64 = 1 ∨ n / 64 = 2 ∨ n / 64 = 3 by omega) with h | h | h | h
  · exact allN_at (bfAln_0 e ) n (by omega) (by omega)
  · exact allN_at (bfAln_1 e ) n (by omega) (by omega)
  · exact allN_at (bfAln_2 e ) n (by omega) (by omega)
  · exact allN_at (bfAln_3 e ) n (by omega) (by omega)
theorem callsAln (n : Nat) (h : n < 256) (w : World) (hl : laidE w) : CwR 43 #[.int .u8 (n : Int)] w (.bool (tb8 MAln (n : Int))) := by
  refine runC (tb := tabk) rfl (tabkOk (nuL []) (fun j _ => nuL_one (l := []) rfl j)) rfl (fi := fI Tryd.f43 0) rfl (by kernel_rfl) (fun e => bfAln_all e n h) (args := [.int .u8 (n : Int)]) (by simp only [RelL, Rel]; exact ⟨_, _, rfl, rfl, rfl⟩) w hl fun x hx => ?_
  simp only [Rel] at hx
  rw [hx]; rfl
theorem hokAln {x0 r : AV} {c : Int} (i0 : Is (cx nu one 1 laidE laidE_stab) x0 (.int .u8 c)) (b0 : 0 ≤ c) (b1 : c ≤ 255) (hr : Den (cx nu one 1 laidE laidE_stab) r (.bool (tb8 MAln c))) : HOk (cx nu one 1 laidE laidE_stab) (.call 43 [x0]) r := by
  intro ρ args ha w hl _
  simp only [RelL] at ha
  obtain ⟨v0, t0, rfl, a0, rfl⟩ := ha
  have e0 := i0 ρ _ a0; subst e0
  obtain ⟨n, rfl⟩ := Int.eq_ofNat_of_zero_le b0
  exact (callsAln n (by omega) w hl).mono fun e w' he => ⟨_, he.1, hr ρ, he.2⟩
def LIxt : List Int := [(-1), (-1), (-1), (-1), (-1), (-1), (-1), (-1), (-1), (-1), (-1), (-1), (-1), (-1), (-1), (-1), (-1), (-1), (-1), (-1), (-1), (-1), (-1), (-1), (-1), (-1), (-1), (-1), (-1), (-1), (-1), (-1), (-1), 0, (-1), 1, 2, 3, 4, 5, (-1), (-1), 6, 7, (-1), 8, 9, (-1), (-1), (-1), (-1), (-1), (-1), (-1), (-1), (-1), (-1), (-1), (-1), (-1), (-1), (-1), (-1), (-1), (-1), (-1), (-1), (-1), (-1), (-1), (-1), (-1), (-1), (-1), (-1), (-1), (-1), (-1), (-1), (-1), (-1), (-1), (-1), (-1), (-1), (-1), (-1), (-1), (-1), (-1), (-1), (-1), (-1), (-1), 10, 11, 12, (-1), (-1), (-1), (-1), (-1), (-1), (-1), (-1), (-1), (-1), (-1), (-1), (-1), (-1), (-1), (-1), (-1), (-1), (-1), (-1), (-1), (-1), (-1), (-1), (-1), (-1), (-1), 13, (-1), 14, (-1), (-1), (-1), (-1), (-1), (-1), (-1), (-1), (-1), (-1), (-1), (-1), (-1), (-1), (-1), (-1), (-1), (-1), (-1), (-1), (-1), (-1), (-1), (-1), (-1), (-1), (-1), (-1), (-1), (-1), (-1), (-1), (-1), (-1), (-1), (-1), (-1), (-1), (-1), (-1), (-1), (-1), (-1), (-1), (-1), (-1), (-1), (-1), (-1), (-1), (-1), (-1), (-1), (-1), (-1), (-1), (-1), (-1), (-1), (-1), (-1), (-1), (-1), (-1), (-1), (-1), (-1), (-1), (-1), (-1), (-1), (-1), (-1), (-1), (-1), (-1), (-1), (-1), (-1), (-1), (-1), (-1), (-1), (-1), (-1), (-1), (-1), (-1), (-1), (-1), (-1), (-1), (-1), (-1), (-1), (-1), (-1), (-1), (-1), (-1), (-1), (-1), (-1), (-1), (-1), (-1), (-1), (-1), (-1), (-1), (-1), (-1), (-1), (-1), (-1), (-1), (-1), (-1), (-1), (-1), (-1), (-1), (-1), (-1), (-1), (-1), (-1), (-1), (-1)]
def vIxt (c : Int) : Int := LIxt.getD c.toNat 0
noncomputable def bfIxt (e : Nat) (n : Nat) : Bool := okA (call tabk 9000 44 [.s 15 656752058384775479847414506184778529, .i .u8 (.ofNat n)] ⟨H0 e , 7, 0, 0⟩) (.i .i64 (LIxt.getD n 0))
theorem bfIxt_0 (e : Nat) : allN (bfIxt e ) 0 64 = true := by kernel_rfl
theorem bfIxt_1 (e : Nat) : allN (bfIxt e ) 64 64 = true := by kernel_rfl
theorem bfIxt_2 (e : Nat) : allN (bfIxt e ) 128 64 = true := by kernel_rfl
theorem bfIxt_3 (e : Nat) : allN (bfIxt e ) 192 64 = true := by kernel_rfl
theorem bfIxt_all (e : Nat) (n : Nat) (h : n < 256) : bfIxt e n = true := by
  rcases (show n / 64 = 0 ∨ n / 64 = 1 ∨ n / 64 = 2 ∨ n / 64 = 3 by omega) with h | h | h | h
  · exact allN_at (bfIxt_0 e ) n (by omega) (by omega)
  · exact allN_at (bfIxt_1 e ) n (by omega) (by omega)
  · exact allN_at (bfIxt_2 e ) n (by omega) (by omega)
  · exact allN_at (bfIxt_3 e ) n (by omega) (by omega)
theorem callsIxt (n : Nat) (h : n < 256) (w : World) (hl : laidE w) : CwR 44 #[St' [u8 33, u8 35, u8 36, u8 37, u8 38, u8 39, u8 42, u8 43, u8 45, u8 46, u8 94, u8 95, u8 96, u8 124, u8 126], .int .u8 (n : Int)] w (.int .i64 (vIxt (n : Int))) := by
  refine runC (tb := tabk) rfl (tabkOk (nuL []) (fun j _ => nuL_one (l := []) rfl j)) rfl (fi := fI Tryd.f44 0) rfl (by kernel_rfl) (fun e => bfIxt_all e n h) (args := [St' [u8 33, u8 35, u8 36, u8 37, u8 38, u8 39, u8 42, u8 43, u8 45, u8 46, u8 94, u8 95, u8 96, u8 124, u8 126], .int .u8 (n : Int)]) (by simp only [RelL, Rel]; exact ⟨_, _, rfl, ⟨rfl, by decide⟩, ⟨_, _, rfl, rfl, rfl⟩⟩) w hl fun x hx => ?_
  simp only [Rel] at hx
  rw [hx]; rfl
theorem hokIxt {x0 x1 r : AV} {c : Int} (i0 : Is (cx nu one 1 laidE laidE_stab) x0 (St' [u8 33, u8 35, u8 36, u8 37, u8 38, u8 39, u8 42, u8 43, u8 45, u8 46, u8 94, u8 95, u8 96, u8 124, u8 126])) (i1 : Is (cx nu one 1 laidE laidE_stab) x1 (.int .u8 c)) (b0 : 0 ≤ c) (b1 : c ≤ 255) (hr : Den (cx nu one 1 laidE laidE_stab) r (.int .i64 (vIxt c))) : HOk (cx nu one 1 laidE laidE_stab) (.call 44 [x0, x1]) r := by
  intro ρ args ha w hl _
  simp only [RelL] at ha
  obtain ⟨v0, t0, rfl, a0, v1, t1, rfl, a1, rfl⟩ := ha
  have e0 := i0 ρ _ a0; subst e0
  have e1 := i1 ρ _ a1; subst e1
  obtain ⟨n, rfl⟩ := Int.eq_ofNat_of_zero_le b0
  exact (callsIxt n (by omega) w hl).mono fun e w' he => ⟨_, he.1, hr ρ, he.2⟩
theorem rIxt {c : Int} (b0 : 0 ≤ c) (b1 : c ≤ 255) : (-1) ≤ vIxt c ∧ vIxt c ≤ 14 := by
  obtain ⟨n, rfl⟩ := Int.eq_ofNat_of_zero_le b0
  have h : ∀ m : Fin 256, (-1) ≤ LIxt.getD m.val 0 ∧ LIxt.getD m.val 0 ≤ 14 := by decide +kernel
  exact h ⟨n, by omega⟩
def MTk : Nat := 116972063611741436228934278030836105216
def tkb (b : UInt8) : Bool := tb8 MTk (b.toNat : Int)
def tokS (s : LB) : Bool := s.all tkb && decide (¬ s.length = 0)
theorem tk_at {s : LB} {i : Int} (h0 : 0 ≤ i) (h : i < s.length) : (s.drop (Int.toNat i)).all tkb = (tb8 MTk (bt s (Int.toNat (i))) && (s.drop (Int.toNat (i + 1))).all tkb) := by
  have e : s.drop i.toNat = u8 (bt s i.toNat) :: s.drop (i.toNat + 1) := by
    rw [List.drop_eq_getElem_cons (by omega), u8_bt, List.getD_eq_getElem?_getD, List.getElem?_eq_getElem (by omega), Option.getD_some]
  rw [e, List.all_cons, tkb, u8_toNat (bt_lo _ _) (bt_hi _ _), show (i + 1).toNat = i.toNat + 1 by omega]
theorem tk_yes {s : LB} {i : Int} {A : Bool} (h0 : 0 ≤ i) (h : i < s.length) (hb : tb8 MTk (bt s (Int.toNat (i))) = true) (hA : (s.drop (Int.toNat i)).all tkb = A) : (s.drop (Int.toNat (i + 1))).all tkb = A := by
  rw [tk_at h0 h, hb, Bool.true_and] at hA; exact hA
theorem tk_no {s : LB} {i : Int} {A : Bool} (h0 : 0 ≤ i) (h : i < s.length) (hb : tb8 MTk (bt s (Int.toNat (i))) = false) (hA : (s.drop (Int.toNat i)).all tkb = A) : A = false := by
  rw [tk_at h0 h, hb, Bool.false_and] at hA; exact hA.symm
theorem tk_end {s : LB} {i : Int} {A : Bool} (h : (s.length : Int) ≤ i) (hA : (s.drop (Int.toNat i)).all tkb = A) : A = true := by
  rw [List.drop_eq_nil_of_le (by omega)] at hA; exact hA.symm
theorem tkA1 {c : Int} (h0 : 0 ≤ c) (h1 : c ≤ 255) (a0 : tb8 MAln c = true) : tb8 MTk c = true := by
  obtain ⟨n, rfl⟩ := Int.eq_ofNat_of_zero_le h0
  have h : ∀ m : Fin 256, (tb8 MAln (m.val : Int) = true) → tb8 MTk (m.val : Int) = true := by decide +kernel
  exact h ⟨n, by omega⟩ a0
theorem tkA2 {c : Int} (h0 : 0 ≤ c) (h1 : c ≤ 255) (a0 : ¬ tb8 MAln c = true) (a1 : ¬ vIxt c < 0) : tb8 MTk c = true := by
  obtain ⟨n, rfl⟩ := Int.eq_ofNat_of_zero_le h0
  have h : ∀ m : Fin 256, (¬ tb8 MAln (m.val : Int) = true) → (¬ vIxt (m.val : Int) < 0) → tb8 MTk (m.val : Int) = true := by decide +kernel
  exact h ⟨n, by omega⟩ a0 a1
theorem tkA3 {c : Int} (h0 : 0 ≤ c) (h1 : c ≤ 255) (a0 : ¬ tb8 MAln c = true) (a1 : vIxt c < 0) : tb8 MTk c = false := by
  obtain ⟨n, rfl⟩ := Int.eq_ofNat_of_zero_le h0
  have h : ∀ m : Fin 256, (¬ tb8 MAln (m.val : Int) = true) → (vIxt (m.val : Int) < 0) → tb8 MTk (m.val : Int) = false := by decide +kernel
  exact h ⟨n, by omega⟩ a0 a1
noncomputable def bodyKa : Code := loopNo (Tryd.f29.body.getD .skip) 0
theorem keyKa : oneKey (loopsOf (Tryd.f29.body.getD .skip)) 2 0 0 = true := by kernel_rfl
def keepKa : List Nat := []
def epKa_0 : LA := [(0, .x 0), (2, .b false), (6, .x 1), (5, .x 2)]
def hpKa_0 : LE := []
def nuKa_0 (s : LB) (A : Bool) (i : Int) : List Value := [St' s, .int .i64 (i), .int .i64 ((s.length : Int)), .int .u8 (bt s (Int.toNat (i))), .int .i64 (i + 1), .int .u8 (bt s (Int.toNat (i))), .int .i64 (vIxt (bt s (Int.toNat (i)))), .int .i64 (i + 1), .int .u8 (bt s (Int.toNat (i))), .int .i64 (vIxt (bt s (Int.toNat (i))))]
def roKa_0 (s : LB) (A : Bool) (i : Int) : List Value := []
def epKa (st : Nat × Int) : LA := epKa_0
def hpKa (st : Nat × Int) : LE := hpKa_0
def nuKa (s : LB) (A : Bool) (st : Nat × Int) : List Value := nuKa_0 s A (st.2)
def roKa (s : LB) (A : Bool) (st : Nat × Int) : List Value := roKa_0 s A (st.2)
theorem onKa (s : LB) (A : Bool) (st : Nat × Int) : ∀ j, (nuL (nuKa s A st) j).oneCell' = true := by
  intro j
  unfold nuKa
  exact nuL_one (l := nuKa_0 s A (st.2)) rfl j
theorem ebKa (st : Nat × Int) : (lfB (epKa st) && lfC keepKa) = true := by
  unfold epKa
  rfl
noncomputable def DKa (s : LB) (A : Bool) (st : Nat × Int) (X : Nat → Value) : Cx := cx (nuX (nuKa s A st) (rX (roKa s A st) X)) (nuX_one (onKa s A st)) 1 laidE laidE_stab
def InvKa (s : LB) (A : Bool) (st : Nat × Int) : Prop := (0 ≤ (st.2)) ∧ ((st.2) ≤ (s.length : Int)) ∧ ((s.drop (Int.toNat (st.2))).all tkb = A) ∧ ((st.1) < 1)
abbrev CjKa (s : LB) (A : Bool) (tag : Nat) (i : Int) : Prop := (0 ≤ i) ∧ (i ≤ (s.length : Int)) ∧ ((s.drop (Int.toNat i)).all tkb = A) ∧ (tag < 1)
theorem mkIKa (s : LB) (A : Bool) (tag : Nat) (i : Int) (h : CjKa s A tag i) : InvKa s A (tag, i) := h
theorem unIKa (s : LB) (A : Bool) (tag : Nat) (i : Int) (h : InvKa s A (tag, i)) : (0 ≤ i) ∧ (i ≤ (s.length : Int)) ∧ ((s.drop (Int.toNat i)).all tkb = A) ∧ (tag < 1) := h
def muKa (s : LB) (A : Bool) (st : Nat × Int) : Nat := (s.length - (st.2).toNat)
abbrev RHKa (s : LB) (A : Bool) (E' : Cx) (ex' : Ex) (epx' : LA) (hpx' : LE) (st : Nat × Int) (X : Nat → Value) : Prop := RoundH E' bodyKa keepKa 24 ex' 7 7 7 7 epKa hpKa epx' hpx' (InvKa s A) (muKa s A) (DKa s A) st X
noncomputable abbrev RNKa_0 (h : LK) (x : Ex) (th : LA) (sg : List (Nat × Nat)) (m : Nat) (ep : LA) (hp : LE) : Bool := okRdH (code (tbl h) 900 [] bodyKa (envOf (headOf epKa_0 keepKa) 24) ⟨lhSet hpKa_0 .leaf, 7, 0, 0⟩) x keepKa 24 7 th sg 7 m ep hp
theorem stKa_0 (s : LB) (A : Bool) (i : Int) {X : Nat → Value} {h : LK} (y : Nat × Int) {th : LA} {sg : List (Nat × Nat)} (ho : ∀ a' r', (a', r') ∈ h → HOk (cx (nuX (nuKa_0 s A i) (rX (roKa_0 s A i) X)) (nuX_one (nuL_one (l := nuKa_0 s A i) rfl)) 1 laidE laidE_stab) a' r') (hy : InvKa s A y) (lt : muKa s A y < muKa s A (0, i)) (ht : ThOk (cx (nuX (nuKa_0 s A i) (rX (roKa_0 s A i) X)) (nuX_one (nuL_one (l := nuKa_0 s A i) rfl)) 1 laidE laidE_stab) (DKa s A y X) th) (run : RNKa_0 h .normal th sg 7 (epKa y) (hpKa y) = true) : RHKa s A E' x' e' h' (0, i) X :=
  RoundH.next (tb := tbl h) (L := []) (f := 900) y ((tabkOk _ _).hyps ho) (LpOk.nil _) rfl hy lt ht run
theorem lvKa_0 (s : LB) (A : Bool) (i : Int) {X : Nat → Value} {h : LK} {th : LA} {sg : List (Nat × Nat)} (hne : exB x' .normal = false) (ho : ∀ a' r', (a', r') ∈ h → HOk (cx (nuX (nuKa_0 s A i) (rX (roKa_0 s A i) X)) (nuX_one (nuL_one (l := nuKa_0 s A i) rfl)) 1 laidE laidE_stab) a' r') (ht : ThOk (cx (nuX (nuKa_0 s A i) (rX (roKa_0 s A i) X)) (nuX_one (nuL_one (l := nuKa_0 s A i) rfl)) 1 laidE laidE_stab) E' th) (run : RNKa_0 h x' th sg 7 e' h' = true) : RHKa s A E' x' e' h' (0, i) X :=
  RoundH.leave (tb := tbl h) (L := []) (f := 900) ((tabkOk _ _).hyps ho) (LpOk.nil _) rfl hne ht run
def hyKa_p0 : LK := [(.bin .lss (.x 1) (.x 2), .b false)]
theorem runKa_p0 : RNKa_0 hyKa_p0 (.exit 0) [(0, .x 0)] [] 7 [(0, .x 0), (2, .b false)] [] = true := by kernel_rfl
def hyKa_p1 : LK := [(.bin .lss (.x 1) (.x 2), .b true), (.idx (.x 0) (.x 1), .x 3), (.call 43 [.x 3], .b true), (.bin .add (.x 1) (.i .i64 (.ofNat 1)), .x 4)]
theorem runKa_p1 : RNKa_0 hyKa_p1 .normal [(0, .x 0), (1, .x 4), (2, .x 2)] [] 7 epKa_0 hpKa_0 = true := by kernel_rfl
theorem nxKa_p1 (s : LB) (A : Bool) (c0 : s.length ≤ 140737488355328) (i : Int) (X : Nat → Value) (hI : InvKa s A (0, i)) (h0 : i < (s.length : Int)) (h1 : tb8 MAln (bt s (Int.toNat (i))) = true) : RHKa s A E' x' e' h' (0, i) X := by
  obtain ⟨i0, i1, i2, it⟩ := unIKa s A 0 i hI
  have := bt_lo s (Int.toNat (i)); have := bt_hi s (Int.toNat (i))
  refine stKa_0 s A i (h := hyKa_p1) (0, (i + 1)) ?_ (mkIKa s A 0 (i + 1) ⟨by omega, by omega, tk_yes (by omega) (by omega) (by first | exact tkA1 (bt_lo _ _) (bt_hi _ _) (by assumption) | exact tkA2 (bt_lo _ _) (bt_hi _ _) (by assumption) (by assumption)) i2, by omega⟩) (by show s.length - (i + 1).toNat < s.length - i.toNat; omega) (thXv (v := St' s) rfl rfl (thXi (b := ((i + 1))) rfl rfl (by omega) (thXv (v := .int .i64 ((s.length : Int))) rfl rfl (thNil)))) runKa_p1
  unfold hyKa_p1
  exact hc (ltT rfl rfl (by omega)) <|
   hc (ixV rfl rfl rfl (by omega)) <|
   hc (hokAln (isX rfl) (by omega) (by omega) (denBT (by assumption))) <|
   hc (adC rfl rfl (by omega)) <|
   hnil
def hyKa_p2 : LK := [(.bin .lss (.x 1) (.x 2), .b true), (.idx (.x 0) (.x 1), .x 5), (.call 43 [.x 5], .b false), (.call 44 [.s 15 656752058384775479847414506184778529, .x 5], .x 6), (.bin .lss (.x 6) (.i .i64 (.ofNat 0)), .b false), (.bin .add (.x 1) (.i .i64 (.ofNat 1)), .x 7)]
theorem runKa_p2 : RNKa_0 hyKa_p2 .normal [(0, .x 0), (1, .x 7), (2, .x 2)] [] 7 epKa_0 hpKa_0 = true := by kernel_rfl
theorem nxKa_p2 (s : LB) (A : Bool) (c0 : s.length ≤ 140737488355328) (i : Int) (X : Nat → Value) (hI : InvKa s A (0, i)) (h0 : i < (s.length : Int)) (h1 : ¬ (tb8 MAln (bt s (Int.toNat (i))) = true)) (h2 : ¬ (vIxt (bt s (Int.toNat (i))) < 0)) : RHKa s A E' x' e' h' (0, i) X := by
  obtain ⟨i0, i1, i2, it⟩ := unIKa s A 0 i hI
  have := bt_lo s (Int.toNat (i)); have := bt_hi s (Int.toNat (i))
  have := rIxt (c := bt s (Int.toNat (i))) (by omega) (by omega)
  refine stKa_0 s A i (h := hyKa_p2) (0, (i + 1)) ?_ (mkIKa s A 0 (i + 1) ⟨by omega, by omega, tk_yes (by omega) (by omega) (by first | exact tkA1 (bt_lo _ _) (bt_hi _ _) (by assumption) | exact tkA2 (bt_lo _ _) (bt_hi _ _) (by assumption) (by assumption)) i2, by omega⟩) (by show s.length - (i + 1).toNat < s.length - i.toNat; omega) (thXv (v := St' s) rfl rfl (thXi (b := ((i + 1))) rfl rfl (by omega) (thXv (v := .int .i64 ((s.length : Int))) rfl rfl (thNil)))) runKa_p2
  unfold hyKa_p2
  exact hc (ltT rfl rfl (by omega)) <|
   hc (ixV rfl rfl rfl (by omega)) <|
   hc (hokAln (isX rfl) (by omega) (by omega) (denBF (by assumption))) <|
   hc (hokIxt (isSx (l := [u8 33, u8 35, u8 36, u8 37, u8 38, u8 39, u8 42, u8 43, u8 45, u8 46, u8 94, u8 95, u8 96, u8 124, u8 126]) 15 656752058384775479847414506184778529 rfl) (isX rfl) (by omega) (by omega) (denX rfl)) <|
   hc (ltcF rfl (by omega)) <|
   hc (adC rfl rfl (by omega)) <|
   hnil
def hyKa_p3 : LK := [(.bin .lss (.x 1) (.x 2), .b true), (.idx (.x 0) (.x 1), .x 8), (.call 43 [.x 8], .b false), (.call 44 [.s 15 656752058384775479847414506184778529, .x 8], .x 9), (.bin .lss (.x 9) (.i .i64 (.ofNat 0)), .b true)]
theorem runKa_p3 : RNKa_0 hyKa_p3 .ret [] [] 7 [(2, .b false)] [] = true := by kernel_rfl
def nuEKa_0 (s : LB) (A : Bool) : List Value := [St' s]
def roEKa_0 (s : LB) (A : Bool) : List Value := []
noncomputable def EKa_0 (s : LB) (A : Bool) : Cx := cx (nuX (nuEKa_0 s A) (rX (roEKa_0 s A) (fun _ => .bool true))) (nuX_one (nuL_one (l := nuEKa_0 s A) rfl)) 1 laidE laidE_stab
theorem roundsKa_0 (s : LB) (A : Bool) (c0 : s.length ≤ 140737488355328) (x0 : A = true) (st : Nat × Int) (X : Nat → Value) (hI : InvKa s A st) : RHKa s A (EKa_0 s A) (.exit 0) [(0, .x 0), (2, .b false)] [] st X := by
  obtain ⟨tag, i⟩ := st
  have hI0 := hI
  obtain ⟨i0, i1, i2, it⟩ := unIKa s A tag i hI
  obtain rfl : tag = 0 := by omega
  skip
  by_cases h0 : i < (s.length : Int)
  · by_cases h1 : tb8 MAln (bt s (Int.toNat (i))) = true
    · exact nxKa_p1 s A c0 i X hI0 h0 h1
    · by_cases h2 : vIxt (bt s (Int.toNat (i))) < 0
      · exfalso; have e := tk_no (by omega) (by omega) (tkA3 (bt_lo _ _) (bt_hi _ _) (by assumption) (by assumption)) i2; rw [e] at x0; exact absurd x0 (by simp)
      · exact nxKa_p2 s A c0 i X hI0 h0 h1 h2
  · skip
    refine lvKa_0 s A i (h := hyKa_p0) rfl ?_ (thXv (v := St' s) rfl rfl (thNil)) runKa_p0
    unfold hyKa_p0
    exact hc (ltF rfl rfl (by omega)) <|
     hnil
theorem lfOkKa_0 {l : LF} {h : LH} (s : LB) (A : Bool) (c0 : s.length ≤ 140737488355328) (x0 : A = true) (st : Nat × Int) (hI : InvKa s A st) (hl : l.hp = some h) (hs : lfSame l h 24 keepKa (.exit 0) 7 7 7 = true) {th0 : LA} {sg0 : List (Nat × Nat)} (hth0 : ∀ X, ThOk (cx nu one 1 laidE laidE_stab) (DKa s A st X) th0) (h0 : startOk l h 24 7 7 th0 sg0 (epKa st) (hpKa st) = true) {thx : LA} (hthx : ThOk (EKa_0 s A) (cx nu one 1 laidE laidE_stab) thx) (hx : exitOk l h 24 7 7 thx [(0, .x 0), (2, .b false)] [] = true) : LfOk (cx nu one 1 laidE laidE_stab) bodyKa l :=
  lfOkX (E := EKa_0 s A) (InvKa s A) (muKa s A) (DKa s A) (fun _ _ => rfl) (fun _ _ => rfl) (fun _ _ => rfl) (fun st X t ht => nuX_keep.trans (rX_keep ((by decide : ∀ t, t ∈ keepKa → t < 1000000) t ht))) rfl rfl rfl hl hs ebKa rfl rfl st hI hth0 h0 hthx hx (roundsKa_0 s A c0 x0)
def nuEKa_1 (s : LB) (A : Bool) : List Value := []
def roEKa_1 (s : LB) (A : Bool) : List Value := []
noncomputable def EKa_1 (s : LB) (A : Bool) : Cx := cx (nuX (nuEKa_1 s A) (rX (roEKa_1 s A) (fun _ => .bool true))) (nuX_one (nuL_one (l := nuEKa_1 s A) rfl)) 1 laidE laidE_stab
theorem roundsKa_1 (s : LB) (A : Bool) (c0 : s.length ≤ 140737488355328) (x0 : A = false) (st : Nat × Int) (X : Nat → Value) (hI : InvKa s A st) : RHKa s A (EKa_1 s A) .ret [(2, .b false)] [] st X := by
  obtain ⟨tag, i⟩ := st
  have hI0 := hI
  obtain ⟨i0, i1, i2, it⟩ := unIKa s A tag i hI
  obtain rfl : tag = 0 := by omega
  skip
  by_cases h0 : i < (s.length : Int)
  · by_cases h1 : tb8 MAln (bt s (Int.toNat (i))) = true
    · exact nxKa_p1 s A c0 i X hI0 h0 h1
    · by_cases h2 : vIxt (bt s (Int.toNat (i))) < 0
      · skip
        have := bt_lo s (Int.toNat (i)); have := bt_hi s (Int.toNat (i))
        have := rIxt (c := bt s (Int.toNat (i))) (by omega) (by omega)
        refine lvKa_0 s A i (h := hyKa_p3) rfl ?_ (thNil) runKa_p3
        unfold hyKa_p3
        exact hc (ltT rfl rfl (by omega)) <|
         hc (ixV rfl rfl rfl (by omega)) <|
         hc (hokAln (isX rfl) (by omega) (by omega) (denBF (by assumption))) <|
         hc (hokIxt (isSx (l := [u8 33, u8 35, u8 36, u8 37, u8 38, u8 39, u8 42, u8 43, u8 45, u8 46, u8 94, u8 95, u8 96, u8 124, u8 126]) 15 656752058384775479847414506184778529 rfl) (isX rfl) (by omega) (by omega) (denX rfl)) <|
         hc (ltcT rfl (by omega)) <|
         hnil
      · exact nxKa_p2 s A c0 i X hI0 h0 h1 h2
  · exfalso; have e := tk_end (by omega) i2; rw [e] at x0; exact absurd x0 (by simp)
theorem lfOkKa_1 {l : LF} {h : LH} (s : LB) (A : Bool) (c0 : s.length ≤ 140737488355328) (x0 : A = false) (st : Nat × Int) (hI : InvKa s A st) (hl : l.hp = some h) (hs : lfSame l h 24 keepKa .ret 7 7 7 = true) {th0 : LA} {sg0 : List (Nat × Nat)} (hth0 : ∀ X, ThOk (cx nu one 1 laidE laidE_stab) (DKa s A st X) th0) (h0 : startOk l h 24 7 7 th0 sg0 (epKa st) (hpKa st) = true) {thx : LA} (hthx : ThOk (EKa_1 s A) (cx nu one 1 laidE laidE_stab) thx) (hx : exitOk l h 24 7 7 thx [(2, .b false)] [] = true) : LfOk (cx nu one 1 laidE laidE_stab) bodyKa l :=
  lfOkX (E := EKa_1 s A) (InvKa s A) (muKa s A) (DKa s A) (fun _ _ => rfl) (fun _ _ => rfl) (fun _ _ => rfl) (fun st X t ht => nuX_keep.trans (rX_keep ((by decide : ∀ t, t ∈ keepKa → t < 1000000) t ht))) rfl rfl rfl hl hs ebKa rfl rfl st hI hth0 h0 hthx hx (roundsKa_1 s A c0 x0)
noncomputable def fi29 : FI := (tabk.fn.get 29).getD default
theorem fi29_at : tabk.fn.get 29 = some fi29 := by kernel_rfl
theorem fi29_body : fi29.body = some (Tryd.f29.body.getD .skip) := by kernel_rfl
theorem fiB29 : fi29.body.isSome = true := by rw [fi29_body]; rfl
theorem cfA29 : (loopsOf (Tryd.f29.body.getD .skip)).all (fun b => !(keyEq (Go.AX.keyOf b) 8888888)) = true := by kernel_rfl
def hyTokA_0 : LK := [(.len (.x 0), .x 1), (.bin .neq (.x 2) (.s 0 0), .b false)]
def lh1 : LH := ⟨7, 7, 7, [], []⟩
def lf1 : LF := ⟨2, 24, [(0, .x 0), (2, .b false), (6, .i .i64 (.ofNat 0)), (5, .x 1)], [], (.exit 0), [(0, .x 2), (2, .b false)], some lh1⟩
noncomputable def tabTokA_0 : Tab := addLps ({ tabk with hyp := hyTokA_0 }) 29 fi29 [lf1]
theorem runTokA_0 (e : Nat) : okA (call tabTokA_0 9000 29 [.x 0] ⟨H0 e , 7, 0, 0⟩) (.b false) = true := by kernel_rfl
def nuTokA_0 (s : LB) : List Value := [St' s, .int .i64 ((s.length : Int)), St' s]
theorem pathTokA_0 (s : LB) (b0 : s.length ≤ 9223372036854775807) (p0 : s.length ≤ 140737488355328) (h0 : s.all tkb = true) (h1 : (s.length : Int) = 0) (w : World) (hl : laidE w) : CwR 29 #[St' s] w (.bool false) := by
  have ho : ∀ k r, (k, r) ∈ hyTokA_0 → HOk (cx (nuL (nuTokA_0 s)) (fun j _ => nuL_one (l := nuTokA_0 s) rfl j) 1 laidE laidE_stab) k r := by
    unfold hyTokA_0
    exact hc (lnV rfl rfl (by omega)) <|
     hc (kNeS (isX rfl) (isSx (l := ([] : LB)) 0 0 rfl) (bnF (nilT (by omega)))) <|
     hnil
  refine runC (tb := tabTokA_0) (ra := .b false) rfl (AllOk.lp1 ((tabkOk (nuL (nuTokA_0 s)) (fun j _ => nuL_one (l := nuTokA_0 s) rfl j)).hyps ho) (by omega) fi29_at fi29_body (lfCons (lpKnown rfl ⟨0, keyKa, lfOkKa_0 (l := lf1) (h := lh1) s (s.all tkb) (by omega) (by assumption) (0, (0 : Int)) (mkIKa s (s.all tkb) 0 (0 : Int) ⟨by omega, by omega, rfl, by omega⟩) rfl (by kernel_rfl) (th0 := [(0, .x 0), (1, .i .i64 (.ofNat 0)), (2, .x 1)]) (sg0 := []) (fun X => thXv (v := St' s) rfl rfl (thCons (show Is _ (.i .i64 (.ofNat 0)) (.int .i64 ((0 : Int))) from isTo (v := .int .i64 0) (isI _ _) (by first | rfl | (congr 1; omega))) (thXv (v := .int .i64 ((s.length : Int))) rfl rfl (thNil)))) (by kernel_rfl) (thx := [(2, .x 0)]) (thXv (v := St' s) rfl rfl (thNil)) (by kernel_rfl)⟩) lfNil)) rfl (get_lps (by omega)) fiB29 (fun e => runTokA_0 e ) (args := [St' s]) (by simp only [RelL, Rel]; exact ⟨_, _, rfl, rfl, rfl⟩) w hl fun x hx => ?_
  simp only [Rel, RelL] at hx
  exact hx
def hyTokA_1 : LK := [(.len (.x 0), .x 1), (.bin .neq (.x 2) (.s 0 0), .b true)]
def lh2 : LH := ⟨7, 7, 7, [], []⟩
def lf2 : LF := ⟨2, 24, [(0, .x 0), (2, .b false), (6, .i .i64 (.ofNat 0)), (5, .x 1)], [], (.exit 0), [(0, .x 2), (2, .b false)], some lh2⟩
noncomputable def tabTokA_1 : Tab := addLps ({ tabk with hyp := hyTokA_1 }) 29 fi29 [lf2]
theorem runTokA_1 (e : Nat) : okA (call tabTokA_1 9000 29 [.x 0] ⟨H0 e , 7, 0, 0⟩) (.b true) = true := by kernel_rfl
def nuTokA_1 (s : LB) : List Value := [St' s, .int .i64 ((s.length : Int)), St' s]
theorem pathTokA_1 (s : LB) (b0 : s.length ≤ 9223372036854775807) (p0 : s.length ≤ 140737488355328) (h0 : s.all tkb = true) (h1 : ¬ ((s.length : Int) = 0)) (w : World) (hl : laidE w) : CwR 29 #[St' s] w (.bool true) := by
  have ho : ∀ k r, (k, r) ∈ hyTokA_1 → HOk (cx (nuL (nuTokA_1 s)) (fun j _ => nuL_one (l := nuTokA_1 s) rfl j) 1 laidE laidE_stab) k r := by
    unfold hyTokA_1
    exact hc (lnV rfl rfl (by omega)) <|
     hc (kNeS (isX rfl) (isSx (l := ([] : LB)) 0 0 rfl) (bnT (nilF (by omega)))) <|
     hnil
  refine runC (tb := tabTokA_1) (ra := .b true) rfl (AllOk.lp1 ((tabkOk (nuL (nuTokA_1 s)) (fun j _ => nuL_one (l := nuTokA_1 s) rfl j)).hyps ho) (by omega) fi29_at fi29_body (lfCons (lpKnown rfl ⟨0, keyKa, lfOkKa_0 (l := lf2) (h := lh2) s (s.all tkb) (by omega) (by assumption) (0, (0 : Int)) (mkIKa s (s.all tkb) 0 (0 : Int) ⟨by omega, by omega, rfl, by omega⟩) rfl (by kernel_rfl) (th0 := [(0, .x 0), (1, .i .i64 (.ofNat 0)), (2, .x 1)]) (sg0 := []) (fun X => thXv (v := St' s) rfl rfl (thCons (show Is _ (.i .i64 (.ofNat 0)) (.int .i64 ((0 : Int))) from isTo (v := .int .i64 0) (isI _ _) (by first | rfl | (congr 1; omega))) (thXv (v := .int .i64 ((s.length : Int))) rfl rfl (thNil)))) (by kernel_rfl) (thx := [(2, .x 0)]) (thXv (v := St' s) rfl rfl (thNil)) (by kernel_rfl)⟩) lfNil)) rfl (get_lps (by omega)) fiB29 (fun e => runTokA_1 e ) (args := [St' s]) (by simp only [RelL, Rel]; exact ⟨_, _, rfl, rfl, rfl⟩) w hl fun x hx => ?_
  simp only [Rel, RelL] at hx
  exact hx
def hyTokA_2 : LK := [(.len (.x 0), .x 1)]
def lh3 : LH := ⟨7, 7, 7, [], []⟩
def lf3 : LF := ⟨2, 24, [(0, .x 0), (2, .b false), (6, .i .i64 (.ofNat 0)), (5, .x 1)], [], .ret, [(2, .b false)], some lh3⟩
noncomputable def tabTokA_2 : Tab := addLps ({ tabk with hyp := hyTokA_2 }) 29 fi29 [lf3]
theorem runTokA_2 (e : Nat) : okA (call tabTokA_2 9000 29 [.x 0] ⟨H0 e , 7, 0, 0⟩) (.b false) = true := by kernel_rfl
def nuTokA_2 (s : LB) : List Value := [St' s, .int .i64 ((s.length : Int))]
theorem pathTokA_2 (s : LB) (b0 : s.length ≤ 9223372036854775807) (p0 : s.length ≤ 140737488355328) (h0 : ¬ (s.all tkb = true)) (w : World) (hl : laidE w) : CwR 29 #[St' s] w (.bool false) := by
  have ho : ∀ k r, (k, r) ∈ hyTokA_2 → HOk (cx (nuL (nuTokA_2 s)) (fun j _ => nuL_one (l := nuTokA_2 s) rfl j) 1 laidE laidE_stab) k r := by
    unfold hyTokA_2
    exact hc (lnV rfl rfl (by omega)) <|
     hnil
  refine runC (tb := tabTokA_2) (ra := .b false) rfl (AllOk.lp1 ((tabkOk (nuL (nuTokA_2 s)) (fun j _ => nuL_one (l := nuTokA_2 s) rfl j)).hyps ho) (by omega) fi29_at fi29_body (lfCons (lpKnown rfl ⟨0, keyKa, lfOkKa_1 (l := lf3) (h := lh3) s (s.all tkb) (by omega) (by simpa using (by assumption : ¬ (s.all tkb = true))) (0, (0 : Int)) (mkIKa s (s.all tkb) 0 (0 : Int) ⟨by omega, by omega, rfl, by omega⟩) rfl (by kernel_rfl) (th0 := [(0, .x 0), (1, .i .i64 (.ofNat 0)), (2, .x 1)]) (sg0 := []) (fun X => thXv (v := St' s) rfl rfl (thCons (show Is _ (.i .i64 (.ofNat 0)) (.int .i64 ((0 : Int))) from isTo (v := .int .i64 0) (isI _ _) (by first | rfl | (congr 1; omega))) (thXv (v := .int .i64 ((s.length : Int))) rfl rfl (thNil)))) (by kernel_rfl) (thx := []) (thNil) (by kernel_rfl)⟩) lfNil)) rfl (get_lps (by omega)) fiB29 (fun e => runTokA_2 e ) (args := [St' s]) (by simp only [RelL, Rel]; exact ⟨_, _, rfl, rfl, rfl⟩) w hl fun x hx => ?_
  simp only [Rel, RelL] at hx
  exact hx
theorem callsTokA (s : LB) (b0 : s.length ≤ 9223372036854775807) (p0 : s.length ≤ 140737488355328) (w : World) (hl : laidE w) : CwR 29 #[St' s] w (.bool (tokS s)) := by
  by_cases h0 : s.all tkb = true
  · by_cases h1 : (s.length : Int) = 0
    · rw [show (.bool (tokS s) : Value) = (.bool false : Value) from by unfold tokS; first | (simp [*]; done) | (congr 1; rw [h0, Bool.true_and]; first | exact decide_eq_false (by omega) | exact decide_eq_true (by omega))]
      exact pathTokA_0 s b0 p0 h0 h1 w hl
    · rw [show (.bool (tokS s) : Value) = (.bool true : Value) from by unfold tokS; first | (simp [*]; done) | (congr 1; rw [h0, Bool.true_and]; first | exact decide_eq_false (by omega) | exact decide_eq_true (by omega))]
      exact pathTokA_1 s b0 p0 h0 h1 w hl
  · rw [show (.bool (tokS s) : Value) = (.bool false : Value) from by unfold tokS; first | (simp [*]; done) | (congr 1; rw [h0, Bool.true_and]; first | exact decide_eq_false (by omega) | exact decide_eq_true (by omega))]
    exact pathTokA_2 s b0 p0 h0 w hl
theorem hokTokA {x0 r : AV} {s : LB} (i0 : Is (cx nu one 1 laidE laidE_stab) x0 (St' s)) (hr : Den (cx nu one 1 laidE laidE_stab) r (.bool (tokS s))) (b0 : s.length ≤ 9223372036854775807) (p0 : s.length ≤ 140737488355328) : HOk (cx nu one 1 laidE laidE_stab) (.call 29 [x0]) r := by
  intro ρ args ha w hl _
  simp only [RelL] at ha
  obtain ⟨v0, t0, rfl, a0, rfl⟩ := ha
  have e0 := i0 ρ _ a0; subst e0
  exact (callsTokA s b0 p0 w hl).mono fun e w' he => ⟨_, he.1, hr ρ, he.2⟩
end Go.Proofs.YtalblkipoopdgaaDoor.startBack
