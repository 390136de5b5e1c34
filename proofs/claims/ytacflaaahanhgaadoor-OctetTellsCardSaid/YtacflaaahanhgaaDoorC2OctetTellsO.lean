/- A part of the proof: an interpreter of the model's own code on partly known states, and that what it answers is what the program answers. No condition of its own. -/
import Derived.Test.YtacflaaahanhgaaDoorSeatC2
import Derived.Test.YtacflaaahanhgaaDoorHXpart4
import Derived.Test.YtacflaaahanhgaaDoorTDx
set_option maxRecDepth 100000
set_option linter.unusedVariables false
set_option linter.unusedSimpArgs false
namespace Go.Proofs.YtacflaaahanhgaaDoor.octetTells
open Go Go.AX Go.Proofs Go.Proofs.YtacflaaahanhgaaDoor
def ascL : List AV := [.b false, .b false, .b false, .b false, .b false, .b false, .b false, .b false, .b false, .b true, .b false, .b false, .b false, .b false, .b false, .b false, .b false, .b false, .b false, .b false, .b false, .b false, .b false, .b false, .b false, .b false, .b false, .b false, .b false, .b false, .b false, .b false, .b true, .b false, .b false, .b false, .b false, .b false, .b false, .b false, .b false, .b false, .b false, .b false, .b false, .b false, .b false, .b false, .b false, .b false, .b false, .b false, .b false, .b false, .b false, .b false, .b false, .b false, .b false, .b false, .b false, .b false, .b false, .b false, .b false, .b false, .b false, .b false, .b false, .b false, .b false, .b false, .b false, .b false, .b false, .b false, .b false, .b false, .b false, .b false, .b false, .b false, .b false, .b false, .b false, .b false, .b false, .b false, .b false, .b false, .b false, .b false, .b false, .b false, .b false, .b false, .b false, .b false, .b false, .b false, .b false, .b false, .b false, .b false, .b false, .b false, .b false, .b false, .b false, .b false, .b false, .b false, .b false, .b false, .b false, .b false, .b false, .b false, .b false, .b false, .b false, .b false, .b false, .b false, .b false, .b false, .b false, .b false, .b false, .b false, .b false, .b false, .b false, .b false, .b false, .b false, .b false, .b false, .b false, .b false, .b false, .b false, .b false, .b false, .b false, .b false, .b false, .b false, .b false, .b false, .b false, .b false, .b false, .b false, .b false, .b false, .b false, .b false, .b false, .b false, .b false, .b false, .b false, .b false, .b false, .b false, .b false, .b false, .b false, .b false, .b false, .b false, .b false, .b false, .b false, .b false, .b false, .b false, .b false, .b false, .b false, .b false, .b false, .b false, .b false, .b false, .b false, .b false, .b false, .b false, .b false, .b false, .b false, .b false, .b false, .b false, .b false, .b false, .b false, .b false, .b false, .b false, .b false, .b false, .b false, .b false, .b false, .b false, .b false, .b false, .b false, .b false, .b false, .b false, .b false, .b false, .b false, .b false, .b false, .b false, .b false, .b false, .b false, .b false, .b false, .b false, .b false, .b false, .b false, .b false, .b false, .b false, .b false, .b false, .b false, .b false, .b false, .b false, .b false, .b false, .b false, .b false, .b false, .b false, .b false, .b false, .b false, .b false, .b false, .b false, .b false, .b false, .b false, .b false, .b false, .b false]
def laidE0 (w : World) : Prop := ∃ e fz, w.heap[0]? = some (.cells ⟨[.iface 152 (.agg #[typeHandle Tryd.prog 26])]⟩ e fz)
theorem laidE0_same {w w' : World} (h : laidE0 w) (hh : w'.heap[0]? = w.heap[0]?) : laidE0 w' := by
  obtain ⟨e, fz, hw⟩ := h
  exact ⟨e, fz, by rw [hh]; exact hw⟩
theorem laidE0_size {w : World} (h : laidE0 w) : 0 < w.heap.size := by
  obtain ⟨e, fz, hw⟩ := h
  rcases Nat.lt_or_ge 0 w.heap.size with h0 | h0
  · exact h0
  · rw [Array.getElem?_eq_none h0] at hw; cases hw
theorem geOf {C : Cx} {w : World} (hP : C.P = Tryd.prog) (h : laidE0 w) : ∃ e, GArr C w 0 e [.ifc 152 (.ag [.h 26])] := by
  obtain ⟨e, fz, h0⟩ := h
  refine ⟨e, _, fz, h0, rfl, fun j a hj => ?_⟩
  match j, hj with
  | 0, hj =>
    simp only [List.getElem?_cons_zero, Option.some.injEq] at hj
    subst hj
    refine ⟨.iface 152 (.agg #[typeHandle Tryd.prog 26]), rfl, ?_, rfl⟩
    simp only [Rel, RelL, hP]
    exact ⟨_, rfl, _, rfl, _, _, rfl, rfl, rfl⟩
  | j + 1, hj => simp at hj
/-- the variables that the runs read are laid -/
def laidE (w : World) : Prop := laidE0 w
theorem laidE_stab : ∀ w w' : World, (∀ k, k < 1 → w'.heap[k]? = w.heap[k]?) → laidE w → laidE w' := fun w w' h hE => laidE0_same hE (h 0 (by omega))
theorem laidE_size {w : World} (h : laidE w) : 1 ≤ w.heap.size := by
  have hE := h
  have := laidE0_size hE
  omega
noncomputable def H0 (e : Nat) : T Ent := T.set .leaf 0 (gBlk e (.l [.ifc 152 (.ag [.h 26])]))
theorem runP {nu : Nat → Value} {one : ∀ i, i < 1000000 → (nu i).oneCell' = true} {tb : Tab} (h : AllOk (cx nu one 1 laidE laidE_stab) tb) (hng : tb.ng = 7) {f g : Nat} {fi : FI} (hfi : tb.fn.get g = some fi) (hb : fi.body.isSome = true) {l : List AV} {args : List Value}
    (hr : ∀ e, okB (call tb f g l ⟨H0 e , 7, 0, 0⟩) = true) (hl : RelL (cx nu one 1 laidE laidE_stab) (fun _ => none) l args) (w : World) (hw : laidE w) :
    Calls Tryd.prog g ⟨args⟩ w fun e w' => e = .returned (.bool true) ∧ Go.AX.Below (Go.AX.Fz.lt w.heap.size) w w' := by
  have hE := id hw
  obtain ⟨e, g0⟩ := geOf (C := cx nu one 1 laidE laidE_stab) rfl hE
  obtain ⟨S, hS⟩ := okB_inv (hr e)
  refine (run_okG h (H := H0 e ) hfi hb (by rw [hng]; exact hS) hl w hw (laidE_size hw) fun v k hv => ?_).mono fun e' w' he => ?_
  · unfold H0 at hv
    rw [get_set _ _ _ _ (by omega)] at hv
    split at hv
    · rename_i e0; subst e0; injection hv with hv; subst hv
      exact ⟨by rw [hng]; omega, e, _, _, rfl, ⟨trivial, rfl⟩, g0⟩
    simp [T.get_leaf] at hv
  · obtain ⟨x, ρ, rfl, hx, hb⟩ := he
    simp only [Rel] at hx
    exact ⟨by rw [hx], hb⟩
theorem runS {nu : Nat → Value} {one : ∀ i, i < 1000000 → (nu i).oneCell' = true} {tb : Tab} (h : AllOk (cx nu one 1 laidE laidE_stab) tb) (hng : tb.ng = 7) {f g : Nat} {fi : FI} (hfi : tb.fn.get g = some fi) (hb : fi.body.isSome = true) {l : List AV} {args : List Value} {len n : Nat}
    (hr : ∀ e, okS (call tb f g l ⟨H0 e , 7, 0, 0⟩) len n = true) (hl : RelL (cx nu one 1 laidE laidE_stab) (fun _ => none) l args) (w : World) (hw : laidE w) :
    Calls Tryd.prog g ⟨args⟩ w fun e w' => e = .returned (St' (strB len n)) ∧ Go.AX.Below (Go.AX.Fz.lt w.heap.size) w w' := by
  have hE := id hw
  obtain ⟨e, g0⟩ := geOf (C := cx nu one 1 laidE laidE_stab) rfl hE
  obtain ⟨S, hS⟩ := okS_inv (hr e)
  refine (run_okG h (H := H0 e ) hfi hb (by rw [hng]; exact hS) hl w hw (laidE_size hw) fun v k hv => ?_).mono fun e' w' he => ?_
  · unfold H0 at hv
    rw [get_set _ _ _ _ (by omega)] at hv
    split at hv
    · rename_i e0; subst e0; injection hv with hv; subst hv
      exact ⟨by rw [hng]; omega, e, _, _, rfl, ⟨trivial, rfl⟩, g0⟩
    simp [T.get_leaf] at hv
  · obtain ⟨x, ρ, rfl, hx, hb⟩ := he
    simp only [Rel] at hx
    exact ⟨by rw [hx.1], hb⟩
theorem runA {nu : Nat → Value} {one : ∀ i, i < 1000000 → (nu i).oneCell' = true} {tb : Tab} (h : AllOk (cx nu one 1 laidE laidE_stab) tb) (hng : tb.ng = 7) {f g : Nat} {fi : FI} (hfi : tb.fn.get g = some fi) (hb : fi.body.isSome = true) {l : List AV} {args : List Value} {ra : AV} (hnr : noR 8 ra = true)
    (hr : ∀ e, okA (call tb f g l ⟨H0 e , 7, 0, 0⟩) ra = true) (hl : RelL (cx nu one 1 laidE laidE_stab) (fun _ => none) l args) (w : World) (hw : laidE w) :
    Calls Tryd.prog g ⟨args⟩ w fun e w' => ∃ x, e = .returned x ∧ Rel (cx nu one 1 laidE laidE_stab) (fun _ => none) ra x ∧ Go.AX.Below (Go.AX.Fz.lt w.heap.size) w w' := by
  have hE := id hw
  obtain ⟨e, g0⟩ := geOf (C := cx nu one 1 laidE laidE_stab) rfl hE
  obtain ⟨S, hS⟩ := okA_inv (hr e)
  refine (run_okG h (H := H0 e ) hfi hb (by rw [hng]; exact hS) hl w hw (laidE_size hw) fun v k hv => ?_).mono fun e' w' he => ?_
  · unfold H0 at hv
    rw [get_set _ _ _ _ (by omega)] at hv
    split at hv
    · rename_i e0; subst e0; injection hv with hv; subst hv
      exact ⟨by rw [hng]; omega, e, _, _, rfl, ⟨trivial, rfl⟩, g0⟩
    simp [T.get_leaf] at hv
  · obtain ⟨x, ρ, rfl, hx, hb⟩ := he
    exact ⟨x, rfl, noR_rel 8 _ hnr _ hx, hb⟩
noncomputable def fk : FI := ⟨Tryd.f13.body, Tryd.f13.ntmps, Tryd.f13.results.toList, 0, none, []⟩
theorem fk_at : tab.fn.get 13 = some fk := by kernel_rfl
theorem fk_body : fk.body.isSome = true := by kernel_rfl
theorem kk (e : Nat) : okB (call tab 6000 13 [] ⟨H0 e , 7, 0, 0⟩) = true := by kernel_rfl
noncomputable def tabk : Tab := addSum tab 13 fk (.b true)
section
variable (nu : Nat → Value) (one : ∀ i, i < 1000000 → (nu i).oneCell' = true)
theorem sumk : SumOk (cx nu one 1 laidE laidE_stab) 13 (.b true) := fun w hi hs => by
  refine (runP (tabOk nu one 1 laidE laidE_stab) rfl fk_at fk_body kk (args := []) (by simp only [RelL]) w hi).mono fun e w' he => ?_
  exact ⟨.bool true, he.1, by simp only [Rel], he.2⟩
theorem tabkOk : AllOk (cx nu one 1 laidE laidE_stab) tabk := (tabOk nu one 1 laidE laidE_stab).sum (by omega) fk_at fk_body (sumk nu one)
end
theorem tu3 : Tryd.prog.underlying 3 = some (.int .i64) := by kernel_rfl
theorem tu5 : Tryd.prog.underlying 5 = some (.int .u8) := by kernel_rfl
noncomputable def tbl (h : LK) : Tab := { tabk with hyp := h }
theorem fiE : ∃ fi, tabk.fn.get 3 = some fi ∧ fi.body.isSome = true := ⟨_, rfl, by kernel_rfl⟩
abbrev CwR (g : Nat) (args : Array Value) (w : World) (v : Value) : Prop := Calls Tryd.prog g args w fun e w' => e = .returned v ∧ Go.AX.Below (Go.AX.Fz.lt w.heap.size) w w'
theorem runC {nu : Nat → Value} {one : ∀ i, i < 1000000 → (nu i).oneCell' = true} {tb : Tab} {ra : AV} {v : Value} (hnr : noR 8 ra = true) (h : AllOk (cx nu one 1 laidE laidE_stab) tb) (hng : tb.ng = 7) {f g : Nat} {fi : FI} (hfi : tb.fn.get g = some fi) (hb : fi.body.isSome = true) {l : List AV} {args : List Value}
    (hr : ∀ e, okA (call tb f g l ⟨H0 e , 7, 0, 0⟩) ra = true) (hl : RelL (cx nu one 1 laidE laidE_stab) (fun _ => none) l args) (w : World) (hw : laidE w) (hv : ∀ x, Rel (cx nu one 1 laidE laidE_stab) (fun _ => none) ra x → x = v) : CwR g ⟨args⟩ w v :=
  (runA h hng hfi hb hnr hr hl w hw).mono fun e w' he => by
    obtain ⟨x, rfl, hx, hb2⟩ := he
    exact ⟨by rw [hv x hx], hb2⟩
variable {nu : Nat → Value} {one : ∀ i, i < 1000000 → (nu i).oneCell' = true} {E' : Cx} {x' : Ex} {e' : LA} {h' : LE}
def MAln : Nat := 10633823810298881996667002598709002240
noncomputable def bfAln (e : Nat) (n : Nat) : Bool := okA (call tabk 9000 61 [.i .u8 (.ofNat n)] ⟨H0 e , 7, 0, 0⟩) (.b (Nat.testBit MAln n))
theorem bfAln_0 (e : Nat) : allN (bfAln e ) 0 64 = true := by kernel_rfl
theorem bfAln_1 (e : Nat) : allN (bfAln e ) 64 64 = true := by kernel_rfl
theorem bfAln_2 (e : Nat) : allN (bfAln e ) 128 64 = true := by kernel_rfl
theorem bfAln_3 (e : Nat) : allN (bfAln e ) 192 64 = true := by kernel_rfl
theorem bfAln_all (e : Nat) (n : Nat) (h : n < 256) : bfAln e n = true := by
  rcases (show n / 64 = 0 ∨ n / 64 = 1 ∨ n / 64 = 2 ∨ n / 64 = 3 by omega) with h | h | h | h
  · exact allN_at (bfAln_0 e ) n (by omega) (by omega)
  · exact allN_at (bfAln_1 e ) n (by omega) (by omega)
  · exact allN_at (bfAln_2 e ) n (by omega) (by omega)
  · exact allN_at (bfAln_3 e ) n (by omega) (by omega)
theorem callsAln (n : Nat) (h : n < 256) (w : World) (hl : laidE w) : CwR 61 #[.int .u8 (n : Int)] w (.bool (tb8 MAln (n : Int))) := by
  refine runC (tb := tabk) rfl (tabkOk (nuL []) (fun j _ => nuL_one (l := []) rfl j)) rfl (fi := fI Tryd.f61 0) rfl (by kernel_rfl) (fun e => bfAln_all e n h) (args := [.int .u8 (n : Int)]) (by simp only [RelL, Rel]; exact ⟨_, _, rfl, rfl, rfl⟩) w hl fun x hx => ?_
  simp only [Rel] at hx
  rw [hx]; rfl
theorem hokAln {x0 r : AV} {c : Int} (i0 : Is (cx nu one 1 laidE laidE_stab) x0 (.int .u8 c)) (b0 : 0 ≤ c) (b1 : c ≤ 255) (hr : Den (cx nu one 1 laidE laidE_stab) r (.bool (tb8 MAln c))) : HOk (cx nu one 1 laidE laidE_stab) (.call 61 [x0]) r := by
  intro ρ args ha w hl _
  simp only [RelL] at ha
  obtain ⟨v0, t0, rfl, a0, rfl⟩ := ha
  have e0 := i0 ρ _ a0; subst e0
  obtain ⟨n, rfl⟩ := Int.eq_ofNat_of_zero_le b0
  exact (callsAln n (by omega) w hl).mono fun e w' he => ⟨_, he.1, hr ρ, he.2⟩
def LIxp : List Int := [(-1), (-1), (-1), (-1), (-1), (-1), (-1), (-1), (-1), (-1), (-1), (-1), (-1), (-1), (-1), (-1), (-1), (-1), (-1), (-1), (-1), (-1), (-1), (-1), (-1), (-1), (-1), (-1), (-1), (-1), (-1), (-1), (-1), (-1), (-1), (-1), (-1), (-1), (-1), (-1), (-1), (-1), (-1), (-1), (-1), 0, 1, 4, (-1), (-1), (-1), (-1), (-1), (-1), (-1), (-1), (-1), (-1), (-1), (-1), (-1), (-1), (-1), (-1), (-1), (-1), (-1), (-1), (-1), (-1), (-1), (-1), (-1), (-1), (-1), (-1), (-1), (-1), (-1), (-1), (-1), (-1), (-1), (-1), (-1), (-1), (-1), (-1), (-1), (-1), (-1), (-1), (-1), (-1), (-1), 2, (-1), (-1), (-1), (-1), (-1), (-1), (-1), (-1), (-1), (-1), (-1), (-1), (-1), (-1), (-1), (-1), (-1), (-1), (-1), (-1), (-1), (-1), (-1), (-1), (-1), (-1), (-1), (-1), (-1), (-1), 3, (-1), (-1), (-1), (-1), (-1), (-1), (-1), (-1), (-1), (-1), (-1), (-1), (-1), (-1), (-1), (-1), (-1), (-1), (-1), (-1), (-1), (-1), (-1), (-1), (-1), (-1), (-1), (-1), (-1), (-1), (-1), (-1), (-1), (-1), (-1), (-1), (-1), (-1), (-1), (-1), (-1), (-1), (-1), (-1), (-1), (-1), (-1), (-1), (-1), (-1), (-1), (-1), (-1), (-1), (-1), (-1), (-1), (-1), (-1), (-1), (-1), (-1), (-1), (-1), (-1), (-1), (-1), (-1), (-1), (-1), (-1), (-1), (-1), (-1), (-1), (-1), (-1), (-1), (-1), (-1), (-1), (-1), (-1), (-1), (-1), (-1), (-1), (-1), (-1), (-1), (-1), (-1), (-1), (-1), (-1), (-1), (-1), (-1), (-1), (-1), (-1), (-1), (-1), (-1), (-1), (-1), (-1), (-1), (-1), (-1), (-1), (-1), (-1), (-1), (-1), (-1), (-1), (-1), (-1), (-1), (-1), (-1), (-1), (-1), (-1), (-1), (-1), (-1), (-1)]
def vIxp (c : Int) : Int := LIxp.getD c.toNat 0
noncomputable def bfIxp (e : Nat) (n : Nat) : Bool := okA (call tabk 9000 62 [.s 5 203983629869, .i .u8 (.ofNat n)] ⟨H0 e , 7, 0, 0⟩) (.i .i64 (LIxp.getD n 0))
theorem bfIxp_0 (e : Nat) : allN (bfIxp e ) 0 64 = true := by kernel_rfl
theorem bfIxp_1 (e : Nat) : allN (bfIxp e ) 64 64 = true := by kernel_rfl
theorem bfIxp_2 (e : Nat) : allN (bfIxp e ) 128 64 = true := by kernel_rfl
theorem bfIxp_3 (e : Nat) : allN (bfIxp e ) 192 64 = true := by kernel_rfl
theorem bfIxp_all (e : Nat) (n : Nat) (h : n < 256) : bfIxp e n = true := by
  rcases (show n / 64 = 0 ∨ n / 64 = 1 ∨ n / 64 = 2 ∨ n / 64 = 3 by omega) with h | h | h | h
  · exact allN_at (bfIxp_0 e ) n (by omega) (by omega)
  · exact allN_at (bfIxp_1 e ) n (by omega) (by omega)
  · exact allN_at (bfIxp_2 e ) n (by omega) (by omega)
  · exact allN_at (bfIxp_3 e ) n (by omega) (by omega)
theorem callsIxp (n : Nat) (h : n < 256) (w : World) (hl : laidE w) : CwR 62 #[St' [u8 45, u8 46, u8 95, u8 126, u8 47], .int .u8 (n : Int)] w (.int .i64 (vIxp (n : Int))) := by
  refine runC (tb := tabk) rfl (tabkOk (nuL []) (fun j _ => nuL_one (l := []) rfl j)) rfl (fi := fI Tryd.f62 0) rfl (by kernel_rfl) (fun e => bfIxp_all e n h) (args := [St' [u8 45, u8 46, u8 95, u8 126, u8 47], .int .u8 (n : Int)]) (by simp only [RelL, Rel]; exact ⟨_, _, rfl, ⟨rfl, by decide⟩, ⟨_, _, rfl, rfl, rfl⟩⟩) w hl fun x hx => ?_
  simp only [Rel] at hx
  rw [hx]; rfl
theorem hokIxp {x0 x1 r : AV} {c : Int} (i0 : Is (cx nu one 1 laidE laidE_stab) x0 (St' [u8 45, u8 46, u8 95, u8 126, u8 47])) (i1 : Is (cx nu one 1 laidE laidE_stab) x1 (.int .u8 c)) (b0 : 0 ≤ c) (b1 : c ≤ 255) (hr : Den (cx nu one 1 laidE laidE_stab) r (.int .i64 (vIxp c))) : HOk (cx nu one 1 laidE laidE_stab) (.call 62 [x0, x1]) r := by
  intro ρ args ha w hl _
  simp only [RelL] at ha
  obtain ⟨v0, t0, rfl, a0, v1, t1, rfl, a1, rfl⟩ := ha
  have e0 := i0 ρ _ a0; subst e0
  have e1 := i1 ρ _ a1; subst e1
  obtain ⟨n, rfl⟩ := Int.eq_ofNat_of_zero_le b0
  exact (callsIxp n (by omega) w hl).mono fun e w' he => ⟨_, he.1, hr ρ, he.2⟩
theorem rIxp {c : Int} (b0 : 0 ≤ c) (b1 : c ≤ 255) : (-1) ≤ vIxp c ∧ vIxp c ≤ 4 := by
  obtain ⟨n, rfl⟩ := Int.eq_ofNat_of_zero_le b0
  have h : ∀ m : Fin 256, (-1) ≤ LIxp.getD m.val 0 ∧ LIxp.getD m.val 0 ≤ 4 := by decide +kernel
  exact h ⟨n, by omega⟩
def LIxt : List Int := [(-1), (-1), (-1), (-1), (-1), (-1), (-1), (-1), (-1), (-1), (-1), (-1), (-1), (-1), (-1), (-1), (-1), (-1), (-1), (-1), (-1), (-1), (-1), (-1), (-1), (-1), (-1), (-1), (-1), (-1), (-1), (-1), (-1), 0, (-1), 1, 2, 3, 4, 5, (-1), (-1), 6, 7, (-1), 8, 9, (-1), (-1), (-1), (-1), (-1), (-1), (-1), (-1), (-1), (-1), (-1), (-1), (-1), (-1), (-1), (-1), (-1), (-1), (-1), (-1), (-1), (-1), (-1), (-1), (-1), (-1), (-1), (-1), (-1), (-1), (-1), (-1), (-1), (-1), (-1), (-1), (-1), (-1), (-1), (-1), (-1), (-1), (-1), (-1), (-1), (-1), (-1), 10, 11, 12, (-1), (-1), (-1), (-1), (-1), (-1), (-1), (-1), (-1), (-1), (-1), (-1), (-1), (-1), (-1), (-1), (-1), (-1), (-1), (-1), (-1), (-1), (-1), (-1), (-1), (-1), (-1), 13, (-1), 14, (-1), (-1), (-1), (-1), (-1), (-1), (-1), (-1), (-1), (-1), (-1), (-1), (-1), (-1), (-1), (-1), (-1), (-1), (-1), (-1), (-1), (-1), (-1), (-1), (-1), (-1), (-1), (-1), (-1), (-1), (-1), (-1), (-1), (-1), (-1), (-1), (-1), (-1), (-1), (-1), (-1), (-1), (-1), (-1), (-1), (-1), (-1), (-1), (-1), (-1), (-1), (-1), (-1), (-1), (-1), (-1), (-1), (-1), (-1), (-1), (-1), (-1), (-1), (-1), (-1), (-1), (-1), (-1), (-1), (-1), (-1), (-1), (-1), (-1), (-1), (-1), (-1), (-1), (-1), (-1), (-1), (-1), (-1), (-1), (-1), (-1), (-1), (-1), (-1), (-1), (-1), (-1), (-1), (-1), (-1), (-1), (-1), (-1), (-1), (-1), (-1), (-1), (-1), (-1), (-1), (-1), (-1), (-1), (-1), (-1), (-1), (-1), (-1), (-1), (-1), (-1), (-1), (-1), (-1), (-1), (-1), (-1), (-1), (-1), (-1), (-1), (-1), (-1), (-1)]
def vIxt (c : Int) : Int := LIxt.getD c.toNat 0
noncomputable def bfIxt (e : Nat) (n : Nat) : Bool := okA (call tabk 9000 62 [.s 15 656752058384775479847414506184778529, .i .u8 (.ofNat n)] ⟨H0 e , 7, 0, 0⟩) (.i .i64 (LIxt.getD n 0))
theorem bfIxt_0 (e : Nat) : allN (bfIxt e ) 0 64 = true := by kernel_rfl
theorem bfIxt_1 (e : Nat) : allN (bfIxt e ) 64 64 = true := by kernel_rfl
theorem bfIxt_2 (e : Nat) : allN (bfIxt e ) 128 64 = true := by kernel_rfl
theorem bfIxt_3 (e : Nat) : allN (bfIxt e ) 192 64 = true := by kernel_rfl
theorem bfIxt_all (e : Nat) (n : Nat) (h : n < 256) : bfIxt e n = true := by
  rcases (show n / 64 = 0 ∨ n / 64 = 1 ∨ n / 64 = 2 ∨ n / 64 = 3 by omega) with h | h | h | h
  · exact allN_at (bfIxt_0 e ) n (by omega) (by omega)
  · exact allN_at (bfIxt_1 e ) n (by omega) (by omega)
  · exact allN_at (bfIxt_2 e ) n (by omega) (by omega)
  · exact allN_at (bfIxt_3 e ) n (by omega) (by omega)
theorem callsIxt (n : Nat) (h : n < 256) (w : World) (hl : laidE w) : CwR 62 #[St' [u8 33, u8 35, u8 36, u8 37, u8 38, u8 39, u8 42, u8 43, u8 45, u8 46, u8 94, u8 95, u8 96, u8 124, u8 126], .int .u8 (n : Int)] w (.int .i64 (vIxt (n : Int))) := by
  refine runC (tb := tabk) rfl (tabkOk (nuL []) (fun j _ => nuL_one (l := []) rfl j)) rfl (fi := fI Tryd.f62 0) rfl (by kernel_rfl) (fun e => bfIxt_all e n h) (args := [St' [u8 33, u8 35, u8 36, u8 37, u8 38, u8 39, u8 42, u8 43, u8 45, u8 46, u8 94, u8 95, u8 96, u8 124, u8 126], .int .u8 (n : Int)]) (by simp only [RelL, Rel]; exact ⟨_, _, rfl, ⟨rfl, by decide⟩, ⟨_, _, rfl, rfl, rfl⟩⟩) w hl fun x hx => ?_
  simp only [Rel] at hx
  rw [hx]; rfl
theorem hokIxt {x0 x1 r : AV} {c : Int} (i0 : Is (cx nu one 1 laidE laidE_stab) x0 (St' [u8 33, u8 35, u8 36, u8 37, u8 38, u8 39, u8 42, u8 43, u8 45, u8 46, u8 94, u8 95, u8 96, u8 124, u8 126])) (i1 : Is (cx nu one 1 laidE laidE_stab) x1 (.int .u8 c)) (b0 : 0 ≤ c) (b1 : c ≤ 255) (hr : Den (cx nu one 1 laidE laidE_stab) r (.int .i64 (vIxt c))) : HOk (cx nu one 1 laidE laidE_stab) (.call 62 [x0, x1]) r := by
  intro ρ args ha w hl _
  simp only [RelL] at ha
  obtain ⟨v0, t0, rfl, a0, v1, t1, rfl, a1, rfl⟩ := ha
  have e0 := i0 ρ _ a0; subst e0
  have e1 := i1 ρ _ a1; subst e1
  obtain ⟨n, rfl⟩ := Int.eq_ofNat_of_zero_le b0
  exact (callsIxt n (by omega) w hl).mono fun e w' he => ⟨_, he.1, hr ρ, he.2⟩
theorem rIxt {c : Int} (b0 : 0 ≤ c) (b1 : c ≤ 255) : (-1) ≤ vIxt c ∧ vIxt c ≤ 14 := by
  obtain ⟨n, rfl⟩ := Int.eq_ofNat_of_zero_le b0
  have h : ∀ m : Fin 256, (-1) ≤ LIxt.getD m.val 0 ∧ LIxt.getD m.val 0 ≤ 14 := by decide +kernel
  exact h ⟨n, by omega⟩
def MLtr : Nat := 10633823810298881996379053697534001152
noncomputable def bfLtr (e : Nat) (n : Nat) : Bool := okA (call tabk 9000 63 [.i .u8 (.ofNat n)] ⟨H0 e , 7, 0, 0⟩) (.b (Nat.testBit MLtr n))
theorem bfLtr_0 (e : Nat) : allN (bfLtr e ) 0 64 = true := by kernel_rfl
theorem bfLtr_1 (e : Nat) : allN (bfLtr e ) 64 64 = true := by kernel_rfl
theorem bfLtr_2 (e : Nat) : allN (bfLtr e ) 128 64 = true := by kernel_rfl
theorem bfLtr_3 (e : Nat) : allN (bfLtr e ) 192 64 = true := by kernel_rfl
theorem bfLtr_all (e : Nat) (n : Nat) (h : n < 256) : bfLtr e n = true := by
  rcases (show n / 64 = 0 ∨ n / 64 = 1 ∨ n / 64 = 2 ∨ n / 64 = 3 by omega) with h | h | h | h
  · exact allN_at (bfLtr_0 e ) n (by omega) (by omega)
  · exact allN_at (bfLtr_1 e ) n (by omega) (by omega)
  · exact allN_at (bfLtr_2 e ) n (by omega) (by omega)
  · exact allN_at (bfLtr_3 e ) n (by omega) (by omega)
theorem callsLtr (n : Nat) (h : n < 256) (w : World) (hl : laidE w) : CwR 63 #[.int .u8 (n : Int)] w (.bool (tb8 MLtr (n : Int))) := by
  refine runC (tb := tabk) rfl (tabkOk (nuL []) (fun j _ => nuL_one (l := []) rfl j)) rfl (fi := fI Tryd.f63 0) rfl (by kernel_rfl) (fun e => bfLtr_all e n h) (args := [.int .u8 (n : Int)]) (by simp only [RelL, Rel]; exact ⟨_, _, rfl, rfl, rfl⟩) w hl fun x hx => ?_
  simp only [Rel] at hx
  rw [hx]; rfl
theorem hokLtr {x0 r : AV} {c : Int} (i0 : Is (cx nu one 1 laidE laidE_stab) x0 (.int .u8 c)) (b0 : 0 ≤ c) (b1 : c ≤ 255) (hr : Den (cx nu one 1 laidE laidE_stab) r (.bool (tb8 MLtr c))) : HOk (cx nu one 1 laidE laidE_stab) (.call 63 [x0]) r := by
  intro ρ args ha w hl _
  simp only [RelL] at ha
  obtain ⟨v0, t0, rfl, a0, rfl⟩ := ha
  have e0 := i0 ρ _ a0; subst e0
  obtain ⟨n, rfl⟩ := Int.eq_ofNat_of_zero_le b0
  exact (callsLtr n (by omega) w hl).mono fun e w' he => ⟨_, he.1, hr ρ, he.2⟩
def MDgr : Nat := 287948901175001088
noncomputable def bfDgr (e : Nat) (n : Nat) : Bool := okA (call tabk 9000 56 [.i .u8 (.ofNat n)] ⟨H0 e , 7, 0, 0⟩) (.b (Nat.testBit MDgr n))
theorem bfDgr_0 (e : Nat) : allN (bfDgr e ) 0 64 = true := by kernel_rfl
theorem bfDgr_1 (e : Nat) : allN (bfDgr e ) 64 64 = true := by kernel_rfl
theorem bfDgr_2 (e : Nat) : allN (bfDgr e ) 128 64 = true := by kernel_rfl
theorem bfDgr_3 (e : Nat) : allN (bfDgr e ) 192 64 = true := by kernel_rfl
theorem bfDgr_all (e : Nat) (n : Nat) (h : n < 256) : bfDgr e n = true := by
  rcases (show n / 64 = 0 ∨ n / 64 = 1 ∨ n / 64 = 2 ∨ n / 64 = 3 by omega) with h | h | h | h
  · exact allN_at (bfDgr_0 e ) n (by omega) (by omega)
  · exact allN_at (bfDgr_1 e ) n (by omega) (by omega)
  · exact allN_at (bfDgr_2 e ) n (by omega) (by omega)
  · exact allN_at (bfDgr_3 e ) n (by omega) (by omega)
theorem callsDgr (n : Nat) (h : n < 256) (w : World) (hl : laidE w) : CwR 56 #[.int .u8 (n : Int)] w (.bool (tb8 MDgr (n : Int))) := by
  refine runC (tb := tabk) rfl (tabkOk (nuL []) (fun j _ => nuL_one (l := []) rfl j)) rfl (fi := fI Tryd.f56 0) rfl (by kernel_rfl) (fun e => bfDgr_all e n h) (args := [.int .u8 (n : Int)]) (by simp only [RelL, Rel]; exact ⟨_, _, rfl, rfl, rfl⟩) w hl fun x hx => ?_
  simp only [Rel] at hx
  rw [hx]; rfl
theorem hokDgr {x0 r : AV} {c : Int} (i0 : Is (cx nu one 1 laidE laidE_stab) x0 (.int .u8 c)) (b0 : 0 ≤ c) (b1 : c ≤ 255) (hr : Den (cx nu one 1 laidE laidE_stab) r (.bool (tb8 MDgr c))) : HOk (cx nu one 1 laidE laidE_stab) (.call 56 [x0]) r := by
  intro ρ args ha w hl _
  simp only [RelL] at ha
  obtain ⟨v0, t0, rfl, a0, rfl⟩ := ha
  have e0 := i0 ρ _ a0; subst e0
  obtain ⟨n, rfl⟩ := Int.eq_ofNat_of_zero_le b0
  exact (callsDgr n (by omega) w hl).mono fun e w' he => ⟨_, he.1, hr ρ, he.2⟩
def MInr : Nat := 106338239722214391718002937838583152640
noncomputable def bfInr (e : Nat) (n : Nat) : Bool := okA (call tabk 9000 64 [.i .u8 (.ofNat n), .s 14 2565437417144901394872482436227873] ⟨H0 e , 7, 0, 0⟩) (.b (Nat.testBit MInr n))
theorem bfInr_0 (e : Nat) : allN (bfInr e ) 0 64 = true := by kernel_rfl
theorem bfInr_1 (e : Nat) : allN (bfInr e ) 64 64 = true := by kernel_rfl
theorem bfInr_2 (e : Nat) : allN (bfInr e ) 128 64 = true := by kernel_rfl
theorem bfInr_3 (e : Nat) : allN (bfInr e ) 192 64 = true := by kernel_rfl
theorem bfInr_all (e : Nat) (n : Nat) (h : n < 256) : bfInr e n = true := by
  rcases (show n / 64 = 0 ∨ n / 64 = 1 ∨ n / 64 = 2 ∨ n / 64 = 3 by omega) with h | h | h | h
  · exact allN_at (bfInr_0 e ) n (by omega) (by omega)
  · exact allN_at (bfInr_1 e ) n (by omega) (by omega)
  · exact allN_at (bfInr_2 e ) n (by omega) (by omega)
  · exact allN_at (bfInr_3 e ) n (by omega) (by omega)
theorem callsInr (n : Nat) (h : n < 256) (w : World) (hl : laidE w) : CwR 64 #[.int .u8 (n : Int), St' [u8 33, u8 35, u8 36, u8 37, u8 38, u8 39, u8 42, u8 43, u8 45, u8 46, u8 94, u8 95, u8 124, u8 126]] w (.bool (tb8 MInr (n : Int))) := by
  refine runC (tb := tabk) rfl (tabkOk (nuL []) (fun j _ => nuL_one (l := []) rfl j)) rfl (fi := fI Tryd.f64 0) rfl (by kernel_rfl) (fun e => bfInr_all e n h) (args := [.int .u8 (n : Int), St' [u8 33, u8 35, u8 36, u8 37, u8 38, u8 39, u8 42, u8 43, u8 45, u8 46, u8 94, u8 95, u8 124, u8 126]]) (by simp only [RelL, Rel]; exact ⟨_, _, rfl, rfl, ⟨_, _, rfl, ⟨rfl, by decide⟩, rfl⟩⟩) w hl fun x hx => ?_
  simp only [Rel] at hx
  rw [hx]; rfl
theorem hokInr {x0 x1 r : AV} {c : Int} (i0 : Is (cx nu one 1 laidE laidE_stab) x0 (.int .u8 c)) (i1 : Is (cx nu one 1 laidE laidE_stab) x1 (St' [u8 33, u8 35, u8 36, u8 37, u8 38, u8 39, u8 42, u8 43, u8 45, u8 46, u8 94, u8 95, u8 124, u8 126])) (b0 : 0 ≤ c) (b1 : c ≤ 255) (hr : Den (cx nu one 1 laidE laidE_stab) r (.bool (tb8 MInr c))) : HOk (cx nu one 1 laidE laidE_stab) (.call 64 [x0, x1]) r := by
  intro ρ args ha w hl _
  simp only [RelL] at ha
  obtain ⟨v0, t0, rfl, a0, v1, t1, rfl, a1, rfl⟩ := ha
  have e0 := i0 ρ _ a0; subst e0
  have e1 := i1 ρ _ a1; subst e1
  obtain ⟨n, rfl⟩ := Int.eq_ofNat_of_zero_le b0
  exact (callsInr n (by omega) w hl).mono fun e w' he => ⟨_, he.1, hr ρ, he.2⟩
def MInp : Nat := 85070591769848697122976066945318649856
noncomputable def bfInp (e : Nat) (n : Nat) : Bool := okA (call tabk 9000 64 [.i .u8 (.ofNat n), .s 5 203983629869] ⟨H0 e , 7, 0, 0⟩) (.b (Nat.testBit MInp n))
theorem bfInp_0 (e : Nat) : allN (bfInp e ) 0 64 = true := by kernel_rfl
theorem bfInp_1 (e : Nat) : allN (bfInp e ) 64 64 = true := by kernel_rfl
theorem bfInp_2 (e : Nat) : allN (bfInp e ) 128 64 = true := by kernel_rfl
theorem bfInp_3 (e : Nat) : allN (bfInp e ) 192 64 = true := by kernel_rfl
theorem bfInp_all (e : Nat) (n : Nat) (h : n < 256) : bfInp e n = true := by
  rcases (show n / 64 = 0 ∨ n / 64 = 1 ∨ n / 64 = 2 ∨ n / 64 = 3 by omega) with h | h | h | h
  · exact allN_at (bfInp_0 e ) n (by omega) (by omega)
  · exact allN_at (bfInp_1 e ) n (by omega) (by omega)
  · exact allN_at (bfInp_2 e ) n (by omega) (by omega)
  · exact allN_at (bfInp_3 e ) n (by omega) (by omega)
theorem callsInp (n : Nat) (h : n < 256) (w : World) (hl : laidE w) : CwR 64 #[.int .u8 (n : Int), St' [u8 45, u8 46, u8 95, u8 126, u8 47]] w (.bool (tb8 MInp (n : Int))) := by
  refine runC (tb := tabk) rfl (tabkOk (nuL []) (fun j _ => nuL_one (l := []) rfl j)) rfl (fi := fI Tryd.f64 0) rfl (by kernel_rfl) (fun e => bfInp_all e n h) (args := [.int .u8 (n : Int), St' [u8 45, u8 46, u8 95, u8 126, u8 47]]) (by simp only [RelL, Rel]; exact ⟨_, _, rfl, rfl, ⟨_, _, rfl, ⟨rfl, by decide⟩, rfl⟩⟩) w hl fun x hx => ?_
  simp only [Rel] at hx
  rw [hx]; rfl
theorem hokInp {x0 x1 r : AV} {c : Int} (i0 : Is (cx nu one 1 laidE laidE_stab) x0 (.int .u8 c)) (i1 : Is (cx nu one 1 laidE laidE_stab) x1 (St' [u8 45, u8 46, u8 95, u8 126, u8 47])) (b0 : 0 ≤ c) (b1 : c ≤ 255) (hr : Den (cx nu one 1 laidE laidE_stab) r (.bool (tb8 MInp c))) : HOk (cx nu one 1 laidE laidE_stab) (.call 64 [x0, x1]) r := by
  intro ρ args ha w hl _
  simp only [RelL] at ha
  obtain ⟨v0, t0, rfl, a0, v1, t1, rfl, a1, rfl⟩ := ha
  have e0 := i0 ρ _ a0; subst e0
  have e1 := i1 ρ _ a1; subst e1
  obtain ⟨n, rfl⟩ := Int.eq_ofNat_of_zero_le b0
  exact (callsInp n (by omega) w hl).mono fun e w' he => ⟨_, he.1, hr ρ, he.2⟩
def LNib : List Int := [(-1), (-1), (-1), (-1), (-1), (-1), (-1), (-1), (-1), (-1), (-1), (-1), (-1), (-1), (-1), (-1), (-1), (-1), (-1), (-1), (-1), (-1), (-1), (-1), (-1), (-1), (-1), (-1), (-1), (-1), (-1), (-1), (-1), (-1), (-1), (-1), (-1), (-1), (-1), (-1), (-1), (-1), (-1), (-1), (-1), (-1), (-1), (-1), 0, 1, 2, 3, 4, 5, 6, 7, 8, 9, (-1), (-1), (-1), (-1), (-1), (-1), (-1), 10, 11, 12, 13, 14, 15, (-1), (-1), (-1), (-1), (-1), (-1), (-1), (-1), (-1), (-1), (-1), (-1), (-1), (-1), (-1), (-1), (-1), (-1), (-1), (-1), (-1), (-1), (-1), (-1), (-1), (-1), 10, 11, 12, 13, 14, 15, (-1), (-1), (-1), (-1), (-1), (-1), (-1), (-1), (-1), (-1), (-1), (-1), (-1), (-1), (-1), (-1), (-1), (-1), (-1), (-1), (-1), (-1), (-1), (-1), (-1), (-1), (-1), (-1), (-1), (-1), (-1), (-1), (-1), (-1), (-1), (-1), (-1), (-1), (-1), (-1), (-1), (-1), (-1), (-1), (-1), (-1), (-1), (-1), (-1), (-1), (-1), (-1), (-1), (-1), (-1), (-1), (-1), (-1), (-1), (-1), (-1), (-1), (-1), (-1), (-1), (-1), (-1), (-1), (-1), (-1), (-1), (-1), (-1), (-1), (-1), (-1), (-1), (-1), (-1), (-1), (-1), (-1), (-1), (-1), (-1), (-1), (-1), (-1), (-1), (-1), (-1), (-1), (-1), (-1), (-1), (-1), (-1), (-1), (-1), (-1), (-1), (-1), (-1), (-1), (-1), (-1), (-1), (-1), (-1), (-1), (-1), (-1), (-1), (-1), (-1), (-1), (-1), (-1), (-1), (-1), (-1), (-1), (-1), (-1), (-1), (-1), (-1), (-1), (-1), (-1), (-1), (-1), (-1), (-1), (-1), (-1), (-1), (-1), (-1), (-1), (-1), (-1), (-1), (-1), (-1), (-1), (-1), (-1), (-1), (-1), (-1), (-1), (-1)]
def vNib (c : Int) : Int := LNib.getD c.toNat 0
noncomputable def bfNib (e : Nat) (n : Nat) : Bool := okA (call tabk 9000 57 [.i .u8 (.ofNat n)] ⟨H0 e , 7, 0, 0⟩) (.i .i64 (LNib.getD n 0))
theorem bfNib_0 (e : Nat) : allN (bfNib e ) 0 64 = true := by kernel_rfl
theorem bfNib_1 (e : Nat) : allN (bfNib e ) 64 64 = true := by kernel_rfl
theorem bfNib_2 (e : Nat) : allN (bfNib e ) 128 64 = true := by kernel_rfl
theorem bfNib_3 (e : Nat) : allN (bfNib e ) 192 64 = true := by kernel_rfl
theorem bfNib_all (e : Nat) (n : Nat) (h : n < 256) : bfNib e n = true := by
  rcases (show n / 64 = 0 ∨ n / 64 = 1 ∨ n / 64 = 2 ∨ n / 64 = 3 by omega) with h | h | h | h
  · exact allN_at (bfNib_0 e ) n (by omega) (by omega)
  · exact allN_at (bfNib_1 e ) n (by omega) (by omega)
  · exact allN_at (bfNib_2 e ) n (by omega) (by omega)
  · exact allN_at (bfNib_3 e ) n (by omega) (by omega)
theorem callsNib (n : Nat) (h : n < 256) (w : World) (hl : laidE w) : CwR 57 #[.int .u8 (n : Int)] w (.int .i64 (vNib (n : Int))) := by
  refine runC (tb := tabk) rfl (tabkOk (nuL []) (fun j _ => nuL_one (l := []) rfl j)) rfl (fi := fI Tryd.f57 0) rfl (by kernel_rfl) (fun e => bfNib_all e n h) (args := [.int .u8 (n : Int)]) (by simp only [RelL, Rel]; exact ⟨_, _, rfl, rfl, rfl⟩) w hl fun x hx => ?_
  simp only [Rel] at hx
  rw [hx]; rfl
theorem hokNib {x0 r : AV} {c : Int} (i0 : Is (cx nu one 1 laidE laidE_stab) x0 (.int .u8 c)) (b0 : 0 ≤ c) (b1 : c ≤ 255) (hr : Den (cx nu one 1 laidE laidE_stab) r (.int .i64 (vNib c))) : HOk (cx nu one 1 laidE laidE_stab) (.call 57 [x0]) r := by
  intro ρ args ha w hl _
  simp only [RelL] at ha
  obtain ⟨v0, t0, rfl, a0, rfl⟩ := ha
  have e0 := i0 ρ _ a0; subst e0
  obtain ⟨n, rfl⟩ := Int.eq_ofNat_of_zero_le b0
  exact (callsNib n (by omega) w hl).mono fun e w' he => ⟨_, he.1, hr ρ, he.2⟩
theorem rNib {c : Int} (b0 : 0 ≤ c) (b1 : c ≤ 255) : (-1) ≤ vNib c ∧ vNib c ≤ 15 := by
  obtain ⟨n, rfl⟩ := Int.eq_ofNat_of_zero_le b0
  have h : ∀ m : Fin 256, (-1) ≤ LNib.getD m.val 0 ∧ LNib.getD m.val 0 ≤ 15 := by decide +kernel
  exact h ⟨n, by omega⟩
def LDgt : List Int := [16, 16, 16, 16, 16, 16, 16, 16, 16, 16, 16, 16, 16, 16, 16, 16, 16, 16, 16, 16, 16, 16, 16, 16, 16, 16, 16, 16, 16, 16, 16, 16, 16, 16, 16, 16, 16, 16, 16, 16, 16, 16, 16, 16, 16, 16, 16, 16, 0, 1, 2, 3, 4, 5, 6, 7, 8, 9, 16, 16, 16, 16, 16, 16, 16, 10, 11, 12, 13, 14, 15, 16, 16, 16, 16, 16, 16, 16, 16, 16, 16, 16, 16, 16, 16, 16, 16, 16, 16, 16, 16, 16, 16, 16, 16, 16, 16, 10, 11, 12, 13, 14, 15, 16, 16, 16, 16, 16, 16, 16, 16, 16, 16, 16, 16, 16, 16, 16, 16, 16, 16, 16, 16, 16, 16, 16, 16, 16, 16, 16, 16, 16, 16, 16, 16, 16, 16, 16, 16, 16, 16, 16, 16, 16, 16, 16, 16, 16, 16, 16, 16, 16, 16, 16, 16, 16, 16, 16, 16, 16, 16, 16, 16, 16, 16, 16, 16, 16, 16, 16, 16, 16, 16, 16, 16, 16, 16, 16, 16, 16, 16, 16, 16, 16, 16, 16, 16, 16, 16, 16, 16, 16, 16, 16, 16, 16, 16, 16, 16, 16, 16, 16, 16, 16, 16, 16, 16, 16, 16, 16, 16, 16, 16, 16, 16, 16, 16, 16, 16, 16, 16, 16, 16, 16, 16, 16, 16, 16, 16, 16, 16, 16, 16, 16, 16, 16, 16, 16, 16, 16, 16, 16, 16, 16, 16, 16, 16, 16, 16, 16, 16, 16, 16, 16, 16, 16]
def vDgt (c : Int) : Int := LDgt.getD c.toNat 0
noncomputable def bfDgt (e : Nat) (n : Nat) : Bool := okA (call tabk 9000 90 [.i .u8 (.ofNat n)] ⟨H0 e , 7, 0, 0⟩) (.i .i64 (LDgt.getD n 0))
theorem bfDgt_0 (e : Nat) : allN (bfDgt e ) 0 64 = true := by kernel_rfl
theorem bfDgt_1 (e : Nat) : allN (bfDgt e ) 64 64 = true := by kernel_rfl
theorem bfDgt_2 (e : Nat) : allN (bfDgt e ) 128 64 = true := by kernel_rfl
theorem bfDgt_3 (e : Nat) : allN (bfDgt e ) 192 64 = true := by kernel_rfl
theorem bfDgt_all (e : Nat) (n : Nat) (h : n < 256) : bfDgt e n = true := by
  rcases (show n / 64 = 0 ∨ n / 64 = 1 ∨ n / 64 = 2 ∨ n / 64 = 3 by omega) with h | h | h | h
  · exact allN_at (bfDgt_0 e ) n (by omega) (by omega)
  · exact allN_at (bfDgt_1 e ) n (by omega) (by omega)
  · exact allN_at (bfDgt_2 e ) n (by omega) (by omega)
  · exact allN_at (bfDgt_3 e ) n (by omega) (by omega)
theorem callsDgt (n : Nat) (h : n < 256) (w : World) (hl : laidE w) : CwR 90 #[.int .u8 (n : Int)] w (.int .i64 (vDgt (n : Int))) := by
  refine runC (tb := tabk) rfl (tabkOk (nuL []) (fun j _ => nuL_one (l := []) rfl j)) rfl (fi := fI Tryd.f90 0) rfl (by kernel_rfl) (fun e => bfDgt_all e n h) (args := [.int .u8 (n : Int)]) (by simp only [RelL, Rel]; exact ⟨_, _, rfl, rfl, rfl⟩) w hl fun x hx => ?_
  simp only [Rel] at hx
  rw [hx]; rfl
theorem hokDgt {x0 r : AV} {c : Int} (i0 : Is (cx nu one 1 laidE laidE_stab) x0 (.int .u8 c)) (b0 : 0 ≤ c) (b1 : c ≤ 255) (hr : Den (cx nu one 1 laidE laidE_stab) r (.int .i64 (vDgt c))) : HOk (cx nu one 1 laidE laidE_stab) (.call 90 [x0]) r := by
  intro ρ args ha w hl _
  simp only [RelL] at ha
  obtain ⟨v0, t0, rfl, a0, rfl⟩ := ha
  have e0 := i0 ρ _ a0; subst e0
  obtain ⟨n, rfl⟩ := Int.eq_ofNat_of_zero_le b0
  exact (callsDgt n (by omega) w hl).mono fun e w' he => ⟨_, he.1, hr ρ, he.2⟩
theorem rDgt {c : Int} (b0 : 0 ≤ c) (b1 : c ≤ 255) : 0 ≤ vDgt c ∧ vDgt c ≤ 16 := by
  obtain ⟨n, rfl⟩ := Int.eq_ofNat_of_zero_le b0
  have h : ∀ m : Fin 256, 0 ≤ LDgt.getD m.val 0 ∧ LDgt.getD m.val 0 ≤ 16 := by decide +kernel
  exact h ⟨n, by omega⟩
end Go.Proofs.YtacflaaahanhgaaDoor.octetTells
