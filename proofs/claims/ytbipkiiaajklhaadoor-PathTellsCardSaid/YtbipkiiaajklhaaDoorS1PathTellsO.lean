/- A part of the proof: an interpreter of the model's own code on partly known states, and that what it answers is what the program answers. No condition of its own. -/
import Derived.Test.YtbipkiiaajklhaaDoorSeatS1
import Derived.Test.YtbipkiiaajklhaaDoorHXpart4
import Derived.Test.YtbipkiiaajklhaaDoorTDx
import Derived.Test.YtbipkiiaajklhaaDoorAXro
import Derived.Test.YtbipkiiaajklhaaDoorHKA
import Derived.Test.YtbipkiiaajklhaaDoorHKN
import Derived.Test.YtbipkiiaajklhaaDoorHKK
import Derived.Test.YtbipkiiaajklhaaDoorHKQ
import Derived.Test.YtbipkiiaajklhaaDoorAXcf
import Derived.Test.YtbipkiiaajklhaaDoorAXcs
import Derived.Test.YtbipkiiaajklhaaDoorPB
import Derived.Shelf.Strings.OnBuilder
import Derived.Shelf.Slices.Equal
set_option maxRecDepth 100000
set_option linter.unusedVariables false
set_option linter.unusedSimpArgs false
namespace Go.Proofs.YtbipkiiaajklhaaDoor.pathTells
open Go Go.AX Go.Proofs Go.Proofs.YtbipkiiaajklhaaDoor
def bY3 (w : World) : Prop := ∃ e fz, w.heap[0]? = some (.cells ⟨[.iface 72 (.agg #[typeHandle Tryd.prog 24])]⟩ e fz)
theorem laidE0_same {w w' : World} (h : bY3 w) (hh : w'.heap[0]? = w.heap[0]?) : bY3 w' := by
  obtain ⟨e, fz, hw⟩ := h
  exact ⟨e, fz, by rw [hh]; exact hw⟩
theorem laidE0_size {w : World} (h : bY3 w) : 0 < w.heap.size := by
  obtain ⟨e, fz, hw⟩ := h
  rcases Nat.lt_or_ge 0 w.heap.size with h0 | h0
  · exact h0
  · rw [Array.getElem?_eq_none h0] at hw; cases hw
theorem geOf {C : Cx} {w : World} (hP : C.P = Tryd.prog) (h : bY3 w) : ∃ e, GArr C w 0 e [.ifc 72 (.ag [.h 24])] := by
  obtain ⟨e, fz, h0⟩ := h
  refine ⟨e, _, fz, h0, rfl, fun j a hj => ?_⟩
  match j, hj with
  | 0, hj =>
    simp only [List.getElem?_cons_zero, Option.some.injEq] at hj
    subst hj
    refine ⟨.iface 72 (.agg #[typeHandle Tryd.prog 24]), rfl, ?_, rfl⟩
    simp only [Rel, RelL, hP]
    exact ⟨_, rfl, _, rfl, _, _, rfl, rfl, rfl⟩
  | j + 1, hj => simp at hj
/-- the variables that the runs read are laid -/
def aA3 (w : World) : Prop := bY3 w
theorem aA0 : ∀ w w' : World, (∀ k, k < 1 → w'.heap[k]? = w.heap[k]?) → aA3 w → aA3 w' := fun w w' h hE => laidE0_same hE (h 0 (by omega))
theorem bF9 {w : World} (h : aA3 w) : 1 ≤ w.heap.size := by
  have hE := h
  have := laidE0_size hE
  omega
noncomputable def H0 (e : Nat) : T Ent := T.set .leaf 0 (gBlk e (.l [.ifc 72 (.ag [.h 24])]))
theorem runP {nu : Nat → Value} {one : ∀ i, i < 1000000 → (nu i).oneCell' = true} {tb : Tab} (h : aB3 (cx nu one 1 aA3 aA0) tb) (hng : tb.ng = 4) {f g : Nat} {fi : FI} (hfi : tb.fn.get g = some fi) (hb : fi.body.isSome = true) {l : List AV} {args : List Value}
    (hr : ∀ e, okB (call tb f g l ⟨H0 e , 4, 0, 0⟩) = true) (hl : RelL (cx nu one 1 aA3 aA0) (fun _ => none) l args) (w : World) (hw : aA3 w) :
    Calls Tryd.prog g ⟨args⟩ w fun e w' => e = .returned (.bool true) ∧ Go.AX.Below (Go.AX.Fz.lt w.heap.size) w w' := by
  have hE := id hw
  obtain ⟨e, g0⟩ := geOf (C := cx nu one 1 aA3 aA0) rfl hE
  obtain ⟨S, hS⟩ := okB_inv (hr e)
  refine (cV2 h (H := H0 e ) hfi hb (by rw [hng]; exact hS) hl w hw (bF9 hw) fun v k hv => ?_).mono fun e' w' he => ?_
  · unfold H0 at hv
    rw [aE3 _ _ _ _ (by omega)] at hv
    split at hv
    · rename_i e0; subst e0; injection hv with hv; subst hv
      exact ⟨by rw [hng]; omega, e, _, _, rfl, ⟨trivial, rfl⟩, g0⟩
    simp [T.aD7] at hv
  · obtain ⟨x, ρ, rfl, hx, hb⟩ := he
    simp only [Rel] at hx
    exact ⟨by rw [hx], hb⟩
theorem runS {nu : Nat → Value} {one : ∀ i, i < 1000000 → (nu i).oneCell' = true} {tb : Tab} (h : aB3 (cx nu one 1 aA3 aA0) tb) (hng : tb.ng = 4) {f g : Nat} {fi : FI} (hfi : tb.fn.get g = some fi) (hb : fi.body.isSome = true) {l : List AV} {args : List Value} {len n : Nat}
    (hr : ∀ e, okS (call tb f g l ⟨H0 e , 4, 0, 0⟩) len n = true) (hl : RelL (cx nu one 1 aA3 aA0) (fun _ => none) l args) (w : World) (hw : aA3 w) :
    Calls Tryd.prog g ⟨args⟩ w fun e w' => e = .returned (St' (strB len n)) ∧ Go.AX.Below (Go.AX.Fz.lt w.heap.size) w w' := by
  have hE := id hw
  obtain ⟨e, g0⟩ := geOf (C := cx nu one 1 aA3 aA0) rfl hE
  obtain ⟨S, hS⟩ := okS_inv (hr e)
  refine (cV2 h (H := H0 e ) hfi hb (by rw [hng]; exact hS) hl w hw (bF9 hw) fun v k hv => ?_).mono fun e' w' he => ?_
  · unfold H0 at hv
    rw [aE3 _ _ _ _ (by omega)] at hv
    split at hv
    · rename_i e0; subst e0; injection hv with hv; subst hv
      exact ⟨by rw [hng]; omega, e, _, _, rfl, ⟨trivial, rfl⟩, g0⟩
    simp [T.aD7] at hv
  · obtain ⟨x, ρ, rfl, hx, hb⟩ := he
    simp only [Rel] at hx
    exact ⟨by rw [hx.1], hb⟩
theorem runA {nu : Nat → Value} {one : ∀ i, i < 1000000 → (nu i).oneCell' = true} {tb : Tab} (h : aB3 (cx nu one 1 aA3 aA0) tb) (hng : tb.ng = 4) {f g : Nat} {fi : FI} (hfi : tb.fn.get g = some fi) (hb : fi.body.isSome = true) {l : List AV} {args : List Value} {ra : AV} (hnr : noR 8 ra = true)
    (hr : ∀ e, okA (call tb f g l ⟨H0 e , 4, 0, 0⟩) ra = true) (hl : RelL (cx nu one 1 aA3 aA0) (fun _ => none) l args) (w : World) (hw : aA3 w) :
    Calls Tryd.prog g ⟨args⟩ w fun e w' => ∃ x, e = .returned x ∧ Rel (cx nu one 1 aA3 aA0) (fun _ => none) ra x ∧ Go.AX.Below (Go.AX.Fz.lt w.heap.size) w w' := by
  have hE := id hw
  obtain ⟨e, g0⟩ := geOf (C := cx nu one 1 aA3 aA0) rfl hE
  obtain ⟨S, hS⟩ := okA_inv (hr e)
  refine (cV2 h (H := H0 e ) hfi hb (by rw [hng]; exact hS) hl w hw (bF9 hw) fun v k hv => ?_).mono fun e' w' he => ?_
  · unfold H0 at hv
    rw [aE3 _ _ _ _ (by omega)] at hv
    split at hv
    · rename_i e0; subst e0; injection hv with hv; subst hv
      exact ⟨by rw [hng]; omega, e, _, _, rfl, ⟨trivial, rfl⟩, g0⟩
    simp [T.aD7] at hv
  · obtain ⟨x, ρ, rfl, hx, hb⟩ := he
    exact ⟨x, rfl, cG3 8 _ hnr _ hx, hb⟩
noncomputable def fk : FI := ⟨Tryd.f4.body, Tryd.f4.ntmps, Tryd.f4.results.toList, 0, none, []⟩
theorem fk_at : tab.fn.get 4 = some fk := by kernel_rfl
theorem eJ7 : fk.body.isSome = true := by kernel_rfl
theorem kk (e : Nat) : okB (call tab 6000 4 [] ⟨H0 e , 4, 0, 0⟩) = true := by kernel_rfl
noncomputable def tabk : Tab := addSum tab 4 fk (.b true)
section
variable (nu : Nat → Value) (one : ∀ i, i < 1000000 → (nu i).oneCell' = true)
theorem sumk : SumOk (cx nu one 1 aA3 aA0) 4 (.b true) := fun w hi hs => by
  refine (runP (tabOk nu one 1 aA3 aA0) rfl fk_at eJ7 kk (args := []) (by simp only [RelL]) w hi).mono fun e w' he => ?_
  exact ⟨.bool true, he.1, by simp only [Rel], he.2⟩
theorem aB0 : aB3 (cx nu one 1 aA3 aA0) tabk := (tabOk nu one 1 aA3 aA0).sum (by omega) fk_at eJ7 (sumk nu one)
end
theorem tu5 : Tryd.prog.underlying 5 = some (.int .u8) := by kernel_rfl
noncomputable def tbl (h : LK) : Tab := { tabk with hyp := h }
theorem fiE : ∃ fi, tabk.fn.get 3 = some fi ∧ fi.body.isSome = true := ⟨_, rfl, by kernel_rfl⟩
abbrev CwR (g : Nat) (args : Array Value) (w : World) (v : Value) : Prop := Calls Tryd.prog g args w fun e w' => e = .returned v ∧ Go.AX.Below (Go.AX.Fz.lt w.heap.size) w w'
theorem runC {nu : Nat → Value} {one : ∀ i, i < 1000000 → (nu i).oneCell' = true} {tb : Tab} {ra : AV} {v : Value} (hnr : noR 8 ra = true) (h : aB3 (cx nu one 1 aA3 aA0) tb) (hng : tb.ng = 4) {f g : Nat} {fi : FI} (hfi : tb.fn.get g = some fi) (hb : fi.body.isSome = true) {l : List AV} {args : List Value}
    (hr : ∀ e, okA (call tb f g l ⟨H0 e , 4, 0, 0⟩) ra = true) (hl : RelL (cx nu one 1 aA3 aA0) (fun _ => none) l args) (w : World) (hw : aA3 w) (hv : ∀ x, Rel (cx nu one 1 aA3 aA0) (fun _ => none) ra x → x = v) : CwR g ⟨args⟩ w v :=
  (runA h hng hfi hb hnr hr hl w hw).mono fun e w' he => by
    obtain ⟨x, rfl, hx, hb2⟩ := he
    exact ⟨by rw [hv x hx], hb2⟩
variable {nu : Nat → Value} {one : ∀ i, i < 1000000 → (nu i).oneCell' = true} {E' : Cx} {x' : Ex} {e' : LA} {h' : LE}
def LDgt : List Int := [16, 16, 16, 16, 16, 16, 16, 16, 16, 16, 16, 16, 16, 16, 16, 16, 16, 16, 16, 16, 16, 16, 16, 16, 16, 16, 16, 16, 16, 16, 16, 16, 16, 16, 16, 16, 16, 16, 16, 16, 16, 16, 16, 16, 16, 16, 16, 16, 0, 1, 2, 3, 4, 5, 6, 7, 8, 9, 16, 16, 16, 16, 16, 16, 16, 10, 11, 12, 13, 14, 15, 16, 16, 16, 16, 16, 16, 16, 16, 16, 16, 16, 16, 16, 16, 16, 16, 16, 16, 16, 16, 16, 16, 16, 16, 16, 16, 10, 11, 12, 13, 14, 15, 16, 16, 16, 16, 16, 16, 16, 16, 16, 16, 16, 16, 16, 16, 16, 16, 16, 16, 16, 16, 16, 16, 16, 16, 16, 16, 16, 16, 16, 16, 16, 16, 16, 16, 16, 16, 16, 16, 16, 16, 16, 16, 16, 16, 16, 16, 16, 16, 16, 16, 16, 16, 16, 16, 16, 16, 16, 16, 16, 16, 16, 16, 16, 16, 16, 16, 16, 16, 16, 16, 16, 16, 16, 16, 16, 16, 16, 16, 16, 16, 16, 16, 16, 16, 16, 16, 16, 16, 16, 16, 16, 16, 16, 16, 16, 16, 16, 16, 16, 16, 16, 16, 16, 16, 16, 16, 16, 16, 16, 16, 16, 16, 16, 16, 16, 16, 16, 16, 16, 16, 16, 16, 16, 16, 16, 16, 16, 16, 16, 16, 16, 16, 16, 16, 16, 16, 16, 16, 16, 16, 16, 16, 16, 16, 16, 16, 16, 16, 16, 16, 16, 16, 16]
def vDgt (c : Int) : Int := LDgt.getD c.toNat 0
noncomputable def eM5 (e : Nat) (n : Nat) : Bool := okA (call tabk 9000 60 [.i .u8 (.ofNat n)] ⟨H0 e , 4, 0, 0⟩) (.i .i64 (LDgt.getD n 0))
theorem bfDgt_0 (e : Nat) : allN (eM5 e ) 0 64 = true := by kernel_rfl
theorem bfDgt_1 (e : Nat) : allN (eM5 e ) 64 64 = true := by kernel_rfl
theorem bfDgt_2 (e : Nat) : allN (eM5 e ) 128 64 = true := by kernel_rfl
theorem bfDgt_3 (e : Nat) : allN (eM5 e ) 192 64 = true := by kernel_rfl
theorem bfDgt_all (e : Nat) (n : Nat) (h : n < 256) : eM5 e n = true := by
  rcases (show n / 64 = 0 ∨ n / 64 = 1 ∨ n / 64 = 2 ∨ n / 64 = 3 by omega) with h | h | h | h
  · exact aO8 (bfDgt_0 e ) n (by omega) (by omega)
  · exact aO8 (bfDgt_1 e ) n (by omega) (by omega)
  · exact aO8 (bfDgt_2 e ) n (by omega) (by omega)
  · exact aO8 (bfDgt_3 e ) n (by omega) (by omega)
theorem callsDgt (n : Nat) (h : n < 256) (w : World) (hl : aA3 w) : CwR 60 #[.int .u8 (n : Int)] w (.int .i64 (vDgt (n : Int))) := by
  refine runC (tb := tabk) rfl (aB0 (nuL []) (fun j _ => aA2 (l := []) rfl j)) rfl (fi := fI Tryd.f60 0) rfl (by kernel_rfl) (fun e => bfDgt_all e n h) (args := [.int .u8 (n : Int)]) (by simp only [RelL, Rel]; exact ⟨_, _, rfl, rfl, rfl⟩) w hl fun x hx => ?_
  simp only [Rel] at hx
  rw [hx]; rfl
theorem aO0 {x0 r : AV} {c : Int} (i0 : Is (cx nu one 1 aA3 aA0) x0 (.int .u8 c)) (b0 : 0 ≤ c) (b1 : c ≤ 255) (hr : Den (cx nu one 1 aA3 aA0) r (.int .i64 (vDgt c))) : HOk (cx nu one 1 aA3 aA0) (.call 60 [x0]) r := by
  intro ρ args ha w hl _
  simp only [RelL] at ha
  obtain ⟨v0, t0, rfl, a0, rfl⟩ := ha
  have e0 := i0 ρ _ a0; subst e0
  obtain ⟨n, rfl⟩ := Int.eq_ofNat_of_zero_le b0
  exact (callsDgt n (by omega) w hl).mono fun e w' he => ⟨_, he.1, hr ρ, he.2⟩
theorem rDgt {c : Int} (b0 : 0 ≤ c) (b1 : c ≤ 255) : 0 ≤ vDgt c ∧ vDgt c ≤ 16 := by
  obtain ⟨n, rfl⟩ := Int.eq_ofNat_of_zero_le b0
  have h : ∀ m : Fin 256, 0 ≤ LDgt.getD m.val 0 ∧ LDgt.getD m.val 0 ≤ 16 := by decide +kernel
  exact h ⟨n, by omega⟩
def unF : Nat → LB → Option (LB)
  | 0, _ => none
  | f + 1, r => if r.length = 0 then some [] else if ¬ (bt r 0 = 37) then (unF f (r.drop 1)).map (u8 (bt r 0) :: ·) else if r.length < 3 then none
    else if vDgt (bt r 1) < 16 ∧ vDgt (bt r 2) < 16 ∧ ¬ (vDgt (bt r 1) * 16 + vDgt (bt r 2) = 0) then (unF f (r.drop 3)).map (u8 ((vDgt (bt r 1) * 16 + vDgt (bt r 2)) % 256) :: ·) else none
def unS (r : LB) : Option (LB) := unF (r.length + 1) r
theorem bL8 : ∀ (f g : Nat) (r : LB), r.length < f → r.length < g → unF f r = unF g r
  | 0, _, _, h, _ => by omega
  | _ + 1, 0, _, _, h => by omega
  | f + 1, g + 1, r, h1, h2 => by
    unfold unF
    by_cases h : r.length = 0
    · rw [if_pos h, if_pos h]
    · rw [if_neg h, if_neg h]
      rw [bL8 f g (r.drop 1) (by rw [List.length_drop]; omega) (by rw [List.length_drop]; omega)]
      by_cases h3 : r.length < 3
      · rw [if_pos h3, if_pos h3]
      · rw [bL8 f g (r.drop 3) (by rw [List.length_drop]; omega) (by rw [List.length_drop]; omega)]
theorem aN7 {r : LB} (h : r.length = 0) : unS r = some [] := by unfold unS unF; rw [if_pos h]
theorem cB4 {r : LB} (h : ¬ r.length = 0) (h1 : ¬ (bt r 0 = 37)) : unS r = (unS (r.drop 1)).map (u8 (bt r 0) :: ·) := by
  unfold unS
  conv => lhs; unfold unF
  rw [if_neg h, if_pos h1, bL8 r.length ((r.drop 1).length + 1) (r.drop 1) (by rw [List.length_drop]; omega) (by omega)]
theorem bA8 {r : LB} (h : ¬ r.length = 0) (h1 : bt r 0 = 37) (h2 : r.length < 3) : unS r = none := by
  unfold unS unF; rw [if_neg h, if_neg (by omega), if_pos h2]
theorem aP0 {r : LB} (h1 : bt r 0 = 37) (h2 : 3 ≤ r.length) (h3 : ¬ (vDgt (bt r 1) < 16 ∧ vDgt (bt r 2) < 16 ∧ ¬ (vDgt (bt r 1) * 16 + vDgt (bt r 2) = 0))) : unS r = none := by
  unfold unS unF; rw [if_neg (by omega), if_neg (by omega), if_neg (by omega), if_neg h3]
theorem dW6 {r : LB} (h1 : bt r 0 = 37) (h2 : 3 ≤ r.length) (h3 : vDgt (bt r 1) < 16 ∧ vDgt (bt r 2) < 16 ∧ ¬ (vDgt (bt r 1) * 16 + vDgt (bt r 2) = 0)) : unS r = (unS (r.drop 3)).map (u8 ((vDgt (bt r 1) * 16 + vDgt (bt r 2)) % 256) :: ·) := by
  unfold unS
  conv => lhs; unfold unF
  rw [if_neg (by omega), if_neg (by omega), if_neg (by omega), if_pos h3, bL8 r.length ((r.drop 3).length + 1) (r.drop 3) (by rw [List.length_drop]; omega) (by omega)]
def mDig : LB := [u8 97, u8 32, u8 112, u8 101, u8 114, u8 99, u8 101, u8 110, u8 116, u8 32, u8 115, u8 105, u8 103, u8 110, u8 32, u8 119, u8 105, u8 116, u8 104, u8 111, u8 117, u8 116, u8 32, u8 116, u8 119, u8 111, u8 32, u8 100, u8 105, u8 103, u8 105, u8 116, u8 115]
def mZer : LB := [u8 97, u8 32, u8 112, u8 101, u8 114, u8 99, u8 101, u8 110, u8 116, u8 32, u8 115, u8 105, u8 103, u8 110, u8 32, u8 116, u8 104, u8 97, u8 116, u8 32, u8 116, u8 101, u8 108, u8 108, u8 115, u8 32, u8 98, u8 121, u8 116, u8 101, u8 32, u8 48]
def umF : Nat → LB → LB
  | 0, _ => []
  | f + 1, r => if r.length = 0 then [] else if ¬ (bt r 0 = 37) then umF f (r.drop 1) else if r.length < 3 then mDig
    else if ¬ (vDgt (bt r 1) < 16 ∧ vDgt (bt r 2) < 16) then mDig else if vDgt (bt r 1) * 16 + vDgt (bt r 2) = 0 then mZer else umF f (r.drop 3)
def unM (r : LB) : LB := umF (r.length + 1) r
theorem bL9 : ∀ (f g : Nat) (r : LB), r.length < f → r.length < g → umF f r = umF g r
  | 0, _, _, h, _ => by omega
  | _ + 1, 0, _, _, h => by omega
  | f + 1, g + 1, r, h1, h2 => by
    unfold umF
    by_cases h : r.length = 0
    · rw [if_pos h, if_pos h]
    · rw [if_neg h, if_neg h]
      rw [bL9 f g (r.drop 1) (by rw [List.length_drop]; omega) (by rw [List.length_drop]; omega)]
      by_cases h3 : r.length < 3
      · rw [if_pos h3, if_pos h3]
      · rw [bL9 f g (r.drop 3) (by rw [List.length_drop]; omega) (by rw [List.length_drop]; omega)]
theorem dK0 {r : LB} (h : ¬ r.length = 0) (h1 : ¬ (bt r 0 = 37)) : unM r = unM (r.drop 1) := by
  unfold unM
  conv => lhs; unfold umF
  rw [if_neg h, if_pos h1, bL9 r.length ((r.drop 1).length + 1) (r.drop 1) (by rw [List.length_drop]; omega) (by omega)]
theorem dJ9 {r : LB} (h : ¬ r.length = 0) (h1 : bt r 0 = 37) (h2 : r.length < 3) : unM r = mDig := by
  unfold unM umF; rw [if_neg h, if_neg (by omega), if_pos h2]
theorem dK1 {r : LB} (h1 : bt r 0 = 37) (h2 : 3 ≤ r.length) (h3 : ¬ (vDgt (bt r 1) < 16 ∧ vDgt (bt r 2) < 16)) : unM r = mDig := by
  unfold unM umF; rw [if_neg (by omega), if_neg (by omega), if_neg (by omega), if_pos h3]
theorem um_zer {r : LB} (h1 : bt r 0 = 37) (h2 : 3 ≤ r.length) (h3 : vDgt (bt r 1) < 16 ∧ vDgt (bt r 2) < 16) (h4 : vDgt (bt r 1) * 16 + vDgt (bt r 2) = 0) : unM r = mZer := by
  unfold unM umF; rw [if_neg (by omega), if_neg (by omega), if_neg (by omega), if_neg (fun h => h h3), if_pos h4]
theorem um_esc {r : LB} (h1 : bt r 0 = 37) (h2 : 3 ≤ r.length) (h3 : vDgt (bt r 1) < 16 ∧ vDgt (bt r 2) < 16) (h4 : ¬ (vDgt (bt r 1) * 16 + vDgt (bt r 2) = 0)) : unM r = unM (r.drop 3) := by
  unfold unM
  conv => lhs; unfold umF
  rw [if_neg (by omega), if_neg (by omega), if_neg (by omega), if_neg (fun h => h h3), if_neg h4, bL9 r.length ((r.drop 3).length + 1) (r.drop 3) (by rw [List.length_drop]; omega) (by omega)]
def unO (b r : LB) : Option (LB) := (unS r).map (b ++ ·)
theorem bB0 {b r t : LB} {c : UInt8} (h : unS r = (unS t).map (c :: ·)) : unO (b ++ [c]) t = unO b r := by
  unfold unO; rw [h]; cases unS t <;> simp
theorem bA9 {r t : LB} {c : UInt8} (h : unS r = (unS t).map (c :: ·)) : unO [c] t = unO [] r := bB0 (b := []) h
theorem aT1 {b r : LB} (h : r.length = 0) : unO b r = some b := by unfold unO; rw [aN7 h]; simp
theorem aC4 {b r : LB} (h : unS r = none) : unO b r = none := by unfold unO; rw [h]; rfl
theorem cU9 : ∀ (f : Nat) (r t : LB), unF f r = some t → t.length ≤ r.length ∧ (¬ r.length = 0 → 1 ≤ t.length)
  | 0, _, _, h => by cases h
  | f + 1, r, t, h => by
    unfold unF at h
    split at h
    · injection h with h; subst h; exact ⟨by simp, fun h => absurd (by assumption) h⟩
    · split at h
      · cases hu : unF f (r.drop 1) with
        | none => rw [hu] at h; cases h
        | some v =>
          rw [hu] at h; injection h with h; subst h
          have := (cU9 f _ _ hu).1
          rw [List.length_drop] at this
          exact ⟨by simp only [List.length_cons]; omega, fun _ => by simp⟩
      · split at h
        · cases h
        · split at h
          · cases hu : unF f (r.drop 3) with
            | none => rw [hu] at h; cases h
            | some v =>
              rw [hu] at h; injection h with h; subst h
              have := (cU9 f _ _ hu).1
              rw [List.length_drop] at this
              exact ⟨by simp only [List.length_cons]; omega, fun _ => by simp⟩
          · cases h
theorem cB5 {r t : LB} (h : unS r = some t) : t.length ≤ r.length ∧ (¬ r.length = 0 → 1 ≤ t.length) := cU9 _ _ _ h
noncomputable def cA1 : Code := aL8 (Tryd.f28.body.getD .skip) 0
theorem keyUn : aK6 (aC0 (Tryd.f28.body.getD .skip)) 2 0 0 = true := by kernel_rfl
def aS1 : List Nat := []
def epUn_0 : LA := [(0, .x 0), (2, .s 0 0), (3, .ni), (4, .p 4 0)]
def hpUn_0 : LE := [(4, bk 56 [.nilp, .nils])]
def aY1 (s T q b : LB) : List Value := [St' q, St' ([] : LB), St' ([] : LB), .int .u8 (bt q 0), St' ([u8 (bt q 0)]), .int .u8 (bt q 0), St' (List.drop (Int.toNat (1)) q), St' ([] : LB), .int .u8 (bt q 0), .int .i64 ((q.length : Int)), St' ([] : LB), .int .u8 (bt q 0), .int .i64 ((q.length : Int)), St' ([u8 (bt q 1), u8 (bt q 2)]), .int .u8 (bt q 1), .int .i64 (vDgt (bt q 1)), St' ([] : LB), .int .u8 (bt q 0), .int .i64 ((q.length : Int)), St' ([u8 (bt q 1), u8 (bt q 2)]), .int .u8 (bt q 1), .int .i64 (vDgt (bt q 1)), .int .i64 ((vDgt (bt q 1))), .int .u8 (bt q 2), .int .i64 (vDgt (bt q 2)), St' ([] : LB), .int .u8 (bt q 0), .int .i64 ((q.length : Int)), St' ([u8 (bt q 1), u8 (bt q 2)]), .int .u8 (bt q 1), .int .i64 (vDgt (bt q 1)), .int .i64 ((vDgt (bt q 1))), .int .u8 (bt q 2), .int .i64 (vDgt (bt q 2)), .int .i64 ((vDgt (bt q 1)) * 16), .int .i64 ((vDgt (bt q 1)) * 16 + (vDgt (bt q 2))), St' ([] : LB), .int .u8 (bt q 0), .int .i64 ((q.length : Int)), St' ([u8 (bt q 1), u8 (bt q 2)]), .int .u8 (bt q 1), .int .i64 (vDgt (bt q 1)), .int .i64 ((vDgt (bt q 1))), .int .u8 (bt q 2), .int .i64 (vDgt (bt q 2)), .int .i64 ((vDgt (bt q 1)) * 16), .int .i64 ((vDgt (bt q 1)) * 16 + (vDgt (bt q 2))), .int .u8 (((vDgt (bt q 1)) * 16 + (vDgt (bt q 2))) % 256), St' ([u8 (((vDgt (bt q 1)) * 16 + (vDgt (bt q 2))) % 256)]), .int .u8 (((vDgt (bt q 1)) * 16 + (vDgt (bt q 2))) % 256), St' (List.drop (Int.toNat (3)) q)]
def cN1 (s T q b : LB) : List Value := []
def bZ6 : LA := [(0, .x 0), (2, .s 0 0), (3, .ni), (4, .p 4 0)]
def bY8 : LE := [(4, bk 56 [.p 4 0, .sy 5]), (5, .t 1 5)]
def aY0 (s T q b : LB) : List Value := [St' q, St' b, St' ([] : LB), St' ([] : LB), .int .u8 (bt q 0), St' (b ++ [u8 (bt q 0)]), St' (List.drop (Int.toNat (1)) q), St' ([] : LB), .int .u8 (bt q 0), .int .i64 ((q.length : Int)), St' ([] : LB), .int .u8 (bt q 0), .int .i64 ((q.length : Int)), St' ([u8 (bt q 1), u8 (bt q 2)]), .int .u8 (bt q 1), .int .i64 (vDgt (bt q 1)), St' ([] : LB), .int .u8 (bt q 0), .int .i64 ((q.length : Int)), St' ([u8 (bt q 1), u8 (bt q 2)]), .int .u8 (bt q 1), .int .i64 (vDgt (bt q 1)), .int .i64 ((vDgt (bt q 1))), .int .u8 (bt q 2), .int .i64 (vDgt (bt q 2)), St' ([] : LB), .int .u8 (bt q 0), .int .i64 ((q.length : Int)), St' ([u8 (bt q 1), u8 (bt q 2)]), .int .u8 (bt q 1), .int .i64 (vDgt (bt q 1)), .int .i64 ((vDgt (bt q 1))), .int .u8 (bt q 2), .int .i64 (vDgt (bt q 2)), .int .i64 ((vDgt (bt q 1)) * 16), .int .i64 ((vDgt (bt q 1)) * 16 + (vDgt (bt q 2))), St' ([] : LB), .int .u8 (bt q 0), .int .i64 ((q.length : Int)), St' ([u8 (bt q 1), u8 (bt q 2)]), .int .u8 (bt q 1), .int .i64 (vDgt (bt q 1)), .int .i64 ((vDgt (bt q 1))), .int .u8 (bt q 2), .int .i64 (vDgt (bt q 2)), .int .i64 ((vDgt (bt q 1)) * 16), .int .i64 ((vDgt (bt q 1)) * 16 + (vDgt (bt q 2))), .int .u8 (((vDgt (bt q 1)) * 16 + (vDgt (bt q 2))) % 256), St' (b ++ [u8 (((vDgt (bt q 1)) * 16 + (vDgt (bt q 2))) % 256)]), St' (List.drop (Int.toNat (3)) q)]
def cN0 (s T q b : LB) : List Value := []
def epUn (st : Nat × LB × LB) : LA := if st.1 = 0 then epUn_0 else bZ6
def hpUn (st : Nat × LB × LB) : LE := if st.1 = 0 then hpUn_0 else bY8
def nuUn (s T : LB) (st : Nat × LB × LB) : List Value := if st.1 = 0 then aY1 s T (st.2.1) (st.2.2) else aY0 s T (st.2.1) (st.2.2)
def roUn (s T : LB) (st : Nat × LB × LB) : List Value := if st.1 = 0 then cN1 s T (st.2.1) (st.2.2) else cN0 s T (st.2.1) (st.2.2)
theorem onUn (s T : LB) (st : Nat × LB × LB) : ∀ j, (nuL (nuUn s T st) j).oneCell' = true := by
  intro j
  unfold nuUn
  by_cases g0 : st.1 = 0
  · rw [if_pos g0]; exact aA2 (l := aY1 s T (st.2.1) (st.2.2)) rfl j
  rw [if_neg g0]
  exact aA2 (l := aY0 s T (st.2.1) (st.2.2)) rfl j
theorem ebUn (st : Nat × LB × LB) : (lfB (epUn st) && lfC aS1) = true := by
  unfold epUn
  by_cases g0 : st.1 = 0
  · rw [if_pos g0]; rfl
  rw [if_neg g0]
  rfl
noncomputable def DUn (s T : LB) (st : Nat × LB × LB) (X : Nat → Value) : Cx := cx (nuX (nuUn s T st) (rX (roUn s T st) X)) (aA4 (onUn s T st)) 1 aA3 aA0
def aS9 (s T : LB) (st : Nat × LB × LB) : Prop := (unO (st.2.2) (st.2.1) = unS s) ∧ (unM (st.2.1) = unM s) ∧ ((st.1) = 0 → (st.2.1) = s ∧ (st.2.2) = []) ∧ ((st.1) = 1 → ¬ s.length = 0) ∧ (((st.2.2).length : Int) + ((st.2.1).length : Int) ≤ 140737488355328) ∧ ((st.1) < 2)
abbrev CjUn (s T : LB) (tag : Nat) (q b : LB) : Prop := (unO b q = unS s) ∧ (unM q = unM s) ∧ (tag = 0 → q = s ∧ b = []) ∧ (tag = 1 → ¬ s.length = 0) ∧ ((b.length : Int) + (q.length : Int) ≤ 140737488355328) ∧ (tag < 2)
theorem cY1 {s T : LB} {tag : Nat} {q b : LB} (h : CjUn s T tag q b) : aS9 s T (tag, q, b) := h
theorem cU8 (s T : LB) (tag : Nat) (q b : LB) (h : aS9 s T (tag, q, b)) : (unO b q = unS s) ∧ (unM q = unM s) ∧ (tag = 0 → q = s ∧ b = []) ∧ (tag = 1 → ¬ s.length = 0) ∧ ((b.length : Int) + (q.length : Int) ≤ 140737488355328) ∧ (tag < 2) := h
def muUn (s T : LB) (st : Nat × LB × LB) : Nat := (st.2.1).length
abbrev RHUn (s T : LB) (E' : Cx) (ex' : Ex) (epx' : LA) (hpx' : LE) (st : Nat × LB × LB) (X : Nat → Value) : Prop := aC3 E' cA1 aS1 26 ex' 4 5 6 35 epUn hpUn epx' hpx' (aS9 s T) (muUn s T) (DUn s T) st X
noncomputable abbrev bE5 (h : LK) (x : Ex) (th : LA) (sg : List (Nat × Nat)) (m : Nat) (ep : LA) (hp : LE) : Bool := aL4 (code (tbl h) 2000 [] cA1 (aH4 (aE4 epUn_0 aS1) 26) ⟨aD1 hpUn_0 .leaf, 6, 0, 0⟩) x aS1 26 35 th sg 5 m ep hp
theorem stUn_0 {s T q b : LB} {X : Nat → Value} {h : LK} (y : Nat × LB × LB) {th : LA} {sg : List (Nat × Nat)} (ho : ∀ a' r', (a', r') ∈ h → HOk (cx (nuX (aY1 s T q b) (rX (cN1 s T q b) X)) (aA4 (aA2 (l := aY1 s T q b) rfl)) 1 aA3 aA0) a' r') (hy : aS9 s T y) (lt : muUn s T y < muUn s T (0, q, b)) (ht : ThOk (cx (nuX (aY1 s T q b) (rX (cN1 s T q b) X)) (aA4 (aA2 (l := aY1 s T q b) rfl)) 1 aA3 aA0) (DUn s T y X) th) (run : bE5 h .normal th sg 6 (epUn y) (hpUn y) = true) : RHUn s T E' x' e' h' (0, q, b) X :=
  aC3.next (tb := tbl h) (L := []) (f := 2000) y ((aB0 _ _).hyps ho) (LpOk.nil _) rfl hy lt ht run
theorem cQ6 {s T q b : LB} {X : Nat → Value} {h : LK} {th : LA} {sg : List (Nat × Nat)} (hne : exB x' .normal = false) (ho : ∀ a' r', (a', r') ∈ h → HOk (cx (nuX (aY1 s T q b) (rX (cN1 s T q b) X)) (aA4 (aA2 (l := aY1 s T q b) rfl)) 1 aA3 aA0) a' r') (ht : ThOk (cx (nuX (aY1 s T q b) (rX (cN1 s T q b) X)) (aA4 (aA2 (l := aY1 s T q b) rfl)) 1 aA3 aA0) E' th) (run : bE5 h x' th sg 35 e' h' = true) : RHUn s T E' x' e' h' (0, q, b) X :=
  aC3.leave (tb := tbl h) (L := []) (f := 2000) ((aB0 _ _).hyps ho) (LpOk.nil _) rfl hne ht run
noncomputable abbrev bE4 (h : LK) (x : Ex) (th : LA) (sg : List (Nat × Nat)) (m : Nat) (ep : LA) (hp : LE) : Bool := aL4 (code (tbl h) 2000 [] cA1 (aH4 (aE4 bZ6 aS1) 26) ⟨aD1 bY8 .leaf, 6, 0, 0⟩) x aS1 26 35 th sg 5 m ep hp
theorem stUn_1 {s T q b : LB} {X : Nat → Value} {h : LK} (y : Nat × LB × LB) {th : LA} {sg : List (Nat × Nat)} (ho : ∀ a' r', (a', r') ∈ h → HOk (cx (nuX (aY0 s T q b) (rX (cN0 s T q b) X)) (aA4 (aA2 (l := aY0 s T q b) rfl)) 1 aA3 aA0) a' r') (hy : aS9 s T y) (lt : muUn s T y < muUn s T (1, q, b)) (ht : ThOk (cx (nuX (aY0 s T q b) (rX (cN0 s T q b) X)) (aA4 (aA2 (l := aY0 s T q b) rfl)) 1 aA3 aA0) (DUn s T y X) th) (run : bE4 h .normal th sg 6 (epUn y) (hpUn y) = true) : RHUn s T E' x' e' h' (1, q, b) X :=
  aC3.next (tb := tbl h) (L := []) (f := 2000) y ((aB0 _ _).hyps ho) (LpOk.nil _) rfl hy lt ht run
theorem cQ5 {s T q b : LB} {X : Nat → Value} {h : LK} {th : LA} {sg : List (Nat × Nat)} (hne : exB x' .normal = false) (ho : ∀ a' r', (a', r') ∈ h → HOk (cx (nuX (aY0 s T q b) (rX (cN0 s T q b) X)) (aA4 (aA2 (l := aY0 s T q b) rfl)) 1 aA3 aA0) a' r') (ht : ThOk (cx (nuX (aY0 s T q b) (rX (cN0 s T q b) X)) (aA4 (aA2 (l := aY0 s T q b) rfl)) 1 aA3 aA0) E' th) (run : bE4 h x' th sg 35 e' h' = true) : RHUn s T E' x' e' h' (1, q, b) X :=
  aC3.leave (tb := tbl h) (L := []) (f := 2000) ((aB0 _ _).hyps ho) (LpOk.nil _) rfl hne ht run
def dA9 : LK := [(.bin .neq (.x 0) (.s 0 0), .b false)]
theorem runUn_p0 : bE5 dA9 (.exit 0) [] [] 35 [(2, .s 0 0), (3, .ni), (4, .p 4 0)] [(4, bk 56 [.nilp, .nils])] = true := by kernel_rfl
def dA8 : LK := [(.bytes [], .x 2), (.bin .neq (.x 0) (.s 0 0), .b true), (.idx (.x 0) (I6 0), .x 3), (.bin .neq (.x 3) (.i .u8 (.ofNat 37)), .b true), (.app (.x 2) [.x 3], .x 4), (.byt (.x 4) (I6 0), .x 5), (.fit (.x 4), .b true), (.sub (.x 0) (some (I6 1)) none, .x 6)]
theorem runUn_p1 : bE5 dA8 .normal [(0, .x 6), (1, .x 4)] [(5, 7)] 6 bZ6 bY8 = true := by kernel_rfl
def dA7 : LK := [(.bin .neq (.x 0) (.s 0 0), .b true), (.idx (.x 0) (I6 0), .x 8), (.bin .neq (.x 8) (.i .u8 (.ofNat 37)), .b false), (.len (.x 0), .x 9), (.bin .lss (.x 9) (I6 3), .b true)]
theorem runUn_p2 : bE5 dA7 .ret [(0, .s 33 13368744785390035796918722136903017317701998366312311048873520557726775689355361)] [] 35 [(2, .s 0 0), (3, .ifc 51 (.ag [I6 10, .x 0]))] [] = true := by kernel_rfl
def dA6 : LK := [(.bin .neq (.x 0) (.s 0 0), .b true), (.idx (.x 0) (I6 0), .x 11), (.bin .neq (.x 11) (.i .u8 (.ofNat 37)), .b false), (.len (.x 0), .x 12), (.bin .lss (.x 12) (I6 3), .b false), (.sub (.x 0) (some (I6 1)) (some (I6 3)), .x 13), (.bin .eql (.x 13) (.s 0 0), .b false), (.len (.x 13), I6 2), (.idx (.x 13) (I6 0), .x 14), (.call 60 [.x 14], .x 15), (.bin .geq (.x 15) (I6 16), .b true)]
theorem runUn_p3 : bE5 dA6 .ret [(0, .s 33 13368744785390035796918722136903017317701998366312311048873520557726775689355361)] [] 35 [(2, .s 0 0), (3, .ifc 51 (.ag [I6 10, .x 0]))] [] = true := by kernel_rfl
def dA5 : LK := [(.bin .neq (.x 0) (.s 0 0), .b true), (.idx (.x 0) (I6 0), .x 17), (.bin .neq (.x 17) (.i .u8 (.ofNat 37)), .b false), (.len (.x 0), .x 18), (.bin .lss (.x 18) (I6 3), .b false), (.sub (.x 0) (some (I6 1)) (some (I6 3)), .x 19), (.bin .eql (.x 19) (.s 0 0), .b false), (.len (.x 19), I6 2), (.idx (.x 19) (I6 0), .x 20), (.call 60 [.x 20], .x 21), (.bin .geq (.x 21) (I6 16), .b false), (.bin .add (I6 0) (.x 21), .x 22), (.idx (.x 19) (I6 1), .x 23), (.call 60 [.x 23], .x 24), (.bin .geq (.x 24) (I6 16), .b true)]
theorem runUn_p4 : bE5 dA5 .ret [(0, .s 33 13368744785390035796918722136903017317701998366312311048873520557726775689355361)] [] 35 [(2, .s 0 0), (3, .ifc 51 (.ag [I6 10, .x 0]))] [] = true := by kernel_rfl
def dA4 : LK := [(.bin .neq (.x 0) (.s 0 0), .b true), (.idx (.x 0) (I6 0), .x 26), (.bin .neq (.x 26) (.i .u8 (.ofNat 37)), .b false), (.len (.x 0), .x 27), (.bin .lss (.x 27) (I6 3), .b false), (.sub (.x 0) (some (I6 1)) (some (I6 3)), .x 28), (.bin .eql (.x 28) (.s 0 0), .b false), (.len (.x 28), I6 2), (.idx (.x 28) (I6 0), .x 29), (.call 60 [.x 29], .x 30), (.bin .geq (.x 30) (I6 16), .b false), (.bin .add (I6 0) (.x 30), .x 31), (.idx (.x 28) (I6 1), .x 32), (.call 60 [.x 32], .x 33), (.bin .geq (.x 33) (I6 16), .b false), (.bin .mul (.x 31) (I6 16), .x 34), (.bin .add (.x 34) (.x 33), .x 35), (.bin .eql (.x 35) (I6 0), .b true)]
theorem runUn_p5 : bE5 dA4 .ret [(0, .s 32 21768256054587688476975411894329487999234560186767463358109307209918322843745)] [] 35 [(2, .s 0 0), (3, .ifc 51 (.ag [I6 10, .x 0]))] [] = true := by kernel_rfl
def dA3 : LK := [(.bytes [], .x 36), (.bin .neq (.x 0) (.s 0 0), .b true), (.idx (.x 0) (I6 0), .x 37), (.bin .neq (.x 37) (.i .u8 (.ofNat 37)), .b false), (.len (.x 0), .x 38), (.bin .lss (.x 38) (I6 3), .b false), (.sub (.x 0) (some (I6 1)) (some (I6 3)), .x 39), (.bin .eql (.x 39) (.s 0 0), .b false), (.len (.x 39), I6 2), (.idx (.x 39) (I6 0), .x 40), (.call 60 [.x 40], .x 41), (.bin .geq (.x 41) (I6 16), .b false), (.bin .add (I6 0) (.x 41), .x 42), (.idx (.x 39) (I6 1), .x 43), (.call 60 [.x 43], .x 44), (.bin .geq (.x 44) (I6 16), .b false), (.bin .mul (.x 42) (I6 16), .x 45), (.bin .add (.x 45) (.x 44), .x 46), (.bin .eql (.x 46) (I6 0), .b false), (.conv 5 (.x 46), .x 47), (.app (.x 36) [.x 47], .x 48), (.byt (.x 48) (I6 0), .x 49), (.fit (.x 48), .b true), (.sub (.x 0) (some (I6 3)) none, .x 50)]
theorem runUn_p6 : bE5 dA3 .normal [(0, .x 50), (1, .x 48)] [(5, 7)] 6 bZ6 bY8 = true := by kernel_rfl
def dA2 : LK := [(.bin .neq (.x 0) (.s 0 0), .b false)]
theorem runUn_p7 : bE4 dA2 (.exit 0) [(0, .x 1)] [(5, 5)] 35 [(2, .s 0 0), (3, .ni), (4, .p 4 0)] [(4, bk 56 [.p 4 0, .sy 5]), (5, .t 0 5)] = true := by kernel_rfl
def dA1 : LK := [(.bin .neq (.x 0) (.s 0 0), .b true), (.idx (.x 0) (I6 0), .x 4), (.bin .neq (.x 4) (.i .u8 (.ofNat 37)), .b true), (.app (.x 1) [.x 4], .x 5), (.fit (.x 5), .b true), (.sub (.x 0) (some (I6 1)) none, .x 6)]
theorem runUn_p8 : bE4 dA1 .normal [(0, .x 6), (1, .x 5)] [(5, 7)] 6 bZ6 bY8 = true := by kernel_rfl
def dA0 : LK := [(.bin .neq (.x 0) (.s 0 0), .b true), (.idx (.x 0) (I6 0), .x 8), (.bin .neq (.x 8) (.i .u8 (.ofNat 37)), .b false), (.len (.x 0), .x 9), (.bin .lss (.x 9) (I6 3), .b true)]
theorem runUn_p9 : bE4 dA0 .ret [(0, .s 33 13368744785390035796918722136903017317701998366312311048873520557726775689355361)] [] 35 [(2, .s 0 0), (3, .ifc 51 (.ag [I6 10, .x 0]))] [] = true := by kernel_rfl
def cI0 : LK := [(.bin .neq (.x 0) (.s 0 0), .b true), (.idx (.x 0) (I6 0), .x 11), (.bin .neq (.x 11) (.i .u8 (.ofNat 37)), .b false), (.len (.x 0), .x 12), (.bin .lss (.x 12) (I6 3), .b false), (.sub (.x 0) (some (I6 1)) (some (I6 3)), .x 13), (.bin .eql (.x 13) (.s 0 0), .b false), (.len (.x 13), I6 2), (.idx (.x 13) (I6 0), .x 14), (.call 60 [.x 14], .x 15), (.bin .geq (.x 15) (I6 16), .b true)]
theorem runUn_p10 : bE4 cI0 .ret [(0, .s 33 13368744785390035796918722136903017317701998366312311048873520557726775689355361)] [] 35 [(2, .s 0 0), (3, .ifc 51 (.ag [I6 10, .x 0]))] [] = true := by kernel_rfl
def cH9 : LK := [(.bin .neq (.x 0) (.s 0 0), .b true), (.idx (.x 0) (I6 0), .x 17), (.bin .neq (.x 17) (.i .u8 (.ofNat 37)), .b false), (.len (.x 0), .x 18), (.bin .lss (.x 18) (I6 3), .b false), (.sub (.x 0) (some (I6 1)) (some (I6 3)), .x 19), (.bin .eql (.x 19) (.s 0 0), .b false), (.len (.x 19), I6 2), (.idx (.x 19) (I6 0), .x 20), (.call 60 [.x 20], .x 21), (.bin .geq (.x 21) (I6 16), .b false), (.bin .add (I6 0) (.x 21), .x 22), (.idx (.x 19) (I6 1), .x 23), (.call 60 [.x 23], .x 24), (.bin .geq (.x 24) (I6 16), .b true)]
theorem runUn_p11 : bE4 cH9 .ret [(0, .s 33 13368744785390035796918722136903017317701998366312311048873520557726775689355361)] [] 35 [(2, .s 0 0), (3, .ifc 51 (.ag [I6 10, .x 0]))] [] = true := by kernel_rfl
def cH8 : LK := [(.bin .neq (.x 0) (.s 0 0), .b true), (.idx (.x 0) (I6 0), .x 26), (.bin .neq (.x 26) (.i .u8 (.ofNat 37)), .b false), (.len (.x 0), .x 27), (.bin .lss (.x 27) (I6 3), .b false), (.sub (.x 0) (some (I6 1)) (some (I6 3)), .x 28), (.bin .eql (.x 28) (.s 0 0), .b false), (.len (.x 28), I6 2), (.idx (.x 28) (I6 0), .x 29), (.call 60 [.x 29], .x 30), (.bin .geq (.x 30) (I6 16), .b false), (.bin .add (I6 0) (.x 30), .x 31), (.idx (.x 28) (I6 1), .x 32), (.call 60 [.x 32], .x 33), (.bin .geq (.x 33) (I6 16), .b false), (.bin .mul (.x 31) (I6 16), .x 34), (.bin .add (.x 34) (.x 33), .x 35), (.bin .eql (.x 35) (I6 0), .b true)]
theorem runUn_p12 : bE4 cH8 .ret [(0, .s 32 21768256054587688476975411894329487999234560186767463358109307209918322843745)] [] 35 [(2, .s 0 0), (3, .ifc 51 (.ag [I6 10, .x 0]))] [] = true := by kernel_rfl
def cH7 : LK := [(.bin .neq (.x 0) (.s 0 0), .b true), (.idx (.x 0) (I6 0), .x 37), (.bin .neq (.x 37) (.i .u8 (.ofNat 37)), .b false), (.len (.x 0), .x 38), (.bin .lss (.x 38) (I6 3), .b false), (.sub (.x 0) (some (I6 1)) (some (I6 3)), .x 39), (.bin .eql (.x 39) (.s 0 0), .b false), (.len (.x 39), I6 2), (.idx (.x 39) (I6 0), .x 40), (.call 60 [.x 40], .x 41), (.bin .geq (.x 41) (I6 16), .b false), (.bin .add (I6 0) (.x 41), .x 42), (.idx (.x 39) (I6 1), .x 43), (.call 60 [.x 43], .x 44), (.bin .geq (.x 44) (I6 16), .b false), (.bin .mul (.x 42) (I6 16), .x 45), (.bin .add (.x 45) (.x 44), .x 46), (.bin .eql (.x 46) (I6 0), .b false), (.conv 5 (.x 46), .x 47), (.app (.x 1) [.x 47], .x 48), (.fit (.x 48), .b true), (.sub (.x 0) (some (I6 3)) none, .x 49)]
theorem runUn_p13 : bE4 cH7 .normal [(0, .x 49), (1, .x 48)] [(5, 7)] 6 bZ6 bY8 = true := by kernel_rfl
section
variable {s T : LB} {q b : LB} {X : Nat → Value}
theorem cW5 (hI : aS9 s T (0, q, b)) (h0 : ¬ ((q.length : Int) = 0)) (h1 : ¬ (bt q 0 = 37)) : RHUn s T E' x' e' h' (0, q, b) X := by
  obtain ⟨i0, i1, i2, i3, i4, it⟩ := cU8 s T 0 q b hI
  have := aB6 q 0; have := aB7 q 0
  have := aH0 (l := q) (P := 1) (by omega) (by omega)
  refine stUn_0 (h := dA8) (1, (List.drop (Int.toNat (1)) q), [u8 (bt q 0)]) ?_ (cY1 ⟨by rw [← i0, (i2 rfl).2]; exact bA9 (cB4 (by omega) (by omega)), by rw [← i1]; exact (dK0 (by omega) (by omega)).symm, fun h => by omega, fun _ => by rw [← (i2 rfl).1]; omega, by simp only [List.length_append, List.length_cons, List.length_nil, List.length_drop]; omega, by omega⟩) (by show (List.drop (Int.toNat (1)) q).length < q.length; rw [List.length_drop]; omega) (thXv (v := St' (List.drop (Int.toNat (1)) q)) rfl rfl (thXv (v := St' ([u8 (bt q 0)])) rfl rfl (aA6))) runUn_p1
  unfold dA8
  exact hc (kB0 rfl) <|hc (kNeS (isX rfl) (isSx (l := ([] : LB)) 0 0 rfl) (bnT (nilF (by omega)))) <|hc (ixC rfl rfl (by omega)) <|hc (necT rfl (by omega)) <|hc (kApp (bs := [u8 (bt q 0)]) (isX rfl) (.cons (isB8 (isX rfl) (by omega) (by omega)) .nil) (denX rfl) (by first | rfl | (simp; done))) <|hc (kByt (i := 0) (isX rfl) (isZ (m := 0) rfl) (denX rfl) rfl (by simp) (aS6 rfl (by omega) (by omega))) <|hc (kFit (isX rfl) (by first | omega | (simp <;> omega))) <|hc (drC rfl rfl (by omega)) <|hnil
theorem cW4 (hI : aS9 s T (0, q, b)) (h0 : ¬ ((q.length : Int) = 0)) (h1 : bt q 0 = 37) (h2 : ¬ ((q.length : Int) < 3)) (h4 : ¬ (16 ≤ vDgt (bt q 1))) (h5 : ¬ (16 ≤ vDgt (bt q 2))) (h6 : ¬ ((vDgt (bt q 1)) * 16 + (vDgt (bt q 2)) = 0)) : RHUn s T E' x' e' h' (0, q, b) X := by
  obtain ⟨i0, i1, i2, i3, i4, it⟩ := cU8 s T 0 q b hI
  have := aB6 q 0; have := aB7 q 0
  have := aB6 q 1; have := aB7 q 1
  have := aB6 q 2; have := aB7 q 2
  have := rDgt (c := bt q 1) (by omega) (by omega)
  have := rDgt (c := bt q 2) (by omega) (by omega)
  have := aH0 (l := q) (P := 3) (by omega) (by omega)
  refine stUn_0 (h := dA3) (1, (List.drop (Int.toNat (3)) q), [u8 (((vDgt (bt q 1)) * 16 + (vDgt (bt q 2))) % 256)]) ?_ (cY1 ⟨by rw [← i0, (i2 rfl).2]; exact bA9 (dW6 (by omega) (by omega) ⟨by omega, by omega, by omega⟩), by rw [← i1]; exact (um_esc (by omega) (by omega) ⟨by omega, by omega⟩ (by omega)).symm, fun h => by omega, fun _ => by rw [← (i2 rfl).1]; omega, by simp only [List.length_append, List.length_cons, List.length_nil, List.length_drop]; omega, by omega⟩) (by show (List.drop (Int.toNat (3)) q).length < q.length; rw [List.length_drop]; omega) (thXv (v := St' (List.drop (Int.toNat (3)) q)) rfl rfl (thXv (v := St' ([u8 (((vDgt (bt q 1)) * 16 + (vDgt (bt q 2))) % 256)])) rfl rfl (aA6))) runUn_p6
  unfold dA3
  exact hc (kB0 rfl) <|hc (kNeS (isX rfl) (isSx (l := ([] : LB)) 0 0 rfl) (bnT (nilF (by omega)))) <|hc (ixC rfl rfl (by omega)) <|hc (necF rfl (by omega)) <|hc (lnV rfl rfl (by omega)) <|hc (ltcF rfl (by omega)) <|hc (kMid (P := 1) (Q := 3) (isX rfl) (.inr ⟨_, _, rfl, (isZ (m := 1) rfl)⟩) (.inr ⟨_, _, rfl, (isZ (m := 3) rfl)⟩) (by omega) (by omega) (by omega) (denX (congrArg (fun l => St' l) (mid2 (i := 1) (by omega) (by omega) (by omega))))) <|hc (kEqS (isX rfl) (isSx (l := ([] : LB)) 0 0 rfl) (nilF (by first | omega | (simp <;> omega)))) <|hc (cG9 (isX rfl) (denZ (m := 2) rfl) rfl) <|hc (aX4 (i := 0) (isX rfl) (isZ (m := 0) rfl) (denX rfl) rfl (by simp) (aS6 rfl (by omega) (by omega))) <|hc (aO0 (isX rfl) (by omega) (by omega) (denX rfl)) <|hc (gecF rfl (by omega)) <|hc (kAdd (isZ (m := 0) rfl) (isX rfl) (denX rfl) (by omega) (fI64 (by omega) (by omega))) <|hc (aX4 (i := 1) (isX rfl) (isZ (m := 1) rfl) (denX rfl) rfl (by simp) (aS6 rfl (by omega) (by omega))) <|hc (aO0 (isX rfl) (by omega) (by omega) (denX rfl)) <|hc (gecF rfl (by omega)) <|hc (kMul (isX rfl) (isZ (m := 16) rfl) (denX rfl) (by omega) (fI64 (by omega) (by omega))) <|hc (adX rfl rfl rfl (by omega)) <|hc (eqcF rfl (by omega)) <|hc (dS0 (isX rfl) tu5 (denX rfl) rfl) <|hc (kApp (bs := [u8 (((vDgt (bt q 1)) * 16 + (vDgt (bt q 2))) % 256)]) (isX rfl) (.cons (isB8 (isX rfl) (by omega) (by omega)) .nil) (denX rfl) (by first | rfl | (simp; done))) <|hc (kByt (i := 0) (isX rfl) (isZ (m := 0) rfl) (denX rfl) rfl (by simp) (aS6 rfl (by omega) (by omega))) <|hc (kFit (isX rfl) (by first | omega | (simp <;> omega))) <|hc (drC rfl rfl (by omega)) <|hnil
theorem cW0 (hI : aS9 s T (1, q, b)) (h0 : ¬ ((q.length : Int) = 0)) (h1 : ¬ (bt q 0 = 37)) : RHUn s T E' x' e' h' (1, q, b) X := by
  obtain ⟨i0, i1, i2, i3, i4, it⟩ := cU8 s T 1 q b hI
  have := aB6 q 0; have := aB7 q 0
  have := aH0 (l := q) (P := 1) (by omega) (by omega)
  refine stUn_1 (h := dA1) (1, (List.drop (Int.toNat (1)) q), (b ++ [u8 (bt q 0)])) ?_ (cY1 ⟨by rw [← i0]; exact bB0 (cB4 (by omega) (by omega)), by rw [← i1]; exact (dK0 (by omega) (by omega)).symm, fun h => by omega, fun _ => i3 rfl, by simp only [List.length_append, List.length_cons, List.length_nil, List.length_drop]; omega, by omega⟩) (by show (List.drop (Int.toNat (1)) q).length < q.length; rw [List.length_drop]; omega) (thXv (v := St' (List.drop (Int.toNat (1)) q)) rfl rfl (thXv (v := St' (b ++ [u8 (bt q 0)])) rfl rfl (aA6))) runUn_p8
  unfold dA1
  exact hc (kNeS (isX rfl) (isSx (l := ([] : LB)) 0 0 rfl) (bnT (nilF (by omega)))) <|hc (ixC rfl rfl (by omega)) <|hc (necT rfl (by omega)) <|hc (kApp (bs := [u8 (bt q 0)]) (isX rfl) (.cons (isB8 (isX rfl) (by omega) (by omega)) .nil) (denX rfl) (by first | rfl | (simp; done))) <|hc (kFit (isX rfl) (by first | omega | (simp <;> omega))) <|hc (drC rfl rfl (by omega)) <|hnil
theorem cC0 (hI : aS9 s T (1, q, b)) (h0 : ¬ ((q.length : Int) = 0)) (h1 : bt q 0 = 37) (h2 : ¬ ((q.length : Int) < 3)) (h4 : ¬ (16 ≤ vDgt (bt q 1))) (h5 : ¬ (16 ≤ vDgt (bt q 2))) (h6 : ¬ ((vDgt (bt q 1)) * 16 + (vDgt (bt q 2)) = 0)) : RHUn s T E' x' e' h' (1, q, b) X := by
  obtain ⟨i0, i1, i2, i3, i4, it⟩ := cU8 s T 1 q b hI
  have := aB6 q 0; have := aB7 q 0
  have := aB6 q 1; have := aB7 q 1
  have := aB6 q 2; have := aB7 q 2
  have := rDgt (c := bt q 1) (by omega) (by omega)
  have := rDgt (c := bt q 2) (by omega) (by omega)
  have := aH0 (l := q) (P := 3) (by omega) (by omega)
  refine stUn_1 (h := cH7) (1, (List.drop (Int.toNat (3)) q), (b ++ [u8 (((vDgt (bt q 1)) * 16 + (vDgt (bt q 2))) % 256)])) ?_ (cY1 ⟨by rw [← i0]; exact bB0 (dW6 (by omega) (by omega) ⟨by omega, by omega, by omega⟩), by rw [← i1]; exact (um_esc (by omega) (by omega) ⟨by omega, by omega⟩ (by omega)).symm, fun h => by omega, fun _ => i3 rfl, by simp only [List.length_append, List.length_cons, List.length_nil, List.length_drop]; omega, by omega⟩) (by show (List.drop (Int.toNat (3)) q).length < q.length; rw [List.length_drop]; omega) (thXv (v := St' (List.drop (Int.toNat (3)) q)) rfl rfl (thXv (v := St' (b ++ [u8 (((vDgt (bt q 1)) * 16 + (vDgt (bt q 2))) % 256)])) rfl rfl (aA6))) runUn_p13
  unfold cH7
  exact hc (kNeS (isX rfl) (isSx (l := ([] : LB)) 0 0 rfl) (bnT (nilF (by omega)))) <|hc (ixC rfl rfl (by omega)) <|hc (necF rfl (by omega)) <|hc (lnV rfl rfl (by omega)) <|hc (ltcF rfl (by omega)) <|hc (kMid (P := 1) (Q := 3) (isX rfl) (.inr ⟨_, _, rfl, (isZ (m := 1) rfl)⟩) (.inr ⟨_, _, rfl, (isZ (m := 3) rfl)⟩) (by omega) (by omega) (by omega) (denX (congrArg (fun l => St' l) (mid2 (i := 1) (by omega) (by omega) (by omega))))) <|hc (kEqS (isX rfl) (isSx (l := ([] : LB)) 0 0 rfl) (nilF (by first | omega | (simp <;> omega)))) <|hc (cG9 (isX rfl) (denZ (m := 2) rfl) rfl) <|hc (aX4 (i := 0) (isX rfl) (isZ (m := 0) rfl) (denX rfl) rfl (by simp) (aS6 rfl (by omega) (by omega))) <|hc (aO0 (isX rfl) (by omega) (by omega) (denX rfl)) <|hc (gecF rfl (by omega)) <|hc (kAdd (isZ (m := 0) rfl) (isX rfl) (denX rfl) (by omega) (fI64 (by omega) (by omega))) <|hc (aX4 (i := 1) (isX rfl) (isZ (m := 1) rfl) (denX rfl) rfl (by simp) (aS6 rfl (by omega) (by omega))) <|hc (aO0 (isX rfl) (by omega) (by omega) (denX rfl)) <|hc (gecF rfl (by omega)) <|hc (kMul (isX rfl) (isZ (m := 16) rfl) (denX rfl) (by omega) (fI64 (by omega) (by omega))) <|hc (adX rfl rfl rfl (by omega)) <|hc (eqcF rfl (by omega)) <|hc (dS0 (isX rfl) tu5 (denX rfl) rfl) <|hc (kApp (bs := [u8 (((vDgt (bt q 1)) * 16 + (vDgt (bt q 2))) % 256)]) (isX rfl) (.cons (isB8 (isX rfl) (by omega) (by omega)) .nil) (denX rfl) (by first | rfl | (simp; done))) <|hc (kFit (isX rfl) (by first | omega | (simp <;> omega))) <|hc (drC rfl rfl (by omega)) <|hnil
end
def eF6 (s T : LB) : List Value := []
def roEUn_0 (s T : LB) : List Value := []
noncomputable def EUn_0 (s T : LB) : Cx := cx (nuX (eF6 s T) (rX (roEUn_0 s T) (fun _ => .bool true))) (aA4 (aA2 (l := eF6 s T) rfl)) 1 aA3 aA0
theorem roundsUn_0 (s T : LB) (x0 : s.length = 0) (st : Nat × LB × LB) (X : Nat → Value) (hI : aS9 s T st) : RHUn s T (EUn_0 s T) (.exit 0) [(2, .s 0 0), (3, .ni), (4, .p 4 0)] [(4, bk 56 [.nilp, .nils])] st X := by
  obtain ⟨tag, q, b⟩ := st
  have hI0 := hI
  obtain ⟨i0, i1, i2, i3, i4, it⟩ := cU8 s T tag q b hI
  rcases (show tag = 0 ∨ tag = 1 from by omega) with rfl | rfl
  · skip
    by_cases h0 : (q.length : Int) = 0
    · skip
      refine cQ6 (h := dA9) rfl ?_ (aA6) runUn_p0
      unfold dA9
      exact hc (kNeS (isX rfl) (isSx (l := ([] : LB)) 0 0 rfl) (bnF (nilT (by omega)))) <|hnil
    · by_cases h1 : bt q 0 = 37
      · by_cases h2 : (q.length : Int) < 3
        · exfalso; rw [aC4 (bA8 (by omega) (by omega) (by omega)), aN7 x0] at i0; cases i0
        · by_cases h4 : 16 ≤ vDgt (bt q 1)
          · exfalso; rw [aC4 (aP0 (by omega) (by omega) (fun h => by have := h.1; have := h.2.1; omega)), aN7 x0] at i0; cases i0
          · by_cases h5 : 16 ≤ vDgt (bt q 2)
            · exfalso; rw [aC4 (aP0 (by omega) (by omega) (fun h => by have := h.1; have := h.2.1; omega)), aN7 x0] at i0; cases i0
            · by_cases h6 : (vDgt (bt q 1)) * 16 + (vDgt (bt q 2)) = 0
              · exfalso; rw [aC4 (aP0 (by omega) (by omega) (fun h => h.2.2 (by omega))), aN7 x0] at i0; cases i0
              · exact cW4 hI0 h0 h1 h2 h4 h5 h6
      · exact cW5 hI0 h0 h1
  · skip
    by_cases h0 : (q.length : Int) = 0
    · exfalso; have h := i3 rfl; omega
    · by_cases h1 : bt q 0 = 37
      · by_cases h2 : (q.length : Int) < 3
        · exfalso; rw [aC4 (bA8 (by omega) (by omega) (by omega)), aN7 x0] at i0; cases i0
        · by_cases h4 : 16 ≤ vDgt (bt q 1)
          · exfalso; rw [aC4 (aP0 (by omega) (by omega) (fun h => by have := h.1; have := h.2.1; omega)), aN7 x0] at i0; cases i0
          · by_cases h5 : 16 ≤ vDgt (bt q 2)
            · exfalso; rw [aC4 (aP0 (by omega) (by omega) (fun h => by have := h.1; have := h.2.1; omega)), aN7 x0] at i0; cases i0
            · by_cases h6 : (vDgt (bt q 1)) * 16 + (vDgt (bt q 2)) = 0
              · exfalso; rw [aC4 (aP0 (by omega) (by omega) (fun h => h.2.2 (by omega))), aN7 x0] at i0; cases i0
              · exact cC0 hI0 h0 h1 h2 h4 h5 h6
      · exact cW0 hI0 h0 h1
theorem lfOkUn_0 {l : LF} {h : LH} (s T : LB) (x0 : s.length = 0) (st : Nat × LB × LB) (hI : aS9 s T st) (hl : l.hp = some h) (hs : aF3 l h 26 aS1 (.exit 0) 4 5 35 = true) {th0 : LA} {sg0 : List (Nat × Nat)} (hth0 : ∀ X, ThOk (cx nu one 1 aA3 aA0) (DUn s T st X) th0) (h0 : aD9 l h 26 5 6 th0 sg0 (epUn st) (hpUn st) = true) {thx : LA} (hthx : ThOk (EUn_0 s T) (cx nu one 1 aA3 aA0) thx) (hx : aF5 l h 26 5 35 thx [(2, .s 0 0), (3, .ni), (4, .p 4 0)] [(4, bk 56 [.nilp, .nils])] = true) : LfOk (cx nu one 1 aA3 aA0) cA1 l :=
  aL5 (E := EUn_0 s T) (aS9 s T) (muUn s T) (DUn s T) (fun _ _ => rfl) (fun _ _ => rfl) (fun _ _ => rfl) (fun st X t ht => aD3.trans (aE2 ((by decide : ∀ t, t ∈ aS1 → t < 1000000) t ht))) rfl rfl rfl hl hs ebUn rfl rfl st hI hth0 h0 hthx hx (roundsUn_0 s T x0)
def eF5 (s T : LB) : List Value := [St' T]
def roEUn_1 (s T : LB) : List Value := []
noncomputable def EUn_1 (s T : LB) : Cx := cx (nuX (eF5 s T) (rX (roEUn_1 s T) (fun _ => .bool true))) (aA4 (aA2 (l := eF5 s T) rfl)) 1 aA3 aA0
theorem roundsUn_1 (s T : LB) (x0 : ¬ s.length = 0) (x1 : unS s = some T) (st : Nat × LB × LB) (X : Nat → Value) (hI : aS9 s T st) : RHUn s T (EUn_1 s T) (.exit 0) [(2, .s 0 0), (3, .ni), (4, .p 4 0)] [(4, bk 56 [.p 4 0, .sy 5]), (5, .t 0 5)] st X := by
  obtain ⟨tag, q, b⟩ := st
  have hI0 := hI
  obtain ⟨i0, i1, i2, i3, i4, it⟩ := cU8 s T tag q b hI
  rcases (show tag = 0 ∨ tag = 1 from by omega) with rfl | rfl
  · skip
    by_cases h0 : (q.length : Int) = 0
    · exfalso; have h := (i2 rfl).1; rw [← h] at x0; omega
    · by_cases h1 : bt q 0 = 37
      · by_cases h2 : (q.length : Int) < 3
        · exfalso; rw [aC4 (bA8 (by omega) (by omega) (by omega)), x1] at i0; cases i0
        · by_cases h4 : 16 ≤ vDgt (bt q 1)
          · exfalso; rw [aC4 (aP0 (by omega) (by omega) (fun h => by have := h.1; have := h.2.1; omega)), x1] at i0; cases i0
          · by_cases h5 : 16 ≤ vDgt (bt q 2)
            · exfalso; rw [aC4 (aP0 (by omega) (by omega) (fun h => by have := h.1; have := h.2.1; omega)), x1] at i0; cases i0
            · by_cases h6 : (vDgt (bt q 1)) * 16 + (vDgt (bt q 2)) = 0
              · exfalso; rw [aC4 (aP0 (by omega) (by omega) (fun h => h.2.2 (by omega))), x1] at i0; cases i0
              · exact cW4 hI0 h0 h1 h2 h4 h5 h6
      · exact cW5 hI0 h0 h1
  · skip
    by_cases h0 : (q.length : Int) = 0
    · skip
      refine cQ5 (h := dA2) rfl ?_ (thXe (v := St' b) (u := St' T) rfl rfl (congrArg (fun l => St' l) (by have h := i0; rw [aT1 (by omega), x1] at h; injection h)) (aA6)) runUn_p7
      unfold dA2
      exact hc (kNeS (isX rfl) (isSx (l := ([] : LB)) 0 0 rfl) (bnF (nilT (by omega)))) <|hnil
    · by_cases h1 : bt q 0 = 37
      · by_cases h2 : (q.length : Int) < 3
        · exfalso; rw [aC4 (bA8 (by omega) (by omega) (by omega)), x1] at i0; cases i0
        · by_cases h4 : 16 ≤ vDgt (bt q 1)
          · exfalso; rw [aC4 (aP0 (by omega) (by omega) (fun h => by have := h.1; have := h.2.1; omega)), x1] at i0; cases i0
          · by_cases h5 : 16 ≤ vDgt (bt q 2)
            · exfalso; rw [aC4 (aP0 (by omega) (by omega) (fun h => by have := h.1; have := h.2.1; omega)), x1] at i0; cases i0
            · by_cases h6 : (vDgt (bt q 1)) * 16 + (vDgt (bt q 2)) = 0
              · exfalso; rw [aC4 (aP0 (by omega) (by omega) (fun h => h.2.2 (by omega))), x1] at i0; cases i0
              · exact cC0 hI0 h0 h1 h2 h4 h5 h6
      · exact cW0 hI0 h0 h1
theorem lfOkUn_1 {l : LF} {h : LH} (s T : LB) (x0 : ¬ s.length = 0) (x1 : unS s = some T) (st : Nat × LB × LB) (hI : aS9 s T st) (hl : l.hp = some h) (hs : aF3 l h 26 aS1 (.exit 0) 4 5 35 = true) {th0 : LA} {sg0 : List (Nat × Nat)} (hth0 : ∀ X, ThOk (cx nu one 1 aA3 aA0) (DUn s T st X) th0) (h0 : aD9 l h 26 5 6 th0 sg0 (epUn st) (hpUn st) = true) {thx : LA} (hthx : ThOk (EUn_1 s T) (cx nu one 1 aA3 aA0) thx) (hx : aF5 l h 26 5 35 thx [(2, .s 0 0), (3, .ni), (4, .p 4 0)] [(4, bk 56 [.p 4 0, .sy 5]), (5, .t 0 5)] = true) : LfOk (cx nu one 1 aA3 aA0) cA1 l :=
  aL5 (E := EUn_1 s T) (aS9 s T) (muUn s T) (DUn s T) (fun _ _ => rfl) (fun _ _ => rfl) (fun _ _ => rfl) (fun st X t ht => aD3.trans (aE2 ((by decide : ∀ t, t ∈ aS1 → t < 1000000) t ht))) rfl rfl rfl hl hs ebUn rfl rfl st hI hth0 h0 hthx hx (roundsUn_1 s T x0 x1)
def eF4 (s T : LB) : List Value := [St' T]
def roEUn_2 (s T : LB) : List Value := []
noncomputable def EUn_2 (s T : LB) : Cx := cx (nuX (eF4 s T) (rX (roEUn_2 s T) (fun _ => .bool true))) (aA4 (aA2 (l := eF4 s T) rfl)) 1 aA3 aA0
theorem roundsUn_2 (s T : LB) (x0 : unS s = none) (x1 : unM s = T) (st : Nat × LB × LB) (X : Nat → Value) (hI : aS9 s T st) : RHUn s T (EUn_2 s T) .ret [(2, .s 0 0), (3, .ifc 51 (.ag [I6 10, .x 0]))] [] st X := by
  obtain ⟨tag, q, b⟩ := st
  have hI0 := hI
  obtain ⟨i0, i1, i2, i3, i4, it⟩ := cU8 s T tag q b hI
  rcases (show tag = 0 ∨ tag = 1 from by omega) with rfl | rfl
  · skip
    by_cases h0 : (q.length : Int) = 0
    · exfalso; rw [aT1 (by omega), x0] at i0; cases i0
    · by_cases h1 : bt q 0 = 37
      · by_cases h2 : (q.length : Int) < 3
        · skip
          have := aB6 q 0; have := aB7 q 0
          refine cQ6 (h := dA7) rfl ?_ (aC2 (show Is _ (.s 33 13368744785390035796918722136903017317701998366312311048873520557726775689355361) (St' T) from isTo (v := St' ([u8 97, u8 32, u8 112, u8 101, u8 114, u8 99, u8 101, u8 110, u8 116, u8 32, u8 115, u8 105, u8 103, u8 110, u8 32, u8 119, u8 105, u8 116, u8 104, u8 111, u8 117, u8 116, u8 32, u8 116, u8 119, u8 111, u8 32, u8 100, u8 105, u8 103, u8 105, u8 116, u8 115])) (isSx (l := [u8 97, u8 32, u8 112, u8 101, u8 114, u8 99, u8 101, u8 110, u8 116, u8 32, u8 115, u8 105, u8 103, u8 110, u8 32, u8 119, u8 105, u8 116, u8 104, u8 111, u8 117, u8 116, u8 32, u8 116, u8 119, u8 111, u8 32, u8 100, u8 105, u8 103, u8 105, u8 116, u8 115]) 33 13368744785390035796918722136903017317701998366312311048873520557726775689355361 rfl) (congrArg (fun l => St' l) (by rw [← x1, ← i1, dJ9 (by omega) (by omega) (by omega)]; rfl))) (aA6)) runUn_p2
          unfold dA7
          exact hc (kNeS (isX rfl) (isSx (l := ([] : LB)) 0 0 rfl) (bnT (nilF (by omega)))) <|hc (ixC rfl rfl (by omega)) <|hc (necF rfl (by omega)) <|hc (lnV rfl rfl (by omega)) <|hc (ltcT rfl (by omega)) <|hnil
        · by_cases h4 : 16 ≤ vDgt (bt q 1)
          · skip
            have := aB6 q 0; have := aB7 q 0
            have := aB6 q 1; have := aB7 q 1
            have := aB6 q 2; have := aB7 q 2
            have := rDgt (c := bt q 1) (by omega) (by omega)
            refine cQ6 (h := dA6) rfl ?_ (aC2 (show Is _ (.s 33 13368744785390035796918722136903017317701998366312311048873520557726775689355361) (St' T) from isTo (v := St' ([u8 97, u8 32, u8 112, u8 101, u8 114, u8 99, u8 101, u8 110, u8 116, u8 32, u8 115, u8 105, u8 103, u8 110, u8 32, u8 119, u8 105, u8 116, u8 104, u8 111, u8 117, u8 116, u8 32, u8 116, u8 119, u8 111, u8 32, u8 100, u8 105, u8 103, u8 105, u8 116, u8 115])) (isSx (l := [u8 97, u8 32, u8 112, u8 101, u8 114, u8 99, u8 101, u8 110, u8 116, u8 32, u8 115, u8 105, u8 103, u8 110, u8 32, u8 119, u8 105, u8 116, u8 104, u8 111, u8 117, u8 116, u8 32, u8 116, u8 119, u8 111, u8 32, u8 100, u8 105, u8 103, u8 105, u8 116, u8 115]) 33 13368744785390035796918722136903017317701998366312311048873520557726775689355361 rfl) (congrArg (fun l => St' l) (by rw [← x1, ← i1, dK1 (by omega) (by omega) (fun h => by have := h.1; have := h.2; omega)]; rfl))) (aA6)) runUn_p3
            unfold dA6
            exact hc (kNeS (isX rfl) (isSx (l := ([] : LB)) 0 0 rfl) (bnT (nilF (by omega)))) <|hc (ixC rfl rfl (by omega)) <|hc (necF rfl (by omega)) <|hc (lnV rfl rfl (by omega)) <|hc (ltcF rfl (by omega)) <|hc (kMid (P := 1) (Q := 3) (isX rfl) (.inr ⟨_, _, rfl, (isZ (m := 1) rfl)⟩) (.inr ⟨_, _, rfl, (isZ (m := 3) rfl)⟩) (by omega) (by omega) (by omega) (denX (congrArg (fun l => St' l) (mid2 (i := 1) (by omega) (by omega) (by omega))))) <|hc (kEqS (isX rfl) (isSx (l := ([] : LB)) 0 0 rfl) (nilF (by first | omega | (simp <;> omega)))) <|hc (cG9 (isX rfl) (denZ (m := 2) rfl) rfl) <|hc (aX4 (i := 0) (isX rfl) (isZ (m := 0) rfl) (denX rfl) rfl (by simp) (aS6 rfl (by omega) (by omega))) <|hc (aO0 (isX rfl) (by omega) (by omega) (denX rfl)) <|hc (gecT rfl (by omega)) <|hnil
          · by_cases h5 : 16 ≤ vDgt (bt q 2)
            · skip
              have := aB6 q 0; have := aB7 q 0
              have := aB6 q 1; have := aB7 q 1
              have := aB6 q 2; have := aB7 q 2
              have := rDgt (c := bt q 1) (by omega) (by omega)
              have := rDgt (c := bt q 2) (by omega) (by omega)
              refine cQ6 (h := dA5) rfl ?_ (aC2 (show Is _ (.s 33 13368744785390035796918722136903017317701998366312311048873520557726775689355361) (St' T) from isTo (v := St' ([u8 97, u8 32, u8 112, u8 101, u8 114, u8 99, u8 101, u8 110, u8 116, u8 32, u8 115, u8 105, u8 103, u8 110, u8 32, u8 119, u8 105, u8 116, u8 104, u8 111, u8 117, u8 116, u8 32, u8 116, u8 119, u8 111, u8 32, u8 100, u8 105, u8 103, u8 105, u8 116, u8 115])) (isSx (l := [u8 97, u8 32, u8 112, u8 101, u8 114, u8 99, u8 101, u8 110, u8 116, u8 32, u8 115, u8 105, u8 103, u8 110, u8 32, u8 119, u8 105, u8 116, u8 104, u8 111, u8 117, u8 116, u8 32, u8 116, u8 119, u8 111, u8 32, u8 100, u8 105, u8 103, u8 105, u8 116, u8 115]) 33 13368744785390035796918722136903017317701998366312311048873520557726775689355361 rfl) (congrArg (fun l => St' l) (by rw [← x1, ← i1, dK1 (by omega) (by omega) (fun h => by have := h.1; have := h.2; omega)]; rfl))) (aA6)) runUn_p4
              unfold dA5
              exact hc (kNeS (isX rfl) (isSx (l := ([] : LB)) 0 0 rfl) (bnT (nilF (by omega)))) <|hc (ixC rfl rfl (by omega)) <|hc (necF rfl (by omega)) <|hc (lnV rfl rfl (by omega)) <|hc (ltcF rfl (by omega)) <|hc (kMid (P := 1) (Q := 3) (isX rfl) (.inr ⟨_, _, rfl, (isZ (m := 1) rfl)⟩) (.inr ⟨_, _, rfl, (isZ (m := 3) rfl)⟩) (by omega) (by omega) (by omega) (denX (congrArg (fun l => St' l) (mid2 (i := 1) (by omega) (by omega) (by omega))))) <|hc (kEqS (isX rfl) (isSx (l := ([] : LB)) 0 0 rfl) (nilF (by first | omega | (simp <;> omega)))) <|hc (cG9 (isX rfl) (denZ (m := 2) rfl) rfl) <|hc (aX4 (i := 0) (isX rfl) (isZ (m := 0) rfl) (denX rfl) rfl (by simp) (aS6 rfl (by omega) (by omega))) <|hc (aO0 (isX rfl) (by omega) (by omega) (denX rfl)) <|hc (gecF rfl (by omega)) <|hc (kAdd (isZ (m := 0) rfl) (isX rfl) (denX rfl) (by omega) (fI64 (by omega) (by omega))) <|hc (aX4 (i := 1) (isX rfl) (isZ (m := 1) rfl) (denX rfl) rfl (by simp) (aS6 rfl (by omega) (by omega))) <|hc (aO0 (isX rfl) (by omega) (by omega) (denX rfl)) <|hc (gecT rfl (by omega)) <|hnil
            · by_cases h6 : (vDgt (bt q 1)) * 16 + (vDgt (bt q 2)) = 0
              · skip
                have := aB6 q 0; have := aB7 q 0
                have := aB6 q 1; have := aB7 q 1
                have := aB6 q 2; have := aB7 q 2
                have := rDgt (c := bt q 1) (by omega) (by omega)
                have := rDgt (c := bt q 2) (by omega) (by omega)
                refine cQ6 (h := dA4) rfl ?_ (aC2 (show Is _ (.s 32 21768256054587688476975411894329487999234560186767463358109307209918322843745) (St' T) from isTo (v := St' ([u8 97, u8 32, u8 112, u8 101, u8 114, u8 99, u8 101, u8 110, u8 116, u8 32, u8 115, u8 105, u8 103, u8 110, u8 32, u8 116, u8 104, u8 97, u8 116, u8 32, u8 116, u8 101, u8 108, u8 108, u8 115, u8 32, u8 98, u8 121, u8 116, u8 101, u8 32, u8 48])) (isSx (l := [u8 97, u8 32, u8 112, u8 101, u8 114, u8 99, u8 101, u8 110, u8 116, u8 32, u8 115, u8 105, u8 103, u8 110, u8 32, u8 116, u8 104, u8 97, u8 116, u8 32, u8 116, u8 101, u8 108, u8 108, u8 115, u8 32, u8 98, u8 121, u8 116, u8 101, u8 32, u8 48]) 32 21768256054587688476975411894329487999234560186767463358109307209918322843745 rfl) (congrArg (fun l => St' l) (by rw [← x1, ← i1, um_zer (by omega) (by omega) ⟨by omega, by omega⟩ (by omega)]; rfl))) (aA6)) runUn_p5
                unfold dA4
                exact hc (kNeS (isX rfl) (isSx (l := ([] : LB)) 0 0 rfl) (bnT (nilF (by omega)))) <|hc (ixC rfl rfl (by omega)) <|hc (necF rfl (by omega)) <|hc (lnV rfl rfl (by omega)) <|hc (ltcF rfl (by omega)) <|hc (kMid (P := 1) (Q := 3) (isX rfl) (.inr ⟨_, _, rfl, (isZ (m := 1) rfl)⟩) (.inr ⟨_, _, rfl, (isZ (m := 3) rfl)⟩) (by omega) (by omega) (by omega) (denX (congrArg (fun l => St' l) (mid2 (i := 1) (by omega) (by omega) (by omega))))) <|hc (kEqS (isX rfl) (isSx (l := ([] : LB)) 0 0 rfl) (nilF (by first | omega | (simp <;> omega)))) <|hc (cG9 (isX rfl) (denZ (m := 2) rfl) rfl) <|hc (aX4 (i := 0) (isX rfl) (isZ (m := 0) rfl) (denX rfl) rfl (by simp) (aS6 rfl (by omega) (by omega))) <|hc (aO0 (isX rfl) (by omega) (by omega) (denX rfl)) <|hc (gecF rfl (by omega)) <|hc (kAdd (isZ (m := 0) rfl) (isX rfl) (denX rfl) (by omega) (fI64 (by omega) (by omega))) <|hc (aX4 (i := 1) (isX rfl) (isZ (m := 1) rfl) (denX rfl) rfl (by simp) (aS6 rfl (by omega) (by omega))) <|hc (aO0 (isX rfl) (by omega) (by omega) (denX rfl)) <|hc (gecF rfl (by omega)) <|hc (kMul (isX rfl) (isZ (m := 16) rfl) (denX rfl) (by omega) (fI64 (by omega) (by omega))) <|hc (adX rfl rfl rfl (by omega)) <|hc (eqcT rfl (by omega)) <|hnil
              · exact cW4 hI0 h0 h1 h2 h4 h5 h6
      · exact cW5 hI0 h0 h1
  · skip
    by_cases h0 : (q.length : Int) = 0
    · exfalso; rw [aT1 (by omega), x0] at i0; cases i0
    · by_cases h1 : bt q 0 = 37
      · by_cases h2 : (q.length : Int) < 3
        · skip
          have := aB6 q 0; have := aB7 q 0
          refine cQ5 (h := dA0) rfl ?_ (aC2 (show Is _ (.s 33 13368744785390035796918722136903017317701998366312311048873520557726775689355361) (St' T) from isTo (v := St' ([u8 97, u8 32, u8 112, u8 101, u8 114, u8 99, u8 101, u8 110, u8 116, u8 32, u8 115, u8 105, u8 103, u8 110, u8 32, u8 119, u8 105, u8 116, u8 104, u8 111, u8 117, u8 116, u8 32, u8 116, u8 119, u8 111, u8 32, u8 100, u8 105, u8 103, u8 105, u8 116, u8 115])) (isSx (l := [u8 97, u8 32, u8 112, u8 101, u8 114, u8 99, u8 101, u8 110, u8 116, u8 32, u8 115, u8 105, u8 103, u8 110, u8 32, u8 119, u8 105, u8 116, u8 104, u8 111, u8 117, u8 116, u8 32, u8 116, u8 119, u8 111, u8 32, u8 100, u8 105, u8 103, u8 105, u8 116, u8 115]) 33 13368744785390035796918722136903017317701998366312311048873520557726775689355361 rfl) (congrArg (fun l => St' l) (by rw [← x1, ← i1, dJ9 (by omega) (by omega) (by omega)]; rfl))) (aA6)) runUn_p9
          unfold dA0
          exact hc (kNeS (isX rfl) (isSx (l := ([] : LB)) 0 0 rfl) (bnT (nilF (by omega)))) <|hc (ixC rfl rfl (by omega)) <|hc (necF rfl (by omega)) <|hc (lnV rfl rfl (by omega)) <|hc (ltcT rfl (by omega)) <|hnil
        · by_cases h4 : 16 ≤ vDgt (bt q 1)
          · skip
            have := aB6 q 0; have := aB7 q 0
            have := aB6 q 1; have := aB7 q 1
            have := aB6 q 2; have := aB7 q 2
            have := rDgt (c := bt q 1) (by omega) (by omega)
            refine cQ5 (h := cI0) rfl ?_ (aC2 (show Is _ (.s 33 13368744785390035796918722136903017317701998366312311048873520557726775689355361) (St' T) from isTo (v := St' ([u8 97, u8 32, u8 112, u8 101, u8 114, u8 99, u8 101, u8 110, u8 116, u8 32, u8 115, u8 105, u8 103, u8 110, u8 32, u8 119, u8 105, u8 116, u8 104, u8 111, u8 117, u8 116, u8 32, u8 116, u8 119, u8 111, u8 32, u8 100, u8 105, u8 103, u8 105, u8 116, u8 115])) (isSx (l := [u8 97, u8 32, u8 112, u8 101, u8 114, u8 99, u8 101, u8 110, u8 116, u8 32, u8 115, u8 105, u8 103, u8 110, u8 32, u8 119, u8 105, u8 116, u8 104, u8 111, u8 117, u8 116, u8 32, u8 116, u8 119, u8 111, u8 32, u8 100, u8 105, u8 103, u8 105, u8 116, u8 115]) 33 13368744785390035796918722136903017317701998366312311048873520557726775689355361 rfl) (congrArg (fun l => St' l) (by rw [← x1, ← i1, dK1 (by omega) (by omega) (fun h => by have := h.1; have := h.2; omega)]; rfl))) (aA6)) runUn_p10
            unfold cI0
            exact hc (kNeS (isX rfl) (isSx (l := ([] : LB)) 0 0 rfl) (bnT (nilF (by omega)))) <|hc (ixC rfl rfl (by omega)) <|hc (necF rfl (by omega)) <|hc (lnV rfl rfl (by omega)) <|hc (ltcF rfl (by omega)) <|hc (kMid (P := 1) (Q := 3) (isX rfl) (.inr ⟨_, _, rfl, (isZ (m := 1) rfl)⟩) (.inr ⟨_, _, rfl, (isZ (m := 3) rfl)⟩) (by omega) (by omega) (by omega) (denX (congrArg (fun l => St' l) (mid2 (i := 1) (by omega) (by omega) (by omega))))) <|hc (kEqS (isX rfl) (isSx (l := ([] : LB)) 0 0 rfl) (nilF (by first | omega | (simp <;> omega)))) <|hc (cG9 (isX rfl) (denZ (m := 2) rfl) rfl) <|hc (aX4 (i := 0) (isX rfl) (isZ (m := 0) rfl) (denX rfl) rfl (by simp) (aS6 rfl (by omega) (by omega))) <|hc (aO0 (isX rfl) (by omega) (by omega) (denX rfl)) <|hc (gecT rfl (by omega)) <|hnil
          · by_cases h5 : 16 ≤ vDgt (bt q 2)
            · skip
              have := aB6 q 0; have := aB7 q 0
              have := aB6 q 1; have := aB7 q 1
              have := aB6 q 2; have := aB7 q 2
              have := rDgt (c := bt q 1) (by omega) (by omega)
              have := rDgt (c := bt q 2) (by omega) (by omega)
              refine cQ5 (h := cH9) rfl ?_ (aC2 (show Is _ (.s 33 13368744785390035796918722136903017317701998366312311048873520557726775689355361) (St' T) from isTo (v := St' ([u8 97, u8 32, u8 112, u8 101, u8 114, u8 99, u8 101, u8 110, u8 116, u8 32, u8 115, u8 105, u8 103, u8 110, u8 32, u8 119, u8 105, u8 116, u8 104, u8 111, u8 117, u8 116, u8 32, u8 116, u8 119, u8 111, u8 32, u8 100, u8 105, u8 103, u8 105, u8 116, u8 115])) (isSx (l := [u8 97, u8 32, u8 112, u8 101, u8 114, u8 99, u8 101, u8 110, u8 116, u8 32, u8 115, u8 105, u8 103, u8 110, u8 32, u8 119, u8 105, u8 116, u8 104, u8 111, u8 117, u8 116, u8 32, u8 116, u8 119, u8 111, u8 32, u8 100, u8 105, u8 103, u8 105, u8 116, u8 115]) 33 13368744785390035796918722136903017317701998366312311048873520557726775689355361 rfl) (congrArg (fun l => St' l) (by rw [← x1, ← i1, dK1 (by omega) (by omega) (fun h => by have := h.1; have := h.2; omega)]; rfl))) (aA6)) runUn_p11
              unfold cH9
              exact hc (kNeS (isX rfl) (isSx (l := ([] : LB)) 0 0 rfl) (bnT (nilF (by omega)))) <|hc (ixC rfl rfl (by omega)) <|hc (necF rfl (by omega)) <|hc (lnV rfl rfl (by omega)) <|hc (ltcF rfl (by omega)) <|hc (kMid (P := 1) (Q := 3) (isX rfl) (.inr ⟨_, _, rfl, (isZ (m := 1) rfl)⟩) (.inr ⟨_, _, rfl, (isZ (m := 3) rfl)⟩) (by omega) (by omega) (by omega) (denX (congrArg (fun l => St' l) (mid2 (i := 1) (by omega) (by omega) (by omega))))) <|hc (kEqS (isX rfl) (isSx (l := ([] : LB)) 0 0 rfl) (nilF (by first | omega | (simp <;> omega)))) <|hc (cG9 (isX rfl) (denZ (m := 2) rfl) rfl) <|hc (aX4 (i := 0) (isX rfl) (isZ (m := 0) rfl) (denX rfl) rfl (by simp) (aS6 rfl (by omega) (by omega))) <|hc (aO0 (isX rfl) (by omega) (by omega) (denX rfl)) <|hc (gecF rfl (by omega)) <|hc (kAdd (isZ (m := 0) rfl) (isX rfl) (denX rfl) (by omega) (fI64 (by omega) (by omega))) <|hc (aX4 (i := 1) (isX rfl) (isZ (m := 1) rfl) (denX rfl) rfl (by simp) (aS6 rfl (by omega) (by omega))) <|hc (aO0 (isX rfl) (by omega) (by omega) (denX rfl)) <|hc (gecT rfl (by omega)) <|hnil
            · by_cases h6 : (vDgt (bt q 1)) * 16 + (vDgt (bt q 2)) = 0
              · skip
                have := aB6 q 0; have := aB7 q 0
                have := aB6 q 1; have := aB7 q 1
                have := aB6 q 2; have := aB7 q 2
                have := rDgt (c := bt q 1) (by omega) (by omega)
                have := rDgt (c := bt q 2) (by omega) (by omega)
                refine cQ5 (h := cH8) rfl ?_ (aC2 (show Is _ (.s 32 21768256054587688476975411894329487999234560186767463358109307209918322843745) (St' T) from isTo (v := St' ([u8 97, u8 32, u8 112, u8 101, u8 114, u8 99, u8 101, u8 110, u8 116, u8 32, u8 115, u8 105, u8 103, u8 110, u8 32, u8 116, u8 104, u8 97, u8 116, u8 32, u8 116, u8 101, u8 108, u8 108, u8 115, u8 32, u8 98, u8 121, u8 116, u8 101, u8 32, u8 48])) (isSx (l := [u8 97, u8 32, u8 112, u8 101, u8 114, u8 99, u8 101, u8 110, u8 116, u8 32, u8 115, u8 105, u8 103, u8 110, u8 32, u8 116, u8 104, u8 97, u8 116, u8 32, u8 116, u8 101, u8 108, u8 108, u8 115, u8 32, u8 98, u8 121, u8 116, u8 101, u8 32, u8 48]) 32 21768256054587688476975411894329487999234560186767463358109307209918322843745 rfl) (congrArg (fun l => St' l) (by rw [← x1, ← i1, um_zer (by omega) (by omega) ⟨by omega, by omega⟩ (by omega)]; rfl))) (aA6)) runUn_p12
                unfold cH8
                exact hc (kNeS (isX rfl) (isSx (l := ([] : LB)) 0 0 rfl) (bnT (nilF (by omega)))) <|hc (ixC rfl rfl (by omega)) <|hc (necF rfl (by omega)) <|hc (lnV rfl rfl (by omega)) <|hc (ltcF rfl (by omega)) <|hc (kMid (P := 1) (Q := 3) (isX rfl) (.inr ⟨_, _, rfl, (isZ (m := 1) rfl)⟩) (.inr ⟨_, _, rfl, (isZ (m := 3) rfl)⟩) (by omega) (by omega) (by omega) (denX (congrArg (fun l => St' l) (mid2 (i := 1) (by omega) (by omega) (by omega))))) <|hc (kEqS (isX rfl) (isSx (l := ([] : LB)) 0 0 rfl) (nilF (by first | omega | (simp <;> omega)))) <|hc (cG9 (isX rfl) (denZ (m := 2) rfl) rfl) <|hc (aX4 (i := 0) (isX rfl) (isZ (m := 0) rfl) (denX rfl) rfl (by simp) (aS6 rfl (by omega) (by omega))) <|hc (aO0 (isX rfl) (by omega) (by omega) (denX rfl)) <|hc (gecF rfl (by omega)) <|hc (kAdd (isZ (m := 0) rfl) (isX rfl) (denX rfl) (by omega) (fI64 (by omega) (by omega))) <|hc (aX4 (i := 1) (isX rfl) (isZ (m := 1) rfl) (denX rfl) rfl (by simp) (aS6 rfl (by omega) (by omega))) <|hc (aO0 (isX rfl) (by omega) (by omega) (denX rfl)) <|hc (gecF rfl (by omega)) <|hc (kMul (isX rfl) (isZ (m := 16) rfl) (denX rfl) (by omega) (fI64 (by omega) (by omega))) <|hc (adX rfl rfl rfl (by omega)) <|hc (eqcT rfl (by omega)) <|hnil
              · exact cC0 hI0 h0 h1 h2 h4 h5 h6
      · exact cW0 hI0 h0 h1
theorem lfOkUn_2 {l : LF} {h : LH} (s T : LB) (x0 : unS s = none) (x1 : unM s = T) (st : Nat × LB × LB) (hI : aS9 s T st) (hl : l.hp = some h) (hs : aF3 l h 26 aS1 .ret 4 5 35 = true) {th0 : LA} {sg0 : List (Nat × Nat)} (hth0 : ∀ X, ThOk (cx nu one 1 aA3 aA0) (DUn s T st X) th0) (h0 : aD9 l h 26 5 6 th0 sg0 (epUn st) (hpUn st) = true) {thx : LA} (hthx : ThOk (EUn_2 s T) (cx nu one 1 aA3 aA0) thx) (hx : aF5 l h 26 5 35 thx [(2, .s 0 0), (3, .ifc 51 (.ag [I6 10, .x 0]))] [] = true) : LfOk (cx nu one 1 aA3 aA0) cA1 l :=
  aL5 (E := EUn_2 s T) (aS9 s T) (muUn s T) (DUn s T) (fun _ _ => rfl) (fun _ _ => rfl) (fun _ _ => rfl) (fun st X t ht => aD3.trans (aE2 ((by decide : ∀ t, t ∈ aS1 → t < 1000000) t ht))) rfl rfl rfl hl hs ebUn rfl rfl st hI hth0 h0 hthx hx (roundsUn_2 s T x0 x1)
noncomputable def fi28 : FI := (tabk.fn.get 28).getD default
theorem dI3 : tabk.fn.get 28 = some fi28 := by kernel_rfl
theorem bD4 : fi28.body = some (Tryd.f28.body.getD .skip) := by kernel_rfl
theorem fiB28 : fi28.body.isSome = true := by rw [bD4]; rfl
theorem cfA28 : (aC0 (Tryd.f28.body.getD .skip)).all (fun b => !(aM1 (Go.AX.keyOf b) 8888888)) = true := by kernel_rfl
def bQ5 : LK := []
def lh1 : LH := ⟨4, 5, 35, [(4, bk 56 [.nilp, .nils])], [(4, bk 56 [.nilp, .nils])]⟩
def lf1 : LF := ⟨2, 26, [(0, .x 0), (2, .s 0 0), (3, .ni), (4, .p 4 0)], [], (.exit 0), [(2, .s 0 0), (3, .ni), (4, .p 4 0)], some lh1⟩
noncomputable def bV7 : Tab := aB2 ({ tabk with hyp := bQ5 }) 28 fi28 [lf1]
theorem runUnesc_0 (e : Nat) : okA (call bV7 9000 28 [.x 0] ⟨H0 e , 4, 0, 0⟩) (.tu [.s 0 0, .ni]) = true := by kernel_rfl
def bC3 (s : LB) : List Value := [St' s]
theorem pathUnesc_0 (s : LB) (b0 : s.length ≤ 9223372036854775807) (p0 : s.length ≤ 140737488355328) (h0 : ¬ (unS s = none)) (h1 : s.length = 0) (w : World) (hl : aA3 w) : CwR 28 #[St' s] w (.tuple #[St' ([] : LB), .nilIface]) := by
  have ho : ∀ k r, (k, r) ∈ bQ5 → HOk (cx (nuL (bC3 s)) (fun j _ => aA2 (l := bC3 s) rfl j) 1 aA3 aA0) k r := by
    unfold bQ5
    exact hnil
  refine runC (tb := bV7) (ra := .tu [.s 0 0, .ni]) rfl (aB3.lp1 ((aB0 (nuL (bC3 s)) (fun j _ => aA2 (l := bC3 s) rfl j)).hyps ho) (by omega) dI3 bD4 (aB1 (aB9 rfl ⟨0, keyUn, lfOkUn_0 (l := lf1) (h := lh1) s ([] : LB) (by assumption) (0, s, ([] : LB)) (cY1 ⟨by unfold unO; cases unS s <;> simp, rfl, fun _ => ⟨rfl, rfl⟩, fun h => by omega, by simp; omega, by omega⟩) rfl (by kernel_rfl) (th0 := [(0, .x 0)]) (sg0 := []) (fun X => thXv (v := St' s) rfl rfl (aA6)) (by kernel_rfl) (thx := []) (aA6) (by kernel_rfl)⟩) aC1)) rfl (aC7 (by omega)) fiB28 (fun e => runUnesc_0 e ) (args := [St' s]) (by simp only [RelL, Rel]; exact ⟨_, _, rfl, rfl, rfl⟩) w hl fun x hx => ?_
  simp only [Rel, RelL] at hx
  obtain ⟨_, rfl, ⟨_, _, rfl, ⟨rfl, _⟩, ⟨_, _, rfl, rfl, rfl⟩⟩⟩ := hx
  rfl
def bQ4 : LK := [(.byt (.x 1) (I6 0), .x 2), (.len (.x 1), .x 3), (.fit (.x 1), .b true)]
def lh2 : LH := ⟨4, 5, 35, [(4, bk 56 [.nilp, .nils])], [(4, bk 56 [.p 4 0, .sy 5]), (5, .t 1 5)]⟩
def lf2 : LF := ⟨2, 26, [(0, .x 0), (2, .s 0 0), (3, .ni), (4, .p 4 0)], [], (.exit 0), [(2, .s 0 0), (3, .ni), (4, .p 4 0)], some lh2⟩
noncomputable def bV6 : Tab := aB2 ({ tabk with hyp := bQ4 }) 28 fi28 [lf2]
theorem runUnesc_1 (e : Nat) : okA (call bV6 9000 28 [.x 0] ⟨H0 e , 4, 0, 0⟩) (.tu [.x 1, .ni]) = true := by kernel_rfl
def bC2 (s : LB) : List Value := [St' s, St' ((unS s).getD []), .int .u8 (bt ((unS s).getD []) 0), .int .i64 ((((unS s).getD []).length : Int))]
theorem pathUnesc_1 (s : LB) (b0 : s.length ≤ 9223372036854775807) (p0 : s.length ≤ 140737488355328) (h0 : ¬ (unS s = none)) (h1 : ¬ (s.length = 0)) (w : World) (hl : aA3 w) : CwR 28 #[St' s] w (.tuple #[St' ((unS s).getD []), .nilIface]) := by
  obtain ⟨T, hT⟩ : ∃ T, unS s = some T := by cases h : unS s with | none => exact absurd h (by assumption) | some T => exact ⟨T, rfl⟩
  have hTg : (unS s).getD [] = T := by rw [hT]; rfl
  have := cB5 hT
  rw [← hTg] at this
  have := aB6 ((unS s).getD []) 0; have := aB7 ((unS s).getD []) 0
  have ho : ∀ k r, (k, r) ∈ bQ4 → HOk (cx (nuL (bC2 s)) (fun j _ => aA2 (l := bC2 s) rfl j) 1 aA3 aA0) k r := by
    unfold bQ4
    exact hc (kByt (i := 0) (isX rfl) (isZ (m := 0) rfl) (denX rfl) rfl (by first | omega | (simp <;> omega)) rfl) <|hc (lnV rfl rfl (by omega)) <|hc (kFit (isX rfl) (by first | omega | (simp <;> omega))) <|hnil
  refine runC (tb := bV6) (ra := .tu [.x 1, .ni]) rfl (aB3.lp1 ((aB0 (nuL (bC2 s)) (fun j _ => aA2 (l := bC2 s) rfl j)).hyps ho) (by omega) dI3 bD4 (aB1 (aB9 rfl ⟨0, keyUn, lfOkUn_1 (l := lf2) (h := lh2) s ((unS s).getD []) (by assumption) (by rw [hT]; rfl) (0, s, ([] : LB)) (cY1 ⟨by unfold unO; cases unS s <;> simp, rfl, fun _ => ⟨rfl, rfl⟩, fun h => by omega, by simp; omega, by omega⟩) rfl (by kernel_rfl) (th0 := [(0, .x 0)]) (sg0 := []) (fun X => thXv (v := St' s) rfl rfl (aA6)) (by kernel_rfl) (thx := [(1, .x 0)]) (thXv (v := St' ((unS s).getD [])) rfl rfl (aA6)) (by kernel_rfl)⟩) aC1)) rfl (aC7 (by omega)) fiB28 (fun e => runUnesc_1 e ) (args := [St' s]) (by simp only [RelL, Rel]; exact ⟨_, _, rfl, rfl, rfl⟩) w hl fun x hx => ?_
  simp only [Rel, RelL] at hx
  obtain ⟨_, rfl, ⟨_, _, rfl, rfl, ⟨_, _, rfl, rfl, rfl⟩⟩⟩ := hx
  rfl
def bQ3 : LK := []
def lh3 : LH := ⟨4, 5, 35, [(4, bk 56 [.nilp, .nils])], []⟩
def lf3 : LF := ⟨2, 26, [(0, .x 0), (2, .s 0 0), (3, .ni), (4, .p 4 0)], [], .ret, [(2, .s 0 0), (3, .ifc 51 (.ag [I6 10, .x 1]))], some lh3⟩
noncomputable def bV5 : Tab := aB2 ({ tabk with hyp := bQ3 }) 28 fi28 [lf3]
theorem runUnesc_2 (e : Nat) : okA (call bV5 9000 28 [.x 0] ⟨H0 e , 4, 0, 0⟩) (.tu [.s 0 0, .ifc 51 (.ag [I6 10, .x 1])]) = true := by kernel_rfl
def bC1 (s : LB) : List Value := [St' s, St' (unM s)]
theorem pathUnesc_2 (s : LB) (b0 : s.length ≤ 9223372036854775807) (p0 : s.length ≤ 140737488355328) (h0 : unS s = none) (w : World) (hl : aA3 w) : CwR 28 #[St' s] w (.tuple #[St' ([] : LB), .iface 51 (.agg #[.int .i64 10, St' (unM s)])]) := by
  have ho : ∀ k r, (k, r) ∈ bQ3 → HOk (cx (nuL (bC1 s)) (fun j _ => aA2 (l := bC1 s) rfl j) 1 aA3 aA0) k r := by
    unfold bQ3
    exact hnil
  refine runC (tb := bV5) (ra := .tu [.s 0 0, .ifc 51 (.ag [I6 10, .x 1])]) rfl (aB3.lp1 ((aB0 (nuL (bC1 s)) (fun j _ => aA2 (l := bC1 s) rfl j)).hyps ho) (by omega) dI3 bD4 (aB1 (aB9 rfl ⟨0, keyUn, lfOkUn_2 (l := lf3) (h := lh3) s (unM s) (by assumption) rfl (0, s, ([] : LB)) (cY1 ⟨by unfold unO; cases unS s <;> simp, rfl, fun _ => ⟨rfl, rfl⟩, fun h => by omega, by simp; omega, by omega⟩) rfl (by kernel_rfl) (th0 := [(0, .x 0)]) (sg0 := []) (fun X => thXv (v := St' s) rfl rfl (aA6)) (by kernel_rfl) (thx := [(1, .x 0)]) (thXv (v := St' (unM s)) rfl rfl (aA6)) (by kernel_rfl)⟩) aC1)) rfl (aC7 (by omega)) fiB28 (fun e => runUnesc_2 e ) (args := [St' s]) (by simp only [RelL, Rel]; exact ⟨_, _, rfl, rfl, rfl⟩) w hl fun x hx => ?_
  simp only [Rel, RelL] at hx
  obtain ⟨_, rfl, ⟨_, _, rfl, ⟨rfl, _⟩, ⟨_, _, rfl, ⟨_, rfl, ⟨_, rfl, ⟨_, _, rfl, rfl, ⟨_, _, rfl, rfl, rfl⟩⟩⟩⟩, rfl⟩⟩⟩ := hx
  rfl
theorem callsUnesc (s : LB) (b0 : s.length ≤ 9223372036854775807) (p0 : s.length ≤ 140737488355328) (w : World) (hl : aA3 w) : CwR 28 #[St' s] w (if unS s = none then .tuple #[St' [], .iface 51 (.agg #[.int .i64 10, St' (unM s)])] else .tuple #[St' ((unS s).getD []), .nilIface]) := by
  by_cases h0 : unS s = none
  · rw [show (if unS s = none then .tuple #[St' [], .iface 51 (.agg #[.int .i64 10, St' (unM s)])] else .tuple #[St' ((unS s).getD []), .nilIface] : Value) = (.tuple #[St' ([] : LB), .iface 51 (.agg #[.int .i64 10, St' (unM s)])] : Value) from by first | (rw [if_pos (by assumption)]; done) | (rw [if_neg (by assumption)]; done) | (rw [if_neg (by assumption), aN7 (by assumption)]; rfl)]
    exact pathUnesc_2 s b0 p0 h0 w hl
  · by_cases h1 : s.length = 0
    · rw [show (if unS s = none then .tuple #[St' [], .iface 51 (.agg #[.int .i64 10, St' (unM s)])] else .tuple #[St' ((unS s).getD []), .nilIface] : Value) = (.tuple #[St' ([] : LB), .nilIface] : Value) from by first | (rw [if_pos (by assumption)]; done) | (rw [if_neg (by assumption)]; done) | (rw [if_neg (by assumption), aN7 (by assumption)]; rfl)]
      exact pathUnesc_0 s b0 p0 h0 h1 w hl
    · rw [show (if unS s = none then .tuple #[St' [], .iface 51 (.agg #[.int .i64 10, St' (unM s)])] else .tuple #[St' ((unS s).getD []), .nilIface] : Value) = (.tuple #[St' ((unS s).getD []), .nilIface] : Value) from by first | (rw [if_pos (by assumption)]; done) | (rw [if_neg (by assumption)]; done) | (rw [if_neg (by assumption), aN7 (by assumption)]; rfl)]
      exact pathUnesc_1 s b0 p0 h0 h1 w hl
theorem cK1 {x0 r : AV} {s : LB} (i0 : Is (cx nu one 1 aA3 aA0) x0 (St' s)) (hr : Den (cx nu one 1 aA3 aA0) r (if unS s = none then .tuple #[St' [], .iface 51 (.agg #[.int .i64 10, St' (unM s)])] else .tuple #[St' ((unS s).getD []), .nilIface])) (b0 : s.length ≤ 9223372036854775807) (p0 : s.length ≤ 140737488355328) : HOk (cx nu one 1 aA3 aA0) (.call 28 [x0]) r := by
  intro ρ args ha w hl _
  simp only [RelL] at ha
  obtain ⟨v0, t0, rfl, a0, rfl⟩ := ha
  have e0 := i0 ρ _ a0; subst e0
  exact (callsUnesc s b0 p0 w hl).mono fun e w' he => ⟨_, he.1, hr ρ, he.2⟩
theorem aQ0 {C : Cx} : Den C .ni .nilIface := fun ρ => by simp only [Rel]
theorem bT3 {C : Cx} {t : Nat} {a : AV} {v : Value} (h : Den C a v) : Den C (.ifc t a) (.iface t v) := fun ρ => by simp only [Rel]; exact ⟨_, rfl, h ρ⟩
theorem dI4 {C : Cx} {a b : AV} {v u : Value} (h : Den C a v) (k : Den C b u) : Den C (.ag [a, b]) (.agg #[v, u]) := fun ρ => by simp only [Rel, RelL]; exact ⟨_, rfl, _, _, rfl, h ρ, _, _, rfl, k ρ, rfl⟩
theorem bL4 {C : Cx} : Den C (.s 0 0) (St' []) := denS (len := 0) (n := 0) (by decide)
end Go.Proofs.YtbipkiiaajklhaaDoor.pathTells
