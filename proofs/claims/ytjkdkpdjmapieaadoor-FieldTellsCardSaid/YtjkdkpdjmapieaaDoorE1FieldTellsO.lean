/- A part of the proof: what an interpreter answers on partly known states is what the program answers. No condition. -/
import Derived.Test.YtjkdkpdjmapieaaDoorSeatE1
import Derived.Test.YtjkdkpdjmapieaaDoorHXpart4
import Derived.Test.YtjkdkpdjmapieaaDoorTDx
import Derived.Test.YtjkdkpdjmapieaaDoorAXro
import Derived.Test.YtjkdkpdjmapieaaDoorHKA
import Derived.Test.YtjkdkpdjmapieaaDoorHKI
import Derived.Test.YtjkdkpdjmapieaaDoorHKJ
import Derived.Test.YtjkdkpdjmapieaaDoorHKK
import Derived.Test.YtjkdkpdjmapieaaDoorHKN
import Derived.Test.YtjkdkpdjmapieaaDoorAXcf
import Derived.Test.YtjkdkpdjmapieaaDoorAXcs
import Derived.Test.YtjkdkpdjmapieaaDoorAXmv
import Derived.Shelf.Strings.SlTrimAscii
set_option maxRecDepth 100000
set_option linter.unusedVariables false
set_option linter.unusedSimpArgs false
namespace Go.Proofs.YtjkdkpdjmapieaaDoor.fieldTells
open Go Go.AX Go.Proofs Go.Proofs.YtjkdkpdjmapieaaDoor
def oI (w : World) : Prop := ∃ e fz, w.heap[0]? = some (.cells ⟨[.iface 87 (.agg #[typeHandle Tryd.prog 29])]⟩ e fz)
theorem laidE0_same {w w' : World} (h : oI w) (hh : w'.heap[0]? = w.heap[0]?) : oI w' := by
  obtain ⟨e, fz, hw⟩ := h
  exact ⟨e, fz, by rw [hh]; exact hw⟩
theorem laidE0_size {w : World} (h : oI w) : 0 < w.heap.size := by
  obtain ⟨e, fz, hw⟩ := h
  rcases Nat.lt_or_ge 0 w.heap.size with h0 | h0
  · exact h0
  · rw [Array.getElem?_eq_none h0] at hw; cases hw
theorem geOf {C : Cx} {w : World} (hP : C.P = Tryd.prog) (h : oI w) : ∃ e, qL C w 0 e [.bm 87 (.ag [.h 29])] := by
  obtain ⟨e, fz, h0⟩ := h
  refine ⟨e, _, fz, h0, rfl, fun j a hj => ?_⟩
  match j, hj with
  | 0, hj =>
    simp only [List.getElem?_cons_zero, Option.some.injEq] at hj
    subst hj
    refine ⟨.iface 87 (.agg #[typeHandle Tryd.prog 29]), rfl, ?_, rfl⟩
    simp only [Rel, aF, hP]
    exact ⟨_, rfl, _, rfl, _, _, rfl, rfl, rfl⟩
  | j + 1, hj => simp at hj
def aC (w : World) : Prop := oI w
theorem aG : ∀ w w' : World, (∀ k, k < 1 → w'.heap[k]? = w.heap[k]?) → aC w → aC w' := fun w w' h hE => laidE0_same hE (h 0 (by omega))
theorem EK {w : World} (h : aC w) : 1 ≤ w.heap.size := by
  have hE := h
  have := laidE0_size hE
  omega
noncomputable def H0 (e : Nat) : T aR := T.set .leaf 0 (ou e (.l [.bm 87 (.ag [.h 29])]))
theorem qi {nu : Nat → Value} {one : ∀ i, i < 1000000 → (nu i).oneCell' = true} {tb : Tab} (h : ar (cx nu one 1 aC aG) tb) (aX : tb.ng = 4) {f g : Nat} {fi : FI} (hfi : tb.fn.get g = some fi) (hb : fi.body.isSome = true) {l : List AV} {args : List Value}
    (hr : ∀ e, okB (call tb f g l ⟨H0 e , 4, 0, 0⟩) = true) (hl : aF (cx nu one 1 aC aG) (fun _ => none) l args) (w : World) (hw : aC w) :
    Calls Tryd.prog g ⟨args⟩ w fun e w' => e = .returned (.bool true) ∧ Go.AX.Below (Go.AX.Fz.lt w.heap.size) w w' := by
  have hE := id hw
  obtain ⟨e, g0⟩ := geOf (C := cx nu one 1 aC aG) rfl hE
  obtain ⟨S, hS⟩ := aY9 (hr e)
  refine (aX3 h (H := H0 e ) hfi hb (by rw [aX]; exact hS) hl w hw (EK hw) fun v k hv => ?_).mono fun e' w' he => ?_
  · unfold H0 at hv
    rw [ct _ _ _ _ (by omega)] at hv
    split at hv
    · rename_i e0; subst e0; injection hv with hv; subst hv
      exact ⟨by rw [aX]; omega, e, _, _, rfl, ⟨trivial, rfl⟩, g0⟩
    simp [T.c9] at hv
  · obtain ⟨x, ρ, rfl, hx, hb⟩ := he
    simp only [Rel] at hx
    exact ⟨by rw [hx], hb⟩
theorem runA {nu : Nat → Value} {one : ∀ i, i < 1000000 → (nu i).oneCell' = true} {tb : Tab} (h : ar (cx nu one 1 aC aG) tb) (aX : tb.ng = 4) {f g : Nat} {fi : FI} (hfi : tb.fn.get g = some fi) (hb : fi.body.isSome = true) {l : List AV} {args : List Value} {ra : AV} (hnr : eV 8 ra = true)
    (hr : ∀ e, okA (call tb f g l ⟨H0 e , 4, 0, 0⟩) ra = true) (hl : aF (cx nu one 1 aC aG) (fun _ => none) l args) (w : World) (hw : aC w) :
    Calls Tryd.prog g ⟨args⟩ w fun e w' => ∃ x, e = .returned x ∧ Rel (cx nu one 1 aC aG) (fun _ => none) ra x ∧ Go.AX.Below (Go.AX.Fz.lt w.heap.size) w w' := by
  have hE := id hw
  obtain ⟨e, g0⟩ := geOf (C := cx nu one 1 aC aG) rfl hE
  obtain ⟨S, hS⟩ := okA_inv (hr e)
  refine (aX3 h (H := H0 e ) hfi hb (by rw [aX]; exact hS) hl w hw (EK hw) fun v k hv => ?_).mono fun e' w' he => ?_
  · unfold H0 at hv
    rw [ct _ _ _ _ (by omega)] at hv
    split at hv
    · rename_i e0; subst e0; injection hv with hv; subst hv
      exact ⟨by rw [aX]; omega, e, _, _, rfl, ⟨trivial, rfl⟩, g0⟩
    simp [T.c9] at hv
  · obtain ⟨x, ρ, rfl, hx, hb⟩ := he
    exact ⟨x, rfl, oB 8 _ hnr _ hx, hb⟩
theorem kW {nu : Nat → Value} {one : ∀ i, i < 1000000 → (nu i).oneCell' = true} {tb : Tab} (h : ar (cx nu one 1 aC aG) tb) (aX : tb.ng = 4) {f g : Nat} {fi : FI} (hfi : tb.fn.get g = some fi) (hb : fi.body.isSome = true) {l : List AV} {args : List Value} (rs0 : List aR) (rs : List R)
    (hr : ∀ e, okB (call tb f g l ⟨fM 4 rs0 (H0 e ), 4 + rs0.length, 0, 0⟩) = true) (hl : aF (cx nu one 1 aC aG) (gD 4 rs) l args) (w : World) (hw : aC w) (hlen : rs0.length = rs.length) (hbd : 4 + rs0.length ≤ 16777213) (hA : ∀ e, ∀ (j : Nat) (k : aR) (r : R), rs0[j]? = some k → rs[j]? = some r → kN (cx nu one 1 aC aG) w (H0 e ) k r) (hnd : rs0.all cg = true) :
    Calls Tryd.prog g ⟨args⟩ w fun e w' => e = .returned (.bool true) ∧ Go.AX.Below (Go.AX.Fz.lt w.heap.size) w w' := by
  have hE := id hw
  obtain ⟨e, g0⟩ := geOf (C := cx nu one 1 aC aG) rfl hE
  obtain ⟨S, hS⟩ := aY9 (hr e)
  refine (run_okGA h (H := H0 e ) hfi hb rs0 rs (by rw [aX]; exact hS) (by rw [aX]; exact hl) w hw (EK hw) hlen (by rw [aX]; exact hbd) (hA e ) hnd fun v k hv => ?_).mono fun e' w' he => ?_
  · unfold H0 at hv
    rw [ct _ _ _ _ (by omega)] at hv
    split at hv
    · rename_i e0; subst e0; injection hv with hv; subst hv
      exact ⟨by rw [aX]; omega, e, _, _, rfl, ⟨trivial, rfl⟩, g0⟩
    simp [T.c9] at hv
  · obtain ⟨x, ρ, rfl, hx, hb⟩ := he
    simp only [Rel] at hx
    exact ⟨by rw [hx], hb⟩
noncomputable def fk : FI := ⟨Tryd.f5.body, Tryd.f5.ntmps, Tryd.f5.results.toList, 0, none, []⟩
theorem fk_at : tab.fn.get 5 = some fk := by kernel_rfl
theorem bF3 : fk.body.isSome = true := by kernel_rfl
theorem kk (e : Nat) : okB (call tab 6000 5 [] ⟨H0 e , 4, 0, 0⟩) = true := by kernel_rfl
noncomputable def bB : Tab := addSum tab 5 fk (.b true)
section
variable (nu : Nat → Value) (one : ∀ i, i < 1000000 → (nu i).oneCell' = true)
theorem sumk : I2 (cx nu one 1 aC aG) 5 (.b true) := fun w hi hs => by
  refine (qi (tabOk nu one 1 aC aG) rfl fk_at bF3 kk (args := []) (by simp only [aF]) w hi).mono fun e w' he => ?_
  exact ⟨.bool true, he.1, by simp only [Rel], he.2⟩
theorem ae : ar (cx nu one 1 aC aG) bB := (tabOk nu one 1 aC aG).sum (by omega) fk_at bF3 (sumk nu one)
end
theorem iM : Tryd.prog.underlying 9 = some .string := by kernel_rfl
theorem gW : Tryd.prog.funcs[77]? = some Tryd.f77 := Tryd.func77
theorem gY : (Extern.findNext Tryd.f77).isNone = true := by kernel_rfl
theorem gX : Extern.find Tryd.f77 = some Extern.BytealgIndexByte.indexByte := by kernel_rfl
noncomputable def aV (h : LK) : Tab := { bB with hyp := h }
theorem lL : ∃ fi, bB.fn.get 4 = some fi ∧ fi.body.isSome = true := ⟨_, rfl, by kernel_rfl⟩
abbrev bN (g : Nat) (args : Array Value) (w : World) (v : Value) : Prop := Calls Tryd.prog g args w fun e w' => e = .returned v ∧ Go.AX.Below (Go.AX.Fz.lt w.heap.size) w w'
theorem bp {nu : Nat → Value} {one : ∀ i, i < 1000000 → (nu i).oneCell' = true} {tb : Tab} {ra : AV} {v : Value} (hnr : eV 8 ra = true) (h : ar (cx nu one 1 aC aG) tb) (aX : tb.ng = 4) {f g : Nat} {fi : FI} (hfi : tb.fn.get g = some fi) (hb : fi.body.isSome = true) {l : List AV} {args : List Value}
    (hr : ∀ e, okA (call tb f g l ⟨H0 e , 4, 0, 0⟩) ra = true) (hl : aF (cx nu one 1 aC aG) (fun _ => none) l args) (w : World) (hw : aC w) (hv : ∀ x, Rel (cx nu one 1 aC aG) (fun _ => none) ra x → x = v) : bN g ⟨args⟩ w v :=
  (runA h aX hfi hb hnr hr hl w hw).mono fun e w' he => by
    obtain ⟨x, rfl, hx, hb2⟩ := he
    exact ⟨by rw [hv x hx], hb2⟩
variable {nu : Nat → Value} {one : ∀ i, i < 1000000 → (nu i).oneCell' = true} {E' : Cx} {x' : Ex} {e' : LA} {h' : LE}
def fp : Nat := 10633823810298881996667002598709002240
noncomputable def ub (e : Nat) (n : Nat) : Bool := okA (call bB 9000 53 [.i .u8 (.ofNat n)] ⟨H0 e , 4, 0, 0⟩) (.b (Nat.testBit fp n))
theorem bfAln_0 (e : Nat) : dE (ub e ) 0 64 = true := by kernel_rfl
theorem bfAln_1 (e : Nat) : dE (ub e ) 64 64 = true := by kernel_rfl
theorem bfAln_2 (e : Nat) : dE (ub e ) 128 64 = true := by kernel_rfl
theorem bfAln_3 (e : Nat) : dE (ub e ) 192 64 = true := by kernel_rfl
theorem bfAln_all (e : Nat) (n : Nat) (h : n < 256) : ub e n = true := by
  rcases (show n / 64 = 0 ∨ n / 64 = 1 ∨ n / 64 = 2 ∨ n / 64 = 3 by omega) with h | h | h | h
  · exact dO (bfAln_0 e ) n (by omega) (by omega)
  · exact dO (bfAln_1 e ) n (by omega) (by omega)
  · exact dO (bfAln_2 e ) n (by omega) (by omega)
  · exact dO (bfAln_3 e ) n (by omega) (by omega)
theorem callsAln (n : Nat) (h : n < 256) (w : World) (hl : aC w) : bN 53 #[.int .u8 (n : Int)] w (.bool (tb8 fp (n : Int))) := by
  refine bp (tb := bB) rfl (ae (ai []) (fun j _ => aQ (l := []) rfl j)) rfl (fi := fI Tryd.f53 0) rfl (by kernel_rfl) (fun e => bfAln_all e n h) (args := [.int .u8 (n : Int)]) (by simp only [aF, Rel]; exact ⟨_, _, rfl, rfl, rfl⟩) w hl fun x hx => ?_
  simp only [Rel] at hx
  rw [hx]; rfl
theorem HY {x0 r : AV} {c : Int} (i0 : Is (cx nu one 1 aC aG) x0 (.int .u8 c)) (b0 : 0 ≤ c) (b1 : c ≤ 255) (hr : Den (cx nu one 1 aC aG) r (.bool (tb8 fp c))) : aL (cx nu one 1 aC aG) (.call 53 [x0]) r := by
  intro ρ args ha w hl _
  simp only [aF] at ha
  obtain ⟨v0, t0, rfl, a0, rfl⟩ := ha
  have e0 := i0 ρ _ a0; subst e0
  obtain ⟨n, rfl⟩ := Int.eq_ofNat_of_zero_le b0
  exact (callsAln n (by omega) w hl).mono fun e w' he => ⟨_, he.1, hr ρ, he.2⟩
def Ba : List Int := [(-1), (-1), (-1), (-1), (-1), (-1), (-1), (-1), (-1), (-1), (-1), (-1), (-1), (-1), (-1), (-1), (-1), (-1), (-1), (-1), (-1), (-1), (-1), (-1), (-1), (-1), (-1), (-1), (-1), (-1), (-1), (-1), (-1), 0, (-1), 1, 2, 3, 4, 5, (-1), (-1), 6, 7, (-1), 8, 9, (-1), (-1), (-1), (-1), (-1), (-1), (-1), (-1), (-1), (-1), (-1), (-1), (-1), (-1), (-1), (-1), (-1), (-1), (-1), (-1), (-1), (-1), (-1), (-1), (-1), (-1), (-1), (-1), (-1), (-1), (-1), (-1), (-1), (-1), (-1), (-1), (-1), (-1), (-1), (-1), (-1), (-1), (-1), (-1), (-1), (-1), (-1), 10, 11, 12, (-1), (-1), (-1), (-1), (-1), (-1), (-1), (-1), (-1), (-1), (-1), (-1), (-1), (-1), (-1), (-1), (-1), (-1), (-1), (-1), (-1), (-1), (-1), (-1), (-1), (-1), (-1), 13, (-1), 14, (-1), (-1), (-1), (-1), (-1), (-1), (-1), (-1), (-1), (-1), (-1), (-1), (-1), (-1), (-1), (-1), (-1), (-1), (-1), (-1), (-1), (-1), (-1), (-1), (-1), (-1), (-1), (-1), (-1), (-1), (-1), (-1), (-1), (-1), (-1), (-1), (-1), (-1), (-1), (-1), (-1), (-1), (-1), (-1), (-1), (-1), (-1), (-1), (-1), (-1), (-1), (-1), (-1), (-1), (-1), (-1), (-1), (-1), (-1), (-1), (-1), (-1), (-1), (-1), (-1), (-1), (-1), (-1), (-1), (-1), (-1), (-1), (-1), (-1), (-1), (-1), (-1), (-1), (-1), (-1), (-1), (-1), (-1), (-1), (-1), (-1), (-1), (-1), (-1), (-1), (-1), (-1), (-1), (-1), (-1), (-1), (-1), (-1), (-1), (-1), (-1), (-1), (-1), (-1), (-1), (-1), (-1), (-1), (-1), (-1), (-1), (-1), (-1), (-1), (-1), (-1), (-1), (-1), (-1), (-1), (-1), (-1), (-1), (-1), (-1), (-1), (-1), (-1), (-1)]
def fO (c : Int) : Int := Ba.getD c.toNat 0
noncomputable def uY (e : Nat) (n : Nat) : Bool := okA (call bB 9000 54 [.s 15 656752058384775479847414506184778529, .i .u8 (.ofNat n)] ⟨H0 e , 4, 0, 0⟩) (.i .i64 (Ba.getD n 0))
theorem bfIxt_0 (e : Nat) : dE (uY e ) 0 64 = true := by kernel_rfl
theorem bfIxt_1 (e : Nat) : dE (uY e ) 64 64 = true := by kernel_rfl
theorem bfIxt_2 (e : Nat) : dE (uY e ) 128 64 = true := by kernel_rfl
theorem bfIxt_3 (e : Nat) : dE (uY e ) 192 64 = true := by kernel_rfl
theorem bfIxt_all (e : Nat) (n : Nat) (h : n < 256) : uY e n = true := by
  rcases (show n / 64 = 0 ∨ n / 64 = 1 ∨ n / 64 = 2 ∨ n / 64 = 3 by omega) with h | h | h | h
  · exact dO (bfIxt_0 e ) n (by omega) (by omega)
  · exact dO (bfIxt_1 e ) n (by omega) (by omega)
  · exact dO (bfIxt_2 e ) n (by omega) (by omega)
  · exact dO (bfIxt_3 e ) n (by omega) (by omega)
theorem callsIxt (n : Nat) (h : n < 256) (w : World) (hl : aC w) : bN 54 #[St' [u8 33, u8 35, u8 36, u8 37, u8 38, u8 39, u8 42, u8 43, u8 45, u8 46, u8 94, u8 95, u8 96, u8 124, u8 126], .int .u8 (n : Int)] w (.int .i64 (fO (n : Int))) := by
  refine bp (tb := bB) rfl (ae (ai []) (fun j _ => aQ (l := []) rfl j)) rfl (fi := fI Tryd.f54 0) rfl (by kernel_rfl) (fun e => bfIxt_all e n h) (args := [St' [u8 33, u8 35, u8 36, u8 37, u8 38, u8 39, u8 42, u8 43, u8 45, u8 46, u8 94, u8 95, u8 96, u8 124, u8 126], .int .u8 (n : Int)]) (by simp only [aF, Rel]; exact ⟨_, _, rfl, ⟨rfl, by decide⟩, ⟨_, _, rfl, rfl, rfl⟩⟩) w hl fun x hx => ?_
  simp only [Rel] at hx
  rw [hx]; rfl
theorem hokIxt {x0 x1 r : AV} {c : Int} (i0 : Is (cx nu one 1 aC aG) x0 (St' [u8 33, u8 35, u8 36, u8 37, u8 38, u8 39, u8 42, u8 43, u8 45, u8 46, u8 94, u8 95, u8 96, u8 124, u8 126])) (i1 : Is (cx nu one 1 aC aG) x1 (.int .u8 c)) (b0 : 0 ≤ c) (b1 : c ≤ 255) (hr : Den (cx nu one 1 aC aG) r (.int .i64 (fO c))) : aL (cx nu one 1 aC aG) (.call 54 [x0, x1]) r := by
  intro ρ args ha w hl _
  simp only [aF] at ha
  obtain ⟨v0, t0, rfl, a0, v1, t1, rfl, a1, rfl⟩ := ha
  have e0 := i0 ρ _ a0; subst e0
  have e1 := i1 ρ _ a1; subst e1
  obtain ⟨n, rfl⟩ := Int.eq_ofNat_of_zero_le b0
  exact (callsIxt n (by omega) w hl).mono fun e w' he => ⟨_, he.1, hr ρ, he.2⟩
theorem rIxt {c : Int} (b0 : 0 ≤ c) (b1 : c ≤ 255) : (-1) ≤ fO c ∧ fO c ≤ 14 := by
  obtain ⟨n, rfl⟩ := Int.eq_ofNat_of_zero_le b0
  have h : ∀ m : Fin 256, (-1) ≤ Ba.getD m.val 0 ∧ Ba.getD m.val 0 ≤ 14 := by decide +kernel
  exact h ⟨n, by omega⟩
def fo : Nat := 10633823810298881996379053697534001152
noncomputable def uX (e : Nat) (n : Nat) : Bool := okA (call bB 9000 44 [.i .u8 (.ofNat n)] ⟨H0 e , 4, 0, 0⟩) (.b (Nat.testBit fo n))
theorem bfLtr_0 (e : Nat) : dE (uX e ) 0 64 = true := by kernel_rfl
theorem bfLtr_1 (e : Nat) : dE (uX e ) 64 64 = true := by kernel_rfl
theorem bfLtr_2 (e : Nat) : dE (uX e ) 128 64 = true := by kernel_rfl
theorem bfLtr_3 (e : Nat) : dE (uX e ) 192 64 = true := by kernel_rfl
theorem bfLtr_all (e : Nat) (n : Nat) (h : n < 256) : uX e n = true := by
  rcases (show n / 64 = 0 ∨ n / 64 = 1 ∨ n / 64 = 2 ∨ n / 64 = 3 by omega) with h | h | h | h
  · exact dO (bfLtr_0 e ) n (by omega) (by omega)
  · exact dO (bfLtr_1 e ) n (by omega) (by omega)
  · exact dO (bfLtr_2 e ) n (by omega) (by omega)
  · exact dO (bfLtr_3 e ) n (by omega) (by omega)
theorem callsLtr (n : Nat) (h : n < 256) (w : World) (hl : aC w) : bN 44 #[.int .u8 (n : Int)] w (.bool (tb8 fo (n : Int))) := by
  refine bp (tb := bB) rfl (ae (ai []) (fun j _ => aQ (l := []) rfl j)) rfl (fi := fI Tryd.f44 0) rfl (by kernel_rfl) (fun e => bfLtr_all e n h) (args := [.int .u8 (n : Int)]) (by simp only [aF, Rel]; exact ⟨_, _, rfl, rfl, rfl⟩) w hl fun x hx => ?_
  simp only [Rel] at hx
  rw [hx]; rfl
theorem tF {x0 r : AV} {c : Int} (i0 : Is (cx nu one 1 aC aG) x0 (.int .u8 c)) (b0 : 0 ≤ c) (b1 : c ≤ 255) (hr : Den (cx nu one 1 aC aG) r (.bool (tb8 fo c))) : aL (cx nu one 1 aC aG) (.call 44 [x0]) r := by
  intro ρ args ha w hl _
  simp only [aF] at ha
  obtain ⟨v0, t0, rfl, a0, rfl⟩ := ha
  have e0 := i0 ρ _ a0; subst e0
  obtain ⟨n, rfl⟩ := Int.eq_ofNat_of_zero_le b0
  exact (callsLtr n (by omega) w hl).mono fun e w' he => ⟨_, he.1, hr ρ, he.2⟩
def gm : Nat := 287948901175001088
noncomputable def ua (e : Nat) (n : Nat) : Bool := okA (call bB 9000 45 [.i .u8 (.ofNat n)] ⟨H0 e , 4, 0, 0⟩) (.b (Nat.testBit gm n))
theorem bfDgr_0 (e : Nat) : dE (ua e ) 0 64 = true := by kernel_rfl
theorem bfDgr_1 (e : Nat) : dE (ua e ) 64 64 = true := by kernel_rfl
theorem bfDgr_2 (e : Nat) : dE (ua e ) 128 64 = true := by kernel_rfl
theorem bfDgr_3 (e : Nat) : dE (ua e ) 192 64 = true := by kernel_rfl
theorem bfDgr_all (e : Nat) (n : Nat) (h : n < 256) : ua e n = true := by
  rcases (show n / 64 = 0 ∨ n / 64 = 1 ∨ n / 64 = 2 ∨ n / 64 = 3 by omega) with h | h | h | h
  · exact dO (bfDgr_0 e ) n (by omega) (by omega)
  · exact dO (bfDgr_1 e ) n (by omega) (by omega)
  · exact dO (bfDgr_2 e ) n (by omega) (by omega)
  · exact dO (bfDgr_3 e ) n (by omega) (by omega)
theorem callsDgr (n : Nat) (h : n < 256) (w : World) (hl : aC w) : bN 45 #[.int .u8 (n : Int)] w (.bool (tb8 gm (n : Int))) := by
  refine bp (tb := bB) rfl (ae (ai []) (fun j _ => aQ (l := []) rfl j)) rfl (fi := fI Tryd.f45 0) rfl (by kernel_rfl) (fun e => bfDgr_all e n h) (args := [.int .u8 (n : Int)]) (by simp only [aF, Rel]; exact ⟨_, _, rfl, rfl, rfl⟩) w hl fun x hx => ?_
  simp only [Rel] at hx
  rw [hx]; rfl
theorem z6 {x0 r : AV} {c : Int} (i0 : Is (cx nu one 1 aC aG) x0 (.int .u8 c)) (b0 : 0 ≤ c) (b1 : c ≤ 255) (hr : Den (cx nu one 1 aC aG) r (.bool (tb8 gm c))) : aL (cx nu one 1 aC aG) (.call 45 [x0]) r := by
  intro ρ args ha w hl _
  simp only [aF] at ha
  obtain ⟨v0, t0, rfl, a0, rfl⟩ := ha
  have e0 := i0 ρ _ a0; subst e0
  obtain ⟨n, rfl⟩ := Int.eq_ofNat_of_zero_le b0
  exact (callsDgr n (by omega) w hl).mono fun e w' he => ⟨_, he.1, hr ρ, he.2⟩
def iI : Nat := 106338239722214391718002937838583152640
noncomputable def uZ (e : Nat) (n : Nat) : Bool := okA (call bB 9000 46 [.i .u8 (.ofNat n), .s 14 2565437417144901394872482436227873] ⟨H0 e , 4, 0, 0⟩) (.b (Nat.testBit iI n))
theorem bfInr_0 (e : Nat) : dE (uZ e ) 0 64 = true := by kernel_rfl
theorem bfInr_1 (e : Nat) : dE (uZ e ) 64 64 = true := by kernel_rfl
theorem bfInr_2 (e : Nat) : dE (uZ e ) 128 64 = true := by kernel_rfl
theorem bfInr_3 (e : Nat) : dE (uZ e ) 192 64 = true := by kernel_rfl
theorem bfInr_all (e : Nat) (n : Nat) (h : n < 256) : uZ e n = true := by
  rcases (show n / 64 = 0 ∨ n / 64 = 1 ∨ n / 64 = 2 ∨ n / 64 = 3 by omega) with h | h | h | h
  · exact dO (bfInr_0 e ) n (by omega) (by omega)
  · exact dO (bfInr_1 e ) n (by omega) (by omega)
  · exact dO (bfInr_2 e ) n (by omega) (by omega)
  · exact dO (bfInr_3 e ) n (by omega) (by omega)
theorem callsInr (n : Nat) (h : n < 256) (w : World) (hl : aC w) : bN 46 #[.int .u8 (n : Int), St' [u8 33, u8 35, u8 36, u8 37, u8 38, u8 39, u8 42, u8 43, u8 45, u8 46, u8 94, u8 95, u8 124, u8 126]] w (.bool (tb8 iI (n : Int))) := by
  refine bp (tb := bB) rfl (ae (ai []) (fun j _ => aQ (l := []) rfl j)) rfl (fi := fI Tryd.f46 0) rfl (by kernel_rfl) (fun e => bfInr_all e n h) (args := [.int .u8 (n : Int), St' [u8 33, u8 35, u8 36, u8 37, u8 38, u8 39, u8 42, u8 43, u8 45, u8 46, u8 94, u8 95, u8 124, u8 126]]) (by simp only [aF, Rel]; exact ⟨_, _, rfl, rfl, ⟨_, _, rfl, ⟨rfl, by decide⟩, rfl⟩⟩) w hl fun x hx => ?_
  simp only [Rel] at hx
  rw [hx]; rfl
theorem HX {x0 x1 r : AV} {c : Int} (i0 : Is (cx nu one 1 aC aG) x0 (.int .u8 c)) (i1 : Is (cx nu one 1 aC aG) x1 (St' [u8 33, u8 35, u8 36, u8 37, u8 38, u8 39, u8 42, u8 43, u8 45, u8 46, u8 94, u8 95, u8 124, u8 126])) (b0 : 0 ≤ c) (b1 : c ≤ 255) (hr : Den (cx nu one 1 aC aG) r (.bool (tb8 iI c))) : aL (cx nu one 1 aC aG) (.call 46 [x0, x1]) r := by
  intro ρ args ha w hl _
  simp only [aF] at ha
  obtain ⟨v0, t0, rfl, a0, v1, t1, rfl, a1, rfl⟩ := ha
  have e0 := i0 ρ _ a0; subst e0
  have e1 := i1 ρ _ a1; subst e1
  obtain ⟨n, rfl⟩ := Int.eq_ofNat_of_zero_le b0
  exact (callsInr n (by omega) w hl).mono fun e w' he => ⟨_, he.1, hr ρ, he.2⟩
def dj : Nat := 116972063611741436228934278030836105216
def cw (b : UInt8) : Bool := tb8 dj (b.toNat : Int)
def bY (s : LB) : Bool := s.all cw && decide (¬ s.length = 0)
theorem tk_at {s : LB} {i : Int} (h0 : 0 ≤ i) (h : i < s.length) : (s.drop i.toNat).all cw = (tb8 dj (bt s i.toNat) && (s.drop (Int.toNat (i + 1))).all cw) := by
  have e : s.drop i.toNat = u8 (bt s i.toNat) :: s.drop (i.toNat + 1) := by
    rw [List.drop_eq_getElem_cons (by omega), jP, List.getD_eq_getElem?_getD, List.getElem?_eq_getElem (by omega), Option.getD_some]
  rw [e, List.all_cons, cw, l7 (bF _ _) (bG _ _), show (i + 1).toNat = i.toNat + 1 by omega]
theorem nj {s : LB} {i : Int} {A : Bool} (h0 : 0 ≤ i) (h : i < s.length) (hb : tb8 dj (bt s i.toNat) = true) (hA : (s.drop i.toNat).all cw = A) : (s.drop (Int.toNat (i + 1))).all cw = A := by
  rw [tk_at h0 h, hb, Bool.true_and] at hA; exact hA
theorem tk_no {s : LB} {i : Int} {A : Bool} (h0 : 0 ≤ i) (h : i < s.length) (hb : tb8 dj (bt s i.toNat) = false) (hA : (s.drop i.toNat).all cw = A) : A = false := by
  rw [tk_at h0 h, hb, Bool.false_and] at hA; exact hA.symm
theorem tk_end {s : LB} {i : Int} {A : Bool} (h : (s.length : Int) ≤ i) (hA : (s.drop i.toNat).all cw = A) : A = true := by
  rw [List.drop_eq_nil_of_le (by omega)] at hA; exact hA.symm
theorem tkA1 {c : Int} (h0 : 0 ≤ c) (h1 : c ≤ 255) (a0 : tb8 fp c = true) : tb8 dj c = true := by
  obtain ⟨n, rfl⟩ := Int.eq_ofNat_of_zero_le h0
  have h : ∀ m : Fin 256, (tb8 fp (m.val : Int) = true) → tb8 dj (m.val : Int) = true := by decide +kernel
  exact h ⟨n, by omega⟩ a0
theorem tkA2 {c : Int} (h0 : 0 ≤ c) (h1 : c ≤ 255) (a0 : ¬ tb8 fp c = true) (a1 : ¬ fO c < 0) : tb8 dj c = true := by
  obtain ⟨n, rfl⟩ := Int.eq_ofNat_of_zero_le h0
  have h : ∀ m : Fin 256, (¬ tb8 fp (m.val : Int) = true) → (¬ fO (m.val : Int) < 0) → tb8 dj (m.val : Int) = true := by decide +kernel
  exact h ⟨n, by omega⟩ a0 a1
theorem tkA3 {c : Int} (h0 : 0 ≤ c) (h1 : c ≤ 255) (a0 : ¬ tb8 fp c = true) (a1 : fO c < 0) : tb8 dj c = false := by
  obtain ⟨n, rfl⟩ := Int.eq_ofNat_of_zero_le h0
  have h : ∀ m : Fin 256, (¬ tb8 fp (m.val : Int) = true) → (fO (m.val : Int) < 0) → tb8 dj (m.val : Int) = false := by decide +kernel
  exact h ⟨n, by omega⟩ a0 a1
theorem vk {c : Int} (h0 : 0 ≤ c) (h1 : c ≤ 255) (a0 : tb8 fo c = true) : tb8 dj c = true := by
  obtain ⟨n, rfl⟩ := Int.eq_ofNat_of_zero_le h0
  have h : ∀ m : Fin 256, (tb8 fo (m.val : Int) = true) → tb8 dj (m.val : Int) = true := by decide +kernel
  exact h ⟨n, by omega⟩ a0
theorem vj {c : Int} (h0 : 0 ≤ c) (h1 : c ≤ 255) (a0 : tb8 gm c = true) : tb8 dj c = true := by
  obtain ⟨n, rfl⟩ := Int.eq_ofNat_of_zero_le h0
  have h : ∀ m : Fin 256, (tb8 gm (m.val : Int) = true) → tb8 dj (m.val : Int) = true := by decide +kernel
  exact h ⟨n, by omega⟩ a0
theorem vg {c : Int} (h0 : 0 ≤ c) (h1 : c ≤ 255) (a0 : tb8 iI c = true) : tb8 dj c = true := by
  obtain ⟨n, rfl⟩ := Int.eq_ofNat_of_zero_le h0
  have h : ∀ m : Fin 256, (tb8 iI (m.val : Int) = true) → tb8 dj (m.val : Int) = true := by decide +kernel
  exact h ⟨n, by omega⟩ a0
theorem vf {c : Int} (h0 : 0 ≤ c) (h1 : c ≤ 255) (a0 : c = 96) : tb8 dj c = true := by
  obtain ⟨n, rfl⟩ := Int.eq_ofNat_of_zero_le h0
  have h : ∀ m : Fin 256, ((m.val : Int) = 96) → tb8 dj (m.val : Int) = true := by decide +kernel
  exact h ⟨n, by omega⟩ a0
theorem tkR5 {c : Int} (h0 : 0 ≤ c) (h1 : c ≤ 255) (a0 : ¬ tb8 fo c = true) (a1 : ¬ tb8 gm c = true) (a2 : ¬ tb8 iI c = true) (a3 : ¬ (c = 96)) : tb8 dj c = false := by
  obtain ⟨n, rfl⟩ := Int.eq_ofNat_of_zero_le h0
  have h : ∀ m : Fin 256, (¬ tb8 fo (m.val : Int) = true) → (¬ tb8 gm (m.val : Int) = true) → (¬ tb8 iI (m.val : Int) = true) → (¬  ((m.val : Int) = 96)) → tb8 dj (m.val : Int) = false := by decide +kernel
  exact h ⟨n, by omega⟩ a0 a1 a2 a3
noncomputable def A6 : Code := cS (Tryd.f38.body.getD .skip) 0
theorem EO : cU (br (Tryd.f38.body.getD .skip)) 2 0 0 = true := by kernel_rfl
def k9 : List Nat := []
def Ao : LA := [(0, .x 0), (2, .b false), (6, .x 1), (5, .x 2)]
def zp : LE := []
def xH (s : LB) (A : Bool) (i : Int) : List Value := [St' s, .int .i64 (i), .int .i64 ((s.length : Int)), .int .u8 (bt s i.toNat), .int .i64 (i + 1), .int .u8 (bt s i.toNat), .int .i64 (fO (bt s i.toNat)), .int .i64 (i + 1), .int .u8 (bt s i.toNat), .int .i64 (fO (bt s i.toNat))]
def roKa_0 (s : LB) (A : Bool) (i : Int) : List Value := []
def pU (st : Nat × Int) : LA := Ao
def zq (st : Nat × Int) : LE := zp
def nuKa (s : LB) (A : Bool) (st : Nat × Int) : List Value := xH s A (st.2)
def roKa (s : LB) (A : Bool) (st : Nat × Int) : List Value := roKa_0 s A (st.2)
theorem onKa (s : LB) (A : Bool) (st : Nat × Int) : ∀ j, (ai (nuKa s A st) j).oneCell' = true := by
  intro j
  unfold nuKa
  exact aQ (l := xH s A (st.2)) rfl j
theorem ebKa (st : Nat × Int) : (cG (pU st) && cO k9) = true := by
  unfold pU
  rfl
noncomputable def DKa (s : LB) (A : Bool) (st : Nat × Int) (X : Nat → Value) : Cx := cx (af (nuKa s A st) (rX (roKa s A st) X)) (ah (onKa s A st)) 1 aC aG
abbrev CjKa (s : LB) (A : Bool) (tag : Nat) (i : Int) : Prop := (0 ≤ i) ∧ (i ≤ (s.length : Int)) ∧ ((s.drop i.toNat).all cw = A) ∧ (tag < 1)
def jL (s : LB) (A : Bool) (st : Nat × Int) : Prop := CjKa s A st.1 (st.2)
theorem rq {s : LB} {A : Bool} {tag : Nat} {i : Int} (h : CjKa s A tag i) : jL s A (tag, i) := h
theorem vb (s : LB) (A : Bool) (tag : Nat) (i : Int) (h : jL s A (tag, i)) : CjKa s A tag i := h
def rW (s : LB) (A : Bool) (st : Nat × Int) : Nat := (s.length - (st.2).toNat)
abbrev qJ (s : LB) (A : Bool) (E' : Cx) (ex' : Ex) (epx' : LA) (hpx' : LE) (st : Nat × Int) (X : Nat → Value) : Prop := a6 E' A6 k9 24 ex' 4 4 4 4 pU zq epx' hpx' (jL s A) (rW s A) (DKa s A) st X
noncomputable abbrev CA (s : LB) (A : Bool) (i : Int) (X : Nat → Value) : Cx := cx (af (xH s A i) (rX (roKa_0 s A i) X)) (ah (aQ (l := xH s A i) rfl)) 1 aC aG
noncomputable abbrev qD (h : LK) (x : Ex) (th : LA) (sg : List (Nat × Nat)) (m : Nat) (ep : LA) (hp : LE) : Bool := bn (code (aV h) 900 [] A6 (bc (bf Ao k9) 24) ⟨ay zp .leaf, 4, 0, 0⟩) x k9 24 4 th sg 4 m ep hp
theorem stKa_0 {s : LB} {A : Bool} {i : Int} {X : Nat → Value} {h : LK} (y : Nat × Int) {th : LA} {sg : List (Nat × Nat)} (ho : ∀ a' r', (a', r') ∈ h → aL (CA s A i X) a' r') (hy : jL s A y) (lt : rW s A y < rW s A (0, i)) (ht : aw (CA s A i X) (DKa s A y X) th) (run : qD h .normal th sg 4 (pU y) (zq y) = true) : qJ s A E' x' e' h' (0, i) X :=
  a6.next (tb := aV h) (L := []) (f := 900) y ((ae _ _).hyps ho) (bA.nil _) rfl hy lt ht run
theorem lvKa_0 {s : LB} {A : Bool} {i : Int} {X : Nat → Value} {h : LK} {th : LA} {sg : List (Nat × Nat)} (hne : cI x' .normal = false) (ho : ∀ a' r', (a', r') ∈ h → aL (CA s A i X) a' r') (ht : aw (CA s A i X) E' th) (run : qD h x' th sg 4 e' h' = true) : qJ s A E' x' e' h' (0, i) X :=
  a6.leave (tb := aV h) (L := []) (f := 900) ((ae _ _).hyps ho) (bA.nil _) rfl hne ht run
def GQ : LK := [(.bin .lss (.x 1) (.x 2), .b false)]
theorem runKa_p0 : qD GQ (.exit 0) [(0, .x 0)] [] 4 [(0, .x 0), (2, .b false)] [] = true := by kernel_rfl
def GP : LK := [(.bin .lss (.x 1) (.x 2), .b true), (.idx (.x 0) (.x 1), .x 3), (.call 53 [.x 3], .b true), (.bin .add (.x 1) (I6 1), .x 4)]
theorem runKa_p1 : qD GP .normal [(0, .x 0), (1, .x 4), (2, .x 2)] [] 4 Ao zp = true := by kernel_rfl
def GO : LK := [(.bin .lss (.x 1) (.x 2), .b true), (.idx (.x 0) (.x 1), .x 5), (.call 53 [.x 5], .b false), (.call 54 [.s 15 656752058384775479847414506184778529, .x 5], .x 6), (.bin .lss (.x 6) (I6 0), .b false), (.bin .add (.x 1) (I6 1), .x 7)]
theorem runKa_p2 : qD GO .normal [(0, .x 0), (1, .x 7), (2, .x 2)] [] 4 Ao zp = true := by kernel_rfl
def GN : LK := [(.bin .lss (.x 1) (.x 2), .b true), (.idx (.x 0) (.x 1), .x 8), (.call 53 [.x 8], .b false), (.call 54 [.s 15 656752058384775479847414506184778529, .x 8], .x 9), (.bin .lss (.x 9) (I6 0), .b true)]
theorem runKa_p3 : qD GN .ret [] [] 4 [(2, .b false)] [] = true := by kernel_rfl
section
set_option linter.unusedSectionVars false
variable {s : LB} {A : Bool} (c0 : s.length ≤ 140737488355328) {i : Int} {X : Nat → Value}
include c0
theorem bB7 (hI : jL s A (0, i)) (h0 : i < (s.length : Int)) (h1 : tb8 fp (bt s i.toNat) = true) : qJ s A E' x' e' h' (0, i) X := by
  obtain ⟨i0, i1, i2, it⟩ := vb s A 0 i hI
  have := bF s i.toNat; have := bG s i.toNat
  refine stKa_0 (h := GP) (0, (i + 1)) ?_ (rq ⟨by omega, by omega, nj (by omega) (by omega) (by first | exact tkA1 (bF _ _) (bG _ _) (by assumption) | exact tkA2 (bF _ _) (bG _ _) (by assumption) (by assumption)) i2, by omega⟩) (by show s.length - (i + 1).toNat < s.length - i.toNat; omega) (aB (v := St' s) rfl rfl (bT (b := ((i + 1))) rfl rfl (by omega) (aB (v := .int .i64 ((s.length : Int))) rfl rfl (aI)))) runKa_p1
  unfold GP
  exact hc (ba rfl rfl (by omega)) <|hc (cm rfl rfl rfl (by omega)) <|hc (HY (aA rfl) (by omega) (by omega) (cM (by assumption))) <|hc (bO rfl rfl (by omega)) <|hnil
theorem bB6 (hI : jL s A (0, i)) (h0 : i < (s.length : Int)) (h1 : ¬ (tb8 fp (bt s i.toNat) = true)) (h2 : ¬ (fO (bt s i.toNat) < 0)) : qJ s A E' x' e' h' (0, i) X := by
  obtain ⟨i0, i1, i2, it⟩ := vb s A 0 i hI
  have := bF s i.toNat; have := bG s i.toNat
  have := rIxt (c := bt s i.toNat) (by omega) (by omega)
  refine stKa_0 (h := GO) (0, (i + 1)) ?_ (rq ⟨by omega, by omega, nj (by omega) (by omega) (by first | exact tkA1 (bF _ _) (bG _ _) (by assumption) | exact tkA2 (bF _ _) (bG _ _) (by assumption) (by assumption)) i2, by omega⟩) (by show s.length - (i + 1).toNat < s.length - i.toNat; omega) (aB (v := St' s) rfl rfl (bT (b := ((i + 1))) rfl rfl (by omega) (aB (v := .int .i64 ((s.length : Int))) rfl rfl (aI)))) runKa_p2
  unfold GO
  exact hc (ba rfl rfl (by omega)) <|hc (cm rfl rfl rfl (by omega)) <|hc (HY (aA rfl) (by omega) (by omega) (dh (by assumption))) <|hc (hokIxt (bQ (l := [u8 33, u8 35, u8 36, u8 37, u8 38, u8 39, u8 42, u8 43, u8 45, u8 46, u8 94, u8 95, u8 96, u8 124, u8 126]) 15 656752058384775479847414506184778529 rfl) (aA rfl) (by omega) (by omega) (aE rfl)) <|hc (ei rfl (by omega)) <|hc (bO rfl rfl (by omega)) <|hnil
end
def bD6 (s : LB) (A : Bool) : List Value := [St' s]
def roEKa_0 (s : LB) (A : Bool) : List Value := []
noncomputable def EKa_0 (s : LB) (A : Bool) : Cx := cx (af (bD6 s A) (rX (roEKa_0 s A) (fun _ => .bool true))) (ah (aQ (l := bD6 s A) rfl)) 1 aC aG
theorem roundsKa_0 (s : LB) (A : Bool) (c0 : s.length ≤ 140737488355328) (x0 : A = true) (st : Nat × Int) (X : Nat → Value) (hI : jL s A st) : qJ s A (EKa_0 s A) (.exit 0) [(0, .x 0), (2, .b false)] [] st X := by
  obtain ⟨tag, i⟩ := st
  have hI0 := hI
  obtain ⟨i0, i1, i2, it⟩ := vb s A tag i hI
  obtain rfl : tag = 0 := by omega
  skip
  by_cases h0 : i < (s.length : Int)
  · by_cases h1 : tb8 fp (bt s i.toNat) = true
    · exact bB7 c0 hI0 h0 h1
    · by_cases h2 : fO (bt s i.toNat) < 0
      · exfalso; have e := tk_no (by omega) (by omega) (tkA3 (bF _ _) (bG _ _) (by assumption) (by assumption)) i2; rw [e] at x0; exact absurd x0 (by simp)
      · exact bB6 c0 hI0 h0 h1 h2
  · skip
    refine lvKa_0 (h := GQ) rfl ?_ (aB (v := St' s) rfl rfl (aI)) runKa_p0
    unfold GQ
    exact hc (dB rfl rfl (by omega)) <|hnil
theorem aU4 (s : LB) (A : Bool) (c0 : s.length ≤ 140737488355328) (x0 : A = true) : ax (cx nu one 1 aC aG) (EKa_0 s A) A6 k9 24 (.exit 0) 4 4 4 4 pU zq [(0, .x 0), (2, .b false)] [] (jL s A) (DKa s A) :=
  cF (rW s A) (fun _ _ => rfl) (fun _ _ => rfl) (fun _ _ => rfl) (fun st X t ht => cE.trans (cD ((by decide : ∀ t, t ∈ k9 → t < 1000000) t ht))) rfl rfl rfl ebKa rfl rfl (roundsKa_0 s A c0 x0)
def bD5 (s : LB) (A : Bool) : List Value := []
def roEKa_1 (s : LB) (A : Bool) : List Value := []
noncomputable def EKa_1 (s : LB) (A : Bool) : Cx := cx (af (bD5 s A) (rX (roEKa_1 s A) (fun _ => .bool true))) (ah (aQ (l := bD5 s A) rfl)) 1 aC aG
theorem roundsKa_1 (s : LB) (A : Bool) (c0 : s.length ≤ 140737488355328) (x0 : A = false) (st : Nat × Int) (X : Nat → Value) (hI : jL s A st) : qJ s A (EKa_1 s A) .ret [(2, .b false)] [] st X := by
  obtain ⟨tag, i⟩ := st
  have hI0 := hI
  obtain ⟨i0, i1, i2, it⟩ := vb s A tag i hI
  obtain rfl : tag = 0 := by omega
  skip
  by_cases h0 : i < (s.length : Int)
  · by_cases h1 : tb8 fp (bt s i.toNat) = true
    · exact bB7 c0 hI0 h0 h1
    · by_cases h2 : fO (bt s i.toNat) < 0
      · skip
        have := bF s i.toNat; have := bG s i.toNat
        have := rIxt (c := bt s i.toNat) (by omega) (by omega)
        refine lvKa_0 (h := GN) rfl ?_ (aI) runKa_p3
        unfold GN
        exact hc (ba rfl rfl (by omega)) <|hc (cm rfl rfl rfl (by omega)) <|hc (HY (aA rfl) (by omega) (by omega) (dh (by assumption))) <|hc (hokIxt (bQ (l := [u8 33, u8 35, u8 36, u8 37, u8 38, u8 39, u8 42, u8 43, u8 45, u8 46, u8 94, u8 95, u8 96, u8 124, u8 126]) 15 656752058384775479847414506184778529 rfl) (aA rfl) (by omega) (by omega) (aE rfl)) <|hc (jb rfl (by omega)) <|hnil
      · exact bB6 c0 hI0 h0 h1 h2
  · exfalso; have e := tk_end (by omega) i2; rw [e] at x0; exact absurd x0 (by simp)
theorem lfOkKa_1 (s : LB) (A : Bool) (c0 : s.length ≤ 140737488355328) (x0 : A = false) : ax (cx nu one 1 aC aG) (EKa_1 s A) A6 k9 24 .ret 4 4 4 4 pU zq [(2, .b false)] [] (jL s A) (DKa s A) :=
  cF (rW s A) (fun _ _ => rfl) (fun _ _ => rfl) (fun _ _ => rfl) (fun st X t ht => cE.trans (cD ((by decide : ∀ t, t ∈ k9 → t < 1000000) t ht))) rfl rfl rfl ebKa rfl rfl (roundsKa_1 s A c0 x0)
noncomputable def oz : FI := (bB.fn.get 38).getD default
theorem Hz : bB.fn.get 38 = some oz := by kernel_rfl
theorem AU : oz.body = some (Tryd.f38.body.getD .skip) := by kernel_rfl
theorem Hq : oz.body.isSome = true := by rw [AU]; rfl
def Ep : LK := [(.len (.x 0), .x 1), (.bin .neq (.x 2) (.s 0 0), .b false)]
def lh4 : LH := ⟨4, 4, 4, [], []⟩
def lf4 : LF := ⟨2, 24, [(0, .x 0), (2, .b false), (6, I6 0), (5, .x 1)], [], (.exit 0), [(0, .x 2), (2, .b false)], some lh4⟩
noncomputable def aJ7 : Tab := bI ({ bB with hyp := Ep }) 38 oz [lf4]
theorem runTokA_0 (e : Nat) : okA (call aJ7 9000 38 [.x 0] ⟨H0 e , 4, 0, 0⟩) (.b false) = true := by kernel_rfl
def wS (s : LB) : List Value := [St' s, .int .i64 ((s.length : Int)), St' s]
theorem pathTokA_0 (s : LB) (b0 : s.length ≤ 9223372036854775807) (p0 : s.length ≤ 140737488355328) (h0 : s.all cw = true) (h1 : (s.length : Int) = 0) (w : World) (hl : aC w) : bN 38 #[St' s] w (.bool false) := by
  have ho : ∀ k r, (k, r) ∈ Ep → aL (cx (ai (wS s)) (fun j _ => aQ (l := wS s) rfl j) 1 aC aG) k r := by
    unfold Ep
    exact hc (au rfl rfl (by omega)) <|hc (ck (aA rfl) (bQ (l := ([] : LB)) 0 0 rfl) (ev (gG (by omega)))) <|hnil
  refine bp (tb := aJ7) (ra := .b false) rfl (ar.bS ((ae (ai (wS s)) (fun j _ => aQ (l := wS s) rfl j)).hyps ho) (by omega) Hz AU (bH (bR rfl ⟨0, EO, ax.use (l := lf4) (h := lh4) (aU4 s (s.all cw) (by omega) (by assumption)) (0, (0 : Int)) (rq ⟨by omega, by omega, rfl, by omega⟩) rfl (by kernel_rfl) (ao := [(0, .x 0), (1, I6 0), (2, .x 1)]) (aj := []) (fun X => aB (v := St' s) rfl rfl (bK (show Is _ (I6 0) (.int .i64 ((0 : Int))) from bL (v := .int .i64 0) (bP _ _) (by first | rfl | (congr 1; omega))) (aB (v := .int .i64 ((s.length : Int))) rfl rfl (aI)))) (by kernel_rfl) (ak := [(2, .x 0)]) (aB (v := St' s) rfl rfl (aI)) (by kernel_rfl)⟩) bE)) rfl (cP (by omega)) Hq (fun e => runTokA_0 e ) (args := [St' s]) (by simp only [aF, Rel]; exact ⟨_, _, rfl, rfl, rfl⟩) w hl fun x hx => ?_
  simp only [Rel, aF] at hx
  exact hx
def Eo : LK := [(.len (.x 0), .x 1), (.bin .neq (.x 2) (.s 0 0), .b true)]
noncomputable def aJ6 : Tab := bI ({ bB with hyp := Eo }) 38 oz [lf4]
theorem runTokA_1 (e : Nat) : okA (call aJ6 9000 38 [.x 0] ⟨H0 e , 4, 0, 0⟩) (.b true) = true := by kernel_rfl
def wR (s : LB) : List Value := [St' s, .int .i64 ((s.length : Int)), St' s]
theorem pathTokA_1 (s : LB) (b0 : s.length ≤ 9223372036854775807) (p0 : s.length ≤ 140737488355328) (h0 : s.all cw = true) (h1 : ¬ ((s.length : Int) = 0)) (w : World) (hl : aC w) : bN 38 #[St' s] w (.bool true) := by
  have ho : ∀ k r, (k, r) ∈ Eo → aL (cx (ai (wR s)) (fun j _ => aQ (l := wR s) rfl j) 1 aC aG) k r := by
    unfold Eo
    exact hc (au rfl rfl (by omega)) <|hc (ck (aA rfl) (bQ (l := ([] : LB)) 0 0 rfl) (gd (iQ (by omega)))) <|hnil
  refine bp (tb := aJ6) (ra := .b true) rfl (ar.bS ((ae (ai (wR s)) (fun j _ => aQ (l := wR s) rfl j)).hyps ho) (by omega) Hz AU (bH (bR rfl ⟨0, EO, ax.use (l := lf4) (h := lh4) (aU4 s (s.all cw) (by omega) (by assumption)) (0, (0 : Int)) (rq ⟨by omega, by omega, rfl, by omega⟩) rfl (by kernel_rfl) (ao := [(0, .x 0), (1, I6 0), (2, .x 1)]) (aj := []) (fun X => aB (v := St' s) rfl rfl (bK (show Is _ (I6 0) (.int .i64 ((0 : Int))) from bL (v := .int .i64 0) (bP _ _) (by first | rfl | (congr 1; omega))) (aB (v := .int .i64 ((s.length : Int))) rfl rfl (aI)))) (by kernel_rfl) (ak := [(2, .x 0)]) (aB (v := St' s) rfl rfl (aI)) (by kernel_rfl)⟩) bE)) rfl (cP (by omega)) Hq (fun e => runTokA_1 e ) (args := [St' s]) (by simp only [aF, Rel]; exact ⟨_, _, rfl, rfl, rfl⟩) w hl fun x hx => ?_
  simp only [Rel, aF] at hx
  exact hx
def En : LK := [(.len (.x 0), .x 1)]
def lf6 : LF := ⟨2, 24, [(0, .x 0), (2, .b false), (6, I6 0), (5, .x 1)], [], .ret, [(2, .b false)], some lh4⟩
noncomputable def aJ5 : Tab := bI ({ bB with hyp := En }) 38 oz [lf6]
theorem runTokA_2 (e : Nat) : okA (call aJ5 9000 38 [.x 0] ⟨H0 e , 4, 0, 0⟩) (.b false) = true := by kernel_rfl
def wQ (s : LB) : List Value := [St' s, .int .i64 ((s.length : Int))]
theorem pathTokA_2 (s : LB) (b0 : s.length ≤ 9223372036854775807) (p0 : s.length ≤ 140737488355328) (h0 : ¬ (s.all cw = true)) (w : World) (hl : aC w) : bN 38 #[St' s] w (.bool false) := by
  have ho : ∀ k r, (k, r) ∈ En → aL (cx (ai (wQ s)) (fun j _ => aQ (l := wQ s) rfl j) 1 aC aG) k r := by
    unfold En
    exact hc (au rfl rfl (by omega)) <|hnil
  refine bp (tb := aJ5) (ra := .b false) rfl (ar.bS ((ae (ai (wQ s)) (fun j _ => aQ (l := wQ s) rfl j)).hyps ho) (by omega) Hz AU (bH (bR rfl ⟨0, EO, ax.use (l := lf6) (h := lh4) (lfOkKa_1 s (s.all cw) (by omega) (by simpa using (by assumption : ¬ (s.all cw = true)))) (0, (0 : Int)) (rq ⟨by omega, by omega, rfl, by omega⟩) rfl (by kernel_rfl) (ao := [(0, .x 0), (1, I6 0), (2, .x 1)]) (aj := []) (fun X => aB (v := St' s) rfl rfl (bK (show Is _ (I6 0) (.int .i64 ((0 : Int))) from bL (v := .int .i64 0) (bP _ _) (by first | rfl | (congr 1; omega))) (aB (v := .int .i64 ((s.length : Int))) rfl rfl (aI)))) (by kernel_rfl) (ak := []) (aI) (by kernel_rfl)⟩) bE)) rfl (cP (by omega)) Hq (fun e => runTokA_2 e ) (args := [St' s]) (by simp only [aF, Rel]; exact ⟨_, _, rfl, rfl, rfl⟩) w hl fun x hx => ?_
  simp only [Rel, aF] at hx
  exact hx
theorem callsTokA (s : LB) (b0 : s.length ≤ 9223372036854775807) (p0 : s.length ≤ 140737488355328) (w : World) (hl : aC w) : bN 38 #[St' s] w (.bool (bY s)) := by
  by_cases h0 : s.all cw = true
  · by_cases h1 : (s.length : Int) = 0
    · rw [show (.bool (bY s) : Value) = (.bool false : Value) from by unfold bY; first | (simp [*]; done) | (congr 1; rw [h0, Bool.true_and]; first | exact decide_eq_false (by omega) | exact decide_eq_true (by omega))]
      exact pathTokA_0 s b0 p0 h0 h1 w hl
    · rw [show (.bool (bY s) : Value) = (.bool true : Value) from by unfold bY; first | (simp [*]; done) | (congr 1; rw [h0, Bool.true_and]; first | exact decide_eq_false (by omega) | exact decide_eq_true (by omega))]
      exact pathTokA_1 s b0 p0 h0 h1 w hl
  · rw [show (.bool (bY s) : Value) = (.bool false : Value) from by unfold bY; first | (simp [*]; done) | (congr 1; rw [h0, Bool.true_and]; first | exact decide_eq_false (by omega) | exact decide_eq_true (by omega))]
    exact pathTokA_2 s b0 p0 h0 w hl
theorem gQ {x0 r : AV} {s : LB} (i0 : Is (cx nu one 1 aC aG) x0 (St' s)) (hr : Den (cx nu one 1 aC aG) r (.bool (bY s))) (b0 : s.length ≤ 9223372036854775807 := by omega) (p0 : s.length ≤ 140737488355328 := by omega) : aL (cx nu one 1 aC aG) (.call 38 [x0]) r := by
  intro ρ args ha w hl _
  simp only [aF] at ha
  obtain ⟨v0, t0, rfl, a0, rfl⟩ := ha
  have e0 := i0 ρ _ a0; subst e0
  exact (callsTokA s b0 p0 w hl).mono fun e w' he => ⟨_, he.1, hr ρ, he.2⟩
noncomputable def A5 : Code := cS (Tryd.f29.body.getD .skip) 0
theorem EN : cU (br (Tryd.f29.body.getD .skip)) 2 0 0 = true := by kernel_rfl
def kz : List Nat := []
def pS : LA := [(0, .x 0), (2, .b false), (3, .x 1)]
def oh : LE := []
def xG (s : LB) (A : Bool) (i : Int) : List Value := [St' s, .int .i64 (i), .int .i64 ((s.length : Int)), .int .i64 ((s.length : Int)), .int .u8 (bt s i.toNat), .int .i64 (i + 1), .int .i64 ((s.length : Int)), .int .u8 (bt s i.toNat), .int .i64 (i + 1), .int .i64 ((s.length : Int)), .int .u8 (bt s i.toNat), .int .i64 (i + 1), .int .i64 ((s.length : Int)), .int .u8 (bt s i.toNat), .int .i64 (i + 1), .int .i64 ((s.length : Int)), .int .u8 (bt s i.toNat)]
def roKr_0 (s : LB) (A : Bool) (i : Int) : List Value := []
def pT (st : Nat × Int) : LA := pS
def zo (st : Nat × Int) : LE := oh
def nuKr (s : LB) (A : Bool) (st : Nat × Int) : List Value := xG s A (st.2)
def roKr (s : LB) (A : Bool) (st : Nat × Int) : List Value := roKr_0 s A (st.2)
theorem onKr (s : LB) (A : Bool) (st : Nat × Int) : ∀ j, (ai (nuKr s A st) j).oneCell' = true := by
  intro j
  unfold nuKr
  exact aQ (l := xG s A (st.2)) rfl j
theorem ebKr (st : Nat × Int) : (cG (pT st) && cO kz) = true := by
  unfold pT
  rfl
noncomputable def DKr (s : LB) (A : Bool) (st : Nat × Int) (X : Nat → Value) : Cx := cx (af (nuKr s A st) (rX (roKr s A st) X)) (ah (onKr s A st)) 1 aC aG
abbrev CjKr (s : LB) (A : Bool) (tag : Nat) (i : Int) : Prop := (0 ≤ i) ∧ (i ≤ (s.length : Int)) ∧ ((s.drop i.toNat).all cw = A) ∧ (tag < 1)
def gn (s : LB) (A : Bool) (st : Nat × Int) : Prop := CjKr s A st.1 (st.2)
theorem mR {s : LB} {A : Bool} {tag : Nat} {i : Int} (h : CjKr s A tag i) : gn s A (tag, i) := h
theorem nZ (s : LB) (A : Bool) (tag : Nat) (i : Int) (h : gn s A (tag, i)) : CjKr s A tag i := h
def rV (s : LB) (A : Bool) (st : Nat × Int) : Nat := (s.length - (st.2).toNat)
abbrev lv (s : LB) (A : Bool) (E' : Cx) (ex' : Ex) (epx' : LA) (hpx' : LE) (st : Nat × Int) (X : Nat → Value) : Prop := a6 E' A5 kz 37 ex' 4 4 4 4 pT zo epx' hpx' (gn s A) (rV s A) (DKr s A) st X
noncomputable abbrev B9 (s : LB) (A : Bool) (i : Int) (X : Nat → Value) : Cx := cx (af (xG s A i) (rX (roKr_0 s A i) X)) (ah (aQ (l := xG s A i) rfl)) 1 aC aG
noncomputable abbrev lu (h : LK) (x : Ex) (th : LA) (sg : List (Nat × Nat)) (m : Nat) (ep : LA) (hp : LE) : Bool := bn (code (aV h) 900 [] A5 (bc (bf pS kz) 37) ⟨ay oh .leaf, 4, 0, 0⟩) x kz 37 4 th sg 4 m ep hp
theorem vw {s : LB} {A : Bool} {i : Int} {X : Nat → Value} {h : LK} (y : Nat × Int) {th : LA} {sg : List (Nat × Nat)} (ho : ∀ a' r', (a', r') ∈ h → aL (B9 s A i X) a' r') (hy : gn s A y) (lt : rV s A y < rV s A (0, i)) (ht : aw (B9 s A i X) (DKr s A y X) th) (run : lu h .normal th sg 4 (pT y) (zo y) = true) : lv s A E' x' e' h' (0, i) X :=
  a6.next (tb := aV h) (L := []) (f := 900) y ((ae _ _).hyps ho) (bA.nil _) rfl hy lt ht run
theorem lvKr_0 {s : LB} {A : Bool} {i : Int} {X : Nat → Value} {h : LK} {th : LA} {sg : List (Nat × Nat)} (hne : cI x' .normal = false) (ho : ∀ a' r', (a', r') ∈ h → aL (B9 s A i X) a' r') (ht : aw (B9 s A i X) E' th) (run : lu h x' th sg 4 e' h' = true) : lv s A E' x' e' h' (0, i) X :=
  a6.leave (tb := aV h) (L := []) (f := 900) ((ae _ _).hyps ho) (bA.nil _) rfl hne ht run
def GM : LK := [(.len (.x 0), .x 2), (.bin .lss (.x 1) (.x 2), .b false)]
theorem runKr_p0 : lu GM (.exit 0) [(0, .x 0)] [] 4 [(0, .x 0), (2, .b false)] [] = true := by kernel_rfl
def GL : LK := [(.len (.x 0), .x 3), (.bin .lss (.x 1) (.x 3), .b true), (.idx (.x 0) (.x 1), .x 4), (.call 44 [.x 4], .b true), (.bin .add (.x 1) (I6 1), .x 5)]
theorem runKr_p1 : lu GL .normal [(0, .x 0), (1, .x 5)] [] 4 pS oh = true := by kernel_rfl
def GK : LK := [(.len (.x 0), .x 6), (.bin .lss (.x 1) (.x 6), .b true), (.idx (.x 0) (.x 1), .x 7), (.call 44 [.x 7], .b false), (.call 45 [.x 7], .b true), (.bin .add (.x 1) (I6 1), .x 8)]
theorem runKr_p2 : lu GK .normal [(0, .x 0), (1, .x 8)] [] 4 pS oh = true := by kernel_rfl
def GJ : LK := [(.len (.x 0), .x 9), (.bin .lss (.x 1) (.x 9), .b true), (.idx (.x 0) (.x 1), .x 10), (.call 44 [.x 10], .b false), (.call 45 [.x 10], .b false), (.call 46 [.x 10, .s 14 2565437417144901394872482436227873], .b true), (.bin .add (.x 1) (I6 1), .x 11)]
theorem runKr_p3 : lu GJ .normal [(0, .x 0), (1, .x 11)] [] 4 pS oh = true := by kernel_rfl
def GI : LK := [(.len (.x 0), .x 12), (.bin .lss (.x 1) (.x 12), .b true), (.idx (.x 0) (.x 1), .x 13), (.call 44 [.x 13], .b false), (.call 45 [.x 13], .b false), (.call 46 [.x 13, .s 14 2565437417144901394872482436227873], .b false), (.bin .neq (.x 13) (.i .u8 (.ofNat 96)), .b false), (.bin .add (.x 1) (I6 1), .x 14)]
theorem runKr_p4 : lu GI .normal [(0, .x 0), (1, .x 14)] [] 4 pS oh = true := by kernel_rfl
def GH : LK := [(.len (.x 0), .x 15), (.bin .lss (.x 1) (.x 15), .b true), (.idx (.x 0) (.x 1), .x 16), (.call 44 [.x 16], .b false), (.call 45 [.x 16], .b false), (.call 46 [.x 16, .s 14 2565437417144901394872482436227873], .b false), (.bin .neq (.x 16) (.i .u8 (.ofNat 96)), .b true)]
theorem runKr_p5 : lu GH .ret [] [] 4 [(2, .b false)] [] = true := by kernel_rfl
section
set_option linter.unusedSectionVars false
variable {s : LB} {A : Bool} (c0 : s.length ≤ 140737488355328) {i : Int} {X : Nat → Value}
include c0
theorem bB5 (hI : gn s A (0, i)) (h0 : i < (s.length : Int)) (h1 : tb8 fo (bt s i.toNat) = true) : lv s A E' x' e' h' (0, i) X := by
  obtain ⟨i0, i1, i2, it⟩ := nZ s A 0 i hI
  have := bF s i.toNat; have := bG s i.toNat
  refine vw (h := GL) (0, (i + 1)) ?_ (mR ⟨by omega, by omega, nj (by omega) (by omega) (by first | exact vk (bF _ _) (bG _ _) (by assumption) | exact vj (bF _ _) (bG _ _) (by assumption) | exact vg (bF _ _) (bG _ _) (by assumption) | exact vf (bF _ _) (bG _ _) (by omega)) i2, by omega⟩) (by show s.length - (i + 1).toNat < s.length - i.toNat; omega) (aB (v := St' s) rfl rfl (bT (b := ((i + 1))) rfl rfl (by omega) (aI))) runKr_p1
  unfold GL
  exact hc (au rfl rfl (by omega)) <|hc (ba rfl rfl (by omega)) <|hc (cm rfl rfl rfl (by omega)) <|hc (tF (aA rfl) (by omega) (by omega) (cM (by assumption))) <|hc (bO rfl rfl (by omega)) <|hnil
theorem bB4 (hI : gn s A (0, i)) (h0 : i < (s.length : Int)) (h1 : ¬ (tb8 fo (bt s i.toNat) = true)) (h2 : tb8 gm (bt s i.toNat) = true) : lv s A E' x' e' h' (0, i) X := by
  obtain ⟨i0, i1, i2, it⟩ := nZ s A 0 i hI
  have := bF s i.toNat; have := bG s i.toNat
  refine vw (h := GK) (0, (i + 1)) ?_ (mR ⟨by omega, by omega, nj (by omega) (by omega) (by first | exact vk (bF _ _) (bG _ _) (by assumption) | exact vj (bF _ _) (bG _ _) (by assumption) | exact vg (bF _ _) (bG _ _) (by assumption) | exact vf (bF _ _) (bG _ _) (by omega)) i2, by omega⟩) (by show s.length - (i + 1).toNat < s.length - i.toNat; omega) (aB (v := St' s) rfl rfl (bT (b := ((i + 1))) rfl rfl (by omega) (aI))) runKr_p2
  unfold GK
  exact hc (au rfl rfl (by omega)) <|hc (ba rfl rfl (by omega)) <|hc (cm rfl rfl rfl (by omega)) <|hc (tF (aA rfl) (by omega) (by omega) (dh (by assumption))) <|hc (z6 (aA rfl) (by omega) (by omega) (cM (by assumption))) <|hc (bO rfl rfl (by omega)) <|hnil
theorem bB3 (hI : gn s A (0, i)) (h0 : i < (s.length : Int)) (h1 : ¬ (tb8 fo (bt s i.toNat) = true)) (h2 : ¬ (tb8 gm (bt s i.toNat) = true)) (h3 : tb8 iI (bt s i.toNat) = true) : lv s A E' x' e' h' (0, i) X := by
  obtain ⟨i0, i1, i2, it⟩ := nZ s A 0 i hI
  have := bF s i.toNat; have := bG s i.toNat
  refine vw (h := GJ) (0, (i + 1)) ?_ (mR ⟨by omega, by omega, nj (by omega) (by omega) (by first | exact vk (bF _ _) (bG _ _) (by assumption) | exact vj (bF _ _) (bG _ _) (by assumption) | exact vg (bF _ _) (bG _ _) (by assumption) | exact vf (bF _ _) (bG _ _) (by omega)) i2, by omega⟩) (by show s.length - (i + 1).toNat < s.length - i.toNat; omega) (aB (v := St' s) rfl rfl (bT (b := ((i + 1))) rfl rfl (by omega) (aI))) runKr_p3
  unfold GJ
  exact hc (au rfl rfl (by omega)) <|hc (ba rfl rfl (by omega)) <|hc (cm rfl rfl rfl (by omega)) <|hc (tF (aA rfl) (by omega) (by omega) (dh (by assumption))) <|hc (z6 (aA rfl) (by omega) (by omega) (dh (by assumption))) <|hc (HX (aA rfl) (bQ (l := [u8 33, u8 35, u8 36, u8 37, u8 38, u8 39, u8 42, u8 43, u8 45, u8 46, u8 94, u8 95, u8 124, u8 126]) 14 2565437417144901394872482436227873 rfl) (by omega) (by omega) (cM (by assumption))) <|hc (bO rfl rfl (by omega)) <|hnil
theorem bB0 (hI : gn s A (0, i)) (h0 : i < (s.length : Int)) (h1 : ¬ (tb8 fo (bt s i.toNat) = true)) (h2 : ¬ (tb8 gm (bt s i.toNat) = true)) (h3 : ¬ (tb8 iI (bt s i.toNat) = true)) (h4 : bt s i.toNat = 96) : lv s A E' x' e' h' (0, i) X := by
  obtain ⟨i0, i1, i2, it⟩ := nZ s A 0 i hI
  have := bF s i.toNat; have := bG s i.toNat
  refine vw (h := GI) (0, (i + 1)) ?_ (mR ⟨by omega, by omega, nj (by omega) (by omega) (by first | exact vk (bF _ _) (bG _ _) (by assumption) | exact vj (bF _ _) (bG _ _) (by assumption) | exact vg (bF _ _) (bG _ _) (by assumption) | exact vf (bF _ _) (bG _ _) (by omega)) i2, by omega⟩) (by show s.length - (i + 1).toNat < s.length - i.toNat; omega) (aB (v := St' s) rfl rfl (bT (b := ((i + 1))) rfl rfl (by omega) (aI))) runKr_p4
  unfold GI
  exact hc (au rfl rfl (by omega)) <|hc (ba rfl rfl (by omega)) <|hc (cm rfl rfl rfl (by omega)) <|hc (tF (aA rfl) (by omega) (by omega) (dh (by assumption))) <|hc (z6 (aA rfl) (by omega) (by omega) (dh (by assumption))) <|hc (HX (aA rfl) (bQ (l := [u8 33, u8 35, u8 36, u8 37, u8 38, u8 39, u8 42, u8 43, u8 45, u8 46, u8 94, u8 95, u8 124, u8 126]) 14 2565437417144901394872482436227873 rfl) (by omega) (by omega) (dh (by assumption))) <|hc (necF rfl (by omega)) <|hc (bO rfl rfl (by omega)) <|hnil
end
def bD4 (s : LB) (A : Bool) : List Value := [St' s]
def roEKr_0 (s : LB) (A : Bool) : List Value := []
noncomputable def EKr_0 (s : LB) (A : Bool) : Cx := cx (af (bD4 s A) (rX (roEKr_0 s A) (fun _ => .bool true))) (ah (aQ (l := bD4 s A) rfl)) 1 aC aG
theorem roundsKr_0 (s : LB) (A : Bool) (c0 : s.length ≤ 140737488355328) (x0 : A = true) (st : Nat × Int) (X : Nat → Value) (hI : gn s A st) : lv s A (EKr_0 s A) (.exit 0) [(0, .x 0), (2, .b false)] [] st X := by
  obtain ⟨tag, i⟩ := st
  have hI0 := hI
  obtain ⟨i0, i1, i2, it⟩ := nZ s A tag i hI
  obtain rfl : tag = 0 := by omega
  skip
  by_cases h0 : i < (s.length : Int)
  · by_cases h1 : tb8 fo (bt s i.toNat) = true
    · exact bB5 c0 hI0 h0 h1
    · by_cases h2 : tb8 gm (bt s i.toNat) = true
      · exact bB4 c0 hI0 h0 h1 h2
      · by_cases h3 : tb8 iI (bt s i.toNat) = true
        · exact bB3 c0 hI0 h0 h1 h2 h3
        · by_cases h4 : bt s i.toNat = 96
          · exact bB0 c0 hI0 h0 h1 h2 h3 h4
          · exfalso; have e := tk_no (by omega) (by omega) (tkR5 (bF _ _) (bG _ _) (by assumption) (by assumption) (by assumption) (by assumption)) i2; rw [e] at x0; exact absurd x0 (by simp)
  · skip
    refine lvKr_0 (h := GM) rfl ?_ (aB (v := St' s) rfl rfl (aI)) runKr_p0
    unfold GM
    exact hc (au rfl rfl (by omega)) <|hc (dB rfl rfl (by omega)) <|hnil
theorem aU3 (s : LB) (A : Bool) (c0 : s.length ≤ 140737488355328) (x0 : A = true) : ax (cx nu one 1 aC aG) (EKr_0 s A) A5 kz 37 (.exit 0) 4 4 4 4 pT zo [(0, .x 0), (2, .b false)] [] (gn s A) (DKr s A) :=
  cF (rV s A) (fun _ _ => rfl) (fun _ _ => rfl) (fun _ _ => rfl) (fun st X t ht => cE.trans (cD ((by decide : ∀ t, t ∈ kz → t < 1000000) t ht))) rfl rfl rfl ebKr rfl rfl (roundsKr_0 s A c0 x0)
def bD3 (s : LB) (A : Bool) : List Value := []
def roEKr_1 (s : LB) (A : Bool) : List Value := []
noncomputable def EKr_1 (s : LB) (A : Bool) : Cx := cx (af (bD3 s A) (rX (roEKr_1 s A) (fun _ => .bool true))) (ah (aQ (l := bD3 s A) rfl)) 1 aC aG
theorem roundsKr_1 (s : LB) (A : Bool) (c0 : s.length ≤ 140737488355328) (x0 : A = false) (st : Nat × Int) (X : Nat → Value) (hI : gn s A st) : lv s A (EKr_1 s A) .ret [(2, .b false)] [] st X := by
  obtain ⟨tag, i⟩ := st
  have hI0 := hI
  obtain ⟨i0, i1, i2, it⟩ := nZ s A tag i hI
  obtain rfl : tag = 0 := by omega
  skip
  by_cases h0 : i < (s.length : Int)
  · by_cases h1 : tb8 fo (bt s i.toNat) = true
    · exact bB5 c0 hI0 h0 h1
    · by_cases h2 : tb8 gm (bt s i.toNat) = true
      · exact bB4 c0 hI0 h0 h1 h2
      · by_cases h3 : tb8 iI (bt s i.toNat) = true
        · exact bB3 c0 hI0 h0 h1 h2 h3
        · by_cases h4 : bt s i.toNat = 96
          · exact bB0 c0 hI0 h0 h1 h2 h3 h4
          · skip
            have := bF s i.toNat; have := bG s i.toNat
            refine lvKr_0 (h := GH) rfl ?_ (aI) runKr_p5
            unfold GH
            exact hc (au rfl rfl (by omega)) <|hc (ba rfl rfl (by omega)) <|hc (cm rfl rfl rfl (by omega)) <|hc (tF (aA rfl) (by omega) (by omega) (dh (by assumption))) <|hc (z6 (aA rfl) (by omega) (by omega) (dh (by assumption))) <|hc (HX (aA rfl) (bQ (l := [u8 33, u8 35, u8 36, u8 37, u8 38, u8 39, u8 42, u8 43, u8 45, u8 46, u8 94, u8 95, u8 124, u8 126]) 14 2565437417144901394872482436227873 rfl) (by omega) (by omega) (dh (by assumption))) <|hc (necT rfl (by omega)) <|hnil
  · exfalso; have e := tk_end (by omega) i2; rw [e] at x0; exact absurd x0 (by simp)
theorem lfOkKr_1 (s : LB) (A : Bool) (c0 : s.length ≤ 140737488355328) (x0 : A = false) : ax (cx nu one 1 aC aG) (EKr_1 s A) A5 kz 37 .ret 4 4 4 4 pT zo [(2, .b false)] [] (gn s A) (DKr s A) :=
  cF (rV s A) (fun _ _ => rfl) (fun _ _ => rfl) (fun _ _ => rfl) (fun st X t ht => cE.trans (cD ((by decide : ∀ t, t ∈ kz → t < 1000000) t ht))) rfl rfl rfl ebKr rfl rfl (roundsKr_1 s A c0 x0)
noncomputable def o5 : FI := (bB.fn.get 29).getD default
theorem H3 : bB.fn.get 29 = some o5 := by kernel_rfl
theorem AZ : o5.body = some (Tryd.f29.body.getD .skip) := by kernel_rfl
theorem Hr : o5.body.isSome = true := by rw [AZ]; rfl
def Em : LK := [(.bin .neq (.x 1) (.s 0 0), .b false)]
def sH : LH := ⟨4, 4, 4, [], []⟩
def lf11 : LF := ⟨2, 37, [(0, .x 0), (2, .b false), (3, I6 0)], [], (.exit 0), [(0, .x 1), (2, .b false)], some sH⟩
noncomputable def aJ4 : Tab := bI ({ bB with hyp := Em }) 29 o5 [lf11]
theorem runTokR_0 (e : Nat) : okA (call aJ4 9000 29 [.x 0] ⟨H0 e , 4, 0, 0⟩) (.b false) = true := by kernel_rfl
def wP (s : LB) : List Value := [St' s, St' s]
theorem pathTokR_0 (s : LB) (b0 : s.length ≤ 9223372036854775807) (p0 : s.length ≤ 140737488355328) (h0 : s.all cw = true) (h1 : (s.length : Int) = 0) (w : World) (hl : aC w) : bN 29 #[St' s] w (.bool false) := by
  have ho : ∀ k r, (k, r) ∈ Em → aL (cx (ai (wP s)) (fun j _ => aQ (l := wP s) rfl j) 1 aC aG) k r := by
    unfold Em
    exact hc (ck (aA rfl) (bQ (l := ([] : LB)) 0 0 rfl) (ev (gG (by omega)))) <|hnil
  refine bp (tb := aJ4) (ra := .b false) rfl (ar.bS ((ae (ai (wP s)) (fun j _ => aQ (l := wP s) rfl j)).hyps ho) (by omega) H3 AZ (bH (bR rfl ⟨0, EN, ax.use (l := lf11) (h := sH) (aU3 s (s.all cw) (by omega) (by assumption)) (0, (0 : Int)) (mR ⟨by omega, by omega, rfl, by omega⟩) rfl (by kernel_rfl) (ao := [(0, .x 0), (1, I6 0)]) (aj := []) (fun X => aB (v := St' s) rfl rfl (bK (show Is _ (I6 0) (.int .i64 ((0 : Int))) from bL (v := .int .i64 0) (bP _ _) (by first | rfl | (congr 1; omega))) (aI))) (by kernel_rfl) (ak := [(1, .x 0)]) (aB (v := St' s) rfl rfl (aI)) (by kernel_rfl)⟩) bE)) rfl (cP (by omega)) Hr (fun e => runTokR_0 e ) (args := [St' s]) (by simp only [aF, Rel]; exact ⟨_, _, rfl, rfl, rfl⟩) w hl fun x hx => ?_
  simp only [Rel, aF] at hx
  exact hx
def El : LK := [(.bin .neq (.x 1) (.s 0 0), .b true)]
noncomputable def aJ3 : Tab := bI ({ bB with hyp := El }) 29 o5 [lf11]
theorem runTokR_1 (e : Nat) : okA (call aJ3 9000 29 [.x 0] ⟨H0 e , 4, 0, 0⟩) (.b true) = true := by kernel_rfl
def wO (s : LB) : List Value := [St' s, St' s]
theorem pathTokR_1 (s : LB) (b0 : s.length ≤ 9223372036854775807) (p0 : s.length ≤ 140737488355328) (h0 : s.all cw = true) (h1 : ¬ ((s.length : Int) = 0)) (w : World) (hl : aC w) : bN 29 #[St' s] w (.bool true) := by
  have ho : ∀ k r, (k, r) ∈ El → aL (cx (ai (wO s)) (fun j _ => aQ (l := wO s) rfl j) 1 aC aG) k r := by
    unfold El
    exact hc (ck (aA rfl) (bQ (l := ([] : LB)) 0 0 rfl) (gd (iQ (by omega)))) <|hnil
  refine bp (tb := aJ3) (ra := .b true) rfl (ar.bS ((ae (ai (wO s)) (fun j _ => aQ (l := wO s) rfl j)).hyps ho) (by omega) H3 AZ (bH (bR rfl ⟨0, EN, ax.use (l := lf11) (h := sH) (aU3 s (s.all cw) (by omega) (by assumption)) (0, (0 : Int)) (mR ⟨by omega, by omega, rfl, by omega⟩) rfl (by kernel_rfl) (ao := [(0, .x 0), (1, I6 0)]) (aj := []) (fun X => aB (v := St' s) rfl rfl (bK (show Is _ (I6 0) (.int .i64 ((0 : Int))) from bL (v := .int .i64 0) (bP _ _) (by first | rfl | (congr 1; omega))) (aI))) (by kernel_rfl) (ak := [(1, .x 0)]) (aB (v := St' s) rfl rfl (aI)) (by kernel_rfl)⟩) bE)) rfl (cP (by omega)) Hr (fun e => runTokR_1 e ) (args := [St' s]) (by simp only [aF, Rel]; exact ⟨_, _, rfl, rfl, rfl⟩) w hl fun x hx => ?_
  simp only [Rel, aF] at hx
  exact hx
def Ek : LK := []
def lf13 : LF := ⟨2, 37, [(0, .x 0), (2, .b false), (3, I6 0)], [], .ret, [(2, .b false)], some sH⟩
noncomputable def aJ2 : Tab := bI ({ bB with hyp := Ek }) 29 o5 [lf13]
theorem runTokR_2 (e : Nat) : okA (call aJ2 9000 29 [.x 0] ⟨H0 e , 4, 0, 0⟩) (.b false) = true := by kernel_rfl
def wN (s : LB) : List Value := [St' s]
theorem pathTokR_2 (s : LB) (b0 : s.length ≤ 9223372036854775807) (p0 : s.length ≤ 140737488355328) (h0 : ¬ (s.all cw = true)) (w : World) (hl : aC w) : bN 29 #[St' s] w (.bool false) := by
  have ho : ∀ k r, (k, r) ∈ Ek → aL (cx (ai (wN s)) (fun j _ => aQ (l := wN s) rfl j) 1 aC aG) k r := by
    unfold Ek
    exact hnil
  refine bp (tb := aJ2) (ra := .b false) rfl (ar.bS ((ae (ai (wN s)) (fun j _ => aQ (l := wN s) rfl j)).hyps ho) (by omega) H3 AZ (bH (bR rfl ⟨0, EN, ax.use (l := lf13) (h := sH) (lfOkKr_1 s (s.all cw) (by omega) (by simpa using (by assumption : ¬ (s.all cw = true)))) (0, (0 : Int)) (mR ⟨by omega, by omega, rfl, by omega⟩) rfl (by kernel_rfl) (ao := [(0, .x 0), (1, I6 0)]) (aj := []) (fun X => aB (v := St' s) rfl rfl (bK (show Is _ (I6 0) (.int .i64 ((0 : Int))) from bL (v := .int .i64 0) (bP _ _) (by first | rfl | (congr 1; omega))) (aI))) (by kernel_rfl) (ak := []) (aI) (by kernel_rfl)⟩) bE)) rfl (cP (by omega)) Hr (fun e => runTokR_2 e ) (args := [St' s]) (by simp only [aF, Rel]; exact ⟨_, _, rfl, rfl, rfl⟩) w hl fun x hx => ?_
  simp only [Rel, aF] at hx
  exact hx
theorem callsTokR (s : LB) (b0 : s.length ≤ 9223372036854775807) (p0 : s.length ≤ 140737488355328) (w : World) (hl : aC w) : bN 29 #[St' s] w (.bool (bY s)) := by
  by_cases h0 : s.all cw = true
  · by_cases h1 : (s.length : Int) = 0
    · rw [show (.bool (bY s) : Value) = (.bool false : Value) from by unfold bY; first | (simp [*]; done) | (congr 1; rw [h0, Bool.true_and]; first | exact decide_eq_false (by omega) | exact decide_eq_true (by omega))]
      exact pathTokR_0 s b0 p0 h0 h1 w hl
    · rw [show (.bool (bY s) : Value) = (.bool true : Value) from by unfold bY; first | (simp [*]; done) | (congr 1; rw [h0, Bool.true_and]; first | exact decide_eq_false (by omega) | exact decide_eq_true (by omega))]
      exact pathTokR_1 s b0 p0 h0 h1 w hl
  · rw [show (.bool (bY s) : Value) = (.bool false : Value) from by unfold bY; first | (simp [*]; done) | (congr 1; rw [h0, Bool.true_and]; first | exact decide_eq_false (by omega) | exact decide_eq_true (by omega))]
    exact pathTokR_2 s b0 p0 h0 w hl
theorem hZ {x0 r : AV} {s : LB} (i0 : Is (cx nu one 1 aC aG) x0 (St' s)) (hr : Den (cx nu one 1 aC aG) r (.bool (bY s))) (b0 : s.length ≤ 9223372036854775807 := by omega) (p0 : s.length ≤ 140737488355328 := by omega) : aL (cx nu one 1 aC aG) (.call 29 [x0]) r := by
  intro ρ args ha w hl _
  simp only [aF] at ha
  obtain ⟨v0, t0, rfl, a0, rfl⟩ := ha
  have e0 := i0 ρ _ a0; subst e0
  exact (callsTokR s b0 p0 w hl).mono fun e w' he => ⟨_, he.1, hr ρ, he.2⟩
end Go.Proofs.YtjkdkpdjmapieaaDoor.fieldTells

