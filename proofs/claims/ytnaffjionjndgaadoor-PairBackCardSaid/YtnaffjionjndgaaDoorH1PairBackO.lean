/- A part of the proof: an interpreter of the model's own code on partly known states, and that what it answers is what the program answers. No condition of its own. -/
import Derived.Test.YtnaffjionjndgaaDoorSeatH1
import Derived.Test.YtnaffjionjndgaaDoorHXpart4
import Derived.Test.YtnaffjionjndgaaDoorAXro
import Derived.Test.YtnaffjionjndgaaDoorHKA
import Derived.Test.YtnaffjionjndgaaDoorHKI
import Derived.Test.YtnaffjionjndgaaDoorHKJ
import Derived.Test.YtnaffjionjndgaaDoorHKK
import Derived.Test.YtnaffjionjndgaaDoorCT
import Derived.Test.YtnaffjionjndgaaDoorPT
import Derived.Test.YtnaffjionjndgaaDoorAXcf
set_option maxRecDepth 100000
set_option linter.unusedVariables false
set_option linter.unusedSimpArgs false
namespace Go.Proofs.YtnaffjionjndgaaDoor.pairBack
open Go Go.AX Go.Proofs Go.Proofs.YtnaffjionjndgaaDoor
def laidE0 (w : World) : Prop := ∃ e fz, w.heap[0]? = some (.cells ⟨[.iface 70 (.agg #[typeHandle Tryd.prog 29])]⟩ e fz)
theorem laidE0_same {w w' : World} (h : laidE0 w) (hh : w'.heap[0]? = w.heap[0]?) : laidE0 w' := by
  obtain ⟨e, fz, hw⟩ := h
  exact ⟨e, fz, by rw [hh]; exact hw⟩
theorem laidE0_size {w : World} (h : laidE0 w) : 0 < w.heap.size := by
  obtain ⟨e, fz, hw⟩ := h
  rcases Nat.lt_or_ge 0 w.heap.size with h0 | h0
  · exact h0
  · rw [Array.getElem?_eq_none h0] at hw; cases hw
theorem geOf {C : Cx} {w : World} (hP : C.P = Tryd.prog) (h : laidE0 w) : ∃ e, GArr C w 0 e [.ifc 70 (.ag [.h 29])] := by
  obtain ⟨e, fz, h0⟩ := h
  refine ⟨e, _, fz, h0, rfl, fun j a hj => ?_⟩
  match j, hj with
  | 0, hj =>
    simp only [List.getElem?_cons_zero, Option.some.injEq] at hj
    subst hj
    refine ⟨.iface 70 (.agg #[typeHandle Tryd.prog 29]), rfl, ?_, rfl⟩
    simp only [Rel, RelL, hP]
    exact ⟨_, rfl, _, rfl, _, _, rfl, rfl, rfl⟩
  | j + 1, hj => simp at hj
/-- the variables that the runs read are laid -/
def laidE (w : World) : Prop := laidE0 w
theorem laidE_stab : ∀ w w' : World, (∀ k, k < 1 → w'.heap[k]? = w.heap[k]?) → laidE w → laidE w' := fun w w' h hE => laidE0_same hE (h 0 (by omega))
theorem laidE_size {w : World} (h : laidE w) : 1 ≤ w.heap.size := by
  have hE := h
  have := laidE0_size hE
  omega
noncomputable def H0 (e : Nat) : T Ent := T.set .leaf 0 (gBlk e (.l [.ifc 70 (.ag [.h 29])]))
theorem runP {nu : Nat → Value} {one : ∀ i, i < 1000000 → (nu i).oneCell' = true} {tb : Tab} (h : AllOk (cx nu one 1 laidE laidE_stab) tb) (hng : tb.ng = 4) {f g : Nat} {fi : FI} (hfi : tb.fn.get g = some fi) (hb : fi.body.isSome = true) {l : List AV} {args : List Value}
    (hr : ∀ e, okB (call tb f g l ⟨H0 e , 4, 0, 0⟩) = true) (hl : RelL (cx nu one 1 laidE laidE_stab) (fun _ => none) l args) (w : World) (hw : laidE w) :
    Calls Tryd.prog g ⟨args⟩ w fun e w' => e = .returned (.bool true) ∧ Go.AX.Below (Go.AX.Fz.lt w.heap.size) w w' := by
  have hE := id hw
  obtain ⟨e, g0⟩ := geOf (C := cx nu one 1 laidE laidE_stab) rfl hE
  obtain ⟨S, hS⟩ := okB_inv (hr e)
  refine (run_okG h (H := H0 e ) hfi hb (by rw [hng]; exact hS) hl w hw (laidE_size hw) fun v k hv => ?_).mono fun e' w' he => ?_
  · unfold H0 at hv
    rw [get_set _ _ _ _ (by omega)] at hv
    split at hv
    · rename_i e0; subst e0; injection hv with hv; subst hv
      exact ⟨by rw [hng]; omega, e, _, _, rfl, ⟨trivial, rfl⟩, g0⟩
    simp [T.get_leaf] at hv
  · obtain ⟨x, ρ, rfl, hx, hb⟩ := he
    simp only [Rel] at hx
    exact ⟨by rw [hx], hb⟩
theorem runS {nu : Nat → Value} {one : ∀ i, i < 1000000 → (nu i).oneCell' = true} {tb : Tab} (h : AllOk (cx nu one 1 laidE laidE_stab) tb) (hng : tb.ng = 4) {f g : Nat} {fi : FI} (hfi : tb.fn.get g = some fi) (hb : fi.body.isSome = true) {l : List AV} {args : List Value} {len n : Nat}
    (hr : ∀ e, okS (call tb f g l ⟨H0 e , 4, 0, 0⟩) len n = true) (hl : RelL (cx nu one 1 laidE laidE_stab) (fun _ => none) l args) (w : World) (hw : laidE w) :
    Calls Tryd.prog g ⟨args⟩ w fun e w' => e = .returned (St' (strB len n)) ∧ Go.AX.Below (Go.AX.Fz.lt w.heap.size) w w' := by
  have hE := id hw
  obtain ⟨e, g0⟩ := geOf (C := cx nu one 1 laidE laidE_stab) rfl hE
  obtain ⟨S, hS⟩ := okS_inv (hr e)
  refine (run_okG h (H := H0 e ) hfi hb (by rw [hng]; exact hS) hl w hw (laidE_size hw) fun v k hv => ?_).mono fun e' w' he => ?_
  · unfold H0 at hv
    rw [get_set _ _ _ _ (by omega)] at hv
    split at hv
    · rename_i e0; subst e0; injection hv with hv; subst hv
      exact ⟨by rw [hng]; omega, e, _, _, rfl, ⟨trivial, rfl⟩, g0⟩
    simp [T.get_leaf] at hv
  · obtain ⟨x, ρ, rfl, hx, hb⟩ := he
    simp only [Rel] at hx
    exact ⟨by rw [hx.1], hb⟩
theorem runA {nu : Nat → Value} {one : ∀ i, i < 1000000 → (nu i).oneCell' = true} {tb : Tab} (h : AllOk (cx nu one 1 laidE laidE_stab) tb) (hng : tb.ng = 4) {f g : Nat} {fi : FI} (hfi : tb.fn.get g = some fi) (hb : fi.body.isSome = true) {l : List AV} {args : List Value} {ra : AV} (hnr : noR 8 ra = true)
    (hr : ∀ e, okA (call tb f g l ⟨H0 e , 4, 0, 0⟩) ra = true) (hl : RelL (cx nu one 1 laidE laidE_stab) (fun _ => none) l args) (w : World) (hw : laidE w) :
    Calls Tryd.prog g ⟨args⟩ w fun e w' => ∃ x, e = .returned x ∧ Rel (cx nu one 1 laidE laidE_stab) (fun _ => none) ra x ∧ Go.AX.Below (Go.AX.Fz.lt w.heap.size) w w' := by
  have hE := id hw
  obtain ⟨e, g0⟩ := geOf (C := cx nu one 1 laidE laidE_stab) rfl hE
  obtain ⟨S, hS⟩ := okA_inv (hr e)
  refine (run_okG h (H := H0 e ) hfi hb (by rw [hng]; exact hS) hl w hw (laidE_size hw) fun v k hv => ?_).mono fun e' w' he => ?_
  · unfold H0 at hv
    rw [get_set _ _ _ _ (by omega)] at hv
    split at hv
    · rename_i e0; subst e0; injection hv with hv; subst hv
      exact ⟨by rw [hng]; omega, e, _, _, rfl, ⟨trivial, rfl⟩, g0⟩
    simp [T.get_leaf] at hv
  · obtain ⟨x, ρ, rfl, hx, hb⟩ := he
    exact ⟨x, rfl, noR_rel 8 _ hnr _ hx, hb⟩
theorem runPR {nu : Nat → Value} {one : ∀ i, i < 1000000 → (nu i).oneCell' = true} {tb : Tab} (h : AllOk (cx nu one 1 laidE laidE_stab) tb) (hng : tb.ng = 4) {f g : Nat} {fi : FI} (hfi : tb.fn.get g = some fi) (hb : fi.body.isSome = true) {l : List AV} {args : List Value} (rs0 : List Ent) (rs : List R)
    (hr : ∀ e, okB (call tb f g l ⟨addR 4 rs0 (H0 e ), 4 + rs0.length, 0, 0⟩) = true) (hl : RelL (cx nu one 1 laidE laidE_stab) (rhoA 4 rs) l args) (w : World) (hw : laidE w) (hlen : rs0.length = rs.length) (hbd : 4 + rs0.length ≤ 16777213) (hA : ∀ e, ∀ (j : Nat) (k : Ent) (r : R), rs0[j]? = some k → rs[j]? = some r → ArgAt (cx nu one 1 laidE laidE_stab) w (H0 e ) k r) (hnd : rs0.all roE = true) :
    Calls Tryd.prog g ⟨args⟩ w fun e w' => e = .returned (.bool true) ∧ Go.AX.Below (Go.AX.Fz.lt w.heap.size) w w' := by
  have hE := id hw
  obtain ⟨e, g0⟩ := geOf (C := cx nu one 1 laidE laidE_stab) rfl hE
  obtain ⟨S, hS⟩ := okB_inv (hr e)
  refine (run_okGA h (H := H0 e ) hfi hb rs0 rs (by rw [hng]; exact hS) (by rw [hng]; exact hl) w hw (laidE_size hw) hlen (by rw [hng]; exact hbd) (hA e ) hnd fun v k hv => ?_).mono fun e' w' he => ?_
  · unfold H0 at hv
    rw [get_set _ _ _ _ (by omega)] at hv
    split at hv
    · rename_i e0; subst e0; injection hv with hv; subst hv
      exact ⟨by rw [hng]; omega, e, _, _, rfl, ⟨trivial, rfl⟩, g0⟩
    simp [T.get_leaf] at hv
  · obtain ⟨x, ρ, rfl, hx, hb⟩ := he
    simp only [Rel] at hx
    exact ⟨by rw [hx], hb⟩
noncomputable def fk : FI := ⟨Tryd.f4.body, Tryd.f4.ntmps, Tryd.f4.results.toList, 0, none, []⟩
theorem fk_at : tab.fn.get 4 = some fk := by kernel_rfl
theorem fk_body : fk.body.isSome = true := by kernel_rfl
theorem kk (e : Nat) : okB (call tab 6000 4 [] ⟨H0 e , 4, 0, 0⟩) = true := by kernel_rfl
noncomputable def tabk : Tab := addSum tab 4 fk (.b true)
section
variable (nu : Nat → Value) (one : ∀ i, i < 1000000 → (nu i).oneCell' = true)
theorem sumk : SumOk (cx nu one 1 laidE laidE_stab) 4 (.b true) := fun w hi hs => by
  refine (runP (tabOk nu one 1 laidE laidE_stab) rfl fk_at fk_body kk (args := []) (by simp only [RelL]) w hi).mono fun e w' he => ?_
  exact ⟨.bool true, he.1, by simp only [Rel], he.2⟩
theorem tabkOk : AllOk (cx nu one 1 laidE laidE_stab) tabk := (tabOk nu one 1 laidE laidE_stab).sum (by omega) fk_at fk_body (sumk nu one)
end
theorem tu3 : Tryd.prog.underlying 3 = some (.int .i64) := by kernel_rfl
theorem tu5 : Tryd.prog.underlying 5 = some (.int .u8) := by kernel_rfl
theorem tu9 : Tryd.prog.underlying 9 = some .string := by kernel_rfl
noncomputable def tbl (h : LK) : Tab := { tabk with hyp := h }
theorem fiE : ∃ fi, tabk.fn.get 3 = some fi ∧ fi.body.isSome = true := ⟨_, rfl, by kernel_rfl⟩
abbrev CwR (g : Nat) (args : Array Value) (w : World) (v : Value) : Prop := Calls Tryd.prog g args w fun e w' => e = .returned v ∧ Go.AX.Below (Go.AX.Fz.lt w.heap.size) w w'
theorem runC {nu : Nat → Value} {one : ∀ i, i < 1000000 → (nu i).oneCell' = true} {tb : Tab} {ra : AV} {v : Value} (hnr : noR 8 ra = true) (h : AllOk (cx nu one 1 laidE laidE_stab) tb) (hng : tb.ng = 4) {f g : Nat} {fi : FI} (hfi : tb.fn.get g = some fi) (hb : fi.body.isSome = true) {l : List AV} {args : List Value}
    (hr : ∀ e, okA (call tb f g l ⟨H0 e , 4, 0, 0⟩) ra = true) (hl : RelL (cx nu one 1 laidE laidE_stab) (fun _ => none) l args) (w : World) (hw : laidE w) (hv : ∀ x, Rel (cx nu one 1 laidE laidE_stab) (fun _ => none) ra x → x = v) : CwR g ⟨args⟩ w v :=
  (runA h hng hfi hb hnr hr hl w hw).mono fun e w' he => by
    obtain ⟨x, rfl, hx, hb2⟩ := he
    exact ⟨by rw [hv x hx], hb2⟩
def SML : LB := [u8 48, u8 48, u8 48, u8 49, u8 48, u8 50, u8 48, u8 51, u8 48, u8 52, u8 48, u8 53, u8 48, u8 54, u8 48, u8 55, u8 48, u8 56, u8 48, u8 57, u8 49, u8 48, u8 49, u8 49, u8 49, u8 50, u8 49, u8 51, u8 49, u8 52, u8 49, u8 53, u8 49, u8 54, u8 49, u8 55, u8 49, u8 56, u8 49, u8 57, u8 50, u8 48, u8 50, u8 49, u8 50, u8 50, u8 50, u8 51, u8 50, u8 52, u8 50, u8 53, u8 50, u8 54, u8 50, u8 55, u8 50, u8 56, u8 50, u8 57, u8 51, u8 48, u8 51, u8 49, u8 51, u8 50, u8 51, u8 51, u8 51, u8 52, u8 51, u8 53, u8 51, u8 54, u8 51, u8 55, u8 51, u8 56, u8 51, u8 57, u8 52, u8 48, u8 52, u8 49, u8 52, u8 50, u8 52, u8 51, u8 52, u8 52, u8 52, u8 53, u8 52, u8 54, u8 52, u8 55, u8 52, u8 56, u8 52, u8 57, u8 53, u8 48, u8 53, u8 49, u8 53, u8 50, u8 53, u8 51, u8 53, u8 52, u8 53, u8 53, u8 53, u8 54, u8 53, u8 55, u8 53, u8 56, u8 53, u8 57, u8 54, u8 48, u8 54, u8 49, u8 54, u8 50, u8 54, u8 51, u8 54, u8 52, u8 54, u8 53, u8 54, u8 54, u8 54, u8 55, u8 54, u8 56, u8 54, u8 57, u8 55, u8 48, u8 55, u8 49, u8 55, u8 50, u8 55, u8 51, u8 55, u8 52, u8 55, u8 53, u8 55, u8 54, u8 55, u8 55, u8 55, u8 56, u8 55, u8 57, u8 56, u8 48, u8 56, u8 49, u8 56, u8 50, u8 56, u8 51, u8 56, u8 52, u8 56, u8 53, u8 56, u8 54, u8 56, u8 55, u8 56, u8 56, u8 56, u8 57, u8 57, u8 48, u8 57, u8 49, u8 57, u8 50, u8 57, u8 51, u8 57, u8 52, u8 57, u8 53, u8 57, u8 54, u8 57, u8 55, u8 57, u8 56, u8 57, u8 57]
def itS (n : Int) : LB := if n < 10 then (DIG.drop (Int.toNat n)).take 1 else (SML.drop (Int.toNat (n * 2))).take 2
theorem it1 {n P Q : Int} (h : n < 10) (hP : P = n) (hQ : Q = n + 1) : itS n = (DIG.drop (Int.toNat P)).take (Int.toNat (Q - P)) := by
  unfold itS; rw [if_pos h, hP, hQ, show n + 1 - n = 1 by omega]; rfl
theorem it2 {n P Q : Int} (h : ¬ n < 10) (hP : P = n * 2) (hQ : Q = n * 2 + 2) : itS n = (SML.drop (Int.toNat P)).take (Int.toNat (Q - P)) := by
  unfold itS; rw [if_neg h, hP, hQ, show n * 2 + 2 - n * 2 = 2 by omega]; rfl
def pmS (n : Int) : LB := [u8 112, u8 97, u8 105, u8 114, u8 32] ++ (itS n ++ [u8 32, u8 105, u8 115, u8 110, u8 39, u8 116, u8 32, u8 97, u8 108, u8 108, u8 32, u8 116, u8 104, u8 101, u8 114, u8 101])
theorem itS_len (n : Int) : (itS n).length ≤ 2 := by unfold itS; split <;> (rw [List.length_take]; omega)
section
variable {s rest : LB} {o To : List PP} {Tk : Int}
theorem rd_rec (h : pkW s) (hr : rest = prs s) (h1 : o ++ (prS s).1 = To) (h2 : (prS s).2 = Tk) : (o ++ [((pv s).1, (pv s).2)]) ++ (prS rest).1 = To ∧ (prS rest).2 = Tk := by
  subst hr
  have e := pr_rec h
  rw [e] at h1 h2
  exact ⟨by rw [List.append_assoc]; exact h1, h2⟩
theorem rd_end0 (h : s.length = 0) (h1 : o ++ (prS s).1 = To) (h2 : (prS s).2 = Tk) : o = To ∧ 0 = Tk := by
  have e := pr_nil h
  rw [e] at h1 h2
  exact ⟨by rw [List.append_nil] at h1; exact h1, h2⟩
theorem rd_end1 (h0 : ¬ s.length = 0) (h : ¬ pkW s) (h1 : o ++ (prS s).1 = To) (h2 : (prS s).2 = Tk) : o = To ∧ 11 = Tk := by
  have e := pr_lack h0 h
  rw [e] at h1 h2
  exact ⟨by rw [List.append_nil] at h1; exact h1, h2⟩
theorem pk1 (h : lkL s) : ¬ pkW s := fun p => p.1 h
theorem pk2 (h : lkL (rsL s)) : ¬ pkW s := fun p => p.2.1 h
theorem pk3 (h : ((rsL (rsL s)).length : Int) < vL s + vL (rsL s)) : ¬ pkW s := fun p => by have := p.2.2; omega
theorem pk0 (h : ¬ lkL s) (h1 : ¬ lkL (rsL s)) (h2 : ¬ ((rsL (rsL s)).length : Int) < vL s + vL (rsL s)) : pkW s := ⟨h, h1, by omega⟩
end
theorem tupV {a b : Int} {x y : Value} (h : a = b) : (.tuple #[.int .i64 a, x, y] : Value) = .tuple #[.int .i64 b, x, y] := by rw [h]
theorem denZ0 {C : Cx} : Den C (.i .i64 0) (.int .i64 0) := denZ rfl
theorem denS0 {C : Cx} : Den C (.s 0 0) (St' []) := denS (len := 0) (n := 0) (by decide)
theorem denNi {C : Cx} : Den C .ni .nilIface := fun ρ => by simp only [Rel]
theorem denEs {C : Cx} : Den C (.ifc 34 (.i .i64 11)) (.iface 34 (.int .i64 11)) := fun ρ => by simp only [Rel]; exact ⟨_, rfl, rfl⟩
theorem denLk {C : Cx} {s : LB} {a b c : AV} {v : Value} (h : lkL s) (d : Den C (.tu [a, b, c]) v) {w : Value} : Den C (.tu [a, b, c]) (if lkL s then v else w) := by rw [if_pos h]; exact d
theorem denLn {C : Cx} {s : LB} {a b c : AV} {v : Value} (h : ¬ lkL s) (d : Den C (.tu [a, b, c]) v) {w : Value} : Den C (.tu [a, b, c]) (if lkL s then w else v) := by rw [if_neg h]; exact d
theorem lnB_lenB (n : Int) : 1 ≤ (lnB n).length ∧ (lnB n).length ≤ 4 := by rw [lnB_len]; split <;> omega
theorem kRa0 {C : Cx} {α : Type} {f : α → List Value} {l : List α} {x r : AV} (hx : Is C x (rwG f l)) (hr : Den C r (rwG f l)) : HOk C (.ra x []) r := by
  intro ρ vx vs g1 g2
  have e1 := hx ρ vx g1; subst e1
  simp only [RelL] at g2; subst g2
  refine ⟨l.flatMap f, rfl, ?_⟩
  have h := hr ρ
  unfold rwG at h
  rw [List.append_nil]; exact h
theorem pr_prB {s : LB} (h : s.length ≤ 9223372036854775807) : ∀ q, q ∈ (prS s).1 → prB q := fun q hq => by have := pr_mem q hq; exact ⟨by omega, by omega⟩
theorem fk_mid {X : List PP} {ct Q : Int} (h : Q = ct % ((pS X).length : Int)) : fkS X ct = ((pS X).drop (Int.toNat 0)).take (Int.toNat (Q - 0)) := by rw [h, Int.sub_zero, show Int.toNat 0 = 0 from rfl, List.drop_zero]; rfl
variable {nu : Nat → Value} {one : ∀ i, i < 1000000 → (nu i).oneCell' = true} {E' : Cx} {x' : Ex} {e' : LA} {h' : LE}
theorem fiNLen : tabk.fn.get 9 = some (fI Tryd.f9 0) ∧ (fI Tryd.f9 0).body.isSome = true := ⟨rfl, by kernel_rfl⟩
def hyLen_0 : LK := [(.mm true (.x 0) (.i .i64 (.ofNat 0)), .x 1), (.mm false (.x 1) (.i .i64 (.ofNat 2147483647)), .x 2), (.bin .lss (.x 2) (.i .i64 (.ofNat 128)), .b true), (.conv 5 (.x 2), .x 3), (.bytes [.x 3], .x 4)]
theorem runLen_0 (e : Nat) : okA (call (tbl hyLen_0) 9000 9 [.x 0] ⟨H0 e , 4, 0, 0⟩) (.x 4) = true := by kernel_rfl
def nuLen_0 (n : Int) : List Value := [.int .i64 (n), .int .i64 (max n 0), .int .i64 (min (max n 0) 2147483647), .int .u8 ((min (max n 0) 2147483647) % 256), St' ([u8 ((min (max n 0) 2147483647) % 256)])]
theorem pathLen_0 (n : Int) (b0 : 0 ≤ n) (b1 : n ≤ 600) (h0 : min (max n 0) 2147483647 < 128) (w : World) (hl : laidE w) : CwR 9 #[.int .i64 n] w (St' ([u8 ((min (max n 0) 2147483647) % 256)])) := by
  have ho : ∀ k r, (k, r) ∈ hyLen_0 → HOk (cx (nuL (nuLen_0 n)) (fun j _ => nuL_one (l := nuLen_0 n) rfl j) 1 laidE laidE_stab) k r := by
    unfold hyLen_0
    exact hc (kMax (isX rfl) (isZ (m := 0) rfl) (denX rfl) rfl) <|
     hc (kMin (isX rfl) (isZ (m := 2147483647) rfl) (denX rfl) rfl) <|
     hc (ltcT rfl (by omega)) <|
     hc (kConv8 (isX rfl) tu5 (denX rfl) rfl) <|
     hc (kBytesB (bs := [u8 ((min (max n 0) 2147483647) % 256)]) (.cons (isB8 (isX rfl) (by omega) (by omega)) .nil) (denX rfl)) <|
     hnil
  refine runC (tb := (tbl hyLen_0)) (ra := .x 4) rfl ((tabkOk (nuL (nuLen_0 n)) (fun j _ => nuL_one (l := nuLen_0 n) rfl j)).hyps ho) rfl fiNLen.1 fiNLen.2 (fun e => runLen_0 e ) (args := [.int .i64 n]) (by simp only [RelL, Rel]; exact ⟨_, _, rfl, rfl, rfl⟩) w hl fun x hx => ?_
  simp only [Rel, RelL] at hx
  exact hx
def hyLen_1 : LK := [(.mm true (.x 0) (.i .i64 (.ofNat 0)), .x 1), (.mm false (.x 1) (.i .i64 (.ofNat 2147483647)), .x 2), (.bin .lss (.x 2) (.i .i64 (.ofNat 128)), .b false), (.bin .shr (.x 2) (.i .u64 (.ofNat 24)), .i .i64 (.ofNat 0)), (.bin .shr (.x 2) (.i .u64 (.ofNat 16)), .i .i64 (.ofNat 0)), (.bin .shr (.x 2) (.i .u64 (.ofNat 8)), .x 3), (.conv 5 (.x 3), .x 4), (.conv 5 (.x 2), .x 5), (.bytes [.i .u8 (.ofNat 128), .i .u8 (.ofNat 0), .x 4, .x 5], .x 6)]
theorem runLen_1 (e : Nat) : okA (call (tbl hyLen_1) 9000 9 [.x 0] ⟨H0 e , 4, 0, 0⟩) (.x 6) = true := by kernel_rfl
def nuLen_1 (n : Int) : List Value := [.int .i64 (n), .int .i64 (max n 0), .int .i64 (min (max n 0) 2147483647), .int .i64 ((min (max n 0) 2147483647) / 256), .int .u8 (((min (max n 0) 2147483647) / 256)), .int .u8 ((min (max n 0) 2147483647) % 256), St' ([u8 128, u8 0, u8 (((min (max n 0) 2147483647) / 256)), u8 ((min (max n 0) 2147483647) % 256)])]
theorem pathLen_1 (n : Int) (b0 : 0 ≤ n) (b1 : n ≤ 600) (h0 : ¬ (min (max n 0) 2147483647 < 128)) (w : World) (hl : laidE w) : CwR 9 #[.int .i64 n] w (St' ([u8 128, u8 0, u8 (((min (max n 0) 2147483647) / 256)), u8 ((min (max n 0) 2147483647) % 256)])) := by
  have ho : ∀ k r, (k, r) ∈ hyLen_1 → HOk (cx (nuL (nuLen_1 n)) (fun j _ => nuL_one (l := nuLen_1 n) rfl j) 1 laidE laidE_stab) k r := by
    unfold hyLen_1
    exact hc (kMax (isX rfl) (isZ (m := 0) rfl) (denX rfl) rfl) <|
     hc (kMin (isX rfl) (isZ (m := 2147483647) rfl) (denX rfl) rfl) <|
     hc (ltcF rfl (by omega)) <|
     hc (kShrM 24 16777216 rfl (isX rfl) (isZ (m := 24) rfl) (denZ (m := 0) rfl) (by omega) (by decide) (by omega) (by omega)) <|
     hc (kShrM 16 65536 rfl (isX rfl) (isZ (m := 16) rfl) (denZ (m := 0) rfl) (by omega) (by decide) (by omega) (by omega)) <|
     hc (kShrM 8 256 rfl (isX rfl) (isZ (m := 8) rfl) (denX rfl) rfl (by decide) (by omega) rfl) <|
     hc (kConvF (isX rfl) tu5 (denX rfl) (fU8 (by omega) (by omega))) <|
     hc (kConv8 (isX rfl) tu5 (denX rfl) rfl) <|
     hc (kBytesB (bs := [u8 128, u8 0, u8 (((min (max n 0) 2147483647) / 256)), u8 ((min (max n 0) 2147483647) % 256)]) (.cons (isB8 (isZ (m := 128) rfl) (by omega) (by omega)) (.cons (isB8 (isZ (m := 0) rfl) (by omega) (by omega)) (.cons (isB8 (isX rfl) (by omega) (by omega)) (.cons (isB8 (isX rfl) (by omega) (by omega)) .nil)))) (denX rfl)) <|
     hnil
  refine runC (tb := (tbl hyLen_1)) (ra := .x 6) rfl ((tabkOk (nuL (nuLen_1 n)) (fun j _ => nuL_one (l := nuLen_1 n) rfl j)).hyps ho) rfl fiNLen.1 fiNLen.2 (fun e => runLen_1 e ) (args := [.int .i64 n]) (by simp only [RelL, Rel]; exact ⟨_, _, rfl, rfl, rfl⟩) w hl fun x hx => ?_
  simp only [Rel, RelL] at hx
  exact hx
theorem callsLen (n : Int) (b0 : 0 ≤ n) (b1 : n ≤ 600) (w : World) (hl : laidE w) : CwR 9 #[.int .i64 n] w (St' (lnB n)) := by
  by_cases h0 : min (max n 0) 2147483647 < 128
  · rw [show (St' (lnB n) : Value) = (St' ([u8 ((min (max n 0) 2147483647) % 256)]) : Value) from by exact congrArg (fun l => St' l) (by unfold lnB; have hm : min (max n 0) 2147483647 = n := (by omega); first | (rw [if_pos (by omega), hm, show n % 256 = n by omega]; done) | (rw [if_neg (by omega), hm]))]
    exact pathLen_0 n b0 b1 h0 w hl
  · rw [show (St' (lnB n) : Value) = (St' ([u8 128, u8 0, u8 (((min (max n 0) 2147483647) / 256)), u8 ((min (max n 0) 2147483647) % 256)]) : Value) from by exact congrArg (fun l => St' l) (by unfold lnB; have hm : min (max n 0) 2147483647 = n := (by omega); first | (rw [if_pos (by omega), hm, show n % 256 = n by omega]; done) | (rw [if_neg (by omega), hm]))]
    exact pathLen_1 n b0 b1 h0 w hl
theorem hokLen {x0 r : AV} {n : Int} (i0 : Is (cx nu one 1 laidE laidE_stab) x0 (.int .i64 n)) (hr : Den (cx nu one 1 laidE laidE_stab) r (St' (lnB n))) (b0 : 0 ≤ n) (b1 : n ≤ 600) : HOk (cx nu one 1 laidE laidE_stab) (.call 9 [x0]) r := by
  intro ρ args ha w hl _
  simp only [RelL] at ha
  obtain ⟨v0, t0, rfl, a0, rfl⟩ := ha
  have e0 := i0 ρ _ a0; subst e0
  exact (callsLen n b0 b1 w hl).mono fun e w' he => ⟨_, he.1, hr ρ, he.2⟩
theorem fiNLng : tabk.fn.get 19 = some (fI Tryd.f19 0) ∧ (fI Tryd.f19 0).body.isSome = true := ⟨rfl, by kernel_rfl⟩
def hyLng_0 : LK := [(.bin .eql (.x 0) (.s 0 0), .b true)]
theorem runLng_0 (e : Nat) : okA (call (tbl hyLng_0) 9000 19 [.x 0] ⟨H0 e , 4, 0, 0⟩) (.tu [.i .i64 (.ofNat 0), .s 0 0, .ifc 34 (.i .i64 (.ofNat 11))]) = true := by kernel_rfl
def nuLng_0 (s : LB) : List Value := [St' s]
theorem pathLng_0 (s : LB) (b0 : s.length ≤ 9223372036854775807) (h0 : (s.length : Int) = 0) (w : World) (hl : laidE w) : CwR 19 #[St' s] w (.tuple #[.int .i64 0, St' ([] : LB), .iface 34 (.int .i64 11)]) := by
  have ho : ∀ k r, (k, r) ∈ hyLng_0 → HOk (cx (nuL (nuLng_0 s)) (fun j _ => nuL_one (l := nuLng_0 s) rfl j) 1 laidE laidE_stab) k r := by
    unfold hyLng_0
    exact hc (kEqS (isX rfl) (isSx (l := ([] : LB)) 0 0 rfl) (nilT (by omega))) <|
     hnil
  refine runC (tb := (tbl hyLng_0)) (ra := .tu [.i .i64 (.ofNat 0), .s 0 0, .ifc 34 (.i .i64 (.ofNat 11))]) rfl ((tabkOk (nuL (nuLng_0 s)) (fun j _ => nuL_one (l := nuLng_0 s) rfl j)).hyps ho) rfl fiNLng.1 fiNLng.2 (fun e => runLng_0 e ) (args := [St' s]) (by simp only [RelL, Rel]; exact ⟨_, _, rfl, rfl, rfl⟩) w hl fun x hx => ?_
  simp only [Rel, RelL] at hx
  obtain ⟨_, rfl, ⟨_, _, rfl, rfl, ⟨_, _, rfl, ⟨rfl, _⟩, ⟨_, _, rfl, ⟨_, rfl, rfl⟩, rfl⟩⟩⟩⟩ := hx
  rfl
def hyLng_1 : LK := [(.bin .eql (.x 0) (.s 0 0), .b false), (.idx (.x 0) (.i .i64 (.ofNat 0)), .x 1), (.bin .lss (.x 1) (.i .u8 (.ofNat 128)), .b true), (.conv 3 (.x 1), .x 2), (.sub (.x 0) (some (.i .i64 (.ofNat 1))) none, .x 3)]
theorem runLng_1 (e : Nat) : okA (call (tbl hyLng_1) 9000 19 [.x 0] ⟨H0 e , 4, 0, 0⟩) (.tu [.x 2, .x 3, .ni]) = true := by kernel_rfl
def nuLng_1 (s : LB) : List Value := [St' s, .int .u8 (bt s 0), .int .i64 ((bt s 0)), St' (rsL s)]
theorem pathLng_1 (s : LB) (b0 : s.length ≤ 9223372036854775807) (h0 : ¬ ((s.length : Int) = 0)) (h1 : bt s 0 < 128) (w : World) (hl : laidE w) : CwR 19 #[St' s] w (.tuple #[.int .i64 ((bt s 0)), St' (rsL s), .nilIface]) := by
  have := bt_lo s 0; have := bt_hi s 0
  have hr : rsL s = s.drop (Int.toNat 1) := by unfold rsL hL; rw [if_pos (by omega)]; rfl
  have ho : ∀ k r, (k, r) ∈ hyLng_1 → HOk (cx (nuL (nuLng_1 s)) (fun j _ => nuL_one (l := nuLng_1 s) rfl j) 1 laidE laidE_stab) k r := by
    unfold hyLng_1
    exact hc (kEqS (isX rfl) (isSx (l := ([] : LB)) 0 0 rfl) (nilF (by omega))) <|
     hc (ixC rfl rfl (by omega)) <|
     hc (ltcT rfl (by omega)) <|
     hc (kConvF (isX rfl) tu3 (denX rfl) (fI64 (by omega) (by omega))) <|
     hc (kMid (P := 1) (Q := (s.length : Int)) (isX rfl) (.inr ⟨_, _, rfl, (isZ (m := 1) rfl)⟩) (.inl ⟨rfl, rfl⟩) (by omega) (by omega) (by omega) (denX (congrArg (fun l => St' l) (hr.trans dropE)))) <|
     hnil
  refine runC (tb := (tbl hyLng_1)) (ra := .tu [.x 2, .x 3, .ni]) rfl ((tabkOk (nuL (nuLng_1 s)) (fun j _ => nuL_one (l := nuLng_1 s) rfl j)).hyps ho) rfl fiNLng.1 fiNLng.2 (fun e => runLng_1 e ) (args := [St' s]) (by simp only [RelL, Rel]; exact ⟨_, _, rfl, rfl, rfl⟩) w hl fun x hx => ?_
  simp only [Rel, RelL] at hx
  obtain ⟨_, rfl, ⟨_, _, rfl, rfl, ⟨_, _, rfl, rfl, ⟨_, _, rfl, rfl, rfl⟩⟩⟩⟩ := hx
  rfl
def hyLng_2 : LK := [(.bin .eql (.x 0) (.s 0 0), .b false), (.idx (.x 0) (.i .i64 (.ofNat 0)), .x 1), (.bin .lss (.x 1) (.i .u8 (.ofNat 128)), .b false), (.len (.x 0), .x 2), (.bin .lss (.x 2) (.i .i64 (.ofNat 4)), .b true)]
theorem runLng_2 (e : Nat) : okA (call (tbl hyLng_2) 9000 19 [.x 0] ⟨H0 e , 4, 0, 0⟩) (.tu [.i .i64 (.ofNat 0), .s 0 0, .ifc 34 (.i .i64 (.ofNat 11))]) = true := by kernel_rfl
def nuLng_2 (s : LB) : List Value := [St' s, .int .u8 (bt s 0), .int .i64 ((s.length : Int))]
theorem pathLng_2 (s : LB) (b0 : s.length ≤ 9223372036854775807) (h0 : ¬ ((s.length : Int) = 0)) (h1 : ¬ (bt s 0 < 128)) (h2 : (s.length : Int) < 4) (w : World) (hl : laidE w) : CwR 19 #[St' s] w (.tuple #[.int .i64 0, St' ([] : LB), .iface 34 (.int .i64 11)]) := by
  have := bt_lo s 0; have := bt_hi s 0
  have ho : ∀ k r, (k, r) ∈ hyLng_2 → HOk (cx (nuL (nuLng_2 s)) (fun j _ => nuL_one (l := nuLng_2 s) rfl j) 1 laidE laidE_stab) k r := by
    unfold hyLng_2
    exact hc (kEqS (isX rfl) (isSx (l := ([] : LB)) 0 0 rfl) (nilF (by omega))) <|
     hc (ixC rfl rfl (by omega)) <|
     hc (ltcF rfl (by omega)) <|
     hc (lnV rfl rfl (by omega)) <|
     hc (ltcT rfl (by omega)) <|
     hnil
  refine runC (tb := (tbl hyLng_2)) (ra := .tu [.i .i64 (.ofNat 0), .s 0 0, .ifc 34 (.i .i64 (.ofNat 11))]) rfl ((tabkOk (nuL (nuLng_2 s)) (fun j _ => nuL_one (l := nuLng_2 s) rfl j)).hyps ho) rfl fiNLng.1 fiNLng.2 (fun e => runLng_2 e ) (args := [St' s]) (by simp only [RelL, Rel]; exact ⟨_, _, rfl, rfl, rfl⟩) w hl fun x hx => ?_
  simp only [Rel, RelL] at hx
  obtain ⟨_, rfl, ⟨_, _, rfl, rfl, ⟨_, _, rfl, ⟨rfl, _⟩, ⟨_, _, rfl, ⟨_, rfl, rfl⟩, rfl⟩⟩⟩⟩ := hx
  rfl
def hyLng_3 : LK := [(.bin .eql (.x 0) (.s 0 0), .b false), (.idx (.x 0) (.i .i64 (.ofNat 0)), .x 1), (.bin .lss (.x 1) (.i .u8 (.ofNat 128)), .b false), (.len (.x 0), .x 2), (.bin .lss (.x 2) (.i .i64 (.ofNat 4)), .b false), (.bin .and (.x 1) (.i .u8 (.ofNat 127)), .x 3), (.conv 3 (.x 3), .x 4), (.bin .shl (.x 4) (.i .u64 (.ofNat 24)), .x 5), (.idx (.x 0) (.i .i64 (.ofNat 1)), .x 6), (.conv 3 (.x 6), .x 7), (.bin .shl (.x 7) (.i .u64 (.ofNat 16)), .x 8), (.bin .or (.x 5) (.x 8), .x 9), (.idx (.x 0) (.i .i64 (.ofNat 2)), .x 10), (.conv 3 (.x 10), .x 11), (.bin .shl (.x 11) (.i .u64 (.ofNat 8)), .x 12), (.bin .or (.x 9) (.x 12), .x 13), (.idx (.x 0) (.i .i64 (.ofNat 3)), .x 14), (.conv 3 (.x 14), .x 15), (.bin .or (.x 13) (.x 15), .x 16), (.sub (.x 0) (some (.i .i64 (.ofNat 4))) none, .x 17)]
theorem runLng_3 (e : Nat) : okA (call (tbl hyLng_3) 9000 19 [.x 0] ⟨H0 e , 4, 0, 0⟩) (.tu [.x 16, .x 17, .ni]) = true := by kernel_rfl
def nuLng_3 (s : LB) : List Value := [St' s, .int .u8 (bt s 0), .int .i64 ((s.length : Int)), .int .u8 ((bt s 0) % 128), .int .i64 (((bt s 0) % 128)), .int .i64 (((bt s 0) % 128) * 16777216), .int .u8 (bt s 1), .int .i64 ((bt s 1)), .int .i64 ((bt s 1) * 65536), .int .i64 (((bt s 0) % 128) * 16777216 + (bt s 1) * 65536), .int .u8 (bt s 2), .int .i64 ((bt s 2)), .int .i64 ((bt s 2) * 256), .int .i64 (((bt s 0) % 128) * 16777216 + (bt s 1) * 65536 + (bt s 2) * 256), .int .u8 (bt s 3), .int .i64 ((bt s 3)), .int .i64 (((bt s 0) % 128) * 16777216 + (bt s 1) * 65536 + (bt s 2) * 256 + (bt s 3)), St' (rsL s)]
theorem pathLng_3 (s : LB) (b0 : s.length ≤ 9223372036854775807) (h0 : ¬ ((s.length : Int) = 0)) (h1 : ¬ (bt s 0 < 128)) (h2 : ¬ ((s.length : Int) < 4)) (w : World) (hl : laidE w) : CwR 19 #[St' s] w (.tuple #[.int .i64 (((bt s 0) % 128) * 16777216 + (bt s 1) * 65536 + (bt s 2) * 256 + (bt s 3)), St' (rsL s), .nilIface]) := by
  have := bt_lo s 0; have := bt_hi s 0
  have := bt_lo s 1; have := bt_hi s 1
  have := bt_lo s 2; have := bt_hi s 2
  have := bt_lo s 3; have := bt_hi s 3
  have hr : rsL s = s.drop (Int.toNat 4) := by unfold rsL hL; rw [if_neg (by omega)]; rfl
  have ho : ∀ k r, (k, r) ∈ hyLng_3 → HOk (cx (nuL (nuLng_3 s)) (fun j _ => nuL_one (l := nuLng_3 s) rfl j) 1 laidE laidE_stab) k r := by
    unfold hyLng_3
    exact hc (kEqS (isX rfl) (isSx (l := ([] : LB)) 0 0 rfl) (nilF (by omega))) <|
     hc (ixC rfl rfl (by omega)) <|
     hc (ltcF rfl (by omega)) <|
     hc (lnV rfl rfl (by omega)) <|
     hc (ltcF rfl (by omega)) <|
     hc (kAndM 7 128 rfl (isX rfl) (isZ (m := 127) rfl) (denX rfl) (by omega) (fU8 (by omega) (by omega)) (fU8 (by omega) (by omega)) rfl rfl) <|
     hc (kConvF (isX rfl) tu3 (denX rfl) (fI64 (by omega) (by omega))) <|
     hc (kShlM 24 16777216 rfl (isX rfl) (isZ (m := 24) rfl) (denX rfl) rfl (by decide) (by omega) (fI64 (by omega) (by omega))) <|
     hc (ixC rfl rfl (by omega)) <|
     hc (kConvF (isX rfl) tu3 (denX rfl) (fI64 (by omega) (by omega))) <|
     hc (kShlM 16 65536 rfl (isX rfl) (isZ (m := 16) rfl) (denX rfl) rfl (by decide) (by omega) (fI64 (by omega) (by omega))) <|
     hc (kOrM 24 16777216 rfl (isX rfl) (isX rfl) (denX rfl) (by omega) (by omega) (fI64 (by omega) (by omega)) (fI64 (by omega) (by omega)) (by omega) (by omega) (by omega) (fI64 (by omega) (by omega))) <|
     hc (ixC rfl rfl (by omega)) <|
     hc (kConvF (isX rfl) tu3 (denX rfl) (fI64 (by omega) (by omega))) <|
     hc (kShlM 8 256 rfl (isX rfl) (isZ (m := 8) rfl) (denX rfl) rfl (by decide) (by omega) (fI64 (by omega) (by omega))) <|
     hc (kOrM 16 65536 rfl (isX rfl) (isX rfl) (denX rfl) (by omega) (by omega) (fI64 (by omega) (by omega)) (fI64 (by omega) (by omega)) (by omega) (by omega) (by omega) (fI64 (by omega) (by omega))) <|
     hc (ixC rfl rfl (by omega)) <|
     hc (kConvF (isX rfl) tu3 (denX rfl) (fI64 (by omega) (by omega))) <|
     hc (kOrM 8 256 rfl (isX rfl) (isX rfl) (denX rfl) (by omega) (by omega) (fI64 (by omega) (by omega)) (fI64 (by omega) (by omega)) (by omega) (by omega) (by omega) (fI64 (by omega) (by omega))) <|
     hc (kMid (P := 4) (Q := (s.length : Int)) (isX rfl) (.inr ⟨_, _, rfl, (isZ (m := 4) rfl)⟩) (.inl ⟨rfl, rfl⟩) (by omega) (by omega) (by omega) (denX (congrArg (fun l => St' l) (hr.trans dropE)))) <|
     hnil
  refine runC (tb := (tbl hyLng_3)) (ra := .tu [.x 16, .x 17, .ni]) rfl ((tabkOk (nuL (nuLng_3 s)) (fun j _ => nuL_one (l := nuLng_3 s) rfl j)).hyps ho) rfl fiNLng.1 fiNLng.2 (fun e => runLng_3 e ) (args := [St' s]) (by simp only [RelL, Rel]; exact ⟨_, _, rfl, rfl, rfl⟩) w hl fun x hx => ?_
  simp only [Rel, RelL] at hx
  obtain ⟨_, rfl, ⟨_, _, rfl, rfl, ⟨_, _, rfl, rfl, ⟨_, _, rfl, rfl, rfl⟩⟩⟩⟩ := hx
  rfl
theorem callsLng (s : LB) (b0 : s.length ≤ 9223372036854775807) (w : World) (hl : laidE w) : CwR 19 #[St' s] w ((if lkL s then .tuple #[.int .i64 0, St' [], .iface 34 (.int .i64 11)] else .tuple #[.int .i64 (vL s), St' (rsL s), .nilIface])) := by
  by_cases h0 : (s.length : Int) = 0
  · rw [show ((if lkL s then .tuple #[.int .i64 0, St' [], .iface 34 (.int .i64 11)] else .tuple #[.int .i64 (vL s), St' (rsL s), .nilIface]) : Value) = (.tuple #[.int .i64 0, St' ([] : LB), .iface 34 (.int .i64 11)] : Value) from by first | exact if_pos (.inl (by omega)) | exact if_pos (.inr ⟨by omega, by omega⟩) | (rw [if_neg (by unfold lkL; omega)]; refine tupV ?_; unfold vL; first | (rw [if_pos (by omega)]; done) | (rw [if_neg (by omega)]; done) | (rw [if_neg (by omega)]; omega))]
    exact pathLng_0 s b0 h0 w hl
  · by_cases h1 : bt s 0 < 128
    · rw [show ((if lkL s then .tuple #[.int .i64 0, St' [], .iface 34 (.int .i64 11)] else .tuple #[.int .i64 (vL s), St' (rsL s), .nilIface]) : Value) = (.tuple #[.int .i64 ((bt s 0)), St' (rsL s), .nilIface] : Value) from by first | exact if_pos (.inl (by omega)) | exact if_pos (.inr ⟨by omega, by omega⟩) | (rw [if_neg (by unfold lkL; omega)]; refine tupV ?_; unfold vL; first | (rw [if_pos (by omega)]; done) | (rw [if_neg (by omega)]; done) | (rw [if_neg (by omega)]; omega))]
      exact pathLng_1 s b0 h0 h1 w hl
    · by_cases h2 : (s.length : Int) < 4
      · rw [show ((if lkL s then .tuple #[.int .i64 0, St' [], .iface 34 (.int .i64 11)] else .tuple #[.int .i64 (vL s), St' (rsL s), .nilIface]) : Value) = (.tuple #[.int .i64 0, St' ([] : LB), .iface 34 (.int .i64 11)] : Value) from by first | exact if_pos (.inl (by omega)) | exact if_pos (.inr ⟨by omega, by omega⟩) | (rw [if_neg (by unfold lkL; omega)]; refine tupV ?_; unfold vL; first | (rw [if_pos (by omega)]; done) | (rw [if_neg (by omega)]; done) | (rw [if_neg (by omega)]; omega))]
        exact pathLng_2 s b0 h0 h1 h2 w hl
      · rw [show ((if lkL s then .tuple #[.int .i64 0, St' [], .iface 34 (.int .i64 11)] else .tuple #[.int .i64 (vL s), St' (rsL s), .nilIface]) : Value) = (.tuple #[.int .i64 (((bt s 0) % 128) * 16777216 + (bt s 1) * 65536 + (bt s 2) * 256 + (bt s 3)), St' (rsL s), .nilIface] : Value) from by first | exact if_pos (.inl (by omega)) | exact if_pos (.inr ⟨by omega, by omega⟩) | (rw [if_neg (by unfold lkL; omega)]; refine tupV ?_; unfold vL; first | (rw [if_pos (by omega)]; done) | (rw [if_neg (by omega)]; done) | (rw [if_neg (by omega)]; omega))]
        exact pathLng_3 s b0 h0 h1 h2 w hl
theorem hokLng {x0 r : AV} {s : LB} (i0 : Is (cx nu one 1 laidE laidE_stab) x0 (St' s)) (hr : Den (cx nu one 1 laidE laidE_stab) r ((if lkL s then .tuple #[.int .i64 0, St' [], .iface 34 (.int .i64 11)] else .tuple #[.int .i64 (vL s), St' (rsL s), .nilIface]))) (b0 : s.length ≤ 9223372036854775807) : HOk (cx nu one 1 laidE laidE_stab) (.call 19 [x0]) r := by
  intro ρ args ha w hl _
  simp only [RelL] at ha
  obtain ⟨v0, t0, rfl, a0, rfl⟩ := ha
  have e0 := i0 ρ _ a0; subst e0
  exact (callsLng s b0 w hl).mono fun e w' he => ⟨_, he.1, hr ρ, he.2⟩
theorem fiNIto : tabk.fn.get 15 = some (fI Tryd.f15 0) ∧ (fI Tryd.f15 0).body.isSome = true := ⟨rfl, by kernel_rfl⟩
def hyIto_0 : LK := [(.bin .leq (.i .i64 (.ofNat 0)) (.x 0), .b true), (.bin .lss (.x 0) (.i .i64 (.ofNat 100)), .b true), (.bin .lss (.x 0) (.i .i64 (.ofNat 10)), .b true), (.bin .add (.x 0) (.i .i64 (.ofNat 1)), .x 1), (.sub (.s 36 237927390410950444456928663707796224754864904193074819559483181009558347043374296609072) (some (.x 0)) (some (.x 1)), .x 2)]
theorem runIto_0 (e : Nat) : okA (call (tbl hyIto_0) 9000 15 [.x 0] ⟨H0 e , 4, 0, 0⟩) (.x 2) = true := by kernel_rfl
def nuIto_0 (n : Int) : List Value := [.int .i64 (n), .int .i64 (n + 1), St' (itS n)]
theorem pathIto_0 (n : Int) (b0 : 1 ≤ n) (b1 : n ≤ 99) (h2 : n < 10) (w : World) (hl : laidE w) : CwR 15 #[.int .i64 n] w (St' (itS n)) := by
  have ho : ∀ k r, (k, r) ∈ hyIto_0 → HOk (cx (nuL (nuIto_0 n)) (fun j _ => nuL_one (l := nuIto_0 n) rfl j) 1 laidE laidE_stab) k r := by
    unfold hyIto_0
    exact hc (kLe (isZ (m := 0) rfl) (isX rfl) (decide_eq_true (by omega))) <|
     hc (ltcT rfl (by omega)) <|
     hc (ltcT rfl (by omega)) <|
     hc (adC rfl rfl (by omega)) <|
     hc (kMid (l := DIG) (P := n) (Q := n + 1) (isSx (l := DIG) 36 237927390410950444456928663707796224754864904193074819559483181009558347043374296609072 rfl) (.inr ⟨_, _, rfl, (isX rfl)⟩) (.inr ⟨_, _, rfl, (isX rfl)⟩) (by omega) (by omega) (by show _ ≤ ((DIG.length : Nat) : Int); rw [show DIG.length = 36 from rfl]; omega) (denX (congrArg (fun l => St' l) (it1 (by omega) (by omega) (by omega))))) <|
     hnil
  refine runC (tb := (tbl hyIto_0)) (ra := .x 2) rfl ((tabkOk (nuL (nuIto_0 n)) (fun j _ => nuL_one (l := nuIto_0 n) rfl j)).hyps ho) rfl fiNIto.1 fiNIto.2 (fun e => runIto_0 e ) (args := [.int .i64 n]) (by simp only [RelL, Rel]; exact ⟨_, _, rfl, rfl, rfl⟩) w hl fun x hx => ?_
  simp only [Rel, RelL] at hx
  exact hx
def hyIto_1 : LK := [(.bin .leq (.i .i64 (.ofNat 0)) (.x 0), .b true), (.bin .lss (.x 0) (.i .i64 (.ofNat 100)), .b true), (.bin .lss (.x 0) (.i .i64 (.ofNat 10)), .b false), (.bin .mul (.x 0) (.i .i64 (.ofNat 2)), .x 1), (.bin .add (.x 1) (.i .i64 (.ofNat 2)), .x 2), (.sub (.s 200 9938655150514779720929161263213647789093395803754561035662628441001274968862597953692946393464194303251501229616933063375291039650253924995779037586872666250072396106842829501851083234932712366962979930255066872747696324303968523733872590022915936937156789320557469720923390131174387415513794469201054844961267015441141542819553679203788501627738430154234325528792480477051962324423099068299719245009424585859096469223093538032153047611602695245052081125123941502624659711709950000) (some (.x 1)) (some (.x 2)), .x 3)]
theorem runIto_1 (e : Nat) : okA (call (tbl hyIto_1) 9000 15 [.x 0] ⟨H0 e , 4, 0, 0⟩) (.x 3) = true := by kernel_rfl
def nuIto_1 (n : Int) : List Value := [.int .i64 (n), .int .i64 (n * 2), .int .i64 (n * 2 + 2), St' (itS n)]
theorem pathIto_1 (n : Int) (b0 : 1 ≤ n) (b1 : n ≤ 99) (h2 : ¬ (n < 10)) (w : World) (hl : laidE w) : CwR 15 #[.int .i64 n] w (St' (itS n)) := by
  have ho : ∀ k r, (k, r) ∈ hyIto_1 → HOk (cx (nuL (nuIto_1 n)) (fun j _ => nuL_one (l := nuIto_1 n) rfl j) 1 laidE laidE_stab) k r := by
    unfold hyIto_1
    exact hc (kLe (isZ (m := 0) rfl) (isX rfl) (decide_eq_true (by omega))) <|
     hc (ltcT rfl (by omega)) <|
     hc (ltcF rfl (by omega)) <|
     hc (kMul (isX rfl) (isZ (m := 2) rfl) (denX rfl) (by omega) (fI64 (by omega) (by omega))) <|
     hc (adC rfl rfl (by omega)) <|
     hc (kMid (l := SML) (P := n * 2) (Q := n * 2 + 2) (isSx (l := SML) 200 9938655150514779720929161263213647789093395803754561035662628441001274968862597953692946393464194303251501229616933063375291039650253924995779037586872666250072396106842829501851083234932712366962979930255066872747696324303968523733872590022915936937156789320557469720923390131174387415513794469201054844961267015441141542819553679203788501627738430154234325528792480477051962324423099068299719245009424585859096469223093538032153047611602695245052081125123941502624659711709950000 rfl) (.inr ⟨_, _, rfl, (isX rfl)⟩) (.inr ⟨_, _, rfl, (isX rfl)⟩) (by omega) (by omega) (by show _ ≤ ((SML.length : Nat) : Int); rw [show SML.length = 200 from rfl]; omega) (denX (congrArg (fun l => St' l) (it2 (by omega) (by omega) (by omega))))) <|
     hnil
  refine runC (tb := (tbl hyIto_1)) (ra := .x 3) rfl ((tabkOk (nuL (nuIto_1 n)) (fun j _ => nuL_one (l := nuIto_1 n) rfl j)).hyps ho) rfl fiNIto.1 fiNIto.2 (fun e => runIto_1 e ) (args := [.int .i64 n]) (by simp only [RelL, Rel]; exact ⟨_, _, rfl, rfl, rfl⟩) w hl fun x hx => ?_
  simp only [Rel, RelL] at hx
  exact hx
theorem callsIto (n : Int) (b0 : 1 ≤ n) (b1 : n ≤ 99) (w : World) (hl : laidE w) : CwR 15 #[.int .i64 n] w (St' (itS n)) := by
  by_cases h2 : n < 10
  · rw [show (St' (itS n) : Value) = (St' (itS n) : Value) from by rfl]
    exact pathIto_0 n b0 b1 h2 w hl
  · rw [show (St' (itS n) : Value) = (St' (itS n) : Value) from by rfl]
    exact pathIto_1 n b0 b1 h2 w hl
theorem hokIto {x0 r : AV} {n : Int} (i0 : Is (cx nu one 1 laidE laidE_stab) x0 (.int .i64 n)) (hr : Den (cx nu one 1 laidE laidE_stab) r (St' (itS n))) (b0 : 1 ≤ n) (b1 : n ≤ 99) : HOk (cx nu one 1 laidE laidE_stab) (.call 15 [x0]) r := by
  intro ρ args ha w hl _
  simp only [RelL] at ha
  obtain ⟨v0, t0, rfl, a0, rfl⟩ := ha
  have e0 := i0 ρ _ a0; subst e0
  exact (callsIto n b0 b1 w hl).mono fun e w' he => ⟨_, he.1, hr ρ, he.2⟩
end Go.Proofs.YtnaffjionjndgaaDoor.pairBack
