/- A part of the proof: an interpreter of the model's own code on partly known states, and that what it answers is what the program answers. No condition of its own. -/
import Derived.Test.YtejdkoheodambaaDoorSeatB2
import Derived.Test.YtejdkoheodambaaDoorBXpart3
set_option maxRecDepth 100000
set_option linter.unusedVariables false
namespace Go.Proofs.YtejdkoheodambaaDoor.kindTells
open Go Go.AX Go.Proofs Go.Proofs.YtejdkoheodambaaDoor
def laidE0 (w : World) : Prop := ∃ e fz, w.heap[0]? = some (.cells ⟨[.iface 135 (.agg #[typeHandle Tryd.prog 26])]⟩ e fz)
theorem laidE0_same {w w' : World} (h : laidE0 w) (hh : w'.heap[0]? = w.heap[0]?) : laidE0 w' := by
  obtain ⟨e, fz, hw⟩ := h
  exact ⟨e, fz, by rw [hh]; exact hw⟩
theorem laidE0_size {w : World} (h : laidE0 w) : 0 < w.heap.size := by
  obtain ⟨e, fz, hw⟩ := h
  rcases Nat.lt_or_ge 0 w.heap.size with h0 | h0
  · exact h0
  · rw [Array.getElem?_eq_none h0] at hw; cases hw
theorem geOf {C : Cx} {w : World} (hP : C.P = Tryd.prog) (h : laidE0 w) : ∃ e, GArr C w 0 e [.ifc 135 (.ag [.h 26])] := by
  obtain ⟨e, fz, h0⟩ := h
  refine ⟨e, _, fz, h0, rfl, fun j a hj => ?_⟩
  match j, hj with
  | 0, hj =>
    simp only [List.getElem?_cons_zero, Option.some.injEq] at hj
    subst hj
    refine ⟨.iface 135 (.agg #[typeHandle Tryd.prog 26]), rfl, ?_, rfl⟩
    simp only [Rel, RelL, hP]
    exact ⟨_, rfl, _, rfl, _, _, rfl, rfl, rfl⟩
  | j + 1, hj => simp at hj
/-- the variables that the runs read are laid -/
def laidE (w : World) : Prop := laidE0 w
theorem laidE_stab : ∀ w w' : World, (∀ k, k < 1 → w'.heap[k]? = w.heap[k]?) → laidE w → laidE w' := fun w w' h hE => laidE0_same hE (h 0 (by omega))
theorem laidE_size {w : World} (h : laidE w) : 1 ≤ w.heap.size := by
  have hE := h
  have := laidE0_size hE
  omega
noncomputable def H0 (e : Nat) : T Ent := T.set .leaf 0 (gBlk e (.l [.ifc 135 (.ag [.h 26])]))
theorem runP {nu : Nat → Value} {one : ∀ i, (nu i).oneCell' = true} {tb : Tab} (h : AllOk (cx nu one 1 laidE laidE_stab) tb) (hng : tb.ng = 7) {f g : Nat} {fi : FI} (hfi : tb.fn.get g = some fi) (hb : fi.body.isSome = true) {l : List AV} {args : List Value}
    (hr : ∀ e, okB (call tb f g l ⟨H0 e , 7, 0, 0⟩) = true) (hl : RelL (cx nu one 1 laidE laidE_stab) (fun _ => none) l args) (w : World) (hw : laidE w) :
    Calls Tryd.prog g ⟨args⟩ w fun e w' => e = .returned (.bool true) ∧ Go.AX.Below w.heap.size w w' := by
  have hE := id hw
  obtain ⟨e, g0⟩ := geOf (C := cx nu one 1 laidE laidE_stab) rfl hE
  obtain ⟨S, hS⟩ := okB_inv (hr e)
  refine (run_okG h (H := H0 e ) hfi hb (by rw [hng]; exact hS) hl w hw (laidE_size hw) fun v k hv => ?_).mono fun e' w' he => ?_
  · unfold H0 at hv
    rw [get_set _ _ _ _ (by omega)] at hv
    split at hv
    · rename_i e0; subst e0; injection hv with hv; subst hv
      exact ⟨by rw [hng]; omega, e, _, _, rfl, ⟨trivial, rfl⟩, g0⟩
    simp [T.get_leaf] at hv
  · obtain ⟨x, ρ, rfl, hx, hb⟩ := he
    simp only [Rel] at hx
    exact ⟨by rw [hx], hb⟩
theorem runS {nu : Nat → Value} {one : ∀ i, (nu i).oneCell' = true} {tb : Tab} (h : AllOk (cx nu one 1 laidE laidE_stab) tb) (hng : tb.ng = 7) {f g : Nat} {fi : FI} (hfi : tb.fn.get g = some fi) (hb : fi.body.isSome = true) {l : List AV} {args : List Value} {len n : Nat}
    (hr : ∀ e, okS (call tb f g l ⟨H0 e , 7, 0, 0⟩) len n = true) (hl : RelL (cx nu one 1 laidE laidE_stab) (fun _ => none) l args) (w : World) (hw : laidE w) :
    Calls Tryd.prog g ⟨args⟩ w fun e w' => e = .returned (St' (strB len n)) ∧ Go.AX.Below w.heap.size w w' := by
  have hE := id hw
  obtain ⟨e, g0⟩ := geOf (C := cx nu one 1 laidE laidE_stab) rfl hE
  obtain ⟨S, hS⟩ := okS_inv (hr e)
  refine (run_okG h (H := H0 e ) hfi hb (by rw [hng]; exact hS) hl w hw (laidE_size hw) fun v k hv => ?_).mono fun e' w' he => ?_
  · unfold H0 at hv
    rw [get_set _ _ _ _ (by omega)] at hv
    split at hv
    · rename_i e0; subst e0; injection hv with hv; subst hv
      exact ⟨by rw [hng]; omega, e, _, _, rfl, ⟨trivial, rfl⟩, g0⟩
    simp [T.get_leaf] at hv
  · obtain ⟨x, ρ, rfl, hx, hb⟩ := he
    simp only [Rel] at hx
    exact ⟨by rw [hx.1], hb⟩
noncomputable def fk : FI := ⟨Tryd.f41.body, Tryd.f41.ntmps, Tryd.f41.results.toList, 0, none, []⟩
theorem fk_at : tab.fn.get 41 = some fk := by kernel_rfl
theorem fk_body : fk.body.isSome = true := by kernel_rfl
theorem kk (e : Nat) : okB (call tab 6000 41 [] ⟨H0 e , 7, 0, 0⟩) = true := by kernel_rfl
noncomputable def tabk : Tab := addSum tab 41 fk (.b true)
section
variable (nu : Nat → Value) (one : ∀ i, (nu i).oneCell' = true)
theorem sumk : SumOk (cx nu one 1 laidE laidE_stab) 41 (.b true) := fun w hi hs => by
  refine (runP (tabOk nu one 1 laidE laidE_stab) rfl fk_at fk_body kk (args := []) (by simp only [RelL]) w hi).mono fun e w' he => ?_
  exact ⟨.bool true, he.1, by simp only [Rel], he.2⟩
theorem tabkOk : AllOk (cx nu one 1 laidE laidE_stab) tabk := (tabOk nu one 1 laidE laidE_stab).sum (by omega) fk_at fk_body (sumk nu one)
end
theorem tu3 : Tryd.prog.underlying 3 = some (.int .i64) := by kernel_rfl
theorem tu5 : Tryd.prog.underlying 5 = some (.int .u8) := by kernel_rfl
theorem tu9 : Tryd.prog.underlying 9 = some .string := by kernel_rfl
theorem tu56 : Tryd.prog.underlying 56 = some (.int .u32) := by kernel_rfl
def nameL (t : Int) : List UInt8 := if t = 1 then strB 5 474214786402 else if t = 2 then strB 5 500136108641 else if t = 3 then strB 3 6581861 else if t = 4 then strB 6 126913623515504 else if t = 5 then strB 5 474214593651 else if t = 6 then strB 6 128047728850035 else if t = 7 then strB 6 125835652920435 else if t = 8 then strB 4 1635017060 else if t = 9 then strB 3 7628135 else if t = 10 then strB 3 7630695 else if t = 11 then strB 7 31093567915781749 else strB 4 1701736302
def hyg53_0 : List (HK × AV) := [(.bin .lss (.x 0) (.i .i64 (.ofNat 1)), .b true)]
noncomputable def tabg53_0 : Tab := { tabk with hyp := hyg53_0 }
theorem rung53_0 (e : Nat) : okS (call tabg53_0 9000 53 [.x 0] ⟨H0 e , 7, 0, 0⟩) 4 1701736302 = true := by kernel_rfl
def nug53_0 (t : Int) : List Value := [.int .i64 (t)]
theorem oneg53_0 (t : Int) : ∀ j, (nuL (nug53_0 t) j).oneCell' = true := nuL_one (l := nug53_0 t) rfl
theorem hyOkg53_0 (t : Int) (b0 : -9223372036854775808 ≤ t) (b1 : t ≤ 9223372036854775807) (k0 : ¬ t = 1) (k1 : ¬ t = 2) (k2 : ¬ t = 3) (k3 : ¬ t = 4) (k4 : ¬ t = 5) (k5 : ¬ t = 6) (k6 : ¬ t = 7) (k7 : ¬ t = 8) (k8 : ¬ t = 9) (k9 : ¬ t = 10) (k10 : ¬ t = 11) (h0 : t < 1) : ∀ k r, (k, r) ∈ hyg53_0 → HOk (cx (nuL (nug53_0 t)) (oneg53_0 t) 1 laidE laidE_stab) k r := by
  unfold hyg53_0
  refine hcons (kLt (isX rfl) (isZ (m := 1) rfl) (decide_eq_true (by omega))) ?_
  exact hnil
theorem pathg53_0 (t : Int) (b0 : -9223372036854775808 ≤ t) (b1 : t ≤ 9223372036854775807) (k0 : ¬ t = 1) (k1 : ¬ t = 2) (k2 : ¬ t = 3) (k3 : ¬ t = 4) (k4 : ¬ t = 5) (k5 : ¬ t = 6) (k6 : ¬ t = 7) (k7 : ¬ t = 8) (k8 : ¬ t = 9) (k9 : ¬ t = 10) (k10 : ¬ t = 11) (h0 : t < 1) (w : World) (hl : laidE w) : Calls Tryd.prog 53 #[.int .i64 t] w fun e w' => e = .returned (St' (strB 4 1701736302)) ∧ Go.AX.Below w.heap.size w w' := by
  obtain ⟨fi, hfi, hb⟩ : ∃ fi, tabk.fn.get 53 = some fi ∧ fi.body.isSome = true := ⟨_, rfl, by kernel_rfl⟩
  exact runS (tb := tabg53_0) ((tabkOk (nuL (nug53_0 t)) (oneg53_0 t)).hyps (hyOkg53_0 t b0 b1 k0 k1 k2 k3 k4 k5 k6 k7 k8 k9 k10 h0)) rfl hfi hb (fun e => rung53_0 e ) (args := [.int .i64 t]) (by simp only [RelL, Rel]; exact ⟨_, _, rfl, rfl, rfl⟩) w hl
def hyg53_1 : List (HK × AV) := [(.bin .lss (.x 0) (.i .i64 (.ofNat 1)), .b false), (.bin .gtr (.x 0) (.i .i64 (.ofNat 11)), .b true)]
noncomputable def tabg53_1 : Tab := { tabk with hyp := hyg53_1 }
theorem rung53_1 (e : Nat) : okS (call tabg53_1 9000 53 [.x 0] ⟨H0 e , 7, 0, 0⟩) 4 1701736302 = true := by kernel_rfl
def nug53_1 (t : Int) : List Value := [.int .i64 (t)]
theorem oneg53_1 (t : Int) : ∀ j, (nuL (nug53_1 t) j).oneCell' = true := nuL_one (l := nug53_1 t) rfl
theorem hyOkg53_1 (t : Int) (b0 : -9223372036854775808 ≤ t) (b1 : t ≤ 9223372036854775807) (k0 : ¬ t = 1) (k1 : ¬ t = 2) (k2 : ¬ t = 3) (k3 : ¬ t = 4) (k4 : ¬ t = 5) (k5 : ¬ t = 6) (k6 : ¬ t = 7) (k7 : ¬ t = 8) (k8 : ¬ t = 9) (k9 : ¬ t = 10) (k10 : ¬ t = 11) (h0 : ¬ (t < 1)) : ∀ k r, (k, r) ∈ hyg53_1 → HOk (cx (nuL (nug53_1 t)) (oneg53_1 t) 1 laidE laidE_stab) k r := by
  unfold hyg53_1
  refine hcons (kLt (isX rfl) (isZ (m := 1) rfl) (decide_eq_false (by omega))) ?_
  refine hcons (kGt (isX rfl) (isZ (m := 11) rfl) (decide_eq_true (by omega))) ?_
  exact hnil
theorem pathg53_1 (t : Int) (b0 : -9223372036854775808 ≤ t) (b1 : t ≤ 9223372036854775807) (k0 : ¬ t = 1) (k1 : ¬ t = 2) (k2 : ¬ t = 3) (k3 : ¬ t = 4) (k4 : ¬ t = 5) (k5 : ¬ t = 6) (k6 : ¬ t = 7) (k7 : ¬ t = 8) (k8 : ¬ t = 9) (k9 : ¬ t = 10) (k10 : ¬ t = 11) (h0 : ¬ (t < 1)) (w : World) (hl : laidE w) : Calls Tryd.prog 53 #[.int .i64 t] w fun e w' => e = .returned (St' (strB 4 1701736302)) ∧ Go.AX.Below w.heap.size w w' := by
  obtain ⟨fi, hfi, hb⟩ : ∃ fi, tabk.fn.get 53 = some fi ∧ fi.body.isSome = true := ⟨_, rfl, by kernel_rfl⟩
  exact runS (tb := tabg53_1) ((tabkOk (nuL (nug53_1 t)) (oneg53_1 t)).hyps (hyOkg53_1 t b0 b1 k0 k1 k2 k3 k4 k5 k6 k7 k8 k9 k10 h0)) rfl hfi hb (fun e => rung53_1 e ) (args := [.int .i64 t]) (by simp only [RelL, Rel]; exact ⟨_, _, rfl, rfl, rfl⟩) w hl
def hyg53_2 : List (HK × AV) := []
noncomputable def tabg53_2 : Tab := { tabk with hyp := hyg53_2 }
theorem rung53_2 (e : Nat) : okS (call tabg53_2 9000 53 [.i .i64 (.ofNat 1)] ⟨H0 e , 7, 0, 0⟩) 5 474214786402 = true := by kernel_rfl
def nug53_2 (t : Int) : List Value := []
theorem oneg53_2 (t : Int) : ∀ j, (nuL (nug53_2 t) j).oneCell' = true := nuL_one (l := nug53_2 t) rfl
theorem hyOkg53_2 (t : Int) (b0 : -9223372036854775808 ≤ t) (b1 : t ≤ 9223372036854775807) : ∀ k r, (k, r) ∈ hyg53_2 → HOk (cx (nuL (nug53_2 t)) (oneg53_2 t) 1 laidE laidE_stab) k r := by
  unfold hyg53_2
  exact hnil
theorem pathg53_2 (t : Int) (b0 : -9223372036854775808 ≤ t) (b1 : t ≤ 9223372036854775807) (w : World) (hl : laidE w) : Calls Tryd.prog 53 #[.int .i64 1] w fun e w' => e = .returned (St' (strB 5 474214786402)) ∧ Go.AX.Below w.heap.size w w' := by
  obtain ⟨fi, hfi, hb⟩ : ∃ fi, tabk.fn.get 53 = some fi ∧ fi.body.isSome = true := ⟨_, rfl, by kernel_rfl⟩
  exact runS (tb := tabg53_2) ((tabkOk (nuL (nug53_2 t)) (oneg53_2 t)).hyps (hyOkg53_2 t b0 b1)) rfl hfi hb (fun e => rung53_2 e ) (args := [.int .i64 1]) (by simp only [RelL, Rel]; exact ⟨_, _, rfl, rfl, rfl⟩) w hl
def hyg53_3 : List (HK × AV) := []
noncomputable def tabg53_3 : Tab := { tabk with hyp := hyg53_3 }
theorem rung53_3 (e : Nat) : okS (call tabg53_3 9000 53 [.i .i64 (.ofNat 2)] ⟨H0 e , 7, 0, 0⟩) 5 500136108641 = true := by kernel_rfl
def nug53_3 (t : Int) : List Value := []
theorem oneg53_3 (t : Int) : ∀ j, (nuL (nug53_3 t) j).oneCell' = true := nuL_one (l := nug53_3 t) rfl
theorem hyOkg53_3 (t : Int) (b0 : -9223372036854775808 ≤ t) (b1 : t ≤ 9223372036854775807) : ∀ k r, (k, r) ∈ hyg53_3 → HOk (cx (nuL (nug53_3 t)) (oneg53_3 t) 1 laidE laidE_stab) k r := by
  unfold hyg53_3
  exact hnil
theorem pathg53_3 (t : Int) (b0 : -9223372036854775808 ≤ t) (b1 : t ≤ 9223372036854775807) (w : World) (hl : laidE w) : Calls Tryd.prog 53 #[.int .i64 2] w fun e w' => e = .returned (St' (strB 5 500136108641)) ∧ Go.AX.Below w.heap.size w w' := by
  obtain ⟨fi, hfi, hb⟩ : ∃ fi, tabk.fn.get 53 = some fi ∧ fi.body.isSome = true := ⟨_, rfl, by kernel_rfl⟩
  exact runS (tb := tabg53_3) ((tabkOk (nuL (nug53_3 t)) (oneg53_3 t)).hyps (hyOkg53_3 t b0 b1)) rfl hfi hb (fun e => rung53_3 e ) (args := [.int .i64 2]) (by simp only [RelL, Rel]; exact ⟨_, _, rfl, rfl, rfl⟩) w hl
def hyg53_4 : List (HK × AV) := []
noncomputable def tabg53_4 : Tab := { tabk with hyp := hyg53_4 }
theorem rung53_4 (e : Nat) : okS (call tabg53_4 9000 53 [.i .i64 (.ofNat 3)] ⟨H0 e , 7, 0, 0⟩) 3 6581861 = true := by kernel_rfl
def nug53_4 (t : Int) : List Value := []
theorem oneg53_4 (t : Int) : ∀ j, (nuL (nug53_4 t) j).oneCell' = true := nuL_one (l := nug53_4 t) rfl
theorem hyOkg53_4 (t : Int) (b0 : -9223372036854775808 ≤ t) (b1 : t ≤ 9223372036854775807) : ∀ k r, (k, r) ∈ hyg53_4 → HOk (cx (nuL (nug53_4 t)) (oneg53_4 t) 1 laidE laidE_stab) k r := by
  unfold hyg53_4
  exact hnil
theorem pathg53_4 (t : Int) (b0 : -9223372036854775808 ≤ t) (b1 : t ≤ 9223372036854775807) (w : World) (hl : laidE w) : Calls Tryd.prog 53 #[.int .i64 3] w fun e w' => e = .returned (St' (strB 3 6581861)) ∧ Go.AX.Below w.heap.size w w' := by
  obtain ⟨fi, hfi, hb⟩ : ∃ fi, tabk.fn.get 53 = some fi ∧ fi.body.isSome = true := ⟨_, rfl, by kernel_rfl⟩
  exact runS (tb := tabg53_4) ((tabkOk (nuL (nug53_4 t)) (oneg53_4 t)).hyps (hyOkg53_4 t b0 b1)) rfl hfi hb (fun e => rung53_4 e ) (args := [.int .i64 3]) (by simp only [RelL, Rel]; exact ⟨_, _, rfl, rfl, rfl⟩) w hl
def hyg53_5 : List (HK × AV) := []
noncomputable def tabg53_5 : Tab := { tabk with hyp := hyg53_5 }
theorem rung53_5 (e : Nat) : okS (call tabg53_5 9000 53 [.i .i64 (.ofNat 4)] ⟨H0 e , 7, 0, 0⟩) 6 126913623515504 = true := by kernel_rfl
def nug53_5 (t : Int) : List Value := []
theorem oneg53_5 (t : Int) : ∀ j, (nuL (nug53_5 t) j).oneCell' = true := nuL_one (l := nug53_5 t) rfl
theorem hyOkg53_5 (t : Int) (b0 : -9223372036854775808 ≤ t) (b1 : t ≤ 9223372036854775807) : ∀ k r, (k, r) ∈ hyg53_5 → HOk (cx (nuL (nug53_5 t)) (oneg53_5 t) 1 laidE laidE_stab) k r := by
  unfold hyg53_5
  exact hnil
theorem pathg53_5 (t : Int) (b0 : -9223372036854775808 ≤ t) (b1 : t ≤ 9223372036854775807) (w : World) (hl : laidE w) : Calls Tryd.prog 53 #[.int .i64 4] w fun e w' => e = .returned (St' (strB 6 126913623515504)) ∧ Go.AX.Below w.heap.size w w' := by
  obtain ⟨fi, hfi, hb⟩ : ∃ fi, tabk.fn.get 53 = some fi ∧ fi.body.isSome = true := ⟨_, rfl, by kernel_rfl⟩
  exact runS (tb := tabg53_5) ((tabkOk (nuL (nug53_5 t)) (oneg53_5 t)).hyps (hyOkg53_5 t b0 b1)) rfl hfi hb (fun e => rung53_5 e ) (args := [.int .i64 4]) (by simp only [RelL, Rel]; exact ⟨_, _, rfl, rfl, rfl⟩) w hl
def hyg53_6 : List (HK × AV) := []
noncomputable def tabg53_6 : Tab := { tabk with hyp := hyg53_6 }
theorem rung53_6 (e : Nat) : okS (call tabg53_6 9000 53 [.i .i64 (.ofNat 5)] ⟨H0 e , 7, 0, 0⟩) 5 474214593651 = true := by kernel_rfl
def nug53_6 (t : Int) : List Value := []
theorem oneg53_6 (t : Int) : ∀ j, (nuL (nug53_6 t) j).oneCell' = true := nuL_one (l := nug53_6 t) rfl
theorem hyOkg53_6 (t : Int) (b0 : -9223372036854775808 ≤ t) (b1 : t ≤ 9223372036854775807) : ∀ k r, (k, r) ∈ hyg53_6 → HOk (cx (nuL (nug53_6 t)) (oneg53_6 t) 1 laidE laidE_stab) k r := by
  unfold hyg53_6
  exact hnil
theorem pathg53_6 (t : Int) (b0 : -9223372036854775808 ≤ t) (b1 : t ≤ 9223372036854775807) (w : World) (hl : laidE w) : Calls Tryd.prog 53 #[.int .i64 5] w fun e w' => e = .returned (St' (strB 5 474214593651)) ∧ Go.AX.Below w.heap.size w w' := by
  obtain ⟨fi, hfi, hb⟩ : ∃ fi, tabk.fn.get 53 = some fi ∧ fi.body.isSome = true := ⟨_, rfl, by kernel_rfl⟩
  exact runS (tb := tabg53_6) ((tabkOk (nuL (nug53_6 t)) (oneg53_6 t)).hyps (hyOkg53_6 t b0 b1)) rfl hfi hb (fun e => rung53_6 e ) (args := [.int .i64 5]) (by simp only [RelL, Rel]; exact ⟨_, _, rfl, rfl, rfl⟩) w hl
def hyg53_7 : List (HK × AV) := []
noncomputable def tabg53_7 : Tab := { tabk with hyp := hyg53_7 }
theorem rung53_7 (e : Nat) : okS (call tabg53_7 9000 53 [.i .i64 (.ofNat 6)] ⟨H0 e , 7, 0, 0⟩) 6 128047728850035 = true := by kernel_rfl
def nug53_7 (t : Int) : List Value := []
theorem oneg53_7 (t : Int) : ∀ j, (nuL (nug53_7 t) j).oneCell' = true := nuL_one (l := nug53_7 t) rfl
theorem hyOkg53_7 (t : Int) (b0 : -9223372036854775808 ≤ t) (b1 : t ≤ 9223372036854775807) : ∀ k r, (k, r) ∈ hyg53_7 → HOk (cx (nuL (nug53_7 t)) (oneg53_7 t) 1 laidE laidE_stab) k r := by
  unfold hyg53_7
  exact hnil
theorem pathg53_7 (t : Int) (b0 : -9223372036854775808 ≤ t) (b1 : t ≤ 9223372036854775807) (w : World) (hl : laidE w) : Calls Tryd.prog 53 #[.int .i64 6] w fun e w' => e = .returned (St' (strB 6 128047728850035)) ∧ Go.AX.Below w.heap.size w w' := by
  obtain ⟨fi, hfi, hb⟩ : ∃ fi, tabk.fn.get 53 = some fi ∧ fi.body.isSome = true := ⟨_, rfl, by kernel_rfl⟩
  exact runS (tb := tabg53_7) ((tabkOk (nuL (nug53_7 t)) (oneg53_7 t)).hyps (hyOkg53_7 t b0 b1)) rfl hfi hb (fun e => rung53_7 e ) (args := [.int .i64 6]) (by simp only [RelL, Rel]; exact ⟨_, _, rfl, rfl, rfl⟩) w hl
def hyg53_8 : List (HK × AV) := []
noncomputable def tabg53_8 : Tab := { tabk with hyp := hyg53_8 }
theorem rung53_8 (e : Nat) : okS (call tabg53_8 9000 53 [.i .i64 (.ofNat 7)] ⟨H0 e , 7, 0, 0⟩) 6 125835652920435 = true := by kernel_rfl
def nug53_8 (t : Int) : List Value := []
theorem oneg53_8 (t : Int) : ∀ j, (nuL (nug53_8 t) j).oneCell' = true := nuL_one (l := nug53_8 t) rfl
theorem hyOkg53_8 (t : Int) (b0 : -9223372036854775808 ≤ t) (b1 : t ≤ 9223372036854775807) : ∀ k r, (k, r) ∈ hyg53_8 → HOk (cx (nuL (nug53_8 t)) (oneg53_8 t) 1 laidE laidE_stab) k r := by
  unfold hyg53_8
  exact hnil
theorem pathg53_8 (t : Int) (b0 : -9223372036854775808 ≤ t) (b1 : t ≤ 9223372036854775807) (w : World) (hl : laidE w) : Calls Tryd.prog 53 #[.int .i64 7] w fun e w' => e = .returned (St' (strB 6 125835652920435)) ∧ Go.AX.Below w.heap.size w w' := by
  obtain ⟨fi, hfi, hb⟩ : ∃ fi, tabk.fn.get 53 = some fi ∧ fi.body.isSome = true := ⟨_, rfl, by kernel_rfl⟩
  exact runS (tb := tabg53_8) ((tabkOk (nuL (nug53_8 t)) (oneg53_8 t)).hyps (hyOkg53_8 t b0 b1)) rfl hfi hb (fun e => rung53_8 e ) (args := [.int .i64 7]) (by simp only [RelL, Rel]; exact ⟨_, _, rfl, rfl, rfl⟩) w hl
def hyg53_9 : List (HK × AV) := []
noncomputable def tabg53_9 : Tab := { tabk with hyp := hyg53_9 }
theorem rung53_9 (e : Nat) : okS (call tabg53_9 9000 53 [.i .i64 (.ofNat 8)] ⟨H0 e , 7, 0, 0⟩) 4 1635017060 = true := by kernel_rfl
def nug53_9 (t : Int) : List Value := []
theorem oneg53_9 (t : Int) : ∀ j, (nuL (nug53_9 t) j).oneCell' = true := nuL_one (l := nug53_9 t) rfl
theorem hyOkg53_9 (t : Int) (b0 : -9223372036854775808 ≤ t) (b1 : t ≤ 9223372036854775807) : ∀ k r, (k, r) ∈ hyg53_9 → HOk (cx (nuL (nug53_9 t)) (oneg53_9 t) 1 laidE laidE_stab) k r := by
  unfold hyg53_9
  exact hnil
theorem pathg53_9 (t : Int) (b0 : -9223372036854775808 ≤ t) (b1 : t ≤ 9223372036854775807) (w : World) (hl : laidE w) : Calls Tryd.prog 53 #[.int .i64 8] w fun e w' => e = .returned (St' (strB 4 1635017060)) ∧ Go.AX.Below w.heap.size w w' := by
  obtain ⟨fi, hfi, hb⟩ : ∃ fi, tabk.fn.get 53 = some fi ∧ fi.body.isSome = true := ⟨_, rfl, by kernel_rfl⟩
  exact runS (tb := tabg53_9) ((tabkOk (nuL (nug53_9 t)) (oneg53_9 t)).hyps (hyOkg53_9 t b0 b1)) rfl hfi hb (fun e => rung53_9 e ) (args := [.int .i64 8]) (by simp only [RelL, Rel]; exact ⟨_, _, rfl, rfl, rfl⟩) w hl
def hyg53_10 : List (HK × AV) := []
noncomputable def tabg53_10 : Tab := { tabk with hyp := hyg53_10 }
theorem rung53_10 (e : Nat) : okS (call tabg53_10 9000 53 [.i .i64 (.ofNat 9)] ⟨H0 e , 7, 0, 0⟩) 3 7628135 = true := by kernel_rfl
def nug53_10 (t : Int) : List Value := []
theorem oneg53_10 (t : Int) : ∀ j, (nuL (nug53_10 t) j).oneCell' = true := nuL_one (l := nug53_10 t) rfl
theorem hyOkg53_10 (t : Int) (b0 : -9223372036854775808 ≤ t) (b1 : t ≤ 9223372036854775807) : ∀ k r, (k, r) ∈ hyg53_10 → HOk (cx (nuL (nug53_10 t)) (oneg53_10 t) 1 laidE laidE_stab) k r := by
  unfold hyg53_10
  exact hnil
theorem pathg53_10 (t : Int) (b0 : -9223372036854775808 ≤ t) (b1 : t ≤ 9223372036854775807) (w : World) (hl : laidE w) : Calls Tryd.prog 53 #[.int .i64 9] w fun e w' => e = .returned (St' (strB 3 7628135)) ∧ Go.AX.Below w.heap.size w w' := by
  obtain ⟨fi, hfi, hb⟩ : ∃ fi, tabk.fn.get 53 = some fi ∧ fi.body.isSome = true := ⟨_, rfl, by kernel_rfl⟩
  exact runS (tb := tabg53_10) ((tabkOk (nuL (nug53_10 t)) (oneg53_10 t)).hyps (hyOkg53_10 t b0 b1)) rfl hfi hb (fun e => rung53_10 e ) (args := [.int .i64 9]) (by simp only [RelL, Rel]; exact ⟨_, _, rfl, rfl, rfl⟩) w hl
def hyg53_11 : List (HK × AV) := []
noncomputable def tabg53_11 : Tab := { tabk with hyp := hyg53_11 }
theorem rung53_11 (e : Nat) : okS (call tabg53_11 9000 53 [.i .i64 (.ofNat 10)] ⟨H0 e , 7, 0, 0⟩) 3 7630695 = true := by kernel_rfl
def nug53_11 (t : Int) : List Value := []
theorem oneg53_11 (t : Int) : ∀ j, (nuL (nug53_11 t) j).oneCell' = true := nuL_one (l := nug53_11 t) rfl
theorem hyOkg53_11 (t : Int) (b0 : -9223372036854775808 ≤ t) (b1 : t ≤ 9223372036854775807) : ∀ k r, (k, r) ∈ hyg53_11 → HOk (cx (nuL (nug53_11 t)) (oneg53_11 t) 1 laidE laidE_stab) k r := by
  unfold hyg53_11
  exact hnil
theorem pathg53_11 (t : Int) (b0 : -9223372036854775808 ≤ t) (b1 : t ≤ 9223372036854775807) (w : World) (hl : laidE w) : Calls Tryd.prog 53 #[.int .i64 10] w fun e w' => e = .returned (St' (strB 3 7630695)) ∧ Go.AX.Below w.heap.size w w' := by
  obtain ⟨fi, hfi, hb⟩ : ∃ fi, tabk.fn.get 53 = some fi ∧ fi.body.isSome = true := ⟨_, rfl, by kernel_rfl⟩
  exact runS (tb := tabg53_11) ((tabkOk (nuL (nug53_11 t)) (oneg53_11 t)).hyps (hyOkg53_11 t b0 b1)) rfl hfi hb (fun e => rung53_11 e ) (args := [.int .i64 10]) (by simp only [RelL, Rel]; exact ⟨_, _, rfl, rfl, rfl⟩) w hl
def hyg53_12 : List (HK × AV) := []
noncomputable def tabg53_12 : Tab := { tabk with hyp := hyg53_12 }
theorem rung53_12 (e : Nat) : okS (call tabg53_12 9000 53 [.i .i64 (.ofNat 11)] ⟨H0 e , 7, 0, 0⟩) 7 31093567915781749 = true := by kernel_rfl
def nug53_12 (t : Int) : List Value := []
theorem oneg53_12 (t : Int) : ∀ j, (nuL (nug53_12 t) j).oneCell' = true := nuL_one (l := nug53_12 t) rfl
theorem hyOkg53_12 (t : Int) (b0 : -9223372036854775808 ≤ t) (b1 : t ≤ 9223372036854775807) : ∀ k r, (k, r) ∈ hyg53_12 → HOk (cx (nuL (nug53_12 t)) (oneg53_12 t) 1 laidE laidE_stab) k r := by
  unfold hyg53_12
  exact hnil
theorem pathg53_12 (t : Int) (b0 : -9223372036854775808 ≤ t) (b1 : t ≤ 9223372036854775807) (w : World) (hl : laidE w) : Calls Tryd.prog 53 #[.int .i64 11] w fun e w' => e = .returned (St' (strB 7 31093567915781749)) ∧ Go.AX.Below w.heap.size w w' := by
  obtain ⟨fi, hfi, hb⟩ : ∃ fi, tabk.fn.get 53 = some fi ∧ fi.body.isSome = true := ⟨_, rfl, by kernel_rfl⟩
  exact runS (tb := tabg53_12) ((tabkOk (nuL (nug53_12 t)) (oneg53_12 t)).hyps (hyOkg53_12 t b0 b1)) rfl hfi hb (fun e => rung53_12 e ) (args := [.int .i64 11]) (by simp only [RelL, Rel]; exact ⟨_, _, rfl, rfl, rfl⟩) w hl
theorem callsg53 (t : Int) (b0 : -9223372036854775808 ≤ t) (b1 : t ≤ 9223372036854775807) (w : World) (hl : laidE w) : Calls Tryd.prog 53 #[.int .i64 t] w fun e w' => e = .returned (St' (nameL t)) ∧ Go.AX.Below w.heap.size w w' := by
  by_cases k0 : t = 1
  · subst k0
    exact pathg53_2 1 b0 b1 w hl
  by_cases k1 : t = 2
  · subst k1
    exact pathg53_3 2 b0 b1 w hl
  by_cases k2 : t = 3
  · subst k2
    exact pathg53_4 3 b0 b1 w hl
  by_cases k3 : t = 4
  · subst k3
    exact pathg53_5 4 b0 b1 w hl
  by_cases k4 : t = 5
  · subst k4
    exact pathg53_6 5 b0 b1 w hl
  by_cases k5 : t = 6
  · subst k5
    exact pathg53_7 6 b0 b1 w hl
  by_cases k6 : t = 7
  · subst k6
    exact pathg53_8 7 b0 b1 w hl
  by_cases k7 : t = 8
  · subst k7
    exact pathg53_9 8 b0 b1 w hl
  by_cases k8 : t = 9
  · subst k8
    exact pathg53_10 9 b0 b1 w hl
  by_cases k9 : t = 10
  · subst k9
    exact pathg53_11 10 b0 b1 w hl
  by_cases k10 : t = 11
  · subst k10
    exact pathg53_12 11 b0 b1 w hl
  have hs : nameL t = strB 4 1701736302 := by unfold nameL; rw [if_neg k0, if_neg k1, if_neg k2, if_neg k3, if_neg k4, if_neg k5, if_neg k6, if_neg k7, if_neg k8, if_neg k9, if_neg k10]
  rw [hs]
  by_cases h0 : t < 1
  · exact pathg53_0 t b0 b1 k0 k1 k2 k3 k4 k5 k6 k7 k8 k9 k10 h0 w hl
  · exact pathg53_1 t b0 b1 k0 k1 k2 k3 k4 k5 k6 k7 k8 k9 k10 h0 w hl
theorem hokg53 {nu : Nat → Value} {one : ∀ i, (nu i).oneCell' = true} {i j : Nat} {t : Int} (hi : nu i = .int .i64 t) (hj : nu j = St' (nameL t)) (b0 : -9223372036854775808 ≤ t) (b1 : t ≤ 9223372036854775807) : HOk (cx nu one 1 laidE laidE_stab) (.call 53 [.x i]) (.x j) := by
  intro ρ args hr w hl _
  simp only [RelL, Rel] at hr
  obtain ⟨v, vt, rfl, rfl, rfl⟩ := hr
  have hc : Calls Tryd.prog 53 #[nu i] w fun e w' => e = .returned (St' (nameL t)) ∧ Go.AX.Below w.heap.size w w' := by rw [hi]; exact callsg53 t b0 b1 w hl
  exact hc.mono fun e w' he => ⟨_, he.1, (by simp only [Rel]; exact hj.symm), he.2⟩
def hyg54_0 : List (HK × AV) := [(.bin .lss (.x 0) (.i .i64 (.ofNat 1)), .b true)]
noncomputable def tabg54_0 : Tab := { tabk with hyp := hyg54_0 }
theorem rung54_0 (e : Nat) : okS (call tabg54_0 9000 54 [.x 0] ⟨H0 e , 7, 0, 0⟩) 4 1701736302 = true := by kernel_rfl
def nug54_0 (t : Int) : List Value := [.int .i64 (t)]
theorem oneg54_0 (t : Int) : ∀ j, (nuL (nug54_0 t) j).oneCell' = true := nuL_one (l := nug54_0 t) rfl
theorem hyOkg54_0 (t : Int) (b0 : -9223372036854775808 ≤ t) (b1 : t ≤ 9223372036854775807) (k0 : ¬ t = 1) (k1 : ¬ t = 2) (k2 : ¬ t = 3) (k3 : ¬ t = 4) (k4 : ¬ t = 5) (k5 : ¬ t = 6) (k6 : ¬ t = 7) (k7 : ¬ t = 8) (k8 : ¬ t = 9) (k9 : ¬ t = 10) (k10 : ¬ t = 11) (h0 : t < 1) : ∀ k r, (k, r) ∈ hyg54_0 → HOk (cx (nuL (nug54_0 t)) (oneg54_0 t) 1 laidE laidE_stab) k r := by
  unfold hyg54_0
  refine hcons (kLt (isX rfl) (isZ (m := 1) rfl) (decide_eq_true (by omega))) ?_
  exact hnil
theorem pathg54_0 (t : Int) (b0 : -9223372036854775808 ≤ t) (b1 : t ≤ 9223372036854775807) (k0 : ¬ t = 1) (k1 : ¬ t = 2) (k2 : ¬ t = 3) (k3 : ¬ t = 4) (k4 : ¬ t = 5) (k5 : ¬ t = 6) (k6 : ¬ t = 7) (k7 : ¬ t = 8) (k8 : ¬ t = 9) (k9 : ¬ t = 10) (k10 : ¬ t = 11) (h0 : t < 1) (w : World) (hl : laidE w) : Calls Tryd.prog 54 #[.int .i64 t] w fun e w' => e = .returned (St' (strB 4 1701736302)) ∧ Go.AX.Below w.heap.size w w' := by
  obtain ⟨fi, hfi, hb⟩ : ∃ fi, tabk.fn.get 54 = some fi ∧ fi.body.isSome = true := ⟨_, rfl, by kernel_rfl⟩
  exact runS (tb := tabg54_0) ((tabkOk (nuL (nug54_0 t)) (oneg54_0 t)).hyps (hyOkg54_0 t b0 b1 k0 k1 k2 k3 k4 k5 k6 k7 k8 k9 k10 h0)) rfl hfi hb (fun e => rung54_0 e ) (args := [.int .i64 t]) (by simp only [RelL, Rel]; exact ⟨_, _, rfl, rfl, rfl⟩) w hl
def hyg54_1 : List (HK × AV) := [(.bin .lss (.x 0) (.i .i64 (.ofNat 1)), .b false), (.bin .gtr (.x 0) (.i .i64 (.ofNat 11)), .b true)]
noncomputable def tabg54_1 : Tab := { tabk with hyp := hyg54_1 }
theorem rung54_1 (e : Nat) : okS (call tabg54_1 9000 54 [.x 0] ⟨H0 e , 7, 0, 0⟩) 4 1701736302 = true := by kernel_rfl
def nug54_1 (t : Int) : List Value := [.int .i64 (t)]
theorem oneg54_1 (t : Int) : ∀ j, (nuL (nug54_1 t) j).oneCell' = true := nuL_one (l := nug54_1 t) rfl
theorem hyOkg54_1 (t : Int) (b0 : -9223372036854775808 ≤ t) (b1 : t ≤ 9223372036854775807) (k0 : ¬ t = 1) (k1 : ¬ t = 2) (k2 : ¬ t = 3) (k3 : ¬ t = 4) (k4 : ¬ t = 5) (k5 : ¬ t = 6) (k6 : ¬ t = 7) (k7 : ¬ t = 8) (k8 : ¬ t = 9) (k9 : ¬ t = 10) (k10 : ¬ t = 11) (h0 : ¬ (t < 1)) : ∀ k r, (k, r) ∈ hyg54_1 → HOk (cx (nuL (nug54_1 t)) (oneg54_1 t) 1 laidE laidE_stab) k r := by
  unfold hyg54_1
  refine hcons (kLt (isX rfl) (isZ (m := 1) rfl) (decide_eq_false (by omega))) ?_
  refine hcons (kGt (isX rfl) (isZ (m := 11) rfl) (decide_eq_true (by omega))) ?_
  exact hnil
theorem pathg54_1 (t : Int) (b0 : -9223372036854775808 ≤ t) (b1 : t ≤ 9223372036854775807) (k0 : ¬ t = 1) (k1 : ¬ t = 2) (k2 : ¬ t = 3) (k3 : ¬ t = 4) (k4 : ¬ t = 5) (k5 : ¬ t = 6) (k6 : ¬ t = 7) (k7 : ¬ t = 8) (k8 : ¬ t = 9) (k9 : ¬ t = 10) (k10 : ¬ t = 11) (h0 : ¬ (t < 1)) (w : World) (hl : laidE w) : Calls Tryd.prog 54 #[.int .i64 t] w fun e w' => e = .returned (St' (strB 4 1701736302)) ∧ Go.AX.Below w.heap.size w w' := by
  obtain ⟨fi, hfi, hb⟩ : ∃ fi, tabk.fn.get 54 = some fi ∧ fi.body.isSome = true := ⟨_, rfl, by kernel_rfl⟩
  exact runS (tb := tabg54_1) ((tabkOk (nuL (nug54_1 t)) (oneg54_1 t)).hyps (hyOkg54_1 t b0 b1 k0 k1 k2 k3 k4 k5 k6 k7 k8 k9 k10 h0)) rfl hfi hb (fun e => rung54_1 e ) (args := [.int .i64 t]) (by simp only [RelL, Rel]; exact ⟨_, _, rfl, rfl, rfl⟩) w hl
def hyg54_2 : List (HK × AV) := []
noncomputable def tabg54_2 : Tab := { tabk with hyp := hyg54_2 }
theorem rung54_2 (e : Nat) : okS (call tabg54_2 9000 54 [.i .i64 (.ofNat 1)] ⟨H0 e , 7, 0, 0⟩) 5 474214786402 = true := by kernel_rfl
def nug54_2 (t : Int) : List Value := []
theorem oneg54_2 (t : Int) : ∀ j, (nuL (nug54_2 t) j).oneCell' = true := nuL_one (l := nug54_2 t) rfl
theorem hyOkg54_2 (t : Int) (b0 : -9223372036854775808 ≤ t) (b1 : t ≤ 9223372036854775807) : ∀ k r, (k, r) ∈ hyg54_2 → HOk (cx (nuL (nug54_2 t)) (oneg54_2 t) 1 laidE laidE_stab) k r := by
  unfold hyg54_2
  exact hnil
theorem pathg54_2 (t : Int) (b0 : -9223372036854775808 ≤ t) (b1 : t ≤ 9223372036854775807) (w : World) (hl : laidE w) : Calls Tryd.prog 54 #[.int .i64 1] w fun e w' => e = .returned (St' (strB 5 474214786402)) ∧ Go.AX.Below w.heap.size w w' := by
  obtain ⟨fi, hfi, hb⟩ : ∃ fi, tabk.fn.get 54 = some fi ∧ fi.body.isSome = true := ⟨_, rfl, by kernel_rfl⟩
  exact runS (tb := tabg54_2) ((tabkOk (nuL (nug54_2 t)) (oneg54_2 t)).hyps (hyOkg54_2 t b0 b1)) rfl hfi hb (fun e => rung54_2 e ) (args := [.int .i64 1]) (by simp only [RelL, Rel]; exact ⟨_, _, rfl, rfl, rfl⟩) w hl
def hyg54_3 : List (HK × AV) := []
noncomputable def tabg54_3 : Tab := { tabk with hyp := hyg54_3 }
theorem rung54_3 (e : Nat) : okS (call tabg54_3 9000 54 [.i .i64 (.ofNat 2)] ⟨H0 e , 7, 0, 0⟩) 5 500136108641 = true := by kernel_rfl
def nug54_3 (t : Int) : List Value := []
theorem oneg54_3 (t : Int) : ∀ j, (nuL (nug54_3 t) j).oneCell' = true := nuL_one (l := nug54_3 t) rfl
theorem hyOkg54_3 (t : Int) (b0 : -9223372036854775808 ≤ t) (b1 : t ≤ 9223372036854775807) : ∀ k r, (k, r) ∈ hyg54_3 → HOk (cx (nuL (nug54_3 t)) (oneg54_3 t) 1 laidE laidE_stab) k r := by
  unfold hyg54_3
  exact hnil
theorem pathg54_3 (t : Int) (b0 : -9223372036854775808 ≤ t) (b1 : t ≤ 9223372036854775807) (w : World) (hl : laidE w) : Calls Tryd.prog 54 #[.int .i64 2] w fun e w' => e = .returned (St' (strB 5 500136108641)) ∧ Go.AX.Below w.heap.size w w' := by
  obtain ⟨fi, hfi, hb⟩ : ∃ fi, tabk.fn.get 54 = some fi ∧ fi.body.isSome = true := ⟨_, rfl, by kernel_rfl⟩
  exact runS (tb := tabg54_3) ((tabkOk (nuL (nug54_3 t)) (oneg54_3 t)).hyps (hyOkg54_3 t b0 b1)) rfl hfi hb (fun e => rung54_3 e ) (args := [.int .i64 2]) (by simp only [RelL, Rel]; exact ⟨_, _, rfl, rfl, rfl⟩) w hl
def hyg54_4 : List (HK × AV) := []
noncomputable def tabg54_4 : Tab := { tabk with hyp := hyg54_4 }
theorem rung54_4 (e : Nat) : okS (call tabg54_4 9000 54 [.i .i64 (.ofNat 3)] ⟨H0 e , 7, 0, 0⟩) 3 6581861 = true := by kernel_rfl
def nug54_4 (t : Int) : List Value := []
theorem oneg54_4 (t : Int) : ∀ j, (nuL (nug54_4 t) j).oneCell' = true := nuL_one (l := nug54_4 t) rfl
theorem hyOkg54_4 (t : Int) (b0 : -9223372036854775808 ≤ t) (b1 : t ≤ 9223372036854775807) : ∀ k r, (k, r) ∈ hyg54_4 → HOk (cx (nuL (nug54_4 t)) (oneg54_4 t) 1 laidE laidE_stab) k r := by
  unfold hyg54_4
  exact hnil
theorem pathg54_4 (t : Int) (b0 : -9223372036854775808 ≤ t) (b1 : t ≤ 9223372036854775807) (w : World) (hl : laidE w) : Calls Tryd.prog 54 #[.int .i64 3] w fun e w' => e = .returned (St' (strB 3 6581861)) ∧ Go.AX.Below w.heap.size w w' := by
  obtain ⟨fi, hfi, hb⟩ : ∃ fi, tabk.fn.get 54 = some fi ∧ fi.body.isSome = true := ⟨_, rfl, by kernel_rfl⟩
  exact runS (tb := tabg54_4) ((tabkOk (nuL (nug54_4 t)) (oneg54_4 t)).hyps (hyOkg54_4 t b0 b1)) rfl hfi hb (fun e => rung54_4 e ) (args := [.int .i64 3]) (by simp only [RelL, Rel]; exact ⟨_, _, rfl, rfl, rfl⟩) w hl
def hyg54_5 : List (HK × AV) := []
noncomputable def tabg54_5 : Tab := { tabk with hyp := hyg54_5 }
theorem rung54_5 (e : Nat) : okS (call tabg54_5 9000 54 [.i .i64 (.ofNat 4)] ⟨H0 e , 7, 0, 0⟩) 6 126913623515504 = true := by kernel_rfl
def nug54_5 (t : Int) : List Value := []
theorem oneg54_5 (t : Int) : ∀ j, (nuL (nug54_5 t) j).oneCell' = true := nuL_one (l := nug54_5 t) rfl
theorem hyOkg54_5 (t : Int) (b0 : -9223372036854775808 ≤ t) (b1 : t ≤ 9223372036854775807) : ∀ k r, (k, r) ∈ hyg54_5 → HOk (cx (nuL (nug54_5 t)) (oneg54_5 t) 1 laidE laidE_stab) k r := by
  unfold hyg54_5
  exact hnil
theorem pathg54_5 (t : Int) (b0 : -9223372036854775808 ≤ t) (b1 : t ≤ 9223372036854775807) (w : World) (hl : laidE w) : Calls Tryd.prog 54 #[.int .i64 4] w fun e w' => e = .returned (St' (strB 6 126913623515504)) ∧ Go.AX.Below w.heap.size w w' := by
  obtain ⟨fi, hfi, hb⟩ : ∃ fi, tabk.fn.get 54 = some fi ∧ fi.body.isSome = true := ⟨_, rfl, by kernel_rfl⟩
  exact runS (tb := tabg54_5) ((tabkOk (nuL (nug54_5 t)) (oneg54_5 t)).hyps (hyOkg54_5 t b0 b1)) rfl hfi hb (fun e => rung54_5 e ) (args := [.int .i64 4]) (by simp only [RelL, Rel]; exact ⟨_, _, rfl, rfl, rfl⟩) w hl
def hyg54_6 : List (HK × AV) := []
noncomputable def tabg54_6 : Tab := { tabk with hyp := hyg54_6 }
theorem rung54_6 (e : Nat) : okS (call tabg54_6 9000 54 [.i .i64 (.ofNat 5)] ⟨H0 e , 7, 0, 0⟩) 5 474214593651 = true := by kernel_rfl
def nug54_6 (t : Int) : List Value := []
theorem oneg54_6 (t : Int) : ∀ j, (nuL (nug54_6 t) j).oneCell' = true := nuL_one (l := nug54_6 t) rfl
theorem hyOkg54_6 (t : Int) (b0 : -9223372036854775808 ≤ t) (b1 : t ≤ 9223372036854775807) : ∀ k r, (k, r) ∈ hyg54_6 → HOk (cx (nuL (nug54_6 t)) (oneg54_6 t) 1 laidE laidE_stab) k r := by
  unfold hyg54_6
  exact hnil
theorem pathg54_6 (t : Int) (b0 : -9223372036854775808 ≤ t) (b1 : t ≤ 9223372036854775807) (w : World) (hl : laidE w) : Calls Tryd.prog 54 #[.int .i64 5] w fun e w' => e = .returned (St' (strB 5 474214593651)) ∧ Go.AX.Below w.heap.size w w' := by
  obtain ⟨fi, hfi, hb⟩ : ∃ fi, tabk.fn.get 54 = some fi ∧ fi.body.isSome = true := ⟨_, rfl, by kernel_rfl⟩
  exact runS (tb := tabg54_6) ((tabkOk (nuL (nug54_6 t)) (oneg54_6 t)).hyps (hyOkg54_6 t b0 b1)) rfl hfi hb (fun e => rung54_6 e ) (args := [.int .i64 5]) (by simp only [RelL, Rel]; exact ⟨_, _, rfl, rfl, rfl⟩) w hl
def hyg54_7 : List (HK × AV) := []
noncomputable def tabg54_7 : Tab := { tabk with hyp := hyg54_7 }
theorem rung54_7 (e : Nat) : okS (call tabg54_7 9000 54 [.i .i64 (.ofNat 6)] ⟨H0 e , 7, 0, 0⟩) 6 128047728850035 = true := by kernel_rfl
def nug54_7 (t : Int) : List Value := []
theorem oneg54_7 (t : Int) : ∀ j, (nuL (nug54_7 t) j).oneCell' = true := nuL_one (l := nug54_7 t) rfl
theorem hyOkg54_7 (t : Int) (b0 : -9223372036854775808 ≤ t) (b1 : t ≤ 9223372036854775807) : ∀ k r, (k, r) ∈ hyg54_7 → HOk (cx (nuL (nug54_7 t)) (oneg54_7 t) 1 laidE laidE_stab) k r := by
  unfold hyg54_7
  exact hnil
theorem pathg54_7 (t : Int) (b0 : -9223372036854775808 ≤ t) (b1 : t ≤ 9223372036854775807) (w : World) (hl : laidE w) : Calls Tryd.prog 54 #[.int .i64 6] w fun e w' => e = .returned (St' (strB 6 128047728850035)) ∧ Go.AX.Below w.heap.size w w' := by
  obtain ⟨fi, hfi, hb⟩ : ∃ fi, tabk.fn.get 54 = some fi ∧ fi.body.isSome = true := ⟨_, rfl, by kernel_rfl⟩
  exact runS (tb := tabg54_7) ((tabkOk (nuL (nug54_7 t)) (oneg54_7 t)).hyps (hyOkg54_7 t b0 b1)) rfl hfi hb (fun e => rung54_7 e ) (args := [.int .i64 6]) (by simp only [RelL, Rel]; exact ⟨_, _, rfl, rfl, rfl⟩) w hl
def hyg54_8 : List (HK × AV) := []
noncomputable def tabg54_8 : Tab := { tabk with hyp := hyg54_8 }
theorem rung54_8 (e : Nat) : okS (call tabg54_8 9000 54 [.i .i64 (.ofNat 7)] ⟨H0 e , 7, 0, 0⟩) 6 125835652920435 = true := by kernel_rfl
def nug54_8 (t : Int) : List Value := []
theorem oneg54_8 (t : Int) : ∀ j, (nuL (nug54_8 t) j).oneCell' = true := nuL_one (l := nug54_8 t) rfl
theorem hyOkg54_8 (t : Int) (b0 : -9223372036854775808 ≤ t) (b1 : t ≤ 9223372036854775807) : ∀ k r, (k, r) ∈ hyg54_8 → HOk (cx (nuL (nug54_8 t)) (oneg54_8 t) 1 laidE laidE_stab) k r := by
  unfold hyg54_8
  exact hnil
theorem pathg54_8 (t : Int) (b0 : -9223372036854775808 ≤ t) (b1 : t ≤ 9223372036854775807) (w : World) (hl : laidE w) : Calls Tryd.prog 54 #[.int .i64 7] w fun e w' => e = .returned (St' (strB 6 125835652920435)) ∧ Go.AX.Below w.heap.size w w' := by
  obtain ⟨fi, hfi, hb⟩ : ∃ fi, tabk.fn.get 54 = some fi ∧ fi.body.isSome = true := ⟨_, rfl, by kernel_rfl⟩
  exact runS (tb := tabg54_8) ((tabkOk (nuL (nug54_8 t)) (oneg54_8 t)).hyps (hyOkg54_8 t b0 b1)) rfl hfi hb (fun e => rung54_8 e ) (args := [.int .i64 7]) (by simp only [RelL, Rel]; exact ⟨_, _, rfl, rfl, rfl⟩) w hl
def hyg54_9 : List (HK × AV) := []
noncomputable def tabg54_9 : Tab := { tabk with hyp := hyg54_9 }
theorem rung54_9 (e : Nat) : okS (call tabg54_9 9000 54 [.i .i64 (.ofNat 8)] ⟨H0 e , 7, 0, 0⟩) 4 1635017060 = true := by kernel_rfl
def nug54_9 (t : Int) : List Value := []
theorem oneg54_9 (t : Int) : ∀ j, (nuL (nug54_9 t) j).oneCell' = true := nuL_one (l := nug54_9 t) rfl
theorem hyOkg54_9 (t : Int) (b0 : -9223372036854775808 ≤ t) (b1 : t ≤ 9223372036854775807) : ∀ k r, (k, r) ∈ hyg54_9 → HOk (cx (nuL (nug54_9 t)) (oneg54_9 t) 1 laidE laidE_stab) k r := by
  unfold hyg54_9
  exact hnil
theorem pathg54_9 (t : Int) (b0 : -9223372036854775808 ≤ t) (b1 : t ≤ 9223372036854775807) (w : World) (hl : laidE w) : Calls Tryd.prog 54 #[.int .i64 8] w fun e w' => e = .returned (St' (strB 4 1635017060)) ∧ Go.AX.Below w.heap.size w w' := by
  obtain ⟨fi, hfi, hb⟩ : ∃ fi, tabk.fn.get 54 = some fi ∧ fi.body.isSome = true := ⟨_, rfl, by kernel_rfl⟩
  exact runS (tb := tabg54_9) ((tabkOk (nuL (nug54_9 t)) (oneg54_9 t)).hyps (hyOkg54_9 t b0 b1)) rfl hfi hb (fun e => rung54_9 e ) (args := [.int .i64 8]) (by simp only [RelL, Rel]; exact ⟨_, _, rfl, rfl, rfl⟩) w hl
def hyg54_10 : List (HK × AV) := []
noncomputable def tabg54_10 : Tab := { tabk with hyp := hyg54_10 }
theorem rung54_10 (e : Nat) : okS (call tabg54_10 9000 54 [.i .i64 (.ofNat 9)] ⟨H0 e , 7, 0, 0⟩) 3 7628135 = true := by kernel_rfl
def nug54_10 (t : Int) : List Value := []
theorem oneg54_10 (t : Int) : ∀ j, (nuL (nug54_10 t) j).oneCell' = true := nuL_one (l := nug54_10 t) rfl
theorem hyOkg54_10 (t : Int) (b0 : -9223372036854775808 ≤ t) (b1 : t ≤ 9223372036854775807) : ∀ k r, (k, r) ∈ hyg54_10 → HOk (cx (nuL (nug54_10 t)) (oneg54_10 t) 1 laidE laidE_stab) k r := by
  unfold hyg54_10
  exact hnil
theorem pathg54_10 (t : Int) (b0 : -9223372036854775808 ≤ t) (b1 : t ≤ 9223372036854775807) (w : World) (hl : laidE w) : Calls Tryd.prog 54 #[.int .i64 9] w fun e w' => e = .returned (St' (strB 3 7628135)) ∧ Go.AX.Below w.heap.size w w' := by
  obtain ⟨fi, hfi, hb⟩ : ∃ fi, tabk.fn.get 54 = some fi ∧ fi.body.isSome = true := ⟨_, rfl, by kernel_rfl⟩
  exact runS (tb := tabg54_10) ((tabkOk (nuL (nug54_10 t)) (oneg54_10 t)).hyps (hyOkg54_10 t b0 b1)) rfl hfi hb (fun e => rung54_10 e ) (args := [.int .i64 9]) (by simp only [RelL, Rel]; exact ⟨_, _, rfl, rfl, rfl⟩) w hl
def hyg54_11 : List (HK × AV) := []
noncomputable def tabg54_11 : Tab := { tabk with hyp := hyg54_11 }
theorem rung54_11 (e : Nat) : okS (call tabg54_11 9000 54 [.i .i64 (.ofNat 10)] ⟨H0 e , 7, 0, 0⟩) 3 7630695 = true := by kernel_rfl
def nug54_11 (t : Int) : List Value := []
theorem oneg54_11 (t : Int) : ∀ j, (nuL (nug54_11 t) j).oneCell' = true := nuL_one (l := nug54_11 t) rfl
theorem hyOkg54_11 (t : Int) (b0 : -9223372036854775808 ≤ t) (b1 : t ≤ 9223372036854775807) : ∀ k r, (k, r) ∈ hyg54_11 → HOk (cx (nuL (nug54_11 t)) (oneg54_11 t) 1 laidE laidE_stab) k r := by
  unfold hyg54_11
  exact hnil
theorem pathg54_11 (t : Int) (b0 : -9223372036854775808 ≤ t) (b1 : t ≤ 9223372036854775807) (w : World) (hl : laidE w) : Calls Tryd.prog 54 #[.int .i64 10] w fun e w' => e = .returned (St' (strB 3 7630695)) ∧ Go.AX.Below w.heap.size w w' := by
  obtain ⟨fi, hfi, hb⟩ : ∃ fi, tabk.fn.get 54 = some fi ∧ fi.body.isSome = true := ⟨_, rfl, by kernel_rfl⟩
  exact runS (tb := tabg54_11) ((tabkOk (nuL (nug54_11 t)) (oneg54_11 t)).hyps (hyOkg54_11 t b0 b1)) rfl hfi hb (fun e => rung54_11 e ) (args := [.int .i64 10]) (by simp only [RelL, Rel]; exact ⟨_, _, rfl, rfl, rfl⟩) w hl
def hyg54_12 : List (HK × AV) := []
noncomputable def tabg54_12 : Tab := { tabk with hyp := hyg54_12 }
theorem rung54_12 (e : Nat) : okS (call tabg54_12 9000 54 [.i .i64 (.ofNat 11)] ⟨H0 e , 7, 0, 0⟩) 7 31093567915781749 = true := by kernel_rfl
def nug54_12 (t : Int) : List Value := []
theorem oneg54_12 (t : Int) : ∀ j, (nuL (nug54_12 t) j).oneCell' = true := nuL_one (l := nug54_12 t) rfl
theorem hyOkg54_12 (t : Int) (b0 : -9223372036854775808 ≤ t) (b1 : t ≤ 9223372036854775807) : ∀ k r, (k, r) ∈ hyg54_12 → HOk (cx (nuL (nug54_12 t)) (oneg54_12 t) 1 laidE laidE_stab) k r := by
  unfold hyg54_12
  exact hnil
theorem pathg54_12 (t : Int) (b0 : -9223372036854775808 ≤ t) (b1 : t ≤ 9223372036854775807) (w : World) (hl : laidE w) : Calls Tryd.prog 54 #[.int .i64 11] w fun e w' => e = .returned (St' (strB 7 31093567915781749)) ∧ Go.AX.Below w.heap.size w w' := by
  obtain ⟨fi, hfi, hb⟩ : ∃ fi, tabk.fn.get 54 = some fi ∧ fi.body.isSome = true := ⟨_, rfl, by kernel_rfl⟩
  exact runS (tb := tabg54_12) ((tabkOk (nuL (nug54_12 t)) (oneg54_12 t)).hyps (hyOkg54_12 t b0 b1)) rfl hfi hb (fun e => rung54_12 e ) (args := [.int .i64 11]) (by simp only [RelL, Rel]; exact ⟨_, _, rfl, rfl, rfl⟩) w hl
theorem callsg54 (t : Int) (b0 : -9223372036854775808 ≤ t) (b1 : t ≤ 9223372036854775807) (w : World) (hl : laidE w) : Calls Tryd.prog 54 #[.int .i64 t] w fun e w' => e = .returned (St' (nameL t)) ∧ Go.AX.Below w.heap.size w w' := by
  by_cases k0 : t = 1
  · subst k0
    exact pathg54_2 1 b0 b1 w hl
  by_cases k1 : t = 2
  · subst k1
    exact pathg54_3 2 b0 b1 w hl
  by_cases k2 : t = 3
  · subst k2
    exact pathg54_4 3 b0 b1 w hl
  by_cases k3 : t = 4
  · subst k3
    exact pathg54_5 4 b0 b1 w hl
  by_cases k4 : t = 5
  · subst k4
    exact pathg54_6 5 b0 b1 w hl
  by_cases k5 : t = 6
  · subst k5
    exact pathg54_7 6 b0 b1 w hl
  by_cases k6 : t = 7
  · subst k6
    exact pathg54_8 7 b0 b1 w hl
  by_cases k7 : t = 8
  · subst k7
    exact pathg54_9 8 b0 b1 w hl
  by_cases k8 : t = 9
  · subst k8
    exact pathg54_10 9 b0 b1 w hl
  by_cases k9 : t = 10
  · subst k9
    exact pathg54_11 10 b0 b1 w hl
  by_cases k10 : t = 11
  · subst k10
    exact pathg54_12 11 b0 b1 w hl
  have hs : nameL t = strB 4 1701736302 := by unfold nameL; rw [if_neg k0, if_neg k1, if_neg k2, if_neg k3, if_neg k4, if_neg k5, if_neg k6, if_neg k7, if_neg k8, if_neg k9, if_neg k10]
  rw [hs]
  by_cases h0 : t < 1
  · exact pathg54_0 t b0 b1 k0 k1 k2 k3 k4 k5 k6 k7 k8 k9 k10 h0 w hl
  · exact pathg54_1 t b0 b1 k0 k1 k2 k3 k4 k5 k6 k7 k8 k9 k10 h0 w hl
theorem hokg54 {nu : Nat → Value} {one : ∀ i, (nu i).oneCell' = true} {i j : Nat} {t : Int} (hi : nu i = .int .i64 t) (hj : nu j = St' (nameL t)) (b0 : -9223372036854775808 ≤ t) (b1 : t ≤ 9223372036854775807) : HOk (cx nu one 1 laidE laidE_stab) (.call 54 [.x i]) (.x j) := by
  intro ρ args hr w hl _
  simp only [RelL, Rel] at hr
  obtain ⟨v, vt, rfl, rfl, rfl⟩ := hr
  have hc : Calls Tryd.prog 54 #[nu i] w fun e w' => e = .returned (St' (nameL t)) ∧ Go.AX.Below w.heap.size w w' := by rw [hi]; exact callsg54 t b0 b1 w hl
  exact hc.mono fun e w' he => ⟨_, he.1, (by simp only [Rel]; exact hj.symm), he.2⟩
end Go.Proofs.YtejdkoheodambaaDoor.kindTells
