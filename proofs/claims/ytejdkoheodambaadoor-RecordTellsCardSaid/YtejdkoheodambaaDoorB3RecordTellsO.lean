/- A part of the proof: an interpreter of the model's own code on partly known states, and that what it answers is what the program answers. No condition of its own. -/
import Derived.Test.YtejdkoheodambaaDoorSeatB3
import Derived.Test.YtejdkoheodambaaDoorCXpart4
set_option maxRecDepth 100000
set_option linter.unusedVariables false
namespace Go.Proofs.YtejdkoheodambaaDoor.recordTells
open Go Go.AX Go.Proofs Go.Proofs.YtejdkoheodambaaDoor
def laidE0 (w : World) : Prop := ∃ e fz, w.heap[0]? = some (.cells ⟨[.iface 135 (.agg #[typeHandle Tryd.prog 26])]⟩ e fz)
theorem laidE0_same {w w' : World} (h : laidE0 w) (hh : w'.heap[0]? = w.heap[0]?) : laidE0 w' := by
  obtain ⟨e, fz, hw⟩ := h
  exact ⟨e, fz, by rw [hh]; exact hw⟩
theorem laidE0_size {w : World} (h : laidE0 w) : 0 < w.heap.size := by
  obtain ⟨e, fz, hw⟩ := h
  rcases Nat.lt_or_ge 0 w.heap.size with h0 | h0
  · exact h0
  · rw [Array.getElem?_eq_none h0] at hw; cases hw
theorem geOf {C : Cx} {w : World} (hP : C.P = Tryd.prog) (h : laidE0 w) : ∃ e, GArr C w 0 e [.ifc 135 (.ag [.h 26])] := by
  obtain ⟨e, fz, h0⟩ := h
  refine ⟨e, _, fz, h0, rfl, fun j a hj => ?_⟩
  match j, hj with
  | 0, hj =>
    simp only [List.getElem?_cons_zero, Option.some.injEq] at hj
    subst hj
    refine ⟨.iface 135 (.agg #[typeHandle Tryd.prog 26]), rfl, ?_, rfl⟩
    simp only [Rel, RelL, hP]
    exact ⟨_, rfl, _, rfl, _, _, rfl, rfl, rfl⟩
  | j + 1, hj => simp at hj
/-- the variables that the runs read are laid -/
def laidE (w : World) : Prop := laidE0 w
theorem laidE_stab : ∀ w w' : World, (∀ k, k < 1 → w'.heap[k]? = w.heap[k]?) → laidE w → laidE w' := fun w w' h hE => laidE0_same hE (h 0 (by omega))
theorem laidE_size {w : World} (h : laidE w) : 1 ≤ w.heap.size := by
  have hE := h
  have := laidE0_size hE
  omega
noncomputable def H0 (e : Nat) : T Ent := T.set .leaf 0 (gBlk e (.l [.ifc 135 (.ag [.h 26])]))
theorem runP {nu : Nat → Value} {one : ∀ i, (nu i).oneCell' = true} {tb : Tab} (h : AllOk (cx nu one 1 laidE laidE_stab) tb) (hng : tb.ng = 7) {f g : Nat} {fi : FI} (hfi : tb.fn.get g = some fi) (hb : fi.body.isSome = true) {l : List AV} {args : List Value}
    (hr : ∀ e, okB (call tb f g l ⟨H0 e , 7, 0, 0⟩) = true) (hl : RelL (cx nu one 1 laidE laidE_stab) (fun _ => none) l args) (w : World) (hw : laidE w) :
    Calls Tryd.prog g ⟨args⟩ w fun e w' => e = .returned (.bool true) ∧ Go.AX.Below w.heap.size w w' := by
  have hE := id hw
  obtain ⟨e, g0⟩ := geOf (C := cx nu one 1 laidE laidE_stab) rfl hE
  obtain ⟨S, hS⟩ := okB_inv (hr e)
  refine (run_okG h (H := H0 e ) hfi hb (by rw [hng]; exact hS) hl w hw (laidE_size hw) fun v k hv => ?_).mono fun e' w' he => ?_
  · unfold H0 at hv
    rw [get_set _ _ _ _ (by omega)] at hv
    split at hv
    · rename_i e0; subst e0; injection hv with hv; subst hv
      exact ⟨by rw [hng]; omega, e, _, _, rfl, ⟨trivial, rfl⟩, g0⟩
    simp [T.get_leaf] at hv
  · obtain ⟨x, ρ, rfl, hx, hb⟩ := he
    simp only [Rel] at hx
    exact ⟨by rw [hx], hb⟩
theorem runS {nu : Nat → Value} {one : ∀ i, (nu i).oneCell' = true} {tb : Tab} (h : AllOk (cx nu one 1 laidE laidE_stab) tb) (hng : tb.ng = 7) {f g : Nat} {fi : FI} (hfi : tb.fn.get g = some fi) (hb : fi.body.isSome = true) {l : List AV} {args : List Value} {len n : Nat}
    (hr : ∀ e, okS (call tb f g l ⟨H0 e , 7, 0, 0⟩) len n = true) (hl : RelL (cx nu one 1 laidE laidE_stab) (fun _ => none) l args) (w : World) (hw : laidE w) :
    Calls Tryd.prog g ⟨args⟩ w fun e w' => e = .returned (St' (strB len n)) ∧ Go.AX.Below w.heap.size w w' := by
  have hE := id hw
  obtain ⟨e, g0⟩ := geOf (C := cx nu one 1 laidE laidE_stab) rfl hE
  obtain ⟨S, hS⟩ := okS_inv (hr e)
  refine (run_okG h (H := H0 e ) hfi hb (by rw [hng]; exact hS) hl w hw (laidE_size hw) fun v k hv => ?_).mono fun e' w' he => ?_
  · unfold H0 at hv
    rw [get_set _ _ _ _ (by omega)] at hv
    split at hv
    · rename_i e0; subst e0; injection hv with hv; subst hv
      exact ⟨by rw [hng]; omega, e, _, _, rfl, ⟨trivial, rfl⟩, g0⟩
    simp [T.get_leaf] at hv
  · obtain ⟨x, ρ, rfl, hx, hb⟩ := he
    simp only [Rel] at hx
    exact ⟨by rw [hx.1], hb⟩
noncomputable def fk : FI := ⟨Tryd.f29.body, Tryd.f29.ntmps, Tryd.f29.results.toList, 0, none, []⟩
theorem fk_at : tab.fn.get 29 = some fk := by kernel_rfl
theorem fk_body : fk.body.isSome = true := by kernel_rfl
theorem kk (e : Nat) : okB (call tab 6000 29 [] ⟨H0 e , 7, 0, 0⟩) = true := by kernel_rfl
noncomputable def tabk : Tab := addSum tab 29 fk (.b true)
section
variable (nu : Nat → Value) (one : ∀ i, (nu i).oneCell' = true)
theorem sumk : SumOk (cx nu one 1 laidE laidE_stab) 29 (.b true) := fun w hi hs => by
  refine (runP (tabOk nu one 1 laidE laidE_stab) rfl fk_at fk_body kk (args := []) (by simp only [RelL]) w hi).mono fun e w' he => ?_
  exact ⟨.bool true, he.1, by simp only [Rel], he.2⟩
theorem tabkOk : AllOk (cx nu one 1 laidE laidE_stab) tabk := (tabOk nu one 1 laidE laidE_stab).sum (by omega) fk_at fk_body (sumk nu one)
end
theorem tu3 : Tryd.prog.underlying 3 = some (.int .i64) := by kernel_rfl
theorem tu5 : Tryd.prog.underlying 5 = some (.int .u8) := by kernel_rfl
theorem tu9 : Tryd.prog.underlying 9 = some .string := by kernel_rfl
noncomputable def repI (e : Nat) (n : Nat) : Bool := okS (call tabk 9000 81 [.s 1 0, .i .i64 (.ofNat n)] ⟨H0 e , 7, 0, 0⟩) n 0
theorem rep0 (e : Nat) : allN (repI e ) 0 32 = true := by kernel_rfl
theorem rep1 (e : Nat) : allN (repI e ) 32 32 = true := by kernel_rfl
theorem rep2 (e : Nat) : allN (repI e ) 64 32 = true := by kernel_rfl
theorem rep3 (e : Nat) : allN (repI e ) 96 32 = true := by kernel_rfl
theorem rep4 (e : Nat) : allN (repI e ) 128 32 = true := by kernel_rfl
theorem rep5 (e : Nat) : allN (repI e ) 160 32 = true := by kernel_rfl
theorem rep6 (e : Nat) : allN (repI e ) 192 32 = true := by kernel_rfl
theorem rep7 (e : Nat) : allN (repI e ) 224 32 = true := by kernel_rfl
theorem repAll (e : Nat) (n : Nat) (h : n < 256) : repI e n = true := by
  by_cases h0 : n < 32
  · exact allN_at (rep0 e ) n (by omega) (by omega)
  by_cases h1 : n < 64
  · exact allN_at (rep1 e ) n (by omega) (by omega)
  by_cases h2 : n < 96
  · exact allN_at (rep2 e ) n (by omega) (by omega)
  by_cases h3 : n < 128
  · exact allN_at (rep3 e ) n (by omega) (by omega)
  by_cases h4 : n < 160
  · exact allN_at (rep4 e ) n (by omega) (by omega)
  by_cases h5 : n < 192
  · exact allN_at (rep5 e ) n (by omega) (by omega)
  by_cases h6 : n < 224
  · exact allN_at (rep6 e ) n (by omega) (by omega)
  exact allN_at (rep7 e ) n (by omega) (by omega)
theorem callsRep (n : Nat) (h : n < 256) (w : World) (hl : laidE w) : Calls Tryd.prog 81 #[St' [0], .int .i64 (n : Int)] w fun e w' => e = .returned (St' (List.replicate n 0)) ∧ Go.AX.Below w.heap.size w w' := by
  obtain ⟨fi, hfi, hb⟩ : ∃ fi, tabk.fn.get 81 = some fi ∧ fi.body.isSome = true := ⟨_, rfl, by kernel_rfl⟩
  have hh := runS (tb := tabk) (tabkOk (nuL []) (nuL_one (l := []) rfl)) rfl hfi hb (len := n) (n := 0) (fun e => repAll e n h) (args := [St' [0], .int .i64 (n : Int)]) (by simp only [RelL, Rel]; exact ⟨_, _, rfl, ⟨rfl, by omega⟩, _, _, rfl, rfl, rfl⟩) w hl
  rw [strB_zero] at hh
  exact hh
theorem hokRep {nu : Nat → Value} {one : ∀ i, (nu i).oneCell' = true} {i j : Nat} {t : Int} (hi : nu i = .int .i64 t) (hj : nu j = St' (List.replicate t.toNat 0)) (b0 : 0 ≤ t) (b1 : t ≤ 255) : HOk (cx nu one 1 laidE laidE_stab) (.call 81 [.s 1 0, .x i]) (.x j) := by
  intro ρ args hr w hl _
  simp only [RelL, Rel] at hr
  obtain ⟨u, vt, rfl, ⟨rfl, _⟩, v, vt2, rfl, rfl, rfl⟩ := hr
  have ht : t = (t.toNat : Int) := by omega
  have hc := callsRep t.toNat (by omega) w hl
  rw [← ht, ← hi] at hc
  exact hc.mono fun e w' he => ⟨_, he.1, (by simp only [Rel]; exact hj.symm), he.2⟩
end Go.Proofs.YtejdkoheodambaaDoor.recordTells
