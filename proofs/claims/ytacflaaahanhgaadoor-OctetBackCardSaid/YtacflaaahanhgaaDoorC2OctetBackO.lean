/- A part of the proof: an interpreter of the model's own code on partly known states, and that what it answers is what the program answers. No condition of its own. -/
import Derived.Test.YtacflaaahanhgaaDoorSeatC2
import Derived.Test.YtacflaaahanhgaaDoorHKY
set_option maxRecDepth 100000
set_option linter.unusedVariables false
set_option linter.unusedSimpArgs false
namespace Go.Proofs.YtacflaaahanhgaaDoor.octetBack
open Go Go.AX Go.Proofs Go.Proofs.YtacflaaahanhgaaDoor
def ascL : List AV := [.b false, .b false, .b false, .b false, .b false, .b false, .b false, .b false, .b false, .b true, .b false, .b false, .b false, .b false, .b false, .b false, .b false, .b false, .b false, .b false, .b false, .b false, .b false, .b false, .b false, .b false, .b false, .b false, .b false, .b false, .b false, .b false, .b true, .b false, .b false, .b false, .b false, .b false, .b false, .b false, .b false, .b false, .b false, .b false, .b false, .b false, .b false, .b false, .b false, .b false, .b false, .b false, .b false, .b false, .b false, .b false, .b false, .b false, .b false, .b false, .b false, .b false, .b false, .b false, .b false, .b false, .b false, .b false, .b false, .b false, .b false, .b false, .b false, .b false, .b false, .b false, .b false, .b false, .b false, .b false, .b false, .b false, .b false, .b false, .b false, .b false, .b false, .b false, .b false, .b false, .b false, .b false, .b false, .b false, .b false, .b false, .b false, .b false, .b false, .b false, .b false, .b false, .b false, .b false, .b false, .b false, .b false, .b false, .b false, .b false, .b false, .b false, .b false, .b false, .b false, .b false, .b false, .b false, .b false, .b false, .b false, .b false, .b false, .b false, .b false, .b false, .b false, .b false, .b false, .b false, .b false, .b false, .b false, .b false, .b false, .b false, .b false, .b false, .b false, .b false, .b false, .b false, .b false, .b false, .b false, .b false, .b false, .b false, .b false, .b false, .b false, .b false, .b false, .b false, .b false, .b false, .b false, .b false, .b false, .b false, .b false, .b false, .b false, .b false, .b false, .b false, .b false, .b false, .b false, .b false, .b false, .b false, .b false, .b false, .b false, .b false, .b false, .b false, .b false, .b false, .b false, .b false, .b false, .b false, .b false, .b false, .b false, .b false, .b false, .b false, .b false, .b false, .b false, .b false, .b false, .b false, .b false, .b false, .b false, .b false, .b false, .b false, .b false, .b false, .b false, .b false, .b false, .b false, .b false, .b false, .b false, .b false, .b false, .b false, .b false, .b false, .b false, .b false, .b false, .b false, .b false, .b false, .b false, .b false, .b false, .b false, .b false, .b false, .b false, .b false, .b false, .b false, .b false, .b false, .b false, .b false, .b false, .b false, .b false, .b false, .b false, .b false, .b false, .b false, .b false, .b false, .b false, .b false, .b false, .b false, .b false, .b false, .b false, .b false, .b false, .b false]
/-- the variables that the runs read are laid -/
def laidE (w : World) : Prop := True
theorem laidE_stab : ∀ w w' : World, (∀ k, k < 0 → w'.heap[k]? = w.heap[k]?) → laidE w → laidE w' := fun w w' h _ => trivial
theorem laidE_size {w : World} (h : laidE w) : 0 ≤ w.heap.size := by
  exact Nat.zero_le _
noncomputable def H0 : T Ent := .leaf
theorem runP {nu : Nat → Value} {one : ∀ i, i < 1000000 → (nu i).oneCell' = true} {tb : Tab} (h : AllOk (cx nu one 0 laidE laidE_stab) tb) (hng : tb.ng = 7) {f g : Nat} {fi : FI} (hfi : tb.fn.get g = some fi) (hb : fi.body.isSome = true) {l : List AV} {args : List Value}
    (hr : okB (call tb f g l ⟨H0 , 7, 0, 0⟩) = true) (hl : RelL (cx nu one 0 laidE laidE_stab) (fun _ => none) l args) (w : World) (hw : laidE w) :
    Calls Tryd.prog g ⟨args⟩ w fun e w' => e = .returned (.bool true) ∧ Go.AX.Below (Go.AX.Fz.lt w.heap.size) w w' := by
  obtain ⟨S, hS⟩ := okB_inv hr
  refine (run_okG h (H := H0 ) hfi hb (by rw [hng]; exact hS) hl w hw (laidE_size hw) fun v k hv => ?_).mono fun e' w' he => ?_
  · unfold H0 at hv
    simp [T.get_leaf] at hv
  · obtain ⟨x, ρ, rfl, hx, hb⟩ := he
    simp only [Rel] at hx
    exact ⟨by rw [hx], hb⟩
theorem runS {nu : Nat → Value} {one : ∀ i, i < 1000000 → (nu i).oneCell' = true} {tb : Tab} (h : AllOk (cx nu one 0 laidE laidE_stab) tb) (hng : tb.ng = 7) {f g : Nat} {fi : FI} (hfi : tb.fn.get g = some fi) (hb : fi.body.isSome = true) {l : List AV} {args : List Value} {len n : Nat}
    (hr : okS (call tb f g l ⟨H0 , 7, 0, 0⟩) len n = true) (hl : RelL (cx nu one 0 laidE laidE_stab) (fun _ => none) l args) (w : World) (hw : laidE w) :
    Calls Tryd.prog g ⟨args⟩ w fun e w' => e = .returned (St' (strB len n)) ∧ Go.AX.Below (Go.AX.Fz.lt w.heap.size) w w' := by
  obtain ⟨S, hS⟩ := okS_inv hr
  refine (run_okG h (H := H0 ) hfi hb (by rw [hng]; exact hS) hl w hw (laidE_size hw) fun v k hv => ?_).mono fun e' w' he => ?_
  · unfold H0 at hv
    simp [T.get_leaf] at hv
  · obtain ⟨x, ρ, rfl, hx, hb⟩ := he
    simp only [Rel] at hx
    exact ⟨by rw [hx.1], hb⟩
theorem runA {nu : Nat → Value} {one : ∀ i, i < 1000000 → (nu i).oneCell' = true} {tb : Tab} (h : AllOk (cx nu one 0 laidE laidE_stab) tb) (hng : tb.ng = 7) {f g : Nat} {fi : FI} (hfi : tb.fn.get g = some fi) (hb : fi.body.isSome = true) {l : List AV} {args : List Value} {ra : AV} (hnr : noR 8 ra = true)
    (hr : okA (call tb f g l ⟨H0 , 7, 0, 0⟩) ra = true) (hl : RelL (cx nu one 0 laidE laidE_stab) (fun _ => none) l args) (w : World) (hw : laidE w) :
    Calls Tryd.prog g ⟨args⟩ w fun e w' => ∃ x, e = .returned x ∧ Rel (cx nu one 0 laidE laidE_stab) (fun _ => none) ra x ∧ Go.AX.Below (Go.AX.Fz.lt w.heap.size) w w' := by
  obtain ⟨S, hS⟩ := okA_inv hr
  refine (run_okG h (H := H0 ) hfi hb (by rw [hng]; exact hS) hl w hw (laidE_size hw) fun v k hv => ?_).mono fun e' w' he => ?_
  · unfold H0 at hv
    simp [T.get_leaf] at hv
  · obtain ⟨x, ρ, rfl, hx, hb⟩ := he
    exact ⟨x, rfl, noR_rel 8 _ hnr _ hx, hb⟩
noncomputable def fk : FI := ⟨Tryd.f13.body, Tryd.f13.ntmps, Tryd.f13.results.toList, 0, none, []⟩
theorem fk_at : tab.fn.get 13 = some fk := by kernel_rfl
theorem fk_body : fk.body.isSome = true := by kernel_rfl
theorem kk : okB (call tab 6000 13 [] ⟨H0 , 7, 0, 0⟩) = true := by kernel_rfl
noncomputable def tabk : Tab := addSum tab 13 fk (.b true)
section
variable (nu : Nat → Value) (one : ∀ i, i < 1000000 → (nu i).oneCell' = true)
theorem sumk : SumOk (cx nu one 0 laidE laidE_stab) 13 (.b true) := fun w hi hs => by
  refine (runP (tabOk nu one 0 laidE laidE_stab) rfl fk_at fk_body kk (args := []) (by simp only [RelL]) w hi).mono fun e w' he => ?_
  exact ⟨.bool true, he.1, by simp only [Rel], he.2⟩
theorem tabkOk : AllOk (cx nu one 0 laidE laidE_stab) tabk := (tabOk nu one 0 laidE laidE_stab).sum (by omega) fk_at fk_body (sumk nu one)
end
theorem tu5 : Tryd.prog.underlying 5 = some (.int .u8) := by kernel_rfl
def MAln : Nat := 10633823810298881996667002598709002240
noncomputable def bfAln (n : Nat) : Bool := okA (call tabk 9000 61 [.i .u8 (.ofNat n)] ⟨H0 , 7, 0, 0⟩) (.b (Nat.testBit MAln n))
theorem bfAln_0 : allN (bfAln ) 0 16 = true := by kernel_rfl
theorem bfAln_1 : allN (bfAln ) 16 16 = true := by kernel_rfl
theorem bfAln_2 : allN (bfAln ) 32 16 = true := by kernel_rfl
theorem bfAln_3 : allN (bfAln ) 48 16 = true := by kernel_rfl
theorem bfAln_4 : allN (bfAln ) 64 16 = true := by kernel_rfl
theorem bfAln_5 : allN (bfAln ) 80 16 = true := by kernel_rfl
theorem bfAln_6 : allN (bfAln ) 96 16 = true := by kernel_rfl
theorem bfAln_7 : allN (bfAln ) 112 16 = true := by kernel_rfl
theorem bfAln_8 : allN (bfAln ) 128 16 = true := by kernel_rfl
theorem bfAln_9 : allN (bfAln ) 144 16 = true := by kernel_rfl
theorem bfAln_10 : allN (bfAln ) 160 16 = true := by kernel_rfl
theorem bfAln_11 : allN (bfAln ) 176 16 = true := by kernel_rfl
theorem bfAln_12 : allN (bfAln ) 192 16 = true := by kernel_rfl
theorem bfAln_13 : allN (bfAln ) 208 16 = true := by kernel_rfl
theorem bfAln_14 : allN (bfAln ) 224 16 = true := by kernel_rfl
theorem bfAln_15 : allN (bfAln ) 240 16 = true := by kernel_rfl
theorem bfAln_all (n : Nat) (h : n < 256) : bfAln n = true := by
  by_cases h0 : n < 16
  · exact allN_at (bfAln_0 ) n (by omega) (by omega)
  by_cases h1 : n < 32
  · exact allN_at (bfAln_1 ) n (by omega) (by omega)
  by_cases h2 : n < 48
  · exact allN_at (bfAln_2 ) n (by omega) (by omega)
  by_cases h3 : n < 64
  · exact allN_at (bfAln_3 ) n (by omega) (by omega)
  by_cases h4 : n < 80
  · exact allN_at (bfAln_4 ) n (by omega) (by omega)
  by_cases h5 : n < 96
  · exact allN_at (bfAln_5 ) n (by omega) (by omega)
  by_cases h6 : n < 112
  · exact allN_at (bfAln_6 ) n (by omega) (by omega)
  by_cases h7 : n < 128
  · exact allN_at (bfAln_7 ) n (by omega) (by omega)
  by_cases h8 : n < 144
  · exact allN_at (bfAln_8 ) n (by omega) (by omega)
  by_cases h9 : n < 160
  · exact allN_at (bfAln_9 ) n (by omega) (by omega)
  by_cases h10 : n < 176
  · exact allN_at (bfAln_10 ) n (by omega) (by omega)
  by_cases h11 : n < 192
  · exact allN_at (bfAln_11 ) n (by omega) (by omega)
  by_cases h12 : n < 208
  · exact allN_at (bfAln_12 ) n (by omega) (by omega)
  by_cases h13 : n < 224
  · exact allN_at (bfAln_13 ) n (by omega) (by omega)
  by_cases h14 : n < 240
  · exact allN_at (bfAln_14 ) n (by omega) (by omega)
  exact allN_at (bfAln_15 ) n (by omega) (by omega)
theorem callsAln (n : Nat) (h : n < 256) (w : World) (hl : laidE w) : Calls Tryd.prog 61 #[.int .u8 (n : Int)] w fun e w' => e = .returned (.bool (tb8 MAln (n : Int))) ∧ Go.AX.Below (Go.AX.Fz.lt w.heap.size) w w' := by
  obtain ⟨fi, hfi, hb⟩ : ∃ fi, tabk.fn.get 61 = some fi ∧ fi.body.isSome = true := ⟨_, rfl, by kernel_rfl⟩
  refine (runA (tb := tabk) (hnr := rfl) (tabkOk (nuL []) (fun j _ => nuL_one (l := []) rfl j)) rfl hfi hb (bfAln_all n h) (args := [.int .u8 (n : Int)]) (by simp only [RelL, Rel]; exact ⟨_, _, rfl, rfl, rfl⟩) w hl).mono fun e w' he => ?_
  obtain ⟨x, rfl, hx, hb2⟩ := he
  simp only [Rel] at hx
  exact ⟨by rw [hx]; rfl, hb2⟩
theorem hokAln {nu : Nat → Value} {one : ∀ i, i < 1000000 → (nu i).oneCell' = true} {x0 r : AV} {c : Int} (i0 : Is (cx nu one 0 laidE laidE_stab) x0 (.int .u8 c)) (b0 : 0 ≤ c) (b1 : c ≤ 255) (hr : Den (cx nu one 0 laidE laidE_stab) r (.bool (tb8 MAln c))) : HOk (cx nu one 0 laidE laidE_stab) (.call 61 [x0]) r := by
  intro ρ args ha w hl _
  simp only [RelL] at ha
  obtain ⟨v0, t0, rfl, a0, rfl⟩ := ha
  have e0 := i0 ρ _ a0; subst e0
  obtain ⟨n, rfl⟩ := Int.eq_ofNat_of_zero_le b0
  exact (callsAln n (by omega) w hl).mono fun e w' he => ⟨_, he.1, hr ρ, he.2⟩
def LIxp : List Int := [(-1), (-1), (-1), (-1), (-1), (-1), (-1), (-1), (-1), (-1), (-1), (-1), (-1), (-1), (-1), (-1), (-1), (-1), (-1), (-1), (-1), (-1), (-1), (-1), (-1), (-1), (-1), (-1), (-1), (-1), (-1), (-1), (-1), (-1), (-1), (-1), (-1), (-1), (-1), (-1), (-1), (-1), (-1), (-1), (-1), 0, 1, 4, (-1), (-1), (-1), (-1), (-1), (-1), (-1), (-1), (-1), (-1), (-1), (-1), (-1), (-1), (-1), (-1), (-1), (-1), (-1), (-1), (-1), (-1), (-1), (-1), (-1), (-1), (-1), (-1), (-1), (-1), (-1), (-1), (-1), (-1), (-1), (-1), (-1), (-1), (-1), (-1), (-1), (-1), (-1), (-1), (-1), (-1), (-1), 2, (-1), (-1), (-1), (-1), (-1), (-1), (-1), (-1), (-1), (-1), (-1), (-1), (-1), (-1), (-1), (-1), (-1), (-1), (-1), (-1), (-1), (-1), (-1), (-1), (-1), (-1), (-1), (-1), (-1), (-1), 3, (-1), (-1), (-1), (-1), (-1), (-1), (-1), (-1), (-1), (-1), (-1), (-1), (-1), (-1), (-1), (-1), (-1), (-1), (-1), (-1), (-1), (-1), (-1), (-1), (-1), (-1), (-1), (-1), (-1), (-1), (-1), (-1), (-1), (-1), (-1), (-1), (-1), (-1), (-1), (-1), (-1), (-1), (-1), (-1), (-1), (-1), (-1), (-1), (-1), (-1), (-1), (-1), (-1), (-1), (-1), (-1), (-1), (-1), (-1), (-1), (-1), (-1), (-1), (-1), (-1), (-1), (-1), (-1), (-1), (-1), (-1), (-1), (-1), (-1), (-1), (-1), (-1), (-1), (-1), (-1), (-1), (-1), (-1), (-1), (-1), (-1), (-1), (-1), (-1), (-1), (-1), (-1), (-1), (-1), (-1), (-1), (-1), (-1), (-1), (-1), (-1), (-1), (-1), (-1), (-1), (-1), (-1), (-1), (-1), (-1), (-1), (-1), (-1), (-1), (-1), (-1), (-1), (-1), (-1), (-1), (-1), (-1), (-1), (-1), (-1), (-1), (-1), (-1), (-1)]
def vIxp (c : Int) : Int := LIxp.getD c.toNat 0
noncomputable def bfIxp (n : Nat) : Bool := okA (call tabk 9000 62 [.s 5 203983629869, .i .u8 (.ofNat n)] ⟨H0 , 7, 0, 0⟩) (.i .i64 (LIxp.getD n 0))
theorem bfIxp_0 : allN (bfIxp ) 0 16 = true := by kernel_rfl
theorem bfIxp_1 : allN (bfIxp ) 16 16 = true := by kernel_rfl
theorem bfIxp_2 : allN (bfIxp ) 32 16 = true := by kernel_rfl
theorem bfIxp_3 : allN (bfIxp ) 48 16 = true := by kernel_rfl
theorem bfIxp_4 : allN (bfIxp ) 64 16 = true := by kernel_rfl
theorem bfIxp_5 : allN (bfIxp ) 80 16 = true := by kernel_rfl
theorem bfIxp_6 : allN (bfIxp ) 96 16 = true := by kernel_rfl
theorem bfIxp_7 : allN (bfIxp ) 112 16 = true := by kernel_rfl
theorem bfIxp_8 : allN (bfIxp ) 128 16 = true := by kernel_rfl
theorem bfIxp_9 : allN (bfIxp ) 144 16 = true := by kernel_rfl
theorem bfIxp_10 : allN (bfIxp ) 160 16 = true := by kernel_rfl
theorem bfIxp_11 : allN (bfIxp ) 176 16 = true := by kernel_rfl
theorem bfIxp_12 : allN (bfIxp ) 192 16 = true := by kernel_rfl
theorem bfIxp_13 : allN (bfIxp ) 208 16 = true := by kernel_rfl
theorem bfIxp_14 : allN (bfIxp ) 224 16 = true := by kernel_rfl
theorem bfIxp_15 : allN (bfIxp ) 240 16 = true := by kernel_rfl
theorem bfIxp_all (n : Nat) (h : n < 256) : bfIxp n = true := by
  by_cases h0 : n < 16
  · exact allN_at (bfIxp_0 ) n (by omega) (by omega)
  by_cases h1 : n < 32
  · exact allN_at (bfIxp_1 ) n (by omega) (by omega)
  by_cases h2 : n < 48
  · exact allN_at (bfIxp_2 ) n (by omega) (by omega)
  by_cases h3 : n < 64
  · exact allN_at (bfIxp_3 ) n (by omega) (by omega)
  by_cases h4 : n < 80
  · exact allN_at (bfIxp_4 ) n (by omega) (by omega)
  by_cases h5 : n < 96
  · exact allN_at (bfIxp_5 ) n (by omega) (by omega)
  by_cases h6 : n < 112
  · exact allN_at (bfIxp_6 ) n (by omega) (by omega)
  by_cases h7 : n < 128
  · exact allN_at (bfIxp_7 ) n (by omega) (by omega)
  by_cases h8 : n < 144
  · exact allN_at (bfIxp_8 ) n (by omega) (by omega)
  by_cases h9 : n < 160
  · exact allN_at (bfIxp_9 ) n (by omega) (by omega)
  by_cases h10 : n < 176
  · exact allN_at (bfIxp_10 ) n (by omega) (by omega)
  by_cases h11 : n < 192
  · exact allN_at (bfIxp_11 ) n (by omega) (by omega)
  by_cases h12 : n < 208
  · exact allN_at (bfIxp_12 ) n (by omega) (by omega)
  by_cases h13 : n < 224
  · exact allN_at (bfIxp_13 ) n (by omega) (by omega)
  by_cases h14 : n < 240
  · exact allN_at (bfIxp_14 ) n (by omega) (by omega)
  exact allN_at (bfIxp_15 ) n (by omega) (by omega)
theorem callsIxp (n : Nat) (h : n < 256) (w : World) (hl : laidE w) : Calls Tryd.prog 62 #[St' [u8 45, u8 46, u8 95, u8 126, u8 47], .int .u8 (n : Int)] w fun e w' => e = .returned (.int .i64 (vIxp (n : Int))) ∧ Go.AX.Below (Go.AX.Fz.lt w.heap.size) w w' := by
  obtain ⟨fi, hfi, hb⟩ : ∃ fi, tabk.fn.get 62 = some fi ∧ fi.body.isSome = true := ⟨_, rfl, by kernel_rfl⟩
  refine (runA (tb := tabk) (hnr := rfl) (tabkOk (nuL []) (fun j _ => nuL_one (l := []) rfl j)) rfl hfi hb (bfIxp_all n h) (args := [St' [u8 45, u8 46, u8 95, u8 126, u8 47], .int .u8 (n : Int)]) (by simp only [RelL, Rel]; exact ⟨_, _, rfl, ⟨rfl, by decide⟩, ⟨_, _, rfl, rfl, rfl⟩⟩) w hl).mono fun e w' he => ?_
  obtain ⟨x, rfl, hx, hb2⟩ := he
  simp only [Rel] at hx
  exact ⟨by rw [hx]; rfl, hb2⟩
theorem hokIxp {nu : Nat → Value} {one : ∀ i, i < 1000000 → (nu i).oneCell' = true} {x0 x1 r : AV} {c : Int} (i0 : Is (cx nu one 0 laidE laidE_stab) x0 (St' [u8 45, u8 46, u8 95, u8 126, u8 47])) (i1 : Is (cx nu one 0 laidE laidE_stab) x1 (.int .u8 c)) (b0 : 0 ≤ c) (b1 : c ≤ 255) (hr : Den (cx nu one 0 laidE laidE_stab) r (.int .i64 (vIxp c))) : HOk (cx nu one 0 laidE laidE_stab) (.call 62 [x0, x1]) r := by
  intro ρ args ha w hl _
  simp only [RelL] at ha
  obtain ⟨v0, t0, rfl, a0, v1, t1, rfl, a1, rfl⟩ := ha
  have e0 := i0 ρ _ a0; subst e0
  have e1 := i1 ρ _ a1; subst e1
  obtain ⟨n, rfl⟩ := Int.eq_ofNat_of_zero_le b0
  exact (callsIxp n (by omega) w hl).mono fun e w' he => ⟨_, he.1, hr ρ, he.2⟩
theorem rIxp {c : Int} (b0 : 0 ≤ c) (b1 : c ≤ 255) : (-1) ≤ vIxp c ∧ vIxp c ≤ 4 := by
  obtain ⟨n, rfl⟩ := Int.eq_ofNat_of_zero_le b0
  have h : ∀ m : Fin 256, (-1) ≤ LIxp.getD m.val 0 ∧ LIxp.getD m.val 0 ≤ 4 := by decide +kernel
  exact h ⟨n, by omega⟩
def hxU (d : Int) : Int := if d ≤ 9 then d + 48 else d + 55
theorem hxU_lo {d : Int} (h0 : 0 ≤ d) (h1 : d ≤ 15) : 48 ≤ hxU d ∧ hxU d ≤ 70 := by unfold hxU; split <;> omega
theorem hxU_sub {P Q : Int} (h0 : 0 ≤ P) (h1 : P ≤ 15) (hq : Q = P + 1) : [u8 (hxU P)] = (([u8 48, u8 49, u8 50, u8 51, u8 52, u8 53, u8 54, u8 55, u8 56, u8 57, u8 65, u8 66, u8 67, u8 68, u8 69, u8 70] : List UInt8).drop P.toNat).take (Q - P).toNat := by
  obtain ⟨n, rfl⟩ := Int.eq_ofNat_of_zero_le h0
  have e : (Q - (n : Int)).toNat = 1 := by omega
  rw [e]
  have h : ∀ m : Fin 16, [u8 (hxU (m.val : Int))] = (([u8 48, u8 49, u8 50, u8 51, u8 52, u8 53, u8 54, u8 55, u8 56, u8 57, u8 65, u8 66, u8 67, u8 68, u8 69, u8 70] : List UInt8).drop m.val).take 1 := by decide +kernel
  exact h ⟨n, by omega⟩
def escB (c : Int) : List UInt8 := if tb8 MAln c = true ∨ 0 ≤ vIxp c then [u8 c] else [u8 37, u8 (hxU (c / 16)), u8 (hxU (c % 16))]
def escS : List UInt8 → List UInt8
  | [] => []
  | c :: r => escB (c.toNat : Int) ++ escS r
theorem escB_aln {c : Int} (h : tb8 MAln c = true) : escB c = [u8 c] := if_pos (.inl h)
theorem escB_ix {c : Int} (h : 0 ≤ vIxp c) : escB c = [u8 c] := if_pos (.inr h)
theorem escB_no {c : Int} (h : ¬ (tb8 MAln c = true)) (h2 : ¬ (0 ≤ vIxp c)) : escB c = [u8 37, u8 (hxU (c / 16)), u8 (hxU (c % 16))] := if_neg (fun x => x.elim h h2)
theorem drop_bt {s : List UInt8} {i : Int} (h0 : 0 ≤ i) (h : i < (s.length : Int)) : s.drop i.toNat = u8 (bt s i.toNat) :: s.drop (i + 1).toNat := by
  have hlt : i.toNat < s.length := by omega
  rw [List.drop_eq_getElem_cons hlt, show (i + 1).toNat = i.toNat + 1 by omega]
  rw [u8_bt, List.getD_eq_getElem?_getD, List.getElem?_eq_getElem hlt, Option.getD_some]
theorem esc_step {s : List UInt8} {i : Int} (h0 : 0 ≤ i) (h : i < (s.length : Int)) : escS (s.drop i.toNat) = escB (bt s i.toNat) ++ escS (s.drop (i + 1).toNat) := by
  rw [drop_bt h0 h, escS, u8_toNat (bt_lo _ _) (bt_hi _ _)]
theorem esc_end {s : List UInt8} {i : Int} (h : ¬ i < (s.length : Int)) : escS (s.drop i.toNat) = [] := by
  rw [List.drop_eq_nil_of_le (by omega)]; rfl
theorem escB_len (c : Int) : 1 ≤ (escB c).length ∧ (escB c).length ≤ 3 := by unfold escB; split <;> simp
theorem escS_len : ∀ s : List UInt8, s.length ≤ (escS s).length ∧ (escS s).length ≤ 3 * s.length
  | [] => by simp [escS]
  | c :: r => by
    have := escS_len r; have := escB_len (c.toNat : Int)
    simp only [escS, List.length_append, List.length_cons]; omega
noncomputable def bodyEs : Code := loopNo (Tryd.f27.body.getD .skip) 0
theorem keyEs : oneKey (loopsOf (Tryd.f27.body.getD .skip)) 3 0 0 = true := by kernel_rfl
def keepEs : List Nat := [2]
def epEs_0 : List (Nat × AV) := [(0, .x 0), (3, .p 7 0), (6, .x 0), (7, .x 1), (8, .x 2)]
def hpEs_0 : List (Nat × Ent) := [(7, .b ⟨92, .l [.nilp, .nils], 0, 0, 0, false, false⟩)]
def nuEs_0 (s : List UInt8) (T : List UInt8) (i : Int) (b : List UInt8) : List Value := [St' s, .int .i64 ((s.length : Int)), .int .i64 (i), St' ([] : List UInt8), St' ([] : List UInt8), .int .u8 (bt s (Int.toNat (i))), St' ([u8 (bt s (Int.toNat (i)))]), .int .u8 (bt s (Int.toNat (i))), .int .i64 (i + 1), St' ([] : List UInt8), .int .u8 (bt s (Int.toNat (i))), .int .i64 (vIxp (bt s (Int.toNat (i)))), St' ([u8 (bt s (Int.toNat (i)))]), .int .u8 (bt s (Int.toNat (i))), .int .i64 (i + 1), St' ([] : List UInt8), .int .u8 (bt s (Int.toNat (i))), .int .i64 (vIxp (bt s (Int.toNat (i)))), .int .u8 ((bt s (Int.toNat (i))) / 16), .int .u8 (((bt s (Int.toNat (i))) / 16) + 1), St' ([u8 (hxU ((bt s (Int.toNat (i))) / 16))]), St' ([u8 37, u8 (hxU ((bt s (Int.toNat (i))) / 16))]), .int .u8 ((bt s (Int.toNat (i))) % 16), .int .u8 (((bt s (Int.toNat (i))) % 16) + 1), St' ([u8 (hxU ((bt s (Int.toNat (i))) % 16))]), St' ([u8 37, u8 (hxU ((bt s (Int.toNat (i))) / 16)), u8 (hxU ((bt s (Int.toNat (i))) % 16))]), .int .i64 (i + 1)]
theorem onEs_0 (s : List UInt8) (T : List UInt8) (i : Int) (b : List UInt8) : ∀ j, (nuL (nuEs_0 s T i b) j).oneCell' = true := nuL_one (l := nuEs_0 s T i b) rfl
def epEs_1 : List (Nat × AV) := [(0, .x 0), (3, .p 7 0), (6, .x 0), (7, .x 1), (8, .x 2)]
def hpEs_1 : List (Nat × Ent) := [(7, .b ⟨92, .l [.p 7 0, .sy 8], 0, 0, 0, false, false⟩), (8, .t 3 5)]
def nuEs_1 (s : List UInt8) (T : List UInt8) (i : Int) (b : List UInt8) : List Value := [St' s, .int .i64 ((s.length : Int)), .int .i64 (i), St' b, St' ([] : List UInt8), St' ([] : List UInt8), .int .u8 (bt s (Int.toNat (i))), St' (b ++ [u8 (bt s (Int.toNat (i)))]), .int .i64 (i + 1), St' ([] : List UInt8), .int .u8 (bt s (Int.toNat (i))), .int .i64 (vIxp (bt s (Int.toNat (i)))), St' (b ++ [u8 (bt s (Int.toNat (i)))]), .int .i64 (i + 1), St' ([] : List UInt8), .int .u8 (bt s (Int.toNat (i))), .int .i64 (vIxp (bt s (Int.toNat (i)))), .int .u8 ((bt s (Int.toNat (i))) / 16), .int .u8 (((bt s (Int.toNat (i))) / 16) + 1), St' ([u8 (hxU ((bt s (Int.toNat (i))) / 16))]), St' ([u8 37, u8 (hxU ((bt s (Int.toNat (i))) / 16))]), .int .u8 ((bt s (Int.toNat (i))) % 16), .int .u8 (((bt s (Int.toNat (i))) % 16) + 1), St' ([u8 (hxU ((bt s (Int.toNat (i))) % 16))]), St' ([u8 37, u8 (hxU ((bt s (Int.toNat (i))) / 16)), u8 (hxU ((bt s (Int.toNat (i))) % 16))]), St' (b ++ [u8 37, u8 (hxU ((bt s (Int.toNat (i))) / 16)), u8 (hxU ((bt s (Int.toNat (i))) % 16))]), .int .i64 (i + 1)]
theorem onEs_1 (s : List UInt8) (T : List UInt8) (i : Int) (b : List UInt8) : ∀ j, (nuL (nuEs_1 s T i b) j).oneCell' = true := nuL_one (l := nuEs_1 s T i b) rfl
def epEs (st : Nat × Int × List UInt8) : List (Nat × AV) := if st.1 = 0 then epEs_0 else epEs_1
def hpEs (st : Nat × Int × List UInt8) : List (Nat × Ent) := if st.1 = 0 then hpEs_0 else hpEs_1
def nuEs (s : List UInt8) (T : List UInt8) (st : Nat × Int × List UInt8) : List Value := if st.1 = 0 then nuEs_0 s T (st.2.1) (st.2.2) else nuEs_1 s T (st.2.1) (st.2.2)
theorem onEs (s : List UInt8) (T : List UInt8) (st : Nat × Int × List UInt8) : ∀ j, (nuL (nuEs s T st) j).oneCell' = true := by
  intro j
  unfold nuEs
  split
  · exact onEs_0  s T (st.2.1) (st.2.2) j
  exact onEs_1  s T (st.2.1) (st.2.2) j
theorem ebEs (st : Nat × Int × List UInt8) : (lfB (epEs st) && lfC keepEs) = true := by
  unfold epEs
  split
  · rfl
  rfl
noncomputable def DEs (s : List UInt8) (T : List UInt8) (st : Nat × Int × List UInt8) (X : Nat → Value) : Cx := cx (nuX (nuEs s T st) X) (nuX_one (onEs s T st)) 0 laidE laidE_stab
def InvEs (s : List UInt8) (T : List UInt8) (st : Nat × Int × List UInt8) : Prop := (0 ≤ (st.2.1)) ∧ ((st.2.1) ≤ (s.length : Int)) ∧ ((st.2.2) ++ escS (s.drop (st.2.1).toNat) = T) ∧ (((st.2.2).length : Int) ≤ 3 * (st.2.1)) ∧ ((st.1) = 0 → (st.2.2) = []) ∧ ((st.1) = 1 → (st.2.2) ≠ []) ∧ ((st.1) = 0 → (st.2.1) = 0) ∧ ((st.1) = 1 → 1 ≤ (st.2.1)) ∧ ((st.1) < 2)
def hyEs_p0 : List (HK × AV) := [(.bytes [], .x 3), (.bin .lss (.x 2) (.x 1), .b false)]
noncomputable def tabEs_p0 : Tab := { tabk with hyp := hyEs_p0 }
theorem runEs_p0 : okRdH (code tabEs_p0 2000 [] bodyEs (envOf (headOf epEs_0 keepEs) 40) ⟨lhSet hpEs_0 .leaf, 9, 0, 0⟩) (.exit 0) keepEs 40 14 [] [] 8 14 [(3, .p 7 0)] [(7, .b ⟨92, .l [.nilp, .nils], 0, 0, 0, false, false⟩)] = true := by kernel_rfl
set_option maxHeartbeats 2000000 in
theorem hyOkEs_p0 (s : List UInt8) (T : List UInt8) (i : Int) (b : List UInt8) (X : Nat → Value) (c0 : s.length ≤ 400) (i0 : 0 ≤ i) (i1 : i ≤ (s.length : Int)) (i2 : b ++ escS (s.drop i.toNat) = T) (i3 : (b.length : Int) ≤ 3 * i) (i4 : 0 = 0 → b = []) (i5 : 0 = 1 → b ≠ []) (i6 : 0 = 0 → i = 0) (i7 : 0 = 1 → 1 ≤ i) (h0 : ¬ (i < (s.length : Int))) : ∀ k r, (k, r) ∈ hyEs_p0 → HOk (cx (nuX (nuEs_0 s T i b) X) (nuX_one (onEs_0 s T i b)) 0 laidE laidE_stab) k r := by
  unfold hyEs_p0
  refine hcons (kBytesB (bs := ([] : List UInt8)) .nil (denX rfl)) ?_
  refine hcons (kLt (isX rfl) (isX rfl) (decide_eq_false (by omega))) ?_
  exact hnil
def hyEs_p1 : List (HK × AV) := [(.bytes [], .x 4), (.bin .lss (.x 2) (.x 1), .b true), (.idx (.x 0) (.x 2), .x 5), (.call 61 [.x 5], .b true), (.app (.x 4) [.x 5], .x 6), (.byt (.x 6) (.i .i64 (.ofNat 0)), .x 7), (.fit (.x 6), .b true), (.bin .add (.x 2) (.i .i64 (.ofNat 1)), .x 8)]
noncomputable def tabEs_p1 : Tab := { tabk with hyp := hyEs_p1 }
theorem runEs_p1 : okRdH (code tabEs_p1 2000 [] bodyEs (envOf (headOf epEs_0 keepEs) 40) ⟨lhSet hpEs_0 .leaf, 9, 0, 0⟩) .normal keepEs 40 14 [(0, .x 0), (1, .x 1), (2, .x 8), (3, .x 6)] [(8, 10)] 8 9 epEs_1 hpEs_1 = true := by kernel_rfl
set_option maxHeartbeats 2000000 in
theorem hyOkEs_p1 (s : List UInt8) (T : List UInt8) (i : Int) (b : List UInt8) (X : Nat → Value) (c0 : s.length ≤ 400) (i0 : 0 ≤ i) (i1 : i ≤ (s.length : Int)) (i2 : b ++ escS (s.drop i.toNat) = T) (i3 : (b.length : Int) ≤ 3 * i) (i4 : 0 = 0 → b = []) (i5 : 0 = 1 → b ≠ []) (i6 : 0 = 0 → i = 0) (i7 : 0 = 1 → 1 ≤ i) (h0 : i < (s.length : Int)) (h1 : tb8 MAln (bt s (Int.toNat (i))) = true) : ∀ k r, (k, r) ∈ hyEs_p1 → HOk (cx (nuX (nuEs_0 s T i b) X) (nuX_one (onEs_0 s T i b)) 0 laidE laidE_stab) k r := by
  have := bt_lo s (Int.toNat (i)); have := bt_hi s (Int.toNat (i))
  unfold hyEs_p1
  refine hcons (kBytesB (bs := ([] : List UInt8)) .nil (denX rfl)) ?_
  refine hcons (kLt (isX rfl) (isX rfl) (decide_eq_true (by omega))) ?_
  refine hcons (kIdxE (i := (Int.toNat (i))) (isX rfl) (isX rfl) (denX rfl) (by omega) (by first | omega | (simp <;> omega)) rfl) ?_
  refine hcons (hokAln (isX rfl) (by omega) (by omega) (denBT (by assumption))) ?_
  refine hcons (kApp (bs := [u8 (bt s (Int.toNat (i)))]) (isX rfl) (.cons (isB8 (isX rfl) (by omega) (by omega)) .nil) (denX rfl) (by first | rfl | (simp; done))) ?_
  refine hcons (kByt (i := 0) (isX rfl) (isZ (m := 0) rfl) (denX rfl) rfl (by simp) (bt_at rfl (by omega) (by omega))) ?_
  refine hcons (kFit (isX rfl) (by first | omega | (simp <;> omega))) ?_
  refine hcons (kAdd (isX rfl) (isZ (m := 1) rfl) (denX rfl) (by omega) (fI64 (by omega) (by omega))) ?_
  exact hnil
def hyEs_p2 : List (HK × AV) := [(.bytes [], .x 9), (.bin .lss (.x 2) (.x 1), .b true), (.idx (.x 0) (.x 2), .x 10), (.call 61 [.x 10], .b false), (.call 62 [.s 5 203983629869, .x 10], .x 11), (.bin .geq (.x 11) (.i .i64 (.ofNat 0)), .b true), (.app (.x 9) [.x 10], .x 12), (.byt (.x 12) (.i .i64 (.ofNat 0)), .x 13), (.fit (.x 12), .b true), (.bin .add (.x 2) (.i .i64 (.ofNat 1)), .x 14)]
noncomputable def tabEs_p2 : Tab := { tabk with hyp := hyEs_p2 }
theorem runEs_p2 : okRdH (code tabEs_p2 2000 [] bodyEs (envOf (headOf epEs_0 keepEs) 40) ⟨lhSet hpEs_0 .leaf, 9, 0, 0⟩) .normal keepEs 40 14 [(0, .x 0), (1, .x 1), (2, .x 14), (3, .x 12)] [(8, 10)] 8 9 epEs_1 hpEs_1 = true := by kernel_rfl
set_option maxHeartbeats 2000000 in
theorem hyOkEs_p2 (s : List UInt8) (T : List UInt8) (i : Int) (b : List UInt8) (X : Nat → Value) (c0 : s.length ≤ 400) (i0 : 0 ≤ i) (i1 : i ≤ (s.length : Int)) (i2 : b ++ escS (s.drop i.toNat) = T) (i3 : (b.length : Int) ≤ 3 * i) (i4 : 0 = 0 → b = []) (i5 : 0 = 1 → b ≠ []) (i6 : 0 = 0 → i = 0) (i7 : 0 = 1 → 1 ≤ i) (h0 : i < (s.length : Int)) (h1 : ¬ (tb8 MAln (bt s (Int.toNat (i))) = true)) (h2 : 0 ≤ vIxp (bt s (Int.toNat (i)))) : ∀ k r, (k, r) ∈ hyEs_p2 → HOk (cx (nuX (nuEs_0 s T i b) X) (nuX_one (onEs_0 s T i b)) 0 laidE laidE_stab) k r := by
  have := bt_lo s (Int.toNat (i)); have := bt_hi s (Int.toNat (i))
  have := rIxp (c := bt s (Int.toNat (i))) (by omega) (by omega)
  unfold hyEs_p2
  refine hcons (kBytesB (bs := ([] : List UInt8)) .nil (denX rfl)) ?_
  refine hcons (kLt (isX rfl) (isX rfl) (decide_eq_true (by omega))) ?_
  refine hcons (kIdxE (i := (Int.toNat (i))) (isX rfl) (isX rfl) (denX rfl) (by omega) (by first | omega | (simp <;> omega)) rfl) ?_
  refine hcons (hokAln (isX rfl) (by omega) (by omega) (denBF (by assumption))) ?_
  refine hcons (hokIxp (isSx (l := [u8 45, u8 46, u8 95, u8 126, u8 47]) 5 203983629869 rfl) (isX rfl) (by omega) (by omega) (denX rfl)) ?_
  refine hcons (kGe (isX rfl) (isZ (m := 0) rfl) (decide_eq_true (by omega))) ?_
  refine hcons (kApp (bs := [u8 (bt s (Int.toNat (i)))]) (isX rfl) (.cons (isB8 (isX rfl) (by omega) (by omega)) .nil) (denX rfl) (by first | rfl | (simp; done))) ?_
  refine hcons (kByt (i := 0) (isX rfl) (isZ (m := 0) rfl) (denX rfl) rfl (by simp) (bt_at rfl (by omega) (by omega))) ?_
  refine hcons (kFit (isX rfl) (by first | omega | (simp <;> omega))) ?_
  refine hcons (kAdd (isX rfl) (isZ (m := 1) rfl) (denX rfl) (by omega) (fI64 (by omega) (by omega))) ?_
  exact hnil
def hyEs_p3 : List (HK × AV) := [(.bytes [], .x 15), (.bin .lss (.x 2) (.x 1), .b true), (.idx (.x 0) (.x 2), .x 16), (.call 61 [.x 16], .b false), (.call 62 [.s 5 203983629869, .x 16], .x 17), (.bin .geq (.x 17) (.i .i64 (.ofNat 0)), .b false), (.bin .shr (.x 16) (.i .u64 (.ofNat 4)), .x 18), (.bin .add (.x 18) (.i .u8 (.ofNat 1)), .x 19), (.sub (.s 16 93405612720827812017303888595717861680) (some (.x 18)) (some (.x 19)), .x 20), (.bin .add (.s 1 37) (.x 20), .x 21), (.bin .and (.x 16) (.i .u8 (.ofNat 15)), .x 22), (.bin .add (.x 22) (.i .u8 (.ofNat 1)), .x 23), (.sub (.s 16 93405612720827812017303888595717861680) (some (.x 22)) (some (.x 23)), .x 24), (.bin .add (.x 21) (.x 24), .x 25), (.byt (.x 25) (.i .i64 (.ofNat 0)), .i .u8 (.ofNat 37)), (.fit (.x 25), .b true), (.len (.x 25), .i .i64 (.ofNat 3)), (.bin .add (.x 2) (.i .i64 (.ofNat 1)), .x 26)]
noncomputable def tabEs_p3 : Tab := { tabk with hyp := hyEs_p3 }
theorem runEs_p3 : okRdH (code tabEs_p3 2000 [] bodyEs (envOf (headOf epEs_0 keepEs) 40) ⟨lhSet hpEs_0 .leaf, 9, 0, 0⟩) .normal keepEs 40 14 [(0, .x 0), (1, .x 1), (2, .x 26), (3, .x 25)] [(8, 9)] 8 9 epEs_1 hpEs_1 = true := by kernel_rfl
set_option maxHeartbeats 2000000 in
theorem hyOkEs_p3 (s : List UInt8) (T : List UInt8) (i : Int) (b : List UInt8) (X : Nat → Value) (c0 : s.length ≤ 400) (i0 : 0 ≤ i) (i1 : i ≤ (s.length : Int)) (i2 : b ++ escS (s.drop i.toNat) = T) (i3 : (b.length : Int) ≤ 3 * i) (i4 : 0 = 0 → b = []) (i5 : 0 = 1 → b ≠ []) (i6 : 0 = 0 → i = 0) (i7 : 0 = 1 → 1 ≤ i) (h0 : i < (s.length : Int)) (h1 : ¬ (tb8 MAln (bt s (Int.toNat (i))) = true)) (h2 : ¬ (0 ≤ vIxp (bt s (Int.toNat (i))))) : ∀ k r, (k, r) ∈ hyEs_p3 → HOk (cx (nuX (nuEs_0 s T i b) X) (nuX_one (onEs_0 s T i b)) 0 laidE laidE_stab) k r := by
  have := bt_lo s (Int.toNat (i)); have := bt_hi s (Int.toNat (i))
  have := rIxp (c := bt s (Int.toNat (i))) (by omega) (by omega)
  have := hxU_lo (d := (bt s (Int.toNat (i))) / 16) (by omega) (by omega)
  have := hxU_lo (d := (bt s (Int.toNat (i))) % 16) (by omega) (by omega)
  unfold hyEs_p3
  refine hcons (kBytesB (bs := ([] : List UInt8)) .nil (denX rfl)) ?_
  refine hcons (kLt (isX rfl) (isX rfl) (decide_eq_true (by omega))) ?_
  refine hcons (kIdxE (i := (Int.toNat (i))) (isX rfl) (isX rfl) (denX rfl) (by omega) (by first | omega | (simp <;> omega)) rfl) ?_
  refine hcons (hokAln (isX rfl) (by omega) (by omega) (denBF (by assumption))) ?_
  refine hcons (hokIxp (isSx (l := [u8 45, u8 46, u8 95, u8 126, u8 47]) 5 203983629869 rfl) (isX rfl) (by omega) (by omega) (denX rfl)) ?_
  refine hcons (kGe (isX rfl) (isZ (m := 0) rfl) (decide_eq_false (by omega))) ?_
  refine hcons (kShrM 4 16 rfl (isX rfl) (isZ (m := 4) rfl) (denX rfl) rfl (by decide) (by omega) rfl) ?_
  refine hcons (kAdd (isX rfl) (isZ (m := 1) rfl) (denX rfl) (by omega) (fU8 (by omega) (by omega))) ?_
  refine hcons (kMid (P := (bt s (Int.toNat (i))) / 16) (Q := ((bt s (Int.toNat (i))) / 16) + 1) (isSx (l := [u8 48, u8 49, u8 50, u8 51, u8 52, u8 53, u8 54, u8 55, u8 56, u8 57, u8 65, u8 66, u8 67, u8 68, u8 69, u8 70]) 16 93405612720827812017303888595717861680 rfl) (.inr ⟨_, _, rfl, (isX rfl)⟩) (.inr ⟨_, _, rfl, (isX rfl)⟩) (by omega) (by omega) (by show _ ≤ (16 : Int); omega) (denX (congrArg (fun l => St' l) (hxU_sub (by omega) (by omega) (by omega))))) ?_
  refine hcons (kCat (isSx (l := [u8 37]) 1 37 rfl) (isX rfl) (denX rfl) (by first | rfl | (simp; done)) (by first | omega | (simp <;> omega))) ?_
  refine hcons (kAndM 4 16 rfl (isX rfl) (isZ (m := 15) rfl) (denX rfl) (by omega) (fU8 (by omega) (by omega)) (fU8 (by omega) (by omega)) rfl rfl) ?_
  refine hcons (kAdd (isX rfl) (isZ (m := 1) rfl) (denX rfl) (by omega) (fU8 (by omega) (by omega))) ?_
  refine hcons (kMid (P := (bt s (Int.toNat (i))) % 16) (Q := ((bt s (Int.toNat (i))) % 16) + 1) (isSx (l := [u8 48, u8 49, u8 50, u8 51, u8 52, u8 53, u8 54, u8 55, u8 56, u8 57, u8 65, u8 66, u8 67, u8 68, u8 69, u8 70]) 16 93405612720827812017303888595717861680 rfl) (.inr ⟨_, _, rfl, (isX rfl)⟩) (.inr ⟨_, _, rfl, (isX rfl)⟩) (by omega) (by omega) (by show _ ≤ (16 : Int); omega) (denX (congrArg (fun l => St' l) (hxU_sub (by omega) (by omega) (by omega))))) ?_
  refine hcons (kCat (isX rfl) (isX rfl) (denX rfl) (by first | rfl | (simp; done)) (by first | omega | (simp <;> omega))) ?_
  refine hcons (kByt (i := 0) (isX rfl) (isZ (m := 0) rfl) (denZ (m := 37) rfl) (by omega) (by simp) (bt_at rfl (by omega) (by omega))) ?_
  refine hcons (kFit (isX rfl) (by first | omega | (simp <;> omega))) ?_
  refine hcons (kLenE (isX rfl) (denZ (m := 3) rfl) rfl) ?_
  refine hcons (kAdd (isX rfl) (isZ (m := 1) rfl) (denX rfl) (by omega) (fI64 (by omega) (by omega))) ?_
  exact hnil
def hyEs_p4 : List (HK × AV) := [(.bytes [], .x 4), (.bin .lss (.x 2) (.x 1), .b false)]
noncomputable def tabEs_p4 : Tab := { tabk with hyp := hyEs_p4 }
theorem runEs_p4 : okRdH (code tabEs_p4 2000 [] bodyEs (envOf (headOf epEs_1 keepEs) 40) ⟨lhSet hpEs_1 .leaf, 9, 0, 0⟩) (.exit 0) keepEs 40 14 [(0, .x 3)] [(8, 8)] 8 14 [(3, .p 7 0)] [(7, .b ⟨92, .l [.p 7 0, .sy 8], 0, 0, 0, false, false⟩), (8, .t 0 5)] = true := by kernel_rfl
set_option maxHeartbeats 2000000 in
theorem hyOkEs_p4 (s : List UInt8) (T : List UInt8) (i : Int) (b : List UInt8) (X : Nat → Value) (c0 : s.length ≤ 400) (i0 : 0 ≤ i) (i1 : i ≤ (s.length : Int)) (i2 : b ++ escS (s.drop i.toNat) = T) (i3 : (b.length : Int) ≤ 3 * i) (i4 : 1 = 0 → b = []) (i5 : 1 = 1 → b ≠ []) (i6 : 1 = 0 → i = 0) (i7 : 1 = 1 → 1 ≤ i) (h0 : ¬ (i < (s.length : Int))) : ∀ k r, (k, r) ∈ hyEs_p4 → HOk (cx (nuX (nuEs_1 s T i b) X) (nuX_one (onEs_1 s T i b)) 0 laidE laidE_stab) k r := by
  unfold hyEs_p4
  refine hcons (kBytesB (bs := ([] : List UInt8)) .nil (denX rfl)) ?_
  refine hcons (kLt (isX rfl) (isX rfl) (decide_eq_false (by omega))) ?_
  exact hnil
def hyEs_p5 : List (HK × AV) := [(.bytes [], .x 5), (.bin .lss (.x 2) (.x 1), .b true), (.idx (.x 0) (.x 2), .x 6), (.call 61 [.x 6], .b true), (.app (.x 3) [.x 6], .x 7), (.fit (.x 7), .b true), (.bin .add (.x 2) (.i .i64 (.ofNat 1)), .x 8)]
noncomputable def tabEs_p5 : Tab := { tabk with hyp := hyEs_p5 }
theorem runEs_p5 : okRdH (code tabEs_p5 2000 [] bodyEs (envOf (headOf epEs_1 keepEs) 40) ⟨lhSet hpEs_1 .leaf, 9, 0, 0⟩) .normal keepEs 40 14 [(0, .x 0), (1, .x 1), (2, .x 8), (3, .x 7)] [(8, 10)] 8 9 epEs_1 hpEs_1 = true := by kernel_rfl
set_option maxHeartbeats 2000000 in
theorem hyOkEs_p5 (s : List UInt8) (T : List UInt8) (i : Int) (b : List UInt8) (X : Nat → Value) (c0 : s.length ≤ 400) (i0 : 0 ≤ i) (i1 : i ≤ (s.length : Int)) (i2 : b ++ escS (s.drop i.toNat) = T) (i3 : (b.length : Int) ≤ 3 * i) (i4 : 1 = 0 → b = []) (i5 : 1 = 1 → b ≠ []) (i6 : 1 = 0 → i = 0) (i7 : 1 = 1 → 1 ≤ i) (h0 : i < (s.length : Int)) (h1 : tb8 MAln (bt s (Int.toNat (i))) = true) : ∀ k r, (k, r) ∈ hyEs_p5 → HOk (cx (nuX (nuEs_1 s T i b) X) (nuX_one (onEs_1 s T i b)) 0 laidE laidE_stab) k r := by
  have := bt_lo s (Int.toNat (i)); have := bt_hi s (Int.toNat (i))
  unfold hyEs_p5
  refine hcons (kBytesB (bs := ([] : List UInt8)) .nil (denX rfl)) ?_
  refine hcons (kLt (isX rfl) (isX rfl) (decide_eq_true (by omega))) ?_
  refine hcons (kIdxE (i := (Int.toNat (i))) (isX rfl) (isX rfl) (denX rfl) (by omega) (by first | omega | (simp <;> omega)) rfl) ?_
  refine hcons (hokAln (isX rfl) (by omega) (by omega) (denBT (by assumption))) ?_
  refine hcons (kApp (bs := [u8 (bt s (Int.toNat (i)))]) (isX rfl) (.cons (isB8 (isX rfl) (by omega) (by omega)) .nil) (denX rfl) (by first | rfl | (simp; done))) ?_
  refine hcons (kFit (isX rfl) (by first | omega | (simp <;> omega))) ?_
  refine hcons (kAdd (isX rfl) (isZ (m := 1) rfl) (denX rfl) (by omega) (fI64 (by omega) (by omega))) ?_
  exact hnil
def hyEs_p6 : List (HK × AV) := [(.bytes [], .x 9), (.bin .lss (.x 2) (.x 1), .b true), (.idx (.x 0) (.x 2), .x 10), (.call 61 [.x 10], .b false), (.call 62 [.s 5 203983629869, .x 10], .x 11), (.bin .geq (.x 11) (.i .i64 (.ofNat 0)), .b true), (.app (.x 3) [.x 10], .x 12), (.fit (.x 12), .b true), (.bin .add (.x 2) (.i .i64 (.ofNat 1)), .x 13)]
noncomputable def tabEs_p6 : Tab := { tabk with hyp := hyEs_p6 }
theorem runEs_p6 : okRdH (code tabEs_p6 2000 [] bodyEs (envOf (headOf epEs_1 keepEs) 40) ⟨lhSet hpEs_1 .leaf, 9, 0, 0⟩) .normal keepEs 40 14 [(0, .x 0), (1, .x 1), (2, .x 13), (3, .x 12)] [(8, 10)] 8 9 epEs_1 hpEs_1 = true := by kernel_rfl
set_option maxHeartbeats 2000000 in
theorem hyOkEs_p6 (s : List UInt8) (T : List UInt8) (i : Int) (b : List UInt8) (X : Nat → Value) (c0 : s.length ≤ 400) (i0 : 0 ≤ i) (i1 : i ≤ (s.length : Int)) (i2 : b ++ escS (s.drop i.toNat) = T) (i3 : (b.length : Int) ≤ 3 * i) (i4 : 1 = 0 → b = []) (i5 : 1 = 1 → b ≠ []) (i6 : 1 = 0 → i = 0) (i7 : 1 = 1 → 1 ≤ i) (h0 : i < (s.length : Int)) (h1 : ¬ (tb8 MAln (bt s (Int.toNat (i))) = true)) (h2 : 0 ≤ vIxp (bt s (Int.toNat (i)))) : ∀ k r, (k, r) ∈ hyEs_p6 → HOk (cx (nuX (nuEs_1 s T i b) X) (nuX_one (onEs_1 s T i b)) 0 laidE laidE_stab) k r := by
  have := bt_lo s (Int.toNat (i)); have := bt_hi s (Int.toNat (i))
  have := rIxp (c := bt s (Int.toNat (i))) (by omega) (by omega)
  unfold hyEs_p6
  refine hcons (kBytesB (bs := ([] : List UInt8)) .nil (denX rfl)) ?_
  refine hcons (kLt (isX rfl) (isX rfl) (decide_eq_true (by omega))) ?_
  refine hcons (kIdxE (i := (Int.toNat (i))) (isX rfl) (isX rfl) (denX rfl) (by omega) (by first | omega | (simp <;> omega)) rfl) ?_
  refine hcons (hokAln (isX rfl) (by omega) (by omega) (denBF (by assumption))) ?_
  refine hcons (hokIxp (isSx (l := [u8 45, u8 46, u8 95, u8 126, u8 47]) 5 203983629869 rfl) (isX rfl) (by omega) (by omega) (denX rfl)) ?_
  refine hcons (kGe (isX rfl) (isZ (m := 0) rfl) (decide_eq_true (by omega))) ?_
  refine hcons (kApp (bs := [u8 (bt s (Int.toNat (i)))]) (isX rfl) (.cons (isB8 (isX rfl) (by omega) (by omega)) .nil) (denX rfl) (by first | rfl | (simp; done))) ?_
  refine hcons (kFit (isX rfl) (by first | omega | (simp <;> omega))) ?_
  refine hcons (kAdd (isX rfl) (isZ (m := 1) rfl) (denX rfl) (by omega) (fI64 (by omega) (by omega))) ?_
  exact hnil
def hyEs_p7 : List (HK × AV) := [(.bytes [], .x 14), (.bin .lss (.x 2) (.x 1), .b true), (.idx (.x 0) (.x 2), .x 15), (.call 61 [.x 15], .b false), (.call 62 [.s 5 203983629869, .x 15], .x 16), (.bin .geq (.x 16) (.i .i64 (.ofNat 0)), .b false), (.bin .shr (.x 15) (.i .u64 (.ofNat 4)), .x 17), (.bin .add (.x 17) (.i .u8 (.ofNat 1)), .x 18), (.sub (.s 16 93405612720827812017303888595717861680) (some (.x 17)) (some (.x 18)), .x 19), (.bin .add (.s 1 37) (.x 19), .x 20), (.bin .and (.x 15) (.i .u8 (.ofNat 15)), .x 21), (.bin .add (.x 21) (.i .u8 (.ofNat 1)), .x 22), (.sub (.s 16 93405612720827812017303888595717861680) (some (.x 21)) (some (.x 22)), .x 23), (.bin .add (.x 20) (.x 23), .x 24), (.bin .add (.x 3) (.x 24), .x 25), (.fit (.x 25), .b true), (.len (.x 24), .i .i64 (.ofNat 3)), (.bin .add (.x 2) (.i .i64 (.ofNat 1)), .x 26)]
noncomputable def tabEs_p7 : Tab := { tabk with hyp := hyEs_p7 }
theorem runEs_p7 : okRdH (code tabEs_p7 2000 [] bodyEs (envOf (headOf epEs_1 keepEs) 40) ⟨lhSet hpEs_1 .leaf, 9, 0, 0⟩) .normal keepEs 40 14 [(0, .x 0), (1, .x 1), (2, .x 26), (3, .x 25)] [(8, 9)] 8 9 epEs_1 hpEs_1 = true := by kernel_rfl
set_option maxHeartbeats 2000000 in
theorem hyOkEs_p7 (s : List UInt8) (T : List UInt8) (i : Int) (b : List UInt8) (X : Nat → Value) (c0 : s.length ≤ 400) (i0 : 0 ≤ i) (i1 : i ≤ (s.length : Int)) (i2 : b ++ escS (s.drop i.toNat) = T) (i3 : (b.length : Int) ≤ 3 * i) (i4 : 1 = 0 → b = []) (i5 : 1 = 1 → b ≠ []) (i6 : 1 = 0 → i = 0) (i7 : 1 = 1 → 1 ≤ i) (h0 : i < (s.length : Int)) (h1 : ¬ (tb8 MAln (bt s (Int.toNat (i))) = true)) (h2 : ¬ (0 ≤ vIxp (bt s (Int.toNat (i))))) : ∀ k r, (k, r) ∈ hyEs_p7 → HOk (cx (nuX (nuEs_1 s T i b) X) (nuX_one (onEs_1 s T i b)) 0 laidE laidE_stab) k r := by
  have := bt_lo s (Int.toNat (i)); have := bt_hi s (Int.toNat (i))
  have := rIxp (c := bt s (Int.toNat (i))) (by omega) (by omega)
  have := hxU_lo (d := (bt s (Int.toNat (i))) / 16) (by omega) (by omega)
  have := hxU_lo (d := (bt s (Int.toNat (i))) % 16) (by omega) (by omega)
  unfold hyEs_p7
  refine hcons (kBytesB (bs := ([] : List UInt8)) .nil (denX rfl)) ?_
  refine hcons (kLt (isX rfl) (isX rfl) (decide_eq_true (by omega))) ?_
  refine hcons (kIdxE (i := (Int.toNat (i))) (isX rfl) (isX rfl) (denX rfl) (by omega) (by first | omega | (simp <;> omega)) rfl) ?_
  refine hcons (hokAln (isX rfl) (by omega) (by omega) (denBF (by assumption))) ?_
  refine hcons (hokIxp (isSx (l := [u8 45, u8 46, u8 95, u8 126, u8 47]) 5 203983629869 rfl) (isX rfl) (by omega) (by omega) (denX rfl)) ?_
  refine hcons (kGe (isX rfl) (isZ (m := 0) rfl) (decide_eq_false (by omega))) ?_
  refine hcons (kShrM 4 16 rfl (isX rfl) (isZ (m := 4) rfl) (denX rfl) rfl (by decide) (by omega) rfl) ?_
  refine hcons (kAdd (isX rfl) (isZ (m := 1) rfl) (denX rfl) (by omega) (fU8 (by omega) (by omega))) ?_
  refine hcons (kMid (P := (bt s (Int.toNat (i))) / 16) (Q := ((bt s (Int.toNat (i))) / 16) + 1) (isSx (l := [u8 48, u8 49, u8 50, u8 51, u8 52, u8 53, u8 54, u8 55, u8 56, u8 57, u8 65, u8 66, u8 67, u8 68, u8 69, u8 70]) 16 93405612720827812017303888595717861680 rfl) (.inr ⟨_, _, rfl, (isX rfl)⟩) (.inr ⟨_, _, rfl, (isX rfl)⟩) (by omega) (by omega) (by show _ ≤ (16 : Int); omega) (denX (congrArg (fun l => St' l) (hxU_sub (by omega) (by omega) (by omega))))) ?_
  refine hcons (kCat (isSx (l := [u8 37]) 1 37 rfl) (isX rfl) (denX rfl) (by first | rfl | (simp; done)) (by first | omega | (simp <;> omega))) ?_
  refine hcons (kAndM 4 16 rfl (isX rfl) (isZ (m := 15) rfl) (denX rfl) (by omega) (fU8 (by omega) (by omega)) (fU8 (by omega) (by omega)) rfl rfl) ?_
  refine hcons (kAdd (isX rfl) (isZ (m := 1) rfl) (denX rfl) (by omega) (fU8 (by omega) (by omega))) ?_
  refine hcons (kMid (P := (bt s (Int.toNat (i))) % 16) (Q := ((bt s (Int.toNat (i))) % 16) + 1) (isSx (l := [u8 48, u8 49, u8 50, u8 51, u8 52, u8 53, u8 54, u8 55, u8 56, u8 57, u8 65, u8 66, u8 67, u8 68, u8 69, u8 70]) 16 93405612720827812017303888595717861680 rfl) (.inr ⟨_, _, rfl, (isX rfl)⟩) (.inr ⟨_, _, rfl, (isX rfl)⟩) (by omega) (by omega) (by show _ ≤ (16 : Int); omega) (denX (congrArg (fun l => St' l) (hxU_sub (by omega) (by omega) (by omega))))) ?_
  refine hcons (kCat (isX rfl) (isX rfl) (denX rfl) (by first | rfl | (simp; done)) (by first | omega | (simp <;> omega))) ?_
  refine hcons (kCat (isX rfl) (isX rfl) (denX rfl) (by first | rfl | (simp; done)) (by first | omega | (simp <;> omega))) ?_
  refine hcons (kFit (isX rfl) (by first | omega | (simp <;> omega))) ?_
  refine hcons (kLenE (isX rfl) (denZ (m := 3) rfl) rfl) ?_
  refine hcons (kAdd (isX rfl) (isZ (m := 1) rfl) (denX rfl) (by omega) (fI64 (by omega) (by omega))) ?_
  exact hnil
def nuEEs_0 (s : List UInt8) (T : List UInt8) : List Value := []
noncomputable def EEs_0 (s : List UInt8) (T : List UInt8) : Cx := cx (nuX (nuEEs_0 s T) (fun _ => .bool true)) (nuX_one (nuL_one (l := nuEEs_0 s T) rfl)) 0 laidE laidE_stab
set_option maxHeartbeats 4000000 in
theorem roundsEs_0 (s : List UInt8) (T : List UInt8) (c0 : s.length ≤ 400) (x0 : s.length = 0) (st : Nat × Int × List UInt8) (X : Nat → Value) (hI : InvEs s T st) : RoundH (EEs_0 s T) bodyEs keepEs 40 (.exit 0) 7 8 9 14 epEs hpEs [(3, .p 7 0)] [(7, .b ⟨92, .l [.nilp, .nils], 0, 0, 0, false, false⟩)] (InvEs s T) (fun st : Nat × Int × List UInt8 => (s.length - (st.2.1).toNat)) (DEs s T) st X := by
  obtain ⟨tag, i, b⟩ := st
  have hI : (0 ≤ i) ∧ (i ≤ (s.length : Int)) ∧ (b ++ escS (s.drop i.toNat) = T) ∧ ((b.length : Int) ≤ 3 * i) ∧ (tag = 0 → b = []) ∧ (tag = 1 → b ≠ []) ∧ (tag = 0 → i = 0) ∧ (tag = 1 → 1 ≤ i) ∧ (tag < 2) := hI
  obtain ⟨i0, i1, i2, i3, i4, i5, i6, i7, it⟩ := hI
  rcases (show tag = 0 ∨ tag = 1 from by omega) with rfl | rfl
  · skip
    by_cases h0 : i < (s.length : Int)
    · by_cases h1 : tb8 MAln (bt s (Int.toNat (i))) = true
      · exact RoundH.next (tb := tabEs_p1) (L := []) (f := 2000) (th := [(0, .x 0), (1, .x 1), (2, .x 8), (3, .x 6)]) (sg := [(8, 10)]) (1, (i + 1), [u8 (bt s (Int.toNat (i)))]) ((tabkOk (nuX (nuEs_0 s T i b) X) (nuX_one (onEs_0 s T i b))).hyps (hyOkEs_p1 s T i b X c0 i0 i1 i2 i3 i4 i5 i6 i7 h0 h1)) (LpOk.nil _) rfl (show InvEs s T (1, (i + 1), [u8 (bt s (Int.toNat (i)))]) from (show (0 ≤ (i + 1)) ∧ ((i + 1) ≤ (s.length : Int)) ∧ (([u8 (bt s (Int.toNat (i)))]) ++ escS (s.drop (i + 1).toNat) = T) ∧ ((([u8 (bt s (Int.toNat (i)))]).length : Int) ≤ 3 * (i + 1)) ∧ (1 = 0 → ([u8 (bt s (Int.toNat (i)))]) = []) ∧ (1 = 1 → ([u8 (bt s (Int.toNat (i)))]) ≠ []) ∧ (1 = 0 → (i + 1) = 0) ∧ (1 = 1 → 1 ≤ (i + 1)) ∧ (1 < 2) from ⟨by omega, by omega, by rw [← i2, i4 rfl, esc_step i0 (by assumption), escB_aln (by assumption)]; simp, by simp only [List.length_append, List.length_cons, List.length_nil]; omega, fun h => by omega, fun _ => by simp, fun h => by omega, fun _ => by omega, by omega⟩)) (by show s.length - (i + 1).toNat < s.length - i.toNat; omega) (thCons (show Is _ (.x 0) (St' s) from isTo (v := St' s) (isX rfl) (by first | rfl | (simp; done))) (thCons (show Is _ (.x 1) (.int .i64 ((s.length : Int))) from isTo (v := .int .i64 ((s.length : Int))) (isX rfl) (by first | rfl | (congr 1; omega))) (thCons (show Is _ (.x 8) (.int .i64 ((i + 1))) from isTo (v := .int .i64 (i + 1)) (isX rfl) (by first | rfl | (congr 1; omega))) (thCons (show Is _ (.x 6) (St' ([u8 (bt s (Int.toNat (i)))])) from isTo (v := St' ([u8 (bt s (Int.toNat (i)))])) (isX rfl) (by first | rfl | (simp; done))) (thNil))))) runEs_p1
      · by_cases h2 : 0 ≤ vIxp (bt s (Int.toNat (i)))
        · exact RoundH.next (tb := tabEs_p2) (L := []) (f := 2000) (th := [(0, .x 0), (1, .x 1), (2, .x 14), (3, .x 12)]) (sg := [(8, 10)]) (1, (i + 1), [u8 (bt s (Int.toNat (i)))]) ((tabkOk (nuX (nuEs_0 s T i b) X) (nuX_one (onEs_0 s T i b))).hyps (hyOkEs_p2 s T i b X c0 i0 i1 i2 i3 i4 i5 i6 i7 h0 h1 h2)) (LpOk.nil _) rfl (show InvEs s T (1, (i + 1), [u8 (bt s (Int.toNat (i)))]) from (show (0 ≤ (i + 1)) ∧ ((i + 1) ≤ (s.length : Int)) ∧ (([u8 (bt s (Int.toNat (i)))]) ++ escS (s.drop (i + 1).toNat) = T) ∧ ((([u8 (bt s (Int.toNat (i)))]).length : Int) ≤ 3 * (i + 1)) ∧ (1 = 0 → ([u8 (bt s (Int.toNat (i)))]) = []) ∧ (1 = 1 → ([u8 (bt s (Int.toNat (i)))]) ≠ []) ∧ (1 = 0 → (i + 1) = 0) ∧ (1 = 1 → 1 ≤ (i + 1)) ∧ (1 < 2) from ⟨by omega, by omega, by rw [← i2, i4 rfl, esc_step i0 (by assumption), escB_ix (by assumption)]; simp, by simp only [List.length_append, List.length_cons, List.length_nil]; omega, fun h => by omega, fun _ => by simp, fun h => by omega, fun _ => by omega, by omega⟩)) (by show s.length - (i + 1).toNat < s.length - i.toNat; omega) (thCons (show Is _ (.x 0) (St' s) from isTo (v := St' s) (isX rfl) (by first | rfl | (simp; done))) (thCons (show Is _ (.x 1) (.int .i64 ((s.length : Int))) from isTo (v := .int .i64 ((s.length : Int))) (isX rfl) (by first | rfl | (congr 1; omega))) (thCons (show Is _ (.x 14) (.int .i64 ((i + 1))) from isTo (v := .int .i64 (i + 1)) (isX rfl) (by first | rfl | (congr 1; omega))) (thCons (show Is _ (.x 12) (St' ([u8 (bt s (Int.toNat (i)))])) from isTo (v := St' ([u8 (bt s (Int.toNat (i)))])) (isX rfl) (by first | rfl | (simp; done))) (thNil))))) runEs_p2
        · exact RoundH.next (tb := tabEs_p3) (L := []) (f := 2000) (th := [(0, .x 0), (1, .x 1), (2, .x 26), (3, .x 25)]) (sg := [(8, 9)]) (1, (i + 1), [u8 37, u8 (hxU ((bt s (Int.toNat (i))) / 16)), u8 (hxU ((bt s (Int.toNat (i))) % 16))]) ((tabkOk (nuX (nuEs_0 s T i b) X) (nuX_one (onEs_0 s T i b))).hyps (hyOkEs_p3 s T i b X c0 i0 i1 i2 i3 i4 i5 i6 i7 h0 h1 h2)) (LpOk.nil _) rfl (show InvEs s T (1, (i + 1), [u8 37, u8 (hxU ((bt s (Int.toNat (i))) / 16)), u8 (hxU ((bt s (Int.toNat (i))) % 16))]) from (show (0 ≤ (i + 1)) ∧ ((i + 1) ≤ (s.length : Int)) ∧ (([u8 37, u8 (hxU ((bt s (Int.toNat (i))) / 16)), u8 (hxU ((bt s (Int.toNat (i))) % 16))]) ++ escS (s.drop (i + 1).toNat) = T) ∧ ((([u8 37, u8 (hxU ((bt s (Int.toNat (i))) / 16)), u8 (hxU ((bt s (Int.toNat (i))) % 16))]).length : Int) ≤ 3 * (i + 1)) ∧ (1 = 0 → ([u8 37, u8 (hxU ((bt s (Int.toNat (i))) / 16)), u8 (hxU ((bt s (Int.toNat (i))) % 16))]) = []) ∧ (1 = 1 → ([u8 37, u8 (hxU ((bt s (Int.toNat (i))) / 16)), u8 (hxU ((bt s (Int.toNat (i))) % 16))]) ≠ []) ∧ (1 = 0 → (i + 1) = 0) ∧ (1 = 1 → 1 ≤ (i + 1)) ∧ (1 < 2) from ⟨by omega, by omega, by rw [← i2, i4 rfl, esc_step i0 (by assumption), escB_no (by assumption) (by assumption)]; simp, by simp only [List.length_append, List.length_cons, List.length_nil]; omega, fun h => by omega, fun _ => by simp, fun h => by omega, fun _ => by omega, by omega⟩)) (by show s.length - (i + 1).toNat < s.length - i.toNat; omega) (thCons (show Is _ (.x 0) (St' s) from isTo (v := St' s) (isX rfl) (by first | rfl | (simp; done))) (thCons (show Is _ (.x 1) (.int .i64 ((s.length : Int))) from isTo (v := .int .i64 ((s.length : Int))) (isX rfl) (by first | rfl | (congr 1; omega))) (thCons (show Is _ (.x 26) (.int .i64 ((i + 1))) from isTo (v := .int .i64 (i + 1)) (isX rfl) (by first | rfl | (congr 1; omega))) (thCons (show Is _ (.x 25) (St' ([u8 37, u8 (hxU ((bt s (Int.toNat (i))) / 16)), u8 (hxU ((bt s (Int.toNat (i))) % 16))])) from isTo (v := St' ([u8 37, u8 (hxU ((bt s (Int.toNat (i))) / 16)), u8 (hxU ((bt s (Int.toNat (i))) % 16))])) (isX rfl) (by first | rfl | (simp; done))) (thNil))))) runEs_p3
    · exact RoundH.leave (tb := tabEs_p0) (L := []) (f := 2000) (th := []) (sg := []) ((tabkOk (nuX (nuEs_0 s T i b) X) (nuX_one (onEs_0 s T i b))).hyps (hyOkEs_p0 s T i b X c0 i0 i1 i2 i3 i4 i5 i6 i7 h0)) (LpOk.nil _) rfl rfl (thNil) runEs_p0
  · skip
    by_cases h0 : i < (s.length : Int)
    · by_cases h1 : tb8 MAln (bt s (Int.toNat (i))) = true
      · exact RoundH.next (tb := tabEs_p5) (L := []) (f := 2000) (th := [(0, .x 0), (1, .x 1), (2, .x 8), (3, .x 7)]) (sg := [(8, 10)]) (1, (i + 1), (b ++ [u8 (bt s (Int.toNat (i)))])) ((tabkOk (nuX (nuEs_1 s T i b) X) (nuX_one (onEs_1 s T i b))).hyps (hyOkEs_p5 s T i b X c0 i0 i1 i2 i3 i4 i5 i6 i7 h0 h1)) (LpOk.nil _) rfl (show InvEs s T (1, (i + 1), (b ++ [u8 (bt s (Int.toNat (i)))])) from (show (0 ≤ (i + 1)) ∧ ((i + 1) ≤ (s.length : Int)) ∧ ((b ++ [u8 (bt s (Int.toNat (i)))]) ++ escS (s.drop (i + 1).toNat) = T) ∧ (((b ++ [u8 (bt s (Int.toNat (i)))]).length : Int) ≤ 3 * (i + 1)) ∧ (1 = 0 → (b ++ [u8 (bt s (Int.toNat (i)))]) = []) ∧ (1 = 1 → (b ++ [u8 (bt s (Int.toNat (i)))]) ≠ []) ∧ (1 = 0 → (i + 1) = 0) ∧ (1 = 1 → 1 ≤ (i + 1)) ∧ (1 < 2) from ⟨by omega, by omega, by rw [← i2, esc_step i0 (by assumption), escB_aln (by assumption)]; simp, by simp only [List.length_append, List.length_cons, List.length_nil]; omega, fun h => by omega, fun _ => by simp, fun h => by omega, fun _ => by omega, by omega⟩)) (by show s.length - (i + 1).toNat < s.length - i.toNat; omega) (thCons (show Is _ (.x 0) (St' s) from isTo (v := St' s) (isX rfl) (by first | rfl | (simp; done))) (thCons (show Is _ (.x 1) (.int .i64 ((s.length : Int))) from isTo (v := .int .i64 ((s.length : Int))) (isX rfl) (by first | rfl | (congr 1; omega))) (thCons (show Is _ (.x 8) (.int .i64 ((i + 1))) from isTo (v := .int .i64 (i + 1)) (isX rfl) (by first | rfl | (congr 1; omega))) (thCons (show Is _ (.x 7) (St' (b ++ [u8 (bt s (Int.toNat (i)))])) from isTo (v := St' (b ++ [u8 (bt s (Int.toNat (i)))])) (isX rfl) (by first | rfl | (simp; done))) (thNil))))) runEs_p5
      · by_cases h2 : 0 ≤ vIxp (bt s (Int.toNat (i)))
        · exact RoundH.next (tb := tabEs_p6) (L := []) (f := 2000) (th := [(0, .x 0), (1, .x 1), (2, .x 13), (3, .x 12)]) (sg := [(8, 10)]) (1, (i + 1), (b ++ [u8 (bt s (Int.toNat (i)))])) ((tabkOk (nuX (nuEs_1 s T i b) X) (nuX_one (onEs_1 s T i b))).hyps (hyOkEs_p6 s T i b X c0 i0 i1 i2 i3 i4 i5 i6 i7 h0 h1 h2)) (LpOk.nil _) rfl (show InvEs s T (1, (i + 1), (b ++ [u8 (bt s (Int.toNat (i)))])) from (show (0 ≤ (i + 1)) ∧ ((i + 1) ≤ (s.length : Int)) ∧ ((b ++ [u8 (bt s (Int.toNat (i)))]) ++ escS (s.drop (i + 1).toNat) = T) ∧ (((b ++ [u8 (bt s (Int.toNat (i)))]).length : Int) ≤ 3 * (i + 1)) ∧ (1 = 0 → (b ++ [u8 (bt s (Int.toNat (i)))]) = []) ∧ (1 = 1 → (b ++ [u8 (bt s (Int.toNat (i)))]) ≠ []) ∧ (1 = 0 → (i + 1) = 0) ∧ (1 = 1 → 1 ≤ (i + 1)) ∧ (1 < 2) from ⟨by omega, by omega, by rw [← i2, esc_step i0 (by assumption), escB_ix (by assumption)]; simp, by simp only [List.length_append, List.length_cons, List.length_nil]; omega, fun h => by omega, fun _ => by simp, fun h => by omega, fun _ => by omega, by omega⟩)) (by show s.length - (i + 1).toNat < s.length - i.toNat; omega) (thCons (show Is _ (.x 0) (St' s) from isTo (v := St' s) (isX rfl) (by first | rfl | (simp; done))) (thCons (show Is _ (.x 1) (.int .i64 ((s.length : Int))) from isTo (v := .int .i64 ((s.length : Int))) (isX rfl) (by first | rfl | (congr 1; omega))) (thCons (show Is _ (.x 13) (.int .i64 ((i + 1))) from isTo (v := .int .i64 (i + 1)) (isX rfl) (by first | rfl | (congr 1; omega))) (thCons (show Is _ (.x 12) (St' (b ++ [u8 (bt s (Int.toNat (i)))])) from isTo (v := St' (b ++ [u8 (bt s (Int.toNat (i)))])) (isX rfl) (by first | rfl | (simp; done))) (thNil))))) runEs_p6
        · exact RoundH.next (tb := tabEs_p7) (L := []) (f := 2000) (th := [(0, .x 0), (1, .x 1), (2, .x 26), (3, .x 25)]) (sg := [(8, 9)]) (1, (i + 1), (b ++ [u8 37, u8 (hxU ((bt s (Int.toNat (i))) / 16)), u8 (hxU ((bt s (Int.toNat (i))) % 16))])) ((tabkOk (nuX (nuEs_1 s T i b) X) (nuX_one (onEs_1 s T i b))).hyps (hyOkEs_p7 s T i b X c0 i0 i1 i2 i3 i4 i5 i6 i7 h0 h1 h2)) (LpOk.nil _) rfl (show InvEs s T (1, (i + 1), (b ++ [u8 37, u8 (hxU ((bt s (Int.toNat (i))) / 16)), u8 (hxU ((bt s (Int.toNat (i))) % 16))])) from (show (0 ≤ (i + 1)) ∧ ((i + 1) ≤ (s.length : Int)) ∧ ((b ++ [u8 37, u8 (hxU ((bt s (Int.toNat (i))) / 16)), u8 (hxU ((bt s (Int.toNat (i))) % 16))]) ++ escS (s.drop (i + 1).toNat) = T) ∧ (((b ++ [u8 37, u8 (hxU ((bt s (Int.toNat (i))) / 16)), u8 (hxU ((bt s (Int.toNat (i))) % 16))]).length : Int) ≤ 3 * (i + 1)) ∧ (1 = 0 → (b ++ [u8 37, u8 (hxU ((bt s (Int.toNat (i))) / 16)), u8 (hxU ((bt s (Int.toNat (i))) % 16))]) = []) ∧ (1 = 1 → (b ++ [u8 37, u8 (hxU ((bt s (Int.toNat (i))) / 16)), u8 (hxU ((bt s (Int.toNat (i))) % 16))]) ≠ []) ∧ (1 = 0 → (i + 1) = 0) ∧ (1 = 1 → 1 ≤ (i + 1)) ∧ (1 < 2) from ⟨by omega, by omega, by rw [← i2, esc_step i0 (by assumption), escB_no (by assumption) (by assumption)]; simp, by simp only [List.length_append, List.length_cons, List.length_nil]; omega, fun h => by omega, fun _ => by simp, fun h => by omega, fun _ => by omega, by omega⟩)) (by show s.length - (i + 1).toNat < s.length - i.toNat; omega) (thCons (show Is _ (.x 0) (St' s) from isTo (v := St' s) (isX rfl) (by first | rfl | (simp; done))) (thCons (show Is _ (.x 1) (.int .i64 ((s.length : Int))) from isTo (v := .int .i64 ((s.length : Int))) (isX rfl) (by first | rfl | (congr 1; omega))) (thCons (show Is _ (.x 26) (.int .i64 ((i + 1))) from isTo (v := .int .i64 (i + 1)) (isX rfl) (by first | rfl | (congr 1; omega))) (thCons (show Is _ (.x 25) (St' (b ++ [u8 37, u8 (hxU ((bt s (Int.toNat (i))) / 16)), u8 (hxU ((bt s (Int.toNat (i))) % 16))])) from isTo (v := St' (b ++ [u8 37, u8 (hxU ((bt s (Int.toNat (i))) / 16)), u8 (hxU ((bt s (Int.toNat (i))) % 16))])) (isX rfl) (by first | rfl | (simp; done))) (thNil))))) runEs_p7
    · exfalso; omega
theorem lfOkEs_0 {nu : Nat → Value} {one : ∀ i, i < 1000000 → (nu i).oneCell' = true} {l : LF} {h : LH} (s : List UInt8) (T : List UInt8) (c0 : s.length ≤ 400) (x0 : s.length = 0) (st : Nat × Int × List UInt8) (hI : InvEs s T st) (hl : l.hp = some h) (hs : lfSame l h 40 keepEs (.exit 0) 7 8 14 = true) {th0 : List (Nat × AV)} {sg0 : List (Nat × Nat)} (hth0 : ∀ X, ThOk (cx nu one 0 laidE laidE_stab) (DEs s T st X) th0) (h0 : startOk l h 40 8 9 th0 sg0 (epEs st) (hpEs st) = true) {thx : List (Nat × AV)} (hthx : ThOk (EEs_0 s T) (cx nu one 0 laidE laidE_stab) thx) (hx : exitOk l h 40 8 14 thx [(3, .p 7 0)] [(7, .b ⟨92, .l [.nilp, .nils], 0, 0, 0, false, false⟩)] = true) : LfOk (cx nu one 0 laidE laidE_stab) bodyEs l :=
  lfOkX (E := EEs_0 s T) (InvEs s T) (fun st : Nat × Int × List UInt8 => (s.length - (st.2.1).toNat)) (DEs s T) (fun _ _ => rfl) (fun _ _ => rfl) (fun _ _ => rfl) (fun st X t _ => nuX_keep) rfl rfl rfl hl hs (ebEs) rfl rfl st hI hth0 h0 hthx hx (fun st X hI => roundsEs_0 s T c0 x0 st X hI)
def nuEEs_1 (s : List UInt8) (T : List UInt8) : List Value := [St' T]
noncomputable def EEs_1 (s : List UInt8) (T : List UInt8) : Cx := cx (nuX (nuEEs_1 s T) (fun _ => .bool true)) (nuX_one (nuL_one (l := nuEEs_1 s T) rfl)) 0 laidE laidE_stab
set_option maxHeartbeats 4000000 in
theorem roundsEs_1 (s : List UInt8) (T : List UInt8) (c0 : s.length ≤ 400) (x0 : ¬ s.length = 0) (st : Nat × Int × List UInt8) (X : Nat → Value) (hI : InvEs s T st) : RoundH (EEs_1 s T) bodyEs keepEs 40 (.exit 0) 7 8 9 14 epEs hpEs [(3, .p 7 0)] [(7, .b ⟨92, .l [.p 7 0, .sy 8], 0, 0, 0, false, false⟩), (8, .t 0 5)] (InvEs s T) (fun st : Nat × Int × List UInt8 => (s.length - (st.2.1).toNat)) (DEs s T) st X := by
  obtain ⟨tag, i, b⟩ := st
  have hI : (0 ≤ i) ∧ (i ≤ (s.length : Int)) ∧ (b ++ escS (s.drop i.toNat) = T) ∧ ((b.length : Int) ≤ 3 * i) ∧ (tag = 0 → b = []) ∧ (tag = 1 → b ≠ []) ∧ (tag = 0 → i = 0) ∧ (tag = 1 → 1 ≤ i) ∧ (tag < 2) := hI
  obtain ⟨i0, i1, i2, i3, i4, i5, i6, i7, it⟩ := hI
  rcases (show tag = 0 ∨ tag = 1 from by omega) with rfl | rfl
  · skip
    by_cases h0 : i < (s.length : Int)
    · by_cases h1 : tb8 MAln (bt s (Int.toNat (i))) = true
      · exact RoundH.next (tb := tabEs_p1) (L := []) (f := 2000) (th := [(0, .x 0), (1, .x 1), (2, .x 8), (3, .x 6)]) (sg := [(8, 10)]) (1, (i + 1), [u8 (bt s (Int.toNat (i)))]) ((tabkOk (nuX (nuEs_0 s T i b) X) (nuX_one (onEs_0 s T i b))).hyps (hyOkEs_p1 s T i b X c0 i0 i1 i2 i3 i4 i5 i6 i7 h0 h1)) (LpOk.nil _) rfl (show InvEs s T (1, (i + 1), [u8 (bt s (Int.toNat (i)))]) from (show (0 ≤ (i + 1)) ∧ ((i + 1) ≤ (s.length : Int)) ∧ (([u8 (bt s (Int.toNat (i)))]) ++ escS (s.drop (i + 1).toNat) = T) ∧ ((([u8 (bt s (Int.toNat (i)))]).length : Int) ≤ 3 * (i + 1)) ∧ (1 = 0 → ([u8 (bt s (Int.toNat (i)))]) = []) ∧ (1 = 1 → ([u8 (bt s (Int.toNat (i)))]) ≠ []) ∧ (1 = 0 → (i + 1) = 0) ∧ (1 = 1 → 1 ≤ (i + 1)) ∧ (1 < 2) from ⟨by omega, by omega, by rw [← i2, i4 rfl, esc_step i0 (by assumption), escB_aln (by assumption)]; simp, by simp only [List.length_append, List.length_cons, List.length_nil]; omega, fun h => by omega, fun _ => by simp, fun h => by omega, fun _ => by omega, by omega⟩)) (by show s.length - (i + 1).toNat < s.length - i.toNat; omega) (thCons (show Is _ (.x 0) (St' s) from isTo (v := St' s) (isX rfl) (by first | rfl | (simp; done))) (thCons (show Is _ (.x 1) (.int .i64 ((s.length : Int))) from isTo (v := .int .i64 ((s.length : Int))) (isX rfl) (by first | rfl | (congr 1; omega))) (thCons (show Is _ (.x 8) (.int .i64 ((i + 1))) from isTo (v := .int .i64 (i + 1)) (isX rfl) (by first | rfl | (congr 1; omega))) (thCons (show Is _ (.x 6) (St' ([u8 (bt s (Int.toNat (i)))])) from isTo (v := St' ([u8 (bt s (Int.toNat (i)))])) (isX rfl) (by first | rfl | (simp; done))) (thNil))))) runEs_p1
      · by_cases h2 : 0 ≤ vIxp (bt s (Int.toNat (i)))
        · exact RoundH.next (tb := tabEs_p2) (L := []) (f := 2000) (th := [(0, .x 0), (1, .x 1), (2, .x 14), (3, .x 12)]) (sg := [(8, 10)]) (1, (i + 1), [u8 (bt s (Int.toNat (i)))]) ((tabkOk (nuX (nuEs_0 s T i b) X) (nuX_one (onEs_0 s T i b))).hyps (hyOkEs_p2 s T i b X c0 i0 i1 i2 i3 i4 i5 i6 i7 h0 h1 h2)) (LpOk.nil _) rfl (show InvEs s T (1, (i + 1), [u8 (bt s (Int.toNat (i)))]) from (show (0 ≤ (i + 1)) ∧ ((i + 1) ≤ (s.length : Int)) ∧ (([u8 (bt s (Int.toNat (i)))]) ++ escS (s.drop (i + 1).toNat) = T) ∧ ((([u8 (bt s (Int.toNat (i)))]).length : Int) ≤ 3 * (i + 1)) ∧ (1 = 0 → ([u8 (bt s (Int.toNat (i)))]) = []) ∧ (1 = 1 → ([u8 (bt s (Int.toNat (i)))]) ≠ []) ∧ (1 = 0 → (i + 1) = 0) ∧ (1 = 1 → 1 ≤ (i + 1)) ∧ (1 < 2) from ⟨by omega, by omega, by rw [← i2, i4 rfl, esc_step i0 (by assumption), escB_ix (by assumption)]; simp, by simp only [List.length_append, List.length_cons, List.length_nil]; omega, fun h => by omega, fun _ => by simp, fun h => by omega, fun _ => by omega, by omega⟩)) (by show s.length - (i + 1).toNat < s.length - i.toNat; omega) (thCons (show Is _ (.x 0) (St' s) from isTo (v := St' s) (isX rfl) (by first | rfl | (simp; done))) (thCons (show Is _ (.x 1) (.int .i64 ((s.length : Int))) from isTo (v := .int .i64 ((s.length : Int))) (isX rfl) (by first | rfl | (congr 1; omega))) (thCons (show Is _ (.x 14) (.int .i64 ((i + 1))) from isTo (v := .int .i64 (i + 1)) (isX rfl) (by first | rfl | (congr 1; omega))) (thCons (show Is _ (.x 12) (St' ([u8 (bt s (Int.toNat (i)))])) from isTo (v := St' ([u8 (bt s (Int.toNat (i)))])) (isX rfl) (by first | rfl | (simp; done))) (thNil))))) runEs_p2
        · exact RoundH.next (tb := tabEs_p3) (L := []) (f := 2000) (th := [(0, .x 0), (1, .x 1), (2, .x 26), (3, .x 25)]) (sg := [(8, 9)]) (1, (i + 1), [u8 37, u8 (hxU ((bt s (Int.toNat (i))) / 16)), u8 (hxU ((bt s (Int.toNat (i))) % 16))]) ((tabkOk (nuX (nuEs_0 s T i b) X) (nuX_one (onEs_0 s T i b))).hyps (hyOkEs_p3 s T i b X c0 i0 i1 i2 i3 i4 i5 i6 i7 h0 h1 h2)) (LpOk.nil _) rfl (show InvEs s T (1, (i + 1), [u8 37, u8 (hxU ((bt s (Int.toNat (i))) / 16)), u8 (hxU ((bt s (Int.toNat (i))) % 16))]) from (show (0 ≤ (i + 1)) ∧ ((i + 1) ≤ (s.length : Int)) ∧ (([u8 37, u8 (hxU ((bt s (Int.toNat (i))) / 16)), u8 (hxU ((bt s (Int.toNat (i))) % 16))]) ++ escS (s.drop (i + 1).toNat) = T) ∧ ((([u8 37, u8 (hxU ((bt s (Int.toNat (i))) / 16)), u8 (hxU ((bt s (Int.toNat (i))) % 16))]).length : Int) ≤ 3 * (i + 1)) ∧ (1 = 0 → ([u8 37, u8 (hxU ((bt s (Int.toNat (i))) / 16)), u8 (hxU ((bt s (Int.toNat (i))) % 16))]) = []) ∧ (1 = 1 → ([u8 37, u8 (hxU ((bt s (Int.toNat (i))) / 16)), u8 (hxU ((bt s (Int.toNat (i))) % 16))]) ≠ []) ∧ (1 = 0 → (i + 1) = 0) ∧ (1 = 1 → 1 ≤ (i + 1)) ∧ (1 < 2) from ⟨by omega, by omega, by rw [← i2, i4 rfl, esc_step i0 (by assumption), escB_no (by assumption) (by assumption)]; simp, by simp only [List.length_append, List.length_cons, List.length_nil]; omega, fun h => by omega, fun _ => by simp, fun h => by omega, fun _ => by omega, by omega⟩)) (by show s.length - (i + 1).toNat < s.length - i.toNat; omega) (thCons (show Is _ (.x 0) (St' s) from isTo (v := St' s) (isX rfl) (by first | rfl | (simp; done))) (thCons (show Is _ (.x 1) (.int .i64 ((s.length : Int))) from isTo (v := .int .i64 ((s.length : Int))) (isX rfl) (by first | rfl | (congr 1; omega))) (thCons (show Is _ (.x 26) (.int .i64 ((i + 1))) from isTo (v := .int .i64 (i + 1)) (isX rfl) (by first | rfl | (congr 1; omega))) (thCons (show Is _ (.x 25) (St' ([u8 37, u8 (hxU ((bt s (Int.toNat (i))) / 16)), u8 (hxU ((bt s (Int.toNat (i))) % 16))])) from isTo (v := St' ([u8 37, u8 (hxU ((bt s (Int.toNat (i))) / 16)), u8 (hxU ((bt s (Int.toNat (i))) % 16))])) (isX rfl) (by first | rfl | (simp; done))) (thNil))))) runEs_p3
    · exfalso; omega
  · skip
    by_cases h0 : i < (s.length : Int)
    · by_cases h1 : tb8 MAln (bt s (Int.toNat (i))) = true
      · exact RoundH.next (tb := tabEs_p5) (L := []) (f := 2000) (th := [(0, .x 0), (1, .x 1), (2, .x 8), (3, .x 7)]) (sg := [(8, 10)]) (1, (i + 1), (b ++ [u8 (bt s (Int.toNat (i)))])) ((tabkOk (nuX (nuEs_1 s T i b) X) (nuX_one (onEs_1 s T i b))).hyps (hyOkEs_p5 s T i b X c0 i0 i1 i2 i3 i4 i5 i6 i7 h0 h1)) (LpOk.nil _) rfl (show InvEs s T (1, (i + 1), (b ++ [u8 (bt s (Int.toNat (i)))])) from (show (0 ≤ (i + 1)) ∧ ((i + 1) ≤ (s.length : Int)) ∧ ((b ++ [u8 (bt s (Int.toNat (i)))]) ++ escS (s.drop (i + 1).toNat) = T) ∧ (((b ++ [u8 (bt s (Int.toNat (i)))]).length : Int) ≤ 3 * (i + 1)) ∧ (1 = 0 → (b ++ [u8 (bt s (Int.toNat (i)))]) = []) ∧ (1 = 1 → (b ++ [u8 (bt s (Int.toNat (i)))]) ≠ []) ∧ (1 = 0 → (i + 1) = 0) ∧ (1 = 1 → 1 ≤ (i + 1)) ∧ (1 < 2) from ⟨by omega, by omega, by rw [← i2, esc_step i0 (by assumption), escB_aln (by assumption)]; simp, by simp only [List.length_append, List.length_cons, List.length_nil]; omega, fun h => by omega, fun _ => by simp, fun h => by omega, fun _ => by omega, by omega⟩)) (by show s.length - (i + 1).toNat < s.length - i.toNat; omega) (thCons (show Is _ (.x 0) (St' s) from isTo (v := St' s) (isX rfl) (by first | rfl | (simp; done))) (thCons (show Is _ (.x 1) (.int .i64 ((s.length : Int))) from isTo (v := .int .i64 ((s.length : Int))) (isX rfl) (by first | rfl | (congr 1; omega))) (thCons (show Is _ (.x 8) (.int .i64 ((i + 1))) from isTo (v := .int .i64 (i + 1)) (isX rfl) (by first | rfl | (congr 1; omega))) (thCons (show Is _ (.x 7) (St' (b ++ [u8 (bt s (Int.toNat (i)))])) from isTo (v := St' (b ++ [u8 (bt s (Int.toNat (i)))])) (isX rfl) (by first | rfl | (simp; done))) (thNil))))) runEs_p5
      · by_cases h2 : 0 ≤ vIxp (bt s (Int.toNat (i)))
        · exact RoundH.next (tb := tabEs_p6) (L := []) (f := 2000) (th := [(0, .x 0), (1, .x 1), (2, .x 13), (3, .x 12)]) (sg := [(8, 10)]) (1, (i + 1), (b ++ [u8 (bt s (Int.toNat (i)))])) ((tabkOk (nuX (nuEs_1 s T i b) X) (nuX_one (onEs_1 s T i b))).hyps (hyOkEs_p6 s T i b X c0 i0 i1 i2 i3 i4 i5 i6 i7 h0 h1 h2)) (LpOk.nil _) rfl (show InvEs s T (1, (i + 1), (b ++ [u8 (bt s (Int.toNat (i)))])) from (show (0 ≤ (i + 1)) ∧ ((i + 1) ≤ (s.length : Int)) ∧ ((b ++ [u8 (bt s (Int.toNat (i)))]) ++ escS (s.drop (i + 1).toNat) = T) ∧ (((b ++ [u8 (bt s (Int.toNat (i)))]).length : Int) ≤ 3 * (i + 1)) ∧ (1 = 0 → (b ++ [u8 (bt s (Int.toNat (i)))]) = []) ∧ (1 = 1 → (b ++ [u8 (bt s (Int.toNat (i)))]) ≠ []) ∧ (1 = 0 → (i + 1) = 0) ∧ (1 = 1 → 1 ≤ (i + 1)) ∧ (1 < 2) from ⟨by omega, by omega, by rw [← i2, esc_step i0 (by assumption), escB_ix (by assumption)]; simp, by simp only [List.length_append, List.length_cons, List.length_nil]; omega, fun h => by omega, fun _ => by simp, fun h => by omega, fun _ => by omega, by omega⟩)) (by show s.length - (i + 1).toNat < s.length - i.toNat; omega) (thCons (show Is _ (.x 0) (St' s) from isTo (v := St' s) (isX rfl) (by first | rfl | (simp; done))) (thCons (show Is _ (.x 1) (.int .i64 ((s.length : Int))) from isTo (v := .int .i64 ((s.length : Int))) (isX rfl) (by first | rfl | (congr 1; omega))) (thCons (show Is _ (.x 13) (.int .i64 ((i + 1))) from isTo (v := .int .i64 (i + 1)) (isX rfl) (by first | rfl | (congr 1; omega))) (thCons (show Is _ (.x 12) (St' (b ++ [u8 (bt s (Int.toNat (i)))])) from isTo (v := St' (b ++ [u8 (bt s (Int.toNat (i)))])) (isX rfl) (by first | rfl | (simp; done))) (thNil))))) runEs_p6
        · exact RoundH.next (tb := tabEs_p7) (L := []) (f := 2000) (th := [(0, .x 0), (1, .x 1), (2, .x 26), (3, .x 25)]) (sg := [(8, 9)]) (1, (i + 1), (b ++ [u8 37, u8 (hxU ((bt s (Int.toNat (i))) / 16)), u8 (hxU ((bt s (Int.toNat (i))) % 16))])) ((tabkOk (nuX (nuEs_1 s T i b) X) (nuX_one (onEs_1 s T i b))).hyps (hyOkEs_p7 s T i b X c0 i0 i1 i2 i3 i4 i5 i6 i7 h0 h1 h2)) (LpOk.nil _) rfl (show InvEs s T (1, (i + 1), (b ++ [u8 37, u8 (hxU ((bt s (Int.toNat (i))) / 16)), u8 (hxU ((bt s (Int.toNat (i))) % 16))])) from (show (0 ≤ (i + 1)) ∧ ((i + 1) ≤ (s.length : Int)) ∧ ((b ++ [u8 37, u8 (hxU ((bt s (Int.toNat (i))) / 16)), u8 (hxU ((bt s (Int.toNat (i))) % 16))]) ++ escS (s.drop (i + 1).toNat) = T) ∧ (((b ++ [u8 37, u8 (hxU ((bt s (Int.toNat (i))) / 16)), u8 (hxU ((bt s (Int.toNat (i))) % 16))]).length : Int) ≤ 3 * (i + 1)) ∧ (1 = 0 → (b ++ [u8 37, u8 (hxU ((bt s (Int.toNat (i))) / 16)), u8 (hxU ((bt s (Int.toNat (i))) % 16))]) = []) ∧ (1 = 1 → (b ++ [u8 37, u8 (hxU ((bt s (Int.toNat (i))) / 16)), u8 (hxU ((bt s (Int.toNat (i))) % 16))]) ≠ []) ∧ (1 = 0 → (i + 1) = 0) ∧ (1 = 1 → 1 ≤ (i + 1)) ∧ (1 < 2) from ⟨by omega, by omega, by rw [← i2, esc_step i0 (by assumption), escB_no (by assumption) (by assumption)]; simp, by simp only [List.length_append, List.length_cons, List.length_nil]; omega, fun h => by omega, fun _ => by simp, fun h => by omega, fun _ => by omega, by omega⟩)) (by show s.length - (i + 1).toNat < s.length - i.toNat; omega) (thCons (show Is _ (.x 0) (St' s) from isTo (v := St' s) (isX rfl) (by first | rfl | (simp; done))) (thCons (show Is _ (.x 1) (.int .i64 ((s.length : Int))) from isTo (v := .int .i64 ((s.length : Int))) (isX rfl) (by first | rfl | (congr 1; omega))) (thCons (show Is _ (.x 26) (.int .i64 ((i + 1))) from isTo (v := .int .i64 (i + 1)) (isX rfl) (by first | rfl | (congr 1; omega))) (thCons (show Is _ (.x 25) (St' (b ++ [u8 37, u8 (hxU ((bt s (Int.toNat (i))) / 16)), u8 (hxU ((bt s (Int.toNat (i))) % 16))])) from isTo (v := St' (b ++ [u8 37, u8 (hxU ((bt s (Int.toNat (i))) / 16)), u8 (hxU ((bt s (Int.toNat (i))) % 16))])) (isX rfl) (by first | rfl | (simp; done))) (thNil))))) runEs_p7
    · exact RoundH.leave (tb := tabEs_p4) (L := []) (f := 2000) (th := [(0, .x 3)]) (sg := [(8, 8)]) ((tabkOk (nuX (nuEs_1 s T i b) X) (nuX_one (onEs_1 s T i b))).hyps (hyOkEs_p4 s T i b X c0 i0 i1 i2 i3 i4 i5 i6 i7 h0)) (LpOk.nil _) rfl rfl (thCons (show Is _ (.x 3) (St' T) from isTo (v := St' b) (isX rfl) (congrArg (fun l => St' l) (by rw [← i2, esc_end (by assumption)]; simp))) (thNil)) runEs_p4
theorem lfOkEs_1 {nu : Nat → Value} {one : ∀ i, i < 1000000 → (nu i).oneCell' = true} {l : LF} {h : LH} (s : List UInt8) (T : List UInt8) (c0 : s.length ≤ 400) (x0 : ¬ s.length = 0) (st : Nat × Int × List UInt8) (hI : InvEs s T st) (hl : l.hp = some h) (hs : lfSame l h 40 keepEs (.exit 0) 7 8 14 = true) {th0 : List (Nat × AV)} {sg0 : List (Nat × Nat)} (hth0 : ∀ X, ThOk (cx nu one 0 laidE laidE_stab) (DEs s T st X) th0) (h0 : startOk l h 40 8 9 th0 sg0 (epEs st) (hpEs st) = true) {thx : List (Nat × AV)} (hthx : ThOk (EEs_1 s T) (cx nu one 0 laidE laidE_stab) thx) (hx : exitOk l h 40 8 14 thx [(3, .p 7 0)] [(7, .b ⟨92, .l [.p 7 0, .sy 8], 0, 0, 0, false, false⟩), (8, .t 0 5)] = true) : LfOk (cx nu one 0 laidE laidE_stab) bodyEs l :=
  lfOkX (E := EEs_1 s T) (InvEs s T) (fun st : Nat × Int × List UInt8 => (s.length - (st.2.1).toNat)) (DEs s T) (fun _ _ => rfl) (fun _ _ => rfl) (fun _ _ => rfl) (fun st X t _ => nuX_keep) rfl rfl rfl hl hs (ebEs) rfl rfl st hI hth0 h0 hthx hx (fun st X hI => roundsEs_1 s T c0 x0 st X hI)
noncomputable def fi27 : FI := (tabk.fn.get 27).getD default
theorem fi27_at : tabk.fn.get 27 = some fi27 := by kernel_rfl
theorem fi27_body : fi27.body = some (Tryd.f27.body.getD .skip) := by kernel_rfl
def hyEscape_0 : List (HK × AV) := [(.len (.x 0), .x 1)]
noncomputable def tabEscape_0 : Tab := addLps ({ tabk with hyp := hyEscape_0 }) 27 fi27 [⟨3, 40, [(0, .x 0), (3, .p 7 0), (6, .x 0), (7, .x 1), (8, .i .i64 (.ofNat 0))], [2], (.exit 0), [(3, .p 7 0)], some ⟨7, 8, 14, [(7, .b ⟨92, .l [.nilp, .nils], 0, 0, 0, false, false⟩)], [(7, .b ⟨92, .l [.nilp, .nils], 0, 0, 0, false, false⟩)]⟩⟩]
theorem runEscape_0 : okA (call tabEscape_0 9000 27 [.x 0] ⟨H0 , 7, 0, 0⟩) (.s 0 0) = true := by kernel_rfl
def nuEscape_0 (s : List UInt8) : List Value := [St' s, .int .i64 ((s.length : Int))]
theorem oneEscape_0 (s : List UInt8) : ∀ j, j < 1000000 → (nuL (nuEscape_0 s) j).oneCell' = true := fun j _ => nuL_one (l := nuEscape_0 s) rfl j
set_option maxHeartbeats 2000000 in
theorem hyOkEscape_0 (s : List UInt8) (b0 : s.length ≤ 9223372036854775807) (p0 : s.length ≤ 400) (h0 : s.length = 0) : ∀ k r, (k, r) ∈ hyEscape_0 → HOk (cx (nuL (nuEscape_0 s)) (oneEscape_0 s) 0 laidE laidE_stab) k r := by
  have := escS_len s
  unfold hyEscape_0
  refine hcons (kLenE (isX rfl) (denX rfl) (by first | omega | (simp <;> omega))) ?_
  exact hnil
theorem pathEscape_0 (s : List UInt8) (b0 : s.length ≤ 9223372036854775807) (p0 : s.length ≤ 400) (h0 : s.length = 0) (w : World) (hl : laidE w) : Calls Tryd.prog 27 #[St' s] w fun e w' => e = .returned (St' ([] : List UInt8)) ∧ Go.AX.Below (Go.AX.Fz.lt w.heap.size) w w' := by
  have := escS_len s
  obtain ⟨fi, hfi, hb⟩ : ∃ fi, tabEscape_0.fn.get 27 = some fi ∧ fi.body.isSome = true := ⟨_, (get_lps (by omega)), by show fi27.body.isSome = true; rw [fi27_body]; rfl⟩
  refine (runA (tb := tabEscape_0) (ra := .s 0 0) (hnr := rfl) (AllOk.lp1 ((tabkOk (nuL (nuEscape_0 s)) (oneEscape_0 s)).hyps (hyOkEscape_0 s b0 p0 h0)) (by omega) fi27_at fi27_body (lfCons ⟨0, keyEs, lfOkEs_0 (l := ⟨3, 40, [(0, .x 0), (3, .p 7 0), (6, .x 0), (7, .x 1), (8, .i .i64 (.ofNat 0))], [2], (.exit 0), [(3, .p 7 0)], some ⟨7, 8, 14, [(7, .b ⟨92, .l [.nilp, .nils], 0, 0, 0, false, false⟩)], [(7, .b ⟨92, .l [.nilp, .nils], 0, 0, 0, false, false⟩)]⟩⟩) (h := ⟨7, 8, 14, [(7, .b ⟨92, .l [.nilp, .nils], 0, 0, 0, false, false⟩)], [(7, .b ⟨92, .l [.nilp, .nils], 0, 0, 0, false, false⟩)]⟩) s (escS s) (by omega) (by assumption) (0, (0 : Int), ([] : List UInt8)) (show InvEs s (escS s) (0, (0 : Int), ([] : List UInt8)) from (show (0 ≤ (0 : Int)) ∧ ((0 : Int) ≤ (s.length : Int)) ∧ (([] : List UInt8) ++ escS (s.drop (0 : Int).toNat) = (escS s)) ∧ ((([] : List UInt8).length : Int) ≤ 3 * (0 : Int)) ∧ (0 = 0 → ([] : List UInt8) = []) ∧ (0 = 1 → ([] : List UInt8) ≠ []) ∧ (0 = 0 → (0 : Int) = 0) ∧ (0 = 1 → 1 ≤ (0 : Int)) ∧ (0 < 2) from ⟨by omega, by omega, by simp, by simp, fun _ => rfl, fun h => by omega, fun _ => rfl, fun h => by omega, by omega⟩)) rfl (by kernel_rfl) (th0 := [(0, .x 0), (1, .x 1), (2, .i .i64 (.ofNat 0))]) (sg0 := []) (fun X => thCons (show Is _ (.x 0) (St' s) from isTo (v := St' s) (isX rfl) (by first | rfl | (simp; done))) (thCons (show Is _ (.x 1) (.int .i64 ((s.length : Int))) from isTo (v := .int .i64 ((s.length : Int))) (isX rfl) (by first | rfl | (congr 1; omega))) (thCons (show Is _ (.i .i64 (.ofNat 0)) (.int .i64 ((0 : Int))) from isTo (v := .int .i64 0) (isI _ _) (by first | rfl | (congr 1; omega))) (thNil)))) (by kernel_rfl) (thx := []) (thNil) (by kernel_rfl)⟩ lfNil)) rfl hfi hb (runEscape_0 ) (args := [St' s]) (by simp only [RelL, Rel]; exact ⟨_, _, rfl, rfl, rfl⟩) w hl).mono fun e w' he => ?_
  obtain ⟨x, rfl, hx, hb2⟩ := he
  simp only [Rel, RelL] at hx
  obtain ⟨rfl, _⟩ := hx
  exact ⟨rfl, hb2⟩
def hyEscape_1 : List (HK × AV) := [(.len (.x 0), .x 1), (.byt (.x 2) (.i .i64 (.ofNat 0)), .x 3), (.len (.x 2), .x 4), (.fit (.x 2), .b true)]
noncomputable def tabEscape_1 : Tab := addLps ({ tabk with hyp := hyEscape_1 }) 27 fi27 [⟨3, 40, [(0, .x 0), (3, .p 7 0), (6, .x 0), (7, .x 1), (8, .i .i64 (.ofNat 0))], [2], (.exit 0), [(3, .p 7 0)], some ⟨7, 8, 14, [(7, .b ⟨92, .l [.nilp, .nils], 0, 0, 0, false, false⟩)], [(7, .b ⟨92, .l [.p 7 0, .sy 8], 0, 0, 0, false, false⟩), (8, .t 2 5)]⟩⟩]
theorem runEscape_1 : okA (call tabEscape_1 9000 27 [.x 0] ⟨H0 , 7, 0, 0⟩) (.x 2) = true := by kernel_rfl
def nuEscape_1 (s : List UInt8) : List Value := [St' s, .int .i64 ((s.length : Int)), St' (escS s), .int .u8 (bt (escS s) 0), .int .i64 (((escS s).length : Int))]
theorem oneEscape_1 (s : List UInt8) : ∀ j, j < 1000000 → (nuL (nuEscape_1 s) j).oneCell' = true := fun j _ => nuL_one (l := nuEscape_1 s) rfl j
set_option maxHeartbeats 2000000 in
theorem hyOkEscape_1 (s : List UInt8) (b0 : s.length ≤ 9223372036854775807) (p0 : s.length ≤ 400) (h0 : ¬ (s.length = 0)) : ∀ k r, (k, r) ∈ hyEscape_1 → HOk (cx (nuL (nuEscape_1 s)) (oneEscape_1 s) 0 laidE laidE_stab) k r := by
  have := escS_len s
  have := bt_lo (escS s) 0; have := bt_hi (escS s) 0
  unfold hyEscape_1
  refine hcons (kLenE (isX rfl) (denX rfl) (by first | omega | (simp <;> omega))) ?_
  refine hcons (kByt (i := 0) (isX rfl) (isZ (m := 0) rfl) (denX rfl) rfl (by first | omega | (simp <;> omega)) rfl) ?_
  refine hcons (kLenE (isX rfl) (denX rfl) (by first | omega | (simp <;> omega))) ?_
  refine hcons (kFit (isX rfl) (by first | omega | (simp <;> omega))) ?_
  exact hnil
theorem pathEscape_1 (s : List UInt8) (b0 : s.length ≤ 9223372036854775807) (p0 : s.length ≤ 400) (h0 : ¬ (s.length = 0)) (w : World) (hl : laidE w) : Calls Tryd.prog 27 #[St' s] w fun e w' => e = .returned (St' (escS s)) ∧ Go.AX.Below (Go.AX.Fz.lt w.heap.size) w w' := by
  have := escS_len s
  have := bt_lo (escS s) 0; have := bt_hi (escS s) 0
  obtain ⟨fi, hfi, hb⟩ : ∃ fi, tabEscape_1.fn.get 27 = some fi ∧ fi.body.isSome = true := ⟨_, (get_lps (by omega)), by show fi27.body.isSome = true; rw [fi27_body]; rfl⟩
  refine (runA (tb := tabEscape_1) (ra := .x 2) (hnr := rfl) (AllOk.lp1 ((tabkOk (nuL (nuEscape_1 s)) (oneEscape_1 s)).hyps (hyOkEscape_1 s b0 p0 h0)) (by omega) fi27_at fi27_body (lfCons ⟨0, keyEs, lfOkEs_1 (l := ⟨3, 40, [(0, .x 0), (3, .p 7 0), (6, .x 0), (7, .x 1), (8, .i .i64 (.ofNat 0))], [2], (.exit 0), [(3, .p 7 0)], some ⟨7, 8, 14, [(7, .b ⟨92, .l [.nilp, .nils], 0, 0, 0, false, false⟩)], [(7, .b ⟨92, .l [.p 7 0, .sy 8], 0, 0, 0, false, false⟩), (8, .t 2 5)]⟩⟩) (h := ⟨7, 8, 14, [(7, .b ⟨92, .l [.nilp, .nils], 0, 0, 0, false, false⟩)], [(7, .b ⟨92, .l [.p 7 0, .sy 8], 0, 0, 0, false, false⟩), (8, .t 2 5)]⟩) s (escS s) (by omega) (by assumption) (0, (0 : Int), ([] : List UInt8)) (show InvEs s (escS s) (0, (0 : Int), ([] : List UInt8)) from (show (0 ≤ (0 : Int)) ∧ ((0 : Int) ≤ (s.length : Int)) ∧ (([] : List UInt8) ++ escS (s.drop (0 : Int).toNat) = (escS s)) ∧ ((([] : List UInt8).length : Int) ≤ 3 * (0 : Int)) ∧ (0 = 0 → ([] : List UInt8) = []) ∧ (0 = 1 → ([] : List UInt8) ≠ []) ∧ (0 = 0 → (0 : Int) = 0) ∧ (0 = 1 → 1 ≤ (0 : Int)) ∧ (0 < 2) from ⟨by omega, by omega, by simp, by simp, fun _ => rfl, fun h => by omega, fun _ => rfl, fun h => by omega, by omega⟩)) rfl (by kernel_rfl) (th0 := [(0, .x 0), (1, .x 1), (2, .i .i64 (.ofNat 0))]) (sg0 := []) (fun X => thCons (show Is _ (.x 0) (St' s) from isTo (v := St' s) (isX rfl) (by first | rfl | (simp; done))) (thCons (show Is _ (.x 1) (.int .i64 ((s.length : Int))) from isTo (v := .int .i64 ((s.length : Int))) (isX rfl) (by first | rfl | (congr 1; omega))) (thCons (show Is _ (.i .i64 (.ofNat 0)) (.int .i64 ((0 : Int))) from isTo (v := .int .i64 0) (isI _ _) (by first | rfl | (congr 1; omega))) (thNil)))) (by kernel_rfl) (thx := [(2, .x 0)]) (thCons (show Is _ (.x 0) (St' (escS s)) from isTo (v := St' (escS s)) (isX rfl) (by first | rfl | (congr 1; omega))) (thNil)) (by kernel_rfl)⟩ lfNil)) rfl hfi hb (runEscape_1 ) (args := [St' s]) (by simp only [RelL, Rel]; exact ⟨_, _, rfl, rfl, rfl⟩) w hl).mono fun e w' he => ?_
  obtain ⟨x, rfl, hx, hb2⟩ := he
  simp only [Rel, RelL] at hx
  subst hx
  exact ⟨rfl, hb2⟩
theorem callsEscape (s : List UInt8) (b0 : s.length ≤ 9223372036854775807) (p0 : s.length ≤ 400) (w : World) (hl : laidE w) : Calls Tryd.prog 27 #[St' s] w fun e w' => e = .returned (St' (escS s)) ∧ Go.AX.Below (Go.AX.Fz.lt w.heap.size) w w' := by
  by_cases h0 : s.length = 0
  · rw [show (St' (escS s) : Value) = (St' ([] : List UInt8) : Value) from by first | rfl | (have e : s = [] := List.eq_nil_of_length_eq_zero (by assumption); subst e; rfl)]
    exact pathEscape_0 s b0 p0 h0 w hl
  · rw [show (St' (escS s) : Value) = (St' (escS s) : Value) from by first | rfl | (have e : s = [] := List.eq_nil_of_length_eq_zero (by assumption); subst e; rfl)]
    exact pathEscape_1 s b0 p0 h0 w hl
theorem hokEscape {nu : Nat → Value} {one : ∀ i, i < 1000000 → (nu i).oneCell' = true} {x0 r : AV} {s : List UInt8} (i0 : Is (cx nu one 0 laidE laidE_stab) x0 (St' s)) (hr : Den (cx nu one 0 laidE laidE_stab) r (St' (escS s))) (b0 : s.length ≤ 9223372036854775807) (p0 : s.length ≤ 400) : HOk (cx nu one 0 laidE laidE_stab) (.call 27 [x0]) r := by
  intro ρ args ha w hl _
  simp only [RelL] at ha
  obtain ⟨v0, t0, rfl, a0, rfl⟩ := ha
  have e0 := i0 ρ _ a0; subst e0
  exact (callsEscape s b0 p0 w hl).mono fun e w' he => ⟨_, he.1, hr ρ, he.2⟩
def LDgt : List Int := [16, 16, 16, 16, 16, 16, 16, 16, 16, 16, 16, 16, 16, 16, 16, 16, 16, 16, 16, 16, 16, 16, 16, 16, 16, 16, 16, 16, 16, 16, 16, 16, 16, 16, 16, 16, 16, 16, 16, 16, 16, 16, 16, 16, 16, 16, 16, 16, 0, 1, 2, 3, 4, 5, 6, 7, 8, 9, 16, 16, 16, 16, 16, 16, 16, 10, 11, 12, 13, 14, 15, 16, 16, 16, 16, 16, 16, 16, 16, 16, 16, 16, 16, 16, 16, 16, 16, 16, 16, 16, 16, 16, 16, 16, 16, 16, 16, 10, 11, 12, 13, 14, 15, 16, 16, 16, 16, 16, 16, 16, 16, 16, 16, 16, 16, 16, 16, 16, 16, 16, 16, 16, 16, 16, 16, 16, 16, 16, 16, 16, 16, 16, 16, 16, 16, 16, 16, 16, 16, 16, 16, 16, 16, 16, 16, 16, 16, 16, 16, 16, 16, 16, 16, 16, 16, 16, 16, 16, 16, 16, 16, 16, 16, 16, 16, 16, 16, 16, 16, 16, 16, 16, 16, 16, 16, 16, 16, 16, 16, 16, 16, 16, 16, 16, 16, 16, 16, 16, 16, 16, 16, 16, 16, 16, 16, 16, 16, 16, 16, 16, 16, 16, 16, 16, 16, 16, 16, 16, 16, 16, 16, 16, 16, 16, 16, 16, 16, 16, 16, 16, 16, 16, 16, 16, 16, 16, 16, 16, 16, 16, 16, 16, 16, 16, 16, 16, 16, 16, 16, 16, 16, 16, 16, 16, 16, 16, 16, 16, 16, 16, 16, 16, 16, 16, 16, 16]
def vDgt (c : Int) : Int := LDgt.getD c.toNat 0
noncomputable def bfDgt (n : Nat) : Bool := okA (call tabk 9000 90 [.i .u8 (.ofNat n)] ⟨H0 , 7, 0, 0⟩) (.i .i64 (LDgt.getD n 0))
theorem bfDgt_0 : allN (bfDgt ) 0 16 = true := by kernel_rfl
theorem bfDgt_1 : allN (bfDgt ) 16 16 = true := by kernel_rfl
theorem bfDgt_2 : allN (bfDgt ) 32 16 = true := by kernel_rfl
theorem bfDgt_3 : allN (bfDgt ) 48 16 = true := by kernel_rfl
theorem bfDgt_4 : allN (bfDgt ) 64 16 = true := by kernel_rfl
theorem bfDgt_5 : allN (bfDgt ) 80 16 = true := by kernel_rfl
theorem bfDgt_6 : allN (bfDgt ) 96 16 = true := by kernel_rfl
theorem bfDgt_7 : allN (bfDgt ) 112 16 = true := by kernel_rfl
theorem bfDgt_8 : allN (bfDgt ) 128 16 = true := by kernel_rfl
theorem bfDgt_9 : allN (bfDgt ) 144 16 = true := by kernel_rfl
theorem bfDgt_10 : allN (bfDgt ) 160 16 = true := by kernel_rfl
theorem bfDgt_11 : allN (bfDgt ) 176 16 = true := by kernel_rfl
theorem bfDgt_12 : allN (bfDgt ) 192 16 = true := by kernel_rfl
theorem bfDgt_13 : allN (bfDgt ) 208 16 = true := by kernel_rfl
theorem bfDgt_14 : allN (bfDgt ) 224 16 = true := by kernel_rfl
theorem bfDgt_15 : allN (bfDgt ) 240 16 = true := by kernel_rfl
theorem bfDgt_all (n : Nat) (h : n < 256) : bfDgt n = true := by
  by_cases h0 : n < 16
  · exact allN_at (bfDgt_0 ) n (by omega) (by omega)
  by_cases h1 : n < 32
  · exact allN_at (bfDgt_1 ) n (by omega) (by omega)
  by_cases h2 : n < 48
  · exact allN_at (bfDgt_2 ) n (by omega) (by omega)
  by_cases h3 : n < 64
  · exact allN_at (bfDgt_3 ) n (by omega) (by omega)
  by_cases h4 : n < 80
  · exact allN_at (bfDgt_4 ) n (by omega) (by omega)
  by_cases h5 : n < 96
  · exact allN_at (bfDgt_5 ) n (by omega) (by omega)
  by_cases h6 : n < 112
  · exact allN_at (bfDgt_6 ) n (by omega) (by omega)
  by_cases h7 : n < 128
  · exact allN_at (bfDgt_7 ) n (by omega) (by omega)
  by_cases h8 : n < 144
  · exact allN_at (bfDgt_8 ) n (by omega) (by omega)
  by_cases h9 : n < 160
  · exact allN_at (bfDgt_9 ) n (by omega) (by omega)
  by_cases h10 : n < 176
  · exact allN_at (bfDgt_10 ) n (by omega) (by omega)
  by_cases h11 : n < 192
  · exact allN_at (bfDgt_11 ) n (by omega) (by omega)
  by_cases h12 : n < 208
  · exact allN_at (bfDgt_12 ) n (by omega) (by omega)
  by_cases h13 : n < 224
  · exact allN_at (bfDgt_13 ) n (by omega) (by omega)
  by_cases h14 : n < 240
  · exact allN_at (bfDgt_14 ) n (by omega) (by omega)
  exact allN_at (bfDgt_15 ) n (by omega) (by omega)
theorem callsDgt (n : Nat) (h : n < 256) (w : World) (hl : laidE w) : Calls Tryd.prog 90 #[.int .u8 (n : Int)] w fun e w' => e = .returned (.int .i64 (vDgt (n : Int))) ∧ Go.AX.Below (Go.AX.Fz.lt w.heap.size) w w' := by
  obtain ⟨fi, hfi, hb⟩ : ∃ fi, tabk.fn.get 90 = some fi ∧ fi.body.isSome = true := ⟨_, rfl, by kernel_rfl⟩
  refine (runA (tb := tabk) (hnr := rfl) (tabkOk (nuL []) (fun j _ => nuL_one (l := []) rfl j)) rfl hfi hb (bfDgt_all n h) (args := [.int .u8 (n : Int)]) (by simp only [RelL, Rel]; exact ⟨_, _, rfl, rfl, rfl⟩) w hl).mono fun e w' he => ?_
  obtain ⟨x, rfl, hx, hb2⟩ := he
  simp only [Rel] at hx
  exact ⟨by rw [hx]; rfl, hb2⟩
theorem hokDgt {nu : Nat → Value} {one : ∀ i, i < 1000000 → (nu i).oneCell' = true} {x0 r : AV} {c : Int} (i0 : Is (cx nu one 0 laidE laidE_stab) x0 (.int .u8 c)) (b0 : 0 ≤ c) (b1 : c ≤ 255) (hr : Den (cx nu one 0 laidE laidE_stab) r (.int .i64 (vDgt c))) : HOk (cx nu one 0 laidE laidE_stab) (.call 90 [x0]) r := by
  intro ρ args ha w hl _
  simp only [RelL] at ha
  obtain ⟨v0, t0, rfl, a0, rfl⟩ := ha
  have e0 := i0 ρ _ a0; subst e0
  obtain ⟨n, rfl⟩ := Int.eq_ofNat_of_zero_le b0
  exact (callsDgt n (by omega) w hl).mono fun e w' he => ⟨_, he.1, hr ρ, he.2⟩
theorem rDgt {c : Int} (b0 : 0 ≤ c) (b1 : c ≤ 255) : 0 ≤ vDgt c ∧ vDgt c ≤ 16 := by
  obtain ⟨n, rfl⟩ := Int.eq_ofNat_of_zero_le b0
  have h : ∀ m : Fin 256, 0 ≤ LDgt.getD m.val 0 ∧ LDgt.getD m.val 0 ≤ 16 := by decide +kernel
  exact h ⟨n, by omega⟩
def unF : Nat → List UInt8 → Option (List UInt8)
  | 0, _ => none
  | f + 1, r => if r.length = 0 then some [] else if ¬ (bt r 0 = 37) then (unF f (r.drop 1)).map (u8 (bt r 0) :: ·) else if r.length < 3 then none
    else if vDgt (bt r 1) < 16 ∧ vDgt (bt r 2) < 16 ∧ ¬ (vDgt (bt r 1) * 16 + vDgt (bt r 2) = 0) then (unF f (r.drop 3)).map (u8 ((vDgt (bt r 1) * 16 + vDgt (bt r 2)) % 256) :: ·) else none
def unS (r : List UInt8) : Option (List UInt8) := unF (r.length + 1) r
theorem unF_fuel : ∀ (f g : Nat) (r : List UInt8), r.length < f → r.length < g → unF f r = unF g r
  | 0, _, _, h, _ => by omega
  | _ + 1, 0, _, _, h => by omega
  | f + 1, g + 1, r, h1, h2 => by
    unfold unF
    by_cases h : r.length = 0
    · rw [if_pos h, if_pos h]
    · rw [if_neg h, if_neg h]
      rw [unF_fuel f g (r.drop 1) (by rw [List.length_drop]; omega) (by rw [List.length_drop]; omega)]
      by_cases h3 : r.length < 3
      · rw [if_pos h3, if_pos h3]
      · rw [unF_fuel f g (r.drop 3) (by rw [List.length_drop]; omega) (by rw [List.length_drop]; omega)]
theorem un_nil {r : List UInt8} (h : r.length = 0) : unS r = some [] := by unfold unS unF; rw [if_pos h]
theorem un_plain {r : List UInt8} (h : ¬ r.length = 0) (h1 : ¬ (bt r 0 = 37)) : unS r = (unS (r.drop 1)).map (u8 (bt r 0) :: ·) := by
  unfold unS
  conv => lhs; unfold unF
  rw [if_neg h, if_pos h1, unF_fuel r.length ((r.drop 1).length + 1) (r.drop 1) (by rw [List.length_drop]; omega) (by omega)]
theorem un_short {r : List UInt8} (h : ¬ r.length = 0) (h1 : bt r 0 = 37) (h2 : r.length < 3) : unS r = none := by
  unfold unS unF; rw [if_neg h, if_neg (by omega), if_pos h2]
theorem un_bad {r : List UInt8} (h1 : bt r 0 = 37) (h2 : 3 ≤ r.length) (h3 : ¬ (vDgt (bt r 1) < 16 ∧ vDgt (bt r 2) < 16 ∧ ¬ (vDgt (bt r 1) * 16 + vDgt (bt r 2) = 0))) : unS r = none := by
  unfold unS unF; rw [if_neg (by omega), if_neg (by omega), if_neg (by omega), if_neg h3]
theorem un_esc {r : List UInt8} (h1 : bt r 0 = 37) (h2 : 3 ≤ r.length) (h3 : vDgt (bt r 1) < 16 ∧ vDgt (bt r 2) < 16 ∧ ¬ (vDgt (bt r 1) * 16 + vDgt (bt r 2) = 0)) : unS r = (unS (r.drop 3)).map (u8 ((vDgt (bt r 1) * 16 + vDgt (bt r 2)) % 256) :: ·) := by
  unfold unS
  conv => lhs; unfold unF
  rw [if_neg (by omega), if_neg (by omega), if_neg (by omega), if_pos h3, unF_fuel r.length ((r.drop 3).length + 1) (r.drop 3) (by rw [List.length_drop]; omega) (by omega)]
def mDig : List UInt8 := [u8 97, u8 32, u8 112, u8 101, u8 114, u8 99, u8 101, u8 110, u8 116, u8 32, u8 115, u8 105, u8 103, u8 110, u8 32, u8 119, u8 105, u8 116, u8 104, u8 111, u8 117, u8 116, u8 32, u8 116, u8 119, u8 111, u8 32, u8 100, u8 105, u8 103, u8 105, u8 116, u8 115]
def mZer : List UInt8 := [u8 97, u8 32, u8 112, u8 101, u8 114, u8 99, u8 101, u8 110, u8 116, u8 32, u8 115, u8 105, u8 103, u8 110, u8 32, u8 116, u8 104, u8 97, u8 116, u8 32, u8 116, u8 101, u8 108, u8 108, u8 115, u8 32, u8 98, u8 121, u8 116, u8 101, u8 32, u8 48]
def umF : Nat → List UInt8 → List UInt8
  | 0, _ => []
  | f + 1, r => if r.length = 0 then [] else if ¬ (bt r 0 = 37) then umF f (r.drop 1) else if r.length < 3 then mDig
    else if ¬ (vDgt (bt r 1) < 16 ∧ vDgt (bt r 2) < 16) then mDig else if vDgt (bt r 1) * 16 + vDgt (bt r 2) = 0 then mZer else umF f (r.drop 3)
def unM (r : List UInt8) : List UInt8 := umF (r.length + 1) r
theorem umF_fuel : ∀ (f g : Nat) (r : List UInt8), r.length < f → r.length < g → umF f r = umF g r
  | 0, _, _, h, _ => by omega
  | _ + 1, 0, _, _, h => by omega
  | f + 1, g + 1, r, h1, h2 => by
    unfold umF
    by_cases h : r.length = 0
    · rw [if_pos h, if_pos h]
    · rw [if_neg h, if_neg h]
      rw [umF_fuel f g (r.drop 1) (by rw [List.length_drop]; omega) (by rw [List.length_drop]; omega)]
      by_cases h3 : r.length < 3
      · rw [if_pos h3, if_pos h3]
      · rw [umF_fuel f g (r.drop 3) (by rw [List.length_drop]; omega) (by rw [List.length_drop]; omega)]
theorem um_plain {r : List UInt8} (h : ¬ r.length = 0) (h1 : ¬ (bt r 0 = 37)) : unM r = unM (r.drop 1) := by
  unfold unM
  conv => lhs; unfold umF
  rw [if_neg h, if_pos h1, umF_fuel r.length ((r.drop 1).length + 1) (r.drop 1) (by rw [List.length_drop]; omega) (by omega)]
theorem um_short {r : List UInt8} (h : ¬ r.length = 0) (h1 : bt r 0 = 37) (h2 : r.length < 3) : unM r = mDig := by
  unfold unM umF; rw [if_neg h, if_neg (by omega), if_pos h2]
theorem um_dig {r : List UInt8} (h1 : bt r 0 = 37) (h2 : 3 ≤ r.length) (h3 : ¬ (vDgt (bt r 1) < 16 ∧ vDgt (bt r 2) < 16)) : unM r = mDig := by
  unfold unM umF; rw [if_neg (by omega), if_neg (by omega), if_neg (by omega), if_pos h3]
theorem um_zer {r : List UInt8} (h1 : bt r 0 = 37) (h2 : 3 ≤ r.length) (h3 : vDgt (bt r 1) < 16 ∧ vDgt (bt r 2) < 16) (h4 : vDgt (bt r 1) * 16 + vDgt (bt r 2) = 0) : unM r = mZer := by
  unfold unM umF; rw [if_neg (by omega), if_neg (by omega), if_neg (by omega), if_neg (fun h => h h3), if_pos h4]
theorem um_esc {r : List UInt8} (h1 : bt r 0 = 37) (h2 : 3 ≤ r.length) (h3 : vDgt (bt r 1) < 16 ∧ vDgt (bt r 2) < 16) (h4 : ¬ (vDgt (bt r 1) * 16 + vDgt (bt r 2) = 0)) : unM r = unM (r.drop 3) := by
  unfold unM
  conv => lhs; unfold umF
  rw [if_neg (by omega), if_neg (by omega), if_neg (by omega), if_neg (fun h => h h3), if_neg h4, umF_fuel r.length ((r.drop 3).length + 1) (r.drop 3) (by rw [List.length_drop]; omega) (by omega)]
def unO (b r : List UInt8) : Option (List UInt8) := (unS r).map (b ++ ·)
theorem unO_cons {b r t : List UInt8} {c : UInt8} (h : unS r = (unS t).map (c :: ·)) : unO (b ++ [c]) t = unO b r := by
  unfold unO; rw [h]; cases unS t <;> simp
theorem unO_cons0 {r t : List UInt8} {c : UInt8} (h : unS r = (unS t).map (c :: ·)) : unO [c] t = unO [] r := unO_cons (b := []) h
theorem unO_nil {b r : List UInt8} (h : r.length = 0) : unO b r = some b := by unfold unO; rw [un_nil h]; simp
theorem unO_none {b r : List UInt8} (h : unS r = none) : unO b r = none := by unfold unO; rw [h]; rfl
theorem unF_len : ∀ (f : Nat) (r t : List UInt8), unF f r = some t → t.length ≤ r.length ∧ (¬ r.length = 0 → 1 ≤ t.length)
  | 0, _, _, h => by cases h
  | f + 1, r, t, h => by
    unfold unF at h
    split at h
    · injection h with h; subst h; exact ⟨by simp, fun h => absurd (by assumption) h⟩
    · split at h
      · cases hu : unF f (r.drop 1) with
        | none => rw [hu] at h; cases h
        | some v =>
          rw [hu] at h; injection h with h; subst h
          have := (unF_len f _ _ hu).1
          rw [List.length_drop] at this
          exact ⟨by simp only [List.length_cons]; omega, fun _ => by simp⟩
      · split at h
        · cases h
        · split at h
          · cases hu : unF f (r.drop 3) with
            | none => rw [hu] at h; cases h
            | some v =>
              rw [hu] at h; injection h with h; subst h
              have := (unF_len f _ _ hu).1
              rw [List.length_drop] at this
              exact ⟨by simp only [List.length_cons]; omega, fun _ => by simp⟩
          · cases h
theorem unS_len {r t : List UInt8} (h : unS r = some t) : t.length ≤ r.length ∧ (¬ r.length = 0 → 1 ≤ t.length) := unF_len _ _ _ h
noncomputable def bodyUn : Code := loopNo (Tryd.f18.body.getD .skip) 0
theorem keyUn : oneKey (loopsOf (Tryd.f18.body.getD .skip)) 2 0 0 = true := by kernel_rfl
def keepUn : List Nat := []
def epUn_0 : List (Nat × AV) := [(0, .x 0), (2, .s 0 0), (3, .ni), (4, .p 7 0)]
def hpUn_0 : List (Nat × Ent) := [(7, .b ⟨92, .l [.nilp, .nils], 0, 0, 0, false, false⟩)]
def nuUn_0 (s : List UInt8) (T : List UInt8) (q : List UInt8) (b : List UInt8) : List Value := [St' q, St' ([] : List UInt8), St' ([] : List UInt8), .int .u8 (bt q 0), St' ([u8 (bt q 0)]), .int .u8 (bt q 0), St' (List.drop (Int.toNat (1)) q), St' ([] : List UInt8), .int .u8 (bt q 0), .int .i64 ((q.length : Int)), St' ([] : List UInt8), .int .u8 (bt q 0), .int .i64 ((q.length : Int)), St' ([u8 (bt q 1), u8 (bt q 2)]), .int .u8 (bt q 1), .int .i64 (vDgt (bt q 1)), St' ([] : List UInt8), .int .u8 (bt q 0), .int .i64 ((q.length : Int)), St' ([u8 (bt q 1), u8 (bt q 2)]), .int .u8 (bt q 1), .int .i64 (vDgt (bt q 1)), .int .i64 ((vDgt (bt q 1))), .int .u8 (bt q 2), .int .i64 (vDgt (bt q 2)), St' ([] : List UInt8), .int .u8 (bt q 0), .int .i64 ((q.length : Int)), St' ([u8 (bt q 1), u8 (bt q 2)]), .int .u8 (bt q 1), .int .i64 (vDgt (bt q 1)), .int .i64 ((vDgt (bt q 1))), .int .u8 (bt q 2), .int .i64 (vDgt (bt q 2)), .int .i64 ((vDgt (bt q 1)) * 16), .int .i64 ((vDgt (bt q 1)) * 16 + (vDgt (bt q 2))), St' ([] : List UInt8), .int .u8 (bt q 0), .int .i64 ((q.length : Int)), St' ([u8 (bt q 1), u8 (bt q 2)]), .int .u8 (bt q 1), .int .i64 (vDgt (bt q 1)), .int .i64 ((vDgt (bt q 1))), .int .u8 (bt q 2), .int .i64 (vDgt (bt q 2)), .int .i64 ((vDgt (bt q 1)) * 16), .int .i64 ((vDgt (bt q 1)) * 16 + (vDgt (bt q 2))), .int .u8 (((vDgt (bt q 1)) * 16 + (vDgt (bt q 2))) % 256), St' ([u8 (((vDgt (bt q 1)) * 16 + (vDgt (bt q 2))) % 256)]), .int .u8 (((vDgt (bt q 1)) * 16 + (vDgt (bt q 2))) % 256), St' (List.drop (Int.toNat (3)) q)]
theorem onUn_0 (s : List UInt8) (T : List UInt8) (q : List UInt8) (b : List UInt8) : ∀ j, (nuL (nuUn_0 s T q b) j).oneCell' = true := nuL_one (l := nuUn_0 s T q b) rfl
def epUn_1 : List (Nat × AV) := [(0, .x 0), (2, .s 0 0), (3, .ni), (4, .p 7 0)]
def hpUn_1 : List (Nat × Ent) := [(7, .b ⟨92, .l [.p 7 0, .sy 8], 0, 0, 0, false, false⟩), (8, .t 1 5)]
def nuUn_1 (s : List UInt8) (T : List UInt8) (q : List UInt8) (b : List UInt8) : List Value := [St' q, St' b, St' ([] : List UInt8), St' ([] : List UInt8), .int .u8 (bt q 0), St' (b ++ [u8 (bt q 0)]), St' (List.drop (Int.toNat (1)) q), St' ([] : List UInt8), .int .u8 (bt q 0), .int .i64 ((q.length : Int)), St' ([] : List UInt8), .int .u8 (bt q 0), .int .i64 ((q.length : Int)), St' ([u8 (bt q 1), u8 (bt q 2)]), .int .u8 (bt q 1), .int .i64 (vDgt (bt q 1)), St' ([] : List UInt8), .int .u8 (bt q 0), .int .i64 ((q.length : Int)), St' ([u8 (bt q 1), u8 (bt q 2)]), .int .u8 (bt q 1), .int .i64 (vDgt (bt q 1)), .int .i64 ((vDgt (bt q 1))), .int .u8 (bt q 2), .int .i64 (vDgt (bt q 2)), St' ([] : List UInt8), .int .u8 (bt q 0), .int .i64 ((q.length : Int)), St' ([u8 (bt q 1), u8 (bt q 2)]), .int .u8 (bt q 1), .int .i64 (vDgt (bt q 1)), .int .i64 ((vDgt (bt q 1))), .int .u8 (bt q 2), .int .i64 (vDgt (bt q 2)), .int .i64 ((vDgt (bt q 1)) * 16), .int .i64 ((vDgt (bt q 1)) * 16 + (vDgt (bt q 2))), St' ([] : List UInt8), .int .u8 (bt q 0), .int .i64 ((q.length : Int)), St' ([u8 (bt q 1), u8 (bt q 2)]), .int .u8 (bt q 1), .int .i64 (vDgt (bt q 1)), .int .i64 ((vDgt (bt q 1))), .int .u8 (bt q 2), .int .i64 (vDgt (bt q 2)), .int .i64 ((vDgt (bt q 1)) * 16), .int .i64 ((vDgt (bt q 1)) * 16 + (vDgt (bt q 2))), .int .u8 (((vDgt (bt q 1)) * 16 + (vDgt (bt q 2))) % 256), St' (b ++ [u8 (((vDgt (bt q 1)) * 16 + (vDgt (bt q 2))) % 256)]), St' (List.drop (Int.toNat (3)) q)]
theorem onUn_1 (s : List UInt8) (T : List UInt8) (q : List UInt8) (b : List UInt8) : ∀ j, (nuL (nuUn_1 s T q b) j).oneCell' = true := nuL_one (l := nuUn_1 s T q b) rfl
def epUn (st : Nat × List UInt8 × List UInt8) : List (Nat × AV) := if st.1 = 0 then epUn_0 else epUn_1
def hpUn (st : Nat × List UInt8 × List UInt8) : List (Nat × Ent) := if st.1 = 0 then hpUn_0 else hpUn_1
def nuUn (s : List UInt8) (T : List UInt8) (st : Nat × List UInt8 × List UInt8) : List Value := if st.1 = 0 then nuUn_0 s T (st.2.1) (st.2.2) else nuUn_1 s T (st.2.1) (st.2.2)
theorem onUn (s : List UInt8) (T : List UInt8) (st : Nat × List UInt8 × List UInt8) : ∀ j, (nuL (nuUn s T st) j).oneCell' = true := by
  intro j
  unfold nuUn
  split
  · exact onUn_0  s T (st.2.1) (st.2.2) j
  exact onUn_1  s T (st.2.1) (st.2.2) j
theorem ebUn (st : Nat × List UInt8 × List UInt8) : (lfB (epUn st) && lfC keepUn) = true := by
  unfold epUn
  split
  · rfl
  rfl
noncomputable def DUn (s : List UInt8) (T : List UInt8) (st : Nat × List UInt8 × List UInt8) (X : Nat → Value) : Cx := cx (nuX (nuUn s T st) X) (nuX_one (onUn s T st)) 0 laidE laidE_stab
def InvUn (s : List UInt8) (T : List UInt8) (st : Nat × List UInt8 × List UInt8) : Prop := (unO (st.2.2) (st.2.1) = unS s) ∧ (unM (st.2.1) = unM s) ∧ ((st.1) = 0 → (st.2.1) = s ∧ (st.2.2) = []) ∧ ((st.1) = 1 → ¬ s.length = 0) ∧ (((st.2.2).length : Int) + ((st.2.1).length : Int) ≤ 140737488355328) ∧ ((st.1) < 2)
def hyUn_p0 : List (HK × AV) := [(.bytes [], .x 1), (.bin .neq (.x 0) (.s 0 0), .b false)]
noncomputable def tabUn_p0 : Tab := { tabk with hyp := hyUn_p0 }
theorem runUn_p0 : okRdH (code tabUn_p0 2000 [] bodyUn (envOf (headOf epUn_0 keepUn) 26) ⟨lhSet hpUn_0 .leaf, 9, 0, 0⟩) (.exit 0) keepUn 26 38 [] [] 8 38 [(2, .s 0 0), (3, .ni), (4, .p 7 0)] [(7, .b ⟨92, .l [.nilp, .nils], 0, 0, 0, false, false⟩)] = true := by kernel_rfl
set_option maxHeartbeats 2000000 in
theorem hyOkUn_p0 (s : List UInt8) (T : List UInt8) (q : List UInt8) (b : List UInt8) (X : Nat → Value) (i0 : unO b q = unS s) (i1 : unM q = unM s) (i2 : 0 = 0 → q = s ∧ b = []) (i3 : 0 = 1 → ¬ s.length = 0) (i4 : (b.length : Int) + (q.length : Int) ≤ 140737488355328) (h0 : (q.length : Int) = 0) : ∀ k r, (k, r) ∈ hyUn_p0 → HOk (cx (nuX (nuUn_0 s T q b) X) (nuX_one (onUn_0 s T q b)) 0 laidE laidE_stab) k r := by
  unfold hyUn_p0
  refine hcons (kBytesB (bs := ([] : List UInt8)) .nil (denX rfl)) ?_
  refine hcons (kNeS (isX rfl) (isSx (l := ([] : List UInt8)) 0 0 rfl) (bnF (by first | exact nilT (by first | omega | (simp <;> omega)) | exact nilF (by first | omega | (simp <;> omega)) | exact nilT' (by first | omega | (simp <;> omega)) | exact nilF' (by first | omega | (simp <;> omega))))) ?_
  exact hnil
def hyUn_p1 : List (HK × AV) := [(.bytes [], .x 2), (.bin .neq (.x 0) (.s 0 0), .b true), (.idx (.x 0) (.i .i64 (.ofNat 0)), .x 3), (.bin .neq (.x 3) (.i .u8 (.ofNat 37)), .b true), (.app (.x 2) [.x 3], .x 4), (.byt (.x 4) (.i .i64 (.ofNat 0)), .x 5), (.fit (.x 4), .b true), (.sub (.x 0) (some (.i .i64 (.ofNat 1))) none, .x 6)]
noncomputable def tabUn_p1 : Tab := { tabk with hyp := hyUn_p1 }
theorem runUn_p1 : okRdH (code tabUn_p1 2000 [] bodyUn (envOf (headOf epUn_0 keepUn) 26) ⟨lhSet hpUn_0 .leaf, 9, 0, 0⟩) .normal keepUn 26 38 [(0, .x 6), (1, .x 4)] [(8, 10)] 8 9 epUn_1 hpUn_1 = true := by kernel_rfl
set_option maxHeartbeats 2000000 in
theorem hyOkUn_p1 (s : List UInt8) (T : List UInt8) (q : List UInt8) (b : List UInt8) (X : Nat → Value) (i0 : unO b q = unS s) (i1 : unM q = unM s) (i2 : 0 = 0 → q = s ∧ b = []) (i3 : 0 = 1 → ¬ s.length = 0) (i4 : (b.length : Int) + (q.length : Int) ≤ 140737488355328) (h0 : ¬ ((q.length : Int) = 0)) (h1 : ¬ (bt q 0 = 37)) : ∀ k r, (k, r) ∈ hyUn_p1 → HOk (cx (nuX (nuUn_0 s T q b) X) (nuX_one (onUn_0 s T q b)) 0 laidE laidE_stab) k r := by
  have := bt_lo q 0; have := bt_hi q 0
  have := lenDrop (l := q) (P := 1) (by first | omega | (simp <;> omega)) (by first | omega | (simp <;> omega))
  unfold hyUn_p1
  refine hcons (kBytesB (bs := ([] : List UInt8)) .nil (denX rfl)) ?_
  refine hcons (kNeS (isX rfl) (isSx (l := ([] : List UInt8)) 0 0 rfl) (bnT (by first | exact nilT (by first | omega | (simp <;> omega)) | exact nilF (by first | omega | (simp <;> omega)) | exact nilT' (by first | omega | (simp <;> omega)) | exact nilF' (by first | omega | (simp <;> omega))))) ?_
  refine hcons (kIdxE (i := 0) (isX rfl) (isZ (m := 0) rfl) (denX rfl) rfl (by first | omega | (simp <;> omega)) rfl) ?_
  refine hcons (kNeI (isX rfl) (isZ (m := 37) rfl) (neT (by omega))) ?_
  refine hcons (kApp (bs := [u8 (bt q 0)]) (isX rfl) (.cons (isB8 (isX rfl) (by omega) (by omega)) .nil) (denX rfl) (by first | rfl | (simp; done))) ?_
  refine hcons (kByt (i := 0) (isX rfl) (isZ (m := 0) rfl) (denX rfl) rfl (by simp) (bt_at rfl (by omega) (by omega))) ?_
  refine hcons (kFit (isX rfl) (by first | omega | (simp <;> omega))) ?_
  refine hcons (kMid (P := 1) (Q := (q.length : Int)) (isX rfl) (.inr ⟨_, _, rfl, (isZ (m := 1) rfl)⟩) (.inl ⟨rfl, rfl⟩) (by first | omega | (simp <;> omega)) (by first | omega | (simp <;> omega)) (by first | omega | (simp <;> omega)) (denX (congrArg (fun l => St' l) dropE))) ?_
  exact hnil
def hyUn_p2 : List (HK × AV) := [(.bytes [], .x 7), (.bin .neq (.x 0) (.s 0 0), .b true), (.idx (.x 0) (.i .i64 (.ofNat 0)), .x 8), (.bin .neq (.x 8) (.i .u8 (.ofNat 37)), .b false), (.len (.x 0), .x 9), (.bin .lss (.x 9) (.i .i64 (.ofNat 3)), .b true)]
noncomputable def tabUn_p2 : Tab := { tabk with hyp := hyUn_p2 }
theorem runUn_p2 : okRdH (code tabUn_p2 2000 [] bodyUn (envOf (headOf epUn_0 keepUn) 26) ⟨lhSet hpUn_0 .leaf, 9, 0, 0⟩) .ret keepUn 26 38 [(0, .s 33 13368744785390035796918722136903017317701998366312311048873520557726775689355361)] [] 8 38 [(2, .s 0 0), (3, .ifc 163 (.ag [.i .i64 (.ofNat 10), .x 0]))] [] = true := by kernel_rfl
set_option maxHeartbeats 2000000 in
theorem hyOkUn_p2 (s : List UInt8) (T : List UInt8) (q : List UInt8) (b : List UInt8) (X : Nat → Value) (i0 : unO b q = unS s) (i1 : unM q = unM s) (i2 : 0 = 0 → q = s ∧ b = []) (i3 : 0 = 1 → ¬ s.length = 0) (i4 : (b.length : Int) + (q.length : Int) ≤ 140737488355328) (h0 : ¬ ((q.length : Int) = 0)) (h1 : bt q 0 = 37) (h2 : (q.length : Int) < 3) : ∀ k r, (k, r) ∈ hyUn_p2 → HOk (cx (nuX (nuUn_0 s T q b) X) (nuX_one (onUn_0 s T q b)) 0 laidE laidE_stab) k r := by
  have := bt_lo q 0; have := bt_hi q 0
  unfold hyUn_p2
  refine hcons (kBytesB (bs := ([] : List UInt8)) .nil (denX rfl)) ?_
  refine hcons (kNeS (isX rfl) (isSx (l := ([] : List UInt8)) 0 0 rfl) (bnT (by first | exact nilT (by first | omega | (simp <;> omega)) | exact nilF (by first | omega | (simp <;> omega)) | exact nilT' (by first | omega | (simp <;> omega)) | exact nilF' (by first | omega | (simp <;> omega))))) ?_
  refine hcons (kIdxE (i := 0) (isX rfl) (isZ (m := 0) rfl) (denX rfl) rfl (by first | omega | (simp <;> omega)) rfl) ?_
  refine hcons (kNeI (isX rfl) (isZ (m := 37) rfl) (neF (by omega))) ?_
  refine hcons (kLenE (isX rfl) (denX rfl) (by first | omega | (simp <;> omega))) ?_
  refine hcons (kLt (isX rfl) (isZ (m := 3) rfl) (decide_eq_true (by omega))) ?_
  exact hnil
def hyUn_p3 : List (HK × AV) := [(.bytes [], .x 10), (.bin .neq (.x 0) (.s 0 0), .b true), (.idx (.x 0) (.i .i64 (.ofNat 0)), .x 11), (.bin .neq (.x 11) (.i .u8 (.ofNat 37)), .b false), (.len (.x 0), .x 12), (.bin .lss (.x 12) (.i .i64 (.ofNat 3)), .b false), (.sub (.x 0) (some (.i .i64 (.ofNat 1))) (some (.i .i64 (.ofNat 3))), .x 13), (.bin .eql (.x 13) (.s 0 0), .b false), (.len (.x 13), .i .i64 (.ofNat 2)), (.idx (.x 13) (.i .i64 (.ofNat 0)), .x 14), (.call 90 [.x 14], .x 15), (.bin .geq (.x 15) (.i .i64 (.ofNat 16)), .b true)]
noncomputable def tabUn_p3 : Tab := { tabk with hyp := hyUn_p3 }
theorem runUn_p3 : okRdH (code tabUn_p3 2000 [] bodyUn (envOf (headOf epUn_0 keepUn) 26) ⟨lhSet hpUn_0 .leaf, 9, 0, 0⟩) .ret keepUn 26 38 [(0, .s 33 13368744785390035796918722136903017317701998366312311048873520557726775689355361)] [] 8 38 [(2, .s 0 0), (3, .ifc 163 (.ag [.i .i64 (.ofNat 10), .x 0]))] [] = true := by kernel_rfl
set_option maxHeartbeats 2000000 in
theorem hyOkUn_p3 (s : List UInt8) (T : List UInt8) (q : List UInt8) (b : List UInt8) (X : Nat → Value) (i0 : unO b q = unS s) (i1 : unM q = unM s) (i2 : 0 = 0 → q = s ∧ b = []) (i3 : 0 = 1 → ¬ s.length = 0) (i4 : (b.length : Int) + (q.length : Int) ≤ 140737488355328) (h0 : ¬ ((q.length : Int) = 0)) (h1 : bt q 0 = 37) (h2 : ¬ ((q.length : Int) < 3)) (h4 : 16 ≤ vDgt (bt q 1)) : ∀ k r, (k, r) ∈ hyUn_p3 → HOk (cx (nuX (nuUn_0 s T q b) X) (nuX_one (onUn_0 s T q b)) 0 laidE laidE_stab) k r := by
  have := bt_lo q 0; have := bt_hi q 0
  have := bt_lo q 1; have := bt_hi q 1
  have := bt_lo q 2; have := bt_hi q 2
  have := rDgt (c := bt q 1) (by omega) (by omega)
  unfold hyUn_p3
  refine hcons (kBytesB (bs := ([] : List UInt8)) .nil (denX rfl)) ?_
  refine hcons (kNeS (isX rfl) (isSx (l := ([] : List UInt8)) 0 0 rfl) (bnT (by first | exact nilT (by first | omega | (simp <;> omega)) | exact nilF (by first | omega | (simp <;> omega)) | exact nilT' (by first | omega | (simp <;> omega)) | exact nilF' (by first | omega | (simp <;> omega))))) ?_
  refine hcons (kIdxE (i := 0) (isX rfl) (isZ (m := 0) rfl) (denX rfl) rfl (by first | omega | (simp <;> omega)) rfl) ?_
  refine hcons (kNeI (isX rfl) (isZ (m := 37) rfl) (neF (by omega))) ?_
  refine hcons (kLenE (isX rfl) (denX rfl) (by first | omega | (simp <;> omega))) ?_
  refine hcons (kLt (isX rfl) (isZ (m := 3) rfl) (decide_eq_false (by omega))) ?_
  refine hcons (kMid (P := 1) (Q := 3) (isX rfl) (.inr ⟨_, _, rfl, (isZ (m := 1) rfl)⟩) (.inr ⟨_, _, rfl, (isZ (m := 3) rfl)⟩) (by omega) (by omega) (by first | omega | (simp <;> omega)) (denX (congrArg (fun l => St' l) (mid2 (i := 1) (by omega) (by omega) (by omega))))) ?_
  refine hcons (kEqS (isX rfl) (isSx (l := ([] : List UInt8)) 0 0 rfl) (by first | exact nilT (by first | omega | (simp <;> omega)) | exact nilF (by first | omega | (simp <;> omega)) | exact nilT' (by first | omega | (simp <;> omega)) | exact nilF' (by first | omega | (simp <;> omega)))) ?_
  refine hcons (kLenE (isX rfl) (denZ (m := 2) rfl) rfl) ?_
  refine hcons (kIdxE (i := 0) (isX rfl) (isZ (m := 0) rfl) (denX rfl) rfl (by simp) (bt_at rfl (by omega) (by omega))) ?_
  refine hcons (hokDgt (isX rfl) (by omega) (by omega) (denX rfl)) ?_
  refine hcons (kGe (isX rfl) (isZ (m := 16) rfl) (decide_eq_true (by omega))) ?_
  exact hnil
def hyUn_p4 : List (HK × AV) := [(.bytes [], .x 16), (.bin .neq (.x 0) (.s 0 0), .b true), (.idx (.x 0) (.i .i64 (.ofNat 0)), .x 17), (.bin .neq (.x 17) (.i .u8 (.ofNat 37)), .b false), (.len (.x 0), .x 18), (.bin .lss (.x 18) (.i .i64 (.ofNat 3)), .b false), (.sub (.x 0) (some (.i .i64 (.ofNat 1))) (some (.i .i64 (.ofNat 3))), .x 19), (.bin .eql (.x 19) (.s 0 0), .b false), (.len (.x 19), .i .i64 (.ofNat 2)), (.idx (.x 19) (.i .i64 (.ofNat 0)), .x 20), (.call 90 [.x 20], .x 21), (.bin .geq (.x 21) (.i .i64 (.ofNat 16)), .b false), (.bin .add (.i .i64 (.ofNat 0)) (.x 21), .x 22), (.idx (.x 19) (.i .i64 (.ofNat 1)), .x 23), (.call 90 [.x 23], .x 24), (.bin .geq (.x 24) (.i .i64 (.ofNat 16)), .b true)]
noncomputable def tabUn_p4 : Tab := { tabk with hyp := hyUn_p4 }
theorem runUn_p4 : okRdH (code tabUn_p4 2000 [] bodyUn (envOf (headOf epUn_0 keepUn) 26) ⟨lhSet hpUn_0 .leaf, 9, 0, 0⟩) .ret keepUn 26 38 [(0, .s 33 13368744785390035796918722136903017317701998366312311048873520557726775689355361)] [] 8 38 [(2, .s 0 0), (3, .ifc 163 (.ag [.i .i64 (.ofNat 10), .x 0]))] [] = true := by kernel_rfl
set_option maxHeartbeats 2000000 in
theorem hyOkUn_p4 (s : List UInt8) (T : List UInt8) (q : List UInt8) (b : List UInt8) (X : Nat → Value) (i0 : unO b q = unS s) (i1 : unM q = unM s) (i2 : 0 = 0 → q = s ∧ b = []) (i3 : 0 = 1 → ¬ s.length = 0) (i4 : (b.length : Int) + (q.length : Int) ≤ 140737488355328) (h0 : ¬ ((q.length : Int) = 0)) (h1 : bt q 0 = 37) (h2 : ¬ ((q.length : Int) < 3)) (h4 : ¬ (16 ≤ vDgt (bt q 1))) (h5 : 16 ≤ vDgt (bt q 2)) : ∀ k r, (k, r) ∈ hyUn_p4 → HOk (cx (nuX (nuUn_0 s T q b) X) (nuX_one (onUn_0 s T q b)) 0 laidE laidE_stab) k r := by
  have := bt_lo q 0; have := bt_hi q 0
  have := bt_lo q 1; have := bt_hi q 1
  have := bt_lo q 2; have := bt_hi q 2
  have := rDgt (c := bt q 1) (by omega) (by omega)
  have := rDgt (c := bt q 2) (by omega) (by omega)
  unfold hyUn_p4
  refine hcons (kBytesB (bs := ([] : List UInt8)) .nil (denX rfl)) ?_
  refine hcons (kNeS (isX rfl) (isSx (l := ([] : List UInt8)) 0 0 rfl) (bnT (by first | exact nilT (by first | omega | (simp <;> omega)) | exact nilF (by first | omega | (simp <;> omega)) | exact nilT' (by first | omega | (simp <;> omega)) | exact nilF' (by first | omega | (simp <;> omega))))) ?_
  refine hcons (kIdxE (i := 0) (isX rfl) (isZ (m := 0) rfl) (denX rfl) rfl (by first | omega | (simp <;> omega)) rfl) ?_
  refine hcons (kNeI (isX rfl) (isZ (m := 37) rfl) (neF (by omega))) ?_
  refine hcons (kLenE (isX rfl) (denX rfl) (by first | omega | (simp <;> omega))) ?_
  refine hcons (kLt (isX rfl) (isZ (m := 3) rfl) (decide_eq_false (by omega))) ?_
  refine hcons (kMid (P := 1) (Q := 3) (isX rfl) (.inr ⟨_, _, rfl, (isZ (m := 1) rfl)⟩) (.inr ⟨_, _, rfl, (isZ (m := 3) rfl)⟩) (by omega) (by omega) (by first | omega | (simp <;> omega)) (denX (congrArg (fun l => St' l) (mid2 (i := 1) (by omega) (by omega) (by omega))))) ?_
  refine hcons (kEqS (isX rfl) (isSx (l := ([] : List UInt8)) 0 0 rfl) (by first | exact nilT (by first | omega | (simp <;> omega)) | exact nilF (by first | omega | (simp <;> omega)) | exact nilT' (by first | omega | (simp <;> omega)) | exact nilF' (by first | omega | (simp <;> omega)))) ?_
  refine hcons (kLenE (isX rfl) (denZ (m := 2) rfl) rfl) ?_
  refine hcons (kIdxE (i := 0) (isX rfl) (isZ (m := 0) rfl) (denX rfl) rfl (by simp) (bt_at rfl (by omega) (by omega))) ?_
  refine hcons (hokDgt (isX rfl) (by omega) (by omega) (denX rfl)) ?_
  refine hcons (kGe (isX rfl) (isZ (m := 16) rfl) (decide_eq_false (by omega))) ?_
  refine hcons (kAdd (isZ (m := 0) rfl) (isX rfl) (denX rfl) (by omega) (fI64 (by omega) (by omega))) ?_
  refine hcons (kIdxE (i := 1) (isX rfl) (isZ (m := 1) rfl) (denX rfl) rfl (by simp) (bt_at rfl (by omega) (by omega))) ?_
  refine hcons (hokDgt (isX rfl) (by omega) (by omega) (denX rfl)) ?_
  refine hcons (kGe (isX rfl) (isZ (m := 16) rfl) (decide_eq_true (by omega))) ?_
  exact hnil
def hyUn_p5 : List (HK × AV) := [(.bytes [], .x 25), (.bin .neq (.x 0) (.s 0 0), .b true), (.idx (.x 0) (.i .i64 (.ofNat 0)), .x 26), (.bin .neq (.x 26) (.i .u8 (.ofNat 37)), .b false), (.len (.x 0), .x 27), (.bin .lss (.x 27) (.i .i64 (.ofNat 3)), .b false), (.sub (.x 0) (some (.i .i64 (.ofNat 1))) (some (.i .i64 (.ofNat 3))), .x 28), (.bin .eql (.x 28) (.s 0 0), .b false), (.len (.x 28), .i .i64 (.ofNat 2)), (.idx (.x 28) (.i .i64 (.ofNat 0)), .x 29), (.call 90 [.x 29], .x 30), (.bin .geq (.x 30) (.i .i64 (.ofNat 16)), .b false), (.bin .add (.i .i64 (.ofNat 0)) (.x 30), .x 31), (.idx (.x 28) (.i .i64 (.ofNat 1)), .x 32), (.call 90 [.x 32], .x 33), (.bin .geq (.x 33) (.i .i64 (.ofNat 16)), .b false), (.bin .mul (.x 31) (.i .i64 (.ofNat 16)), .x 34), (.bin .add (.x 34) (.x 33), .x 35), (.bin .eql (.x 35) (.i .i64 (.ofNat 0)), .b true)]
noncomputable def tabUn_p5 : Tab := { tabk with hyp := hyUn_p5 }
theorem runUn_p5 : okRdH (code tabUn_p5 2000 [] bodyUn (envOf (headOf epUn_0 keepUn) 26) ⟨lhSet hpUn_0 .leaf, 9, 0, 0⟩) .ret keepUn 26 38 [(0, .s 32 21768256054587688476975411894329487999234560186767463358109307209918322843745)] [] 8 38 [(2, .s 0 0), (3, .ifc 163 (.ag [.i .i64 (.ofNat 10), .x 0]))] [] = true := by kernel_rfl
set_option maxHeartbeats 2000000 in
theorem hyOkUn_p5 (s : List UInt8) (T : List UInt8) (q : List UInt8) (b : List UInt8) (X : Nat → Value) (i0 : unO b q = unS s) (i1 : unM q = unM s) (i2 : 0 = 0 → q = s ∧ b = []) (i3 : 0 = 1 → ¬ s.length = 0) (i4 : (b.length : Int) + (q.length : Int) ≤ 140737488355328) (h0 : ¬ ((q.length : Int) = 0)) (h1 : bt q 0 = 37) (h2 : ¬ ((q.length : Int) < 3)) (h4 : ¬ (16 ≤ vDgt (bt q 1))) (h5 : ¬ (16 ≤ vDgt (bt q 2))) (h6 : (vDgt (bt q 1)) * 16 + (vDgt (bt q 2)) = 0) : ∀ k r, (k, r) ∈ hyUn_p5 → HOk (cx (nuX (nuUn_0 s T q b) X) (nuX_one (onUn_0 s T q b)) 0 laidE laidE_stab) k r := by
  have := bt_lo q 0; have := bt_hi q 0
  have := bt_lo q 1; have := bt_hi q 1
  have := bt_lo q 2; have := bt_hi q 2
  have := rDgt (c := bt q 1) (by omega) (by omega)
  have := rDgt (c := bt q 2) (by omega) (by omega)
  unfold hyUn_p5
  refine hcons (kBytesB (bs := ([] : List UInt8)) .nil (denX rfl)) ?_
  refine hcons (kNeS (isX rfl) (isSx (l := ([] : List UInt8)) 0 0 rfl) (bnT (by first | exact nilT (by first | omega | (simp <;> omega)) | exact nilF (by first | omega | (simp <;> omega)) | exact nilT' (by first | omega | (simp <;> omega)) | exact nilF' (by first | omega | (simp <;> omega))))) ?_
  refine hcons (kIdxE (i := 0) (isX rfl) (isZ (m := 0) rfl) (denX rfl) rfl (by first | omega | (simp <;> omega)) rfl) ?_
  refine hcons (kNeI (isX rfl) (isZ (m := 37) rfl) (neF (by omega))) ?_
  refine hcons (kLenE (isX rfl) (denX rfl) (by first | omega | (simp <;> omega))) ?_
  refine hcons (kLt (isX rfl) (isZ (m := 3) rfl) (decide_eq_false (by omega))) ?_
  refine hcons (kMid (P := 1) (Q := 3) (isX rfl) (.inr ⟨_, _, rfl, (isZ (m := 1) rfl)⟩) (.inr ⟨_, _, rfl, (isZ (m := 3) rfl)⟩) (by omega) (by omega) (by first | omega | (simp <;> omega)) (denX (congrArg (fun l => St' l) (mid2 (i := 1) (by omega) (by omega) (by omega))))) ?_
  refine hcons (kEqS (isX rfl) (isSx (l := ([] : List UInt8)) 0 0 rfl) (by first | exact nilT (by first | omega | (simp <;> omega)) | exact nilF (by first | omega | (simp <;> omega)) | exact nilT' (by first | omega | (simp <;> omega)) | exact nilF' (by first | omega | (simp <;> omega)))) ?_
  refine hcons (kLenE (isX rfl) (denZ (m := 2) rfl) rfl) ?_
  refine hcons (kIdxE (i := 0) (isX rfl) (isZ (m := 0) rfl) (denX rfl) rfl (by simp) (bt_at rfl (by omega) (by omega))) ?_
  refine hcons (hokDgt (isX rfl) (by omega) (by omega) (denX rfl)) ?_
  refine hcons (kGe (isX rfl) (isZ (m := 16) rfl) (decide_eq_false (by omega))) ?_
  refine hcons (kAdd (isZ (m := 0) rfl) (isX rfl) (denX rfl) (by omega) (fI64 (by omega) (by omega))) ?_
  refine hcons (kIdxE (i := 1) (isX rfl) (isZ (m := 1) rfl) (denX rfl) rfl (by simp) (bt_at rfl (by omega) (by omega))) ?_
  refine hcons (hokDgt (isX rfl) (by omega) (by omega) (denX rfl)) ?_
  refine hcons (kGe (isX rfl) (isZ (m := 16) rfl) (decide_eq_false (by omega))) ?_
  refine hcons (kMul (isX rfl) (isZ (m := 16) rfl) (denX rfl) (by omega) (fI64 (by omega) (by omega))) ?_
  refine hcons (kAdd (isX rfl) (isX rfl) (denX rfl) (by omega) (fI64 (by omega) (by omega))) ?_
  refine hcons (kEqI (isX rfl) (isZ (m := 0) rfl) (decide_eq_true (by omega))) ?_
  exact hnil
def hyUn_p6 : List (HK × AV) := [(.bytes [], .x 36), (.bin .neq (.x 0) (.s 0 0), .b true), (.idx (.x 0) (.i .i64 (.ofNat 0)), .x 37), (.bin .neq (.x 37) (.i .u8 (.ofNat 37)), .b false), (.len (.x 0), .x 38), (.bin .lss (.x 38) (.i .i64 (.ofNat 3)), .b false), (.sub (.x 0) (some (.i .i64 (.ofNat 1))) (some (.i .i64 (.ofNat 3))), .x 39), (.bin .eql (.x 39) (.s 0 0), .b false), (.len (.x 39), .i .i64 (.ofNat 2)), (.idx (.x 39) (.i .i64 (.ofNat 0)), .x 40), (.call 90 [.x 40], .x 41), (.bin .geq (.x 41) (.i .i64 (.ofNat 16)), .b false), (.bin .add (.i .i64 (.ofNat 0)) (.x 41), .x 42), (.idx (.x 39) (.i .i64 (.ofNat 1)), .x 43), (.call 90 [.x 43], .x 44), (.bin .geq (.x 44) (.i .i64 (.ofNat 16)), .b false), (.bin .mul (.x 42) (.i .i64 (.ofNat 16)), .x 45), (.bin .add (.x 45) (.x 44), .x 46), (.bin .eql (.x 46) (.i .i64 (.ofNat 0)), .b false), (.conv 5 (.x 46), .x 47), (.app (.x 36) [.x 47], .x 48), (.byt (.x 48) (.i .i64 (.ofNat 0)), .x 49), (.fit (.x 48), .b true), (.sub (.x 0) (some (.i .i64 (.ofNat 3))) none, .x 50)]
noncomputable def tabUn_p6 : Tab := { tabk with hyp := hyUn_p6 }
theorem runUn_p6 : okRdH (code tabUn_p6 2000 [] bodyUn (envOf (headOf epUn_0 keepUn) 26) ⟨lhSet hpUn_0 .leaf, 9, 0, 0⟩) .normal keepUn 26 38 [(0, .x 50), (1, .x 48)] [(8, 10)] 8 9 epUn_1 hpUn_1 = true := by kernel_rfl
set_option maxHeartbeats 2000000 in
theorem hyOkUn_p6 (s : List UInt8) (T : List UInt8) (q : List UInt8) (b : List UInt8) (X : Nat → Value) (i0 : unO b q = unS s) (i1 : unM q = unM s) (i2 : 0 = 0 → q = s ∧ b = []) (i3 : 0 = 1 → ¬ s.length = 0) (i4 : (b.length : Int) + (q.length : Int) ≤ 140737488355328) (h0 : ¬ ((q.length : Int) = 0)) (h1 : bt q 0 = 37) (h2 : ¬ ((q.length : Int) < 3)) (h4 : ¬ (16 ≤ vDgt (bt q 1))) (h5 : ¬ (16 ≤ vDgt (bt q 2))) (h6 : ¬ ((vDgt (bt q 1)) * 16 + (vDgt (bt q 2)) = 0)) : ∀ k r, (k, r) ∈ hyUn_p6 → HOk (cx (nuX (nuUn_0 s T q b) X) (nuX_one (onUn_0 s T q b)) 0 laidE laidE_stab) k r := by
  have := bt_lo q 0; have := bt_hi q 0
  have := bt_lo q 1; have := bt_hi q 1
  have := bt_lo q 2; have := bt_hi q 2
  have := rDgt (c := bt q 1) (by omega) (by omega)
  have := rDgt (c := bt q 2) (by omega) (by omega)
  have := lenDrop (l := q) (P := 3) (by first | omega | (simp <;> omega)) (by first | omega | (simp <;> omega))
  unfold hyUn_p6
  refine hcons (kBytesB (bs := ([] : List UInt8)) .nil (denX rfl)) ?_
  refine hcons (kNeS (isX rfl) (isSx (l := ([] : List UInt8)) 0 0 rfl) (bnT (by first | exact nilT (by first | omega | (simp <;> omega)) | exact nilF (by first | omega | (simp <;> omega)) | exact nilT' (by first | omega | (simp <;> omega)) | exact nilF' (by first | omega | (simp <;> omega))))) ?_
  refine hcons (kIdxE (i := 0) (isX rfl) (isZ (m := 0) rfl) (denX rfl) rfl (by first | omega | (simp <;> omega)) rfl) ?_
  refine hcons (kNeI (isX rfl) (isZ (m := 37) rfl) (neF (by omega))) ?_
  refine hcons (kLenE (isX rfl) (denX rfl) (by first | omega | (simp <;> omega))) ?_
  refine hcons (kLt (isX rfl) (isZ (m := 3) rfl) (decide_eq_false (by omega))) ?_
  refine hcons (kMid (P := 1) (Q := 3) (isX rfl) (.inr ⟨_, _, rfl, (isZ (m := 1) rfl)⟩) (.inr ⟨_, _, rfl, (isZ (m := 3) rfl)⟩) (by omega) (by omega) (by first | omega | (simp <;> omega)) (denX (congrArg (fun l => St' l) (mid2 (i := 1) (by omega) (by omega) (by omega))))) ?_
  refine hcons (kEqS (isX rfl) (isSx (l := ([] : List UInt8)) 0 0 rfl) (by first | exact nilT (by first | omega | (simp <;> omega)) | exact nilF (by first | omega | (simp <;> omega)) | exact nilT' (by first | omega | (simp <;> omega)) | exact nilF' (by first | omega | (simp <;> omega)))) ?_
  refine hcons (kLenE (isX rfl) (denZ (m := 2) rfl) rfl) ?_
  refine hcons (kIdxE (i := 0) (isX rfl) (isZ (m := 0) rfl) (denX rfl) rfl (by simp) (bt_at rfl (by omega) (by omega))) ?_
  refine hcons (hokDgt (isX rfl) (by omega) (by omega) (denX rfl)) ?_
  refine hcons (kGe (isX rfl) (isZ (m := 16) rfl) (decide_eq_false (by omega))) ?_
  refine hcons (kAdd (isZ (m := 0) rfl) (isX rfl) (denX rfl) (by omega) (fI64 (by omega) (by omega))) ?_
  refine hcons (kIdxE (i := 1) (isX rfl) (isZ (m := 1) rfl) (denX rfl) rfl (by simp) (bt_at rfl (by omega) (by omega))) ?_
  refine hcons (hokDgt (isX rfl) (by omega) (by omega) (denX rfl)) ?_
  refine hcons (kGe (isX rfl) (isZ (m := 16) rfl) (decide_eq_false (by omega))) ?_
  refine hcons (kMul (isX rfl) (isZ (m := 16) rfl) (denX rfl) (by omega) (fI64 (by omega) (by omega))) ?_
  refine hcons (kAdd (isX rfl) (isX rfl) (denX rfl) (by omega) (fI64 (by omega) (by omega))) ?_
  refine hcons (kEqI (isX rfl) (isZ (m := 0) rfl) (decide_eq_false (by omega))) ?_
  refine hcons (kConv8 (isX rfl) tu5 (denX rfl) rfl) ?_
  refine hcons (kApp (bs := [u8 (((vDgt (bt q 1)) * 16 + (vDgt (bt q 2))) % 256)]) (isX rfl) (.cons (isB8 (isX rfl) (by omega) (by omega)) .nil) (denX rfl) (by first | rfl | (simp; done))) ?_
  refine hcons (kByt (i := 0) (isX rfl) (isZ (m := 0) rfl) (denX rfl) rfl (by simp) (bt_at rfl (by omega) (by omega))) ?_
  refine hcons (kFit (isX rfl) (by first | omega | (simp <;> omega))) ?_
  refine hcons (kMid (P := 3) (Q := (q.length : Int)) (isX rfl) (.inr ⟨_, _, rfl, (isZ (m := 3) rfl)⟩) (.inl ⟨rfl, rfl⟩) (by first | omega | (simp <;> omega)) (by first | omega | (simp <;> omega)) (by first | omega | (simp <;> omega)) (denX (congrArg (fun l => St' l) dropE))) ?_
  exact hnil
def hyUn_p7 : List (HK × AV) := [(.bytes [], .x 2), (.bin .neq (.x 0) (.s 0 0), .b false)]
noncomputable def tabUn_p7 : Tab := { tabk with hyp := hyUn_p7 }
theorem runUn_p7 : okRdH (code tabUn_p7 2000 [] bodyUn (envOf (headOf epUn_1 keepUn) 26) ⟨lhSet hpUn_1 .leaf, 9, 0, 0⟩) (.exit 0) keepUn 26 38 [(0, .x 1)] [(8, 8)] 8 38 [(2, .s 0 0), (3, .ni), (4, .p 7 0)] [(7, .b ⟨92, .l [.p 7 0, .sy 8], 0, 0, 0, false, false⟩), (8, .t 0 5)] = true := by kernel_rfl
set_option maxHeartbeats 2000000 in
theorem hyOkUn_p7 (s : List UInt8) (T : List UInt8) (q : List UInt8) (b : List UInt8) (X : Nat → Value) (i0 : unO b q = unS s) (i1 : unM q = unM s) (i2 : 1 = 0 → q = s ∧ b = []) (i3 : 1 = 1 → ¬ s.length = 0) (i4 : (b.length : Int) + (q.length : Int) ≤ 140737488355328) (h0 : (q.length : Int) = 0) : ∀ k r, (k, r) ∈ hyUn_p7 → HOk (cx (nuX (nuUn_1 s T q b) X) (nuX_one (onUn_1 s T q b)) 0 laidE laidE_stab) k r := by
  unfold hyUn_p7
  refine hcons (kBytesB (bs := ([] : List UInt8)) .nil (denX rfl)) ?_
  refine hcons (kNeS (isX rfl) (isSx (l := ([] : List UInt8)) 0 0 rfl) (bnF (by first | exact nilT (by first | omega | (simp <;> omega)) | exact nilF (by first | omega | (simp <;> omega)) | exact nilT' (by first | omega | (simp <;> omega)) | exact nilF' (by first | omega | (simp <;> omega))))) ?_
  exact hnil
def hyUn_p8 : List (HK × AV) := [(.bytes [], .x 3), (.bin .neq (.x 0) (.s 0 0), .b true), (.idx (.x 0) (.i .i64 (.ofNat 0)), .x 4), (.bin .neq (.x 4) (.i .u8 (.ofNat 37)), .b true), (.app (.x 1) [.x 4], .x 5), (.fit (.x 5), .b true), (.sub (.x 0) (some (.i .i64 (.ofNat 1))) none, .x 6)]
noncomputable def tabUn_p8 : Tab := { tabk with hyp := hyUn_p8 }
theorem runUn_p8 : okRdH (code tabUn_p8 2000 [] bodyUn (envOf (headOf epUn_1 keepUn) 26) ⟨lhSet hpUn_1 .leaf, 9, 0, 0⟩) .normal keepUn 26 38 [(0, .x 6), (1, .x 5)] [(8, 10)] 8 9 epUn_1 hpUn_1 = true := by kernel_rfl
set_option maxHeartbeats 2000000 in
theorem hyOkUn_p8 (s : List UInt8) (T : List UInt8) (q : List UInt8) (b : List UInt8) (X : Nat → Value) (i0 : unO b q = unS s) (i1 : unM q = unM s) (i2 : 1 = 0 → q = s ∧ b = []) (i3 : 1 = 1 → ¬ s.length = 0) (i4 : (b.length : Int) + (q.length : Int) ≤ 140737488355328) (h0 : ¬ ((q.length : Int) = 0)) (h1 : ¬ (bt q 0 = 37)) : ∀ k r, (k, r) ∈ hyUn_p8 → HOk (cx (nuX (nuUn_1 s T q b) X) (nuX_one (onUn_1 s T q b)) 0 laidE laidE_stab) k r := by
  have := bt_lo q 0; have := bt_hi q 0
  have := lenDrop (l := q) (P := 1) (by first | omega | (simp <;> omega)) (by first | omega | (simp <;> omega))
  unfold hyUn_p8
  refine hcons (kBytesB (bs := ([] : List UInt8)) .nil (denX rfl)) ?_
  refine hcons (kNeS (isX rfl) (isSx (l := ([] : List UInt8)) 0 0 rfl) (bnT (by first | exact nilT (by first | omega | (simp <;> omega)) | exact nilF (by first | omega | (simp <;> omega)) | exact nilT' (by first | omega | (simp <;> omega)) | exact nilF' (by first | omega | (simp <;> omega))))) ?_
  refine hcons (kIdxE (i := 0) (isX rfl) (isZ (m := 0) rfl) (denX rfl) rfl (by first | omega | (simp <;> omega)) rfl) ?_
  refine hcons (kNeI (isX rfl) (isZ (m := 37) rfl) (neT (by omega))) ?_
  refine hcons (kApp (bs := [u8 (bt q 0)]) (isX rfl) (.cons (isB8 (isX rfl) (by omega) (by omega)) .nil) (denX rfl) (by first | rfl | (simp; done))) ?_
  refine hcons (kFit (isX rfl) (by first | omega | (simp <;> omega))) ?_
  refine hcons (kMid (P := 1) (Q := (q.length : Int)) (isX rfl) (.inr ⟨_, _, rfl, (isZ (m := 1) rfl)⟩) (.inl ⟨rfl, rfl⟩) (by first | omega | (simp <;> omega)) (by first | omega | (simp <;> omega)) (by first | omega | (simp <;> omega)) (denX (congrArg (fun l => St' l) dropE))) ?_
  exact hnil
def hyUn_p9 : List (HK × AV) := [(.bytes [], .x 7), (.bin .neq (.x 0) (.s 0 0), .b true), (.idx (.x 0) (.i .i64 (.ofNat 0)), .x 8), (.bin .neq (.x 8) (.i .u8 (.ofNat 37)), .b false), (.len (.x 0), .x 9), (.bin .lss (.x 9) (.i .i64 (.ofNat 3)), .b true)]
noncomputable def tabUn_p9 : Tab := { tabk with hyp := hyUn_p9 }
theorem runUn_p9 : okRdH (code tabUn_p9 2000 [] bodyUn (envOf (headOf epUn_1 keepUn) 26) ⟨lhSet hpUn_1 .leaf, 9, 0, 0⟩) .ret keepUn 26 38 [(0, .s 33 13368744785390035796918722136903017317701998366312311048873520557726775689355361)] [] 8 38 [(2, .s 0 0), (3, .ifc 163 (.ag [.i .i64 (.ofNat 10), .x 0]))] [] = true := by kernel_rfl
set_option maxHeartbeats 2000000 in
theorem hyOkUn_p9 (s : List UInt8) (T : List UInt8) (q : List UInt8) (b : List UInt8) (X : Nat → Value) (i0 : unO b q = unS s) (i1 : unM q = unM s) (i2 : 1 = 0 → q = s ∧ b = []) (i3 : 1 = 1 → ¬ s.length = 0) (i4 : (b.length : Int) + (q.length : Int) ≤ 140737488355328) (h0 : ¬ ((q.length : Int) = 0)) (h1 : bt q 0 = 37) (h2 : (q.length : Int) < 3) : ∀ k r, (k, r) ∈ hyUn_p9 → HOk (cx (nuX (nuUn_1 s T q b) X) (nuX_one (onUn_1 s T q b)) 0 laidE laidE_stab) k r := by
  have := bt_lo q 0; have := bt_hi q 0
  unfold hyUn_p9
  refine hcons (kBytesB (bs := ([] : List UInt8)) .nil (denX rfl)) ?_
  refine hcons (kNeS (isX rfl) (isSx (l := ([] : List UInt8)) 0 0 rfl) (bnT (by first | exact nilT (by first | omega | (simp <;> omega)) | exact nilF (by first | omega | (simp <;> omega)) | exact nilT' (by first | omega | (simp <;> omega)) | exact nilF' (by first | omega | (simp <;> omega))))) ?_
  refine hcons (kIdxE (i := 0) (isX rfl) (isZ (m := 0) rfl) (denX rfl) rfl (by first | omega | (simp <;> omega)) rfl) ?_
  refine hcons (kNeI (isX rfl) (isZ (m := 37) rfl) (neF (by omega))) ?_
  refine hcons (kLenE (isX rfl) (denX rfl) (by first | omega | (simp <;> omega))) ?_
  refine hcons (kLt (isX rfl) (isZ (m := 3) rfl) (decide_eq_true (by omega))) ?_
  exact hnil
def hyUn_p10 : List (HK × AV) := [(.bytes [], .x 10), (.bin .neq (.x 0) (.s 0 0), .b true), (.idx (.x 0) (.i .i64 (.ofNat 0)), .x 11), (.bin .neq (.x 11) (.i .u8 (.ofNat 37)), .b false), (.len (.x 0), .x 12), (.bin .lss (.x 12) (.i .i64 (.ofNat 3)), .b false), (.sub (.x 0) (some (.i .i64 (.ofNat 1))) (some (.i .i64 (.ofNat 3))), .x 13), (.bin .eql (.x 13) (.s 0 0), .b false), (.len (.x 13), .i .i64 (.ofNat 2)), (.idx (.x 13) (.i .i64 (.ofNat 0)), .x 14), (.call 90 [.x 14], .x 15), (.bin .geq (.x 15) (.i .i64 (.ofNat 16)), .b true)]
noncomputable def tabUn_p10 : Tab := { tabk with hyp := hyUn_p10 }
theorem runUn_p10 : okRdH (code tabUn_p10 2000 [] bodyUn (envOf (headOf epUn_1 keepUn) 26) ⟨lhSet hpUn_1 .leaf, 9, 0, 0⟩) .ret keepUn 26 38 [(0, .s 33 13368744785390035796918722136903017317701998366312311048873520557726775689355361)] [] 8 38 [(2, .s 0 0), (3, .ifc 163 (.ag [.i .i64 (.ofNat 10), .x 0]))] [] = true := by kernel_rfl
set_option maxHeartbeats 2000000 in
theorem hyOkUn_p10 (s : List UInt8) (T : List UInt8) (q : List UInt8) (b : List UInt8) (X : Nat → Value) (i0 : unO b q = unS s) (i1 : unM q = unM s) (i2 : 1 = 0 → q = s ∧ b = []) (i3 : 1 = 1 → ¬ s.length = 0) (i4 : (b.length : Int) + (q.length : Int) ≤ 140737488355328) (h0 : ¬ ((q.length : Int) = 0)) (h1 : bt q 0 = 37) (h2 : ¬ ((q.length : Int) < 3)) (h4 : 16 ≤ vDgt (bt q 1)) : ∀ k r, (k, r) ∈ hyUn_p10 → HOk (cx (nuX (nuUn_1 s T q b) X) (nuX_one (onUn_1 s T q b)) 0 laidE laidE_stab) k r := by
  have := bt_lo q 0; have := bt_hi q 0
  have := bt_lo q 1; have := bt_hi q 1
  have := bt_lo q 2; have := bt_hi q 2
  have := rDgt (c := bt q 1) (by omega) (by omega)
  unfold hyUn_p10
  refine hcons (kBytesB (bs := ([] : List UInt8)) .nil (denX rfl)) ?_
  refine hcons (kNeS (isX rfl) (isSx (l := ([] : List UInt8)) 0 0 rfl) (bnT (by first | exact nilT (by first | omega | (simp <;> omega)) | exact nilF (by first | omega | (simp <;> omega)) | exact nilT' (by first | omega | (simp <;> omega)) | exact nilF' (by first | omega | (simp <;> omega))))) ?_
  refine hcons (kIdxE (i := 0) (isX rfl) (isZ (m := 0) rfl) (denX rfl) rfl (by first | omega | (simp <;> omega)) rfl) ?_
  refine hcons (kNeI (isX rfl) (isZ (m := 37) rfl) (neF (by omega))) ?_
  refine hcons (kLenE (isX rfl) (denX rfl) (by first | omega | (simp <;> omega))) ?_
  refine hcons (kLt (isX rfl) (isZ (m := 3) rfl) (decide_eq_false (by omega))) ?_
  refine hcons (kMid (P := 1) (Q := 3) (isX rfl) (.inr ⟨_, _, rfl, (isZ (m := 1) rfl)⟩) (.inr ⟨_, _, rfl, (isZ (m := 3) rfl)⟩) (by omega) (by omega) (by first | omega | (simp <;> omega)) (denX (congrArg (fun l => St' l) (mid2 (i := 1) (by omega) (by omega) (by omega))))) ?_
  refine hcons (kEqS (isX rfl) (isSx (l := ([] : List UInt8)) 0 0 rfl) (by first | exact nilT (by first | omega | (simp <;> omega)) | exact nilF (by first | omega | (simp <;> omega)) | exact nilT' (by first | omega | (simp <;> omega)) | exact nilF' (by first | omega | (simp <;> omega)))) ?_
  refine hcons (kLenE (isX rfl) (denZ (m := 2) rfl) rfl) ?_
  refine hcons (kIdxE (i := 0) (isX rfl) (isZ (m := 0) rfl) (denX rfl) rfl (by simp) (bt_at rfl (by omega) (by omega))) ?_
  refine hcons (hokDgt (isX rfl) (by omega) (by omega) (denX rfl)) ?_
  refine hcons (kGe (isX rfl) (isZ (m := 16) rfl) (decide_eq_true (by omega))) ?_
  exact hnil
def hyUn_p11 : List (HK × AV) := [(.bytes [], .x 16), (.bin .neq (.x 0) (.s 0 0), .b true), (.idx (.x 0) (.i .i64 (.ofNat 0)), .x 17), (.bin .neq (.x 17) (.i .u8 (.ofNat 37)), .b false), (.len (.x 0), .x 18), (.bin .lss (.x 18) (.i .i64 (.ofNat 3)), .b false), (.sub (.x 0) (some (.i .i64 (.ofNat 1))) (some (.i .i64 (.ofNat 3))), .x 19), (.bin .eql (.x 19) (.s 0 0), .b false), (.len (.x 19), .i .i64 (.ofNat 2)), (.idx (.x 19) (.i .i64 (.ofNat 0)), .x 20), (.call 90 [.x 20], .x 21), (.bin .geq (.x 21) (.i .i64 (.ofNat 16)), .b false), (.bin .add (.i .i64 (.ofNat 0)) (.x 21), .x 22), (.idx (.x 19) (.i .i64 (.ofNat 1)), .x 23), (.call 90 [.x 23], .x 24), (.bin .geq (.x 24) (.i .i64 (.ofNat 16)), .b true)]
noncomputable def tabUn_p11 : Tab := { tabk with hyp := hyUn_p11 }
theorem runUn_p11 : okRdH (code tabUn_p11 2000 [] bodyUn (envOf (headOf epUn_1 keepUn) 26) ⟨lhSet hpUn_1 .leaf, 9, 0, 0⟩) .ret keepUn 26 38 [(0, .s 33 13368744785390035796918722136903017317701998366312311048873520557726775689355361)] [] 8 38 [(2, .s 0 0), (3, .ifc 163 (.ag [.i .i64 (.ofNat 10), .x 0]))] [] = true := by kernel_rfl
set_option maxHeartbeats 2000000 in
theorem hyOkUn_p11 (s : List UInt8) (T : List UInt8) (q : List UInt8) (b : List UInt8) (X : Nat → Value) (i0 : unO b q = unS s) (i1 : unM q = unM s) (i2 : 1 = 0 → q = s ∧ b = []) (i3 : 1 = 1 → ¬ s.length = 0) (i4 : (b.length : Int) + (q.length : Int) ≤ 140737488355328) (h0 : ¬ ((q.length : Int) = 0)) (h1 : bt q 0 = 37) (h2 : ¬ ((q.length : Int) < 3)) (h4 : ¬ (16 ≤ vDgt (bt q 1))) (h5 : 16 ≤ vDgt (bt q 2)) : ∀ k r, (k, r) ∈ hyUn_p11 → HOk (cx (nuX (nuUn_1 s T q b) X) (nuX_one (onUn_1 s T q b)) 0 laidE laidE_stab) k r := by
  have := bt_lo q 0; have := bt_hi q 0
  have := bt_lo q 1; have := bt_hi q 1
  have := bt_lo q 2; have := bt_hi q 2
  have := rDgt (c := bt q 1) (by omega) (by omega)
  have := rDgt (c := bt q 2) (by omega) (by omega)
  unfold hyUn_p11
  refine hcons (kBytesB (bs := ([] : List UInt8)) .nil (denX rfl)) ?_
  refine hcons (kNeS (isX rfl) (isSx (l := ([] : List UInt8)) 0 0 rfl) (bnT (by first | exact nilT (by first | omega | (simp <;> omega)) | exact nilF (by first | omega | (simp <;> omega)) | exact nilT' (by first | omega | (simp <;> omega)) | exact nilF' (by first | omega | (simp <;> omega))))) ?_
  refine hcons (kIdxE (i := 0) (isX rfl) (isZ (m := 0) rfl) (denX rfl) rfl (by first | omega | (simp <;> omega)) rfl) ?_
  refine hcons (kNeI (isX rfl) (isZ (m := 37) rfl) (neF (by omega))) ?_
  refine hcons (kLenE (isX rfl) (denX rfl) (by first | omega | (simp <;> omega))) ?_
  refine hcons (kLt (isX rfl) (isZ (m := 3) rfl) (decide_eq_false (by omega))) ?_
  refine hcons (kMid (P := 1) (Q := 3) (isX rfl) (.inr ⟨_, _, rfl, (isZ (m := 1) rfl)⟩) (.inr ⟨_, _, rfl, (isZ (m := 3) rfl)⟩) (by omega) (by omega) (by first | omega | (simp <;> omega)) (denX (congrArg (fun l => St' l) (mid2 (i := 1) (by omega) (by omega) (by omega))))) ?_
  refine hcons (kEqS (isX rfl) (isSx (l := ([] : List UInt8)) 0 0 rfl) (by first | exact nilT (by first | omega | (simp <;> omega)) | exact nilF (by first | omega | (simp <;> omega)) | exact nilT' (by first | omega | (simp <;> omega)) | exact nilF' (by first | omega | (simp <;> omega)))) ?_
  refine hcons (kLenE (isX rfl) (denZ (m := 2) rfl) rfl) ?_
  refine hcons (kIdxE (i := 0) (isX rfl) (isZ (m := 0) rfl) (denX rfl) rfl (by simp) (bt_at rfl (by omega) (by omega))) ?_
  refine hcons (hokDgt (isX rfl) (by omega) (by omega) (denX rfl)) ?_
  refine hcons (kGe (isX rfl) (isZ (m := 16) rfl) (decide_eq_false (by omega))) ?_
  refine hcons (kAdd (isZ (m := 0) rfl) (isX rfl) (denX rfl) (by omega) (fI64 (by omega) (by omega))) ?_
  refine hcons (kIdxE (i := 1) (isX rfl) (isZ (m := 1) rfl) (denX rfl) rfl (by simp) (bt_at rfl (by omega) (by omega))) ?_
  refine hcons (hokDgt (isX rfl) (by omega) (by omega) (denX rfl)) ?_
  refine hcons (kGe (isX rfl) (isZ (m := 16) rfl) (decide_eq_true (by omega))) ?_
  exact hnil
def hyUn_p12 : List (HK × AV) := [(.bytes [], .x 25), (.bin .neq (.x 0) (.s 0 0), .b true), (.idx (.x 0) (.i .i64 (.ofNat 0)), .x 26), (.bin .neq (.x 26) (.i .u8 (.ofNat 37)), .b false), (.len (.x 0), .x 27), (.bin .lss (.x 27) (.i .i64 (.ofNat 3)), .b false), (.sub (.x 0) (some (.i .i64 (.ofNat 1))) (some (.i .i64 (.ofNat 3))), .x 28), (.bin .eql (.x 28) (.s 0 0), .b false), (.len (.x 28), .i .i64 (.ofNat 2)), (.idx (.x 28) (.i .i64 (.ofNat 0)), .x 29), (.call 90 [.x 29], .x 30), (.bin .geq (.x 30) (.i .i64 (.ofNat 16)), .b false), (.bin .add (.i .i64 (.ofNat 0)) (.x 30), .x 31), (.idx (.x 28) (.i .i64 (.ofNat 1)), .x 32), (.call 90 [.x 32], .x 33), (.bin .geq (.x 33) (.i .i64 (.ofNat 16)), .b false), (.bin .mul (.x 31) (.i .i64 (.ofNat 16)), .x 34), (.bin .add (.x 34) (.x 33), .x 35), (.bin .eql (.x 35) (.i .i64 (.ofNat 0)), .b true)]
noncomputable def tabUn_p12 : Tab := { tabk with hyp := hyUn_p12 }
theorem runUn_p12 : okRdH (code tabUn_p12 2000 [] bodyUn (envOf (headOf epUn_1 keepUn) 26) ⟨lhSet hpUn_1 .leaf, 9, 0, 0⟩) .ret keepUn 26 38 [(0, .s 32 21768256054587688476975411894329487999234560186767463358109307209918322843745)] [] 8 38 [(2, .s 0 0), (3, .ifc 163 (.ag [.i .i64 (.ofNat 10), .x 0]))] [] = true := by kernel_rfl
set_option maxHeartbeats 2000000 in
theorem hyOkUn_p12 (s : List UInt8) (T : List UInt8) (q : List UInt8) (b : List UInt8) (X : Nat → Value) (i0 : unO b q = unS s) (i1 : unM q = unM s) (i2 : 1 = 0 → q = s ∧ b = []) (i3 : 1 = 1 → ¬ s.length = 0) (i4 : (b.length : Int) + (q.length : Int) ≤ 140737488355328) (h0 : ¬ ((q.length : Int) = 0)) (h1 : bt q 0 = 37) (h2 : ¬ ((q.length : Int) < 3)) (h4 : ¬ (16 ≤ vDgt (bt q 1))) (h5 : ¬ (16 ≤ vDgt (bt q 2))) (h6 : (vDgt (bt q 1)) * 16 + (vDgt (bt q 2)) = 0) : ∀ k r, (k, r) ∈ hyUn_p12 → HOk (cx (nuX (nuUn_1 s T q b) X) (nuX_one (onUn_1 s T q b)) 0 laidE laidE_stab) k r := by
  have := bt_lo q 0; have := bt_hi q 0
  have := bt_lo q 1; have := bt_hi q 1
  have := bt_lo q 2; have := bt_hi q 2
  have := rDgt (c := bt q 1) (by omega) (by omega)
  have := rDgt (c := bt q 2) (by omega) (by omega)
  unfold hyUn_p12
  refine hcons (kBytesB (bs := ([] : List UInt8)) .nil (denX rfl)) ?_
  refine hcons (kNeS (isX rfl) (isSx (l := ([] : List UInt8)) 0 0 rfl) (bnT (by first | exact nilT (by first | omega | (simp <;> omega)) | exact nilF (by first | omega | (simp <;> omega)) | exact nilT' (by first | omega | (simp <;> omega)) | exact nilF' (by first | omega | (simp <;> omega))))) ?_
  refine hcons (kIdxE (i := 0) (isX rfl) (isZ (m := 0) rfl) (denX rfl) rfl (by first | omega | (simp <;> omega)) rfl) ?_
  refine hcons (kNeI (isX rfl) (isZ (m := 37) rfl) (neF (by omega))) ?_
  refine hcons (kLenE (isX rfl) (denX rfl) (by first | omega | (simp <;> omega))) ?_
  refine hcons (kLt (isX rfl) (isZ (m := 3) rfl) (decide_eq_false (by omega))) ?_
  refine hcons (kMid (P := 1) (Q := 3) (isX rfl) (.inr ⟨_, _, rfl, (isZ (m := 1) rfl)⟩) (.inr ⟨_, _, rfl, (isZ (m := 3) rfl)⟩) (by omega) (by omega) (by first | omega | (simp <;> omega)) (denX (congrArg (fun l => St' l) (mid2 (i := 1) (by omega) (by omega) (by omega))))) ?_
  refine hcons (kEqS (isX rfl) (isSx (l := ([] : List UInt8)) 0 0 rfl) (by first | exact nilT (by first | omega | (simp <;> omega)) | exact nilF (by first | omega | (simp <;> omega)) | exact nilT' (by first | omega | (simp <;> omega)) | exact nilF' (by first | omega | (simp <;> omega)))) ?_
  refine hcons (kLenE (isX rfl) (denZ (m := 2) rfl) rfl) ?_
  refine hcons (kIdxE (i := 0) (isX rfl) (isZ (m := 0) rfl) (denX rfl) rfl (by simp) (bt_at rfl (by omega) (by omega))) ?_
  refine hcons (hokDgt (isX rfl) (by omega) (by omega) (denX rfl)) ?_
  refine hcons (kGe (isX rfl) (isZ (m := 16) rfl) (decide_eq_false (by omega))) ?_
  refine hcons (kAdd (isZ (m := 0) rfl) (isX rfl) (denX rfl) (by omega) (fI64 (by omega) (by omega))) ?_
  refine hcons (kIdxE (i := 1) (isX rfl) (isZ (m := 1) rfl) (denX rfl) rfl (by simp) (bt_at rfl (by omega) (by omega))) ?_
  refine hcons (hokDgt (isX rfl) (by omega) (by omega) (denX rfl)) ?_
  refine hcons (kGe (isX rfl) (isZ (m := 16) rfl) (decide_eq_false (by omega))) ?_
  refine hcons (kMul (isX rfl) (isZ (m := 16) rfl) (denX rfl) (by omega) (fI64 (by omega) (by omega))) ?_
  refine hcons (kAdd (isX rfl) (isX rfl) (denX rfl) (by omega) (fI64 (by omega) (by omega))) ?_
  refine hcons (kEqI (isX rfl) (isZ (m := 0) rfl) (decide_eq_true (by omega))) ?_
  exact hnil
def hyUn_p13 : List (HK × AV) := [(.bytes [], .x 36), (.bin .neq (.x 0) (.s 0 0), .b true), (.idx (.x 0) (.i .i64 (.ofNat 0)), .x 37), (.bin .neq (.x 37) (.i .u8 (.ofNat 37)), .b false), (.len (.x 0), .x 38), (.bin .lss (.x 38) (.i .i64 (.ofNat 3)), .b false), (.sub (.x 0) (some (.i .i64 (.ofNat 1))) (some (.i .i64 (.ofNat 3))), .x 39), (.bin .eql (.x 39) (.s 0 0), .b false), (.len (.x 39), .i .i64 (.ofNat 2)), (.idx (.x 39) (.i .i64 (.ofNat 0)), .x 40), (.call 90 [.x 40], .x 41), (.bin .geq (.x 41) (.i .i64 (.ofNat 16)), .b false), (.bin .add (.i .i64 (.ofNat 0)) (.x 41), .x 42), (.idx (.x 39) (.i .i64 (.ofNat 1)), .x 43), (.call 90 [.x 43], .x 44), (.bin .geq (.x 44) (.i .i64 (.ofNat 16)), .b false), (.bin .mul (.x 42) (.i .i64 (.ofNat 16)), .x 45), (.bin .add (.x 45) (.x 44), .x 46), (.bin .eql (.x 46) (.i .i64 (.ofNat 0)), .b false), (.conv 5 (.x 46), .x 47), (.app (.x 1) [.x 47], .x 48), (.fit (.x 48), .b true), (.sub (.x 0) (some (.i .i64 (.ofNat 3))) none, .x 49)]
noncomputable def tabUn_p13 : Tab := { tabk with hyp := hyUn_p13 }
theorem runUn_p13 : okRdH (code tabUn_p13 2000 [] bodyUn (envOf (headOf epUn_1 keepUn) 26) ⟨lhSet hpUn_1 .leaf, 9, 0, 0⟩) .normal keepUn 26 38 [(0, .x 49), (1, .x 48)] [(8, 10)] 8 9 epUn_1 hpUn_1 = true := by kernel_rfl
set_option maxHeartbeats 2000000 in
theorem hyOkUn_p13 (s : List UInt8) (T : List UInt8) (q : List UInt8) (b : List UInt8) (X : Nat → Value) (i0 : unO b q = unS s) (i1 : unM q = unM s) (i2 : 1 = 0 → q = s ∧ b = []) (i3 : 1 = 1 → ¬ s.length = 0) (i4 : (b.length : Int) + (q.length : Int) ≤ 140737488355328) (h0 : ¬ ((q.length : Int) = 0)) (h1 : bt q 0 = 37) (h2 : ¬ ((q.length : Int) < 3)) (h4 : ¬ (16 ≤ vDgt (bt q 1))) (h5 : ¬ (16 ≤ vDgt (bt q 2))) (h6 : ¬ ((vDgt (bt q 1)) * 16 + (vDgt (bt q 2)) = 0)) : ∀ k r, (k, r) ∈ hyUn_p13 → HOk (cx (nuX (nuUn_1 s T q b) X) (nuX_one (onUn_1 s T q b)) 0 laidE laidE_stab) k r := by
  have := bt_lo q 0; have := bt_hi q 0
  have := bt_lo q 1; have := bt_hi q 1
  have := bt_lo q 2; have := bt_hi q 2
  have := rDgt (c := bt q 1) (by omega) (by omega)
  have := rDgt (c := bt q 2) (by omega) (by omega)
  have := lenDrop (l := q) (P := 3) (by first | omega | (simp <;> omega)) (by first | omega | (simp <;> omega))
  unfold hyUn_p13
  refine hcons (kBytesB (bs := ([] : List UInt8)) .nil (denX rfl)) ?_
  refine hcons (kNeS (isX rfl) (isSx (l := ([] : List UInt8)) 0 0 rfl) (bnT (by first | exact nilT (by first | omega | (simp <;> omega)) | exact nilF (by first | omega | (simp <;> omega)) | exact nilT' (by first | omega | (simp <;> omega)) | exact nilF' (by first | omega | (simp <;> omega))))) ?_
  refine hcons (kIdxE (i := 0) (isX rfl) (isZ (m := 0) rfl) (denX rfl) rfl (by first | omega | (simp <;> omega)) rfl) ?_
  refine hcons (kNeI (isX rfl) (isZ (m := 37) rfl) (neF (by omega))) ?_
  refine hcons (kLenE (isX rfl) (denX rfl) (by first | omega | (simp <;> omega))) ?_
  refine hcons (kLt (isX rfl) (isZ (m := 3) rfl) (decide_eq_false (by omega))) ?_
  refine hcons (kMid (P := 1) (Q := 3) (isX rfl) (.inr ⟨_, _, rfl, (isZ (m := 1) rfl)⟩) (.inr ⟨_, _, rfl, (isZ (m := 3) rfl)⟩) (by omega) (by omega) (by first | omega | (simp <;> omega)) (denX (congrArg (fun l => St' l) (mid2 (i := 1) (by omega) (by omega) (by omega))))) ?_
  refine hcons (kEqS (isX rfl) (isSx (l := ([] : List UInt8)) 0 0 rfl) (by first | exact nilT (by first | omega | (simp <;> omega)) | exact nilF (by first | omega | (simp <;> omega)) | exact nilT' (by first | omega | (simp <;> omega)) | exact nilF' (by first | omega | (simp <;> omega)))) ?_
  refine hcons (kLenE (isX rfl) (denZ (m := 2) rfl) rfl) ?_
  refine hcons (kIdxE (i := 0) (isX rfl) (isZ (m := 0) rfl) (denX rfl) rfl (by simp) (bt_at rfl (by omega) (by omega))) ?_
  refine hcons (hokDgt (isX rfl) (by omega) (by omega) (denX rfl)) ?_
  refine hcons (kGe (isX rfl) (isZ (m := 16) rfl) (decide_eq_false (by omega))) ?_
  refine hcons (kAdd (isZ (m := 0) rfl) (isX rfl) (denX rfl) (by omega) (fI64 (by omega) (by omega))) ?_
  refine hcons (kIdxE (i := 1) (isX rfl) (isZ (m := 1) rfl) (denX rfl) rfl (by simp) (bt_at rfl (by omega) (by omega))) ?_
  refine hcons (hokDgt (isX rfl) (by omega) (by omega) (denX rfl)) ?_
  refine hcons (kGe (isX rfl) (isZ (m := 16) rfl) (decide_eq_false (by omega))) ?_
  refine hcons (kMul (isX rfl) (isZ (m := 16) rfl) (denX rfl) (by omega) (fI64 (by omega) (by omega))) ?_
  refine hcons (kAdd (isX rfl) (isX rfl) (denX rfl) (by omega) (fI64 (by omega) (by omega))) ?_
  refine hcons (kEqI (isX rfl) (isZ (m := 0) rfl) (decide_eq_false (by omega))) ?_
  refine hcons (kConv8 (isX rfl) tu5 (denX rfl) rfl) ?_
  refine hcons (kApp (bs := [u8 (((vDgt (bt q 1)) * 16 + (vDgt (bt q 2))) % 256)]) (isX rfl) (.cons (isB8 (isX rfl) (by omega) (by omega)) .nil) (denX rfl) (by first | rfl | (simp; done))) ?_
  refine hcons (kFit (isX rfl) (by first | omega | (simp <;> omega))) ?_
  refine hcons (kMid (P := 3) (Q := (q.length : Int)) (isX rfl) (.inr ⟨_, _, rfl, (isZ (m := 3) rfl)⟩) (.inl ⟨rfl, rfl⟩) (by first | omega | (simp <;> omega)) (by first | omega | (simp <;> omega)) (by first | omega | (simp <;> omega)) (denX (congrArg (fun l => St' l) dropE))) ?_
  exact hnil
def nuEUn_0 (s : List UInt8) (T : List UInt8) : List Value := []
noncomputable def EUn_0 (s : List UInt8) (T : List UInt8) : Cx := cx (nuX (nuEUn_0 s T) (fun _ => .bool true)) (nuX_one (nuL_one (l := nuEUn_0 s T) rfl)) 0 laidE laidE_stab
set_option maxHeartbeats 4000000 in
theorem roundsUn_0 (s : List UInt8) (T : List UInt8) (x0 : s.length = 0) (st : Nat × List UInt8 × List UInt8) (X : Nat → Value) (hI : InvUn s T st) : RoundH (EUn_0 s T) bodyUn keepUn 26 (.exit 0) 7 8 9 38 epUn hpUn [(2, .s 0 0), (3, .ni), (4, .p 7 0)] [(7, .b ⟨92, .l [.nilp, .nils], 0, 0, 0, false, false⟩)] (InvUn s T) (fun st : Nat × List UInt8 × List UInt8 => (st.2.1).length) (DUn s T) st X := by
  obtain ⟨tag, q, b⟩ := st
  have hI : (unO b q = unS s) ∧ (unM q = unM s) ∧ (tag = 0 → q = s ∧ b = []) ∧ (tag = 1 → ¬ s.length = 0) ∧ ((b.length : Int) + (q.length : Int) ≤ 140737488355328) ∧ (tag < 2) := hI
  obtain ⟨i0, i1, i2, i3, i4, it⟩ := hI
  rcases (show tag = 0 ∨ tag = 1 from by omega) with rfl | rfl
  · skip
    by_cases h0 : (q.length : Int) = 0
    · exact RoundH.leave (tb := tabUn_p0) (L := []) (f := 2000) (th := []) (sg := []) ((tabkOk (nuX (nuUn_0 s T q b) X) (nuX_one (onUn_0 s T q b))).hyps (hyOkUn_p0 s T q b X i0 i1 i2 i3 i4 h0)) (LpOk.nil _) rfl rfl (thNil) runUn_p0
    · by_cases h1 : bt q 0 = 37
      · by_cases h2 : (q.length : Int) < 3
        · exfalso; rw [unO_none (un_short (by omega) (by omega) (by omega)), un_nil x0] at i0; cases i0
        · by_cases h4 : 16 ≤ vDgt (bt q 1)
          · exfalso; rw [unO_none (un_bad (by omega) (by omega) (fun h => by have := h.1; have := h.2.1; omega)), un_nil x0] at i0; cases i0
          · by_cases h5 : 16 ≤ vDgt (bt q 2)
            · exfalso; rw [unO_none (un_bad (by omega) (by omega) (fun h => by have := h.1; have := h.2.1; omega)), un_nil x0] at i0; cases i0
            · by_cases h6 : (vDgt (bt q 1)) * 16 + (vDgt (bt q 2)) = 0
              · exfalso; rw [unO_none (un_bad (by omega) (by omega) (fun h => h.2.2 (by omega))), un_nil x0] at i0; cases i0
              · exact RoundH.next (tb := tabUn_p6) (L := []) (f := 2000) (th := [(0, .x 50), (1, .x 48)]) (sg := [(8, 10)]) (1, (List.drop (Int.toNat (3)) q), [u8 (((vDgt (bt q 1)) * 16 + (vDgt (bt q 2))) % 256)]) ((tabkOk (nuX (nuUn_0 s T q b) X) (nuX_one (onUn_0 s T q b))).hyps (hyOkUn_p6 s T q b X i0 i1 i2 i3 i4 h0 h1 h2 h4 h5 h6)) (LpOk.nil _) rfl (show InvUn s T (1, (List.drop (Int.toNat (3)) q), [u8 (((vDgt (bt q 1)) * 16 + (vDgt (bt q 2))) % 256)]) from (show (unO ([u8 (((vDgt (bt q 1)) * 16 + (vDgt (bt q 2))) % 256)]) (List.drop (Int.toNat (3)) q) = unS s) ∧ (unM (List.drop (Int.toNat (3)) q) = unM s) ∧ (1 = 0 → (List.drop (Int.toNat (3)) q) = s ∧ ([u8 (((vDgt (bt q 1)) * 16 + (vDgt (bt q 2))) % 256)]) = []) ∧ (1 = 1 → ¬ s.length = 0) ∧ ((([u8 (((vDgt (bt q 1)) * 16 + (vDgt (bt q 2))) % 256)]).length : Int) + ((List.drop (Int.toNat (3)) q).length : Int) ≤ 140737488355328) ∧ (1 < 2) from ⟨by rw [← i0, (i2 rfl).2]; exact unO_cons0 (un_esc (by omega) (by omega) ⟨by omega, by omega, by omega⟩), by rw [← i1]; exact (um_esc (by omega) (by omega) ⟨by omega, by omega⟩ (by omega)).symm, fun h => by omega, fun _ => by rw [← (i2 rfl).1]; omega, by simp only [List.length_append, List.length_cons, List.length_nil, List.length_drop]; omega, by omega⟩)) (by show (List.drop (Int.toNat (3)) q).length < q.length; rw [List.length_drop]; omega) (thCons (show Is _ (.x 50) (St' (List.drop (Int.toNat (3)) q)) from isTo (v := St' (List.drop (Int.toNat (3)) q)) (isX rfl) (by first | rfl | (simp; done))) (thCons (show Is _ (.x 48) (St' ([u8 (((vDgt (bt q 1)) * 16 + (vDgt (bt q 2))) % 256)])) from isTo (v := St' ([u8 (((vDgt (bt q 1)) * 16 + (vDgt (bt q 2))) % 256)])) (isX rfl) (by first | rfl | (simp; done))) (thNil))) runUn_p6
      · exact RoundH.next (tb := tabUn_p1) (L := []) (f := 2000) (th := [(0, .x 6), (1, .x 4)]) (sg := [(8, 10)]) (1, (List.drop (Int.toNat (1)) q), [u8 (bt q 0)]) ((tabkOk (nuX (nuUn_0 s T q b) X) (nuX_one (onUn_0 s T q b))).hyps (hyOkUn_p1 s T q b X i0 i1 i2 i3 i4 h0 h1)) (LpOk.nil _) rfl (show InvUn s T (1, (List.drop (Int.toNat (1)) q), [u8 (bt q 0)]) from (show (unO ([u8 (bt q 0)]) (List.drop (Int.toNat (1)) q) = unS s) ∧ (unM (List.drop (Int.toNat (1)) q) = unM s) ∧ (1 = 0 → (List.drop (Int.toNat (1)) q) = s ∧ ([u8 (bt q 0)]) = []) ∧ (1 = 1 → ¬ s.length = 0) ∧ ((([u8 (bt q 0)]).length : Int) + ((List.drop (Int.toNat (1)) q).length : Int) ≤ 140737488355328) ∧ (1 < 2) from ⟨by rw [← i0, (i2 rfl).2]; exact unO_cons0 (un_plain (by omega) (by omega)), by rw [← i1]; exact (um_plain (by omega) (by omega)).symm, fun h => by omega, fun _ => by rw [← (i2 rfl).1]; omega, by simp only [List.length_append, List.length_cons, List.length_nil, List.length_drop]; omega, by omega⟩)) (by show (List.drop (Int.toNat (1)) q).length < q.length; rw [List.length_drop]; omega) (thCons (show Is _ (.x 6) (St' (List.drop (Int.toNat (1)) q)) from isTo (v := St' (List.drop (Int.toNat (1)) q)) (isX rfl) (by first | rfl | (simp; done))) (thCons (show Is _ (.x 4) (St' ([u8 (bt q 0)])) from isTo (v := St' ([u8 (bt q 0)])) (isX rfl) (by first | rfl | (simp; done))) (thNil))) runUn_p1
  · skip
    by_cases h0 : (q.length : Int) = 0
    · exfalso; have h := i3 rfl; omega
    · by_cases h1 : bt q 0 = 37
      · by_cases h2 : (q.length : Int) < 3
        · exfalso; rw [unO_none (un_short (by omega) (by omega) (by omega)), un_nil x0] at i0; cases i0
        · by_cases h4 : 16 ≤ vDgt (bt q 1)
          · exfalso; rw [unO_none (un_bad (by omega) (by omega) (fun h => by have := h.1; have := h.2.1; omega)), un_nil x0] at i0; cases i0
          · by_cases h5 : 16 ≤ vDgt (bt q 2)
            · exfalso; rw [unO_none (un_bad (by omega) (by omega) (fun h => by have := h.1; have := h.2.1; omega)), un_nil x0] at i0; cases i0
            · by_cases h6 : (vDgt (bt q 1)) * 16 + (vDgt (bt q 2)) = 0
              · exfalso; rw [unO_none (un_bad (by omega) (by omega) (fun h => h.2.2 (by omega))), un_nil x0] at i0; cases i0
              · exact RoundH.next (tb := tabUn_p13) (L := []) (f := 2000) (th := [(0, .x 49), (1, .x 48)]) (sg := [(8, 10)]) (1, (List.drop (Int.toNat (3)) q), (b ++ [u8 (((vDgt (bt q 1)) * 16 + (vDgt (bt q 2))) % 256)])) ((tabkOk (nuX (nuUn_1 s T q b) X) (nuX_one (onUn_1 s T q b))).hyps (hyOkUn_p13 s T q b X i0 i1 i2 i3 i4 h0 h1 h2 h4 h5 h6)) (LpOk.nil _) rfl (show InvUn s T (1, (List.drop (Int.toNat (3)) q), (b ++ [u8 (((vDgt (bt q 1)) * 16 + (vDgt (bt q 2))) % 256)])) from (show (unO (b ++ [u8 (((vDgt (bt q 1)) * 16 + (vDgt (bt q 2))) % 256)]) (List.drop (Int.toNat (3)) q) = unS s) ∧ (unM (List.drop (Int.toNat (3)) q) = unM s) ∧ (1 = 0 → (List.drop (Int.toNat (3)) q) = s ∧ (b ++ [u8 (((vDgt (bt q 1)) * 16 + (vDgt (bt q 2))) % 256)]) = []) ∧ (1 = 1 → ¬ s.length = 0) ∧ (((b ++ [u8 (((vDgt (bt q 1)) * 16 + (vDgt (bt q 2))) % 256)]).length : Int) + ((List.drop (Int.toNat (3)) q).length : Int) ≤ 140737488355328) ∧ (1 < 2) from ⟨by rw [← i0]; exact unO_cons (un_esc (by omega) (by omega) ⟨by omega, by omega, by omega⟩), by rw [← i1]; exact (um_esc (by omega) (by omega) ⟨by omega, by omega⟩ (by omega)).symm, fun h => by omega, fun _ => i3 rfl, by simp only [List.length_append, List.length_cons, List.length_nil, List.length_drop]; omega, by omega⟩)) (by show (List.drop (Int.toNat (3)) q).length < q.length; rw [List.length_drop]; omega) (thCons (show Is _ (.x 49) (St' (List.drop (Int.toNat (3)) q)) from isTo (v := St' (List.drop (Int.toNat (3)) q)) (isX rfl) (by first | rfl | (simp; done))) (thCons (show Is _ (.x 48) (St' (b ++ [u8 (((vDgt (bt q 1)) * 16 + (vDgt (bt q 2))) % 256)])) from isTo (v := St' (b ++ [u8 (((vDgt (bt q 1)) * 16 + (vDgt (bt q 2))) % 256)])) (isX rfl) (by first | rfl | (simp; done))) (thNil))) runUn_p13
      · exact RoundH.next (tb := tabUn_p8) (L := []) (f := 2000) (th := [(0, .x 6), (1, .x 5)]) (sg := [(8, 10)]) (1, (List.drop (Int.toNat (1)) q), (b ++ [u8 (bt q 0)])) ((tabkOk (nuX (nuUn_1 s T q b) X) (nuX_one (onUn_1 s T q b))).hyps (hyOkUn_p8 s T q b X i0 i1 i2 i3 i4 h0 h1)) (LpOk.nil _) rfl (show InvUn s T (1, (List.drop (Int.toNat (1)) q), (b ++ [u8 (bt q 0)])) from (show (unO (b ++ [u8 (bt q 0)]) (List.drop (Int.toNat (1)) q) = unS s) ∧ (unM (List.drop (Int.toNat (1)) q) = unM s) ∧ (1 = 0 → (List.drop (Int.toNat (1)) q) = s ∧ (b ++ [u8 (bt q 0)]) = []) ∧ (1 = 1 → ¬ s.length = 0) ∧ (((b ++ [u8 (bt q 0)]).length : Int) + ((List.drop (Int.toNat (1)) q).length : Int) ≤ 140737488355328) ∧ (1 < 2) from ⟨by rw [← i0]; exact unO_cons (un_plain (by omega) (by omega)), by rw [← i1]; exact (um_plain (by omega) (by omega)).symm, fun h => by omega, fun _ => i3 rfl, by simp only [List.length_append, List.length_cons, List.length_nil, List.length_drop]; omega, by omega⟩)) (by show (List.drop (Int.toNat (1)) q).length < q.length; rw [List.length_drop]; omega) (thCons (show Is _ (.x 6) (St' (List.drop (Int.toNat (1)) q)) from isTo (v := St' (List.drop (Int.toNat (1)) q)) (isX rfl) (by first | rfl | (simp; done))) (thCons (show Is _ (.x 5) (St' (b ++ [u8 (bt q 0)])) from isTo (v := St' (b ++ [u8 (bt q 0)])) (isX rfl) (by first | rfl | (simp; done))) (thNil))) runUn_p8
theorem lfOkUn_0 {nu : Nat → Value} {one : ∀ i, i < 1000000 → (nu i).oneCell' = true} {l : LF} {h : LH} (s : List UInt8) (T : List UInt8) (x0 : s.length = 0) (st : Nat × List UInt8 × List UInt8) (hI : InvUn s T st) (hl : l.hp = some h) (hs : lfSame l h 26 keepUn (.exit 0) 7 8 38 = true) {th0 : List (Nat × AV)} {sg0 : List (Nat × Nat)} (hth0 : ∀ X, ThOk (cx nu one 0 laidE laidE_stab) (DUn s T st X) th0) (h0 : startOk l h 26 8 9 th0 sg0 (epUn st) (hpUn st) = true) {thx : List (Nat × AV)} (hthx : ThOk (EUn_0 s T) (cx nu one 0 laidE laidE_stab) thx) (hx : exitOk l h 26 8 38 thx [(2, .s 0 0), (3, .ni), (4, .p 7 0)] [(7, .b ⟨92, .l [.nilp, .nils], 0, 0, 0, false, false⟩)] = true) : LfOk (cx nu one 0 laidE laidE_stab) bodyUn l :=
  lfOkX (E := EUn_0 s T) (InvUn s T) (fun st : Nat × List UInt8 × List UInt8 => (st.2.1).length) (DUn s T) (fun _ _ => rfl) (fun _ _ => rfl) (fun _ _ => rfl) (fun st X t _ => nuX_keep) rfl rfl rfl hl hs (ebUn) rfl rfl st hI hth0 h0 hthx hx (fun st X hI => roundsUn_0 s T x0 st X hI)
def nuEUn_1 (s : List UInt8) (T : List UInt8) : List Value := [St' T]
noncomputable def EUn_1 (s : List UInt8) (T : List UInt8) : Cx := cx (nuX (nuEUn_1 s T) (fun _ => .bool true)) (nuX_one (nuL_one (l := nuEUn_1 s T) rfl)) 0 laidE laidE_stab
set_option maxHeartbeats 4000000 in
theorem roundsUn_1 (s : List UInt8) (T : List UInt8) (x0 : ¬ s.length = 0) (x1 : unS s = some T) (st : Nat × List UInt8 × List UInt8) (X : Nat → Value) (hI : InvUn s T st) : RoundH (EUn_1 s T) bodyUn keepUn 26 (.exit 0) 7 8 9 38 epUn hpUn [(2, .s 0 0), (3, .ni), (4, .p 7 0)] [(7, .b ⟨92, .l [.p 7 0, .sy 8], 0, 0, 0, false, false⟩), (8, .t 0 5)] (InvUn s T) (fun st : Nat × List UInt8 × List UInt8 => (st.2.1).length) (DUn s T) st X := by
  obtain ⟨tag, q, b⟩ := st
  have hI : (unO b q = unS s) ∧ (unM q = unM s) ∧ (tag = 0 → q = s ∧ b = []) ∧ (tag = 1 → ¬ s.length = 0) ∧ ((b.length : Int) + (q.length : Int) ≤ 140737488355328) ∧ (tag < 2) := hI
  obtain ⟨i0, i1, i2, i3, i4, it⟩ := hI
  rcases (show tag = 0 ∨ tag = 1 from by omega) with rfl | rfl
  · skip
    by_cases h0 : (q.length : Int) = 0
    · exfalso; have h := (i2 rfl).1; rw [← h] at x0; omega
    · by_cases h1 : bt q 0 = 37
      · by_cases h2 : (q.length : Int) < 3
        · exfalso; rw [unO_none (un_short (by omega) (by omega) (by omega)), x1] at i0; cases i0
        · by_cases h4 : 16 ≤ vDgt (bt q 1)
          · exfalso; rw [unO_none (un_bad (by omega) (by omega) (fun h => by have := h.1; have := h.2.1; omega)), x1] at i0; cases i0
          · by_cases h5 : 16 ≤ vDgt (bt q 2)
            · exfalso; rw [unO_none (un_bad (by omega) (by omega) (fun h => by have := h.1; have := h.2.1; omega)), x1] at i0; cases i0
            · by_cases h6 : (vDgt (bt q 1)) * 16 + (vDgt (bt q 2)) = 0
              · exfalso; rw [unO_none (un_bad (by omega) (by omega) (fun h => h.2.2 (by omega))), x1] at i0; cases i0
              · exact RoundH.next (tb := tabUn_p6) (L := []) (f := 2000) (th := [(0, .x 50), (1, .x 48)]) (sg := [(8, 10)]) (1, (List.drop (Int.toNat (3)) q), [u8 (((vDgt (bt q 1)) * 16 + (vDgt (bt q 2))) % 256)]) ((tabkOk (nuX (nuUn_0 s T q b) X) (nuX_one (onUn_0 s T q b))).hyps (hyOkUn_p6 s T q b X i0 i1 i2 i3 i4 h0 h1 h2 h4 h5 h6)) (LpOk.nil _) rfl (show InvUn s T (1, (List.drop (Int.toNat (3)) q), [u8 (((vDgt (bt q 1)) * 16 + (vDgt (bt q 2))) % 256)]) from (show (unO ([u8 (((vDgt (bt q 1)) * 16 + (vDgt (bt q 2))) % 256)]) (List.drop (Int.toNat (3)) q) = unS s) ∧ (unM (List.drop (Int.toNat (3)) q) = unM s) ∧ (1 = 0 → (List.drop (Int.toNat (3)) q) = s ∧ ([u8 (((vDgt (bt q 1)) * 16 + (vDgt (bt q 2))) % 256)]) = []) ∧ (1 = 1 → ¬ s.length = 0) ∧ ((([u8 (((vDgt (bt q 1)) * 16 + (vDgt (bt q 2))) % 256)]).length : Int) + ((List.drop (Int.toNat (3)) q).length : Int) ≤ 140737488355328) ∧ (1 < 2) from ⟨by rw [← i0, (i2 rfl).2]; exact unO_cons0 (un_esc (by omega) (by omega) ⟨by omega, by omega, by omega⟩), by rw [← i1]; exact (um_esc (by omega) (by omega) ⟨by omega, by omega⟩ (by omega)).symm, fun h => by omega, fun _ => by rw [← (i2 rfl).1]; omega, by simp only [List.length_append, List.length_cons, List.length_nil, List.length_drop]; omega, by omega⟩)) (by show (List.drop (Int.toNat (3)) q).length < q.length; rw [List.length_drop]; omega) (thCons (show Is _ (.x 50) (St' (List.drop (Int.toNat (3)) q)) from isTo (v := St' (List.drop (Int.toNat (3)) q)) (isX rfl) (by first | rfl | (simp; done))) (thCons (show Is _ (.x 48) (St' ([u8 (((vDgt (bt q 1)) * 16 + (vDgt (bt q 2))) % 256)])) from isTo (v := St' ([u8 (((vDgt (bt q 1)) * 16 + (vDgt (bt q 2))) % 256)])) (isX rfl) (by first | rfl | (simp; done))) (thNil))) runUn_p6
      · exact RoundH.next (tb := tabUn_p1) (L := []) (f := 2000) (th := [(0, .x 6), (1, .x 4)]) (sg := [(8, 10)]) (1, (List.drop (Int.toNat (1)) q), [u8 (bt q 0)]) ((tabkOk (nuX (nuUn_0 s T q b) X) (nuX_one (onUn_0 s T q b))).hyps (hyOkUn_p1 s T q b X i0 i1 i2 i3 i4 h0 h1)) (LpOk.nil _) rfl (show InvUn s T (1, (List.drop (Int.toNat (1)) q), [u8 (bt q 0)]) from (show (unO ([u8 (bt q 0)]) (List.drop (Int.toNat (1)) q) = unS s) ∧ (unM (List.drop (Int.toNat (1)) q) = unM s) ∧ (1 = 0 → (List.drop (Int.toNat (1)) q) = s ∧ ([u8 (bt q 0)]) = []) ∧ (1 = 1 → ¬ s.length = 0) ∧ ((([u8 (bt q 0)]).length : Int) + ((List.drop (Int.toNat (1)) q).length : Int) ≤ 140737488355328) ∧ (1 < 2) from ⟨by rw [← i0, (i2 rfl).2]; exact unO_cons0 (un_plain (by omega) (by omega)), by rw [← i1]; exact (um_plain (by omega) (by omega)).symm, fun h => by omega, fun _ => by rw [← (i2 rfl).1]; omega, by simp only [List.length_append, List.length_cons, List.length_nil, List.length_drop]; omega, by omega⟩)) (by show (List.drop (Int.toNat (1)) q).length < q.length; rw [List.length_drop]; omega) (thCons (show Is _ (.x 6) (St' (List.drop (Int.toNat (1)) q)) from isTo (v := St' (List.drop (Int.toNat (1)) q)) (isX rfl) (by first | rfl | (simp; done))) (thCons (show Is _ (.x 4) (St' ([u8 (bt q 0)])) from isTo (v := St' ([u8 (bt q 0)])) (isX rfl) (by first | rfl | (simp; done))) (thNil))) runUn_p1
  · skip
    by_cases h0 : (q.length : Int) = 0
    · exact RoundH.leave (tb := tabUn_p7) (L := []) (f := 2000) (th := [(0, .x 1)]) (sg := [(8, 8)]) ((tabkOk (nuX (nuUn_1 s T q b) X) (nuX_one (onUn_1 s T q b))).hyps (hyOkUn_p7 s T q b X i0 i1 i2 i3 i4 h0)) (LpOk.nil _) rfl rfl (thCons (show Is _ (.x 1) (St' T) from isTo (v := St' b) (isX rfl) (congrArg (fun l => St' l) (by have h := i0; rw [unO_nil (by omega), x1] at h; injection h))) (thNil)) runUn_p7
    · by_cases h1 : bt q 0 = 37
      · by_cases h2 : (q.length : Int) < 3
        · exfalso; rw [unO_none (un_short (by omega) (by omega) (by omega)), x1] at i0; cases i0
        · by_cases h4 : 16 ≤ vDgt (bt q 1)
          · exfalso; rw [unO_none (un_bad (by omega) (by omega) (fun h => by have := h.1; have := h.2.1; omega)), x1] at i0; cases i0
          · by_cases h5 : 16 ≤ vDgt (bt q 2)
            · exfalso; rw [unO_none (un_bad (by omega) (by omega) (fun h => by have := h.1; have := h.2.1; omega)), x1] at i0; cases i0
            · by_cases h6 : (vDgt (bt q 1)) * 16 + (vDgt (bt q 2)) = 0
              · exfalso; rw [unO_none (un_bad (by omega) (by omega) (fun h => h.2.2 (by omega))), x1] at i0; cases i0
              · exact RoundH.next (tb := tabUn_p13) (L := []) (f := 2000) (th := [(0, .x 49), (1, .x 48)]) (sg := [(8, 10)]) (1, (List.drop (Int.toNat (3)) q), (b ++ [u8 (((vDgt (bt q 1)) * 16 + (vDgt (bt q 2))) % 256)])) ((tabkOk (nuX (nuUn_1 s T q b) X) (nuX_one (onUn_1 s T q b))).hyps (hyOkUn_p13 s T q b X i0 i1 i2 i3 i4 h0 h1 h2 h4 h5 h6)) (LpOk.nil _) rfl (show InvUn s T (1, (List.drop (Int.toNat (3)) q), (b ++ [u8 (((vDgt (bt q 1)) * 16 + (vDgt (bt q 2))) % 256)])) from (show (unO (b ++ [u8 (((vDgt (bt q 1)) * 16 + (vDgt (bt q 2))) % 256)]) (List.drop (Int.toNat (3)) q) = unS s) ∧ (unM (List.drop (Int.toNat (3)) q) = unM s) ∧ (1 = 0 → (List.drop (Int.toNat (3)) q) = s ∧ (b ++ [u8 (((vDgt (bt q 1)) * 16 + (vDgt (bt q 2))) % 256)]) = []) ∧ (1 = 1 → ¬ s.length = 0) ∧ (((b ++ [u8 (((vDgt (bt q 1)) * 16 + (vDgt (bt q 2))) % 256)]).length : Int) + ((List.drop (Int.toNat (3)) q).length : Int) ≤ 140737488355328) ∧ (1 < 2) from ⟨by rw [← i0]; exact unO_cons (un_esc (by omega) (by omega) ⟨by omega, by omega, by omega⟩), by rw [← i1]; exact (um_esc (by omega) (by omega) ⟨by omega, by omega⟩ (by omega)).symm, fun h => by omega, fun _ => i3 rfl, by simp only [List.length_append, List.length_cons, List.length_nil, List.length_drop]; omega, by omega⟩)) (by show (List.drop (Int.toNat (3)) q).length < q.length; rw [List.length_drop]; omega) (thCons (show Is _ (.x 49) (St' (List.drop (Int.toNat (3)) q)) from isTo (v := St' (List.drop (Int.toNat (3)) q)) (isX rfl) (by first | rfl | (simp; done))) (thCons (show Is _ (.x 48) (St' (b ++ [u8 (((vDgt (bt q 1)) * 16 + (vDgt (bt q 2))) % 256)])) from isTo (v := St' (b ++ [u8 (((vDgt (bt q 1)) * 16 + (vDgt (bt q 2))) % 256)])) (isX rfl) (by first | rfl | (simp; done))) (thNil))) runUn_p13
      · exact RoundH.next (tb := tabUn_p8) (L := []) (f := 2000) (th := [(0, .x 6), (1, .x 5)]) (sg := [(8, 10)]) (1, (List.drop (Int.toNat (1)) q), (b ++ [u8 (bt q 0)])) ((tabkOk (nuX (nuUn_1 s T q b) X) (nuX_one (onUn_1 s T q b))).hyps (hyOkUn_p8 s T q b X i0 i1 i2 i3 i4 h0 h1)) (LpOk.nil _) rfl (show InvUn s T (1, (List.drop (Int.toNat (1)) q), (b ++ [u8 (bt q 0)])) from (show (unO (b ++ [u8 (bt q 0)]) (List.drop (Int.toNat (1)) q) = unS s) ∧ (unM (List.drop (Int.toNat (1)) q) = unM s) ∧ (1 = 0 → (List.drop (Int.toNat (1)) q) = s ∧ (b ++ [u8 (bt q 0)]) = []) ∧ (1 = 1 → ¬ s.length = 0) ∧ (((b ++ [u8 (bt q 0)]).length : Int) + ((List.drop (Int.toNat (1)) q).length : Int) ≤ 140737488355328) ∧ (1 < 2) from ⟨by rw [← i0]; exact unO_cons (un_plain (by omega) (by omega)), by rw [← i1]; exact (um_plain (by omega) (by omega)).symm, fun h => by omega, fun _ => i3 rfl, by simp only [List.length_append, List.length_cons, List.length_nil, List.length_drop]; omega, by omega⟩)) (by show (List.drop (Int.toNat (1)) q).length < q.length; rw [List.length_drop]; omega) (thCons (show Is _ (.x 6) (St' (List.drop (Int.toNat (1)) q)) from isTo (v := St' (List.drop (Int.toNat (1)) q)) (isX rfl) (by first | rfl | (simp; done))) (thCons (show Is _ (.x 5) (St' (b ++ [u8 (bt q 0)])) from isTo (v := St' (b ++ [u8 (bt q 0)])) (isX rfl) (by first | rfl | (simp; done))) (thNil))) runUn_p8
theorem lfOkUn_1 {nu : Nat → Value} {one : ∀ i, i < 1000000 → (nu i).oneCell' = true} {l : LF} {h : LH} (s : List UInt8) (T : List UInt8) (x0 : ¬ s.length = 0) (x1 : unS s = some T) (st : Nat × List UInt8 × List UInt8) (hI : InvUn s T st) (hl : l.hp = some h) (hs : lfSame l h 26 keepUn (.exit 0) 7 8 38 = true) {th0 : List (Nat × AV)} {sg0 : List (Nat × Nat)} (hth0 : ∀ X, ThOk (cx nu one 0 laidE laidE_stab) (DUn s T st X) th0) (h0 : startOk l h 26 8 9 th0 sg0 (epUn st) (hpUn st) = true) {thx : List (Nat × AV)} (hthx : ThOk (EUn_1 s T) (cx nu one 0 laidE laidE_stab) thx) (hx : exitOk l h 26 8 38 thx [(2, .s 0 0), (3, .ni), (4, .p 7 0)] [(7, .b ⟨92, .l [.p 7 0, .sy 8], 0, 0, 0, false, false⟩), (8, .t 0 5)] = true) : LfOk (cx nu one 0 laidE laidE_stab) bodyUn l :=
  lfOkX (E := EUn_1 s T) (InvUn s T) (fun st : Nat × List UInt8 × List UInt8 => (st.2.1).length) (DUn s T) (fun _ _ => rfl) (fun _ _ => rfl) (fun _ _ => rfl) (fun st X t _ => nuX_keep) rfl rfl rfl hl hs (ebUn) rfl rfl st hI hth0 h0 hthx hx (fun st X hI => roundsUn_1 s T x0 x1 st X hI)
def nuEUn_2 (s : List UInt8) (T : List UInt8) : List Value := [St' T]
noncomputable def EUn_2 (s : List UInt8) (T : List UInt8) : Cx := cx (nuX (nuEUn_2 s T) (fun _ => .bool true)) (nuX_one (nuL_one (l := nuEUn_2 s T) rfl)) 0 laidE laidE_stab
set_option maxHeartbeats 4000000 in
theorem roundsUn_2 (s : List UInt8) (T : List UInt8) (x0 : unS s = none) (x1 : unM s = T) (st : Nat × List UInt8 × List UInt8) (X : Nat → Value) (hI : InvUn s T st) : RoundH (EUn_2 s T) bodyUn keepUn 26 .ret 7 8 9 38 epUn hpUn [(2, .s 0 0), (3, .ifc 163 (.ag [.i .i64 (.ofNat 10), .x 0]))] [] (InvUn s T) (fun st : Nat × List UInt8 × List UInt8 => (st.2.1).length) (DUn s T) st X := by
  obtain ⟨tag, q, b⟩ := st
  have hI : (unO b q = unS s) ∧ (unM q = unM s) ∧ (tag = 0 → q = s ∧ b = []) ∧ (tag = 1 → ¬ s.length = 0) ∧ ((b.length : Int) + (q.length : Int) ≤ 140737488355328) ∧ (tag < 2) := hI
  obtain ⟨i0, i1, i2, i3, i4, it⟩ := hI
  rcases (show tag = 0 ∨ tag = 1 from by omega) with rfl | rfl
  · skip
    by_cases h0 : (q.length : Int) = 0
    · exfalso; rw [unO_nil (by omega), x0] at i0; cases i0
    · by_cases h1 : bt q 0 = 37
      · by_cases h2 : (q.length : Int) < 3
        · exact RoundH.leave (tb := tabUn_p2) (L := []) (f := 2000) (th := [(0, .s 33 13368744785390035796918722136903017317701998366312311048873520557726775689355361)]) (sg := []) ((tabkOk (nuX (nuUn_0 s T q b) X) (nuX_one (onUn_0 s T q b))).hyps (hyOkUn_p2 s T q b X i0 i1 i2 i3 i4 h0 h1 h2)) (LpOk.nil _) rfl rfl (thCons (show Is _ (.s 33 13368744785390035796918722136903017317701998366312311048873520557726775689355361) (St' T) from isTo (v := St' ([u8 97, u8 32, u8 112, u8 101, u8 114, u8 99, u8 101, u8 110, u8 116, u8 32, u8 115, u8 105, u8 103, u8 110, u8 32, u8 119, u8 105, u8 116, u8 104, u8 111, u8 117, u8 116, u8 32, u8 116, u8 119, u8 111, u8 32, u8 100, u8 105, u8 103, u8 105, u8 116, u8 115])) (isSx (l := [u8 97, u8 32, u8 112, u8 101, u8 114, u8 99, u8 101, u8 110, u8 116, u8 32, u8 115, u8 105, u8 103, u8 110, u8 32, u8 119, u8 105, u8 116, u8 104, u8 111, u8 117, u8 116, u8 32, u8 116, u8 119, u8 111, u8 32, u8 100, u8 105, u8 103, u8 105, u8 116, u8 115]) 33 13368744785390035796918722136903017317701998366312311048873520557726775689355361 rfl) (congrArg (fun l => St' l) (by rw [← x1, ← i1, um_short (by omega) (by omega) (by omega)]; rfl))) (thNil)) runUn_p2
        · by_cases h4 : 16 ≤ vDgt (bt q 1)
          · exact RoundH.leave (tb := tabUn_p3) (L := []) (f := 2000) (th := [(0, .s 33 13368744785390035796918722136903017317701998366312311048873520557726775689355361)]) (sg := []) ((tabkOk (nuX (nuUn_0 s T q b) X) (nuX_one (onUn_0 s T q b))).hyps (hyOkUn_p3 s T q b X i0 i1 i2 i3 i4 h0 h1 h2 h4)) (LpOk.nil _) rfl rfl (thCons (show Is _ (.s 33 13368744785390035796918722136903017317701998366312311048873520557726775689355361) (St' T) from isTo (v := St' ([u8 97, u8 32, u8 112, u8 101, u8 114, u8 99, u8 101, u8 110, u8 116, u8 32, u8 115, u8 105, u8 103, u8 110, u8 32, u8 119, u8 105, u8 116, u8 104, u8 111, u8 117, u8 116, u8 32, u8 116, u8 119, u8 111, u8 32, u8 100, u8 105, u8 103, u8 105, u8 116, u8 115])) (isSx (l := [u8 97, u8 32, u8 112, u8 101, u8 114, u8 99, u8 101, u8 110, u8 116, u8 32, u8 115, u8 105, u8 103, u8 110, u8 32, u8 119, u8 105, u8 116, u8 104, u8 111, u8 117, u8 116, u8 32, u8 116, u8 119, u8 111, u8 32, u8 100, u8 105, u8 103, u8 105, u8 116, u8 115]) 33 13368744785390035796918722136903017317701998366312311048873520557726775689355361 rfl) (congrArg (fun l => St' l) (by rw [← x1, ← i1, um_dig (by omega) (by omega) (fun h => by have := h.1; have := h.2; omega)]; rfl))) (thNil)) runUn_p3
          · by_cases h5 : 16 ≤ vDgt (bt q 2)
            · exact RoundH.leave (tb := tabUn_p4) (L := []) (f := 2000) (th := [(0, .s 33 13368744785390035796918722136903017317701998366312311048873520557726775689355361)]) (sg := []) ((tabkOk (nuX (nuUn_0 s T q b) X) (nuX_one (onUn_0 s T q b))).hyps (hyOkUn_p4 s T q b X i0 i1 i2 i3 i4 h0 h1 h2 h4 h5)) (LpOk.nil _) rfl rfl (thCons (show Is _ (.s 33 13368744785390035796918722136903017317701998366312311048873520557726775689355361) (St' T) from isTo (v := St' ([u8 97, u8 32, u8 112, u8 101, u8 114, u8 99, u8 101, u8 110, u8 116, u8 32, u8 115, u8 105, u8 103, u8 110, u8 32, u8 119, u8 105, u8 116, u8 104, u8 111, u8 117, u8 116, u8 32, u8 116, u8 119, u8 111, u8 32, u8 100, u8 105, u8 103, u8 105, u8 116, u8 115])) (isSx (l := [u8 97, u8 32, u8 112, u8 101, u8 114, u8 99, u8 101, u8 110, u8 116, u8 32, u8 115, u8 105, u8 103, u8 110, u8 32, u8 119, u8 105, u8 116, u8 104, u8 111, u8 117, u8 116, u8 32, u8 116, u8 119, u8 111, u8 32, u8 100, u8 105, u8 103, u8 105, u8 116, u8 115]) 33 13368744785390035796918722136903017317701998366312311048873520557726775689355361 rfl) (congrArg (fun l => St' l) (by rw [← x1, ← i1, um_dig (by omega) (by omega) (fun h => by have := h.1; have := h.2; omega)]; rfl))) (thNil)) runUn_p4
            · by_cases h6 : (vDgt (bt q 1)) * 16 + (vDgt (bt q 2)) = 0
              · exact RoundH.leave (tb := tabUn_p5) (L := []) (f := 2000) (th := [(0, .s 32 21768256054587688476975411894329487999234560186767463358109307209918322843745)]) (sg := []) ((tabkOk (nuX (nuUn_0 s T q b) X) (nuX_one (onUn_0 s T q b))).hyps (hyOkUn_p5 s T q b X i0 i1 i2 i3 i4 h0 h1 h2 h4 h5 h6)) (LpOk.nil _) rfl rfl (thCons (show Is _ (.s 32 21768256054587688476975411894329487999234560186767463358109307209918322843745) (St' T) from isTo (v := St' ([u8 97, u8 32, u8 112, u8 101, u8 114, u8 99, u8 101, u8 110, u8 116, u8 32, u8 115, u8 105, u8 103, u8 110, u8 32, u8 116, u8 104, u8 97, u8 116, u8 32, u8 116, u8 101, u8 108, u8 108, u8 115, u8 32, u8 98, u8 121, u8 116, u8 101, u8 32, u8 48])) (isSx (l := [u8 97, u8 32, u8 112, u8 101, u8 114, u8 99, u8 101, u8 110, u8 116, u8 32, u8 115, u8 105, u8 103, u8 110, u8 32, u8 116, u8 104, u8 97, u8 116, u8 32, u8 116, u8 101, u8 108, u8 108, u8 115, u8 32, u8 98, u8 121, u8 116, u8 101, u8 32, u8 48]) 32 21768256054587688476975411894329487999234560186767463358109307209918322843745 rfl) (congrArg (fun l => St' l) (by rw [← x1, ← i1, um_zer (by omega) (by omega) ⟨by omega, by omega⟩ (by omega)]; rfl))) (thNil)) runUn_p5
              · exact RoundH.next (tb := tabUn_p6) (L := []) (f := 2000) (th := [(0, .x 50), (1, .x 48)]) (sg := [(8, 10)]) (1, (List.drop (Int.toNat (3)) q), [u8 (((vDgt (bt q 1)) * 16 + (vDgt (bt q 2))) % 256)]) ((tabkOk (nuX (nuUn_0 s T q b) X) (nuX_one (onUn_0 s T q b))).hyps (hyOkUn_p6 s T q b X i0 i1 i2 i3 i4 h0 h1 h2 h4 h5 h6)) (LpOk.nil _) rfl (show InvUn s T (1, (List.drop (Int.toNat (3)) q), [u8 (((vDgt (bt q 1)) * 16 + (vDgt (bt q 2))) % 256)]) from (show (unO ([u8 (((vDgt (bt q 1)) * 16 + (vDgt (bt q 2))) % 256)]) (List.drop (Int.toNat (3)) q) = unS s) ∧ (unM (List.drop (Int.toNat (3)) q) = unM s) ∧ (1 = 0 → (List.drop (Int.toNat (3)) q) = s ∧ ([u8 (((vDgt (bt q 1)) * 16 + (vDgt (bt q 2))) % 256)]) = []) ∧ (1 = 1 → ¬ s.length = 0) ∧ ((([u8 (((vDgt (bt q 1)) * 16 + (vDgt (bt q 2))) % 256)]).length : Int) + ((List.drop (Int.toNat (3)) q).length : Int) ≤ 140737488355328) ∧ (1 < 2) from ⟨by rw [← i0, (i2 rfl).2]; exact unO_cons0 (un_esc (by omega) (by omega) ⟨by omega, by omega, by omega⟩), by rw [← i1]; exact (um_esc (by omega) (by omega) ⟨by omega, by omega⟩ (by omega)).symm, fun h => by omega, fun _ => by rw [← (i2 rfl).1]; omega, by simp only [List.length_append, List.length_cons, List.length_nil, List.length_drop]; omega, by omega⟩)) (by show (List.drop (Int.toNat (3)) q).length < q.length; rw [List.length_drop]; omega) (thCons (show Is _ (.x 50) (St' (List.drop (Int.toNat (3)) q)) from isTo (v := St' (List.drop (Int.toNat (3)) q)) (isX rfl) (by first | rfl | (simp; done))) (thCons (show Is _ (.x 48) (St' ([u8 (((vDgt (bt q 1)) * 16 + (vDgt (bt q 2))) % 256)])) from isTo (v := St' ([u8 (((vDgt (bt q 1)) * 16 + (vDgt (bt q 2))) % 256)])) (isX rfl) (by first | rfl | (simp; done))) (thNil))) runUn_p6
      · exact RoundH.next (tb := tabUn_p1) (L := []) (f := 2000) (th := [(0, .x 6), (1, .x 4)]) (sg := [(8, 10)]) (1, (List.drop (Int.toNat (1)) q), [u8 (bt q 0)]) ((tabkOk (nuX (nuUn_0 s T q b) X) (nuX_one (onUn_0 s T q b))).hyps (hyOkUn_p1 s T q b X i0 i1 i2 i3 i4 h0 h1)) (LpOk.nil _) rfl (show InvUn s T (1, (List.drop (Int.toNat (1)) q), [u8 (bt q 0)]) from (show (unO ([u8 (bt q 0)]) (List.drop (Int.toNat (1)) q) = unS s) ∧ (unM (List.drop (Int.toNat (1)) q) = unM s) ∧ (1 = 0 → (List.drop (Int.toNat (1)) q) = s ∧ ([u8 (bt q 0)]) = []) ∧ (1 = 1 → ¬ s.length = 0) ∧ ((([u8 (bt q 0)]).length : Int) + ((List.drop (Int.toNat (1)) q).length : Int) ≤ 140737488355328) ∧ (1 < 2) from ⟨by rw [← i0, (i2 rfl).2]; exact unO_cons0 (un_plain (by omega) (by omega)), by rw [← i1]; exact (um_plain (by omega) (by omega)).symm, fun h => by omega, fun _ => by rw [← (i2 rfl).1]; omega, by simp only [List.length_append, List.length_cons, List.length_nil, List.length_drop]; omega, by omega⟩)) (by show (List.drop (Int.toNat (1)) q).length < q.length; rw [List.length_drop]; omega) (thCons (show Is _ (.x 6) (St' (List.drop (Int.toNat (1)) q)) from isTo (v := St' (List.drop (Int.toNat (1)) q)) (isX rfl) (by first | rfl | (simp; done))) (thCons (show Is _ (.x 4) (St' ([u8 (bt q 0)])) from isTo (v := St' ([u8 (bt q 0)])) (isX rfl) (by first | rfl | (simp; done))) (thNil))) runUn_p1
  · skip
    by_cases h0 : (q.length : Int) = 0
    · exfalso; rw [unO_nil (by omega), x0] at i0; cases i0
    · by_cases h1 : bt q 0 = 37
      · by_cases h2 : (q.length : Int) < 3
        · exact RoundH.leave (tb := tabUn_p9) (L := []) (f := 2000) (th := [(0, .s 33 13368744785390035796918722136903017317701998366312311048873520557726775689355361)]) (sg := []) ((tabkOk (nuX (nuUn_1 s T q b) X) (nuX_one (onUn_1 s T q b))).hyps (hyOkUn_p9 s T q b X i0 i1 i2 i3 i4 h0 h1 h2)) (LpOk.nil _) rfl rfl (thCons (show Is _ (.s 33 13368744785390035796918722136903017317701998366312311048873520557726775689355361) (St' T) from isTo (v := St' ([u8 97, u8 32, u8 112, u8 101, u8 114, u8 99, u8 101, u8 110, u8 116, u8 32, u8 115, u8 105, u8 103, u8 110, u8 32, u8 119, u8 105, u8 116, u8 104, u8 111, u8 117, u8 116, u8 32, u8 116, u8 119, u8 111, u8 32, u8 100, u8 105, u8 103, u8 105, u8 116, u8 115])) (isSx (l := [u8 97, u8 32, u8 112, u8 101, u8 114, u8 99, u8 101, u8 110, u8 116, u8 32, u8 115, u8 105, u8 103, u8 110, u8 32, u8 119, u8 105, u8 116, u8 104, u8 111, u8 117, u8 116, u8 32, u8 116, u8 119, u8 111, u8 32, u8 100, u8 105, u8 103, u8 105, u8 116, u8 115]) 33 13368744785390035796918722136903017317701998366312311048873520557726775689355361 rfl) (congrArg (fun l => St' l) (by rw [← x1, ← i1, um_short (by omega) (by omega) (by omega)]; rfl))) (thNil)) runUn_p9
        · by_cases h4 : 16 ≤ vDgt (bt q 1)
          · exact RoundH.leave (tb := tabUn_p10) (L := []) (f := 2000) (th := [(0, .s 33 13368744785390035796918722136903017317701998366312311048873520557726775689355361)]) (sg := []) ((tabkOk (nuX (nuUn_1 s T q b) X) (nuX_one (onUn_1 s T q b))).hyps (hyOkUn_p10 s T q b X i0 i1 i2 i3 i4 h0 h1 h2 h4)) (LpOk.nil _) rfl rfl (thCons (show Is _ (.s 33 13368744785390035796918722136903017317701998366312311048873520557726775689355361) (St' T) from isTo (v := St' ([u8 97, u8 32, u8 112, u8 101, u8 114, u8 99, u8 101, u8 110, u8 116, u8 32, u8 115, u8 105, u8 103, u8 110, u8 32, u8 119, u8 105, u8 116, u8 104, u8 111, u8 117, u8 116, u8 32, u8 116, u8 119, u8 111, u8 32, u8 100, u8 105, u8 103, u8 105, u8 116, u8 115])) (isSx (l := [u8 97, u8 32, u8 112, u8 101, u8 114, u8 99, u8 101, u8 110, u8 116, u8 32, u8 115, u8 105, u8 103, u8 110, u8 32, u8 119, u8 105, u8 116, u8 104, u8 111, u8 117, u8 116, u8 32, u8 116, u8 119, u8 111, u8 32, u8 100, u8 105, u8 103, u8 105, u8 116, u8 115]) 33 13368744785390035796918722136903017317701998366312311048873520557726775689355361 rfl) (congrArg (fun l => St' l) (by rw [← x1, ← i1, um_dig (by omega) (by omega) (fun h => by have := h.1; have := h.2; omega)]; rfl))) (thNil)) runUn_p10
          · by_cases h5 : 16 ≤ vDgt (bt q 2)
            · exact RoundH.leave (tb := tabUn_p11) (L := []) (f := 2000) (th := [(0, .s 33 13368744785390035796918722136903017317701998366312311048873520557726775689355361)]) (sg := []) ((tabkOk (nuX (nuUn_1 s T q b) X) (nuX_one (onUn_1 s T q b))).hyps (hyOkUn_p11 s T q b X i0 i1 i2 i3 i4 h0 h1 h2 h4 h5)) (LpOk.nil _) rfl rfl (thCons (show Is _ (.s 33 13368744785390035796918722136903017317701998366312311048873520557726775689355361) (St' T) from isTo (v := St' ([u8 97, u8 32, u8 112, u8 101, u8 114, u8 99, u8 101, u8 110, u8 116, u8 32, u8 115, u8 105, u8 103, u8 110, u8 32, u8 119, u8 105, u8 116, u8 104, u8 111, u8 117, u8 116, u8 32, u8 116, u8 119, u8 111, u8 32, u8 100, u8 105, u8 103, u8 105, u8 116, u8 115])) (isSx (l := [u8 97, u8 32, u8 112, u8 101, u8 114, u8 99, u8 101, u8 110, u8 116, u8 32, u8 115, u8 105, u8 103, u8 110, u8 32, u8 119, u8 105, u8 116, u8 104, u8 111, u8 117, u8 116, u8 32, u8 116, u8 119, u8 111, u8 32, u8 100, u8 105, u8 103, u8 105, u8 116, u8 115]) 33 13368744785390035796918722136903017317701998366312311048873520557726775689355361 rfl) (congrArg (fun l => St' l) (by rw [← x1, ← i1, um_dig (by omega) (by omega) (fun h => by have := h.1; have := h.2; omega)]; rfl))) (thNil)) runUn_p11
            · by_cases h6 : (vDgt (bt q 1)) * 16 + (vDgt (bt q 2)) = 0
              · exact RoundH.leave (tb := tabUn_p12) (L := []) (f := 2000) (th := [(0, .s 32 21768256054587688476975411894329487999234560186767463358109307209918322843745)]) (sg := []) ((tabkOk (nuX (nuUn_1 s T q b) X) (nuX_one (onUn_1 s T q b))).hyps (hyOkUn_p12 s T q b X i0 i1 i2 i3 i4 h0 h1 h2 h4 h5 h6)) (LpOk.nil _) rfl rfl (thCons (show Is _ (.s 32 21768256054587688476975411894329487999234560186767463358109307209918322843745) (St' T) from isTo (v := St' ([u8 97, u8 32, u8 112, u8 101, u8 114, u8 99, u8 101, u8 110, u8 116, u8 32, u8 115, u8 105, u8 103, u8 110, u8 32, u8 116, u8 104, u8 97, u8 116, u8 32, u8 116, u8 101, u8 108, u8 108, u8 115, u8 32, u8 98, u8 121, u8 116, u8 101, u8 32, u8 48])) (isSx (l := [u8 97, u8 32, u8 112, u8 101, u8 114, u8 99, u8 101, u8 110, u8 116, u8 32, u8 115, u8 105, u8 103, u8 110, u8 32, u8 116, u8 104, u8 97, u8 116, u8 32, u8 116, u8 101, u8 108, u8 108, u8 115, u8 32, u8 98, u8 121, u8 116, u8 101, u8 32, u8 48]) 32 21768256054587688476975411894329487999234560186767463358109307209918322843745 rfl) (congrArg (fun l => St' l) (by rw [← x1, ← i1, um_zer (by omega) (by omega) ⟨by omega, by omega⟩ (by omega)]; rfl))) (thNil)) runUn_p12
              · exact RoundH.next (tb := tabUn_p13) (L := []) (f := 2000) (th := [(0, .x 49), (1, .x 48)]) (sg := [(8, 10)]) (1, (List.drop (Int.toNat (3)) q), (b ++ [u8 (((vDgt (bt q 1)) * 16 + (vDgt (bt q 2))) % 256)])) ((tabkOk (nuX (nuUn_1 s T q b) X) (nuX_one (onUn_1 s T q b))).hyps (hyOkUn_p13 s T q b X i0 i1 i2 i3 i4 h0 h1 h2 h4 h5 h6)) (LpOk.nil _) rfl (show InvUn s T (1, (List.drop (Int.toNat (3)) q), (b ++ [u8 (((vDgt (bt q 1)) * 16 + (vDgt (bt q 2))) % 256)])) from (show (unO (b ++ [u8 (((vDgt (bt q 1)) * 16 + (vDgt (bt q 2))) % 256)]) (List.drop (Int.toNat (3)) q) = unS s) ∧ (unM (List.drop (Int.toNat (3)) q) = unM s) ∧ (1 = 0 → (List.drop (Int.toNat (3)) q) = s ∧ (b ++ [u8 (((vDgt (bt q 1)) * 16 + (vDgt (bt q 2))) % 256)]) = []) ∧ (1 = 1 → ¬ s.length = 0) ∧ (((b ++ [u8 (((vDgt (bt q 1)) * 16 + (vDgt (bt q 2))) % 256)]).length : Int) + ((List.drop (Int.toNat (3)) q).length : Int) ≤ 140737488355328) ∧ (1 < 2) from ⟨by rw [← i0]; exact unO_cons (un_esc (by omega) (by omega) ⟨by omega, by omega, by omega⟩), by rw [← i1]; exact (um_esc (by omega) (by omega) ⟨by omega, by omega⟩ (by omega)).symm, fun h => by omega, fun _ => i3 rfl, by simp only [List.length_append, List.length_cons, List.length_nil, List.length_drop]; omega, by omega⟩)) (by show (List.drop (Int.toNat (3)) q).length < q.length; rw [List.length_drop]; omega) (thCons (show Is _ (.x 49) (St' (List.drop (Int.toNat (3)) q)) from isTo (v := St' (List.drop (Int.toNat (3)) q)) (isX rfl) (by first | rfl | (simp; done))) (thCons (show Is _ (.x 48) (St' (b ++ [u8 (((vDgt (bt q 1)) * 16 + (vDgt (bt q 2))) % 256)])) from isTo (v := St' (b ++ [u8 (((vDgt (bt q 1)) * 16 + (vDgt (bt q 2))) % 256)])) (isX rfl) (by first | rfl | (simp; done))) (thNil))) runUn_p13
      · exact RoundH.next (tb := tabUn_p8) (L := []) (f := 2000) (th := [(0, .x 6), (1, .x 5)]) (sg := [(8, 10)]) (1, (List.drop (Int.toNat (1)) q), (b ++ [u8 (bt q 0)])) ((tabkOk (nuX (nuUn_1 s T q b) X) (nuX_one (onUn_1 s T q b))).hyps (hyOkUn_p8 s T q b X i0 i1 i2 i3 i4 h0 h1)) (LpOk.nil _) rfl (show InvUn s T (1, (List.drop (Int.toNat (1)) q), (b ++ [u8 (bt q 0)])) from (show (unO (b ++ [u8 (bt q 0)]) (List.drop (Int.toNat (1)) q) = unS s) ∧ (unM (List.drop (Int.toNat (1)) q) = unM s) ∧ (1 = 0 → (List.drop (Int.toNat (1)) q) = s ∧ (b ++ [u8 (bt q 0)]) = []) ∧ (1 = 1 → ¬ s.length = 0) ∧ (((b ++ [u8 (bt q 0)]).length : Int) + ((List.drop (Int.toNat (1)) q).length : Int) ≤ 140737488355328) ∧ (1 < 2) from ⟨by rw [← i0]; exact unO_cons (un_plain (by omega) (by omega)), by rw [← i1]; exact (um_plain (by omega) (by omega)).symm, fun h => by omega, fun _ => i3 rfl, by simp only [List.length_append, List.length_cons, List.length_nil, List.length_drop]; omega, by omega⟩)) (by show (List.drop (Int.toNat (1)) q).length < q.length; rw [List.length_drop]; omega) (thCons (show Is _ (.x 6) (St' (List.drop (Int.toNat (1)) q)) from isTo (v := St' (List.drop (Int.toNat (1)) q)) (isX rfl) (by first | rfl | (simp; done))) (thCons (show Is _ (.x 5) (St' (b ++ [u8 (bt q 0)])) from isTo (v := St' (b ++ [u8 (bt q 0)])) (isX rfl) (by first | rfl | (simp; done))) (thNil))) runUn_p8
theorem lfOkUn_2 {nu : Nat → Value} {one : ∀ i, i < 1000000 → (nu i).oneCell' = true} {l : LF} {h : LH} (s : List UInt8) (T : List UInt8) (x0 : unS s = none) (x1 : unM s = T) (st : Nat × List UInt8 × List UInt8) (hI : InvUn s T st) (hl : l.hp = some h) (hs : lfSame l h 26 keepUn .ret 7 8 38 = true) {th0 : List (Nat × AV)} {sg0 : List (Nat × Nat)} (hth0 : ∀ X, ThOk (cx nu one 0 laidE laidE_stab) (DUn s T st X) th0) (h0 : startOk l h 26 8 9 th0 sg0 (epUn st) (hpUn st) = true) {thx : List (Nat × AV)} (hthx : ThOk (EUn_2 s T) (cx nu one 0 laidE laidE_stab) thx) (hx : exitOk l h 26 8 38 thx [(2, .s 0 0), (3, .ifc 163 (.ag [.i .i64 (.ofNat 10), .x 0]))] [] = true) : LfOk (cx nu one 0 laidE laidE_stab) bodyUn l :=
  lfOkX (E := EUn_2 s T) (InvUn s T) (fun st : Nat × List UInt8 × List UInt8 => (st.2.1).length) (DUn s T) (fun _ _ => rfl) (fun _ _ => rfl) (fun _ _ => rfl) (fun st X t _ => nuX_keep) rfl rfl rfl hl hs (ebUn) rfl rfl st hI hth0 h0 hthx hx (fun st X hI => roundsUn_2 s T x0 x1 st X hI)
noncomputable def fi18 : FI := (tabk.fn.get 18).getD default
theorem fi18_at : tabk.fn.get 18 = some fi18 := by kernel_rfl
theorem fi18_body : fi18.body = some (Tryd.f18.body.getD .skip) := by kernel_rfl
def hyUnesc_0 : List (HK × AV) := []
noncomputable def tabUnesc_0 : Tab := addLps ({ tabk with hyp := hyUnesc_0 }) 18 fi18 [⟨2, 26, [(0, .x 0), (2, .s 0 0), (3, .ni), (4, .p 7 0)], [], (.exit 0), [(2, .s 0 0), (3, .ni), (4, .p 7 0)], some ⟨7, 8, 38, [(7, .b ⟨92, .l [.nilp, .nils], 0, 0, 0, false, false⟩)], [(7, .b ⟨92, .l [.nilp, .nils], 0, 0, 0, false, false⟩)]⟩⟩]
theorem runUnesc_0 : okA (call tabUnesc_0 9000 18 [.x 0] ⟨H0 , 7, 0, 0⟩) (.tu [.s 0 0, .ni]) = true := by kernel_rfl
def nuUnesc_0 (s : List UInt8) : List Value := [St' s]
theorem oneUnesc_0 (s : List UInt8) : ∀ j, j < 1000000 → (nuL (nuUnesc_0 s) j).oneCell' = true := fun j _ => nuL_one (l := nuUnesc_0 s) rfl j
set_option maxHeartbeats 2000000 in
theorem hyOkUnesc_0 (s : List UInt8) (b0 : s.length ≤ 9223372036854775807) (p0 : s.length ≤ 140737488355328) (h0 : ¬ (unS s = none)) (h1 : s.length = 0) : ∀ k r, (k, r) ∈ hyUnesc_0 → HOk (cx (nuL (nuUnesc_0 s)) (oneUnesc_0 s) 0 laidE laidE_stab) k r := by
  unfold hyUnesc_0
  exact hnil
theorem pathUnesc_0 (s : List UInt8) (b0 : s.length ≤ 9223372036854775807) (p0 : s.length ≤ 140737488355328) (h0 : ¬ (unS s = none)) (h1 : s.length = 0) (w : World) (hl : laidE w) : Calls Tryd.prog 18 #[St' s] w fun e w' => e = .returned (.tuple #[St' ([] : List UInt8), .nilIface]) ∧ Go.AX.Below (Go.AX.Fz.lt w.heap.size) w w' := by
  obtain ⟨fi, hfi, hb⟩ : ∃ fi, tabUnesc_0.fn.get 18 = some fi ∧ fi.body.isSome = true := ⟨_, (get_lps (by omega)), by show fi18.body.isSome = true; rw [fi18_body]; rfl⟩
  refine (runA (tb := tabUnesc_0) (ra := .tu [.s 0 0, .ni]) (hnr := rfl) (AllOk.lp1 ((tabkOk (nuL (nuUnesc_0 s)) (oneUnesc_0 s)).hyps (hyOkUnesc_0 s b0 p0 h0 h1)) (by omega) fi18_at fi18_body (lfCons ⟨0, keyUn, lfOkUn_0 (l := ⟨2, 26, [(0, .x 0), (2, .s 0 0), (3, .ni), (4, .p 7 0)], [], (.exit 0), [(2, .s 0 0), (3, .ni), (4, .p 7 0)], some ⟨7, 8, 38, [(7, .b ⟨92, .l [.nilp, .nils], 0, 0, 0, false, false⟩)], [(7, .b ⟨92, .l [.nilp, .nils], 0, 0, 0, false, false⟩)]⟩⟩) (h := ⟨7, 8, 38, [(7, .b ⟨92, .l [.nilp, .nils], 0, 0, 0, false, false⟩)], [(7, .b ⟨92, .l [.nilp, .nils], 0, 0, 0, false, false⟩)]⟩) s ([] : List UInt8) (by assumption) (0, s, ([] : List UInt8)) (show InvUn s ([] : List UInt8) (0, s, ([] : List UInt8)) from (show (unO ([] : List UInt8) s = unS s) ∧ (unM s = unM s) ∧ (0 = 0 → s = s ∧ ([] : List UInt8) = []) ∧ (0 = 1 → ¬ s.length = 0) ∧ ((([] : List UInt8).length : Int) + (s.length : Int) ≤ 140737488355328) ∧ (0 < 2) from ⟨by unfold unO; cases unS s <;> simp, rfl, fun _ => ⟨rfl, rfl⟩, fun h => by omega, by simp; omega, by omega⟩)) rfl (by kernel_rfl) (th0 := [(0, .x 0)]) (sg0 := []) (fun X => thCons (show Is _ (.x 0) (St' s) from isTo (v := St' s) (isX rfl) (by first | rfl | (simp; done))) (thNil)) (by kernel_rfl) (thx := []) (thNil) (by kernel_rfl)⟩ lfNil)) rfl hfi hb (runUnesc_0 ) (args := [St' s]) (by simp only [RelL, Rel]; exact ⟨_, _, rfl, rfl, rfl⟩) w hl).mono fun e w' he => ?_
  obtain ⟨x, rfl, hx, hb2⟩ := he
  simp only [Rel, RelL] at hx
  obtain ⟨_, rfl, ⟨_, _, rfl, ⟨rfl, _⟩, ⟨_, _, rfl, rfl, rfl⟩⟩⟩ := hx
  exact ⟨rfl, hb2⟩
def hyUnesc_1 : List (HK × AV) := [(.byt (.x 1) (.i .i64 (.ofNat 0)), .x 2), (.len (.x 1), .x 3), (.fit (.x 1), .b true)]
noncomputable def tabUnesc_1 : Tab := addLps ({ tabk with hyp := hyUnesc_1 }) 18 fi18 [⟨2, 26, [(0, .x 0), (2, .s 0 0), (3, .ni), (4, .p 7 0)], [], (.exit 0), [(2, .s 0 0), (3, .ni), (4, .p 7 0)], some ⟨7, 8, 38, [(7, .b ⟨92, .l [.nilp, .nils], 0, 0, 0, false, false⟩)], [(7, .b ⟨92, .l [.p 7 0, .sy 8], 0, 0, 0, false, false⟩), (8, .t 1 5)]⟩⟩]
theorem runUnesc_1 : okA (call tabUnesc_1 9000 18 [.x 0] ⟨H0 , 7, 0, 0⟩) (.tu [.x 1, .ni]) = true := by kernel_rfl
def nuUnesc_1 (s : List UInt8) : List Value := [St' s, St' ((unS s).getD []), .int .u8 (bt ((unS s).getD []) 0), .int .i64 ((((unS s).getD []).length : Int))]
theorem oneUnesc_1 (s : List UInt8) : ∀ j, j < 1000000 → (nuL (nuUnesc_1 s) j).oneCell' = true := fun j _ => nuL_one (l := nuUnesc_1 s) rfl j
set_option maxHeartbeats 2000000 in
theorem hyOkUnesc_1 (s : List UInt8) (b0 : s.length ≤ 9223372036854775807) (p0 : s.length ≤ 140737488355328) (h0 : ¬ (unS s = none)) (h1 : ¬ (s.length = 0)) : ∀ k r, (k, r) ∈ hyUnesc_1 → HOk (cx (nuL (nuUnesc_1 s)) (oneUnesc_1 s) 0 laidE laidE_stab) k r := by
  obtain ⟨T, hT⟩ : ∃ T, unS s = some T := by cases h : unS s with | none => exact absurd h (by assumption) | some T => exact ⟨T, rfl⟩
  have hTg : (unS s).getD [] = T := by rw [hT]; rfl
  have := unS_len hT
  rw [← hTg] at this
  have := bt_lo ((unS s).getD []) 0; have := bt_hi ((unS s).getD []) 0
  unfold hyUnesc_1
  refine hcons (kByt (i := 0) (isX rfl) (isZ (m := 0) rfl) (denX rfl) rfl (by first | omega | (simp <;> omega)) rfl) ?_
  refine hcons (kLenE (isX rfl) (denX rfl) (by first | omega | (simp <;> omega))) ?_
  refine hcons (kFit (isX rfl) (by first | omega | (simp <;> omega))) ?_
  exact hnil
theorem pathUnesc_1 (s : List UInt8) (b0 : s.length ≤ 9223372036854775807) (p0 : s.length ≤ 140737488355328) (h0 : ¬ (unS s = none)) (h1 : ¬ (s.length = 0)) (w : World) (hl : laidE w) : Calls Tryd.prog 18 #[St' s] w fun e w' => e = .returned (.tuple #[St' ((unS s).getD []), .nilIface]) ∧ Go.AX.Below (Go.AX.Fz.lt w.heap.size) w w' := by
  obtain ⟨T, hT⟩ : ∃ T, unS s = some T := by cases h : unS s with | none => exact absurd h (by assumption) | some T => exact ⟨T, rfl⟩
  have hTg : (unS s).getD [] = T := by rw [hT]; rfl
  have := unS_len hT
  rw [← hTg] at this
  have := bt_lo ((unS s).getD []) 0; have := bt_hi ((unS s).getD []) 0
  obtain ⟨fi, hfi, hb⟩ : ∃ fi, tabUnesc_1.fn.get 18 = some fi ∧ fi.body.isSome = true := ⟨_, (get_lps (by omega)), by show fi18.body.isSome = true; rw [fi18_body]; rfl⟩
  refine (runA (tb := tabUnesc_1) (ra := .tu [.x 1, .ni]) (hnr := rfl) (AllOk.lp1 ((tabkOk (nuL (nuUnesc_1 s)) (oneUnesc_1 s)).hyps (hyOkUnesc_1 s b0 p0 h0 h1)) (by omega) fi18_at fi18_body (lfCons ⟨0, keyUn, lfOkUn_1 (l := ⟨2, 26, [(0, .x 0), (2, .s 0 0), (3, .ni), (4, .p 7 0)], [], (.exit 0), [(2, .s 0 0), (3, .ni), (4, .p 7 0)], some ⟨7, 8, 38, [(7, .b ⟨92, .l [.nilp, .nils], 0, 0, 0, false, false⟩)], [(7, .b ⟨92, .l [.p 7 0, .sy 8], 0, 0, 0, false, false⟩), (8, .t 1 5)]⟩⟩) (h := ⟨7, 8, 38, [(7, .b ⟨92, .l [.nilp, .nils], 0, 0, 0, false, false⟩)], [(7, .b ⟨92, .l [.p 7 0, .sy 8], 0, 0, 0, false, false⟩), (8, .t 1 5)]⟩) s ((unS s).getD []) (by assumption) (by rw [hT]; rfl) (0, s, ([] : List UInt8)) (show InvUn s ((unS s).getD []) (0, s, ([] : List UInt8)) from (show (unO ([] : List UInt8) s = unS s) ∧ (unM s = unM s) ∧ (0 = 0 → s = s ∧ ([] : List UInt8) = []) ∧ (0 = 1 → ¬ s.length = 0) ∧ ((([] : List UInt8).length : Int) + (s.length : Int) ≤ 140737488355328) ∧ (0 < 2) from ⟨by unfold unO; cases unS s <;> simp, rfl, fun _ => ⟨rfl, rfl⟩, fun h => by omega, by simp; omega, by omega⟩)) rfl (by kernel_rfl) (th0 := [(0, .x 0)]) (sg0 := []) (fun X => thCons (show Is _ (.x 0) (St' s) from isTo (v := St' s) (isX rfl) (by first | rfl | (simp; done))) (thNil)) (by kernel_rfl) (thx := [(1, .x 0)]) (thCons (show Is _ (.x 0) (St' ((unS s).getD [])) from isTo (v := St' ((unS s).getD [])) (isX rfl) (by first | rfl | (congr 1; omega))) (thNil)) (by kernel_rfl)⟩ lfNil)) rfl hfi hb (runUnesc_1 ) (args := [St' s]) (by simp only [RelL, Rel]; exact ⟨_, _, rfl, rfl, rfl⟩) w hl).mono fun e w' he => ?_
  obtain ⟨x, rfl, hx, hb2⟩ := he
  simp only [Rel, RelL] at hx
  obtain ⟨_, rfl, ⟨_, _, rfl, rfl, ⟨_, _, rfl, rfl, rfl⟩⟩⟩ := hx
  exact ⟨rfl, hb2⟩
def hyUnesc_2 : List (HK × AV) := []
noncomputable def tabUnesc_2 : Tab := addLps ({ tabk with hyp := hyUnesc_2 }) 18 fi18 [⟨2, 26, [(0, .x 0), (2, .s 0 0), (3, .ni), (4, .p 7 0)], [], .ret, [(2, .s 0 0), (3, .ifc 163 (.ag [.i .i64 (.ofNat 10), .x 1]))], some ⟨7, 8, 38, [(7, .b ⟨92, .l [.nilp, .nils], 0, 0, 0, false, false⟩)], []⟩⟩]
theorem runUnesc_2 : okA (call tabUnesc_2 9000 18 [.x 0] ⟨H0 , 7, 0, 0⟩) (.tu [.s 0 0, .ifc 163 (.ag [.i .i64 (.ofNat 10), .x 1])]) = true := by kernel_rfl
def nuUnesc_2 (s : List UInt8) : List Value := [St' s, St' (unM s)]
theorem oneUnesc_2 (s : List UInt8) : ∀ j, j < 1000000 → (nuL (nuUnesc_2 s) j).oneCell' = true := fun j _ => nuL_one (l := nuUnesc_2 s) rfl j
set_option maxHeartbeats 2000000 in
theorem hyOkUnesc_2 (s : List UInt8) (b0 : s.length ≤ 9223372036854775807) (p0 : s.length ≤ 140737488355328) (h0 : unS s = none) : ∀ k r, (k, r) ∈ hyUnesc_2 → HOk (cx (nuL (nuUnesc_2 s)) (oneUnesc_2 s) 0 laidE laidE_stab) k r := by
  unfold hyUnesc_2
  exact hnil
theorem pathUnesc_2 (s : List UInt8) (b0 : s.length ≤ 9223372036854775807) (p0 : s.length ≤ 140737488355328) (h0 : unS s = none) (w : World) (hl : laidE w) : Calls Tryd.prog 18 #[St' s] w fun e w' => e = .returned (.tuple #[St' ([] : List UInt8), .iface 163 (.agg #[.int .i64 10, St' (unM s)])]) ∧ Go.AX.Below (Go.AX.Fz.lt w.heap.size) w w' := by
  obtain ⟨fi, hfi, hb⟩ : ∃ fi, tabUnesc_2.fn.get 18 = some fi ∧ fi.body.isSome = true := ⟨_, (get_lps (by omega)), by show fi18.body.isSome = true; rw [fi18_body]; rfl⟩
  refine (runA (tb := tabUnesc_2) (ra := .tu [.s 0 0, .ifc 163 (.ag [.i .i64 (.ofNat 10), .x 1])]) (hnr := rfl) (AllOk.lp1 ((tabkOk (nuL (nuUnesc_2 s)) (oneUnesc_2 s)).hyps (hyOkUnesc_2 s b0 p0 h0)) (by omega) fi18_at fi18_body (lfCons ⟨0, keyUn, lfOkUn_2 (l := ⟨2, 26, [(0, .x 0), (2, .s 0 0), (3, .ni), (4, .p 7 0)], [], .ret, [(2, .s 0 0), (3, .ifc 163 (.ag [.i .i64 (.ofNat 10), .x 1]))], some ⟨7, 8, 38, [(7, .b ⟨92, .l [.nilp, .nils], 0, 0, 0, false, false⟩)], []⟩⟩) (h := ⟨7, 8, 38, [(7, .b ⟨92, .l [.nilp, .nils], 0, 0, 0, false, false⟩)], []⟩) s (unM s) (by assumption) rfl (0, s, ([] : List UInt8)) (show InvUn s (unM s) (0, s, ([] : List UInt8)) from (show (unO ([] : List UInt8) s = unS s) ∧ (unM s = unM s) ∧ (0 = 0 → s = s ∧ ([] : List UInt8) = []) ∧ (0 = 1 → ¬ s.length = 0) ∧ ((([] : List UInt8).length : Int) + (s.length : Int) ≤ 140737488355328) ∧ (0 < 2) from ⟨by unfold unO; cases unS s <;> simp, rfl, fun _ => ⟨rfl, rfl⟩, fun h => by omega, by simp; omega, by omega⟩)) rfl (by kernel_rfl) (th0 := [(0, .x 0)]) (sg0 := []) (fun X => thCons (show Is _ (.x 0) (St' s) from isTo (v := St' s) (isX rfl) (by first | rfl | (simp; done))) (thNil)) (by kernel_rfl) (thx := [(1, .x 0)]) (thCons (show Is _ (.x 0) (St' (unM s)) from isTo (v := St' (unM s)) (isX rfl) (by first | rfl | (congr 1; omega))) (thNil)) (by kernel_rfl)⟩ lfNil)) rfl hfi hb (runUnesc_2 ) (args := [St' s]) (by simp only [RelL, Rel]; exact ⟨_, _, rfl, rfl, rfl⟩) w hl).mono fun e w' he => ?_
  obtain ⟨x, rfl, hx, hb2⟩ := he
  simp only [Rel, RelL] at hx
  obtain ⟨_, rfl, ⟨_, _, rfl, ⟨rfl, _⟩, ⟨_, _, rfl, ⟨_, rfl, ⟨_, rfl, ⟨_, _, rfl, rfl, ⟨_, _, rfl, rfl, rfl⟩⟩⟩⟩, rfl⟩⟩⟩ := hx
  exact ⟨rfl, hb2⟩
theorem callsUnesc (s : List UInt8) (b0 : s.length ≤ 9223372036854775807) (p0 : s.length ≤ 140737488355328) (w : World) (hl : laidE w) : Calls Tryd.prog 18 #[St' s] w fun e w' => e = .returned (if unS s = none then .tuple #[St' [], .iface 163 (.agg #[.int .i64 10, St' (unM s)])] else .tuple #[St' ((unS s).getD []), .nilIface]) ∧ Go.AX.Below (Go.AX.Fz.lt w.heap.size) w w' := by
  by_cases h0 : unS s = none
  · rw [show (if unS s = none then .tuple #[St' [], .iface 163 (.agg #[.int .i64 10, St' (unM s)])] else .tuple #[St' ((unS s).getD []), .nilIface] : Value) = (.tuple #[St' ([] : List UInt8), .iface 163 (.agg #[.int .i64 10, St' (unM s)])] : Value) from by first | (rw [if_pos (by assumption)]; done) | (rw [if_neg (by assumption)]; done) | (rw [if_neg (by assumption), un_nil (by assumption)]; rfl)]
    exact pathUnesc_2 s b0 p0 h0 w hl
  · by_cases h1 : s.length = 0
    · rw [show (if unS s = none then .tuple #[St' [], .iface 163 (.agg #[.int .i64 10, St' (unM s)])] else .tuple #[St' ((unS s).getD []), .nilIface] : Value) = (.tuple #[St' ([] : List UInt8), .nilIface] : Value) from by first | (rw [if_pos (by assumption)]; done) | (rw [if_neg (by assumption)]; done) | (rw [if_neg (by assumption), un_nil (by assumption)]; rfl)]
      exact pathUnesc_0 s b0 p0 h0 h1 w hl
    · rw [show (if unS s = none then .tuple #[St' [], .iface 163 (.agg #[.int .i64 10, St' (unM s)])] else .tuple #[St' ((unS s).getD []), .nilIface] : Value) = (.tuple #[St' ((unS s).getD []), .nilIface] : Value) from by first | (rw [if_pos (by assumption)]; done) | (rw [if_neg (by assumption)]; done) | (rw [if_neg (by assumption), un_nil (by assumption)]; rfl)]
      exact pathUnesc_1 s b0 p0 h0 h1 w hl
theorem hokUnesc {nu : Nat → Value} {one : ∀ i, i < 1000000 → (nu i).oneCell' = true} {x0 r : AV} {s : List UInt8} (i0 : Is (cx nu one 0 laidE laidE_stab) x0 (St' s)) (hr : Den (cx nu one 0 laidE laidE_stab) r (if unS s = none then .tuple #[St' [], .iface 163 (.agg #[.int .i64 10, St' (unM s)])] else .tuple #[St' ((unS s).getD []), .nilIface])) (b0 : s.length ≤ 9223372036854775807) (p0 : s.length ≤ 140737488355328) : HOk (cx nu one 0 laidE laidE_stab) (.call 18 [x0]) r := by
  intro ρ args ha w hl _
  simp only [RelL] at ha
  obtain ⟨v0, t0, rfl, a0, rfl⟩ := ha
  have e0 := i0 ρ _ a0; subst e0
  exact (callsUnesc s b0 p0 w hl).mono fun e w' he => ⟨_, he.1, hr ρ, he.2⟩
def bl (b : UInt8) : Bool := tb8 4294967808 (b.toNat : Int)
def trR (l : List UInt8) : List UInt8 := (l.reverse.dropWhile bl).reverse
def trL (l : List UInt8) : List UInt8 := l.dropWhile bl
def trS (l : List UInt8) : List UInt8 := trL (trR l)
theorem bt_last {l : List UInt8} {i : Nat} (h : i + 1 = l.length) : ∃ p, l = p ++ [u8 (bt l i)] ∧ p = l.take i := by
  refine ⟨l.take i, ?_, rfl⟩
  rw [u8_bt, List.getD_eq_getElem?_getD, List.getElem?_eq_getElem (by omega), Option.getD_some]
  have := List.take_append_getElem (l := l) (i := i) (by omega)
  rw [this, h, List.take_length]
theorem bl_u8 {c : Int} (h0 : 0 ≤ c) (h1 : c ≤ 255) : bl (u8 c) = tb8 4294967808 c := by unfold bl; rw [u8_toNat h0 h1]
theorem trR_step {l : List UInt8} {i : Nat} (h : i + 1 = l.length) (hb : tb8 4294967808 (bt l i) = true) : trR (l.take i) = trR l := by
  obtain ⟨p, e, hp⟩ := bt_last h
  rw [← hp]
  conv => rhs; rw [e]
  unfold trR
  rw [List.reverse_append, List.reverse_singleton, List.singleton_append, List.dropWhile_cons, bl_u8 (bt_lo _ _) (bt_hi _ _), hb]; rfl
theorem trR_end {l : List UInt8} {i : Nat} (h : i + 1 = l.length) (hb : ¬ (tb8 4294967808 (bt l i) = true)) : trR l = l := by
  obtain ⟨p, e, hp⟩ := bt_last h
  have hb : tb8 4294967808 (bt l i) = false := by simpa using hb
  have : (l.reverse.dropWhile bl) = l.reverse := by
    conv => lhs; rw [e]
    conv => rhs; rw [e]
    rw [List.reverse_append, List.reverse_singleton, List.singleton_append, List.dropWhile_cons, bl_u8 (bt_lo _ _) (bt_hi _ _), hb]; rfl
  unfold trR; rw [this, List.reverse_reverse]
theorem trR_nil {l : List UInt8} (h : l.length = 0) : trR l = l := by rw [List.eq_nil_of_length_eq_zero h]; rfl
theorem cons_bt {l : List UInt8} (h : 0 < l.length) : l = u8 (bt l 0) :: l.drop 1 := by
  cases l with
  | nil => simp at h
  | cons a r => rw [u8_bt]; rfl
theorem trL_step {l : List UInt8} (h : 0 < l.length) (hb : tb8 4294967808 (bt l 0) = true) : trL (l.drop 1) = trL l := by
  conv => rhs; rw [cons_bt h]
  unfold trL
  rw [List.dropWhile_cons, bl_u8 (bt_lo _ _) (bt_hi _ _), hb]; rfl
theorem trL_end {l : List UInt8} (h : 0 < l.length) (hb : ¬ (tb8 4294967808 (bt l 0) = true)) : trL l = l := by
  have hb : tb8 4294967808 (bt l 0) = false := by simpa using hb
  conv => lhs; rw [cons_bt h]
  unfold trL
  rw [List.dropWhile_cons, bl_u8 (bt_lo _ _) (bt_hi _ _), hb]
  exact (cons_bt h).symm
theorem trL_nil {l : List UInt8} (h : l.length = 0) : trL l = l := by rw [List.eq_nil_of_length_eq_zero h]; rfl
theorem trR_len (l : List UInt8) : (trR l).length ≤ l.length := by
  have := (List.dropWhile_sublist (p := bl) (l := l.reverse)).length_le
  unfold trR; simpa using this
theorem trL_len (l : List UInt8) : (trL l).length ≤ l.length := (List.dropWhile_sublist (p := bl) (l := l)).length_le
noncomputable def bodyTr : Code := loopNo (Tryd.f97.body.getD .skip) 0
theorem keyTr : oneKey (loopsOf (Tryd.f97.body.getD .skip)) 1 0 0 = true := by kernel_rfl
def keepTr : List Nat := []
def epTr_0 : List (Nat × AV) := [(0, .x 0), (1, .p 8 0)]
def hpTr_0 : List (Nat × Ent) := [(8, .b ⟨135, .l ascL, 0, 0, 0, false, false⟩)]
def nuTr_0 (T : List UInt8) (t : List UInt8) : List Value := [St' t, .int .i64 ((t.length : Int)), .int .i64 ((t.length : Int)), .int .i64 ((t.length : Int) - 1), .int .u8 (bt t (Int.toNat ((t.length : Int) - 1))), St' (List.take (Int.toNat ((t.length : Int) - 1)) t), .int .i64 ((t.length : Int)), .int .i64 ((t.length : Int) - 1), .int .u8 (bt t (Int.toNat ((t.length : Int) - 1)))]
theorem onTr_0 (T : List UInt8) (t : List UInt8) : ∀ j, (nuL (nuTr_0 T t) j).oneCell' = true := nuL_one (l := nuTr_0 T t) rfl
def epTr (st : Nat × List UInt8) : List (Nat × AV) := epTr_0
def hpTr (st : Nat × List UInt8) : List (Nat × Ent) := hpTr_0
def nuTr (T : List UInt8) (st : Nat × List UInt8) : List Value := nuTr_0 T (st.2)
theorem onTr (T : List UInt8) (st : Nat × List UInt8) : ∀ j, (nuL (nuTr T st) j).oneCell' = true := by
  intro j
  unfold nuTr
  exact onTr_0  T (st.2) j
theorem ebTr (st : Nat × List UInt8) : (lfB (epTr st) && lfC keepTr) = true := by
  unfold epTr
  rfl
noncomputable def DTr (T : List UInt8) (st : Nat × List UInt8) (X : Nat → Value) : Cx := cx (nuX (nuTr T st) X) (nuX_one (onTr T st)) 0 laidE laidE_stab
def InvTr (T : List UInt8) (st : Nat × List UInt8) : Prop := (trR (st.2) = T) ∧ ((st.2).length ≤ 140737488355328) ∧ ((st.1) < 1)
def hyTr_p0 : List (HK × AV) := [(.len (.x 0), .x 1), (.bin .gtr (.x 1) (.i .i64 (.ofNat 0)), .b false)]
noncomputable def tabTr_p0 : Tab := { tabk with hyp := hyTr_p0 }
theorem runTr_p0 : okRdH (code tabTr_p0 400 [] bodyTr (envOf (headOf epTr_0 keepTr) 22) ⟨lhSet hpTr_0 .leaf, 9, 0, 0⟩) (.exit 0) keepTr 22 9 [(0, .x 0)] [] 9 9 [(0, .x 0)] [(8, .b ⟨135, .l ascL, 0, 0, 0, false, false⟩)] = true := by kernel_rfl
set_option maxHeartbeats 2000000 in
theorem hyOkTr_p0 (T : List UInt8) (t : List UInt8) (X : Nat → Value) (i0 : trR t = T) (i1 : t.length ≤ 140737488355328) (h0 : ¬ (0 < (t.length : Int))) : ∀ k r, (k, r) ∈ hyTr_p0 → HOk (cx (nuX (nuTr_0 T t) X) (nuX_one (onTr_0 T t)) 0 laidE laidE_stab) k r := by
  unfold hyTr_p0
  refine hcons (kLenE (isX rfl) (denX rfl) (by first | omega | (simp <;> omega))) ?_
  refine hcons (kGt (isX rfl) (isZ (m := 0) rfl) (decide_eq_false (by omega))) ?_
  exact hnil
def hyTr_p1 : List (HK × AV) := [(.len (.x 0), .x 2), (.bin .gtr (.x 2) (.i .i64 (.ofNat 0)), .b true), (.bin .sub (.x 2) (.i .i64 (.ofNat 1)), .x 3), (.idx (.x 0) (.x 3), .x 4), (.tab ascL (.x 4), .b true), (.sub (.x 0) none (some (.x 3)), .x 5)]
noncomputable def tabTr_p1 : Tab := { tabk with hyp := hyTr_p1 }
theorem runTr_p1 : okRdH (code tabTr_p1 400 [] bodyTr (envOf (headOf epTr_0 keepTr) 22) ⟨lhSet hpTr_0 .leaf, 9, 0, 0⟩) .normal keepTr 22 9 [(0, .x 5)] [] 9 9 epTr_0 hpTr_0 = true := by kernel_rfl
set_option maxHeartbeats 2000000 in
theorem hyOkTr_p1 (T : List UInt8) (t : List UInt8) (X : Nat → Value) (i0 : trR t = T) (i1 : t.length ≤ 140737488355328) (h0 : 0 < (t.length : Int)) (h1 : tb8 4294967808 (bt t (Int.toNat ((t.length : Int) - 1))) = true) : ∀ k r, (k, r) ∈ hyTr_p1 → HOk (cx (nuX (nuTr_0 T t) X) (nuX_one (onTr_0 T t)) 0 laidE laidE_stab) k r := by
  have := bt_lo t (Int.toNat ((t.length : Int) - 1)); have := bt_hi t (Int.toNat ((t.length : Int) - 1))
  have := lenTake (l := t) (Q := (t.length : Int) - 1) (by first | omega | (simp <;> omega)) (by first | omega | (simp <;> omega))
  unfold hyTr_p1
  refine hcons (kLenE (isX rfl) (denX rfl) (by first | omega | (simp <;> omega))) ?_
  refine hcons (kGt (isX rfl) (isZ (m := 0) rfl) (decide_eq_true (by omega))) ?_
  refine hcons (kSub (isX rfl) (isZ (m := 1) rfl) (denX rfl) (by omega) (fI64 (by omega) (by omega))) ?_
  refine hcons (kIdxE (i := (Int.toNat ((t.length : Int) - 1))) (isX rfl) (isX rfl) (denX rfl) (by omega) (by first | omega | (simp <;> omega)) rfl) ?_
  refine hcons (kTabB 4294967808 (by kernel_rfl) (isX rfl) (by omega) (by omega) ((by assumption))) ?_
  refine hcons (kMid (P := 0) (Q := (t.length : Int) - 1) (isX rfl) (.inl ⟨rfl, rfl⟩) (.inr ⟨_, _, rfl, (isX rfl)⟩) (by first | omega | (simp <;> omega)) (by first | omega | (simp <;> omega)) (by first | omega | (simp <;> omega)) (denX (congrArg (fun l => St' l) takeE))) ?_
  exact hnil
def hyTr_p2 : List (HK × AV) := [(.len (.x 0), .x 6), (.bin .gtr (.x 6) (.i .i64 (.ofNat 0)), .b true), (.bin .sub (.x 6) (.i .i64 (.ofNat 1)), .x 7), (.idx (.x 0) (.x 7), .x 8), (.tab ascL (.x 8), .b false)]
noncomputable def tabTr_p2 : Tab := { tabk with hyp := hyTr_p2 }
theorem runTr_p2 : okRdH (code tabTr_p2 400 [] bodyTr (envOf (headOf epTr_0 keepTr) 22) ⟨lhSet hpTr_0 .leaf, 9, 0, 0⟩) (.exit 0) keepTr 22 9 [(0, .x 0)] [] 9 9 [(0, .x 0)] [(8, .b ⟨135, .l ascL, 0, 0, 0, false, false⟩)] = true := by kernel_rfl
set_option maxHeartbeats 2000000 in
theorem hyOkTr_p2 (T : List UInt8) (t : List UInt8) (X : Nat → Value) (i0 : trR t = T) (i1 : t.length ≤ 140737488355328) (h0 : 0 < (t.length : Int)) (h1 : ¬ (tb8 4294967808 (bt t (Int.toNat ((t.length : Int) - 1))) = true)) : ∀ k r, (k, r) ∈ hyTr_p2 → HOk (cx (nuX (nuTr_0 T t) X) (nuX_one (onTr_0 T t)) 0 laidE laidE_stab) k r := by
  have := bt_lo t (Int.toNat ((t.length : Int) - 1)); have := bt_hi t (Int.toNat ((t.length : Int) - 1))
  unfold hyTr_p2
  refine hcons (kLenE (isX rfl) (denX rfl) (by first | omega | (simp <;> omega))) ?_
  refine hcons (kGt (isX rfl) (isZ (m := 0) rfl) (decide_eq_true (by omega))) ?_
  refine hcons (kSub (isX rfl) (isZ (m := 1) rfl) (denX rfl) (by omega) (fI64 (by omega) (by omega))) ?_
  refine hcons (kIdxE (i := (Int.toNat ((t.length : Int) - 1))) (isX rfl) (isX rfl) (denX rfl) (by omega) (by first | omega | (simp <;> omega)) rfl) ?_
  refine hcons (kTabB 4294967808 (by kernel_rfl) (isX rfl) (by omega) (by omega) (tbF (by assumption))) ?_
  exact hnil
def nuETr_0 (T : List UInt8) : List Value := [St' T]
noncomputable def ETr_0 (T : List UInt8) : Cx := cx (nuX (nuETr_0 T) (fun _ => .bool true)) (nuX_one (nuL_one (l := nuETr_0 T) rfl)) 0 laidE laidE_stab
set_option maxHeartbeats 4000000 in
theorem roundsTr_0 (T : List UInt8) (st : Nat × List UInt8) (X : Nat → Value) (hI : InvTr T st) : RoundH (ETr_0 T) bodyTr keepTr 22 (.exit 0) 7 9 9 9 epTr hpTr [(0, .x 0)] [(8, .b ⟨135, .l ascL, 0, 0, 0, false, false⟩)] (InvTr T) (fun st : Nat × List UInt8 => (st.2).length) (DTr T) st X := by
  obtain ⟨tag, t⟩ := st
  have hI : (trR t = T) ∧ (t.length ≤ 140737488355328) ∧ (tag < 1) := hI
  obtain ⟨i0, i1, it⟩ := hI
  obtain rfl : tag = 0 := by omega
  skip
  by_cases h0 : 0 < (t.length : Int)
  · by_cases h1 : tb8 4294967808 (bt t (Int.toNat ((t.length : Int) - 1))) = true
    · exact RoundH.next (tb := tabTr_p1) (L := []) (f := 400) (th := [(0, .x 5)]) (sg := []) (0, (List.take (Int.toNat ((t.length : Int) - 1)) t)) ((tabkOk (nuX (nuTr_0 T t) X) (nuX_one (onTr_0 T t))).hyps (hyOkTr_p1 T t X i0 i1 h0 h1)) (LpOk.nil _) rfl (show InvTr T (0, (List.take (Int.toNat ((t.length : Int) - 1)) t)) from (show (trR (List.take (Int.toNat ((t.length : Int) - 1)) t) = T) ∧ ((List.take (Int.toNat ((t.length : Int) - 1)) t).length ≤ 140737488355328) ∧ (0 < 1) from ⟨by rw [← i0]; exact trR_step (i := (Int.toNat ((t.length : Int) - 1))) (by omega) (by assumption), by rw [List.length_take]; omega⟩)) (by show (List.take (Int.toNat ((t.length : Int) - 1)) t).length < t.length; rw [List.length_take]; omega) (thCons (show Is _ (.x 5) (St' (List.take (Int.toNat ((t.length : Int) - 1)) t)) from isTo (v := St' (List.take (Int.toNat ((t.length : Int) - 1)) t)) (isX rfl) (by first | rfl | (simp; done))) (thNil)) runTr_p1
    · exact RoundH.leave (tb := tabTr_p2) (L := []) (f := 400) (th := [(0, .x 0)]) (sg := []) ((tabkOk (nuX (nuTr_0 T t) X) (nuX_one (onTr_0 T t))).hyps (hyOkTr_p2 T t X i0 i1 h0 h1)) (LpOk.nil _) rfl rfl (thCons (show Is _ (.x 0) (St' T) from isTo (v := St' t) (isX rfl) (congrArg (fun l => St' l) (by rw [← i0]; exact (trR_end (i := (Int.toNat ((t.length : Int) - 1))) (by omega) (by assumption)).symm))) (thNil)) runTr_p2
  · exact RoundH.leave (tb := tabTr_p0) (L := []) (f := 400) (th := [(0, .x 0)]) (sg := []) ((tabkOk (nuX (nuTr_0 T t) X) (nuX_one (onTr_0 T t))).hyps (hyOkTr_p0 T t X i0 i1 h0)) (LpOk.nil _) rfl rfl (thCons (show Is _ (.x 0) (St' T) from isTo (v := St' t) (isX rfl) (congrArg (fun l => St' l) (by rw [← i0]; exact (trR_nil (by omega)).symm))) (thNil)) runTr_p0
theorem lfOkTr_0 {nu : Nat → Value} {one : ∀ i, i < 1000000 → (nu i).oneCell' = true} {l : LF} {h : LH} (T : List UInt8) (st : Nat × List UInt8) (hI : InvTr T st) (hl : l.hp = some h) (hs : lfSame l h 22 keepTr (.exit 0) 7 9 9 = true) {th0 : List (Nat × AV)} {sg0 : List (Nat × Nat)} (hth0 : ∀ X, ThOk (cx nu one 0 laidE laidE_stab) (DTr T st X) th0) (h0 : startOk l h 22 9 9 th0 sg0 (epTr st) (hpTr st) = true) {thx : List (Nat × AV)} (hthx : ThOk (ETr_0 T) (cx nu one 0 laidE laidE_stab) thx) (hx : exitOk l h 22 9 9 thx [(0, .x 0)] [(8, .b ⟨135, .l ascL, 0, 0, 0, false, false⟩)] = true) : LfOk (cx nu one 0 laidE laidE_stab) bodyTr l :=
  lfOkX (E := ETr_0 T) (InvTr T) (fun st : Nat × List UInt8 => (st.2).length) (DTr T) (fun _ _ => rfl) (fun _ _ => rfl) (fun _ _ => rfl) (fun st X t _ => nuX_keep) rfl rfl rfl hl hs (ebTr) rfl rfl st hI hth0 h0 hthx hx (fun st X hI => roundsTr_0 T st X hI)
noncomputable def bodyTl : Code := loopNo (Tryd.f96.body.getD .skip) 0
theorem keyTl : oneKey (loopsOf (Tryd.f96.body.getD .skip)) 1 0 0 = true := by kernel_rfl
def keepTl : List Nat := []
def epTl_0 : List (Nat × AV) := [(0, .x 0), (1, .p 8 0)]
def hpTl_0 : List (Nat × Ent) := [(8, .b ⟨135, .l ascL, 0, 0, 0, false, false⟩)]
def nuTl_0 (T : List UInt8) (t : List UInt8) : List Value := [St' t, .int .i64 ((t.length : Int)), .int .i64 ((t.length : Int)), .int .u8 (bt t 0), St' (List.drop (Int.toNat (1)) t), .int .i64 ((t.length : Int)), .int .u8 (bt t 0)]
theorem onTl_0 (T : List UInt8) (t : List UInt8) : ∀ j, (nuL (nuTl_0 T t) j).oneCell' = true := nuL_one (l := nuTl_0 T t) rfl
def epTl (st : Nat × List UInt8) : List (Nat × AV) := epTl_0
def hpTl (st : Nat × List UInt8) : List (Nat × Ent) := hpTl_0
def nuTl (T : List UInt8) (st : Nat × List UInt8) : List Value := nuTl_0 T (st.2)
theorem onTl (T : List UInt8) (st : Nat × List UInt8) : ∀ j, (nuL (nuTl T st) j).oneCell' = true := by
  intro j
  unfold nuTl
  exact onTl_0  T (st.2) j
theorem ebTl (st : Nat × List UInt8) : (lfB (epTl st) && lfC keepTl) = true := by
  unfold epTl
  rfl
noncomputable def DTl (T : List UInt8) (st : Nat × List UInt8) (X : Nat → Value) : Cx := cx (nuX (nuTl T st) X) (nuX_one (onTl T st)) 0 laidE laidE_stab
def InvTl (T : List UInt8) (st : Nat × List UInt8) : Prop := (trL (st.2) = T) ∧ ((st.2).length ≤ 140737488355328) ∧ ((st.1) < 1)
def hyTl_p0 : List (HK × AV) := [(.len (.x 0), .x 1), (.bin .gtr (.x 1) (.i .i64 (.ofNat 0)), .b false)]
noncomputable def tabTl_p0 : Tab := { tabk with hyp := hyTl_p0 }
theorem runTl_p0 : okRdH (code tabTl_p0 400 [] bodyTl (envOf (headOf epTl_0 keepTl) 16) ⟨lhSet hpTl_0 .leaf, 9, 0, 0⟩) (.exit 0) keepTl 16 9 [(0, .x 0)] [] 9 9 [(0, .x 0)] [(8, .b ⟨135, .l ascL, 0, 0, 0, false, false⟩)] = true := by kernel_rfl
set_option maxHeartbeats 2000000 in
theorem hyOkTl_p0 (T : List UInt8) (t : List UInt8) (X : Nat → Value) (i0 : trL t = T) (i1 : t.length ≤ 140737488355328) (h0 : ¬ (0 < (t.length : Int))) : ∀ k r, (k, r) ∈ hyTl_p0 → HOk (cx (nuX (nuTl_0 T t) X) (nuX_one (onTl_0 T t)) 0 laidE laidE_stab) k r := by
  unfold hyTl_p0
  refine hcons (kLenE (isX rfl) (denX rfl) (by first | omega | (simp <;> omega))) ?_
  refine hcons (kGt (isX rfl) (isZ (m := 0) rfl) (decide_eq_false (by omega))) ?_
  exact hnil
def hyTl_p1 : List (HK × AV) := [(.len (.x 0), .x 2), (.bin .gtr (.x 2) (.i .i64 (.ofNat 0)), .b true), (.idx (.x 0) (.i .i64 (.ofNat 0)), .x 3), (.tab ascL (.x 3), .b true), (.sub (.x 0) (some (.i .i64 (.ofNat 1))) none, .x 4)]
noncomputable def tabTl_p1 : Tab := { tabk with hyp := hyTl_p1 }
theorem runTl_p1 : okRdH (code tabTl_p1 400 [] bodyTl (envOf (headOf epTl_0 keepTl) 16) ⟨lhSet hpTl_0 .leaf, 9, 0, 0⟩) .normal keepTl 16 9 [(0, .x 4)] [] 9 9 epTl_0 hpTl_0 = true := by kernel_rfl
set_option maxHeartbeats 2000000 in
theorem hyOkTl_p1 (T : List UInt8) (t : List UInt8) (X : Nat → Value) (i0 : trL t = T) (i1 : t.length ≤ 140737488355328) (h0 : 0 < (t.length : Int)) (h1 : tb8 4294967808 (bt t 0) = true) : ∀ k r, (k, r) ∈ hyTl_p1 → HOk (cx (nuX (nuTl_0 T t) X) (nuX_one (onTl_0 T t)) 0 laidE laidE_stab) k r := by
  have := bt_lo t 0; have := bt_hi t 0
  have := lenDrop (l := t) (P := 1) (by first | omega | (simp <;> omega)) (by first | omega | (simp <;> omega))
  unfold hyTl_p1
  refine hcons (kLenE (isX rfl) (denX rfl) (by first | omega | (simp <;> omega))) ?_
  refine hcons (kGt (isX rfl) (isZ (m := 0) rfl) (decide_eq_true (by omega))) ?_
  refine hcons (kIdxE (i := 0) (isX rfl) (isZ (m := 0) rfl) (denX rfl) rfl (by first | omega | (simp <;> omega)) rfl) ?_
  refine hcons (kTabB 4294967808 (by kernel_rfl) (isX rfl) (by omega) (by omega) ((by assumption))) ?_
  refine hcons (kMid (P := 1) (Q := (t.length : Int)) (isX rfl) (.inr ⟨_, _, rfl, (isZ (m := 1) rfl)⟩) (.inl ⟨rfl, rfl⟩) (by first | omega | (simp <;> omega)) (by first | omega | (simp <;> omega)) (by first | omega | (simp <;> omega)) (denX (congrArg (fun l => St' l) dropE))) ?_
  exact hnil
def hyTl_p2 : List (HK × AV) := [(.len (.x 0), .x 5), (.bin .gtr (.x 5) (.i .i64 (.ofNat 0)), .b true), (.idx (.x 0) (.i .i64 (.ofNat 0)), .x 6), (.tab ascL (.x 6), .b false)]
noncomputable def tabTl_p2 : Tab := { tabk with hyp := hyTl_p2 }
theorem runTl_p2 : okRdH (code tabTl_p2 400 [] bodyTl (envOf (headOf epTl_0 keepTl) 16) ⟨lhSet hpTl_0 .leaf, 9, 0, 0⟩) (.exit 0) keepTl 16 9 [(0, .x 0)] [] 9 9 [(0, .x 0)] [(8, .b ⟨135, .l ascL, 0, 0, 0, false, false⟩)] = true := by kernel_rfl
set_option maxHeartbeats 2000000 in
theorem hyOkTl_p2 (T : List UInt8) (t : List UInt8) (X : Nat → Value) (i0 : trL t = T) (i1 : t.length ≤ 140737488355328) (h0 : 0 < (t.length : Int)) (h1 : ¬ (tb8 4294967808 (bt t 0) = true)) : ∀ k r, (k, r) ∈ hyTl_p2 → HOk (cx (nuX (nuTl_0 T t) X) (nuX_one (onTl_0 T t)) 0 laidE laidE_stab) k r := by
  have := bt_lo t 0; have := bt_hi t 0
  unfold hyTl_p2
  refine hcons (kLenE (isX rfl) (denX rfl) (by first | omega | (simp <;> omega))) ?_
  refine hcons (kGt (isX rfl) (isZ (m := 0) rfl) (decide_eq_true (by omega))) ?_
  refine hcons (kIdxE (i := 0) (isX rfl) (isZ (m := 0) rfl) (denX rfl) rfl (by first | omega | (simp <;> omega)) rfl) ?_
  refine hcons (kTabB 4294967808 (by kernel_rfl) (isX rfl) (by omega) (by omega) (tbF (by assumption))) ?_
  exact hnil
def nuETl_0 (T : List UInt8) : List Value := [St' T]
noncomputable def ETl_0 (T : List UInt8) : Cx := cx (nuX (nuETl_0 T) (fun _ => .bool true)) (nuX_one (nuL_one (l := nuETl_0 T) rfl)) 0 laidE laidE_stab
set_option maxHeartbeats 4000000 in
theorem roundsTl_0 (T : List UInt8) (st : Nat × List UInt8) (X : Nat → Value) (hI : InvTl T st) : RoundH (ETl_0 T) bodyTl keepTl 16 (.exit 0) 7 9 9 9 epTl hpTl [(0, .x 0)] [(8, .b ⟨135, .l ascL, 0, 0, 0, false, false⟩)] (InvTl T) (fun st : Nat × List UInt8 => (st.2).length) (DTl T) st X := by
  obtain ⟨tag, t⟩ := st
  have hI : (trL t = T) ∧ (t.length ≤ 140737488355328) ∧ (tag < 1) := hI
  obtain ⟨i0, i1, it⟩ := hI
  obtain rfl : tag = 0 := by omega
  skip
  by_cases h0 : 0 < (t.length : Int)
  · by_cases h1 : tb8 4294967808 (bt t 0) = true
    · exact RoundH.next (tb := tabTl_p1) (L := []) (f := 400) (th := [(0, .x 4)]) (sg := []) (0, (List.drop (Int.toNat (1)) t)) ((tabkOk (nuX (nuTl_0 T t) X) (nuX_one (onTl_0 T t))).hyps (hyOkTl_p1 T t X i0 i1 h0 h1)) (LpOk.nil _) rfl (show InvTl T (0, (List.drop (Int.toNat (1)) t)) from (show (trL (List.drop (Int.toNat (1)) t) = T) ∧ ((List.drop (Int.toNat (1)) t).length ≤ 140737488355328) ∧ (0 < 1) from ⟨by rw [← i0]; exact trL_step (by omega) (by assumption), by rw [List.length_drop]; omega⟩)) (by show (List.drop (Int.toNat (1)) t).length < t.length; rw [List.length_drop]; omega) (thCons (show Is _ (.x 4) (St' (List.drop (Int.toNat (1)) t)) from isTo (v := St' (List.drop (Int.toNat (1)) t)) (isX rfl) (by first | rfl | (simp; done))) (thNil)) runTl_p1
    · exact RoundH.leave (tb := tabTl_p2) (L := []) (f := 400) (th := [(0, .x 0)]) (sg := []) ((tabkOk (nuX (nuTl_0 T t) X) (nuX_one (onTl_0 T t))).hyps (hyOkTl_p2 T t X i0 i1 h0 h1)) (LpOk.nil _) rfl rfl (thCons (show Is _ (.x 0) (St' T) from isTo (v := St' t) (isX rfl) (congrArg (fun l => St' l) (by rw [← i0]; exact (trL_end (by omega) (by assumption)).symm))) (thNil)) runTl_p2
  · exact RoundH.leave (tb := tabTl_p0) (L := []) (f := 400) (th := [(0, .x 0)]) (sg := []) ((tabkOk (nuX (nuTl_0 T t) X) (nuX_one (onTl_0 T t))).hyps (hyOkTl_p0 T t X i0 i1 h0)) (LpOk.nil _) rfl rfl (thCons (show Is _ (.x 0) (St' T) from isTo (v := St' t) (isX rfl) (congrArg (fun l => St' l) (by rw [← i0]; exact (trL_nil (by omega)).symm))) (thNil)) runTl_p0
theorem lfOkTl_0 {nu : Nat → Value} {one : ∀ i, i < 1000000 → (nu i).oneCell' = true} {l : LF} {h : LH} (T : List UInt8) (st : Nat × List UInt8) (hI : InvTl T st) (hl : l.hp = some h) (hs : lfSame l h 16 keepTl (.exit 0) 7 9 9 = true) {th0 : List (Nat × AV)} {sg0 : List (Nat × Nat)} (hth0 : ∀ X, ThOk (cx nu one 0 laidE laidE_stab) (DTl T st X) th0) (h0 : startOk l h 16 9 9 th0 sg0 (epTl st) (hpTl st) = true) {thx : List (Nat × AV)} (hthx : ThOk (ETl_0 T) (cx nu one 0 laidE laidE_stab) thx) (hx : exitOk l h 16 9 9 thx [(0, .x 0)] [(8, .b ⟨135, .l ascL, 0, 0, 0, false, false⟩)] = true) : LfOk (cx nu one 0 laidE laidE_stab) bodyTl l :=
  lfOkX (E := ETl_0 T) (InvTl T) (fun st : Nat × List UInt8 => (st.2).length) (DTl T) (fun _ _ => rfl) (fun _ _ => rfl) (fun _ _ => rfl) (fun st X t _ => nuX_keep) rfl rfl rfl hl hs (ebTl) rfl rfl st hI hth0 h0 hthx hx (fun st X hI => roundsTl_0 T st X hI)
noncomputable def fi97 : FI := (tabk.fn.get 97).getD default
theorem fi97_at : tabk.fn.get 97 = some fi97 := by kernel_rfl
theorem fi97_body : fi97.body = some (Tryd.f97.body.getD .skip) := by kernel_rfl
noncomputable def fi65 : FI := (tabk.fn.get 65).getD default
theorem fi65_at : tabk.fn.get 65 = some fi65 := by kernel_rfl
theorem fi65_body : fi65.body = some (Tryd.f65.body.getD .skip) := by kernel_rfl
noncomputable def fi96 : FI := (tabk.fn.get 96).getD default
theorem fi96_at : tabk.fn.get 96 = some fi96 := by kernel_rfl
theorem fi96_body : fi96.body = some (Tryd.f96.body.getD .skip) := by kernel_rfl
def hyTrim_0 : List (HK × AV) := [(.bin .eql (.x 0) (.s 0 0), .b true)]
noncomputable def tabTrim_0 : Tab := { tabk with hyp := hyTrim_0 }
theorem runTrim_0 : okA (call tabTrim_0 9000 65 [.x 0, .s 2 2336] ⟨H0 , 7, 0, 0⟩) (.x 0) = true := by kernel_rfl
def nuTrim_0 (s : List UInt8) : List Value := [St' s]
theorem oneTrim_0 (s : List UInt8) : ∀ j, j < 1000000 → (nuL (nuTrim_0 s) j).oneCell' = true := fun j _ => nuL_one (l := nuTrim_0 s) rfl j
set_option maxHeartbeats 2000000 in
theorem hyOkTrim_0 (s : List UInt8) (b0 : s.length ≤ 9223372036854775807) (p0 : s.length ≤ 140737488355328) (h0 : (s.length : Int) = 0) : ∀ k r, (k, r) ∈ hyTrim_0 → HOk (cx (nuL (nuTrim_0 s)) (oneTrim_0 s) 0 laidE laidE_stab) k r := by
  unfold hyTrim_0
  refine hcons (kEqS (isX rfl) (isSx (l := ([] : List UInt8)) 0 0 rfl) (by first | exact nilT (by first | omega | (simp <;> omega)) | exact nilF (by first | omega | (simp <;> omega)) | exact nilT' (by first | omega | (simp <;> omega)) | exact nilF' (by first | omega | (simp <;> omega)))) ?_
  exact hnil
theorem pathTrim_0 (s : List UInt8) (b0 : s.length ≤ 9223372036854775807) (p0 : s.length ≤ 140737488355328) (h0 : (s.length : Int) = 0) (w : World) (hl : laidE w) : Calls Tryd.prog 65 #[St' s, St' [u8 32, u8 9]] w fun e w' => e = .returned (St' s) ∧ Go.AX.Below (Go.AX.Fz.lt w.heap.size) w w' := by
  obtain ⟨fi, hfi, hb⟩ : ∃ fi, tabk.fn.get 65 = some fi ∧ fi.body.isSome = true := ⟨_, rfl, by kernel_rfl⟩
  refine (runA (tb := tabTrim_0) (ra := .x 0) (hnr := rfl) ((tabkOk (nuL (nuTrim_0 s)) (oneTrim_0 s)).hyps (hyOkTrim_0 s b0 p0 h0)) rfl hfi hb (runTrim_0 ) (args := [St' s, St' [u8 32, u8 9]]) (by simp only [RelL, Rel]; exact ⟨_, _, rfl, rfl, ⟨_, _, rfl, ⟨rfl, by decide⟩, rfl⟩⟩) w hl).mono fun e w' he => ?_
  obtain ⟨x, rfl, hx, hb2⟩ := he
  simp only [Rel, RelL] at hx
  subst hx
  exact ⟨rfl, hb2⟩
def hyTrim_1 : List (HK × AV) := [(.bin .eql (.x 0) (.s 0 0), .b false)]
noncomputable def tabTrim_1 : Tab := addLps (addLps ({ tabk with hyp := hyTrim_1 }) 97 fi97 [⟨1, 22, [(0, .x 0), (1, .p 8 0)], [], (.exit 0), [(0, .x 1)], some ⟨7, 9, 9, [(8, .b ⟨135, .l ascL, 0, 0, 0, false, false⟩)], [(8, .b ⟨135, .l ascL, 0, 0, 0, false, false⟩)]⟩⟩]) 96 fi96 [⟨1, 16, [(0, .x 1), (1, .p 8 0)], [], (.exit 0), [(0, .x 2)], some ⟨7, 9, 9, [(8, .b ⟨135, .l ascL, 0, 0, 0, false, false⟩)], [(8, .b ⟨135, .l ascL, 0, 0, 0, false, false⟩)]⟩⟩]
theorem runTrim_1 : okA (call tabTrim_1 9000 65 [.x 0, .s 2 2336] ⟨H0 , 7, 0, 0⟩) (.x 2) = true := by kernel_rfl
def nuTrim_1 (s : List UInt8) : List Value := [St' s, St' (trR s), St' (trL (trR s))]
theorem oneTrim_1 (s : List UInt8) : ∀ j, j < 1000000 → (nuL (nuTrim_1 s) j).oneCell' = true := fun j _ => nuL_one (l := nuTrim_1 s) rfl j
set_option maxHeartbeats 2000000 in
theorem hyOkTrim_1 (s : List UInt8) (b0 : s.length ≤ 9223372036854775807) (p0 : s.length ≤ 140737488355328) (h0 : ¬ ((s.length : Int) = 0)) : ∀ k r, (k, r) ∈ hyTrim_1 → HOk (cx (nuL (nuTrim_1 s)) (oneTrim_1 s) 0 laidE laidE_stab) k r := by
  have := trR_len s
  have := trL_len (trR s)
  unfold hyTrim_1
  refine hcons (kEqS (isX rfl) (isSx (l := ([] : List UInt8)) 0 0 rfl) (by first | exact nilT (by first | omega | (simp <;> omega)) | exact nilF (by first | omega | (simp <;> omega)) | exact nilT' (by first | omega | (simp <;> omega)) | exact nilF' (by first | omega | (simp <;> omega)))) ?_
  exact hnil
theorem pathTrim_1 (s : List UInt8) (b0 : s.length ≤ 9223372036854775807) (p0 : s.length ≤ 140737488355328) (h0 : ¬ ((s.length : Int) = 0)) (w : World) (hl : laidE w) : Calls Tryd.prog 65 #[St' s, St' [u8 32, u8 9]] w fun e w' => e = .returned (St' (trL (trR s))) ∧ Go.AX.Below (Go.AX.Fz.lt w.heap.size) w w' := by
  have := trR_len s
  have := trL_len (trR s)
  obtain ⟨fi, hfi, hb⟩ : ∃ fi, tabTrim_1.fn.get 65 = some fi ∧ fi.body.isSome = true := ⟨_, (get_lps2 (by omega) (by omega) (get_lps2 (by omega) (by omega) fi65_at)), by show fi65.body.isSome = true; rw [fi65_body]; rfl⟩
  refine (runA (tb := tabTrim_1) (ra := .x 2) (hnr := rfl) (AllOk.lp1 (AllOk.lp1 ((tabkOk (nuL (nuTrim_1 s)) (oneTrim_1 s)).hyps (hyOkTrim_1 s b0 p0 h0)) (by omega) fi97_at fi97_body (lfCons ⟨0, keyTr, lfOkTr_0 (l := ⟨1, 22, [(0, .x 0), (1, .p 8 0)], [], (.exit 0), [(0, .x 1)], some ⟨7, 9, 9, [(8, .b ⟨135, .l ascL, 0, 0, 0, false, false⟩)], [(8, .b ⟨135, .l ascL, 0, 0, 0, false, false⟩)]⟩⟩) (h := ⟨7, 9, 9, [(8, .b ⟨135, .l ascL, 0, 0, 0, false, false⟩)], [(8, .b ⟨135, .l ascL, 0, 0, 0, false, false⟩)]⟩) (trR s) (0, s) (show InvTr (trR s) (0, s) from (show (trR s = (trR s)) ∧ (s.length ≤ 140737488355328) ∧ (0 < 1) from ⟨rfl, by first | omega | (simp <;> omega)⟩)) rfl (by kernel_rfl) (th0 := [(0, .x 0)]) (sg0 := []) (fun X => thCons (show Is _ (.x 0) (St' s) from isTo (v := St' s) (isX rfl) (by first | rfl | (simp; done))) (thNil)) (by kernel_rfl) (thx := [(1, .x 0)]) (thCons (show Is _ (.x 0) (St' (trR s)) from isTo (v := St' (trR s)) (isX rfl) (by first | rfl | (congr 1; omega))) (thNil)) (by kernel_rfl)⟩ lfNil)) (by omega) (get_lps2 (by omega) (by omega) fi96_at) fi96_body (lfCons ⟨0, keyTl, lfOkTl_0 (l := ⟨1, 16, [(0, .x 1), (1, .p 8 0)], [], (.exit 0), [(0, .x 2)], some ⟨7, 9, 9, [(8, .b ⟨135, .l ascL, 0, 0, 0, false, false⟩)], [(8, .b ⟨135, .l ascL, 0, 0, 0, false, false⟩)]⟩⟩) (h := ⟨7, 9, 9, [(8, .b ⟨135, .l ascL, 0, 0, 0, false, false⟩)], [(8, .b ⟨135, .l ascL, 0, 0, 0, false, false⟩)]⟩) (trL (trR s)) (0, (trR s)) (show InvTl (trL (trR s)) (0, (trR s)) from (show (trL (trR s) = (trL (trR s))) ∧ ((trR s).length ≤ 140737488355328) ∧ (0 < 1) from ⟨rfl, by first | omega | (simp <;> omega)⟩)) rfl (by kernel_rfl) (th0 := [(0, .x 1)]) (sg0 := []) (fun X => thCons (show Is _ (.x 1) (St' (trR s)) from isTo (v := St' (trR s)) (isX rfl) (by first | rfl | (simp; done))) (thNil)) (by kernel_rfl) (thx := [(2, .x 0)]) (thCons (show Is _ (.x 0) (St' (trL (trR s))) from isTo (v := St' (trL (trR s))) (isX rfl) (by first | rfl | (congr 1; omega))) (thNil)) (by kernel_rfl)⟩ lfNil)) rfl hfi hb (runTrim_1 ) (args := [St' s, St' [u8 32, u8 9]]) (by simp only [RelL, Rel]; exact ⟨_, _, rfl, rfl, ⟨_, _, rfl, ⟨rfl, by decide⟩, rfl⟩⟩) w hl).mono fun e w' he => ?_
  obtain ⟨x, rfl, hx, hb2⟩ := he
  simp only [Rel, RelL] at hx
  subst hx
  exact ⟨rfl, hb2⟩
theorem callsTrim (s : List UInt8) (b0 : s.length ≤ 9223372036854775807) (p0 : s.length ≤ 140737488355328) (w : World) (hl : laidE w) : Calls Tryd.prog 65 #[St' s, St' [u8 32, u8 9]] w fun e w' => e = .returned (St' (trS s)) ∧ Go.AX.Below (Go.AX.Fz.lt w.heap.size) w w' := by
  by_cases h0 : (s.length : Int) = 0
  · rw [show (St' (trS s) : Value) = (St' s : Value) from by first | rfl | (have e : s = [] := List.eq_nil_of_length_eq_zero (by omega); subst e; rfl)]
    exact pathTrim_0 s b0 p0 h0 w hl
  · rw [show (St' (trS s) : Value) = (St' (trL (trR s)) : Value) from by first | rfl | (have e : s = [] := List.eq_nil_of_length_eq_zero (by omega); subst e; rfl)]
    exact pathTrim_1 s b0 p0 h0 w hl
theorem hokTrim {nu : Nat → Value} {one : ∀ i, i < 1000000 → (nu i).oneCell' = true} {x0 x1 r : AV} {s : List UInt8} (i0 : Is (cx nu one 0 laidE laidE_stab) x0 (St' s)) (i1 : Is (cx nu one 0 laidE laidE_stab) x1 (St' [u8 32, u8 9])) (hr : Den (cx nu one 0 laidE laidE_stab) r (St' (trS s))) (b0 : s.length ≤ 9223372036854775807) (p0 : s.length ≤ 140737488355328) : HOk (cx nu one 0 laidE laidE_stab) (.call 65 [x0, x1]) r := by
  intro ρ args ha w hl _
  simp only [RelL] at ha
  obtain ⟨v0, t0, rfl, a0, v1, t1, rfl, a1, rfl⟩ := ha
  have e0 := i0 ρ _ a0; subst e0
  have e1 := i1 ρ _ a1; subst e1
  exact (callsTrim s b0 p0 w hl).mono fun e w' he => ⟨_, he.1, hr ρ, he.2⟩
def lowB (c : Int) : Int := if 65 ≤ c ∧ c ≤ 90 then c + 32 else c
def lowU (b : UInt8) : UInt8 := u8 (lowB (b.toNat : Int))
def lowS (l : List UInt8) : List UInt8 := l.map lowU
theorem u8_self (b : UInt8) : u8 (b.toNat : Int) = b := by
  have := u8_bt [b] 0
  simpa [bt] using this
theorem low_drop {l : List UInt8} {i : Nat} (hi : i < l.length) : l.drop i = u8 (bt l i) :: l.drop (i + 1) := by
  rw [List.drop_eq_getElem_cons hi, u8_bt, List.getD_eq_getElem?_getD, List.getElem?_eq_getElem hi, Option.getD_some]
theorem low_take {l : List UInt8} {i : Nat} (hi : i < l.length) : l.take (i + 1) = l.take i ++ [u8 (bt l i)] := by
  rw [List.take_succ_eq_append_getElem hi, u8_bt, List.getD_eq_getElem?_getD, List.getElem?_eq_getElem hi, Option.getD_some]
theorem lowU_u8 {c : Int} (h0 : 0 ≤ c) (h1 : c ≤ 255) : lowU (u8 c) = u8 (lowB c) := by unfold lowU; rw [u8_toNat h0 h1]
theorem low_keep {l : List UInt8} {i : Nat} (hi : i < l.length) (h : ¬ (65 ≤ bt l i ∧ bt l i ≤ 90)) : l.take (i + 1) ++ lowS (l.drop (i + 1)) = l.take i ++ lowS (l.drop i) := by
  rw [low_take hi, low_drop hi, lowS, lowS, List.map_cons, lowU_u8 (bt_lo _ _) (bt_hi _ _), lowB, if_neg h]; simp
theorem low_set {l : List UInt8} {i : Nat} (hi : i < l.length) (h : 65 ≤ bt l i ∧ bt l i ≤ 90) : (l.set i (u8 (bt l i + 32))).take (i + 1) ++ lowS ((l.set i (u8 (bt l i + 32))).drop (i + 1)) = l.take i ++ lowS (l.drop i) := by
  have h1 : (l.set i (u8 (bt l i + 32))).take (i + 1) = l.take i ++ [u8 (bt l i + 32)] := by
    rw [List.take_succ_eq_append_getElem (by simpa using hi), List.take_set_of_le (Nat.le_refl _)]; simp
  have h2 : (l.set i (u8 (bt l i + 32))).drop (i + 1) = l.drop (i + 1) := by rw [List.drop_set_of_lt (by omega)]
  rw [h1, h2, low_drop hi, lowS, lowS, List.map_cons, lowU_u8 (bt_lo _ _) (bt_hi _ _), lowB, if_pos h]; simp
theorem low_end {l : List UInt8} {i : Nat} (hi : l.length ≤ i) : l.take i ++ lowS (l.drop i) = l := by
  rw [List.take_of_length_le hi, List.drop_eq_nil_of_le hi]; simp [lowS]
noncomputable def bodyLw : Code := loopNo (Tryd.f22.body.getD .skip) 0
theorem keyLw : oneKey (loopsOf (Tryd.f22.body.getD .skip)) 3 0 0 = true := by kernel_rfl
def keepLw : List Nat := [0, 2, 6]
def epLw_0 : List (Nat × AV) := [(3, .sy 7), (7, .sy 7), (8, .sy 7), (9, .x 1), (10, .x 2)]
def hpLw_0 : List (Nat × Ent) := [(7, .t 0 5)]
def nuLw_0 (T : List UInt8) (l : List UInt8) (i : Int) : List Value := [St' l, .int .i64 ((l.length : Int)), .int .i64 (i), .int .u8 (bt l (Int.toNat (i))), .int .i64 (i + 1), .int .u8 (bt l (Int.toNat (i))), .int .u8 ((bt l (Int.toNat (i))) + 97), .int .u8 ((bt l (Int.toNat (i))) + 32), St' (List.set l (Int.toNat (i)) (u8 ((bt l (Int.toNat (i))) + 32))), .int .i64 (i + 1), .int .u8 (bt l (Int.toNat (i))), .int .i64 (i + 1)]
theorem onLw_0 (T : List UInt8) (l : List UInt8) (i : Int) : ∀ j, (nuL (nuLw_0 T l i) j).oneCell' = true := nuL_one (l := nuLw_0 T l i) rfl
def epLw (st : Nat × List UInt8 × Int) : List (Nat × AV) := epLw_0
def hpLw (st : Nat × List UInt8 × Int) : List (Nat × Ent) := hpLw_0
def nuLw (T : List UInt8) (st : Nat × List UInt8 × Int) : List Value := nuLw_0 T (st.2.1) (st.2.2)
theorem onLw (T : List UInt8) (st : Nat × List UInt8 × Int) : ∀ j, (nuL (nuLw T st) j).oneCell' = true := by
  intro j
  unfold nuLw
  exact onLw_0  T (st.2.1) (st.2.2) j
theorem ebLw (st : Nat × List UInt8 × Int) : (lfB (epLw st) && lfC keepLw) = true := by
  unfold epLw
  rfl
noncomputable def DLw (T : List UInt8) (st : Nat × List UInt8 × Int) (X : Nat → Value) : Cx := cx (nuX (nuLw T st) X) (nuX_one (onLw T st)) 0 laidE laidE_stab
def InvLw (T : List UInt8) (st : Nat × List UInt8 × Int) : Prop := (0 ≤ (st.2.2)) ∧ ((st.2.2) ≤ ((st.2.1).length : Int)) ∧ ((st.2.1).take (st.2.2).toNat ++ lowS ((st.2.1).drop (st.2.2).toNat) = T) ∧ ((st.2.1).length ≤ 140737488355328) ∧ ((st.1) < 1)
def hyLw_p0 : List (HK × AV) := [(.bin .lss (.x 2) (.x 1), .b false)]
noncomputable def tabLw_p0 : Tab := { tabk with hyp := hyLw_p0 }
theorem runLw_p0 : okRdH (code tabLw_p0 400 [] bodyLw (envOf (headOf epLw_0 keepLw) 30) ⟨lhSet hpLw_0 .leaf, 8, 0, 0⟩) (.exit 0) keepLw 30 8 [(0, .x 0)] [] 8 8 [(3, .sy 7)] [(7, .t 0 5)] = true := by kernel_rfl
set_option maxHeartbeats 2000000 in
theorem hyOkLw_p0 (T : List UInt8) (l : List UInt8) (i : Int) (X : Nat → Value) (i0 : 0 ≤ i) (i1 : i ≤ (l.length : Int)) (i2 : l.take i.toNat ++ lowS (l.drop i.toNat) = T) (i3 : l.length ≤ 140737488355328) (h0 : ¬ (i < (l.length : Int))) : ∀ k r, (k, r) ∈ hyLw_p0 → HOk (cx (nuX (nuLw_0 T l i) X) (nuX_one (onLw_0 T l i)) 0 laidE laidE_stab) k r := by
  unfold hyLw_p0
  refine hcons (kLt (isX rfl) (isX rfl) (decide_eq_false (by omega))) ?_
  exact hnil
def hyLw_p1 : List (HK × AV) := [(.bin .lss (.x 2) (.x 1), .b true), (.byt (.x 0) (.x 2), .x 3), (.bin .geq (.x 3) (.i .u8 (.ofNat 65)), .b true), (.bin .leq (.x 3) (.i .u8 (.ofNat 90)), .b false), (.bin .add (.x 2) (.i .i64 (.ofNat 1)), .x 4)]
noncomputable def tabLw_p1 : Tab := { tabk with hyp := hyLw_p1 }
theorem runLw_p1 : okRdH (code tabLw_p1 400 [] bodyLw (envOf (headOf epLw_0 keepLw) 30) ⟨lhSet hpLw_0 .leaf, 8, 0, 0⟩) .normal keepLw 30 8 [(0, .x 0), (1, .x 1), (2, .x 4)] [] 8 8 epLw_0 hpLw_0 = true := by kernel_rfl
set_option maxHeartbeats 2000000 in
theorem hyOkLw_p1 (T : List UInt8) (l : List UInt8) (i : Int) (X : Nat → Value) (i0 : 0 ≤ i) (i1 : i ≤ (l.length : Int)) (i2 : l.take i.toNat ++ lowS (l.drop i.toNat) = T) (i3 : l.length ≤ 140737488355328) (h0 : i < (l.length : Int)) (h1 : 65 ≤ bt l (Int.toNat (i))) (h2 : ¬ (bt l (Int.toNat (i)) ≤ 90)) : ∀ k r, (k, r) ∈ hyLw_p1 → HOk (cx (nuX (nuLw_0 T l i) X) (nuX_one (onLw_0 T l i)) 0 laidE laidE_stab) k r := by
  have := bt_lo l (Int.toNat (i)); have := bt_hi l (Int.toNat (i))
  unfold hyLw_p1
  refine hcons (kLt (isX rfl) (isX rfl) (decide_eq_true (by omega))) ?_
  refine hcons (kByt (i := (Int.toNat (i))) (isX rfl) (isX rfl) (denX rfl) (by omega) (by first | omega | (simp <;> omega)) rfl) ?_
  refine hcons (kGe (isX rfl) (isZ (m := 65) rfl) (decide_eq_true (by omega))) ?_
  refine hcons (kLe (isX rfl) (isZ (m := 90) rfl) (decide_eq_false (by omega))) ?_
  refine hcons (kAdd (isX rfl) (isZ (m := 1) rfl) (denX rfl) (by omega) (fI64 (by omega) (by omega))) ?_
  exact hnil
def hyLw_p2 : List (HK × AV) := [(.bin .lss (.x 2) (.x 1), .b true), (.byt (.x 0) (.x 2), .x 5), (.bin .geq (.x 5) (.i .u8 (.ofNat 65)), .b true), (.bin .leq (.x 5) (.i .u8 (.ofNat 90)), .b true), (.bin .add (.x 5) (.i .u8 (.ofNat 97)), .x 6), (.bin .sub (.x 6) (.i .u8 (.ofNat 65)), .x 7), (.set (.x 0) (.x 2) (.x 7), .x 8), (.bin .add (.x 2) (.i .i64 (.ofNat 1)), .x 9)]
noncomputable def tabLw_p2 : Tab := { tabk with hyp := hyLw_p2 }
theorem runLw_p2 : okRdH (code tabLw_p2 400 [] bodyLw (envOf (headOf epLw_0 keepLw) 30) ⟨lhSet hpLw_0 .leaf, 8, 0, 0⟩) .normal keepLw 30 8 [(0, .x 8), (1, .x 1), (2, .x 9)] [] 8 8 epLw_0 hpLw_0 = true := by kernel_rfl
set_option maxHeartbeats 2000000 in
theorem hyOkLw_p2 (T : List UInt8) (l : List UInt8) (i : Int) (X : Nat → Value) (i0 : 0 ≤ i) (i1 : i ≤ (l.length : Int)) (i2 : l.take i.toNat ++ lowS (l.drop i.toNat) = T) (i3 : l.length ≤ 140737488355328) (h0 : i < (l.length : Int)) (h1 : 65 ≤ bt l (Int.toNat (i))) (h2 : bt l (Int.toNat (i)) ≤ 90) : ∀ k r, (k, r) ∈ hyLw_p2 → HOk (cx (nuX (nuLw_0 T l i) X) (nuX_one (onLw_0 T l i)) 0 laidE laidE_stab) k r := by
  have := bt_lo l (Int.toNat (i)); have := bt_hi l (Int.toNat (i))
  have : (List.set l (Int.toNat (i)) (u8 ((bt l (Int.toNat (i))) + 32))).length = l.length := List.length_set ..
  unfold hyLw_p2
  refine hcons (kLt (isX rfl) (isX rfl) (decide_eq_true (by omega))) ?_
  refine hcons (kByt (i := (Int.toNat (i))) (isX rfl) (isX rfl) (denX rfl) (by omega) (by first | omega | (simp <;> omega)) rfl) ?_
  refine hcons (kGe (isX rfl) (isZ (m := 65) rfl) (decide_eq_true (by omega))) ?_
  refine hcons (kLe (isX rfl) (isZ (m := 90) rfl) (decide_eq_true (by omega))) ?_
  refine hcons (kAdd (isX rfl) (isZ (m := 97) rfl) (denX rfl) (by omega) (fU8 (by omega) (by omega))) ?_
  refine hcons (kSub (isX rfl) (isZ (m := 65) rfl) (denX rfl) (by omega) (fU8 (by omega) (by omega))) ?_
  refine hcons (kSet (i := (Int.toNat (i))) (isX rfl) (isX rfl) (isX rfl) (denX rfl) (by omega) (by first | omega | (simp <;> omega)) (by omega) (by omega) rfl) ?_
  refine hcons (kAdd (isX rfl) (isZ (m := 1) rfl) (denX rfl) (by omega) (fI64 (by omega) (by omega))) ?_
  exact hnil
def hyLw_p3 : List (HK × AV) := [(.bin .lss (.x 2) (.x 1), .b true), (.byt (.x 0) (.x 2), .x 10), (.bin .geq (.x 10) (.i .u8 (.ofNat 65)), .b false), (.bin .add (.x 2) (.i .i64 (.ofNat 1)), .x 11)]
noncomputable def tabLw_p3 : Tab := { tabk with hyp := hyLw_p3 }
theorem runLw_p3 : okRdH (code tabLw_p3 400 [] bodyLw (envOf (headOf epLw_0 keepLw) 30) ⟨lhSet hpLw_0 .leaf, 8, 0, 0⟩) .normal keepLw 30 8 [(0, .x 0), (1, .x 1), (2, .x 11)] [] 8 8 epLw_0 hpLw_0 = true := by kernel_rfl
set_option maxHeartbeats 2000000 in
theorem hyOkLw_p3 (T : List UInt8) (l : List UInt8) (i : Int) (X : Nat → Value) (i0 : 0 ≤ i) (i1 : i ≤ (l.length : Int)) (i2 : l.take i.toNat ++ lowS (l.drop i.toNat) = T) (i3 : l.length ≤ 140737488355328) (h0 : i < (l.length : Int)) (h1 : ¬ (65 ≤ bt l (Int.toNat (i)))) : ∀ k r, (k, r) ∈ hyLw_p3 → HOk (cx (nuX (nuLw_0 T l i) X) (nuX_one (onLw_0 T l i)) 0 laidE laidE_stab) k r := by
  have := bt_lo l (Int.toNat (i)); have := bt_hi l (Int.toNat (i))
  unfold hyLw_p3
  refine hcons (kLt (isX rfl) (isX rfl) (decide_eq_true (by omega))) ?_
  refine hcons (kByt (i := (Int.toNat (i))) (isX rfl) (isX rfl) (denX rfl) (by omega) (by first | omega | (simp <;> omega)) rfl) ?_
  refine hcons (kGe (isX rfl) (isZ (m := 65) rfl) (decide_eq_false (by omega))) ?_
  refine hcons (kAdd (isX rfl) (isZ (m := 1) rfl) (denX rfl) (by omega) (fI64 (by omega) (by omega))) ?_
  exact hnil
def nuELw_0 (T : List UInt8) : List Value := [St' T]
noncomputable def ELw_0 (T : List UInt8) : Cx := cx (nuX (nuELw_0 T) (fun _ => .bool true)) (nuX_one (nuL_one (l := nuELw_0 T) rfl)) 0 laidE laidE_stab
set_option maxHeartbeats 4000000 in
theorem roundsLw_0 (T : List UInt8) (st : Nat × List UInt8 × Int) (X : Nat → Value) (hI : InvLw T st) : RoundH (ELw_0 T) bodyLw keepLw 30 (.exit 0) 7 8 8 8 epLw hpLw [(3, .sy 7)] [(7, .t 0 5)] (InvLw T) (fun st : Nat × List UInt8 × Int => ((st.2.1).length - (st.2.2).toNat)) (DLw T) st X := by
  obtain ⟨tag, l, i⟩ := st
  have hI : (0 ≤ i) ∧ (i ≤ (l.length : Int)) ∧ (l.take i.toNat ++ lowS (l.drop i.toNat) = T) ∧ (l.length ≤ 140737488355328) ∧ (tag < 1) := hI
  obtain ⟨i0, i1, i2, i3, it⟩ := hI
  obtain rfl : tag = 0 := by omega
  skip
  by_cases h0 : i < (l.length : Int)
  · by_cases h1 : 65 ≤ bt l (Int.toNat (i))
    · by_cases h2 : bt l (Int.toNat (i)) ≤ 90
      · exact RoundH.next (tb := tabLw_p2) (L := []) (f := 400) (th := [(0, .x 8), (1, .x 1), (2, .x 9)]) (sg := []) (0, (List.set l (Int.toNat (i)) (u8 ((bt l (Int.toNat (i))) + 32))), (i + 1)) ((tabkOk (nuX (nuLw_0 T l i) X) (nuX_one (onLw_0 T l i))).hyps (hyOkLw_p2 T l i X i0 i1 i2 i3 h0 h1 h2)) (LpOk.nil _) rfl (show InvLw T (0, (List.set l (Int.toNat (i)) (u8 ((bt l (Int.toNat (i))) + 32))), (i + 1)) from (show (0 ≤ (i + 1)) ∧ ((i + 1) ≤ ((List.set l (Int.toNat (i)) (u8 ((bt l (Int.toNat (i))) + 32))).length : Int)) ∧ ((List.set l (Int.toNat (i)) (u8 ((bt l (Int.toNat (i))) + 32))).take (i + 1).toNat ++ lowS ((List.set l (Int.toNat (i)) (u8 ((bt l (Int.toNat (i))) + 32))).drop (i + 1).toNat) = T) ∧ ((List.set l (Int.toNat (i)) (u8 ((bt l (Int.toNat (i))) + 32))).length ≤ 140737488355328) ∧ (0 < 1) from ⟨by omega, by rw [List.length_set]; omega, by rw [← i2, show (i + 1).toNat = i.toNat + 1 by omega]; exact low_set (by omega) (by omega), by rw [List.length_set]; omega, by omega⟩)) (by show (List.set l (Int.toNat (i)) _).length - (i + 1).toNat < l.length - i.toNat; rw [List.length_set]; omega) (thCons (show Is _ (.x 8) (St' (List.set l (Int.toNat (i)) (u8 ((bt l (Int.toNat (i))) + 32)))) from isTo (v := St' (List.set l (Int.toNat (i)) (u8 ((bt l (Int.toNat (i))) + 32)))) (isX rfl) (by first | rfl | (simp; done))) (thCons (show Is _ (.x 1) (.int .i64 (((List.set l (Int.toNat (i)) (u8 ((bt l (Int.toNat (i))) + 32))).length : Int))) from isTo (v := .int .i64 ((l.length : Int))) (isX rfl) (congrArg (Value.int .i64) (by rw [List.length_set]))) (thCons (show Is _ (.x 9) (.int .i64 ((i + 1))) from isTo (v := .int .i64 (i + 1)) (isX rfl) (by first | rfl | (congr 1; omega))) (thNil)))) runLw_p2
      · exact RoundH.next (tb := tabLw_p1) (L := []) (f := 400) (th := [(0, .x 0), (1, .x 1), (2, .x 4)]) (sg := []) (0, l, (i + 1)) ((tabkOk (nuX (nuLw_0 T l i) X) (nuX_one (onLw_0 T l i))).hyps (hyOkLw_p1 T l i X i0 i1 i2 i3 h0 h1 h2)) (LpOk.nil _) rfl (show InvLw T (0, l, (i + 1)) from (show (0 ≤ (i + 1)) ∧ ((i + 1) ≤ (l.length : Int)) ∧ (l.take (i + 1).toNat ++ lowS (l.drop (i + 1).toNat) = T) ∧ (l.length ≤ 140737488355328) ∧ (0 < 1) from ⟨by omega, by omega, by rw [← i2, show (i + 1).toNat = i.toNat + 1 by omega]; exact low_keep (by omega) (by omega), by omega, by omega⟩)) (by show l.length - (i + 1).toNat < l.length - i.toNat; omega) (thCons (show Is _ (.x 0) (St' l) from isTo (v := St' l) (isX rfl) (by first | rfl | (simp; done))) (thCons (show Is _ (.x 1) (.int .i64 ((l.length : Int))) from isTo (v := .int .i64 ((l.length : Int))) (isX rfl) (by first | rfl | (congr 1; omega))) (thCons (show Is _ (.x 4) (.int .i64 ((i + 1))) from isTo (v := .int .i64 (i + 1)) (isX rfl) (by first | rfl | (congr 1; omega))) (thNil)))) runLw_p1
    · exact RoundH.next (tb := tabLw_p3) (L := []) (f := 400) (th := [(0, .x 0), (1, .x 1), (2, .x 11)]) (sg := []) (0, l, (i + 1)) ((tabkOk (nuX (nuLw_0 T l i) X) (nuX_one (onLw_0 T l i))).hyps (hyOkLw_p3 T l i X i0 i1 i2 i3 h0 h1)) (LpOk.nil _) rfl (show InvLw T (0, l, (i + 1)) from (show (0 ≤ (i + 1)) ∧ ((i + 1) ≤ (l.length : Int)) ∧ (l.take (i + 1).toNat ++ lowS (l.drop (i + 1).toNat) = T) ∧ (l.length ≤ 140737488355328) ∧ (0 < 1) from ⟨by omega, by omega, by rw [← i2, show (i + 1).toNat = i.toNat + 1 by omega]; exact low_keep (by omega) (by omega), by omega, by omega⟩)) (by show l.length - (i + 1).toNat < l.length - i.toNat; omega) (thCons (show Is _ (.x 0) (St' l) from isTo (v := St' l) (isX rfl) (by first | rfl | (simp; done))) (thCons (show Is _ (.x 1) (.int .i64 ((l.length : Int))) from isTo (v := .int .i64 ((l.length : Int))) (isX rfl) (by first | rfl | (congr 1; omega))) (thCons (show Is _ (.x 11) (.int .i64 ((i + 1))) from isTo (v := .int .i64 (i + 1)) (isX rfl) (by first | rfl | (congr 1; omega))) (thNil)))) runLw_p3
  · exact RoundH.leave (tb := tabLw_p0) (L := []) (f := 400) (th := [(0, .x 0)]) (sg := []) ((tabkOk (nuX (nuLw_0 T l i) X) (nuX_one (onLw_0 T l i))).hyps (hyOkLw_p0 T l i X i0 i1 i2 i3 h0)) (LpOk.nil _) rfl rfl (thCons (show Is _ (.x 0) (St' T) from isTo (v := St' l) (isX rfl) (congrArg (fun l => St' l) (by rw [← i2]; exact (low_end (by omega)).symm))) (thNil)) runLw_p0
theorem lfOkLw_0 {nu : Nat → Value} {one : ∀ i, i < 1000000 → (nu i).oneCell' = true} {l : LF} {h : LH} (T : List UInt8) (st : Nat × List UInt8 × Int) (hI : InvLw T st) (hl : l.hp = some h) (hs : lfSame l h 30 keepLw (.exit 0) 7 8 8 = true) {th0 : List (Nat × AV)} {sg0 : List (Nat × Nat)} (hth0 : ∀ X, ThOk (cx nu one 0 laidE laidE_stab) (DLw T st X) th0) (h0 : startOk l h 30 8 8 th0 sg0 (epLw st) (hpLw st) = true) {thx : List (Nat × AV)} (hthx : ThOk (ELw_0 T) (cx nu one 0 laidE laidE_stab) thx) (hx : exitOk l h 30 8 8 thx [(3, .sy 7)] [(7, .t 0 5)] = true) : LfOk (cx nu one 0 laidE laidE_stab) bodyLw l :=
  lfOkX (E := ELw_0 T) (InvLw T) (fun st : Nat × List UInt8 × Int => ((st.2.1).length - (st.2.2).toNat)) (DLw T) (fun _ _ => rfl) (fun _ _ => rfl) (fun _ _ => rfl) (fun st X t _ => nuX_keep) rfl rfl rfl hl hs (ebLw) rfl rfl st hI hth0 h0 hthx hx (fun st X hI => roundsLw_0 T st X hI)
noncomputable def fi22 : FI := (tabk.fn.get 22).getD default
theorem fi22_at : tabk.fn.get 22 = some fi22 := by kernel_rfl
theorem fi22_body : fi22.body = some (Tryd.f22.body.getD .skip) := by kernel_rfl
def hyLower_0 : List (HK × AV) := [(.fit (.x 0), .b true), (.len (.x 0), .x 1)]
noncomputable def tabLower_0 : Tab := addLps ({ tabk with hyp := hyLower_0 }) 22 fi22 [⟨3, 30, [(3, .sy 7), (7, .sy 7), (8, .sy 7), (9, .x 1), (10, .i .i64 (.ofNat 0))], [0, 2, 6], (.exit 0), [(3, .sy 7)], some ⟨7, 8, 8, [(7, .t 0 5)], [(7, .t 2 5)]⟩⟩]
theorem runLower_0 : okA (call tabLower_0 9000 22 [.x 0] ⟨H0 , 7, 0, 0⟩) (.x 2) = true := by kernel_rfl
def nuLower_0 (s : List UInt8) : List Value := [St' s, .int .i64 ((s.length : Int)), St' (lowS s)]
theorem oneLower_0 (s : List UInt8) : ∀ j, j < 1000000 → (nuL (nuLower_0 s) j).oneCell' = true := fun j _ => nuL_one (l := nuLower_0 s) rfl j
set_option maxHeartbeats 2000000 in
theorem hyOkLower_0 (s : List UInt8) (b0 : s.length ≤ 9223372036854775807) (p0 : s.length ≤ 140737488355328) : ∀ k r, (k, r) ∈ hyLower_0 → HOk (cx (nuL (nuLower_0 s)) (oneLower_0 s) 0 laidE laidE_stab) k r := by
  have : (lowS s).length = s.length := List.length_map ..
  unfold hyLower_0
  refine hcons (kFit (isX rfl) (by first | omega | (simp <;> omega))) ?_
  refine hcons (kLenE (isX rfl) (denX rfl) (by first | omega | (simp <;> omega))) ?_
  exact hnil
theorem pathLower_0 (s : List UInt8) (b0 : s.length ≤ 9223372036854775807) (p0 : s.length ≤ 140737488355328) (w : World) (hl : laidE w) : Calls Tryd.prog 22 #[St' s] w fun e w' => e = .returned (St' (lowS s)) ∧ Go.AX.Below (Go.AX.Fz.lt w.heap.size) w w' := by
  have : (lowS s).length = s.length := List.length_map ..
  obtain ⟨fi, hfi, hb⟩ : ∃ fi, tabLower_0.fn.get 22 = some fi ∧ fi.body.isSome = true := ⟨_, (get_lps (by omega)), by show fi22.body.isSome = true; rw [fi22_body]; rfl⟩
  refine (runA (tb := tabLower_0) (ra := .x 2) (hnr := rfl) (AllOk.lp1 ((tabkOk (nuL (nuLower_0 s)) (oneLower_0 s)).hyps (hyOkLower_0 s b0 p0)) (by omega) fi22_at fi22_body (lfCons ⟨0, keyLw, lfOkLw_0 (l := ⟨3, 30, [(3, .sy 7), (7, .sy 7), (8, .sy 7), (9, .x 1), (10, .i .i64 (.ofNat 0))], [0, 2, 6], (.exit 0), [(3, .sy 7)], some ⟨7, 8, 8, [(7, .t 0 5)], [(7, .t 2 5)]⟩⟩) (h := ⟨7, 8, 8, [(7, .t 0 5)], [(7, .t 2 5)]⟩) (lowS s) (0, s, (0 : Int)) (show InvLw (lowS s) (0, s, (0 : Int)) from (show (0 ≤ (0 : Int)) ∧ ((0 : Int) ≤ (s.length : Int)) ∧ (s.take (0 : Int).toNat ++ lowS (s.drop (0 : Int).toNat) = (lowS s)) ∧ (s.length ≤ 140737488355328) ∧ (0 < 1) from ⟨by omega, by omega, by simp, by omega, by omega⟩)) rfl (by kernel_rfl) (th0 := [(0, .x 0), (1, .x 1), (2, .i .i64 (.ofNat 0))]) (sg0 := []) (fun X => thCons (show Is _ (.x 0) (St' s) from isTo (v := St' s) (isX rfl) (by first | rfl | (simp; done))) (thCons (show Is _ (.x 1) (.int .i64 ((s.length : Int))) from isTo (v := .int .i64 ((s.length : Int))) (isX rfl) (by first | rfl | (congr 1; omega))) (thCons (show Is _ (.i .i64 (.ofNat 0)) (.int .i64 ((0 : Int))) from isTo (v := .int .i64 0) (isI _ _) (by first | rfl | (congr 1; omega))) (thNil)))) (by kernel_rfl) (thx := [(2, .x 0)]) (thCons (show Is _ (.x 0) (St' (lowS s)) from isTo (v := St' (lowS s)) (isX rfl) (by first | rfl | (congr 1; omega))) (thNil)) (by kernel_rfl)⟩ lfNil)) rfl hfi hb (runLower_0 ) (args := [St' s]) (by simp only [RelL, Rel]; exact ⟨_, _, rfl, rfl, rfl⟩) w hl).mono fun e w' he => ?_
  obtain ⟨x, rfl, hx, hb2⟩ := he
  simp only [Rel, RelL] at hx
  subst hx
  exact ⟨rfl, hb2⟩
theorem callsLower (s : List UInt8) (b0 : s.length ≤ 9223372036854775807) (p0 : s.length ≤ 140737488355328) (w : World) (hl : laidE w) : Calls Tryd.prog 22 #[St' s] w fun e w' => e = .returned (St' (lowS s)) ∧ Go.AX.Below (Go.AX.Fz.lt w.heap.size) w w' := by
  rw [show (St' (lowS s) : Value) = (St' (lowS s) : Value) from by rfl]
  exact pathLower_0 s b0 p0 w hl
theorem hokLower {nu : Nat → Value} {one : ∀ i, i < 1000000 → (nu i).oneCell' = true} {x0 r : AV} {s : List UInt8} (i0 : Is (cx nu one 0 laidE laidE_stab) x0 (St' s)) (hr : Den (cx nu one 0 laidE laidE_stab) r (St' (lowS s))) (b0 : s.length ≤ 9223372036854775807) (p0 : s.length ≤ 140737488355328) : HOk (cx nu one 0 laidE laidE_stab) (.call 22 [x0]) r := by
  intro ρ args ha w hl _
  simp only [RelL] at ha
  obtain ⟨v0, t0, rfl, a0, rfl⟩ := ha
  have e0 := i0 ρ _ a0; subst e0
  exact (callsLower s b0 p0 w hl).mono fun e w' he => ⟨_, he.1, hr ρ, he.2⟩
def hasZ (s : List UInt8) : Bool := s.any (· == 0)
theorem low_idem (s : List UInt8) : lowS (lowS s) = lowS s := by
  unfold lowS
  rw [List.map_map]
  refine List.map_congr_left fun b _ => ?_
  have h0 : 0 ≤ (b.toNat : Int) := by omega
  have h1 : (b.toNat : Int) ≤ 255 := by have := b.toNat_lt; omega
  have hb : 0 ≤ lowB (b.toNat : Int) ∧ lowB (b.toNat : Int) ≤ 255 := by unfold lowB; split <;> omega
  show lowU (u8 (lowB (b.toNat : Int))) = u8 (lowB (b.toNat : Int))
  rw [lowU_u8 hb.1 hb.2]
  congr 1
  unfold lowB
  split
  · rw [if_neg (by omega)]
  · rfl
theorem trR_cons (a : UInt8) (r : List UInt8) : trR (a :: r) = if trR r = [] ∧ bl a = true then [] else a :: trR r := by
  unfold trR
  rw [List.reverse_cons, List.dropWhile_append]
  by_cases h : (r.reverse.dropWhile bl) = []
  · rw [h]
    cases hb : bl a <;> simp [hb]
  · have : (r.reverse.dropWhile bl).isEmpty = false := by simpa using h
    simp [this, h]
theorem trR_idem : ∀ l : List UInt8, trR (trR l) = trR l
  | [] => rfl
  | a :: r => by
    rw [trR_cons]
    split
    · rfl
    · rename_i h
      rw [trR_cons, trR_idem r, if_neg h]
theorem trR_drop : ∀ x : List UInt8, trR x = x → trR (x.dropWhile bl) = x.dropWhile bl
  | [], _ => rfl
  | a :: r, h => by
    rw [List.dropWhile_cons]
    split
    · refine trR_drop r ?_
      rw [trR_cons] at h
      split at h
      · cases h
      · injection h
    · exact h
theorem trL_idem (l : List UInt8) : trL (trL l) = trL l := by
  unfold trL
  induction l with
  | nil => rfl
  | cons a r ih =>
    rw [List.dropWhile_cons]
    split
    · exact ih
    · rename_i h; rw [List.dropWhile_cons, if_neg h]
theorem tr_idem (s : List UInt8) : trS (trS s) = trS s := by
  unfold trS
  rw [show trR (trL (trR s)) = trL (trR s) from trR_drop _ (trR_idem s), trL_idem]
theorem trR_snoc {p : List UInt8} {b : UInt8} (h : bl b = true) : trR (p ++ [b]) = trR p := by
  unfold trR
  rw [List.reverse_append, List.reverse_singleton, List.singleton_append, List.dropWhile_cons, h]; rfl
theorem tr_pad (s : List UInt8) : trS ([u8 32] ++ (s ++ [u8 9])) = trS s := by
  have h9 : bl (u8 9) = true := by decide +kernel
  have h32 : bl (u8 32) = true := by decide +kernel
  unfold trS
  rw [← List.append_assoc, trR_snoc h9, List.singleton_append, trR_cons]
  split
  · rename_i h; rw [h.1]
  · unfold trL; rw [List.dropWhile_cons, h32]; rfl
theorem bt_cons0 (a : UInt8) (r : List UInt8) : bt (a :: r) 0 = (a.toNat : Int) := rfl
theorem bt_cons1 (a b : UInt8) (r : List UInt8) : bt (a :: b :: r) 1 = (b.toNat : Int) := rfl
theorem bt_cons2 (a b c : UInt8) (r : List UInt8) : bt (a :: b :: c :: r) 2 = (c.toNat : Int) := rfl
theorem pl37 : tb8 MAln 37 = false ∧ vIxp 37 = -1 ∧ tb8 MAln 0 = false ∧ vIxp 0 = -1 := by decide +kernel
theorem dgt_hx {d : Int} (h0 : 0 ≤ d) (h1 : d ≤ 15) : vDgt (hxU d) = d := by
  obtain ⟨n, rfl⟩ := Int.eq_ofNat_of_zero_le h0
  have h : ∀ m : Fin 16, vDgt (hxU (m.val : Int)) = (m.val : Int) := by decide +kernel
  exact h ⟨n, by omega⟩
theorem unesc_cons (c : UInt8) (t : List UInt8) : unS (escB (c.toNat : Int) ++ t) = if c = 0 then none else (unS t).map (c :: ·) := by
  have hc0 : 0 ≤ (c.toNat : Int) := by omega
  have hc1 : (c.toNat : Int) ≤ 255 := by have := c.toNat_lt; omega
  have hu : u8 (c.toNat : Int) = c := u8_self c
  by_cases hp : tb8 MAln (c.toNat : Int) = true ∨ 0 ≤ vIxp (c.toNat : Int)
  · have hne : ¬ ((c.toNat : Int) = 37) := fun e => by
      rw [e] at hp; obtain ⟨h1, h2, _⟩ := pl37; rw [h1, h2] at hp; rcases hp with hp | hp
      · cases hp
      · omega
    have hz : ¬ (c = 0) := fun e => by
      subst e
      have e0 : (((0 : UInt8)).toNat : Int) = 0 := rfl
      rw [e0] at hp; obtain ⟨_, _, h1, h2⟩ := pl37; rw [h1, h2] at hp; rcases hp with hp | hp
      · cases hp
      · omega
    rw [escB, if_pos hp, if_neg hz, hu, List.singleton_append, un_plain (by simp) (by rw [bt_cons0]; exact hne), bt_cons0, hu]; rfl
  · have q1 := hxU_lo (d := (c.toNat : Int) / 16) (by omega) (by omega)
    have q2 := hxU_lo (d := (c.toNat : Int) % 16) (by omega) (by omega)
    have b0 : bt (u8 37 :: u8 (hxU ((c.toNat : Int) / 16)) :: u8 (hxU ((c.toNat : Int) % 16)) :: t) 0 = 37 := by rw [bt_cons0, u8_toNat (by omega) (by omega)]
    have b1 : bt (u8 37 :: u8 (hxU ((c.toNat : Int) / 16)) :: u8 (hxU ((c.toNat : Int) % 16)) :: t) 1 = hxU ((c.toNat : Int) / 16) := by rw [bt_cons1, u8_toNat (by omega) (by omega)]
    have b2 : bt (u8 37 :: u8 (hxU ((c.toNat : Int) / 16)) :: u8 (hxU ((c.toNat : Int) % 16)) :: t) 2 = hxU ((c.toNat : Int) % 16) := by rw [bt_cons2, u8_toNat (by omega) (by omega)]
    have v1 : vDgt (hxU ((c.toNat : Int) / 16)) = (c.toNat : Int) / 16 := dgt_hx (by omega) (by omega)
    have v2 : vDgt (hxU ((c.toNat : Int) % 16)) = (c.toNat : Int) % 16 := dgt_hx (by omega) (by omega)
    rw [escB, if_neg hp]
    show unS (u8 37 :: u8 (hxU ((c.toNat : Int) / 16)) :: u8 (hxU ((c.toNat : Int) % 16)) :: t) = _
    by_cases hz : c = 0
    · rw [if_pos hz]
      have e0 : (c.toNat : Int) = 0 := by rw [hz]; rfl
      refine un_bad b0 (by simp only [List.length_cons]; omega) fun h => ?_
      rw [b1, b2, v1, v2] at h
      omega
    · rw [if_neg hz]
      have e0 : ¬ ((c.toNat : Int) = 0) := fun e => hz (by rw [← hu, e]; rfl)
      rw [un_esc b0 (by simp only [List.length_cons]; omega) ⟨by rw [b1, v1]; omega, by rw [b2, v2]; omega, by rw [b1, b2, v1, v2]; omega⟩, b1, b2, v1, v2]
      rw [show ((c.toNat : Int) / 16 * 16 + (c.toNat : Int) % 16) % 256 = (c.toNat : Int) by omega, hu]; rfl
theorem unesc_esc : ∀ s : List UInt8, hasZ s = false → unS (escS s) = some s
  | [], _ => un_nil rfl
  | c :: r, h => by
    unfold hasZ at h
    rw [List.any_cons, Bool.or_eq_false_iff] at h
    rw [escS, unesc_cons, if_neg (by simpa using h.1), unesc_esc r h.2]; rfl
theorem unesc_zero : ∀ s : List UInt8, hasZ s = true → unS (escS s) = none
  | [], h => by cases h
  | c :: r, h => by
    rw [escS, unesc_cons]
    split
    · rfl
    · rename_i hz
      unfold hasZ at h
      rw [List.any_cons, Bool.or_eq_true] at h
      rcases h with h | h
      · exact absurd (by simpa using h) hz
      · rw [unesc_zero r h]; rfl
theorem hasZ_step {s : List UInt8} {i : Int} (h0 : 0 ≤ i) (h : i < (s.length : Int)) (hb : ¬ (bt s i.toNat = 0)) : hasZ (s.drop (i + 1).toNat) = hasZ (s.drop i.toNat) := by
  rw [drop_bt h0 h]
  unfold hasZ
  rw [List.any_cons]
  have : (u8 (bt s i.toNat) == 0) = false := by
    rw [beq_eq_false_iff_ne]; intro e
    have := u8_toNat (bt_lo s i.toNat) (bt_hi s i.toNat)
    rw [e] at this; exact hb this.symm
  rw [this, Bool.false_or]
theorem hasZ_at {s : List UInt8} {i : Int} (h0 : 0 ≤ i) (h : i < (s.length : Int)) (hb : bt s i.toNat = 0) : hasZ (s.drop i.toNat) = true := by
  rw [drop_bt h0 h, hb]; rfl
theorem hasZ_end {s : List UInt8} {i : Int} (h : ¬ i < (s.length : Int)) : hasZ (s.drop i.toNat) = false := by
  rw [List.drop_eq_nil_of_le (by omega)]; rfl
theorem denNi {C : Cx} : Den C .ni .nilIface := fun ρ => by simp only [Rel]
theorem denIfc {C : Cx} {t : Nat} {a : AV} {v : Value} (h : Den C a v) : Den C (.ifc t a) (.iface t v) := fun ρ => by simp only [Rel]; exact ⟨_, rfl, h ρ⟩
theorem denA2 {C : Cx} {a b : AV} {v u : Value} (h : Den C a v) (k : Den C b u) : Den C (.ag [a, b]) (.agg #[v, u]) := fun ρ => by simp only [Rel, RelL]; exact ⟨_, rfl, _, _, rfl, h ρ, _, _, rfl, k ρ, rfl⟩
theorem denS0 {C : Cx} : Den C (.s 0 0) (St' []) := denS (len := 0) (n := 0) (by decide)
theorem trS_len (l : List UInt8) : (trS l).length ≤ l.length := Nat.le_trans (trL_len _) (trR_len _)
noncomputable def bodyBk : Code := loopNo (Tryd.f4.body.getD .skip) 0
theorem keyBk : oneKey (loopsOf (Tryd.f4.body.getD .skip)) 6 0 0 = true := by kernel_rfl
def keepBk : List Nat := []
def epBk_0 : List (Nat × AV) := [(0, .x 0), (3, .x 1)]
def hpBk_0 : List (Nat × Ent) := []
def nuBk_0 (s : List UInt8) (i : Int) : List Value := [St' s, .int .i64 (i), .int .i64 ((s.length : Int)), .int .i64 ((s.length : Int)), .int .u8 (bt s (Int.toNat (i))), .int .i64 (i + 1), .int .i64 ((s.length : Int)), .int .u8 (bt s (Int.toNat (i))), St' (escS s), St' (unM (escS s))]
theorem onBk_0 (s : List UInt8) (i : Int) : ∀ j, (nuL (nuBk_0 s i) j).oneCell' = true := nuL_one (l := nuBk_0 s i) rfl
def epBk (st : Nat × Int) : List (Nat × AV) := epBk_0
def hpBk (st : Nat × Int) : List (Nat × Ent) := hpBk_0
def nuBk (s : List UInt8) (st : Nat × Int) : List Value := nuBk_0 s (st.2)
theorem onBk (s : List UInt8) (st : Nat × Int) : ∀ j, (nuL (nuBk s st) j).oneCell' = true := by
  intro j
  unfold nuBk
  exact onBk_0  s (st.2) j
theorem ebBk (st : Nat × Int) : (lfB (epBk st) && lfC keepBk) = true := by
  unfold epBk
  rfl
noncomputable def DBk (s : List UInt8) (st : Nat × Int) (X : Nat → Value) : Cx := cx (nuX (nuBk s st) X) (nuX_one (onBk s st)) 0 laidE laidE_stab
def InvBk (s : List UInt8) (st : Nat × Int) : Prop := (0 ≤ (st.2)) ∧ ((st.2) ≤ (s.length : Int)) ∧ (hasZ (s.drop (st.2).toNat) = hasZ s) ∧ ((st.1) < 1)
def hyBk_p0 : List (HK × AV) := [(.len (.x 0), .x 2), (.bin .lss (.x 1) (.x 2), .b false)]
noncomputable def tabBk_p0 : Tab := { tabk with hyp := hyBk_p0 }
theorem runBk_p0 : okRdH (code tabBk_p0 4000 [] bodyBk (envOf (headOf epBk_0 keepBk) 70) ⟨lhSet hpBk_0 .leaf, 7, 0, 0⟩) (.exit 0) keepBk 70 37 [(0, .x 0)] [] 7 37 [(0, .x 0)] [] = true := by kernel_rfl
set_option maxHeartbeats 2000000 in
theorem hyOkBk_p0 (s : List UInt8) (i : Int) (X : Nat → Value) (c0 : s.length ≤ 400) (i0 : 0 ≤ i) (i1 : i ≤ (s.length : Int)) (i2 : hasZ (s.drop i.toNat) = hasZ s) (h0 : ¬ (i < (s.length : Int))) : ∀ k r, (k, r) ∈ hyBk_p0 → HOk (cx (nuX (nuBk_0 s i) X) (nuX_one (onBk_0 s i)) 0 laidE laidE_stab) k r := by
  have hz : i < (s.length : Int) → bt s i.toNat = 0 → unS (escS s) = none := fun h1 h2 => unesc_zero s (i2 ▸ hasZ_at i0 h1 h2)
  unfold hyBk_p0
  refine hcons (kLenE (isX rfl) (denX rfl) (by first | omega | (simp <;> omega))) ?_
  refine hcons (kLt (isX rfl) (isX rfl) (decide_eq_false (by omega))) ?_
  exact hnil
def hyBk_p1 : List (HK × AV) := [(.len (.x 0), .x 3), (.bin .lss (.x 1) (.x 3), .b true), (.idx (.x 0) (.x 1), .x 4), (.bin .eql (.x 4) (.i .u8 (.ofNat 0)), .b false), (.bin .add (.x 1) (.i .i64 (.ofNat 1)), .x 5)]
noncomputable def tabBk_p1 : Tab := { tabk with hyp := hyBk_p1 }
theorem runBk_p1 : okRdH (code tabBk_p1 4000 [] bodyBk (envOf (headOf epBk_0 keepBk) 70) ⟨lhSet hpBk_0 .leaf, 7, 0, 0⟩) .normal keepBk 70 37 [(0, .x 0), (1, .x 5)] [] 7 7 epBk_0 hpBk_0 = true := by kernel_rfl
set_option maxHeartbeats 2000000 in
theorem hyOkBk_p1 (s : List UInt8) (i : Int) (X : Nat → Value) (c0 : s.length ≤ 400) (i0 : 0 ≤ i) (i1 : i ≤ (s.length : Int)) (i2 : hasZ (s.drop i.toNat) = hasZ s) (h0 : i < (s.length : Int)) (h1 : ¬ (bt s (Int.toNat (i)) = 0)) : ∀ k r, (k, r) ∈ hyBk_p1 → HOk (cx (nuX (nuBk_0 s i) X) (nuX_one (onBk_0 s i)) 0 laidE laidE_stab) k r := by
  have hz : i < (s.length : Int) → bt s i.toNat = 0 → unS (escS s) = none := fun h1 h2 => unesc_zero s (i2 ▸ hasZ_at i0 h1 h2)
  have := bt_lo s (Int.toNat (i)); have := bt_hi s (Int.toNat (i))
  unfold hyBk_p1
  refine hcons (kLenE (isX rfl) (denX rfl) (by first | omega | (simp <;> omega))) ?_
  refine hcons (kLt (isX rfl) (isX rfl) (decide_eq_true (by omega))) ?_
  refine hcons (kIdxE (i := (Int.toNat (i))) (isX rfl) (isX rfl) (denX rfl) (by omega) (by first | omega | (simp <;> omega)) rfl) ?_
  refine hcons (kEqI (isX rfl) (isZ (m := 0) rfl) (decide_eq_false (by omega))) ?_
  refine hcons (kAdd (isX rfl) (isZ (m := 1) rfl) (denX rfl) (by omega) (fI64 (by omega) (by omega))) ?_
  exact hnil
def hyBk_p2 : List (HK × AV) := [(.len (.x 0), .x 6), (.bin .lss (.x 1) (.x 6), .b true), (.idx (.x 0) (.x 1), .x 7), (.bin .eql (.x 7) (.i .u8 (.ofNat 0)), .b true), (.call 27 [.x 0], .x 8), (.call 18 [.x 8], .tu [.s 0 0, .ifc 163 (.ag [.i .i64 (.ofNat 10), .x 9])])]
noncomputable def tabBk_p2 : Tab := { tabk with hyp := hyBk_p2 }
theorem runBk_p2 : okRdH (code tabBk_p2 4000 [] bodyBk (envOf (headOf epBk_0 keepBk) 70) ⟨lhSet hpBk_0 .leaf, 7, 0, 0⟩) .ret keepBk 70 37 [] [] 7 37 [(2, .b true)] [] = true := by kernel_rfl
set_option maxHeartbeats 2000000 in
theorem hyOkBk_p2 (s : List UInt8) (i : Int) (X : Nat → Value) (c0 : s.length ≤ 400) (i0 : 0 ≤ i) (i1 : i ≤ (s.length : Int)) (i2 : hasZ (s.drop i.toNat) = hasZ s) (h0 : i < (s.length : Int)) (h1 : bt s (Int.toNat (i)) = 0) : ∀ k r, (k, r) ∈ hyBk_p2 → HOk (cx (nuX (nuBk_0 s i) X) (nuX_one (onBk_0 s i)) 0 laidE laidE_stab) k r := by
  have hz : i < (s.length : Int) → bt s i.toNat = 0 → unS (escS s) = none := fun h1 h2 => unesc_zero s (i2 ▸ hasZ_at i0 h1 h2)
  have := bt_lo s (Int.toNat (i)); have := bt_hi s (Int.toNat (i))
  have := escS_len s
  unfold hyBk_p2
  refine hcons (kLenE (isX rfl) (denX rfl) (by first | omega | (simp <;> omega))) ?_
  refine hcons (kLt (isX rfl) (isX rfl) (decide_eq_true (by omega))) ?_
  refine hcons (kIdxE (i := (Int.toNat (i))) (isX rfl) (isX rfl) (denX rfl) (by omega) (by first | omega | (simp <;> omega)) rfl) ?_
  refine hcons (kEqI (isX rfl) (isZ (m := 0) rfl) (decide_eq_true (by omega))) ?_
  refine hcons (hokEscape (s := s) (isX rfl) (denX rfl) (by first | omega | (simp only [List.length_append, List.length_cons, List.length_nil]; omega)) (by first | omega | (simp only [List.length_append, List.length_cons, List.length_nil]; omega))) ?_
  refine hcons (hokUnesc (s := (escS s)) (isX rfl) (by rw [if_pos (hz (by omega) (by assumption))]; exact denT2 denS0 (denIfc (denA2 (denI .i64 10) (denX rfl)))) (by first | omega | (simp only [List.length_append, List.length_cons, List.length_nil]; omega)) (by first | omega | (simp only [List.length_append, List.length_cons, List.length_nil]; omega))) ?_
  exact hnil
def nuEBk_0 (s : List UInt8) : List Value := [St' s]
noncomputable def EBk_0 (s : List UInt8) : Cx := cx (nuX (nuEBk_0 s) (fun _ => .bool true)) (nuX_one (nuL_one (l := nuEBk_0 s) rfl)) 0 laidE laidE_stab
set_option maxHeartbeats 4000000 in
theorem roundsBk_0 (s : List UInt8) (c0 : s.length ≤ 400) (x0 : hasZ s = false) (st : Nat × Int) (X : Nat → Value) (hI : InvBk s st) : RoundH (EBk_0 s) bodyBk keepBk 70 (.exit 0) 7 7 7 37 epBk hpBk [(0, .x 0)] [] (InvBk s) (fun st : Nat × Int => (s.length - (st.2).toNat)) (DBk s) st X := by
  obtain ⟨tag, i⟩ := st
  have hI : (0 ≤ i) ∧ (i ≤ (s.length : Int)) ∧ (hasZ (s.drop i.toNat) = hasZ s) ∧ (tag < 1) := hI
  obtain ⟨i0, i1, i2, it⟩ := hI
  obtain rfl : tag = 0 := by omega
  skip
  have hz : i < (s.length : Int) → bt s i.toNat = 0 → unS (escS s) = none := fun h1 h2 => unesc_zero s (i2 ▸ hasZ_at i0 h1 h2)
  by_cases h0 : i < (s.length : Int)
  · by_cases h1 : bt s (Int.toNat (i)) = 0
    · exfalso; have h := hasZ_at i0 (by omega) (by assumption); rw [i2, x0] at h; cases h
    · exact RoundH.next (tb := tabBk_p1) (L := []) (f := 4000) (th := [(0, .x 0), (1, .x 5)]) (sg := []) (0, (i + 1)) ((tabkOk (nuX (nuBk_0 s i) X) (nuX_one (onBk_0 s i))).hyps (hyOkBk_p1 s i X c0 i0 i1 i2 h0 h1)) (LpOk.nil _) rfl (show InvBk s (0, (i + 1)) from (show (0 ≤ (i + 1)) ∧ ((i + 1) ≤ (s.length : Int)) ∧ (hasZ (s.drop (i + 1).toNat) = hasZ s) ∧ (0 < 1) from ⟨by omega, by omega, by rw [hasZ_step i0 (by omega) (by omega)]; exact i2, by omega⟩)) (by show s.length - (i + 1).toNat < s.length - i.toNat; omega) (thCons (show Is _ (.x 0) (St' s) from isTo (v := St' s) (isX rfl) (by first | rfl | (simp; done))) (thCons (show Is _ (.x 5) (.int .i64 ((i + 1))) from isTo (v := .int .i64 (i + 1)) (isX rfl) (by first | rfl | (congr 1; omega))) (thNil))) runBk_p1
  · exact RoundH.leave (tb := tabBk_p0) (L := []) (f := 4000) (th := [(0, .x 0)]) (sg := []) ((tabkOk (nuX (nuBk_0 s i) X) (nuX_one (onBk_0 s i))).hyps (hyOkBk_p0 s i X c0 i0 i1 i2 h0)) (LpOk.nil _) rfl rfl (thCons (show Is _ (.x 0) (St' s) from isTo (v := St' s) (isX rfl) (by first | rfl | (simp; done))) (thNil)) runBk_p0
theorem lfOkBk_0 {nu : Nat → Value} {one : ∀ i, i < 1000000 → (nu i).oneCell' = true} {l : LF} {h : LH} (s : List UInt8) (c0 : s.length ≤ 400) (x0 : hasZ s = false) (st : Nat × Int) (hI : InvBk s st) (hl : l.hp = some h) (hs : lfSame l h 70 keepBk (.exit 0) 7 7 37 = true) {th0 : List (Nat × AV)} {sg0 : List (Nat × Nat)} (hth0 : ∀ X, ThOk (cx nu one 0 laidE laidE_stab) (DBk s st X) th0) (h0 : startOk l h 70 7 7 th0 sg0 (epBk st) (hpBk st) = true) {thx : List (Nat × AV)} (hthx : ThOk (EBk_0 s) (cx nu one 0 laidE laidE_stab) thx) (hx : exitOk l h 70 7 37 thx [(0, .x 0)] [] = true) : LfOk (cx nu one 0 laidE laidE_stab) bodyBk l :=
  lfOkX (E := EBk_0 s) (InvBk s) (fun st : Nat × Int => (s.length - (st.2).toNat)) (DBk s) (fun _ _ => rfl) (fun _ _ => rfl) (fun _ _ => rfl) (fun st X t _ => nuX_keep) rfl rfl rfl hl hs (ebBk) rfl rfl st hI hth0 h0 hthx hx (fun st X hI => roundsBk_0 s c0 x0 st X hI)
def nuEBk_1 (s : List UInt8) : List Value := []
noncomputable def EBk_1 (s : List UInt8) : Cx := cx (nuX (nuEBk_1 s) (fun _ => .bool true)) (nuX_one (nuL_one (l := nuEBk_1 s) rfl)) 0 laidE laidE_stab
set_option maxHeartbeats 4000000 in
theorem roundsBk_1 (s : List UInt8) (c0 : s.length ≤ 400) (x0 : hasZ s = true) (st : Nat × Int) (X : Nat → Value) (hI : InvBk s st) : RoundH (EBk_1 s) bodyBk keepBk 70 .ret 7 7 7 37 epBk hpBk [(2, .b true)] [] (InvBk s) (fun st : Nat × Int => (s.length - (st.2).toNat)) (DBk s) st X := by
  obtain ⟨tag, i⟩ := st
  have hI : (0 ≤ i) ∧ (i ≤ (s.length : Int)) ∧ (hasZ (s.drop i.toNat) = hasZ s) ∧ (tag < 1) := hI
  obtain ⟨i0, i1, i2, it⟩ := hI
  obtain rfl : tag = 0 := by omega
  skip
  have hz : i < (s.length : Int) → bt s i.toNat = 0 → unS (escS s) = none := fun h1 h2 => unesc_zero s (i2 ▸ hasZ_at i0 h1 h2)
  by_cases h0 : i < (s.length : Int)
  · by_cases h1 : bt s (Int.toNat (i)) = 0
    · exact RoundH.leave (tb := tabBk_p2) (L := []) (f := 4000) (th := []) (sg := []) ((tabkOk (nuX (nuBk_0 s i) X) (nuX_one (onBk_0 s i))).hyps (hyOkBk_p2 s i X c0 i0 i1 i2 h0 h1)) (LpOk.nil _) rfl rfl (thNil) runBk_p2
    · exact RoundH.next (tb := tabBk_p1) (L := []) (f := 4000) (th := [(0, .x 0), (1, .x 5)]) (sg := []) (0, (i + 1)) ((tabkOk (nuX (nuBk_0 s i) X) (nuX_one (onBk_0 s i))).hyps (hyOkBk_p1 s i X c0 i0 i1 i2 h0 h1)) (LpOk.nil _) rfl (show InvBk s (0, (i + 1)) from (show (0 ≤ (i + 1)) ∧ ((i + 1) ≤ (s.length : Int)) ∧ (hasZ (s.drop (i + 1).toNat) = hasZ s) ∧ (0 < 1) from ⟨by omega, by omega, by rw [hasZ_step i0 (by omega) (by omega)]; exact i2, by omega⟩)) (by show s.length - (i + 1).toNat < s.length - i.toNat; omega) (thCons (show Is _ (.x 0) (St' s) from isTo (v := St' s) (isX rfl) (by first | rfl | (simp; done))) (thCons (show Is _ (.x 5) (.int .i64 ((i + 1))) from isTo (v := .int .i64 (i + 1)) (isX rfl) (by first | rfl | (congr 1; omega))) (thNil))) runBk_p1
  · exfalso; have h := hasZ_end (s := s) (i := i) (by omega); rw [i2, x0] at h; cases h
theorem lfOkBk_1 {nu : Nat → Value} {one : ∀ i, i < 1000000 → (nu i).oneCell' = true} {l : LF} {h : LH} (s : List UInt8) (c0 : s.length ≤ 400) (x0 : hasZ s = true) (st : Nat × Int) (hI : InvBk s st) (hl : l.hp = some h) (hs : lfSame l h 70 keepBk .ret 7 7 37 = true) {th0 : List (Nat × AV)} {sg0 : List (Nat × Nat)} (hth0 : ∀ X, ThOk (cx nu one 0 laidE laidE_stab) (DBk s st X) th0) (h0 : startOk l h 70 7 7 th0 sg0 (epBk st) (hpBk st) = true) {thx : List (Nat × AV)} (hthx : ThOk (EBk_1 s) (cx nu one 0 laidE laidE_stab) thx) (hx : exitOk l h 70 7 37 thx [(2, .b true)] [] = true) : LfOk (cx nu one 0 laidE laidE_stab) bodyBk l :=
  lfOkX (E := EBk_1 s) (InvBk s) (fun st : Nat × Int => (s.length - (st.2).toNat)) (DBk s) (fun _ _ => rfl) (fun _ _ => rfl) (fun _ _ => rfl) (fun st X t _ => nuX_keep) rfl rfl rfl hl hs (ebBk) rfl rfl st hI hth0 h0 hthx hx (fun st X hI => roundsBk_1 s c0 x0 st X hI)
noncomputable def fi4 : FI := (tabk.fn.get 4).getD default
theorem fi4_at : tabk.fn.get 4 = some fi4 := by kernel_rfl
theorem fi4_body : fi4.body = some (Tryd.f4.body.getD .skip) := by kernel_rfl
end Go.Proofs.YtacflaaahanhgaaDoor.octetBack
