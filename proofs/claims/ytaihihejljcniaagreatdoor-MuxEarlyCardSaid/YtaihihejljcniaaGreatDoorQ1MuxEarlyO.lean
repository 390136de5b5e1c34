/- A part of the proof: an interpreter of the model's own code on partly known states, and that what it answers is what the program answers. No condition of its own. -/
import Derived.Test.YtaihihejljcniaaGreatDoorSeatQ1
import Derived.Test.YtaihihejljcniaaGreatDoorHXpart4
import Derived.Test.YtaihihejljcniaaGreatDoorAXro
import Derived.Test.YtaihihejljcniaaGreatDoorHKA
set_option maxRecDepth 100000
set_option linter.unusedVariables false
set_option linter.unusedSimpArgs false
namespace Go.Proofs.YtaihihejljcniaaGreatDoor.muxEarly
open Go Go.AX Go.Proofs Go.Proofs.YtaihihejljcniaaGreatDoor
def laidE0 (w : World) : Prop := ∃ e fz, w.heap[0]? = some (.cells ⟨[.iface 128 (.agg #[typeHandle Tryz.prog 27])]⟩ e fz)
theorem laidE0_same {w w' : World} (h : laidE0 w) (hh : w'.heap[0]? = w.heap[0]?) : laidE0 w' := by
  obtain ⟨e, fz, hw⟩ := h
  exact ⟨e, fz, by rw [hh]; exact hw⟩
theorem laidE0_size {w : World} (h : laidE0 w) : 0 < w.heap.size := by
  obtain ⟨e, fz, hw⟩ := h
  rcases Nat.lt_or_ge 0 w.heap.size with h0 | h0
  · exact h0
  · rw [Array.getElem?_eq_none h0] at hw; cases hw
theorem geOf {C : Cx} {w : World} (hP : C.P = Tryz.prog) (h : laidE0 w) : ∃ e, GArr C w 0 e [.ifc 128 (.ag [.h 27])] := by
  obtain ⟨e, fz, h0⟩ := h
  refine ⟨e, _, fz, h0, rfl, fun j a hj => ?_⟩
  match j, hj with
  | 0, hj =>
    simp only [List.getElem?_cons_zero, Option.some.injEq] at hj
    subst hj
    refine ⟨.iface 128 (.agg #[typeHandle Tryz.prog 27]), rfl, ?_, rfl⟩
    simp only [Rel, RelL, hP]
    exact ⟨_, rfl, _, rfl, _, _, rfl, rfl, rfl⟩
  | j + 1, hj => simp at hj
/-- the variables that the runs read are laid -/
def laidE (w : World) : Prop := laidE0 w
theorem laidE_stab : ∀ w w' : World, (∀ k, k < 1 → w'.heap[k]? = w.heap[k]?) → laidE w → laidE w' := fun w w' h hE => laidE0_same hE (h 0 (by omega))
theorem laidE_size {w : World} (h : laidE w) : 1 ≤ w.heap.size := by
  have hE := h
  have := laidE0_size hE
  omega
noncomputable def H0 (e : Nat) : T Ent := T.set .leaf 0 (gBlk e (.l [.ifc 128 (.ag [.h 27])]))
theorem runP {nu : Nat → Value} {one : ∀ i, i < 1000000 → (nu i).oneCell' = true} {tb : Tab} (h : AllOk (cx nu one 1 laidE laidE_stab) tb) (hng : tb.ng = 2) {f g : Nat} {fi : FI} (hfi : tb.fn.get g = some fi) (hb : fi.body.isSome = true) {l : List AV} {args : List Value}
    (hr : ∀ e, okB (call tb f g l ⟨H0 e , 2, 0, 0⟩) = true) (hl : RelL (cx nu one 1 laidE laidE_stab) (fun _ => none) l args) (w : World) (hw : laidE w) :
    Calls Tryz.prog g ⟨args⟩ w fun e w' => e = .returned (.bool true) ∧ Go.AX.Below (Go.AX.Fz.lt w.heap.size) w w' := by
  have hE := id hw
  obtain ⟨e, g0⟩ := geOf (C := cx nu one 1 laidE laidE_stab) rfl hE
  obtain ⟨S, hS⟩ := okB_inv (hr e)
  refine (run_okG h (H := H0 e ) hfi hb (by rw [hng]; exact hS) hl w hw (laidE_size hw) fun v k hv => ?_).mono fun e' w' he => ?_
  · unfold H0 at hv
    rw [get_set _ _ _ _ (by omega)] at hv
    split at hv
    · rename_i e0; subst e0; injection hv with hv; subst hv
      exact ⟨by rw [hng]; omega, e, _, _, rfl, ⟨trivial, rfl⟩, g0⟩
    simp [T.get_leaf] at hv
  · obtain ⟨x, ρ, rfl, hx, hb⟩ := he
    simp only [Rel] at hx
    exact ⟨by rw [hx], hb⟩
theorem runS {nu : Nat → Value} {one : ∀ i, i < 1000000 → (nu i).oneCell' = true} {tb : Tab} (h : AllOk (cx nu one 1 laidE laidE_stab) tb) (hng : tb.ng = 2) {f g : Nat} {fi : FI} (hfi : tb.fn.get g = some fi) (hb : fi.body.isSome = true) {l : List AV} {args : List Value} {len n : Nat}
    (hr : ∀ e, okS (call tb f g l ⟨H0 e , 2, 0, 0⟩) len n = true) (hl : RelL (cx nu one 1 laidE laidE_stab) (fun _ => none) l args) (w : World) (hw : laidE w) :
    Calls Tryz.prog g ⟨args⟩ w fun e w' => e = .returned (St' (strB len n)) ∧ Go.AX.Below (Go.AX.Fz.lt w.heap.size) w w' := by
  have hE := id hw
  obtain ⟨e, g0⟩ := geOf (C := cx nu one 1 laidE laidE_stab) rfl hE
  obtain ⟨S, hS⟩ := okS_inv (hr e)
  refine (run_okG h (H := H0 e ) hfi hb (by rw [hng]; exact hS) hl w hw (laidE_size hw) fun v k hv => ?_).mono fun e' w' he => ?_
  · unfold H0 at hv
    rw [get_set _ _ _ _ (by omega)] at hv
    split at hv
    · rename_i e0; subst e0; injection hv with hv; subst hv
      exact ⟨by rw [hng]; omega, e, _, _, rfl, ⟨trivial, rfl⟩, g0⟩
    simp [T.get_leaf] at hv
  · obtain ⟨x, ρ, rfl, hx, hb⟩ := he
    simp only [Rel] at hx
    exact ⟨by rw [hx.1], hb⟩
theorem runA {nu : Nat → Value} {one : ∀ i, i < 1000000 → (nu i).oneCell' = true} {tb : Tab} (h : AllOk (cx nu one 1 laidE laidE_stab) tb) (hng : tb.ng = 2) {f g : Nat} {fi : FI} (hfi : tb.fn.get g = some fi) (hb : fi.body.isSome = true) {l : List AV} {args : List Value} {ra : AV} (hnr : noR 8 ra = true)
    (hr : ∀ e, okA (call tb f g l ⟨H0 e , 2, 0, 0⟩) ra = true) (hl : RelL (cx nu one 1 laidE laidE_stab) (fun _ => none) l args) (w : World) (hw : laidE w) :
    Calls Tryz.prog g ⟨args⟩ w fun e w' => ∃ x, e = .returned x ∧ Rel (cx nu one 1 laidE laidE_stab) (fun _ => none) ra x ∧ Go.AX.Below (Go.AX.Fz.lt w.heap.size) w w' := by
  have hE := id hw
  obtain ⟨e, g0⟩ := geOf (C := cx nu one 1 laidE laidE_stab) rfl hE
  obtain ⟨S, hS⟩ := okA_inv (hr e)
  refine (run_okG h (H := H0 e ) hfi hb (by rw [hng]; exact hS) hl w hw (laidE_size hw) fun v k hv => ?_).mono fun e' w' he => ?_
  · unfold H0 at hv
    rw [get_set _ _ _ _ (by omega)] at hv
    split at hv
    · rename_i e0; subst e0; injection hv with hv; subst hv
      exact ⟨by rw [hng]; omega, e, _, _, rfl, ⟨trivial, rfl⟩, g0⟩
    simp [T.get_leaf] at hv
  · obtain ⟨x, ρ, rfl, hx, hb⟩ := he
    exact ⟨x, rfl, noR_rel 8 _ hnr _ hx, hb⟩
noncomputable def fk : FI := ⟨Tryz.f4.body, Tryz.f4.ntmps, Tryz.f4.results.toList, 0, none, []⟩
theorem fk_at : tab.fn.get 4 = some fk := by kernel_rfl
theorem fk_body : fk.body.isSome = true := by kernel_rfl
theorem kk (e : Nat) : okB (call tab 6000 4 [] ⟨H0 e , 2, 0, 0⟩) = true := by kernel_rfl
noncomputable def tabk : Tab := addSum tab 4 fk (.b true)
section
variable (nu : Nat → Value) (one : ∀ i, i < 1000000 → (nu i).oneCell' = true)
theorem sumk : SumOk (cx nu one 1 laidE laidE_stab) 4 (.b true) := fun w hi hs => by
  refine (runP (tabOk nu one 1 laidE laidE_stab) rfl fk_at fk_body kk (args := []) (by simp only [RelL]) w hi).mono fun e w' he => ?_
  exact ⟨.bool true, he.1, by simp only [Rel], he.2⟩
theorem tabkOk : AllOk (cx nu one 1 laidE laidE_stab) tabk := (tabOk nu one 1 laidE laidE_stab).sum (by omega) fk_at fk_body (sumk nu one)
end
theorem tu3 : Tryz.prog.underlying 3 = some (.int .i64) := by kernel_rfl
theorem tu5 : Tryz.prog.underlying 5 = some (.int .u8) := by kernel_rfl
noncomputable def tbl (h : LK) : Tab := { tabk with hyp := h }
theorem fiE : ∃ fi, tabk.fn.get 3 = some fi ∧ fi.body.isSome = true := ⟨_, rfl, by kernel_rfl⟩
abbrev CwR (g : Nat) (args : Array Value) (w : World) (v : Value) : Prop := Calls Tryz.prog g args w fun e w' => e = .returned v ∧ Go.AX.Below (Go.AX.Fz.lt w.heap.size) w w'
theorem runC {nu : Nat → Value} {one : ∀ i, i < 1000000 → (nu i).oneCell' = true} {tb : Tab} {ra : AV} {v : Value} (hnr : noR 8 ra = true) (h : AllOk (cx nu one 1 laidE laidE_stab) tb) (hng : tb.ng = 2) {f g : Nat} {fi : FI} (hfi : tb.fn.get g = some fi) (hb : fi.body.isSome = true) {l : List AV} {args : List Value}
    (hr : ∀ e, okA (call tb f g l ⟨H0 e , 2, 0, 0⟩) ra = true) (hl : RelL (cx nu one 1 laidE laidE_stab) (fun _ => none) l args) (w : World) (hw : laidE w) (hv : ∀ x, Rel (cx nu one 1 laidE laidE_stab) (fun _ => none) ra x → x = v) : CwR g ⟨args⟩ w v :=
  (runA h hng hfi hb hnr hr hl w hw).mono fun e w' he => by
    obtain ⟨x, rfl, hx, hb2⟩ := he
    exact ⟨by rw [hv x hx], hb2⟩
variable {nu : Nat → Value} {one : ∀ i, i < 1000000 → (nu i).oneCell' = true} {E' : Cx} {x' : Ex} {e' : LA} {h' : LE}
def rbF (ty id : Int) (c : LB) (pd : Int) : LB := [u8 1, u8 ty, u8 0, u8 id, u8 ((c.length : Int) / 256), u8 ((c.length : Int) % 256), u8 pd, u8 0] ++ (c ++ List.replicate (Int.toNat pd) 0)
theorem rbF_len {ty id pd : Int} {c : LB} (h : 0 ≤ pd) : ((rbF ty id c pd).length : Int) = 8 + (c.length : Int) + pd := by
  unfold rbF; simp only [List.length_append, List.length_cons, List.length_nil, List.length_replicate]; omega
noncomputable def repI (e : Nat) (n : Nat) : Bool := okS (call tabk 9000 59 [.s 1 0, .i .i64 (.ofNat n)] ⟨H0 e , 2, 0, 0⟩) n 0
theorem rep0 (e : Nat) : allN (repI e ) 0 8 = true := by kernel_rfl
theorem callsRep (n : Nat) (h : n < 8) (w : World) (hl : laidE w) : Calls Tryz.prog 59 #[St' [0], .int .i64 (n : Int)] w fun e w' => e = .returned (St' (List.replicate n 0)) ∧ Go.AX.Below (Go.AX.Fz.lt w.heap.size) w w' := by
  obtain ⟨fi, hfi, hb⟩ : ∃ fi, tabk.fn.get 59 = some fi ∧ fi.body.isSome = true := ⟨_, rfl, by kernel_rfl⟩
  have hh := runS (tb := tabk) (tabkOk (nuL []) (fun j _ => nuL_one (l := []) rfl j)) rfl hfi hb (len := n) (n := 0) (fun e => (allN_at (rep0 e ) n (by omega) (by omega))) (args := [St' [0], .int .i64 (n : Int)]) (by simp only [RelL, Rel]; exact ⟨_, _, rfl, ⟨rfl, by omega⟩, _, _, rfl, rfl, rfl⟩) w hl
  rw [strB_zero] at hh
  exact hh
theorem hokRep {nu : Nat → Value} {one : ∀ i, i < 1000000 → (nu i).oneCell' = true} {i j : Nat} {t : Int} (hi : nu i = .int .i64 t) (hj : nu j = St' (List.replicate t.toNat 0)) (b0 : 0 ≤ t) (b1 : t ≤ 7) : HOk (cx nu one 1 laidE laidE_stab) (.call 59 [.s 1 0, .x i]) (.x j) := by
  intro ρ args hr w hl _
  simp only [RelL, Rel] at hr
  obtain ⟨u, vt, rfl, ⟨rfl, _⟩, v, vt2, rfl, rfl, rfl⟩ := hr
  have ht : t = (t.toNat : Int) := by omega
  have hc := callsRep t.toNat (by omega) w hl
  rw [← ht, ← hi] at hc
  exact hc.mono fun e w' he => ⟨_, he.1, (by simp only [Rel]; exact hj.symm), he.2⟩
theorem fiNRb : tabk.fn.get 38 = some (fI Tryz.f38 0) ∧ (fI Tryz.f38 0).body.isSome = true := ⟨rfl, by kernel_rfl⟩
def hyRb_0 : LK := [(.bin .geq (.x 0) (.i .i64 (.ofNat 1)), .b true), (.bin .leq (.x 0) (.i .i64 (.ofNat 255)), .b true), (.bin .geq (.x 1) (.i .i64 (.ofNat 0)), .b true), (.bin .leq (.x 1) (.i .i64 (.ofNat 65535)), .b true), (.len (.x 2), .x 4), (.bin .leq (.x 4) (.i .i64 (.ofNat 65535)), .b true), (.bin .geq (.x 3) (.i .i64 (.ofNat 0)), .b true), (.bin .leq (.x 3) (.i .i64 (.ofNat 255)), .b true), (.conv 5 (.x 0), .x 5), (.bin .shr (.x 1) (.i .u64 (.ofNat 8)), .i .i64 (.ofNat 0)), (.conv 5 (.x 1), .x 6), (.bin .shr (.x 4) (.i .u64 (.ofNat 8)), .x 7), (.conv 5 (.x 7), .x 8), (.conv 5 (.x 4), .x 9), (.conv 5 (.x 3), .x 10), (.bytes [.i .u8 (.ofNat 1), .x 5, .i .u8 (.ofNat 0), .x 6, .x 8, .x 9, .x 10, .i .u8 (.ofNat 0)], .x 11), (.bin .add (.x 11) (.x 2), .x 12), (.call 59 [.s 1 0, .x 3], .x 13), (.bin .add (.x 12) (.x 13), .x 14)]
theorem runRb_0 (e : Nat) : okA (call (tbl hyRb_0) 9000 38 [.ag [.x 0, .x 1, .x 2, .x 3]] ⟨H0 e , 2, 0, 0⟩) (.x 14) = true := by kernel_rfl
def nuRb_0 (ty id : Int) (c : LB) (pd : Int) : List Value := [.int .i64 (ty), .int .i64 (id), St' c, .int .i64 (pd), .int .i64 ((c.length : Int)), .int .u8 (ty), .int .u8 (id), .int .i64 ((c.length : Int) / 256), .int .u8 (((c.length : Int) / 256)), .int .u8 ((c.length : Int) % 256), .int .u8 (pd), St' ([u8 1, u8 (ty), u8 0, u8 (id), u8 (((c.length : Int) / 256)), u8 ((c.length : Int) % 256), u8 (pd), u8 0]), St' ([u8 1, u8 (ty), u8 0, u8 (id), u8 (((c.length : Int) / 256)), u8 ((c.length : Int) % 256), u8 (pd), u8 0] ++ c), St' (List.replicate (Int.toNat (pd)) 0), St' ([u8 1, u8 (ty), u8 0, u8 (id), u8 (((c.length : Int) / 256)), u8 ((c.length : Int) % 256), u8 (pd), u8 0] ++ (c ++ (List.replicate (Int.toNat (pd)) 0)))]
theorem pathRb_0 (ty id : Int) (c : LB) (pd : Int) (b0 : 1 ≤ ty) (b1 : ty ≤ 11) (b2 : 1 ≤ id) (b3 : id ≤ 255) (b4 : c.length ≤ 512) (b5 : 0 ≤ pd) (b6 : pd ≤ 7) (w : World) (hl : laidE w) : CwR 38 #[.agg #[.int .i64 ty, .int .i64 id, St' c, .int .i64 pd]] w (St' ([u8 1, u8 (ty), u8 0, u8 (id), u8 (((c.length : Int) / 256)), u8 ((c.length : Int) % 256), u8 (pd), u8 0] ++ (c ++ (List.replicate (Int.toNat (pd)) 0)))) := by
  have ho : ∀ k r, (k, r) ∈ hyRb_0 → HOk (cx (nuL (nuRb_0 ty id c pd)) (fun j _ => nuL_one (l := nuRb_0 ty id c pd) rfl j) 1 laidE laidE_stab) k r := by
    unfold hyRb_0
    exact hc (gecT rfl (by omega)) <|
     hc (lecT rfl (by omega)) <|
     hc (gecT rfl (by omega)) <|
     hc (lecT rfl (by omega)) <|
     hc (lnV rfl rfl (by omega)) <|
     hc (lecT rfl (by omega)) <|
     hc (gecT rfl (by omega)) <|
     hc (lecT rfl (by omega)) <|
     hc (kConvF (isX rfl) tu5 (denX rfl) (fU8 (by omega) (by omega))) <|
     hc (kShrM 8 256 rfl (isX rfl) (isZ (m := 8) rfl) (denZ (m := 0) rfl) (by omega) (by decide) (by omega) (by omega)) <|
     hc (kConvF (isX rfl) tu5 (denX rfl) (fU8 (by omega) (by omega))) <|
     hc (kShrM 8 256 rfl (isX rfl) (isZ (m := 8) rfl) (denX rfl) rfl (by decide) (by omega) rfl) <|
     hc (kConvF (isX rfl) tu5 (denX rfl) (fU8 (by omega) (by omega))) <|
     hc (kConv8 (isX rfl) tu5 (denX rfl) rfl) <|
     hc (kConvF (isX rfl) tu5 (denX rfl) (fU8 (by omega) (by omega))) <|
     hc (kBytesB (bs := [u8 1, u8 (ty), u8 0, u8 (id), u8 (((c.length : Int) / 256)), u8 ((c.length : Int) % 256), u8 (pd), u8 0]) (.cons (isB8 (isZ (m := 1) rfl) (by omega) (by omega)) (.cons (isB8 (isX rfl) (by omega) (by omega)) (.cons (isB8 (isZ (m := 0) rfl) (by omega) (by omega)) (.cons (isB8 (isX rfl) (by omega) (by omega)) (.cons (isB8 (isX rfl) (by omega) (by omega)) (.cons (isB8 (isX rfl) (by omega) (by omega)) (.cons (isB8 (isX rfl) (by omega) (by omega)) (.cons (isB8 (isZ (m := 0) rfl) (by omega) (by omega)) .nil)))))))) (denX rfl)) <|
     hc (kCat (isX rfl) (isX rfl) (denX rfl) (by first | rfl | (simp; done)) (by first | omega | (simp <;> omega))) <|
     hc (hokRep rfl rfl (by omega) (by omega)) <|
     hc (kCat (isX rfl) (isX rfl) (denX rfl) (by first | rfl | (simp; done)) (by first | omega | (simp <;> omega))) <|
     hnil
  refine runC (tb := (tbl hyRb_0)) (ra := .x 14) rfl ((tabkOk (nuL (nuRb_0 ty id c pd)) (fun j _ => nuL_one (l := nuRb_0 ty id c pd) rfl j)).hyps ho) rfl fiNRb.1 fiNRb.2 (fun e => runRb_0 e ) (args := [.agg #[.int .i64 ty, .int .i64 id, St' c, .int .i64 pd]]) (by simp only [RelL, Rel]; exact ⟨_, _, rfl, ⟨_, rfl, ⟨_, _, rfl, rfl, ⟨_, _, rfl, rfl, ⟨_, _, rfl, rfl, ⟨_, _, rfl, rfl, rfl⟩⟩⟩⟩⟩, rfl⟩) w hl fun x hx => ?_
  simp only [Rel, RelL] at hx
  exact hx
theorem callsRb (ty id : Int) (c : LB) (pd : Int) (b0 : 1 ≤ ty) (b1 : ty ≤ 11) (b2 : 1 ≤ id) (b3 : id ≤ 255) (b4 : c.length ≤ 512) (b5 : 0 ≤ pd) (b6 : pd ≤ 7) (w : World) (hl : laidE w) : CwR 38 #[.agg #[.int .i64 ty, .int .i64 id, St' c, .int .i64 pd]] w (St' (rbF ty id c pd)) := by
  rw [show (St' (rbF ty id c pd) : Value) = (St' ([u8 1, u8 (ty), u8 0, u8 (id), u8 (((c.length : Int) / 256)), u8 ((c.length : Int) % 256), u8 (pd), u8 0] ++ (c ++ (List.replicate (Int.toNat (pd)) 0))) : Value) from by rfl]
  exact pathRb_0 ty id c pd b0 b1 b2 b3 b4 b5 b6 w hl
theorem hokRb {x0 r : AV} {ty id : Int} {c : LB} {pd : Int} (i0 : Is (cx nu one 1 laidE laidE_stab) x0 (.agg #[.int .i64 ty, .int .i64 id, St' c, .int .i64 pd])) (hr : Den (cx nu one 1 laidE laidE_stab) r (St' (rbF ty id c pd))) (b0 : 1 ≤ ty) (b1 : ty ≤ 11) (b2 : 1 ≤ id) (b3 : id ≤ 255) (b4 : c.length ≤ 512) (b5 : 0 ≤ pd) (b6 : pd ≤ 7) : HOk (cx nu one 1 laidE laidE_stab) (.call 38 [x0]) r := by
  intro ρ args ha w hl _
  simp only [RelL] at ha
  obtain ⟨v0, t0, rfl, a0, rfl⟩ := ha
  have e0 := i0 ρ _ a0; subst e0
  exact (callsRb ty id c pd b0 b1 b2 b3 b4 b5 b6 w hl).mono fun e w' he => ⟨_, he.1, hr ρ, he.2⟩
noncomputable def fi7 : FI := (tabk.fn.get 7).getD default
theorem fi7_at : tabk.fn.get 7 = some fi7 := by kernel_rfl
theorem fi7_body : fi7.body = some (Tryz.f7.body.getD .skip) := by kernel_rfl
theorem fiB7 : fi7.body.isSome = true := by rw [fi7_body]; rfl
theorem cfA7 : (loopsOf (Tryz.f7.body.getD .skip)).all (fun b => !(keyEq (Go.AX.keyOf b) 8888888)) = true := by kernel_rfl
noncomputable def fi3 : FI := (tabk.fn.get 3).getD default
theorem fi3_at : tabk.fn.get 3 = some fi3 := by kernel_rfl
theorem fi3_body : fi3.body = some (Tryz.f3.body.getD .skip) := by kernel_rfl
theorem fiB3 : fi3.body.isSome = true := by rw [fi3_body]; rfl
theorem cfA3 : (loopsOf (Tryz.f3.body.getD .skip)).all (fun b => !(keyEq (Go.AX.keyOf b) 8888888)) = true := by kernel_rfl
noncomputable def fi29 : FI := (tabk.fn.get 29).getD default
theorem fi29_at : tabk.fn.get 29 = some fi29 := by kernel_rfl
theorem fi29_body : fi29.body = some (Tryz.f29.body.getD .skip) := by kernel_rfl
theorem fiB29 : fi29.body.isSome = true := by rw [fi29_body]; rfl
theorem cfA29 : (loopsOf (Tryz.f29.body.getD .skip)).all (fun b => !(keyEq (Go.AX.keyOf b) 8888888)) = true := by kernel_rfl
def i6 (n : Nat) : AV := .i .i64 (.ofNat n)
def kdF (m i : Nat) : Nat := cond (Nat.beq i 0) 0 (cond (Nat.beq i 1) 1 (cond (Nat.beq i (Nat.add m 2)) 4 (cond (Nat.beq i (Nat.add m 1)) 3 2)))
def recA (a b c : AV) (kd : Nat) : List AV := List.getD [[i6 1, i6 1, .s 8 65792, i6 0], [i6 4, i6 1, .s 0 0, i6 0], [i6 5, i6 1, a, i6 0], [i6 5, i6 1, b, c], [i6 5, i6 1, .s 0 0, i6 0]] kd [i6 2, i6 1, .s 0 0, i6 0]
def rowL (a b c : AV) (ks : List Nat) : List AV := ks.flatMap (recA a b c)
def ksM (m J : Nat) : List Nat := (List.range J).map (kdF m)
def blD (bld buf w : Nat) : LE := cond (Nat.beq w 0) [(bld, .b ⟨66, .l [.nilp, .nils], 0, 0, 0, false, false⟩)] [(bld, .b ⟨66, .l [.p bld 0, .sy buf], 0, 0, 0, false, false⟩), (buf, .t 0 5)]
def blT (bld buf T : Nat) : LE := [(bld, .b ⟨66, .l [.p bld 0, .sy buf], 0, 0, 0, false, false⟩), (buf, .t T 5)]
def muK (mu ls cu : Nat) (r la en : AV) : Nat × Ent := (mu, .b ⟨59, .l [.sl ls 0 1 1 false, .p cu 0, r, la, en, .b false], 0, 0, 0, false, false⟩)
def lsK (ls ln : Nat) : Nat × Ent := (ls, .b ⟨61, .l [.p ln 0], 0, 0, 0, false, false⟩)
def stG (r a b c : AV) (mu ls cu ln rc m j : Nat) : LE := muK mu ls cu r (i6 (cond (Nat.beq j 0) 0 1)) .nils :: lsK ls ln :: (ln, .b ⟨98, .l [i6 1, .sl rc (Nat.mul 4 j) (Nat.sub (Nat.add 3 m) j) j true, .b (!(Nat.beq j 0)), .b false, .b false, .b false, .b false, .i .u32 (.ofNat 0), i6 0], 0, 0, 0, false, false⟩) :: [(rc, .b ⟨37, .l (rowL a b c (ksM m (Nat.add 3 m))), Nat.mul 4 (Nat.add 3 m), 4, 0, false, true⟩)]
def stH (r en : AV) (ln rc j : Nat) : LE := muK 4 2 3 r (i6 1) en :: lsK 2 ln :: (ln, .b ⟨98, .l [i6 1, .sl rc 0 (Nat.sub 1 j) (Nat.sub 1 j) false, .b true, .b true, .b false, .b false, .b true, .i .u32 (.ofNat 0), i6 0], 0, 0, 0, false, false⟩) :: [(rc, .b ⟨37, .l (recA .und .und .und 5), 0, 0, 0, false, false⟩)]
def stD (mu ls cu n0 m j w : Nat) : LE := stG (.x 2) (.x 3) (.x 4) (.x 5) mu ls cu (Nat.add n0 2) (Nat.add n0 3) m j ++ blD n0 (Nat.succ n0) w
def stF (en : AV) (n0 j w : Nat) : LE := stH (.x 2) en (Nat.add n0 2) (Nat.add n0 3) j ++ blD n0 (Nat.succ n0) w
noncomputable def bodyD : Code := loopNo (Tryz.f7.body.getD .skip) 0
theorem keyD : oneKey (loopsOf (Tryz.f7.body.getD .skip)) 2 0 0 = true := by kernel_rfl
noncomputable def bodyC : Code := loopNo (Tryz.f29.body.getD .skip) 0
theorem keyC : oneKey (loopsOf (Tryz.f29.body.getD .skip)) 5 0 0 = true := by kernel_rfl
def hyA (kd : Nat) : LK := [(.bin .gtr (.x 1) (.i .i64 (.ofNat 0)), .b true), (.bin .neq (.x 2) (.s 0 0), .b false), (.bin .eql (.x 2) (.s 0 0), .b true), (.call 38 [.ag (recA (.x 3) (.x 4) (.x 5) kd)], .x 7), (.len (.x 7), .x 8), (.mm false (.x 1) (.x 8), .x 12), (.sub (.x 7) none (some (.x 12)), .x 13), (.len (.x 13), .x 12), (.bin .add (.x 0) (.x 13), .x 9), (.fit (.x 9), .b true), (.fit (.x 13), .b true), (.byt (.x 13) (.i .i64 (.ofNat 0)), .x 14), (.sub (.x 7) (some (.x 12)) none, .x 10), (.bin .sub (.x 1) (.x 12), .x 11)]
def hyR : LK := [(.bin .gtr (.x 1) (.i .i64 (.ofNat 0)), .b true), (.bin .neq (.x 2) (.s 0 0), .b true), (.bin .eql (.x 2) (.s 0 0), .b false), (.len (.x 2), .x 8), (.mm false (.x 1) (.x 8), .x 12), (.sub (.x 2) none (some (.x 12)), .x 13), (.len (.x 13), .x 12), (.bin .add (.x 0) (.x 13), .x 9), (.fit (.x 9), .b true), (.fit (.x 13), .b true), (.byt (.x 13) (.i .i64 (.ofNat 0)), .x 14), (.sub (.x 2) (some (.x 12)) none, .x 10), (.bin .sub (.x 1) (.x 12), .x 11)]
def hyX (b : Bool) : LK := cond b [(.bin .gtr (.x 1) (.i .i64 (.ofNat 0)), .b true), (.bin .neq (.x 2) (.s 0 0), .b false)] [(.bin .gtr (.x 1) (.i .i64 (.ofNat 0)), .b false)]
def epD (mu n0 : Nat) : LA := [(0, .p mu 0), (1, .x 1), (5, .p n0 0)]
def epDX (n0 : Nat) : LA := [(5, .p n0 0)]
def thA (w : Nat) : LA := [(0, cond (Nat.beq w 0) (.x 13) (.x 9)), (1, .x 11), (2, .x 10), (3, .x 3), (4, .x 4), (5, .x 5)]
def thDX : LA := [(0, .x 0), (2, .x 2), (3, .x 3), (4, .x 4), (5, .x 5)]
noncomputable def rnG (mu n0 : Nat) (hy : LK) (h h2 : LE) (w bf : Nat) : Bool := okRdH (code (tbl hy) 3000 [] bodyD (envOf (headOf (epD mu n0) []) 47) ⟨lhSet h .leaf, n0 + 10, 0, 0⟩) .normal [] 47 (n0 + 190) (thA w) [(n0 + 1, n0 + bf)] n0 (n0 + 10) (epD mu n0) h2
noncomputable def rnX (mu n0 : Nat) (b : Bool) (h : LE) : Bool := okRdH (code (tbl (hyX b)) 3000 [] bodyD (envOf (headOf (epD mu n0) []) 47) ⟨lhSet h .leaf, n0 + 10, 0, 0⟩) (.exit 0) [] 47 (n0 + 190) thDX [] n0 (n0 + 190) (epDX n0) h
noncomputable def rnA (mu n0 : Nat) (hp : Nat → Nat → LE) (kf : Nat → Nat) (j w : Nat) : Bool := rnG mu n0 (hyA (kf j)) (hp j w) (hp (Nat.succ j) 1) w 19
noncomputable def rnR (mu n0 : Nat) (hp : Nat → Nat → LE) : Bool := rnG mu n0 hyR (hp 0 0) (hp 0 1) 0 10
def hyCA : LK := [(.len (.x 0), .x 1), (.bin .geq (.x 1) (.i .i64 (.ofNat 6)), .b true), (.idx (.x 0) (.i .i64 (.ofNat 0)), .i .u8 (.ofNat 1)), (.idx (.x 0) (.i .i64 (.ofNat 4)), .x 2), (.conv 3 (.x 2), .x 3), (.bin .mul (.x 3) (.i .i64 (.ofNat 256)), .x 4), (.idx (.x 0) (.i .i64 (.ofNat 5)), .x 5), (.conv 3 (.x 5), .x 6), (.bin .add (.x 4) (.x 6), .x 7), (.bin .gtr (.x 7) (.i .i64 (.ofNat 65535)), .b false), (.bin .gtr (.x 1) (.i .i64 (.ofNat 0)), .b true), (.bin .lss (.x 1) (.i .i64 (.ofNat 8)), .b false)]
def hyCB (pb ca : AV) (ty : Nat) : LK := [(.bin .add (.i .i64 (.ofNat 8)) (.x 7), .x 10), (.bin .add (.x 10) pb, .x 11), (.bin .lss (.x 1) (.x 11), .b false), (.idx (.x 0) (.i .i64 (.ofNat 1)), .i .u8 (.ofNat ty)), (.idx (.x 0) (.i .i64 (.ofNat 2)), .i .u8 (.ofNat 0)), (.idx (.x 0) (.i .i64 (.ofNat 3)), .i .u8 (.ofNat 1)), (.sub (.x 0) (some (.i .i64 (.ofNat 8))) (some (.x 10)), ca), (.sub (.x 0) (some (.x 11)) none, .x 13)]
def p6K (kd : Nat) : LK := cond (Nat.beq kd 3) [(.idx (.x 0) (.i .i64 (.ofNat 6)), .x 8), (.conv 3 (.x 8), .x 22)] [(.idx (.x 0) (.i .i64 (.ofNat 6)), .i .u8 (.ofNat 0))]
def pbK (kd : Nat) : AV := cond (Nat.beq kd 3) (.x 22) (i6 0)
def caK (kd : Nat) : AV := List.getD [.s 8 65792, .s 0 0, .x 20, .x 21] kd (.s 0 0)
def tyN (kd : Nat) : Nat := List.getD [1, 4, 5, 5, 5] kd 2
def hyC (kd : Nat) : LK := hyCA ++ (p6K kd ++ hyCB (pbK kd) (caK kd) (tyN kd))
def hyCX : LK := [(.len (.x 0), .x 1), (.bin .geq (.x 1) (.i .i64 (.ofNat 6)), .b false), (.bin .gtr (.x 1) (.i .i64 (.ofNat 0)), .b false), (.bin .lss (.x 1) (.i .i64 (.ofNat 8)), .b true)]
def epC (j : Nat) : LA := [(0, .p 1000 0), (6, cond (Nat.beq j 0) .nils (.sl 1001 0 j 0 true))]
def cuK : Nat × Ent := (1000, .b ⟨79, .l [i6 65535, .x 0, .b false], 0, 0, 0, false, false⟩)
def rowK (a b c : AV) (ks : List Nat) : Nat × Ent := (1001, .b ⟨37, .l (rowL a b c ks), Nat.mul 4 ks.length, 4, 0, false, true⟩)
def hpC (ks : List Nat) (j : Nat) : LE := cuK :: cond (Nat.beq j 0) [] [rowK (.x 20) (.x 21) (.x 22) (ks.take j)]
def thC : LA := [(0, .x 13), (20, .x 20), (21, .x 21), (22, .x 22)]
def thCX : LA := [(20, .x 20), (21, .x 21), (22, .x 22)]
def epCX (ks : List Nat) : LA := [(4, .sl 1001 0 ks.length 0 true), (5, i6 0)]
noncomputable def rnC (ks : List Nat) (j : Nat) : Bool := okRdH (code (tbl (hyC (ks.getD j 0))) 3000 [] bodyC (envOf (headOf (epC j) []) 87) ⟨lhSet (hpC ks j) .leaf, 1010, 0, 0⟩) .normal [] 87 1060 thC [(1001, 1013)] 1000 1010 (epC (Nat.succ j)) (hpC ks (Nat.succ j))
noncomputable def rxC (ks : List Nat) : Bool := okRdH (code (tbl hyCX) 3000 [] bodyC (envOf (headOf (epC ks.length) []) 87) ⟨lhSet (hpC ks ks.length) .leaf, 1010, 0, 0⟩) .ret [] 87 1060 thCX [] 1000 1060 (epCX ks) [rowK (.x 20) (.x 21) (.x 22) ks]
def ksT (m J : Nat) : List Nat := ksM m J ++ cond (Nat.beq J (Nat.add 3 m)) [] [5]
def muW (m : Nat) : Nat := List.getD [24, 27, 30, 33, 36, 39, 42] m 0
end Go.Proofs.YtaihihejljcniaaGreatDoor.muxEarly
