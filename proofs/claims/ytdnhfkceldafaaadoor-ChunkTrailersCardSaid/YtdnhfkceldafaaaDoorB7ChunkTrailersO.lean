/- A part of the proof: an interpreter of the model's own code on partly known states, and that what it answers is what the program answers. No condition of its own. -/
import Derived.Test.YtdnhfkceldafaaaDoorSeatB7
import Derived.Test.YtdnhfkceldafaaaDoorCXpart4
set_option maxRecDepth 100000
set_option linter.unusedVariables false
set_option linter.unusedSimpArgs false
namespace Go.Proofs.YtdnhfkceldafaaaDoor.chunkTrailers
open Go Go.AX Go.Proofs Go.Proofs.YtdnhfkceldafaaaDoor
def zs6 : List Int := [0, 1, 56, 2, 57, 49, 28, 3, 61, 58, 42, 50, 38, 29, 17, 4, 62, 47, 59, 36, 45, 43, 51, 22, 53, 39, 33, 30, 24, 18, 12, 5, 63, 55, 48, 27, 60, 41, 37, 16, 46, 35, 44, 21, 52, 32, 23, 11, 54, 26, 40, 15, 34, 20, 31, 10, 25, 14, 19, 9, 13, 8, 7, 6]
/-- the variables that the runs read are laid -/
def laidE (w : World) : Prop := ArrIs w 6 .u8 zs6
theorem laidE_stab : ∀ w w' : World, (∀ k, k < 7 → w'.heap[k]? = w.heap[k]?) → laidE w → laidE w' := fun w w' h h6 => h6.same (h 6 (by omega))
theorem laidE_size {w : World} (h : laidE w) : 7 ≤ w.heap.size := by
  have h6 := h
  have := h6.size
  omega
noncomputable def H0 (e6 : Nat) : T Ent := T.set (.leaf) 6 (gBlk e6 (.l (zs6.map fun z => .i .u8 z)))
theorem runP {nu : Nat → Value} {one : ∀ i, (nu i).oneCell' = true} {tb : Tab} (h : AllOk (cx nu one 7 laidE laidE_stab) tb) (hng : tb.ng = 7) {f g : Nat} {fi : FI} (hfi : tb.fn.get g = some fi) (hb : fi.body.isSome = true) {l : List AV} {args : List Value}
    (hr : ∀ e6, okB (call tb f g l ⟨H0 e6 , 7, 0, 0⟩) = true) (hl : RelL (cx nu one 7 laidE laidE_stab) (fun _ => none) l args) (w : World) (hw : laidE w) :
    Calls Tryd.prog g ⟨args⟩ w fun e w' => e = .returned (.bool true) ∧ Go.AX.Below w.heap.size w w' := by
  have h6 := id hw
  obtain ⟨e6, g6⟩ := h6.gArr (C := cx nu one 7 laidE laidE_stab)
  obtain ⟨S, hS⟩ := okB_inv (hr e6)
  refine (run_okG h (H := H0 e6 ) hfi hb (by rw [hng]; exact hS) hl w hw (laidE_size hw) fun v k hv => ?_).mono fun e' w' he => ?_
  · unfold H0 at hv
    rw [get_set _ _ _ _ (by omega)] at hv
    split at hv
    · rename_i e0; subst e0; injection hv with hv; subst hv
      exact ⟨by rw [hng]; omega, e6, _, _, rfl, ⟨trivial, rfl⟩, g6⟩
    simp [T.get_leaf] at hv
  · obtain ⟨x, ρ, rfl, hx, hb⟩ := he
    simp only [Rel] at hx
    exact ⟨by rw [hx], hb⟩
theorem runS {nu : Nat → Value} {one : ∀ i, (nu i).oneCell' = true} {tb : Tab} (h : AllOk (cx nu one 7 laidE laidE_stab) tb) (hng : tb.ng = 7) {f g : Nat} {fi : FI} (hfi : tb.fn.get g = some fi) (hb : fi.body.isSome = true) {l : List AV} {args : List Value} {len n : Nat}
    (hr : ∀ e6, okS (call tb f g l ⟨H0 e6 , 7, 0, 0⟩) len n = true) (hl : RelL (cx nu one 7 laidE laidE_stab) (fun _ => none) l args) (w : World) (hw : laidE w) :
    Calls Tryd.prog g ⟨args⟩ w fun e w' => e = .returned (St' (strB len n)) ∧ Go.AX.Below w.heap.size w w' := by
  have h6 := id hw
  obtain ⟨e6, g6⟩ := h6.gArr (C := cx nu one 7 laidE laidE_stab)
  obtain ⟨S, hS⟩ := okS_inv (hr e6)
  refine (run_okG h (H := H0 e6 ) hfi hb (by rw [hng]; exact hS) hl w hw (laidE_size hw) fun v k hv => ?_).mono fun e' w' he => ?_
  · unfold H0 at hv
    rw [get_set _ _ _ _ (by omega)] at hv
    split at hv
    · rename_i e0; subst e0; injection hv with hv; subst hv
      exact ⟨by rw [hng]; omega, e6, _, _, rfl, ⟨trivial, rfl⟩, g6⟩
    simp [T.get_leaf] at hv
  · obtain ⟨x, ρ, rfl, hx, hb⟩ := he
    simp only [Rel] at hx
    exact ⟨by rw [hx.1], hb⟩
theorem runA {nu : Nat → Value} {one : ∀ i, (nu i).oneCell' = true} {tb : Tab} (h : AllOk (cx nu one 7 laidE laidE_stab) tb) (hng : tb.ng = 7) {f g : Nat} {fi : FI} (hfi : tb.fn.get g = some fi) (hb : fi.body.isSome = true) {l : List AV} {args : List Value} {ra : AV} (hnr : noR 8 ra = true)
    (hr : ∀ e6, okA (call tb f g l ⟨H0 e6 , 7, 0, 0⟩) ra = true) (hl : RelL (cx nu one 7 laidE laidE_stab) (fun _ => none) l args) (w : World) (hw : laidE w) :
    Calls Tryd.prog g ⟨args⟩ w fun e w' => ∃ x, e = .returned x ∧ Rel (cx nu one 7 laidE laidE_stab) (fun _ => none) ra x ∧ Go.AX.Below w.heap.size w w' := by
  have h6 := id hw
  obtain ⟨e6, g6⟩ := h6.gArr (C := cx nu one 7 laidE laidE_stab)
  obtain ⟨S, hS⟩ := okA_inv (hr e6)
  refine (run_okG h (H := H0 e6 ) hfi hb (by rw [hng]; exact hS) hl w hw (laidE_size hw) fun v k hv => ?_).mono fun e' w' he => ?_
  · unfold H0 at hv
    rw [get_set _ _ _ _ (by omega)] at hv
    split at hv
    · rename_i e0; subst e0; injection hv with hv; subst hv
      exact ⟨by rw [hng]; omega, e6, _, _, rfl, ⟨trivial, rfl⟩, g6⟩
    simp [T.get_leaf] at hv
  · obtain ⟨x, ρ, rfl, hx, hb⟩ := he
    exact ⟨x, rfl, noR_rel 8 _ hnr _ hx, hb⟩
noncomputable def fk : FI := ⟨Tryd.f27.body, Tryd.f27.ntmps, Tryd.f27.results.toList, 0, none, []⟩
theorem fk_at : tab.fn.get 27 = some fk := by kernel_rfl
theorem fk_body : fk.body.isSome = true := by kernel_rfl
theorem kk (e6 : Nat) : okB (call tab 6000 27 [] ⟨H0 e6 , 7, 0, 0⟩) = true := by kernel_rfl
noncomputable def tabk : Tab := addSum tab 27 fk (.b true)
section
variable (nu : Nat → Value) (one : ∀ i, (nu i).oneCell' = true)
theorem sumk : SumOk (cx nu one 7 laidE laidE_stab) 27 (.b true) := fun w hi hs => by
  refine (runP (tabOk nu one 7 laidE laidE_stab) rfl fk_at fk_body kk (args := []) (by simp only [RelL]) w hi).mono fun e w' he => ?_
  exact ⟨.bool true, he.1, by simp only [Rel], he.2⟩
theorem tabkOk : AllOk (cx nu one 7 laidE laidE_stab) tabk := (tabOk nu one 7 laidE laidE_stab).sum (by omega) fk_at fk_body (sumk nu one)
end
theorem tu3 : Tryd.prog.underlying 3 = some (.int .i64) := by kernel_rfl
theorem tu120 : Tryd.prog.underlying 120 = some (.int .u64) := by kernel_rfl
theorem exF73 : Tryd.prog.funcs[73]? = some Tryd.f73 := Tryd.func73
theorem exA73 : (Extern.findNext Tryd.f73).isNone = true := by kernel_rfl
theorem exB73 : Extern.find Tryd.f73 = some Extern.BytealgIndexByte.indexByte := by kernel_rfl
def hexS (n : Int) : List UInt8 := if n < 16 then [u8 (dg n)] else [u8 (dg (n / 16)), u8 (dg (n % 16))]
theorem hexS_lo {n : Int} (h : n < 16) : hexS n = [u8 (dg n)] := if_pos h
theorem hexS_hi {n : Int} (h : ¬ n < 16) : hexS n = [u8 (dg (n / 16)), u8 (dg (n % 16))] := if_neg h
def hyFmt_0 : List (HK × AV) := [(.conv 120 (.x 0), .x 1), (.bin .lss (.x 0) (.i .i64 (.ofNat 0)), .b false), (.bin .geq (.x 1) (.i .u64 (.ofNat 16)), .b false), (.idx (.s 36 237927390410950444456928663707796224754864904193074819559483181009558347043374296609072) (.x 1), .x 2), (.bytes [.x 2], .x 3)]
noncomputable def tabFmt_0 : Tab := { tabk with hyp := hyFmt_0 }
theorem runFmt_0 (e6 : Nat) : okA (call tabFmt_0 20000 51 [.x 0, .i .i64 (.ofNat 16)] ⟨H0 e6 , 7, 0, 0⟩) (.x 3) = true := by kernel_rfl
def nuFmt_0 (n : Int) : List Value := [.int .i64 (n), .int .u64 (n), .int .u8 (dg n), St' ([u8 (dg n)])]
theorem oneFmt_0 (n : Int) : ∀ j, (nuL (nuFmt_0 n) j).oneCell' = true := nuL_one (l := nuFmt_0 n) rfl
set_option maxHeartbeats 2000000 in
theorem hyOkFmt_0 (n : Int) (b0 : 1 ≤ n) (b1 : n ≤ 255) (h1 : ¬ (16 ≤ n)) : ∀ k r, (k, r) ∈ hyFmt_0 → HOk (cx (nuL (nuFmt_0 n)) (oneFmt_0 n) 7 laidE laidE_stab) k r := by
  have := dg_or n
  unfold hyFmt_0
  refine hcons (kConvF (isX rfl) tu120 (denX rfl) (fU64 (by omega) (by omega))) ?_
  refine hcons (kLt (isX rfl) (isZ (m := 0) rfl) (decide_eq_false (by omega))) ?_
  refine hcons (kGe (isX rfl) (isZ (m := 16) rfl) (decide_eq_false (by omega))) ?_
  refine hcons (kIdxE (i := (Int.toNat (n))) (isSx (l := DIG) 36 237927390410950444456928663707796224754864904193074819559483181009558347043374296609072 rfl) (isX rfl) (denX rfl) (by omega) (by simp only [List.length_cons, List.length_nil]; omega) (dg_bt (by omega) (by omega))) ?_
  refine hcons (kBytesB (bs := [u8 (dg n)]) (.cons (isB8 (isX rfl) (by omega) (by omega)) .nil) (denX rfl)) ?_
  exact hnil
theorem pathFmt_0 (n : Int) (b0 : 1 ≤ n) (b1 : n ≤ 255) (h1 : ¬ (16 ≤ n)) (w : World) (hl : laidE w) : Calls Tryd.prog 51 #[.int .i64 n, .int .i64 16] w fun e w' => e = .returned (St' ([u8 (dg n)])) ∧ Go.AX.Below w.heap.size w w' := by
  obtain ⟨fi, hfi, hb⟩ : ∃ fi, tabk.fn.get 51 = some fi ∧ fi.body.isSome = true := ⟨_, rfl, by kernel_rfl⟩
  refine (runA (tb := tabFmt_0) (ra := .x 3) (hnr := rfl) ((tabkOk (nuL (nuFmt_0 n)) (oneFmt_0 n)).hyps (hyOkFmt_0 n b0 b1 h1)) rfl hfi hb (fun e6 => runFmt_0 e6 ) (args := [.int .i64 n, .int .i64 16]) (by simp only [RelL, Rel]; exact ⟨_, _, rfl, rfl, ⟨_, _, rfl, rfl, rfl⟩⟩) w hl).mono fun e w' he => ?_
  obtain ⟨x, rfl, hx, hb2⟩ := he
  simp only [Rel, RelL] at hx
  subst hx
  exact ⟨rfl, hb2⟩
def hyFmt_1 : List (HK × AV) := [(.conv 120 (.x 0), .x 1), (.bin .lss (.x 0) (.i .i64 (.ofNat 0)), .b false), (.bin .geq (.x 1) (.i .u64 (.ofNat 16)), .b true), (.bin .and (.x 1) (.i .u64 (.ofNat 15)), .x 2), (.idx (.s 36 237927390410950444456928663707796224754864904193074819559483181009558347043374296609072) (.x 2), .x 3), (.bin .shr (.x 1) (.i .u64 (.ofNat 4)), .x 4), (.bin .geq (.x 4) (.i .u64 (.ofNat 16)), .b false), (.idx (.s 36 237927390410950444456928663707796224754864904193074819559483181009558347043374296609072) (.x 4), .x 5), (.bytes [.x 5, .x 3], .x 6)]
noncomputable def tabFmt_1 : Tab := { tabk with hyp := hyFmt_1 }
theorem runFmt_1 (e6 : Nat) : okA (call tabFmt_1 20000 51 [.x 0, .i .i64 (.ofNat 16)] ⟨H0 e6 , 7, 0, 0⟩) (.x 6) = true := by kernel_rfl
def nuFmt_1 (n : Int) : List Value := [.int .i64 (n), .int .u64 (n), .int .u64 (n % 16), .int .u8 (dg (n % 16)), .int .u64 (n / 16), .int .u8 (dg (n / 16)), St' ([u8 (dg (n / 16)), u8 (dg (n % 16))])]
theorem oneFmt_1 (n : Int) : ∀ j, (nuL (nuFmt_1 n) j).oneCell' = true := nuL_one (l := nuFmt_1 n) rfl
set_option maxHeartbeats 2000000 in
theorem hyOkFmt_1 (n : Int) (b0 : 1 ≤ n) (b1 : n ≤ 255) (h1 : 16 ≤ n) : ∀ k r, (k, r) ∈ hyFmt_1 → HOk (cx (nuL (nuFmt_1 n)) (oneFmt_1 n) 7 laidE laidE_stab) k r := by
  have := dg_or (n % 16)
  have := dg_or (n / 16)
  unfold hyFmt_1
  refine hcons (kConvF (isX rfl) tu120 (denX rfl) (fU64 (by omega) (by omega))) ?_
  refine hcons (kLt (isX rfl) (isZ (m := 0) rfl) (decide_eq_false (by omega))) ?_
  refine hcons (kGe (isX rfl) (isZ (m := 16) rfl) (decide_eq_true (by omega))) ?_
  refine hcons (kAndM 4 16 rfl (isX rfl) (isZ (m := 15) rfl) (denX rfl) (by omega) (fU64 (by omega) (by omega)) (fU64 (by omega) (by omega)) rfl rfl) ?_
  refine hcons (kIdxE (i := (Int.toNat (n % 16))) (isSx (l := DIG) 36 237927390410950444456928663707796224754864904193074819559483181009558347043374296609072 rfl) (isX rfl) (denX rfl) (by omega) (by simp only [List.length_cons, List.length_nil]; omega) (dg_bt (by omega) (by omega))) ?_
  refine hcons (kShrM 4 16 rfl (isX rfl) (isZ (m := 4) rfl) (denX rfl) rfl (by decide) (by omega) rfl) ?_
  refine hcons (kGe (isX rfl) (isZ (m := 16) rfl) (decide_eq_false (by omega))) ?_
  refine hcons (kIdxE (i := (Int.toNat (n / 16))) (isSx (l := DIG) 36 237927390410950444456928663707796224754864904193074819559483181009558347043374296609072 rfl) (isX rfl) (denX rfl) (by omega) (by simp only [List.length_cons, List.length_nil]; omega) (dg_bt (by omega) (by omega))) ?_
  refine hcons (kBytesB (bs := [u8 (dg (n / 16)), u8 (dg (n % 16))]) (.cons (isB8 (isX rfl) (by omega) (by omega)) (.cons (isB8 (isX rfl) (by omega) (by omega)) .nil)) (denX rfl)) ?_
  exact hnil
theorem pathFmt_1 (n : Int) (b0 : 1 ≤ n) (b1 : n ≤ 255) (h1 : 16 ≤ n) (w : World) (hl : laidE w) : Calls Tryd.prog 51 #[.int .i64 n, .int .i64 16] w fun e w' => e = .returned (St' ([u8 (dg (n / 16)), u8 (dg (n % 16))])) ∧ Go.AX.Below w.heap.size w w' := by
  obtain ⟨fi, hfi, hb⟩ : ∃ fi, tabk.fn.get 51 = some fi ∧ fi.body.isSome = true := ⟨_, rfl, by kernel_rfl⟩
  refine (runA (tb := tabFmt_1) (ra := .x 6) (hnr := rfl) ((tabkOk (nuL (nuFmt_1 n)) (oneFmt_1 n)).hyps (hyOkFmt_1 n b0 b1 h1)) rfl hfi hb (fun e6 => runFmt_1 e6 ) (args := [.int .i64 n, .int .i64 16]) (by simp only [RelL, Rel]; exact ⟨_, _, rfl, rfl, ⟨_, _, rfl, rfl, rfl⟩⟩) w hl).mono fun e w' he => ?_
  obtain ⟨x, rfl, hx, hb2⟩ := he
  simp only [Rel, RelL] at hx
  subst hx
  exact ⟨rfl, hb2⟩
theorem callsFmt (n : Int) (b0 : 1 ≤ n) (b1 : n ≤ 255) (w : World) (hl : laidE w) : Calls Tryd.prog 51 #[.int .i64 n, .int .i64 16] w fun e w' => e = .returned (St' (hexS n)) ∧ Go.AX.Below w.heap.size w w' := by
  by_cases h1 : 16 ≤ n
  · rw [show (St' (hexS n) : Value) = (St' ([u8 (dg (n / 16)), u8 (dg (n % 16))]) : Value) from by first | (rw [hexS_lo (by omega)]; done) | (rw [hexS_hi (by omega)]; done)]
    exact pathFmt_1 n b0 b1 h1 w hl
  · rw [show (St' (hexS n) : Value) = (St' ([u8 (dg n)]) : Value) from by first | (rw [hexS_lo (by omega)]; done) | (rw [hexS_hi (by omega)]; done)]
    exact pathFmt_0 n b0 b1 h1 w hl
theorem hokFmt {nu : Nat → Value} {one : ∀ i, (nu i).oneCell' = true} {x0 x1 r : AV} {n : Int} (i0 : Is (cx nu one 7 laidE laidE_stab) x0 (.int .i64 n)) (i1 : Is (cx nu one 7 laidE laidE_stab) x1 (.int .i64 16)) (hr : Den (cx nu one 7 laidE laidE_stab) r (St' (hexS n))) (b0 : 1 ≤ n) (b1 : n ≤ 255) : HOk (cx nu one 7 laidE laidE_stab) (.call 51 [x0, x1]) r := by
  intro ρ args ha w hl _
  simp only [RelL] at ha
  obtain ⟨v0, t0, rfl, a0, v1, t1, rfl, a1, rfl⟩ := ha
  have e0 := i0 ρ _ a0; subst e0
  have e1 := i1 ρ _ a1; subst e1
  exact (callsFmt n b0 b1 w hl).mono fun e w' he => ⟨_, he.1, hr ρ, he.2⟩
def hyHex1_0 : List (HK × AV) := [(.bin .eql (.x 0) (.s 0 0), .b false), (.len (.x 0), .i .i64 (.ofNat 1)), (.idx (.x 0) (.i .i64 (.ofNat 0)), .x 1), (.bin .geq (.x 1) (.i .u8 (.ofNat 65)), .b false), (.bin .geq (.x 1) (.i .u8 (.ofNat 97)), .b false), (.bin .geq (.x 1) (.i .u8 (.ofNat 48)), .b true), (.bin .leq (.x 1) (.i .u8 (.ofNat 57)), .b true), (.bin .sub (.x 1) (.i .u8 (.ofNat 48)), .x 2), (.conv 3 (.x 2), .x 3), (.bin .geq (.x 3) (.i .i64 (.ofNat 16)), .b false), (.bin .add (.i .i64 (.ofNat 0)) (.x 3), .x 4)]
noncomputable def tabHex1_0 : Tab := { tabk with hyp := hyHex1_0 }
theorem runHex1_0 (e6 : Nat) : okA (call tabHex1_0 20000 10 [.x 0] ⟨H0 e6 , 7, 0, 0⟩) (.tu [.x 4, .b true]) = true := by kernel_rfl
def nuHex1_0 (n : Int) : List Value := [St' ([u8 (dg n)]), .int .u8 (dg n), .int .u8 ((dg n) - 48), .int .i64 ((dg n) - 48), .int .i64 ((dg n) - 48)]
theorem oneHex1_0 (n : Int) : ∀ j, (nuL (nuHex1_0 n) j).oneCell' = true := nuL_one (l := nuHex1_0 n) rfl
set_option maxHeartbeats 2000000 in
theorem hyOkHex1_0 (n : Int) (b0 : 1 ≤ n) (b1 : n ≤ 15) (h1 : ¬ (65 ≤ dg n)) : ∀ k r, (k, r) ∈ hyHex1_0 → HOk (cx (nuL (nuHex1_0 n)) (oneHex1_0 n) 7 laidE laidE_stab) k r := by
  have := dg_or n
  unfold hyHex1_0
  refine hcons (kEqS (isX rfl) (isSx (l := ([] : List UInt8)) 0 0 rfl) (by first | exact nilT (by first | omega | (simp <;> omega)) | exact nilF (by first | omega | (simp <;> omega)) | exact nilT' (by first | omega | (simp <;> omega)) | exact nilF' (by first | omega | (simp <;> omega)))) ?_
  refine hcons (kLenE (isX rfl) (denZ (m := 1) rfl) rfl) ?_
  refine hcons (kIdxE (i := 0) (isX rfl) (isZ (m := 0) rfl) (denX rfl) rfl (by simp) (bt_at rfl (by omega) (by omega))) ?_
  refine hcons (kGe (isX rfl) (isZ (m := 65) rfl) (decide_eq_false (by omega))) ?_
  refine hcons (kGe (isX rfl) (isZ (m := 97) rfl) (decide_eq_false (by omega))) ?_
  refine hcons (kGe (isX rfl) (isZ (m := 48) rfl) (decide_eq_true (by omega))) ?_
  refine hcons (kLe (isX rfl) (isZ (m := 57) rfl) (decide_eq_true (by omega))) ?_
  refine hcons (kSub (isX rfl) (isZ (m := 48) rfl) (denX rfl) (by omega) (fU8 (by omega) (by omega))) ?_
  refine hcons (kConvF (isX rfl) tu3 (denX rfl) (fI64 (by omega) (by omega))) ?_
  refine hcons (kGe (isX rfl) (isZ (m := 16) rfl) (decide_eq_false (by omega))) ?_
  refine hcons (kAdd (isZ (m := 0) rfl) (isX rfl) (denX rfl) (by omega) (fI64 (by omega) (by omega))) ?_
  exact hnil
theorem pathHex1_0 (n : Int) (b0 : 1 ≤ n) (b1 : n ≤ 15) (h1 : ¬ (65 ≤ dg n)) (w : World) (hl : laidE w) : Calls Tryd.prog 10 #[St' ([u8 (dg n)])] w fun e w' => e = .returned (.tuple #[.int .i64 ((dg n) - 48), .bool true]) ∧ Go.AX.Below w.heap.size w w' := by
  obtain ⟨fi, hfi, hb⟩ : ∃ fi, tabk.fn.get 10 = some fi ∧ fi.body.isSome = true := ⟨_, rfl, by kernel_rfl⟩
  refine (runA (tb := tabHex1_0) (ra := .tu [.x 4, .b true]) (hnr := rfl) ((tabkOk (nuL (nuHex1_0 n)) (oneHex1_0 n)).hyps (hyOkHex1_0 n b0 b1 h1)) rfl hfi hb (fun e6 => runHex1_0 e6 ) (args := [St' ([u8 (dg n)])]) (by simp only [RelL, Rel]; exact ⟨_, _, rfl, rfl, rfl⟩) w hl).mono fun e w' he => ?_
  obtain ⟨x, rfl, hx, hb2⟩ := he
  simp only [Rel, RelL] at hx
  obtain ⟨_, rfl, _, _, rfl, rfl, _, _, rfl, rfl, rfl⟩ := hx
  exact ⟨rfl, hb2⟩
def hyHex1_1 : List (HK × AV) := [(.bin .eql (.x 0) (.s 0 0), .b false), (.len (.x 0), .i .i64 (.ofNat 1)), (.idx (.x 0) (.i .i64 (.ofNat 0)), .x 1), (.bin .geq (.x 1) (.i .u8 (.ofNat 65)), .b true), (.bin .leq (.x 1) (.i .u8 (.ofNat 70)), .b false), (.bin .geq (.x 1) (.i .u8 (.ofNat 97)), .b true), (.bin .leq (.x 1) (.i .u8 (.ofNat 102)), .b true), (.bin .sub (.x 1) (.i .u8 (.ofNat 97)), .x 2), (.conv 3 (.x 2), .x 3), (.bin .add (.x 3) (.i .i64 (.ofNat 10)), .x 4), (.bin .geq (.x 4) (.i .i64 (.ofNat 16)), .b false), (.bin .add (.i .i64 (.ofNat 0)) (.x 4), .x 5)]
noncomputable def tabHex1_1 : Tab := { tabk with hyp := hyHex1_1 }
theorem runHex1_1 (e6 : Nat) : okA (call tabHex1_1 20000 10 [.x 0] ⟨H0 e6 , 7, 0, 0⟩) (.tu [.x 5, .b true]) = true := by kernel_rfl
def nuHex1_1 (n : Int) : List Value := [St' ([u8 (dg n)]), .int .u8 (dg n), .int .u8 ((dg n) - 97), .int .i64 ((dg n) - 97), .int .i64 ((dg n) - 87), .int .i64 ((dg n) - 87)]
theorem oneHex1_1 (n : Int) : ∀ j, (nuL (nuHex1_1 n) j).oneCell' = true := nuL_one (l := nuHex1_1 n) rfl
set_option maxHeartbeats 2000000 in
theorem hyOkHex1_1 (n : Int) (b0 : 1 ≤ n) (b1 : n ≤ 15) (h1 : 65 ≤ dg n) : ∀ k r, (k, r) ∈ hyHex1_1 → HOk (cx (nuL (nuHex1_1 n)) (oneHex1_1 n) 7 laidE laidE_stab) k r := by
  have := dg_or n
  unfold hyHex1_1
  refine hcons (kEqS (isX rfl) (isSx (l := ([] : List UInt8)) 0 0 rfl) (by first | exact nilT (by first | omega | (simp <;> omega)) | exact nilF (by first | omega | (simp <;> omega)) | exact nilT' (by first | omega | (simp <;> omega)) | exact nilF' (by first | omega | (simp <;> omega)))) ?_
  refine hcons (kLenE (isX rfl) (denZ (m := 1) rfl) rfl) ?_
  refine hcons (kIdxE (i := 0) (isX rfl) (isZ (m := 0) rfl) (denX rfl) rfl (by simp) (bt_at rfl (by omega) (by omega))) ?_
  refine hcons (kGe (isX rfl) (isZ (m := 65) rfl) (decide_eq_true (by omega))) ?_
  refine hcons (kLe (isX rfl) (isZ (m := 70) rfl) (decide_eq_false (by omega))) ?_
  refine hcons (kGe (isX rfl) (isZ (m := 97) rfl) (decide_eq_true (by omega))) ?_
  refine hcons (kLe (isX rfl) (isZ (m := 102) rfl) (decide_eq_true (by omega))) ?_
  refine hcons (kSub (isX rfl) (isZ (m := 97) rfl) (denX rfl) (by omega) (fU8 (by omega) (by omega))) ?_
  refine hcons (kConvF (isX rfl) tu3 (denX rfl) (fI64 (by omega) (by omega))) ?_
  refine hcons (kAdd (isX rfl) (isZ (m := 10) rfl) (denX rfl) (by omega) (fI64 (by omega) (by omega))) ?_
  refine hcons (kGe (isX rfl) (isZ (m := 16) rfl) (decide_eq_false (by omega))) ?_
  refine hcons (kAdd (isZ (m := 0) rfl) (isX rfl) (denX rfl) (by omega) (fI64 (by omega) (by omega))) ?_
  exact hnil
theorem pathHex1_1 (n : Int) (b0 : 1 ≤ n) (b1 : n ≤ 15) (h1 : 65 ≤ dg n) (w : World) (hl : laidE w) : Calls Tryd.prog 10 #[St' ([u8 (dg n)])] w fun e w' => e = .returned (.tuple #[.int .i64 ((dg n) - 87), .bool true]) ∧ Go.AX.Below w.heap.size w w' := by
  obtain ⟨fi, hfi, hb⟩ : ∃ fi, tabk.fn.get 10 = some fi ∧ fi.body.isSome = true := ⟨_, rfl, by kernel_rfl⟩
  refine (runA (tb := tabHex1_1) (ra := .tu [.x 5, .b true]) (hnr := rfl) ((tabkOk (nuL (nuHex1_1 n)) (oneHex1_1 n)).hyps (hyOkHex1_1 n b0 b1 h1)) rfl hfi hb (fun e6 => runHex1_1 e6 ) (args := [St' ([u8 (dg n)])]) (by simp only [RelL, Rel]; exact ⟨_, _, rfl, rfl, rfl⟩) w hl).mono fun e w' he => ?_
  obtain ⟨x, rfl, hx, hb2⟩ := he
  simp only [Rel, RelL] at hx
  obtain ⟨_, rfl, _, _, rfl, rfl, _, _, rfl, rfl, rfl⟩ := hx
  exact ⟨rfl, hb2⟩
theorem callsHex1 (n : Int) (b0 : 1 ≤ n) (b1 : n ≤ 15) (w : World) (hl : laidE w) : Calls Tryd.prog 10 #[St' ([u8 (dg n)])] w fun e w' => e = .returned (.tuple #[.int .i64 n, .bool true]) ∧ Go.AX.Below w.heap.size w w' := by
  have := dg_or n
  by_cases h1 : 65 ≤ dg n
  · rw [show (.tuple #[.int .i64 n, .bool true] : Value) = (.tuple #[.int .i64 ((dg n) - 87), .bool true] : Value) from by congr 4; omega]
    exact pathHex1_1 n b0 b1 h1 w hl
  · rw [show (.tuple #[.int .i64 n, .bool true] : Value) = (.tuple #[.int .i64 ((dg n) - 48), .bool true] : Value) from by congr 4; omega]
    exact pathHex1_0 n b0 b1 h1 w hl
theorem hokHex1 {nu : Nat → Value} {one : ∀ i, (nu i).oneCell' = true} {x0 r : AV} {n : Int} (i0 : Is (cx nu one 7 laidE laidE_stab) x0 (St' ([u8 (dg n)]))) (hr : Den (cx nu one 7 laidE laidE_stab) r (.tuple #[.int .i64 n, .bool true])) (b0 : 1 ≤ n) (b1 : n ≤ 15) : HOk (cx nu one 7 laidE laidE_stab) (.call 10 [x0]) r := by
  intro ρ args ha w hl _
  simp only [RelL] at ha
  obtain ⟨v0, t0, rfl, a0, rfl⟩ := ha
  have e0 := i0 ρ _ a0; subst e0
  exact (callsHex1 n b0 b1 w hl).mono fun e w' he => ⟨_, he.1, hr ρ, he.2⟩
def hyHex2_0 : List (HK × AV) := [(.bin .eql (.x 0) (.s 0 0), .b false), (.len (.x 0), .i .i64 (.ofNat 2)), (.idx (.x 0) (.i .i64 (.ofNat 0)), .x 1), (.bin .geq (.x 1) (.i .u8 (.ofNat 65)), .b false), (.bin .geq (.x 1) (.i .u8 (.ofNat 97)), .b false), (.bin .geq (.x 1) (.i .u8 (.ofNat 48)), .b true), (.bin .leq (.x 1) (.i .u8 (.ofNat 57)), .b true), (.bin .sub (.x 1) (.i .u8 (.ofNat 48)), .x 2), (.conv 3 (.x 2), .x 3), (.bin .geq (.x 3) (.i .i64 (.ofNat 16)), .b false), (.bin .add (.i .i64 (.ofNat 0)) (.x 3), .x 4), (.idx (.x 0) (.i .i64 (.ofNat 1)), .x 5), (.bin .geq (.x 5) (.i .u8 (.ofNat 65)), .b false), (.bin .geq (.x 5) (.i .u8 (.ofNat 97)), .b false), (.bin .geq (.x 5) (.i .u8 (.ofNat 48)), .b true), (.bin .leq (.x 5) (.i .u8 (.ofNat 57)), .b true), (.bin .sub (.x 5) (.i .u8 (.ofNat 48)), .x 6), (.conv 3 (.x 6), .x 7), (.bin .geq (.x 7) (.i .i64 (.ofNat 16)), .b false), (.bin .mul (.x 4) (.i .i64 (.ofNat 16)), .x 8), (.bin .add (.x 8) (.x 7), .x 9)]
noncomputable def tabHex2_0 : Tab := { tabk with hyp := hyHex2_0 }
theorem runHex2_0 (e6 : Nat) : okA (call tabHex2_0 20000 10 [.x 0] ⟨H0 e6 , 7, 0, 0⟩) (.tu [.x 9, .b true]) = true := by kernel_rfl
def nuHex2_0 (n : Int) : List Value := [St' ([u8 (dg (n / 16)), u8 (dg (n % 16))]), .int .u8 (dg (n / 16)), .int .u8 ((dg (n / 16)) - 48), .int .i64 ((dg (n / 16)) - 48), .int .i64 ((dg (n / 16)) - 48), .int .u8 (dg (n % 16)), .int .u8 ((dg (n % 16)) - 48), .int .i64 ((dg (n % 16)) - 48), .int .i64 ((dg (n / 16)) * 16 - 768), .int .i64 ((dg (n % 16)) + (dg (n / 16)) * 16 - 816)]
theorem oneHex2_0 (n : Int) : ∀ j, (nuL (nuHex2_0 n) j).oneCell' = true := nuL_one (l := nuHex2_0 n) rfl
set_option maxHeartbeats 2000000 in
theorem hyOkHex2_0 (n : Int) (b0 : 16 ≤ n) (b1 : n ≤ 255) (h1 : ¬ (65 ≤ dg (n / 16))) (h6 : ¬ (65 ≤ dg (n % 16))) : ∀ k r, (k, r) ∈ hyHex2_0 → HOk (cx (nuL (nuHex2_0 n)) (oneHex2_0 n) 7 laidE laidE_stab) k r := by
  have := dg_or (n / 16); have := dg_or (n % 16)
  unfold hyHex2_0
  refine hcons (kEqS (isX rfl) (isSx (l := ([] : List UInt8)) 0 0 rfl) (by first | exact nilT (by first | omega | (simp <;> omega)) | exact nilF (by first | omega | (simp <;> omega)) | exact nilT' (by first | omega | (simp <;> omega)) | exact nilF' (by first | omega | (simp <;> omega)))) ?_
  refine hcons (kLenE (isX rfl) (denZ (m := 2) rfl) rfl) ?_
  refine hcons (kIdxE (i := 0) (isX rfl) (isZ (m := 0) rfl) (denX rfl) rfl (by simp) (bt_at rfl (by omega) (by omega))) ?_
  refine hcons (kGe (isX rfl) (isZ (m := 65) rfl) (decide_eq_false (by omega))) ?_
  refine hcons (kGe (isX rfl) (isZ (m := 97) rfl) (decide_eq_false (by omega))) ?_
  refine hcons (kGe (isX rfl) (isZ (m := 48) rfl) (decide_eq_true (by omega))) ?_
  refine hcons (kLe (isX rfl) (isZ (m := 57) rfl) (decide_eq_true (by omega))) ?_
  refine hcons (kSub (isX rfl) (isZ (m := 48) rfl) (denX rfl) (by omega) (fU8 (by omega) (by omega))) ?_
  refine hcons (kConvF (isX rfl) tu3 (denX rfl) (fI64 (by omega) (by omega))) ?_
  refine hcons (kGe (isX rfl) (isZ (m := 16) rfl) (decide_eq_false (by omega))) ?_
  refine hcons (kAdd (isZ (m := 0) rfl) (isX rfl) (denX rfl) (by omega) (fI64 (by omega) (by omega))) ?_
  refine hcons (kIdxE (i := 1) (isX rfl) (isZ (m := 1) rfl) (denX rfl) rfl (by simp) (bt_at rfl (by omega) (by omega))) ?_
  refine hcons (kGe (isX rfl) (isZ (m := 65) rfl) (decide_eq_false (by omega))) ?_
  refine hcons (kGe (isX rfl) (isZ (m := 97) rfl) (decide_eq_false (by omega))) ?_
  refine hcons (kGe (isX rfl) (isZ (m := 48) rfl) (decide_eq_true (by omega))) ?_
  refine hcons (kLe (isX rfl) (isZ (m := 57) rfl) (decide_eq_true (by omega))) ?_
  refine hcons (kSub (isX rfl) (isZ (m := 48) rfl) (denX rfl) (by omega) (fU8 (by omega) (by omega))) ?_
  refine hcons (kConvF (isX rfl) tu3 (denX rfl) (fI64 (by omega) (by omega))) ?_
  refine hcons (kGe (isX rfl) (isZ (m := 16) rfl) (decide_eq_false (by omega))) ?_
  refine hcons (kMul (isX rfl) (isZ (m := 16) rfl) (denX rfl) (by omega) (fI64 (by omega) (by omega))) ?_
  refine hcons (kAdd (isX rfl) (isX rfl) (denX rfl) (by omega) (fI64 (by omega) (by omega))) ?_
  exact hnil
theorem pathHex2_0 (n : Int) (b0 : 16 ≤ n) (b1 : n ≤ 255) (h1 : ¬ (65 ≤ dg (n / 16))) (h6 : ¬ (65 ≤ dg (n % 16))) (w : World) (hl : laidE w) : Calls Tryd.prog 10 #[St' ([u8 (dg (n / 16)), u8 (dg (n % 16))])] w fun e w' => e = .returned (.tuple #[.int .i64 ((dg (n % 16)) + (dg (n / 16)) * 16 - 816), .bool true]) ∧ Go.AX.Below w.heap.size w w' := by
  obtain ⟨fi, hfi, hb⟩ : ∃ fi, tabk.fn.get 10 = some fi ∧ fi.body.isSome = true := ⟨_, rfl, by kernel_rfl⟩
  refine (runA (tb := tabHex2_0) (ra := .tu [.x 9, .b true]) (hnr := rfl) ((tabkOk (nuL (nuHex2_0 n)) (oneHex2_0 n)).hyps (hyOkHex2_0 n b0 b1 h1 h6)) rfl hfi hb (fun e6 => runHex2_0 e6 ) (args := [St' ([u8 (dg (n / 16)), u8 (dg (n % 16))])]) (by simp only [RelL, Rel]; exact ⟨_, _, rfl, rfl, rfl⟩) w hl).mono fun e w' he => ?_
  obtain ⟨x, rfl, hx, hb2⟩ := he
  simp only [Rel, RelL] at hx
  obtain ⟨_, rfl, _, _, rfl, rfl, _, _, rfl, rfl, rfl⟩ := hx
  exact ⟨rfl, hb2⟩
def hyHex2_1 : List (HK × AV) := [(.bin .eql (.x 0) (.s 0 0), .b false), (.len (.x 0), .i .i64 (.ofNat 2)), (.idx (.x 0) (.i .i64 (.ofNat 0)), .x 1), (.bin .geq (.x 1) (.i .u8 (.ofNat 65)), .b false), (.bin .geq (.x 1) (.i .u8 (.ofNat 97)), .b false), (.bin .geq (.x 1) (.i .u8 (.ofNat 48)), .b true), (.bin .leq (.x 1) (.i .u8 (.ofNat 57)), .b true), (.bin .sub (.x 1) (.i .u8 (.ofNat 48)), .x 2), (.conv 3 (.x 2), .x 3), (.bin .geq (.x 3) (.i .i64 (.ofNat 16)), .b false), (.bin .add (.i .i64 (.ofNat 0)) (.x 3), .x 4), (.idx (.x 0) (.i .i64 (.ofNat 1)), .x 5), (.bin .geq (.x 5) (.i .u8 (.ofNat 65)), .b true), (.bin .leq (.x 5) (.i .u8 (.ofNat 70)), .b false), (.bin .geq (.x 5) (.i .u8 (.ofNat 97)), .b true), (.bin .leq (.x 5) (.i .u8 (.ofNat 102)), .b true), (.bin .sub (.x 5) (.i .u8 (.ofNat 97)), .x 6), (.conv 3 (.x 6), .x 7), (.bin .add (.x 7) (.i .i64 (.ofNat 10)), .x 8), (.bin .geq (.x 8) (.i .i64 (.ofNat 16)), .b false), (.bin .mul (.x 4) (.i .i64 (.ofNat 16)), .x 9), (.bin .add (.x 9) (.x 8), .x 10)]
noncomputable def tabHex2_1 : Tab := { tabk with hyp := hyHex2_1 }
theorem runHex2_1 (e6 : Nat) : okA (call tabHex2_1 20000 10 [.x 0] ⟨H0 e6 , 7, 0, 0⟩) (.tu [.x 10, .b true]) = true := by kernel_rfl
def nuHex2_1 (n : Int) : List Value := [St' ([u8 (dg (n / 16)), u8 (dg (n % 16))]), .int .u8 (dg (n / 16)), .int .u8 ((dg (n / 16)) - 48), .int .i64 ((dg (n / 16)) - 48), .int .i64 ((dg (n / 16)) - 48), .int .u8 (dg (n % 16)), .int .u8 ((dg (n % 16)) - 97), .int .i64 ((dg (n % 16)) - 97), .int .i64 ((dg (n % 16)) - 87), .int .i64 ((dg (n / 16)) * 16 - 768), .int .i64 ((dg (n % 16)) + (dg (n / 16)) * 16 - 855)]
theorem oneHex2_1 (n : Int) : ∀ j, (nuL (nuHex2_1 n) j).oneCell' = true := nuL_one (l := nuHex2_1 n) rfl
set_option maxHeartbeats 2000000 in
theorem hyOkHex2_1 (n : Int) (b0 : 16 ≤ n) (b1 : n ≤ 255) (h1 : ¬ (65 ≤ dg (n / 16))) (h6 : 65 ≤ dg (n % 16)) : ∀ k r, (k, r) ∈ hyHex2_1 → HOk (cx (nuL (nuHex2_1 n)) (oneHex2_1 n) 7 laidE laidE_stab) k r := by
  have := dg_or (n / 16); have := dg_or (n % 16)
  unfold hyHex2_1
  refine hcons (kEqS (isX rfl) (isSx (l := ([] : List UInt8)) 0 0 rfl) (by first | exact nilT (by first | omega | (simp <;> omega)) | exact nilF (by first | omega | (simp <;> omega)) | exact nilT' (by first | omega | (simp <;> omega)) | exact nilF' (by first | omega | (simp <;> omega)))) ?_
  refine hcons (kLenE (isX rfl) (denZ (m := 2) rfl) rfl) ?_
  refine hcons (kIdxE (i := 0) (isX rfl) (isZ (m := 0) rfl) (denX rfl) rfl (by simp) (bt_at rfl (by omega) (by omega))) ?_
  refine hcons (kGe (isX rfl) (isZ (m := 65) rfl) (decide_eq_false (by omega))) ?_
  refine hcons (kGe (isX rfl) (isZ (m := 97) rfl) (decide_eq_false (by omega))) ?_
  refine hcons (kGe (isX rfl) (isZ (m := 48) rfl) (decide_eq_true (by omega))) ?_
  refine hcons (kLe (isX rfl) (isZ (m := 57) rfl) (decide_eq_true (by omega))) ?_
  refine hcons (kSub (isX rfl) (isZ (m := 48) rfl) (denX rfl) (by omega) (fU8 (by omega) (by omega))) ?_
  refine hcons (kConvF (isX rfl) tu3 (denX rfl) (fI64 (by omega) (by omega))) ?_
  refine hcons (kGe (isX rfl) (isZ (m := 16) rfl) (decide_eq_false (by omega))) ?_
  refine hcons (kAdd (isZ (m := 0) rfl) (isX rfl) (denX rfl) (by omega) (fI64 (by omega) (by omega))) ?_
  refine hcons (kIdxE (i := 1) (isX rfl) (isZ (m := 1) rfl) (denX rfl) rfl (by simp) (bt_at rfl (by omega) (by omega))) ?_
  refine hcons (kGe (isX rfl) (isZ (m := 65) rfl) (decide_eq_true (by omega))) ?_
  refine hcons (kLe (isX rfl) (isZ (m := 70) rfl) (decide_eq_false (by omega))) ?_
  refine hcons (kGe (isX rfl) (isZ (m := 97) rfl) (decide_eq_true (by omega))) ?_
  refine hcons (kLe (isX rfl) (isZ (m := 102) rfl) (decide_eq_true (by omega))) ?_
  refine hcons (kSub (isX rfl) (isZ (m := 97) rfl) (denX rfl) (by omega) (fU8 (by omega) (by omega))) ?_
  refine hcons (kConvF (isX rfl) tu3 (denX rfl) (fI64 (by omega) (by omega))) ?_
  refine hcons (kAdd (isX rfl) (isZ (m := 10) rfl) (denX rfl) (by omega) (fI64 (by omega) (by omega))) ?_
  refine hcons (kGe (isX rfl) (isZ (m := 16) rfl) (decide_eq_false (by omega))) ?_
  refine hcons (kMul (isX rfl) (isZ (m := 16) rfl) (denX rfl) (by omega) (fI64 (by omega) (by omega))) ?_
  refine hcons (kAdd (isX rfl) (isX rfl) (denX rfl) (by omega) (fI64 (by omega) (by omega))) ?_
  exact hnil
theorem pathHex2_1 (n : Int) (b0 : 16 ≤ n) (b1 : n ≤ 255) (h1 : ¬ (65 ≤ dg (n / 16))) (h6 : 65 ≤ dg (n % 16)) (w : World) (hl : laidE w) : Calls Tryd.prog 10 #[St' ([u8 (dg (n / 16)), u8 (dg (n % 16))])] w fun e w' => e = .returned (.tuple #[.int .i64 ((dg (n % 16)) + (dg (n / 16)) * 16 - 855), .bool true]) ∧ Go.AX.Below w.heap.size w w' := by
  obtain ⟨fi, hfi, hb⟩ : ∃ fi, tabk.fn.get 10 = some fi ∧ fi.body.isSome = true := ⟨_, rfl, by kernel_rfl⟩
  refine (runA (tb := tabHex2_1) (ra := .tu [.x 10, .b true]) (hnr := rfl) ((tabkOk (nuL (nuHex2_1 n)) (oneHex2_1 n)).hyps (hyOkHex2_1 n b0 b1 h1 h6)) rfl hfi hb (fun e6 => runHex2_1 e6 ) (args := [St' ([u8 (dg (n / 16)), u8 (dg (n % 16))])]) (by simp only [RelL, Rel]; exact ⟨_, _, rfl, rfl, rfl⟩) w hl).mono fun e w' he => ?_
  obtain ⟨x, rfl, hx, hb2⟩ := he
  simp only [Rel, RelL] at hx
  obtain ⟨_, rfl, _, _, rfl, rfl, _, _, rfl, rfl, rfl⟩ := hx
  exact ⟨rfl, hb2⟩
def hyHex2_2 : List (HK × AV) := [(.bin .eql (.x 0) (.s 0 0), .b false), (.len (.x 0), .i .i64 (.ofNat 2)), (.idx (.x 0) (.i .i64 (.ofNat 0)), .x 1), (.bin .geq (.x 1) (.i .u8 (.ofNat 65)), .b true), (.bin .leq (.x 1) (.i .u8 (.ofNat 70)), .b false), (.bin .geq (.x 1) (.i .u8 (.ofNat 97)), .b true), (.bin .leq (.x 1) (.i .u8 (.ofNat 102)), .b true), (.bin .sub (.x 1) (.i .u8 (.ofNat 97)), .x 2), (.conv 3 (.x 2), .x 3), (.bin .add (.x 3) (.i .i64 (.ofNat 10)), .x 4), (.bin .geq (.x 4) (.i .i64 (.ofNat 16)), .b false), (.bin .add (.i .i64 (.ofNat 0)) (.x 4), .x 5), (.idx (.x 0) (.i .i64 (.ofNat 1)), .x 6), (.bin .geq (.x 6) (.i .u8 (.ofNat 65)), .b false), (.bin .geq (.x 6) (.i .u8 (.ofNat 97)), .b false), (.bin .geq (.x 6) (.i .u8 (.ofNat 48)), .b true), (.bin .leq (.x 6) (.i .u8 (.ofNat 57)), .b true), (.bin .sub (.x 6) (.i .u8 (.ofNat 48)), .x 7), (.conv 3 (.x 7), .x 8), (.bin .geq (.x 8) (.i .i64 (.ofNat 16)), .b false), (.bin .mul (.x 5) (.i .i64 (.ofNat 16)), .x 9), (.bin .add (.x 9) (.x 8), .x 10)]
noncomputable def tabHex2_2 : Tab := { tabk with hyp := hyHex2_2 }
theorem runHex2_2 (e6 : Nat) : okA (call tabHex2_2 20000 10 [.x 0] ⟨H0 e6 , 7, 0, 0⟩) (.tu [.x 10, .b true]) = true := by kernel_rfl
def nuHex2_2 (n : Int) : List Value := [St' ([u8 (dg (n / 16)), u8 (dg (n % 16))]), .int .u8 (dg (n / 16)), .int .u8 ((dg (n / 16)) - 97), .int .i64 ((dg (n / 16)) - 97), .int .i64 ((dg (n / 16)) - 87), .int .i64 ((dg (n / 16)) - 87), .int .u8 (dg (n % 16)), .int .u8 ((dg (n % 16)) - 48), .int .i64 ((dg (n % 16)) - 48), .int .i64 ((dg (n / 16)) * 16 - 1392), .int .i64 ((dg (n % 16)) + (dg (n / 16)) * 16 - 1440)]
theorem oneHex2_2 (n : Int) : ∀ j, (nuL (nuHex2_2 n) j).oneCell' = true := nuL_one (l := nuHex2_2 n) rfl
set_option maxHeartbeats 2000000 in
theorem hyOkHex2_2 (n : Int) (b0 : 16 ≤ n) (b1 : n ≤ 255) (h1 : 65 ≤ dg (n / 16)) (h6 : ¬ (65 ≤ dg (n % 16))) : ∀ k r, (k, r) ∈ hyHex2_2 → HOk (cx (nuL (nuHex2_2 n)) (oneHex2_2 n) 7 laidE laidE_stab) k r := by
  have := dg_or (n / 16); have := dg_or (n % 16)
  unfold hyHex2_2
  refine hcons (kEqS (isX rfl) (isSx (l := ([] : List UInt8)) 0 0 rfl) (by first | exact nilT (by first | omega | (simp <;> omega)) | exact nilF (by first | omega | (simp <;> omega)) | exact nilT' (by first | omega | (simp <;> omega)) | exact nilF' (by first | omega | (simp <;> omega)))) ?_
  refine hcons (kLenE (isX rfl) (denZ (m := 2) rfl) rfl) ?_
  refine hcons (kIdxE (i := 0) (isX rfl) (isZ (m := 0) rfl) (denX rfl) rfl (by simp) (bt_at rfl (by omega) (by omega))) ?_
  refine hcons (kGe (isX rfl) (isZ (m := 65) rfl) (decide_eq_true (by omega))) ?_
  refine hcons (kLe (isX rfl) (isZ (m := 70) rfl) (decide_eq_false (by omega))) ?_
  refine hcons (kGe (isX rfl) (isZ (m := 97) rfl) (decide_eq_true (by omega))) ?_
  refine hcons (kLe (isX rfl) (isZ (m := 102) rfl) (decide_eq_true (by omega))) ?_
  refine hcons (kSub (isX rfl) (isZ (m := 97) rfl) (denX rfl) (by omega) (fU8 (by omega) (by omega))) ?_
  refine hcons (kConvF (isX rfl) tu3 (denX rfl) (fI64 (by omega) (by omega))) ?_
  refine hcons (kAdd (isX rfl) (isZ (m := 10) rfl) (denX rfl) (by omega) (fI64 (by omega) (by omega))) ?_
  refine hcons (kGe (isX rfl) (isZ (m := 16) rfl) (decide_eq_false (by omega))) ?_
  refine hcons (kAdd (isZ (m := 0) rfl) (isX rfl) (denX rfl) (by omega) (fI64 (by omega) (by omega))) ?_
  refine hcons (kIdxE (i := 1) (isX rfl) (isZ (m := 1) rfl) (denX rfl) rfl (by simp) (bt_at rfl (by omega) (by omega))) ?_
  refine hcons (kGe (isX rfl) (isZ (m := 65) rfl) (decide_eq_false (by omega))) ?_
  refine hcons (kGe (isX rfl) (isZ (m := 97) rfl) (decide_eq_false (by omega))) ?_
  refine hcons (kGe (isX rfl) (isZ (m := 48) rfl) (decide_eq_true (by omega))) ?_
  refine hcons (kLe (isX rfl) (isZ (m := 57) rfl) (decide_eq_true (by omega))) ?_
  refine hcons (kSub (isX rfl) (isZ (m := 48) rfl) (denX rfl) (by omega) (fU8 (by omega) (by omega))) ?_
  refine hcons (kConvF (isX rfl) tu3 (denX rfl) (fI64 (by omega) (by omega))) ?_
  refine hcons (kGe (isX rfl) (isZ (m := 16) rfl) (decide_eq_false (by omega))) ?_
  refine hcons (kMul (isX rfl) (isZ (m := 16) rfl) (denX rfl) (by omega) (fI64 (by omega) (by omega))) ?_
  refine hcons (kAdd (isX rfl) (isX rfl) (denX rfl) (by omega) (fI64 (by omega) (by omega))) ?_
  exact hnil
theorem pathHex2_2 (n : Int) (b0 : 16 ≤ n) (b1 : n ≤ 255) (h1 : 65 ≤ dg (n / 16)) (h6 : ¬ (65 ≤ dg (n % 16))) (w : World) (hl : laidE w) : Calls Tryd.prog 10 #[St' ([u8 (dg (n / 16)), u8 (dg (n % 16))])] w fun e w' => e = .returned (.tuple #[.int .i64 ((dg (n % 16)) + (dg (n / 16)) * 16 - 1440), .bool true]) ∧ Go.AX.Below w.heap.size w w' := by
  obtain ⟨fi, hfi, hb⟩ : ∃ fi, tabk.fn.get 10 = some fi ∧ fi.body.isSome = true := ⟨_, rfl, by kernel_rfl⟩
  refine (runA (tb := tabHex2_2) (ra := .tu [.x 10, .b true]) (hnr := rfl) ((tabkOk (nuL (nuHex2_2 n)) (oneHex2_2 n)).hyps (hyOkHex2_2 n b0 b1 h1 h6)) rfl hfi hb (fun e6 => runHex2_2 e6 ) (args := [St' ([u8 (dg (n / 16)), u8 (dg (n % 16))])]) (by simp only [RelL, Rel]; exact ⟨_, _, rfl, rfl, rfl⟩) w hl).mono fun e w' he => ?_
  obtain ⟨x, rfl, hx, hb2⟩ := he
  simp only [Rel, RelL] at hx
  obtain ⟨_, rfl, _, _, rfl, rfl, _, _, rfl, rfl, rfl⟩ := hx
  exact ⟨rfl, hb2⟩
def hyHex2_3 : List (HK × AV) := [(.bin .eql (.x 0) (.s 0 0), .b false), (.len (.x 0), .i .i64 (.ofNat 2)), (.idx (.x 0) (.i .i64 (.ofNat 0)), .x 1), (.bin .geq (.x 1) (.i .u8 (.ofNat 65)), .b true), (.bin .leq (.x 1) (.i .u8 (.ofNat 70)), .b false), (.bin .geq (.x 1) (.i .u8 (.ofNat 97)), .b true), (.bin .leq (.x 1) (.i .u8 (.ofNat 102)), .b true), (.bin .sub (.x 1) (.i .u8 (.ofNat 97)), .x 2), (.conv 3 (.x 2), .x 3), (.bin .add (.x 3) (.i .i64 (.ofNat 10)), .x 4), (.bin .geq (.x 4) (.i .i64 (.ofNat 16)), .b false), (.bin .add (.i .i64 (.ofNat 0)) (.x 4), .x 5), (.idx (.x 0) (.i .i64 (.ofNat 1)), .x 6), (.bin .geq (.x 6) (.i .u8 (.ofNat 65)), .b true), (.bin .leq (.x 6) (.i .u8 (.ofNat 70)), .b false), (.bin .geq (.x 6) (.i .u8 (.ofNat 97)), .b true), (.bin .leq (.x 6) (.i .u8 (.ofNat 102)), .b true), (.bin .sub (.x 6) (.i .u8 (.ofNat 97)), .x 7), (.conv 3 (.x 7), .x 8), (.bin .add (.x 8) (.i .i64 (.ofNat 10)), .x 9), (.bin .geq (.x 9) (.i .i64 (.ofNat 16)), .b false), (.bin .mul (.x 5) (.i .i64 (.ofNat 16)), .x 10), (.bin .add (.x 10) (.x 9), .x 11)]
noncomputable def tabHex2_3 : Tab := { tabk with hyp := hyHex2_3 }
theorem runHex2_3 (e6 : Nat) : okA (call tabHex2_3 20000 10 [.x 0] ⟨H0 e6 , 7, 0, 0⟩) (.tu [.x 11, .b true]) = true := by kernel_rfl
def nuHex2_3 (n : Int) : List Value := [St' ([u8 (dg (n / 16)), u8 (dg (n % 16))]), .int .u8 (dg (n / 16)), .int .u8 ((dg (n / 16)) - 97), .int .i64 ((dg (n / 16)) - 97), .int .i64 ((dg (n / 16)) - 87), .int .i64 ((dg (n / 16)) - 87), .int .u8 (dg (n % 16)), .int .u8 ((dg (n % 16)) - 97), .int .i64 ((dg (n % 16)) - 97), .int .i64 ((dg (n % 16)) - 87), .int .i64 ((dg (n / 16)) * 16 - 1392), .int .i64 ((dg (n % 16)) + (dg (n / 16)) * 16 - 1479)]
theorem oneHex2_3 (n : Int) : ∀ j, (nuL (nuHex2_3 n) j).oneCell' = true := nuL_one (l := nuHex2_3 n) rfl
set_option maxHeartbeats 2000000 in
theorem hyOkHex2_3 (n : Int) (b0 : 16 ≤ n) (b1 : n ≤ 255) (h1 : 65 ≤ dg (n / 16)) (h6 : 65 ≤ dg (n % 16)) : ∀ k r, (k, r) ∈ hyHex2_3 → HOk (cx (nuL (nuHex2_3 n)) (oneHex2_3 n) 7 laidE laidE_stab) k r := by
  have := dg_or (n / 16); have := dg_or (n % 16)
  unfold hyHex2_3
  refine hcons (kEqS (isX rfl) (isSx (l := ([] : List UInt8)) 0 0 rfl) (by first | exact nilT (by first | omega | (simp <;> omega)) | exact nilF (by first | omega | (simp <;> omega)) | exact nilT' (by first | omega | (simp <;> omega)) | exact nilF' (by first | omega | (simp <;> omega)))) ?_
  refine hcons (kLenE (isX rfl) (denZ (m := 2) rfl) rfl) ?_
  refine hcons (kIdxE (i := 0) (isX rfl) (isZ (m := 0) rfl) (denX rfl) rfl (by simp) (bt_at rfl (by omega) (by omega))) ?_
  refine hcons (kGe (isX rfl) (isZ (m := 65) rfl) (decide_eq_true (by omega))) ?_
  refine hcons (kLe (isX rfl) (isZ (m := 70) rfl) (decide_eq_false (by omega))) ?_
  refine hcons (kGe (isX rfl) (isZ (m := 97) rfl) (decide_eq_true (by omega))) ?_
  refine hcons (kLe (isX rfl) (isZ (m := 102) rfl) (decide_eq_true (by omega))) ?_
  refine hcons (kSub (isX rfl) (isZ (m := 97) rfl) (denX rfl) (by omega) (fU8 (by omega) (by omega))) ?_
  refine hcons (kConvF (isX rfl) tu3 (denX rfl) (fI64 (by omega) (by omega))) ?_
  refine hcons (kAdd (isX rfl) (isZ (m := 10) rfl) (denX rfl) (by omega) (fI64 (by omega) (by omega))) ?_
  refine hcons (kGe (isX rfl) (isZ (m := 16) rfl) (decide_eq_false (by omega))) ?_
  refine hcons (kAdd (isZ (m := 0) rfl) (isX rfl) (denX rfl) (by omega) (fI64 (by omega) (by omega))) ?_
  refine hcons (kIdxE (i := 1) (isX rfl) (isZ (m := 1) rfl) (denX rfl) rfl (by simp) (bt_at rfl (by omega) (by omega))) ?_
  refine hcons (kGe (isX rfl) (isZ (m := 65) rfl) (decide_eq_true (by omega))) ?_
  refine hcons (kLe (isX rfl) (isZ (m := 70) rfl) (decide_eq_false (by omega))) ?_
  refine hcons (kGe (isX rfl) (isZ (m := 97) rfl) (decide_eq_true (by omega))) ?_
  refine hcons (kLe (isX rfl) (isZ (m := 102) rfl) (decide_eq_true (by omega))) ?_
  refine hcons (kSub (isX rfl) (isZ (m := 97) rfl) (denX rfl) (by omega) (fU8 (by omega) (by omega))) ?_
  refine hcons (kConvF (isX rfl) tu3 (denX rfl) (fI64 (by omega) (by omega))) ?_
  refine hcons (kAdd (isX rfl) (isZ (m := 10) rfl) (denX rfl) (by omega) (fI64 (by omega) (by omega))) ?_
  refine hcons (kGe (isX rfl) (isZ (m := 16) rfl) (decide_eq_false (by omega))) ?_
  refine hcons (kMul (isX rfl) (isZ (m := 16) rfl) (denX rfl) (by omega) (fI64 (by omega) (by omega))) ?_
  refine hcons (kAdd (isX rfl) (isX rfl) (denX rfl) (by omega) (fI64 (by omega) (by omega))) ?_
  exact hnil
theorem pathHex2_3 (n : Int) (b0 : 16 ≤ n) (b1 : n ≤ 255) (h1 : 65 ≤ dg (n / 16)) (h6 : 65 ≤ dg (n % 16)) (w : World) (hl : laidE w) : Calls Tryd.prog 10 #[St' ([u8 (dg (n / 16)), u8 (dg (n % 16))])] w fun e w' => e = .returned (.tuple #[.int .i64 ((dg (n % 16)) + (dg (n / 16)) * 16 - 1479), .bool true]) ∧ Go.AX.Below w.heap.size w w' := by
  obtain ⟨fi, hfi, hb⟩ : ∃ fi, tabk.fn.get 10 = some fi ∧ fi.body.isSome = true := ⟨_, rfl, by kernel_rfl⟩
  refine (runA (tb := tabHex2_3) (ra := .tu [.x 11, .b true]) (hnr := rfl) ((tabkOk (nuL (nuHex2_3 n)) (oneHex2_3 n)).hyps (hyOkHex2_3 n b0 b1 h1 h6)) rfl hfi hb (fun e6 => runHex2_3 e6 ) (args := [St' ([u8 (dg (n / 16)), u8 (dg (n % 16))])]) (by simp only [RelL, Rel]; exact ⟨_, _, rfl, rfl, rfl⟩) w hl).mono fun e w' he => ?_
  obtain ⟨x, rfl, hx, hb2⟩ := he
  simp only [Rel, RelL] at hx
  obtain ⟨_, rfl, _, _, rfl, rfl, _, _, rfl, rfl, rfl⟩ := hx
  exact ⟨rfl, hb2⟩
theorem callsHex2 (n : Int) (b0 : 16 ≤ n) (b1 : n ≤ 255) (w : World) (hl : laidE w) : Calls Tryd.prog 10 #[St' ([u8 (dg (n / 16)), u8 (dg (n % 16))])] w fun e w' => e = .returned (.tuple #[.int .i64 n, .bool true]) ∧ Go.AX.Below w.heap.size w w' := by
  have := dg_or (n / 16); have := dg_or (n % 16)
  by_cases h1 : 65 ≤ dg (n / 16)
  · by_cases h6 : 65 ≤ dg (n % 16)
    · rw [show (.tuple #[.int .i64 n, .bool true] : Value) = (.tuple #[.int .i64 ((dg (n % 16)) + (dg (n / 16)) * 16 - 1479), .bool true] : Value) from by congr 4; omega]
      exact pathHex2_3 n b0 b1 h1 h6 w hl
    · rw [show (.tuple #[.int .i64 n, .bool true] : Value) = (.tuple #[.int .i64 ((dg (n % 16)) + (dg (n / 16)) * 16 - 1440), .bool true] : Value) from by congr 4; omega]
      exact pathHex2_2 n b0 b1 h1 h6 w hl
  · by_cases h6 : 65 ≤ dg (n % 16)
    · rw [show (.tuple #[.int .i64 n, .bool true] : Value) = (.tuple #[.int .i64 ((dg (n % 16)) + (dg (n / 16)) * 16 - 855), .bool true] : Value) from by congr 4; omega]
      exact pathHex2_1 n b0 b1 h1 h6 w hl
    · rw [show (.tuple #[.int .i64 n, .bool true] : Value) = (.tuple #[.int .i64 ((dg (n % 16)) + (dg (n / 16)) * 16 - 816), .bool true] : Value) from by congr 4; omega]
      exact pathHex2_0 n b0 b1 h1 h6 w hl
theorem hokHex2 {nu : Nat → Value} {one : ∀ i, (nu i).oneCell' = true} {x0 r : AV} {n : Int} (i0 : Is (cx nu one 7 laidE laidE_stab) x0 (St' ([u8 (dg (n / 16)), u8 (dg (n % 16))]))) (hr : Den (cx nu one 7 laidE laidE_stab) r (.tuple #[.int .i64 n, .bool true])) (b0 : 16 ≤ n) (b1 : n ≤ 255) : HOk (cx nu one 7 laidE laidE_stab) (.call 10 [x0]) r := by
  intro ρ args ha w hl _
  simp only [RelL] at ha
  obtain ⟨v0, t0, rfl, a0, rfl⟩ := ha
  have e0 := i0 ρ _ a0; subst e0
  exact (callsHex2 n b0 b1 w hl).mono fun e w' he => ⟨_, he.1, hr ρ, he.2⟩
noncomputable def tbl (h : List (HK × AV)) : Tab := { tabk with hyp := h }
def BB (n : Int) (ext : Int) (body : List UInt8) : Prop := 0 ≤ n ∧ n ≤ 255 ∧ 0 ≤ ext ∧ ext ≤ 255 ∧ body.length ≤ 9223372036854775807
def Cw (a : Array Value) (w : World) : Prop := Calls Tryd.prog 6 a w fun e w' => e = .returned (.bool true) ∧ Go.AX.Below w.heap.size w w'
theorem fiE : ∃ fi, tabk.fn.get 6 = some fi ∧ fi.body.isSome = true := ⟨_, rfl, by kernel_rfl⟩
end Go.Proofs.YtdnhfkceldafaaaDoor.chunkTrailers
