/- A part of the proof: an interpreter of the model's own code on partly known states, and that what it answers is what the program answers. No condition of its own. -/
import Derived.Test.YtabnmohghnnjaaaGreatDoorSeatN1
import Derived.Test.YtabnmohghnnjaaaGreatDoorHXpart4
import Derived.Test.YtabnmohghnnjaaaGreatDoorAXro
import Derived.Test.YtabnmohghnnjaaaGreatDoorHKA
import Derived.Test.YtabnmohghnnjaaaGreatDoorHKI
import Derived.Test.YtabnmohghnnjaaaGreatDoorHKJ
import Derived.Test.YtabnmohghnnjaaaGreatDoorHKK
import Derived.Test.YtabnmohghnnjaaaGreatDoorHKN
import Derived.Test.YtabnmohghnnjaaaGreatDoorCT
import Derived.Test.YtabnmohghnnjaaaGreatDoorCK
import Derived.Test.YtabnmohghnnjaaaGreatDoorAXcf
set_option maxRecDepth 100000
set_option linter.unusedVariables false
set_option linter.unusedSimpArgs false
namespace Go.Proofs.YtabnmohghnnjaaaGreatDoor.answerBody
open Go Go.AX Go.Proofs Go.Proofs.YtabnmohghnnjaaaGreatDoor
def zs1 : List Int := [1, 10, 100, 1000, 10000, 100000, 1000000, 10000000, 100000000, 1000000000, 10000000000, 100000000000, 1000000000000, 10000000000000, 100000000000000, 1000000000000000, 10000000000000000, 100000000000000000, 1000000000000000000, 10000000000000000000]
def zs6 : List Int := [0, 1, 56, 2, 57, 49, 28, 3, 61, 58, 42, 50, 38, 29, 17, 4, 62, 47, 59, 36, 45, 43, 51, 22, 53, 39, 33, 30, 24, 18, 12, 5, 63, 55, 48, 27, 60, 41, 37, 16, 46, 35, 44, 21, 52, 32, 23, 11, 54, 26, 40, 15, 34, 20, 31, 10, 25, 14, 19, 9, 13, 8, 7, 6]
/-- the variables that the runs read are laid -/
def laidE (w : World) : Prop := ArrIs w 1 .u64 zs1 ∧ ArrIs w 6 .u8 zs6
theorem laidE_stab : ∀ w w' : World, (∀ k, k < 7 → w'.heap[k]? = w.heap[k]?) → laidE w → laidE w' := fun w w' h ⟨h1, h6⟩ => ⟨h1.same (h 1 (by omega)), h6.same (h 6 (by omega))⟩
theorem laidE_size {w : World} (h : laidE w) : 7 ≤ w.heap.size := by
  obtain ⟨h1, h6⟩ := h
  have := h6.size
  omega
noncomputable def H0 (e1 : Nat) (e6 : Nat) : T Ent := T.set (T.set (.leaf) 1 (gBlk e1 (.l (zs1.map fun z => .i .u64 z)))) 6 (gBlk e6 (.l (zs6.map fun z => .i .u8 z)))
theorem runP {nu : Nat → Value} {one : ∀ i, i < 1000000 → (nu i).oneCell' = true} {tb : Tab} (h : AllOk (cx nu one 7 laidE laidE_stab) tb) (hng : tb.ng = 7) {f g : Nat} {fi : FI} (hfi : tb.fn.get g = some fi) (hb : fi.body.isSome = true) {l : List AV} {args : List Value}
    (hr : ∀ e1 e6, okB (call tb f g l ⟨H0 e1 e6 , 7, 0, 0⟩) = true) (hl : RelL (cx nu one 7 laidE laidE_stab) (fun _ => none) l args) (w : World) (hw : laidE w) :
    Calls Tryz.prog g ⟨args⟩ w fun e w' => e = .returned (.bool true) ∧ Go.AX.Below (Go.AX.Fz.lt w.heap.size) w w' := by
  obtain ⟨h1, h6⟩ := id hw
  obtain ⟨e1, g1⟩ := h1.gArr (C := cx nu one 7 laidE laidE_stab)
  obtain ⟨e6, g6⟩ := h6.gArr (C := cx nu one 7 laidE laidE_stab)
  obtain ⟨S, hS⟩ := okB_inv (hr e1 e6)
  refine (run_okG h (H := H0 e1 e6 ) hfi hb (by rw [hng]; exact hS) hl w hw (laidE_size hw) fun v k hv => ?_).mono fun e' w' he => ?_
  · unfold H0 at hv
    rw [get_set _ _ _ _ (by omega)] at hv
    split at hv
    · rename_i e0; subst e0; injection hv with hv; subst hv
      exact ⟨by rw [hng]; omega, e6, _, _, rfl, ⟨trivial, rfl⟩, g6⟩
    rw [get_set _ _ _ _ (by omega)] at hv
    split at hv
    · rename_i e0; subst e0; injection hv with hv; subst hv
      exact ⟨by rw [hng]; omega, e1, _, _, rfl, ⟨trivial, rfl⟩, g1⟩
    simp [T.get_leaf] at hv
  · obtain ⟨x, ρ, rfl, hx, hb⟩ := he
    simp only [Rel] at hx
    exact ⟨by rw [hx], hb⟩
theorem runS {nu : Nat → Value} {one : ∀ i, i < 1000000 → (nu i).oneCell' = true} {tb : Tab} (h : AllOk (cx nu one 7 laidE laidE_stab) tb) (hng : tb.ng = 7) {f g : Nat} {fi : FI} (hfi : tb.fn.get g = some fi) (hb : fi.body.isSome = true) {l : List AV} {args : List Value} {len n : Nat}
    (hr : ∀ e1 e6, okS (call tb f g l ⟨H0 e1 e6 , 7, 0, 0⟩) len n = true) (hl : RelL (cx nu one 7 laidE laidE_stab) (fun _ => none) l args) (w : World) (hw : laidE w) :
    Calls Tryz.prog g ⟨args⟩ w fun e w' => e = .returned (St' (strB len n)) ∧ Go.AX.Below (Go.AX.Fz.lt w.heap.size) w w' := by
  obtain ⟨h1, h6⟩ := id hw
  obtain ⟨e1, g1⟩ := h1.gArr (C := cx nu one 7 laidE laidE_stab)
  obtain ⟨e6, g6⟩ := h6.gArr (C := cx nu one 7 laidE laidE_stab)
  obtain ⟨S, hS⟩ := okS_inv (hr e1 e6)
  refine (run_okG h (H := H0 e1 e6 ) hfi hb (by rw [hng]; exact hS) hl w hw (laidE_size hw) fun v k hv => ?_).mono fun e' w' he => ?_
  · unfold H0 at hv
    rw [get_set _ _ _ _ (by omega)] at hv
    split at hv
    · rename_i e0; subst e0; injection hv with hv; subst hv
      exact ⟨by rw [hng]; omega, e6, _, _, rfl, ⟨trivial, rfl⟩, g6⟩
    rw [get_set _ _ _ _ (by omega)] at hv
    split at hv
    · rename_i e0; subst e0; injection hv with hv; subst hv
      exact ⟨by rw [hng]; omega, e1, _, _, rfl, ⟨trivial, rfl⟩, g1⟩
    simp [T.get_leaf] at hv
  · obtain ⟨x, ρ, rfl, hx, hb⟩ := he
    simp only [Rel] at hx
    exact ⟨by rw [hx.1], hb⟩
theorem runA {nu : Nat → Value} {one : ∀ i, i < 1000000 → (nu i).oneCell' = true} {tb : Tab} (h : AllOk (cx nu one 7 laidE laidE_stab) tb) (hng : tb.ng = 7) {f g : Nat} {fi : FI} (hfi : tb.fn.get g = some fi) (hb : fi.body.isSome = true) {l : List AV} {args : List Value} {ra : AV} (hnr : noR 8 ra = true)
    (hr : ∀ e1 e6, okA (call tb f g l ⟨H0 e1 e6 , 7, 0, 0⟩) ra = true) (hl : RelL (cx nu one 7 laidE laidE_stab) (fun _ => none) l args) (w : World) (hw : laidE w) :
    Calls Tryz.prog g ⟨args⟩ w fun e w' => ∃ x, e = .returned x ∧ Rel (cx nu one 7 laidE laidE_stab) (fun _ => none) ra x ∧ Go.AX.Below (Go.AX.Fz.lt w.heap.size) w w' := by
  obtain ⟨h1, h6⟩ := id hw
  obtain ⟨e1, g1⟩ := h1.gArr (C := cx nu one 7 laidE laidE_stab)
  obtain ⟨e6, g6⟩ := h6.gArr (C := cx nu one 7 laidE laidE_stab)
  obtain ⟨S, hS⟩ := okA_inv (hr e1 e6)
  refine (run_okG h (H := H0 e1 e6 ) hfi hb (by rw [hng]; exact hS) hl w hw (laidE_size hw) fun v k hv => ?_).mono fun e' w' he => ?_
  · unfold H0 at hv
    rw [get_set _ _ _ _ (by omega)] at hv
    split at hv
    · rename_i e0; subst e0; injection hv with hv; subst hv
      exact ⟨by rw [hng]; omega, e6, _, _, rfl, ⟨trivial, rfl⟩, g6⟩
    rw [get_set _ _ _ _ (by omega)] at hv
    split at hv
    · rename_i e0; subst e0; injection hv with hv; subst hv
      exact ⟨by rw [hng]; omega, e1, _, _, rfl, ⟨trivial, rfl⟩, g1⟩
    simp [T.get_leaf] at hv
  · obtain ⟨x, ρ, rfl, hx, hb⟩ := he
    exact ⟨x, rfl, noR_rel 8 _ hnr _ hx, hb⟩
theorem runPL {nu : Nat → Value} {one : ∀ i, i < 1000000 → (nu i).oneCell' = true} {tb : Tab} (h : AllOk (cx nu one 7 laidE laidE_stab) tb) (hng : tb.ng = 7) {f g : Nat} {fi : FI} (hfi : tb.fn.get g = some fi) (hb : fi.body.isSome = true) {l : List AV} {args : List Value} (rs0 : List Ent) (rs : List R)
    (hr : okB (call tb f g l ⟨addR 7 rs0 .leaf, 7 + rs0.length, 0, 0⟩) = true) (hl : RelL (cx nu one 7 laidE laidE_stab) (rhoA 7 rs) l args) (w : World) (hw : laidE w) (hlen : rs0.length = rs.length) (hbd : 7 + rs0.length ≤ 16777213) (hA : ∀ (j : Nat) (k : Ent) (r : R), rs0[j]? = some k → rs[j]? = some r → ArgAt (cx nu one 7 laidE laidE_stab) w .leaf k r) (hnd : rs0.all roE = true) :
    Calls Tryz.prog g ⟨args⟩ w fun e w' => e = .returned (.bool true) ∧ Go.AX.Below (Go.AX.Fz.lt w.heap.size) w w' := by
  obtain ⟨S, hS⟩ := okB_inv hr
  refine (run_okGA h (H := .leaf) hfi hb rs0 rs (by rw [hng]; exact hS) (by rw [hng]; exact hl) w hw (laidE_size hw) hlen (by rw [hng]; exact hbd) hA hnd fun v k hv => ?_).mono fun e' w' he => ?_
  · simp [T.get_leaf] at hv
  · obtain ⟨x, ρ, rfl, hx, hb⟩ := he
    simp only [Rel] at hx
    exact ⟨by rw [hx], hb⟩
noncomputable def fk : FI := ⟨Tryz.f11.body, Tryz.f11.ntmps, Tryz.f11.results.toList, 0, none, []⟩
theorem fk_at : tab.fn.get 11 = some fk := by kernel_rfl
theorem fk_body : fk.body.isSome = true := by kernel_rfl
theorem kk (e1 : Nat) (e6 : Nat) : okB (call tab 6000 11 [] ⟨H0 e1 e6 , 7, 0, 0⟩) = true := by kernel_rfl
noncomputable def tabk : Tab := addSum tab 11 fk (.b true)
section
variable (nu : Nat → Value) (one : ∀ i, i < 1000000 → (nu i).oneCell' = true)
theorem sumk : SumOk (cx nu one 7 laidE laidE_stab) 11 (.b true) := fun w hi hs => by
  refine (runP (tabOk nu one 7 laidE laidE_stab) rfl fk_at fk_body kk (args := []) (by simp only [RelL]) w hi).mono fun e w' he => ?_
  exact ⟨.bool true, he.1, by simp only [Rel], he.2⟩
theorem tabkOk : AllOk (cx nu one 7 laidE laidE_stab) tabk := (tabOk nu one 7 laidE laidE_stab).sum (by omega) fk_at fk_body (sumk nu one)
end
theorem tu3 : Tryz.prog.underlying 3 = some (.int .i64) := by kernel_rfl
theorem tu102 : Tryz.prog.underlying 102 = some (.int .u64) := by kernel_rfl
noncomputable def tbl (h : LK) : Tab := { tabk with hyp := h }
theorem fiE : ∃ fi, tabk.fn.get 4 = some fi ∧ fi.body.isSome = true := ⟨_, rfl, by kernel_rfl⟩
abbrev CwR (g : Nat) (args : Array Value) (w : World) (v : Value) : Prop := Calls Tryz.prog g args w fun e w' => e = .returned v ∧ Go.AX.Below (Go.AX.Fz.lt w.heap.size) w w'
theorem runC {nu : Nat → Value} {one : ∀ i, i < 1000000 → (nu i).oneCell' = true} {tb : Tab} {ra : AV} {v : Value} (hnr : noR 8 ra = true) (h : AllOk (cx nu one 7 laidE laidE_stab) tb) (hng : tb.ng = 7) {f g : Nat} {fi : FI} (hfi : tb.fn.get g = some fi) (hb : fi.body.isSome = true) {l : List AV} {args : List Value}
    (hr : ∀ e1 e6, okA (call tb f g l ⟨H0 e1 e6 , 7, 0, 0⟩) ra = true) (hl : RelL (cx nu one 7 laidE laidE_stab) (fun _ => none) l args) (w : World) (hw : laidE w) (hv : ∀ x, Rel (cx nu one 7 laidE laidE_stab) (fun _ => none) ra x → x = v) : CwR g ⟨args⟩ w v :=
  (runA h hng hfi hb hnr hr hl w hw).mono fun e w' he => by
    obtain ⟨x, rfl, hx, hb2⟩ := he
    exact ⟨by rw [hv x hx], hb2⟩
theorem tupV2 {a b : Int} {x : Value} (h : a = b) : (.tuple #[.int .i64 a, x] : Value) = .tuple #[.int .i64 b, x] := by rw [h]
theorem pt_n {st : Int} {x : BL} (h : st = 204 ∨ st = 304) : ptS st x = [] := by unfold ptS; rw [if_pos h]
theorem pt_0 {st : Int} {x : BL} (h : x.length = 0) : ptS st x = [] := by unfold ptS wrS; rw [if_pos h]; split <;> rfl
theorem pt_1 {st : Int} {x : BL} (h : ¬ (st = 204 ∨ st = 304)) (h0 : ¬ x.length = 0) : ptS st x = hexS (x.length : Int) ++ ([u8 13, u8 10] ++ (x ++ [u8 13, u8 10])) := by unfold ptS wrS; rw [if_neg h, if_neg h0]
theorem spl_mid {s : BL} {Q : Int} (h : Q = (s.length : Int)) : s = (s.drop (Int.toNat 0)).take (Int.toNat (Q - 0)) := by
  rw [h, Int.sub_zero, show Int.toNat 0 = 0 from rfl, List.drop_zero, Int.toNat_natCast, List.take_length]
theorem getD0 {a : BL} : (List.getD (([] : List BL) ++ [a]) 0 []) = a := rfl
variable {nu : Nat → Value} {one : ∀ i, i < 1000000 → (nu i).oneCell' = true} {E' : Cx} {x' : Ex} {e' : LA} {h' : LE}
theorem fiNFmt : tabk.fn.get 96 = some (fI Tryz.f96 0) ∧ (fI Tryz.f96 0).body.isSome = true := ⟨rfl, by kernel_rfl⟩
def hyFmt_0 : LK := [(.conv 102 (.x 0), .x 1), (.bin .lss (.x 0) (.i .i64 (.ofNat 0)), .b false), (.bin .geq (.x 1) (.i .u64 (.ofNat 16)), .b false), (.idx (.s 36 237927390410950444456928663707796224754864904193074819559483181009558347043374296609072) (.x 1), .x 2), (.bytes [.x 2], .x 3)]
theorem runFmt_0 (e1 : Nat) (e6 : Nat) : okA (call (tbl hyFmt_0) 30000 96 [.x 0, .i .i64 (.ofNat 16)] ⟨H0 e1 e6 , 7, 0, 0⟩) (.x 3) = true := by kernel_rfl
def nuFmt_0 (n : Int) : List Value := [.int .i64 (n), .int .u64 (n), .int .u8 (dg n), St' ([u8 (dg n)])]
theorem pathFmt_0 (n : Int) (b0 : 1 ≤ n) (b1 : n ≤ 300) (h1 : ¬ (16 ≤ n)) (w : World) (hl : laidE w) : CwR 96 #[.int .i64 n, .int .i64 16] w (St' ([u8 (dg n)])) := by
  have := dg_or n
  have ho : ∀ k r, (k, r) ∈ hyFmt_0 → HOk (cx (nuL (nuFmt_0 n)) (fun j _ => nuL_one (l := nuFmt_0 n) rfl j) 7 laidE laidE_stab) k r := by
    unfold hyFmt_0
    exact hc (kConvF (isX rfl) tu102 (denX rfl) (fU64 (by omega) (by omega))) <|
     hc (ltcF rfl (by omega)) <|
     hc (gecF rfl (by omega)) <|
     hc (kIdxE (i := (Int.toNat (n))) (isSx (l := DIG) 36 237927390410950444456928663707796224754864904193074819559483181009558347043374296609072 rfl) (isX rfl) (denX rfl) (by omega) (by simp only [List.length_cons, List.length_nil]; omega) (dg_bt (by omega) (by omega))) <|
     hc (kBytesB (bs := [u8 (dg n)]) (.cons (isB8 (isX rfl) (by omega) (by omega)) .nil) (denX rfl)) <|
     hnil
  refine runC (tb := (tbl hyFmt_0)) (ra := .x 3) rfl ((tabkOk (nuL (nuFmt_0 n)) (fun j _ => nuL_one (l := nuFmt_0 n) rfl j)).hyps ho) rfl fiNFmt.1 fiNFmt.2 (fun e1 e6 => runFmt_0 e1 e6 ) (args := [.int .i64 n, .int .i64 16]) (by simp only [RelL, Rel]; exact ⟨_, _, rfl, rfl, ⟨_, _, rfl, rfl, rfl⟩⟩) w hl fun x hx => ?_
  simp only [Rel, RelL] at hx
  exact hx
def hyFmt_1 : LK := [(.conv 102 (.x 0), .x 1), (.bin .lss (.x 0) (.i .i64 (.ofNat 0)), .b false), (.bin .geq (.x 1) (.i .u64 (.ofNat 16)), .b true), (.bin .and (.x 1) (.i .u64 (.ofNat 15)), .x 2), (.idx (.s 36 237927390410950444456928663707796224754864904193074819559483181009558347043374296609072) (.x 2), .x 3), (.bin .shr (.x 1) (.i .u64 (.ofNat 4)), .x 4), (.bin .geq (.x 4) (.i .u64 (.ofNat 16)), .b false), (.idx (.s 36 237927390410950444456928663707796224754864904193074819559483181009558347043374296609072) (.x 4), .x 5), (.bytes [.x 5, .x 3], .x 6)]
theorem runFmt_1 (e1 : Nat) (e6 : Nat) : okA (call (tbl hyFmt_1) 30000 96 [.x 0, .i .i64 (.ofNat 16)] ⟨H0 e1 e6 , 7, 0, 0⟩) (.x 6) = true := by kernel_rfl
def nuFmt_1 (n : Int) : List Value := [.int .i64 (n), .int .u64 (n), .int .u64 (n % 16), .int .u8 (dg (n % 16)), .int .u64 (n / 16), .int .u8 (dg (n / 16)), St' ([u8 (dg (n / 16)), u8 (dg (n % 16))])]
theorem pathFmt_1 (n : Int) (b0 : 1 ≤ n) (b1 : n ≤ 300) (h1 : 16 ≤ n) (h2 : ¬ (16 ≤ n / 16)) (w : World) (hl : laidE w) : CwR 96 #[.int .i64 n, .int .i64 16] w (St' ([u8 (dg (n / 16)), u8 (dg (n % 16))])) := by
  have := dg_or (n % 16)
  have := dg_or (n / 16)
  have ho : ∀ k r, (k, r) ∈ hyFmt_1 → HOk (cx (nuL (nuFmt_1 n)) (fun j _ => nuL_one (l := nuFmt_1 n) rfl j) 7 laidE laidE_stab) k r := by
    unfold hyFmt_1
    exact hc (kConvF (isX rfl) tu102 (denX rfl) (fU64 (by omega) (by omega))) <|
     hc (ltcF rfl (by omega)) <|
     hc (gecT rfl (by omega)) <|
     hc (kAndM 4 16 rfl (isX rfl) (isZ (m := 15) rfl) (denX rfl) (by omega) (fU64 (by omega) (by omega)) (fU64 (by omega) (by omega)) rfl rfl) <|
     hc (kIdxE (i := (Int.toNat (n % 16))) (isSx (l := DIG) 36 237927390410950444456928663707796224754864904193074819559483181009558347043374296609072 rfl) (isX rfl) (denX rfl) (by omega) (by simp only [List.length_cons, List.length_nil]; omega) (dg_bt (by omega) (by omega))) <|
     hc (kShrM 4 16 rfl (isX rfl) (isZ (m := 4) rfl) (denX rfl) rfl (by decide) (by omega) rfl) <|
     hc (gecF rfl (by omega)) <|
     hc (kIdxE (i := (Int.toNat (n / 16))) (isSx (l := DIG) 36 237927390410950444456928663707796224754864904193074819559483181009558347043374296609072 rfl) (isX rfl) (denX rfl) (by omega) (by simp only [List.length_cons, List.length_nil]; omega) (dg_bt (by omega) (by omega))) <|
     hc (kBytesB (bs := [u8 (dg (n / 16)), u8 (dg (n % 16))]) (.cons (isB8 (isX rfl) (by omega) (by omega)) (.cons (isB8 (isX rfl) (by omega) (by omega)) .nil)) (denX rfl)) <|
     hnil
  refine runC (tb := (tbl hyFmt_1)) (ra := .x 6) rfl ((tabkOk (nuL (nuFmt_1 n)) (fun j _ => nuL_one (l := nuFmt_1 n) rfl j)).hyps ho) rfl fiNFmt.1 fiNFmt.2 (fun e1 e6 => runFmt_1 e1 e6 ) (args := [.int .i64 n, .int .i64 16]) (by simp only [RelL, Rel]; exact ⟨_, _, rfl, rfl, ⟨_, _, rfl, rfl, rfl⟩⟩) w hl fun x hx => ?_
  simp only [Rel, RelL] at hx
  exact hx
def hyFmt_2 : LK := [(.conv 102 (.x 0), .x 1), (.bin .lss (.x 0) (.i .i64 (.ofNat 0)), .b false), (.bin .geq (.x 1) (.i .u64 (.ofNat 16)), .b true), (.bin .and (.x 1) (.i .u64 (.ofNat 15)), .x 2), (.idx (.s 36 237927390410950444456928663707796224754864904193074819559483181009558347043374296609072) (.x 2), .x 3), (.bin .shr (.x 1) (.i .u64 (.ofNat 4)), .x 4), (.bin .geq (.x 4) (.i .u64 (.ofNat 16)), .b true), (.bin .and (.x 4) (.i .u64 (.ofNat 15)), .x 5), (.idx (.s 36 237927390410950444456928663707796224754864904193074819559483181009558347043374296609072) (.x 5), .x 6), (.bin .shr (.x 4) (.i .u64 (.ofNat 4)), .x 7), (.bin .geq (.x 7) (.i .u64 (.ofNat 16)), .b false), (.idx (.s 36 237927390410950444456928663707796224754864904193074819559483181009558347043374296609072) (.x 7), .x 8), (.bytes [.x 8, .x 6, .x 3], .x 9)]
theorem runFmt_2 (e1 : Nat) (e6 : Nat) : okA (call (tbl hyFmt_2) 30000 96 [.x 0, .i .i64 (.ofNat 16)] ⟨H0 e1 e6 , 7, 0, 0⟩) (.x 9) = true := by kernel_rfl
def nuFmt_2 (n : Int) : List Value := [.int .i64 (n), .int .u64 (n), .int .u64 (n % 16), .int .u8 (dg (n % 16)), .int .u64 (n / 16), .int .u64 ((n / 16) % 16), .int .u8 (dg ((n / 16) % 16)), .int .u64 ((n / 16) / 16), .int .u8 (dg ((n / 16) / 16)), St' ([u8 (dg ((n / 16) / 16)), u8 (dg ((n / 16) % 16)), u8 (dg (n % 16))])]
theorem pathFmt_2 (n : Int) (b0 : 1 ≤ n) (b1 : n ≤ 300) (h1 : 16 ≤ n) (h2 : 16 ≤ n / 16) (w : World) (hl : laidE w) : CwR 96 #[.int .i64 n, .int .i64 16] w (St' ([u8 (dg ((n / 16) / 16)), u8 (dg ((n / 16) % 16)), u8 (dg (n % 16))])) := by
  have := dg_or (n % 16)
  have := dg_or ((n / 16) % 16)
  have := dg_or ((n / 16) / 16)
  have ho : ∀ k r, (k, r) ∈ hyFmt_2 → HOk (cx (nuL (nuFmt_2 n)) (fun j _ => nuL_one (l := nuFmt_2 n) rfl j) 7 laidE laidE_stab) k r := by
    unfold hyFmt_2
    exact hc (kConvF (isX rfl) tu102 (denX rfl) (fU64 (by omega) (by omega))) <|
     hc (ltcF rfl (by omega)) <|
     hc (gecT rfl (by omega)) <|
     hc (kAndM 4 16 rfl (isX rfl) (isZ (m := 15) rfl) (denX rfl) (by omega) (fU64 (by omega) (by omega)) (fU64 (by omega) (by omega)) rfl rfl) <|
     hc (kIdxE (i := (Int.toNat (n % 16))) (isSx (l := DIG) 36 237927390410950444456928663707796224754864904193074819559483181009558347043374296609072 rfl) (isX rfl) (denX rfl) (by omega) (by simp only [List.length_cons, List.length_nil]; omega) (dg_bt (by omega) (by omega))) <|
     hc (kShrM 4 16 rfl (isX rfl) (isZ (m := 4) rfl) (denX rfl) rfl (by decide) (by omega) rfl) <|
     hc (gecT rfl (by omega)) <|
     hc (kAndM 4 16 rfl (isX rfl) (isZ (m := 15) rfl) (denX rfl) (by omega) (fU64 (by omega) (by omega)) (fU64 (by omega) (by omega)) rfl rfl) <|
     hc (kIdxE (i := (Int.toNat ((n / 16) % 16))) (isSx (l := DIG) 36 237927390410950444456928663707796224754864904193074819559483181009558347043374296609072 rfl) (isX rfl) (denX rfl) (by omega) (by simp only [List.length_cons, List.length_nil]; omega) (dg_bt (by omega) (by omega))) <|
     hc (kShrM 4 16 rfl (isX rfl) (isZ (m := 4) rfl) (denX rfl) rfl (by decide) (by omega) rfl) <|
     hc (gecF rfl (by omega)) <|
     hc (kIdxE (i := (Int.toNat ((n / 16) / 16))) (isSx (l := DIG) 36 237927390410950444456928663707796224754864904193074819559483181009558347043374296609072 rfl) (isX rfl) (denX rfl) (by omega) (by simp only [List.length_cons, List.length_nil]; omega) (dg_bt (by omega) (by omega))) <|
     hc (kBytesB (bs := [u8 (dg ((n / 16) / 16)), u8 (dg ((n / 16) % 16)), u8 (dg (n % 16))]) (.cons (isB8 (isX rfl) (by omega) (by omega)) (.cons (isB8 (isX rfl) (by omega) (by omega)) (.cons (isB8 (isX rfl) (by omega) (by omega)) .nil))) (denX rfl)) <|
     hnil
  refine runC (tb := (tbl hyFmt_2)) (ra := .x 9) rfl ((tabkOk (nuL (nuFmt_2 n)) (fun j _ => nuL_one (l := nuFmt_2 n) rfl j)).hyps ho) rfl fiNFmt.1 fiNFmt.2 (fun e1 e6 => runFmt_2 e1 e6 ) (args := [.int .i64 n, .int .i64 16]) (by simp only [RelL, Rel]; exact ⟨_, _, rfl, rfl, ⟨_, _, rfl, rfl, rfl⟩⟩) w hl fun x hx => ?_
  simp only [Rel, RelL] at hx
  exact hx
theorem callsFmt (n : Int) (b0 : 1 ≤ n) (b1 : n ≤ 300) (w : World) (hl : laidE w) : CwR 96 #[.int .i64 n, .int .i64 16] w (St' (hexS n)) := by
  by_cases h1 : 16 ≤ n
  · by_cases h2 : 16 ≤ n / 16
    · rw [show (St' (hexS n) : Value) = (St' ([u8 (dg ((n / 16) / 16)), u8 (dg ((n / 16) % 16)), u8 (dg (n % 16))]) : Value) from by exact congrArg (fun l => St' l) (by unfold hexS; first | (rw [if_pos (by omega)]; done) | (rw [if_neg (by omega), if_pos (by omega)]; done) | (rw [if_neg (by omega), if_neg (by omega), show n / 256 = n / 16 / 16 by omega]; done))]
      exact pathFmt_2 n b0 b1 h1 h2 w hl
    · rw [show (St' (hexS n) : Value) = (St' ([u8 (dg (n / 16)), u8 (dg (n % 16))]) : Value) from by exact congrArg (fun l => St' l) (by unfold hexS; first | (rw [if_pos (by omega)]; done) | (rw [if_neg (by omega), if_pos (by omega)]; done) | (rw [if_neg (by omega), if_neg (by omega), show n / 256 = n / 16 / 16 by omega]; done))]
      exact pathFmt_1 n b0 b1 h1 h2 w hl
  · rw [show (St' (hexS n) : Value) = (St' ([u8 (dg n)]) : Value) from by exact congrArg (fun l => St' l) (by unfold hexS; first | (rw [if_pos (by omega)]; done) | (rw [if_neg (by omega), if_pos (by omega)]; done) | (rw [if_neg (by omega), if_neg (by omega), show n / 256 = n / 16 / 16 by omega]; done))]
    exact pathFmt_0 n b0 b1 h1 w hl
theorem hokFmt {x0 x1 r : AV} {n : Int} (i0 : Is (cx nu one 7 laidE laidE_stab) x0 (.int .i64 n)) (i1 : Is (cx nu one 7 laidE laidE_stab) x1 (.int .i64 16)) (hr : Den (cx nu one 7 laidE laidE_stab) r (St' (hexS n))) (b0 : 1 ≤ n) (b1 : n ≤ 300) : HOk (cx nu one 7 laidE laidE_stab) (.call 96 [x0, x1]) r := by
  intro ρ args ha w hl _
  simp only [RelL] at ha
  obtain ⟨v0, t0, rfl, a0, v1, t1, rfl, a1, rfl⟩ := ha
  have e0 := i0 ρ _ a0; subst e0
  have e1 := i1 ρ _ a1; subst e1
  exact (callsFmt n b0 b1 w hl).mono fun e w' he => ⟨_, he.1, hr ρ, he.2⟩
theorem fiNRhx : tabk.fn.get 98 = some (fI Tryz.f98 0) ∧ (fI Tryz.f98 0).body.isSome = true := ⟨rfl, by kernel_rfl⟩
def hyRhx_0 : LK := [(.len (.x 0), .i .i64 (.ofNat 1)), (.idx (.x 0) (.i .i64 (.ofNat 0)), .x 1), (.bin .geq (.x 1) (.i .u8 (.ofNat 48)), .b true), (.bin .leq (.x 1) (.i .u8 (.ofNat 57)), .b true), (.bin .sub (.x 1) (.i .u8 (.ofNat 48)), .x 2), (.conv 3 (.x 2), .x 3), (.bin .lss (.x 3) (.i .i64 (.ofNat 0)), .b false), (.bin .add (.i .i64 (.ofNat 0)) (.x 3), .x 4)]
theorem runRhx_0 (e1 : Nat) (e6 : Nat) : okA (call (tbl hyRhx_0) 30000 98 [.x 0] ⟨H0 e1 e6 , 7, 0, 0⟩) (.tu [.x 4, .b true]) = true := by kernel_rfl
def nuRhx_0 (n : Int) : List Value := [St' (hexS n), .int .u8 (bt (hexS n) 0), .int .u8 ((bt (hexS n) 0) - 48), .int .i64 ((bt (hexS n) 0) - 48), .int .i64 ((bt (hexS n) 0) - 48)]
theorem pathRhx_0 (n : Int) (b0 : 0 ≤ n) (b1 : n ≤ 300) (h0 : n < 16) (h2 : bt (hexS n) 0 ≤ 57) (w : World) (hl : laidE w) : CwR 98 #[St' (hexS n)] w (.tuple #[.int .i64 ((bt (hexS n) 0) - 48), .bool true]) := by
  obtain ⟨hxn, hb0, hd0⟩ := hexS_1 (n := n) (by omega) (by omega)
  have := bt_lo (hexS n) 0; have := bt_hi (hexS n) 0
  have ho : ∀ k r, (k, r) ∈ hyRhx_0 → HOk (cx (nuL (nuRhx_0 n)) (fun j _ => nuL_one (l := nuRhx_0 n) rfl j) 7 laidE laidE_stab) k r := by
    unfold hyRhx_0
    exact hc (kLenE (isX rfl) (denZ (m := 1) rfl) (by omega)) <|
     hc (ixC rfl rfl (by omega)) <|
     hc (gecT rfl (by omega)) <|
     hc (lecT rfl (by omega)) <|
     hc (kSub (isX rfl) (isZ (m := 48) rfl) (denX rfl) (by omega) (fU8 (by omega) (by omega))) <|
     hc (kConvF (isX rfl) tu3 (denX rfl) (fI64 (by omega) (by omega))) <|
     hc (ltcF rfl (by omega)) <|
     hc (kAdd (isZ (m := 0) rfl) (isX rfl) (denX rfl) (by omega) (fI64 (by omega) (by omega))) <|
     hnil
  refine runC (tb := (tbl hyRhx_0)) (ra := .tu [.x 4, .b true]) rfl ((tabkOk (nuL (nuRhx_0 n)) (fun j _ => nuL_one (l := nuRhx_0 n) rfl j)).hyps ho) rfl fiNRhx.1 fiNRhx.2 (fun e1 e6 => runRhx_0 e1 e6 ) (args := [St' (hexS n)]) (by simp only [RelL, Rel]; exact ⟨_, _, rfl, rfl, rfl⟩) w hl fun x hx => ?_
  simp only [Rel, RelL] at hx
  obtain ⟨_, rfl, ⟨_, _, rfl, rfl, ⟨_, _, rfl, rfl, rfl⟩⟩⟩ := hx
  rfl
def hyRhx_1 : LK := [(.len (.x 0), .i .i64 (.ofNat 1)), (.idx (.x 0) (.i .i64 (.ofNat 0)), .x 1), (.bin .geq (.x 1) (.i .u8 (.ofNat 48)), .b true), (.bin .leq (.x 1) (.i .u8 (.ofNat 57)), .b false), (.bin .geq (.x 1) (.i .u8 (.ofNat 97)), .b true), (.bin .leq (.x 1) (.i .u8 (.ofNat 102)), .b true), (.bin .sub (.x 1) (.i .u8 (.ofNat 97)), .x 2), (.conv 3 (.x 2), .x 3), (.bin .add (.x 3) (.i .i64 (.ofNat 10)), .x 4), (.bin .lss (.x 4) (.i .i64 (.ofNat 0)), .b false), (.bin .add (.i .i64 (.ofNat 0)) (.x 4), .x 5)]
theorem runRhx_1 (e1 : Nat) (e6 : Nat) : okA (call (tbl hyRhx_1) 30000 98 [.x 0] ⟨H0 e1 e6 , 7, 0, 0⟩) (.tu [.x 5, .b true]) = true := by kernel_rfl
def nuRhx_1 (n : Int) : List Value := [St' (hexS n), .int .u8 (bt (hexS n) 0), .int .u8 ((bt (hexS n) 0) - 97), .int .i64 ((bt (hexS n) 0) - 97), .int .i64 ((bt (hexS n) 0) - 87), .int .i64 ((bt (hexS n) 0) - 87)]
theorem pathRhx_1 (n : Int) (b0 : 0 ≤ n) (b1 : n ≤ 300) (h0 : n < 16) (h2 : ¬ (bt (hexS n) 0 ≤ 57)) (w : World) (hl : laidE w) : CwR 98 #[St' (hexS n)] w (.tuple #[.int .i64 ((bt (hexS n) 0) - 87), .bool true]) := by
  obtain ⟨hxn, hb0, hd0⟩ := hexS_1 (n := n) (by omega) (by omega)
  have := bt_lo (hexS n) 0; have := bt_hi (hexS n) 0
  have ho : ∀ k r, (k, r) ∈ hyRhx_1 → HOk (cx (nuL (nuRhx_1 n)) (fun j _ => nuL_one (l := nuRhx_1 n) rfl j) 7 laidE laidE_stab) k r := by
    unfold hyRhx_1
    exact hc (kLenE (isX rfl) (denZ (m := 1) rfl) (by omega)) <|
     hc (ixC rfl rfl (by omega)) <|
     hc (gecT rfl (by omega)) <|
     hc (lecF rfl (by omega)) <|
     hc (gecT rfl (by omega)) <|
     hc (lecT rfl (by omega)) <|
     hc (kSub (isX rfl) (isZ (m := 97) rfl) (denX rfl) (by omega) (fU8 (by omega) (by omega))) <|
     hc (kConvF (isX rfl) tu3 (denX rfl) (fI64 (by omega) (by omega))) <|
     hc (adC rfl rfl (by omega)) <|
     hc (ltcF rfl (by omega)) <|
     hc (kAdd (isZ (m := 0) rfl) (isX rfl) (denX rfl) (by omega) (fI64 (by omega) (by omega))) <|
     hnil
  refine runC (tb := (tbl hyRhx_1)) (ra := .tu [.x 5, .b true]) rfl ((tabkOk (nuL (nuRhx_1 n)) (fun j _ => nuL_one (l := nuRhx_1 n) rfl j)).hyps ho) rfl fiNRhx.1 fiNRhx.2 (fun e1 e6 => runRhx_1 e1 e6 ) (args := [St' (hexS n)]) (by simp only [RelL, Rel]; exact ⟨_, _, rfl, rfl, rfl⟩) w hl fun x hx => ?_
  simp only [Rel, RelL] at hx
  obtain ⟨_, rfl, ⟨_, _, rfl, rfl, ⟨_, _, rfl, rfl, rfl⟩⟩⟩ := hx
  rfl
def hyRhx_2 : LK := [(.len (.x 0), .i .i64 (.ofNat 2)), (.idx (.x 0) (.i .i64 (.ofNat 0)), .x 1), (.bin .geq (.x 1) (.i .u8 (.ofNat 48)), .b true), (.bin .leq (.x 1) (.i .u8 (.ofNat 57)), .b true), (.bin .sub (.x 1) (.i .u8 (.ofNat 48)), .x 2), (.conv 3 (.x 2), .x 3), (.bin .lss (.x 3) (.i .i64 (.ofNat 0)), .b false), (.bin .add (.i .i64 (.ofNat 0)) (.x 3), .x 4), (.idx (.x 0) (.i .i64 (.ofNat 1)), .x 5), (.bin .geq (.x 5) (.i .u8 (.ofNat 48)), .b true), (.bin .leq (.x 5) (.i .u8 (.ofNat 57)), .b true), (.bin .sub (.x 5) (.i .u8 (.ofNat 48)), .x 6), (.conv 3 (.x 6), .x 7), (.bin .lss (.x 7) (.i .i64 (.ofNat 0)), .b false), (.bin .mul (.x 4) (.i .i64 (.ofNat 16)), .x 8), (.bin .add (.x 8) (.x 7), .x 9)]
theorem runRhx_2 (e1 : Nat) (e6 : Nat) : okA (call (tbl hyRhx_2) 30000 98 [.x 0] ⟨H0 e1 e6 , 7, 0, 0⟩) (.tu [.x 9, .b true]) = true := by kernel_rfl
def nuRhx_2 (n : Int) : List Value := [St' (hexS n), .int .u8 (bt (hexS n) 0), .int .u8 ((bt (hexS n) 0) - 48), .int .i64 ((bt (hexS n) 0) - 48), .int .i64 ((bt (hexS n) 0) - 48), .int .u8 (bt (hexS n) 1), .int .u8 ((bt (hexS n) 1) - 48), .int .i64 ((bt (hexS n) 1) - 48), .int .i64 ((bt (hexS n) 0) * 16 - 768), .int .i64 ((bt (hexS n) 0) * 16 + (bt (hexS n) 1) - 816)]
theorem pathRhx_2 (n : Int) (b0 : 0 ≤ n) (b1 : n ≤ 300) (h0 : ¬ (n < 16)) (h1 : n < 256) (h3 : bt (hexS n) 0 ≤ 57) (h6 : bt (hexS n) 1 ≤ 57) (w : World) (hl : laidE w) : CwR 98 #[St' (hexS n)] w (.tuple #[.int .i64 ((bt (hexS n) 0) * 16 + (bt (hexS n) 1) - 816), .bool true]) := by
  obtain ⟨hxn, hb0, hb1, hd0, hd1⟩ := hexS_2 (n := n) (by omega) (by omega)
  have := bt_lo (hexS n) 0; have := bt_hi (hexS n) 0
  have := bt_lo (hexS n) 1; have := bt_hi (hexS n) 1
  have ho : ∀ k r, (k, r) ∈ hyRhx_2 → HOk (cx (nuL (nuRhx_2 n)) (fun j _ => nuL_one (l := nuRhx_2 n) rfl j) 7 laidE laidE_stab) k r := by
    unfold hyRhx_2
    exact hc (kLenE (isX rfl) (denZ (m := 2) rfl) (by omega)) <|
     hc (ixC rfl rfl (by omega)) <|
     hc (gecT rfl (by omega)) <|
     hc (lecT rfl (by omega)) <|
     hc (kSub (isX rfl) (isZ (m := 48) rfl) (denX rfl) (by omega) (fU8 (by omega) (by omega))) <|
     hc (kConvF (isX rfl) tu3 (denX rfl) (fI64 (by omega) (by omega))) <|
     hc (ltcF rfl (by omega)) <|
     hc (kAdd (isZ (m := 0) rfl) (isX rfl) (denX rfl) (by omega) (fI64 (by omega) (by omega))) <|
     hc (ixC rfl rfl (by omega)) <|
     hc (gecT rfl (by omega)) <|
     hc (lecT rfl (by omega)) <|
     hc (kSub (isX rfl) (isZ (m := 48) rfl) (denX rfl) (by omega) (fU8 (by omega) (by omega))) <|
     hc (kConvF (isX rfl) tu3 (denX rfl) (fI64 (by omega) (by omega))) <|
     hc (ltcF rfl (by omega)) <|
     hc (kMul (isX rfl) (isZ (m := 16) rfl) (denX rfl) (by omega) (fI64 (by omega) (by omega))) <|
     hc (adX rfl rfl rfl (by omega)) <|
     hnil
  refine runC (tb := (tbl hyRhx_2)) (ra := .tu [.x 9, .b true]) rfl ((tabkOk (nuL (nuRhx_2 n)) (fun j _ => nuL_one (l := nuRhx_2 n) rfl j)).hyps ho) rfl fiNRhx.1 fiNRhx.2 (fun e1 e6 => runRhx_2 e1 e6 ) (args := [St' (hexS n)]) (by simp only [RelL, Rel]; exact ⟨_, _, rfl, rfl, rfl⟩) w hl fun x hx => ?_
  simp only [Rel, RelL] at hx
  obtain ⟨_, rfl, ⟨_, _, rfl, rfl, ⟨_, _, rfl, rfl, rfl⟩⟩⟩ := hx
  rfl
def hyRhx_3 : LK := [(.len (.x 0), .i .i64 (.ofNat 2)), (.idx (.x 0) (.i .i64 (.ofNat 0)), .x 1), (.bin .geq (.x 1) (.i .u8 (.ofNat 48)), .b true), (.bin .leq (.x 1) (.i .u8 (.ofNat 57)), .b true), (.bin .sub (.x 1) (.i .u8 (.ofNat 48)), .x 2), (.conv 3 (.x 2), .x 3), (.bin .lss (.x 3) (.i .i64 (.ofNat 0)), .b false), (.bin .add (.i .i64 (.ofNat 0)) (.x 3), .x 4), (.idx (.x 0) (.i .i64 (.ofNat 1)), .x 5), (.bin .geq (.x 5) (.i .u8 (.ofNat 48)), .b true), (.bin .leq (.x 5) (.i .u8 (.ofNat 57)), .b false), (.bin .geq (.x 5) (.i .u8 (.ofNat 97)), .b true), (.bin .leq (.x 5) (.i .u8 (.ofNat 102)), .b true), (.bin .sub (.x 5) (.i .u8 (.ofNat 97)), .x 6), (.conv 3 (.x 6), .x 7), (.bin .add (.x 7) (.i .i64 (.ofNat 10)), .x 8), (.bin .lss (.x 8) (.i .i64 (.ofNat 0)), .b false), (.bin .mul (.x 4) (.i .i64 (.ofNat 16)), .x 9), (.bin .add (.x 9) (.x 8), .x 10)]
theorem runRhx_3 (e1 : Nat) (e6 : Nat) : okA (call (tbl hyRhx_3) 30000 98 [.x 0] ⟨H0 e1 e6 , 7, 0, 0⟩) (.tu [.x 10, .b true]) = true := by kernel_rfl
def nuRhx_3 (n : Int) : List Value := [St' (hexS n), .int .u8 (bt (hexS n) 0), .int .u8 ((bt (hexS n) 0) - 48), .int .i64 ((bt (hexS n) 0) - 48), .int .i64 ((bt (hexS n) 0) - 48), .int .u8 (bt (hexS n) 1), .int .u8 ((bt (hexS n) 1) - 97), .int .i64 ((bt (hexS n) 1) - 97), .int .i64 ((bt (hexS n) 1) - 87), .int .i64 ((bt (hexS n) 0) * 16 - 768), .int .i64 ((bt (hexS n) 0) * 16 + (bt (hexS n) 1) - 855)]
theorem pathRhx_3 (n : Int) (b0 : 0 ≤ n) (b1 : n ≤ 300) (h0 : ¬ (n < 16)) (h1 : n < 256) (h3 : bt (hexS n) 0 ≤ 57) (h6 : ¬ (bt (hexS n) 1 ≤ 57)) (w : World) (hl : laidE w) : CwR 98 #[St' (hexS n)] w (.tuple #[.int .i64 ((bt (hexS n) 0) * 16 + (bt (hexS n) 1) - 855), .bool true]) := by
  obtain ⟨hxn, hb0, hb1, hd0, hd1⟩ := hexS_2 (n := n) (by omega) (by omega)
  have := bt_lo (hexS n) 0; have := bt_hi (hexS n) 0
  have := bt_lo (hexS n) 1; have := bt_hi (hexS n) 1
  have ho : ∀ k r, (k, r) ∈ hyRhx_3 → HOk (cx (nuL (nuRhx_3 n)) (fun j _ => nuL_one (l := nuRhx_3 n) rfl j) 7 laidE laidE_stab) k r := by
    unfold hyRhx_3
    exact hc (kLenE (isX rfl) (denZ (m := 2) rfl) (by omega)) <|
     hc (ixC rfl rfl (by omega)) <|
     hc (gecT rfl (by omega)) <|
     hc (lecT rfl (by omega)) <|
     hc (kSub (isX rfl) (isZ (m := 48) rfl) (denX rfl) (by omega) (fU8 (by omega) (by omega))) <|
     hc (kConvF (isX rfl) tu3 (denX rfl) (fI64 (by omega) (by omega))) <|
     hc (ltcF rfl (by omega)) <|
     hc (kAdd (isZ (m := 0) rfl) (isX rfl) (denX rfl) (by omega) (fI64 (by omega) (by omega))) <|
     hc (ixC rfl rfl (by omega)) <|
     hc (gecT rfl (by omega)) <|
     hc (lecF rfl (by omega)) <|
     hc (gecT rfl (by omega)) <|
     hc (lecT rfl (by omega)) <|
     hc (kSub (isX rfl) (isZ (m := 97) rfl) (denX rfl) (by omega) (fU8 (by omega) (by omega))) <|
     hc (kConvF (isX rfl) tu3 (denX rfl) (fI64 (by omega) (by omega))) <|
     hc (adC rfl rfl (by omega)) <|
     hc (ltcF rfl (by omega)) <|
     hc (kMul (isX rfl) (isZ (m := 16) rfl) (denX rfl) (by omega) (fI64 (by omega) (by omega))) <|
     hc (adX rfl rfl rfl (by omega)) <|
     hnil
  refine runC (tb := (tbl hyRhx_3)) (ra := .tu [.x 10, .b true]) rfl ((tabkOk (nuL (nuRhx_3 n)) (fun j _ => nuL_one (l := nuRhx_3 n) rfl j)).hyps ho) rfl fiNRhx.1 fiNRhx.2 (fun e1 e6 => runRhx_3 e1 e6 ) (args := [St' (hexS n)]) (by simp only [RelL, Rel]; exact ⟨_, _, rfl, rfl, rfl⟩) w hl fun x hx => ?_
  simp only [Rel, RelL] at hx
  obtain ⟨_, rfl, ⟨_, _, rfl, rfl, ⟨_, _, rfl, rfl, rfl⟩⟩⟩ := hx
  rfl
def hyRhx_4 : LK := [(.len (.x 0), .i .i64 (.ofNat 2)), (.idx (.x 0) (.i .i64 (.ofNat 0)), .x 1), (.bin .geq (.x 1) (.i .u8 (.ofNat 48)), .b true), (.bin .leq (.x 1) (.i .u8 (.ofNat 57)), .b false), (.bin .geq (.x 1) (.i .u8 (.ofNat 97)), .b true), (.bin .leq (.x 1) (.i .u8 (.ofNat 102)), .b true), (.bin .sub (.x 1) (.i .u8 (.ofNat 97)), .x 2), (.conv 3 (.x 2), .x 3), (.bin .add (.x 3) (.i .i64 (.ofNat 10)), .x 4), (.bin .lss (.x 4) (.i .i64 (.ofNat 0)), .b false), (.bin .add (.i .i64 (.ofNat 0)) (.x 4), .x 5), (.idx (.x 0) (.i .i64 (.ofNat 1)), .x 6), (.bin .geq (.x 6) (.i .u8 (.ofNat 48)), .b true), (.bin .leq (.x 6) (.i .u8 (.ofNat 57)), .b true), (.bin .sub (.x 6) (.i .u8 (.ofNat 48)), .x 7), (.conv 3 (.x 7), .x 8), (.bin .lss (.x 8) (.i .i64 (.ofNat 0)), .b false), (.bin .mul (.x 5) (.i .i64 (.ofNat 16)), .x 9), (.bin .add (.x 9) (.x 8), .x 10)]
theorem runRhx_4 (e1 : Nat) (e6 : Nat) : okA (call (tbl hyRhx_4) 30000 98 [.x 0] ⟨H0 e1 e6 , 7, 0, 0⟩) (.tu [.x 10, .b true]) = true := by kernel_rfl
def nuRhx_4 (n : Int) : List Value := [St' (hexS n), .int .u8 (bt (hexS n) 0), .int .u8 ((bt (hexS n) 0) - 97), .int .i64 ((bt (hexS n) 0) - 97), .int .i64 ((bt (hexS n) 0) - 87), .int .i64 ((bt (hexS n) 0) - 87), .int .u8 (bt (hexS n) 1), .int .u8 ((bt (hexS n) 1) - 48), .int .i64 ((bt (hexS n) 1) - 48), .int .i64 ((bt (hexS n) 0) * 16 - 1392), .int .i64 ((bt (hexS n) 0) * 16 + (bt (hexS n) 1) - 1440)]
theorem pathRhx_4 (n : Int) (b0 : 0 ≤ n) (b1 : n ≤ 300) (h0 : ¬ (n < 16)) (h1 : n < 256) (h3 : ¬ (bt (hexS n) 0 ≤ 57)) (h8 : bt (hexS n) 1 ≤ 57) (w : World) (hl : laidE w) : CwR 98 #[St' (hexS n)] w (.tuple #[.int .i64 ((bt (hexS n) 0) * 16 + (bt (hexS n) 1) - 1440), .bool true]) := by
  obtain ⟨hxn, hb0, hb1, hd0, hd1⟩ := hexS_2 (n := n) (by omega) (by omega)
  have := bt_lo (hexS n) 0; have := bt_hi (hexS n) 0
  have := bt_lo (hexS n) 1; have := bt_hi (hexS n) 1
  have ho : ∀ k r, (k, r) ∈ hyRhx_4 → HOk (cx (nuL (nuRhx_4 n)) (fun j _ => nuL_one (l := nuRhx_4 n) rfl j) 7 laidE laidE_stab) k r := by
    unfold hyRhx_4
    exact hc (kLenE (isX rfl) (denZ (m := 2) rfl) (by omega)) <|
     hc (ixC rfl rfl (by omega)) <|
     hc (gecT rfl (by omega)) <|
     hc (lecF rfl (by omega)) <|
     hc (gecT rfl (by omega)) <|
     hc (lecT rfl (by omega)) <|
     hc (kSub (isX rfl) (isZ (m := 97) rfl) (denX rfl) (by omega) (fU8 (by omega) (by omega))) <|
     hc (kConvF (isX rfl) tu3 (denX rfl) (fI64 (by omega) (by omega))) <|
     hc (adC rfl rfl (by omega)) <|
     hc (ltcF rfl (by omega)) <|
     hc (kAdd (isZ (m := 0) rfl) (isX rfl) (denX rfl) (by omega) (fI64 (by omega) (by omega))) <|
     hc (ixC rfl rfl (by omega)) <|
     hc (gecT rfl (by omega)) <|
     hc (lecT rfl (by omega)) <|
     hc (kSub (isX rfl) (isZ (m := 48) rfl) (denX rfl) (by omega) (fU8 (by omega) (by omega))) <|
     hc (kConvF (isX rfl) tu3 (denX rfl) (fI64 (by omega) (by omega))) <|
     hc (ltcF rfl (by omega)) <|
     hc (kMul (isX rfl) (isZ (m := 16) rfl) (denX rfl) (by omega) (fI64 (by omega) (by omega))) <|
     hc (adX rfl rfl rfl (by omega)) <|
     hnil
  refine runC (tb := (tbl hyRhx_4)) (ra := .tu [.x 10, .b true]) rfl ((tabkOk (nuL (nuRhx_4 n)) (fun j _ => nuL_one (l := nuRhx_4 n) rfl j)).hyps ho) rfl fiNRhx.1 fiNRhx.2 (fun e1 e6 => runRhx_4 e1 e6 ) (args := [St' (hexS n)]) (by simp only [RelL, Rel]; exact ⟨_, _, rfl, rfl, rfl⟩) w hl fun x hx => ?_
  simp only [Rel, RelL] at hx
  obtain ⟨_, rfl, ⟨_, _, rfl, rfl, ⟨_, _, rfl, rfl, rfl⟩⟩⟩ := hx
  rfl
def hyRhx_5 : LK := [(.len (.x 0), .i .i64 (.ofNat 2)), (.idx (.x 0) (.i .i64 (.ofNat 0)), .x 1), (.bin .geq (.x 1) (.i .u8 (.ofNat 48)), .b true), (.bin .leq (.x 1) (.i .u8 (.ofNat 57)), .b false), (.bin .geq (.x 1) (.i .u8 (.ofNat 97)), .b true), (.bin .leq (.x 1) (.i .u8 (.ofNat 102)), .b true), (.bin .sub (.x 1) (.i .u8 (.ofNat 97)), .x 2), (.conv 3 (.x 2), .x 3), (.bin .add (.x 3) (.i .i64 (.ofNat 10)), .x 4), (.bin .lss (.x 4) (.i .i64 (.ofNat 0)), .b false), (.bin .add (.i .i64 (.ofNat 0)) (.x 4), .x 5), (.idx (.x 0) (.i .i64 (.ofNat 1)), .x 6), (.bin .geq (.x 6) (.i .u8 (.ofNat 48)), .b true), (.bin .leq (.x 6) (.i .u8 (.ofNat 57)), .b false), (.bin .geq (.x 6) (.i .u8 (.ofNat 97)), .b true), (.bin .leq (.x 6) (.i .u8 (.ofNat 102)), .b true), (.bin .sub (.x 6) (.i .u8 (.ofNat 97)), .x 7), (.conv 3 (.x 7), .x 8), (.bin .add (.x 8) (.i .i64 (.ofNat 10)), .x 9), (.bin .lss (.x 9) (.i .i64 (.ofNat 0)), .b false), (.bin .mul (.x 5) (.i .i64 (.ofNat 16)), .x 10), (.bin .add (.x 10) (.x 9), .x 11)]
theorem runRhx_5 (e1 : Nat) (e6 : Nat) : okA (call (tbl hyRhx_5) 30000 98 [.x 0] ⟨H0 e1 e6 , 7, 0, 0⟩) (.tu [.x 11, .b true]) = true := by kernel_rfl
def nuRhx_5 (n : Int) : List Value := [St' (hexS n), .int .u8 (bt (hexS n) 0), .int .u8 ((bt (hexS n) 0) - 97), .int .i64 ((bt (hexS n) 0) - 97), .int .i64 ((bt (hexS n) 0) - 87), .int .i64 ((bt (hexS n) 0) - 87), .int .u8 (bt (hexS n) 1), .int .u8 ((bt (hexS n) 1) - 97), .int .i64 ((bt (hexS n) 1) - 97), .int .i64 ((bt (hexS n) 1) - 87), .int .i64 ((bt (hexS n) 0) * 16 - 1392), .int .i64 ((bt (hexS n) 0) * 16 + (bt (hexS n) 1) - 1479)]
theorem pathRhx_5 (n : Int) (b0 : 0 ≤ n) (b1 : n ≤ 300) (h0 : ¬ (n < 16)) (h1 : n < 256) (h3 : ¬ (bt (hexS n) 0 ≤ 57)) (h8 : ¬ (bt (hexS n) 1 ≤ 57)) (w : World) (hl : laidE w) : CwR 98 #[St' (hexS n)] w (.tuple #[.int .i64 ((bt (hexS n) 0) * 16 + (bt (hexS n) 1) - 1479), .bool true]) := by
  obtain ⟨hxn, hb0, hb1, hd0, hd1⟩ := hexS_2 (n := n) (by omega) (by omega)
  have := bt_lo (hexS n) 0; have := bt_hi (hexS n) 0
  have := bt_lo (hexS n) 1; have := bt_hi (hexS n) 1
  have ho : ∀ k r, (k, r) ∈ hyRhx_5 → HOk (cx (nuL (nuRhx_5 n)) (fun j _ => nuL_one (l := nuRhx_5 n) rfl j) 7 laidE laidE_stab) k r := by
    unfold hyRhx_5
    exact hc (kLenE (isX rfl) (denZ (m := 2) rfl) (by omega)) <|
     hc (ixC rfl rfl (by omega)) <|
     hc (gecT rfl (by omega)) <|
     hc (lecF rfl (by omega)) <|
     hc (gecT rfl (by omega)) <|
     hc (lecT rfl (by omega)) <|
     hc (kSub (isX rfl) (isZ (m := 97) rfl) (denX rfl) (by omega) (fU8 (by omega) (by omega))) <|
     hc (kConvF (isX rfl) tu3 (denX rfl) (fI64 (by omega) (by omega))) <|
     hc (adC rfl rfl (by omega)) <|
     hc (ltcF rfl (by omega)) <|
     hc (kAdd (isZ (m := 0) rfl) (isX rfl) (denX rfl) (by omega) (fI64 (by omega) (by omega))) <|
     hc (ixC rfl rfl (by omega)) <|
     hc (gecT rfl (by omega)) <|
     hc (lecF rfl (by omega)) <|
     hc (gecT rfl (by omega)) <|
     hc (lecT rfl (by omega)) <|
     hc (kSub (isX rfl) (isZ (m := 97) rfl) (denX rfl) (by omega) (fU8 (by omega) (by omega))) <|
     hc (kConvF (isX rfl) tu3 (denX rfl) (fI64 (by omega) (by omega))) <|
     hc (adC rfl rfl (by omega)) <|
     hc (ltcF rfl (by omega)) <|
     hc (kMul (isX rfl) (isZ (m := 16) rfl) (denX rfl) (by omega) (fI64 (by omega) (by omega))) <|
     hc (adX rfl rfl rfl (by omega)) <|
     hnil
  refine runC (tb := (tbl hyRhx_5)) (ra := .tu [.x 11, .b true]) rfl ((tabkOk (nuL (nuRhx_5 n)) (fun j _ => nuL_one (l := nuRhx_5 n) rfl j)).hyps ho) rfl fiNRhx.1 fiNRhx.2 (fun e1 e6 => runRhx_5 e1 e6 ) (args := [St' (hexS n)]) (by simp only [RelL, Rel]; exact ⟨_, _, rfl, rfl, rfl⟩) w hl fun x hx => ?_
  simp only [Rel, RelL] at hx
  obtain ⟨_, rfl, ⟨_, _, rfl, rfl, ⟨_, _, rfl, rfl, rfl⟩⟩⟩ := hx
  rfl
def hyRhx_6 : LK := [(.len (.x 0), .i .i64 (.ofNat 3)), (.idx (.x 0) (.i .i64 (.ofNat 0)), .x 1), (.bin .geq (.x 1) (.i .u8 (.ofNat 48)), .b true), (.bin .leq (.x 1) (.i .u8 (.ofNat 57)), .b true), (.bin .sub (.x 1) (.i .u8 (.ofNat 48)), .x 2), (.conv 3 (.x 2), .x 3), (.bin .lss (.x 3) (.i .i64 (.ofNat 0)), .b false), (.bin .add (.i .i64 (.ofNat 0)) (.x 3), .x 4), (.idx (.x 0) (.i .i64 (.ofNat 1)), .x 5), (.bin .geq (.x 5) (.i .u8 (.ofNat 48)), .b true), (.bin .leq (.x 5) (.i .u8 (.ofNat 57)), .b true), (.bin .sub (.x 5) (.i .u8 (.ofNat 48)), .x 6), (.conv 3 (.x 6), .x 7), (.bin .lss (.x 7) (.i .i64 (.ofNat 0)), .b false), (.bin .mul (.x 4) (.i .i64 (.ofNat 16)), .x 8), (.bin .add (.x 8) (.x 7), .x 9), (.idx (.x 0) (.i .i64 (.ofNat 2)), .x 10), (.bin .geq (.x 10) (.i .u8 (.ofNat 48)), .b true), (.bin .leq (.x 10) (.i .u8 (.ofNat 57)), .b true), (.bin .sub (.x 10) (.i .u8 (.ofNat 48)), .x 11), (.conv 3 (.x 11), .x 12), (.bin .lss (.x 12) (.i .i64 (.ofNat 0)), .b false), (.bin .mul (.x 9) (.i .i64 (.ofNat 16)), .x 13), (.bin .add (.x 13) (.x 12), .x 14)]
theorem runRhx_6 (e1 : Nat) (e6 : Nat) : okA (call (tbl hyRhx_6) 30000 98 [.x 0] ⟨H0 e1 e6 , 7, 0, 0⟩) (.tu [.x 14, .b true]) = true := by kernel_rfl
def nuRhx_6 (n : Int) : List Value := [St' (hexS n), .int .u8 (bt (hexS n) 0), .int .u8 ((bt (hexS n) 0) - 48), .int .i64 ((bt (hexS n) 0) - 48), .int .i64 ((bt (hexS n) 0) - 48), .int .u8 (bt (hexS n) 1), .int .u8 ((bt (hexS n) 1) - 48), .int .i64 ((bt (hexS n) 1) - 48), .int .i64 ((bt (hexS n) 0) * 16 - 768), .int .i64 ((bt (hexS n) 0) * 16 + (bt (hexS n) 1) - 816), .int .u8 (bt (hexS n) 2), .int .u8 ((bt (hexS n) 2) - 48), .int .i64 ((bt (hexS n) 2) - 48), .int .i64 ((bt (hexS n) 0) * 256 + (bt (hexS n) 1) * 16 - 13056), .int .i64 ((bt (hexS n) 0) * 256 + (bt (hexS n) 1) * 16 + (bt (hexS n) 2) - 13104)]
theorem pathRhx_6 (n : Int) (b0 : 0 ≤ n) (b1 : n ≤ 300) (h0 : ¬ (n < 16)) (h1 : ¬ (n < 256)) (h9 : bt (hexS n) 2 ≤ 57) (w : World) (hl : laidE w) : CwR 98 #[St' (hexS n)] w (.tuple #[.int .i64 ((bt (hexS n) 0) * 256 + (bt (hexS n) 1) * 16 + (bt (hexS n) 2) - 13104), .bool true]) := by
  obtain ⟨hxn, hb0, hb1, hb2, hd0, hd1⟩ := hexS_3 (n := n) (by omega) (by omega)
  have := bt_lo (hexS n) 0; have := bt_hi (hexS n) 0
  have := bt_lo (hexS n) 1; have := bt_hi (hexS n) 1
  have := bt_lo (hexS n) 2; have := bt_hi (hexS n) 2
  have ho : ∀ k r, (k, r) ∈ hyRhx_6 → HOk (cx (nuL (nuRhx_6 n)) (fun j _ => nuL_one (l := nuRhx_6 n) rfl j) 7 laidE laidE_stab) k r := by
    unfold hyRhx_6
    exact hc (kLenE (isX rfl) (denZ (m := 3) rfl) (by omega)) <|
     hc (ixC rfl rfl (by omega)) <|
     hc (gecT rfl (by omega)) <|
     hc (lecT rfl (by omega)) <|
     hc (kSub (isX rfl) (isZ (m := 48) rfl) (denX rfl) (by omega) (fU8 (by omega) (by omega))) <|
     hc (kConvF (isX rfl) tu3 (denX rfl) (fI64 (by omega) (by omega))) <|
     hc (ltcF rfl (by omega)) <|
     hc (kAdd (isZ (m := 0) rfl) (isX rfl) (denX rfl) (by omega) (fI64 (by omega) (by omega))) <|
     hc (ixC rfl rfl (by omega)) <|
     hc (gecT rfl (by omega)) <|
     hc (lecT rfl (by omega)) <|
     hc (kSub (isX rfl) (isZ (m := 48) rfl) (denX rfl) (by omega) (fU8 (by omega) (by omega))) <|
     hc (kConvF (isX rfl) tu3 (denX rfl) (fI64 (by omega) (by omega))) <|
     hc (ltcF rfl (by omega)) <|
     hc (kMul (isX rfl) (isZ (m := 16) rfl) (denX rfl) (by omega) (fI64 (by omega) (by omega))) <|
     hc (adX rfl rfl rfl (by omega)) <|
     hc (ixC rfl rfl (by omega)) <|
     hc (gecT rfl (by omega)) <|
     hc (lecT rfl (by omega)) <|
     hc (kSub (isX rfl) (isZ (m := 48) rfl) (denX rfl) (by omega) (fU8 (by omega) (by omega))) <|
     hc (kConvF (isX rfl) tu3 (denX rfl) (fI64 (by omega) (by omega))) <|
     hc (ltcF rfl (by omega)) <|
     hc (kMul (isX rfl) (isZ (m := 16) rfl) (denX rfl) (by omega) (fI64 (by omega) (by omega))) <|
     hc (adX rfl rfl rfl (by omega)) <|
     hnil
  refine runC (tb := (tbl hyRhx_6)) (ra := .tu [.x 14, .b true]) rfl ((tabkOk (nuL (nuRhx_6 n)) (fun j _ => nuL_one (l := nuRhx_6 n) rfl j)).hyps ho) rfl fiNRhx.1 fiNRhx.2 (fun e1 e6 => runRhx_6 e1 e6 ) (args := [St' (hexS n)]) (by simp only [RelL, Rel]; exact ⟨_, _, rfl, rfl, rfl⟩) w hl fun x hx => ?_
  simp only [Rel, RelL] at hx
  obtain ⟨_, rfl, ⟨_, _, rfl, rfl, ⟨_, _, rfl, rfl, rfl⟩⟩⟩ := hx
  rfl
def hyRhx_7 : LK := [(.len (.x 0), .i .i64 (.ofNat 3)), (.idx (.x 0) (.i .i64 (.ofNat 0)), .x 1), (.bin .geq (.x 1) (.i .u8 (.ofNat 48)), .b true), (.bin .leq (.x 1) (.i .u8 (.ofNat 57)), .b true), (.bin .sub (.x 1) (.i .u8 (.ofNat 48)), .x 2), (.conv 3 (.x 2), .x 3), (.bin .lss (.x 3) (.i .i64 (.ofNat 0)), .b false), (.bin .add (.i .i64 (.ofNat 0)) (.x 3), .x 4), (.idx (.x 0) (.i .i64 (.ofNat 1)), .x 5), (.bin .geq (.x 5) (.i .u8 (.ofNat 48)), .b true), (.bin .leq (.x 5) (.i .u8 (.ofNat 57)), .b true), (.bin .sub (.x 5) (.i .u8 (.ofNat 48)), .x 6), (.conv 3 (.x 6), .x 7), (.bin .lss (.x 7) (.i .i64 (.ofNat 0)), .b false), (.bin .mul (.x 4) (.i .i64 (.ofNat 16)), .x 8), (.bin .add (.x 8) (.x 7), .x 9), (.idx (.x 0) (.i .i64 (.ofNat 2)), .x 10), (.bin .geq (.x 10) (.i .u8 (.ofNat 48)), .b true), (.bin .leq (.x 10) (.i .u8 (.ofNat 57)), .b false), (.bin .geq (.x 10) (.i .u8 (.ofNat 97)), .b true), (.bin .leq (.x 10) (.i .u8 (.ofNat 102)), .b true), (.bin .sub (.x 10) (.i .u8 (.ofNat 97)), .x 11), (.conv 3 (.x 11), .x 12), (.bin .add (.x 12) (.i .i64 (.ofNat 10)), .x 13), (.bin .lss (.x 13) (.i .i64 (.ofNat 0)), .b false), (.bin .mul (.x 9) (.i .i64 (.ofNat 16)), .x 14), (.bin .add (.x 14) (.x 13), .x 15)]
theorem runRhx_7 (e1 : Nat) (e6 : Nat) : okA (call (tbl hyRhx_7) 30000 98 [.x 0] ⟨H0 e1 e6 , 7, 0, 0⟩) (.tu [.x 15, .b true]) = true := by kernel_rfl
def nuRhx_7 (n : Int) : List Value := [St' (hexS n), .int .u8 (bt (hexS n) 0), .int .u8 ((bt (hexS n) 0) - 48), .int .i64 ((bt (hexS n) 0) - 48), .int .i64 ((bt (hexS n) 0) - 48), .int .u8 (bt (hexS n) 1), .int .u8 ((bt (hexS n) 1) - 48), .int .i64 ((bt (hexS n) 1) - 48), .int .i64 ((bt (hexS n) 0) * 16 - 768), .int .i64 ((bt (hexS n) 0) * 16 + (bt (hexS n) 1) - 816), .int .u8 (bt (hexS n) 2), .int .u8 ((bt (hexS n) 2) - 97), .int .i64 ((bt (hexS n) 2) - 97), .int .i64 ((bt (hexS n) 2) - 87), .int .i64 ((bt (hexS n) 0) * 256 + (bt (hexS n) 1) * 16 - 13056), .int .i64 ((bt (hexS n) 0) * 256 + (bt (hexS n) 1) * 16 + (bt (hexS n) 2) - 13143)]
theorem pathRhx_7 (n : Int) (b0 : 0 ≤ n) (b1 : n ≤ 300) (h0 : ¬ (n < 16)) (h1 : ¬ (n < 256)) (h9 : ¬ (bt (hexS n) 2 ≤ 57)) (w : World) (hl : laidE w) : CwR 98 #[St' (hexS n)] w (.tuple #[.int .i64 ((bt (hexS n) 0) * 256 + (bt (hexS n) 1) * 16 + (bt (hexS n) 2) - 13143), .bool true]) := by
  obtain ⟨hxn, hb0, hb1, hb2, hd0, hd1⟩ := hexS_3 (n := n) (by omega) (by omega)
  have := bt_lo (hexS n) 0; have := bt_hi (hexS n) 0
  have := bt_lo (hexS n) 1; have := bt_hi (hexS n) 1
  have := bt_lo (hexS n) 2; have := bt_hi (hexS n) 2
  have ho : ∀ k r, (k, r) ∈ hyRhx_7 → HOk (cx (nuL (nuRhx_7 n)) (fun j _ => nuL_one (l := nuRhx_7 n) rfl j) 7 laidE laidE_stab) k r := by
    unfold hyRhx_7
    exact hc (kLenE (isX rfl) (denZ (m := 3) rfl) (by omega)) <|
     hc (ixC rfl rfl (by omega)) <|
     hc (gecT rfl (by omega)) <|
     hc (lecT rfl (by omega)) <|
     hc (kSub (isX rfl) (isZ (m := 48) rfl) (denX rfl) (by omega) (fU8 (by omega) (by omega))) <|
     hc (kConvF (isX rfl) tu3 (denX rfl) (fI64 (by omega) (by omega))) <|
     hc (ltcF rfl (by omega)) <|
     hc (kAdd (isZ (m := 0) rfl) (isX rfl) (denX rfl) (by omega) (fI64 (by omega) (by omega))) <|
     hc (ixC rfl rfl (by omega)) <|
     hc (gecT rfl (by omega)) <|
     hc (lecT rfl (by omega)) <|
     hc (kSub (isX rfl) (isZ (m := 48) rfl) (denX rfl) (by omega) (fU8 (by omega) (by omega))) <|
     hc (kConvF (isX rfl) tu3 (denX rfl) (fI64 (by omega) (by omega))) <|
     hc (ltcF rfl (by omega)) <|
     hc (kMul (isX rfl) (isZ (m := 16) rfl) (denX rfl) (by omega) (fI64 (by omega) (by omega))) <|
     hc (adX rfl rfl rfl (by omega)) <|
     hc (ixC rfl rfl (by omega)) <|
     hc (gecT rfl (by omega)) <|
     hc (lecF rfl (by omega)) <|
     hc (gecT rfl (by omega)) <|
     hc (lecT rfl (by omega)) <|
     hc (kSub (isX rfl) (isZ (m := 97) rfl) (denX rfl) (by omega) (fU8 (by omega) (by omega))) <|
     hc (kConvF (isX rfl) tu3 (denX rfl) (fI64 (by omega) (by omega))) <|
     hc (adC rfl rfl (by omega)) <|
     hc (ltcF rfl (by omega)) <|
     hc (kMul (isX rfl) (isZ (m := 16) rfl) (denX rfl) (by omega) (fI64 (by omega) (by omega))) <|
     hc (adX rfl rfl rfl (by omega)) <|
     hnil
  refine runC (tb := (tbl hyRhx_7)) (ra := .tu [.x 15, .b true]) rfl ((tabkOk (nuL (nuRhx_7 n)) (fun j _ => nuL_one (l := nuRhx_7 n) rfl j)).hyps ho) rfl fiNRhx.1 fiNRhx.2 (fun e1 e6 => runRhx_7 e1 e6 ) (args := [St' (hexS n)]) (by simp only [RelL, Rel]; exact ⟨_, _, rfl, rfl, rfl⟩) w hl fun x hx => ?_
  simp only [Rel, RelL] at hx
  obtain ⟨_, rfl, ⟨_, _, rfl, rfl, ⟨_, _, rfl, rfl, rfl⟩⟩⟩ := hx
  rfl
theorem callsRhx (n : Int) (b0 : 0 ≤ n) (b1 : n ≤ 300) (w : World) (hl : laidE w) : CwR 98 #[St' (hexS n)] w (.tuple #[.int .i64 n, .bool true]) := by
  by_cases h0 : n < 16
  · by_cases h2 : bt (hexS n) 0 ≤ 57
    · rw [show (.tuple #[.int .i64 n, .bool true] : Value) = (.tuple #[.int .i64 ((bt (hexS n) 0) - 48), .bool true] : Value) from by rcases hexS_all b0 b1 with q | q | q <;> exact tupV2 (by omega)]
      exact pathRhx_0 n b0 b1 h0 h2 w hl
    · rw [show (.tuple #[.int .i64 n, .bool true] : Value) = (.tuple #[.int .i64 ((bt (hexS n) 0) - 87), .bool true] : Value) from by rcases hexS_all b0 b1 with q | q | q <;> exact tupV2 (by omega)]
      exact pathRhx_1 n b0 b1 h0 h2 w hl
  · by_cases h1 : n < 256
    · by_cases h3 : bt (hexS n) 0 ≤ 57
      · by_cases h6 : bt (hexS n) 1 ≤ 57
        · rw [show (.tuple #[.int .i64 n, .bool true] : Value) = (.tuple #[.int .i64 ((bt (hexS n) 0) * 16 + (bt (hexS n) 1) - 816), .bool true] : Value) from by rcases hexS_all b0 b1 with q | q | q <;> exact tupV2 (by omega)]
          exact pathRhx_2 n b0 b1 h0 h1 h3 h6 w hl
        · rw [show (.tuple #[.int .i64 n, .bool true] : Value) = (.tuple #[.int .i64 ((bt (hexS n) 0) * 16 + (bt (hexS n) 1) - 855), .bool true] : Value) from by rcases hexS_all b0 b1 with q | q | q <;> exact tupV2 (by omega)]
          exact pathRhx_3 n b0 b1 h0 h1 h3 h6 w hl
      · by_cases h8 : bt (hexS n) 1 ≤ 57
        · rw [show (.tuple #[.int .i64 n, .bool true] : Value) = (.tuple #[.int .i64 ((bt (hexS n) 0) * 16 + (bt (hexS n) 1) - 1440), .bool true] : Value) from by rcases hexS_all b0 b1 with q | q | q <;> exact tupV2 (by omega)]
          exact pathRhx_4 n b0 b1 h0 h1 h3 h8 w hl
        · rw [show (.tuple #[.int .i64 n, .bool true] : Value) = (.tuple #[.int .i64 ((bt (hexS n) 0) * 16 + (bt (hexS n) 1) - 1479), .bool true] : Value) from by rcases hexS_all b0 b1 with q | q | q <;> exact tupV2 (by omega)]
          exact pathRhx_5 n b0 b1 h0 h1 h3 h8 w hl
    · by_cases h9 : bt (hexS n) 2 ≤ 57
      · rw [show (.tuple #[.int .i64 n, .bool true] : Value) = (.tuple #[.int .i64 ((bt (hexS n) 0) * 256 + (bt (hexS n) 1) * 16 + (bt (hexS n) 2) - 13104), .bool true] : Value) from by rcases hexS_all b0 b1 with q | q | q <;> exact tupV2 (by omega)]
        exact pathRhx_6 n b0 b1 h0 h1 h9 w hl
      · rw [show (.tuple #[.int .i64 n, .bool true] : Value) = (.tuple #[.int .i64 ((bt (hexS n) 0) * 256 + (bt (hexS n) 1) * 16 + (bt (hexS n) 2) - 13143), .bool true] : Value) from by rcases hexS_all b0 b1 with q | q | q <;> exact tupV2 (by omega)]
        exact pathRhx_7 n b0 b1 h0 h1 h9 w hl
theorem hokRhx {x0 r : AV} {n : Int} (i0 : Is (cx nu one 7 laidE laidE_stab) x0 (St' (hexS n))) (hr : Den (cx nu one 7 laidE laidE_stab) r (.tuple #[.int .i64 n, .bool true])) (b0 : 0 ≤ n) (b1 : n ≤ 300) : HOk (cx nu one 7 laidE laidE_stab) (.call 98 [x0]) r := by
  intro ρ args ha w hl _
  simp only [RelL] at ha
  obtain ⟨v0, t0, rfl, a0, rfl⟩ := ha
  have e0 := i0 ρ _ a0; subst e0
  exact (callsRhx n b0 b1 w hl).mono fun e w' he => ⟨_, he.1, hr ρ, he.2⟩
end Go.Proofs.YtabnmohghnnjaaaGreatDoor.answerBody
