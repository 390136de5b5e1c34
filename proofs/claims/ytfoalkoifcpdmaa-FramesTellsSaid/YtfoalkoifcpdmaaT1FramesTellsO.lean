/- A part of the proof: an interpreter of the model's own code on partly known states, and that what it answers is what the program answers. No condition of its own. -/
import Derived.Test.YtfoalkoifcpdmaaSeatT1
import Derived.Test.YtfoalkoifcpdmaaHXpart4
import Derived.Test.YtfoalkoifcpdmaaAXro
import Derived.Test.YtfoalkoifcpdmaaHKA
import Derived.Test.YtfoalkoifcpdmaaHKG
import Derived.Test.YtfoalkoifcpdmaaHKI
import Derived.Test.YtfoalkoifcpdmaaHKJ
import Derived.Test.YtfoalkoifcpdmaaHKK
import Derived.Test.YtfoalkoifcpdmaaCT
import Derived.Test.YtfoalkoifcpdmaaPT
import Derived.Test.YtfoalkoifcpdmaaAXcf
import Derived.Test.YtfoalkoifcpdmaaAXcs
import Derived.Test.YtfoalkoifcpdmaaFR
set_option maxRecDepth 100000
set_option linter.unusedVariables false
set_option linter.unusedSimpArgs false
namespace Go.Proofs.Ytfoalkoifcpdmaa.framesTells
open Go Go.AX Go.Proofs Go.Proofs.Ytfoalkoifcpdmaa
/-- the variables that the runs read are laid -/
def aA5 (w : World) : Prop := True
theorem aA0 : ∀ w w' : World, (∀ k, k < 0 → w'.heap[k]? = w.heap[k]?) → aA5 w → aA5 w' := fun w w' h _ => trivial
theorem aP2 {w : World} (h : aA5 w) : 0 ≤ w.heap.size := by
  exact Nat.zero_le _
noncomputable def H0 : T Ent := .leaf
theorem runP {nu : Nat → Value} {one : ∀ i, i < 1000000 → (nu i).oneCell' = true} {tb : Tab} (h : aC6 (cx nu one 0 aA5 aA0) tb) (hng : tb.ng = 1) {f g : Nat} {fi : FI} (hfi : tb.fn.get g = some fi) (hb : fi.body.isSome = true) {l : List AV} {args : List Value}
    (hr : okB (call tb f g l ⟨H0 , 1, 0, 0⟩) = true) (hl : RelL (cx nu one 0 aA5 aA0) (fun _ => none) l args) (w : World) (hw : aA5 w) :
    Calls Try.prog g ⟨args⟩ w fun e w' => e = .returned (.bool true) ∧ Go.AX.Below (Go.AX.Fz.lt w.heap.size) w w' := by
  obtain ⟨S, hS⟩ := cK8 hr
  refine (bU2 h (H := H0 ) hfi hb (by rw [hng]; exact hS) hl w hw (aP2 hw) fun v k hv => ?_).mono fun e' w' he => ?_
  · unfold H0 at hv
    simp [T.aC1] at hv
  · obtain ⟨x, ρ, rfl, hx, hb⟩ := he
    simp only [Rel] at hx
    exact ⟨by rw [hx], hb⟩
theorem runS {nu : Nat → Value} {one : ∀ i, i < 1000000 → (nu i).oneCell' = true} {tb : Tab} (h : aC6 (cx nu one 0 aA5 aA0) tb) (hng : tb.ng = 1) {f g : Nat} {fi : FI} (hfi : tb.fn.get g = some fi) (hb : fi.body.isSome = true) {l : List AV} {args : List Value} {len n : Nat}
    (hr : okS (call tb f g l ⟨H0 , 1, 0, 0⟩) len n = true) (hl : RelL (cx nu one 0 aA5 aA0) (fun _ => none) l args) (w : World) (hw : aA5 w) :
    Calls Try.prog g ⟨args⟩ w fun e w' => e = .returned (St' (strB len n)) ∧ Go.AX.Below (Go.AX.Fz.lt w.heap.size) w w' := by
  obtain ⟨S, hS⟩ := okS_inv hr
  refine (bU2 h (H := H0 ) hfi hb (by rw [hng]; exact hS) hl w hw (aP2 hw) fun v k hv => ?_).mono fun e' w' he => ?_
  · unfold H0 at hv
    simp [T.aC1] at hv
  · obtain ⟨x, ρ, rfl, hx, hb⟩ := he
    simp only [Rel] at hx
    exact ⟨by rw [hx.1], hb⟩
theorem runA {nu : Nat → Value} {one : ∀ i, i < 1000000 → (nu i).oneCell' = true} {tb : Tab} (h : aC6 (cx nu one 0 aA5 aA0) tb) (hng : tb.ng = 1) {f g : Nat} {fi : FI} (hfi : tb.fn.get g = some fi) (hb : fi.body.isSome = true) {l : List AV} {args : List Value} {ra : AV} (hnr : noR 8 ra = true)
    (hr : okA (call tb f g l ⟨H0 , 1, 0, 0⟩) ra = true) (hl : RelL (cx nu one 0 aA5 aA0) (fun _ => none) l args) (w : World) (hw : aA5 w) :
    Calls Try.prog g ⟨args⟩ w fun e w' => ∃ x, e = .returned x ∧ Rel (cx nu one 0 aA5 aA0) (fun _ => none) ra x ∧ Go.AX.Below (Go.AX.Fz.lt w.heap.size) w w' := by
  obtain ⟨S, hS⟩ := okA_inv hr
  refine (bU2 h (H := H0 ) hfi hb (by rw [hng]; exact hS) hl w hw (aP2 hw) fun v k hv => ?_).mono fun e' w' he => ?_
  · unfold H0 at hv
    simp [T.aC1] at hv
  · obtain ⟨x, ρ, rfl, hx, hb⟩ := he
    exact ⟨x, rfl, bI5 8 _ hnr _ hx, hb⟩
theorem runPR {nu : Nat → Value} {one : ∀ i, i < 1000000 → (nu i).oneCell' = true} {tb : Tab} (h : aC6 (cx nu one 0 aA5 aA0) tb) (hng : tb.ng = 1) {f g : Nat} {fi : FI} (hfi : tb.fn.get g = some fi) (hb : fi.body.isSome = true) {l : List AV} {args : List Value} (rs0 : List Ent) (rs : List R)
    (hr : okB (call tb f g l ⟨addR 1 rs0 (H0 ), 1 + rs0.length, 0, 0⟩) = true) (hl : RelL (cx nu one 0 aA5 aA0) (rhoA 1 rs) l args) (w : World) (hw : aA5 w) (hlen : rs0.length = rs.length) (hbd : 1 + rs0.length ≤ 16777213) (hA : ∀ (j : Nat) (k : Ent) (r : R), rs0[j]? = some k → rs[j]? = some r → bN2 (cx nu one 0 aA5 aA0) w (H0 ) k r) (hnd : rs0.all roE = true) :
    Calls Try.prog g ⟨args⟩ w fun e w' => e = .returned (.bool true) ∧ Go.AX.Below (Go.AX.Fz.lt w.heap.size) w w' := by
  obtain ⟨S, hS⟩ := cK8 hr
  refine (run_okGA h (H := H0 ) hfi hb rs0 rs (by rw [hng]; exact hS) (by rw [hng]; exact hl) w hw (aP2 hw) hlen (by rw [hng]; exact hbd) (hA ) hnd fun v k hv => ?_).mono fun e' w' he => ?_
  · unfold H0 at hv
    simp [T.aC1] at hv
  · obtain ⟨x, ρ, rfl, hx, hb⟩ := he
    simp only [Rel] at hx
    exact ⟨by rw [hx], hb⟩
noncomputable def fk : FI := ⟨Try.f5.body, Try.f5.ntmps, Try.f5.results.toList, 0, none, []⟩
theorem fk_at : tab.fn.get 5 = some fk := by kernel_rfl
theorem cO6 : fk.body.isSome = true := by kernel_rfl
theorem kk : okB (call tab 6000 5 [] ⟨H0 , 1, 0, 0⟩) = true := by kernel_rfl
noncomputable def tabk : Tab := addSum tab 5 fk (.b true)
section
variable (nu : Nat → Value) (one : ∀ i, i < 1000000 → (nu i).oneCell' = true)
theorem sumk : SumOk (cx nu one 0 aA5 aA0) 5 (.b true) := fun w hi hs => by
  refine (runP (tabOk nu one 0 aA5 aA0) rfl fk_at cO6 kk (args := []) (by simp only [RelL]) w hi).mono fun e w' he => ?_
  exact ⟨.bool true, he.1, by simp only [Rel], he.2⟩
theorem aC2 : aC6 (cx nu one 0 aA5 aA0) tabk := (tabOk nu one 0 aA5 aA0).sum (by omega) fk_at cO6 (sumk nu one)
end
theorem tu3 : Try.prog.underlying 3 = some (.int .i64) := by kernel_rfl
theorem tu5 : Try.prog.underlying 5 = some (.int .u8) := by kernel_rfl
theorem tu9 : Try.prog.underlying 9 = some .string := by kernel_rfl
noncomputable def tbl (h : LK) : Tab := { tabk with hyp := h }
theorem fiE : ∃ fi, tabk.fn.get 3 = some fi ∧ fi.body.isSome = true := ⟨_, rfl, by kernel_rfl⟩
abbrev CwR (g : Nat) (args : Array Value) (w : World) (v : Value) : Prop := Calls Try.prog g args w fun e w' => e = .returned v ∧ Go.AX.Below (Go.AX.Fz.lt w.heap.size) w w'
theorem runC {nu : Nat → Value} {one : ∀ i, i < 1000000 → (nu i).oneCell' = true} {tb : Tab} {ra : AV} {v : Value} (hnr : noR 8 ra = true) (h : aC6 (cx nu one 0 aA5 aA0) tb) (hng : tb.ng = 1) {f g : Nat} {fi : FI} (hfi : tb.fn.get g = some fi) (hb : fi.body.isSome = true) {l : List AV} {args : List Value}
    (hr : okA (call tb f g l ⟨H0 , 1, 0, 0⟩) ra = true) (hl : RelL (cx nu one 0 aA5 aA0) (fun _ => none) l args) (w : World) (hw : aA5 w) (hv : ∀ x, Rel (cx nu one 0 aA5 aA0) (fun _ => none) ra x → x = v) : CwR g ⟨args⟩ w v :=
  (runA h hng hfi hb hnr hr hl w hw).mono fun e w' he => by
    obtain ⟨x, rfl, hx, hb2⟩ := he
    exact ⟨by rw [hv x hx], hb2⟩
variable {nu : Nat → Value} {one : ∀ i, i < 1000000 → (nu i).oneCell' = true} {E' : Cx} {x' : Ex} {e' : LA} {h' : LE}
theorem cF4 : tabk.fn.get 29 = some (fI Try.f29 0) ∧ (fI Try.f29 0).body.isSome = true := ⟨rfl, by kernel_rfl⟩
def bK7 : LK := [(.mm true (.x 0) (I6 0), .x 1), (.mm false (.x 1) (I6 2147483647), .x 2), (.bin .lss (.x 2) (I6 128), .b true), (.conv 5 (.x 2), .x 3), (.bytes [.x 3], .x 4)]
theorem runLen_0 : okA (call (tbl bK7) 9000 29 [.x 0] ⟨H0 , 1, 0, 0⟩) (.x 4) = true := by kernel_rfl
def bI4 (n : Int) : List Value := [.int .i64 (n), .int .i64 (max n 0), .int .i64 (min (max n 0) 2147483647), .int .u8 ((min (max n 0) 2147483647) % 256), St' ([u8 ((min (max n 0) 2147483647) % 256)])]
theorem pathLen_0 (n : Int) (b0 : 0 ≤ n) (b1 : n ≤ 600) (h0 : min (max n 0) 2147483647 < 128) (w : World) (hl : aA5 w) : CwR 29 #[.int .i64 n] w (St' ([u8 ((min (max n 0) 2147483647) % 256)])) := by
  have ho : ∀ k r, (k, r) ∈ bK7 → HOk (cx (nuL (bI4 n)) (fun j _ => aA6 (l := bI4 n) rfl j) 0 aA5 aA0) k r := by
    unfold bK7
    exact hc (kMax (isX rfl) (isZ (m := 0) rfl) (denX rfl) rfl) <|hc (kMin (isX rfl) (isZ (m := 2147483647) rfl) (denX rfl) rfl) <|hc (ltcT rfl (by omega)) <|hc (cE1 (isX rfl) tu5 (denX rfl) rfl) <|hc (bC7 (bs := [u8 ((min (max n 0) 2147483647) % 256)]) (.cons (isB8 (isX rfl) (by omega) (by omega)) .nil) (denX rfl)) <|hnil
  refine runC (tb := (tbl bK7)) (ra := .x 4) rfl ((aC2 (nuL (bI4 n)) (fun j _ => aA6 (l := bI4 n) rfl j)).hyps ho) rfl cF4.1 cF4.2 (runLen_0 ) (args := [.int .i64 n]) (by simp only [RelL, Rel]; exact ⟨_, _, rfl, rfl, rfl⟩) w hl fun x hx => ?_
  simp only [Rel, RelL] at hx
  exact hx
def bK6 : LK := [(.mm true (.x 0) (I6 0), .x 1), (.mm false (.x 1) (I6 2147483647), .x 2), (.bin .lss (.x 2) (I6 128), .b false), (.bin .shr (.x 2) (.i .u64 (.ofNat 24)), I6 0), (.bin .shr (.x 2) (.i .u64 (.ofNat 16)), I6 0), (.bin .shr (.x 2) (.i .u64 (.ofNat 8)), .x 3), (.conv 5 (.x 3), .x 4), (.conv 5 (.x 2), .x 5), (.bytes [.i .u8 (.ofNat 128), .i .u8 (.ofNat 0), .x 4, .x 5], .x 6)]
theorem runLen_1 : okA (call (tbl bK6) 9000 29 [.x 0] ⟨H0 , 1, 0, 0⟩) (.x 6) = true := by kernel_rfl
def bI3 (n : Int) : List Value := [.int .i64 (n), .int .i64 (max n 0), .int .i64 (min (max n 0) 2147483647), .int .i64 ((min (max n 0) 2147483647) / 256), .int .u8 (((min (max n 0) 2147483647) / 256)), .int .u8 ((min (max n 0) 2147483647) % 256), St' ([u8 128, u8 0, u8 (((min (max n 0) 2147483647) / 256)), u8 ((min (max n 0) 2147483647) % 256)])]
theorem pathLen_1 (n : Int) (b0 : 0 ≤ n) (b1 : n ≤ 600) (h0 : ¬ (min (max n 0) 2147483647 < 128)) (w : World) (hl : aA5 w) : CwR 29 #[.int .i64 n] w (St' ([u8 128, u8 0, u8 (((min (max n 0) 2147483647) / 256)), u8 ((min (max n 0) 2147483647) % 256)])) := by
  have ho : ∀ k r, (k, r) ∈ bK6 → HOk (cx (nuL (bI3 n)) (fun j _ => aA6 (l := bI3 n) rfl j) 0 aA5 aA0) k r := by
    unfold bK6
    exact hc (kMax (isX rfl) (isZ (m := 0) rfl) (denX rfl) rfl) <|hc (kMin (isX rfl) (isZ (m := 2147483647) rfl) (denX rfl) rfl) <|hc (ltcF rfl (by omega)) <|hc (cH3 24 16777216 rfl (isX rfl) (isZ (m := 24) rfl) (denZ (m := 0) rfl) (by omega) (by decide) (by omega) (by omega)) <|hc (cH3 16 65536 rfl (isX rfl) (isZ (m := 16) rfl) (denZ (m := 0) rfl) (by omega) (by decide) (by omega) (by omega)) <|hc (cH3 8 256 rfl (isX rfl) (isZ (m := 8) rfl) (denX rfl) rfl (by decide) (by omega) rfl) <|hc (kConvF (isX rfl) tu5 (denX rfl) (fU8 (by omega) (by omega))) <|hc (cE1 (isX rfl) tu5 (denX rfl) rfl) <|hc (bC7 (bs := [u8 128, u8 0, u8 (((min (max n 0) 2147483647) / 256)), u8 ((min (max n 0) 2147483647) % 256)]) (.cons (isB8 (isZ (m := 128) rfl) (by omega) (by omega)) (.cons (isB8 (isZ (m := 0) rfl) (by omega) (by omega)) (.cons (isB8 (isX rfl) (by omega) (by omega)) (.cons (isB8 (isX rfl) (by omega) (by omega)) .nil)))) (denX rfl)) <|hnil
  refine runC (tb := (tbl bK6)) (ra := .x 6) rfl ((aC2 (nuL (bI3 n)) (fun j _ => aA6 (l := bI3 n) rfl j)).hyps ho) rfl cF4.1 cF4.2 (runLen_1 ) (args := [.int .i64 n]) (by simp only [RelL, Rel]; exact ⟨_, _, rfl, rfl, rfl⟩) w hl fun x hx => ?_
  simp only [Rel, RelL] at hx
  exact hx
theorem callsLen (n : Int) (b0 : 0 ≤ n) (b1 : n ≤ 600) (w : World) (hl : aA5 w) : CwR 29 #[.int .i64 n] w (St' (lnB n)) := by
  by_cases h0 : min (max n 0) 2147483647 < 128
  · rw [show (St' (lnB n) : Value) = (St' ([u8 ((min (max n 0) 2147483647) % 256)]) : Value) from by exact congrArg (fun l => St' l) (by unfold lnB; have hm : min (max n 0) 2147483647 = n := (by omega); have hm' : max 0 (min n 2147483647) = n := (by omega); first | (rw [if_pos (by omega)]; simp only [hm, hm', show n % 256 = n by omega]; done) | (rw [if_neg (by omega)]; simp only [hm, hm']; done))]
    exact pathLen_0 n b0 b1 h0 w hl
  · rw [show (St' (lnB n) : Value) = (St' ([u8 128, u8 0, u8 (((min (max n 0) 2147483647) / 256)), u8 ((min (max n 0) 2147483647) % 256)]) : Value) from by exact congrArg (fun l => St' l) (by unfold lnB; have hm : min (max n 0) 2147483647 = n := (by omega); have hm' : max 0 (min n 2147483647) = n := (by omega); first | (rw [if_pos (by omega)]; simp only [hm, hm', show n % 256 = n by omega]; done) | (rw [if_neg (by omega)]; simp only [hm, hm']; done))]
    exact pathLen_1 n b0 b1 h0 w hl
theorem cE9 {x0 r : AV} {n : Int} (i0 : Is (cx nu one 0 aA5 aA0) x0 (.int .i64 n)) (hr : Den (cx nu one 0 aA5 aA0) r (St' (lnB n))) (b0 : 0 ≤ n) (b1 : n ≤ 600) : HOk (cx nu one 0 aA5 aA0) (.call 29 [x0]) r := by
  intro ρ args ha w hl _
  simp only [RelL] at ha
  obtain ⟨v0, t0, rfl, a0, rfl⟩ := ha
  have e0 := i0 ρ _ a0; subst e0
  exact (callsLen n b0 b1 w hl).mono fun e w' he => ⟨_, he.1, hr ρ, he.2⟩
theorem bL5 : tabk.fn.get 31 = some (fI Try.f31 0) ∧ (fI Try.f31 0).body.isSome = true := ⟨rfl, by kernel_rfl⟩
def aZ3 : LK := [(.mm false (.x 0) (I6 2147483647), .x 1), (.mm true (I6 0) (.x 1), .x 2), (.bin .lss (.x 2) (I6 128), .b true), (.conv 5 (.x 2), .x 3), (.bytes [.x 3], .x 4)]
theorem runRlen_0 : okA (call (tbl aZ3) 9000 31 [.x 0] ⟨H0 , 1, 0, 0⟩) (.x 4) = true := by kernel_rfl
def aY7 (n : Int) : List Value := [.int .i64 (n), .int .i64 (min n 2147483647), .int .i64 (max 0 (min n 2147483647)), .int .u8 ((max 0 (min n 2147483647)) % 256), St' ([u8 ((max 0 (min n 2147483647)) % 256)])]
theorem pathRlen_0 (n : Int) (b0 : 0 ≤ n) (b1 : n ≤ 600) (h0 : max 0 (min n 2147483647) < 128) (w : World) (hl : aA5 w) : CwR 31 #[.int .i64 n] w (St' ([u8 ((max 0 (min n 2147483647)) % 256)])) := by
  have ho : ∀ k r, (k, r) ∈ aZ3 → HOk (cx (nuL (aY7 n)) (fun j _ => aA6 (l := aY7 n) rfl j) 0 aA5 aA0) k r := by
    unfold aZ3
    exact hc (kMin (isX rfl) (isZ (m := 2147483647) rfl) (denX rfl) rfl) <|hc (kMax (isZ (m := 0) rfl) (isX rfl) (denX rfl) rfl) <|hc (ltcT rfl (by omega)) <|hc (cE1 (isX rfl) tu5 (denX rfl) rfl) <|hc (bC7 (bs := [u8 ((max 0 (min n 2147483647)) % 256)]) (.cons (isB8 (isX rfl) (by omega) (by omega)) .nil) (denX rfl)) <|hnil
  refine runC (tb := (tbl aZ3)) (ra := .x 4) rfl ((aC2 (nuL (aY7 n)) (fun j _ => aA6 (l := aY7 n) rfl j)).hyps ho) rfl bL5.1 bL5.2 (runRlen_0 ) (args := [.int .i64 n]) (by simp only [RelL, Rel]; exact ⟨_, _, rfl, rfl, rfl⟩) w hl fun x hx => ?_
  simp only [Rel, RelL] at hx
  exact hx
def aZ2 : LK := [(.mm false (.x 0) (I6 2147483647), .x 1), (.mm true (I6 0) (.x 1), .x 2), (.bin .lss (.x 2) (I6 128), .b false), (.bin .shr (.x 2) (.i .u64 (.ofNat 24)), I6 0), (.bin .shr (.x 2) (.i .u64 (.ofNat 16)), I6 0), (.bin .shr (.x 2) (.i .u64 (.ofNat 8)), .x 3), (.conv 5 (.x 3), .x 4), (.conv 5 (.x 2), .x 5), (.bytes [.i .u8 (.ofNat 128), .i .u8 (.ofNat 0), .x 4, .x 5], .x 6)]
theorem runRlen_1 : okA (call (tbl aZ2) 9000 31 [.x 0] ⟨H0 , 1, 0, 0⟩) (.x 6) = true := by kernel_rfl
def aY6 (n : Int) : List Value := [.int .i64 (n), .int .i64 (min n 2147483647), .int .i64 (max 0 (min n 2147483647)), .int .i64 ((max 0 (min n 2147483647)) / 256), .int .u8 (((max 0 (min n 2147483647)) / 256)), .int .u8 ((max 0 (min n 2147483647)) % 256), St' ([u8 128, u8 0, u8 (((max 0 (min n 2147483647)) / 256)), u8 ((max 0 (min n 2147483647)) % 256)])]
theorem pathRlen_1 (n : Int) (b0 : 0 ≤ n) (b1 : n ≤ 600) (h0 : ¬ (max 0 (min n 2147483647) < 128)) (w : World) (hl : aA5 w) : CwR 31 #[.int .i64 n] w (St' ([u8 128, u8 0, u8 (((max 0 (min n 2147483647)) / 256)), u8 ((max 0 (min n 2147483647)) % 256)])) := by
  have ho : ∀ k r, (k, r) ∈ aZ2 → HOk (cx (nuL (aY6 n)) (fun j _ => aA6 (l := aY6 n) rfl j) 0 aA5 aA0) k r := by
    unfold aZ2
    exact hc (kMin (isX rfl) (isZ (m := 2147483647) rfl) (denX rfl) rfl) <|hc (kMax (isZ (m := 0) rfl) (isX rfl) (denX rfl) rfl) <|hc (ltcF rfl (by omega)) <|hc (cH3 24 16777216 rfl (isX rfl) (isZ (m := 24) rfl) (denZ (m := 0) rfl) (by omega) (by decide) (by omega) (by omega)) <|hc (cH3 16 65536 rfl (isX rfl) (isZ (m := 16) rfl) (denZ (m := 0) rfl) (by omega) (by decide) (by omega) (by omega)) <|hc (cH3 8 256 rfl (isX rfl) (isZ (m := 8) rfl) (denX rfl) rfl (by decide) (by omega) rfl) <|hc (kConvF (isX rfl) tu5 (denX rfl) (fU8 (by omega) (by omega))) <|hc (cE1 (isX rfl) tu5 (denX rfl) rfl) <|hc (bC7 (bs := [u8 128, u8 0, u8 (((max 0 (min n 2147483647)) / 256)), u8 ((max 0 (min n 2147483647)) % 256)]) (.cons (isB8 (isZ (m := 128) rfl) (by omega) (by omega)) (.cons (isB8 (isZ (m := 0) rfl) (by omega) (by omega)) (.cons (isB8 (isX rfl) (by omega) (by omega)) (.cons (isB8 (isX rfl) (by omega) (by omega)) .nil)))) (denX rfl)) <|hnil
  refine runC (tb := (tbl aZ2)) (ra := .x 6) rfl ((aC2 (nuL (aY6 n)) (fun j _ => aA6 (l := aY6 n) rfl j)).hyps ho) rfl bL5.1 bL5.2 (runRlen_1 ) (args := [.int .i64 n]) (by simp only [RelL, Rel]; exact ⟨_, _, rfl, rfl, rfl⟩) w hl fun x hx => ?_
  simp only [Rel, RelL] at hx
  exact hx
theorem callsRlen (n : Int) (b0 : 0 ≤ n) (b1 : n ≤ 600) (w : World) (hl : aA5 w) : CwR 31 #[.int .i64 n] w (St' (lnB n)) := by
  by_cases h0 : max 0 (min n 2147483647) < 128
  · rw [show (St' (lnB n) : Value) = (St' ([u8 ((max 0 (min n 2147483647)) % 256)]) : Value) from by exact congrArg (fun l => St' l) (by unfold lnB; have hm : min (max n 0) 2147483647 = n := (by omega); have hm' : max 0 (min n 2147483647) = n := (by omega); first | (rw [if_pos (by omega)]; simp only [hm, hm', show n % 256 = n by omega]; done) | (rw [if_neg (by omega)]; simp only [hm, hm']; done))]
    exact pathRlen_0 n b0 b1 h0 w hl
  · rw [show (St' (lnB n) : Value) = (St' ([u8 128, u8 0, u8 (((max 0 (min n 2147483647)) / 256)), u8 ((max 0 (min n 2147483647)) % 256)]) : Value) from by exact congrArg (fun l => St' l) (by unfold lnB; have hm : min (max n 0) 2147483647 = n := (by omega); have hm' : max 0 (min n 2147483647) = n := (by omega); first | (rw [if_pos (by omega)]; simp only [hm, hm', show n % 256 = n by omega]; done) | (rw [if_neg (by omega)]; simp only [hm, hm']; done))]
    exact pathRlen_1 n b0 b1 h0 w hl
theorem cO3 {x0 r : AV} {n : Int} (i0 : Is (cx nu one 0 aA5 aA0) x0 (.int .i64 n)) (hr : Den (cx nu one 0 aA5 aA0) r (St' (lnB n))) (b0 : 0 ≤ n) (b1 : n ≤ 600) : HOk (cx nu one 0 aA5 aA0) (.call 31 [x0]) r := by
  intro ρ args ha w hl _
  simp only [RelL] at ha
  obtain ⟨v0, t0, rfl, a0, rfl⟩ := ha
  have e0 := i0 ρ _ a0; subst e0
  exact (callsRlen n b0 b1 w hl).mono fun e w' he => ⟨_, he.1, hr ρ, he.2⟩
theorem fiNPad : tabk.fn.get 32 = some (fI Try.f32 0) ∧ (fI Try.f32 0).body.isSome = true := ⟨rfl, by kernel_rfl⟩
def bK1 : LK := [(.mm true (.x 0) (I6 0), .x 1), (.un .neg (.x 1), .x 2), (.bin .and (.x 2) (I6 7), .x 3)]
theorem runPad_0 : okA (call (tbl bK1) 9000 32 [.x 0] ⟨H0 , 1, 0, 0⟩) (.x 3) = true := by kernel_rfl
def bI2 (n : Int) : List Value := [.int .i64 (n), .int .i64 (max n 0), .int .i64 (-((max n 0))), .int .i64 ((-((max n 0))) % 8)]
theorem pathPad_0 (n : Int) (b0 : 0 ≤ n) (b1 : n ≤ 512) (w : World) (hl : aA5 w) : CwR 32 #[.int .i64 n] w (.int .i64 ((-((max n 0))) % 8)) := by
  have ho : ∀ k r, (k, r) ∈ bK1 → HOk (cx (nuL (bI2 n)) (fun j _ => aA6 (l := bI2 n) rfl j) 0 aA5 aA0) k r := by
    unfold bK1
    exact hc (kMax (isX rfl) (isZ (m := 0) rfl) (denX rfl) rfl) <|hc (kNeg (isX rfl) (denX rfl) (by omega) (fI64 (by omega) (by omega))) <|hc (kAndG 3 8 rfl (by decide) (isX rfl) (isZ (m := 7) rfl) (denX rfl) (fI64 (by omega) (by omega)) rfl rfl (fI64 (by omega) (by omega))) <|hnil
  refine runC (tb := (tbl bK1)) (ra := .x 3) rfl ((aC2 (nuL (bI2 n)) (fun j _ => aA6 (l := bI2 n) rfl j)).hyps ho) rfl fiNPad.1 fiNPad.2 (runPad_0 ) (args := [.int .i64 n]) (by simp only [RelL, Rel]; exact ⟨_, _, rfl, rfl, rfl⟩) w hl fun x hx => ?_
  simp only [Rel, RelL] at hx
  exact hx
theorem callsPad (n : Int) (b0 : 0 ≤ n) (b1 : n ≤ 512) (w : World) (hl : aA5 w) : CwR 32 #[.int .i64 n] w (.int .i64 (pdI n)) := by
  rw [show (.int .i64 (pdI n) : Value) = (.int .i64 ((-((max n 0))) % 8) : Value) from by exact congrArg (Value.int IntKind.i64) (by unfold pdI; omega)]
  exact pathPad_0 n b0 b1 w hl
theorem hokPad {x0 r : AV} {n : Int} (i0 : Is (cx nu one 0 aA5 aA0) x0 (.int .i64 n)) (hr : Den (cx nu one 0 aA5 aA0) r (.int .i64 (pdI n))) (b0 : 0 ≤ n) (b1 : n ≤ 512) : HOk (cx nu one 0 aA5 aA0) (.call 32 [x0]) r := by
  intro ρ args ha w hl _
  simp only [RelL] at ha
  obtain ⟨v0, t0, rfl, a0, rfl⟩ := ha
  have e0 := i0 ρ _ a0; subst e0
  exact (callsPad n b0 b1 w hl).mono fun e w' he => ⟨_, he.1, hr ρ, he.2⟩
theorem cO7 : tabk.fn.get 23 = some (fI Try.f23 0) ∧ (fI Try.f23 0).body.isSome = true := ⟨rfl, by kernel_rfl⟩
def aZ1 : LK := [(.mm true (I6 0) (.x 0), .x 1), (.bin .rem (.x 1) (I6 8), .x 2), (.bin .sub (I6 8) (.x 2), .x 3), (.bin .rem (.x 3) (I6 8), .x 4)]
theorem runRpad_0 : okA (call (tbl aZ1) 9000 23 [.x 0] ⟨H0 , 1, 0, 0⟩) (.x 4) = true := by kernel_rfl
def aY5 (n : Int) : List Value := [.int .i64 (n), .int .i64 (max 0 n), .int .i64 ((max 0 n) % 8), .int .i64 (8 - ((max 0 n) % 8)), .int .i64 ((8 - ((max 0 n) % 8)) % 8)]
theorem pathRpad_0 (n : Int) (b0 : 0 ≤ n) (b1 : n ≤ 512) (w : World) (hl : aA5 w) : CwR 23 #[.int .i64 n] w (.int .i64 ((8 - ((max 0 n) % 8)) % 8)) := by
  have ho : ∀ k r, (k, r) ∈ aZ1 → HOk (cx (nuL (aY5 n)) (fun j _ => aA6 (l := aY5 n) rfl j) 0 aA5 aA0) k r := by
    unfold aZ1
    exact hc (kMax (isZ (m := 0) rfl) (isX rfl) (denX rfl) rfl) <|hc (kRem (isX rfl) (isZ (m := 8) rfl) (denX rfl) (by omega) (by omega) rfl) <|hc (kSub (isZ (m := 8) rfl) (isX rfl) (denX rfl) (by omega) (fI64 (by omega) (by omega))) <|hc (kRem (isX rfl) (isZ (m := 8) rfl) (denX rfl) (by omega) (by omega) rfl) <|hnil
  refine runC (tb := (tbl aZ1)) (ra := .x 4) rfl ((aC2 (nuL (aY5 n)) (fun j _ => aA6 (l := aY5 n) rfl j)).hyps ho) rfl cO7.1 cO7.2 (runRpad_0 ) (args := [.int .i64 n]) (by simp only [RelL, Rel]; exact ⟨_, _, rfl, rfl, rfl⟩) w hl fun x hx => ?_
  simp only [Rel, RelL] at hx
  exact hx
theorem callsRpad (n : Int) (b0 : 0 ≤ n) (b1 : n ≤ 512) (w : World) (hl : aA5 w) : CwR 23 #[.int .i64 n] w (.int .i64 (pdI n)) := by
  rw [show (.int .i64 (pdI n) : Value) = (.int .i64 ((8 - ((max 0 n) % 8)) % 8) : Value) from by exact congrArg (Value.int IntKind.i64) (by unfold pdI; omega)]
  exact pathRpad_0 n b0 b1 w hl
theorem cO2 {x0 r : AV} {n : Int} (i0 : Is (cx nu one 0 aA5 aA0) x0 (.int .i64 n)) (hr : Den (cx nu one 0 aA5 aA0) r (.int .i64 (pdI n))) (b0 : 0 ≤ n) (b1 : n ≤ 512) : HOk (cx nu one 0 aA5 aA0) (.call 23 [x0]) r := by
  intro ρ args ha w hl _
  simp only [RelL] at ha
  obtain ⟨v0, t0, rfl, a0, rfl⟩ := ha
  have e0 := i0 ρ _ a0; subst e0
  exact (callsRpad n b0 b1 w hl).mono fun e w' he => ⟨_, he.1, hr ρ, he.2⟩
theorem aP0 (n : Int) : 1 ≤ (lnB n).length ∧ (lnB n).length ≤ 4 := by rw [bV1]; split <;> omega
end Go.Proofs.Ytfoalkoifcpdmaa.framesTells
