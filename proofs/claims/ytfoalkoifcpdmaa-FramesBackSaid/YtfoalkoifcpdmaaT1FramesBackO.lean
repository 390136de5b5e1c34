/- A part of the proof: an interpreter of the model's own code on partly known states, and that what it answers is what the program answers. No condition of its own. -/
import Derived.Test.YtfoalkoifcpdmaaSeatT1
import Derived.Test.YtfoalkoifcpdmaaHXpart4
import Derived.Test.YtfoalkoifcpdmaaAXro
import Derived.Test.YtfoalkoifcpdmaaHKA
import Derived.Test.YtfoalkoifcpdmaaHKG
import Derived.Test.YtfoalkoifcpdmaaHKI
import Derived.Test.YtfoalkoifcpdmaaHKJ
import Derived.Test.YtfoalkoifcpdmaaHKK
import Derived.Test.YtfoalkoifcpdmaaCT
import Derived.Test.YtfoalkoifcpdmaaPT
import Derived.Test.YtfoalkoifcpdmaaAXcf
import Derived.Test.YtfoalkoifcpdmaaAXcs
import Derived.Test.YtfoalkoifcpdmaaFR
import Derived.Test.YtfoalkoifcpdmaaFB
set_option maxRecDepth 100000
set_option linter.unusedVariables false
set_option linter.unusedSimpArgs false
namespace Go.Proofs.Ytfoalkoifcpdmaa.framesBack
open Go Go.AX Go.Proofs Go.Proofs.Ytfoalkoifcpdmaa
/-- the variables that the runs read are laid -/
def aB0 (w : World) : Prop := True
theorem aA1 : ∀ w w' : World, (∀ k, k < 0 → w'.heap[k]? = w.heap[k]?) → aB0 w → aB0 w' := fun w w' h _ => trivial
theorem aV3 {w : World} (h : aB0 w) : 0 ≤ w.heap.size := by
  exact Nat.zero_le _
noncomputable def H0 : T Ent := .leaf
theorem runP {nu : Nat → Value} {one : ∀ i, i < 1000000 → (nu i).oneCell' = true} {tb : Tab} (h : aF3 (cx nu one 0 aB0 aA1) tb) (hng : tb.ng = 1) {f g : Nat} {fi : FI} (hfi : tb.fn.get g = some fi) (hb : fi.body.isSome = true) {l : List AV} {args : List Value}
    (hr : okB (call tb f g l ⟨H0 , 1, 0, 0⟩) = true) (hl : RelL (cx nu one 0 aB0 aA1) (fun _ => none) l args) (w : World) (hw : aB0 w) :
    Calls Try.prog g ⟨args⟩ w fun e w' => e = .returned (.bool true) ∧ Go.AX.Below (Go.AX.Fz.lt w.heap.size) w w' := by
  obtain ⟨S, hS⟩ := dL5 hr
  refine (cV8 h (H := H0 ) hfi hb (by rw [hng]; exact hS) hl w hw (aV3 hw) fun v k hv => ?_).mono fun e' w' he => ?_
  · unfold H0 at hv
    simp [T.aD7] at hv
  · obtain ⟨x, ρ, rfl, hx, hb⟩ := he
    simp only [Rel] at hx
    exact ⟨by rw [hx], hb⟩
theorem runS {nu : Nat → Value} {one : ∀ i, i < 1000000 → (nu i).oneCell' = true} {tb : Tab} (h : aF3 (cx nu one 0 aB0 aA1) tb) (hng : tb.ng = 1) {f g : Nat} {fi : FI} (hfi : tb.fn.get g = some fi) (hb : fi.body.isSome = true) {l : List AV} {args : List Value} {len n : Nat}
    (hr : okS (call tb f g l ⟨H0 , 1, 0, 0⟩) len n = true) (hl : RelL (cx nu one 0 aB0 aA1) (fun _ => none) l args) (w : World) (hw : aB0 w) :
    Calls Try.prog g ⟨args⟩ w fun e w' => e = .returned (St' (strB len n)) ∧ Go.AX.Below (Go.AX.Fz.lt w.heap.size) w w' := by
  obtain ⟨S, hS⟩ := okS_inv hr
  refine (cV8 h (H := H0 ) hfi hb (by rw [hng]; exact hS) hl w hw (aV3 hw) fun v k hv => ?_).mono fun e' w' he => ?_
  · unfold H0 at hv
    simp [T.aD7] at hv
  · obtain ⟨x, ρ, rfl, hx, hb⟩ := he
    simp only [Rel] at hx
    exact ⟨by rw [hx.1], hb⟩
theorem runA {nu : Nat → Value} {one : ∀ i, i < 1000000 → (nu i).oneCell' = true} {tb : Tab} (h : aF3 (cx nu one 0 aB0 aA1) tb) (hng : tb.ng = 1) {f g : Nat} {fi : FI} (hfi : tb.fn.get g = some fi) (hb : fi.body.isSome = true) {l : List AV} {args : List Value} {ra : AV} (hnr : noR 8 ra = true)
    (hr : okA (call tb f g l ⟨H0 , 1, 0, 0⟩) ra = true) (hl : RelL (cx nu one 0 aB0 aA1) (fun _ => none) l args) (w : World) (hw : aB0 w) :
    Calls Try.prog g ⟨args⟩ w fun e w' => ∃ x, e = .returned x ∧ Rel (cx nu one 0 aB0 aA1) (fun _ => none) ra x ∧ Go.AX.Below (Go.AX.Fz.lt w.heap.size) w w' := by
  obtain ⟨S, hS⟩ := okA_inv hr
  refine (cV8 h (H := H0 ) hfi hb (by rw [hng]; exact hS) hl w hw (aV3 hw) fun v k hv => ?_).mono fun e' w' he => ?_
  · unfold H0 at hv
    simp [T.aD7] at hv
  · obtain ⟨x, ρ, rfl, hx, hb⟩ := he
    exact ⟨x, rfl, cD7 8 _ hnr _ hx, hb⟩
theorem runPR {nu : Nat → Value} {one : ∀ i, i < 1000000 → (nu i).oneCell' = true} {tb : Tab} (h : aF3 (cx nu one 0 aB0 aA1) tb) (hng : tb.ng = 1) {f g : Nat} {fi : FI} (hfi : tb.fn.get g = some fi) (hb : fi.body.isSome = true) {l : List AV} {args : List Value} (rs0 : List Ent) (rs : List R)
    (hr : okB (call tb f g l ⟨addR 1 rs0 (H0 ), 1 + rs0.length, 0, 0⟩) = true) (hl : RelL (cx nu one 0 aB0 aA1) (rhoA 1 rs) l args) (w : World) (hw : aB0 w) (hlen : rs0.length = rs.length) (hbd : 1 + rs0.length ≤ 16777213) (hA : ∀ (j : Nat) (k : Ent) (r : R), rs0[j]? = some k → rs[j]? = some r → cN1 (cx nu one 0 aB0 aA1) w (H0 ) k r) (hnd : rs0.all roE = true) :
    Calls Try.prog g ⟨args⟩ w fun e w' => e = .returned (.bool true) ∧ Go.AX.Below (Go.AX.Fz.lt w.heap.size) w w' := by
  obtain ⟨S, hS⟩ := dL5 hr
  refine (run_okGA h (H := H0 ) hfi hb rs0 rs (by rw [hng]; exact hS) (by rw [hng]; exact hl) w hw (aV3 hw) hlen (by rw [hng]; exact hbd) (hA ) hnd fun v k hv => ?_).mono fun e' w' he => ?_
  · unfold H0 at hv
    simp [T.aD7] at hv
  · obtain ⟨x, ρ, rfl, hx, hb⟩ := he
    simp only [Rel] at hx
    exact ⟨by rw [hx], hb⟩
noncomputable def fk : FI := ⟨Try.f5.body, Try.f5.ntmps, Try.f5.results.toList, 0, none, []⟩
theorem fk_at : tab.fn.get 5 = some fk := by kernel_rfl
theorem dO6 : fk.body.isSome = true := by kernel_rfl
theorem kk : okB (call tab 6000 5 [] ⟨H0 , 1, 0, 0⟩) = true := by kernel_rfl
noncomputable def tabk : Tab := addSum tab 5 fk (.b true)
section
variable (nu : Nat → Value) (one : ∀ i, i < 1000000 → (nu i).oneCell' = true)
theorem sumk : SumOk (cx nu one 0 aB0 aA1) 5 (.b true) := fun w hi hs => by
  refine (runP (tabOk nu one 0 aB0 aA1) rfl fk_at dO6 kk (args := []) (by simp only [RelL]) w hi).mono fun e w' he => ?_
  exact ⟨.bool true, he.1, by simp only [Rel], he.2⟩
theorem aD2 : aF3 (cx nu one 0 aB0 aA1) tabk := (tabOk nu one 0 aB0 aA1).sum (by omega) fk_at dO6 (sumk nu one)
end
theorem tu3 : Try.prog.underlying 3 = some (.int .i64) := by kernel_rfl
theorem tu5 : Try.prog.underlying 5 = some (.int .u8) := by kernel_rfl
theorem tu9 : Try.prog.underlying 9 = some .string := by kernel_rfl
noncomputable def tbl (h : LK) : Tab := { tabk with hyp := h }
theorem fiE : ∃ fi, tabk.fn.get 4 = some fi ∧ fi.body.isSome = true := ⟨_, rfl, by kernel_rfl⟩
abbrev CwR (g : Nat) (args : Array Value) (w : World) (v : Value) : Prop := Calls Try.prog g args w fun e w' => e = .returned v ∧ Go.AX.Below (Go.AX.Fz.lt w.heap.size) w w'
theorem runC {nu : Nat → Value} {one : ∀ i, i < 1000000 → (nu i).oneCell' = true} {tb : Tab} {ra : AV} {v : Value} (hnr : noR 8 ra = true) (h : aF3 (cx nu one 0 aB0 aA1) tb) (hng : tb.ng = 1) {f g : Nat} {fi : FI} (hfi : tb.fn.get g = some fi) (hb : fi.body.isSome = true) {l : List AV} {args : List Value}
    (hr : okA (call tb f g l ⟨H0 , 1, 0, 0⟩) ra = true) (hl : RelL (cx nu one 0 aB0 aA1) (fun _ => none) l args) (w : World) (hw : aB0 w) (hv : ∀ x, Rel (cx nu one 0 aB0 aA1) (fun _ => none) ra x → x = v) : CwR g ⟨args⟩ w v :=
  (runA h hng hfi hb hnr hr hl w hw).mono fun e w' he => by
    obtain ⟨x, rfl, hx, hb2⟩ := he
    exact ⟨by rw [hv x hx], hb2⟩
variable {nu : Nat → Value} {one : ∀ i, i < 1000000 → (nu i).oneCell' = true} {E' : Cx} {x' : Ex} {e' : LA} {h' : LE}
theorem dG6 : tabk.fn.get 29 = some (fI Try.f29 0) ∧ (fI Try.f29 0).body.isSome = true := ⟨rfl, by kernel_rfl⟩
def cJ7 : LK := [(.mm true (.x 0) (I6 0), .x 1), (.mm false (.x 1) (I6 2147483647), .x 2), (.bin .lss (.x 2) (I6 128), .b true), (.conv 5 (.x 2), .x 3), (.bytes [.x 3], .x 4)]
theorem runLen_0 : okA (call (tbl cJ7) 9000 29 [.x 0] ⟨H0 , 1, 0, 0⟩) (.x 4) = true := by kernel_rfl
def cD6 (n : Int) : List Value := [.int .i64 (n), .int .i64 (max n 0), .int .i64 (min (max n 0) 2147483647), .int .u8 ((min (max n 0) 2147483647) % 256), St' ([u8 ((min (max n 0) 2147483647) % 256)])]
theorem pathLen_0 (n : Int) (b0 : 0 ≤ n) (b1 : n ≤ 600) (h0 : min (max n 0) 2147483647 < 128) (w : World) (hl : aB0 w) : CwR 29 #[.int .i64 n] w (St' ([u8 ((min (max n 0) 2147483647) % 256)])) := by
  have ho : ∀ k r, (k, r) ∈ cJ7 → HOk (cx (nuL (cD6 n)) (fun j _ => aA9 (l := cD6 n) rfl j) 0 aB0 aA1) k r := by
    unfold cJ7
    exact hc (kMax (isX rfl) (isZ (m := 0) rfl) (denX rfl) rfl) <|hc (kMin (isX rfl) (isZ (m := 2147483647) rfl) (denX rfl) rfl) <|hc (ltcT rfl (by omega)) <|hc (bY0 (isX rfl) tu5 (denX rfl) rfl) <|hc (bA7 (bs := [u8 ((min (max n 0) 2147483647) % 256)]) (.cons (isB8 (isX rfl) (by omega) (by omega)) .nil) (denX rfl)) <|hnil
  refine runC (tb := (tbl cJ7)) (ra := .x 4) rfl ((aD2 (nuL (cD6 n)) (fun j _ => aA9 (l := cD6 n) rfl j)).hyps ho) rfl dG6.1 dG6.2 (runLen_0 ) (args := [.int .i64 n]) (by simp only [RelL, Rel]; exact ⟨_, _, rfl, rfl, rfl⟩) w hl fun x hx => ?_
  simp only [Rel, RelL] at hx
  exact hx
def cJ6 : LK := [(.mm true (.x 0) (I6 0), .x 1), (.mm false (.x 1) (I6 2147483647), .x 2), (.bin .lss (.x 2) (I6 128), .b false), (.bin .shr (.x 2) (.i .u64 (.ofNat 24)), I6 0), (.bin .shr (.x 2) (.i .u64 (.ofNat 16)), I6 0), (.bin .shr (.x 2) (.i .u64 (.ofNat 8)), .x 3), (.conv 5 (.x 3), .x 4), (.conv 5 (.x 2), .x 5), (.bytes [.i .u8 (.ofNat 128), .i .u8 (.ofNat 0), .x 4, .x 5], .x 6)]
theorem runLen_1 : okA (call (tbl cJ6) 9000 29 [.x 0] ⟨H0 , 1, 0, 0⟩) (.x 6) = true := by kernel_rfl
def cD4 (n : Int) : List Value := [.int .i64 (n), .int .i64 (max n 0), .int .i64 (min (max n 0) 2147483647), .int .i64 ((min (max n 0) 2147483647) / 256), .int .u8 (((min (max n 0) 2147483647) / 256)), .int .u8 ((min (max n 0) 2147483647) % 256), St' ([u8 128, u8 0, u8 (((min (max n 0) 2147483647) / 256)), u8 ((min (max n 0) 2147483647) % 256)])]
theorem pathLen_1 (n : Int) (b0 : 0 ≤ n) (b1 : n ≤ 600) (h0 : ¬ (min (max n 0) 2147483647 < 128)) (w : World) (hl : aB0 w) : CwR 29 #[.int .i64 n] w (St' ([u8 128, u8 0, u8 (((min (max n 0) 2147483647) / 256)), u8 ((min (max n 0) 2147483647) % 256)])) := by
  have ho : ∀ k r, (k, r) ∈ cJ6 → HOk (cx (nuL (cD4 n)) (fun j _ => aA9 (l := cD4 n) rfl j) 0 aB0 aA1) k r := by
    unfold cJ6
    exact hc (kMax (isX rfl) (isZ (m := 0) rfl) (denX rfl) rfl) <|hc (kMin (isX rfl) (isZ (m := 2147483647) rfl) (denX rfl) rfl) <|hc (ltcF rfl (by omega)) <|hc (kShrM 24 16777216 rfl (isX rfl) (isZ (m := 24) rfl) (denZ (m := 0) rfl) (by omega) (by decide) (by omega) (by omega)) <|hc (kShrM 16 65536 rfl (isX rfl) (isZ (m := 16) rfl) (denZ (m := 0) rfl) (by omega) (by decide) (by omega) (by omega)) <|hc (kShrM 8 256 rfl (isX rfl) (isZ (m := 8) rfl) (denX rfl) rfl (by decide) (by omega) rfl) <|hc (kConvF (isX rfl) tu5 (denX rfl) (fU8 (by omega) (by omega))) <|hc (bY0 (isX rfl) tu5 (denX rfl) rfl) <|hc (bA7 (bs := [u8 128, u8 0, u8 (((min (max n 0) 2147483647) / 256)), u8 ((min (max n 0) 2147483647) % 256)]) (.cons (isB8 (isZ (m := 128) rfl) (by omega) (by omega)) (.cons (isB8 (isZ (m := 0) rfl) (by omega) (by omega)) (.cons (isB8 (isX rfl) (by omega) (by omega)) (.cons (isB8 (isX rfl) (by omega) (by omega)) .nil)))) (denX rfl)) <|hnil
  refine runC (tb := (tbl cJ6)) (ra := .x 6) rfl ((aD2 (nuL (cD4 n)) (fun j _ => aA9 (l := cD4 n) rfl j)).hyps ho) rfl dG6.1 dG6.2 (runLen_1 ) (args := [.int .i64 n]) (by simp only [RelL, Rel]; exact ⟨_, _, rfl, rfl, rfl⟩) w hl fun x hx => ?_
  simp only [Rel, RelL] at hx
  exact hx
theorem callsLen (n : Int) (b0 : 0 ≤ n) (b1 : n ≤ 600) (w : World) (hl : aB0 w) : CwR 29 #[.int .i64 n] w (St' (lnB n)) := by
  by_cases h0 : min (max n 0) 2147483647 < 128
  · rw [show (St' (lnB n) : Value) = (St' ([u8 ((min (max n 0) 2147483647) % 256)]) : Value) from by exact congrArg (fun l => St' l) (by unfold lnB; have hm : min (max n 0) 2147483647 = n := (by omega); have hm' : max 0 (min n 2147483647) = n := (by omega); first | (rw [if_pos (by omega)]; simp only [hm, hm', show n % 256 = n by omega]; done) | (rw [if_neg (by omega)]; simp only [hm, hm']; done))]
    exact pathLen_0 n b0 b1 h0 w hl
  · rw [show (St' (lnB n) : Value) = (St' ([u8 128, u8 0, u8 (((min (max n 0) 2147483647) / 256)), u8 ((min (max n 0) 2147483647) % 256)]) : Value) from by exact congrArg (fun l => St' l) (by unfold lnB; have hm : min (max n 0) 2147483647 = n := (by omega); have hm' : max 0 (min n 2147483647) = n := (by omega); first | (rw [if_pos (by omega)]; simp only [hm, hm', show n % 256 = n by omega]; done) | (rw [if_neg (by omega)]; simp only [hm, hm']; done))]
    exact pathLen_1 n b0 b1 h0 w hl
theorem dG0 {x0 r : AV} {n : Int} (i0 : Is (cx nu one 0 aB0 aA1) x0 (.int .i64 n)) (hr : Den (cx nu one 0 aB0 aA1) r (St' (lnB n))) (b0 : 0 ≤ n) (b1 : n ≤ 600) : HOk (cx nu one 0 aB0 aA1) (.call 29 [x0]) r := by
  intro ρ args ha w hl _
  simp only [RelL] at ha
  obtain ⟨v0, t0, rfl, a0, rfl⟩ := ha
  have e0 := i0 ρ _ a0; subst e0
  exact (callsLen n b0 b1 w hl).mono fun e w' he => ⟨_, he.1, hr ρ, he.2⟩
theorem fiNPad : tabk.fn.get 32 = some (fI Try.f32 0) ∧ (fI Try.f32 0).body.isSome = true := ⟨rfl, by kernel_rfl⟩
def cI5 : LK := [(.mm true (.x 0) (I6 0), .x 1), (.un .neg (.x 1), .x 2), (.bin .and (.x 2) (I6 7), .x 3)]
theorem runPad_0 : okA (call (tbl cI5) 9000 32 [.x 0] ⟨H0 , 1, 0, 0⟩) (.x 3) = true := by kernel_rfl
def cD3 (n : Int) : List Value := [.int .i64 (n), .int .i64 (max n 0), .int .i64 (-((max n 0))), .int .i64 ((-((max n 0))) % 8)]
theorem pathPad_0 (n : Int) (b0 : 0 ≤ n) (b1 : n ≤ 512) (w : World) (hl : aB0 w) : CwR 32 #[.int .i64 n] w (.int .i64 ((-((max n 0))) % 8)) := by
  have ho : ∀ k r, (k, r) ∈ cI5 → HOk (cx (nuL (cD3 n)) (fun j _ => aA9 (l := cD3 n) rfl j) 0 aB0 aA1) k r := by
    unfold cI5
    exact hc (kMax (isX rfl) (isZ (m := 0) rfl) (denX rfl) rfl) <|hc (kNeg (isX rfl) (denX rfl) (by omega) (fI64 (by omega) (by omega))) <|hc (kAndG 3 8 rfl (by decide) (isX rfl) (isZ (m := 7) rfl) (denX rfl) (fI64 (by omega) (by omega)) rfl rfl (fI64 (by omega) (by omega))) <|hnil
  refine runC (tb := (tbl cI5)) (ra := .x 3) rfl ((aD2 (nuL (cD3 n)) (fun j _ => aA9 (l := cD3 n) rfl j)).hyps ho) rfl fiNPad.1 fiNPad.2 (runPad_0 ) (args := [.int .i64 n]) (by simp only [RelL, Rel]; exact ⟨_, _, rfl, rfl, rfl⟩) w hl fun x hx => ?_
  simp only [Rel, RelL] at hx
  exact hx
theorem callsPad (n : Int) (b0 : 0 ≤ n) (b1 : n ≤ 512) (w : World) (hl : aB0 w) : CwR 32 #[.int .i64 n] w (.int .i64 (pdI n)) := by
  rw [show (.int .i64 (pdI n) : Value) = (.int .i64 ((-((max n 0))) % 8) : Value) from by exact congrArg (Value.int IntKind.i64) (by unfold pdI; omega)]
  exact pathPad_0 n b0 b1 w hl
theorem hokPad {x0 r : AV} {n : Int} (i0 : Is (cx nu one 0 aB0 aA1) x0 (.int .i64 n)) (hr : Den (cx nu one 0 aB0 aA1) r (.int .i64 (pdI n))) (b0 : 0 ≤ n) (b1 : n ≤ 512) : HOk (cx nu one 0 aB0 aA1) (.call 32 [x0]) r := by
  intro ρ args ha w hl _
  simp only [RelL] at ha
  obtain ⟨v0, t0, rfl, a0, rfl⟩ := ha
  have e0 := i0 ρ _ a0; subst e0
  exact (callsPad n b0 b1 w hl).mono fun e w' he => ⟨_, he.1, hr ρ, he.2⟩
theorem bL3 (n : Int) : 1 ≤ (lnB n).length ∧ (lnB n).length ≤ 4 := by rw [cW9]; split <;> omega
theorem bI0 {C : Cx} {x y z w : AV} {u v a b : Value} (hx : Is C x u) (hy : Is C y v) (hz : Is C z a) (hw : Is C w b) : Is C (.ag [x, y, z, w]) (.agg #[u, v, a, b]) := fun ρ q h => by
  simp only [Rel, RelL] at h
  obtain ⟨l, rfl, c0, t0, rfl, h0, c1, t1, rfl, h1, c2, t2, rfl, h2, c3, t3, rfl, h3, rfl⟩ := h
  rw [hx ρ _ h0, hy ρ _ h1, hz ρ _ h2, hw ρ _ h3]
theorem tupV {a b : Int} {x y : Value} (h : a = b) : (.tuple #[.int .i64 a, x, y] : Value) = .tuple #[.int .i64 b, x, y] := by rw [h]
theorem denLn {C : Cx} {s : LB} {a b c : AV} {v : Value} (h : ¬ lkL s) (d : Den C (.tu [a, b, c]) v) {w : Value} : Den C (.tu [a, b, c]) (if lkL s then w else v) := by rw [if_neg h]; exact d
theorem rd_rec {s rest : LB} {o To : List PP} (h : pkW s) (hr : rest = prs s) (h1 : o ++ (prS s).1 = To) (h2 : (prS s).2 = 0) : (o ++ [((pv s).1, (pv s).2)]) ++ (prS rest).1 = To ∧ (prS rest).2 = 0 := by
  subst hr
  have e := bV2 h
  rw [e] at h1 h2
  exact ⟨by rw [List.append_assoc]; exact h1, h2⟩
theorem dK3 {s : LB} {o To : List PP} (h : s.length = 0) (h1 : o ++ (prS s).1 = To) : o = To := by
  have e := bV3 h
  rw [e] at h1
  rw [List.append_nil] at h1; exact h1
theorem bU9 {z : List PP} (h : ok6 z) : ([] : List PP) ++ (prS (pS z)).1 = z ∧ (prS (pS z)).2 = 0 := by rw [pr_pS z h]; exact ⟨rfl, rfl⟩
theorem bH0 : tabk.fn.get 25 = some (fI Try.f25 0) ∧ (fI Try.f25 0).body.isSome = true := ⟨rfl, by kernel_rfl⟩
def cF9 : LK := [(.len (.x 0), .x 1), (.bin .lss (.x 1) (I6 1), .b true)]
theorem runRlg_0 : okA (call (tbl cF9) 9000 25 [.x 0] ⟨H0 , 1, 0, 0⟩) (.tu [I6 0, .x 0, .b false]) = true := by kernel_rfl
def cA9 (s : LB) : List Value := [St' s, .int .i64 ((s.length : Int))]
theorem pathRlg_0 (s : LB) (b0 : s.length ≤ 9223372036854775807) (h0 : (s.length : Int) < 1) (w : World) (hl : aB0 w) : CwR 25 #[St' s] w (.tuple #[.int .i64 0, St' s, .bool false]) := by
  have ho : ∀ k r, (k, r) ∈ cF9 → HOk (cx (nuL (cA9 s)) (fun j _ => aA9 (l := cA9 s) rfl j) 0 aB0 aA1) k r := by
    unfold cF9
    exact hc (lnV rfl rfl (by omega)) <|hc (ltcT rfl (by omega)) <|hnil
  refine runC (tb := (tbl cF9)) (ra := .tu [I6 0, .x 0, .b false]) rfl ((aD2 (nuL (cA9 s)) (fun j _ => aA9 (l := cA9 s) rfl j)).hyps ho) rfl bH0.1 bH0.2 (runRlg_0 ) (args := [St' s]) (by simp only [RelL, Rel]; exact ⟨_, _, rfl, rfl, rfl⟩) w hl fun x hx => ?_
  simp only [Rel, RelL] at hx
  obtain ⟨_, rfl, ⟨_, _, rfl, rfl, ⟨_, _, rfl, rfl, ⟨_, _, rfl, rfl, rfl⟩⟩⟩⟩ := hx
  rfl
def cF8 : LK := [(.len (.x 0), .x 1), (.bin .lss (.x 1) (I6 1), .b false), (.idx (.x 0) (I6 0), .x 2), (.bin .geq (.x 2) (.i .u8 (.ofNat 128)), .b false), (.bin .lss (.x 2) (.i .u8 (.ofNat 128)), .b true), (.conv 3 (.x 2), .x 3), (.sub (.x 0) (some (I6 1)) none, .x 4)]
theorem runRlg_1 : okA (call (tbl cF8) 9000 25 [.x 0] ⟨H0 , 1, 0, 0⟩) (.tu [.x 3, .x 4, .b true]) = true := by kernel_rfl
def cA8 (s : LB) : List Value := [St' s, .int .i64 ((s.length : Int)), .int .u8 (bt s 0), .int .i64 ((bt s 0)), St' (rsL s)]
theorem pathRlg_1 (s : LB) (b0 : s.length ≤ 9223372036854775807) (h0 : ¬ ((s.length : Int) < 1)) (h1 : ¬ (128 ≤ bt s 0)) (w : World) (hl : aB0 w) : CwR 25 #[St' s] w (.tuple #[.int .i64 ((bt s 0)), St' (rsL s), .bool true]) := by
  have := bI9 s 0; have := aX1 s 0
  have hr : rsL s = s.drop (Int.toNat 1) := by unfold rsL hL; rw [if_pos (by omega)]; rfl
  have ho : ∀ k r, (k, r) ∈ cF8 → HOk (cx (nuL (cA8 s)) (fun j _ => aA9 (l := cA8 s) rfl j) 0 aB0 aA1) k r := by
    unfold cF8
    exact hc (lnV rfl rfl (by omega)) <|hc (ltcF rfl (by omega)) <|hc (ixC rfl rfl (by omega)) <|hc (gecF rfl (by omega)) <|hc (ltcT rfl (by omega)) <|hc (kConvF (isX rfl) tu3 (denX rfl) (fI64 (by omega) (by omega))) <|hc (kMid (P := 1) (Q := (s.length : Int)) (isX rfl) (.inr ⟨_, _, rfl, (isZ (m := 1) rfl)⟩) (.inl ⟨rfl, rfl⟩) (by omega) (by omega) (by omega) (denX (congrArg (fun l => St' l) (hr.trans dropE)))) <|hnil
  refine runC (tb := (tbl cF8)) (ra := .tu [.x 3, .x 4, .b true]) rfl ((aD2 (nuL (cA8 s)) (fun j _ => aA9 (l := cA8 s) rfl j)).hyps ho) rfl bH0.1 bH0.2 (runRlg_1 ) (args := [St' s]) (by simp only [RelL, Rel]; exact ⟨_, _, rfl, rfl, rfl⟩) w hl fun x hx => ?_
  simp only [Rel, RelL] at hx
  obtain ⟨_, rfl, ⟨_, _, rfl, rfl, ⟨_, _, rfl, rfl, ⟨_, _, rfl, rfl, rfl⟩⟩⟩⟩ := hx
  rfl
def cF5 : LK := [(.len (.x 0), .x 1), (.bin .lss (.x 1) (I6 1), .b false), (.idx (.x 0) (I6 0), .x 2), (.bin .geq (.x 2) (.i .u8 (.ofNat 128)), .b true), (.bin .lss (.x 1) (I6 4), .b true)]
theorem runRlg_2 : okA (call (tbl cF5) 9000 25 [.x 0] ⟨H0 , 1, 0, 0⟩) (.tu [I6 0, .x 0, .b false]) = true := by kernel_rfl
def cA7 (s : LB) : List Value := [St' s, .int .i64 ((s.length : Int)), .int .u8 (bt s 0)]
theorem pathRlg_2 (s : LB) (b0 : s.length ≤ 9223372036854775807) (h0 : ¬ ((s.length : Int) < 1)) (h1 : 128 ≤ bt s 0) (h2 : (s.length : Int) < 4) (w : World) (hl : aB0 w) : CwR 25 #[St' s] w (.tuple #[.int .i64 0, St' s, .bool false]) := by
  have := bI9 s 0; have := aX1 s 0
  have ho : ∀ k r, (k, r) ∈ cF5 → HOk (cx (nuL (cA7 s)) (fun j _ => aA9 (l := cA7 s) rfl j) 0 aB0 aA1) k r := by
    unfold cF5
    exact hc (lnV rfl rfl (by omega)) <|hc (ltcF rfl (by omega)) <|hc (ixC rfl rfl (by omega)) <|hc (gecT rfl (by omega)) <|hc (ltcT rfl (by omega)) <|hnil
  refine runC (tb := (tbl cF5)) (ra := .tu [I6 0, .x 0, .b false]) rfl ((aD2 (nuL (cA7 s)) (fun j _ => aA9 (l := cA7 s) rfl j)).hyps ho) rfl bH0.1 bH0.2 (runRlg_2 ) (args := [St' s]) (by simp only [RelL, Rel]; exact ⟨_, _, rfl, rfl, rfl⟩) w hl fun x hx => ?_
  simp only [Rel, RelL] at hx
  obtain ⟨_, rfl, ⟨_, _, rfl, rfl, ⟨_, _, rfl, rfl, ⟨_, _, rfl, rfl, rfl⟩⟩⟩⟩ := hx
  rfl
def cF3 : LK := [(.len (.x 0), .x 1), (.bin .lss (.x 1) (I6 1), .b false), (.idx (.x 0) (I6 0), .x 2), (.bin .geq (.x 2) (.i .u8 (.ofNat 128)), .b true), (.bin .lss (.x 1) (I6 4), .b false), (.bin .lss (.x 2) (.i .u8 (.ofNat 128)), .b false), (.bin .sub (.x 2) (.i .u8 (.ofNat 128)), .x 3), (.conv 3 (.x 3), .x 4), (.bin .shl (.x 4) (.i .u64 (.ofNat 24)), .x 5), (.idx (.x 0) (I6 1), .x 6), (.conv 3 (.x 6), .x 7), (.bin .shl (.x 7) (.i .u64 (.ofNat 16)), .x 8), (.bin .or (.x 5) (.x 8), .x 9), (.idx (.x 0) (I6 2), .x 10), (.conv 3 (.x 10), .x 11), (.bin .shl (.x 11) (.i .u64 (.ofNat 8)), .x 12), (.bin .or (.x 9) (.x 12), .x 13), (.idx (.x 0) (I6 3), .x 14), (.conv 3 (.x 14), .x 15), (.bin .or (.x 13) (.x 15), .x 16), (.sub (.x 0) (some (I6 4)) none, .x 17)]
theorem runRlg_3 : okA (call (tbl cF3) 9000 25 [.x 0] ⟨H0 , 1, 0, 0⟩) (.tu [.x 16, .x 17, .b true]) = true := by kernel_rfl
def cA6 (s : LB) : List Value := [St' s, .int .i64 ((s.length : Int)), .int .u8 (bt s 0), .int .u8 ((bt s 0) - 128), .int .i64 ((bt s 0) - 128), .int .i64 ((bt s 0) * 16777216 - 2147483648), .int .u8 (bt s 1), .int .i64 ((bt s 1)), .int .i64 ((bt s 1) * 65536), .int .i64 ((bt s 0) * 16777216 + (bt s 1) * 65536 - 2147483648), .int .u8 (bt s 2), .int .i64 ((bt s 2)), .int .i64 ((bt s 2) * 256), .int .i64 ((bt s 0) * 16777216 + (bt s 1) * 65536 + (bt s 2) * 256 - 2147483648), .int .u8 (bt s 3), .int .i64 ((bt s 3)), .int .i64 ((bt s 0) * 16777216 + (bt s 1) * 65536 + (bt s 2) * 256 + (bt s 3) - 2147483648), St' (rsL s)]
theorem pathRlg_3 (s : LB) (b0 : s.length ≤ 9223372036854775807) (h0 : ¬ ((s.length : Int) < 1)) (h1 : 128 ≤ bt s 0) (h2 : ¬ ((s.length : Int) < 4)) (w : World) (hl : aB0 w) : CwR 25 #[St' s] w (.tuple #[.int .i64 ((bt s 0) * 16777216 + (bt s 1) * 65536 + (bt s 2) * 256 + (bt s 3) - 2147483648), St' (rsL s), .bool true]) := by
  have := bI9 s 0; have := aX1 s 0
  have := bI9 s 1; have := aX1 s 1
  have := bI9 s 2; have := aX1 s 2
  have := bI9 s 3; have := aX1 s 3
  have hr : rsL s = s.drop (Int.toNat 4) := by unfold rsL hL; rw [if_neg (by omega)]; rfl
  have ho : ∀ k r, (k, r) ∈ cF3 → HOk (cx (nuL (cA6 s)) (fun j _ => aA9 (l := cA6 s) rfl j) 0 aB0 aA1) k r := by
    unfold cF3
    exact hc (lnV rfl rfl (by omega)) <|hc (ltcF rfl (by omega)) <|hc (ixC rfl rfl (by omega)) <|hc (gecT rfl (by omega)) <|hc (ltcF rfl (by omega)) <|hc (ltcF rfl (by omega)) <|hc (kSub (isX rfl) (isZ (m := 128) rfl) (denX rfl) (by omega) (fU8 (by omega) (by omega))) <|hc (kConvF (isX rfl) tu3 (denX rfl) (fI64 (by omega) (by omega))) <|hc (kShlM 24 16777216 rfl (isX rfl) (isZ (m := 24) rfl) (denX rfl) rfl (by decide) (by omega) (fI64 (by omega) (by omega))) <|hc (ixC rfl rfl (by omega)) <|hc (kConvF (isX rfl) tu3 (denX rfl) (fI64 (by omega) (by omega))) <|hc (kShlM 16 65536 rfl (isX rfl) (isZ (m := 16) rfl) (denX rfl) rfl (by decide) (by omega) (fI64 (by omega) (by omega))) <|hc (kOrM 24 16777216 rfl (isX rfl) (isX rfl) (denX rfl) (by omega) (by omega) (fI64 (by omega) (by omega)) (fI64 (by omega) (by omega)) (by omega) (by omega) (by omega) (fI64 (by omega) (by omega))) <|hc (ixC rfl rfl (by omega)) <|hc (kConvF (isX rfl) tu3 (denX rfl) (fI64 (by omega) (by omega))) <|hc (kShlM 8 256 rfl (isX rfl) (isZ (m := 8) rfl) (denX rfl) rfl (by decide) (by omega) (fI64 (by omega) (by omega))) <|hc (kOrM 16 65536 rfl (isX rfl) (isX rfl) (denX rfl) (by omega) (by omega) (fI64 (by omega) (by omega)) (fI64 (by omega) (by omega)) (by omega) (by omega) (by omega) (fI64 (by omega) (by omega))) <|hc (ixC rfl rfl (by omega)) <|hc (kConvF (isX rfl) tu3 (denX rfl) (fI64 (by omega) (by omega))) <|hc (kOrM 8 256 rfl (isX rfl) (isX rfl) (denX rfl) (by omega) (by omega) (fI64 (by omega) (by omega)) (fI64 (by omega) (by omega)) (by omega) (by omega) (by omega) (fI64 (by omega) (by omega))) <|hc (kMid (P := 4) (Q := (s.length : Int)) (isX rfl) (.inr ⟨_, _, rfl, (isZ (m := 4) rfl)⟩) (.inl ⟨rfl, rfl⟩) (by omega) (by omega) (by omega) (denX (congrArg (fun l => St' l) (hr.trans dropE)))) <|hnil
  refine runC (tb := (tbl cF3)) (ra := .tu [.x 16, .x 17, .b true]) rfl ((aD2 (nuL (cA6 s)) (fun j _ => aA9 (l := cA6 s) rfl j)).hyps ho) rfl bH0.1 bH0.2 (runRlg_3 ) (args := [St' s]) (by simp only [RelL, Rel]; exact ⟨_, _, rfl, rfl, rfl⟩) w hl fun x hx => ?_
  simp only [Rel, RelL] at hx
  obtain ⟨_, rfl, ⟨_, _, rfl, rfl, ⟨_, _, rfl, rfl, ⟨_, _, rfl, rfl, rfl⟩⟩⟩⟩ := hx
  rfl
theorem callsRlg (s : LB) (b0 : s.length ≤ 9223372036854775807) (w : World) (hl : aB0 w) : CwR 25 #[St' s] w ((if lkL s then .tuple #[.int .i64 0, St' s, .bool false] else .tuple #[.int .i64 (vL s), St' (rsL s), .bool true])) := by
  by_cases h0 : (s.length : Int) < 1
  · rw [show ((if lkL s then .tuple #[.int .i64 0, St' s, .bool false] else .tuple #[.int .i64 (vL s), St' (rsL s), .bool true]) : Value) = (.tuple #[.int .i64 0, St' s, .bool false] : Value) from by have hb0 := aX1 s 0; first | exact if_pos (.inl (by omega)) | exact if_pos (.inr ⟨by omega, by omega⟩) | (rw [if_neg (by unfold lkL; omega)]; refine tupV ?_; unfold vL; first | (rw [if_pos (by omega)]; done) | (rw [if_neg (by omega)]; done) | (rw [if_neg (by omega)]; omega))]
    exact pathRlg_0 s b0 h0 w hl
  · by_cases h1 : 128 ≤ bt s 0
    · by_cases h2 : (s.length : Int) < 4
      · rw [show ((if lkL s then .tuple #[.int .i64 0, St' s, .bool false] else .tuple #[.int .i64 (vL s), St' (rsL s), .bool true]) : Value) = (.tuple #[.int .i64 0, St' s, .bool false] : Value) from by have hb0 := aX1 s 0; first | exact if_pos (.inl (by omega)) | exact if_pos (.inr ⟨by omega, by omega⟩) | (rw [if_neg (by unfold lkL; omega)]; refine tupV ?_; unfold vL; first | (rw [if_pos (by omega)]; done) | (rw [if_neg (by omega)]; done) | (rw [if_neg (by omega)]; omega))]
        exact pathRlg_2 s b0 h0 h1 h2 w hl
      · rw [show ((if lkL s then .tuple #[.int .i64 0, St' s, .bool false] else .tuple #[.int .i64 (vL s), St' (rsL s), .bool true]) : Value) = (.tuple #[.int .i64 ((bt s 0) * 16777216 + (bt s 1) * 65536 + (bt s 2) * 256 + (bt s 3) - 2147483648), St' (rsL s), .bool true] : Value) from by have hb0 := aX1 s 0; first | exact if_pos (.inl (by omega)) | exact if_pos (.inr ⟨by omega, by omega⟩) | (rw [if_neg (by unfold lkL; omega)]; refine tupV ?_; unfold vL; first | (rw [if_pos (by omega)]; done) | (rw [if_neg (by omega)]; done) | (rw [if_neg (by omega)]; omega))]
        exact pathRlg_3 s b0 h0 h1 h2 w hl
    · rw [show ((if lkL s then .tuple #[.int .i64 0, St' s, .bool false] else .tuple #[.int .i64 (vL s), St' (rsL s), .bool true]) : Value) = (.tuple #[.int .i64 ((bt s 0)), St' (rsL s), .bool true] : Value) from by have hb0 := aX1 s 0; first | exact if_pos (.inl (by omega)) | exact if_pos (.inr ⟨by omega, by omega⟩) | (rw [if_neg (by unfold lkL; omega)]; refine tupV ?_; unfold vL; first | (rw [if_pos (by omega)]; done) | (rw [if_neg (by omega)]; done) | (rw [if_neg (by omega)]; omega))]
      exact pathRlg_1 s b0 h0 h1 w hl
theorem dF9 {x0 r : AV} {s : LB} (i0 : Is (cx nu one 0 aB0 aA1) x0 (St' s)) (hr : Den (cx nu one 0 aB0 aA1) r ((if lkL s then .tuple #[.int .i64 0, St' s, .bool false] else .tuple #[.int .i64 (vL s), St' (rsL s), .bool true]))) (b0 : s.length ≤ 9223372036854775807) : HOk (cx nu one 0 aB0 aA1) (.call 25 [x0]) r := by
  intro ρ args ha w hl _
  simp only [RelL] at ha
  obtain ⟨v0, t0, rfl, a0, rfl⟩ := ha
  have e0 := i0 ρ _ a0; subst e0
  exact (callsRlg s b0 w hl).mono fun e w' he => ⟨_, he.1, hr ρ, he.2⟩
theorem aL1 : tabk.fn.get 13 = some (fI Try.f13 0) ∧ (fI Try.f13 0).body.isSome = true := ⟨rfl, by kernel_rfl⟩
def cI0 : LK := [(.bin .geq (.x 0) (I6 1), .b true), (.bin .leq (.x 0) (I6 255), .b true), (.bin .geq (.x 1) (I6 0), .b true), (.bin .leq (.x 1) (I6 65535), .b true), (.len (.x 2), .x 4), (.bin .leq (.x 4) (I6 65535), .b true), (.bin .geq (.x 3) (I6 0), .b true), (.bin .leq (.x 3) (I6 255), .b true)]
theorem runRIs_0 : okA (call (tbl cI0) 9000 13 [.ag [.x 0, .x 1, .x 2, .x 3]] ⟨H0 , 1, 0, 0⟩) (.b true) = true := by kernel_rfl
def cD0 (T D : Int) (C : LB) (Q : Int) : List Value := [.int .i64 (T), .int .i64 (D), St' C, .int .i64 (Q), .int .i64 ((C.length : Int))]
theorem pathRIs_0 (T D : Int) (C : LB) (Q : Int) (b0 : -9223372036854775808 ≤ T) (b1 : T ≤ 9223372036854775807) (b2 : -9223372036854775808 ≤ D) (b3 : D ≤ 9223372036854775807) (b4 : C.length ≤ 9223372036854775807) (b5 : -9223372036854775808 ≤ Q) (b6 : Q ≤ 9223372036854775807) (h0 : 1 ≤ T) (h1 : T ≤ 255) (h2 : 0 ≤ D) (h3 : D ≤ 65535) (h4 : (C.length : Int) ≤ 65535) (h5 : 0 ≤ Q) (h6 : Q ≤ 255) (w : World) (hl : aB0 w) : CwR 13 #[.agg #[.int .i64 T, .int .i64 D, St' C, .int .i64 Q]] w (.bool true) := by
  have ho : ∀ k r, (k, r) ∈ cI0 → HOk (cx (nuL (cD0 T D C Q)) (fun j _ => aA9 (l := cD0 T D C Q) rfl j) 0 aB0 aA1) k r := by
    unfold cI0
    exact hc (gecT rfl (by omega)) <|hc (lecT rfl (by omega)) <|hc (gecT rfl (by omega)) <|hc (lecT rfl (by omega)) <|hc (lnV rfl rfl (by omega)) <|hc (lecT rfl (by omega)) <|hc (gecT rfl (by omega)) <|hc (lecT rfl (by omega)) <|hnil
  refine runC (tb := (tbl cI0)) (ra := .b true) rfl ((aD2 (nuL (cD0 T D C Q)) (fun j _ => aA9 (l := cD0 T D C Q) rfl j)).hyps ho) rfl aL1.1 aL1.2 (runRIs_0 ) (args := [.agg #[.int .i64 T, .int .i64 D, St' C, .int .i64 Q]]) (by simp only [RelL, Rel]; exact ⟨_, _, rfl, ⟨_, rfl, ⟨_, _, rfl, rfl, ⟨_, _, rfl, rfl, ⟨_, _, rfl, rfl, ⟨_, _, rfl, rfl, rfl⟩⟩⟩⟩⟩, rfl⟩) w hl fun x hx => ?_
  simp only [Rel, RelL] at hx
  exact hx
def cH4 : LK := [(.bin .geq (.x 0) (I6 1), .b false)]
theorem runRIs_1 : okA (call (tbl cH4) 9000 13 [.ag [.x 0, .x 1, .x 2, .x 3]] ⟨H0 , 1, 0, 0⟩) (.b false) = true := by kernel_rfl
def cC9 (T D : Int) (C : LB) (Q : Int) : List Value := [.int .i64 (T), .int .i64 (D), St' C, .int .i64 (Q)]
theorem pathRIs_1 (T D : Int) (C : LB) (Q : Int) (b0 : -9223372036854775808 ≤ T) (b1 : T ≤ 9223372036854775807) (b2 : -9223372036854775808 ≤ D) (b3 : D ≤ 9223372036854775807) (b4 : C.length ≤ 9223372036854775807) (b5 : -9223372036854775808 ≤ Q) (b6 : Q ≤ 9223372036854775807) (h0 : ¬ (1 ≤ T)) (w : World) (hl : aB0 w) : CwR 13 #[.agg #[.int .i64 T, .int .i64 D, St' C, .int .i64 Q]] w (.bool false) := by
  have ho : ∀ k r, (k, r) ∈ cH4 → HOk (cx (nuL (cC9 T D C Q)) (fun j _ => aA9 (l := cC9 T D C Q) rfl j) 0 aB0 aA1) k r := by
    unfold cH4
    exact hc (gecF rfl (by omega)) <|hnil
  refine runC (tb := (tbl cH4)) (ra := .b false) rfl ((aD2 (nuL (cC9 T D C Q)) (fun j _ => aA9 (l := cC9 T D C Q) rfl j)).hyps ho) rfl aL1.1 aL1.2 (runRIs_1 ) (args := [.agg #[.int .i64 T, .int .i64 D, St' C, .int .i64 Q]]) (by simp only [RelL, Rel]; exact ⟨_, _, rfl, ⟨_, rfl, ⟨_, _, rfl, rfl, ⟨_, _, rfl, rfl, ⟨_, _, rfl, rfl, ⟨_, _, rfl, rfl, rfl⟩⟩⟩⟩⟩, rfl⟩) w hl fun x hx => ?_
  simp only [Rel, RelL] at hx
  exact hx
def cH0 : LK := [(.bin .geq (.x 0) (I6 1), .b true), (.bin .leq (.x 0) (I6 255), .b false)]
theorem runRIs_2 : okA (call (tbl cH0) 9000 13 [.ag [.x 0, .x 1, .x 2, .x 3]] ⟨H0 , 1, 0, 0⟩) (.b false) = true := by kernel_rfl
def cC8 (T D : Int) (C : LB) (Q : Int) : List Value := [.int .i64 (T), .int .i64 (D), St' C, .int .i64 (Q)]
theorem pathRIs_2 (T D : Int) (C : LB) (Q : Int) (b0 : -9223372036854775808 ≤ T) (b1 : T ≤ 9223372036854775807) (b2 : -9223372036854775808 ≤ D) (b3 : D ≤ 9223372036854775807) (b4 : C.length ≤ 9223372036854775807) (b5 : -9223372036854775808 ≤ Q) (b6 : Q ≤ 9223372036854775807) (h0 : 1 ≤ T) (h1 : ¬ (T ≤ 255)) (w : World) (hl : aB0 w) : CwR 13 #[.agg #[.int .i64 T, .int .i64 D, St' C, .int .i64 Q]] w (.bool false) := by
  have ho : ∀ k r, (k, r) ∈ cH0 → HOk (cx (nuL (cC8 T D C Q)) (fun j _ => aA9 (l := cC8 T D C Q) rfl j) 0 aB0 aA1) k r := by
    unfold cH0
    exact hc (gecT rfl (by omega)) <|hc (lecF rfl (by omega)) <|hnil
  refine runC (tb := (tbl cH0)) (ra := .b false) rfl ((aD2 (nuL (cC8 T D C Q)) (fun j _ => aA9 (l := cC8 T D C Q) rfl j)).hyps ho) rfl aL1.1 aL1.2 (runRIs_2 ) (args := [.agg #[.int .i64 T, .int .i64 D, St' C, .int .i64 Q]]) (by simp only [RelL, Rel]; exact ⟨_, _, rfl, ⟨_, rfl, ⟨_, _, rfl, rfl, ⟨_, _, rfl, rfl, ⟨_, _, rfl, rfl, ⟨_, _, rfl, rfl, rfl⟩⟩⟩⟩⟩, rfl⟩) w hl fun x hx => ?_
  simp only [Rel, RelL] at hx
  exact hx
def cG9 : LK := [(.bin .geq (.x 0) (I6 1), .b true), (.bin .leq (.x 0) (I6 255), .b true), (.bin .geq (.x 1) (I6 0), .b false)]
theorem runRIs_3 : okA (call (tbl cG9) 9000 13 [.ag [.x 0, .x 1, .x 2, .x 3]] ⟨H0 , 1, 0, 0⟩) (.b false) = true := by kernel_rfl
def cB9 (T D : Int) (C : LB) (Q : Int) : List Value := [.int .i64 (T), .int .i64 (D), St' C, .int .i64 (Q)]
theorem pathRIs_3 (T D : Int) (C : LB) (Q : Int) (b0 : -9223372036854775808 ≤ T) (b1 : T ≤ 9223372036854775807) (b2 : -9223372036854775808 ≤ D) (b3 : D ≤ 9223372036854775807) (b4 : C.length ≤ 9223372036854775807) (b5 : -9223372036854775808 ≤ Q) (b6 : Q ≤ 9223372036854775807) (h0 : 1 ≤ T) (h1 : T ≤ 255) (h2 : ¬ (0 ≤ D)) (w : World) (hl : aB0 w) : CwR 13 #[.agg #[.int .i64 T, .int .i64 D, St' C, .int .i64 Q]] w (.bool false) := by
  have ho : ∀ k r, (k, r) ∈ cG9 → HOk (cx (nuL (cB9 T D C Q)) (fun j _ => aA9 (l := cB9 T D C Q) rfl j) 0 aB0 aA1) k r := by
    unfold cG9
    exact hc (gecT rfl (by omega)) <|hc (lecT rfl (by omega)) <|hc (gecF rfl (by omega)) <|hnil
  refine runC (tb := (tbl cG9)) (ra := .b false) rfl ((aD2 (nuL (cB9 T D C Q)) (fun j _ => aA9 (l := cB9 T D C Q) rfl j)).hyps ho) rfl aL1.1 aL1.2 (runRIs_3 ) (args := [.agg #[.int .i64 T, .int .i64 D, St' C, .int .i64 Q]]) (by simp only [RelL, Rel]; exact ⟨_, _, rfl, ⟨_, rfl, ⟨_, _, rfl, rfl, ⟨_, _, rfl, rfl, ⟨_, _, rfl, rfl, ⟨_, _, rfl, rfl, rfl⟩⟩⟩⟩⟩, rfl⟩) w hl fun x hx => ?_
  simp only [Rel, RelL] at hx
  exact hx
def cG5 : LK := [(.bin .geq (.x 0) (I6 1), .b true), (.bin .leq (.x 0) (I6 255), .b true), (.bin .geq (.x 1) (I6 0), .b true), (.bin .leq (.x 1) (I6 65535), .b false)]
theorem runRIs_4 : okA (call (tbl cG5) 9000 13 [.ag [.x 0, .x 1, .x 2, .x 3]] ⟨H0 , 1, 0, 0⟩) (.b false) = true := by kernel_rfl
def cB8 (T D : Int) (C : LB) (Q : Int) : List Value := [.int .i64 (T), .int .i64 (D), St' C, .int .i64 (Q)]
theorem pathRIs_4 (T D : Int) (C : LB) (Q : Int) (b0 : -9223372036854775808 ≤ T) (b1 : T ≤ 9223372036854775807) (b2 : -9223372036854775808 ≤ D) (b3 : D ≤ 9223372036854775807) (b4 : C.length ≤ 9223372036854775807) (b5 : -9223372036854775808 ≤ Q) (b6 : Q ≤ 9223372036854775807) (h0 : 1 ≤ T) (h1 : T ≤ 255) (h2 : 0 ≤ D) (h3 : ¬ (D ≤ 65535)) (w : World) (hl : aB0 w) : CwR 13 #[.agg #[.int .i64 T, .int .i64 D, St' C, .int .i64 Q]] w (.bool false) := by
  have ho : ∀ k r, (k, r) ∈ cG5 → HOk (cx (nuL (cB8 T D C Q)) (fun j _ => aA9 (l := cB8 T D C Q) rfl j) 0 aB0 aA1) k r := by
    unfold cG5
    exact hc (gecT rfl (by omega)) <|hc (lecT rfl (by omega)) <|hc (gecT rfl (by omega)) <|hc (lecF rfl (by omega)) <|hnil
  refine runC (tb := (tbl cG5)) (ra := .b false) rfl ((aD2 (nuL (cB8 T D C Q)) (fun j _ => aA9 (l := cB8 T D C Q) rfl j)).hyps ho) rfl aL1.1 aL1.2 (runRIs_4 ) (args := [.agg #[.int .i64 T, .int .i64 D, St' C, .int .i64 Q]]) (by simp only [RelL, Rel]; exact ⟨_, _, rfl, ⟨_, rfl, ⟨_, _, rfl, rfl, ⟨_, _, rfl, rfl, ⟨_, _, rfl, rfl, ⟨_, _, rfl, rfl, rfl⟩⟩⟩⟩⟩, rfl⟩) w hl fun x hx => ?_
  simp only [Rel, RelL] at hx
  exact hx
def cG4 : LK := [(.bin .geq (.x 0) (I6 1), .b true), (.bin .leq (.x 0) (I6 255), .b true), (.bin .geq (.x 1) (I6 0), .b true), (.bin .leq (.x 1) (I6 65535), .b true), (.len (.x 2), .x 4), (.bin .leq (.x 4) (I6 65535), .b false)]
theorem runRIs_5 : okA (call (tbl cG4) 9000 13 [.ag [.x 0, .x 1, .x 2, .x 3]] ⟨H0 , 1, 0, 0⟩) (.b false) = true := by kernel_rfl
def cB7 (T D : Int) (C : LB) (Q : Int) : List Value := [.int .i64 (T), .int .i64 (D), St' C, .int .i64 (Q), .int .i64 ((C.length : Int))]
theorem pathRIs_5 (T D : Int) (C : LB) (Q : Int) (b0 : -9223372036854775808 ≤ T) (b1 : T ≤ 9223372036854775807) (b2 : -9223372036854775808 ≤ D) (b3 : D ≤ 9223372036854775807) (b4 : C.length ≤ 9223372036854775807) (b5 : -9223372036854775808 ≤ Q) (b6 : Q ≤ 9223372036854775807) (h0 : 1 ≤ T) (h1 : T ≤ 255) (h2 : 0 ≤ D) (h3 : D ≤ 65535) (h4 : ¬ ((C.length : Int) ≤ 65535)) (w : World) (hl : aB0 w) : CwR 13 #[.agg #[.int .i64 T, .int .i64 D, St' C, .int .i64 Q]] w (.bool false) := by
  have ho : ∀ k r, (k, r) ∈ cG4 → HOk (cx (nuL (cB7 T D C Q)) (fun j _ => aA9 (l := cB7 T D C Q) rfl j) 0 aB0 aA1) k r := by
    unfold cG4
    exact hc (gecT rfl (by omega)) <|hc (lecT rfl (by omega)) <|hc (gecT rfl (by omega)) <|hc (lecT rfl (by omega)) <|hc (lnV rfl rfl (by omega)) <|hc (lecF rfl (by omega)) <|hnil
  refine runC (tb := (tbl cG4)) (ra := .b false) rfl ((aD2 (nuL (cB7 T D C Q)) (fun j _ => aA9 (l := cB7 T D C Q) rfl j)).hyps ho) rfl aL1.1 aL1.2 (runRIs_5 ) (args := [.agg #[.int .i64 T, .int .i64 D, St' C, .int .i64 Q]]) (by simp only [RelL, Rel]; exact ⟨_, _, rfl, ⟨_, rfl, ⟨_, _, rfl, rfl, ⟨_, _, rfl, rfl, ⟨_, _, rfl, rfl, ⟨_, _, rfl, rfl, rfl⟩⟩⟩⟩⟩, rfl⟩) w hl fun x hx => ?_
  simp only [Rel, RelL] at hx
  exact hx
def cG1 : LK := [(.bin .geq (.x 0) (I6 1), .b true), (.bin .leq (.x 0) (I6 255), .b true), (.bin .geq (.x 1) (I6 0), .b true), (.bin .leq (.x 1) (I6 65535), .b true), (.len (.x 2), .x 4), (.bin .leq (.x 4) (I6 65535), .b true), (.bin .geq (.x 3) (I6 0), .b false)]
theorem runRIs_6 : okA (call (tbl cG1) 9000 13 [.ag [.x 0, .x 1, .x 2, .x 3]] ⟨H0 , 1, 0, 0⟩) (.b false) = true := by kernel_rfl
def cB6 (T D : Int) (C : LB) (Q : Int) : List Value := [.int .i64 (T), .int .i64 (D), St' C, .int .i64 (Q), .int .i64 ((C.length : Int))]
theorem pathRIs_6 (T D : Int) (C : LB) (Q : Int) (b0 : -9223372036854775808 ≤ T) (b1 : T ≤ 9223372036854775807) (b2 : -9223372036854775808 ≤ D) (b3 : D ≤ 9223372036854775807) (b4 : C.length ≤ 9223372036854775807) (b5 : -9223372036854775808 ≤ Q) (b6 : Q ≤ 9223372036854775807) (h0 : 1 ≤ T) (h1 : T ≤ 255) (h2 : 0 ≤ D) (h3 : D ≤ 65535) (h4 : (C.length : Int) ≤ 65535) (h5 : ¬ (0 ≤ Q)) (w : World) (hl : aB0 w) : CwR 13 #[.agg #[.int .i64 T, .int .i64 D, St' C, .int .i64 Q]] w (.bool false) := by
  have ho : ∀ k r, (k, r) ∈ cG1 → HOk (cx (nuL (cB6 T D C Q)) (fun j _ => aA9 (l := cB6 T D C Q) rfl j) 0 aB0 aA1) k r := by
    unfold cG1
    exact hc (gecT rfl (by omega)) <|hc (lecT rfl (by omega)) <|hc (gecT rfl (by omega)) <|hc (lecT rfl (by omega)) <|hc (lnV rfl rfl (by omega)) <|hc (lecT rfl (by omega)) <|hc (gecF rfl (by omega)) <|hnil
  refine runC (tb := (tbl cG1)) (ra := .b false) rfl ((aD2 (nuL (cB6 T D C Q)) (fun j _ => aA9 (l := cB6 T D C Q) rfl j)).hyps ho) rfl aL1.1 aL1.2 (runRIs_6 ) (args := [.agg #[.int .i64 T, .int .i64 D, St' C, .int .i64 Q]]) (by simp only [RelL, Rel]; exact ⟨_, _, rfl, ⟨_, rfl, ⟨_, _, rfl, rfl, ⟨_, _, rfl, rfl, ⟨_, _, rfl, rfl, ⟨_, _, rfl, rfl, rfl⟩⟩⟩⟩⟩, rfl⟩) w hl fun x hx => ?_
  simp only [Rel, RelL] at hx
  exact hx
def cG0 : LK := [(.bin .geq (.x 0) (I6 1), .b true), (.bin .leq (.x 0) (I6 255), .b true), (.bin .geq (.x 1) (I6 0), .b true), (.bin .leq (.x 1) (I6 65535), .b true), (.len (.x 2), .x 4), (.bin .leq (.x 4) (I6 65535), .b true), (.bin .geq (.x 3) (I6 0), .b true), (.bin .leq (.x 3) (I6 255), .b false)]
theorem runRIs_7 : okA (call (tbl cG0) 9000 13 [.ag [.x 0, .x 1, .x 2, .x 3]] ⟨H0 , 1, 0, 0⟩) (.b false) = true := by kernel_rfl
def cB4 (T D : Int) (C : LB) (Q : Int) : List Value := [.int .i64 (T), .int .i64 (D), St' C, .int .i64 (Q), .int .i64 ((C.length : Int))]
theorem pathRIs_7 (T D : Int) (C : LB) (Q : Int) (b0 : -9223372036854775808 ≤ T) (b1 : T ≤ 9223372036854775807) (b2 : -9223372036854775808 ≤ D) (b3 : D ≤ 9223372036854775807) (b4 : C.length ≤ 9223372036854775807) (b5 : -9223372036854775808 ≤ Q) (b6 : Q ≤ 9223372036854775807) (h0 : 1 ≤ T) (h1 : T ≤ 255) (h2 : 0 ≤ D) (h3 : D ≤ 65535) (h4 : (C.length : Int) ≤ 65535) (h5 : 0 ≤ Q) (h6 : ¬ (Q ≤ 255)) (w : World) (hl : aB0 w) : CwR 13 #[.agg #[.int .i64 T, .int .i64 D, St' C, .int .i64 Q]] w (.bool false) := by
  have ho : ∀ k r, (k, r) ∈ cG0 → HOk (cx (nuL (cB4 T D C Q)) (fun j _ => aA9 (l := cB4 T D C Q) rfl j) 0 aB0 aA1) k r := by
    unfold cG0
    exact hc (gecT rfl (by omega)) <|hc (lecT rfl (by omega)) <|hc (gecT rfl (by omega)) <|hc (lecT rfl (by omega)) <|hc (lnV rfl rfl (by omega)) <|hc (lecT rfl (by omega)) <|hc (gecT rfl (by omega)) <|hc (lecF rfl (by omega)) <|hnil
  refine runC (tb := (tbl cG0)) (ra := .b false) rfl ((aD2 (nuL (cB4 T D C Q)) (fun j _ => aA9 (l := cB4 T D C Q) rfl j)).hyps ho) rfl aL1.1 aL1.2 (runRIs_7 ) (args := [.agg #[.int .i64 T, .int .i64 D, St' C, .int .i64 Q]]) (by simp only [RelL, Rel]; exact ⟨_, _, rfl, ⟨_, rfl, ⟨_, _, rfl, rfl, ⟨_, _, rfl, rfl, ⟨_, _, rfl, rfl, ⟨_, _, rfl, rfl, rfl⟩⟩⟩⟩⟩, rfl⟩) w hl fun x hx => ?_
  simp only [Rel, RelL] at hx
  exact hx
theorem callsRIs (T D : Int) (C : LB) (Q : Int) (b0 : -9223372036854775808 ≤ T) (b1 : T ≤ 9223372036854775807) (b2 : -9223372036854775808 ≤ D) (b3 : D ≤ 9223372036854775807) (b4 : C.length ≤ 9223372036854775807) (b5 : -9223372036854775808 ≤ Q) (b6 : Q ≤ 9223372036854775807) (w : World) (hl : aB0 w) : CwR 13 #[.agg #[.int .i64 T, .int .i64 D, St' C, .int .i64 Q]] w (.bool (decide (isRB (T, D, C, Q)))) := by
  by_cases h0 : 1 ≤ T
  · by_cases h1 : T ≤ 255
    · by_cases h2 : 0 ≤ D
      · by_cases h3 : D ≤ 65535
        · by_cases h4 : (C.length : Int) ≤ 65535
          · by_cases h5 : 0 ≤ Q
            · by_cases h6 : Q ≤ 255
              · rw [show (.bool (decide (isRB (T, D, C, Q))) : Value) = (.bool true : Value) from by first | exact congrArg Value.bool (decide_eq_true (show 1 ≤ T ∧ T ≤ 255 ∧ 0 ≤ D ∧ D ≤ 65535 ∧ (C.length : Int) ≤ 65535 ∧ 0 ≤ Q ∧ Q ≤ 255 from ⟨by omega, by omega, by omega, by omega, by omega, by omega, by omega⟩)) | exact congrArg Value.bool (decide_eq_false (fun h => by have h : 1 ≤ T ∧ T ≤ 255 ∧ 0 ≤ D ∧ D ≤ 65535 ∧ (C.length : Int) ≤ 65535 ∧ 0 ≤ Q ∧ Q ≤ 255 := h; omega))]
                exact pathRIs_0 T D C Q b0 b1 b2 b3 b4 b5 b6 h0 h1 h2 h3 h4 h5 h6 w hl
              · rw [show (.bool (decide (isRB (T, D, C, Q))) : Value) = (.bool false : Value) from by first | exact congrArg Value.bool (decide_eq_true (show 1 ≤ T ∧ T ≤ 255 ∧ 0 ≤ D ∧ D ≤ 65535 ∧ (C.length : Int) ≤ 65535 ∧ 0 ≤ Q ∧ Q ≤ 255 from ⟨by omega, by omega, by omega, by omega, by omega, by omega, by omega⟩)) | exact congrArg Value.bool (decide_eq_false (fun h => by have h : 1 ≤ T ∧ T ≤ 255 ∧ 0 ≤ D ∧ D ≤ 65535 ∧ (C.length : Int) ≤ 65535 ∧ 0 ≤ Q ∧ Q ≤ 255 := h; omega))]
                exact pathRIs_7 T D C Q b0 b1 b2 b3 b4 b5 b6 h0 h1 h2 h3 h4 h5 h6 w hl
            · rw [show (.bool (decide (isRB (T, D, C, Q))) : Value) = (.bool false : Value) from by first | exact congrArg Value.bool (decide_eq_true (show 1 ≤ T ∧ T ≤ 255 ∧ 0 ≤ D ∧ D ≤ 65535 ∧ (C.length : Int) ≤ 65535 ∧ 0 ≤ Q ∧ Q ≤ 255 from ⟨by omega, by omega, by omega, by omega, by omega, by omega, by omega⟩)) | exact congrArg Value.bool (decide_eq_false (fun h => by have h : 1 ≤ T ∧ T ≤ 255 ∧ 0 ≤ D ∧ D ≤ 65535 ∧ (C.length : Int) ≤ 65535 ∧ 0 ≤ Q ∧ Q ≤ 255 := h; omega))]
              exact pathRIs_6 T D C Q b0 b1 b2 b3 b4 b5 b6 h0 h1 h2 h3 h4 h5 w hl
          · rw [show (.bool (decide (isRB (T, D, C, Q))) : Value) = (.bool false : Value) from by first | exact congrArg Value.bool (decide_eq_true (show 1 ≤ T ∧ T ≤ 255 ∧ 0 ≤ D ∧ D ≤ 65535 ∧ (C.length : Int) ≤ 65535 ∧ 0 ≤ Q ∧ Q ≤ 255 from ⟨by omega, by omega, by omega, by omega, by omega, by omega, by omega⟩)) | exact congrArg Value.bool (decide_eq_false (fun h => by have h : 1 ≤ T ∧ T ≤ 255 ∧ 0 ≤ D ∧ D ≤ 65535 ∧ (C.length : Int) ≤ 65535 ∧ 0 ≤ Q ∧ Q ≤ 255 := h; omega))]
            exact pathRIs_5 T D C Q b0 b1 b2 b3 b4 b5 b6 h0 h1 h2 h3 h4 w hl
        · rw [show (.bool (decide (isRB (T, D, C, Q))) : Value) = (.bool false : Value) from by first | exact congrArg Value.bool (decide_eq_true (show 1 ≤ T ∧ T ≤ 255 ∧ 0 ≤ D ∧ D ≤ 65535 ∧ (C.length : Int) ≤ 65535 ∧ 0 ≤ Q ∧ Q ≤ 255 from ⟨by omega, by omega, by omega, by omega, by omega, by omega, by omega⟩)) | exact congrArg Value.bool (decide_eq_false (fun h => by have h : 1 ≤ T ∧ T ≤ 255 ∧ 0 ≤ D ∧ D ≤ 65535 ∧ (C.length : Int) ≤ 65535 ∧ 0 ≤ Q ∧ Q ≤ 255 := h; omega))]
          exact pathRIs_4 T D C Q b0 b1 b2 b3 b4 b5 b6 h0 h1 h2 h3 w hl
      · rw [show (.bool (decide (isRB (T, D, C, Q))) : Value) = (.bool false : Value) from by first | exact congrArg Value.bool (decide_eq_true (show 1 ≤ T ∧ T ≤ 255 ∧ 0 ≤ D ∧ D ≤ 65535 ∧ (C.length : Int) ≤ 65535 ∧ 0 ≤ Q ∧ Q ≤ 255 from ⟨by omega, by omega, by omega, by omega, by omega, by omega, by omega⟩)) | exact congrArg Value.bool (decide_eq_false (fun h => by have h : 1 ≤ T ∧ T ≤ 255 ∧ 0 ≤ D ∧ D ≤ 65535 ∧ (C.length : Int) ≤ 65535 ∧ 0 ≤ Q ∧ Q ≤ 255 := h; omega))]
        exact pathRIs_3 T D C Q b0 b1 b2 b3 b4 b5 b6 h0 h1 h2 w hl
    · rw [show (.bool (decide (isRB (T, D, C, Q))) : Value) = (.bool false : Value) from by first | exact congrArg Value.bool (decide_eq_true (show 1 ≤ T ∧ T ≤ 255 ∧ 0 ≤ D ∧ D ≤ 65535 ∧ (C.length : Int) ≤ 65535 ∧ 0 ≤ Q ∧ Q ≤ 255 from ⟨by omega, by omega, by omega, by omega, by omega, by omega, by omega⟩)) | exact congrArg Value.bool (decide_eq_false (fun h => by have h : 1 ≤ T ∧ T ≤ 255 ∧ 0 ≤ D ∧ D ≤ 65535 ∧ (C.length : Int) ≤ 65535 ∧ 0 ≤ Q ∧ Q ≤ 255 := h; omega))]
      exact pathRIs_2 T D C Q b0 b1 b2 b3 b4 b5 b6 h0 h1 w hl
  · rw [show (.bool (decide (isRB (T, D, C, Q))) : Value) = (.bool false : Value) from by first | exact congrArg Value.bool (decide_eq_true (show 1 ≤ T ∧ T ≤ 255 ∧ 0 ≤ D ∧ D ≤ 65535 ∧ (C.length : Int) ≤ 65535 ∧ 0 ≤ Q ∧ Q ≤ 255 from ⟨by omega, by omega, by omega, by omega, by omega, by omega, by omega⟩)) | exact congrArg Value.bool (decide_eq_false (fun h => by have h : 1 ≤ T ∧ T ≤ 255 ∧ 0 ≤ D ∧ D ≤ 65535 ∧ (C.length : Int) ≤ 65535 ∧ 0 ≤ Q ∧ Q ≤ 255 := h; omega))]
    exact pathRIs_1 T D C Q b0 b1 b2 b3 b4 b5 b6 h0 w hl
theorem bS0 {x0 r : AV} {T D : Int} {C : LB} {Q : Int} (i0 : Is (cx nu one 0 aB0 aA1) x0 (.agg #[.int .i64 T, .int .i64 D, St' C, .int .i64 Q])) (hr : Den (cx nu one 0 aB0 aA1) r (.bool (decide (isRB (T, D, C, Q))))) (b0 : -9223372036854775808 ≤ T) (b1 : T ≤ 9223372036854775807) (b2 : -9223372036854775808 ≤ D) (b3 : D ≤ 9223372036854775807) (b4 : C.length ≤ 9223372036854775807) (b5 : -9223372036854775808 ≤ Q) (b6 : Q ≤ 9223372036854775807) : HOk (cx nu one 0 aB0 aA1) (.call 13 [x0]) r := by
  intro ρ args ha w hl _
  simp only [RelL] at ha
  obtain ⟨v0, t0, rfl, a0, rfl⟩ := ha
  have e0 := i0 ρ _ a0; subst e0
  exact (callsRIs T D C Q b0 b1 b2 b3 b4 b5 b6 w hl).mono fun e w' he => ⟨_, he.1, hr ρ, he.2⟩
theorem dG5 : tabk.fn.get 14 = some (fI Try.f14 0) ∧ (fI Try.f14 0).body.isSome = true := ⟨rfl, by kernel_rfl⟩
def cI4 : LK := [(.call 13 [.ag [.x 0, .x 1, .x 2, .x 3]], .b true), (.conv 5 (.x 0), .x 4), (.bytes [.i .u8 (.ofNat 1), .x 4], .x 5), (.bin .quo (.x 1) (I6 256), .x 6), (.conv 5 (.x 6), .x 7), (.bin .rem (.x 1) (I6 256), .x 8), (.conv 5 (.x 8), .x 9), (.bytes [.x 7, .x 9], .x 10), (.bin .add (.x 5) (.x 10), .x 11), (.len (.x 2), .x 12), (.bin .quo (.x 12) (I6 256), .x 13), (.conv 5 (.x 13), .x 14), (.bin .rem (.x 12) (I6 256), .x 15), (.conv 5 (.x 15), .x 16), (.bytes [.x 14, .x 16], .x 17), (.bin .add (.x 11) (.x 17), .x 18), (.conv 5 (.x 3), .x 19), (.bytes [.x 19, .i .u8 (.ofNat 0)], .x 20), (.bin .add (.x 18) (.x 20), .x 21), (.bin .add (.x 21) (.x 2), .x 22), (.zer (.x 3), .x 23), (.bin .add (.x 22) (.x 23), .x 24)]
theorem runRBy_0 : okA (call (tbl cI4) 9000 14 [.ag [.x 0, .x 1, .x 2, .x 3]] ⟨H0 , 1, 0, 0⟩) (.x 24) = true := by kernel_rfl
def cD2 (T D : Int) (C : LB) (Q : Int) : List Value := [.int .i64 (T), .int .i64 (D), St' C, .int .i64 (Q), .int .u8 (T % 256), St' ([u8 1, u8 (T % 256)]), .int .i64 (D / 256), .int .u8 ((D / 256) % 256), .int .i64 (D % 256), .int .u8 ((D % 256)), St' ([u8 ((D / 256) % 256), u8 ((D % 256))]), St' ([u8 1, u8 (T % 256), u8 ((D / 256) % 256), u8 ((D % 256))]), .int .i64 ((C.length : Int)), .int .i64 ((C.length : Int) / 256), .int .u8 (((C.length : Int) / 256) % 256), .int .i64 ((C.length : Int) % 256), .int .u8 (((C.length : Int) % 256)), St' ([u8 (((C.length : Int) / 256) % 256), u8 (((C.length : Int) % 256))]), St' ([u8 1, u8 (T % 256), u8 ((D / 256) % 256), u8 ((D % 256)), u8 (((C.length : Int) / 256) % 256), u8 (((C.length : Int) % 256))]), .int .u8 (Q % 256), St' ([u8 (Q % 256), u8 0]), St' ([u8 1, u8 (T % 256), u8 ((D / 256) % 256), u8 ((D % 256)), u8 (((C.length : Int) / 256) % 256), u8 (((C.length : Int) % 256)), u8 (Q % 256), u8 0]), St' ([u8 1, u8 (T % 256), u8 ((D / 256) % 256), u8 ((D % 256)), u8 (((C.length : Int) / 256) % 256), u8 (((C.length : Int) % 256)), u8 (Q % 256), u8 0] ++ C), St' (List.replicate (Int.toNat (Q)) 0), St' ([u8 1, u8 (T % 256), u8 ((D / 256) % 256), u8 ((D % 256)), u8 (((C.length : Int) / 256) % 256), u8 (((C.length : Int) % 256)), u8 (Q % 256), u8 0] ++ (C ++ (List.replicate (Int.toNat (Q)) 0)))]
theorem pathRBy_0 (T D : Int) (C : LB) (Q : Int) (b0 : -9223372036854775808 ≤ T) (b1 : T ≤ 9223372036854775807) (b2 : -9223372036854775808 ≤ D) (b3 : D ≤ 9223372036854775807) (b4 : C.length ≤ 9223372036854775807) (b5 : -9223372036854775808 ≤ Q) (b6 : Q ≤ 9223372036854775807) (h0 : isRB (T, D, C, Q)) (w : World) (hl : aB0 w) : CwR 14 #[.agg #[.int .i64 T, .int .i64 D, St' C, .int .i64 Q]] w (St' ([u8 1, u8 (T % 256), u8 ((D / 256) % 256), u8 ((D % 256)), u8 (((C.length : Int) / 256) % 256), u8 (((C.length : Int) % 256)), u8 (Q % 256), u8 0] ++ (C ++ (List.replicate (Int.toNat (Q)) 0)))) := by
  obtain ⟨r1, r2, r3, r4, r5, r6, r7⟩ : 1 ≤ T ∧ T ≤ 255 ∧ 0 ≤ D ∧ D ≤ 65535 ∧ (C.length : Int) ≤ 65535 ∧ 0 ≤ Q ∧ Q ≤ 255 := (by assumption : isRB (T, D, C, Q))
  have ho : ∀ k r, (k, r) ∈ cI4 → HOk (cx (nuL (cD2 T D C Q)) (fun j _ => aA9 (l := cD2 T D C Q) rfl j) 0 aB0 aA1) k r := by
    unfold cI4
    exact hc (bS0 (bI0 (isX rfl) (isX rfl) (isX rfl) (isX rfl)) (bU1 (decide_eq_true (by assumption))) (by omega) (by omega) (by omega) (by omega) (by omega) (by omega) (by omega)) <|hc (bY0 (isX rfl) tu5 (denX rfl) rfl) <|hc (bA7 (bs := [u8 1, u8 (T % 256)]) (.cons (isB8 (isZ (m := 1) rfl) (by omega) (by omega)) (.cons (isB8 (isX rfl) (by omega) (by omega)) .nil)) (denX rfl)) <|hc (kQuo (isX rfl) (isZ (m := 256) rfl) (denX rfl) (by omega) (by omega) rfl (fI64 (by omega) (by omega))) <|hc (bY0 (isX rfl) tu5 (denX rfl) rfl) <|hc (kRem (isX rfl) (isZ (m := 256) rfl) (denX rfl) (by omega) (by omega) rfl) <|hc (kConvF (isX rfl) tu5 (denX rfl) (fU8 (by omega) (by omega))) <|hc (bA7 (bs := [u8 ((D / 256) % 256), u8 ((D % 256))]) (.cons (isB8 (isX rfl) (by omega) (by omega)) (.cons (isB8 (isX rfl) (by omega) (by omega)) .nil)) (denX rfl)) <|hc (kCat (isX rfl) (isX rfl) (denX rfl) (by first | rfl | (simp; done)) (by first | omega | (simp <;> omega))) <|hc (lnV rfl rfl (by omega)) <|hc (kQuo (isX rfl) (isZ (m := 256) rfl) (denX rfl) (by omega) (by omega) rfl (fI64 (by omega) (by omega))) <|hc (bY0 (isX rfl) tu5 (denX rfl) rfl) <|hc (kRem (isX rfl) (isZ (m := 256) rfl) (denX rfl) (by omega) (by omega) rfl) <|hc (kConvF (isX rfl) tu5 (denX rfl) (fU8 (by omega) (by omega))) <|hc (bA7 (bs := [u8 (((C.length : Int) / 256) % 256), u8 (((C.length : Int) % 256))]) (.cons (isB8 (isX rfl) (by omega) (by omega)) (.cons (isB8 (isX rfl) (by omega) (by omega)) .nil)) (denX rfl)) <|hc (kCat (isX rfl) (isX rfl) (denX rfl) (by first | rfl | (simp; done)) (by first | omega | (simp <;> omega))) <|hc (bY0 (isX rfl) tu5 (denX rfl) rfl) <|hc (bA7 (bs := [u8 (Q % 256), u8 0]) (.cons (isB8 (isX rfl) (by omega) (by omega)) (.cons (isB8 (isZ (m := 0) rfl) (by omega) (by omega)) .nil)) (denX rfl)) <|hc (kCat (isX rfl) (isX rfl) (denX rfl) (by first | rfl | (simp; done)) (by first | omega | (simp <;> omega))) <|hc (kCat (isX rfl) (isX rfl) (denX rfl) (by first | rfl | (simp; done)) (by first | omega | (simp <;> omega))) <|hc (kZer (isX rfl) (by omega) (by omega) (denX rfl)) <|hc (kCat (isX rfl) (isX rfl) (denX rfl) (by first | rfl | (simp; done)) (by first | omega | (simp <;> omega))) <|hnil
  refine runC (tb := (tbl cI4)) (ra := .x 24) rfl ((aD2 (nuL (cD2 T D C Q)) (fun j _ => aA9 (l := cD2 T D C Q) rfl j)).hyps ho) rfl dG5.1 dG5.2 (runRBy_0 ) (args := [.agg #[.int .i64 T, .int .i64 D, St' C, .int .i64 Q]]) (by simp only [RelL, Rel]; exact ⟨_, _, rfl, ⟨_, rfl, ⟨_, _, rfl, rfl, ⟨_, _, rfl, rfl, ⟨_, _, rfl, rfl, ⟨_, _, rfl, rfl, rfl⟩⟩⟩⟩⟩, rfl⟩) w hl fun x hx => ?_
  simp only [Rel, RelL] at hx
  exact hx
def cI1 : LK := [(.call 13 [.ag [.x 0, .x 1, .x 2, .x 3]], .b false)]
theorem runRBy_1 : okA (call (tbl cI1) 9000 14 [.ag [.x 0, .x 1, .x 2, .x 3]] ⟨H0 , 1, 0, 0⟩) (.s 0 0) = true := by kernel_rfl
def cD1 (T D : Int) (C : LB) (Q : Int) : List Value := [.int .i64 (T), .int .i64 (D), St' C, .int .i64 (Q)]
theorem pathRBy_1 (T D : Int) (C : LB) (Q : Int) (b0 : -9223372036854775808 ≤ T) (b1 : T ≤ 9223372036854775807) (b2 : -9223372036854775808 ≤ D) (b3 : D ≤ 9223372036854775807) (b4 : C.length ≤ 9223372036854775807) (b5 : -9223372036854775808 ≤ Q) (b6 : Q ≤ 9223372036854775807) (h0 : ¬ (isRB (T, D, C, Q))) (w : World) (hl : aB0 w) : CwR 14 #[.agg #[.int .i64 T, .int .i64 D, St' C, .int .i64 Q]] w (St' ([] : LB)) := by
  have ho : ∀ k r, (k, r) ∈ cI1 → HOk (cx (nuL (cD1 T D C Q)) (fun j _ => aA9 (l := cD1 T D C Q) rfl j) 0 aB0 aA1) k r := by
    unfold cI1
    exact hc (bS0 (bI0 (isX rfl) (isX rfl) (isX rfl) (isX rfl)) (denBF (by rw [decide_eq_false (by assumption)]; decide)) (by omega) (by omega) (by omega) (by omega) (by omega) (by omega) (by omega)) <|hnil
  refine runC (tb := (tbl cI1)) (ra := .s 0 0) rfl ((aD2 (nuL (cD1 T D C Q)) (fun j _ => aA9 (l := cD1 T D C Q) rfl j)).hyps ho) rfl dG5.1 dG5.2 (runRBy_1 ) (args := [.agg #[.int .i64 T, .int .i64 D, St' C, .int .i64 Q]]) (by simp only [RelL, Rel]; exact ⟨_, _, rfl, ⟨_, rfl, ⟨_, _, rfl, rfl, ⟨_, _, rfl, rfl, ⟨_, _, rfl, rfl, ⟨_, _, rfl, rfl, rfl⟩⟩⟩⟩⟩, rfl⟩) w hl fun x hx => ?_
  simp only [Rel, RelL] at hx
  exact hx.1
theorem callsRBy (T D : Int) (C : LB) (Q : Int) (b0 : -9223372036854775808 ≤ T) (b1 : T ≤ 9223372036854775807) (b2 : -9223372036854775808 ≤ D) (b3 : D ≤ 9223372036854775807) (b4 : C.length ≤ 9223372036854775807) (b5 : -9223372036854775808 ≤ Q) (b6 : Q ≤ 9223372036854775807) (w : World) (hl : aB0 w) : CwR 14 #[.agg #[.int .i64 T, .int .i64 D, St' C, .int .i64 Q]] w (St' (rbO (T, D, C, Q))) := by
  by_cases h0 : isRB (T, D, C, Q)
  · rw [show (St' (rbO (T, D, C, Q)) : Value) = (St' ([u8 1, u8 (T % 256), u8 ((D / 256) % 256), u8 ((D % 256)), u8 (((C.length : Int) / 256) % 256), u8 (((C.length : Int) % 256)), u8 (Q % 256), u8 0] ++ (C ++ (List.replicate (Int.toNat (Q)) 0))) : Value) from by rw [rbO]; first | (rw [if_pos (by assumption)]; rfl) | (rw [if_neg (by assumption)])]
    exact pathRBy_0 T D C Q b0 b1 b2 b3 b4 b5 b6 h0 w hl
  · rw [show (St' (rbO (T, D, C, Q)) : Value) = (St' ([] : LB) : Value) from by rw [rbO]; first | (rw [if_pos (by assumption)]; rfl) | (rw [if_neg (by assumption)])]
    exact pathRBy_1 T D C Q b0 b1 b2 b3 b4 b5 b6 h0 w hl
theorem cS6 {x0 r : AV} {T D : Int} {C : LB} {Q : Int} (i0 : Is (cx nu one 0 aB0 aA1) x0 (.agg #[.int .i64 T, .int .i64 D, St' C, .int .i64 Q])) (hr : Den (cx nu one 0 aB0 aA1) r (St' (rbO (T, D, C, Q)))) (b0 : -9223372036854775808 ≤ T) (b1 : T ≤ 9223372036854775807) (b2 : -9223372036854775808 ≤ D) (b3 : D ≤ 9223372036854775807) (b4 : C.length ≤ 9223372036854775807) (b5 : -9223372036854775808 ≤ Q) (b6 : Q ≤ 9223372036854775807) : HOk (cx nu one 0 aB0 aA1) (.call 14 [x0]) r := by
  intro ρ args ha w hl _
  simp only [RelL] at ha
  obtain ⟨v0, t0, rfl, a0, rfl⟩ := ha
  have e0 := i0 ρ _ a0; subst e0
  exact (callsRBy T D C Q b0 b1 b2 b3 b4 b5 b6 w hl).mono fun e w' he => ⟨_, he.1, hr ρ, he.2⟩
end Go.Proofs.Ytfoalkoifcpdmaa.framesBack
