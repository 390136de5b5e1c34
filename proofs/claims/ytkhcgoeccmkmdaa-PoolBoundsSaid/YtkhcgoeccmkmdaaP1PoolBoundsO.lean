/- A part of the proof: an interpreter of the model's own code on partly known states, and that what it answers is what the program answers. No condition of its own. -/
import Derived.Test.YtkhcgoeccmkmdaaSeatP1
import Derived.Test.YtkhcgoeccmkmdaaHXpart4
import Derived.Test.YtkhcgoeccmkmdaaAXro
import Derived.Test.YtkhcgoeccmkmdaaHKA
set_option maxRecDepth 100000
set_option linter.unusedVariables false
set_option linter.unusedSimpArgs false
namespace Go.Proofs.Ytkhcgoeccmkmdaa.poolBounds
open Go Go.AX Go.Proofs Go.Proofs.Ytkhcgoeccmkmdaa
/-- the variables that the runs read are laid -/
def laidE (w : World) : Prop := True
theorem laidE_stab : ∀ w w' : World, (∀ k, k < 0 → w'.heap[k]? = w.heap[k]?) → laidE w → laidE w' := fun w w' h _ => trivial
theorem laidE_size {w : World} (h : laidE w) : 0 ≤ w.heap.size := by
  exact Nat.zero_le _
noncomputable def H0 : T Ent := .leaf
theorem runP {nu : Nat → Value} {one : ∀ i, i < 1000000 → (nu i).oneCell' = true} {tb : Tab} (h : AllOk (cx nu one 0 laidE laidE_stab) tb) (hng : tb.ng = 1) {f g : Nat} {fi : FI} (hfi : tb.fn.get g = some fi) (hb : fi.body.isSome = true) {l : List AV} {args : List Value}
    (hr : okB (call tb f g l ⟨H0 , 1, 0, 0⟩) = true) (hl : RelL (cx nu one 0 laidE laidE_stab) (fun _ => none) l args) (w : World) (hw : laidE w) :
    Calls Try.prog g ⟨args⟩ w fun e w' => e = .returned (.bool true) ∧ Go.AX.Below (Go.AX.Fz.lt w.heap.size) w w' := by
  obtain ⟨S, hS⟩ := okB_inv hr
  refine (run_okG h (H := H0 ) hfi hb (by rw [hng]; exact hS) hl w hw (laidE_size hw) fun v k hv => ?_).mono fun e' w' he => ?_
  · unfold H0 at hv
    simp [T.get_leaf] at hv
  · obtain ⟨x, ρ, rfl, hx, hb⟩ := he
    simp only [Rel] at hx
    exact ⟨by rw [hx], hb⟩
theorem runS {nu : Nat → Value} {one : ∀ i, i < 1000000 → (nu i).oneCell' = true} {tb : Tab} (h : AllOk (cx nu one 0 laidE laidE_stab) tb) (hng : tb.ng = 1) {f g : Nat} {fi : FI} (hfi : tb.fn.get g = some fi) (hb : fi.body.isSome = true) {l : List AV} {args : List Value} {len n : Nat}
    (hr : okS (call tb f g l ⟨H0 , 1, 0, 0⟩) len n = true) (hl : RelL (cx nu one 0 laidE laidE_stab) (fun _ => none) l args) (w : World) (hw : laidE w) :
    Calls Try.prog g ⟨args⟩ w fun e w' => e = .returned (St' (strB len n)) ∧ Go.AX.Below (Go.AX.Fz.lt w.heap.size) w w' := by
  obtain ⟨S, hS⟩ := okS_inv hr
  refine (run_okG h (H := H0 ) hfi hb (by rw [hng]; exact hS) hl w hw (laidE_size hw) fun v k hv => ?_).mono fun e' w' he => ?_
  · unfold H0 at hv
    simp [T.get_leaf] at hv
  · obtain ⟨x, ρ, rfl, hx, hb⟩ := he
    simp only [Rel] at hx
    exact ⟨by rw [hx.1], hb⟩
theorem runA {nu : Nat → Value} {one : ∀ i, i < 1000000 → (nu i).oneCell' = true} {tb : Tab} (h : AllOk (cx nu one 0 laidE laidE_stab) tb) (hng : tb.ng = 1) {f g : Nat} {fi : FI} (hfi : tb.fn.get g = some fi) (hb : fi.body.isSome = true) {l : List AV} {args : List Value} {ra : AV} (hnr : noR 8 ra = true)
    (hr : okA (call tb f g l ⟨H0 , 1, 0, 0⟩) ra = true) (hl : RelL (cx nu one 0 laidE laidE_stab) (fun _ => none) l args) (w : World) (hw : laidE w) :
    Calls Try.prog g ⟨args⟩ w fun e w' => ∃ x, e = .returned x ∧ Rel (cx nu one 0 laidE laidE_stab) (fun _ => none) ra x ∧ Go.AX.Below (Go.AX.Fz.lt w.heap.size) w w' := by
  obtain ⟨S, hS⟩ := okA_inv hr
  refine (run_okG h (H := H0 ) hfi hb (by rw [hng]; exact hS) hl w hw (laidE_size hw) fun v k hv => ?_).mono fun e' w' he => ?_
  · unfold H0 at hv
    simp [T.get_leaf] at hv
  · obtain ⟨x, ρ, rfl, hx, hb⟩ := he
    exact ⟨x, rfl, noR_rel 8 _ hnr _ hx, hb⟩
noncomputable def fk : FI := ⟨Try.f10.body, Try.f10.ntmps, Try.f10.results.toList, 0, none, []⟩
theorem fk_at : tab.fn.get 10 = some fk := by kernel_rfl
theorem fk_body : fk.body.isSome = true := by kernel_rfl
theorem kk : okB (call tab 6000 10 [] ⟨H0 , 1, 0, 0⟩) = true := by kernel_rfl
noncomputable def tabk : Tab := addSum tab 10 fk (.b true)
section
variable (nu : Nat → Value) (one : ∀ i, i < 1000000 → (nu i).oneCell' = true)
theorem sumk : SumOk (cx nu one 0 laidE laidE_stab) 10 (.b true) := fun w hi hs => by
  refine (runP (tabOk nu one 0 laidE laidE_stab) rfl fk_at fk_body kk (args := []) (by simp only [RelL]) w hi).mono fun e w' he => ?_
  exact ⟨.bool true, he.1, by simp only [Rel], he.2⟩
theorem tabkOk : AllOk (cx nu one 0 laidE laidE_stab) tabk := (tabOk nu one 0 laidE laidE_stab).sum (by omega) fk_at fk_body (sumk nu one)
end
theorem tu3 : Try.prog.underlying 3 = some (.int .i64) := by kernel_rfl
noncomputable def tbl (h : LK) : Tab := { tabk with hyp := h }
abbrev CwR (g : Nat) (args : Array Value) (w : World) (v : Value) : Prop := Calls Try.prog g args w fun e w' => e = .returned v ∧ Go.AX.Below (Go.AX.Fz.lt w.heap.size) w w'
theorem runC {nu : Nat → Value} {one : ∀ i, i < 1000000 → (nu i).oneCell' = true} {tb : Tab} {ra : AV} {v : Value} (hnr : noR 8 ra = true) (h : AllOk (cx nu one 0 laidE laidE_stab) tb) (hng : tb.ng = 1) {f g : Nat} {fi : FI} (hfi : tb.fn.get g = some fi) (hb : fi.body.isSome = true) {l : List AV} {args : List Value}
    (hr : okA (call tb f g l ⟨H0 , 1, 0, 0⟩) ra = true) (hl : RelL (cx nu one 0 laidE laidE_stab) (fun _ => none) l args) (w : World) (hw : laidE w) (hv : ∀ x, Rel (cx nu one 0 laidE laidE_stab) (fun _ => none) ra x → x = v) : CwR g ⟨args⟩ w v :=
  (runA h hng hfi hb hnr hr hl w hw).mono fun e w' he => by
    obtain ⟨x, rfl, hx, hb2⟩ := he
    exact ⟨by rw [hv x hx], hb2⟩

noncomputable def fi4 : FI := (tabk.fn.get 4).getD default
theorem fi4_at : tabk.fn.get 4 = some fi4 := by kernel_rfl
theorem fi4_body : fi4.body = some (Try.f4.body.getD .skip) := by kernel_rfl
theorem fiB4 : fi4.body.isSome = true := by rw [fi4_body]; rfl
noncomputable def bodyPb : Code := loopNo (Try.f4.body.getD .skip) 0
theorem keyPb : oneKey (loopsOf (Try.f4.body.getD .skip)) 6 0 0 = true := by kernel_rfl
def epB (c k : Nat) : LA := [(2, .x 0), (7, .i .i64 (.ofNat c)), (8, .i .i64 (.ofNat k)), (9, .p 1 0), (10, .x 1)]
def epX (c k : Nat) : LA := [(7, .i .i64 (.ofNat c)), (8, .i .i64 (.ofNat k)), (9, .p 1 0)]
def mnC (c j : Nat) : Nat := cond (Nat.ble (Nat.succ j) c) (Nat.succ j) c
def hyN (c K j : Nat) : LK := [(.bin .rem (.x 0) (.i .u8 (.ofNat 50)), .x 2), (.conv 3 (.x 2), .x 3), (.bin .lss (.x 1) (.x 3), .b true), (.bin .lss (.x 1) (.i .i64 (.ofNat K)), .b (Nat.blt j K)), (.bin .add (.x 1) (.i .i64 (.ofNat 1)), .x 4), (.mm false (.i .i64 (.ofNat c)) (.x 4), .i .i64 (.ofNat (mnC c j)))]
def hyX : LK := [(.bin .rem (.x 0) (.i .u8 (.ofNat 50)), .x 2), (.conv 3 (.x 2), .x 3), (.bin .lss (.x 1) (.x 3), .b false)]
def hyP (c k : Nat) : LK := [(.bin .rem (.x 0) (.i .u8 (.ofNat 4)), .i .u8 (.ofNat (Nat.sub c 1))), (.bin .rem (.x 1) (.i .u8 (.ofNat 8)), .i .u8 (.ofNat (Nat.sub k 1)))]
def thN : LA := [(0, .x 0), (1, .x 4)]
def nxJ (K j : Nat) : Nat := cond (Nat.blt j K) (Nat.succ j) j
noncomputable def rnN (c k K : Nat) (hs : List LE) (sgs : List (List (Nat × Nat))) (j : Nat) : Bool := okRdH (code (tbl (hyN c K j)) 3000 [] bodyPb (envOf (headOf (epB c k) []) 87) ⟨lhSet (hs.getD j []) .leaf, 83, 0, 0⟩) .normal [] 87 260 thN (sgs.getD j []) 2 83 (epB c k) (hs.getD (nxJ K j) [])
def lhB (hs : List LE) (J : Nat) : LH := ⟨1, 2, 260, hs.getD 0 [], hs.getD J []⟩
def lfB1 (c k : Nat) (hs : List LE) (J : Nat) : LF := ⟨6, 87, [(2, .x 2), (7, .i .i64 (.ofNat c)), (8, .i .i64 (.ofNat k)), (9, .p 1 0), (10, .i .i64 (.ofNat 0))], [], .exit 0, epX c k, some (lhB hs J)⟩
def th0 : LA := [(0, .x 2), (1, .i .i64 (.ofNat 0))]
noncomputable def tabP (c k : Nat) (hs : List LE) (J : Nat) : Tab := addLps (tbl (hyP c k)) 4 fi4 [lfB1 c k hs J]
noncomputable def chX (c k : Nat) (hs : List LE) (J : Nat) : Bool := okRdH (code (tbl hyX) 3000 [] bodyPb (envOf (headOf (epB c k) []) 87) ⟨lhSet (hs.getD J []) .leaf, 83, 0, 0⟩) (.exit 0) [] 87 260 [] [] 2 260 (epX c k) (hs.getD J [])
noncomputable def chk (c k : Nat) (hs : List LE) (J : Nat) : Bool := chX c k hs J && (lfSame (lfB1 c k hs J) (lhB hs J) 87 [] (.exit 0) 1 2 260 && (startOk (lfB1 c k hs J) (lhB hs J) 87 2 83 th0 [] (epB c k) (hs.getD 0 []) && (exitOk (lfB1 c k hs J) (lhB hs J) 87 2 260 [] (epX c k) (hs.getD J []) && Go.AX.okB (call (tabP c k hs J) 9000 4 [.x 0, .x 1, .x 2] ⟨H0, 1, 0, 0⟩))))
def nuD (n i : Int) : List Value := [.int .u8 n, .int .i64 i, .int .u8 (n % 50), .int .i64 (n % 50), .int .i64 (i + 1)]
noncomputable def DPb (n i : Int) : Cx := cx (nuL (nuD n i)) (fun j _ => nuL_one (l := nuD n i) rfl j) 0 laidE laidE_stab
noncomputable def EPb : Cx := cx (nuL []) (fun j _ => nuL_one (l := []) rfl j) 0 laidE laidE_stab
def nuP (a b n : Int) : List Value := [.int .u8 a, .int .u8 b, .int .u8 n]
noncomputable def CPb (a b n : Int) : Cx := cx (nuL (nuP a b n)) (fun j _ => nuL_one (l := nuP a b n) rfl j) 0 laidE laidE_stab
theorem mnC_eq {c j : Nat} {i : Int} {K : Nat} (hK : c ≤ K) (h0 : j ≤ K) (h1 : j < K → i = (j : Int)) (h2 : j = K → (K : Int) ≤ i) : min (c : Int) (i + 1) = (mnC c j : Int) := by
  unfold mnC
  cases h : Nat.ble (Nat.succ j) c with
  | true =>
    have := Nat.le_of_ble_eq_true h
    show min (c : Int) (i + 1) = ((j + 1 : Nat) : Int)
    have := h1 (by omega)
    omega
  | false =>
    have : ¬ j + 1 ≤ c := fun hh => by rw [Nat.ble_eq_true_of_le hh] at h; cases h
    show min (c : Int) (i + 1) = (c : Int)
    by_cases hj : j < K
    · have := h1 hj; omega
    · have := h2 (by omega); omega
theorem hyN_ok {c K j : Nat} {n i : Int} (n0 : 0 ≤ n) (n1 : n ≤ 255) (i0 : 0 ≤ i) (hi : i < n % 50) (hK : c ≤ K) (h0 : j ≤ K) (h1 : j < K → i = (j : Int)) (h2 : j = K → (K : Int) ≤ i) : ∀ k r, (k, r) ∈ hyN c K j → HOk (DPb n i) k r := by
  unfold hyN
  refine hc (kRem (isX rfl) (isZ (m := 50) rfl) (denX rfl) (by omega) (by omega) rfl) <| hc (kConvF (isX rfl) tu3 (denX rfl) (fI64 (by omega) (by omega))) <| hc (kLt (isX rfl) (isX rfl) (decide_eq_true hi)) <|
    hc (kLt (isX rfl) (isI _ _) ?_) <| hc (kAdd (isX rfl) (isZ (m := 1) rfl) (denX rfl) rfl (fI64 (by omega) (by omega))) <| hc (kMin (isI _ _) (isX rfl) (denI _ _) (mnC_eq hK h0 h1 h2)) hnil
  cases hb : Nat.blt j K with
  | true =>
    have : j < K := by simpa [Nat.blt_eq] using hb
    have := h1 this
    exact decide_eq_true (show i < ((K : Nat) : Int) by omega)
  | false =>
    have : ¬ j < K := fun hh => by rw [show Nat.blt j K = true by simpa [Nat.blt_eq] using hh] at hb; cases hb
    have := h2 (by omega)
    exact decide_eq_false (show ¬ i < ((K : Nat) : Int) by omega)
theorem hyX_ok {n i : Int} (n0 : 0 ≤ n) (n1 : n ≤ 255) (i0 : 0 ≤ i) (hi : ¬ i < n % 50) : ∀ k r, (k, r) ∈ hyX → HOk (DPb n i) k r := by
  unfold hyX
  exact hc (kRem (isX rfl) (isZ (m := 50) rfl) (denX rfl) (by omega) (by omega) rfl) <| hc (kConvF (isX rfl) tu3 (denX rfl) (fI64 (by omega) (by omega))) <| hc (kLt (isX rfl) (isX rfl) (decide_eq_false hi)) hnil
theorem hyP_ok {c k : Nat} {a b n : Int} (a0 : 0 ≤ a) (b0 : 0 ≤ b) (ha : a % 4 = ((Nat.sub c 1 : Nat) : Int)) (hb : b % 8 = ((Nat.sub k 1 : Nat) : Int)) : ∀ k' r, (k', r) ∈ hyP c k → HOk (CPb a b n) k' r := by
  unfold hyP
  exact hc (kRem (isX rfl) (isZ (m := 4) rfl) (denI _ _) (by omega) (by omega) ha) <| hc (kRem (isX rfl) (isZ (m := 8) rfl) (denI _ _) (by omega) (by omega) hb) hnil
def InvB (K : Nat) (n : Int) (st : Nat × Int) : Prop := st.1 ≤ K ∧ 0 ≤ st.2 ∧ st.2 ≤ n % 50 ∧ (st.1 < K → st.2 = (st.1 : Int)) ∧ (st.1 = K → (K : Int) ≤ st.2)
theorem nxJ_lt {K j : Nat} (h : j < K) : nxJ K j = j + 1 := by unfold nxJ; rw [show Nat.blt j K = true by simpa [Nat.blt_eq] using h]; rfl
theorem nxJ_ge {K j : Nat} (h : ¬ j < K) : nxJ K j = j := by
  unfold nxJ
  cases hb : Nat.blt j K with
  | true => exact absurd (show j < K by simpa [Nat.blt_eq] using hb) h
  | false => rfl
theorem mainPb (c k K : Nat) (hK : c ≤ K) (K1 : 1 ≤ K) (hs : List LE) (sgs : List (List (Nat × Nat))) (R : ∀ j, j ≤ K → rnN c k K hs sgs j = true) (Xx : ∀ j, j ≤ K → chk c k hs j = true) (a b n : Int) (b0 : 0 ≤ a) (b1 : a ≤ 255) (b2 : 0 ≤ b) (b3 : b ≤ 255) (b4 : 0 ≤ n) (b5 : n ≤ 255)
    (ha : a % 4 = ((Nat.sub c 1 : Nat) : Int)) (hb : b % 8 = ((Nat.sub k 1 : Nat) : Int)) (w : World) (hl : laidE w) : CwR 4 #[.int .u8 a, .int .u8 b, .int .u8 n] w (.bool true) := by
  obtain ⟨J, hJ0, hJ1, hJ2⟩ : ∃ J : Nat, J ≤ K ∧ (n % 50 < (K : Int) → (J : Int) = n % 50) ∧ ((K : Int) ≤ n % 50 → J = K) := by
    by_cases h : n % 50 < (K : Int)
    · exact ⟨(n % 50).toNat, by omega, fun _ => by omega, fun h' => by omega⟩
    · exact ⟨K, Nat.le_refl _, fun h' => absurd h' h, fun _ => rfl⟩
  have hx := Xx J hJ0
  simp only [chk, Bool.and_eq_true] at hx
  obtain ⟨x1, x2, x3, x4, x5⟩ := hx
  have HLF : LfOk (CPb a b n) bodyPb (lfB1 c k hs J) := by
    refine lfOkX (E := EPb) (ep := fun _ => epB c k) (hp := fun st => hs.getD st.1 []) (epx := epX c k) (hpx := hs.getD J []) (keep := []) (nh := 83) (InvB K n) (fun st => (n % 50 - st.2).toNat) (fun st _ => DPb n st.2) (fun _ _ => rfl) (fun _ _ => rfl) (fun _ _ => rfl) (fun _ _ t ht => by cases ht) rfl rfl rfl rfl x2 (fun _ => rfl) rfl rfl (0, (0 : Int)) ⟨Nat.zero_le _, by omega, by omega, fun _ => rfl, fun h => by simp only [] at h; omega⟩ (th0 := th0) (sg0 := []) (fun X => thXv (v := .int .u8 n) rfl rfl (thCons (show Is _ (.i .i64 (.ofNat 0)) (.int .i64 0) from isI _ _) thNil)) x3 (thx := []) thNil x4 ?_
    intro st X hI
    obtain ⟨j, i⟩ := st
    obtain ⟨i0, i1, i2, i3, i4⟩ := hI
    simp only [] at i0 i1 i2 i3 i4
    by_cases h : i < n % 50
    · refine RoundH.next (tb := tbl (hyN c K j)) (L := []) (f := 3000) (th := thN) (sg := sgs.getD j []) (nxJ K j, i + 1) ((tabkOk _ _).hyps (hyN_ok b4 b5 i1 h hK i0 i3 i4)) (LpOk.nil _) rfl ?_ (by show (n % 50 - (i + 1)).toNat < (n % 50 - i).toNat; omega) (thXv (v := .int .u8 n) rfl rfl (thXv (v := .int .i64 (i + 1)) rfl rfl thNil)) (R j i0)
      by_cases hj : j < K
      · have hi := i3 hj
        rw [nxJ_lt hj]
        exact ⟨by show j + 1 ≤ K; omega, by show 0 ≤ i + 1; omega, by show i + 1 ≤ n % 50; omega, fun _ => by show i + 1 = ((j + 1 : Nat) : Int); omega, fun h' => by have h' : j + 1 = K := h'; show (K : Int) ≤ i + 1; omega⟩
      · have hi := i4 (by omega)
        rw [nxJ_ge hj]
        exact ⟨i0, by show 0 ≤ i + 1; omega, by show i + 1 ≤ n % 50; omega, fun h' => absurd h' hj, fun _ => by show (K : Int) ≤ i + 1; omega⟩
    · have e : j = J := by
        by_cases hj : j < K
        · have := i3 hj; have := hJ1 (by omega); omega
        · have := i4 (by omega); have := hJ2 (by omega); omega
      subst e
      exact RoundH.leave (tb := tbl hyX) (L := []) (f := 3000) (th := []) (sg := []) ((tabkOk _ _).hyps (hyX_ok b4 b5 i1 h)) (LpOk.nil _) rfl rfl thNil x1
  exact runP (tb := tabP c k hs J) (AllOk.lp1 ((tabkOk (nuL (nuP a b n)) (fun j _ => nuL_one (l := nuP a b n) rfl j)).hyps (hyP_ok b0 b2 ha hb)) (by omega) fi4_at fi4_body (lfCons (lpKnown rfl ⟨0, keyPb, HLF⟩) lfNil)) rfl (get_lps (by omega)) fiB4 x5 (args := [.int .u8 a, .int .u8 b, .int .u8 n]) (by simp only [RelL, Rel]; exact ⟨_, _, rfl, rfl, _, _, rfl, rfl, _, _, rfl, rfl, rfl⟩) w hl
end Go.Proofs.Ytkhcgoeccmkmdaa.poolBounds
