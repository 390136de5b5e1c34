/- A part of the proof: an interpreter of the model's own code on partly known states, and that what it answers is what the program answers. No condition of its own. -/
import Derived.Test.YtipdlfkjablekaaDoorR1PathBackO7
set_option maxRecDepth 100000
set_option linter.unusedVariables false
set_option linter.unusedSimpArgs false
set_option maxHeartbeats 4000000
namespace Go.Proofs.YtipdlfkjablekaaDoor.pathBack
open Go Go.AX Go.Proofs Go.Proofs.YtipdlfkjablekaaDoor
variable {nu : Nat → Value} {one : ∀ i, i < 1000000 → (nu i).oneCell' = true} {E' : Cx} {x' : Ex} {e' : LA} {h' : LE}
def MLtr : Nat := 10633823810298881996379053697534001152
noncomputable def bfLtr (n : Nat) : Bool := okA (call tabk 9000 17 [.i .u8 (.ofNat n)] ⟨H0 , 3, 0, 0⟩) (.b (Nat.testBit MLtr n))
theorem bfLtr_0 : allN (bfLtr ) 0 64 = true := by kernel_rfl
theorem bfLtr_1 : allN (bfLtr ) 64 64 = true := by kernel_rfl
theorem bfLtr_2 : allN (bfLtr ) 128 64 = true := by kernel_rfl
theorem bfLtr_3 : allN (bfLtr ) 192 64 = true := by kernel_rfl
theorem bfLtr_all (n : Nat) (h : n < 256) : bfLtr n = true := by
  rcases (show n / 64 = 0 ∨ n / 64 = 1 ∨ n / 64 = 2 ∨ n / 64 = 3 by omega) with h | h | h | h
  · exact allN_at (bfLtr_0 ) n (by omega) (by omega)
  · exact allN_at (bfLtr_1 ) n (by omega) (by omega)
  · exact allN_at (bfLtr_2 ) n (by omega) (by omega)
  · exact allN_at (bfLtr_3 ) n (by omega) (by omega)
theorem callsLtr (n : Nat) (h : n < 256) (w : World) (hl : laidE w) : CwR 17 #[.int .u8 (n : Int)] w (.bool (tb8 MLtr (n : Int))) := by
  refine runC (tb := tabk) rfl (tabkOk (nuL []) (fun j _ => nuL_one (l := []) rfl j)) rfl (fi := fI Tryd.f17 0) rfl (by kernel_rfl) (bfLtr_all n h) (args := [.int .u8 (n : Int)]) (by simp only [RelL, Rel]; exact ⟨_, _, rfl, rfl, rfl⟩) w hl fun x hx => ?_
  simp only [Rel] at hx
  rw [hx]; rfl
theorem hokLtr {x0 r : AV} {c : Int} (i0 : Is (cx nu one 0 laidE laidE_stab) x0 (.int .u8 c)) (b0 : 0 ≤ c) (b1 : c ≤ 255) (hr : Den (cx nu one 0 laidE laidE_stab) r (.bool (tb8 MLtr c))) : HOk (cx nu one 0 laidE laidE_stab) (.call 17 [x0]) r := by
  intro ρ args ha w hl _
  simp only [RelL] at ha
  obtain ⟨v0, t0, rfl, a0, rfl⟩ := ha
  have e0 := i0 ρ _ a0; subst e0
  obtain ⟨n, rfl⟩ := Int.eq_ofNat_of_zero_le b0
  exact (callsLtr n (by omega) w hl).mono fun e w' he => ⟨_, he.1, hr ρ, he.2⟩
def MDgr : Nat := 287948901175001088
noncomputable def bfDgr (n : Nat) : Bool := okA (call tabk 9000 18 [.i .u8 (.ofNat n)] ⟨H0 , 3, 0, 0⟩) (.b (Nat.testBit MDgr n))
theorem bfDgr_0 : allN (bfDgr ) 0 64 = true := by kernel_rfl
theorem bfDgr_1 : allN (bfDgr ) 64 64 = true := by kernel_rfl
theorem bfDgr_2 : allN (bfDgr ) 128 64 = true := by kernel_rfl
theorem bfDgr_3 : allN (bfDgr ) 192 64 = true := by kernel_rfl
theorem bfDgr_all (n : Nat) (h : n < 256) : bfDgr n = true := by
  rcases (show n / 64 = 0 ∨ n / 64 = 1 ∨ n / 64 = 2 ∨ n / 64 = 3 by omega) with h | h | h | h
  · exact allN_at (bfDgr_0 ) n (by omega) (by omega)
  · exact allN_at (bfDgr_1 ) n (by omega) (by omega)
  · exact allN_at (bfDgr_2 ) n (by omega) (by omega)
  · exact allN_at (bfDgr_3 ) n (by omega) (by omega)
theorem callsDgr (n : Nat) (h : n < 256) (w : World) (hl : laidE w) : CwR 18 #[.int .u8 (n : Int)] w (.bool (tb8 MDgr (n : Int))) := by
  refine runC (tb := tabk) rfl (tabkOk (nuL []) (fun j _ => nuL_one (l := []) rfl j)) rfl (fi := fI Tryd.f18 0) rfl (by kernel_rfl) (bfDgr_all n h) (args := [.int .u8 (n : Int)]) (by simp only [RelL, Rel]; exact ⟨_, _, rfl, rfl, rfl⟩) w hl fun x hx => ?_
  simp only [Rel] at hx
  rw [hx]; rfl
theorem hokDgr {x0 r : AV} {c : Int} (i0 : Is (cx nu one 0 laidE laidE_stab) x0 (.int .u8 c)) (b0 : 0 ≤ c) (b1 : c ≤ 255) (hr : Den (cx nu one 0 laidE laidE_stab) r (.bool (tb8 MDgr c))) : HOk (cx nu one 0 laidE laidE_stab) (.call 18 [x0]) r := by
  intro ρ args ha w hl _
  simp only [RelL] at ha
  obtain ⟨v0, t0, rfl, a0, rfl⟩ := ha
  have e0 := i0 ρ _ a0; subst e0
  obtain ⟨n, rfl⟩ := Int.eq_ofNat_of_zero_le b0
  exact (callsDgr n (by omega) w hl).mono fun e w' he => ⟨_, he.1, hr ρ, he.2⟩
def MInp : Nat := 85070591769848697122976066945318649856
noncomputable def bfInp (n : Nat) : Bool := okA (call tabk 9000 19 [.i .u8 (.ofNat n), .s 5 203983629869] ⟨H0 , 3, 0, 0⟩) (.b (Nat.testBit MInp n))
theorem bfInp_0 : allN (bfInp ) 0 64 = true := by kernel_rfl
theorem bfInp_1 : allN (bfInp ) 64 64 = true := by kernel_rfl
theorem bfInp_2 : allN (bfInp ) 128 64 = true := by kernel_rfl
theorem bfInp_3 : allN (bfInp ) 192 64 = true := by kernel_rfl
theorem bfInp_all (n : Nat) (h : n < 256) : bfInp n = true := by
  rcases (show n / 64 = 0 ∨ n / 64 = 1 ∨ n / 64 = 2 ∨ n / 64 = 3 by omega) with h | h | h | h
  · exact allN_at (bfInp_0 ) n (by omega) (by omega)
  · exact allN_at (bfInp_1 ) n (by omega) (by omega)
  · exact allN_at (bfInp_2 ) n (by omega) (by omega)
  · exact allN_at (bfInp_3 ) n (by omega) (by omega)
theorem callsInp (n : Nat) (h : n < 256) (w : World) (hl : laidE w) : CwR 19 #[.int .u8 (n : Int), St' [u8 45, u8 46, u8 95, u8 126, u8 47]] w (.bool (tb8 MInp (n : Int))) := by
  refine runC (tb := tabk) rfl (tabkOk (nuL []) (fun j _ => nuL_one (l := []) rfl j)) rfl (fi := fI Tryd.f19 0) rfl (by kernel_rfl) (bfInp_all n h) (args := [.int .u8 (n : Int), St' [u8 45, u8 46, u8 95, u8 126, u8 47]]) (by simp only [RelL, Rel]; exact ⟨_, _, rfl, rfl, ⟨_, _, rfl, ⟨rfl, by decide⟩, rfl⟩⟩) w hl fun x hx => ?_
  simp only [Rel] at hx
  rw [hx]; rfl
theorem hokInp {x0 x1 r : AV} {c : Int} (i0 : Is (cx nu one 0 laidE laidE_stab) x0 (.int .u8 c)) (i1 : Is (cx nu one 0 laidE laidE_stab) x1 (St' [u8 45, u8 46, u8 95, u8 126, u8 47])) (b0 : 0 ≤ c) (b1 : c ≤ 255) (hr : Den (cx nu one 0 laidE laidE_stab) r (.bool (tb8 MInp c))) : HOk (cx nu one 0 laidE laidE_stab) (.call 19 [x0, x1]) r := by
  intro ρ args ha w hl _
  simp only [RelL] at ha
  obtain ⟨v0, t0, rfl, a0, v1, t1, rfl, a1, rfl⟩ := ha
  have e0 := i0 ρ _ a0; subst e0
  have e1 := i1 ρ _ a1; subst e1
  obtain ⟨n, rfl⟩ := Int.eq_ofNat_of_zero_le b0
  exact (callsInp n (by omega) w hl).mono fun e w' he => ⟨_, he.1, hr ρ, he.2⟩
def hxU (d : Int) : Int := if d ≤ 9 then d + 48 else d + 55
theorem hxU_lo {d : Int} (h0 : 0 ≤ d) (h1 : d ≤ 15) : 48 ≤ hxU d ∧ hxU d ≤ 70 := by unfold hxU; split <;> omega
theorem hxU_sub {P Q : Int} (h0 : 0 ≤ P) (h1 : P ≤ 15) (hq : Q = P + 1) : [u8 (hxU P)] = (([u8 48, u8 49, u8 50, u8 51, u8 52, u8 53, u8 54, u8 55, u8 56, u8 57, u8 65, u8 66, u8 67, u8 68, u8 69, u8 70] : LB).drop P.toNat).take (Q - P).toNat := by
  obtain ⟨n, rfl⟩ := Int.eq_ofNat_of_zero_le h0
  have e : (Q - (n : Int)).toNat = 1 := by omega
  rw [e]
  have h : ∀ m : Fin 16, [u8 (hxU (m.val : Int))] = (([u8 48, u8 49, u8 50, u8 51, u8 52, u8 53, u8 54, u8 55, u8 56, u8 57, u8 65, u8 66, u8 67, u8 68, u8 69, u8 70] : LB).drop m.val).take 1 := by decide +kernel
  exact h ⟨n, by omega⟩
def escB (c : Int) : LB := if tb8 MLtr c = true ∨ tb8 MDgr c = true ∨ tb8 MInp c = true then [u8 c] else [u8 37, u8 (hxU (c / 16)), u8 (hxU (c % 16))]
def escS : LB → LB
  | [] => []
  | c :: r => escB (c.toNat : Int) ++ escS r
theorem drop_bt {s : LB} {i : Int} (h0 : 0 ≤ i) (h : i < (s.length : Int)) : s.drop i.toNat = u8 (bt s i.toNat) :: s.drop (i + 1).toNat := by
  have hlt : i.toNat < s.length := by omega
  rw [List.drop_eq_getElem_cons hlt, show (i + 1).toNat = i.toNat + 1 by omega]
  rw [u8_bt, List.getD_eq_getElem?_getD, List.getElem?_eq_getElem hlt, Option.getD_some]
theorem esc_step {s : LB} {i : Int} (h0 : 0 ≤ i) (h : i < (s.length : Int)) : escS (s.drop i.toNat) = escB (bt s i.toNat) ++ escS (s.drop (i + 1).toNat) := by
  rw [drop_bt h0 h, escS, u8_toNat (bt_lo _ _) (bt_hi _ _)]
theorem esc_end {s : LB} {i : Int} (h : ¬ i < (s.length : Int)) : escS (s.drop i.toNat) = [] := by
  rw [List.drop_eq_nil_of_le (by omega)]; rfl
theorem escB_len (c : Int) : 1 ≤ (escB c).length ∧ (escB c).length ≤ 3 := by unfold escB; split <;> simp
theorem escS_len : ∀ s : LB, s.length ≤ (escS s).length ∧ (escS s).length ≤ 3 * s.length
  | [] => by simp [escS]
  | c :: r => by
    have := escS_len r; have := escB_len (c.toNat : Int)
    simp only [escS, List.length_append, List.length_cons]; omega
theorem mid1 {l : LB} {P Q : Int} (h0 : 0 ≤ P) (h1 : P < l.length) (hq : Q = P + 1) : [u8 (bt l (Int.toNat (P)))] = (l.drop (Int.toNat P)).take (Int.toNat (Q - P)) := by
  rw [show (Q - P).toNat = 1 by omega, List.drop_eq_getElem_cons (by omega), u8_bt, List.getD_eq_getElem?_getD, List.getElem?_eq_getElem (by omega), Option.getD_some]; rfl
theorem hxU_bt {k : Int} (h0 : 0 ≤ k) (h1 : k ≤ 15) : bt ([u8 48, u8 49, u8 50, u8 51, u8 52, u8 53, u8 54, u8 55, u8 56, u8 57, u8 65, u8 66, u8 67, u8 68, u8 69, u8 70] : LB) (Int.toNat (k)) = hxU k := by
  obtain ⟨n, rfl⟩ := Int.eq_ofNat_of_zero_le h0
  have h : ∀ m : Fin 16, bt ([u8 48, u8 49, u8 50, u8 51, u8 52, u8 53, u8 54, u8 55, u8 56, u8 57, u8 65, u8 66, u8 67, u8 68, u8 69, u8 70] : LB) m.val = hxU (m.val : Int) := by decide +kernel
  exact h ⟨n, by omega⟩
section
variable {s o T : LB} {i : Int}
theorem er_keep (h0 : 0 ≤ i) (h : i < (s.length : Int)) (hk : tb8 MLtr (bt s (Int.toNat (i))) = true ∨ tb8 MDgr (bt s (Int.toNat (i))) = true ∨ tb8 MInp (bt s (Int.toNat (i))) = true) (hT : o ++ escS (s.drop (Int.toNat i)) = T) : (o ++ [u8 (bt s (Int.toNat (i)))]) ++ escS (s.drop (Int.toNat (i + 1))) = T := by
  rw [← hT, esc_step h0 h, show escB (bt s i.toNat) = [u8 (bt s i.toNat)] from if_pos hk, List.append_assoc]
theorem er_esc (h0 : 0 ≤ i) (h : i < (s.length : Int)) (hk : ¬ (tb8 MLtr (bt s (Int.toNat (i))) = true ∨ tb8 MDgr (bt s (Int.toNat (i))) = true ∨ tb8 MInp (bt s (Int.toNat (i))) = true)) (hT : o ++ escS (s.drop (Int.toNat i)) = T) : (o ++ [u8 37, u8 (hxU (bt s (Int.toNat (i)) / 16)), u8 (hxU (bt s (Int.toNat (i)) % 16))]) ++ escS (s.drop (Int.toNat (i + 1))) = T := by
  rw [← hT, esc_step h0 h, show escB (bt s i.toNat) = _ from if_neg hk, List.append_assoc]
end
noncomputable def bodyEr : Code := loopNo (Tryd.f6.body.getD .skip) 0
theorem keyEr : oneKey (loopsOf (Tryd.f6.body.getD .skip)) 3 0 0 = true := by kernel_rfl
def keepEr : List Nat := []
def epEr_0 : LA := [(0, .x 0), (3, .x 2), (4, .x 1)]
def hpEr_0 : LE := []
def nuEr_0 (s T : LB) (i : Int) (o : LB) : List Value := [St' s, .int .i64 (i), St' o, .int .i64 ((s.length : Int)), .int .i64 ((s.length : Int)), .int .u8 (bt s (Int.toNat (i))), .int .i64 (i + 1), St' ([u8 (bt s (Int.toNat (i)))]), St' (o ++ [u8 (bt s (Int.toNat (i)))]), .int .i64 ((s.length : Int)), .int .u8 (bt s (Int.toNat (i))), .int .i64 (i + 1), St' ([u8 (bt s (Int.toNat (i)))]), St' (o ++ [u8 (bt s (Int.toNat (i)))]), .int .i64 ((s.length : Int)), .int .u8 (bt s (Int.toNat (i))), .int .i64 (i + 1), St' ([u8 (bt s (Int.toNat (i)))]), St' (o ++ [u8 (bt s (Int.toNat (i)))]), .int .i64 ((s.length : Int)), .int .u8 (bt s (Int.toNat (i))), St' (o ++ [u8 37]), .int .u8 ((bt s (Int.toNat (i))) / 16), .int .u8 (hxU ((bt s (Int.toNat (i))) / 16)), .int .u8 ((bt s (Int.toNat (i))) % 16), .int .u8 (hxU ((bt s (Int.toNat (i))) % 16)), St' ([u8 (hxU ((bt s (Int.toNat (i))) / 16)), u8 (hxU ((bt s (Int.toNat (i))) % 16))]), St' (o ++ [u8 37, u8 (hxU ((bt s (Int.toNat (i))) / 16)), u8 (hxU ((bt s (Int.toNat (i))) % 16))]), .int .i64 (i + 1)]
def roEr_0 (s T : LB) (i : Int) (o : LB) : List Value := []
def epEr (st : Nat × Int × LB) : LA := epEr_0
def hpEr (st : Nat × Int × LB) : LE := hpEr_0
def nuEr (s T : LB) (st : Nat × Int × LB) : List Value := nuEr_0 s T (st.2.1) (st.2.2)
def roEr (s T : LB) (st : Nat × Int × LB) : List Value := roEr_0 s T (st.2.1) (st.2.2)
theorem onEr (s T : LB) (st : Nat × Int × LB) : ∀ j, (nuL (nuEr s T st) j).oneCell' = true := by
  intro j
  unfold nuEr
  exact nuL_one (l := nuEr_0 s T (st.2.1) (st.2.2)) rfl j
theorem ebEr (st : Nat × Int × LB) : (lfB (epEr st) && lfC keepEr) = true := by
  unfold epEr
  rfl
noncomputable def DEr (s T : LB) (st : Nat × Int × LB) (X : Nat → Value) : Cx := cx (nuX (nuEr s T st) (rX (roEr s T st) X)) (nuX_one (onEr s T st)) 0 laidE laidE_stab
def InvEr (s T : LB) (st : Nat × Int × LB) : Prop := (0 ≤ (st.2.1)) ∧ ((st.2.1) ≤ (s.length : Int)) ∧ ((st.2.2) ++ escS (s.drop (Int.toNat (st.2.1))) = T) ∧ (((st.2.2).length : Int) ≤ 3 * (st.2.1)) ∧ ((st.1) < 1)
abbrev CjEr (s T : LB) (tag : Nat) (i : Int) (o : LB) : Prop := (0 ≤ i) ∧ (i ≤ (s.length : Int)) ∧ (o ++ escS (s.drop (Int.toNat i)) = T) ∧ ((o.length : Int) ≤ 3 * i) ∧ (tag < 1)
theorem mkIEr (s T : LB) (tag : Nat) (i : Int) (o : LB) (h : CjEr s T tag i o) : InvEr s T (tag, i, o) := h
theorem unIEr (s T : LB) (tag : Nat) (i : Int) (o : LB) (h : InvEr s T (tag, i, o)) : (0 ≤ i) ∧ (i ≤ (s.length : Int)) ∧ (o ++ escS (s.drop (Int.toNat i)) = T) ∧ ((o.length : Int) ≤ 3 * i) ∧ (tag < 1) := h
def muEr (s T : LB) (st : Nat × Int × LB) : Nat := (s.length - (st.2.1).toNat)
abbrev RHEr (s T : LB) (E' : Cx) (ex' : Ex) (epx' : LA) (hpx' : LE) (st : Nat × Int × LB) (X : Nat → Value) : Prop := RoundH E' bodyEr keepEr 53 ex' 3 3 3 7 epEr hpEr epx' hpx' (InvEr s T) (muEr s T) (DEr s T) st X
noncomputable abbrev RNEr_0 (h : LK) (x : Ex) (th : LA) (sg : List (Nat × Nat)) (m : Nat) (ep : LA) (hp : LE) : Bool := okRdH (code (tbl h) 900 [] bodyEr (envOf (headOf epEr_0 keepEr) 53) ⟨lhSet hpEr_0 .leaf, 3, 0, 0⟩) x keepEr 53 7 th sg 3 m ep hp
theorem stEr_0 (s T : LB) (i : Int) (o : LB) {X : Nat → Value} {h : LK} (y : Nat × Int × LB) {th : LA} {sg : List (Nat × Nat)} (ho : ∀ a' r', (a', r') ∈ h → HOk (cx (nuX (nuEr_0 s T i o) (rX (roEr_0 s T i o) X)) (nuX_one (nuL_one (l := nuEr_0 s T i o) rfl)) 0 laidE laidE_stab) a' r') (hy : InvEr s T y) (lt : muEr s T y < muEr s T (0, i, o)) (ht : ThOk (cx (nuX (nuEr_0 s T i o) (rX (roEr_0 s T i o) X)) (nuX_one (nuL_one (l := nuEr_0 s T i o) rfl)) 0 laidE laidE_stab) (DEr s T y X) th) (run : RNEr_0 h .normal th sg 3 (epEr y) (hpEr y) = true) : RHEr s T E' x' e' h' (0, i, o) X :=
  RoundH.next (tb := tbl h) (L := []) (f := 900) y ((tabkOk _ _).hyps ho) (LpOk.nil _) rfl hy lt ht run
theorem lvEr_0 (s T : LB) (i : Int) (o : LB) {X : Nat → Value} {h : LK} {th : LA} {sg : List (Nat × Nat)} (hne : exB x' .normal = false) (ho : ∀ a' r', (a', r') ∈ h → HOk (cx (nuX (nuEr_0 s T i o) (rX (roEr_0 s T i o) X)) (nuX_one (nuL_one (l := nuEr_0 s T i o) rfl)) 0 laidE laidE_stab) a' r') (ht : ThOk (cx (nuX (nuEr_0 s T i o) (rX (roEr_0 s T i o) X)) (nuX_one (nuL_one (l := nuEr_0 s T i o) rfl)) 0 laidE laidE_stab) E' th) (run : RNEr_0 h x' th sg 7 e' h' = true) : RHEr s T E' x' e' h' (0, i, o) X :=
  RoundH.leave (tb := tbl h) (L := []) (f := 900) ((tabkOk _ _).hyps ho) (LpOk.nil _) rfl hne ht run
def hyEr_p0 : LK := [(.len (.x 0), .x 3), (.bin .lss (.x 1) (.x 3), .b false)]
theorem runEr_p0 : RNEr_0 hyEr_p0 (.exit 0) [(0, .x 2)] [] 7 [(3, .x 0)] [] = true := by kernel_rfl
def hyEr_p1 : LK := [(.len (.x 0), .x 4), (.bin .lss (.x 1) (.x 4), .b true), (.idx (.x 0) (.x 1), .x 5), (.call 17 [.x 5], .b true), (.bin .add (.x 1) (.i .i64 (.ofNat 1)), .x 6), (.sub (.x 0) (some (.x 1)) (some (.x 6)), .x 7), (.bin .add (.x 2) (.x 7), .x 8)]
theorem runEr_p1 : RNEr_0 hyEr_p1 .normal [(0, .x 0), (1, .x 6), (2, .x 8)] [] 3 epEr_0 hpEr_0 = true := by kernel_rfl
theorem nxEr_p1 (s T : LB) (c0 : s.length ≤ 400) (i : Int) (o : LB) (X : Nat → Value) (hI : InvEr s T (0, i, o)) (h0 : i < (s.length : Int)) (h1 : tb8 MLtr (bt s (Int.toNat (i))) = true) : RHEr s T E' x' e' h' (0, i, o) X := by
  obtain ⟨i0, i1, i2, i3, it⟩ := unIEr s T 0 i o hI
  have := bt_lo s (Int.toNat (i)); have := bt_hi s (Int.toNat (i))
  refine stEr_0 s T i o (h := hyEr_p1) (0, (i + 1), (o ++ [u8 (bt s (Int.toNat (i)))])) ?_ (mkIEr s T 0 (i + 1) (o ++ [u8 (bt s (Int.toNat (i)))]) ⟨by omega, by omega, er_keep (by omega) (by omega) (by first | exact .inl (by assumption) | exact .inr (.inl (by assumption)) | exact .inr (.inr (by assumption))) i2, by simp only [List.length_append, List.length_cons, List.length_nil]; omega, by omega⟩) (by show s.length - (i + 1).toNat < s.length - i.toNat; omega) (thXv (v := St' s) rfl rfl (thXi (b := ((i + 1))) rfl rfl (by omega) (thXv (v := St' (o ++ [u8 (bt s (Int.toNat (i)))])) rfl rfl (thNil)))) runEr_p1
  unfold hyEr_p1
  exact hc (lnV rfl rfl (by omega)) <|
   hc (ltT rfl rfl (by omega)) <|
   hc (ixV rfl rfl rfl (by omega)) <|
   hc (hokLtr (isX rfl) (by omega) (by omega) (denBT (by assumption))) <|
   hc (adC rfl rfl (by omega)) <|
   hc (kMid (P := i) (Q := i + 1) (isX rfl) (.inr ⟨_, _, rfl, (isX rfl)⟩) (.inr ⟨_, _, rfl, (isX rfl)⟩) (by omega) (by omega) (by omega) (denX (congrArg (fun l => St' l) (mid1 (by omega) (by omega) (by omega))))) <|
   hc (kCat (isX rfl) (isX rfl) (denX rfl) (by first | rfl | (simp; done)) (by first | omega | (simp <;> omega))) <|
   hnil
def hyEr_p2 : LK := [(.len (.x 0), .x 9), (.bin .lss (.x 1) (.x 9), .b true), (.idx (.x 0) (.x 1), .x 10), (.call 17 [.x 10], .b false), (.call 18 [.x 10], .b true), (.bin .add (.x 1) (.i .i64 (.ofNat 1)), .x 11), (.sub (.x 0) (some (.x 1)) (some (.x 11)), .x 12), (.bin .add (.x 2) (.x 12), .x 13)]
theorem runEr_p2 : RNEr_0 hyEr_p2 .normal [(0, .x 0), (1, .x 11), (2, .x 13)] [] 3 epEr_0 hpEr_0 = true := by kernel_rfl
theorem nxEr_p2 (s T : LB) (c0 : s.length ≤ 400) (i : Int) (o : LB) (X : Nat → Value) (hI : InvEr s T (0, i, o)) (h0 : i < (s.length : Int)) (h1 : ¬ (tb8 MLtr (bt s (Int.toNat (i))) = true)) (h2 : tb8 MDgr (bt s (Int.toNat (i))) = true) : RHEr s T E' x' e' h' (0, i, o) X := by
  obtain ⟨i0, i1, i2, i3, it⟩ := unIEr s T 0 i o hI
  have := bt_lo s (Int.toNat (i)); have := bt_hi s (Int.toNat (i))
  refine stEr_0 s T i o (h := hyEr_p2) (0, (i + 1), (o ++ [u8 (bt s (Int.toNat (i)))])) ?_ (mkIEr s T 0 (i + 1) (o ++ [u8 (bt s (Int.toNat (i)))]) ⟨by omega, by omega, er_keep (by omega) (by omega) (by first | exact .inl (by assumption) | exact .inr (.inl (by assumption)) | exact .inr (.inr (by assumption))) i2, by simp only [List.length_append, List.length_cons, List.length_nil]; omega, by omega⟩) (by show s.length - (i + 1).toNat < s.length - i.toNat; omega) (thXv (v := St' s) rfl rfl (thXi (b := ((i + 1))) rfl rfl (by omega) (thXv (v := St' (o ++ [u8 (bt s (Int.toNat (i)))])) rfl rfl (thNil)))) runEr_p2
  unfold hyEr_p2
  exact hc (lnV rfl rfl (by omega)) <|
   hc (ltT rfl rfl (by omega)) <|
   hc (ixV rfl rfl rfl (by omega)) <|
   hc (hokLtr (isX rfl) (by omega) (by omega) (denBF (by assumption))) <|
   hc (hokDgr (isX rfl) (by omega) (by omega) (denBT (by assumption))) <|
   hc (adC rfl rfl (by omega)) <|
   hc (kMid (P := i) (Q := i + 1) (isX rfl) (.inr ⟨_, _, rfl, (isX rfl)⟩) (.inr ⟨_, _, rfl, (isX rfl)⟩) (by omega) (by omega) (by omega) (denX (congrArg (fun l => St' l) (mid1 (by omega) (by omega) (by omega))))) <|
   hc (kCat (isX rfl) (isX rfl) (denX rfl) (by first | rfl | (simp; done)) (by first | omega | (simp <;> omega))) <|
   hnil
def hyEr_p3 : LK := [(.len (.x 0), .x 14), (.bin .lss (.x 1) (.x 14), .b true), (.idx (.x 0) (.x 1), .x 15), (.call 17 [.x 15], .b false), (.call 18 [.x 15], .b false), (.call 19 [.x 15, .s 5 203983629869], .b true), (.bin .add (.x 1) (.i .i64 (.ofNat 1)), .x 16), (.sub (.x 0) (some (.x 1)) (some (.x 16)), .x 17), (.bin .add (.x 2) (.x 17), .x 18)]
theorem runEr_p3 : RNEr_0 hyEr_p3 .normal [(0, .x 0), (1, .x 16), (2, .x 18)] [] 3 epEr_0 hpEr_0 = true := by kernel_rfl
theorem nxEr_p3 (s T : LB) (c0 : s.length ≤ 400) (i : Int) (o : LB) (X : Nat → Value) (hI : InvEr s T (0, i, o)) (h0 : i < (s.length : Int)) (h1 : ¬ (tb8 MLtr (bt s (Int.toNat (i))) = true)) (h2 : ¬ (tb8 MDgr (bt s (Int.toNat (i))) = true)) (h3 : tb8 MInp (bt s (Int.toNat (i))) = true) : RHEr s T E' x' e' h' (0, i, o) X := by
  obtain ⟨i0, i1, i2, i3, it⟩ := unIEr s T 0 i o hI
  have := bt_lo s (Int.toNat (i)); have := bt_hi s (Int.toNat (i))
  refine stEr_0 s T i o (h := hyEr_p3) (0, (i + 1), (o ++ [u8 (bt s (Int.toNat (i)))])) ?_ (mkIEr s T 0 (i + 1) (o ++ [u8 (bt s (Int.toNat (i)))]) ⟨by omega, by omega, er_keep (by omega) (by omega) (by first | exact .inl (by assumption) | exact .inr (.inl (by assumption)) | exact .inr (.inr (by assumption))) i2, by simp only [List.length_append, List.length_cons, List.length_nil]; omega, by omega⟩) (by show s.length - (i + 1).toNat < s.length - i.toNat; omega) (thXv (v := St' s) rfl rfl (thXi (b := ((i + 1))) rfl rfl (by omega) (thXv (v := St' (o ++ [u8 (bt s (Int.toNat (i)))])) rfl rfl (thNil)))) runEr_p3
  unfold hyEr_p3
  exact hc (lnV rfl rfl (by omega)) <|
   hc (ltT rfl rfl (by omega)) <|
   hc (ixV rfl rfl rfl (by omega)) <|
   hc (hokLtr (isX rfl) (by omega) (by omega) (denBF (by assumption))) <|
   hc (hokDgr (isX rfl) (by omega) (by omega) (denBF (by assumption))) <|
   hc (hokInp (isX rfl) (isSx (l := [u8 45, u8 46, u8 95, u8 126, u8 47]) 5 203983629869 rfl) (by omega) (by omega) (denBT (by assumption))) <|
   hc (adC rfl rfl (by omega)) <|
   hc (kMid (P := i) (Q := i + 1) (isX rfl) (.inr ⟨_, _, rfl, (isX rfl)⟩) (.inr ⟨_, _, rfl, (isX rfl)⟩) (by omega) (by omega) (by omega) (denX (congrArg (fun l => St' l) (mid1 (by omega) (by omega) (by omega))))) <|
   hc (kCat (isX rfl) (isX rfl) (denX rfl) (by first | rfl | (simp; done)) (by first | omega | (simp <;> omega))) <|
   hnil
def hyEr_p4 : LK := [(.len (.x 0), .x 19), (.bin .lss (.x 1) (.x 19), .b true), (.idx (.x 0) (.x 1), .x 20), (.call 17 [.x 20], .b false), (.call 18 [.x 20], .b false), (.call 19 [.x 20, .s 5 203983629869], .b false), (.bin .add (.x 2) (.s 1 37), .x 21), (.bin .quo (.x 20) (.i .u8 (.ofNat 16)), .x 22), (.idx (.s 16 93405612720827812017303888595717861680) (.x 22), .x 23), (.bin .rem (.x 20) (.i .u8 (.ofNat 16)), .x 24), (.idx (.s 16 93405612720827812017303888595717861680) (.x 24), .x 25), (.bytes [.x 23, .x 25], .x 26), (.bin .add (.x 21) (.x 26), .x 27), (.bin .add (.x 1) (.i .i64 (.ofNat 1)), .x 28)]
theorem runEr_p4 : RNEr_0 hyEr_p4 .normal [(0, .x 0), (1, .x 28), (2, .x 27)] [] 3 epEr_0 hpEr_0 = true := by kernel_rfl
theorem nxEr_p4 (s T : LB) (c0 : s.length ≤ 400) (i : Int) (o : LB) (X : Nat → Value) (hI : InvEr s T (0, i, o)) (h0 : i < (s.length : Int)) (h1 : ¬ (tb8 MLtr (bt s (Int.toNat (i))) = true)) (h2 : ¬ (tb8 MDgr (bt s (Int.toNat (i))) = true)) (h3 : ¬ (tb8 MInp (bt s (Int.toNat (i))) = true)) : RHEr s T E' x' e' h' (0, i, o) X := by
  obtain ⟨i0, i1, i2, i3, it⟩ := unIEr s T 0 i o hI
  have := bt_lo s (Int.toNat (i)); have := bt_hi s (Int.toNat (i))
  have := hxU_lo (d := (bt s (Int.toNat (i))) / 16) (by omega) (by omega)
  have := hxU_lo (d := (bt s (Int.toNat (i))) % 16) (by omega) (by omega)
  refine stEr_0 s T i o (h := hyEr_p4) (0, (i + 1), (o ++ [u8 37, u8 (hxU ((bt s (Int.toNat (i))) / 16)), u8 (hxU ((bt s (Int.toNat (i))) % 16))])) ?_ (mkIEr s T 0 (i + 1) (o ++ [u8 37, u8 (hxU ((bt s (Int.toNat (i))) / 16)), u8 (hxU ((bt s (Int.toNat (i))) % 16))]) ⟨by omega, by omega, er_esc (by omega) (by omega) (fun h => h.elim (by assumption) (fun h => h.elim (by assumption) (by assumption))) i2, by simp only [List.length_append, List.length_cons, List.length_nil]; omega, by omega⟩) (by show s.length - (i + 1).toNat < s.length - i.toNat; omega) (thXv (v := St' s) rfl rfl (thXi (b := ((i + 1))) rfl rfl (by omega) (thXv (v := St' (o ++ [u8 37, u8 (hxU ((bt s (Int.toNat (i))) / 16)), u8 (hxU ((bt s (Int.toNat (i))) % 16))])) rfl rfl (thNil)))) runEr_p4
  unfold hyEr_p4
  exact hc (lnV rfl rfl (by omega)) <|
   hc (ltT rfl rfl (by omega)) <|
   hc (ixV rfl rfl rfl (by omega)) <|
   hc (hokLtr (isX rfl) (by omega) (by omega) (denBF (by assumption))) <|
   hc (hokDgr (isX rfl) (by omega) (by omega) (denBF (by assumption))) <|
   hc (hokInp (isX rfl) (isSx (l := [u8 45, u8 46, u8 95, u8 126, u8 47]) 5 203983629869 rfl) (by omega) (by omega) (denBF (by assumption))) <|
   hc (kCat (isX rfl) (isSx (l := [u8 37]) 1 37 rfl) (denX rfl) (by first | rfl | (simp; done)) (by first | omega | (simp <;> omega))) <|
   hc (kQuo (isX rfl) (isZ (m := 16) rfl) (denX rfl) (by omega) (by omega) rfl (fU8 (by omega) (by omega))) <|
   hc (kIdxE (i := (Int.toNat ((bt s (Int.toNat (i))) / 16))) (isSx (l := [u8 48, u8 49, u8 50, u8 51, u8 52, u8 53, u8 54, u8 55, u8 56, u8 57, u8 65, u8 66, u8 67, u8 68, u8 69, u8 70]) 16 93405612720827812017303888595717861680 rfl) (isX rfl) (denX rfl) (by omega) (by simp only [List.length_cons, List.length_nil]; omega) (hxU_bt (by omega) (by omega))) <|
   hc (kRem (isX rfl) (isZ (m := 16) rfl) (denX rfl) (by omega) (by omega) rfl) <|
   hc (kIdxE (i := (Int.toNat ((bt s (Int.toNat (i))) % 16))) (isSx (l := [u8 48, u8 49, u8 50, u8 51, u8 52, u8 53, u8 54, u8 55, u8 56, u8 57, u8 65, u8 66, u8 67, u8 68, u8 69, u8 70]) 16 93405612720827812017303888595717861680 rfl) (isX rfl) (denX rfl) (by omega) (by simp only [List.length_cons, List.length_nil]; omega) (hxU_bt (by omega) (by omega))) <|
   hc (kBytesB (bs := [u8 (hxU ((bt s (Int.toNat (i))) / 16)), u8 (hxU ((bt s (Int.toNat (i))) % 16))]) (.cons (isB8 (isX rfl) (by omega) (by omega)) (.cons (isB8 (isX rfl) (by omega) (by omega)) .nil)) (denX rfl)) <|
   hc (kCat (isX rfl) (isX rfl) (denX rfl) (by first | rfl | (simp; done)) (by first | omega | (simp <;> omega))) <|
   hc (adC rfl rfl (by omega)) <|
   hnil
def nuEEr_0 (s T : LB) : List Value := [St' T]
def roEEr_0 (s T : LB) : List Value := []
noncomputable def EEr_0 (s T : LB) : Cx := cx (nuX (nuEEr_0 s T) (rX (roEEr_0 s T) (fun _ => .bool true))) (nuX_one (nuL_one (l := nuEEr_0 s T) rfl)) 0 laidE laidE_stab
theorem roundsEr_0 (s T : LB) (c0 : s.length ≤ 400) (st : Nat × Int × LB) (X : Nat → Value) (hI : InvEr s T st) : RHEr s T (EEr_0 s T) (.exit 0) [(3, .x 0)] [] st X := by
  obtain ⟨tag, i, o⟩ := st
  have hI0 := hI
  obtain ⟨i0, i1, i2, i3, it⟩ := unIEr s T tag i o hI
  obtain rfl : tag = 0 := by omega
  skip
  by_cases h0 : i < (s.length : Int)
  · by_cases h1 : tb8 MLtr (bt s (Int.toNat (i))) = true
    · exact nxEr_p1 s T c0 i o X hI0 h0 h1
    · by_cases h2 : tb8 MDgr (bt s (Int.toNat (i))) = true
      · exact nxEr_p2 s T c0 i o X hI0 h0 h1 h2
      · by_cases h3 : tb8 MInp (bt s (Int.toNat (i))) = true
        · exact nxEr_p3 s T c0 i o X hI0 h0 h1 h2 h3
        · exact nxEr_p4 s T c0 i o X hI0 h0 h1 h2 h3
  · skip
    refine lvEr_0 s T i o (h := hyEr_p0) rfl ?_ (thXe (v := St' o) (u := St' T) rfl rfl (congrArg (fun l => St' l) (by rw [← i2, esc_end (by omega)]; simp)) (thNil)) runEr_p0
    unfold hyEr_p0
    exact hc (lnV rfl rfl (by omega)) <|
     hc (ltF rfl rfl (by omega)) <|
     hnil
theorem lfOkEr_0 {l : LF} {h : LH} (s T : LB) (c0 : s.length ≤ 400) (st : Nat × Int × LB) (hI : InvEr s T st) (hl : l.hp = some h) (hs : lfSame l h 53 keepEr (.exit 0) 3 3 7 = true) {th0 : LA} {sg0 : List (Nat × Nat)} (hth0 : ∀ X, ThOk (cx nu one 0 laidE laidE_stab) (DEr s T st X) th0) (h0 : startOk l h 53 3 3 th0 sg0 (epEr st) (hpEr st) = true) {thx : LA} (hthx : ThOk (EEr_0 s T) (cx nu one 0 laidE laidE_stab) thx) (hx : exitOk l h 53 3 7 thx [(3, .x 0)] [] = true) : LfOk (cx nu one 0 laidE laidE_stab) bodyEr l :=
  lfOkX (E := EEr_0 s T) (InvEr s T) (muEr s T) (DEr s T) (fun _ _ => rfl) (fun _ _ => rfl) (fun _ _ => rfl) (fun st X t ht => nuX_keep.trans (rX_keep ((by decide : ∀ t, t ∈ keepEr → t < 1000000) t ht))) rfl rfl rfl hl hs ebEr rfl rfl st hI hth0 h0 hthx hx (roundsEr_0 s T c0)
noncomputable def fi6 : FI := (tabk.fn.get 6).getD default
theorem fi6_at : tabk.fn.get 6 = some fi6 := by kernel_rfl
theorem fi6_body : fi6.body = some (Tryd.f6.body.getD .skip) := by kernel_rfl
theorem fiB6 : fi6.body.isSome = true := by rw [fi6_body]; rfl
theorem cfA6 : (loopsOf (Tryd.f6.body.getD .skip)).all (fun b => !(keyEq (Go.AX.keyOf b) 8888888)) = true := by kernel_rfl
def hyEscR_0 : LK := []
def lh58 : LH := ⟨3, 3, 7, [], []⟩
def lf58 : LF := ⟨3, 53, [(0, .x 0), (3, .s 0 0), (4, .i .i64 (.ofNat 0))], [], (.exit 0), [(3, .x 1)], some lh58⟩
noncomputable def tabEscR_0 : Tab := addLps ({ tabk with hyp := hyEscR_0 }) 6 fi6 [lf58]
theorem runEscR_0 : okA (call tabEscR_0 9000 6 [.x 0] ⟨H0 , 3, 0, 0⟩) (.x 1) = true := by kernel_rfl
def nuEscR_0 (s : LB) : List Value := [St' s, St' (escS s)]
theorem pathEscR_0 (s : LB) (b0 : s.length ≤ 9223372036854775807) (p0 : s.length ≤ 400) (w : World) (hl : laidE w) : CwR 6 #[St' s] w (St' (escS s)) := by
  have := escS_len s
  have ho : ∀ k r, (k, r) ∈ hyEscR_0 → HOk (cx (nuL (nuEscR_0 s)) (fun j _ => nuL_one (l := nuEscR_0 s) rfl j) 0 laidE laidE_stab) k r := by
    unfold hyEscR_0
    exact hnil
  refine runC (tb := tabEscR_0) (ra := .x 1) rfl (AllOk.lp1 ((tabkOk (nuL (nuEscR_0 s)) (fun j _ => nuL_one (l := nuEscR_0 s) rfl j)).hyps ho) (by omega) fi6_at fi6_body (lfCons (lpKnown rfl ⟨0, keyEr, lfOkEr_0 (l := lf58) (h := lh58) s (escS s) (by omega) (0, (0 : Int), ([] : LB)) (mkIEr s (escS s) 0 (0 : Int) ([] : LB) ⟨by omega, by omega, by simp, by simp, by omega⟩) rfl (by kernel_rfl) (th0 := [(0, .x 0), (1, .i .i64 (.ofNat 0)), (2, .s 0 0)]) (sg0 := []) (fun X => thXv (v := St' s) rfl rfl (thCons (show Is _ (.i .i64 (.ofNat 0)) (.int .i64 ((0 : Int))) from isTo (v := .int .i64 0) (isI _ _) (by first | rfl | (congr 1; omega))) (thCons (show Is _ (.s 0 0) (St' ([] : LB)) from isTo (v := St' ([] : LB)) (isSx (l := ([] : LB)) 0 0 rfl) (by first | rfl | (simp; done))) (thNil)))) (by kernel_rfl) (thx := [(1, .x 0)]) (thXv (v := St' (escS s)) rfl rfl (thNil)) (by kernel_rfl)⟩) lfNil)) rfl (get_lps (by omega)) fiB6 (runEscR_0 ) (args := [St' s]) (by simp only [RelL, Rel]; exact ⟨_, _, rfl, rfl, rfl⟩) w hl fun x hx => ?_
  simp only [Rel, RelL] at hx
  exact hx
theorem callsEscR (s : LB) (b0 : s.length ≤ 9223372036854775807) (p0 : s.length ≤ 400) (w : World) (hl : laidE w) : CwR 6 #[St' s] w (St' (escS s)) := by
  rw [show (St' (escS s) : Value) = (St' (escS s) : Value) from by rfl]
  exact pathEscR_0 s b0 p0 w hl
theorem hokEscR {x0 r : AV} {s : LB} (i0 : Is (cx nu one 0 laidE laidE_stab) x0 (St' s)) (hr : Den (cx nu one 0 laidE laidE_stab) r (St' (escS s))) (b0 : s.length ≤ 9223372036854775807) (p0 : s.length ≤ 400) : HOk (cx nu one 0 laidE laidE_stab) (.call 6 [x0]) r := by
  intro ρ args ha w hl _
  simp only [RelL] at ha
  obtain ⟨v0, t0, rfl, a0, rfl⟩ := ha
  have e0 := i0 ρ _ a0; subst e0
  exact (callsEscR s b0 p0 w hl).mono fun e w' he => ⟨_, he.1, hr ρ, he.2⟩
def hasZ (s : LB) : Bool := s.any (· == 0)
theorem u8_self (b : UInt8) : u8 (b.toNat : Int) = b := by unfold u8; simp
theorem bt_cons0 (a : UInt8) (r : LB) : bt (a :: r) 0 = (a.toNat : Int) := rfl
theorem bt_cons1 (a b : UInt8) (r : LB) : bt (a :: b :: r) 1 = (b.toNat : Int) := rfl
theorem bt_cons2 (a b c : UInt8) (r : LB) : bt (a :: b :: c :: r) 2 = (c.toNat : Int) := rfl
abbrev plB (c : Int) : Prop := tb8 MLtr c = true ∨ tb8 MDgr c = true ∨ tb8 MInp c = true
theorem pl_no : ¬ plB 37 ∧ ¬ plB 0 := by decide +kernel
theorem dgt_hx {d : Int} (h0 : 0 ≤ d) (h1 : d ≤ 15) : vDgt (hxU d) = d := by
  obtain ⟨n, rfl⟩ := Int.eq_ofNat_of_zero_le h0
  have h : ∀ m : Fin 16, vDgt (hxU (m.val : Int)) = (m.val : Int) := by decide +kernel
  exact h ⟨n, by omega⟩
theorem unesc_cons (c : UInt8) (t : LB) (hz : ¬ c = 0) : unS (escB (c.toNat : Int) ++ t) = (unS t).map (c :: ·) := by
  have hc0 : 0 ≤ (c.toNat : Int) := by omega
  have hc1 : (c.toNat : Int) ≤ 255 := by have := c.toNat_lt; omega
  have hu : u8 (c.toNat : Int) = c := u8_self c
  by_cases hp : plB (c.toNat : Int)
  · have hne : ¬ ((c.toNat : Int) = 37) := fun e => by rw [e] at hp; exact pl_no.1 hp
    rw [escB, if_pos hp, hu, List.singleton_append, un_plain (by simp) (by rw [bt_cons0]; exact hne), bt_cons0, hu]; rfl
  · have q1 := hxU_lo (d := (c.toNat : Int) / 16) (by omega) (by omega)
    have q2 := hxU_lo (d := (c.toNat : Int) % 16) (by omega) (by omega)
    have b0 : bt (u8 37 :: u8 (hxU ((c.toNat : Int) / 16)) :: u8 (hxU ((c.toNat : Int) % 16)) :: t) 0 = 37 := by rw [bt_cons0, u8_toNat (by omega) (by omega)]
    have b1 : bt (u8 37 :: u8 (hxU ((c.toNat : Int) / 16)) :: u8 (hxU ((c.toNat : Int) % 16)) :: t) 1 = hxU ((c.toNat : Int) / 16) := by rw [bt_cons1, u8_toNat (by omega) (by omega)]
    have b2 : bt (u8 37 :: u8 (hxU ((c.toNat : Int) / 16)) :: u8 (hxU ((c.toNat : Int) % 16)) :: t) 2 = hxU ((c.toNat : Int) % 16) := by rw [bt_cons2, u8_toNat (by omega) (by omega)]
    have v1 : vDgt (hxU ((c.toNat : Int) / 16)) = (c.toNat : Int) / 16 := dgt_hx (by omega) (by omega)
    have v2 : vDgt (hxU ((c.toNat : Int) % 16)) = (c.toNat : Int) % 16 := dgt_hx (by omega) (by omega)
    rw [escB, if_neg hp]
    show unS (u8 37 :: u8 (hxU ((c.toNat : Int) / 16)) :: u8 (hxU ((c.toNat : Int) % 16)) :: t) = _
    have e0 : ¬ ((c.toNat : Int) = 0) := fun e => hz (by rw [← hu, e]; rfl)
    rw [un_esc b0 (by simp only [List.length_cons]; omega) ⟨by rw [b1, v1]; omega, by rw [b2, v2]; omega, by rw [b1, b2, v1, v2]; omega⟩, b1, b2, v1, v2]
    rw [show ((c.toNat : Int) / 16 * 16 + (c.toNat : Int) % 16) % 256 = (c.toNat : Int) by omega, hu]; rfl
theorem unesc_esc : ∀ s : LB, hasZ s = false → unS (escS s) = some s
  | [], _ => un_nil rfl
  | c :: r, h => by
    unfold hasZ at h
    rw [List.any_cons, Bool.or_eq_false_iff] at h
    rw [escS, unesc_cons c _ (by simpa using h.1), unesc_esc r h.2]; rfl
theorem es_app : ∀ a b : LB, escS (a ++ b) = escS a ++ escS b
  | [], b => rfl
  | c :: a, b => by rw [List.cons_append, escS, escS, es_app a b, List.append_assoc]
theorem es_47 : escS [47] = [47] := by
  show escB ((47 : UInt8).toNat : Int) ++ escS [] = [47]
  have h : plB 47 := by decide +kernel
  rw [show ((47 : UInt8).toNat : Int) = 47 from rfl, escB, if_pos h]; rfl
theorem es_no : ∀ p : LB, no47 p → no47 (escS p)
  | [], h => h
  | c :: r, h => by
    intro x hx
    rw [escS] at hx
    rcases List.mem_append.1 hx with hx | hx
    · unfold escB at hx
      split at hx
      · have : x = c := by rw [u8_self] at hx; simpa using hx
        subst this; exact h _ (List.mem_cons_self ..)
      · have hc1 : (c.toNat : Int) ≤ 255 := by have := c.toNat_lt; omega
        have hh : ∀ m : Fin 16, u8 (hxU (m.val : Int)) ≠ 47 := by decide +kernel
        have g1 := hh ⟨c.toNat / 16, by omega⟩
        have g2 := hh ⟨c.toNat % 16, by omega⟩
        simp only [List.mem_cons, List.not_mem_nil, or_false] at hx
        rcases hx with rfl | rfl | rfl
        · decide
        · have e : (c.toNat : Int) / 16 = ((c.toNat / 16 : Nat) : Int) := by omega
          rw [e]; exact g1
        · have e : (c.toNat : Int) % 16 = ((c.toNat % 16 : Nat) : Int) := by omega
          rw [e]; exact g2
    · exact es_no r (fun y hy => h y (List.mem_cons_of_mem _ hy)) x hx
theorem pb_z {x : LB} (h : x.any pbB = false) : hasZ x = false := by
  unfold hasZ
  rw [List.any_eq_false] at h ⊢
  intro c hc e
  have e : c = 0 := by simpa using e
  subst e
  exact h 0 hc (by decide +kernel)
theorem back {s a : LB} (h : cleanG unS s = some a) : cleanG unS (escS a) = some a := clean_back (fun x hx => unesc_esc x (pb_z hx)) es_app es_47 es_no h
theorem cln_len {s a : LB} (h : cleanG unS s = some a) : a.length ≤ s.length := clean_len (un_nil rfl) (fun r p => un_le) h
abbrev cA (s : LB) : LB := (cleanG unS s).getD []
/-- what is put right: its segments are good; it is they, each behind a slash, with a slash behind them or none -/
theorem cA_all {s : LB} (h : ¬ cleanG unS s = none) : cleanG unS s = some (cA s) ∧ cleanG unS (escS (cA s)) = some (cA s) ∧ (cA s).length ≤ s.length ∧ (∀ q ∈ segS (cA s), good q) ∧ (cA s = fl47 (segS (cA s)) ∨ cA s = fl47 (segS (cA s)) ++ [u8 47]) ∧ 1 ≤ (cA s).length ∧ (segS (cA s) = [] → cA s = [u8 47]) := by
  have e : cleanG unS s = some (cA s) := by unfold cA; cases e : cleanG unS s with | none => exact absurd e h | some a => rfl
  obtain ⟨_, k, t, k', _, _, ea, hg⟩ := clean_inv e
  rw [out_eq] at ea
  obtain ⟨t', ht, eo, hn⟩ := outR_sh (k', (decG unS t).getD [])
  have hs : segS (cA s) = k' := by rw [ea]; exact seg_out hg
  have ea' : cA s = fl47 k' ++ t' := ea.trans eo
  have h1 : 1 ≤ (cA s).length := by
    have e2 := ea; rw [← out_eq] at e2; rw [e2]; unfold outS; simp
  refine ⟨e, back e, cln_len e, ?_, ?_, h1, fun hk => ?_⟩
  · rw [hs]; exact hg
  · rw [hs]; rcases ht with h2 | h2
    · left; rw [ea', h2, List.append_nil]
    · right; rw [ea', h2]; rfl
  · rw [hs] at hk; rw [ea', hn hk, hk]; rfl
theorem beg_root (a : LB) : begS a [u8 47] = true := bg_z (by decide)
theorem fl_step {l : LL} {i : Int} {s : LB} (h0 : 0 ≤ i) (h : i < (l.length : Int)) (hs : s = fl47 (l.take i.toNat)) : s ++ ([u8 47] ++ List.getD l (Int.toNat (i)) []) = fl47 (l.take (i + 1).toNat) := by
  have hlt : i.toNat < l.length := by omega
  rw [hs, show (i + 1).toNat = i.toNat + 1 by omega, List.take_add_one, List.getElem?_eq_getElem hlt, Option.toList_some, flat_app, List.getD_eq_getElem?_getD, List.getElem?_eq_getElem hlt, Option.getD_some]
  show _ ++ _ = _ ++ (47 :: (_ ++ [])); rw [List.append_nil]; rfl
theorem fl_end {l : LL} {i : Int} {s : LB} (h : ¬ i < (l.length : Int)) (hs : s = fl47 (l.take i.toNat)) : s = fl47 l := by rw [hs, List.take_of_length_le (by omega)]
theorem gd_at {l : LL} {i : Int} (hg : ∀ q ∈ l, good q) (h0 : 0 ≤ i) (h : i < (l.length : Int)) : ¬ List.getD l (Int.toNat (i)) [] = [u8 46] ∧ ¬ List.getD l (Int.toNat (i)) [] = [u8 46, u8 46] ∧ (List.getD l (Int.toNat (i)) []).length + 1 + (fl47 (l.take i.toNat)).length ≤ (fl47 l).length := by
  have hlt : i.toNat < l.length := by omega
  have e : List.getD l (Int.toNat (i)) [] = l[i.toNat] := by rw [List.getD_eq_getElem?_getD, List.getElem?_eq_getElem hlt, Option.getD_some]
  have := hg _ (List.getElem_mem hlt)
  have e2 : l = l.take i.toNat ++ (l[i.toNat] :: l.drop (i.toNat + 1)) := by rw [← List.drop_eq_getElem_cons hlt, List.take_append_drop]
  refine ⟨by rw [e]; exact this.2.1, by rw [e]; exact this.2.2.1, ?_⟩
  rw [e]; conv => rhs; rw [e2, flat_app]
  simp only [fl47, List.length_append, List.length_cons]; omega
end Go.Proofs.YtipdlfkjablekaaDoor.pathBack
