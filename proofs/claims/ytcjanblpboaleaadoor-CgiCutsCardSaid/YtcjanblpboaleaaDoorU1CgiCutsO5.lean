/- A part of the proof: what an interpreter answers on partly known states is what the program answers. No condition. -/
import Derived.Test.YtcjanblpboaleaaDoorU1CgiCutsO4
set_option maxRecDepth 100000
set_option linter.unusedVariables false
set_option linter.unusedSimpArgs false
set_option maxHeartbeats 4000000
namespace Go.Proofs.YtcjanblpboaleaaDoor.cgiCuts
open Go Go.AX Go.Proofs Go.Proofs.YtcjanblpboaleaaDoor
variable {nu : Nat → Value} {one : ∀ i, i < 1000000 → (nu i).oneCell' = true} {E' : Cx} {x' : Ex} {e' : LA} {h' : LE}
def dC (nm : LB) (l : List (LB × LB)) : List (LB × LB) := l.filter fun p => !(az p.1 == az nm)
theorem aX8 {nm : LB} {z : List (LB × LB)} {i : Int} (h0 : 0 ≤ i) (h1 : i < (z.length : Int)) (h : ¬ az (ay z i.toNat).1 = az nm) : dC nm (z.take (i + 1).toNat) = dC nm (z.take i.toNat) ++ [((ay z i.toNat).1, (ay z i.toNat).2)] := by
 have e : (az (ay z i.toNat).1 == az nm) = false := by simpa using h
 rw [vL h0 h1, dC, dC, List.filter_append, List.filter_cons, e]; rfl
theorem aX9 {nm : LB} {z : List (LB × LB)} {i : Int} (h0 : 0 ≤ i) (h1 : i < (z.length : Int)) (h : az (ay z i.toNat).1 = az nm) : dC nm (z.take (i + 1).toNat) = dC nm (z.take i.toNat) := by
 have e : (az (ay z i.toNat).1 == az nm) = true := by simpa using h
 rw [vL h0 h1, dC, dC, List.filter_append, List.filter_cons, e]; simp
theorem Ac {nm : LB} {z : List (LB × LB)} {i : Int} (h0 : 0 ≤ i) (h1 : ¬ i < (z.length : Int)) : dC nm (z.take i.toNat) = dC nm z := by
 rw [List.take_of_length_le (by omega)]
theorem lz (nm : LB) (l : List (LB × LB)) : (dC nm l).length ≤ l.length := List.length_filter_le _ _
def ax (nm : LB) (l : List (LB × LB)) : List LB := (l.filter fun p => az p.1 == az nm).map fun p => p.2
theorem getS_y {nm : LB} {z : List (LB × LB)} {i : Int} (h0 : 0 ≤ i) (h1 : i < (z.length : Int)) (h : az (ay z i.toNat).1 = az nm) : ax nm (z.take (i + 1).toNat) = ax nm (z.take i.toNat) ++ [(ay z i.toNat).2] := by
 have e : (az (ay z i.toNat).1 == az nm) = true := by simpa using h
 rw [vL h0 h1, ax, ax, List.filter_append, List.filter_cons, e, List.map_append]; rfl
theorem getS_n {nm : LB} {z : List (LB × LB)} {i : Int} (h0 : 0 ≤ i) (h1 : i < (z.length : Int)) (h : ¬ az (ay z i.toNat).1 = az nm) : ax nm (z.take (i + 1).toNat) = ax nm (z.take i.toNat) := by
 have e : (az (ay z i.toNat).1 == az nm) = false := by simpa using h
 rw [vL h0 h1, ax, ax, List.filter_append, List.filter_cons, e]; simp
theorem z8 {nm : LB} {z : List (LB × LB)} {i : Int} (h0 : 0 ≤ i) (h1 : ¬ i < (z.length : Int)) : ax nm (z.take i.toNat) = ax nm z := by
 rw [List.take_of_length_le (by omega)]
theorem dO (nm : LB) (l : List (LB × LB)) : (ax nm l).length ≤ l.length := by
 rw [ax, List.length_map]; exact List.length_filter_le _ _
theorem mT {l : List (LB × LB)} {N : Nat} (h : ∀ q, q ∈ l → q.1.length ≤ N) (j : Nat) : (ay l j).1.length ≤ N := by
 rw [ay, List.getD_eq_getElem?_getD]
 cases hj : l[j]? with
 | none => exact Nat.zero_le _
 | some n => exact h n (List.mem_of_getElem? hj)
def rsT : List (Int × Nat × Nat) := [(100, 8, 7310870969309884227), (200, 2, 19279), (204, 10, 549830964450506171248462), (302, 5, 431349919558), (304, 12, 31071100227558498498946297678), (400, 11, 140780338804635016341250370), (404, 9, 1852633797634385276750), (405, 18, 8745755868910566186333966405088171768702285), (413, 17, 34506023437847614257170505716640053620547), (431, 31, 179165517096865300475584183012726680791192107984450893768296950105516369234), (500, 21, 167247436870560220167275643875038730101865462394441), (501, 15, 521287433856272433239714013096734542), (502, 11, 146740296195328310404997442), (503, 19, 2261816869102202322538128696023206191023940947), (504, 15, 604688303229962640331670958390927687), (505, 26, 161330646973622018803693735346244166838000686630984577428247624)]
def rsP (n : Int) : Nat × Nat := ((rsT.find? fun p => p.1 == n).map Prod.snd).getD (7, 31093567915781717)
def dp (n : Int) : LB := bq (rsP n).1 (rsP n).2
theorem rsS_p {P : LB → Prop} (n : Int) (h : ∀ q, q ∈ (7, 31093567915781717) :: rsT.map Prod.snd → P (bq q.1 q.2)) : P (dp n) := by
 refine h (rsP n) ?_
 unfold rsP
 cases e : rsT.find? fun p => p.1 == n with
 | none => exact List.mem_cons_self
 | some q => exact List.mem_cons_of_mem _ (List.mem_map_of_mem (List.mem_of_find?_eq_some e))
theorem aR3 (n : Int) : 1 ≤ (dp n).length ∧ (dp n).length ≤ 40 := rsS_p (P := fun l => 1 ≤ l.length ∧ l.length ≤ 40) n (by decide +kernel)
theorem rY (n : Int) : eA fb (dp n) = true := rsS_p (P := fun l => eA fb l = true) n (by decide +kernel)
noncomputable def bfRsn (e : Nat) (n : Nat) : Bool := okA (call cD 9000 21 [.i .i64 (.ofNat n)] ⟨H0 e , 4, 0, 0⟩) (.s (rsP n).1 (rsP n).2)
theorem bfRsn_0 (e : Nat) : fF (bfRsn e ) 200 400 = true := by kernel_rfl
theorem callsRsn (n : Nat) (h : 200 ≤ n ∧ n ≤ 599) (w : World) (hl : aH w) : bp 21 #[.int .i64 (n : Int)] w (St' (dp n)) := by
 refine cR (tb := cD) rfl (ab (bA []) (fun j _ => aV (l := []) rfl j)) rfl (fi := fI Tryd.f21 0) rfl (by kernel_rfl) (fun e => ft (bfRsn_0 e ) n (by omega) (by omega)) (args := [.int .i64 (n : Int)]) (by simp only [aJ, Rel]; exact ⟨_, _, rfl, rfl, rfl⟩) w hl fun x hx => ?_
 simp only [Rel] at hx
 exact hx.1
theorem hokRsn {x0 r : AV} {c : Int} (i0 : Is (cx nu one 1 aH aQ) x0 (.int .i64 c)) (hr : Den (cx nu one 1 aH aQ) r (St' (dp c))) (b0 : 200 ≤ c := by omega) (b1 : c ≤ 599 := by omega) : aM (cx nu one 1 aH aQ) (.call 21 [x0]) r := by
 intro ρ args ha w hl _
 simp only [aJ] at ha
 obtain ⟨v0, t0, rfl, a0, rfl⟩ := ha
 have e0 := i0 ρ _ a0; subst e0
 obtain ⟨n, rfl⟩ := Int.eq_ofNat_of_zero_le (show 0 ≤ c by omega)
 exact (callsRsn n ⟨by omega, by omega⟩ w hl).mono fun e w' he => ⟨_, he.1, hr ρ, he.2⟩
def uk : List Int := List.replicate 48 16 ++ [0, 1, 2, 3, 4, 5, 6, 7, 8, 9, 16, 16, 16, 16, 16, 16, 16, 10, 11, 12, 13, 14, 15] ++ List.replicate 26 16 ++ [10, 11, 12, 13, 14, 15] ++ List.replicate 153 16
def gU (c : Int) : Int := uk.getD c.toNat 0
noncomputable def uT (e : Nat) (n : Nat) : Bool := okA (call cD 9000 43 [.i .u8 (.ofNat n)] ⟨H0 e , 4, 0, 0⟩) (.i .i64 (uk.getD n 0))
theorem bfDgt_0 (e : Nat) : fF (uT e ) 0 64 = true := by kernel_rfl
theorem bfDgt_1 (e : Nat) : fF (uT e ) 64 64 = true := by kernel_rfl
theorem bfDgt_2 (e : Nat) : fF (uT e ) 128 64 = true := by kernel_rfl
theorem bfDgt_3 (e : Nat) : fF (uT e ) 192 64 = true := by kernel_rfl
theorem bfDgt_all (e : Nat) (n : Nat) (h : n < 256) : uT e n = true := by
 rcases (show n / 64 = 0 ∨ n / 64 = 1 ∨ n / 64 = 2 ∨ n / 64 = 3 by omega) with h | h | h | h
 ·exact ft (bfDgt_0 e ) n (by omega) (by omega)
 ·exact ft (bfDgt_1 e ) n (by omega) (by omega)
 ·exact ft (bfDgt_2 e ) n (by omega) (by omega)
 ·exact ft (bfDgt_3 e ) n (by omega) (by omega)
theorem callsDgt (n : Nat) (h : n < 256) (w : World) (hl : aH w) : bp 43 #[.int .u8 (n : Int)] w (.int .i64 (gU (n : Int))) := by
 refine cR (tb := cD) rfl (ab (bA []) (fun j _ => aV (l := []) rfl j)) rfl (fi := fI Tryd.f43 0) rfl (by kernel_rfl) (fun e => bfDgt_all e n h) (args := [.int .u8 (n : Int)]) (by simp only [aJ, Rel]; exact ⟨_, _, rfl, rfl, rfl⟩) w hl fun x hx => ?_
 simp only [Rel] at hx
 rw [hx]; rfl
theorem hokDgt {x0 r : AV} {c : Int} (i0 : Is (cx nu one 1 aH aQ) x0 (.int .u8 c)) (b0 : 0 ≤ c) (b1 : c ≤ 255) (hr : Den (cx nu one 1 aH aQ) r (.int .i64 (gU c))) : aM (cx nu one 1 aH aQ) (.call 43 [x0]) r := by
 intro ρ args ha w hl _
 simp only [aJ] at ha
 obtain ⟨v0, t0, rfl, a0, rfl⟩ := ha
 have e0 := i0 ρ _ a0; subst e0
 obtain ⟨n, rfl⟩ := Int.eq_ofNat_of_zero_le b0
 exact (callsDgt n (by omega) w hl).mono fun e w' he => ⟨_, he.1, hr ρ, he.2⟩
theorem rDgt {c : Int} (b0 : 0 ≤ c) (b1 : c ≤ 255) : 0 ≤ gU c ∧ gU c ≤ 16 := by
 obtain ⟨n, rfl⟩ := Int.eq_ofNat_of_zero_le b0
 have h : ∀ m : Fin 256, 0 ≤ uk.getD m.val 0 ∧ uk.getD m.val 0 ≤ 16 := by decide +kernel
 exact h ⟨n, by omega⟩
theorem Ae {c : Int} (b0 : 0 ≤ c) (b1 : c ≤ 255) : gU c = gR c := by
 obtain ⟨n, rfl⟩ := Int.eq_ofNat_of_zero_le b0
 have h : ∀ m : Fin 256, uk.getD m.val 0 = gR (m.val : Int) := by decide +kernel
 exact h ⟨n, by omega⟩
def okB (B : Int) (s : LB) : Bool := s.all fun b => decide (gR (b.toNat : Int) < B)
theorem okB_at {B : Int} {s : LB} {i : Int} (h0 : 0 ≤ i) (h : i < s.length) : okB B (s.drop i.toNat) = (decide (gR (bt s i.toNat) < B) && okB B (s.drop (Int.toNat (i + 1)))) := by
 have e : s.drop i.toNat = u8 (bt s i.toNat) :: s.drop (i.toNat + 1) := by
  rw [List.drop_eq_getElem_cons (by omega), qz, List.getD_eq_getElem?_getD, List.getElem?_eq_getElem (by omega), Option.getD_some]
 unfold okB
 rw [e, List.all_cons, nU (bQ _ _) (bR _ _), show (i + 1).toNat = i.toNat + 1 by omega]
theorem okB_no {B : Int} {s : LB} {i : Int} {A : Bool} (h0 : 0 ≤ i) (h : i < s.length) (hd : ¬ gR (bt s i.toNat) < B) (hA : okB B (s.drop i.toNat) = A) : A = false := by
 rw [okB_at h0 h, decide_eq_false hd, Bool.false_and] at hA; exact hA.symm
theorem okB_end {B : Int} {s : LB} {i : Int} {A : Bool} (h : (s.length : Int) ≤ i) (hA : okB B (s.drop i.toNat) = A) : A = true := by
 rw [List.drop_eq_nil_of_le (by omega)] at hA; exact hA.symm
theorem nb_step {B : Int} {s : LB} {i n V : Int} {A : Bool} (hB : B = 10 ∨ B = 16) (hl : s.length ≤ 9) (i0 : 0 ≤ i) (h0 : i < (s.length : Int)) (hd : gR (bt s i.toNat) < B) (i2 : 0 ≤ n) (i3 : n < (16 : Int) ^ i.toNat) (i4 : fL B (s.drop i.toNat) n = V) (i5 : okB B (s.drop i.toNat) = A) :
 (0 ≤ i + 1) ∧ (i + 1 ≤ (s.length : Int)) ∧ (0 ≤ n * B + gR (bt s i.toNat)) ∧ (n * B + gR (bt s i.toNat) < (16 : Int) ^ (i + 1).toNat) ∧ (fL B (s.drop (i + 1).toNat) (n * B + gR (bt s i.toNat)) = V) ∧ okB B (s.drop (Int.toNat (i + 1))) = A := by
 have e : (i + 1).toNat = i.toNat + 1 := by omega
 have hg := GG (bt s i.toNat)
 have hb := wY (i := i.toNat) (B := B) hB i2 i3 (by omega)
 refine ⟨by omega, by omega, by omega, ?_, ?_, ?_⟩
 ·rw [e]; exact numPow hB i2 i3 hd
 ·rw [e, ← valDrop (by omega)]; exact i4
 ·rw [okB_at i0 h0, decide_eq_true hd, Bool.true_and] at i5; exact i5
def cC (B : Int) (most : Nat) (s : LB) : Bool := decide (¬ s.length = 0 ∧ s.length ≤ most) && okB B s
def bX (B : Int) (most : Nat) (s : LB) : Int := if cC B most s = true then fL B s 0 else 0
theorem aT4 {B : Int} {most : Nat} {s : LB} (h : s.length = 0) : cC B most s = false ∧ bX B most s = 0 := by
 have e : cC B most s = false := by unfold cC; rw [decide_eq_false (by omega), Bool.false_and]
 exact ⟨e, by unfold bX; rw [e]; rfl⟩
theorem numB_n2 {B : Int} {most : Nat} {s : LB} (h : most < s.length) : cC B most s = false ∧ bX B most s = 0 := by
 have e : cC B most s = false := by unfold cC; rw [decide_eq_false (by omega), Bool.false_and]
 exact ⟨e, by unfold bX; rw [e]; rfl⟩
theorem numB_n3 {B : Int} {most : Nat} {s : LB} (h : ¬ okB B s = true) : cC B most s = false ∧ bX B most s = 0 := by
 have e : cC B most s = false := by unfold cC; rw [show okB B s = false from by simpa using h, Bool.and_false]
 exact ⟨e, by unfold bX; rw [e]; rfl⟩
theorem numB_y {B : Int} {most : Nat} {s : LB} (h : ¬ s.length = 0) (h1 : s.length ≤ most) (h2 : okB B s = true) : cC B most s = true ∧ bX B most s = fL B s 0 := by
 have e : cC B most s = true := by unfold cC; rw [decide_eq_true ⟨h, h1⟩, h2]; rfl
 exact ⟨e, by unfold bX; rw [if_pos e]⟩
theorem il {B : Int} {most : Nat} {s : LB} (h : s.length = 0 ∨ most < s.length ∨ ¬ okB B s = true) : (.tuple #[.int .i64 (bX B most s), .bool (cC B most s)] : Value) = .tuple #[.int .i64 0, .bool false] := by
 have e : cC B most s = false ∧ bX B most s = 0 := by
  rcases h with h | h | h
  ·exact aT4 h
  ·exact numB_n2 h
  ·exact numB_n3 h
 rw [e.1, e.2]
theorem nmY {B : Int} {most : Nat} {s : LB} (h : ¬ s.length = 0) (h1 : s.length ≤ most) (h2 : okB B s = true) : (.tuple #[.int .i64 (bX B most s), .bool (cC B most s)] : Value) = .tuple #[.int .i64 (fL B s 0), .bool true] := by
 rw [(numB_y h h1 h2).1, (numB_y h h1 h2).2]
noncomputable def Am : Code := gi (Tryd.f33.body.getD .skip) 0
theorem keyO10 : gC (di (Tryd.f33.body.getD .skip)) 5 0 0 = true := by kernel_rfl
def mg : List Nat := []
def F9 : LA := [(0, .x 0), (21, .x 1), (8, .x 2), (1, I6 10), (20, .x 3)]
def Fb : LE := []
def xS (s : LB) (V : Int) (A : Bool) (i n : Int) : List Value := [St' s, .int .i64 (i), .int .i64 (n), .int .i64 ((s.length : Int)), .int .u8 (bt s i.toNat), .int .i64 (gU (bt s i.toNat)), .int .i64 (n * 10), .int .i64 (n * 10 + (gU (bt s i.toNat))), .int .i64 (i + 1), .int .u8 (bt s i.toNat), .int .i64 (gU (bt s i.toNat))]
def aR5 (s : LB) (V : Int) (A : Bool) (i n : Int) : List Value := []
def qW (st : Nat × Int × Int) : LA := F9
def zn (st : Nat × Int × Int) : LE := Fb
def CP (s : LB) (V : Int) (A : Bool) (st : Nat × Int × Int) : List Value := xS s V A (st.2.1) (st.2.2)
def roO10 (s : LB) (V : Int) (A : Bool) (st : Nat × Int × Int) : List Value := aR5 s V A (st.2.1) (st.2.2)
theorem onO10 (s : LB) (V : Int) (A : Bool) (st : Nat × Int × Int) : ∀ j, (bA (CP s V A st) j).oneCell' = true := by
 intro j
 unfold CP
 exact aV (l := xS s V A (st.2.1) (st.2.2)) rfl j
theorem ebO10 (st : Nat × Int × Int) : (dX (qW st) && ef mg) = true := by
 unfold qW
 rfl
noncomputable def BJ (s : LB) (V : Int) (A : Bool) (st : Nat × Int × Int) (X : Nat → Value) : Cx := cx (bG (CP s V A st) (rX (roO10 s V A st) X)) (bJ (onO10 s V A st)) 1 aH aQ
abbrev Gq (s : LB) (V : Int) (A : Bool) (tag : Nat) (i n : Int) : Prop := (0 ≤ i) ∧ (i ≤ (s.length : Int)) ∧ (0 ≤ n) ∧ (n < (16 : Int) ^ i.toNat) ∧ (fL 10 (s.drop i.toNat) n = V) ∧ (okB 10 (s.drop i.toNat) = A) ∧ (tag < 1)
def l9 (s : LB) (V : Int) (A : Bool) (st : Nat × Int × Int) : Prop := Gq s V A st.1 (st.2.1) (st.2.2)
theorem Ch {s : LB} {V : Int} {A : Bool} {tag : Nat} {i n : Int} (h : Gq s V A tag i n) : l9 s V A (tag, i, n) := h
theorem Bo (s : LB) (V : Int) (A : Bool) (tag : Nat) (i n : Int) (h : l9 s V A (tag, i, n)) : Gq s V A tag i n := h
def sZ (s : LB) (V : Int) (A : Bool) (st : Nat × Int × Int) : Nat := (s.length - (st.2.1).toNat)
abbrev uh (s : LB) (V : Int) (A : Bool) (E' : Cx) (ex' : Ex) (epx' : LA) (hpx' : LE) (st : Nat × Int × Int) (X : Nat → Value) : Prop := bj E' Am mg 38 ex' 4 4 4 4 qW zn epx' hpx' (l9 s V A) (sZ s V A) (BJ s V A) st X
noncomputable abbrev BS (s : LB) (V : Int) (A : Bool) (i n : Int) (X : Nat → Value) : Cx := cx (bG (xS s V A i n) (rX (aR5 s V A i n) X)) (bJ (aV (l := xS s V A i n) rfl)) 1 aH aQ
noncomputable abbrev uc (h : LK) (x : Ex) (th : LA) (sg : List (Nat × Nat)) (m : Nat) (ep : LA) (hp : LE) : Bool := bP (code (aT h) 900 [] Am (bD (bH F9 mg) 38) ⟨ae Fb .leaf, 4, 0, 0⟩) x mg 38 4 th sg 4 m ep hp
theorem stO10_0 {s : LB} {V : Int} {A : Bool} {i n : Int} {X : Nat → Value} {h : LK} (y : Nat × Int × Int) {th : LA} {sg : List (Nat × Nat)} (ho : ∀ a' r', (a', r') ∈ h → aM (BS s V A i n X) a' r') (hy : l9 s V A y) (lt : sZ s V A y < sZ s V A (0, i, n)) (ht : bE (BS s V A i n X) (BJ s V A y X) th) (run : uc h .normal th sg 4 (qW y) (zn y) = true) : uh s V A E' x' e' h' (0, i, n) X :=
 bj.next (tb := aT h) (L := []) (f := 900) y ((ab _ _).hyps ho) (bV.nil _) rfl hy lt ht run
theorem aW4 {s : LB} {V : Int} {A : Bool} {i n : Int} {X : Nat → Value} {h : LK} {th : LA} {sg : List (Nat × Nat)} (hne : cn x' .normal = false) (ho : ∀ a' r', (a', r') ∈ h → aM (BS s V A i n X) a' r') (ht : bE (BS s V A i n X) E' th) (run : uc h x' th sg 4 e' h' = true) : uh s V A E' x' e' h' (0, i, n) X :=
 bj.leave (tb := aT h) (L := []) (f := 900) ((ab _ _).hyps ho) (bV.nil _) rfl hne ht run
def EX : LK := [(.bin .lss (.x 1) (.x 3), .b true), (.idx (.x 0) (.x 1), .x 4), (.call 43 [.x 4], .x 5), (.bin .geq (.x 5) (I6 10), .b false), (.bin .mul (.x 2) (I6 10), .x 6), (.bin .add (.x 6) (.x 5), .x 7), (.bin .add (.x 1) (I6 1), .x 8)]
theorem runO10_p0 : uc EX .normal [(0, .x 0), (1, .x 8), (2, .x 7), (3, .x 3)] [] 4 F9 Fb = true := by kernel_rfl
def EW : LK := [(.bin .lss (.x 1) (.x 3), .b false)]
theorem runO10_p1 : uc EW (.exit 0) [(0, .x 2)] [] 4 [(8, .x 0)] [] = true := by kernel_rfl
def EV : LK := [(.bin .lss (.x 1) (.x 3), .b true), (.idx (.x 0) (.x 1), .x 9), (.call 43 [.x 9], .x 10), (.bin .geq (.x 10) (I6 10), .b true)]
theorem runO10_p2 : uc EV .ret [] [] 4 [(6, I6 0), (7, .b false)] [] = true := by kernel_rfl
section
set_option linter.unusedSectionVars false
variable {s : LB} {V : Int} {A : Bool} (c0 : s.length ≤ 9) {i n : Int} {X : Nat → Value}
include c0
theorem aK7 (hI : l9 s V A (0, i, n)) (h0 : i < (s.length : Int)) (h1 : ¬ (10 ≤ gU (bt s i.toNat))) : uh s V A E' x' e' h' (0, i, n) X := by
 obtain ⟨i0, i1, i2, i3, i4, i5, it⟩ := Bo s V A 0 i n hI
 have hb : i.toNat ≤ 8 → 0 ≤ n * 10 ∧ n * 10 ≤ 68719476736 ∧ n ≤ 4294967296 := fun h => wY (i := i.toNat) (B := 10) (.inl rfl) i2 i3 h
 have := bQ s i.toNat; have := bR s i.toNat
 have := rDgt (c := bt s i.toNat) (by omega) (by omega)
 have := Ae (c := bt s i.toNat) (by omega) (by omega); have := GG (bt s i.toNat)
 refine stO10_0 (h := EX) (0, (i + 1), n * 10 + (gU (bt s i.toNat))) ?_ (Ch (by have D := Ae (c := bt s i.toNat) (bQ _ _) (bR _ _); have hN : (n * 10 + (gU (bt s i.toNat)) : Int) = n * 10 + gR (bt s i.toNat) := (by omega); rw [hN]; have E := nb_step (B := 10) (.inl rfl) (by omega) i0 (by omega) (by omega) i2 i3 i4 i5; exact ⟨E.1, E.2.1, E.2.2.1, E.2.2.2.1, E.2.2.2.2.1, E.2.2.2.2.2, by omega⟩)) (by show s.length - (i + 1).toNat < s.length - i.toNat; omega) (aB (v := St' s) (bc (b := ((i + 1))) rfl rfl (by omega) (bc (b := ((n * 10 + (gU (bt s i.toNat))))) rfl rfl (by omega) (aB (v := .int .i64 ((s.length : Int))) (aI))))) runO10_p0
 unfold EX
 exact hc bU <|hc dG <|hc (hokDgt (aA rfl) (by omega) (by omega) (aG rfl)) <|hc mz <|hc (kMul (aA rfl) (b7 (m := 10) rfl) (aG rfl) (by omega) (eS (by omega) (by omega))) <|hc fG <|hc au <|hnil
end
def aL0 (s : LB) (V : Int) (A : Bool) : List Value := [.int .i64 (V)]
def roEO10_0 (s : LB) (V : Int) (A : Bool) : List Value := []
noncomputable def EO10_0 (s : LB) (V : Int) (A : Bool) : Cx := cx (bG (aL0 s V A) (rX (roEO10_0 s V A) (fun _ => .bool true))) (bJ (aV (l := aL0 s V A) rfl)) 1 aH aQ
theorem roundsO10_0 (s : LB) (V : Int) (A : Bool) (c0 : s.length ≤ 9) (x0 : A = true) (st : Nat × Int × Int) (X : Nat → Value) (hI : l9 s V A st) : uh s V A (EO10_0 s V A) (.exit 0) [(8, .x 0)] [] st X := by
 obtain ⟨tag, i, n⟩ := st
 have hI0 := hI
 obtain ⟨i0, i1, i2, i3, i4, i5, it⟩ := Bo s V A tag i n hI
 obtain rfl : tag = 0 := by omega
 skip
 have hb : i.toNat ≤ 8 → 0 ≤ n * 10 ∧ n * 10 ≤ 68719476736 ∧ n ≤ 4294967296 := fun h => wY (i := i.toNat) (B := 10) (.inl rfl) i2 i3 h
 by_cases h0 : i < (s.length : Int)
 ·by_cases h1 : 10 ≤ gU (bt s i.toNat)
  ·exfalso; have e := okB_no (by omega) (by omega) (by have D := Ae (c := bt s i.toNat) (bQ _ _) (bR _ _); omega) i5; rw [e] at x0; exact absurd x0 (by simp)
  ·exact aK7 c0 hI0 h0 h1
 ·refine aW4 (h := EW) rfl ?_ (ah (v := .int .i64 (n)) (u := .int .i64 (V)) rfl rfl (congrArg (Value.int .i64) (by rw [← i4]; exact (valEnd (by omega)).symm)) (aI)) runO10_p1
  unfold EW
  exact hc dV <|hnil
theorem lfOkO10_0 (s : LB) (V : Int) (A : Bool) (c0 : s.length ≤ 9) (x0 : A = true) : bI (cx nu one 1 aH aQ) (EO10_0 s V A) Am mg 38 (.exit 0) 4 4 4 4 qW zn [(8, .x 0)] [] (l9 s V A) (BJ s V A) :=
 dW (sZ s V A) (fun _ _ => rfl) (fun _ _ => rfl) (fun _ _ => rfl) (fun st X t ht => dT.trans (dS ((by decide : ∀ t, t ∈ mg → t < 1000000) t ht))) rfl rfl rfl ebO10 rfl rfl (roundsO10_0 s V A c0 x0)
def aK9 (s : LB) (V : Int) (A : Bool) : List Value := []
def roEO10_1 (s : LB) (V : Int) (A : Bool) : List Value := []
noncomputable def EO10_1 (s : LB) (V : Int) (A : Bool) : Cx := cx (bG (aK9 s V A) (rX (roEO10_1 s V A) (fun _ => .bool true))) (bJ (aV (l := aK9 s V A) rfl)) 1 aH aQ
theorem roundsO10_1 (s : LB) (V : Int) (A : Bool) (c0 : s.length ≤ 9) (x0 : A = false) (st : Nat × Int × Int) (X : Nat → Value) (hI : l9 s V A st) : uh s V A (EO10_1 s V A) .ret [(6, I6 0), (7, .b false)] [] st X := by
 obtain ⟨tag, i, n⟩ := st
 have hI0 := hI
 obtain ⟨i0, i1, i2, i3, i4, i5, it⟩ := Bo s V A tag i n hI
 obtain rfl : tag = 0 := by omega
 skip
 have hb : i.toNat ≤ 8 → 0 ≤ n * 10 ∧ n * 10 ≤ 68719476736 ∧ n ≤ 4294967296 := fun h => wY (i := i.toNat) (B := 10) (.inl rfl) i2 i3 h
 by_cases h0 : i < (s.length : Int)
 ·by_cases h1 : 10 ≤ gU (bt s i.toNat)
  ·have := bQ s i.toNat; have := bR s i.toNat
   have := rDgt (c := bt s i.toNat) (by omega) (by omega)
   have := Ae (c := bt s i.toNat) (by omega) (by omega); have := GG (bt s i.toNat)
   refine aW4 (h := EV) rfl ?_ (aI) runO10_p2
   unfold EV
   exact hc bU <|hc dG <|hc (hokDgt (aA rfl) (by omega) (by omega) (aG rfl)) <|hc gL <|hnil
  ·exact aK7 c0 hI0 h0 h1
 ·exfalso; have e := okB_end (by omega) i5; rw [e] at x0; exact absurd x0 (by simp)
theorem lfOkO10_1 (s : LB) (V : Int) (A : Bool) (c0 : s.length ≤ 9) (x0 : A = false) : bI (cx nu one 1 aH aQ) (EO10_1 s V A) Am mg 38 .ret 4 4 4 4 qW zn [(6, I6 0), (7, .b false)] [] (l9 s V A) (BJ s V A) :=
 dW (sZ s V A) (fun _ _ => rfl) (fun _ _ => rfl) (fun _ _ => rfl) (fun st X t ht => dT.trans (dS ((by decide : ∀ t, t ∈ mg → t < 1000000) t ht))) rfl rfl rfl ebO10 rfl rfl (roundsO10_1 s V A c0 x0)
noncomputable def tk : FI := (cD.fn.get 33).getD default
theorem aX4 : cD.fn.get 33 = some tk := by kernel_rfl
theorem F5 : tk.body = some (Tryd.f33.body.getD .skip) := by kernel_rfl
theorem fiB33 : tk.body.isSome = true := by rw [F5]; rfl
theorem AE : cD.fn.get 33 = some (fI Tryd.f33 0) ∧ (fI Tryd.f33 0).body.isSome = true := ⟨rfl, by kernel_rfl⟩
def za : LK := [(.bin .eql (.x 0) (.s 0 0), .b true)]
theorem runNmO10_0 (e : Nat) : okA (call (aT za) 9000 33 [.x 0, I6 10, I6 9] ⟨H0 e , 4, 0, 0⟩) (.tu [I6 0, .b false]) = true := by kernel_rfl
def xW (s : LB) : List Value := [St' s]
theorem pathNmO10_0 (s : LB) (b0 : s.length ≤ 9223372036854775807) (h0 : (s.length : Int) = 0) (w : World) (hl : aH w) : bp 33 #[St' s, .int .i64 10, .int .i64 9] w (.tuple #[.int .i64 0, .bool false]) := by
 have ho : ∀ k r, (k, r) ∈ za → aM (cx (bA (xW s)) (fun j _ => aV (l := xW s) rfl j) 1 aH aQ) k r := by
  unfold za
  exact hc (bu (aA rfl) (ar (l := ([] : LB)) 0 0 rfl) (mU (by omega))) <|hnil
 refine cR (tb := (aT za)) (ra := .tu [I6 0, .b false]) rfl ((ab (bA (xW s)) (fun j _ => aV (l := xW s) rfl j)).hyps ho) rfl AE.1 AE.2 (fun e => runNmO10_0 e ) (args := [St' s, .int .i64 10, .int .i64 9]) (by simp only [aJ, Rel]; exact ⟨_, _, rfl, rfl, ⟨_, _, rfl, rfl, ⟨_, _, rfl, rfl, rfl⟩⟩⟩) w hl fun x hx => ?_
 simp only [Rel, aJ] at hx
 obtain ⟨_, rfl, ⟨_, _, rfl, rfl, ⟨_, _, rfl, rfl, rfl⟩⟩⟩ := hx
 rfl
def zZ : LK := [(.bin .eql (.x 0) (.s 0 0), .b false), (.len (.x 0), .x 1), (.bin .gtr (.x 1) (I6 9), .b true)]
theorem runNmO10_1 (e : Nat) : okA (call (aT zZ) 9000 33 [.x 0, I6 10, I6 9] ⟨H0 e , 4, 0, 0⟩) (.tu [I6 0, .b false]) = true := by kernel_rfl
def xV (s : LB) : List Value := [St' s, .int .i64 ((s.length : Int))]
theorem pathNmO10_1 (s : LB) (b0 : s.length ≤ 9223372036854775807) (h0 : ¬ ((s.length : Int) = 0)) (h1 : 9 < (s.length : Int)) (w : World) (hl : aH w) : bp 33 #[St' s, .int .i64 10, .int .i64 9] w (.tuple #[.int .i64 0, .bool false]) := by
 have ho : ∀ k r, (k, r) ∈ zZ → aM (cx (bA (xV s)) (fun j _ => aV (l := xV s) rfl j) 1 aH aQ) k r := by
  unfold zZ
  exact hc (bu (aA rfl) (ar (l := ([] : LB)) 0 0 rfl) (fO (by omega))) <|hc av <|hc cZ <|hnil
 refine cR (tb := (aT zZ)) (ra := .tu [I6 0, .b false]) rfl ((ab (bA (xV s)) (fun j _ => aV (l := xV s) rfl j)).hyps ho) rfl AE.1 AE.2 (fun e => runNmO10_1 e ) (args := [St' s, .int .i64 10, .int .i64 9]) (by simp only [aJ, Rel]; exact ⟨_, _, rfl, rfl, ⟨_, _, rfl, rfl, ⟨_, _, rfl, rfl, rfl⟩⟩⟩) w hl fun x hx => ?_
 simp only [Rel, aJ] at hx
 obtain ⟨_, rfl, ⟨_, _, rfl, rfl, ⟨_, _, rfl, rfl, rfl⟩⟩⟩ := hx
 rfl
def EZ : LK := [(.bin .eql (.x 0) (.s 0 0), .b false), (.len (.x 0), .x 1), (.bin .gtr (.x 1) (I6 9), .b false)]
def ye : LH := ⟨4, 4, 4, [], []⟩
def lf181 : LF := ⟨5, 38, [(0, .x 0), (21, I6 0), (8, I6 0), (1, I6 10), (20, .x 1)], [], (.exit 0), [(8, .x 2)], some ye⟩
noncomputable def aC0 : Tab := bL ({ cD with hyp := EZ }) 33 tk [lf181]
theorem runNmO10_2 (e : Nat) : okA (call aC0 9000 33 [.x 0, I6 10, I6 9] ⟨H0 e , 4, 0, 0⟩) (.tu [.x 2, .b true]) = true := by kernel_rfl
def xU (s : LB) : List Value := [St' s, .int .i64 ((s.length : Int)), .int .i64 ((fL 10 s 0))]
theorem pathNmO10_2 (s : LB) (b0 : s.length ≤ 9223372036854775807) (h0 : ¬ ((s.length : Int) = 0)) (h1 : ¬ (9 < (s.length : Int))) (h2 : okB 10 s = true) (w : World) (hl : aH w) : bp 33 #[St' s, .int .i64 10, .int .i64 9] w (.tuple #[.int .i64 ((fL 10 s 0)), .bool true]) := by
 have ho : ∀ k r, (k, r) ∈ EZ → aM (cx (bA (xU s)) (fun j _ => aV (l := xU s) rfl j) 1 aH aQ) k r := by
  unfold EZ
  exact hc (bu (aA rfl) (ar (l := ([] : LB)) 0 0 rfl) (fO (by omega))) <|hc av <|hc cN <|hnil
 refine cR (tb := aC0) (ra := .tu [.x 2, .b true]) rfl (aq.bz ((ab (bA (xU s)) (fun j _ => aV (l := xU s) rfl j)).hyps ho) (by omega) aX4 F5 (bK (bx rfl ⟨0, keyO10, bI.use (l := lf181) (h := ye) (lfOkO10_0 s (fL 10 s 0) (okB 10 s) (by omega) (by assumption)) (0, (0 : Int), (0 : Int)) (Ch ⟨by omega, by omega, by omega, by decide, rfl, rfl, by omega⟩) rfl (by kernel_rfl) (ao := [(0, .x 0), (1, I6 0), (2, I6 0), (3, .x 1)]) (ai := []) (fun X => aB (v := St' s) (ad bS (ad bS (aB (v := .int .i64 ((s.length : Int))) (aI))))) (by kernel_rfl) (ak := [(2, .x 0)]) (aB (v := .int .i64 ((fL 10 s 0))) (aI)) (by kernel_rfl)⟩) aj)) rfl (ez (by omega)) fiB33 (fun e => runNmO10_2 e ) (args := [St' s, .int .i64 10, .int .i64 9]) (by simp only [aJ, Rel]; exact ⟨_, _, rfl, rfl, ⟨_, _, rfl, rfl, ⟨_, _, rfl, rfl, rfl⟩⟩⟩) w hl fun x hx => ?_
 simp only [Rel, aJ] at hx
 obtain ⟨_, rfl, ⟨_, _, rfl, rfl, ⟨_, _, rfl, rfl, rfl⟩⟩⟩ := hx
 rfl
def EY : LK := [(.bin .eql (.x 0) (.s 0 0), .b false), (.len (.x 0), .x 1), (.bin .gtr (.x 1) (I6 9), .b false)]
def lf182 : LF := ⟨5, 38, [(0, .x 0), (21, I6 0), (8, I6 0), (1, I6 10), (20, .x 1)], [], .ret, [(6, I6 0), (7, .b false)], some ye⟩
noncomputable def aB9 : Tab := bL ({ cD with hyp := EY }) 33 tk [lf182]
theorem runNmO10_3 (e : Nat) : okA (call aB9 9000 33 [.x 0, I6 10, I6 9] ⟨H0 e , 4, 0, 0⟩) (.tu [I6 0, .b false]) = true := by kernel_rfl
def xT (s : LB) : List Value := [St' s, .int .i64 ((s.length : Int))]
theorem pathNmO10_3 (s : LB) (b0 : s.length ≤ 9223372036854775807) (h0 : ¬ ((s.length : Int) = 0)) (h1 : ¬ (9 < (s.length : Int))) (h2 : ¬ (okB 10 s = true)) (w : World) (hl : aH w) : bp 33 #[St' s, .int .i64 10, .int .i64 9] w (.tuple #[.int .i64 0, .bool false]) := by
 have ho : ∀ k r, (k, r) ∈ EY → aM (cx (bA (xT s)) (fun j _ => aV (l := xT s) rfl j) 1 aH aQ) k r := by
  unfold EY
  exact hc (bu (aA rfl) (ar (l := ([] : LB)) 0 0 rfl) (fO (by omega))) <|hc av <|hc cN <|hnil
 refine cR (tb := aB9) (ra := .tu [I6 0, .b false]) rfl (aq.bz ((ab (bA (xT s)) (fun j _ => aV (l := xT s) rfl j)).hyps ho) (by omega) aX4 F5 (bK (bx rfl ⟨0, keyO10, bI.use (l := lf182) (h := ye) (lfOkO10_1 s (fL 10 s 0) (okB 10 s) (by omega) (by simpa using (by assumption : ¬ (okB 10 s = true)))) (0, (0 : Int), (0 : Int)) (Ch ⟨by omega, by omega, by omega, by decide, rfl, rfl, by omega⟩) rfl (by kernel_rfl) (ao := [(0, .x 0), (1, I6 0), (2, I6 0), (3, .x 1)]) (ai := []) (fun X => aB (v := St' s) (ad bS (ad bS (aB (v := .int .i64 ((s.length : Int))) (aI))))) (by kernel_rfl) (ak := []) (aI) (by kernel_rfl)⟩) aj)) rfl (ez (by omega)) fiB33 (fun e => runNmO10_3 e ) (args := [St' s, .int .i64 10, .int .i64 9]) (by simp only [aJ, Rel]; exact ⟨_, _, rfl, rfl, ⟨_, _, rfl, rfl, ⟨_, _, rfl, rfl, rfl⟩⟩⟩) w hl fun x hx => ?_
 simp only [Rel, aJ] at hx
 obtain ⟨_, rfl, ⟨_, _, rfl, rfl, ⟨_, _, rfl, rfl, rfl⟩⟩⟩ := hx
 rfl
theorem callsNmO10 (s : LB) (b0 : s.length ≤ 9223372036854775807) (w : World) (hl : aH w) : bp 33 #[St' s, .int .i64 10, .int .i64 9] w (.tuple #[.int .i64 (bX 10 9 s), .bool (cC 10 9 s)]) := by
 by_cases h0 : (s.length : Int) = 0
 ·rw [show (.tuple #[.int .i64 (bX 10 9 s), .bool (cC 10 9 s)] : Value) = (.tuple #[.int .i64 0, .bool false] : Value) from by first | exact il (.inl (by omega)) | exact il (.inr (.inl (by omega))) | exact il (.inr (.inr (by assumption))) | exact nmY (by omega) (by omega) (by assumption)]
  exact pathNmO10_0 s b0 h0 w hl
 ·by_cases h1 : 9 < (s.length : Int)
  ·rw [show (.tuple #[.int .i64 (bX 10 9 s), .bool (cC 10 9 s)] : Value) = (.tuple #[.int .i64 0, .bool false] : Value) from by first | exact il (.inl (by omega)) | exact il (.inr (.inl (by omega))) | exact il (.inr (.inr (by assumption))) | exact nmY (by omega) (by omega) (by assumption)]
   exact pathNmO10_1 s b0 h0 h1 w hl
  ·by_cases h2 : okB 10 s = true
   ·rw [show (.tuple #[.int .i64 (bX 10 9 s), .bool (cC 10 9 s)] : Value) = (.tuple #[.int .i64 ((fL 10 s 0)), .bool true] : Value) from by first | exact il (.inl (by omega)) | exact il (.inr (.inl (by omega))) | exact il (.inr (.inr (by assumption))) | exact nmY (by omega) (by omega) (by assumption)]
    exact pathNmO10_2 s b0 h0 h1 h2 w hl
   ·rw [show (.tuple #[.int .i64 (bX 10 9 s), .bool (cC 10 9 s)] : Value) = (.tuple #[.int .i64 0, .bool false] : Value) from by first | exact il (.inl (by omega)) | exact il (.inr (.inl (by omega))) | exact il (.inr (.inr (by assumption))) | exact nmY (by omega) (by omega) (by assumption)]
    exact pathNmO10_3 s b0 h0 h1 h2 w hl
theorem iL {x0 x1 x2 r : AV} {s : LB} (i0 : Is (cx nu one 1 aH aQ) x0 (St' s)) (i1 : Is (cx nu one 1 aH aQ) x1 (.int .i64 10)) (i2 : Is (cx nu one 1 aH aQ) x2 (.int .i64 9)) (hr : Den (cx nu one 1 aH aQ) r (.tuple #[.int .i64 (bX 10 9 s), .bool (cC 10 9 s)])) (b0 : s.length ≤ 9223372036854775807 := by omega) : aM (cx nu one 1 aH aQ) (.call 33 [x0, x1, x2]) r := by
 intro ρ args ha w hl _
 simp only [aJ] at ha
 obtain ⟨v0, t0, rfl, a0, v1, t1, rfl, a1, v2, t2, rfl, a2, rfl⟩ := ha
 have e0 := i0 ρ _ a0; subst e0
 have e1 := i1 ρ _ a1; subst e1
 have e2 := i2 ρ _ a2; subst e2
 exact (callsNmO10 s b0 w hl).mono fun e w' he => ⟨_, he.1, hr ρ, he.2⟩
end Go.Proofs.YtcjanblpboaleaaDoor.cgiCuts

