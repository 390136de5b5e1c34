/- A part of the proof: what an interpreter answers on partly known states is what the program answers. No condition. -/
import Derived.Test.YtcjanblpboaleaaDoorU1CgiCutsO5
set_option maxRecDepth 100000
set_option linter.unusedVariables false
set_option linter.unusedSimpArgs false
set_option maxHeartbeats 4000000
namespace Go.Proofs.YtcjanblpboaleaaDoor.cgiCuts
open Go Go.AX Go.Proofs Go.Proofs.YtcjanblpboaleaaDoor
variable {nu : Nat → Value} {one : ∀ i, i < 1000000 → (nu i).oneCell' = true} {E' : Cx} {x' : Ex} {e' : LA} {h' : LE}
def eY (v : LB) : LB := if aF v 32 < 0 then v else List.take (Int.toNat (aF v 32)) v
def mJ (v : LB) : LB := if aF v 32 < 0 then [] else bb (List.drop (Int.toNat (aF v 32 + 1)) v)
def gW (v : LB) : Int := bX 10 9 (eY v)
def jU (v : LB) : LB := if (mJ v).length = 0 then dp (gW v) else mJ v
def dy (v : LB) : Nat := if ¬ (cC 10 9 (eY v) = true ∧ (eY v).length = 3 ∧ 200 ≤ gW v ∧ gW v ≤ 599) then 1 else if ¬ eA fb (jU v) = true then 2 else 0
def stM (k : Nat) : LB := if k = 1 then eK else uv
def de (v : LB) : Value := if dy v = 0 then .tuple #[.int .i64 (gW v), St' (jU v), .nilIface] else .tuple #[.int .i64 0, St' [], .iface 63 (.agg #[.int .i64 10, St' (stM (dy v))])]
theorem nb0 {v : LB} : ¬ cC 10 9 (List.take (Int.toNat (0)) v) = true := by
 rw [show List.take (Int.toNat (0)) v = [] from rfl, (aT4 rfl).1]; decide
theorem idx_bl {v : LB} (h : [u8 32] = v) : aF v 32 = 0 := by rw [← h]; decide
theorem st1 {v d : LB} (hd : eY v = d) (h : ¬ (cC 10 9 d = true ∧ d.length = 3 ∧ 200 ≤ bX 10 9 d ∧ bX 10 9 d ≤ 599)) : de v = .tuple #[.int .i64 0, St' [], .iface 63 (.agg #[.int .i64 10, St' eK])] := by
 have e : dy v = 1 := by unfold dy gW; rw [hd]; exact if_pos h
 unfold de; rw [e]; rfl
theorem st2 {v d t r : LB} (hd : eY v = d) (ht : mJ v = t) (h : cC 10 9 d = true ∧ d.length = 3 ∧ 200 ≤ bX 10 9 d ∧ bX 10 9 d ≤ 599) (hr : (if t.length = 0 then dp (bX 10 9 d) else t) = r) (hf : ¬ eA fb r = true) : de v = .tuple #[.int .i64 0, St' [], .iface 63 (.agg #[.int .i64 10, St' uv])] := by
 have e : dy v = 2 := by unfold dy jU gW; rw [hd, ht, hr, if_neg (fun q => q h), if_pos hf]
 unfold de; rw [e]; rfl
theorem st0 {v d t r : LB} (hd : eY v = d) (ht : mJ v = t) (h : cC 10 9 d = true ∧ d.length = 3 ∧ 200 ≤ bX 10 9 d ∧ bX 10 9 d ≤ 599) (hr : (if t.length = 0 then dp (bX 10 9 d) else t) = r) (hf : eA fb r = true) : de v = .tuple #[.int .i64 (bX 10 9 d), St' r, .nilIface] := by
 have e : dy v = 0 := by unfold dy jU gW; rw [hd, ht, hr, if_neg (fun q => q h), if_neg (fun q => q hf)]
 unfold de jU gW; rw [e, hd, ht, hr, if_pos rfl]
theorem dZ : cD.fn.get 11 = some (fI Tryd.f11 0) ∧ (fI Tryd.f11 0).body.isSome = true := ⟨rfl, by kernel_rfl⟩
def zR : LK := [(.bin .eql (.s 1 32) (.x 0), .b false), (.ext 67 [.x 0, .i .u8 (.ofNat 32)], .x 1), (.bin .geq (.x 1) (I6 0), .b false), (.call 33 [.x 0, I6 10, I6 9], .tu [.x 2, .b false])]
theorem runStat_0 (e : Nat) : okA (call (aT zR) 9000 11 [.x 0] ⟨H0 e , 4, 0, 0⟩) (.tu [I6 0, .s 0 0, .aZ 63 (.ag [I6 10, .s 21 ek])]) = true := by kernel_rfl
def w6 (v : LB) : List Value := [St' v, .int .i64 (aF v 32), .int .i64 ((bX 10 9 v))]
theorem pathStat_0 (v : LB) (b0 : v.length ≤ 9223372036854775807) (p0 : v.length ≤ 1000) (h0 : ¬ ([u8 32] = v)) (h1 : ¬ (0 ≤ aF v 32)) (h2 : ¬ (cC 10 9 v = true)) (w : World) (hl : aH w) : bp 11 #[St' v] w (.tuple #[.int .i64 0, St' ([] : LB), .iface 63 (.agg #[.int .i64 10, St' eK])]) := by
 have := dj v 32
 have ho : ∀ k r, (k, r) ∈ zR → aM (cx (bA (w6 v)) (fun j _ => aV (l := w6 v) rfl j) 1 aH aQ) k r := by
  unfold zR
  exact hc (bu (ar (l := [u8 32]) 1 32 rfl) (aA rfl) (by first | exact decide_eq_true rfl | exact decide_eq_true ‹_› | exact decide_eq_false ‹_›)) <|hc (ew (n := aF v 32) e9 fB fA (aA rfl) (b7 (m := 32) rfl) (aG rfl) rfl) <|hc mz <|hc (iL (s := v) (aA rfl) (b7 (m := 10) rfl) (b7 (m := 9) rfl) (iO (aG rfl) (jy (by assumption)))) <|hnil
 refine cR (tb := (aT zR)) (ra := .tu [I6 0, .s 0 0, .aZ 63 (.ag [I6 10, .s 21 ek])]) rfl ((ab (bA (w6 v)) (fun j _ => aV (l := w6 v) rfl j)).hyps ho) rfl dZ.1 dZ.2 (fun e => runStat_0 e ) (args := [St' v]) (by simp only [aJ, Rel]; exact ⟨_, _, rfl, rfl, rfl⟩) w hl fun x hx => ?_
 simp only [Rel, aJ] at hx
 obtain ⟨_, rfl, ⟨_, _, rfl, rfl, ⟨_, _, rfl, ⟨rfl, _⟩, ⟨_, _, rfl, ⟨_, rfl, ⟨_, rfl, ⟨_, _, rfl, rfl, ⟨_, _, rfl, ⟨rfl, _⟩, rfl⟩⟩⟩⟩, rfl⟩⟩⟩⟩ := hx
 rfl
def zQ : LK := [(.bin .eql (.s 1 32) (.x 0), .b false), (.ext 67 [.x 0, .i .u8 (.ofNat 32)], .x 1), (.bin .geq (.x 1) (I6 0), .b false), (.call 33 [.x 0, I6 10, I6 9], .tu [.x 2, .b true]), (.len (.x 0), .x 3), (.bin .neq (.x 3) (I6 3), .b true)]
theorem runStat_1 (e : Nat) : okA (call (aT zQ) 9000 11 [.x 0] ⟨H0 e , 4, 0, 0⟩) (.tu [I6 0, .s 0 0, .aZ 63 (.ag [I6 10, .s 21 ek])]) = true := by kernel_rfl
def w5 (v : LB) : List Value := [St' v, .int .i64 (aF v 32), .int .i64 ((bX 10 9 v)), .int .i64 ((v.length : Int))]
theorem pathStat_1 (v : LB) (b0 : v.length ≤ 9223372036854775807) (p0 : v.length ≤ 1000) (h0 : ¬ ([u8 32] = v)) (h1 : ¬ (0 ≤ aF v 32)) (h2 : cC 10 9 v = true) (h3 : ¬ ((v.length : Int) = 3)) (w : World) (hl : aH w) : bp 11 #[St' v] w (.tuple #[.int .i64 0, St' ([] : LB), .iface 63 (.agg #[.int .i64 10, St' eK])]) := by
 have := dj v 32
 have ho : ∀ k r, (k, r) ∈ zQ → aM (cx (bA (w5 v)) (fun j _ => aV (l := w5 v) rfl j) 1 aH aQ) k r := by
  unfold zQ
  exact hc (bu (ar (l := [u8 32]) 1 32 rfl) (aA rfl) (by first | exact decide_eq_true rfl | exact decide_eq_true ‹_› | exact decide_eq_false ‹_›)) <|hc (ew (n := aF v 32) e9 fB fA (aA rfl) (b7 (m := 32) rfl) (aG rfl) rfl) <|hc mz <|hc (iL (s := v) (aA rfl) (b7 (m := 10) rfl) (b7 (m := 9) rfl) (iO (aG rfl) (dJ (by assumption)))) <|hc av <|hc sV <|hnil
 refine cR (tb := (aT zQ)) (ra := .tu [I6 0, .s 0 0, .aZ 63 (.ag [I6 10, .s 21 ek])]) rfl ((ab (bA (w5 v)) (fun j _ => aV (l := w5 v) rfl j)).hyps ho) rfl dZ.1 dZ.2 (fun e => runStat_1 e ) (args := [St' v]) (by simp only [aJ, Rel]; exact ⟨_, _, rfl, rfl, rfl⟩) w hl fun x hx => ?_
 simp only [Rel, aJ] at hx
 obtain ⟨_, rfl, ⟨_, _, rfl, rfl, ⟨_, _, rfl, ⟨rfl, _⟩, ⟨_, _, rfl, ⟨_, rfl, ⟨_, rfl, ⟨_, _, rfl, rfl, ⟨_, _, rfl, ⟨rfl, _⟩, rfl⟩⟩⟩⟩, rfl⟩⟩⟩⟩ := hx
 rfl
def zM : LK := [(.bin .eql (.s 1 32) (.x 0), .b false), (.ext 67 [.x 0, .i .u8 (.ofNat 32)], .x 1), (.bin .geq (.x 1) (I6 0), .b false), (.call 33 [.x 0, I6 10, I6 9], .tu [.x 2, .b true]), (.len (.x 0), .x 3), (.bin .neq (.x 3) (I6 3), .b false), (.bin .lss (.x 2) (I6 200), .b true)]
theorem runStat_2 (e : Nat) : okA (call (aT zM) 9000 11 [.x 0] ⟨H0 e , 4, 0, 0⟩) (.tu [I6 0, .s 0 0, .aZ 63 (.ag [I6 10, .s 21 ek])]) = true := by kernel_rfl
def wv (v : LB) : List Value := [St' v, .int .i64 (aF v 32), .int .i64 ((bX 10 9 v)), .int .i64 ((v.length : Int))]
theorem pathStat_2 (v : LB) (b0 : v.length ≤ 9223372036854775807) (p0 : v.length ≤ 1000) (h0 : ¬ ([u8 32] = v)) (h1 : ¬ (0 ≤ aF v 32)) (h2 : cC 10 9 v = true) (h3 : (v.length : Int) = 3) (h4 : (bX 10 9 v) < 200) (w : World) (hl : aH w) : bp 11 #[St' v] w (.tuple #[.int .i64 0, St' ([] : LB), .iface 63 (.agg #[.int .i64 10, St' eK])]) := by
 have := dj v 32
 have ho : ∀ k r, (k, r) ∈ zM → aM (cx (bA (wv v)) (fun j _ => aV (l := wv v) rfl j) 1 aH aQ) k r := by
  unfold zM
  exact hc (bu (ar (l := [u8 32]) 1 32 rfl) (aA rfl) (by first | exact decide_eq_true rfl | exact decide_eq_true ‹_› | exact decide_eq_false ‹_›)) <|hc (ew (n := aF v 32) e9 fB fA (aA rfl) (b7 (m := 32) rfl) (aG rfl) rfl) <|hc mz <|hc (iL (s := v) (aA rfl) (b7 (m := 10) rfl) (b7 (m := 9) rfl) (iO (aG rfl) (dJ (by assumption)))) <|hc av <|hc dm <|hc yP <|hnil
 refine cR (tb := (aT zM)) (ra := .tu [I6 0, .s 0 0, .aZ 63 (.ag [I6 10, .s 21 ek])]) rfl ((ab (bA (wv v)) (fun j _ => aV (l := wv v) rfl j)).hyps ho) rfl dZ.1 dZ.2 (fun e => runStat_2 e ) (args := [St' v]) (by simp only [aJ, Rel]; exact ⟨_, _, rfl, rfl, rfl⟩) w hl fun x hx => ?_
 simp only [Rel, aJ] at hx
 obtain ⟨_, rfl, ⟨_, _, rfl, rfl, ⟨_, _, rfl, ⟨rfl, _⟩, ⟨_, _, rfl, ⟨_, rfl, ⟨_, rfl, ⟨_, _, rfl, rfl, ⟨_, _, rfl, ⟨rfl, _⟩, rfl⟩⟩⟩⟩, rfl⟩⟩⟩⟩ := hx
 rfl
def zL : LK := [(.bin .eql (.s 1 32) (.x 0), .b false), (.ext 67 [.x 0, .i .u8 (.ofNat 32)], .x 1), (.bin .geq (.x 1) (I6 0), .b false), (.call 33 [.x 0, I6 10, I6 9], .tu [.x 2, .b true]), (.len (.x 0), .x 3), (.bin .neq (.x 3) (I6 3), .b false), (.bin .lss (.x 2) (I6 200), .b false), (.bin .gtr (.x 2) (I6 599), .b true)]
theorem runStat_3 (e : Nat) : okA (call (aT zL) 9000 11 [.x 0] ⟨H0 e , 4, 0, 0⟩) (.tu [I6 0, .s 0 0, .aZ 63 (.ag [I6 10, .s 21 ek])]) = true := by kernel_rfl
def wu (v : LB) : List Value := [St' v, .int .i64 (aF v 32), .int .i64 ((bX 10 9 v)), .int .i64 ((v.length : Int))]
theorem pathStat_3 (v : LB) (b0 : v.length ≤ 9223372036854775807) (p0 : v.length ≤ 1000) (h0 : ¬ ([u8 32] = v)) (h1 : ¬ (0 ≤ aF v 32)) (h2 : cC 10 9 v = true) (h3 : (v.length : Int) = 3) (h4 : ¬ ((bX 10 9 v) < 200)) (h5 : 599 < (bX 10 9 v)) (w : World) (hl : aH w) : bp 11 #[St' v] w (.tuple #[.int .i64 0, St' ([] : LB), .iface 63 (.agg #[.int .i64 10, St' eK])]) := by
 have := dj v 32
 have ho : ∀ k r, (k, r) ∈ zL → aM (cx (bA (wu v)) (fun j _ => aV (l := wu v) rfl j) 1 aH aQ) k r := by
  unfold zL
  exact hc (bu (ar (l := [u8 32]) 1 32 rfl) (aA rfl) (by first | exact decide_eq_true rfl | exact decide_eq_true ‹_› | exact decide_eq_false ‹_›)) <|hc (ew (n := aF v 32) e9 fB fA (aA rfl) (b7 (m := 32) rfl) (aG rfl) rfl) <|hc mz <|hc (iL (s := v) (aA rfl) (b7 (m := 10) rfl) (b7 (m := 9) rfl) (iO (aG rfl) (dJ (by assumption)))) <|hc av <|hc dm <|hc lO <|hc cZ <|hnil
 refine cR (tb := (aT zL)) (ra := .tu [I6 0, .s 0 0, .aZ 63 (.ag [I6 10, .s 21 ek])]) rfl ((ab (bA (wu v)) (fun j _ => aV (l := wu v) rfl j)).hyps ho) rfl dZ.1 dZ.2 (fun e => runStat_3 e ) (args := [St' v]) (by simp only [aJ, Rel]; exact ⟨_, _, rfl, rfl, rfl⟩) w hl fun x hx => ?_
 simp only [Rel, aJ] at hx
 obtain ⟨_, rfl, ⟨_, _, rfl, rfl, ⟨_, _, rfl, ⟨rfl, _⟩, ⟨_, _, rfl, ⟨_, rfl, ⟨_, rfl, ⟨_, _, rfl, rfl, ⟨_, _, rfl, ⟨rfl, _⟩, rfl⟩⟩⟩⟩, rfl⟩⟩⟩⟩ := hx
 rfl
def zK : LK := [(.bin .eql (.s 1 32) (.x 0), .b false), (.ext 67 [.x 0, .i .u8 (.ofNat 32)], .x 1), (.bin .geq (.x 1) (I6 0), .b false), (.call 33 [.x 0, I6 10, I6 9], .tu [.x 2, .b true]), (.len (.x 0), .x 3), (.bin .neq (.x 3) (I6 3), .b false), (.bin .lss (.x 2) (I6 200), .b false), (.bin .gtr (.x 2) (I6 599), .b false), (.call 21 [.x 2], .x 4), (.call 22 [.ag [.s 6 mD, .x 4]], .b true)]
theorem runStat_4 (e : Nat) : okA (call (aT zK) 9000 11 [.x 0] ⟨H0 e , 4, 0, 0⟩) (.tu [.x 2, .x 4, .ni]) = true := by kernel_rfl
def wt (v : LB) : List Value := [St' v, .int .i64 (aF v 32), .int .i64 ((bX 10 9 v)), .int .i64 ((v.length : Int)), St' (dp (bX 10 9 v))]
theorem pathStat_4 (v : LB) (b0 : v.length ≤ 9223372036854775807) (p0 : v.length ≤ 1000) (h0 : ¬ ([u8 32] = v)) (h1 : ¬ (0 ≤ aF v 32)) (h2 : cC 10 9 v = true) (h3 : (v.length : Int) = 3) (h4 : ¬ ((bX 10 9 v) < 200)) (h5 : ¬ (599 < (bX 10 9 v))) (w : World) (hl : aH w) : bp 11 #[St' v] w (.tuple #[.int .i64 ((bX 10 9 v)), St' (dp (bX 10 9 v)), .nilIface]) := by
 have := dj v 32
 have := aR3 ((bX 10 9 v))
 have ho : ∀ k r, (k, r) ∈ zK → aM (cx (bA (wt v)) (fun j _ => aV (l := wt v) rfl j) 1 aH aQ) k r := by
  unfold zK
  exact hc (bu (ar (l := [u8 32]) 1 32 rfl) (aA rfl) (by first | exact decide_eq_true rfl | exact decide_eq_true ‹_› | exact decide_eq_false ‹_›)) <|hc (ew (n := aF v 32) e9 fB fA (aA rfl) (b7 (m := 32) rfl) (aG rfl) rfl) <|hc mz <|hc (iL (s := v) (aA rfl) (b7 (m := 10) rfl) (b7 (m := 9) rfl) (iO (aG rfl) (dJ (by assumption)))) <|hc av <|hc dm <|hc lO <|hc cN <|hc (hokRsn (c := (bX 10 9 v)) (aA rfl) (aG rfl)) <|hc (zr (a := fb) (v := (dp (bX 10 9 v))) (y8 (ar (l := fb) 6 mD rfl) (aA rfl)) (dJ (rY _)) (by decide)) <|hnil
 refine cR (tb := (aT zK)) (ra := .tu [.x 2, .x 4, .ni]) rfl ((ab (bA (wt v)) (fun j _ => aV (l := wt v) rfl j)).hyps ho) rfl dZ.1 dZ.2 (fun e => runStat_4 e ) (args := [St' v]) (by simp only [aJ, Rel]; exact ⟨_, _, rfl, rfl, rfl⟩) w hl fun x hx => ?_
 simp only [Rel, aJ] at hx
 obtain ⟨_, rfl, ⟨_, _, rfl, rfl, ⟨_, _, rfl, rfl, ⟨_, _, rfl, rfl, rfl⟩⟩⟩⟩ := hx
 rfl
def zJ : LK := [(.bin .eql (.s 1 32) (.x 0), .b false), (.ext 67 [.x 0, .i .u8 (.ofNat 32)], .x 1), (.bin .geq (.x 1) (I6 0), .b true), (.sub (.x 0) none (some (.x 1)), .x 2), (.bin .add (.x 1) (I6 1), .x 3), (.sub (.x 0) (some (.x 3)) none, .x 4), (.call 33 [.x 2, I6 10, I6 9], .tu [.x 5, .b true]), (.len (.x 2), .x 6), (.bin .neq (.x 6) (I6 3), .b false), (.bin .lss (.x 5) (I6 200), .b false), (.bin .gtr (.x 5) (I6 599), .b false), (.call 34 [.x 4, .s 2 2336], .x 7), (.bin .eql (.x 7) (.s 0 0), .b false), (.call 22 [.ag [.s 6 mD, .x 7]], .b true)]
theorem runStat_5 (e : Nat) : okA (call (aT zJ) 9000 11 [.x 0] ⟨H0 e , 4, 0, 0⟩) (.tu [.x 5, .x 7, .ni]) = true := by kernel_rfl
def wq (v : LB) : List Value := [St' v, .int .i64 (aF v 32), St' (List.take (Int.toNat (aF v 32)) v), .int .i64 ((aF v 32) + 1), St' (List.drop (Int.toNat ((aF v 32) + 1)) v), .int .i64 ((bX 10 9 (List.take (Int.toNat (aF v 32)) v))), .int .i64 ((aF v 32)), St' (bb (List.drop (Int.toNat ((aF v 32) + 1)) v))]
theorem pathStat_5 (v : LB) (b0 : v.length ≤ 9223372036854775807) (p0 : v.length ≤ 1000) (h0 : ¬ ([u8 32] = v)) (h1 : 0 ≤ aF v 32) (h2 : cC 10 9 (List.take (Int.toNat (aF v 32)) v) = true) (h3 : (aF v 32) = 3) (h4 : ¬ ((bX 10 9 (List.take (Int.toNat (aF v 32)) v)) < 200)) (h5 : ¬ (599 < (bX 10 9 (List.take (Int.toNat (aF v 32)) v)))) (h6 : ¬ (((bb (List.drop (Int.toNat ((aF v 32) + 1)) v)).length : Int) = 0)) (h7 : eA (fb) (bb (List.drop (Int.toNat ((aF v 32) + 1)) v)) = true) (w : World) (hl : aH w) : bp 11 #[St' v] w (.tuple #[.int .i64 ((bX 10 9 (List.take (Int.toNat (aF v 32)) v))), St' (bb (List.drop (Int.toNat ((aF v 32) + 1)) v)), .nilIface]) := by
 have := dj v 32
 have := gj (l := v) (Q := aF v 32) (by omega) (by omega)
 have := ev (l := v) (P := (aF v 32) + 1) (by omega) (by omega)
 have := jS (List.drop (Int.toNat ((aF v 32) + 1)) v)
 have ho : ∀ k r, (k, r) ∈ zJ → aM (cx (bA (wq v)) (fun j _ => aV (l := wq v) rfl j) 1 aH aQ) k r := by
  unfold zJ
  exact hc (bu (ar (l := [u8 32]) 1 32 rfl) (aA rfl) (by first | exact decide_eq_true rfl | exact decide_eq_true ‹_› | exact decide_eq_false ‹_›)) <|hc (ew (n := aF v 32) e9 fB fA (aA rfl) (b7 (m := 32) rfl) (aG rfl) rfl) <|hc gL <|hc ia <|hc au <|hc gu <|hc (iL (s := (List.take (Int.toNat (aF v 32)) v)) (aA rfl) (b7 (m := 10) rfl) (b7 (m := 9) rfl) (iO (aG rfl) (dJ (by assumption)))) <|hc av <|hc dm <|hc lO <|hc cN <|hc (ji (s := (List.drop (Int.toNat ((aF v 32) + 1)) v)) (aA rfl) (ar (l := [u8 32, u8 9]) 2 2336 rfl) (aG (congrArg (fun l => St' l) ((iY _).symm)))) <|hc (bu (aA rfl) (ar (l := ([] : LB)) 0 0 rfl) (fO (by omega))) <|hc (zr (a := fb) (v := (bb (List.drop (Int.toNat ((aF v 32) + 1)) v))) (y8 (ar (l := fb) 6 mD rfl) (aA rfl)) (dJ (by assumption)) (by decide)) <|hnil
 refine cR (tb := (aT zJ)) (ra := .tu [.x 5, .x 7, .ni]) rfl ((ab (bA (wq v)) (fun j _ => aV (l := wq v) rfl j)).hyps ho) rfl dZ.1 dZ.2 (fun e => runStat_5 e ) (args := [St' v]) (by simp only [aJ, Rel]; exact ⟨_, _, rfl, rfl, rfl⟩) w hl fun x hx => ?_
 simp only [Rel, aJ] at hx
 obtain ⟨_, rfl, ⟨_, _, rfl, rfl, ⟨_, _, rfl, rfl, ⟨_, _, rfl, rfl, rfl⟩⟩⟩⟩ := hx
 rfl
def zI : LK := [(.bin .eql (.s 1 32) (.x 0), .b false), (.ext 67 [.x 0, .i .u8 (.ofNat 32)], .x 1), (.bin .geq (.x 1) (I6 0), .b true), (.sub (.x 0) none (some (.x 1)), .x 2), (.bin .add (.x 1) (I6 1), .x 3), (.sub (.x 0) (some (.x 3)) none, .x 4), (.call 33 [.x 2, I6 10, I6 9], .tu [.x 5, .b true]), (.len (.x 2), .x 6), (.bin .neq (.x 6) (I6 3), .b false), (.bin .lss (.x 5) (I6 200), .b false), (.bin .gtr (.x 5) (I6 599), .b false), (.call 34 [.x 4, .s 2 2336], .x 7), (.bin .eql (.x 7) (.s 0 0), .b true), (.call 21 [.x 5], .x 8), (.call 22 [.ag [.s 6 mD, .x 8]], .b true)]
theorem runStat_6 (e : Nat) : okA (call (aT zI) 9000 11 [.x 0] ⟨H0 e , 4, 0, 0⟩) (.tu [.x 5, .x 8, .ni]) = true := by kernel_rfl
def wo (v : LB) : List Value := [St' v, .int .i64 (aF v 32), St' (List.take (Int.toNat (aF v 32)) v), .int .i64 ((aF v 32) + 1), St' (List.drop (Int.toNat ((aF v 32) + 1)) v), .int .i64 ((bX 10 9 (List.take (Int.toNat (aF v 32)) v))), .int .i64 ((aF v 32)), St' (bb (List.drop (Int.toNat ((aF v 32) + 1)) v)), St' (dp (bX 10 9 (List.take (Int.toNat (aF v 32)) v)))]
theorem pathStat_6 (v : LB) (b0 : v.length ≤ 9223372036854775807) (p0 : v.length ≤ 1000) (h0 : ¬ ([u8 32] = v)) (h1 : 0 ≤ aF v 32) (h2 : cC 10 9 (List.take (Int.toNat (aF v 32)) v) = true) (h3 : (aF v 32) = 3) (h4 : ¬ ((bX 10 9 (List.take (Int.toNat (aF v 32)) v)) < 200)) (h5 : ¬ (599 < (bX 10 9 (List.take (Int.toNat (aF v 32)) v)))) (h6 : ((bb (List.drop (Int.toNat ((aF v 32) + 1)) v)).length : Int) = 0) (w : World) (hl : aH w) : bp 11 #[St' v] w (.tuple #[.int .i64 ((bX 10 9 (List.take (Int.toNat (aF v 32)) v))), St' (dp (bX 10 9 (List.take (Int.toNat (aF v 32)) v))), .nilIface]) := by
 have := dj v 32
 have := gj (l := v) (Q := aF v 32) (by omega) (by omega)
 have := ev (l := v) (P := (aF v 32) + 1) (by omega) (by omega)
 have := jS (List.drop (Int.toNat ((aF v 32) + 1)) v)
 have := aR3 ((bX 10 9 (List.take (Int.toNat (aF v 32)) v)))
 have ho : ∀ k r, (k, r) ∈ zI → aM (cx (bA (wo v)) (fun j _ => aV (l := wo v) rfl j) 1 aH aQ) k r := by
  unfold zI
  exact hc (bu (ar (l := [u8 32]) 1 32 rfl) (aA rfl) (by first | exact decide_eq_true rfl | exact decide_eq_true ‹_› | exact decide_eq_false ‹_›)) <|hc (ew (n := aF v 32) e9 fB fA (aA rfl) (b7 (m := 32) rfl) (aG rfl) rfl) <|hc gL <|hc ia <|hc au <|hc gu <|hc (iL (s := (List.take (Int.toNat (aF v 32)) v)) (aA rfl) (b7 (m := 10) rfl) (b7 (m := 9) rfl) (iO (aG rfl) (dJ (by assumption)))) <|hc av <|hc dm <|hc lO <|hc cN <|hc (ji (s := (List.drop (Int.toNat ((aF v 32) + 1)) v)) (aA rfl) (ar (l := [u8 32, u8 9]) 2 2336 rfl) (aG (congrArg (fun l => St' l) ((iY _).symm)))) <|hc (bu (aA rfl) (ar (l := ([] : LB)) 0 0 rfl) (mU (by omega))) <|hc (hokRsn (c := (bX 10 9 (List.take (Int.toNat (aF v 32)) v))) (aA rfl) (aG rfl)) <|hc (zr (a := fb) (v := (dp (bX 10 9 (List.take (Int.toNat (aF v 32)) v)))) (y8 (ar (l := fb) 6 mD rfl) (aA rfl)) (dJ (rY _)) (by decide)) <|hnil
 refine cR (tb := (aT zI)) (ra := .tu [.x 5, .x 8, .ni]) rfl ((ab (bA (wo v)) (fun j _ => aV (l := wo v) rfl j)).hyps ho) rfl dZ.1 dZ.2 (fun e => runStat_6 e ) (args := [St' v]) (by simp only [aJ, Rel]; exact ⟨_, _, rfl, rfl, rfl⟩) w hl fun x hx => ?_
 simp only [Rel, aJ] at hx
 obtain ⟨_, rfl, ⟨_, _, rfl, rfl, ⟨_, _, rfl, rfl, ⟨_, _, rfl, rfl, rfl⟩⟩⟩⟩ := hx
 rfl
def zH : LK := [(.bin .eql (.s 1 32) (.x 0), .b false), (.ext 67 [.x 0, .i .u8 (.ofNat 32)], .x 1), (.bin .geq (.x 1) (I6 0), .b true), (.sub (.x 0) none (some (.x 1)), .x 2), (.bin .add (.x 1) (I6 1), .x 3), (.sub (.x 0) (some (.x 3)) none, .x 4), (.call 33 [.x 2, I6 10, I6 9], .tu [.x 5, .b true]), (.len (.x 2), .x 6), (.bin .neq (.x 6) (I6 3), .b false), (.bin .lss (.x 5) (I6 200), .b false), (.bin .gtr (.x 5) (I6 599), .b false), (.call 34 [.x 4, .s 2 2336], .x 7), (.bin .eql (.x 7) (.s 0 0), .b false), (.call 22 [.ag [.s 6 mD, .x 7]], .b false)]
theorem runStat_7 (e : Nat) : okA (call (aT zH) 9000 11 [.x 0] ⟨H0 e , 4, 0, 0⟩) (.tu [I6 0, .s 0 0, .aZ 63 (.ag [I6 10, .s 32 zn15])]) = true := by kernel_rfl
def wm (v : LB) : List Value := [St' v, .int .i64 (aF v 32), St' (List.take (Int.toNat (aF v 32)) v), .int .i64 ((aF v 32) + 1), St' (List.drop (Int.toNat ((aF v 32) + 1)) v), .int .i64 ((bX 10 9 (List.take (Int.toNat (aF v 32)) v))), .int .i64 ((aF v 32)), St' (bb (List.drop (Int.toNat ((aF v 32) + 1)) v))]
theorem pathStat_7 (v : LB) (b0 : v.length ≤ 9223372036854775807) (p0 : v.length ≤ 1000) (h0 : ¬ ([u8 32] = v)) (h1 : 0 ≤ aF v 32) (h2 : cC 10 9 (List.take (Int.toNat (aF v 32)) v) = true) (h3 : (aF v 32) = 3) (h4 : ¬ ((bX 10 9 (List.take (Int.toNat (aF v 32)) v)) < 200)) (h5 : ¬ (599 < (bX 10 9 (List.take (Int.toNat (aF v 32)) v)))) (h6 : ¬ (((bb (List.drop (Int.toNat ((aF v 32) + 1)) v)).length : Int) = 0)) (h7 : ¬ (eA (fb) (bb (List.drop (Int.toNat ((aF v 32) + 1)) v)) = true)) (w : World) (hl : aH w) : bp 11 #[St' v] w (.tuple #[.int .i64 0, St' ([] : LB), .iface 63 (.agg #[.int .i64 10, St' uv])]) := by
 have := dj v 32
 have := gj (l := v) (Q := aF v 32) (by omega) (by omega)
 have := ev (l := v) (P := (aF v 32) + 1) (by omega) (by omega)
 have := jS (List.drop (Int.toNat ((aF v 32) + 1)) v)
 have ho : ∀ k r, (k, r) ∈ zH → aM (cx (bA (wm v)) (fun j _ => aV (l := wm v) rfl j) 1 aH aQ) k r := by
  unfold zH
  exact hc (bu (ar (l := [u8 32]) 1 32 rfl) (aA rfl) (by first | exact decide_eq_true rfl | exact decide_eq_true ‹_› | exact decide_eq_false ‹_›)) <|hc (ew (n := aF v 32) e9 fB fA (aA rfl) (b7 (m := 32) rfl) (aG rfl) rfl) <|hc gL <|hc ia <|hc au <|hc gu <|hc (iL (s := (List.take (Int.toNat (aF v 32)) v)) (aA rfl) (b7 (m := 10) rfl) (b7 (m := 9) rfl) (iO (aG rfl) (dJ (by assumption)))) <|hc av <|hc dm <|hc lO <|hc cN <|hc (ji (s := (List.drop (Int.toNat ((aF v 32) + 1)) v)) (aA rfl) (ar (l := [u8 32, u8 9]) 2 2336 rfl) (aG (congrArg (fun l => St' l) ((iY _).symm)))) <|hc (bu (aA rfl) (ar (l := ([] : LB)) 0 0 rfl) (fO (by omega))) <|hc (zr (a := fb) (v := (bb (List.drop (Int.toNat ((aF v 32) + 1)) v))) (y8 (ar (l := fb) 6 mD rfl) (aA rfl)) (jy (by assumption)) (by decide)) <|hnil
 refine cR (tb := (aT zH)) (ra := .tu [I6 0, .s 0 0, .aZ 63 (.ag [I6 10, .s 32 zn15])]) rfl ((ab (bA (wm v)) (fun j _ => aV (l := wm v) rfl j)).hyps ho) rfl dZ.1 dZ.2 (fun e => runStat_7 e ) (args := [St' v]) (by simp only [aJ, Rel]; exact ⟨_, _, rfl, rfl, rfl⟩) w hl fun x hx => ?_
 simp only [Rel, aJ] at hx
 obtain ⟨_, rfl, ⟨_, _, rfl, rfl, ⟨_, _, rfl, ⟨rfl, _⟩, ⟨_, _, rfl, ⟨_, rfl, ⟨_, rfl, ⟨_, _, rfl, rfl, ⟨_, _, rfl, ⟨rfl, _⟩, rfl⟩⟩⟩⟩, rfl⟩⟩⟩⟩ := hx
 rfl
def zG : LK := [(.bin .eql (.s 1 32) (.x 0), .b false), (.ext 67 [.x 0, .i .u8 (.ofNat 32)], .x 1), (.bin .geq (.x 1) (I6 0), .b true), (.sub (.x 0) none (some (.x 1)), .x 2), (.bin .add (.x 1) (I6 1), .x 3), (.sub (.x 0) (some (.x 3)) none, .x 4), (.call 33 [.x 2, I6 10, I6 9], .tu [.x 5, .b false])]
theorem runStat_8 (e : Nat) : okA (call (aT zG) 9000 11 [.x 0] ⟨H0 e , 4, 0, 0⟩) (.tu [I6 0, .s 0 0, .aZ 63 (.ag [I6 10, .s 21 ek])]) = true := by kernel_rfl
def wk (v : LB) : List Value := [St' v, .int .i64 (aF v 32), St' (List.take (Int.toNat (aF v 32)) v), .int .i64 ((aF v 32) + 1), St' (List.drop (Int.toNat ((aF v 32) + 1)) v), .int .i64 ((bX 10 9 (List.take (Int.toNat (aF v 32)) v)))]
theorem pathStat_8 (v : LB) (b0 : v.length ≤ 9223372036854775807) (p0 : v.length ≤ 1000) (h0 : ¬ ([u8 32] = v)) (h1 : 0 ≤ aF v 32) (h2 : ¬ (cC 10 9 (List.take (Int.toNat (aF v 32)) v) = true)) (w : World) (hl : aH w) : bp 11 #[St' v] w (.tuple #[.int .i64 0, St' ([] : LB), .iface 63 (.agg #[.int .i64 10, St' eK])]) := by
 have := dj v 32
 have := gj (l := v) (Q := aF v 32) (by omega) (by omega)
 have := ev (l := v) (P := (aF v 32) + 1) (by omega) (by omega)
 have ho : ∀ k r, (k, r) ∈ zG → aM (cx (bA (wk v)) (fun j _ => aV (l := wk v) rfl j) 1 aH aQ) k r := by
  unfold zG
  exact hc (bu (ar (l := [u8 32]) 1 32 rfl) (aA rfl) (by first | exact decide_eq_true rfl | exact decide_eq_true ‹_› | exact decide_eq_false ‹_›)) <|hc (ew (n := aF v 32) e9 fB fA (aA rfl) (b7 (m := 32) rfl) (aG rfl) rfl) <|hc gL <|hc ia <|hc au <|hc gu <|hc (iL (s := (List.take (Int.toNat (aF v 32)) v)) (aA rfl) (b7 (m := 10) rfl) (b7 (m := 9) rfl) (iO (aG rfl) (jy (by assumption)))) <|hnil
 refine cR (tb := (aT zG)) (ra := .tu [I6 0, .s 0 0, .aZ 63 (.ag [I6 10, .s 21 ek])]) rfl ((ab (bA (wk v)) (fun j _ => aV (l := wk v) rfl j)).hyps ho) rfl dZ.1 dZ.2 (fun e => runStat_8 e ) (args := [St' v]) (by simp only [aJ, Rel]; exact ⟨_, _, rfl, rfl, rfl⟩) w hl fun x hx => ?_
 simp only [Rel, aJ] at hx
 obtain ⟨_, rfl, ⟨_, _, rfl, rfl, ⟨_, _, rfl, ⟨rfl, _⟩, ⟨_, _, rfl, ⟨_, rfl, ⟨_, rfl, ⟨_, _, rfl, rfl, ⟨_, _, rfl, ⟨rfl, _⟩, rfl⟩⟩⟩⟩, rfl⟩⟩⟩⟩ := hx
 rfl
def zF : LK := [(.bin .eql (.s 1 32) (.x 0), .b false), (.ext 67 [.x 0, .i .u8 (.ofNat 32)], .x 1), (.bin .geq (.x 1) (I6 0), .b true), (.sub (.x 0) none (some (.x 1)), .x 2), (.bin .add (.x 1) (I6 1), .x 3), (.sub (.x 0) (some (.x 3)) none, .x 4), (.call 33 [.x 2, I6 10, I6 9], .tu [.x 5, .b true]), (.len (.x 2), .x 6), (.bin .neq (.x 6) (I6 3), .b true)]
theorem runStat_9 (e : Nat) : okA (call (aT zF) 9000 11 [.x 0] ⟨H0 e , 4, 0, 0⟩) (.tu [I6 0, .s 0 0, .aZ 63 (.ag [I6 10, .s 21 ek])]) = true := by kernel_rfl
def wj (v : LB) : List Value := [St' v, .int .i64 (aF v 32), St' (List.take (Int.toNat (aF v 32)) v), .int .i64 ((aF v 32) + 1), St' (List.drop (Int.toNat ((aF v 32) + 1)) v), .int .i64 ((bX 10 9 (List.take (Int.toNat (aF v 32)) v))), .int .i64 ((aF v 32))]
theorem pathStat_9 (v : LB) (b0 : v.length ≤ 9223372036854775807) (p0 : v.length ≤ 1000) (h0 : ¬ ([u8 32] = v)) (h1 : 0 ≤ aF v 32) (h2 : cC 10 9 (List.take (Int.toNat (aF v 32)) v) = true) (h3 : ¬ ((aF v 32) = 3)) (w : World) (hl : aH w) : bp 11 #[St' v] w (.tuple #[.int .i64 0, St' ([] : LB), .iface 63 (.agg #[.int .i64 10, St' eK])]) := by
 have := dj v 32
 have := gj (l := v) (Q := aF v 32) (by omega) (by omega)
 have := ev (l := v) (P := (aF v 32) + 1) (by omega) (by omega)
 have ho : ∀ k r, (k, r) ∈ zF → aM (cx (bA (wj v)) (fun j _ => aV (l := wj v) rfl j) 1 aH aQ) k r := by
  unfold zF
  exact hc (bu (ar (l := [u8 32]) 1 32 rfl) (aA rfl) (by first | exact decide_eq_true rfl | exact decide_eq_true ‹_› | exact decide_eq_false ‹_›)) <|hc (ew (n := aF v 32) e9 fB fA (aA rfl) (b7 (m := 32) rfl) (aG rfl) rfl) <|hc gL <|hc ia <|hc au <|hc gu <|hc (iL (s := (List.take (Int.toNat (aF v 32)) v)) (aA rfl) (b7 (m := 10) rfl) (b7 (m := 9) rfl) (iO (aG rfl) (dJ (by assumption)))) <|hc av <|hc sV <|hnil
 refine cR (tb := (aT zF)) (ra := .tu [I6 0, .s 0 0, .aZ 63 (.ag [I6 10, .s 21 ek])]) rfl ((ab (bA (wj v)) (fun j _ => aV (l := wj v) rfl j)).hyps ho) rfl dZ.1 dZ.2 (fun e => runStat_9 e ) (args := [St' v]) (by simp only [aJ, Rel]; exact ⟨_, _, rfl, rfl, rfl⟩) w hl fun x hx => ?_
 simp only [Rel, aJ] at hx
 obtain ⟨_, rfl, ⟨_, _, rfl, rfl, ⟨_, _, rfl, ⟨rfl, _⟩, ⟨_, _, rfl, ⟨_, rfl, ⟨_, rfl, ⟨_, _, rfl, rfl, ⟨_, _, rfl, ⟨rfl, _⟩, rfl⟩⟩⟩⟩, rfl⟩⟩⟩⟩ := hx
 rfl
def zP : LK := [(.bin .eql (.s 1 32) (.x 0), .b false), (.ext 67 [.x 0, .i .u8 (.ofNat 32)], .x 1), (.bin .geq (.x 1) (I6 0), .b true), (.sub (.x 0) none (some (.x 1)), .x 2), (.bin .add (.x 1) (I6 1), .x 3), (.sub (.x 0) (some (.x 3)) none, .x 4), (.call 33 [.x 2, I6 10, I6 9], .tu [.x 5, .b true]), (.len (.x 2), .x 6), (.bin .neq (.x 6) (I6 3), .b false), (.bin .lss (.x 5) (I6 200), .b true)]
theorem runStat_10 (e : Nat) : okA (call (aT zP) 9000 11 [.x 0] ⟨H0 e , 4, 0, 0⟩) (.tu [I6 0, .s 0 0, .aZ 63 (.ag [I6 10, .s 21 ek])]) = true := by kernel_rfl
def wz (v : LB) : List Value := [St' v, .int .i64 (aF v 32), St' (List.take (Int.toNat (aF v 32)) v), .int .i64 ((aF v 32) + 1), St' (List.drop (Int.toNat ((aF v 32) + 1)) v), .int .i64 ((bX 10 9 (List.take (Int.toNat (aF v 32)) v))), .int .i64 ((aF v 32))]
theorem pathStat_10 (v : LB) (b0 : v.length ≤ 9223372036854775807) (p0 : v.length ≤ 1000) (h0 : ¬ ([u8 32] = v)) (h1 : 0 ≤ aF v 32) (h2 : cC 10 9 (List.take (Int.toNat (aF v 32)) v) = true) (h3 : (aF v 32) = 3) (h4 : (bX 10 9 (List.take (Int.toNat (aF v 32)) v)) < 200) (w : World) (hl : aH w) : bp 11 #[St' v] w (.tuple #[.int .i64 0, St' ([] : LB), .iface 63 (.agg #[.int .i64 10, St' eK])]) := by
 have := dj v 32
 have := gj (l := v) (Q := aF v 32) (by omega) (by omega)
 have := ev (l := v) (P := (aF v 32) + 1) (by omega) (by omega)
 have ho : ∀ k r, (k, r) ∈ zP → aM (cx (bA (wz v)) (fun j _ => aV (l := wz v) rfl j) 1 aH aQ) k r := by
  unfold zP
  exact hc (bu (ar (l := [u8 32]) 1 32 rfl) (aA rfl) (by first | exact decide_eq_true rfl | exact decide_eq_true ‹_› | exact decide_eq_false ‹_›)) <|hc (ew (n := aF v 32) e9 fB fA (aA rfl) (b7 (m := 32) rfl) (aG rfl) rfl) <|hc gL <|hc ia <|hc au <|hc gu <|hc (iL (s := (List.take (Int.toNat (aF v 32)) v)) (aA rfl) (b7 (m := 10) rfl) (b7 (m := 9) rfl) (iO (aG rfl) (dJ (by assumption)))) <|hc av <|hc dm <|hc yP <|hnil
 refine cR (tb := (aT zP)) (ra := .tu [I6 0, .s 0 0, .aZ 63 (.ag [I6 10, .s 21 ek])]) rfl ((ab (bA (wz v)) (fun j _ => aV (l := wz v) rfl j)).hyps ho) rfl dZ.1 dZ.2 (fun e => runStat_10 e ) (args := [St' v]) (by simp only [aJ, Rel]; exact ⟨_, _, rfl, rfl, rfl⟩) w hl fun x hx => ?_
 simp only [Rel, aJ] at hx
 obtain ⟨_, rfl, ⟨_, _, rfl, rfl, ⟨_, _, rfl, ⟨rfl, _⟩, ⟨_, _, rfl, ⟨_, rfl, ⟨_, rfl, ⟨_, _, rfl, rfl, ⟨_, _, rfl, ⟨rfl, _⟩, rfl⟩⟩⟩⟩, rfl⟩⟩⟩⟩ := hx
 rfl
def zO : LK := [(.bin .eql (.s 1 32) (.x 0), .b false), (.ext 67 [.x 0, .i .u8 (.ofNat 32)], .x 1), (.bin .geq (.x 1) (I6 0), .b true), (.sub (.x 0) none (some (.x 1)), .x 2), (.bin .add (.x 1) (I6 1), .x 3), (.sub (.x 0) (some (.x 3)) none, .x 4), (.call 33 [.x 2, I6 10, I6 9], .tu [.x 5, .b true]), (.len (.x 2), .x 6), (.bin .neq (.x 6) (I6 3), .b false), (.bin .lss (.x 5) (I6 200), .b false), (.bin .gtr (.x 5) (I6 599), .b true)]
theorem runStat_11 (e : Nat) : okA (call (aT zO) 9000 11 [.x 0] ⟨H0 e , 4, 0, 0⟩) (.tu [I6 0, .s 0 0, .aZ 63 (.ag [I6 10, .s 21 ek])]) = true := by kernel_rfl
def wy (v : LB) : List Value := [St' v, .int .i64 (aF v 32), St' (List.take (Int.toNat (aF v 32)) v), .int .i64 ((aF v 32) + 1), St' (List.drop (Int.toNat ((aF v 32) + 1)) v), .int .i64 ((bX 10 9 (List.take (Int.toNat (aF v 32)) v))), .int .i64 ((aF v 32))]
theorem pathStat_11 (v : LB) (b0 : v.length ≤ 9223372036854775807) (p0 : v.length ≤ 1000) (h0 : ¬ ([u8 32] = v)) (h1 : 0 ≤ aF v 32) (h2 : cC 10 9 (List.take (Int.toNat (aF v 32)) v) = true) (h3 : (aF v 32) = 3) (h4 : ¬ ((bX 10 9 (List.take (Int.toNat (aF v 32)) v)) < 200)) (h5 : 599 < (bX 10 9 (List.take (Int.toNat (aF v 32)) v))) (w : World) (hl : aH w) : bp 11 #[St' v] w (.tuple #[.int .i64 0, St' ([] : LB), .iface 63 (.agg #[.int .i64 10, St' eK])]) := by
 have := dj v 32
 have := gj (l := v) (Q := aF v 32) (by omega) (by omega)
 have := ev (l := v) (P := (aF v 32) + 1) (by omega) (by omega)
 have ho : ∀ k r, (k, r) ∈ zO → aM (cx (bA (wy v)) (fun j _ => aV (l := wy v) rfl j) 1 aH aQ) k r := by
  unfold zO
  exact hc (bu (ar (l := [u8 32]) 1 32 rfl) (aA rfl) (by first | exact decide_eq_true rfl | exact decide_eq_true ‹_› | exact decide_eq_false ‹_›)) <|hc (ew (n := aF v 32) e9 fB fA (aA rfl) (b7 (m := 32) rfl) (aG rfl) rfl) <|hc gL <|hc ia <|hc au <|hc gu <|hc (iL (s := (List.take (Int.toNat (aF v 32)) v)) (aA rfl) (b7 (m := 10) rfl) (b7 (m := 9) rfl) (iO (aG rfl) (dJ (by assumption)))) <|hc av <|hc dm <|hc lO <|hc cZ <|hnil
 refine cR (tb := (aT zO)) (ra := .tu [I6 0, .s 0 0, .aZ 63 (.ag [I6 10, .s 21 ek])]) rfl ((ab (bA (wy v)) (fun j _ => aV (l := wy v) rfl j)).hyps ho) rfl dZ.1 dZ.2 (fun e => runStat_11 e ) (args := [St' v]) (by simp only [aJ, Rel]; exact ⟨_, _, rfl, rfl, rfl⟩) w hl fun x hx => ?_
 simp only [Rel, aJ] at hx
 obtain ⟨_, rfl, ⟨_, _, rfl, rfl, ⟨_, _, rfl, ⟨rfl, _⟩, ⟨_, _, rfl, ⟨_, rfl, ⟨_, rfl, ⟨_, _, rfl, rfl, ⟨_, _, rfl, ⟨rfl, _⟩, rfl⟩⟩⟩⟩, rfl⟩⟩⟩⟩ := hx
 rfl
def zN : LK := [(.bin .eql (.s 1 32) (.x 0), .b true), (.sub (.x 0) none (some (I6 0)), .x 1), (.sub (.x 0) (some (I6 1)) none, .x 2), (.call 33 [.x 1, I6 10, I6 9], .tu [.x 3, .b false])]
theorem runStat_12 (e : Nat) : okA (call (aT zN) 9000 11 [.x 0] ⟨H0 e , 4, 0, 0⟩) (.tu [I6 0, .s 0 0, .aZ 63 (.ag [I6 10, .s 21 ek])]) = true := by kernel_rfl
def wx (v : LB) : List Value := [St' v, St' (List.take (Int.toNat (0)) v), St' (List.drop (Int.toNat (1)) v), .int .i64 ((bX 10 9 (List.take (Int.toNat (0)) v)))]
theorem pathStat_12 (v : LB) (b0 : v.length ≤ 9223372036854775807) (p0 : v.length ≤ 1000) (h0 : [u8 32] = v) (w : World) (hl : aH w) : bp 11 #[St' v] w (.tuple #[.int .i64 0, St' ([] : LB), .iface 63 (.agg #[.int .i64 10, St' eK])]) := by
 have hl1 : v.length = 1 := by rw [← (by assumption : [u8 32] = v)]; rfl
 have := gj (l := v) (Q := 0) (by omega) (by omega)
 have := ev (l := v) (P := 1) (by omega) (by omega)
 have ho : ∀ k r, (k, r) ∈ zN → aM (cx (bA (wx v)) (fun j _ => aV (l := wx v) rfl j) 1 aH aQ) k r := by
  unfold zN
  exact hc (bu (ar (l := [u8 32]) 1 32 rfl) (aA rfl) (by first | exact decide_eq_true rfl | exact decide_eq_true ‹_› | exact decide_eq_false ‹_›)) <|hc tkC <|hc drC <|hc (iL (s := (List.take (Int.toNat (0)) v)) (aA rfl) (b7 (m := 10) rfl) (b7 (m := 9) rfl) (iO (aG rfl) (jy nb0))) <|hnil
 refine cR (tb := (aT zN)) (ra := .tu [I6 0, .s 0 0, .aZ 63 (.ag [I6 10, .s 21 ek])]) rfl ((ab (bA (wx v)) (fun j _ => aV (l := wx v) rfl j)).hyps ho) rfl dZ.1 dZ.2 (fun e => runStat_12 e ) (args := [St' v]) (by simp only [aJ, Rel]; exact ⟨_, _, rfl, rfl, rfl⟩) w hl fun x hx => ?_
 simp only [Rel, aJ] at hx
 obtain ⟨_, rfl, ⟨_, _, rfl, rfl, ⟨_, _, rfl, ⟨rfl, _⟩, ⟨_, _, rfl, ⟨_, rfl, ⟨_, rfl, ⟨_, _, rfl, rfl, ⟨_, _, rfl, ⟨rfl, _⟩, rfl⟩⟩⟩⟩, rfl⟩⟩⟩⟩ := hx
 rfl
theorem callsStat (v : LB) (b0 : v.length ≤ 9223372036854775807) (p0 : v.length ≤ 1000) (w : World) (hl : aH w) : bp 11 #[St' v] w ((de v)) := by
 by_cases h0 : [u8 32] = v
 ·rw [show ((de v) : Value) = (.tuple #[.int .i64 0, St' ([] : LB), .iface 63 (.agg #[.int .i64 10, St' eK])] : Value) from by (have hib := idx_bl (by assumption); exact st1 (d := List.take (Int.toNat (0)) v) (by unfold eY; rw [if_neg (by omega), hib]) (fun h => nb0 h.1))]
  exact pathStat_12 v b0 p0 h0 w hl
 ·by_cases h1 : 0 ≤ aF v 32
  ·by_cases h2 : cC 10 9 (List.take (Int.toNat (aF v 32)) v) = true
   ·by_cases h3 : (aF v 32) = 3
    ·by_cases h4 : (bX 10 9 (List.take (Int.toNat (aF v 32)) v)) < 200
     ·rw [show ((de v) : Value) = (.tuple #[.int .i64 0, St' ([] : LB), .iface 63 (.agg #[.int .i64 10, St' eK])] : Value) from by (have hix := dj v 32; have hlt : (List.take (Int.toNat (aF v 32)) v).length = Int.toNat (aF v 32) := (by rw [List.length_take]; omega); exact st1 (by unfold eY; exact if_neg (by omega)) (fun h => by obtain ⟨h1, h2, h3, h4⟩ := h; first | contradiction | omega))]
      exact pathStat_10 v b0 p0 h0 h1 h2 h3 h4 w hl
     ·by_cases h5 : 599 < (bX 10 9 (List.take (Int.toNat (aF v 32)) v))
      ·rw [show ((de v) : Value) = (.tuple #[.int .i64 0, St' ([] : LB), .iface 63 (.agg #[.int .i64 10, St' eK])] : Value) from by (have hix := dj v 32; have hlt : (List.take (Int.toNat (aF v 32)) v).length = Int.toNat (aF v 32) := (by rw [List.length_take]; omega); exact st1 (by unfold eY; exact if_neg (by omega)) (fun h => by obtain ⟨h1, h2, h3, h4⟩ := h; first | contradiction | omega))]
       exact pathStat_11 v b0 p0 h0 h1 h2 h3 h4 h5 w hl
      ·by_cases h6 : ((bb (List.drop (Int.toNat ((aF v 32) + 1)) v)).length : Int) = 0
       ·rw [show ((de v) : Value) = (.tuple #[.int .i64 ((bX 10 9 (List.take (Int.toNat (aF v 32)) v))), St' (dp (bX 10 9 (List.take (Int.toNat (aF v 32)) v))), .nilIface] : Value) from by (have hix := dj v 32; have hlt : (List.take (Int.toNat (aF v 32)) v).length = Int.toNat (aF v 32) := (by rw [List.length_take]; omega); exact st0 (by unfold eY; exact if_neg (by omega)) (by unfold mJ; exact if_neg (by omega)) ⟨by assumption, by omega, by omega, by omega⟩ (if_pos (by first | rfl | omega)) (by first | assumption | exact rY _))]
        exact pathStat_6 v b0 p0 h0 h1 h2 h3 h4 h5 h6 w hl
       ·by_cases h7 : eA (fb) (bb (List.drop (Int.toNat ((aF v 32) + 1)) v)) = true
        ·rw [show ((de v) : Value) = (.tuple #[.int .i64 ((bX 10 9 (List.take (Int.toNat (aF v 32)) v))), St' (bb (List.drop (Int.toNat ((aF v 32) + 1)) v)), .nilIface] : Value) from by (have hix := dj v 32; have hlt : (List.take (Int.toNat (aF v 32)) v).length = Int.toNat (aF v 32) := (by rw [List.length_take]; omega); exact st0 (by unfold eY; exact if_neg (by omega)) (by unfold mJ; exact if_neg (by omega)) ⟨by assumption, by omega, by omega, by omega⟩ (if_neg (by omega)) (by first | assumption | exact rY _))]
         exact pathStat_5 v b0 p0 h0 h1 h2 h3 h4 h5 h6 h7 w hl
        ·rw [show ((de v) : Value) = (.tuple #[.int .i64 0, St' ([] : LB), .iface 63 (.agg #[.int .i64 10, St' uv])] : Value) from by (have hix := dj v 32; have hlt : (List.take (Int.toNat (aF v 32)) v).length = Int.toNat (aF v 32) := (by rw [List.length_take]; omega); exact st2 (by unfold eY; exact if_neg (by omega)) (by unfold mJ; exact if_neg (by omega)) ⟨by assumption, by omega, by omega, by omega⟩ (if_neg (by omega)) (by assumption))]
         exact pathStat_7 v b0 p0 h0 h1 h2 h3 h4 h5 h6 h7 w hl
    ·rw [show ((de v) : Value) = (.tuple #[.int .i64 0, St' ([] : LB), .iface 63 (.agg #[.int .i64 10, St' eK])] : Value) from by (have hix := dj v 32; have hlt : (List.take (Int.toNat (aF v 32)) v).length = Int.toNat (aF v 32) := (by rw [List.length_take]; omega); exact st1 (by unfold eY; exact if_neg (by omega)) (fun h => by obtain ⟨h1, h2, h3, h4⟩ := h; first | contradiction | omega))]
     exact pathStat_9 v b0 p0 h0 h1 h2 h3 w hl
   ·rw [show ((de v) : Value) = (.tuple #[.int .i64 0, St' ([] : LB), .iface 63 (.agg #[.int .i64 10, St' eK])] : Value) from by (have hix := dj v 32; have hlt : (List.take (Int.toNat (aF v 32)) v).length = Int.toNat (aF v 32) := (by rw [List.length_take]; omega); exact st1 (by unfold eY; exact if_neg (by omega)) (fun h => by obtain ⟨h1, h2, h3, h4⟩ := h; first | contradiction | omega))]
    exact pathStat_8 v b0 p0 h0 h1 h2 w hl
  ·by_cases h2 : cC 10 9 v = true
   ·by_cases h3 : (v.length : Int) = 3
    ·by_cases h4 : (bX 10 9 v) < 200
     ·rw [show ((de v) : Value) = (.tuple #[.int .i64 0, St' ([] : LB), .iface 63 (.agg #[.int .i64 10, St' eK])] : Value) from by (exact st1 (by unfold eY; exact if_pos (by omega)) (fun h => by obtain ⟨h1, h2, h3, h4⟩ := h; first | contradiction | omega))]
      exact pathStat_2 v b0 p0 h0 h1 h2 h3 h4 w hl
     ·by_cases h5 : 599 < (bX 10 9 v)
      ·rw [show ((de v) : Value) = (.tuple #[.int .i64 0, St' ([] : LB), .iface 63 (.agg #[.int .i64 10, St' eK])] : Value) from by (exact st1 (by unfold eY; exact if_pos (by omega)) (fun h => by obtain ⟨h1, h2, h3, h4⟩ := h; first | contradiction | omega))]
       exact pathStat_3 v b0 p0 h0 h1 h2 h3 h4 h5 w hl
      ·rw [show ((de v) : Value) = (.tuple #[.int .i64 ((bX 10 9 v)), St' (dp (bX 10 9 v)), .nilIface] : Value) from by (exact st0 (by unfold eY; exact if_pos (by omega)) (by unfold mJ; exact if_pos (by omega)) ⟨by assumption, by omega, by omega, by omega⟩ (if_pos (by first | rfl | omega)) (by first | assumption | exact rY _))]
       exact pathStat_4 v b0 p0 h0 h1 h2 h3 h4 h5 w hl
    ·rw [show ((de v) : Value) = (.tuple #[.int .i64 0, St' ([] : LB), .iface 63 (.agg #[.int .i64 10, St' eK])] : Value) from by (exact st1 (by unfold eY; exact if_pos (by omega)) (fun h => by obtain ⟨h1, h2, h3, h4⟩ := h; first | contradiction | omega))]
     exact pathStat_1 v b0 p0 h0 h1 h2 h3 w hl
   ·rw [show ((de v) : Value) = (.tuple #[.int .i64 0, St' ([] : LB), .iface 63 (.agg #[.int .i64 10, St' eK])] : Value) from by (exact st1 (by unfold eY; exact if_pos (by omega)) (fun h => by obtain ⟨h1, h2, h3, h4⟩ := h; first | contradiction | omega))]
    exact pathStat_0 v b0 p0 h0 h1 h2 w hl
theorem aX0 {x0 r : AV} {v : LB} (i0 : Is (cx nu one 1 aH aQ) x0 (St' v)) (hr : Den (cx nu one 1 aH aQ) r ((de v))) (b0 : v.length ≤ 9223372036854775807 := by omega) (p0 : v.length ≤ 1000 := by omega) : aM (cx nu one 1 aH aQ) (.call 11 [x0]) r := by
 intro ρ args ha w hl _
 simp only [aJ] at ha
 obtain ⟨v0, t0, rfl, a0, rfl⟩ := ha
 have e0 := i0 ρ _ a0; subst e0
 exact (callsStat v b0 p0 w hl).mono fun e w' he => ⟨_, he.1, hr ρ, he.2⟩
theorem CG {C : Cx} {l : LB} {i j : Nat} (h : pK l = 0) (h1 : C.nu i = St' (pA l)) (h2 : C.nu j = St' (pB l)) : Den C (.tu [.ag [.x i, .x j], .ni]) (.tuple #[.agg #[St' (pA l), St' (pB l)], pE l]) := fun ρ => by
 unfold pE; rw [if_pos h]; simp only [Rel, aJ]; exact ⟨_, rfl, _, _, rfl, ⟨_, rfl, _, _, rfl, h1.symm, _, _, rfl, h2.symm, rfl⟩, _, _, rfl, rfl, rfl⟩
theorem vb {C : Cx} {l : LB} {i j : Nat} (h : ¬ pK l = 0) (h1 : C.nu i = .int .i64 (pC l)) (h2 : C.nu j = St' (pM (pK l))) : Den C (.tu [.ag [.s 0 0, .s 0 0], .aZ 63 (.ag [.x i, .x j])]) (.tuple #[.agg #[St' (pA l), St' (pB l)], pE l]) := fun ρ => by
 unfold pE pA pB; rw [if_neg h, if_neg h, if_neg h]; simp only [Rel, aJ]
 exact ⟨_, rfl, _, _, rfl, ⟨_, rfl, _, _, rfl, ⟨rfl, by decide⟩, _, _, rfl, ⟨rfl, by decide⟩, rfl⟩, _, _, rfl, ⟨_, rfl, _, rfl, _, _, rfl, h1.symm, _, _, rfl, h2.symm, rfl⟩, rfl⟩
theorem kRa0 {C : Cx} {x : AV} (hx : Is C x (af [])) : aM C (.ra x []) x := by
 intro ρ vx vs g1 g2
 have e := hx ρ vx g1; subst e
 simp only [aJ] at g2; subst g2
 exact ⟨[], rfl, by simpa [af] using g1⟩
end Go.Proofs.YtcjanblpboaleaaDoor.cgiCuts

