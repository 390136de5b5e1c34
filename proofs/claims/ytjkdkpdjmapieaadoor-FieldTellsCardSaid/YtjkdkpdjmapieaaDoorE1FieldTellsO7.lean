/- A part of the proof: what an interpreter answers on partly known states is what the program answers. No condition. -/
import Derived.Test.YtjkdkpdjmapieaaDoorE1FieldTellsO6
set_option maxRecDepth 100000
set_option linter.unusedVariables false
set_option linter.unusedSimpArgs false
set_option maxHeartbeats 4000000
namespace Go.Proofs.YtjkdkpdjmapieaaDoor.fieldTells
open Go Go.AX Go.Proofs Go.Proofs.YtjkdkpdjmapieaaDoor
variable {nu : Nat → Value} {one : ∀ i, i < 1000000 → (nu i).oneCell' = true} {E' : Cx} {x' : Ex} {e' : LA} {h' : LE}
def bb (nm : LB) (l : List (LB × LB)) : List (LB × LB) := l.filter fun p => !(aN p.1 == aN nm)
theorem Aq {nm : LB} {z : List (LB × LB)} {i : Int} (h0 : 0 ≤ i) (h1 : i < (z.length : Int)) (h : ¬ aN (aJ z i.toNat).1 = aN nm) : bb nm (z.take (i + 1).toNat) = bb nm (z.take i.toNat) ++ [((aJ z i.toNat).1, (aJ z i.toNat).2)] := by
  have e : (aN (aJ z i.toNat).1 == aN nm) = false := by simpa using h
  rw [nk h0 h1, bb, bb, List.filter_append, List.filter_cons, e]; rfl
theorem Ar {nm : LB} {z : List (LB × LB)} {i : Int} (h0 : 0 ≤ i) (h1 : i < (z.length : Int)) (h : aN (aJ z i.toNat).1 = aN nm) : bb nm (z.take (i + 1).toNat) = bb nm (z.take i.toNat) := by
  have e : (aN (aJ z i.toNat).1 == aN nm) = true := by simpa using h
  rw [nk h0 h1, bb, bb, List.filter_append, List.filter_cons, e]; simp
theorem lU {nm : LB} {z : List (LB × LB)} {i : Int} (h0 : 0 ≤ i) (h1 : ¬ i < (z.length : Int)) : bb nm (z.take i.toNat) = bb nm z := by
  rw [List.take_of_length_le (by omega)]
theorem iF (nm : LB) (l : List (LB × LB)) : (bb nm l).length ≤ l.length := List.length_filter_le _ _
def av (nm : LB) (l : List (LB × LB)) : List LB := (l.filter fun p => aN p.1 == aN nm).map fun p => p.2
theorem AF {nm : LB} {z : List (LB × LB)} {i : Int} (h0 : 0 ≤ i) (h1 : i < (z.length : Int)) (h : aN (aJ z i.toNat).1 = aN nm) : av nm (z.take (i + 1).toNat) = av nm (z.take i.toNat) ++ [(aJ z i.toNat).2] := by
  have e : (aN (aJ z i.toNat).1 == aN nm) = true := by simpa using h
  rw [nk h0 h1, av, av, List.filter_append, List.filter_cons, e, List.map_append]; rfl
theorem AG {nm : LB} {z : List (LB × LB)} {i : Int} (h0 : 0 ≤ i) (h1 : i < (z.length : Int)) (h : ¬ aN (aJ z i.toNat).1 = aN nm) : av nm (z.take (i + 1).toNat) = av nm (z.take i.toNat) := by
  have e : (aN (aJ z i.toNat).1 == aN nm) = false := by simpa using h
  rw [nk h0 h1, av, av, List.filter_append, List.filter_cons, e]; simp
theorem lJ {nm : LB} {z : List (LB × LB)} {i : Int} (h0 : 0 ≤ i) (h1 : ¬ i < (z.length : Int)) : av nm (z.take i.toNat) = av nm z := by
  rw [List.take_of_length_le (by omega)]
theorem eL (nm : LB) (l : List (LB × LB)) : (av nm l).length ≤ l.length := by
  rw [av, List.length_map]; exact List.length_filter_le _ _
theorem eW {l : List (LB × LB)} {N : Nat} (h : ∀ q, q ∈ l → q.1.length ≤ N) (j : Nat) : (aJ l j).1.length ≤ N := by
  rw [aJ, List.getD_eq_getElem?_getD]
  cases hj : l[j]? with
  | none => exact Nat.zero_le _
  | some n => exact h n (List.mem_of_getElem? hj)
def okQ (q : LB × LB) : Bool := decide (q.1.length ≤ 200) && decide (q.2.length ≤ 800)
def dS (z : List (LB × LB)) : Bool := z.all okQ
theorem nthP_mem {z : List (LB × LB)} {i : Int} (h0 : 0 ≤ i) (h1 : i < (z.length : Int)) : aJ z i.toNat ∈ z := by
  have hi : i.toNat < z.length := by omega
  rw [aJ, List.getD_eq_getElem?_getD, List.getElem?_eq_getElem hi]; exact List.getElem_mem hi
theorem rA {z : List (LB × LB)} {i : Int} (h : dS z = true) (h0 : 0 ≤ i) (h1 : i < (z.length : Int)) : (aJ z i.toNat).1.length ≤ 200 ∧ (aJ z i.toNat).2.length ≤ 800 := by
  have := List.all_eq_true.1 h _ (nthP_mem h0 h1)
  unfold okQ at this; rw [Bool.and_eq_true, decide_eq_true_eq, decide_eq_true_eq] at this; exact this
theorem okP_snoc {z : List (LB × LB)} {i : Int} (h0 : 0 ≤ i) (h1 : i < (z.length : Int)) (h : dS (z.take i.toNat) = true) (a : (aJ z i.toNat).1.length ≤ 200) (b : (aJ z i.toNat).2.length ≤ 800) : dS (z.take (i + 1).toNat) = true := by
  rw [nk h0 h1]; unfold dS at h ⊢; rw [List.all_append, h, List.all_cons, List.all_nil, okQ, decide_eq_true a, decide_eq_true b]; rfl
theorem okP_end {z : List (LB × LB)} {i : Int} (h0 : 0 ≤ i) (h1 : ¬ i < (z.length : Int)) (h : dS (z.take i.toNat) = true) : dS z = true := by
  rw [List.take_of_length_le (by omega)] at h; exact h
def cu (W : List LB) (wd : LB) : Bool := W.any fun w => aN w == aN wd
def bx (V : List LB) (wd : LB) : Bool := V.any fun v => cu (bD [] v) wd
section
variable {W V : List LB} {wd : LB} {i : Int}
theorem tk_W (h0 : 0 ≤ i) (h1 : i < (W.length : Int)) : W.take (Int.toNat (i + 1)) = W.take i.toNat ++ [List.getD W i.toNat []] := by
  have hi : i.toNat < W.length := by omega
  rw [show (i + 1).toNat = i.toNat + 1 by omega, List.take_add_one, List.getD_eq_getElem?_getD, List.getElem?_eq_getElem hi]; rfl
theorem any_n (h0 : 0 ≤ i) (h1 : i < (W.length : Int)) (h : cu (W.take i.toNat) wd = false) (hn : ¬ aN (List.getD W i.toNat []) = aN wd) : cu (W.take (Int.toNat (i + 1))) wd = false := by
  unfold cu at h ⊢
  rw [tk_W h0 h1, List.any_append, h, List.any_cons, List.any_nil, Bool.or_false, Bool.false_or]; simpa using hn
theorem any_y (h0 : 0 ≤ i) (h1 : i < (W.length : Int)) (hn : aN (List.getD W i.toNat []) = aN wd) : cu W wd = true := by
  have hi : i.toNat < W.length := by omega
  unfold cu
  rw [List.any_eq_true]
  refine ⟨List.getD W i.toNat [], ?_, by simpa using hn⟩
  rw [List.getD_eq_getElem?_getD, List.getElem?_eq_getElem hi]; exact List.getElem_mem hi
theorem any_e (h1 : ¬ i < (W.length : Int)) (h : cu (W.take i.toNat) wd = false) : cu W wd = false := by
  rw [List.take_of_length_le (by omega)] at h; exact h
theorem AB (h0 : 0 ≤ i) (h1 : i < (V.length : Int)) (h : bx (V.take i.toNat) wd = false) (hn : cu (bD [] (List.getD V i.toNat [])) wd = false) : bx (V.take (Int.toNat (i + 1))) wd = false := by
  unfold bx at h ⊢
  rw [tk_W h0 h1, List.any_append, h, List.any_cons, List.any_nil, hn]; rfl
theorem has_y (h0 : 0 ≤ i) (h1 : i < (V.length : Int)) (hn : cu (bD [] (List.getD V i.toNat [])) wd = true) : bx V wd = true := by
  have hi : i.toNat < V.length := by omega
  unfold bx
  rw [List.any_eq_true]
  refine ⟨List.getD V i.toNat [], ?_, hn⟩
  rw [List.getD_eq_getElem?_getD, List.getElem?_eq_getElem hi]; exact List.getElem_mem hi
theorem has_e (h1 : ¬ i < (V.length : Int)) (h : bx (V.take i.toNat) wd = false) : bx V wd = false := by
  rw [List.take_of_length_le (by omega)] at h; exact h
theorem any_0 (h : W.length = 0) : cu W wd = false := by rw [List.eq_nil_of_length_eq_zero h]; rfl
theorem dN {N : Nat} (h : ∀ q, q ∈ W → q.length ≤ N) (j : Nat) : (List.getD W j []).length ≤ N := by
  rw [List.getD_eq_getElem?_getD]
  cases hj : W[j]? with
  | none => exact Nat.zero_le _
  | some n => exact h n (List.mem_of_getElem? hj)
end
theorem aL7 {c q : LB} (h : q ∈ fE c) : q.length ≤ c.length := by
  unfold fE at h; split at h
  · cases h
  · rw [List.mem_singleton.1 h]; exact cR c
theorem oE : ∀ (s cur : LB) (q : LB), q ∈ bD cur s → q.length ≤ cur.length + s.length
  | [], cur, q, h => by have := aL7 h; simp; omega
  | c :: r, cur, q, h => by
    unfold bD at h
    split at h
    · rcases List.mem_append.1 h with h | h
      · have := aL7 h; simp only [List.length_cons]; omega
      · have := oE r [] q h; simp only [List.length_cons, List.length_nil] at *; omega
    · have := oE r _ q h; simp only [List.length_append, List.length_cons, List.length_nil] at *; omega
def gJ (p : LB × LB) : LB := p.1 ++ ([u8 58, u8 32] ++ (p.2 ++ [u8 13, u8 10]))
def cC (l : List (LB × LB)) : LB := l.flatMap gJ
theorem Dy {z : List (LB × LB)} {i : Int} {T : LB} (h0 : 0 ≤ i) (h1 : i < (z.length : Int)) (h : T = cC (z.take i.toNat)) : T ++ gJ (aJ z i.toNat) = cC (z.take (Int.toNat (i + 1))) := by
  rw [h, nk h0 h1, cC, cC, List.flatMap_append, List.flatMap_cons, List.flatMap_nil, List.append_nil]
theorem bE8 {z : List (LB × LB)} {i : Int} {T : LB} (h1 : ¬ i < (z.length : Int)) (h : T = cC (z.take i.toNat)) : T = cC z := by
  rw [List.take_of_length_le (by omega)] at h; exact h
theorem yS (p : LB × LB) : (gJ p).length = p.1.length + p.2.length + 4 := by
  unfold gJ; simp only [List.length_append, List.length_cons, List.length_nil]; omega
theorem n9 {z : List (LB × LB)} (h : dS z = true) : ∀ q, q ∈ z → q.2.length ≤ 800 := fun q hq => by
  have := List.all_eq_true.1 h q hq
  unfold okQ at this; rw [Bool.and_eq_true, decide_eq_true_eq, decide_eq_true_eq] at this; exact this.2
theorem He {V : List LB} {wd : LB} (h : V = []) : bx V wd = false := by rw [h]; rfl
theorem AH {nm : LB} {z : List (LB × LB)} {N : Nat} (h : ∀ q, q ∈ z → q.2.length ≤ N) : ∀ v, v ∈ av nm z → v.length ≤ N := fun v hv => by
  unfold av at hv
  obtain ⟨q, hq, rfl⟩ := List.mem_map.1 hv
  exact h q (List.mem_filter.1 hq).1
theorem drop_ne {nm : LB} {z : List (LB × LB)} (h : av nm z = []) (h1 : 1 ≤ z.length) : ¬ bb nm z = [] := fun hd => by
  cases z with
  | nil => simp at h1
  | cons q r =>
    unfold av at h; unfold bb at hd
    have h := List.map_eq_nil_iff.1 h
    rw [List.filter_eq_nil_iff] at h hd
    have a := h q (List.mem_cons_self ..); have b := hd q (List.mem_cons_self ..)
    cases hb : (aN q.1 == aN nm) <;> simp_all
theorem aM6 {nm : LB} {z : List (LB × LB)} (h : ∀ q, q ∈ z → dH q) : ∀ q, q ∈ bb nm z → dH q := fun q hq => h q (List.mem_filter.1 hq).1
theorem lW {C : Cx} {a b : AV} {v u : Value} (h : Den C a v) (k : Den C b u) : Den C (.ag [a, b]) (.agg #[v, u]) := fun ρ => by simp only [Rel, aF]; exact ⟨_, rfl, _, _, rfl, h ρ, _, _, rfl, k ρ, rfl⟩
theorem pC_rng (ln : LB) : 0 ≤ pC ln ∧ pC ln ≤ 12 := by
  unfold pC
  split
  · omega
  · split <;> omega
theorem yR : ∀ z : List (LB × LB), dS z = true → 4 * z.length ≤ (cC z).length ∧ (cC z).length ≤ 1004 * z.length
  | [], _ => by simp [cC]
  | q :: z, h => by
    unfold dS at h
    rw [List.all_cons, Bool.and_eq_true] at h
    have h2 := yR z h.2
    have h1 := h.1
    unfold okQ at h1; rw [Bool.and_eq_true, decide_eq_true_eq, decide_eq_true_eq] at h1
    have e : cC (q :: z) = gJ q ++ cC z := List.flatMap_cons
    have := yS q
    rw [e, List.length_append, List.length_cons]; omega
theorem aV4 : bB.fn.get 13 = some (fI Tryd.f13 0) ∧ (fI Tryd.f13 0).body.isSome = true := ⟨rfl, by kernel_rfl⟩
def zS : LK := []
theorem runCodeN_0 (e : Nat) : okA (call (aV zS) 9000 13 [.ni] ⟨H0 e , 4, 0, 0⟩) (I6 0) = true := by kernel_rfl
def xi : List Value := []
theorem pathCodeN_0 (w : World) (hl : aC w) : bN 13 #[.nilIface] w (.int .i64 0) := by
  have ho : ∀ k r, (k, r) ∈ zS → aL (cx (ai (xi)) (fun j _ => aQ (l := xi) rfl j) 1 aC aG) k r := by
    unfold zS
    exact hnil
  refine bp (tb := (aV zS)) (ra := I6 0) rfl ((ae (ai (xi)) (fun j _ => aQ (l := xi) rfl j)).hyps ho) rfl aV4.1 aV4.2 (fun e => runCodeN_0 e ) (args := [.nilIface]) (by simp only [aF, Rel]; exact ⟨_, _, rfl, rfl, rfl⟩) w hl fun x hx => ?_
  simp only [Rel, aF] at hx
  exact hx
theorem callsCodeN (w : World) (hl : aC w) : bN 13 #[.nilIface] w (.int .i64 0) := by
  rw [show (.int .i64 0 : Value) = (.int .i64 0 : Value) from by rfl]
  exact pathCodeN_0 w hl
theorem hokCodeN {x0 r : AV} (i0 : Is (cx nu one 1 aC aG) x0 (.nilIface)) (hr : Den (cx nu one 1 aC aG) r (.int .i64 0)) : aL (cx nu one 1 aC aG) (.call 13 [x0]) r := by
  intro ρ args ha w hl _
  simp only [aF] at ha
  obtain ⟨v0, t0, rfl, a0, rfl⟩ := ha
  have e0 := i0 ρ _ a0; subst e0
  exact (callsCodeN w hl).mono fun e w' he => ⟨_, he.1, hr ρ, he.2⟩
theorem aV5 : bB.fn.get 13 = some (fI Tryd.f13 0) ∧ (fI Tryd.f13 0).body.isSome = true := ⟨rfl, by kernel_rfl⟩
def zT : LK := []
theorem runCodeF_0 (e : Nat) : okA (call (aV zT) 9000 13 [.bm 70 (.ag [.x 0, .x 1])] ⟨H0 e , 4, 0, 0⟩) (.x 0) = true := by kernel_rfl
def xj (kc : Int) (m : LB) : List Value := [.int .i64 (kc), St' m]
theorem pathCodeF_0 (kc : Int) (m : LB) (b0 : -9223372036854775808 ≤ kc) (b1 : kc ≤ 9223372036854775807) (w : World) (hl : aC w) : bN 13 #[.iface 70 (.agg #[.int .i64 kc, St' m])] w (.int .i64 (kc)) := by
  have ho : ∀ k r, (k, r) ∈ zT → aL (cx (ai (xj kc m)) (fun j _ => aQ (l := xj kc m) rfl j) 1 aC aG) k r := by
    unfold zT
    exact hnil
  refine bp (tb := (aV zT)) (ra := .x 0) rfl ((ae (ai (xj kc m)) (fun j _ => aQ (l := xj kc m) rfl j)).hyps ho) rfl aV5.1 aV5.2 (fun e => runCodeF_0 e ) (args := [.iface 70 (.agg #[.int .i64 kc, St' m])]) (by simp only [aF, Rel]; exact ⟨_, _, rfl, ⟨_, rfl, ⟨_, rfl, ⟨_, _, rfl, rfl, ⟨_, _, rfl, rfl, rfl⟩⟩⟩⟩, rfl⟩) w hl fun x hx => ?_
  simp only [Rel, aF] at hx
  exact hx
theorem callsCodeF (kc : Int) (m : LB) (b0 : -9223372036854775808 ≤ kc) (b1 : kc ≤ 9223372036854775807) (w : World) (hl : aC w) : bN 13 #[.iface 70 (.agg #[.int .i64 kc, St' m])] w (.int .i64 kc) := by
  rw [show (.int .i64 kc : Value) = (.int .i64 (kc) : Value) from by rfl]
  exact pathCodeF_0 kc m b0 b1 w hl
theorem hokCodeF {x0 r : AV} {kc : Int} {m : LB} (i0 : Is (cx nu one 1 aC aG) x0 (.iface 70 (.agg #[.int .i64 kc, St' m]))) (hr : Den (cx nu one 1 aC aG) r (.int .i64 kc)) (b0 : -9223372036854775808 ≤ kc := by omega) (b1 : kc ≤ 9223372036854775807 := by omega) : aL (cx nu one 1 aC aG) (.call 13 [x0]) r := by
  intro ρ args ha w hl _
  simp only [aF] at ha
  obtain ⟨v0, t0, rfl, a0, rfl⟩ := ha
  have e0 := i0 ρ _ a0; subst e0
  exact (callsCodeF kc m b0 b1 w hl).mono fun e w' he => ⟨_, he.1, hr ρ, he.2⟩
theorem z7 {i : Nat} {r : AV} {ln : LB} (hx : nu i = pE ln) (hr : Den (cx nu one 1 aC aG) r (.int .i64 (pC ln))) : aL (cx nu one 1 aC aG) (.call 13 [.x i]) r := by
  have hb := pC_rng ln
  by_cases h : pK ln = 0
  · have e : pC ln = 0 := by unfold pC; rw [if_pos h]
    rw [e] at hr
    exact hokCodeN (fun ρ v hv => by simp only [Rel] at hv; rw [hv]; show nu i = _; rw [hx, pE, if_pos h]) hr
  · exact hokCodeF (kc := pC ln) (m := pM (pK ln)) (fun ρ v hv => by simp only [Rel] at hv; rw [hv]; show nu i = _; rw [hx, pE, if_neg h]) hr (by omega) (by omega)
noncomputable def A3 : Code := cS (Tryd.f4.body.getD .skip) 0
theorem yk : cU (br (Tryd.f4.body.getD .skip)) 6 0 0 = true := by kernel_rfl
def kv : List Nat := [0, 2, 3]
def IG : LA := [(1, .sr 4), (9, .x 0)]
def HO : LE := [(4, .r 2000000 23 2 true)]
def w7 (z : List (LB × LB)) (i : Int) : List Value := [.int .i64 (i), .int .i64 ((z.length : Int)), St' ((aJ z i.toNat).1), .int .i64 (((aJ z i.toNat).1.length : Int)), St' ((aJ z i.toNat).2), .int .i64 (((aJ z i.toNat).2.length : Int)), .bool (cY ((aJ z i.toNat).1) ((aJ z i.toNat).2)), .bool (cY ((aJ z i.toNat).1) ((aJ z i.toNat).2)), .int .i64 (i + 1), .int .i64 ((z.length : Int)), St' ((aJ z i.toNat).1), .int .i64 (((aJ z i.toNat).1.length : Int)), .int .i64 ((z.length : Int)), St' ((aJ z i.toNat).1), .int .i64 (((aJ z i.toNat).1.length : Int)), St' ((aJ z i.toNat).2), .int .i64 (((aJ z i.toNat).2.length : Int)), .int .i64 ((z.length : Int))]
def roOk_0 (z : List (LB × LB)) (i : Int) : List Value := [aM aK z]
def pQ (st : Nat × Int) : LA := IG
def zl (st : Nat × Int) : LE := HO
def nuOk (z : List (LB × LB)) (st : Nat × Int) : List Value := w7 z (st.2)
def roOk (z : List (LB × LB)) (st : Nat × Int) : List Value := roOk_0 z (st.2)
theorem onOk (z : List (LB × LB)) (st : Nat × Int) : ∀ j, (ai (nuOk z st) j).oneCell' = true := by
  intro j
  unfold nuOk
  exact aQ (l := w7 z (st.2)) rfl j
theorem ebOk (st : Nat × Int) : (cG (pQ st) && cO kv) = true := by
  unfold pQ
  rfl
noncomputable def DOk (z : List (LB × LB)) (st : Nat × Int) (X : Nat → Value) : Cx := cx (af (nuOk z st) (rX (roOk z st) X)) (ah (onOk z st)) 1 aC aG
abbrev CjOk (z : List (LB × LB)) (tag : Nat) (i : Int) : Prop := (0 ≤ i) ∧ (i ≤ (z.length : Int)) ∧ (z.length ≤ 1000) ∧ (∀ q, q ∈ z → dH q) ∧ (∀ q, q ∈ z → q.1.length ≤ 140737488351232 ∧ q.2.length ≤ 140737488351232) ∧ (dS (z.take i.toNat) = true) ∧ (tag < 1)
def kH (z : List (LB × LB)) (st : Nat × Int) : Prop := CjOk z st.1 (st.2)
theorem rk {z : List (LB × LB)} {tag : Nat} {i : Int} (h : CjOk z tag i) : kH z (tag, i) := h
theorem CY (z : List (LB × LB)) (tag : Nat) (i : Int) (h : kH z (tag, i)) : CjOk z tag i := h
def rU (z : List (LB × LB)) (st : Nat × Int) : Nat := (z.length - (st.2).toNat)
abbrev u0 (z : List (LB × LB)) (E' : Cx) (ex' : Ex) (epx' : LA) (hpx' : LE) (st : Nat × Int) (X : Nat → Value) : Prop := a6 E' A3 kv 140 ex' 4 24 24 54 pQ zl epx' hpx' (kH z) (rU z) (DOk z) st X
noncomputable abbrev B3 (z : List (LB × LB)) (i : Int) (X : Nat → Value) : Cx := cx (af (w7 z i) (rX (roOk_0 z i) X)) (ah (aQ (l := w7 z i) rfl)) 1 aC aG
noncomputable abbrev qA (h : LK) (x : Ex) (th : LA) (sg : List (Nat × Nat)) (m : Nat) (ep : LA) (hp : LE) : Bool := bn (code (aV h) 3000 [] A3 (bc (bf IG kv) 140) ⟨ay HO .leaf, 24, 0, 0⟩) x kv 140 54 th sg 24 m ep hp
theorem stOk_0 {z : List (LB × LB)} {i : Int} {X : Nat → Value} {h : LK} (y : Nat × Int) {th : LA} {sg : List (Nat × Nat)} (ho : ∀ a' r', (a', r') ∈ h → aL (B3 z i X) a' r') (hy : kH z y) (lt : rU z y < rU z (0, i)) (ht : aw (B3 z i X) (DOk z y X) th) (run : qA h .normal th sg 24 (pQ y) (zl y) = true) : u0 z E' x' e' h' (0, i) X :=
  a6.next (tb := aV h) (L := []) (f := 3000) y ((ae _ _).hyps ho) (bA.nil _) rfl hy lt ht run
theorem Dr {z : List (LB × LB)} {i : Int} {X : Nat → Value} {h : LK} {th : LA} {sg : List (Nat × Nat)} (hne : cI x' .normal = false) (ho : ∀ a' r', (a', r') ∈ h → aL (B3 z i X) a' r') (ht : aw (B3 z i X) E' th) (run : qA h x' th sg 54 e' h' = true) : u0 z E' x' e' h' (0, i) X :=
  a6.leave (tb := aV h) (L := []) (f := 3000) ((ae _ _).hyps ho) (bA.nil _) rfl hne ht run
def Fg : LK := [(.rl (.x 2000000) 2, .x 1), (.bin .lss (.x 0) (.x 1), .b true), (.el (.x 2000000) (.x 0) 2 0, .x 2), (.len (.x 2), .x 3), (.bin .gtr (.x 3) (I6 200), .b false), (.el (.x 2000000) (.x 0) 2 1, .x 4), (.len (.x 4), .x 5), (.bin .gtr (.x 5) (I6 800), .b false), (.call 6 [.ag [.x 2, .x 4]], .x 6), (.call 11 [.ag [.x 2, .x 4]], .x 7), (.fK (.x 6) (.x 7), .b true), (.bin .add (.x 0) (I6 1), .x 8)]
theorem runOk_p0 : qA Fg .normal [(0, .x 8), (2000000, .x 2000000)] [] 24 IG HO = true := by kernel_rfl
def Ff : LK := [(.rl (.x 2000000) 2, .x 9), (.bin .lss (.x 0) (.x 9), .b true), (.el (.x 2000000) (.x 0) 2 0, .x 10), (.len (.x 10), .x 11), (.bin .gtr (.x 11) (I6 200), .b true)]
theorem runOk_p1 : qA Ff .ret [(2000000, .x 2000000)] [] 54 [(8, .b true)] [(4, .r 2000000 23 2 true)] = true := by kernel_rfl
def Fe : LK := [(.rl (.x 2000000) 2, .x 12), (.bin .lss (.x 0) (.x 12), .b true), (.el (.x 2000000) (.x 0) 2 0, .x 13), (.len (.x 13), .x 14), (.bin .gtr (.x 14) (I6 200), .b false), (.el (.x 2000000) (.x 0) 2 1, .x 15), (.len (.x 15), .x 16), (.bin .gtr (.x 16) (I6 800), .b true)]
theorem runOk_p2 : qA Fe .ret [(2000000, .x 2000000)] [] 54 [(8, .b true)] [(4, .r 2000000 23 2 true)] = true := by kernel_rfl
def Fc : LK := [(.rl (.x 2000000) 2, .x 17), (.bin .lss (.x 0) (.x 17), .b false)]
theorem runOk_p3 : qA Fc (.exit 0) [(2000000, .x 2000000)] [] 54 [(1, .sr 4)] [(4, .r 2000000 23 2 true)] = true := by kernel_rfl
section
variable {z : List (LB × LB)} {i : Int} {X : Nat → Value}
theorem bA0 (hI : kH z (0, i)) (h0 : i < (z.length : Int)) (h1 : ¬ (200 < ((aJ z i.toNat).1.length : Int))) (h2 : ¬ (800 < ((aJ z i.toNat).2.length : Int))) : u0 z E' x' e' h' (0, i) X := by
  obtain ⟨i0, i1, i2, i3, i4, i5, it⟩ := CY z 0 i hI
  have := dI (l := z) (by assumption) i.toNat
  refine stOk_0 (h := Fg) (0, i + 1) ?_ (rk ⟨by omega, by omega, i2, i3, i4, okP_snoc (by omega) (by omega) i5 (by omega) (by omega), by omega⟩) (by show z.length - (i + 1).toNat < z.length - i.toNat; omega) (bT (b := ((i + 1))) rfl rfl (by omega) (aB (v := aM aK z) rfl rfl (aI))) runOk_p0
  unfold Fg
  exact hc (bu a7 (aA rfl) (aE rfl) (by first | omega | (simp <;> omega))) <|hc (ba rfl rfl (by omega)) <|hc (bw (j := i.toNat) (d := ([], [])) a7 (by decide) (aA rfl) (aA rfl) (aE rfl) (by omega) (by omega) rfl) <|hc (au rfl rfl (by omega)) <|hc (bq rfl (by omega)) <|hc (bw (j := i.toNat) (d := ([], [])) a7 (by decide) (aA rfl) (aA rfl) (aE rfl) (by omega) (by omega) rfl) <|hc (au rfl rfl (by omega)) <|hc (bq rfl (by omega)) <|hc (hokIsA (a := (aJ z i.toNat).1) (v := (aJ z i.toNat).2) (isAg2 (aA rfl) (aA rfl)) (aE rfl)) <|hc (hokIsR (a := (aJ z i.toNat).1) (v := (aJ z i.toNat).2) (isAg2 (aA rfl) (aA rfl)) (aE rfl)) <|hc (yr (aA rfl) (aA rfl)) <|hc (bO rfl rfl (by omega)) <|hnil
end
def bC8 (z : List (LB × LB)) : List Value := []
def roEOk_0 (z : List (LB × LB)) : List Value := [aM aK z]
noncomputable def EOk_0 (z : List (LB × LB)) : Cx := cx (af (bC8 z) (rX (roEOk_0 z) (fun _ => .bool true))) (ah (aQ (l := bC8 z) rfl)) 1 aC aG
theorem roundsOk_0 (z : List (LB × LB)) (x0 : dS z = true) (st : Nat × Int) (X : Nat → Value) (hI : kH z st) : u0 z (EOk_0 z) (.exit 0) [(1, .sr 4)] [(4, .r 2000000 23 2 true)] st X := by
  obtain ⟨tag, i⟩ := st
  have hI0 := hI
  obtain ⟨i0, i1, i2, i3, i4, i5, it⟩ := CY z tag i hI
  obtain rfl : tag = 0 := by omega
  skip
  by_cases h0 : i < (z.length : Int)
  · by_cases h1 : 200 < ((aJ z i.toNat).1.length : Int)
    · exfalso; have hC := rA x0 i0 (by omega); omega
    · by_cases h2 : 800 < ((aJ z i.toNat).2.length : Int)
      · exfalso; have hC := rA x0 i0 (by omega); omega
      · exact bA0 hI0 h0 h1 h2
  · skip
    refine Dr (h := Fc) rfl ?_ (aB (v := aM aK z) rfl rfl (aI)) runOk_p3
    unfold Fc
    exact hc (bu a7 (aA rfl) (aE rfl) (by first | omega | (simp <;> omega))) <|hc (dB rfl rfl (by omega)) <|hnil
theorem EE (z : List (LB × LB)) (x0 : dS z = true) : ax (cx nu one 1 aC aG) (EOk_0 z) A3 kv 140 (.exit 0) 4 24 24 54 pQ zl [(1, .sr 4)] [(4, .r 2000000 23 2 true)] (kH z) (DOk z) :=
  cF (rU z) (fun _ _ => rfl) (fun _ _ => rfl) (fun _ _ => rfl) (fun st X t ht => cE.trans (cD ((by decide : ∀ t, t ∈ kv → t < 1000000) t ht))) rfl rfl rfl ebOk rfl rfl (roundsOk_0 z x0)
def bC7 (z : List (LB × LB)) : List Value := []
def roEOk_1 (z : List (LB × LB)) : List Value := [aM aK z]
noncomputable def EOk_1 (z : List (LB × LB)) : Cx := cx (af (bC7 z) (rX (roEOk_1 z) (fun _ => .bool true))) (ah (aQ (l := bC7 z) rfl)) 1 aC aG
theorem roundsOk_1 (z : List (LB × LB)) (x0 : dS z = false) (st : Nat × Int) (X : Nat → Value) (hI : kH z st) : u0 z (EOk_1 z) .ret [(8, .b true)] [(4, .r 2000000 23 2 true)] st X := by
  obtain ⟨tag, i⟩ := st
  have hI0 := hI
  obtain ⟨i0, i1, i2, i3, i4, i5, it⟩ := CY z tag i hI
  obtain rfl : tag = 0 := by omega
  skip
  by_cases h0 : i < (z.length : Int)
  · by_cases h1 : 200 < ((aJ z i.toNat).1.length : Int)
    · skip
      have := dI (l := z) (by assumption) i.toNat
      refine Dr (h := Ff) rfl ?_ (aB (v := aM aK z) rfl rfl (aI)) runOk_p1
      unfold Ff
      exact hc (bu a7 (aA rfl) (aE rfl) (by first | omega | (simp <;> omega))) <|hc (ba rfl rfl (by omega)) <|hc (bw (j := i.toNat) (d := ([], [])) a7 (by decide) (aA rfl) (aA rfl) (aE rfl) (by omega) (by omega) rfl) <|hc (au rfl rfl (by omega)) <|hc (dU rfl (by omega)) <|hnil
    · by_cases h2 : 800 < ((aJ z i.toNat).2.length : Int)
      · skip
        have := dI (l := z) (by assumption) i.toNat
        refine Dr (h := Fe) rfl ?_ (aB (v := aM aK z) rfl rfl (aI)) runOk_p2
        unfold Fe
        exact hc (bu a7 (aA rfl) (aE rfl) (by first | omega | (simp <;> omega))) <|hc (ba rfl rfl (by omega)) <|hc (bw (j := i.toNat) (d := ([], [])) a7 (by decide) (aA rfl) (aA rfl) (aE rfl) (by omega) (by omega) rfl) <|hc (au rfl rfl (by omega)) <|hc (bq rfl (by omega)) <|hc (bw (j := i.toNat) (d := ([], [])) a7 (by decide) (aA rfl) (aA rfl) (aE rfl) (by omega) (by omega) rfl) <|hc (au rfl rfl (by omega)) <|hc (dU rfl (by omega)) <|hnil
      · exact bA0 hI0 h0 h1 h2
  · exfalso; have hC := okP_end (by omega) (by omega) i5; rw [x0] at hC; cases hC
theorem lfOkOk_1 (z : List (LB × LB)) (x0 : dS z = false) : ax (cx nu one 1 aC aG) (EOk_1 z) A3 kv 140 .ret 4 24 24 54 pQ zl [(8, .b true)] [(4, .r 2000000 23 2 true)] (kH z) (DOk z) :=
  cF (rU z) (fun _ _ => rfl) (fun _ _ => rfl) (fun _ _ => rfl) (fun st X t ht => cE.trans (cD ((by decide : ∀ t, t ∈ kv → t < 1000000) t ht))) rfl rfl rfl ebOk rfl rfl (roundsOk_1 z x0)
noncomputable def uT : Code := cS (Tryd.f10.body.getD .skip) 0
theorem oL : cU (br (Tryd.f10.body.getD .skip)) 3 0 0 = true := by kernel_rfl
def ib : List Nat := []
def IK : LA := [(1, .x 0), (5, .aq), (8, .sr 4), (10, .x 2), (9, .x 1)]
def HU : LE := [(4, .r 2000000 23 2 true)]
def xd (z : List (LB × LB)) (nm : LB) (i : Int) (O : List LB) : List Value := [St' nm, .int .i64 ((z.length : Int)), .int .i64 (i), St' ((aJ z i.toNat).1), St' ((aJ z i.toNat).2), St' (aN ((aJ z i.toNat).1)), St' (aN nm), .int .i64 (i + 1), St' ((aJ z i.toNat).1), St' ((aJ z i.toNat).2), St' (aN ((aJ z i.toNat).1)), St' (aN nm), .int .i64 (i + 1)]
def aG9 (z : List (LB × LB)) (nm : LB) (i : Int) (O : List LB) : List Value := [aM aK z, aO ([] : List LB), aO (([] : List LB) ++ [(aJ z i.toNat).2]), aO ([] : List LB), aO ([] : List LB)]
def uF : LA := [(1, .x 0), (5, .sr 104), (8, .sr 4), (10, .x 2), (9, .x 1)]
def sw : LE := [(4, .r 2000000 23 2 true), (104, .r 2000001 9 1 false)]
def xb (z : List (LB × LB)) (nm : LB) (i : Int) (O : List LB) : List Value := [St' nm, .int .i64 ((z.length : Int)), .int .i64 (i), St' ((aJ z i.toNat).1), St' ((aJ z i.toNat).2), St' (aN ((aJ z i.toNat).1)), St' (aN nm), .int .i64 (i + 1), St' ((aJ z i.toNat).1), St' ((aJ z i.toNat).2), St' (aN ((aJ z i.toNat).1)), St' (aN nm), .int .i64 (i + 1)]
def aG8 (z : List (LB × LB)) (nm : LB) (i : Int) (O : List LB) : List Value := [aM aK z, aO O, aO ([] : List LB), aO (O ++ [(aJ z i.toNat).2]), aO ([] : List LB), aO ([] : List LB)]
def m7 (st : Nat × Int × List LB) : LA := if st.1 = 0 then IK else uF
def sx (st : Nat × Int × List LB) : LE := if st.1 = 0 then HU else sw
def DV (z : List (LB × LB)) (nm : LB) (st : Nat × Int × List LB) : List Value := if st.1 = 0 then xd z nm (st.2.1) (st.2.2) else xb z nm (st.2.1) (st.2.2)
def roGt0104 (z : List (LB × LB)) (nm : LB) (st : Nat × Int × List LB) : List Value := if st.1 = 0 then aG9 z nm (st.2.1) (st.2.2) else aG8 z nm (st.2.1) (st.2.2)
theorem onGt0104 (z : List (LB × LB)) (nm : LB) (st : Nat × Int × List LB) : ∀ j, (ai (DV z nm st) j).oneCell' = true := by
  intro j
  unfold DV
  by_cases g0 : st.1 = 0
  · rw [if_pos g0]; exact aQ (l := xd z nm (st.2.1) (st.2.2)) rfl j
  rw [if_neg g0]
  exact aQ (l := xb z nm (st.2.1) (st.2.2)) rfl j
theorem aV7 (st : Nat × Int × List LB) : (cG (m7 st) && cO ib) = true := by
  unfold m7
  by_cases g0 : st.1 = 0
  · rw [if_pos g0]; rfl
  rw [if_neg g0]
  rfl
noncomputable def vE (z : List (LB × LB)) (nm : LB) (st : Nat × Int × List LB) (X : Nat → Value) : Cx := cx (af (DV z nm st) (rX (roGt0104 z nm st) X)) (ah (onGt0104 z nm st)) 1 aC aG
abbrev JZ (z : List (LB × LB)) (nm : LB) (tag : Nat) (i : Int) (O : List LB) : Prop := (0 ≤ i) ∧ (i ≤ (z.length : Int)) ∧ (z.length ≤ 1000) ∧ (∀ q, q ∈ z → dH q) ∧ (nm.length ≤ 140737488351232 ∧ ∀ q, q ∈ z → q.1.length ≤ 140737488351232) ∧ (O = av nm (z.take i.toNat)) ∧ (tag = 0 → O = []) ∧ (tag = 1 → 1 ≤ O.length) ∧ (tag < 2)
def fu (z : List (LB × LB)) (nm : LB) (st : Nat × Int × List LB) : Prop := JZ z nm st.1 (st.2.1) (st.2.2)
theorem iT {z : List (LB × LB)} {nm : LB} {tag : Nat} {i : Int} {O : List LB} (h : JZ z nm tag i O) : fu z nm (tag, i, O) := h
theorem nb (z : List (LB × LB)) (nm : LB) (tag : Nat) (i : Int) (O : List LB) (h : fu z nm (tag, i, O)) : JZ z nm tag i O := h
def mO (z : List (LB × LB)) (nm : LB) (st : Nat × Int × List LB) : Nat := (z.length - (st.2.1).toNat)
abbrev jF (z : List (LB × LB)) (nm : LB) (E' : Cx) (ex' : Ex) (epx' : LA) (hpx' : LE) (st : Nat × Int × List LB) (X : Nat → Value) : Prop := a6 E' uT ib 25 ex' 4 104 105 144 m7 sx epx' hpx' (fu z nm) (mO z nm) (vE z nm) st X
noncomputable abbrev CG (z : List (LB × LB)) (nm : LB) (i : Int) (O : List LB) (X : Nat → Value) : Cx := cx (af (xd z nm i O) (rX (aG9 z nm i O) X)) (ah (aQ (l := xd z nm i O) rfl)) 1 aC aG
noncomputable abbrev uq (h : LK) (x : Ex) (th : LA) (sg : List (Nat × Nat)) (m : Nat) (ep : LA) (hp : LE) : Bool := bn (code (aV h) 3000 [] uT (bc (bf IK ib) 25) ⟨ay HU .leaf, 105, 0, 0⟩) x ib 25 144 th sg 104 m ep hp
theorem aG0 {z : List (LB × LB)} {nm : LB} {i : Int} {O : List LB} {X : Nat → Value} {h : LK} (y : Nat × Int × List LB) {th : LA} {sg : List (Nat × Nat)} (ho : ∀ a' r', (a', r') ∈ h → aL (CG z nm i O X) a' r') (hy : fu z nm y) (lt : mO z nm y < mO z nm (0, i, O)) (ht : aw (CG z nm i O X) (vE z nm y X) th) (run : uq h .normal th sg 105 (m7 y) (sx y) = true) : jF z nm E' x' e' h' (0, i, O) X :=
  a6.next (tb := aV h) (L := []) (f := 3000) y ((ae _ _).hyps ho) (bA.nil _) rfl hy lt ht run
theorem lvGt0104_0 {z : List (LB × LB)} {nm : LB} {i : Int} {O : List LB} {X : Nat → Value} {h : LK} {th : LA} {sg : List (Nat × Nat)} (hne : cI x' .normal = false) (ho : ∀ a' r', (a', r') ∈ h → aL (CG z nm i O X) a' r') (ht : aw (CG z nm i O X) E' th) (run : uq h x' th sg 144 e' h' = true) : jF z nm E' x' e' h' (0, i, O) X :=
  a6.leave (tb := aV h) (L := []) (f := 3000) ((ae _ _).hyps ho) (bA.nil _) rfl hne ht run
noncomputable abbrev CF (z : List (LB × LB)) (nm : LB) (i : Int) (O : List LB) (X : Nat → Value) : Cx := cx (af (xb z nm i O) (rX (aG8 z nm i O) X)) (ah (aQ (l := xb z nm i O) rfl)) 1 aC aG
noncomputable abbrev um (h : LK) (x : Ex) (th : LA) (sg : List (Nat × Nat)) (m : Nat) (ep : LA) (hp : LE) : Bool := bn (code (aV h) 3000 [] uT (bc (bf uF ib) 25) ⟨ay sw .leaf, 105, 0, 0⟩) x ib 25 144 th sg 104 m ep hp
theorem aF9 {z : List (LB × LB)} {nm : LB} {i : Int} {O : List LB} {X : Nat → Value} {h : LK} (y : Nat × Int × List LB) {th : LA} {sg : List (Nat × Nat)} (ho : ∀ a' r', (a', r') ∈ h → aL (CF z nm i O X) a' r') (hy : fu z nm y) (lt : mO z nm y < mO z nm (1, i, O)) (ht : aw (CF z nm i O X) (vE z nm y X) th) (run : um h .normal th sg 105 (m7 y) (sx y) = true) : jF z nm E' x' e' h' (1, i, O) X :=
  a6.next (tb := aV h) (L := []) (f := 3000) y ((ae _ _).hyps ho) (bA.nil _) rfl hy lt ht run
theorem lvGt0104_1 {z : List (LB × LB)} {nm : LB} {i : Int} {O : List LB} {X : Nat → Value} {h : LK} {th : LA} {sg : List (Nat × Nat)} (hne : cI x' .normal = false) (ho : ∀ a' r', (a', r') ∈ h → aL (CF z nm i O X) a' r') (ht : aw (CF z nm i O X) E' th) (run : um h x' th sg 144 e' h' = true) : jF z nm E' x' e' h' (1, i, O) X :=
  a6.leave (tb := aV h) (L := []) (f := 3000) ((ae _ _).hyps ho) (bA.nil _) rfl hne ht run
def Gz : LK := [(.rn, .x 2000001), (.bin .lss (.x 2) (.x 1), .b true), (.el (.x 2000000) (.x 2) 2 0, .x 3), (.el (.x 2000000) (.x 2) 2 1, .x 4), (.call 43 [.x 3], .x 5), (.call 43 [.x 0], .x 6), (.bin .eql (.x 5) (.x 6), .b true), (.ra (.x 2000001) [.x 4], .x 2000002), (.rf (.x 2000002) 1 16, .b true), (.bin .add (.x 2) (I6 1), .x 7)]
theorem runGt0104_p0 : uq Gz .normal [(0, .x 0), (1, .x 1), (2, .x 7), (2000000, .x 2000000), (2000001, .x 2000002)] [(104, 107)] 105 uF sw = true := by kernel_rfl
def Gy : LK := [(.bin .lss (.x 2) (.x 1), .b false)]
theorem runGt0104_p1 : uq Gy (.exit 0) [(2000000, .x 2000000)] [] 144 [(5, .aq)] [(4, .r 2000000 23 2 true)] = true := by kernel_rfl
def Gx : LK := [(.bin .lss (.x 2) (.x 1), .b true), (.el (.x 2000000) (.x 2) 2 0, .x 8), (.el (.x 2000000) (.x 2) 2 1, .x 9), (.call 43 [.x 8], .x 10), (.call 43 [.x 0], .x 11), (.bin .eql (.x 10) (.x 11), .b false), (.bin .add (.x 2) (I6 1), .x 12)]
theorem runGt0104_p2 : uq Gx .normal [(0, .x 0), (1, .x 1), (2, .x 12), (2000000, .x 2000000)] [] 105 IK HU = true := by kernel_rfl
def Gw : LK := [(.bin .lss (.x 2) (.x 1), .b true), (.el (.x 2000000) (.x 2) 2 0, .x 3), (.el (.x 2000000) (.x 2) 2 1, .x 4), (.call 43 [.x 3], .x 5), (.call 43 [.x 0], .x 6), (.bin .eql (.x 5) (.x 6), .b true), (.ra (.x 2000001) [.x 4], .x 2000003), (.rf (.x 2000003) 1 16, .b true), (.bin .add (.x 2) (I6 1), .x 7)]
theorem runGt0104_p3 : um Gw .normal [(0, .x 0), (1, .x 1), (2, .x 7), (2000000, .x 2000000), (2000001, .x 2000003)] [(104, 107)] 105 uF sw = true := by kernel_rfl
def Gv : LK := [(.bin .lss (.x 2) (.x 1), .b false)]
theorem runGt0104_p4 : um Gv (.exit 0) [(2000000, .x 2000000), (2000001, .x 2000001)] [(104, 104)] 144 [(5, .sr 104)] [(4, .r 2000000 23 2 true), (104, .r 2000001 9 1 false)] = true := by kernel_rfl
def Gu : LK := [(.bin .lss (.x 2) (.x 1), .b true), (.el (.x 2000000) (.x 2) 2 0, .x 8), (.el (.x 2000000) (.x 2) 2 1, .x 9), (.call 43 [.x 8], .x 10), (.call 43 [.x 0], .x 11), (.bin .eql (.x 10) (.x 11), .b false), (.bin .add (.x 2) (I6 1), .x 12)]
theorem runGt0104_p5 : um Gu .normal [(0, .x 0), (1, .x 1), (2, .x 12), (2000000, .x 2000000), (2000001, .x 2000001)] [(104, 104)] 105 uF sw = true := by kernel_rfl
section
variable {z : List (LB × LB)} {nm : LB} {i : Int} {O : List LB} {X : Nat → Value}
theorem aD0 (hI : fu z nm (0, i, O)) (h0 : i < (z.length : Int)) (h1 : (aN ((aJ z i.toNat).1)) = (aN nm)) : jF z nm E' x' e' h' (0, i, O) X := by
  obtain ⟨i0, i1, i2, i3, i4, i5, i6, i7, it⟩ := nb z nm 0 i O hI
  have hnm := eW i4.2 i.toNat
  have hO := congrArg List.length i5
  have hO2 := eL nm (z.take i.toNat)
  have hO3 : (z.take i.toNat).length ≤ z.length := by rw [List.length_take]; omega
  have := dI (l := z) (by assumption) i.toNat
  have : (aN ((aJ z i.toNat).1)).length = ((aJ z i.toNat).1).length := List.length_map ..
  have : (aN nm).length = nm.length := List.length_map ..
  refine aG0 (h := Gz) (1, i + 1, (([] : List LB) ++ [(aJ z i.toNat).2])) ?_ (iT ⟨by omega, by omega, i2, i3, i4, by rw [AF (by omega) (by omega) (by assumption), ← i5, i6 (by omega)], fun h => by omega, fun _ => by simp, by omega⟩) (by show z.length - (i + 1).toNat < z.length - i.toNat; omega) (aB (v := St' nm) rfl rfl (aB (v := .int .i64 ((z.length : Int))) rfl rfl (bT (b := ((i + 1))) rfl rfl (by omega) (aB (v := aM aK z) rfl rfl (aB (v := aO (([] : List LB) ++ [(aJ z i.toNat).2])) rfl rfl (aI)))))) runGt0104_p0
  unfold Gz
  exact hc (da (aE rfl)) <|hc (ba rfl rfl (by omega)) <|hc (bw (j := i.toNat) (d := ([], [])) a7 (by decide) (aA rfl) (aA rfl) (aE rfl) (by omega) (by omega) rfl) <|hc (bw (j := i.toNat) (d := ([], [])) a7 (by decide) (aA rfl) (aA rfl) (aE rfl) (by omega) (by omega) rfl) <|hc (dc (s := (aJ z i.toNat).1) (aA rfl) (aE rfl)) <|hc (dc (s := nm) (aA rfl) (aE rfl)) <|hc (cH (aA rfl) (aA rfl) (by first | exact decide_eq_true rfl | exact decide_eq_true ‹_› | exact decide_eq_false ‹_›)) <|hc (gN (aA rfl) (aA rfl) (aE rfl)) <|hc (gM (aA rfl) (by first | omega | (simp <;> omega)) (by first | omega | (simp <;> omega))) <|hc (bO rfl rfl (by omega)) <|hnil
theorem aC9 (hI : fu z nm (0, i, O)) (h0 : i < (z.length : Int)) (h1 : ¬ ((aN ((aJ z i.toNat).1)) = (aN nm))) : jF z nm E' x' e' h' (0, i, O) X := by
  obtain ⟨i0, i1, i2, i3, i4, i5, i6, i7, it⟩ := nb z nm 0 i O hI
  have hnm := eW i4.2 i.toNat
  have hO := congrArg List.length i5
  have hO2 := eL nm (z.take i.toNat)
  have hO3 : (z.take i.toNat).length ≤ z.length := by rw [List.length_take]; omega
  have := dI (l := z) (by assumption) i.toNat
  have : (aN ((aJ z i.toNat).1)).length = ((aJ z i.toNat).1).length := List.length_map ..
  have : (aN nm).length = nm.length := List.length_map ..
  refine aG0 (h := Gx) (0, i + 1, ([] : List LB)) ?_ (iT ⟨by omega, by omega, i2, i3, i4, by rw [AG (by omega) (by omega) (by assumption)]; exact (i6 (by omega)).symm.trans i5, fun _ => rfl, fun h => by omega, by omega⟩) (by show z.length - (i + 1).toNat < z.length - i.toNat; omega) (aB (v := St' nm) rfl rfl (aB (v := .int .i64 ((z.length : Int))) rfl rfl (bT (b := ((i + 1))) rfl rfl (by omega) (aB (v := aM aK z) rfl rfl (aI))))) runGt0104_p2
  unfold Gx
  exact hc (ba rfl rfl (by omega)) <|hc (bw (j := i.toNat) (d := ([], [])) a7 (by decide) (aA rfl) (aA rfl) (aE rfl) (by omega) (by omega) rfl) <|hc (bw (j := i.toNat) (d := ([], [])) a7 (by decide) (aA rfl) (aA rfl) (aE rfl) (by omega) (by omega) rfl) <|hc (dc (s := (aJ z i.toNat).1) (aA rfl) (aE rfl)) <|hc (dc (s := nm) (aA rfl) (aE rfl)) <|hc (cH (aA rfl) (aA rfl) (by first | exact decide_eq_true rfl | exact decide_eq_true ‹_› | exact decide_eq_false ‹_›)) <|hc (bO rfl rfl (by omega)) <|hnil
theorem aC8 (hI : fu z nm (1, i, O)) (h0 : i < (z.length : Int)) (h1 : (aN ((aJ z i.toNat).1)) = (aN nm)) : jF z nm E' x' e' h' (1, i, O) X := by
  obtain ⟨i0, i1, i2, i3, i4, i5, i6, i7, it⟩ := nb z nm 1 i O hI
  have hnm := eW i4.2 i.toNat
  have hO := congrArg List.length i5
  have hO2 := eL nm (z.take i.toNat)
  have hO3 : (z.take i.toNat).length ≤ z.length := by rw [List.length_take]; omega
  have := dI (l := z) (by assumption) i.toNat
  have : (aN ((aJ z i.toNat).1)).length = ((aJ z i.toNat).1).length := List.length_map ..
  have : (aN nm).length = nm.length := List.length_map ..
  refine aF9 (h := Gw) (1, i + 1, (O ++ [(aJ z i.toNat).2])) ?_ (iT ⟨by omega, by omega, i2, i3, i4, by rw [AF (by omega) (by omega) (by assumption), ← i5], fun h => by omega, fun _ => by simp, by omega⟩) (by show z.length - (i + 1).toNat < z.length - i.toNat; omega) (aB (v := St' nm) rfl rfl (aB (v := .int .i64 ((z.length : Int))) rfl rfl (bT (b := ((i + 1))) rfl rfl (by omega) (aB (v := aM aK z) rfl rfl (aB (v := aO (O ++ [(aJ z i.toNat).2])) rfl rfl (aI)))))) runGt0104_p3
  unfold Gw
  exact hc (ba rfl rfl (by omega)) <|hc (bw (j := i.toNat) (d := ([], [])) a7 (by decide) (aA rfl) (aA rfl) (aE rfl) (by omega) (by omega) rfl) <|hc (bw (j := i.toNat) (d := ([], [])) a7 (by decide) (aA rfl) (aA rfl) (aE rfl) (by omega) (by omega) rfl) <|hc (dc (s := (aJ z i.toNat).1) (aA rfl) (aE rfl)) <|hc (dc (s := nm) (aA rfl) (aE rfl)) <|hc (cH (aA rfl) (aA rfl) (by first | exact decide_eq_true rfl | exact decide_eq_true ‹_› | exact decide_eq_false ‹_›)) <|hc (gN (aA rfl) (aA rfl) (aE rfl)) <|hc (gM (aA rfl) (by first | omega | (simp <;> omega)) (by first | omega | (simp <;> omega))) <|hc (bO rfl rfl (by omega)) <|hnil
theorem aC7 (hI : fu z nm (1, i, O)) (h0 : i < (z.length : Int)) (h1 : ¬ ((aN ((aJ z i.toNat).1)) = (aN nm))) : jF z nm E' x' e' h' (1, i, O) X := by
  obtain ⟨i0, i1, i2, i3, i4, i5, i6, i7, it⟩ := nb z nm 1 i O hI
  have hnm := eW i4.2 i.toNat
  have hO := congrArg List.length i5
  have hO2 := eL nm (z.take i.toNat)
  have hO3 : (z.take i.toNat).length ≤ z.length := by rw [List.length_take]; omega
  have := dI (l := z) (by assumption) i.toNat
  have : (aN ((aJ z i.toNat).1)).length = ((aJ z i.toNat).1).length := List.length_map ..
  have : (aN nm).length = nm.length := List.length_map ..
  refine aF9 (h := Gu) (1, i + 1, O) ?_ (iT ⟨by omega, by omega, i2, i3, i4, by rw [AG (by omega) (by omega) (by assumption)]; exact i5, fun h => by omega, i7, by omega⟩) (by show z.length - (i + 1).toNat < z.length - i.toNat; omega) (aB (v := St' nm) rfl rfl (aB (v := .int .i64 ((z.length : Int))) rfl rfl (bT (b := ((i + 1))) rfl rfl (by omega) (aB (v := aM aK z) rfl rfl (aB (v := aO O) rfl rfl (aI)))))) runGt0104_p5
  unfold Gu
  exact hc (ba rfl rfl (by omega)) <|hc (bw (j := i.toNat) (d := ([], [])) a7 (by decide) (aA rfl) (aA rfl) (aE rfl) (by omega) (by omega) rfl) <|hc (bw (j := i.toNat) (d := ([], [])) a7 (by decide) (aA rfl) (aA rfl) (aE rfl) (by omega) (by omega) rfl) <|hc (dc (s := (aJ z i.toNat).1) (aA rfl) (aE rfl)) <|hc (dc (s := nm) (aA rfl) (aE rfl)) <|hc (cH (aA rfl) (aA rfl) (by first | exact decide_eq_true rfl | exact decide_eq_true ‹_› | exact decide_eq_false ‹_›)) <|hc (bO rfl rfl (by omega)) <|hnil
end
def aE2 (z : List (LB × LB)) (nm : LB) : List Value := []
def roEGt0104_0 (z : List (LB × LB)) (nm : LB) : List Value := [aM aK z]
noncomputable def aN6 (z : List (LB × LB)) (nm : LB) : Cx := cx (af (aE2 z nm) (rX (roEGt0104_0 z nm) (fun _ => .bool true))) (ah (aQ (l := aE2 z nm) rfl)) 1 aC aG
theorem roundsGt0104_0 (z : List (LB × LB)) (nm : LB) (x0 : av nm z = []) (st : Nat × Int × List LB) (X : Nat → Value) (hI : fu z nm st) : jF z nm (aN6 z nm) (.exit 0) [(5, .aq)] [(4, .r 2000000 23 2 true)] st X := by
  obtain ⟨tag, i, O⟩ := st
  have hI0 := hI
  obtain ⟨i0, i1, i2, i3, i4, i5, i6, i7, it⟩ := nb z nm tag i O hI
  rcases (show tag = 0 ∨ tag = 1 from by omega) with rfl | rfl
  · skip
    by_cases h0 : i < (z.length : Int)
    · by_cases h1 : (aN ((aJ z i.toNat).1)) = (aN nm)
      · exact aD0 hI0 h0 h1
      · exact aC9 hI0 h0 h1
    · skip
      have cr := lJ (nm := nm) (z := z) (i := i) (by omega) (by omega)
      refine lvGt0104_0 (h := Gy) rfl ?_ (aB (v := aM aK z) rfl rfl (aI)) runGt0104_p1
      unfold Gy
      exact hc (dB rfl rfl (by omega)) <|hnil
  · skip
    by_cases h0 : i < (z.length : Int)
    · by_cases h1 : (aN ((aJ z i.toNat).1)) = (aN nm)
      · exact aC8 hI0 h0 h1
      · exact aC7 hI0 h0 h1
    · exfalso; have cr := lJ (nm := nm) (z := z) (i := i) (by omega) (by omega); have hL := i7 (by omega); rw [i5, cr, x0] at hL; simp at hL
theorem aA9 (z : List (LB × LB)) (nm : LB) (x0 : av nm z = []) : ax (cx nu one 1 aC aG) (aN6 z nm) uT ib 25 (.exit 0) 4 104 105 144 m7 sx [(5, .aq)] [(4, .r 2000000 23 2 true)] (fu z nm) (vE z nm) :=
  cF (mO z nm) (fun _ _ => rfl) (fun _ _ => rfl) (fun _ _ => rfl) (fun st X t ht => cE.trans (cD ((by decide : ∀ t, t ∈ ib → t < 1000000) t ht))) rfl rfl rfl aV7 rfl rfl (roundsGt0104_0 z nm x0)
def aE1 (z : List (LB × LB)) (nm : LB) : List Value := []
def roEGt0104_1 (z : List (LB × LB)) (nm : LB) : List Value := [aM aK z, aO (av nm z)]
noncomputable def aN5 (z : List (LB × LB)) (nm : LB) : Cx := cx (af (aE1 z nm) (rX (roEGt0104_1 z nm) (fun _ => .bool true))) (ah (aQ (l := aE1 z nm) rfl)) 1 aC aG
theorem roundsGt0104_1 (z : List (LB × LB)) (nm : LB) (x0 : 1 ≤ (av nm z).length) (st : Nat × Int × List LB) (X : Nat → Value) (hI : fu z nm st) : jF z nm (aN5 z nm) (.exit 0) [(5, .sr 104)] [(4, .r 2000000 23 2 true), (104, .r 2000001 9 1 false)] st X := by
  obtain ⟨tag, i, O⟩ := st
  have hI0 := hI
  obtain ⟨i0, i1, i2, i3, i4, i5, i6, i7, it⟩ := nb z nm tag i O hI
  rcases (show tag = 0 ∨ tag = 1 from by omega) with rfl | rfl
  · skip
    by_cases h0 : i < (z.length : Int)
    · by_cases h1 : (aN ((aJ z i.toNat).1)) = (aN nm)
      · exact aD0 hI0 h0 h1
      · exact aC9 hI0 h0 h1
    · exfalso; have cr := lJ (nm := nm) (z := z) (i := i) (by omega) (by omega); have hO := i6 (by omega); rw [hO, cr] at i5; rw [← i5] at x0; simp at x0
  · skip
    by_cases h0 : i < (z.length : Int)
    · by_cases h1 : (aN ((aJ z i.toNat).1)) = (aN nm)
      · exact aC8 hI0 h0 h1
      · exact aC7 hI0 h0 h1
    · skip
      have cr := lJ (nm := nm) (z := z) (i := i) (by omega) (by omega)
      refine lvGt0104_1 (h := Gv) rfl ?_ (aB (v := aM aK z) rfl rfl (dK (v := aO O) (u := aO (av nm z)) rfl rfl (congrArg (aO) (i5.trans cr)) (aI))) runGt0104_p4
      unfold Gv
      exact hc (dB rfl rfl (by omega)) <|hnil
theorem yb (z : List (LB × LB)) (nm : LB) (x0 : 1 ≤ (av nm z).length) : ax (cx nu one 1 aC aG) (aN5 z nm) uT ib 25 (.exit 0) 4 104 105 144 m7 sx [(5, .sr 104)] [(4, .r 2000000 23 2 true), (104, .r 2000001 9 1 false)] (fu z nm) (vE z nm) :=
  cF (mO z nm) (fun _ _ => rfl) (fun _ _ => rfl) (fun _ _ => rfl) (fun st X t ht => cE.trans (cD ((by decide : ∀ t, t ∈ ib → t < 1000000) t ht))) rfl rfl rfl aV7 rfl rfl (roundsGt0104_1 z nm x0)
noncomputable def uS : Code := cS (Tryd.f15.body.getD .skip) 0
theorem oK : cU (br (Tryd.f15.body.getD .skip)) 3 0 0 = true := by kernel_rfl
def ia : List Nat := []
def IJ : LA := [(1, .x 0), (5, .aq), (0, .sr 4), (6, .x 1)]
def HT : LE := [(4, .r 2000000 23 2 true)]
def xZ (z : List (LB × LB)) (nm : LB) (i : Int) (O : List LB) : List Value := [St' nm, .int .i64 (i), .int .i64 ((z.length : Int)), St' ((aJ z i.toNat).1), St' (aN ((aJ z i.toNat).1)), St' (aN nm), St' ((aJ z i.toNat).2), .int .i64 (i + 1), .int .i64 ((z.length : Int)), .int .i64 ((z.length : Int)), St' ((aJ z i.toNat).1), St' (aN ((aJ z i.toNat).1)), St' (aN nm), .int .i64 (i + 1)]
def aG7 (z : List (LB × LB)) (nm : LB) (i : Int) (O : List LB) : List Value := [aM aK z, aO ([] : List LB), aO (([] : List LB) ++ [(aJ z i.toNat).2]), aO ([] : List LB), aO ([] : List LB)]
def uE : LA := [(1, .x 0), (5, .sr 204), (0, .sr 4), (6, .x 1)]
def ss : LE := [(4, .r 2000000 23 2 true), (204, .r 2000001 9 1 false)]
def xY (z : List (LB × LB)) (nm : LB) (i : Int) (O : List LB) : List Value := [St' nm, .int .i64 (i), .int .i64 ((z.length : Int)), St' ((aJ z i.toNat).1), St' (aN ((aJ z i.toNat).1)), St' (aN nm), St' ((aJ z i.toNat).2), .int .i64 (i + 1), .int .i64 ((z.length : Int)), .int .i64 ((z.length : Int)), St' ((aJ z i.toNat).1), St' (aN ((aJ z i.toNat).1)), St' (aN nm), .int .i64 (i + 1)]
def aG6 (z : List (LB × LB)) (nm : LB) (i : Int) (O : List LB) : List Value := [aM aK z, aO O, aO ([] : List LB), aO (O ++ [(aJ z i.toNat).2]), aO ([] : List LB), aO ([] : List LB)]
def m0 (st : Nat × Int × List LB) : LA := if st.1 = 0 then IJ else uE
def su (st : Nat × Int × List LB) : LE := if st.1 = 0 then HT else ss
def DU (z : List (LB × LB)) (nm : LB) (st : Nat × Int × List LB) : List Value := if st.1 = 0 then xZ z nm (st.2.1) (st.2.2) else xY z nm (st.2.1) (st.2.2)
def roGt1204 (z : List (LB × LB)) (nm : LB) (st : Nat × Int × List LB) : List Value := if st.1 = 0 then aG7 z nm (st.2.1) (st.2.2) else aG6 z nm (st.2.1) (st.2.2)
theorem onGt1204 (z : List (LB × LB)) (nm : LB) (st : Nat × Int × List LB) : ∀ j, (ai (DU z nm st) j).oneCell' = true := by
  intro j
  unfold DU
  by_cases g0 : st.1 = 0
  · rw [if_pos g0]; exact aQ (l := xZ z nm (st.2.1) (st.2.2)) rfl j
  rw [if_neg g0]
  exact aQ (l := xY z nm (st.2.1) (st.2.2)) rfl j
theorem aV6 (st : Nat × Int × List LB) : (cG (m0 st) && cO ia) = true := by
  unfold m0
  by_cases g0 : st.1 = 0
  · rw [if_pos g0]; rfl
  rw [if_neg g0]
  rfl
noncomputable def vD (z : List (LB × LB)) (nm : LB) (st : Nat × Int × List LB) (X : Nat → Value) : Cx := cx (af (DU z nm st) (rX (roGt1204 z nm st) X)) (ah (onGt1204 z nm st)) 1 aC aG
abbrev JY (z : List (LB × LB)) (nm : LB) (tag : Nat) (i : Int) (O : List LB) : Prop := (0 ≤ i) ∧ (i ≤ (z.length : Int)) ∧ (z.length ≤ 1000) ∧ (∀ q, q ∈ z → dH q) ∧ (nm.length ≤ 140737488351232 ∧ ∀ q, q ∈ z → q.1.length ≤ 140737488351232) ∧ (O = av nm (z.take i.toNat)) ∧ (tag = 0 → O = []) ∧ (tag = 1 → 1 ≤ O.length) ∧ (tag < 2)
def ft (z : List (LB × LB)) (nm : LB) (st : Nat × Int × List LB) : Prop := JY z nm st.1 (st.2.1) (st.2.2)
theorem iS {z : List (LB × LB)} {nm : LB} {tag : Nat} {i : Int} {O : List LB} (h : JY z nm tag i O) : ft z nm (tag, i, O) := h
theorem na (z : List (LB × LB)) (nm : LB) (tag : Nat) (i : Int) (O : List LB) (h : ft z nm (tag, i, O)) : JY z nm tag i O := h
def mN (z : List (LB × LB)) (nm : LB) (st : Nat × Int × List LB) : Nat := (z.length - (st.2.1).toNat)
abbrev jE (z : List (LB × LB)) (nm : LB) (E' : Cx) (ex' : Ex) (epx' : LA) (hpx' : LE) (st : Nat × Int × List LB) (X : Nat → Value) : Prop := a6 E' uS ia 31 ex' 4 204 205 244 m0 su epx' hpx' (ft z nm) (mN z nm) (vD z nm) st X
noncomputable abbrev CE (z : List (LB × LB)) (nm : LB) (i : Int) (O : List LB) (X : Nat → Value) : Cx := cx (af (xZ z nm i O) (rX (aG7 z nm i O) X)) (ah (aQ (l := xZ z nm i O) rfl)) 1 aC aG
noncomputable abbrev uk (h : LK) (x : Ex) (th : LA) (sg : List (Nat × Nat)) (m : Nat) (ep : LA) (hp : LE) : Bool := bn (code (aV h) 3000 [] uS (bc (bf IJ ia) 31) ⟨ay HT .leaf, 205, 0, 0⟩) x ia 31 244 th sg 204 m ep hp
theorem aF8 {z : List (LB × LB)} {nm : LB} {i : Int} {O : List LB} {X : Nat → Value} {h : LK} (y : Nat × Int × List LB) {th : LA} {sg : List (Nat × Nat)} (ho : ∀ a' r', (a', r') ∈ h → aL (CE z nm i O X) a' r') (hy : ft z nm y) (lt : mN z nm y < mN z nm (0, i, O)) (ht : aw (CE z nm i O X) (vD z nm y X) th) (run : uk h .normal th sg 205 (m0 y) (su y) = true) : jE z nm E' x' e' h' (0, i, O) X :=
  a6.next (tb := aV h) (L := []) (f := 3000) y ((ae _ _).hyps ho) (bA.nil _) rfl hy lt ht run
theorem lvGt1204_0 {z : List (LB × LB)} {nm : LB} {i : Int} {O : List LB} {X : Nat → Value} {h : LK} {th : LA} {sg : List (Nat × Nat)} (hne : cI x' .normal = false) (ho : ∀ a' r', (a', r') ∈ h → aL (CE z nm i O X) a' r') (ht : aw (CE z nm i O X) E' th) (run : uk h x' th sg 244 e' h' = true) : jE z nm E' x' e' h' (0, i, O) X :=
  a6.leave (tb := aV h) (L := []) (f := 3000) ((ae _ _).hyps ho) (bA.nil _) rfl hne ht run
noncomputable abbrev CD (z : List (LB × LB)) (nm : LB) (i : Int) (O : List LB) (X : Nat → Value) : Cx := cx (af (xY z nm i O) (rX (aG6 z nm i O) X)) (ah (aQ (l := xY z nm i O) rfl)) 1 aC aG
noncomputable abbrev uj (h : LK) (x : Ex) (th : LA) (sg : List (Nat × Nat)) (m : Nat) (ep : LA) (hp : LE) : Bool := bn (code (aV h) 3000 [] uS (bc (bf uE ia) 31) ⟨ay ss .leaf, 205, 0, 0⟩) x ia 31 244 th sg 204 m ep hp
theorem aF7 {z : List (LB × LB)} {nm : LB} {i : Int} {O : List LB} {X : Nat → Value} {h : LK} (y : Nat × Int × List LB) {th : LA} {sg : List (Nat × Nat)} (ho : ∀ a' r', (a', r') ∈ h → aL (CD z nm i O X) a' r') (hy : ft z nm y) (lt : mN z nm y < mN z nm (1, i, O)) (ht : aw (CD z nm i O X) (vD z nm y X) th) (run : uj h .normal th sg 205 (m0 y) (su y) = true) : jE z nm E' x' e' h' (1, i, O) X :=
  a6.next (tb := aV h) (L := []) (f := 3000) y ((ae _ _).hyps ho) (bA.nil _) rfl hy lt ht run
theorem lvGt1204_1 {z : List (LB × LB)} {nm : LB} {i : Int} {O : List LB} {X : Nat → Value} {h : LK} {th : LA} {sg : List (Nat × Nat)} (hne : cI x' .normal = false) (ho : ∀ a' r', (a', r') ∈ h → aL (CD z nm i O X) a' r') (ht : aw (CD z nm i O X) E' th) (run : uj h x' th sg 244 e' h' = true) : jE z nm E' x' e' h' (1, i, O) X :=
  a6.leave (tb := aV h) (L := []) (f := 3000) ((ae _ _).hyps ho) (bA.nil _) rfl hne ht run
def Gt : LK := [(.rn, .x 2000001), (.rl (.x 2000000) 2, .x 2), (.bin .lss (.x 1) (.x 2), .b true), (.el (.x 2000000) (.x 1) 2 0, .x 3), (.call 33 [.x 3], .x 4), (.call 33 [.x 0], .x 5), (.bin .eql (.x 4) (.x 5), .b true), (.el (.x 2000000) (.x 1) 2 1, .x 6), (.ra (.x 2000001) [.x 6], .x 2000002), (.rf (.x 2000002) 1 16, .b true), (.bin .add (.x 1) (I6 1), .x 7)]
theorem runGt1204_p0 : uk Gt .normal [(0, .x 0), (1, .x 7), (2000000, .x 2000000), (2000001, .x 2000002)] [(204, 206)] 205 uE ss = true := by kernel_rfl
def Gs : LK := [(.rl (.x 2000000) 2, .x 8), (.bin .lss (.x 1) (.x 8), .b false)]
theorem runGt1204_p1 : uk Gs (.exit 0) [(2000000, .x 2000000)] [] 244 [(5, .aq)] [(4, .r 2000000 23 2 true)] = true := by kernel_rfl
def Gr : LK := [(.rl (.x 2000000) 2, .x 9), (.bin .lss (.x 1) (.x 9), .b true), (.el (.x 2000000) (.x 1) 2 0, .x 10), (.call 33 [.x 10], .x 11), (.call 33 [.x 0], .x 12), (.bin .eql (.x 11) (.x 12), .b false), (.bin .add (.x 1) (I6 1), .x 13)]
theorem runGt1204_p2 : uk Gr .normal [(0, .x 0), (1, .x 13), (2000000, .x 2000000)] [] 205 IJ HT = true := by kernel_rfl
def Gq : LK := [(.rl (.x 2000000) 2, .x 2), (.bin .lss (.x 1) (.x 2), .b true), (.el (.x 2000000) (.x 1) 2 0, .x 3), (.call 33 [.x 3], .x 4), (.call 33 [.x 0], .x 5), (.bin .eql (.x 4) (.x 5), .b true), (.el (.x 2000000) (.x 1) 2 1, .x 6), (.ra (.x 2000001) [.x 6], .x 2000003), (.rf (.x 2000003) 1 16, .b true), (.bin .add (.x 1) (I6 1), .x 7)]
theorem runGt1204_p3 : uj Gq .normal [(0, .x 0), (1, .x 7), (2000000, .x 2000000), (2000001, .x 2000003)] [(204, 206)] 205 uE ss = true := by kernel_rfl
def Gp : LK := [(.rl (.x 2000000) 2, .x 8), (.bin .lss (.x 1) (.x 8), .b false)]
theorem runGt1204_p4 : uj Gp (.exit 0) [(2000000, .x 2000000), (2000001, .x 2000001)] [(204, 204)] 244 [(5, .sr 204)] [(4, .r 2000000 23 2 true), (204, .r 2000001 9 1 false)] = true := by kernel_rfl
def Gn : LK := [(.rl (.x 2000000) 2, .x 9), (.bin .lss (.x 1) (.x 9), .b true), (.el (.x 2000000) (.x 1) 2 0, .x 10), (.call 33 [.x 10], .x 11), (.call 33 [.x 0], .x 12), (.bin .eql (.x 11) (.x 12), .b false), (.bin .add (.x 1) (I6 1), .x 13)]
theorem runGt1204_p5 : uj Gn .normal [(0, .x 0), (1, .x 13), (2000000, .x 2000000), (2000001, .x 2000001)] [(204, 204)] 205 uE ss = true := by kernel_rfl
section
variable {z : List (LB × LB)} {nm : LB} {i : Int} {O : List LB} {X : Nat → Value}
theorem aC6 (hI : ft z nm (0, i, O)) (h0 : i < (z.length : Int)) (h1 : (aN ((aJ z i.toNat).1)) = (aN nm)) : jE z nm E' x' e' h' (0, i, O) X := by
  obtain ⟨i0, i1, i2, i3, i4, i5, i6, i7, it⟩ := na z nm 0 i O hI
  have hnm := eW i4.2 i.toNat
  have hO := congrArg List.length i5
  have hO2 := eL nm (z.take i.toNat)
  have hO3 : (z.take i.toNat).length ≤ z.length := by rw [List.length_take]; omega
  have := dI (l := z) (by assumption) i.toNat
  have : (aN ((aJ z i.toNat).1)).length = ((aJ z i.toNat).1).length := List.length_map ..
  have : (aN nm).length = nm.length := List.length_map ..
  refine aF8 (h := Gt) (1, i + 1, (([] : List LB) ++ [(aJ z i.toNat).2])) ?_ (iS ⟨by omega, by omega, i2, i3, i4, by rw [AF (by omega) (by omega) (by assumption), ← i5, i6 (by omega)], fun h => by omega, fun _ => by simp, by omega⟩) (by show z.length - (i + 1).toNat < z.length - i.toNat; omega) (aB (v := St' nm) rfl rfl (bT (b := ((i + 1))) rfl rfl (by omega) (aB (v := aM aK z) rfl rfl (aB (v := aO (([] : List LB) ++ [(aJ z i.toNat).2])) rfl rfl (aI))))) runGt1204_p0
  unfold Gt
  exact hc (da (aE rfl)) <|hc (bu a7 (aA rfl) (aE rfl) (by first | omega | (simp <;> omega))) <|hc (ba rfl rfl (by omega)) <|hc (bw (j := i.toNat) (d := ([], [])) a7 (by decide) (aA rfl) (aA rfl) (aE rfl) (by omega) (by omega) rfl) <|hc (db (s := (aJ z i.toNat).1) (aA rfl) (aE rfl)) <|hc (db (s := nm) (aA rfl) (aE rfl)) <|hc (cH (aA rfl) (aA rfl) (by first | exact decide_eq_true rfl | exact decide_eq_true ‹_› | exact decide_eq_false ‹_›)) <|hc (bw (j := i.toNat) (d := ([], [])) a7 (by decide) (aA rfl) (aA rfl) (aE rfl) (by omega) (by omega) rfl) <|hc (gN (aA rfl) (aA rfl) (aE rfl)) <|hc (gM (aA rfl) (by first | omega | (simp <;> omega)) (by first | omega | (simp <;> omega))) <|hc (bO rfl rfl (by omega)) <|hnil
theorem aC5 (hI : ft z nm (0, i, O)) (h0 : i < (z.length : Int)) (h1 : ¬ ((aN ((aJ z i.toNat).1)) = (aN nm))) : jE z nm E' x' e' h' (0, i, O) X := by
  obtain ⟨i0, i1, i2, i3, i4, i5, i6, i7, it⟩ := na z nm 0 i O hI
  have hnm := eW i4.2 i.toNat
  have hO := congrArg List.length i5
  have hO2 := eL nm (z.take i.toNat)
  have hO3 : (z.take i.toNat).length ≤ z.length := by rw [List.length_take]; omega
  have := dI (l := z) (by assumption) i.toNat
  have : (aN ((aJ z i.toNat).1)).length = ((aJ z i.toNat).1).length := List.length_map ..
  have : (aN nm).length = nm.length := List.length_map ..
  refine aF8 (h := Gr) (0, i + 1, ([] : List LB)) ?_ (iS ⟨by omega, by omega, i2, i3, i4, by rw [AG (by omega) (by omega) (by assumption)]; exact (i6 (by omega)).symm.trans i5, fun _ => rfl, fun h => by omega, by omega⟩) (by show z.length - (i + 1).toNat < z.length - i.toNat; omega) (aB (v := St' nm) rfl rfl (bT (b := ((i + 1))) rfl rfl (by omega) (aB (v := aM aK z) rfl rfl (aI)))) runGt1204_p2
  unfold Gr
  exact hc (bu a7 (aA rfl) (aE rfl) (by first | omega | (simp <;> omega))) <|hc (ba rfl rfl (by omega)) <|hc (bw (j := i.toNat) (d := ([], [])) a7 (by decide) (aA rfl) (aA rfl) (aE rfl) (by omega) (by omega) rfl) <|hc (db (s := (aJ z i.toNat).1) (aA rfl) (aE rfl)) <|hc (db (s := nm) (aA rfl) (aE rfl)) <|hc (cH (aA rfl) (aA rfl) (by first | exact decide_eq_true rfl | exact decide_eq_true ‹_› | exact decide_eq_false ‹_›)) <|hc (bO rfl rfl (by omega)) <|hnil
theorem aC4 (hI : ft z nm (1, i, O)) (h0 : i < (z.length : Int)) (h1 : (aN ((aJ z i.toNat).1)) = (aN nm)) : jE z nm E' x' e' h' (1, i, O) X := by
  obtain ⟨i0, i1, i2, i3, i4, i5, i6, i7, it⟩ := na z nm 1 i O hI
  have hnm := eW i4.2 i.toNat
  have hO := congrArg List.length i5
  have hO2 := eL nm (z.take i.toNat)
  have hO3 : (z.take i.toNat).length ≤ z.length := by rw [List.length_take]; omega
  have := dI (l := z) (by assumption) i.toNat
  have : (aN ((aJ z i.toNat).1)).length = ((aJ z i.toNat).1).length := List.length_map ..
  have : (aN nm).length = nm.length := List.length_map ..
  refine aF7 (h := Gq) (1, i + 1, (O ++ [(aJ z i.toNat).2])) ?_ (iS ⟨by omega, by omega, i2, i3, i4, by rw [AF (by omega) (by omega) (by assumption), ← i5], fun h => by omega, fun _ => by simp, by omega⟩) (by show z.length - (i + 1).toNat < z.length - i.toNat; omega) (aB (v := St' nm) rfl rfl (bT (b := ((i + 1))) rfl rfl (by omega) (aB (v := aM aK z) rfl rfl (aB (v := aO (O ++ [(aJ z i.toNat).2])) rfl rfl (aI))))) runGt1204_p3
  unfold Gq
  exact hc (bu a7 (aA rfl) (aE rfl) (by first | omega | (simp <;> omega))) <|hc (ba rfl rfl (by omega)) <|hc (bw (j := i.toNat) (d := ([], [])) a7 (by decide) (aA rfl) (aA rfl) (aE rfl) (by omega) (by omega) rfl) <|hc (db (s := (aJ z i.toNat).1) (aA rfl) (aE rfl)) <|hc (db (s := nm) (aA rfl) (aE rfl)) <|hc (cH (aA rfl) (aA rfl) (by first | exact decide_eq_true rfl | exact decide_eq_true ‹_› | exact decide_eq_false ‹_›)) <|hc (bw (j := i.toNat) (d := ([], [])) a7 (by decide) (aA rfl) (aA rfl) (aE rfl) (by omega) (by omega) rfl) <|hc (gN (aA rfl) (aA rfl) (aE rfl)) <|hc (gM (aA rfl) (by first | omega | (simp <;> omega)) (by first | omega | (simp <;> omega))) <|hc (bO rfl rfl (by omega)) <|hnil
theorem aC3 (hI : ft z nm (1, i, O)) (h0 : i < (z.length : Int)) (h1 : ¬ ((aN ((aJ z i.toNat).1)) = (aN nm))) : jE z nm E' x' e' h' (1, i, O) X := by
  obtain ⟨i0, i1, i2, i3, i4, i5, i6, i7, it⟩ := na z nm 1 i O hI
  have hnm := eW i4.2 i.toNat
  have hO := congrArg List.length i5
  have hO2 := eL nm (z.take i.toNat)
  have hO3 : (z.take i.toNat).length ≤ z.length := by rw [List.length_take]; omega
  have := dI (l := z) (by assumption) i.toNat
  have : (aN ((aJ z i.toNat).1)).length = ((aJ z i.toNat).1).length := List.length_map ..
  have : (aN nm).length = nm.length := List.length_map ..
  refine aF7 (h := Gn) (1, i + 1, O) ?_ (iS ⟨by omega, by omega, i2, i3, i4, by rw [AG (by omega) (by omega) (by assumption)]; exact i5, fun h => by omega, i7, by omega⟩) (by show z.length - (i + 1).toNat < z.length - i.toNat; omega) (aB (v := St' nm) rfl rfl (bT (b := ((i + 1))) rfl rfl (by omega) (aB (v := aM aK z) rfl rfl (aB (v := aO O) rfl rfl (aI))))) runGt1204_p5
  unfold Gn
  exact hc (bu a7 (aA rfl) (aE rfl) (by first | omega | (simp <;> omega))) <|hc (ba rfl rfl (by omega)) <|hc (bw (j := i.toNat) (d := ([], [])) a7 (by decide) (aA rfl) (aA rfl) (aE rfl) (by omega) (by omega) rfl) <|hc (db (s := (aJ z i.toNat).1) (aA rfl) (aE rfl)) <|hc (db (s := nm) (aA rfl) (aE rfl)) <|hc (cH (aA rfl) (aA rfl) (by first | exact decide_eq_true rfl | exact decide_eq_true ‹_› | exact decide_eq_false ‹_›)) <|hc (bO rfl rfl (by omega)) <|hnil
end
def aE0 (z : List (LB × LB)) (nm : LB) : List Value := []
def roEGt1204_0 (z : List (LB × LB)) (nm : LB) : List Value := [aM aK z]
noncomputable def aN4 (z : List (LB × LB)) (nm : LB) : Cx := cx (af (aE0 z nm) (rX (roEGt1204_0 z nm) (fun _ => .bool true))) (ah (aQ (l := aE0 z nm) rfl)) 1 aC aG
theorem roundsGt1204_0 (z : List (LB × LB)) (nm : LB) (x0 : av nm z = []) (st : Nat × Int × List LB) (X : Nat → Value) (hI : ft z nm st) : jE z nm (aN4 z nm) (.exit 0) [(5, .aq)] [(4, .r 2000000 23 2 true)] st X := by
  obtain ⟨tag, i, O⟩ := st
  have hI0 := hI
  obtain ⟨i0, i1, i2, i3, i4, i5, i6, i7, it⟩ := na z nm tag i O hI
  rcases (show tag = 0 ∨ tag = 1 from by omega) with rfl | rfl
  · skip
    by_cases h0 : i < (z.length : Int)
    · by_cases h1 : (aN ((aJ z i.toNat).1)) = (aN nm)
      · exact aC6 hI0 h0 h1
      · exact aC5 hI0 h0 h1
    · skip
      have cr := lJ (nm := nm) (z := z) (i := i) (by omega) (by omega)
      refine lvGt1204_0 (h := Gs) rfl ?_ (aB (v := aM aK z) rfl rfl (aI)) runGt1204_p1
      unfold Gs
      exact hc (bu a7 (aA rfl) (aE rfl) (by first | omega | (simp <;> omega))) <|hc (dB rfl rfl (by omega)) <|hnil
  · skip
    by_cases h0 : i < (z.length : Int)
    · by_cases h1 : (aN ((aJ z i.toNat).1)) = (aN nm)
      · exact aC4 hI0 h0 h1
      · exact aC3 hI0 h0 h1
    · exfalso; have cr := lJ (nm := nm) (z := z) (i := i) (by omega) (by omega); have hL := i7 (by omega); rw [i5, cr, x0] at hL; simp at hL
theorem aA8 (z : List (LB × LB)) (nm : LB) (x0 : av nm z = []) : ax (cx nu one 1 aC aG) (aN4 z nm) uS ia 31 (.exit 0) 4 204 205 244 m0 su [(5, .aq)] [(4, .r 2000000 23 2 true)] (ft z nm) (vD z nm) :=
  cF (mN z nm) (fun _ _ => rfl) (fun _ _ => rfl) (fun _ _ => rfl) (fun st X t ht => cE.trans (cD ((by decide : ∀ t, t ∈ ia → t < 1000000) t ht))) rfl rfl rfl aV6 rfl rfl (roundsGt1204_0 z nm x0)
def aD9 (z : List (LB × LB)) (nm : LB) : List Value := []
def roEGt1204_1 (z : List (LB × LB)) (nm : LB) : List Value := [aM aK z, aO (av nm z)]
noncomputable def aN3 (z : List (LB × LB)) (nm : LB) : Cx := cx (af (aD9 z nm) (rX (roEGt1204_1 z nm) (fun _ => .bool true))) (ah (aQ (l := aD9 z nm) rfl)) 1 aC aG
theorem roundsGt1204_1 (z : List (LB × LB)) (nm : LB) (x0 : 1 ≤ (av nm z).length) (st : Nat × Int × List LB) (X : Nat → Value) (hI : ft z nm st) : jE z nm (aN3 z nm) (.exit 0) [(5, .sr 204)] [(4, .r 2000000 23 2 true), (204, .r 2000001 9 1 false)] st X := by
  obtain ⟨tag, i, O⟩ := st
  have hI0 := hI
  obtain ⟨i0, i1, i2, i3, i4, i5, i6, i7, it⟩ := na z nm tag i O hI
  rcases (show tag = 0 ∨ tag = 1 from by omega) with rfl | rfl
  · skip
    by_cases h0 : i < (z.length : Int)
    · by_cases h1 : (aN ((aJ z i.toNat).1)) = (aN nm)
      · exact aC6 hI0 h0 h1
      · exact aC5 hI0 h0 h1
    · exfalso; have cr := lJ (nm := nm) (z := z) (i := i) (by omega) (by omega); have hO := i6 (by omega); rw [hO, cr] at i5; rw [← i5] at x0; simp at x0
  · skip
    by_cases h0 : i < (z.length : Int)
    · by_cases h1 : (aN ((aJ z i.toNat).1)) = (aN nm)
      · exact aC4 hI0 h0 h1
      · exact aC3 hI0 h0 h1
    · skip
      have cr := lJ (nm := nm) (z := z) (i := i) (by omega) (by omega)
      refine lvGt1204_1 (h := Gp) rfl ?_ (aB (v := aM aK z) rfl rfl (dK (v := aO O) (u := aO (av nm z)) rfl rfl (congrArg (aO) (i5.trans cr)) (aI))) runGt1204_p4
      unfold Gp
      exact hc (bu a7 (aA rfl) (aE rfl) (by first | omega | (simp <;> omega))) <|hc (dB rfl rfl (by omega)) <|hnil
theorem ya (z : List (LB × LB)) (nm : LB) (x0 : 1 ≤ (av nm z).length) : ax (cx nu one 1 aC aG) (aN3 z nm) uS ia 31 (.exit 0) 4 204 205 244 m0 su [(5, .sr 204)] [(4, .r 2000000 23 2 true), (204, .r 2000001 9 1 false)] (ft z nm) (vD z nm) :=
  cF (mN z nm) (fun _ _ => rfl) (fun _ _ => rfl) (fun _ _ => rfl) (fun st X t ht => cE.trans (cD ((by decide : ∀ t, t ∈ ia → t < 1000000) t ht))) rfl rfl rfl aV6 rfl rfl (roundsGt1204_1 z nm x0)
noncomputable def uV : Code := cS (Tryd.f9.body.getD .skip) 0
theorem ER : cU (br (Tryd.f9.body.getD .skip)) 3 0 0 = true := by kernel_rfl
def ig : List Nat := []
def IM : LA := [(1, .x 0), (5, .aq), (8, .sr 4), (10, .x 2), (9, .x 1)]
def HW : LE := [(4, .r 2000000 23 2 true)]
def xh (z : List (LB × LB)) (nm : LB) (i : Int) (O : List (LB × LB)) : List Value := [St' nm, .int .i64 ((z.length : Int)), .int .i64 (i), St' ((aJ z i.toNat).1), St' ((aJ z i.toNat).2), St' (aN ((aJ z i.toNat).1)), St' (aN nm), .int .i64 (i + 1), St' ((aJ z i.toNat).1), St' ((aJ z i.toNat).2), St' (aN ((aJ z i.toNat).1)), St' (aN nm), .int .i64 (i + 1)]
def aH3 (z : List (LB × LB)) (nm : LB) (i : Int) (O : List (LB × LB)) : List Value := [aM aK z, aO ([] : List LB), aO ([] : List LB), aO ([] : List LB), aM aK (([] : List (LB × LB)) ++ [((aJ z i.toNat).1, (aJ z i.toNat).2)])]
def uH : LA := [(1, .x 0), (5, .sr 304), (8, .sr 4), (10, .x 2), (9, .x 1)]
def tD : LE := [(4, .r 2000000 23 2 true), (304, .r 2000001 23 2 false)]
def xg (z : List (LB × LB)) (nm : LB) (i : Int) (O : List (LB × LB)) : List Value := [St' nm, .int .i64 ((z.length : Int)), .int .i64 (i), St' ((aJ z i.toNat).1), St' ((aJ z i.toNat).2), St' (aN ((aJ z i.toNat).1)), St' (aN nm), .int .i64 (i + 1), St' ((aJ z i.toNat).1), St' ((aJ z i.toNat).2), St' (aN ((aJ z i.toNat).1)), St' (aN nm), .int .i64 (i + 1)]
def aH2 (z : List (LB × LB)) (nm : LB) (i : Int) (O : List (LB × LB)) : List Value := [aM aK z, aM aK O, aO ([] : List LB), aO ([] : List LB), aO ([] : List LB), aM aK (O ++ [((aJ z i.toNat).1, (aJ z i.toNat).2)])]
def m9 (st : Nat × Int × List (LB × LB)) : LA := if st.1 = 0 then IM else uH
def tE (st : Nat × Int × List (LB × LB)) : LE := if st.1 = 0 then HW else tD
def DX (z : List (LB × LB)) (nm : LB) (st : Nat × Int × List (LB × LB)) : List Value := if st.1 = 0 then xh z nm (st.2.1) (st.2.2) else xg z nm (st.2.1) (st.2.2)
def roDr0304 (z : List (LB × LB)) (nm : LB) (st : Nat × Int × List (LB × LB)) : List Value := if st.1 = 0 then aH3 z nm (st.2.1) (st.2.2) else aH2 z nm (st.2.1) (st.2.2)
theorem onDr0304 (z : List (LB × LB)) (nm : LB) (st : Nat × Int × List (LB × LB)) : ∀ j, (ai (DX z nm st) j).oneCell' = true := by
  intro j
  unfold DX
  by_cases g0 : st.1 = 0
  · rw [if_pos g0]; exact aQ (l := xh z nm (st.2.1) (st.2.2)) rfl j
  rw [if_neg g0]
  exact aQ (l := xg z nm (st.2.1) (st.2.2)) rfl j
theorem aV9 (st : Nat × Int × List (LB × LB)) : (cG (m9 st) && cO ig) = true := by
  unfold m9
  by_cases g0 : st.1 = 0
  · rw [if_pos g0]; rfl
  rw [if_neg g0]
  rfl
noncomputable def vG (z : List (LB × LB)) (nm : LB) (st : Nat × Int × List (LB × LB)) (X : Nat → Value) : Cx := cx (af (DX z nm st) (rX (roDr0304 z nm st) X)) (ah (onDr0304 z nm st)) 1 aC aG
abbrev Jb (z : List (LB × LB)) (nm : LB) (tag : Nat) (i : Int) (O : List (LB × LB)) : Prop := (0 ≤ i) ∧ (i ≤ (z.length : Int)) ∧ (z.length ≤ 1000) ∧ (∀ q, q ∈ z → dH q) ∧ (nm.length ≤ 140737488351232 ∧ ∀ q, q ∈ z → q.1.length ≤ 140737488351232) ∧ (O = bb nm (z.take i.toNat)) ∧ (tag = 0 → O = []) ∧ (tag = 1 → 1 ≤ O.length) ∧ (tag < 2)
def fw (z : List (LB × LB)) (nm : LB) (st : Nat × Int × List (LB × LB)) : Prop := Jb z nm st.1 (st.2.1) (st.2.2)
theorem mT {z : List (LB × LB)} {nm : LB} {tag : Nat} {i : Int} {O : List (LB × LB)} (h : Jb z nm tag i O) : fw z nm (tag, i, O) := h
theorem nd (z : List (LB × LB)) (nm : LB) (tag : Nat) (i : Int) (O : List (LB × LB)) (h : fw z nm (tag, i, O)) : Jb z nm tag i O := h
def mQ (z : List (LB × LB)) (nm : LB) (st : Nat × Int × List (LB × LB)) : Nat := (z.length - (st.2.1).toNat)
abbrev jH (z : List (LB × LB)) (nm : LB) (E' : Cx) (ex' : Ex) (epx' : LA) (hpx' : LE) (st : Nat × Int × List (LB × LB)) (X : Nat → Value) : Prop := a6 E' uV ig 25 ex' 4 304 305 344 m9 tE epx' hpx' (fw z nm) (mQ z nm) (vG z nm) st X
noncomputable abbrev CK (z : List (LB × LB)) (nm : LB) (i : Int) (O : List (LB × LB)) (X : Nat → Value) : Cx := cx (af (xh z nm i O) (rX (aH3 z nm i O) X)) (ah (aQ (l := xh z nm i O) rfl)) 1 aC aG
noncomputable abbrev uw (h : LK) (x : Ex) (th : LA) (sg : List (Nat × Nat)) (m : Nat) (ep : LA) (hp : LE) : Bool := bn (code (aV h) 3000 [] uV (bc (bf IM ig) 25) ⟨ay HW .leaf, 305, 0, 0⟩) x ig 25 344 th sg 304 m ep hp
theorem aG4 {z : List (LB × LB)} {nm : LB} {i : Int} {O : List (LB × LB)} {X : Nat → Value} {h : LK} (y : Nat × Int × List (LB × LB)) {th : LA} {sg : List (Nat × Nat)} (ho : ∀ a' r', (a', r') ∈ h → aL (CK z nm i O X) a' r') (hy : fw z nm y) (lt : mQ z nm y < mQ z nm (0, i, O)) (ht : aw (CK z nm i O X) (vG z nm y X) th) (run : uw h .normal th sg 305 (m9 y) (tE y) = true) : jH z nm E' x' e' h' (0, i, O) X :=
  a6.next (tb := aV h) (L := []) (f := 3000) y ((ae _ _).hyps ho) (bA.nil _) rfl hy lt ht run
theorem lvDr0304_0 {z : List (LB × LB)} {nm : LB} {i : Int} {O : List (LB × LB)} {X : Nat → Value} {h : LK} {th : LA} {sg : List (Nat × Nat)} (hne : cI x' .normal = false) (ho : ∀ a' r', (a', r') ∈ h → aL (CK z nm i O X) a' r') (ht : aw (CK z nm i O X) E' th) (run : uw h x' th sg 344 e' h' = true) : jH z nm E' x' e' h' (0, i, O) X :=
  a6.leave (tb := aV h) (L := []) (f := 3000) ((ae _ _).hyps ho) (bA.nil _) rfl hne ht run
noncomputable abbrev CJ (z : List (LB × LB)) (nm : LB) (i : Int) (O : List (LB × LB)) (X : Nat → Value) : Cx := cx (af (xg z nm i O) (rX (aH2 z nm i O) X)) (ah (aQ (l := xg z nm i O) rfl)) 1 aC aG
noncomputable abbrev uv (h : LK) (x : Ex) (th : LA) (sg : List (Nat × Nat)) (m : Nat) (ep : LA) (hp : LE) : Bool := bn (code (aV h) 3000 [] uV (bc (bf uH ig) 25) ⟨ay tD .leaf, 305, 0, 0⟩) x ig 25 344 th sg 304 m ep hp
theorem aG3 {z : List (LB × LB)} {nm : LB} {i : Int} {O : List (LB × LB)} {X : Nat → Value} {h : LK} (y : Nat × Int × List (LB × LB)) {th : LA} {sg : List (Nat × Nat)} (ho : ∀ a' r', (a', r') ∈ h → aL (CJ z nm i O X) a' r') (hy : fw z nm y) (lt : mQ z nm y < mQ z nm (1, i, O)) (ht : aw (CJ z nm i O X) (vG z nm y X) th) (run : uv h .normal th sg 305 (m9 y) (tE y) = true) : jH z nm E' x' e' h' (1, i, O) X :=
  a6.next (tb := aV h) (L := []) (f := 3000) y ((ae _ _).hyps ho) (bA.nil _) rfl hy lt ht run
theorem lvDr0304_1 {z : List (LB × LB)} {nm : LB} {i : Int} {O : List (LB × LB)} {X : Nat → Value} {h : LK} {th : LA} {sg : List (Nat × Nat)} (hne : cI x' .normal = false) (ho : ∀ a' r', (a', r') ∈ h → aL (CJ z nm i O X) a' r') (ht : aw (CJ z nm i O X) E' th) (run : uv h x' th sg 344 e' h' = true) : jH z nm E' x' e' h' (1, i, O) X :=
  a6.leave (tb := aV h) (L := []) (f := 3000) ((ae _ _).hyps ho) (bA.nil _) rfl hne ht run
def HB : LK := [(.bin .lss (.x 2) (.x 1), .b true), (.el (.x 2000000) (.x 2) 2 0, .x 3), (.el (.x 2000000) (.x 2) 2 1, .x 4), (.call 43 [.x 3], .x 5), (.call 43 [.x 0], .x 6), (.bin .eql (.x 5) (.x 6), .b true), (.bin .add (.x 2) (I6 1), .x 7)]
theorem runDr0304_p0 : uw HB .normal [(0, .x 0), (1, .x 1), (2, .x 7), (2000000, .x 2000000)] [] 305 IM HW = true := by kernel_rfl
def HA : LK := [(.bin .lss (.x 2) (.x 1), .b false)]
theorem runDr0304_p1 : uw HA (.exit 0) [(2000000, .x 2000000)] [] 344 [(5, .aq)] [(4, .r 2000000 23 2 true)] = true := by kernel_rfl
def G9 : LK := [(.rn, .x 2000003), (.bin .lss (.x 2) (.x 1), .b true), (.el (.x 2000000) (.x 2) 2 0, .x 8), (.el (.x 2000000) (.x 2) 2 1, .x 9), (.call 43 [.x 8], .x 10), (.call 43 [.x 0], .x 11), (.bin .eql (.x 10) (.x 11), .b false), (.ra (.x 2000003) [.x 8, .x 9], .x 2000004), (.rf (.x 2000004) 2 32, .b true), (.bin .add (.x 2) (I6 1), .x 12)]
theorem runDr0304_p2 : uw G9 .normal [(0, .x 0), (1, .x 1), (2, .x 12), (2000000, .x 2000000), (2000001, .x 2000004)] [(304, 307)] 305 uH tD = true := by kernel_rfl
def G8 : LK := [(.bin .lss (.x 2) (.x 1), .b true), (.el (.x 2000000) (.x 2) 2 0, .x 3), (.el (.x 2000000) (.x 2) 2 1, .x 4), (.call 43 [.x 3], .x 5), (.call 43 [.x 0], .x 6), (.bin .eql (.x 5) (.x 6), .b true), (.bin .add (.x 2) (I6 1), .x 7)]
theorem runDr0304_p3 : uv G8 .normal [(0, .x 0), (1, .x 1), (2, .x 7), (2000000, .x 2000000), (2000001, .x 2000001)] [(304, 304)] 305 uH tD = true := by kernel_rfl
def G7 : LK := [(.bin .lss (.x 2) (.x 1), .b false)]
theorem runDr0304_p4 : uv G7 (.exit 0) [(2000000, .x 2000000), (2000001, .x 2000001)] [(304, 304)] 344 [(5, .sr 304)] [(4, .r 2000000 23 2 true), (304, .r 2000001 23 2 false)] = true := by kernel_rfl
def G6 : LK := [(.bin .lss (.x 2) (.x 1), .b true), (.el (.x 2000000) (.x 2) 2 0, .x 8), (.el (.x 2000000) (.x 2) 2 1, .x 9), (.call 43 [.x 8], .x 10), (.call 43 [.x 0], .x 11), (.bin .eql (.x 10) (.x 11), .b false), (.ra (.x 2000001) [.x 8, .x 9], .x 2000005), (.rf (.x 2000005) 2 32, .b true), (.bin .add (.x 2) (I6 1), .x 12)]
theorem runDr0304_p5 : uv G6 .normal [(0, .x 0), (1, .x 1), (2, .x 12), (2000000, .x 2000000), (2000001, .x 2000005)] [(304, 307)] 305 uH tD = true := by kernel_rfl
section
variable {z : List (LB × LB)} {nm : LB} {i : Int} {O : List (LB × LB)} {X : Nat → Value}
theorem aD8 (hI : fw z nm (0, i, O)) (h0 : i < (z.length : Int)) (h1 : (aN ((aJ z i.toNat).1)) = (aN nm)) : jH z nm E' x' e' h' (0, i, O) X := by
  obtain ⟨i0, i1, i2, i3, i4, i5, i6, i7, it⟩ := nd z nm 0 i O hI
  have hnm := eW i4.2 i.toNat
  have hO := congrArg List.length i5
  have hO2 := iF nm (z.take i.toNat)
  have hO3 : (z.take i.toNat).length ≤ z.length := by rw [List.length_take]; omega
  have := dI (l := z) (by assumption) i.toNat
  have : (aN ((aJ z i.toNat).1)).length = ((aJ z i.toNat).1).length := List.length_map ..
  have : (aN nm).length = nm.length := List.length_map ..
  refine aG4 (h := HB) (0, i + 1, ([] : List (LB × LB))) ?_ (mT ⟨by omega, by omega, i2, i3, i4, by rw [Ar (by omega) (by omega) (by assumption)]; exact (i6 (by omega)).symm.trans i5, fun _ => rfl, fun h => by omega, by omega⟩) (by show z.length - (i + 1).toNat < z.length - i.toNat; omega) (aB (v := St' nm) rfl rfl (aB (v := .int .i64 ((z.length : Int))) rfl rfl (bT (b := ((i + 1))) rfl rfl (by omega) (aB (v := aM aK z) rfl rfl (aI))))) runDr0304_p0
  unfold HB
  exact hc (ba rfl rfl (by omega)) <|hc (bw (j := i.toNat) (d := ([], [])) a7 (by decide) (aA rfl) (aA rfl) (aE rfl) (by omega) (by omega) rfl) <|hc (bw (j := i.toNat) (d := ([], [])) a7 (by decide) (aA rfl) (aA rfl) (aE rfl) (by omega) (by omega) rfl) <|hc (dc (s := (aJ z i.toNat).1) (aA rfl) (aE rfl)) <|hc (dc (s := nm) (aA rfl) (aE rfl)) <|hc (cH (aA rfl) (aA rfl) (by first | exact decide_eq_true rfl | exact decide_eq_true ‹_› | exact decide_eq_false ‹_›)) <|hc (bO rfl rfl (by omega)) <|hnil
theorem aD7 (hI : fw z nm (0, i, O)) (h0 : i < (z.length : Int)) (h1 : ¬ ((aN ((aJ z i.toNat).1)) = (aN nm))) : jH z nm E' x' e' h' (0, i, O) X := by
  obtain ⟨i0, i1, i2, i3, i4, i5, i6, i7, it⟩ := nd z nm 0 i O hI
  have hnm := eW i4.2 i.toNat
  have hO := congrArg List.length i5
  have hO2 := iF nm (z.take i.toNat)
  have hO3 : (z.take i.toNat).length ≤ z.length := by rw [List.length_take]; omega
  have := dI (l := z) (by assumption) i.toNat
  have : (aN ((aJ z i.toNat).1)).length = ((aJ z i.toNat).1).length := List.length_map ..
  have : (aN nm).length = nm.length := List.length_map ..
  refine aG4 (h := G9) (1, i + 1, (([] : List (LB × LB)) ++ [((aJ z i.toNat).1, (aJ z i.toNat).2)])) ?_ (mT ⟨by omega, by omega, i2, i3, i4, by rw [Aq (by omega) (by omega) (by assumption), ← i5, i6 (by omega)], fun h => by omega, fun _ => by simp, by omega⟩) (by show z.length - (i + 1).toNat < z.length - i.toNat; omega) (aB (v := St' nm) rfl rfl (aB (v := .int .i64 ((z.length : Int))) rfl rfl (bT (b := ((i + 1))) rfl rfl (by omega) (aB (v := aM aK z) rfl rfl (aB (v := aM aK (([] : List (LB × LB)) ++ [((aJ z i.toNat).1, (aJ z i.toNat).2)])) rfl rfl (aI)))))) runDr0304_p2
  unfold G9
  exact hc (da (aE rfl)) <|hc (ba rfl rfl (by omega)) <|hc (bw (j := i.toNat) (d := ([], [])) a7 (by decide) (aA rfl) (aA rfl) (aE rfl) (by omega) (by omega) rfl) <|hc (bw (j := i.toNat) (d := ([], [])) a7 (by decide) (aA rfl) (aA rfl) (aE rfl) (by omega) (by omega) rfl) <|hc (dc (s := (aJ z i.toNat).1) (aA rfl) (aE rfl)) <|hc (dc (s := nm) (aA rfl) (aE rfl)) <|hc (cH (aA rfl) (aA rfl) (by first | exact decide_eq_true rfl | exact decide_eq_true ‹_› | exact decide_eq_false ‹_›)) <|hc (yn (f := aK) (l := ([] : List (LB × LB))) (a := ((aJ z i.toNat).1, (aJ z i.toNat).2)) (aA rfl) (yx (aA rfl) (aA rfl)) (aE rfl)) <|hc (ym a7 (aA rfl) (by first | omega | (simp <;> omega)) (by first | omega | (simp <;> omega))) <|hc (bO rfl rfl (by omega)) <|hnil
theorem aD6 (hI : fw z nm (1, i, O)) (h0 : i < (z.length : Int)) (h1 : (aN ((aJ z i.toNat).1)) = (aN nm)) : jH z nm E' x' e' h' (1, i, O) X := by
  obtain ⟨i0, i1, i2, i3, i4, i5, i6, i7, it⟩ := nd z nm 1 i O hI
  have hnm := eW i4.2 i.toNat
  have hO := congrArg List.length i5
  have hO2 := iF nm (z.take i.toNat)
  have hO3 : (z.take i.toNat).length ≤ z.length := by rw [List.length_take]; omega
  have := dI (l := z) (by assumption) i.toNat
  have : (aN ((aJ z i.toNat).1)).length = ((aJ z i.toNat).1).length := List.length_map ..
  have : (aN nm).length = nm.length := List.length_map ..
  refine aG3 (h := G8) (1, i + 1, O) ?_ (mT ⟨by omega, by omega, i2, i3, i4, by rw [Ar (by omega) (by omega) (by assumption)]; exact i5, fun h => by omega, i7, by omega⟩) (by show z.length - (i + 1).toNat < z.length - i.toNat; omega) (aB (v := St' nm) rfl rfl (aB (v := .int .i64 ((z.length : Int))) rfl rfl (bT (b := ((i + 1))) rfl rfl (by omega) (aB (v := aM aK z) rfl rfl (aB (v := aM aK O) rfl rfl (aI)))))) runDr0304_p3
  unfold G8
  exact hc (ba rfl rfl (by omega)) <|hc (bw (j := i.toNat) (d := ([], [])) a7 (by decide) (aA rfl) (aA rfl) (aE rfl) (by omega) (by omega) rfl) <|hc (bw (j := i.toNat) (d := ([], [])) a7 (by decide) (aA rfl) (aA rfl) (aE rfl) (by omega) (by omega) rfl) <|hc (dc (s := (aJ z i.toNat).1) (aA rfl) (aE rfl)) <|hc (dc (s := nm) (aA rfl) (aE rfl)) <|hc (cH (aA rfl) (aA rfl) (by first | exact decide_eq_true rfl | exact decide_eq_true ‹_› | exact decide_eq_false ‹_›)) <|hc (bO rfl rfl (by omega)) <|hnil
theorem aD5 (hI : fw z nm (1, i, O)) (h0 : i < (z.length : Int)) (h1 : ¬ ((aN ((aJ z i.toNat).1)) = (aN nm))) : jH z nm E' x' e' h' (1, i, O) X := by
  obtain ⟨i0, i1, i2, i3, i4, i5, i6, i7, it⟩ := nd z nm 1 i O hI
  have hnm := eW i4.2 i.toNat
  have hO := congrArg List.length i5
  have hO2 := iF nm (z.take i.toNat)
  have hO3 : (z.take i.toNat).length ≤ z.length := by rw [List.length_take]; omega
  have := dI (l := z) (by assumption) i.toNat
  have : (aN ((aJ z i.toNat).1)).length = ((aJ z i.toNat).1).length := List.length_map ..
  have : (aN nm).length = nm.length := List.length_map ..
  refine aG3 (h := G6) (1, i + 1, (O ++ [((aJ z i.toNat).1, (aJ z i.toNat).2)])) ?_ (mT ⟨by omega, by omega, i2, i3, i4, by rw [Aq (by omega) (by omega) (by assumption), ← i5], fun h => by omega, fun _ => by simp, by omega⟩) (by show z.length - (i + 1).toNat < z.length - i.toNat; omega) (aB (v := St' nm) rfl rfl (aB (v := .int .i64 ((z.length : Int))) rfl rfl (bT (b := ((i + 1))) rfl rfl (by omega) (aB (v := aM aK z) rfl rfl (aB (v := aM aK (O ++ [((aJ z i.toNat).1, (aJ z i.toNat).2)])) rfl rfl (aI)))))) runDr0304_p5
  unfold G6
  exact hc (ba rfl rfl (by omega)) <|hc (bw (j := i.toNat) (d := ([], [])) a7 (by decide) (aA rfl) (aA rfl) (aE rfl) (by omega) (by omega) rfl) <|hc (bw (j := i.toNat) (d := ([], [])) a7 (by decide) (aA rfl) (aA rfl) (aE rfl) (by omega) (by omega) rfl) <|hc (dc (s := (aJ z i.toNat).1) (aA rfl) (aE rfl)) <|hc (dc (s := nm) (aA rfl) (aE rfl)) <|hc (cH (aA rfl) (aA rfl) (by first | exact decide_eq_true rfl | exact decide_eq_true ‹_› | exact decide_eq_false ‹_›)) <|hc (yn (f := aK) (l := O) (a := ((aJ z i.toNat).1, (aJ z i.toNat).2)) (aA rfl) (yx (aA rfl) (aA rfl)) (aE rfl)) <|hc (ym a7 (aA rfl) (by first | omega | (simp <;> omega)) (by first | omega | (simp <;> omega))) <|hc (bO rfl rfl (by omega)) <|hnil
end
def aE6 (z : List (LB × LB)) (nm : LB) : List Value := []
def roEDr0304_0 (z : List (LB × LB)) (nm : LB) : List Value := [aM aK z]
noncomputable def aO0 (z : List (LB × LB)) (nm : LB) : Cx := cx (af (aE6 z nm) (rX (roEDr0304_0 z nm) (fun _ => .bool true))) (ah (aQ (l := aE6 z nm) rfl)) 1 aC aG
theorem roundsDr0304_0 (z : List (LB × LB)) (nm : LB) (x0 : bb nm z = []) (st : Nat × Int × List (LB × LB)) (X : Nat → Value) (hI : fw z nm st) : jH z nm (aO0 z nm) (.exit 0) [(5, .aq)] [(4, .r 2000000 23 2 true)] st X := by
  obtain ⟨tag, i, O⟩ := st
  have hI0 := hI
  obtain ⟨i0, i1, i2, i3, i4, i5, i6, i7, it⟩ := nd z nm tag i O hI
  rcases (show tag = 0 ∨ tag = 1 from by omega) with rfl | rfl
  · skip
    by_cases h0 : i < (z.length : Int)
    · by_cases h1 : (aN ((aJ z i.toNat).1)) = (aN nm)
      · exact aD8 hI0 h0 h1
      · exact aD7 hI0 h0 h1
    · skip
      have cr := lU (nm := nm) (z := z) (i := i) (by omega) (by omega)
      refine lvDr0304_0 (h := HA) rfl ?_ (aB (v := aM aK z) rfl rfl (aI)) runDr0304_p1
      unfold HA
      exact hc (dB rfl rfl (by omega)) <|hnil
  · skip
    by_cases h0 : i < (z.length : Int)
    · by_cases h1 : (aN ((aJ z i.toNat).1)) = (aN nm)
      · exact aD6 hI0 h0 h1
      · exact aD5 hI0 h0 h1
    · exfalso; have cr := lU (nm := nm) (z := z) (i := i) (by omega) (by omega); have hL := i7 (by omega); rw [i5, cr, x0] at hL; simp at hL
theorem lfOkDr0304_0 (z : List (LB × LB)) (nm : LB) (x0 : bb nm z = []) : ax (cx nu one 1 aC aG) (aO0 z nm) uV ig 25 (.exit 0) 4 304 305 344 m9 tE [(5, .aq)] [(4, .r 2000000 23 2 true)] (fw z nm) (vG z nm) :=
  cF (mQ z nm) (fun _ _ => rfl) (fun _ _ => rfl) (fun _ _ => rfl) (fun st X t ht => cE.trans (cD ((by decide : ∀ t, t ∈ ig → t < 1000000) t ht))) rfl rfl rfl aV9 rfl rfl (roundsDr0304_0 z nm x0)
def aE5 (z : List (LB × LB)) (nm : LB) : List Value := []
def roEDr0304_1 (z : List (LB × LB)) (nm : LB) : List Value := [aM aK z, aM aK (bb nm z)]
noncomputable def aN9 (z : List (LB × LB)) (nm : LB) : Cx := cx (af (aE5 z nm) (rX (roEDr0304_1 z nm) (fun _ => .bool true))) (ah (aQ (l := aE5 z nm) rfl)) 1 aC aG
theorem roundsDr0304_1 (z : List (LB × LB)) (nm : LB) (x0 : 1 ≤ (bb nm z).length) (st : Nat × Int × List (LB × LB)) (X : Nat → Value) (hI : fw z nm st) : jH z nm (aN9 z nm) (.exit 0) [(5, .sr 304)] [(4, .r 2000000 23 2 true), (304, .r 2000001 23 2 false)] st X := by
  obtain ⟨tag, i, O⟩ := st
  have hI0 := hI
  obtain ⟨i0, i1, i2, i3, i4, i5, i6, i7, it⟩ := nd z nm tag i O hI
  rcases (show tag = 0 ∨ tag = 1 from by omega) with rfl | rfl
  · skip
    by_cases h0 : i < (z.length : Int)
    · by_cases h1 : (aN ((aJ z i.toNat).1)) = (aN nm)
      · exact aD8 hI0 h0 h1
      · exact aD7 hI0 h0 h1
    · exfalso; have cr := lU (nm := nm) (z := z) (i := i) (by omega) (by omega); have hO := i6 (by omega); rw [hO, cr] at i5; rw [← i5] at x0; simp at x0
  · skip
    by_cases h0 : i < (z.length : Int)
    · by_cases h1 : (aN ((aJ z i.toNat).1)) = (aN nm)
      · exact aD6 hI0 h0 h1
      · exact aD5 hI0 h0 h1
    · skip
      have cr := lU (nm := nm) (z := z) (i := i) (by omega) (by omega)
      refine lvDr0304_1 (h := G7) rfl ?_ (aB (v := aM aK z) rfl rfl (dK (v := aM aK O) (u := aM aK (bb nm z)) rfl rfl (congrArg (aM aK) (i5.trans cr)) (aI))) runDr0304_p4
      unfold G7
      exact hc (dB rfl rfl (by omega)) <|hnil
theorem aB1 (z : List (LB × LB)) (nm : LB) (x0 : 1 ≤ (bb nm z).length) : ax (cx nu one 1 aC aG) (aN9 z nm) uV ig 25 (.exit 0) 4 304 305 344 m9 tE [(5, .sr 304)] [(4, .r 2000000 23 2 true), (304, .r 2000001 23 2 false)] (fw z nm) (vG z nm) :=
  cF (mQ z nm) (fun _ _ => rfl) (fun _ _ => rfl) (fun _ _ => rfl) (fun st X t ht => cE.trans (cD ((by decide : ∀ t, t ∈ ig → t < 1000000) t ht))) rfl rfl rfl aV9 rfl rfl (roundsDr0304_1 z nm x0)
noncomputable def uU : Code := cS (Tryd.f19.body.getD .skip) 0
theorem EP : cU (br (Tryd.f19.body.getD .skip)) 3 0 0 = true := by kernel_rfl
def ic : List Nat := []
def IL : LA := [(1, .x 0), (5, .aq), (0, .sr 4), (6, .x 1)]
def HV : LE := [(4, .r 2000000 23 2 true)]
def xf (z : List (LB × LB)) (nm : LB) (i : Int) (O : List (LB × LB)) : List Value := [St' nm, .int .i64 (i), .int .i64 ((z.length : Int)), St' ((aJ z i.toNat).1), St' (aN ((aJ z i.toNat).1)), St' (aN nm), .int .i64 (i + 1), .int .i64 ((z.length : Int)), .int .i64 ((z.length : Int)), St' ((aJ z i.toNat).1), St' (aN ((aJ z i.toNat).1)), St' (aN nm), St' ((aJ z i.toNat).2), .int .i64 (i + 1)]
def aH1 (z : List (LB × LB)) (nm : LB) (i : Int) (O : List (LB × LB)) : List Value := [aM aK z, aO ([] : List LB), aO ([] : List LB), aO ([] : List LB), aM aK (([] : List (LB × LB)) ++ [((aJ z i.toNat).1, (aJ z i.toNat).2)])]
def uG : LA := [(1, .x 0), (5, .sr 604), (0, .sr 4), (6, .x 1)]
def tB : LE := [(4, .r 2000000 23 2 true), (604, .r 2000001 23 2 false)]
def xe (z : List (LB × LB)) (nm : LB) (i : Int) (O : List (LB × LB)) : List Value := [St' nm, .int .i64 (i), .int .i64 ((z.length : Int)), St' ((aJ z i.toNat).1), St' (aN ((aJ z i.toNat).1)), St' (aN nm), .int .i64 (i + 1), .int .i64 ((z.length : Int)), .int .i64 ((z.length : Int)), St' ((aJ z i.toNat).1), St' (aN ((aJ z i.toNat).1)), St' (aN nm), St' ((aJ z i.toNat).2), .int .i64 (i + 1)]
def aH0 (z : List (LB × LB)) (nm : LB) (i : Int) (O : List (LB × LB)) : List Value := [aM aK z, aM aK O, aO ([] : List LB), aO ([] : List LB), aO ([] : List LB), aM aK (O ++ [((aJ z i.toNat).1, (aJ z i.toNat).2)])]
def m8 (st : Nat × Int × List (LB × LB)) : LA := if st.1 = 0 then IL else uG
def tC (st : Nat × Int × List (LB × LB)) : LE := if st.1 = 0 then HV else tB
def DW (z : List (LB × LB)) (nm : LB) (st : Nat × Int × List (LB × LB)) : List Value := if st.1 = 0 then xf z nm (st.2.1) (st.2.2) else xe z nm (st.2.1) (st.2.2)
def roDr1604 (z : List (LB × LB)) (nm : LB) (st : Nat × Int × List (LB × LB)) : List Value := if st.1 = 0 then aH1 z nm (st.2.1) (st.2.2) else aH0 z nm (st.2.1) (st.2.2)
theorem onDr1604 (z : List (LB × LB)) (nm : LB) (st : Nat × Int × List (LB × LB)) : ∀ j, (ai (DW z nm st) j).oneCell' = true := by
  intro j
  unfold DW
  by_cases g0 : st.1 = 0
  · rw [if_pos g0]; exact aQ (l := xf z nm (st.2.1) (st.2.2)) rfl j
  rw [if_neg g0]
  exact aQ (l := xe z nm (st.2.1) (st.2.2)) rfl j
theorem aV8 (st : Nat × Int × List (LB × LB)) : (cG (m8 st) && cO ic) = true := by
  unfold m8
  by_cases g0 : st.1 = 0
  · rw [if_pos g0]; rfl
  rw [if_neg g0]
  rfl
noncomputable def vF (z : List (LB × LB)) (nm : LB) (st : Nat × Int × List (LB × LB)) (X : Nat → Value) : Cx := cx (af (DW z nm st) (rX (roDr1604 z nm st) X)) (ah (onDr1604 z nm st)) 1 aC aG
abbrev Ja (z : List (LB × LB)) (nm : LB) (tag : Nat) (i : Int) (O : List (LB × LB)) : Prop := (0 ≤ i) ∧ (i ≤ (z.length : Int)) ∧ (z.length ≤ 1000) ∧ (∀ q, q ∈ z → dH q) ∧ (nm.length ≤ 140737488351232 ∧ ∀ q, q ∈ z → q.1.length ≤ 140737488351232) ∧ (O = bb nm (z.take i.toNat)) ∧ (tag = 0 → O = []) ∧ (tag = 1 → 1 ≤ O.length) ∧ (tag < 2)
def fv (z : List (LB × LB)) (nm : LB) (st : Nat × Int × List (LB × LB)) : Prop := Ja z nm st.1 (st.2.1) (st.2.2)
theorem mS {z : List (LB × LB)} {nm : LB} {tag : Nat} {i : Int} {O : List (LB × LB)} (h : Ja z nm tag i O) : fv z nm (tag, i, O) := h
theorem nc (z : List (LB × LB)) (nm : LB) (tag : Nat) (i : Int) (O : List (LB × LB)) (h : fv z nm (tag, i, O)) : Ja z nm tag i O := h
def mP (z : List (LB × LB)) (nm : LB) (st : Nat × Int × List (LB × LB)) : Nat := (z.length - (st.2.1).toNat)
abbrev jG (z : List (LB × LB)) (nm : LB) (E' : Cx) (ex' : Ex) (epx' : LA) (hpx' : LE) (st : Nat × Int × List (LB × LB)) (X : Nat → Value) : Prop := a6 E' uU ic 30 ex' 4 604 605 644 m8 tC epx' hpx' (fv z nm) (mP z nm) (vF z nm) st X
noncomputable abbrev CI (z : List (LB × LB)) (nm : LB) (i : Int) (O : List (LB × LB)) (X : Nat → Value) : Cx := cx (af (xf z nm i O) (rX (aH1 z nm i O) X)) (ah (aQ (l := xf z nm i O) rfl)) 1 aC aG
noncomputable abbrev uu (h : LK) (x : Ex) (th : LA) (sg : List (Nat × Nat)) (m : Nat) (ep : LA) (hp : LE) : Bool := bn (code (aV h) 3000 [] uU (bc (bf IL ic) 30) ⟨ay HV .leaf, 605, 0, 0⟩) x ic 30 644 th sg 604 m ep hp
theorem aG2 {z : List (LB × LB)} {nm : LB} {i : Int} {O : List (LB × LB)} {X : Nat → Value} {h : LK} (y : Nat × Int × List (LB × LB)) {th : LA} {sg : List (Nat × Nat)} (ho : ∀ a' r', (a', r') ∈ h → aL (CI z nm i O X) a' r') (hy : fv z nm y) (lt : mP z nm y < mP z nm (0, i, O)) (ht : aw (CI z nm i O X) (vF z nm y X) th) (run : uu h .normal th sg 605 (m8 y) (tC y) = true) : jG z nm E' x' e' h' (0, i, O) X :=
  a6.next (tb := aV h) (L := []) (f := 3000) y ((ae _ _).hyps ho) (bA.nil _) rfl hy lt ht run
theorem lvDr1604_0 {z : List (LB × LB)} {nm : LB} {i : Int} {O : List (LB × LB)} {X : Nat → Value} {h : LK} {th : LA} {sg : List (Nat × Nat)} (hne : cI x' .normal = false) (ho : ∀ a' r', (a', r') ∈ h → aL (CI z nm i O X) a' r') (ht : aw (CI z nm i O X) E' th) (run : uu h x' th sg 644 e' h' = true) : jG z nm E' x' e' h' (0, i, O) X :=
  a6.leave (tb := aV h) (L := []) (f := 3000) ((ae _ _).hyps ho) (bA.nil _) rfl hne ht run
noncomputable abbrev CH (z : List (LB × LB)) (nm : LB) (i : Int) (O : List (LB × LB)) (X : Nat → Value) : Cx := cx (af (xe z nm i O) (rX (aH0 z nm i O) X)) (ah (aQ (l := xe z nm i O) rfl)) 1 aC aG
noncomputable abbrev ur (h : LK) (x : Ex) (th : LA) (sg : List (Nat × Nat)) (m : Nat) (ep : LA) (hp : LE) : Bool := bn (code (aV h) 3000 [] uU (bc (bf uG ic) 30) ⟨ay tB .leaf, 605, 0, 0⟩) x ic 30 644 th sg 604 m ep hp
theorem aG1 {z : List (LB × LB)} {nm : LB} {i : Int} {O : List (LB × LB)} {X : Nat → Value} {h : LK} (y : Nat × Int × List (LB × LB)) {th : LA} {sg : List (Nat × Nat)} (ho : ∀ a' r', (a', r') ∈ h → aL (CH z nm i O X) a' r') (hy : fv z nm y) (lt : mP z nm y < mP z nm (1, i, O)) (ht : aw (CH z nm i O X) (vF z nm y X) th) (run : ur h .normal th sg 605 (m8 y) (tC y) = true) : jG z nm E' x' e' h' (1, i, O) X :=
  a6.next (tb := aV h) (L := []) (f := 3000) y ((ae _ _).hyps ho) (bA.nil _) rfl hy lt ht run
theorem lvDr1604_1 {z : List (LB × LB)} {nm : LB} {i : Int} {O : List (LB × LB)} {X : Nat → Value} {h : LK} {th : LA} {sg : List (Nat × Nat)} (hne : cI x' .normal = false) (ho : ∀ a' r', (a', r') ∈ h → aL (CH z nm i O X) a' r') (ht : aw (CH z nm i O X) E' th) (run : ur h x' th sg 644 e' h' = true) : jG z nm E' x' e' h' (1, i, O) X :=
  a6.leave (tb := aV h) (L := []) (f := 3000) ((ae _ _).hyps ho) (bA.nil _) rfl hne ht run
def G5 : LK := [(.rl (.x 2000000) 2, .x 2), (.bin .lss (.x 1) (.x 2), .b true), (.el (.x 2000000) (.x 1) 2 0, .x 3), (.call 33 [.x 3], .x 4), (.call 33 [.x 0], .x 5), (.bin .neq (.x 4) (.x 5), .b false), (.bin .add (.x 1) (I6 1), .x 6)]
theorem runDr1604_p0 : uu G5 .normal [(0, .x 0), (1, .x 6), (2000000, .x 2000000)] [] 605 IL HV = true := by kernel_rfl
def G4 : LK := [(.rl (.x 2000000) 2, .x 7), (.bin .lss (.x 1) (.x 7), .b false)]
theorem runDr1604_p1 : uu G4 (.exit 0) [(2000000, .x 2000000)] [] 644 [(5, .aq)] [(4, .r 2000000 23 2 true)] = true := by kernel_rfl
def G3 : LK := [(.rn, .x 2000003), (.rl (.x 2000000) 2, .x 8), (.bin .lss (.x 1) (.x 8), .b true), (.el (.x 2000000) (.x 1) 2 0, .x 9), (.call 33 [.x 9], .x 10), (.call 33 [.x 0], .x 11), (.bin .neq (.x 10) (.x 11), .b true), (.el (.x 2000000) (.x 1) 2 1, .x 12), (.ra (.x 2000003) [.x 9, .x 12], .x 2000004), (.rf (.x 2000004) 2 32, .b true), (.bin .add (.x 1) (I6 1), .x 13)]
theorem runDr1604_p2 : uu G3 .normal [(0, .x 0), (1, .x 13), (2000000, .x 2000000), (2000001, .x 2000004)] [(604, 606)] 605 uG tB = true := by kernel_rfl
def G2 : LK := [(.rl (.x 2000000) 2, .x 2), (.bin .lss (.x 1) (.x 2), .b true), (.el (.x 2000000) (.x 1) 2 0, .x 3), (.call 33 [.x 3], .x 4), (.call 33 [.x 0], .x 5), (.bin .neq (.x 4) (.x 5), .b false), (.bin .add (.x 1) (I6 1), .x 6)]
theorem runDr1604_p3 : ur G2 .normal [(0, .x 0), (1, .x 6), (2000000, .x 2000000), (2000001, .x 2000001)] [(604, 604)] 605 uG tB = true := by kernel_rfl
def G1 : LK := [(.rl (.x 2000000) 2, .x 7), (.bin .lss (.x 1) (.x 7), .b false)]
theorem runDr1604_p4 : ur G1 (.exit 0) [(2000000, .x 2000000), (2000001, .x 2000001)] [(604, 604)] 644 [(5, .sr 604)] [(4, .r 2000000 23 2 true), (604, .r 2000001 23 2 false)] = true := by kernel_rfl
def G0 : LK := [(.rl (.x 2000000) 2, .x 8), (.bin .lss (.x 1) (.x 8), .b true), (.el (.x 2000000) (.x 1) 2 0, .x 9), (.call 33 [.x 9], .x 10), (.call 33 [.x 0], .x 11), (.bin .neq (.x 10) (.x 11), .b true), (.el (.x 2000000) (.x 1) 2 1, .x 12), (.ra (.x 2000001) [.x 9, .x 12], .x 2000005), (.rf (.x 2000005) 2 32, .b true), (.bin .add (.x 1) (I6 1), .x 13)]
theorem runDr1604_p5 : ur G0 .normal [(0, .x 0), (1, .x 13), (2000000, .x 2000000), (2000001, .x 2000005)] [(604, 606)] 605 uG tB = true := by kernel_rfl
section
variable {z : List (LB × LB)} {nm : LB} {i : Int} {O : List (LB × LB)} {X : Nat → Value}
theorem aD4 (hI : fv z nm (0, i, O)) (h0 : i < (z.length : Int)) (h1 : (aN ((aJ z i.toNat).1)) = (aN nm)) : jG z nm E' x' e' h' (0, i, O) X := by
  obtain ⟨i0, i1, i2, i3, i4, i5, i6, i7, it⟩ := nc z nm 0 i O hI
  have hnm := eW i4.2 i.toNat
  have hO := congrArg List.length i5
  have hO2 := iF nm (z.take i.toNat)
  have hO3 : (z.take i.toNat).length ≤ z.length := by rw [List.length_take]; omega
  have := dI (l := z) (by assumption) i.toNat
  have : (aN ((aJ z i.toNat).1)).length = ((aJ z i.toNat).1).length := List.length_map ..
  have : (aN nm).length = nm.length := List.length_map ..
  refine aG2 (h := G5) (0, i + 1, ([] : List (LB × LB))) ?_ (mS ⟨by omega, by omega, i2, i3, i4, by rw [Ar (by omega) (by omega) (by assumption)]; exact (i6 (by omega)).symm.trans i5, fun _ => rfl, fun h => by omega, by omega⟩) (by show z.length - (i + 1).toNat < z.length - i.toNat; omega) (aB (v := St' nm) rfl rfl (bT (b := ((i + 1))) rfl rfl (by omega) (aB (v := aM aK z) rfl rfl (aI)))) runDr1604_p0
  unfold G5
  exact hc (bu a7 (aA rfl) (aE rfl) (by first | omega | (simp <;> omega))) <|hc (ba rfl rfl (by omega)) <|hc (bw (j := i.toNat) (d := ([], [])) a7 (by decide) (aA rfl) (aA rfl) (aE rfl) (by omega) (by omega) rfl) <|hc (db (s := (aJ z i.toNat).1) (aA rfl) (aE rfl)) <|hc (db (s := nm) (aA rfl) (aE rfl)) <|hc (ck (aA rfl) (aA rfl) (ev (by first | exact decide_eq_true rfl | exact decide_eq_true ‹_› | exact decide_eq_false ‹_›))) <|hc (bO rfl rfl (by omega)) <|hnil
theorem aD3 (hI : fv z nm (0, i, O)) (h0 : i < (z.length : Int)) (h1 : ¬ ((aN ((aJ z i.toNat).1)) = (aN nm))) : jG z nm E' x' e' h' (0, i, O) X := by
  obtain ⟨i0, i1, i2, i3, i4, i5, i6, i7, it⟩ := nc z nm 0 i O hI
  have hnm := eW i4.2 i.toNat
  have hO := congrArg List.length i5
  have hO2 := iF nm (z.take i.toNat)
  have hO3 : (z.take i.toNat).length ≤ z.length := by rw [List.length_take]; omega
  have := dI (l := z) (by assumption) i.toNat
  have : (aN ((aJ z i.toNat).1)).length = ((aJ z i.toNat).1).length := List.length_map ..
  have : (aN nm).length = nm.length := List.length_map ..
  refine aG2 (h := G3) (1, i + 1, (([] : List (LB × LB)) ++ [((aJ z i.toNat).1, (aJ z i.toNat).2)])) ?_ (mS ⟨by omega, by omega, i2, i3, i4, by rw [Aq (by omega) (by omega) (by assumption), ← i5, i6 (by omega)], fun h => by omega, fun _ => by simp, by omega⟩) (by show z.length - (i + 1).toNat < z.length - i.toNat; omega) (aB (v := St' nm) rfl rfl (bT (b := ((i + 1))) rfl rfl (by omega) (aB (v := aM aK z) rfl rfl (aB (v := aM aK (([] : List (LB × LB)) ++ [((aJ z i.toNat).1, (aJ z i.toNat).2)])) rfl rfl (aI))))) runDr1604_p2
  unfold G3
  exact hc (da (aE rfl)) <|hc (bu a7 (aA rfl) (aE rfl) (by first | omega | (simp <;> omega))) <|hc (ba rfl rfl (by omega)) <|hc (bw (j := i.toNat) (d := ([], [])) a7 (by decide) (aA rfl) (aA rfl) (aE rfl) (by omega) (by omega) rfl) <|hc (db (s := (aJ z i.toNat).1) (aA rfl) (aE rfl)) <|hc (db (s := nm) (aA rfl) (aE rfl)) <|hc (ck (aA rfl) (aA rfl) (gd (by first | exact decide_eq_true rfl | exact decide_eq_true ‹_› | exact decide_eq_false ‹_›))) <|hc (bw (j := i.toNat) (d := ([], [])) a7 (by decide) (aA rfl) (aA rfl) (aE rfl) (by omega) (by omega) rfl) <|hc (yn (f := aK) (l := ([] : List (LB × LB))) (a := ((aJ z i.toNat).1, (aJ z i.toNat).2)) (aA rfl) (yx (aA rfl) (aA rfl)) (aE rfl)) <|hc (ym a7 (aA rfl) (by first | omega | (simp <;> omega)) (by first | omega | (simp <;> omega))) <|hc (bO rfl rfl (by omega)) <|hnil
theorem aD2 (hI : fv z nm (1, i, O)) (h0 : i < (z.length : Int)) (h1 : (aN ((aJ z i.toNat).1)) = (aN nm)) : jG z nm E' x' e' h' (1, i, O) X := by
  obtain ⟨i0, i1, i2, i3, i4, i5, i6, i7, it⟩ := nc z nm 1 i O hI
  have hnm := eW i4.2 i.toNat
  have hO := congrArg List.length i5
  have hO2 := iF nm (z.take i.toNat)
  have hO3 : (z.take i.toNat).length ≤ z.length := by rw [List.length_take]; omega
  have := dI (l := z) (by assumption) i.toNat
  have : (aN ((aJ z i.toNat).1)).length = ((aJ z i.toNat).1).length := List.length_map ..
  have : (aN nm).length = nm.length := List.length_map ..
  refine aG1 (h := G2) (1, i + 1, O) ?_ (mS ⟨by omega, by omega, i2, i3, i4, by rw [Ar (by omega) (by omega) (by assumption)]; exact i5, fun h => by omega, i7, by omega⟩) (by show z.length - (i + 1).toNat < z.length - i.toNat; omega) (aB (v := St' nm) rfl rfl (bT (b := ((i + 1))) rfl rfl (by omega) (aB (v := aM aK z) rfl rfl (aB (v := aM aK O) rfl rfl (aI))))) runDr1604_p3
  unfold G2
  exact hc (bu a7 (aA rfl) (aE rfl) (by first | omega | (simp <;> omega))) <|hc (ba rfl rfl (by omega)) <|hc (bw (j := i.toNat) (d := ([], [])) a7 (by decide) (aA rfl) (aA rfl) (aE rfl) (by omega) (by omega) rfl) <|hc (db (s := (aJ z i.toNat).1) (aA rfl) (aE rfl)) <|hc (db (s := nm) (aA rfl) (aE rfl)) <|hc (ck (aA rfl) (aA rfl) (ev (by first | exact decide_eq_true rfl | exact decide_eq_true ‹_› | exact decide_eq_false ‹_›))) <|hc (bO rfl rfl (by omega)) <|hnil
theorem aD1 (hI : fv z nm (1, i, O)) (h0 : i < (z.length : Int)) (h1 : ¬ ((aN ((aJ z i.toNat).1)) = (aN nm))) : jG z nm E' x' e' h' (1, i, O) X := by
  obtain ⟨i0, i1, i2, i3, i4, i5, i6, i7, it⟩ := nc z nm 1 i O hI
  have hnm := eW i4.2 i.toNat
  have hO := congrArg List.length i5
  have hO2 := iF nm (z.take i.toNat)
  have hO3 : (z.take i.toNat).length ≤ z.length := by rw [List.length_take]; omega
  have := dI (l := z) (by assumption) i.toNat
  have : (aN ((aJ z i.toNat).1)).length = ((aJ z i.toNat).1).length := List.length_map ..
  have : (aN nm).length = nm.length := List.length_map ..
  refine aG1 (h := G0) (1, i + 1, (O ++ [((aJ z i.toNat).1, (aJ z i.toNat).2)])) ?_ (mS ⟨by omega, by omega, i2, i3, i4, by rw [Aq (by omega) (by omega) (by assumption), ← i5], fun h => by omega, fun _ => by simp, by omega⟩) (by show z.length - (i + 1).toNat < z.length - i.toNat; omega) (aB (v := St' nm) rfl rfl (bT (b := ((i + 1))) rfl rfl (by omega) (aB (v := aM aK z) rfl rfl (aB (v := aM aK (O ++ [((aJ z i.toNat).1, (aJ z i.toNat).2)])) rfl rfl (aI))))) runDr1604_p5
  unfold G0
  exact hc (bu a7 (aA rfl) (aE rfl) (by first | omega | (simp <;> omega))) <|hc (ba rfl rfl (by omega)) <|hc (bw (j := i.toNat) (d := ([], [])) a7 (by decide) (aA rfl) (aA rfl) (aE rfl) (by omega) (by omega) rfl) <|hc (db (s := (aJ z i.toNat).1) (aA rfl) (aE rfl)) <|hc (db (s := nm) (aA rfl) (aE rfl)) <|hc (ck (aA rfl) (aA rfl) (gd (by first | exact decide_eq_true rfl | exact decide_eq_true ‹_› | exact decide_eq_false ‹_›))) <|hc (bw (j := i.toNat) (d := ([], [])) a7 (by decide) (aA rfl) (aA rfl) (aE rfl) (by omega) (by omega) rfl) <|hc (yn (f := aK) (l := O) (a := ((aJ z i.toNat).1, (aJ z i.toNat).2)) (aA rfl) (yx (aA rfl) (aA rfl)) (aE rfl)) <|hc (ym a7 (aA rfl) (by first | omega | (simp <;> omega)) (by first | omega | (simp <;> omega))) <|hc (bO rfl rfl (by omega)) <|hnil
end
def aE4 (z : List (LB × LB)) (nm : LB) : List Value := []
def roEDr1604_0 (z : List (LB × LB)) (nm : LB) : List Value := [aM aK z]
noncomputable def aN8 (z : List (LB × LB)) (nm : LB) : Cx := cx (af (aE4 z nm) (rX (roEDr1604_0 z nm) (fun _ => .bool true))) (ah (aQ (l := aE4 z nm) rfl)) 1 aC aG
theorem roundsDr1604_0 (z : List (LB × LB)) (nm : LB) (x0 : bb nm z = []) (st : Nat × Int × List (LB × LB)) (X : Nat → Value) (hI : fv z nm st) : jG z nm (aN8 z nm) (.exit 0) [(5, .aq)] [(4, .r 2000000 23 2 true)] st X := by
  obtain ⟨tag, i, O⟩ := st
  have hI0 := hI
  obtain ⟨i0, i1, i2, i3, i4, i5, i6, i7, it⟩ := nc z nm tag i O hI
  rcases (show tag = 0 ∨ tag = 1 from by omega) with rfl | rfl
  · skip
    by_cases h0 : i < (z.length : Int)
    · by_cases h1 : (aN ((aJ z i.toNat).1)) = (aN nm)
      · exact aD4 hI0 h0 h1
      · exact aD3 hI0 h0 h1
    · skip
      have cr := lU (nm := nm) (z := z) (i := i) (by omega) (by omega)
      refine lvDr1604_0 (h := G4) rfl ?_ (aB (v := aM aK z) rfl rfl (aI)) runDr1604_p1
      unfold G4
      exact hc (bu a7 (aA rfl) (aE rfl) (by first | omega | (simp <;> omega))) <|hc (dB rfl rfl (by omega)) <|hnil
  · skip
    by_cases h0 : i < (z.length : Int)
    · by_cases h1 : (aN ((aJ z i.toNat).1)) = (aN nm)
      · exact aD2 hI0 h0 h1
      · exact aD1 hI0 h0 h1
    · exfalso; have cr := lU (nm := nm) (z := z) (i := i) (by omega) (by omega); have hL := i7 (by omega); rw [i5, cr, x0] at hL; simp at hL
theorem lfOkDr1604_0 (z : List (LB × LB)) (nm : LB) (x0 : bb nm z = []) : ax (cx nu one 1 aC aG) (aN8 z nm) uU ic 30 (.exit 0) 4 604 605 644 m8 tC [(5, .aq)] [(4, .r 2000000 23 2 true)] (fv z nm) (vF z nm) :=
  cF (mP z nm) (fun _ _ => rfl) (fun _ _ => rfl) (fun _ _ => rfl) (fun st X t ht => cE.trans (cD ((by decide : ∀ t, t ∈ ic → t < 1000000) t ht))) rfl rfl rfl aV8 rfl rfl (roundsDr1604_0 z nm x0)
def aE3 (z : List (LB × LB)) (nm : LB) : List Value := []
def roEDr1604_1 (z : List (LB × LB)) (nm : LB) : List Value := [aM aK z, aM aK (bb nm z)]
noncomputable def aN7 (z : List (LB × LB)) (nm : LB) : Cx := cx (af (aE3 z nm) (rX (roEDr1604_1 z nm) (fun _ => .bool true))) (ah (aQ (l := aE3 z nm) rfl)) 1 aC aG
theorem roundsDr1604_1 (z : List (LB × LB)) (nm : LB) (x0 : 1 ≤ (bb nm z).length) (st : Nat × Int × List (LB × LB)) (X : Nat → Value) (hI : fv z nm st) : jG z nm (aN7 z nm) (.exit 0) [(5, .sr 604)] [(4, .r 2000000 23 2 true), (604, .r 2000001 23 2 false)] st X := by
  obtain ⟨tag, i, O⟩ := st
  have hI0 := hI
  obtain ⟨i0, i1, i2, i3, i4, i5, i6, i7, it⟩ := nc z nm tag i O hI
  rcases (show tag = 0 ∨ tag = 1 from by omega) with rfl | rfl
  · skip
    by_cases h0 : i < (z.length : Int)
    · by_cases h1 : (aN ((aJ z i.toNat).1)) = (aN nm)
      · exact aD4 hI0 h0 h1
      · exact aD3 hI0 h0 h1
    · exfalso; have cr := lU (nm := nm) (z := z) (i := i) (by omega) (by omega); have hO := i6 (by omega); rw [hO, cr] at i5; rw [← i5] at x0; simp at x0
  · skip
    by_cases h0 : i < (z.length : Int)
    · by_cases h1 : (aN ((aJ z i.toNat).1)) = (aN nm)
      · exact aD2 hI0 h0 h1
      · exact aD1 hI0 h0 h1
    · skip
      have cr := lU (nm := nm) (z := z) (i := i) (by omega) (by omega)
      refine lvDr1604_1 (h := G1) rfl ?_ (aB (v := aM aK z) rfl rfl (dK (v := aM aK O) (u := aM aK (bb nm z)) rfl rfl (congrArg (aM aK) (i5.trans cr)) (aI))) runDr1604_p4
      unfold G1
      exact hc (bu a7 (aA rfl) (aE rfl) (by first | omega | (simp <;> omega))) <|hc (dB rfl rfl (by omega)) <|hnil
theorem aB0 (z : List (LB × LB)) (nm : LB) (x0 : 1 ≤ (bb nm z).length) : ax (cx nu one 1 aC aG) (aN7 z nm) uU ic 30 (.exit 0) 4 604 605 644 m8 tC [(5, .sr 604)] [(4, .r 2000000 23 2 true), (604, .r 2000001 23 2 false)] (fv z nm) (vF z nm) :=
  cF (mP z nm) (fun _ _ => rfl) (fun _ _ => rfl) (fun _ _ => rfl) (fun st X t ht => cE.trans (cD ((by decide : ∀ t, t ∈ ic → t < 1000000) t ht))) rfl rfl rfl aV8 rfl rfl (roundsDr1604_1 z nm x0)
end Go.Proofs.YtjkdkpdjmapieaaDoor.fieldTells

