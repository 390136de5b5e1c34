/- A part of the proof: an interpreter of the model's own code on partly known states, and that what it answers is what the program answers. No condition of its own. -/
import Derived.Test.YtlfmfmegnenohaaDoorG1CutterTellsO6
set_option maxRecDepth 100000
set_option linter.unusedVariables false
set_option linter.unusedSimpArgs false
set_option maxHeartbeats 4000000
namespace Go.Proofs.YtlfmfmegnenohaaDoor.cutterTells
open Go Go.AX Go.Proofs Go.Proofs.YtlfmfmegnenohaaDoor
variable {nu : Nat → Value} {one : ∀ i, i < 1000000 → (nu i).oneCell' = true} {E' : Cx} {x' : Ex} {e' : LA} {h' : LE}
noncomputable def fi5 : FI := (tabk.fn.get 5).getD default
theorem fi5_at : tabk.fn.get 5 = some fi5 := by kernel_rfl
theorem fi5_body : fi5.body = some (Tryd.f5.body.getD .skip) := by kernel_rfl
theorem fiB5 : fi5.body.isSome = true := by rw [fi5_body]; rfl
theorem cfA5 : (loopsOf (Tryd.f5.body.getD .skip)).all (fun b => !(keyEq (Go.AX.keyOf b) 8888888)) = true := by kernel_rfl
noncomputable def fi15 : FI := (tabk.fn.get 15).getD default
theorem fi15_at : tabk.fn.get 15 = some fi15 := by kernel_rfl
theorem fi15_body : fi15.body = some (Tryd.f15.body.getD .skip) := by kernel_rfl
theorem fiB15 : fi15.body.isSome = true := by rw [fi15_body]; rfl
theorem cfA15 : (loopsOf (Tryd.f15.body.getD .skip)).all (fun b => !(keyEq (Go.AX.keyOf b) 8888888)) = true := by kernel_rfl
noncomputable def fi13 : FI := (tabk.fn.get 13).getD default
theorem fi13_at : tabk.fn.get 13 = some fi13 := by kernel_rfl
theorem fi13_body : fi13.body = some (Tryd.f13.body.getD .skip) := by kernel_rfl
theorem fiB13 : fi13.body.isSome = true := by rw [fi13_body]; rfl
theorem cfA13 : (loopsOf (Tryd.f13.body.getD .skip)).all (fun b => !(keyEq (Go.AX.keyOf b) 8888888)) = true := by kernel_rfl
noncomputable def bodyTl : Code := loopNo (Tryd.f5.body.getD .skip) 0
theorem keyTl : oneKey (loopsOf (Tryd.f5.body.getD .skip)) 7 0 0 = true := by kernel_rfl
def keepTl : List Nat := []
def epTl_0 : LA := [(1, .sr 1), (5, .p 2 0), (6, .p 3 0), (7, .x 1)]
def hpTl_0 : LE := [(1, .r 2000000 9 1 true), (2, .b ⟨53, .l [.x 0, .nils, .i .i64 (.ofNat 0), .b false], 0, 0, 0, false, false⟩), (3, .b ⟨46, .l [.x 2, .s 0 0, .b false], 0, 0, 0, false, false⟩)]
def nuTl_0 (most : Int) (ll : List LB) (i : Int) (R : LB) (nd : Int) : List Value := [.int .i64 (most), .int .i64 (i), .int .i64 (most), St' ([] : LB), .int .i64 ((ll.length : Int)), St' ((cutS most ([] : LB)).2.1), .int .i64 (most), .int .i64 ((ndS ((cutS most ([] : LB)).2.1))), St' ((cutS most ([] : LB)).2.1), .int .i64 (most), .int .i64 (((cutS most ([] : LB)).2.1.length : Int)), .int .i64 (((cutS most ([] : LB)).2.1.length : Int)), .int .i64 (i + 1), St' ([] : LB), .int .i64 ((ll.length : Int)), St' (nthS ll (Int.toNat (i))), .int .i64 (((nthS ll (Int.toNat (i))).length : Int)), .int .u8 (bt (nthS ll (Int.toNat (i))) 0), St' ((cutS most (nthS ll (Int.toNat (i)))).2.1), .int .i64 (most), .int .i64 ((ndS ((cutS most (nthS ll (Int.toNat (i)))).2.1))), St' (nthS ll (Int.toNat (i))), St' ((cutS most (nthS ll (Int.toNat (i)))).2.1), .int .i64 (most), .int .i64 (((cutS most (nthS ll (Int.toNat (i)))).1.length : Int)), .int .i64 (((cutS most (nthS ll (Int.toNat (i)))).1.length : Int)), .int .i64 (((cutS most (nthS ll (Int.toNat (i)))).2.1.length : Int)), .int .i64 (((cutS most (nthS ll (Int.toNat (i)))).2.1.length : Int)), .int .i64 (i + 1), St' ([] : LB), .int .i64 ((ll.length : Int)), St' (nthS ll (Int.toNat (i))), .int .i64 (((nthS ll (Int.toNat (i))).length : Int)), .int .u8 (bt (nthS ll (Int.toNat (i))) 0), St' ((cutS most (nthS ll (Int.toNat (i)))).2.1), .int .i64 (most), .int .i64 ((ndS ((cutS most (nthS ll (Int.toNat (i)))).2.1))), St' (nthS ll (Int.toNat (i))), St' ((cutS most (nthS ll (Int.toNat (i)))).2.1), .int .i64 (most), .int .i64 (((cutS most (nthS ll (Int.toNat (i)))).2.1.length : Int)), .int .i64 (((cutS most (nthS ll (Int.toNat (i)))).2.1.length : Int)), .int .i64 (i + 1), St' ([] : LB), .int .i64 ((ll.length : Int)), St' (nthS ll (Int.toNat (i))), .int .i64 (((nthS ll (Int.toNat (i))).length : Int)), .int .u8 (bt (nthS ll (Int.toNat (i))) 0), St' ((cutS most (nthS ll (Int.toNat (i)))).2.1), .int .i64 (most), .int .i64 ((cutS most (nthS ll (Int.toNat (i)))).2.2), St' (nthS ll (Int.toNat (i))), .int .i64 (most), .int .i64 ((cutS most (nthS ll (Int.toNat (i)))).2.2), .int .i64 (((cutS most (nthS ll (Int.toNat (i)))).2.2)), .int .i64 (i + 1), St' ([] : LB), .int .i64 ((ll.length : Int)), St' (nthS ll (Int.toNat (i))), .int .i64 (((nthS ll (Int.toNat (i))).length : Int)), .int .u8 (bt (nthS ll (Int.toNat (i))) 0), St' ((cutS most (nthS ll (Int.toNat (i)))).2.1), .int .i64 (most), .int .i64 ((cutS most (nthS ll (Int.toNat (i)))).2.2), St' (nthS ll (Int.toNat (i))), .int .i64 (most), .int .i64 ((cutS most (nthS ll (Int.toNat (i)))).2.2), .int .i64 (((cutS most (nthS ll (Int.toNat (i)))).1.length : Int)), .int .i64 (((cutS most (nthS ll (Int.toNat (i)))).1.length : Int)), .int .i64 (((cutS most (nthS ll (Int.toNat (i)))).2.2)), .int .i64 (i + 1), St' ([] : LB), .int .i64 ((ll.length : Int)), St' (nthS ll (Int.toNat (i))), .int .i64 (((nthS ll (Int.toNat (i))).length : Int)), St' ([] : LB), .int .i64 ((ll.length : Int))]
def roTl_0 (most : Int) (ll : List LB) (i : Int) (R : LB) (nd : Int) : List Value := [rwS ll, rwS ([] : List LB), rwS ([] : List LB), rwG reC ((cutS most (nthS ll (Int.toNat (i)))).1), rwG reC ((cutS most (nthS ll (Int.toNat (i)))).1), rwS ([] : List LB), rwS ([] : List LB), rwS ([] : List LB), rwG reC ((cutS most (nthS ll (Int.toNat (i)))).1), rwG reC ((cutS most (nthS ll (Int.toNat (i)))).1), rwS ([] : List LB), rwS ([] : List LB)]
def epTl_1 : LA := [(1, .sr 1), (5, .p 2 0), (6, .p 3 0), (7, .x 1)]
def hpTl_1 : LE := [(1, .r 2000000 9 1 true), (2, .b ⟨53, .l [.x 0, .sy 10, .x 2, .b false], 0, 0, 0, false, false⟩), (3, .b ⟨46, .l [.x 5, .x 4, .b false], 0, 0, 0, false, false⟩), (10, .t 3 5)]
def nuTl_1 (most : Int) (ll : List LB) (i : Int) (R : LB) (nd : Int) : List Value := [.int .i64 (most), .int .i64 (i), .int .i64 (nd), St' R, St' R, .int .i64 (most), St' ([] : LB), .int .i64 ((ll.length : Int)), St' (nthS ll (Int.toNat (i))), .int .i64 (((nthS ll (Int.toNat (i))).length : Int)), St' (R ++ (nthS ll (Int.toNat (i)))), .int .i64 (((nthS ll (Int.toNat (i))).length : Int) + (R.length : Int)), St' (R ++ (nthS ll (Int.toNat (i)))), St' ((cutS most (R ++ (nthS ll (Int.toNat (i))))).2.1), .int .i64 (most), .int .i64 (((cutS most (R ++ (nthS ll (Int.toNat (i))))).2.1.length : Int)), .int .i64 (i + 1), St' ([] : LB), .int .i64 ((ll.length : Int)), St' (nthS ll (Int.toNat (i))), .int .i64 (((nthS ll (Int.toNat (i))).length : Int)), St' (R ++ (nthS ll (Int.toNat (i)))), .int .i64 (((nthS ll (Int.toNat (i))).length : Int) + (R.length : Int)), St' ((cutS most (R ++ (nthS ll (Int.toNat (i))))).2.1), .int .i64 (most), .int .i64 ((ndS ((cutS most (R ++ (nthS ll (Int.toNat (i))))).2.1))), St' (R ++ (nthS ll (Int.toNat (i)))), St' ((cutS most (R ++ (nthS ll (Int.toNat (i))))).2.1), .int .i64 (most), .int .i64 (((cutS most (R ++ (nthS ll (Int.toNat (i))))).1.length : Int)), .int .i64 (((cutS most (R ++ (nthS ll (Int.toNat (i))))).1.length : Int)), .int .i64 (((cutS most (R ++ (nthS ll (Int.toNat (i))))).2.1.length : Int)), .int .i64 (((cutS most (R ++ (nthS ll (Int.toNat (i))))).2.1.length : Int)), .int .i64 (i + 1), St' ([] : LB), .int .i64 ((ll.length : Int)), St' (nthS ll (Int.toNat (i))), .int .i64 (((nthS ll (Int.toNat (i))).length : Int)), St' (R ++ (nthS ll (Int.toNat (i)))), .int .i64 (((nthS ll (Int.toNat (i))).length : Int) + (R.length : Int)), St' ((cutS most (R ++ (nthS ll (Int.toNat (i))))).2.1), .int .i64 (most), .int .i64 ((ndS ((cutS most (R ++ (nthS ll (Int.toNat (i))))).2.1))), St' (R ++ (nthS ll (Int.toNat (i)))), St' ((cutS most (R ++ (nthS ll (Int.toNat (i))))).2.1), .int .i64 (most), .int .i64 (((cutS most (R ++ (nthS ll (Int.toNat (i))))).2.1.length : Int)), .int .i64 (((cutS most (R ++ (nthS ll (Int.toNat (i))))).2.1.length : Int)), .int .i64 (i + 1), St' ([] : LB), .int .i64 ((ll.length : Int)), St' (nthS ll (Int.toNat (i))), .int .i64 (((nthS ll (Int.toNat (i))).length : Int)), St' (R ++ (nthS ll (Int.toNat (i)))), .int .i64 (((nthS ll (Int.toNat (i))).length : Int) + (R.length : Int)), St' ((cutS most (R ++ (nthS ll (Int.toNat (i))))).2.1), .int .i64 (most), .int .i64 ((cutS most (R ++ (nthS ll (Int.toNat (i))))).2.2), St' (R ++ (nthS ll (Int.toNat (i)))), .int .i64 (most), .int .i64 ((cutS most (R ++ (nthS ll (Int.toNat (i))))).2.2), .int .i64 (((cutS most (R ++ (nthS ll (Int.toNat (i))))).2.2)), .int .i64 (i + 1), St' ([] : LB), .int .i64 ((ll.length : Int)), St' (nthS ll (Int.toNat (i))), .int .i64 (((nthS ll (Int.toNat (i))).length : Int)), St' (R ++ (nthS ll (Int.toNat (i)))), .int .i64 (((nthS ll (Int.toNat (i))).length : Int) + (R.length : Int)), St' ((cutS most (R ++ (nthS ll (Int.toNat (i))))).2.1), .int .i64 (most), .int .i64 ((cutS most (R ++ (nthS ll (Int.toNat (i))))).2.2), St' (R ++ (nthS ll (Int.toNat (i)))), .int .i64 (most), .int .i64 ((cutS most (R ++ (nthS ll (Int.toNat (i))))).2.2), .int .i64 (((cutS most (R ++ (nthS ll (Int.toNat (i))))).1.length : Int)), .int .i64 (((cutS most (R ++ (nthS ll (Int.toNat (i))))).1.length : Int)), .int .i64 (((cutS most (R ++ (nthS ll (Int.toNat (i))))).2.2)), .int .i64 (i + 1), St' ([] : LB), .int .i64 ((ll.length : Int)), St' (nthS ll (Int.toNat (i))), .int .i64 (((nthS ll (Int.toNat (i))).length : Int)), St' ([] : LB), .int .i64 ((ll.length : Int))]
def roTl_1 (most : Int) (ll : List LB) (i : Int) (R : LB) (nd : Int) : List Value := [rwS ll, rwS ([] : List LB), rwS ([] : List LB), rwG reC ((cutS most (R ++ (nthS ll (Int.toNat (i))))).1), rwG reC ((cutS most (R ++ (nthS ll (Int.toNat (i))))).1), rwS ([] : List LB), rwS ([] : List LB), rwS ([] : List LB), rwG reC ((cutS most (R ++ (nthS ll (Int.toNat (i))))).1), rwG reC ((cutS most (R ++ (nthS ll (Int.toNat (i))))).1), rwS ([] : List LB), rwS ([] : List LB)]
def epTl_2 : LA := [(1, .sr 1), (5, .p 2 0), (6, .p 3 0), (7, .x 1)]
def hpTl_2 : LE := [(1, .r 2000000 9 1 true), (2, .b ⟨53, .l [.x 0, .nils, .und, .b true], 0, 0, 0, false, false⟩), (3, .b ⟨46, .l [.x 2, .s 0 0, .b true], 0, 0, 0, false, false⟩)]
def nuTl_2 (most : Int) (ll : List LB) (i : Int) (R : LB) (nd : Int) : List Value := [.int .i64 (most), .int .i64 (i), .int .i64 (most), St' ([] : LB), .int .i64 ((ll.length : Int)), St' (nthS ll (Int.toNat (i))), .int .i64 (((nthS ll (Int.toNat (i))).length : Int)), .int .i64 (i + 1), St' ([] : LB), .int .i64 ((ll.length : Int)), St' (nthS ll (Int.toNat (i))), .int .i64 (((nthS ll (Int.toNat (i))).length : Int)), St' ([] : LB), .int .i64 ((ll.length : Int))]
def roTl_2 (most : Int) (ll : List LB) (i : Int) (R : LB) (nd : Int) : List Value := [rwS ll, rwS ([] : List LB), rwS ([] : List LB), rwS ([] : List LB)]
def epTl (st : Nat × Int × LB × Int) : LA := if st.1 = 0 then epTl_0 else if st.1 = 1 then epTl_1 else epTl_2
def hpTl (st : Nat × Int × LB × Int) : LE := if st.1 = 0 then hpTl_0 else if st.1 = 1 then hpTl_1 else hpTl_2
def nuTl (most : Int) (ll : List LB) (st : Nat × Int × LB × Int) : List Value := if st.1 = 0 then nuTl_0 most ll (st.2.1) (st.2.2.1) (st.2.2.2) else if st.1 = 1 then nuTl_1 most ll (st.2.1) (st.2.2.1) (st.2.2.2) else nuTl_2 most ll (st.2.1) (st.2.2.1) (st.2.2.2)
def roTl (most : Int) (ll : List LB) (st : Nat × Int × LB × Int) : List Value := if st.1 = 0 then roTl_0 most ll (st.2.1) (st.2.2.1) (st.2.2.2) else if st.1 = 1 then roTl_1 most ll (st.2.1) (st.2.2.1) (st.2.2.2) else roTl_2 most ll (st.2.1) (st.2.2.1) (st.2.2.2)
theorem onTl (most : Int) (ll : List LB) (st : Nat × Int × LB × Int) : ∀ j, (nuL (nuTl most ll st) j).oneCell' = true := by
  intro j
  unfold nuTl
  by_cases g0 : st.1 = 0
  · rw [if_pos g0]; exact nuL_one (l := nuTl_0 most ll (st.2.1) (st.2.2.1) (st.2.2.2)) rfl j
  rw [if_neg g0]
  by_cases g1 : st.1 = 1
  · rw [if_pos g1]; exact nuL_one (l := nuTl_1 most ll (st.2.1) (st.2.2.1) (st.2.2.2)) rfl j
  rw [if_neg g1]
  exact nuL_one (l := nuTl_2 most ll (st.2.1) (st.2.2.1) (st.2.2.2)) rfl j
theorem ebTl (st : Nat × Int × LB × Int) : (lfB (epTl st) && lfC keepTl) = true := by
  unfold epTl
  by_cases g0 : st.1 = 0
  · rw [if_pos g0]; rfl
  rw [if_neg g0]
  by_cases g1 : st.1 = 1
  · rw [if_pos g1]; rfl
  rw [if_neg g1]
  rfl
noncomputable def DTl (most : Int) (ll : List LB) (st : Nat × Int × LB × Int) (X : Nat → Value) : Cx := cx (nuX (nuTl most ll st) (rX (roTl most ll st) X)) (nuX_one (onTl most ll st)) 1 laidE laidE_stab
def InvTl (most : Int) (ll : List LB) (st : Nat × Int × LB × Int) : Prop := (0 ≤ (st.2.1)) ∧ ((st.2.1) ≤ (ll.length : Int)) ∧ (ll.length ≤ 30) ∧ (okL (ll.take (st.2.1).toNat)) ∧ (∀ q, q ∈ ll → q.length ≤ 140737488351232) ∧ (((st.2.2.1).length : Int) ≤ 2000 * (st.2.1)) ∧ ((st.1) = 1 → Nd most (st.2.2.1) (st.2.2.2)) ∧ ((st.1) = 0 → (st.2.2.1) = []) ∧ ((st.1) < 3)
abbrev CjTl (most : Int) (ll : List LB) (tag : Nat) (i : Int) (R : LB) (nd : Int) : Prop := (0 ≤ i) ∧ (i ≤ (ll.length : Int)) ∧ (ll.length ≤ 30) ∧ (okL (ll.take i.toNat)) ∧ (∀ q, q ∈ ll → q.length ≤ 140737488351232) ∧ ((R.length : Int) ≤ 2000 * i) ∧ (tag = 1 → Nd most R nd) ∧ (tag = 0 → R = []) ∧ (tag < 3)
theorem mkITl (most : Int) (ll : List LB) (tag : Nat) (i : Int) (R : LB) (nd : Int) (h : CjTl most ll tag i R nd) : InvTl most ll (tag, i, R, nd) := h
theorem unITl (most : Int) (ll : List LB) (tag : Nat) (i : Int) (R : LB) (nd : Int) (h : InvTl most ll (tag, i, R, nd)) : (0 ≤ i) ∧ (i ≤ (ll.length : Int)) ∧ (ll.length ≤ 30) ∧ (okL (ll.take i.toNat)) ∧ (∀ q, q ∈ ll → q.length ≤ 140737488351232) ∧ ((R.length : Int) ≤ 2000 * i) ∧ (tag = 1 → Nd most R nd) ∧ (tag = 0 → R = []) ∧ (tag < 3) := h
def muTl (most : Int) (ll : List LB) (st : Nat × Int × LB × Int) : Nat := (ll.length - (st.2.1).toNat)
abbrev RHTl (most : Int) (ll : List LB) (E' : Cx) (ex' : Ex) (epx' : LA) (hpx' : LE) (st : Nat × Int × LB × Int) (X : Nat → Value) : Prop := RoundH E' bodyTl keepTl 81 ex' 1 10 11 460 epTl hpTl epx' hpx' (InvTl most ll) (muTl most ll) (DTl most ll) st X
theorem sLTl_0 (most : Int) (ll : List LB) (i : Int) (R : LB) (nd : Int) {X : Nat → Value} {tb : Tab} {L : List LF} (y : Nat × Int × LB × Int) {th : LA} {sg : List (Nat × Nat)} (hall : AllOk (cx (nuX (nuTl_0 most ll i R nd) (rX (roTl_0 most ll i R nd) X)) (nuX_one (nuL_one (l := nuTl_0 most ll i R nd) rfl)) 1 laidE laidE_stab) tb) (hlp : LpOk (cx (nuX (nuTl_0 most ll i R nd) (rX (roTl_0 most ll i R nd) X)) (nuX_one (nuL_one (l := nuTl_0 most ll i R nd) rfl)) 1 laidE laidE_stab) L bodyTl) (hng : tb.ng = 1) (hy : InvTl most ll y) (lt : muTl most ll y < muTl most ll (0, i, R, nd)) (ht : ThOk (cx (nuX (nuTl_0 most ll i R nd) (rX (roTl_0 most ll i R nd) X)) (nuX_one (nuL_one (l := nuTl_0 most ll i R nd) rfl)) 1 laidE laidE_stab) (DTl most ll y X) th) (run : okRdH (code tb 6000 L bodyTl (envOf (headOf epTl_0 keepTl) 81) ⟨lhSet hpTl_0 .leaf, 11, 0, 0⟩) .normal keepTl 81 460 th sg 10 11 (epTl y) (hpTl y) = true) : RHTl most ll E' x' e' h' (0, i, R, nd) X :=
  RoundH.next (tb := tb) (L := L) (f := 6000) y hall hlp hng hy lt ht run
theorem lLTl_0 (most : Int) (ll : List LB) (i : Int) (R : LB) (nd : Int) {X : Nat → Value} {tb : Tab} {L : List LF} {th : LA} {sg : List (Nat × Nat)} (hne : exB x' .normal = false) (hall : AllOk (cx (nuX (nuTl_0 most ll i R nd) (rX (roTl_0 most ll i R nd) X)) (nuX_one (nuL_one (l := nuTl_0 most ll i R nd) rfl)) 1 laidE laidE_stab) tb) (hlp : LpOk (cx (nuX (nuTl_0 most ll i R nd) (rX (roTl_0 most ll i R nd) X)) (nuX_one (nuL_one (l := nuTl_0 most ll i R nd) rfl)) 1 laidE laidE_stab) L bodyTl) (hng : tb.ng = 1) (ht : ThOk (cx (nuX (nuTl_0 most ll i R nd) (rX (roTl_0 most ll i R nd) X)) (nuX_one (nuL_one (l := nuTl_0 most ll i R nd) rfl)) 1 laidE laidE_stab) E' th) (run : okRdH (code tb 6000 L bodyTl (envOf (headOf epTl_0 keepTl) 81) ⟨lhSet hpTl_0 .leaf, 11, 0, 0⟩) x' keepTl 81 460 th sg 10 460 e' h' = true) : RHTl most ll E' x' e' h' (0, i, R, nd) X :=
  RoundH.leave (tb := tb) (L := L) (f := 6000) hall hlp hng hne ht run
noncomputable abbrev RNTl_0 (h : LK) (x : Ex) (th : LA) (sg : List (Nat × Nat)) (m : Nat) (ep : LA) (hp : LE) : Bool := okRdH (code (tbl h) 6000 [] bodyTl (envOf (headOf epTl_0 keepTl) 81) ⟨lhSet hpTl_0 .leaf, 11, 0, 0⟩) x keepTl 81 460 th sg 10 m ep hp
theorem stTl_0 (most : Int) (ll : List LB) (i : Int) (R : LB) (nd : Int) {X : Nat → Value} {h : LK} (y : Nat × Int × LB × Int) {th : LA} {sg : List (Nat × Nat)} (ho : ∀ a' r', (a', r') ∈ h → HOk (cx (nuX (nuTl_0 most ll i R nd) (rX (roTl_0 most ll i R nd) X)) (nuX_one (nuL_one (l := nuTl_0 most ll i R nd) rfl)) 1 laidE laidE_stab) a' r') (hy : InvTl most ll y) (lt : muTl most ll y < muTl most ll (0, i, R, nd)) (ht : ThOk (cx (nuX (nuTl_0 most ll i R nd) (rX (roTl_0 most ll i R nd) X)) (nuX_one (nuL_one (l := nuTl_0 most ll i R nd) rfl)) 1 laidE laidE_stab) (DTl most ll y X) th) (run : RNTl_0 h .normal th sg 11 (epTl y) (hpTl y) = true) : RHTl most ll E' x' e' h' (0, i, R, nd) X :=
  RoundH.next (tb := tbl h) (L := []) (f := 6000) y ((tabkOk _ _).hyps ho) (LpOk.nil _) rfl hy lt ht run
theorem lvTl_0 (most : Int) (ll : List LB) (i : Int) (R : LB) (nd : Int) {X : Nat → Value} {h : LK} {th : LA} {sg : List (Nat × Nat)} (hne : exB x' .normal = false) (ho : ∀ a' r', (a', r') ∈ h → HOk (cx (nuX (nuTl_0 most ll i R nd) (rX (roTl_0 most ll i R nd) X)) (nuX_one (nuL_one (l := nuTl_0 most ll i R nd) rfl)) 1 laidE laidE_stab) a' r') (ht : ThOk (cx (nuX (nuTl_0 most ll i R nd) (rX (roTl_0 most ll i R nd) X)) (nuX_one (nuL_one (l := nuTl_0 most ll i R nd) rfl)) 1 laidE laidE_stab) E' th) (run : RNTl_0 h x' th sg 460 e' h' = true) : RHTl most ll E' x' e' h' (0, i, R, nd) X :=
  RoundH.leave (tb := tbl h) (L := []) (f := 6000) ((tabkOk _ _).hyps ho) (LpOk.nil _) rfl hne ht run
theorem sLTl_1 (most : Int) (ll : List LB) (i : Int) (R : LB) (nd : Int) {X : Nat → Value} {tb : Tab} {L : List LF} (y : Nat × Int × LB × Int) {th : LA} {sg : List (Nat × Nat)} (hall : AllOk (cx (nuX (nuTl_1 most ll i R nd) (rX (roTl_1 most ll i R nd) X)) (nuX_one (nuL_one (l := nuTl_1 most ll i R nd) rfl)) 1 laidE laidE_stab) tb) (hlp : LpOk (cx (nuX (nuTl_1 most ll i R nd) (rX (roTl_1 most ll i R nd) X)) (nuX_one (nuL_one (l := nuTl_1 most ll i R nd) rfl)) 1 laidE laidE_stab) L bodyTl) (hng : tb.ng = 1) (hy : InvTl most ll y) (lt : muTl most ll y < muTl most ll (1, i, R, nd)) (ht : ThOk (cx (nuX (nuTl_1 most ll i R nd) (rX (roTl_1 most ll i R nd) X)) (nuX_one (nuL_one (l := nuTl_1 most ll i R nd) rfl)) 1 laidE laidE_stab) (DTl most ll y X) th) (run : okRdH (code tb 6000 L bodyTl (envOf (headOf epTl_1 keepTl) 81) ⟨lhSet hpTl_1 .leaf, 11, 0, 0⟩) .normal keepTl 81 460 th sg 10 11 (epTl y) (hpTl y) = true) : RHTl most ll E' x' e' h' (1, i, R, nd) X :=
  RoundH.next (tb := tb) (L := L) (f := 6000) y hall hlp hng hy lt ht run
theorem lLTl_1 (most : Int) (ll : List LB) (i : Int) (R : LB) (nd : Int) {X : Nat → Value} {tb : Tab} {L : List LF} {th : LA} {sg : List (Nat × Nat)} (hne : exB x' .normal = false) (hall : AllOk (cx (nuX (nuTl_1 most ll i R nd) (rX (roTl_1 most ll i R nd) X)) (nuX_one (nuL_one (l := nuTl_1 most ll i R nd) rfl)) 1 laidE laidE_stab) tb) (hlp : LpOk (cx (nuX (nuTl_1 most ll i R nd) (rX (roTl_1 most ll i R nd) X)) (nuX_one (nuL_one (l := nuTl_1 most ll i R nd) rfl)) 1 laidE laidE_stab) L bodyTl) (hng : tb.ng = 1) (ht : ThOk (cx (nuX (nuTl_1 most ll i R nd) (rX (roTl_1 most ll i R nd) X)) (nuX_one (nuL_one (l := nuTl_1 most ll i R nd) rfl)) 1 laidE laidE_stab) E' th) (run : okRdH (code tb 6000 L bodyTl (envOf (headOf epTl_1 keepTl) 81) ⟨lhSet hpTl_1 .leaf, 11, 0, 0⟩) x' keepTl 81 460 th sg 10 460 e' h' = true) : RHTl most ll E' x' e' h' (1, i, R, nd) X :=
  RoundH.leave (tb := tb) (L := L) (f := 6000) hall hlp hng hne ht run
noncomputable abbrev RNTl_1 (h : LK) (x : Ex) (th : LA) (sg : List (Nat × Nat)) (m : Nat) (ep : LA) (hp : LE) : Bool := okRdH (code (tbl h) 6000 [] bodyTl (envOf (headOf epTl_1 keepTl) 81) ⟨lhSet hpTl_1 .leaf, 11, 0, 0⟩) x keepTl 81 460 th sg 10 m ep hp
theorem stTl_1 (most : Int) (ll : List LB) (i : Int) (R : LB) (nd : Int) {X : Nat → Value} {h : LK} (y : Nat × Int × LB × Int) {th : LA} {sg : List (Nat × Nat)} (ho : ∀ a' r', (a', r') ∈ h → HOk (cx (nuX (nuTl_1 most ll i R nd) (rX (roTl_1 most ll i R nd) X)) (nuX_one (nuL_one (l := nuTl_1 most ll i R nd) rfl)) 1 laidE laidE_stab) a' r') (hy : InvTl most ll y) (lt : muTl most ll y < muTl most ll (1, i, R, nd)) (ht : ThOk (cx (nuX (nuTl_1 most ll i R nd) (rX (roTl_1 most ll i R nd) X)) (nuX_one (nuL_one (l := nuTl_1 most ll i R nd) rfl)) 1 laidE laidE_stab) (DTl most ll y X) th) (run : RNTl_1 h .normal th sg 11 (epTl y) (hpTl y) = true) : RHTl most ll E' x' e' h' (1, i, R, nd) X :=
  RoundH.next (tb := tbl h) (L := []) (f := 6000) y ((tabkOk _ _).hyps ho) (LpOk.nil _) rfl hy lt ht run
theorem lvTl_1 (most : Int) (ll : List LB) (i : Int) (R : LB) (nd : Int) {X : Nat → Value} {h : LK} {th : LA} {sg : List (Nat × Nat)} (hne : exB x' .normal = false) (ho : ∀ a' r', (a', r') ∈ h → HOk (cx (nuX (nuTl_1 most ll i R nd) (rX (roTl_1 most ll i R nd) X)) (nuX_one (nuL_one (l := nuTl_1 most ll i R nd) rfl)) 1 laidE laidE_stab) a' r') (ht : ThOk (cx (nuX (nuTl_1 most ll i R nd) (rX (roTl_1 most ll i R nd) X)) (nuX_one (nuL_one (l := nuTl_1 most ll i R nd) rfl)) 1 laidE laidE_stab) E' th) (run : RNTl_1 h x' th sg 460 e' h' = true) : RHTl most ll E' x' e' h' (1, i, R, nd) X :=
  RoundH.leave (tb := tbl h) (L := []) (f := 6000) ((tabkOk _ _).hyps ho) (LpOk.nil _) rfl hne ht run
theorem sLTl_2 (most : Int) (ll : List LB) (i : Int) (R : LB) (nd : Int) {X : Nat → Value} {tb : Tab} {L : List LF} (y : Nat × Int × LB × Int) {th : LA} {sg : List (Nat × Nat)} (hall : AllOk (cx (nuX (nuTl_2 most ll i R nd) (rX (roTl_2 most ll i R nd) X)) (nuX_one (nuL_one (l := nuTl_2 most ll i R nd) rfl)) 1 laidE laidE_stab) tb) (hlp : LpOk (cx (nuX (nuTl_2 most ll i R nd) (rX (roTl_2 most ll i R nd) X)) (nuX_one (nuL_one (l := nuTl_2 most ll i R nd) rfl)) 1 laidE laidE_stab) L bodyTl) (hng : tb.ng = 1) (hy : InvTl most ll y) (lt : muTl most ll y < muTl most ll (2, i, R, nd)) (ht : ThOk (cx (nuX (nuTl_2 most ll i R nd) (rX (roTl_2 most ll i R nd) X)) (nuX_one (nuL_one (l := nuTl_2 most ll i R nd) rfl)) 1 laidE laidE_stab) (DTl most ll y X) th) (run : okRdH (code tb 6000 L bodyTl (envOf (headOf epTl_2 keepTl) 81) ⟨lhSet hpTl_2 .leaf, 11, 0, 0⟩) .normal keepTl 81 460 th sg 10 11 (epTl y) (hpTl y) = true) : RHTl most ll E' x' e' h' (2, i, R, nd) X :=
  RoundH.next (tb := tb) (L := L) (f := 6000) y hall hlp hng hy lt ht run
theorem lLTl_2 (most : Int) (ll : List LB) (i : Int) (R : LB) (nd : Int) {X : Nat → Value} {tb : Tab} {L : List LF} {th : LA} {sg : List (Nat × Nat)} (hne : exB x' .normal = false) (hall : AllOk (cx (nuX (nuTl_2 most ll i R nd) (rX (roTl_2 most ll i R nd) X)) (nuX_one (nuL_one (l := nuTl_2 most ll i R nd) rfl)) 1 laidE laidE_stab) tb) (hlp : LpOk (cx (nuX (nuTl_2 most ll i R nd) (rX (roTl_2 most ll i R nd) X)) (nuX_one (nuL_one (l := nuTl_2 most ll i R nd) rfl)) 1 laidE laidE_stab) L bodyTl) (hng : tb.ng = 1) (ht : ThOk (cx (nuX (nuTl_2 most ll i R nd) (rX (roTl_2 most ll i R nd) X)) (nuX_one (nuL_one (l := nuTl_2 most ll i R nd) rfl)) 1 laidE laidE_stab) E' th) (run : okRdH (code tb 6000 L bodyTl (envOf (headOf epTl_2 keepTl) 81) ⟨lhSet hpTl_2 .leaf, 11, 0, 0⟩) x' keepTl 81 460 th sg 10 460 e' h' = true) : RHTl most ll E' x' e' h' (2, i, R, nd) X :=
  RoundH.leave (tb := tb) (L := L) (f := 6000) hall hlp hng hne ht run
noncomputable abbrev RNTl_2 (h : LK) (x : Ex) (th : LA) (sg : List (Nat × Nat)) (m : Nat) (ep : LA) (hp : LE) : Bool := okRdH (code (tbl h) 6000 [] bodyTl (envOf (headOf epTl_2 keepTl) 81) ⟨lhSet hpTl_2 .leaf, 11, 0, 0⟩) x keepTl 81 460 th sg 10 m ep hp
theorem stTl_2 (most : Int) (ll : List LB) (i : Int) (R : LB) (nd : Int) {X : Nat → Value} {h : LK} (y : Nat × Int × LB × Int) {th : LA} {sg : List (Nat × Nat)} (ho : ∀ a' r', (a', r') ∈ h → HOk (cx (nuX (nuTl_2 most ll i R nd) (rX (roTl_2 most ll i R nd) X)) (nuX_one (nuL_one (l := nuTl_2 most ll i R nd) rfl)) 1 laidE laidE_stab) a' r') (hy : InvTl most ll y) (lt : muTl most ll y < muTl most ll (2, i, R, nd)) (ht : ThOk (cx (nuX (nuTl_2 most ll i R nd) (rX (roTl_2 most ll i R nd) X)) (nuX_one (nuL_one (l := nuTl_2 most ll i R nd) rfl)) 1 laidE laidE_stab) (DTl most ll y X) th) (run : RNTl_2 h .normal th sg 11 (epTl y) (hpTl y) = true) : RHTl most ll E' x' e' h' (2, i, R, nd) X :=
  RoundH.next (tb := tbl h) (L := []) (f := 6000) y ((tabkOk _ _).hyps ho) (LpOk.nil _) rfl hy lt ht run
theorem lvTl_2 (most : Int) (ll : List LB) (i : Int) (R : LB) (nd : Int) {X : Nat → Value} {h : LK} {th : LA} {sg : List (Nat × Nat)} (hne : exB x' .normal = false) (ho : ∀ a' r', (a', r') ∈ h → HOk (cx (nuX (nuTl_2 most ll i R nd) (rX (roTl_2 most ll i R nd) X)) (nuX_one (nuL_one (l := nuTl_2 most ll i R nd) rfl)) 1 laidE laidE_stab) a' r') (ht : ThOk (cx (nuX (nuTl_2 most ll i R nd) (rX (roTl_2 most ll i R nd) X)) (nuX_one (nuL_one (l := nuTl_2 most ll i R nd) rfl)) 1 laidE laidE_stab) E' th) (run : RNTl_2 h x' th sg 460 e' h' = true) : RHTl most ll E' x' e' h' (2, i, R, nd) X :=
  RoundH.leave (tb := tbl h) (L := []) (f := 6000) ((tabkOk _ _).hyps ho) (LpOk.nil _) rfl hne ht run
def hyTl_p0 : LK := [(.rn, .x 2000001), (.bytes [], .x 3), (.rl (.x 2000000) 1, .x 4), (.bin .lss (.x 1) (.x 4), .b true), (.el (.x 2000000) (.x 1) 1 0, .s 0 0), (.fit (.x 5), .b true), (.call 20 [.x 5], .x 7), (.len (.x 5), .x 10), (.len (.x 8), .x 11), (.bin .neq (.x 10) (.x 11), .b false), (.bin .add (.x 1) (.i .i64 (.ofNat 1)), .x 12)]
def lh13 : LH := ⟨1, 40, 100, [(2, .b ⟨53, .l [.x 0, .nils, .i .i64 (.ofNat 0), .b false], 0, 0, 0, false, false⟩)], [(2, .b ⟨53, .l [.x 6, .und, .und, .b false], 0, 0, 0, false, false⟩)]⟩
def lf13 : LF := ⟨2, 38, [(0, .p 2 0), (1, .x 3), (7, .nils)], [], .ret, [(4, .nils), (5, .x 5), (6, .ni)], some lh13⟩
def lh14 : LH := ⟨1, 200, 260, [(3, .b ⟨46, .l [.x 2, .s 0 0, .b false], 0, 0, 0, false, false⟩)], [(3, .b ⟨46, .l [.x 9, .x 8, .b false], 0, 0, 0, false, false⟩)]⟩
def lf14 : LF := ⟨5, 87, [(0, .p 3 0), (6, .nils)], [], .ret, [(4, .nils), (5, .i .i64 (.ofNat 0))], some lh14⟩
noncomputable def tbTl_p0 : Tab := addLps (addLps ((tbl hyTl_p0)) 19 fi19 [lf13]) 15 fi15 [lf14]
def LTl_p0 : List LF := []
theorem runTl_p0 : okRdH (code tbTl_p0 6000 LTl_p0 bodyTl (envOf (headOf epTl_0 keepTl) 81) ⟨lhSet hpTl_0 .leaf, 11, 0, 0⟩) .normal keepTl 81 460 [(0, .x 6), (1, .x 12), (2, .x 7), (3, .x 5), (4, .x 8), (5, .x 9), (2000000, .x 2000000)] [(10, 100)] 10 11 epTl_1 hpTl_1 = true := by kernel_rfl
theorem nxTl_p0 (most : Int) (ll : List LB) (i : Int) (R : LB) (nd : Int) (X : Nat → Value) (hI : InvTl most ll (0, i, R, nd)) (h0 : i < (ll.length : Int)) (h1 : (nthS ll (Int.toNat i)).length = 0) : RHTl most ll E' x' e' h' (0, i, R, nd) X := by
  obtain ⟨i0, i1, i2, i3, i4, i5, i6, i7, it⟩ := unITl most ll 0 i R nd hI
  have hn0 : ([] : LB).length = 0 := rfl
  have hli : (nthS ll (Int.toNat i)).length ≤ 140737488351232 := nthS_at (P := fun q => q.length ≤ 140737488351232) i4 (by omega)
  obtain ⟨hx1, hx2, hx3, hnd⟩ := ndE (m := most) (W := ([] : LB)) rfl
  have hcl := cut_len (m := most) ([] : LB)
  have ho : ∀ a' r', (a', r') ∈ hyTl_p0 → HOk (cx (nuX (nuTl_0 most ll i R nd) (rX (roTl_0 most ll i R nd) X)) (nuX_one (nuL_one (l := nuTl_0 most ll i R nd) rfl)) 1 laidE laidE_stab) a' r' := by
    unfold hyTl_p0
    exact hc (kRn (denX rfl)) <|
     hc (kBytesB (bs := ([] : LB)) .nil (denX rfl)) <|
     hc (kRl (isX rfl) (denX rfl) (by first | omega | (simp <;> omega))) <|
     hc (ltT rfl rfl (by omega)) <|
     hc (kElN (j := (Int.toNat (i))) (isX rfl) (isX rfl) (denE0 (by assumption)) (by omega) (by omega)) <|
     hc (kFit (isX rfl) (by first | omega | (simp <;> omega))) <|
     hc (hokNds (isX rfl) (denX rfl) (by omega)) <|
     hc (lnV rfl rfl (by omega)) <|
     hc (lnV rfl rfl (by omega)) <|
     hc (kNeI (isX rfl) (isX rfl) (neF (by omega))) <|
     hc (adC rfl rfl (by omega)) <|
     hnil
  exact sLTl_0 most ll i R nd (tb := tbTl_p0) (L := LTl_p0) (1, (i + 1), (cutS most ([] : LB)).2.1, (ndS ((cutS most ([] : LB)).2.1))) (AllOk.lp1 (AllOk.lp1 ((tabkOk _ _).hyps ho) (by omega) fi19_at fi19_body (lfCons (lpKnown rfl ⟨0, keyCu, lfOkCu_0 (l := lf13) (h := lh13) ((cutS most ([] : LB)).1) ((cutS most ([] : LB)).2.1) ((cutS most ([] : LB)).2.2) most (by omega) (by omega) (0, ([] : LB), []) (mkICu ((cutS most ([] : LB)).1) ((cutS most ([] : LB)).2.1) ((cutS most ([] : LB)).2.2) most 0 ([] : LB) [] ⟨by omega, rfl, rfl, rfl, by simp only [List.length_nil]; omega, fun _ => rfl, fun h => by omega, by omega⟩) rfl (by kernel_rfl) (th0 := [(0, .x 3), (1, .x 0)]) (sg0 := []) (fun X => thXv (v := St' ([] : LB)) rfl rfl (thXv (v := .int .i64 (most)) rfl rfl (thNil))) (by kernel_rfl) (thx := [(5, .x 0), (6, .x 1)]) (thXv (v := St' ((cutS most ([] : LB)).2.1)) rfl rfl (thXv (v := .int .i64 (most)) rfl rfl (thNil))) (by kernel_rfl)⟩) lfNil)) (by omega) (get_lps2 (by omega) (by omega) fi15_at) fi15_body (lfCons (lpKnown rfl ⟨0, keyRl, lfOkRl_0 (l := lf14) (h := lh14) ((cutS most ([] : LB)).1) ((cutS most ([] : LB)).2.1) ((cutS most ([] : LB)).2.2) most (by omega) (by omega) (0, ([] : LB), []) (mkIRl ((cutS most ([] : LB)).1) ((cutS most ([] : LB)).2.1) ((cutS most ([] : LB)).2.2) most 0 ([] : LB) [] ⟨by first | omega | (simp only [List.length_append]; omega), rfl, rfl, rfl, by simp only [List.length_nil, List.length_append]; omega, fun _ => rfl, fun h => by omega, by omega⟩) rfl (by kernel_rfl) (th0 := [(0, .s 0 0), (1, .x 2)]) (sg0 := []) (fun X => thCons (show Is _ (.s 0 0) (St' ([] : LB)) from isTo (v := St' ([] : LB)) (isSx (l := ([] : LB)) 0 0 rfl) (by first | rfl | (simp; done))) (thXv (v := .int .i64 (most)) rfl rfl (thNil))) (by kernel_rfl) (thx := [(8, .x 0), (9, .x 1)]) (thXv (v := St' ((cutS most ([] : LB)).2.1)) rfl rfl (thXv (v := .int .i64 (most)) rfl rfl (thNil))) (by kernel_rfl)⟩) lfNil)) (lpOk_one lfNil) rfl (mkITl most ll 1 (i + 1) ((cutS most ([] : LB)).2.1) (ndS ((cutS most ([] : LB)).2.1)) ⟨by omega, by omega, i2, okL_snoc i0 (by omega) i3 (by omega), i4, by omega, fun _ => hnd, fun h => by omega, by omega⟩) (by show ll.length - (i + 1).toNat < ll.length - i.toNat; omega) (thXv (v := .int .i64 (most)) rfl rfl (thXi (b := ((i + 1))) rfl rfl (by omega) (thXv (v := .int .i64 ((ndS ((cutS most ([] : LB)).2.1)))) rfl rfl (thXv (v := St' ((cutS most ([] : LB)).2.1)) rfl rfl (thXv (v := St' ((cutS most ([] : LB)).2.1)) rfl rfl (thXv (v := .int .i64 (most)) rfl rfl (thXv (v := rwS ll) rfl rfl (thNil)))))))) runTl_p0
def hyTl_p1 : LK := [(.rn, .x 2000002), (.bytes [], .x 13), (.rl (.x 2000000) 1, .x 14), (.bin .lss (.x 1) (.x 14), .b true), (.el (.x 2000000) (.x 1) 1 0, .x 15), (.len (.x 15), .x 16), (.bin .gtr (.x 16) (.i .i64 (.ofNat 2000)), .b false), (.byt (.x 15) (.i .i64 (.ofNat 0)), .x 17), (.fit (.x 15), .b true), (.bin .lss (.x 16) (.i .i64 (.ofNat 0)), .b false), (.fit (.x 18), .b true), (.call 20 [.x 18], .x 20), (.bin .add (.s 0 0) (.x 15), .x 21), (.rl (.x 2000003) 4, .x 24), (.rl (.x 2000004) 4, .x 25), (.bin .neq (.x 24) (.x 25), .b false), (.len (.x 18), .x 26), (.len (.x 22), .x 27), (.bin .neq (.x 26) (.x 27), .b false), (.bin .add (.x 1) (.i .i64 (.ofNat 1)), .x 28)]
def lh15 : LH := ⟨1, 40, 100, [(2, .b ⟨53, .l [.x 0, .sy 11, .i .i64 (.ofNat 0), .b false], 0, 0, 0, false, false⟩)], [(2, .b ⟨53, .l [.x 19, .und, .und, .b false], 0, 0, 0, false, false⟩), (40, .r 2000003 26 4 false)]⟩
def lf15 : LF := ⟨2, 38, [(0, .p 2 0), (1, .x 15), (7, .nils)], [], .ret, [(4, .sr 40), (5, .x 18), (6, .ni)], some lh15⟩
def lh16 : LH := ⟨1, 200, 260, [(3, .b ⟨46, .l [.x 2, .x 21, .b false], 0, 0, 0, false, false⟩)], [(3, .b ⟨46, .l [.x 23, .x 22, .b false], 0, 0, 0, false, false⟩), (200, .r 2000004 26 4 false)]⟩
def lf16 : LF := ⟨5, 87, [(0, .p 3 0), (6, .nils)], [], .ret, [(4, .sr 200), (5, .i .i64 (.ofNat 0))], some lh16⟩
def lh17 : LH := ⟨1, 300, 302, [(40, .r 2000003 26 4 false), (200, .r 2000004 26 4 false)], []⟩
def lf17 : LF := ⟨4, 26, [(0, .sr 40), (1, .sr 200), (5, .i .i64 (.ofNat 0))], [], (.exit 0), [], some lh17⟩
noncomputable def tbTl_p1 : Tab := addLps (addLps (addLps ((tbl hyTl_p1)) 19 fi19 [lf15]) 15 fi15 [lf16]) 13 fi13 [lf17]
def LTl_p1 : List LF := []
theorem runTl_p1 : okRdH (code tbTl_p1 6000 LTl_p1 bodyTl (envOf (headOf epTl_0 keepTl) 81) ⟨lhSet hpTl_0 .leaf, 11, 0, 0⟩) .normal keepTl 81 460 [(0, .x 19), (1, .x 28), (2, .x 20), (3, .x 18), (4, .x 22), (5, .x 23), (2000000, .x 2000000)] [(10, 100)] 10 11 epTl_1 hpTl_1 = true := by kernel_rfl
theorem nxTl_p1 (most : Int) (ll : List LB) (i : Int) (R : LB) (nd : Int) (X : Nat → Value) (hI : InvTl most ll (0, i, R, nd)) (h0 : i < (ll.length : Int)) (h1 : ¬ ((nthS ll (Int.toNat i)).length = 0)) (h2 : ¬ (2000 < ((nthS ll (Int.toNat (i))).length : Int))) (h4 : (cutS most (nthS ll (Int.toNat (i)))).2.2 = 11) (h5 : ¬ ((cutS most (nthS ll (Int.toNat (i)))).1.length = 0)) : RHTl most ll E' x' e' h' (0, i, R, nd) X := by
  obtain ⟨i0, i1, i2, i3, i4, i5, i6, i7, it⟩ := unITl most ll 0 i R nd hI
  have hn0 : ([] : LB).length = 0 := rfl
  have hli : (nthS ll (Int.toNat i)).length ≤ 140737488351232 := nthS_at (P := fun q => q.length ≤ 140737488351232) i4 (by omega)
  have := bt_lo (nthS ll (Int.toNat (i))) 0; have := bt_hi (nthS ll (Int.toNat (i))) 0
  have hck := cut_kind (m := most) (nthS ll (Int.toNat (i)))
  have hcl := cut_len (m := most) (nthS ll (Int.toNat (i)))
  have hnd := ndT (m := most) (W := (nthS ll (Int.toNat (i)))) (by assumption)
  have ho : ∀ a' r', (a', r') ∈ hyTl_p1 → HOk (cx (nuX (nuTl_0 most ll i R nd) (rX (roTl_0 most ll i R nd) X)) (nuX_one (nuL_one (l := nuTl_0 most ll i R nd) rfl)) 1 laidE laidE_stab) a' r' := by
    unfold hyTl_p1
    exact hc (kRn (denX rfl)) <|
     hc (kBytesB (bs := ([] : LB)) .nil (denX rfl)) <|
     hc (kRl (isX rfl) (denX rfl) (by first | omega | (simp <;> omega))) <|
     hc (ltT rfl rfl (by omega)) <|
     hc (kElN (j := (Int.toNat (i))) (isX rfl) (isX rfl) (denX rfl) (by omega) (by omega)) <|
     hc (lnV rfl rfl (by omega)) <|
     hc (gtcF rfl (by omega)) <|
     hc (kByt (i := 0) (isX rfl) (isZ (m := 0) rfl) (denX rfl) rfl (by first | omega | (simp <;> omega)) rfl) <|
     hc (kFit (isX rfl) (by first | omega | (simp <;> omega))) <|
     hc (ltcF rfl (by omega)) <|
     hc (kFit (isX rfl) (by first | omega | (simp <;> omega))) <|
     hc (hokNds (isX rfl) (denX rfl) (by omega)) <|
     hc (kCat (isSx (l := ([] : LB)) 0 0 rfl) (isX rfl) (denX rfl) (by first | rfl | (simp; done)) (by omega)) <|
     hc (kRlG reC_len (isX rfl) (denX rfl) (by first | omega | (simp <;> omega))) <|
     hc (kRlG reC_len (isX rfl) (denX rfl) (by first | omega | (simp <;> omega))) <|
     hc (kNeI (isX rfl) (isX rfl) (neF (by omega))) <|
     hc (lnV rfl rfl (by omega)) <|
     hc (lnV rfl rfl (by omega)) <|
     hc (kNeI (isX rfl) (isX rfl) (neF (by omega))) <|
     hc (adC rfl rfl (by omega)) <|
     hnil
  exact sLTl_0 most ll i R nd (tb := tbTl_p1) (L := LTl_p1) (1, (i + 1), (cutS most (nthS ll (Int.toNat (i)))).2.1, (ndS ((cutS most (nthS ll (Int.toNat (i)))).2.1))) (AllOk.lp1 (AllOk.lp1 (AllOk.lp1 ((tabkOk _ _).hyps ho) (by omega) fi19_at fi19_body (lfCons (lpKnown rfl ⟨0, keyCu, lfOkCu_1 (l := lf15) (h := lh15) ((cutS most (nthS ll (Int.toNat (i)))).1) ((cutS most (nthS ll (Int.toNat (i)))).2.1) ((cutS most (nthS ll (Int.toNat (i)))).2.2) most (by omega) (by omega) (0, (nthS ll (Int.toNat (i))), []) (mkICu ((cutS most (nthS ll (Int.toNat (i)))).1) ((cutS most (nthS ll (Int.toNat (i)))).2.1) ((cutS most (nthS ll (Int.toNat (i)))).2.2) most 0 (nthS ll (Int.toNat (i))) [] ⟨by omega, rfl, rfl, rfl, by simp only [List.length_nil]; omega, fun _ => rfl, fun h => by omega, by omega⟩) rfl (by kernel_rfl) (th0 := [(0, .x 15), (1, .x 0)]) (sg0 := []) (fun X => thXv (v := St' (nthS ll (Int.toNat (i)))) rfl rfl (thXv (v := .int .i64 (most)) rfl rfl (thNil))) (by kernel_rfl) (thx := [(18, .x 0), (19, .x 1), (2000003, .x 2000000)]) (thXv (v := St' ((cutS most (nthS ll (Int.toNat (i)))).2.1)) rfl rfl (thXv (v := .int .i64 (most)) rfl rfl (thXv (v := rwG reC ((cutS most (nthS ll (Int.toNat (i)))).1)) rfl rfl (thNil)))) (by kernel_rfl)⟩) lfNil)) (by omega) (get_lps2 (by omega) (by omega) fi15_at) fi15_body (lfCons (lpKnown rfl ⟨0, keyRl, lfOkRl_1 (l := lf16) (h := lh16) ((cutS most (nthS ll (Int.toNat (i)))).1) ((cutS most (nthS ll (Int.toNat (i)))).2.1) ((cutS most (nthS ll (Int.toNat (i)))).2.2) most (by omega) (by omega) (0, (nthS ll (Int.toNat (i))), []) (mkIRl ((cutS most (nthS ll (Int.toNat (i)))).1) ((cutS most (nthS ll (Int.toNat (i)))).2.1) ((cutS most (nthS ll (Int.toNat (i)))).2.2) most 0 (nthS ll (Int.toNat (i))) [] ⟨by first | omega | (simp only [List.length_append]; omega), rfl, rfl, rfl, by simp only [List.length_nil, List.length_append]; omega, fun _ => rfl, fun h => by omega, by omega⟩) rfl (by kernel_rfl) (th0 := [(0, .x 21), (1, .x 2)]) (sg0 := []) (fun X => thXv (v := St' (nthS ll (Int.toNat (i)))) rfl rfl (thXv (v := .int .i64 (most)) rfl rfl (thNil))) (by kernel_rfl) (thx := [(22, .x 0), (23, .x 1), (2000004, .x 2000000)]) (thXv (v := St' ((cutS most (nthS ll (Int.toNat (i)))).2.1)) rfl rfl (thXv (v := .int .i64 (most)) rfl rfl (thXv (v := rwG reC ((cutS most (nthS ll (Int.toNat (i)))).1)) rfl rfl (thNil)))) (by kernel_rfl)⟩) lfNil)) (by omega) (get_lps2 (by omega) (by omega) (get_lps2 (by omega) (by omega) fi13_at)) fi13_body (lfCons (lpKnown rfl ⟨0, keySa0, lfOkSa0_0 (l := lf17) (h := lh17) ((cutS most (nthS ll (Int.toNat (i)))).1) (0, (0 : Int)) (mkISa0 ((cutS most (nthS ll (Int.toNat (i)))).1) 0 (0 : Int) ⟨by omega, by omega, by omega, cut_re _, by omega⟩) rfl (by kernel_rfl) (th0 := [(0, .i .i64 (.ofNat 0)), (2000000, .x 2000003), (2000001, .x 2000004)]) (sg0 := []) (fun X => thCons (show Is _ (.i .i64 (.ofNat 0)) (.int .i64 ((0 : Int))) from isTo (v := .int .i64 0) (isI _ _) (by first | rfl | (congr 1; omega))) (thXv (v := rwG reC ((cutS most (nthS ll (Int.toNat (i)))).1)) rfl rfl (thXv (v := rwG reC ((cutS most (nthS ll (Int.toNat (i)))).1)) rfl rfl (thNil)))) (by kernel_rfl) (thx := []) (thNil) (by kernel_rfl)⟩) lfNil)) (lpOk_one lfNil) rfl (mkITl most ll 1 (i + 1) ((cutS most (nthS ll (Int.toNat (i)))).2.1) (ndS ((cutS most (nthS ll (Int.toNat (i)))).2.1)) ⟨by omega, by omega, i2, okL_snoc i0 (by omega) i3 (by omega), i4, by omega, fun _ => hnd, fun h => by omega, by omega⟩) (by show ll.length - (i + 1).toNat < ll.length - i.toNat; omega) (thXv (v := .int .i64 (most)) rfl rfl (thXi (b := ((i + 1))) rfl rfl (by omega) (thXv (v := .int .i64 ((ndS ((cutS most (nthS ll (Int.toNat (i)))).2.1)))) rfl rfl (thXv (v := St' ((cutS most (nthS ll (Int.toNat (i)))).2.1)) rfl rfl (thXv (v := St' ((cutS most (nthS ll (Int.toNat (i)))).2.1)) rfl rfl (thXv (v := .int .i64 (most)) rfl rfl (thXv (v := rwS ll) rfl rfl (thNil)))))))) runTl_p1
def hyTl_p2 : LK := [(.rn, .x 2000005), (.bytes [], .x 29), (.rl (.x 2000000) 1, .x 30), (.bin .lss (.x 1) (.x 30), .b true), (.el (.x 2000000) (.x 1) 1 0, .x 31), (.len (.x 31), .x 32), (.bin .gtr (.x 32) (.i .i64 (.ofNat 2000)), .b false), (.byt (.x 31) (.i .i64 (.ofNat 0)), .x 33), (.fit (.x 31), .b true), (.bin .lss (.x 32) (.i .i64 (.ofNat 0)), .b false), (.fit (.x 34), .b true), (.call 20 [.x 34], .x 36), (.bin .add (.s 0 0) (.x 31), .x 37), (.len (.x 34), .x 40), (.len (.x 38), .x 41), (.bin .neq (.x 40) (.x 41), .b false), (.bin .add (.x 1) (.i .i64 (.ofNat 1)), .x 42)]
def lh21 : LH := ⟨1, 40, 100, [(2, .b ⟨53, .l [.x 0, .sy 11, .i .i64 (.ofNat 0), .b false], 0, 0, 0, false, false⟩)], [(2, .b ⟨53, .l [.x 35, .und, .und, .b false], 0, 0, 0, false, false⟩)]⟩
def lf21 : LF := ⟨2, 38, [(0, .p 2 0), (1, .x 31), (7, .nils)], [], .ret, [(4, .nils), (5, .x 34), (6, .ni)], some lh21⟩
def lh22 : LH := ⟨1, 200, 260, [(3, .b ⟨46, .l [.x 2, .x 37, .b false], 0, 0, 0, false, false⟩)], [(3, .b ⟨46, .l [.x 39, .x 38, .b false], 0, 0, 0, false, false⟩)]⟩
def lf22 : LF := ⟨5, 87, [(0, .p 3 0), (6, .nils)], [], .ret, [(4, .nils), (5, .i .i64 (.ofNat 0))], some lh22⟩
noncomputable def tbTl_p2 : Tab := addLps (addLps ((tbl hyTl_p2)) 19 fi19 [lf21]) 15 fi15 [lf22]
def LTl_p2 : List LF := []
theorem runTl_p2 : okRdH (code tbTl_p2 6000 LTl_p2 bodyTl (envOf (headOf epTl_0 keepTl) 81) ⟨lhSet hpTl_0 .leaf, 11, 0, 0⟩) .normal keepTl 81 460 [(0, .x 35), (1, .x 42), (2, .x 36), (3, .x 34), (4, .x 38), (5, .x 39), (2000000, .x 2000000)] [(10, 100)] 10 11 epTl_1 hpTl_1 = true := by kernel_rfl
theorem nxTl_p2 (most : Int) (ll : List LB) (i : Int) (R : LB) (nd : Int) (X : Nat → Value) (hI : InvTl most ll (0, i, R, nd)) (h0 : i < (ll.length : Int)) (h1 : ¬ ((nthS ll (Int.toNat i)).length = 0)) (h2 : ¬ (2000 < ((nthS ll (Int.toNat (i))).length : Int))) (h4 : (cutS most (nthS ll (Int.toNat (i)))).2.2 = 11) (h5 : (cutS most (nthS ll (Int.toNat (i)))).1.length = 0) : RHTl most ll E' x' e' h' (0, i, R, nd) X := by
  obtain ⟨i0, i1, i2, i3, i4, i5, i6, i7, it⟩ := unITl most ll 0 i R nd hI
  have hn0 : ([] : LB).length = 0 := rfl
  have hli : (nthS ll (Int.toNat i)).length ≤ 140737488351232 := nthS_at (P := fun q => q.length ≤ 140737488351232) i4 (by omega)
  have := bt_lo (nthS ll (Int.toNat (i))) 0; have := bt_hi (nthS ll (Int.toNat (i))) 0
  have hck := cut_kind (m := most) (nthS ll (Int.toNat (i)))
  have hcl := cut_len (m := most) (nthS ll (Int.toNat (i)))
  have hnd := ndT (m := most) (W := (nthS ll (Int.toNat (i)))) (by assumption)
  have ho : ∀ a' r', (a', r') ∈ hyTl_p2 → HOk (cx (nuX (nuTl_0 most ll i R nd) (rX (roTl_0 most ll i R nd) X)) (nuX_one (nuL_one (l := nuTl_0 most ll i R nd) rfl)) 1 laidE laidE_stab) a' r' := by
    unfold hyTl_p2
    exact hc (kRn (denX rfl)) <|
     hc (kBytesB (bs := ([] : LB)) .nil (denX rfl)) <|
     hc (kRl (isX rfl) (denX rfl) (by first | omega | (simp <;> omega))) <|
     hc (ltT rfl rfl (by omega)) <|
     hc (kElN (j := (Int.toNat (i))) (isX rfl) (isX rfl) (denX rfl) (by omega) (by omega)) <|
     hc (lnV rfl rfl (by omega)) <|
     hc (gtcF rfl (by omega)) <|
     hc (kByt (i := 0) (isX rfl) (isZ (m := 0) rfl) (denX rfl) rfl (by first | omega | (simp <;> omega)) rfl) <|
     hc (kFit (isX rfl) (by first | omega | (simp <;> omega))) <|
     hc (ltcF rfl (by omega)) <|
     hc (kFit (isX rfl) (by first | omega | (simp <;> omega))) <|
     hc (hokNds (isX rfl) (denX rfl) (by omega)) <|
     hc (kCat (isSx (l := ([] : LB)) 0 0 rfl) (isX rfl) (denX rfl) (by first | rfl | (simp; done)) (by omega)) <|
     hc (lnV rfl rfl (by omega)) <|
     hc (lnV rfl rfl (by omega)) <|
     hc (kNeI (isX rfl) (isX rfl) (neF (by omega))) <|
     hc (adC rfl rfl (by omega)) <|
     hnil
  exact sLTl_0 most ll i R nd (tb := tbTl_p2) (L := LTl_p2) (1, (i + 1), (cutS most (nthS ll (Int.toNat (i)))).2.1, (ndS ((cutS most (nthS ll (Int.toNat (i)))).2.1))) (AllOk.lp1 (AllOk.lp1 ((tabkOk _ _).hyps ho) (by omega) fi19_at fi19_body (lfCons (lpKnown rfl ⟨0, keyCu, lfOkCu_0 (l := lf21) (h := lh21) ((cutS most (nthS ll (Int.toNat (i)))).1) ((cutS most (nthS ll (Int.toNat (i)))).2.1) ((cutS most (nthS ll (Int.toNat (i)))).2.2) most (by omega) (by omega) (0, (nthS ll (Int.toNat (i))), []) (mkICu ((cutS most (nthS ll (Int.toNat (i)))).1) ((cutS most (nthS ll (Int.toNat (i)))).2.1) ((cutS most (nthS ll (Int.toNat (i)))).2.2) most 0 (nthS ll (Int.toNat (i))) [] ⟨by omega, rfl, rfl, rfl, by simp only [List.length_nil]; omega, fun _ => rfl, fun h => by omega, by omega⟩) rfl (by kernel_rfl) (th0 := [(0, .x 31), (1, .x 0)]) (sg0 := []) (fun X => thXv (v := St' (nthS ll (Int.toNat (i)))) rfl rfl (thXv (v := .int .i64 (most)) rfl rfl (thNil))) (by kernel_rfl) (thx := [(34, .x 0), (35, .x 1)]) (thXv (v := St' ((cutS most (nthS ll (Int.toNat (i)))).2.1)) rfl rfl (thXv (v := .int .i64 (most)) rfl rfl (thNil))) (by kernel_rfl)⟩) lfNil)) (by omega) (get_lps2 (by omega) (by omega) fi15_at) fi15_body (lfCons (lpKnown rfl ⟨0, keyRl, lfOkRl_0 (l := lf22) (h := lh22) ((cutS most (nthS ll (Int.toNat (i)))).1) ((cutS most (nthS ll (Int.toNat (i)))).2.1) ((cutS most (nthS ll (Int.toNat (i)))).2.2) most (by omega) (by omega) (0, (nthS ll (Int.toNat (i))), []) (mkIRl ((cutS most (nthS ll (Int.toNat (i)))).1) ((cutS most (nthS ll (Int.toNat (i)))).2.1) ((cutS most (nthS ll (Int.toNat (i)))).2.2) most 0 (nthS ll (Int.toNat (i))) [] ⟨by first | omega | (simp only [List.length_append]; omega), rfl, rfl, rfl, by simp only [List.length_nil, List.length_append]; omega, fun _ => rfl, fun h => by omega, by omega⟩) rfl (by kernel_rfl) (th0 := [(0, .x 37), (1, .x 2)]) (sg0 := []) (fun X => thXv (v := St' (nthS ll (Int.toNat (i)))) rfl rfl (thXv (v := .int .i64 (most)) rfl rfl (thNil))) (by kernel_rfl) (thx := [(38, .x 0), (39, .x 1)]) (thXv (v := St' ((cutS most (nthS ll (Int.toNat (i)))).2.1)) rfl rfl (thXv (v := .int .i64 (most)) rfl rfl (thNil))) (by kernel_rfl)⟩) lfNil)) (lpOk_one lfNil) rfl (mkITl most ll 1 (i + 1) ((cutS most (nthS ll (Int.toNat (i)))).2.1) (ndS ((cutS most (nthS ll (Int.toNat (i)))).2.1)) ⟨by omega, by omega, i2, okL_snoc i0 (by omega) i3 (by omega), i4, by omega, fun _ => hnd, fun h => by omega, by omega⟩) (by show ll.length - (i + 1).toNat < ll.length - i.toNat; omega) (thXv (v := .int .i64 (most)) rfl rfl (thXi (b := ((i + 1))) rfl rfl (by omega) (thXv (v := .int .i64 ((ndS ((cutS most (nthS ll (Int.toNat (i)))).2.1)))) rfl rfl (thXv (v := St' ((cutS most (nthS ll (Int.toNat (i)))).2.1)) rfl rfl (thXv (v := St' ((cutS most (nthS ll (Int.toNat (i)))).2.1)) rfl rfl (thXv (v := .int .i64 (most)) rfl rfl (thXv (v := rwS ll) rfl rfl (thNil)))))))) runTl_p2
def hyTl_p3 : LK := [(.rn, .x 2000006), (.bytes [], .x 43), (.rl (.x 2000000) 1, .x 44), (.bin .lss (.x 1) (.x 44), .b true), (.el (.x 2000000) (.x 1) 1 0, .x 45), (.len (.x 45), .x 46), (.bin .gtr (.x 46) (.i .i64 (.ofNat 2000)), .b false), (.byt (.x 45) (.i .i64 (.ofNat 0)), .x 47), (.fit (.x 45), .b true), (.bin .lss (.x 46) (.i .i64 (.ofNat 0)), .b false), (.bin .add (.s 0 0) (.x 45), .x 51), (.bin .neq (.x 54) (.x 53), .b false), (.bin .add (.x 1) (.i .i64 (.ofNat 1)), .x 55)]
def lh23 : LH := ⟨1, 40, 100, [(2, .b ⟨53, .l [.x 0, .sy 11, .i .i64 (.ofNat 0), .b false], 0, 0, 0, false, false⟩)], [(2, .b ⟨53, .l [.x 49, .und, .und, .b false], 0, 0, 0, false, false⟩)]⟩
def lf23 : LF := ⟨2, 38, [(0, .p 2 0), (1, .x 45), (7, .nils)], [], .ret, [(4, .nils), (5, .x 48), (6, .ifc 68 (.ag [.x 50, .s 35 883751524516594027940889836758751821087985845510287451484159566615753519918736505186]))], some lh23⟩
def lh24 : LH := ⟨1, 200, 260, [(3, .b ⟨46, .l [.x 2, .x 51, .b false], 0, 0, 0, false, false⟩)], [(3, .b ⟨46, .l [.x 52, .s 0 0, .b true], 0, 0, 0, false, false⟩)]⟩
def lf24 : LF := ⟨5, 87, [(0, .p 3 0), (6, .nils)], [], .ret, [(4, .nils), (5, .x 53)], some lh24⟩
def lh25 : LH := ⟨1, 400, 410, [(260, .b ⟨29, .l [.i .i64 (.ofNat 0)], 0, 0, 0, false, false⟩)], [(260, .b ⟨29, .l [.x 54], 0, 0, 0, false, false⟩)]⟩
def lf25 : LF := ⟨8888888, 0, [(0, .ifc 68 (.ag [.x 50, .s 35 883751524516594027940889836758751821087985845510287451484159566615753519918736505186])), (1, .ifc 66 (.p 260 0))], [], .normal, [(0, .b true)], some lh25⟩
noncomputable def tbTl_p3 : Tab := addLps (addLps (addLps ((tbl hyTl_p3)) 19 fi19 [lf23]) 15 fi15 [lf24]) 25 fi25 [lf25]
def LTl_p3 : List LF := []
theorem runTl_p3 : okRdH (code tbTl_p3 6000 LTl_p3 bodyTl (envOf (headOf epTl_0 keepTl) 81) ⟨lhSet hpTl_0 .leaf, 11, 0, 0⟩) .normal keepTl 81 460 [(0, .x 49), (1, .x 55), (2, .x 52), (2000000, .x 2000000)] [] 10 11 epTl_2 hpTl_2 = true := by kernel_rfl
theorem nxTl_p3 (most : Int) (ll : List LB) (i : Int) (R : LB) (nd : Int) (X : Nat → Value) (hI : InvTl most ll (0, i, R, nd)) (h0 : i < (ll.length : Int)) (h1 : ¬ ((nthS ll (Int.toNat i)).length = 0)) (h2 : ¬ (2000 < ((nthS ll (Int.toNat (i))).length : Int))) (h4 : ¬ ((cutS most (nthS ll (Int.toNat (i)))).2.2 = 11)) (h5 : (cutS most (nthS ll (Int.toNat (i)))).1.length = 0) : RHTl most ll E' x' e' h' (0, i, R, nd) X := by
  obtain ⟨i0, i1, i2, i3, i4, i5, i6, i7, it⟩ := unITl most ll 0 i R nd hI
  have hn0 : ([] : LB).length = 0 := rfl
  have hli : (nthS ll (Int.toNat i)).length ≤ 140737488351232 := nthS_at (P := fun q => q.length ≤ 140737488351232) i4 (by omega)
  have := bt_lo (nthS ll (Int.toNat (i))) 0; have := bt_hi (nthS ll (Int.toNat (i))) 0
  have hck := cut_kind (m := most) (nthS ll (Int.toNat (i)))
  have hcl := cut_len (m := most) (nthS ll (Int.toNat (i)))
  have ho : ∀ a' r', (a', r') ∈ hyTl_p3 → HOk (cx (nuX (nuTl_0 most ll i R nd) (rX (roTl_0 most ll i R nd) X)) (nuX_one (nuL_one (l := nuTl_0 most ll i R nd) rfl)) 1 laidE laidE_stab) a' r' := by
    unfold hyTl_p3
    exact hc (kRn (denX rfl)) <|
     hc (kBytesB (bs := ([] : LB)) .nil (denX rfl)) <|
     hc (kRl (isX rfl) (denX rfl) (by first | omega | (simp <;> omega))) <|
     hc (ltT rfl rfl (by omega)) <|
     hc (kElN (j := (Int.toNat (i))) (isX rfl) (isX rfl) (denX rfl) (by omega) (by omega)) <|
     hc (lnV rfl rfl (by omega)) <|
     hc (gtcF rfl (by omega)) <|
     hc (kByt (i := 0) (isX rfl) (isZ (m := 0) rfl) (denX rfl) rfl (by first | omega | (simp <;> omega)) rfl) <|
     hc (kFit (isX rfl) (by first | omega | (simp <;> omega))) <|
     hc (ltcF rfl (by omega)) <|
     hc (kCat (isSx (l := ([] : LB)) 0 0 rfl) (isX rfl) (denX rfl) (by first | rfl | (simp; done)) (by omega)) <|
     hc (kNeI (isX rfl) (isX rfl) (neF (by omega))) <|
     hc (adC rfl rfl (by omega)) <|
     hnil
  exact sLTl_0 most ll i R nd (tb := tbTl_p3) (L := LTl_p3) (2, (i + 1), [], 0) (AllOk.lp2 (AllOk.lp1 (AllOk.lp1 ((tabkOk _ _).hyps ho) (by omega) fi19_at fi19_body (lfCons (lpKnown rfl ⟨0, keyCu, lfOkCu_2 (l := lf23) (h := lh23) ((cutS most (nthS ll (Int.toNat (i)))).1) ((cutS most (nthS ll (Int.toNat (i)))).2.1) ((cutS most (nthS ll (Int.toNat (i)))).2.2) most (by omega) (by omega) (0, (nthS ll (Int.toNat (i))), []) (mkICu ((cutS most (nthS ll (Int.toNat (i)))).1) ((cutS most (nthS ll (Int.toNat (i)))).2.1) ((cutS most (nthS ll (Int.toNat (i)))).2.2) most 0 (nthS ll (Int.toNat (i))) [] ⟨by omega, rfl, rfl, rfl, by simp only [List.length_nil]; omega, fun _ => rfl, fun h => by omega, by omega⟩) rfl (by kernel_rfl) (th0 := [(0, .x 45), (1, .x 0)]) (sg0 := []) (fun X => thXv (v := St' (nthS ll (Int.toNat (i)))) rfl rfl (thXv (v := .int .i64 (most)) rfl rfl (thNil))) (by kernel_rfl) (thx := [(48, .x 0), (49, .x 1), (50, .x 2)]) (thXv (v := St' ((cutS most (nthS ll (Int.toNat (i)))).2.1)) rfl rfl (thXv (v := .int .i64 (most)) rfl rfl (thXe (v := .int .i64 (((cutS most (nthS ll (Int.toNat (i)))).2.2))) (u := .int .i64 ((cutS most (nthS ll (Int.toNat (i)))).2.2)) rfl rfl (by first | rfl | (congr 1; omega)) (thNil)))) (by kernel_rfl)⟩) lfNil)) (by omega) (get_lps2 (by omega) (by omega) fi15_at) fi15_body (lfCons (lpKnown rfl ⟨0, keyRl, lfOkRl_2 (l := lf24) (h := lh24) ((cutS most (nthS ll (Int.toNat (i)))).1) ((cutS most (nthS ll (Int.toNat (i)))).2.1) ((cutS most (nthS ll (Int.toNat (i)))).2.2) most (by omega) (by omega) (0, (nthS ll (Int.toNat (i))), []) (mkIRl ((cutS most (nthS ll (Int.toNat (i)))).1) ((cutS most (nthS ll (Int.toNat (i)))).2.1) ((cutS most (nthS ll (Int.toNat (i)))).2.2) most 0 (nthS ll (Int.toNat (i))) [] ⟨by first | omega | (simp only [List.length_append]; omega), rfl, rfl, rfl, by simp only [List.length_nil, List.length_append]; omega, fun _ => rfl, fun h => by omega, by omega⟩) rfl (by kernel_rfl) (th0 := [(0, .x 51), (1, .x 2)]) (sg0 := []) (fun X => thXv (v := St' (nthS ll (Int.toNat (i)))) rfl rfl (thXv (v := .int .i64 (most)) rfl rfl (thNil))) (by kernel_rfl) (thx := [(52, .x 0), (53, .x 1)]) (thXv (v := .int .i64 (most)) rfl rfl (thXe (v := .int .i64 (((cutS most (nthS ll (Int.toNat (i)))).2.2))) (u := .int .i64 ((cutS most (nthS ll (Int.toNat (i)))).2.2)) rfl rfl (by first | rfl | (congr 1; omega)) (thNil))) (by kernel_rfl)⟩) lfNil)) (by omega) (get_lps2 (by omega) (by omega) (get_lps2 (by omega) (by omega) fi25_at)) fi25_body (lfCons (.inr ⟨⟨rfl, rfl⟩, cfA25, cfAsy0_0 (l := lf25) (h := lh25) (q := (0, .b true)) ((cutS most (nthS ll (Int.toNat (i)))).2.2) rfl rfl (by kernel_rfl) (th0 := [(0, .x 50)]) (sg0 := []) (thXe (v := .int .i64 ((cutS most (nthS ll (Int.toNat (i)))).2.2)) (u := .int .i64 (((cutS most (nthS ll (Int.toNat (i)))).2.2))) rfl rfl (by first | rfl | (congr 1; omega)) (thNil)) (by kernel_rfl) (thx := [(54, .x 0)]) (thXv (v := .int .i64 (((cutS most (nthS ll (Int.toNat (i)))).2.2))) rfl rfl (thNil)) (by kernel_rfl)⟩) lfNil)) (lpOk_one lfNil) rfl (mkITl most ll 2 (i + 1) [] 0 ⟨by omega, by omega, i2, okL_snoc i0 (by omega) i3 (by omega), i4, by simp only [List.length_nil]; omega, fun h => by omega, fun h => by omega, by omega⟩) (by show ll.length - (i + 1).toNat < ll.length - i.toNat; omega) (thXv (v := .int .i64 (most)) rfl rfl (thXi (b := ((i + 1))) rfl rfl (by omega) (thXv (v := .int .i64 (most)) rfl rfl (thXv (v := rwS ll) rfl rfl (thNil))))) runTl_p3
def hyTl_p4 : LK := [(.rn, .x 2000007), (.bytes [], .x 56), (.rl (.x 2000000) 1, .x 57), (.bin .lss (.x 1) (.x 57), .b true), (.el (.x 2000000) (.x 1) 1 0, .x 58), (.len (.x 58), .x 59), (.bin .gtr (.x 59) (.i .i64 (.ofNat 2000)), .b false), (.byt (.x 58) (.i .i64 (.ofNat 0)), .x 60), (.fit (.x 58), .b true), (.bin .lss (.x 59) (.i .i64 (.ofNat 0)), .b false), (.bin .add (.s 0 0) (.x 58), .x 64), (.rl (.x 2000008) 4, .x 67), (.rl (.x 2000009) 4, .x 68), (.bin .neq (.x 67) (.x 68), .b false), (.bin .neq (.x 69) (.x 66), .b false), (.bin .add (.x 1) (.i .i64 (.ofNat 1)), .x 70)]
def lh26 : LH := ⟨1, 40, 100, [(2, .b ⟨53, .l [.x 0, .sy 11, .i .i64 (.ofNat 0), .b false], 0, 0, 0, false, false⟩)], [(2, .b ⟨53, .l [.x 62, .und, .und, .b false], 0, 0, 0, false, false⟩), (40, .r 2000008 26 4 false)]⟩
def lf26 : LF := ⟨2, 38, [(0, .p 2 0), (1, .x 58), (7, .nils)], [], .ret, [(4, .sr 40), (5, .x 61), (6, .ifc 68 (.ag [.x 63, .s 35 883751524516594027940889836758751821087985845510287451484159566615753519918736505186]))], some lh26⟩
def lh27 : LH := ⟨1, 200, 260, [(3, .b ⟨46, .l [.x 2, .x 64, .b false], 0, 0, 0, false, false⟩)], [(3, .b ⟨46, .l [.x 65, .s 0 0, .b true], 0, 0, 0, false, false⟩), (200, .r 2000009 26 4 false)]⟩
def lf27 : LF := ⟨5, 87, [(0, .p 3 0), (6, .nils)], [], .ret, [(4, .sr 200), (5, .x 66)], some lh27⟩
def lh28 : LH := ⟨1, 300, 302, [(40, .r 2000008 26 4 false), (200, .r 2000009 26 4 false)], []⟩
def lf28 : LF := ⟨4, 26, [(0, .sr 40), (1, .sr 200), (5, .i .i64 (.ofNat 0))], [], (.exit 0), [], some lh28⟩
def lh29 : LH := ⟨1, 400, 410, [(302, .b ⟨29, .l [.i .i64 (.ofNat 0)], 0, 0, 0, false, false⟩)], [(302, .b ⟨29, .l [.x 69], 0, 0, 0, false, false⟩)]⟩
def lf29 : LF := ⟨8888888, 0, [(0, .ifc 68 (.ag [.x 63, .s 35 883751524516594027940889836758751821087985845510287451484159566615753519918736505186])), (1, .ifc 66 (.p 302 0))], [], .normal, [(0, .b true)], some lh29⟩
noncomputable def tbTl_p4 : Tab := addLps (addLps (addLps (addLps ((tbl hyTl_p4)) 19 fi19 [lf26]) 15 fi15 [lf27]) 13 fi13 [lf28]) 25 fi25 [lf29]
def LTl_p4 : List LF := []
theorem runTl_p4 : okRdH (code tbTl_p4 6000 LTl_p4 bodyTl (envOf (headOf epTl_0 keepTl) 81) ⟨lhSet hpTl_0 .leaf, 11, 0, 0⟩) .normal keepTl 81 460 [(0, .x 62), (1, .x 70), (2, .x 65), (2000000, .x 2000000)] [] 10 11 epTl_2 hpTl_2 = true := by kernel_rfl
theorem nxTl_p4 (most : Int) (ll : List LB) (i : Int) (R : LB) (nd : Int) (X : Nat → Value) (hI : InvTl most ll (0, i, R, nd)) (h0 : i < (ll.length : Int)) (h1 : ¬ ((nthS ll (Int.toNat i)).length = 0)) (h2 : ¬ (2000 < ((nthS ll (Int.toNat (i))).length : Int))) (h4 : ¬ ((cutS most (nthS ll (Int.toNat (i)))).2.2 = 11)) (h5 : ¬ ((cutS most (nthS ll (Int.toNat (i)))).1.length = 0)) : RHTl most ll E' x' e' h' (0, i, R, nd) X := by
  obtain ⟨i0, i1, i2, i3, i4, i5, i6, i7, it⟩ := unITl most ll 0 i R nd hI
  have hn0 : ([] : LB).length = 0 := rfl
  have hli : (nthS ll (Int.toNat i)).length ≤ 140737488351232 := nthS_at (P := fun q => q.length ≤ 140737488351232) i4 (by omega)
  have := bt_lo (nthS ll (Int.toNat (i))) 0; have := bt_hi (nthS ll (Int.toNat (i))) 0
  have hck := cut_kind (m := most) (nthS ll (Int.toNat (i)))
  have hcl := cut_len (m := most) (nthS ll (Int.toNat (i)))
  have ho : ∀ a' r', (a', r') ∈ hyTl_p4 → HOk (cx (nuX (nuTl_0 most ll i R nd) (rX (roTl_0 most ll i R nd) X)) (nuX_one (nuL_one (l := nuTl_0 most ll i R nd) rfl)) 1 laidE laidE_stab) a' r' := by
    unfold hyTl_p4
    exact hc (kRn (denX rfl)) <|
     hc (kBytesB (bs := ([] : LB)) .nil (denX rfl)) <|
     hc (kRl (isX rfl) (denX rfl) (by first | omega | (simp <;> omega))) <|
     hc (ltT rfl rfl (by omega)) <|
     hc (kElN (j := (Int.toNat (i))) (isX rfl) (isX rfl) (denX rfl) (by omega) (by omega)) <|
     hc (lnV rfl rfl (by omega)) <|
     hc (gtcF rfl (by omega)) <|
     hc (kByt (i := 0) (isX rfl) (isZ (m := 0) rfl) (denX rfl) rfl (by first | omega | (simp <;> omega)) rfl) <|
     hc (kFit (isX rfl) (by first | omega | (simp <;> omega))) <|
     hc (ltcF rfl (by omega)) <|
     hc (kCat (isSx (l := ([] : LB)) 0 0 rfl) (isX rfl) (denX rfl) (by first | rfl | (simp; done)) (by omega)) <|
     hc (kRlG reC_len (isX rfl) (denX rfl) (by first | omega | (simp <;> omega))) <|
     hc (kRlG reC_len (isX rfl) (denX rfl) (by first | omega | (simp <;> omega))) <|
     hc (kNeI (isX rfl) (isX rfl) (neF (by omega))) <|
     hc (kNeI (isX rfl) (isX rfl) (neF (by omega))) <|
     hc (adC rfl rfl (by omega)) <|
     hnil
  exact sLTl_0 most ll i R nd (tb := tbTl_p4) (L := LTl_p4) (2, (i + 1), [], 0) (AllOk.lp2 (AllOk.lp1 (AllOk.lp1 (AllOk.lp1 ((tabkOk _ _).hyps ho) (by omega) fi19_at fi19_body (lfCons (lpKnown rfl ⟨0, keyCu, lfOkCu_3 (l := lf26) (h := lh26) ((cutS most (nthS ll (Int.toNat (i)))).1) ((cutS most (nthS ll (Int.toNat (i)))).2.1) ((cutS most (nthS ll (Int.toNat (i)))).2.2) most (by omega) (by omega) (0, (nthS ll (Int.toNat (i))), []) (mkICu ((cutS most (nthS ll (Int.toNat (i)))).1) ((cutS most (nthS ll (Int.toNat (i)))).2.1) ((cutS most (nthS ll (Int.toNat (i)))).2.2) most 0 (nthS ll (Int.toNat (i))) [] ⟨by omega, rfl, rfl, rfl, by simp only [List.length_nil]; omega, fun _ => rfl, fun h => by omega, by omega⟩) rfl (by kernel_rfl) (th0 := [(0, .x 58), (1, .x 0)]) (sg0 := []) (fun X => thXv (v := St' (nthS ll (Int.toNat (i)))) rfl rfl (thXv (v := .int .i64 (most)) rfl rfl (thNil))) (by kernel_rfl) (thx := [(61, .x 0), (62, .x 1), (63, .x 2), (2000008, .x 2000000)]) (thXv (v := St' ((cutS most (nthS ll (Int.toNat (i)))).2.1)) rfl rfl (thXv (v := .int .i64 (most)) rfl rfl (thXe (v := .int .i64 (((cutS most (nthS ll (Int.toNat (i)))).2.2))) (u := .int .i64 ((cutS most (nthS ll (Int.toNat (i)))).2.2)) rfl rfl (by first | rfl | (congr 1; omega)) (thXv (v := rwG reC ((cutS most (nthS ll (Int.toNat (i)))).1)) rfl rfl (thNil))))) (by kernel_rfl)⟩) lfNil)) (by omega) (get_lps2 (by omega) (by omega) fi15_at) fi15_body (lfCons (lpKnown rfl ⟨0, keyRl, lfOkRl_3 (l := lf27) (h := lh27) ((cutS most (nthS ll (Int.toNat (i)))).1) ((cutS most (nthS ll (Int.toNat (i)))).2.1) ((cutS most (nthS ll (Int.toNat (i)))).2.2) most (by omega) (by omega) (0, (nthS ll (Int.toNat (i))), []) (mkIRl ((cutS most (nthS ll (Int.toNat (i)))).1) ((cutS most (nthS ll (Int.toNat (i)))).2.1) ((cutS most (nthS ll (Int.toNat (i)))).2.2) most 0 (nthS ll (Int.toNat (i))) [] ⟨by first | omega | (simp only [List.length_append]; omega), rfl, rfl, rfl, by simp only [List.length_nil, List.length_append]; omega, fun _ => rfl, fun h => by omega, by omega⟩) rfl (by kernel_rfl) (th0 := [(0, .x 64), (1, .x 2)]) (sg0 := []) (fun X => thXv (v := St' (nthS ll (Int.toNat (i)))) rfl rfl (thXv (v := .int .i64 (most)) rfl rfl (thNil))) (by kernel_rfl) (thx := [(65, .x 0), (66, .x 1), (2000009, .x 2000000)]) (thXv (v := .int .i64 (most)) rfl rfl (thXe (v := .int .i64 (((cutS most (nthS ll (Int.toNat (i)))).2.2))) (u := .int .i64 ((cutS most (nthS ll (Int.toNat (i)))).2.2)) rfl rfl (by first | rfl | (congr 1; omega)) (thXv (v := rwG reC ((cutS most (nthS ll (Int.toNat (i)))).1)) rfl rfl (thNil)))) (by kernel_rfl)⟩) lfNil)) (by omega) (get_lps2 (by omega) (by omega) (get_lps2 (by omega) (by omega) fi13_at)) fi13_body (lfCons (lpKnown rfl ⟨0, keySa0, lfOkSa0_0 (l := lf28) (h := lh28) ((cutS most (nthS ll (Int.toNat (i)))).1) (0, (0 : Int)) (mkISa0 ((cutS most (nthS ll (Int.toNat (i)))).1) 0 (0 : Int) ⟨by omega, by omega, by omega, cut_re _, by omega⟩) rfl (by kernel_rfl) (th0 := [(0, .i .i64 (.ofNat 0)), (2000000, .x 2000008), (2000001, .x 2000009)]) (sg0 := []) (fun X => thCons (show Is _ (.i .i64 (.ofNat 0)) (.int .i64 ((0 : Int))) from isTo (v := .int .i64 0) (isI _ _) (by first | rfl | (congr 1; omega))) (thXv (v := rwG reC ((cutS most (nthS ll (Int.toNat (i)))).1)) rfl rfl (thXv (v := rwG reC ((cutS most (nthS ll (Int.toNat (i)))).1)) rfl rfl (thNil)))) (by kernel_rfl) (thx := []) (thNil) (by kernel_rfl)⟩) lfNil)) (by omega) (get_lps2 (by omega) (by omega) (get_lps2 (by omega) (by omega) (get_lps2 (by omega) (by omega) fi25_at))) fi25_body (lfCons (.inr ⟨⟨rfl, rfl⟩, cfA25, cfAsy1_0 (l := lf29) (h := lh29) (q := (0, .b true)) ((cutS most (nthS ll (Int.toNat (i)))).2.2) rfl rfl (by kernel_rfl) (th0 := [(0, .x 63)]) (sg0 := []) (thXe (v := .int .i64 ((cutS most (nthS ll (Int.toNat (i)))).2.2)) (u := .int .i64 (((cutS most (nthS ll (Int.toNat (i)))).2.2))) rfl rfl (by first | rfl | (congr 1; omega)) (thNil)) (by kernel_rfl) (thx := [(69, .x 0)]) (thXv (v := .int .i64 (((cutS most (nthS ll (Int.toNat (i)))).2.2))) rfl rfl (thNil)) (by kernel_rfl)⟩) lfNil)) (lpOk_one lfNil) rfl (mkITl most ll 2 (i + 1) [] 0 ⟨by omega, by omega, i2, okL_snoc i0 (by omega) i3 (by omega), i4, by simp only [List.length_nil]; omega, fun h => by omega, fun h => by omega, by omega⟩) (by show ll.length - (i + 1).toNat < ll.length - i.toNat; omega) (thXv (v := .int .i64 (most)) rfl rfl (thXi (b := ((i + 1))) rfl rfl (by omega) (thXv (v := .int .i64 (most)) rfl rfl (thXv (v := rwS ll) rfl rfl (thNil))))) runTl_p4
def hyTl_p5 : LK := [(.rn, .x 2000010), (.bytes [], .x 71), (.rl (.x 2000000) 1, .x 72), (.bin .lss (.x 1) (.x 72), .b true), (.el (.x 2000000) (.x 1) 1 0, .x 73), (.len (.x 73), .x 74), (.bin .gtr (.x 74) (.i .i64 (.ofNat 2000)), .b true)]
theorem runTl_p5 : RNTl_0 hyTl_p5 .ret [] [] 460 [(4, .b true)] [] = true := by kernel_rfl
def hyTl_p6 : LK := [(.rn, .x 2000001), (.bytes [], .x 6), (.rl (.x 2000000) 1, .x 7), (.bin .lss (.x 1) (.x 7), .b true), (.el (.x 2000000) (.x 1) 1 0, .x 8), (.len (.x 8), .x 9), (.bin .gtr (.x 9) (.i .i64 (.ofNat 2000)), .b false), (.bin .add (.x 3) (.x 8), .x 10), (.fit (.x 10), .b true), (.len (.x 10), .x 11), (.bin .lss (.x 11) (.x 2), .b true), (.bin .add (.x 4) (.x 8), .x 12), (.len (.x 13), .x 15), (.bin .neq (.x 11) (.x 15), .b false), (.bin .add (.x 1) (.i .i64 (.ofNat 1)), .x 16)]
def lh37 : LH := ⟨1, 200, 260, [(3, .b ⟨46, .l [.x 5, .x 12, .b false], 0, 0, 0, false, false⟩)], [(3, .b ⟨46, .l [.x 14, .x 13, .b false], 0, 0, 0, false, false⟩)]⟩
def lf37 : LF := ⟨5, 87, [(0, .p 3 0), (6, .nils)], [], .ret, [(4, .nils), (5, .i .i64 (.ofNat 0))], some lh37⟩
noncomputable def tbTl_p6 : Tab := addLps ((tbl hyTl_p6)) 15 fi15 [lf37]
def LTl_p6 : List LF := []
theorem runTl_p6 : okRdH (code tbTl_p6 6000 LTl_p6 bodyTl (envOf (headOf epTl_1 keepTl) 81) ⟨lhSet hpTl_1 .leaf, 11, 0, 0⟩) .normal keepTl 81 460 [(0, .x 0), (1, .x 16), (2, .x 2), (3, .x 10), (4, .x 13), (5, .x 14), (2000000, .x 2000000)] [(10, 11)] 10 11 epTl_1 hpTl_1 = true := by kernel_rfl
theorem nxTl_p6 (most : Int) (ll : List LB) (i : Int) (R : LB) (nd : Int) (X : Nat → Value) (hI : InvTl most ll (1, i, R, nd)) (h0 : i < (ll.length : Int)) (h1 : ¬ (2000 < ((nthS ll (Int.toNat (i))).length : Int))) (h2 : ((nthS ll (Int.toNat (i))).length : Int) + (R.length : Int) < nd) : RHTl most ll E' x' e' h' (1, i, R, nd) X := by
  obtain ⟨i0, i1, i2, i3, i4, i5, i6, i7, it⟩ := unITl most ll 1 i R nd hI
  have hn0 : ([] : LB).length = 0 := rfl
  have hli : (nthS ll (Int.toNat i)).length ≤ 140737488351232 := nthS_at (P := fun q => q.length ≤ 140737488351232) i4 (by omega)
  have hrl : (R ++ nthS ll (Int.toNat i)).length = R.length + (nthS ll (Int.toNat i)).length := List.length_append
  obtain ⟨hx1, hx2, hx3, hnd⟩ := ndX (c := nthS ll (Int.toNat i)) (i6 rfl) (by rw [List.length_append, Int.natCast_add]; omega)
  have hx2l := congrArg List.length hx2
  have hcl := cut_len (m := most) (R ++ (nthS ll (Int.toNat (i))))
  have ho : ∀ a' r', (a', r') ∈ hyTl_p6 → HOk (cx (nuX (nuTl_1 most ll i R nd) (rX (roTl_1 most ll i R nd) X)) (nuX_one (nuL_one (l := nuTl_1 most ll i R nd) rfl)) 1 laidE laidE_stab) a' r' := by
    unfold hyTl_p6
    exact hc (kRn (denX rfl)) <|
     hc (kBytesB (bs := ([] : LB)) .nil (denX rfl)) <|
     hc (kRl (isX rfl) (denX rfl) (by first | omega | (simp <;> omega))) <|
     hc (ltT rfl rfl (by omega)) <|
     hc (kElN (j := (Int.toNat (i))) (isX rfl) (isX rfl) (denX rfl) (by omega) (by omega)) <|
     hc (lnV rfl rfl (by omega)) <|
     hc (gtcF rfl (by omega)) <|
     hc (kCat (isX rfl) (isX rfl) (denX rfl) (by first | rfl | (simp; done)) (by omega)) <|
     hc (kFit (isX rfl) (by first | omega | (simp <;> omega))) <|
     hc (lnV rfl rfl (by first | omega | (simp <;> omega))) <|
     hc (ltT rfl rfl (by omega)) <|
     hc (kCat (isX rfl) (isX rfl) (denX rfl) (by first | rfl | (simp; done)) (by omega)) <|
     hc (lnV rfl rfl (by omega)) <|
     hc (kNeI (isX rfl) (isX rfl) (neF (by omega))) <|
     hc (adC rfl rfl (by omega)) <|
     hnil
  exact sLTl_1 most ll i R nd (tb := tbTl_p6) (L := LTl_p6) (1, (i + 1), (cutS most (R ++ (nthS ll (Int.toNat (i))))).2.1, nd) (AllOk.lp1 ((tabkOk _ _).hyps ho) (by omega) fi15_at fi15_body (lfCons (lpKnown rfl ⟨0, keyRl, lfOkRl_0 (l := lf37) (h := lh37) ((cutS most (R ++ (nthS ll (Int.toNat (i))))).1) ((cutS most (R ++ (nthS ll (Int.toNat (i))))).2.1) ((cutS most (R ++ (nthS ll (Int.toNat (i))))).2.2) most hx3 hx1 (0, (R ++ (nthS ll (Int.toNat (i)))), []) (mkIRl ((cutS most (R ++ (nthS ll (Int.toNat (i))))).1) ((cutS most (R ++ (nthS ll (Int.toNat (i))))).2.1) ((cutS most (R ++ (nthS ll (Int.toNat (i))))).2.2) most 0 (R ++ (nthS ll (Int.toNat (i)))) [] ⟨by first | omega | (simp only [List.length_append]; omega), rfl, rfl, rfl, by simp only [List.length_nil, List.length_append]; omega, fun _ => rfl, fun h => by omega, by omega⟩) rfl (by kernel_rfl) (th0 := [(0, .x 12), (1, .x 5)]) (sg0 := []) (fun X => thXv (v := St' (R ++ (nthS ll (Int.toNat (i))))) rfl rfl (thXv (v := .int .i64 (most)) rfl rfl (thNil))) (by kernel_rfl) (thx := [(13, .x 0), (14, .x 1)]) (thXv (v := St' ((cutS most (R ++ (nthS ll (Int.toNat (i))))).2.1)) rfl rfl (thXv (v := .int .i64 (most)) rfl rfl (thNil))) (by kernel_rfl)⟩) lfNil)) (lpOk_one lfNil) rfl (mkITl most ll 1 (i + 1) ((cutS most (R ++ (nthS ll (Int.toNat (i))))).2.1) nd ⟨by omega, by omega, i2, okL_snoc i0 (by omega) i3 (by omega), i4, by omega, fun _ => hnd, fun h => by omega, by omega⟩) (by show ll.length - (i + 1).toNat < ll.length - i.toNat; omega) (thXv (v := .int .i64 (most)) rfl rfl (thXi (b := ((i + 1))) rfl rfl (by omega) (thXv (v := .int .i64 (nd)) rfl rfl (thXe (v := St' (R ++ (nthS ll (Int.toNat (i))))) (u := St' ((cutS most (R ++ (nthS ll (Int.toNat (i))))).2.1)) rfl rfl (congrArg (fun l => St' l) hx2.symm) (thXv (v := St' ((cutS most (R ++ (nthS ll (Int.toNat (i))))).2.1)) rfl rfl (thXv (v := .int .i64 (most)) rfl rfl (thXv (v := rwS ll) rfl rfl (thNil)))))))) runTl_p6
def hyTl_p7 : LK := [(.rn, .x 2000002), (.bytes [], .x 17), (.rl (.x 2000000) 1, .x 18), (.bin .lss (.x 1) (.x 18), .b true), (.el (.x 2000000) (.x 1) 1 0, .x 19), (.len (.x 19), .x 20), (.bin .gtr (.x 20) (.i .i64 (.ofNat 2000)), .b false), (.bin .add (.x 3) (.x 19), .x 21), (.fit (.x 21), .b true), (.len (.x 21), .x 22), (.bin .lss (.x 22) (.x 2), .b false), (.fit (.x 23), .b true), (.call 20 [.x 23], .x 25), (.bin .add (.x 4) (.x 19), .x 26), (.rl (.x 2000003) 4, .x 29), (.rl (.x 2000004) 4, .x 30), (.bin .neq (.x 29) (.x 30), .b false), (.len (.x 23), .x 31), (.len (.x 27), .x 32), (.bin .neq (.x 31) (.x 32), .b false), (.bin .add (.x 1) (.i .i64 (.ofNat 1)), .x 33)]
def lh38 : LH := ⟨1, 40, 100, [(2, .b ⟨53, .l [.x 0, .sy 11, .x 2, .b false], 0, 0, 0, false, false⟩)], [(2, .b ⟨53, .l [.x 24, .und, .und, .b false], 0, 0, 0, false, false⟩), (40, .r 2000003 26 4 false)]⟩
def lf38 : LF := ⟨2, 38, [(0, .p 2 0), (1, .x 21), (7, .nils)], [], .ret, [(4, .sr 40), (5, .x 23), (6, .ni)], some lh38⟩
def lh39 : LH := ⟨1, 200, 260, [(3, .b ⟨46, .l [.x 5, .x 26, .b false], 0, 0, 0, false, false⟩)], [(3, .b ⟨46, .l [.x 28, .x 27, .b false], 0, 0, 0, false, false⟩), (200, .r 2000004 26 4 false)]⟩
def lf39 : LF := ⟨5, 87, [(0, .p 3 0), (6, .nils)], [], .ret, [(4, .sr 200), (5, .i .i64 (.ofNat 0))], some lh39⟩
def lh40 : LH := ⟨1, 300, 302, [(40, .r 2000003 26 4 false), (200, .r 2000004 26 4 false)], []⟩
def lf40 : LF := ⟨4, 26, [(0, .sr 40), (1, .sr 200), (5, .i .i64 (.ofNat 0))], [], (.exit 0), [], some lh40⟩
noncomputable def tbTl_p7 : Tab := addLps (addLps (addLps ((tbl hyTl_p7)) 19 fi19 [lf38]) 15 fi15 [lf39]) 13 fi13 [lf40]
def LTl_p7 : List LF := []
theorem runTl_p7 : okRdH (code tbTl_p7 6000 LTl_p7 bodyTl (envOf (headOf epTl_1 keepTl) 81) ⟨lhSet hpTl_1 .leaf, 11, 0, 0⟩) .normal keepTl 81 460 [(0, .x 24), (1, .x 33), (2, .x 25), (3, .x 23), (4, .x 27), (5, .x 28), (2000000, .x 2000000)] [(10, 100)] 10 11 epTl_1 hpTl_1 = true := by kernel_rfl
theorem nxTl_p7 (most : Int) (ll : List LB) (i : Int) (R : LB) (nd : Int) (X : Nat → Value) (hI : InvTl most ll (1, i, R, nd)) (h0 : i < (ll.length : Int)) (h1 : ¬ (2000 < ((nthS ll (Int.toNat (i))).length : Int))) (h2 : ¬ (((nthS ll (Int.toNat (i))).length : Int) + (R.length : Int) < nd)) (h3 : (cutS most (R ++ (nthS ll (Int.toNat (i))))).2.2 = 11) (h4 : ¬ ((cutS most (R ++ (nthS ll (Int.toNat (i))))).1.length = 0)) : RHTl most ll E' x' e' h' (1, i, R, nd) X := by
  obtain ⟨i0, i1, i2, i3, i4, i5, i6, i7, it⟩ := unITl most ll 1 i R nd hI
  have hn0 : ([] : LB).length = 0 := rfl
  have hli : (nthS ll (Int.toNat i)).length ≤ 140737488351232 := nthS_at (P := fun q => q.length ≤ 140737488351232) i4 (by omega)
  have hrl : (R ++ nthS ll (Int.toNat i)).length = R.length + (nthS ll (Int.toNat i)).length := List.length_append
  have hck := cut_kind (m := most) (R ++ (nthS ll (Int.toNat (i))))
  have hcl := cut_len (m := most) (R ++ (nthS ll (Int.toNat (i))))
  have hnd := ndT (m := most) (W := (R ++ (nthS ll (Int.toNat (i))))) (by assumption)
  have ho : ∀ a' r', (a', r') ∈ hyTl_p7 → HOk (cx (nuX (nuTl_1 most ll i R nd) (rX (roTl_1 most ll i R nd) X)) (nuX_one (nuL_one (l := nuTl_1 most ll i R nd) rfl)) 1 laidE laidE_stab) a' r' := by
    unfold hyTl_p7
    exact hc (kRn (denX rfl)) <|
     hc (kBytesB (bs := ([] : LB)) .nil (denX rfl)) <|
     hc (kRl (isX rfl) (denX rfl) (by first | omega | (simp <;> omega))) <|
     hc (ltT rfl rfl (by omega)) <|
     hc (kElN (j := (Int.toNat (i))) (isX rfl) (isX rfl) (denX rfl) (by omega) (by omega)) <|
     hc (lnV rfl rfl (by omega)) <|
     hc (gtcF rfl (by omega)) <|
     hc (kCat (isX rfl) (isX rfl) (denX rfl) (by first | rfl | (simp; done)) (by omega)) <|
     hc (kFit (isX rfl) (by first | omega | (simp <;> omega))) <|
     hc (lnV rfl rfl (by first | omega | (simp <;> omega))) <|
     hc (ltF rfl rfl (by omega)) <|
     hc (kFit (isX rfl) (by first | omega | (simp <;> omega))) <|
     hc (hokNds (isX rfl) (denX rfl) (by omega)) <|
     hc (kCat (isX rfl) (isX rfl) (denX rfl) (by first | rfl | (simp; done)) (by omega)) <|
     hc (kRlG reC_len (isX rfl) (denX rfl) (by first | omega | (simp <;> omega))) <|
     hc (kRlG reC_len (isX rfl) (denX rfl) (by first | omega | (simp <;> omega))) <|
     hc (kNeI (isX rfl) (isX rfl) (neF (by omega))) <|
     hc (lnV rfl rfl (by omega)) <|
     hc (lnV rfl rfl (by omega)) <|
     hc (kNeI (isX rfl) (isX rfl) (neF (by omega))) <|
     hc (adC rfl rfl (by omega)) <|
     hnil
  exact sLTl_1 most ll i R nd (tb := tbTl_p7) (L := LTl_p7) (1, (i + 1), (cutS most (R ++ (nthS ll (Int.toNat (i))))).2.1, (ndS ((cutS most (R ++ (nthS ll (Int.toNat (i))))).2.1))) (AllOk.lp1 (AllOk.lp1 (AllOk.lp1 ((tabkOk _ _).hyps ho) (by omega) fi19_at fi19_body (lfCons (lpKnown rfl ⟨0, keyCu, lfOkCu_1 (l := lf38) (h := lh38) ((cutS most (R ++ (nthS ll (Int.toNat (i))))).1) ((cutS most (R ++ (nthS ll (Int.toNat (i))))).2.1) ((cutS most (R ++ (nthS ll (Int.toNat (i))))).2.2) most (by omega) (by omega) (0, (R ++ (nthS ll (Int.toNat (i)))), []) (mkICu ((cutS most (R ++ (nthS ll (Int.toNat (i))))).1) ((cutS most (R ++ (nthS ll (Int.toNat (i))))).2.1) ((cutS most (R ++ (nthS ll (Int.toNat (i))))).2.2) most 0 (R ++ (nthS ll (Int.toNat (i)))) [] ⟨by omega, rfl, rfl, rfl, by simp only [List.length_nil]; omega, fun _ => rfl, fun h => by omega, by omega⟩) rfl (by kernel_rfl) (th0 := [(0, .x 21), (1, .x 0)]) (sg0 := []) (fun X => thXv (v := St' (R ++ (nthS ll (Int.toNat (i))))) rfl rfl (thXv (v := .int .i64 (most)) rfl rfl (thNil))) (by kernel_rfl) (thx := [(23, .x 0), (24, .x 1), (2000003, .x 2000000)]) (thXv (v := St' ((cutS most (R ++ (nthS ll (Int.toNat (i))))).2.1)) rfl rfl (thXv (v := .int .i64 (most)) rfl rfl (thXv (v := rwG reC ((cutS most (R ++ (nthS ll (Int.toNat (i))))).1)) rfl rfl (thNil)))) (by kernel_rfl)⟩) lfNil)) (by omega) (get_lps2 (by omega) (by omega) fi15_at) fi15_body (lfCons (lpKnown rfl ⟨0, keyRl, lfOkRl_1 (l := lf39) (h := lh39) ((cutS most (R ++ (nthS ll (Int.toNat (i))))).1) ((cutS most (R ++ (nthS ll (Int.toNat (i))))).2.1) ((cutS most (R ++ (nthS ll (Int.toNat (i))))).2.2) most (by omega) (by omega) (0, (R ++ (nthS ll (Int.toNat (i)))), []) (mkIRl ((cutS most (R ++ (nthS ll (Int.toNat (i))))).1) ((cutS most (R ++ (nthS ll (Int.toNat (i))))).2.1) ((cutS most (R ++ (nthS ll (Int.toNat (i))))).2.2) most 0 (R ++ (nthS ll (Int.toNat (i)))) [] ⟨by first | omega | (simp only [List.length_append]; omega), rfl, rfl, rfl, by simp only [List.length_nil, List.length_append]; omega, fun _ => rfl, fun h => by omega, by omega⟩) rfl (by kernel_rfl) (th0 := [(0, .x 26), (1, .x 5)]) (sg0 := []) (fun X => thXv (v := St' (R ++ (nthS ll (Int.toNat (i))))) rfl rfl (thXv (v := .int .i64 (most)) rfl rfl (thNil))) (by kernel_rfl) (thx := [(27, .x 0), (28, .x 1), (2000004, .x 2000000)]) (thXv (v := St' ((cutS most (R ++ (nthS ll (Int.toNat (i))))).2.1)) rfl rfl (thXv (v := .int .i64 (most)) rfl rfl (thXv (v := rwG reC ((cutS most (R ++ (nthS ll (Int.toNat (i))))).1)) rfl rfl (thNil)))) (by kernel_rfl)⟩) lfNil)) (by omega) (get_lps2 (by omega) (by omega) (get_lps2 (by omega) (by omega) fi13_at)) fi13_body (lfCons (lpKnown rfl ⟨0, keySa0, lfOkSa0_0 (l := lf40) (h := lh40) ((cutS most (R ++ (nthS ll (Int.toNat (i))))).1) (0, (0 : Int)) (mkISa0 ((cutS most (R ++ (nthS ll (Int.toNat (i))))).1) 0 (0 : Int) ⟨by omega, by omega, by omega, cut_re _, by omega⟩) rfl (by kernel_rfl) (th0 := [(0, .i .i64 (.ofNat 0)), (2000000, .x 2000003), (2000001, .x 2000004)]) (sg0 := []) (fun X => thCons (show Is _ (.i .i64 (.ofNat 0)) (.int .i64 ((0 : Int))) from isTo (v := .int .i64 0) (isI _ _) (by first | rfl | (congr 1; omega))) (thXv (v := rwG reC ((cutS most (R ++ (nthS ll (Int.toNat (i))))).1)) rfl rfl (thXv (v := rwG reC ((cutS most (R ++ (nthS ll (Int.toNat (i))))).1)) rfl rfl (thNil)))) (by kernel_rfl) (thx := []) (thNil) (by kernel_rfl)⟩) lfNil)) (lpOk_one lfNil) rfl (mkITl most ll 1 (i + 1) ((cutS most (R ++ (nthS ll (Int.toNat (i))))).2.1) (ndS ((cutS most (R ++ (nthS ll (Int.toNat (i))))).2.1)) ⟨by omega, by omega, i2, okL_snoc i0 (by omega) i3 (by omega), i4, by omega, fun _ => hnd, fun h => by omega, by omega⟩) (by show ll.length - (i + 1).toNat < ll.length - i.toNat; omega) (thXv (v := .int .i64 (most)) rfl rfl (thXi (b := ((i + 1))) rfl rfl (by omega) (thXv (v := .int .i64 ((ndS ((cutS most (R ++ (nthS ll (Int.toNat (i))))).2.1)))) rfl rfl (thXv (v := St' ((cutS most (R ++ (nthS ll (Int.toNat (i))))).2.1)) rfl rfl (thXv (v := St' ((cutS most (R ++ (nthS ll (Int.toNat (i))))).2.1)) rfl rfl (thXv (v := .int .i64 (most)) rfl rfl (thXv (v := rwS ll) rfl rfl (thNil)))))))) runTl_p7
def hyTl_p8 : LK := [(.rn, .x 2000005), (.bytes [], .x 34), (.rl (.x 2000000) 1, .x 35), (.bin .lss (.x 1) (.x 35), .b true), (.el (.x 2000000) (.x 1) 1 0, .x 36), (.len (.x 36), .x 37), (.bin .gtr (.x 37) (.i .i64 (.ofNat 2000)), .b false), (.bin .add (.x 3) (.x 36), .x 38), (.fit (.x 38), .b true), (.len (.x 38), .x 39), (.bin .lss (.x 39) (.x 2), .b false), (.fit (.x 40), .b true), (.call 20 [.x 40], .x 42), (.bin .add (.x 4) (.x 36), .x 43), (.len (.x 40), .x 46), (.len (.x 44), .x 47), (.bin .neq (.x 46) (.x 47), .b false), (.bin .add (.x 1) (.i .i64 (.ofNat 1)), .x 48)]
def lh44 : LH := ⟨1, 40, 100, [(2, .b ⟨53, .l [.x 0, .sy 11, .x 2, .b false], 0, 0, 0, false, false⟩)], [(2, .b ⟨53, .l [.x 41, .und, .und, .b false], 0, 0, 0, false, false⟩)]⟩
def lf44 : LF := ⟨2, 38, [(0, .p 2 0), (1, .x 38), (7, .nils)], [], .ret, [(4, .nils), (5, .x 40), (6, .ni)], some lh44⟩
def lh45 : LH := ⟨1, 200, 260, [(3, .b ⟨46, .l [.x 5, .x 43, .b false], 0, 0, 0, false, false⟩)], [(3, .b ⟨46, .l [.x 45, .x 44, .b false], 0, 0, 0, false, false⟩)]⟩
def lf45 : LF := ⟨5, 87, [(0, .p 3 0), (6, .nils)], [], .ret, [(4, .nils), (5, .i .i64 (.ofNat 0))], some lh45⟩
noncomputable def tbTl_p8 : Tab := addLps (addLps ((tbl hyTl_p8)) 19 fi19 [lf44]) 15 fi15 [lf45]
def LTl_p8 : List LF := []
theorem runTl_p8 : okRdH (code tbTl_p8 6000 LTl_p8 bodyTl (envOf (headOf epTl_1 keepTl) 81) ⟨lhSet hpTl_1 .leaf, 11, 0, 0⟩) .normal keepTl 81 460 [(0, .x 41), (1, .x 48), (2, .x 42), (3, .x 40), (4, .x 44), (5, .x 45), (2000000, .x 2000000)] [(10, 100)] 10 11 epTl_1 hpTl_1 = true := by kernel_rfl
theorem nxTl_p8 (most : Int) (ll : List LB) (i : Int) (R : LB) (nd : Int) (X : Nat → Value) (hI : InvTl most ll (1, i, R, nd)) (h0 : i < (ll.length : Int)) (h1 : ¬ (2000 < ((nthS ll (Int.toNat (i))).length : Int))) (h2 : ¬ (((nthS ll (Int.toNat (i))).length : Int) + (R.length : Int) < nd)) (h3 : (cutS most (R ++ (nthS ll (Int.toNat (i))))).2.2 = 11) (h4 : (cutS most (R ++ (nthS ll (Int.toNat (i))))).1.length = 0) : RHTl most ll E' x' e' h' (1, i, R, nd) X := by
  obtain ⟨i0, i1, i2, i3, i4, i5, i6, i7, it⟩ := unITl most ll 1 i R nd hI
  have hn0 : ([] : LB).length = 0 := rfl
  have hli : (nthS ll (Int.toNat i)).length ≤ 140737488351232 := nthS_at (P := fun q => q.length ≤ 140737488351232) i4 (by omega)
  have hrl : (R ++ nthS ll (Int.toNat i)).length = R.length + (nthS ll (Int.toNat i)).length := List.length_append
  have hck := cut_kind (m := most) (R ++ (nthS ll (Int.toNat (i))))
  have hcl := cut_len (m := most) (R ++ (nthS ll (Int.toNat (i))))
  have hnd := ndT (m := most) (W := (R ++ (nthS ll (Int.toNat (i))))) (by assumption)
  have ho : ∀ a' r', (a', r') ∈ hyTl_p8 → HOk (cx (nuX (nuTl_1 most ll i R nd) (rX (roTl_1 most ll i R nd) X)) (nuX_one (nuL_one (l := nuTl_1 most ll i R nd) rfl)) 1 laidE laidE_stab) a' r' := by
    unfold hyTl_p8
    exact hc (kRn (denX rfl)) <|
     hc (kBytesB (bs := ([] : LB)) .nil (denX rfl)) <|
     hc (kRl (isX rfl) (denX rfl) (by first | omega | (simp <;> omega))) <|
     hc (ltT rfl rfl (by omega)) <|
     hc (kElN (j := (Int.toNat (i))) (isX rfl) (isX rfl) (denX rfl) (by omega) (by omega)) <|
     hc (lnV rfl rfl (by omega)) <|
     hc (gtcF rfl (by omega)) <|
     hc (kCat (isX rfl) (isX rfl) (denX rfl) (by first | rfl | (simp; done)) (by omega)) <|
     hc (kFit (isX rfl) (by first | omega | (simp <;> omega))) <|
     hc (lnV rfl rfl (by first | omega | (simp <;> omega))) <|
     hc (ltF rfl rfl (by omega)) <|
     hc (kFit (isX rfl) (by first | omega | (simp <;> omega))) <|
     hc (hokNds (isX rfl) (denX rfl) (by omega)) <|
     hc (kCat (isX rfl) (isX rfl) (denX rfl) (by first | rfl | (simp; done)) (by omega)) <|
     hc (lnV rfl rfl (by omega)) <|
     hc (lnV rfl rfl (by omega)) <|
     hc (kNeI (isX rfl) (isX rfl) (neF (by omega))) <|
     hc (adC rfl rfl (by omega)) <|
     hnil
  exact sLTl_1 most ll i R nd (tb := tbTl_p8) (L := LTl_p8) (1, (i + 1), (cutS most (R ++ (nthS ll (Int.toNat (i))))).2.1, (ndS ((cutS most (R ++ (nthS ll (Int.toNat (i))))).2.1))) (AllOk.lp1 (AllOk.lp1 ((tabkOk _ _).hyps ho) (by omega) fi19_at fi19_body (lfCons (lpKnown rfl ⟨0, keyCu, lfOkCu_0 (l := lf44) (h := lh44) ((cutS most (R ++ (nthS ll (Int.toNat (i))))).1) ((cutS most (R ++ (nthS ll (Int.toNat (i))))).2.1) ((cutS most (R ++ (nthS ll (Int.toNat (i))))).2.2) most (by omega) (by omega) (0, (R ++ (nthS ll (Int.toNat (i)))), []) (mkICu ((cutS most (R ++ (nthS ll (Int.toNat (i))))).1) ((cutS most (R ++ (nthS ll (Int.toNat (i))))).2.1) ((cutS most (R ++ (nthS ll (Int.toNat (i))))).2.2) most 0 (R ++ (nthS ll (Int.toNat (i)))) [] ⟨by omega, rfl, rfl, rfl, by simp only [List.length_nil]; omega, fun _ => rfl, fun h => by omega, by omega⟩) rfl (by kernel_rfl) (th0 := [(0, .x 38), (1, .x 0)]) (sg0 := []) (fun X => thXv (v := St' (R ++ (nthS ll (Int.toNat (i))))) rfl rfl (thXv (v := .int .i64 (most)) rfl rfl (thNil))) (by kernel_rfl) (thx := [(40, .x 0), (41, .x 1)]) (thXv (v := St' ((cutS most (R ++ (nthS ll (Int.toNat (i))))).2.1)) rfl rfl (thXv (v := .int .i64 (most)) rfl rfl (thNil))) (by kernel_rfl)⟩) lfNil)) (by omega) (get_lps2 (by omega) (by omega) fi15_at) fi15_body (lfCons (lpKnown rfl ⟨0, keyRl, lfOkRl_0 (l := lf45) (h := lh45) ((cutS most (R ++ (nthS ll (Int.toNat (i))))).1) ((cutS most (R ++ (nthS ll (Int.toNat (i))))).2.1) ((cutS most (R ++ (nthS ll (Int.toNat (i))))).2.2) most (by omega) (by omega) (0, (R ++ (nthS ll (Int.toNat (i)))), []) (mkIRl ((cutS most (R ++ (nthS ll (Int.toNat (i))))).1) ((cutS most (R ++ (nthS ll (Int.toNat (i))))).2.1) ((cutS most (R ++ (nthS ll (Int.toNat (i))))).2.2) most 0 (R ++ (nthS ll (Int.toNat (i)))) [] ⟨by first | omega | (simp only [List.length_append]; omega), rfl, rfl, rfl, by simp only [List.length_nil, List.length_append]; omega, fun _ => rfl, fun h => by omega, by omega⟩) rfl (by kernel_rfl) (th0 := [(0, .x 43), (1, .x 5)]) (sg0 := []) (fun X => thXv (v := St' (R ++ (nthS ll (Int.toNat (i))))) rfl rfl (thXv (v := .int .i64 (most)) rfl rfl (thNil))) (by kernel_rfl) (thx := [(44, .x 0), (45, .x 1)]) (thXv (v := St' ((cutS most (R ++ (nthS ll (Int.toNat (i))))).2.1)) rfl rfl (thXv (v := .int .i64 (most)) rfl rfl (thNil))) (by kernel_rfl)⟩) lfNil)) (lpOk_one lfNil) rfl (mkITl most ll 1 (i + 1) ((cutS most (R ++ (nthS ll (Int.toNat (i))))).2.1) (ndS ((cutS most (R ++ (nthS ll (Int.toNat (i))))).2.1)) ⟨by omega, by omega, i2, okL_snoc i0 (by omega) i3 (by omega), i4, by omega, fun _ => hnd, fun h => by omega, by omega⟩) (by show ll.length - (i + 1).toNat < ll.length - i.toNat; omega) (thXv (v := .int .i64 (most)) rfl rfl (thXi (b := ((i + 1))) rfl rfl (by omega) (thXv (v := .int .i64 ((ndS ((cutS most (R ++ (nthS ll (Int.toNat (i))))).2.1)))) rfl rfl (thXv (v := St' ((cutS most (R ++ (nthS ll (Int.toNat (i))))).2.1)) rfl rfl (thXv (v := St' ((cutS most (R ++ (nthS ll (Int.toNat (i))))).2.1)) rfl rfl (thXv (v := .int .i64 (most)) rfl rfl (thXv (v := rwS ll) rfl rfl (thNil)))))))) runTl_p8
def hyTl_p9 : LK := [(.rn, .x 2000006), (.bytes [], .x 49), (.rl (.x 2000000) 1, .x 50), (.bin .lss (.x 1) (.x 50), .b true), (.el (.x 2000000) (.x 1) 1 0, .x 51), (.len (.x 51), .x 52), (.bin .gtr (.x 52) (.i .i64 (.ofNat 2000)), .b false), (.bin .add (.x 3) (.x 51), .x 53), (.fit (.x 53), .b true), (.len (.x 53), .x 54), (.bin .lss (.x 54) (.x 2), .b false), (.bin .add (.x 4) (.x 51), .x 58), (.bin .neq (.x 61) (.x 60), .b false), (.bin .add (.x 1) (.i .i64 (.ofNat 1)), .x 62)]
def lh46 : LH := ⟨1, 40, 100, [(2, .b ⟨53, .l [.x 0, .sy 11, .x 2, .b false], 0, 0, 0, false, false⟩)], [(2, .b ⟨53, .l [.x 56, .und, .und, .b false], 0, 0, 0, false, false⟩)]⟩
def lf46 : LF := ⟨2, 38, [(0, .p 2 0), (1, .x 53), (7, .nils)], [], .ret, [(4, .nils), (5, .x 55), (6, .ifc 68 (.ag [.x 57, .s 35 883751524516594027940889836758751821087985845510287451484159566615753519918736505186]))], some lh46⟩
def lh47 : LH := ⟨1, 200, 260, [(3, .b ⟨46, .l [.x 5, .x 58, .b false], 0, 0, 0, false, false⟩)], [(3, .b ⟨46, .l [.x 59, .s 0 0, .b true], 0, 0, 0, false, false⟩)]⟩
def lf47 : LF := ⟨5, 87, [(0, .p 3 0), (6, .nils)], [], .ret, [(4, .nils), (5, .x 60)], some lh47⟩
def lh48 : LH := ⟨1, 400, 410, [(260, .b ⟨29, .l [.i .i64 (.ofNat 0)], 0, 0, 0, false, false⟩)], [(260, .b ⟨29, .l [.x 61], 0, 0, 0, false, false⟩)]⟩
def lf48 : LF := ⟨8888888, 0, [(0, .ifc 68 (.ag [.x 57, .s 35 883751524516594027940889836758751821087985845510287451484159566615753519918736505186])), (1, .ifc 66 (.p 260 0))], [], .normal, [(0, .b true)], some lh48⟩
noncomputable def tbTl_p9 : Tab := addLps (addLps (addLps ((tbl hyTl_p9)) 19 fi19 [lf46]) 15 fi15 [lf47]) 25 fi25 [lf48]
def LTl_p9 : List LF := []
theorem runTl_p9 : okRdH (code tbTl_p9 6000 LTl_p9 bodyTl (envOf (headOf epTl_1 keepTl) 81) ⟨lhSet hpTl_1 .leaf, 11, 0, 0⟩) .normal keepTl 81 460 [(0, .x 56), (1, .x 62), (2, .x 59), (2000000, .x 2000000)] [] 10 11 epTl_2 hpTl_2 = true := by kernel_rfl
theorem nxTl_p9 (most : Int) (ll : List LB) (i : Int) (R : LB) (nd : Int) (X : Nat → Value) (hI : InvTl most ll (1, i, R, nd)) (h0 : i < (ll.length : Int)) (h1 : ¬ (2000 < ((nthS ll (Int.toNat (i))).length : Int))) (h2 : ¬ (((nthS ll (Int.toNat (i))).length : Int) + (R.length : Int) < nd)) (h3 : ¬ ((cutS most (R ++ (nthS ll (Int.toNat (i))))).2.2 = 11)) (h4 : (cutS most (R ++ (nthS ll (Int.toNat (i))))).1.length = 0) : RHTl most ll E' x' e' h' (1, i, R, nd) X := by
  obtain ⟨i0, i1, i2, i3, i4, i5, i6, i7, it⟩ := unITl most ll 1 i R nd hI
  have hn0 : ([] : LB).length = 0 := rfl
  have hli : (nthS ll (Int.toNat i)).length ≤ 140737488351232 := nthS_at (P := fun q => q.length ≤ 140737488351232) i4 (by omega)
  have hrl : (R ++ nthS ll (Int.toNat i)).length = R.length + (nthS ll (Int.toNat i)).length := List.length_append
  have hck := cut_kind (m := most) (R ++ (nthS ll (Int.toNat (i))))
  have hcl := cut_len (m := most) (R ++ (nthS ll (Int.toNat (i))))
  have ho : ∀ a' r', (a', r') ∈ hyTl_p9 → HOk (cx (nuX (nuTl_1 most ll i R nd) (rX (roTl_1 most ll i R nd) X)) (nuX_one (nuL_one (l := nuTl_1 most ll i R nd) rfl)) 1 laidE laidE_stab) a' r' := by
    unfold hyTl_p9
    exact hc (kRn (denX rfl)) <|
     hc (kBytesB (bs := ([] : LB)) .nil (denX rfl)) <|
     hc (kRl (isX rfl) (denX rfl) (by first | omega | (simp <;> omega))) <|
     hc (ltT rfl rfl (by omega)) <|
     hc (kElN (j := (Int.toNat (i))) (isX rfl) (isX rfl) (denX rfl) (by omega) (by omega)) <|
     hc (lnV rfl rfl (by omega)) <|
     hc (gtcF rfl (by omega)) <|
     hc (kCat (isX rfl) (isX rfl) (denX rfl) (by first | rfl | (simp; done)) (by omega)) <|
     hc (kFit (isX rfl) (by first | omega | (simp <;> omega))) <|
     hc (lnV rfl rfl (by first | omega | (simp <;> omega))) <|
     hc (ltF rfl rfl (by omega)) <|
     hc (kCat (isX rfl) (isX rfl) (denX rfl) (by first | rfl | (simp; done)) (by omega)) <|
     hc (kNeI (isX rfl) (isX rfl) (neF (by omega))) <|
     hc (adC rfl rfl (by omega)) <|
     hnil
  exact sLTl_1 most ll i R nd (tb := tbTl_p9) (L := LTl_p9) (2, (i + 1), [], 0) (AllOk.lp2 (AllOk.lp1 (AllOk.lp1 ((tabkOk _ _).hyps ho) (by omega) fi19_at fi19_body (lfCons (lpKnown rfl ⟨0, keyCu, lfOkCu_2 (l := lf46) (h := lh46) ((cutS most (R ++ (nthS ll (Int.toNat (i))))).1) ((cutS most (R ++ (nthS ll (Int.toNat (i))))).2.1) ((cutS most (R ++ (nthS ll (Int.toNat (i))))).2.2) most (by omega) (by omega) (0, (R ++ (nthS ll (Int.toNat (i)))), []) (mkICu ((cutS most (R ++ (nthS ll (Int.toNat (i))))).1) ((cutS most (R ++ (nthS ll (Int.toNat (i))))).2.1) ((cutS most (R ++ (nthS ll (Int.toNat (i))))).2.2) most 0 (R ++ (nthS ll (Int.toNat (i)))) [] ⟨by omega, rfl, rfl, rfl, by simp only [List.length_nil]; omega, fun _ => rfl, fun h => by omega, by omega⟩) rfl (by kernel_rfl) (th0 := [(0, .x 53), (1, .x 0)]) (sg0 := []) (fun X => thXv (v := St' (R ++ (nthS ll (Int.toNat (i))))) rfl rfl (thXv (v := .int .i64 (most)) rfl rfl (thNil))) (by kernel_rfl) (thx := [(55, .x 0), (56, .x 1), (57, .x 2)]) (thXv (v := St' ((cutS most (R ++ (nthS ll (Int.toNat (i))))).2.1)) rfl rfl (thXv (v := .int .i64 (most)) rfl rfl (thXe (v := .int .i64 (((cutS most (R ++ (nthS ll (Int.toNat (i))))).2.2))) (u := .int .i64 ((cutS most (R ++ (nthS ll (Int.toNat (i))))).2.2)) rfl rfl (by first | rfl | (congr 1; omega)) (thNil)))) (by kernel_rfl)⟩) lfNil)) (by omega) (get_lps2 (by omega) (by omega) fi15_at) fi15_body (lfCons (lpKnown rfl ⟨0, keyRl, lfOkRl_2 (l := lf47) (h := lh47) ((cutS most (R ++ (nthS ll (Int.toNat (i))))).1) ((cutS most (R ++ (nthS ll (Int.toNat (i))))).2.1) ((cutS most (R ++ (nthS ll (Int.toNat (i))))).2.2) most (by omega) (by omega) (0, (R ++ (nthS ll (Int.toNat (i)))), []) (mkIRl ((cutS most (R ++ (nthS ll (Int.toNat (i))))).1) ((cutS most (R ++ (nthS ll (Int.toNat (i))))).2.1) ((cutS most (R ++ (nthS ll (Int.toNat (i))))).2.2) most 0 (R ++ (nthS ll (Int.toNat (i)))) [] ⟨by first | omega | (simp only [List.length_append]; omega), rfl, rfl, rfl, by simp only [List.length_nil, List.length_append]; omega, fun _ => rfl, fun h => by omega, by omega⟩) rfl (by kernel_rfl) (th0 := [(0, .x 58), (1, .x 5)]) (sg0 := []) (fun X => thXv (v := St' (R ++ (nthS ll (Int.toNat (i))))) rfl rfl (thXv (v := .int .i64 (most)) rfl rfl (thNil))) (by kernel_rfl) (thx := [(59, .x 0), (60, .x 1)]) (thXv (v := .int .i64 (most)) rfl rfl (thXe (v := .int .i64 (((cutS most (R ++ (nthS ll (Int.toNat (i))))).2.2))) (u := .int .i64 ((cutS most (R ++ (nthS ll (Int.toNat (i))))).2.2)) rfl rfl (by first | rfl | (congr 1; omega)) (thNil))) (by kernel_rfl)⟩) lfNil)) (by omega) (get_lps2 (by omega) (by omega) (get_lps2 (by omega) (by omega) fi25_at)) fi25_body (lfCons (.inr ⟨⟨rfl, rfl⟩, cfA25, cfAsy0_0 (l := lf48) (h := lh48) (q := (0, .b true)) ((cutS most (R ++ (nthS ll (Int.toNat (i))))).2.2) rfl rfl (by kernel_rfl) (th0 := [(0, .x 57)]) (sg0 := []) (thXe (v := .int .i64 ((cutS most (R ++ (nthS ll (Int.toNat (i))))).2.2)) (u := .int .i64 (((cutS most (R ++ (nthS ll (Int.toNat (i))))).2.2))) rfl rfl (by first | rfl | (congr 1; omega)) (thNil)) (by kernel_rfl) (thx := [(61, .x 0)]) (thXv (v := .int .i64 (((cutS most (R ++ (nthS ll (Int.toNat (i))))).2.2))) rfl rfl (thNil)) (by kernel_rfl)⟩) lfNil)) (lpOk_one lfNil) rfl (mkITl most ll 2 (i + 1) [] 0 ⟨by omega, by omega, i2, okL_snoc i0 (by omega) i3 (by omega), i4, by simp only [List.length_nil]; omega, fun h => by omega, fun h => by omega, by omega⟩) (by show ll.length - (i + 1).toNat < ll.length - i.toNat; omega) (thXv (v := .int .i64 (most)) rfl rfl (thXi (b := ((i + 1))) rfl rfl (by omega) (thXv (v := .int .i64 (most)) rfl rfl (thXv (v := rwS ll) rfl rfl (thNil))))) runTl_p9
def hyTl_p10 : LK := [(.rn, .x 2000007), (.bytes [], .x 63), (.rl (.x 2000000) 1, .x 64), (.bin .lss (.x 1) (.x 64), .b true), (.el (.x 2000000) (.x 1) 1 0, .x 65), (.len (.x 65), .x 66), (.bin .gtr (.x 66) (.i .i64 (.ofNat 2000)), .b false), (.bin .add (.x 3) (.x 65), .x 67), (.fit (.x 67), .b true), (.len (.x 67), .x 68), (.bin .lss (.x 68) (.x 2), .b false), (.bin .add (.x 4) (.x 65), .x 72), (.rl (.x 2000008) 4, .x 75), (.rl (.x 2000009) 4, .x 76), (.bin .neq (.x 75) (.x 76), .b false), (.bin .neq (.x 77) (.x 74), .b false), (.bin .add (.x 1) (.i .i64 (.ofNat 1)), .x 78)]
def lh49 : LH := ⟨1, 40, 100, [(2, .b ⟨53, .l [.x 0, .sy 11, .x 2, .b false], 0, 0, 0, false, false⟩)], [(2, .b ⟨53, .l [.x 70, .und, .und, .b false], 0, 0, 0, false, false⟩), (40, .r 2000008 26 4 false)]⟩
def lf49 : LF := ⟨2, 38, [(0, .p 2 0), (1, .x 67), (7, .nils)], [], .ret, [(4, .sr 40), (5, .x 69), (6, .ifc 68 (.ag [.x 71, .s 35 883751524516594027940889836758751821087985845510287451484159566615753519918736505186]))], some lh49⟩
def lh50 : LH := ⟨1, 200, 260, [(3, .b ⟨46, .l [.x 5, .x 72, .b false], 0, 0, 0, false, false⟩)], [(3, .b ⟨46, .l [.x 73, .s 0 0, .b true], 0, 0, 0, false, false⟩), (200, .r 2000009 26 4 false)]⟩
def lf50 : LF := ⟨5, 87, [(0, .p 3 0), (6, .nils)], [], .ret, [(4, .sr 200), (5, .x 74)], some lh50⟩
def lh51 : LH := ⟨1, 300, 302, [(40, .r 2000008 26 4 false), (200, .r 2000009 26 4 false)], []⟩
def lf51 : LF := ⟨4, 26, [(0, .sr 40), (1, .sr 200), (5, .i .i64 (.ofNat 0))], [], (.exit 0), [], some lh51⟩
def lh52 : LH := ⟨1, 400, 410, [(302, .b ⟨29, .l [.i .i64 (.ofNat 0)], 0, 0, 0, false, false⟩)], [(302, .b ⟨29, .l [.x 77], 0, 0, 0, false, false⟩)]⟩
def lf52 : LF := ⟨8888888, 0, [(0, .ifc 68 (.ag [.x 71, .s 35 883751524516594027940889836758751821087985845510287451484159566615753519918736505186])), (1, .ifc 66 (.p 302 0))], [], .normal, [(0, .b true)], some lh52⟩
noncomputable def tbTl_p10 : Tab := addLps (addLps (addLps (addLps ((tbl hyTl_p10)) 19 fi19 [lf49]) 15 fi15 [lf50]) 13 fi13 [lf51]) 25 fi25 [lf52]
def LTl_p10 : List LF := []
theorem runTl_p10 : okRdH (code tbTl_p10 6000 LTl_p10 bodyTl (envOf (headOf epTl_1 keepTl) 81) ⟨lhSet hpTl_1 .leaf, 11, 0, 0⟩) .normal keepTl 81 460 [(0, .x 70), (1, .x 78), (2, .x 73), (2000000, .x 2000000)] [] 10 11 epTl_2 hpTl_2 = true := by kernel_rfl
theorem nxTl_p10 (most : Int) (ll : List LB) (i : Int) (R : LB) (nd : Int) (X : Nat → Value) (hI : InvTl most ll (1, i, R, nd)) (h0 : i < (ll.length : Int)) (h1 : ¬ (2000 < ((nthS ll (Int.toNat (i))).length : Int))) (h2 : ¬ (((nthS ll (Int.toNat (i))).length : Int) + (R.length : Int) < nd)) (h3 : ¬ ((cutS most (R ++ (nthS ll (Int.toNat (i))))).2.2 = 11)) (h4 : ¬ ((cutS most (R ++ (nthS ll (Int.toNat (i))))).1.length = 0)) : RHTl most ll E' x' e' h' (1, i, R, nd) X := by
  obtain ⟨i0, i1, i2, i3, i4, i5, i6, i7, it⟩ := unITl most ll 1 i R nd hI
  have hn0 : ([] : LB).length = 0 := rfl
  have hli : (nthS ll (Int.toNat i)).length ≤ 140737488351232 := nthS_at (P := fun q => q.length ≤ 140737488351232) i4 (by omega)
  have hrl : (R ++ nthS ll (Int.toNat i)).length = R.length + (nthS ll (Int.toNat i)).length := List.length_append
  have hck := cut_kind (m := most) (R ++ (nthS ll (Int.toNat (i))))
  have hcl := cut_len (m := most) (R ++ (nthS ll (Int.toNat (i))))
  have ho : ∀ a' r', (a', r') ∈ hyTl_p10 → HOk (cx (nuX (nuTl_1 most ll i R nd) (rX (roTl_1 most ll i R nd) X)) (nuX_one (nuL_one (l := nuTl_1 most ll i R nd) rfl)) 1 laidE laidE_stab) a' r' := by
    unfold hyTl_p10
    exact hc (kRn (denX rfl)) <|
     hc (kBytesB (bs := ([] : LB)) .nil (denX rfl)) <|
     hc (kRl (isX rfl) (denX rfl) (by first | omega | (simp <;> omega))) <|
     hc (ltT rfl rfl (by omega)) <|
     hc (kElN (j := (Int.toNat (i))) (isX rfl) (isX rfl) (denX rfl) (by omega) (by omega)) <|
     hc (lnV rfl rfl (by omega)) <|
     hc (gtcF rfl (by omega)) <|
     hc (kCat (isX rfl) (isX rfl) (denX rfl) (by first | rfl | (simp; done)) (by omega)) <|
     hc (kFit (isX rfl) (by first | omega | (simp <;> omega))) <|
     hc (lnV rfl rfl (by first | omega | (simp <;> omega))) <|
     hc (ltF rfl rfl (by omega)) <|
     hc (kCat (isX rfl) (isX rfl) (denX rfl) (by first | rfl | (simp; done)) (by omega)) <|
     hc (kRlG reC_len (isX rfl) (denX rfl) (by first | omega | (simp <;> omega))) <|
     hc (kRlG reC_len (isX rfl) (denX rfl) (by first | omega | (simp <;> omega))) <|
     hc (kNeI (isX rfl) (isX rfl) (neF (by omega))) <|
     hc (kNeI (isX rfl) (isX rfl) (neF (by omega))) <|
     hc (adC rfl rfl (by omega)) <|
     hnil
  exact sLTl_1 most ll i R nd (tb := tbTl_p10) (L := LTl_p10) (2, (i + 1), [], 0) (AllOk.lp2 (AllOk.lp1 (AllOk.lp1 (AllOk.lp1 ((tabkOk _ _).hyps ho) (by omega) fi19_at fi19_body (lfCons (lpKnown rfl ⟨0, keyCu, lfOkCu_3 (l := lf49) (h := lh49) ((cutS most (R ++ (nthS ll (Int.toNat (i))))).1) ((cutS most (R ++ (nthS ll (Int.toNat (i))))).2.1) ((cutS most (R ++ (nthS ll (Int.toNat (i))))).2.2) most (by omega) (by omega) (0, (R ++ (nthS ll (Int.toNat (i)))), []) (mkICu ((cutS most (R ++ (nthS ll (Int.toNat (i))))).1) ((cutS most (R ++ (nthS ll (Int.toNat (i))))).2.1) ((cutS most (R ++ (nthS ll (Int.toNat (i))))).2.2) most 0 (R ++ (nthS ll (Int.toNat (i)))) [] ⟨by omega, rfl, rfl, rfl, by simp only [List.length_nil]; omega, fun _ => rfl, fun h => by omega, by omega⟩) rfl (by kernel_rfl) (th0 := [(0, .x 67), (1, .x 0)]) (sg0 := []) (fun X => thXv (v := St' (R ++ (nthS ll (Int.toNat (i))))) rfl rfl (thXv (v := .int .i64 (most)) rfl rfl (thNil))) (by kernel_rfl) (thx := [(69, .x 0), (70, .x 1), (71, .x 2), (2000008, .x 2000000)]) (thXv (v := St' ((cutS most (R ++ (nthS ll (Int.toNat (i))))).2.1)) rfl rfl (thXv (v := .int .i64 (most)) rfl rfl (thXe (v := .int .i64 (((cutS most (R ++ (nthS ll (Int.toNat (i))))).2.2))) (u := .int .i64 ((cutS most (R ++ (nthS ll (Int.toNat (i))))).2.2)) rfl rfl (by first | rfl | (congr 1; omega)) (thXv (v := rwG reC ((cutS most (R ++ (nthS ll (Int.toNat (i))))).1)) rfl rfl (thNil))))) (by kernel_rfl)⟩) lfNil)) (by omega) (get_lps2 (by omega) (by omega) fi15_at) fi15_body (lfCons (lpKnown rfl ⟨0, keyRl, lfOkRl_3 (l := lf50) (h := lh50) ((cutS most (R ++ (nthS ll (Int.toNat (i))))).1) ((cutS most (R ++ (nthS ll (Int.toNat (i))))).2.1) ((cutS most (R ++ (nthS ll (Int.toNat (i))))).2.2) most (by omega) (by omega) (0, (R ++ (nthS ll (Int.toNat (i)))), []) (mkIRl ((cutS most (R ++ (nthS ll (Int.toNat (i))))).1) ((cutS most (R ++ (nthS ll (Int.toNat (i))))).2.1) ((cutS most (R ++ (nthS ll (Int.toNat (i))))).2.2) most 0 (R ++ (nthS ll (Int.toNat (i)))) [] ⟨by first | omega | (simp only [List.length_append]; omega), rfl, rfl, rfl, by simp only [List.length_nil, List.length_append]; omega, fun _ => rfl, fun h => by omega, by omega⟩) rfl (by kernel_rfl) (th0 := [(0, .x 72), (1, .x 5)]) (sg0 := []) (fun X => thXv (v := St' (R ++ (nthS ll (Int.toNat (i))))) rfl rfl (thXv (v := .int .i64 (most)) rfl rfl (thNil))) (by kernel_rfl) (thx := [(73, .x 0), (74, .x 1), (2000009, .x 2000000)]) (thXv (v := .int .i64 (most)) rfl rfl (thXe (v := .int .i64 (((cutS most (R ++ (nthS ll (Int.toNat (i))))).2.2))) (u := .int .i64 ((cutS most (R ++ (nthS ll (Int.toNat (i))))).2.2)) rfl rfl (by first | rfl | (congr 1; omega)) (thXv (v := rwG reC ((cutS most (R ++ (nthS ll (Int.toNat (i))))).1)) rfl rfl (thNil)))) (by kernel_rfl)⟩) lfNil)) (by omega) (get_lps2 (by omega) (by omega) (get_lps2 (by omega) (by omega) fi13_at)) fi13_body (lfCons (lpKnown rfl ⟨0, keySa0, lfOkSa0_0 (l := lf51) (h := lh51) ((cutS most (R ++ (nthS ll (Int.toNat (i))))).1) (0, (0 : Int)) (mkISa0 ((cutS most (R ++ (nthS ll (Int.toNat (i))))).1) 0 (0 : Int) ⟨by omega, by omega, by omega, cut_re _, by omega⟩) rfl (by kernel_rfl) (th0 := [(0, .i .i64 (.ofNat 0)), (2000000, .x 2000008), (2000001, .x 2000009)]) (sg0 := []) (fun X => thCons (show Is _ (.i .i64 (.ofNat 0)) (.int .i64 ((0 : Int))) from isTo (v := .int .i64 0) (isI _ _) (by first | rfl | (congr 1; omega))) (thXv (v := rwG reC ((cutS most (R ++ (nthS ll (Int.toNat (i))))).1)) rfl rfl (thXv (v := rwG reC ((cutS most (R ++ (nthS ll (Int.toNat (i))))).1)) rfl rfl (thNil)))) (by kernel_rfl) (thx := []) (thNil) (by kernel_rfl)⟩) lfNil)) (by omega) (get_lps2 (by omega) (by omega) (get_lps2 (by omega) (by omega) (get_lps2 (by omega) (by omega) fi25_at))) fi25_body (lfCons (.inr ⟨⟨rfl, rfl⟩, cfA25, cfAsy1_0 (l := lf52) (h := lh52) (q := (0, .b true)) ((cutS most (R ++ (nthS ll (Int.toNat (i))))).2.2) rfl rfl (by kernel_rfl) (th0 := [(0, .x 71)]) (sg0 := []) (thXe (v := .int .i64 ((cutS most (R ++ (nthS ll (Int.toNat (i))))).2.2)) (u := .int .i64 (((cutS most (R ++ (nthS ll (Int.toNat (i))))).2.2))) rfl rfl (by first | rfl | (congr 1; omega)) (thNil)) (by kernel_rfl) (thx := [(77, .x 0)]) (thXv (v := .int .i64 (((cutS most (R ++ (nthS ll (Int.toNat (i))))).2.2))) rfl rfl (thNil)) (by kernel_rfl)⟩) lfNil)) (lpOk_one lfNil) rfl (mkITl most ll 2 (i + 1) [] 0 ⟨by omega, by omega, i2, okL_snoc i0 (by omega) i3 (by omega), i4, by simp only [List.length_nil]; omega, fun h => by omega, fun h => by omega, by omega⟩) (by show ll.length - (i + 1).toNat < ll.length - i.toNat; omega) (thXv (v := .int .i64 (most)) rfl rfl (thXi (b := ((i + 1))) rfl rfl (by omega) (thXv (v := .int .i64 (most)) rfl rfl (thXv (v := rwS ll) rfl rfl (thNil))))) runTl_p10
def hyTl_p11 : LK := [(.rn, .x 2000010), (.bytes [], .x 79), (.rl (.x 2000000) 1, .x 80), (.bin .lss (.x 1) (.x 80), .b true), (.el (.x 2000000) (.x 1) 1 0, .x 81), (.len (.x 81), .x 82), (.bin .gtr (.x 82) (.i .i64 (.ofNat 2000)), .b true)]
theorem runTl_p11 : RNTl_1 hyTl_p11 .ret [] [] 460 [(4, .b true)] [] = true := by kernel_rfl
def hyTl_p12 : LK := [(.rn, .x 2000001), (.bytes [], .x 3), (.rl (.x 2000000) 1, .x 4), (.bin .lss (.x 1) (.x 4), .b true), (.el (.x 2000000) (.x 1) 1 0, .x 5), (.len (.x 5), .x 6), (.bin .gtr (.x 6) (.i .i64 (.ofNat 2000)), .b false), (.bin .add (.x 1) (.i .i64 (.ofNat 1)), .x 7)]
def lh99 : LH := ⟨1, 400, 410, [(11, .b ⟨29, .l [.i .i64 (.ofNat 0)], 0, 0, 0, false, false⟩)], [(11, .b ⟨29, .l [.i .i64 (.ofNat 18)], 0, 0, 0, false, false⟩)]⟩
def lf99 : LF := ⟨8888888, 0, [(0, .ifc 68 (.ag [.i .i64 (.ofNat 18), .s 23 9716693415185728232289066081575036888813743302704918382])), (1, .ifc 66 (.p 11 0))], [], .normal, [(0, .b true)], some lh99⟩
noncomputable def tbTl_p12 : Tab := addLps ((tbl hyTl_p12)) 25 fi25 [lf99]
def LTl_p12 : List LF := []
theorem runTl_p12 : okRdH (code tbTl_p12 6000 LTl_p12 bodyTl (envOf (headOf epTl_2 keepTl) 81) ⟨lhSet hpTl_2 .leaf, 11, 0, 0⟩) .normal keepTl 81 460 [(0, .x 0), (1, .x 7), (2, .x 2), (2000000, .x 2000000)] [] 10 11 epTl_2 hpTl_2 = true := by kernel_rfl
theorem nxTl_p12 (most : Int) (ll : List LB) (i : Int) (R : LB) (nd : Int) (X : Nat → Value) (hI : InvTl most ll (2, i, R, nd)) (h0 : i < (ll.length : Int)) (h1 : ¬ (2000 < ((nthS ll (Int.toNat (i))).length : Int))) : RHTl most ll E' x' e' h' (2, i, R, nd) X := by
  obtain ⟨i0, i1, i2, i3, i4, i5, i6, i7, it⟩ := unITl most ll 2 i R nd hI
  have hn0 : ([] : LB).length = 0 := rfl
  have hli : (nthS ll (Int.toNat i)).length ≤ 140737488351232 := nthS_at (P := fun q => q.length ≤ 140737488351232) i4 (by omega)
  have ho : ∀ a' r', (a', r') ∈ hyTl_p12 → HOk (cx (nuX (nuTl_2 most ll i R nd) (rX (roTl_2 most ll i R nd) X)) (nuX_one (nuL_one (l := nuTl_2 most ll i R nd) rfl)) 1 laidE laidE_stab) a' r' := by
    unfold hyTl_p12
    exact hc (kRn (denX rfl)) <|
     hc (kBytesB (bs := ([] : LB)) .nil (denX rfl)) <|
     hc (kRl (isX rfl) (denX rfl) (by first | omega | (simp <;> omega))) <|
     hc (ltT rfl rfl (by omega)) <|
     hc (kElN (j := (Int.toNat (i))) (isX rfl) (isX rfl) (denX rfl) (by omega) (by omega)) <|
     hc (lnV rfl rfl (by omega)) <|
     hc (gtcF rfl (by omega)) <|
     hc (adC rfl rfl (by omega)) <|
     hnil
  exact sLTl_2 most ll i R nd (tb := tbTl_p12) (L := LTl_p12) (2, (i + 1), [], 0) (AllOk.lp2 ((tabkOk _ _).hyps ho) (by omega) fi25_at fi25_body (lfCons (.inr ⟨⟨rfl, rfl⟩, cfA25, cfAsz0_0 (l := lf99) (h := lh99) (q := (0, .b true)) rfl rfl (by kernel_rfl) (th0 := []) (sg0 := []) (thNil) (by kernel_rfl) (thx := []) (thNil) (by kernel_rfl)⟩) lfNil)) (lpOk_one lfNil) rfl (mkITl most ll 2 (i + 1) [] 0 ⟨by omega, by omega, i2, okL_snoc i0 (by omega) i3 (by omega), i4, by simp only [List.length_nil]; omega, fun h => by omega, fun h => by omega, by omega⟩) (by show ll.length - (i + 1).toNat < ll.length - i.toNat; omega) (thXv (v := .int .i64 (most)) rfl rfl (thXi (b := ((i + 1))) rfl rfl (by omega) (thXv (v := .int .i64 (most)) rfl rfl (thXv (v := rwS ll) rfl rfl (thNil))))) runTl_p12
def hyTl_p13 : LK := [(.rn, .x 2000002), (.bytes [], .x 8), (.rl (.x 2000000) 1, .x 9), (.bin .lss (.x 1) (.x 9), .b true), (.el (.x 2000000) (.x 1) 1 0, .x 10), (.len (.x 10), .x 11), (.bin .gtr (.x 11) (.i .i64 (.ofNat 2000)), .b true)]
theorem runTl_p13 : RNTl_2 hyTl_p13 .ret [] [] 460 [(4, .b true)] [] = true := by kernel_rfl
def hyTl_p14 : LK := [(.rn, .x 2000011), (.bytes [], .x 75), (.rl (.x 2000000) 1, .x 76), (.bin .lss (.x 1) (.x 76), .b false)]
theorem runTl_p14 : RNTl_0 hyTl_p14 (.exit 0) [] [] 460 [] [] = true := by kernel_rfl
def hyTl_p15 : LK := [(.rn, .x 2000011), (.bytes [], .x 83), (.rl (.x 2000000) 1, .x 84), (.bin .lss (.x 1) (.x 84), .b false)]
theorem runTl_p15 : RNTl_1 hyTl_p15 (.exit 0) [] [] 460 [] [] = true := by kernel_rfl
def hyTl_p16 : LK := [(.rn, .x 2000003), (.bytes [], .x 12), (.rl (.x 2000000) 1, .x 13), (.bin .lss (.x 1) (.x 13), .b false)]
theorem runTl_p16 : RNTl_2 hyTl_p16 (.exit 0) [] [] 460 [] [] = true := by kernel_rfl
def nuETl_0 (most : Int) (ll : List LB) : List Value := []
def roETl_0 (most : Int) (ll : List LB) : List Value := []
noncomputable def ETl_0 (most : Int) (ll : List LB) : Cx := cx (nuX (nuETl_0 most ll) (rX (roETl_0 most ll) (fun _ => .bool true))) (nuX_one (nuL_one (l := nuETl_0 most ll) rfl)) 1 laidE laidE_stab
theorem roundsTl_0 (most : Int) (ll : List LB) (x0 : okL ll) (st : Nat × Int × LB × Int) (X : Nat → Value) (hI : InvTl most ll st) : RHTl most ll (ETl_0 most ll) (.exit 0) [] [] st X := by
  obtain ⟨tag, i, R, nd⟩ := st
  have hI0 := hI
  obtain ⟨i0, i1, i2, i3, i4, i5, i6, i7, it⟩ := unITl most ll tag i R nd hI
  rcases (show tag = 0 ∨ tag = 1 ∨ tag = 2 from by omega) with rfl | rfl | rfl
  · skip
    have hn0 : ([] : LB).length = 0 := rfl
    by_cases h0 : i < (ll.length : Int)
    · by_cases h1 : (nthS ll (Int.toNat i)).length = 0
      · exact nxTl_p0 most ll i R nd X hI0 h0 h1
      · by_cases h2 : 2000 < ((nthS ll (Int.toNat (i))).length : Int)
        · exfalso; have hC := x0 _ (nthS_mem (l := ll) (j := Int.toNat i) (by omega)); omega
        · by_cases h4 : (cutS most (nthS ll (Int.toNat (i)))).2.2 = 11
          · by_cases h5 : (cutS most (nthS ll (Int.toNat (i)))).1.length = 0
            · exact nxTl_p2 most ll i R nd X hI0 h0 h1 h2 h4 h5
            · exact nxTl_p1 most ll i R nd X hI0 h0 h1 h2 h4 h5
          · by_cases h5 : (cutS most (nthS ll (Int.toNat (i)))).1.length = 0
            · exact nxTl_p3 most ll i R nd X hI0 h0 h1 h2 h4 h5
            · exact nxTl_p4 most ll i R nd X hI0 h0 h1 h2 h4 h5
    · skip
      have hn0 : ([] : LB).length = 0 := rfl
      refine lvTl_0 most ll i R nd (h := hyTl_p14) rfl ?_ (thNil) runTl_p14
      unfold hyTl_p14
      exact hc (kRn (denX rfl)) <|
       hc (kBytesB (bs := ([] : LB)) .nil (denX rfl)) <|
       hc (kRl (isX rfl) (denX rfl) (by first | omega | (simp <;> omega))) <|
       hc (ltF rfl rfl (by omega)) <|
       hnil
  · skip
    have hn0 : ([] : LB).length = 0 := rfl
    by_cases h0 : i < (ll.length : Int)
    · by_cases h1 : 2000 < ((nthS ll (Int.toNat (i))).length : Int)
      · exfalso; have hC := x0 _ (nthS_mem (l := ll) (j := Int.toNat i) (by omega)); omega
      · by_cases h2 : ((nthS ll (Int.toNat (i))).length : Int) + (R.length : Int) < nd
        · exact nxTl_p6 most ll i R nd X hI0 h0 h1 h2
        · by_cases h3 : (cutS most (R ++ (nthS ll (Int.toNat (i))))).2.2 = 11
          · by_cases h4 : (cutS most (R ++ (nthS ll (Int.toNat (i))))).1.length = 0
            · exact nxTl_p8 most ll i R nd X hI0 h0 h1 h2 h3 h4
            · exact nxTl_p7 most ll i R nd X hI0 h0 h1 h2 h3 h4
          · by_cases h4 : (cutS most (R ++ (nthS ll (Int.toNat (i))))).1.length = 0
            · exact nxTl_p9 most ll i R nd X hI0 h0 h1 h2 h3 h4
            · exact nxTl_p10 most ll i R nd X hI0 h0 h1 h2 h3 h4
    · skip
      have hn0 : ([] : LB).length = 0 := rfl
      refine lvTl_1 most ll i R nd (h := hyTl_p15) rfl ?_ (thNil) runTl_p15
      unfold hyTl_p15
      exact hc (kRn (denX rfl)) <|
       hc (kBytesB (bs := ([] : LB)) .nil (denX rfl)) <|
       hc (kRl (isX rfl) (denX rfl) (by first | omega | (simp <;> omega))) <|
       hc (ltF rfl rfl (by omega)) <|
       hnil
  · skip
    have hn0 : ([] : LB).length = 0 := rfl
    by_cases h0 : i < (ll.length : Int)
    · by_cases h1 : 2000 < ((nthS ll (Int.toNat (i))).length : Int)
      · exfalso; have hC := x0 _ (nthS_mem (l := ll) (j := Int.toNat i) (by omega)); omega
      · exact nxTl_p12 most ll i R nd X hI0 h0 h1
    · skip
      have hn0 : ([] : LB).length = 0 := rfl
      refine lvTl_2 most ll i R nd (h := hyTl_p16) rfl ?_ (thNil) runTl_p16
      unfold hyTl_p16
      exact hc (kRn (denX rfl)) <|
       hc (kBytesB (bs := ([] : LB)) .nil (denX rfl)) <|
       hc (kRl (isX rfl) (denX rfl) (by first | omega | (simp <;> omega))) <|
       hc (ltF rfl rfl (by omega)) <|
       hnil
theorem lfOkTl_0 {l : LF} {h : LH} (most : Int) (ll : List LB) (x0 : okL ll) (st : Nat × Int × LB × Int) (hI : InvTl most ll st) (hl : l.hp = some h) (hs : lfSame l h 81 keepTl (.exit 0) 1 10 460 = true) {th0 : LA} {sg0 : List (Nat × Nat)} (hth0 : ∀ X, ThOk (cx nu one 1 laidE laidE_stab) (DTl most ll st X) th0) (h0 : startOk l h 81 10 11 th0 sg0 (epTl st) (hpTl st) = true) {thx : LA} (hthx : ThOk (ETl_0 most ll) (cx nu one 1 laidE laidE_stab) thx) (hx : exitOk l h 81 10 460 thx [] [] = true) : LfOk (cx nu one 1 laidE laidE_stab) bodyTl l :=
  lfOkX (E := ETl_0 most ll) (InvTl most ll) (muTl most ll) (DTl most ll) (fun _ _ => rfl) (fun _ _ => rfl) (fun _ _ => rfl) (fun st X t ht => nuX_keep.trans (rX_keep ((by decide : ∀ t, t ∈ keepTl → t < 1000000) t ht))) rfl rfl rfl hl hs ebTl rfl rfl st hI hth0 h0 hthx hx (roundsTl_0 most ll x0)
def nuETl_1 (most : Int) (ll : List LB) : List Value := []
def roETl_1 (most : Int) (ll : List LB) : List Value := []
noncomputable def ETl_1 (most : Int) (ll : List LB) : Cx := cx (nuX (nuETl_1 most ll) (rX (roETl_1 most ll) (fun _ => .bool true))) (nuX_one (nuL_one (l := nuETl_1 most ll) rfl)) 1 laidE laidE_stab
theorem roundsTl_1 (most : Int) (ll : List LB) (x0 : ¬ okL ll) (st : Nat × Int × LB × Int) (X : Nat → Value) (hI : InvTl most ll st) : RHTl most ll (ETl_1 most ll) .ret [(4, .b true)] [] st X := by
  obtain ⟨tag, i, R, nd⟩ := st
  have hI0 := hI
  obtain ⟨i0, i1, i2, i3, i4, i5, i6, i7, it⟩ := unITl most ll tag i R nd hI
  rcases (show tag = 0 ∨ tag = 1 ∨ tag = 2 from by omega) with rfl | rfl | rfl
  · skip
    have hn0 : ([] : LB).length = 0 := rfl
    by_cases h0 : i < (ll.length : Int)
    · by_cases h1 : (nthS ll (Int.toNat i)).length = 0
      · exact nxTl_p0 most ll i R nd X hI0 h0 h1
      · by_cases h2 : 2000 < ((nthS ll (Int.toNat (i))).length : Int)
        · skip
          have hn0 : ([] : LB).length = 0 := rfl
          have hli : (nthS ll (Int.toNat i)).length ≤ 140737488351232 := nthS_at (P := fun q => q.length ≤ 140737488351232) i4 (by omega)
          refine lvTl_0 most ll i R nd (h := hyTl_p5) rfl ?_ (thNil) runTl_p5
          unfold hyTl_p5
          exact hc (kRn (denX rfl)) <|
           hc (kBytesB (bs := ([] : LB)) .nil (denX rfl)) <|
           hc (kRl (isX rfl) (denX rfl) (by first | omega | (simp <;> omega))) <|
           hc (ltT rfl rfl (by omega)) <|
           hc (kElN (j := (Int.toNat (i))) (isX rfl) (isX rfl) (denX rfl) (by omega) (by omega)) <|
           hc (lnV rfl rfl (by omega)) <|
           hc (gtcT rfl (by omega)) <|
           hnil
        · by_cases h4 : (cutS most (nthS ll (Int.toNat (i)))).2.2 = 11
          · by_cases h5 : (cutS most (nthS ll (Int.toNat (i)))).1.length = 0
            · exact nxTl_p2 most ll i R nd X hI0 h0 h1 h2 h4 h5
            · exact nxTl_p1 most ll i R nd X hI0 h0 h1 h2 h4 h5
          · by_cases h5 : (cutS most (nthS ll (Int.toNat (i)))).1.length = 0
            · exact nxTl_p3 most ll i R nd X hI0 h0 h1 h2 h4 h5
            · exact nxTl_p4 most ll i R nd X hI0 h0 h1 h2 h4 h5
    · exfalso; exact x0 (okL_end i0 (by omega) i3)
  · skip
    have hn0 : ([] : LB).length = 0 := rfl
    by_cases h0 : i < (ll.length : Int)
    · by_cases h1 : 2000 < ((nthS ll (Int.toNat (i))).length : Int)
      · skip
        have hn0 : ([] : LB).length = 0 := rfl
        have hli : (nthS ll (Int.toNat i)).length ≤ 140737488351232 := nthS_at (P := fun q => q.length ≤ 140737488351232) i4 (by omega)
        have hrl : (R ++ nthS ll (Int.toNat i)).length = R.length + (nthS ll (Int.toNat i)).length := List.length_append
        refine lvTl_1 most ll i R nd (h := hyTl_p11) rfl ?_ (thNil) runTl_p11
        unfold hyTl_p11
        exact hc (kRn (denX rfl)) <|
         hc (kBytesB (bs := ([] : LB)) .nil (denX rfl)) <|
         hc (kRl (isX rfl) (denX rfl) (by first | omega | (simp <;> omega))) <|
         hc (ltT rfl rfl (by omega)) <|
         hc (kElN (j := (Int.toNat (i))) (isX rfl) (isX rfl) (denX rfl) (by omega) (by omega)) <|
         hc (lnV rfl rfl (by omega)) <|
         hc (gtcT rfl (by omega)) <|
         hnil
      · by_cases h2 : ((nthS ll (Int.toNat (i))).length : Int) + (R.length : Int) < nd
        · exact nxTl_p6 most ll i R nd X hI0 h0 h1 h2
        · by_cases h3 : (cutS most (R ++ (nthS ll (Int.toNat (i))))).2.2 = 11
          · by_cases h4 : (cutS most (R ++ (nthS ll (Int.toNat (i))))).1.length = 0
            · exact nxTl_p8 most ll i R nd X hI0 h0 h1 h2 h3 h4
            · exact nxTl_p7 most ll i R nd X hI0 h0 h1 h2 h3 h4
          · by_cases h4 : (cutS most (R ++ (nthS ll (Int.toNat (i))))).1.length = 0
            · exact nxTl_p9 most ll i R nd X hI0 h0 h1 h2 h3 h4
            · exact nxTl_p10 most ll i R nd X hI0 h0 h1 h2 h3 h4
    · exfalso; exact x0 (okL_end i0 (by omega) i3)
  · skip
    have hn0 : ([] : LB).length = 0 := rfl
    by_cases h0 : i < (ll.length : Int)
    · by_cases h1 : 2000 < ((nthS ll (Int.toNat (i))).length : Int)
      · skip
        have hn0 : ([] : LB).length = 0 := rfl
        have hli : (nthS ll (Int.toNat i)).length ≤ 140737488351232 := nthS_at (P := fun q => q.length ≤ 140737488351232) i4 (by omega)
        refine lvTl_2 most ll i R nd (h := hyTl_p13) rfl ?_ (thNil) runTl_p13
        unfold hyTl_p13
        exact hc (kRn (denX rfl)) <|
         hc (kBytesB (bs := ([] : LB)) .nil (denX rfl)) <|
         hc (kRl (isX rfl) (denX rfl) (by first | omega | (simp <;> omega))) <|
         hc (ltT rfl rfl (by omega)) <|
         hc (kElN (j := (Int.toNat (i))) (isX rfl) (isX rfl) (denX rfl) (by omega) (by omega)) <|
         hc (lnV rfl rfl (by omega)) <|
         hc (gtcT rfl (by omega)) <|
         hnil
      · exact nxTl_p12 most ll i R nd X hI0 h0 h1
    · exfalso; exact x0 (okL_end i0 (by omega) i3)
theorem lfOkTl_1 {l : LF} {h : LH} (most : Int) (ll : List LB) (x0 : ¬ okL ll) (st : Nat × Int × LB × Int) (hI : InvTl most ll st) (hl : l.hp = some h) (hs : lfSame l h 81 keepTl .ret 1 10 460 = true) {th0 : LA} {sg0 : List (Nat × Nat)} (hth0 : ∀ X, ThOk (cx nu one 1 laidE laidE_stab) (DTl most ll st X) th0) (h0 : startOk l h 81 10 11 th0 sg0 (epTl st) (hpTl st) = true) {thx : LA} (hthx : ThOk (ETl_1 most ll) (cx nu one 1 laidE laidE_stab) thx) (hx : exitOk l h 81 10 460 thx [(4, .b true)] [] = true) : LfOk (cx nu one 1 laidE laidE_stab) bodyTl l :=
  lfOkX (E := ETl_1 most ll) (InvTl most ll) (muTl most ll) (DTl most ll) (fun _ _ => rfl) (fun _ _ => rfl) (fun _ _ => rfl) (fun st X t ht => nuX_keep.trans (rX_keep ((by decide : ∀ t, t ∈ keepTl → t < 1000000) t ht))) rfl rfl rfl hl hs ebTl rfl rfl st hI hth0 h0 hthx hx (roundsTl_1 most ll x0)
end Go.Proofs.YtlfmfmegnenohaaDoor.cutterTells
