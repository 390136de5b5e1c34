/- A part of the proof: an interpreter of the model's own code on partly known states, and that what it answers is what the program answers. No condition of its own. -/
import Derived.Test.YtbipkiiaajklhaaDoorS1PathTellsO10
set_option maxRecDepth 100000
set_option linter.unusedVariables false
set_option linter.unusedSimpArgs false
set_option maxHeartbeats 4000000
namespace Go.Proofs.YtbipkiiaajklhaaDoor.pathTells
open Go Go.AX Go.Proofs Go.Proofs.YtbipkiiaajklhaaDoor
variable {nu : Nat → Value} {one : ∀ i, i < 1000000 → (nu i).oneCell' = true} {E' : Cx} {x' : Ex} {e' : LA} {h' : LE}
noncomputable def cA2 : Code := aL8 (Tryd.f6.body.getD .skip) 0
theorem keyRm : aK6 (aC0 (Tryd.f6.body.getD .skip)) 7 0 0 = true := by kernel_rfl
def aS2 : List Nat := []
def dU1 : LA := [(2, .s 0 0), (3, I6 0), (4, .sr 104), (7, .x 0), (6, .x 1), (5, .nils)]
def dS6 : LE := [(104, .r 2000000 9 1 false)]
def aY6 (q : List LB) (Q : Option (LL × Bool)) (To : List LB) (B Bh : Bool) (i : Int) (o : List LB) (A : Bool) : List Value := [.int .i64 (i), .bool A, St' ([] : LB), .int .i64 ((q.length : Int)), St' (lI q i), St' (gS (lI q i)), .int .i64 (i + 1), St' ([] : LB), .int .i64 ((q.length : Int)), St' (lI q i), St' (gS (lI q i)), .int .i64 (i + 1), St' ([] : LB), .int .i64 ((q.length : Int)), St' (lI q i), St' (gS (lI q i)), St' ([] : LB), .int .i64 ((q.length : Int)), St' (lI q i), St' (gS (lI q i)), .int .i64 (i + 1), St' ([] : LB), .int .i64 ((q.length : Int)), St' (lI q i), St' ([] : LB), .int .i64 ((q.length : Int))]
def cN6 (q : List LB) (Q : Option (LL × Bool)) (To : List LB) (B Bh : Bool) (i : Int) (o : List LB) (A : Bool) : List Value := [rwS q, rwS ([] : List LB), rwS ([] : List LB), rwS ([] : List LB), rwS ([] : List LB), rwS (([] : List LB) ++ [(gS (lI q i))]), rwS ([] : List LB), rwS ([] : List LB)]
def bK0 : LA := [(2, .s 0 0), (3, I6 0), (4, .sr 104), (7, .x 0), (6, .x 1), (5, .sr 124)]
def bJ8 : LE := [(104, .r 2000000 9 1 false), (124, .r 2000001 9 1 false)]
def aY5 (q : List LB) (Q : Option (LL × Bool)) (To : List LB) (B Bh : Bool) (i : Int) (o : List LB) (A : Bool) : List Value := [.int .i64 (i), .bool A, St' ([] : LB), .int .i64 ((q.length : Int)), St' (lI q i), St' (gS (lI q i)), .int .i64 (i + 1), St' ([] : LB), .int .i64 ((q.length : Int)), St' (lI q i), St' (gS (lI q i)), .int .i64 (i + 1), St' ([] : LB), .int .i64 ((q.length : Int)), St' (lI q i), St' (gS (lI q i)), .int .i64 ((o.length : Int)), .int .i64 ((o.length : Int) - 1), .int .i64 (i + 1), St' ([] : LB), .int .i64 ((q.length : Int)), St' (lI q i), St' (gS (lI q i)), .int .i64 ((o.length : Int)), .int .i64 (i + 1), St' ([] : LB), .int .i64 ((q.length : Int)), St' (lI q i), St' ([] : LB), .int .i64 ((q.length : Int)), St' (lI q i), St' (gS (lI q i)), .int .i64 ((o.length : Int)), St' ([] : LB), .int .i64 ((q.length : Int)), St' (lI q i), St' (gS (lI q i)), .int .i64 ((o.length : Int)), .int .i64 (i + 1), St' ([] : LB), .int .i64 ((q.length : Int))]
def cN5 (q : List LB) (Q : Option (LL × Bool)) (To : List LB) (B Bh : Bool) (i : Int) (o : List LB) (A : Bool) : List Value := [rwS q, rwS o, rwS ([] : List LB), rwS ([] : List LB), rwS ([] : List LB), rwS (o.take (Int.toNat ((o.length : Int) - 1))), rwS ([] : List LB), rwS o, rwS (o ++ [(gS (lI q i))]), rwS ([] : List LB), rwS ([] : List LB), rwS ([] : List LB), rwS (([] : List LB) ++ [(gS (lI q i))]), rwS ([] : List LB)]
def epRm (st : Nat × Int × List LB × Bool) : LA := if st.1 = 0 then dU1 else bK0
def hpRm (st : Nat × Int × List LB × Bool) : LE := if st.1 = 0 then dS6 else bJ8
def nuRm (q : List LB) (Q : Option (LL × Bool)) (To : List LB) (B Bh : Bool) (st : Nat × Int × List LB × Bool) : List Value := if st.1 = 0 then aY6 q Q To B Bh (st.2.1) (st.2.2.1) (st.2.2.2) else aY5 q Q To B Bh (st.2.1) (st.2.2.1) (st.2.2.2)
def roRm (q : List LB) (Q : Option (LL × Bool)) (To : List LB) (B Bh : Bool) (st : Nat × Int × List LB × Bool) : List Value := if st.1 = 0 then cN6 q Q To B Bh (st.2.1) (st.2.2.1) (st.2.2.2) else cN5 q Q To B Bh (st.2.1) (st.2.2.1) (st.2.2.2)
theorem onRm (q : List LB) (Q : Option (LL × Bool)) (To : List LB) (B Bh : Bool) (st : Nat × Int × List LB × Bool) : ∀ j, (nuL (nuRm q Q To B Bh st) j).oneCell' = true := by
  intro j
  unfold nuRm
  by_cases g0 : st.1 = 0
  · rw [if_pos g0]; exact aA2 (l := aY6 q Q To B Bh (st.2.1) (st.2.2.1) (st.2.2.2)) rfl j
  rw [if_neg g0]
  exact aA2 (l := aY5 q Q To B Bh (st.2.1) (st.2.2.1) (st.2.2.2)) rfl j
theorem ebRm (st : Nat × Int × List LB × Bool) : (lfB (epRm st) && lfC aS2) = true := by
  unfold epRm
  by_cases g0 : st.1 = 0
  · rw [if_pos g0]; rfl
  rw [if_neg g0]
  rfl
noncomputable def DRm (q : List LB) (Q : Option (LL × Bool)) (To : List LB) (B Bh : Bool) (st : Nat × Int × List LB × Bool) (X : Nat → Value) : Cx := cx (nuX (nuRm q Q To B Bh st) (rX (roRm q Q To B Bh st) X)) (aA4 (onRm q Q To B Bh st)) 1 aA3 aA0
def aN6 (q : List LB) (Q : Option (LL × Bool)) (To : List LB) (B Bh : Bool) (st : Nat × Int × List LB × Bool) : Prop := (0 ≤ (st.2.1)) ∧ ((st.2.1) ≤ (q.length : Int)) ∧ (rfF (q.drop (Int.toNat (st.2.1))) (st.2.2.1) (st.2.2.2) = Q) ∧ ((decide (1 ≤ (st.1)) || apF (q.drop (Int.toNat (st.2.1)))) = B) ∧ ((st.1) < 1 → (st.2.2.1) = []) ∧ (((st.2.2.1).length : Int) ≤ (st.2.1)) ∧ ((st.1) < 2)
abbrev CjRm (q : List LB) (Q : Option (LL × Bool)) (To : List LB) (B Bh : Bool) (tag : Nat) (i : Int) (o : List LB) (A : Bool) : Prop := (0 ≤ i) ∧ (i ≤ (q.length : Int)) ∧ (rfF (q.drop (Int.toNat i)) o A = Q) ∧ ((decide (1 ≤ tag) || apF (q.drop (Int.toNat i))) = B) ∧ (tag < 1 → o = []) ∧ ((o.length : Int) ≤ i) ∧ (tag < 2)
theorem bL0 {q : List LB} {Q : Option (LL × Bool)} {To : List LB} {B Bh : Bool} {tag : Nat} {i : Int} {o : List LB} {A : Bool} (h : CjRm q Q To B Bh tag i o A) : aN6 q Q To B Bh (tag, i, o, A) := h
theorem bN6 (q : List LB) (Q : Option (LL × Bool)) (To : List LB) (B Bh : Bool) (tag : Nat) (i : Int) (o : List LB) (A : Bool) (h : aN6 q Q To B Bh (tag, i, o, A)) : (0 ≤ i) ∧ (i ≤ (q.length : Int)) ∧ (rfF (q.drop (Int.toNat i)) o A = Q) ∧ ((decide (1 ≤ tag) || apF (q.drop (Int.toNat i))) = B) ∧ (tag < 1 → o = []) ∧ ((o.length : Int) ≤ i) ∧ (tag < 2) := h
def muRm (q : List LB) (Q : Option (LL × Bool)) (To : List LB) (B Bh : Bool) (st : Nat × Int × List LB × Bool) : Nat := (q.length - (st.2.1).toNat)
abbrev RHRm (q : List LB) (Q : Option (LL × Bool)) (To : List LB) (B Bh : Bool) (E' : Cx) (ex' : Ex) (epx' : LA) (hpx' : LE) (st : Nat × Int × List LB × Bool) (X : Nat → Value) : Prop := aC3 E' cA2 aS2 94 ex' 4 124 125 144 epRm hpRm epx' hpx' (aN6 q Q To B Bh) (muRm q Q To B Bh) (DRm q Q To B Bh) st X
noncomputable abbrev bK7 (h : LK) (x : Ex) (th : LA) (sg : List (Nat × Nat)) (m : Nat) (ep : LA) (hp : LE) : Bool := aL4 (code (tbl h) 2500 [] cA2 (aH4 (aE4 dU1 aS2) 94) ⟨aD1 dS6 .leaf, 125, 0, 0⟩) x aS2 94 144 th sg 124 m ep hp
theorem dX1 {q : List LB} {Q : Option (LL × Bool)} {To : List LB} {B Bh : Bool} {i : Int} {o : List LB} {A : Bool} {X : Nat → Value} {h : LK} (y : Nat × Int × List LB × Bool) {th : LA} {sg : List (Nat × Nat)} (ho : ∀ a' r', (a', r') ∈ h → HOk (cx (nuX (aY6 q Q To B Bh i o A) (rX (cN6 q Q To B Bh i o A) X)) (aA4 (aA2 (l := aY6 q Q To B Bh i o A) rfl)) 1 aA3 aA0) a' r') (hy : aN6 q Q To B Bh y) (lt : muRm q Q To B Bh y < muRm q Q To B Bh (0, i, o, A)) (ht : ThOk (cx (nuX (aY6 q Q To B Bh i o A) (rX (cN6 q Q To B Bh i o A) X)) (aA4 (aA2 (l := aY6 q Q To B Bh i o A) rfl)) 1 aA3 aA0) (DRm q Q To B Bh y X) th) (run : bK7 h .normal th sg 125 (epRm y) (hpRm y) = true) : RHRm q Q To B Bh E' x' e' h' (0, i, o, A) X :=
  aC3.next (tb := tbl h) (L := []) (f := 2500) y ((aB0 _ _).hyps ho) (LpOk.nil _) rfl hy lt ht run
theorem eH9 {q : List LB} {Q : Option (LL × Bool)} {To : List LB} {B Bh : Bool} {i : Int} {o : List LB} {A : Bool} {X : Nat → Value} {h : LK} {th : LA} {sg : List (Nat × Nat)} (hne : exB x' .normal = false) (ho : ∀ a' r', (a', r') ∈ h → HOk (cx (nuX (aY6 q Q To B Bh i o A) (rX (cN6 q Q To B Bh i o A) X)) (aA4 (aA2 (l := aY6 q Q To B Bh i o A) rfl)) 1 aA3 aA0) a' r') (ht : ThOk (cx (nuX (aY6 q Q To B Bh i o A) (rX (cN6 q Q To B Bh i o A) X)) (aA4 (aA2 (l := aY6 q Q To B Bh i o A) rfl)) 1 aA3 aA0) E' th) (run : bK7 h x' th sg 144 e' h' = true) : RHRm q Q To B Bh E' x' e' h' (0, i, o, A) X :=
  aC3.leave (tb := tbl h) (L := []) (f := 2500) ((aB0 _ _).hyps ho) (LpOk.nil _) rfl hne ht run
noncomputable abbrev aZ5 (h : LK) (x : Ex) (th : LA) (sg : List (Nat × Nat)) (m : Nat) (ep : LA) (hp : LE) : Bool := aL4 (code (tbl h) 2500 [] cA2 (aH4 (aE4 bK0 aS2) 94) ⟨aD1 bJ8 .leaf, 125, 0, 0⟩) x aS2 94 144 th sg 124 m ep hp
theorem cM1 {q : List LB} {Q : Option (LL × Bool)} {To : List LB} {B Bh : Bool} {i : Int} {o : List LB} {A : Bool} {X : Nat → Value} {h : LK} (y : Nat × Int × List LB × Bool) {th : LA} {sg : List (Nat × Nat)} (ho : ∀ a' r', (a', r') ∈ h → HOk (cx (nuX (aY5 q Q To B Bh i o A) (rX (cN5 q Q To B Bh i o A) X)) (aA4 (aA2 (l := aY5 q Q To B Bh i o A) rfl)) 1 aA3 aA0) a' r') (hy : aN6 q Q To B Bh y) (lt : muRm q Q To B Bh y < muRm q Q To B Bh (1, i, o, A)) (ht : ThOk (cx (nuX (aY5 q Q To B Bh i o A) (rX (cN5 q Q To B Bh i o A) X)) (aA4 (aA2 (l := aY5 q Q To B Bh i o A) rfl)) 1 aA3 aA0) (DRm q Q To B Bh y X) th) (run : aZ5 h .normal th sg 125 (epRm y) (hpRm y) = true) : RHRm q Q To B Bh E' x' e' h' (1, i, o, A) X :=
  aC3.next (tb := tbl h) (L := []) (f := 2500) y ((aB0 _ _).hyps ho) (LpOk.nil _) rfl hy lt ht run
theorem eH8 {q : List LB} {Q : Option (LL × Bool)} {To : List LB} {B Bh : Bool} {i : Int} {o : List LB} {A : Bool} {X : Nat → Value} {h : LK} {th : LA} {sg : List (Nat × Nat)} (hne : exB x' .normal = false) (ho : ∀ a' r', (a', r') ∈ h → HOk (cx (nuX (aY5 q Q To B Bh i o A) (rX (cN5 q Q To B Bh i o A) X)) (aA4 (aA2 (l := aY5 q Q To B Bh i o A) rfl)) 1 aA3 aA0) a' r') (ht : ThOk (cx (nuX (aY5 q Q To B Bh i o A) (rX (cN5 q Q To B Bh i o A) X)) (aA4 (aA2 (l := aY5 q Q To B Bh i o A) rfl)) 1 aA3 aA0) E' th) (run : aZ5 h x' th sg 144 e' h' = true) : RHRm q Q To B Bh E' x' e' h' (1, i, o, A) X :=
  aC3.leave (tb := tbl h) (L := []) (f := 2500) ((aB0 _ _).hyps ho) (LpOk.nil _) rfl hne ht run
def dD5 : LK := [(.rl (.x 2000000) 1, .x 3), (.bin .lss (.x 0) (.x 3), .b true), (.el (.x 2000000) (.x 0) 1 0, .x 4), (.call 21 [.x 4], .tu [.x 5, .b true]), (.bin .eql (.x 5) (.s 0 0), .b true), (.bin .eql (.x 5) (.s 2 11822), .b false), (.bin .add (.x 0) (I6 1), .x 6)]
theorem runRm_p0 : bK7 dD5 .normal [(0, .x 6), (1, .b true), (2000000, .x 2000000)] [] 125 dU1 dS6 = true := by kernel_rfl
def dD4 : LK := [(.rl (.x 2000000) 1, .x 8), (.bin .lss (.x 0) (.x 8), .b true), (.el (.x 2000000) (.x 0) 1 0, .x 9), (.call 21 [.x 9], .tu [.x 10, .b true]), (.bin .eql (.x 10) (.s 0 0), .b false), (.bin .eql (.x 10) (.s 1 46), .b true), (.bin .eql (.x 10) (.s 2 11822), .b false), (.bin .add (.x 0) (I6 1), .x 11)]
theorem runRm_p1 : bK7 dD4 .normal [(0, .x 11), (1, .b true), (2000000, .x 2000000)] [] 125 dU1 dS6 = true := by kernel_rfl
def dD3 : LK := [(.rl (.x 2000000) 1, .x 13), (.bin .lss (.x 0) (.x 13), .b true), (.el (.x 2000000) (.x 0) 1 0, .x 14), (.call 21 [.x 14], .tu [.x 15, .b true]), (.bin .eql (.x 15) (.s 0 0), .b false), (.bin .eql (.x 15) (.s 1 46), .b false), (.bin .eql (.x 15) (.s 2 11822), .b true)]
theorem runRm_p2 : bK7 dD3 .ret [] [] 144 [(2, .s 0 0), (3, I6 10)] [] = true := by kernel_rfl
def dD2 : LK := [(.rn, .x 2000004), (.rl (.x 2000000) 1, .x 17), (.bin .lss (.x 0) (.x 17), .b true), (.el (.x 2000000) (.x 0) 1 0, .x 18), (.call 21 [.x 18], .tu [.x 19, .b true]), (.bin .eql (.x 19) (.s 0 0), .b false), (.bin .eql (.x 19) (.s 1 46), .b false), (.bin .eql (.x 19) (.s 2 11822), .b false), (.ra (.x 2000004) [.x 19], .x 2000005), (.rf (.x 2000005) 1 16, .b true), (.bin .add (.x 0) (I6 1), .x 20)]
theorem runRm_p3 : bK7 dD2 .normal [(0, .x 20), (1, .b false), (2000000, .x 2000000), (2000001, .x 2000005)] [(124, 126)] 125 bK0 bJ8 = true := by kernel_rfl
def dD1 : LK := [(.rl (.x 2000000) 1, .x 22), (.bin .lss (.x 0) (.x 22), .b true), (.el (.x 2000000) (.x 0) 1 0, .x 23), (.call 21 [.x 23], .tu [.s 0 0, .b false])]
theorem runRm_p4 : bK7 dD1 .ret [] [] 144 [(2, .s 0 0), (3, I6 10)] [] = true := by kernel_rfl
def dD0 : LK := [(.rl (.x 2000000) 1, .x 3), (.bin .lss (.x 0) (.x 3), .b true), (.el (.x 2000000) (.x 0) 1 0, .x 4), (.call 21 [.x 4], .tu [.x 5, .b true]), (.bin .eql (.x 5) (.s 0 0), .b true), (.bin .eql (.x 5) (.s 2 11822), .b false), (.bin .add (.x 0) (I6 1), .x 6)]
theorem runRm_p5 : aZ5 dD0 .normal [(0, .x 6), (1, .b true), (2000000, .x 2000000), (2000001, .x 2000001)] [(124, 124)] 125 bK0 bJ8 = true := by kernel_rfl
def dC9 : LK := [(.rl (.x 2000000) 1, .x 8), (.bin .lss (.x 0) (.x 8), .b true), (.el (.x 2000000) (.x 0) 1 0, .x 9), (.call 21 [.x 9], .tu [.x 10, .b true]), (.bin .eql (.x 10) (.s 0 0), .b false), (.bin .eql (.x 10) (.s 1 46), .b true), (.bin .eql (.x 10) (.s 2 11822), .b false), (.bin .add (.x 0) (I6 1), .x 11)]
theorem runRm_p6 : aZ5 dC9 .normal [(0, .x 11), (1, .b true), (2000000, .x 2000000), (2000001, .x 2000001)] [(124, 124)] 125 bK0 bJ8 = true := by kernel_rfl
def dC8 : LK := [(.rl (.x 2000000) 1, .x 13), (.bin .lss (.x 0) (.x 13), .b true), (.el (.x 2000000) (.x 0) 1 0, .x 14), (.call 21 [.x 14], .tu [.x 15, .b true]), (.bin .eql (.x 15) (.s 0 0), .b false), (.bin .eql (.x 15) (.s 1 46), .b false), (.bin .eql (.x 15) (.s 2 11822), .b true), (.rl (.x 2000001) 1, .x 16), (.bin .eql (.x 16) (I6 0), .b false), (.bin .sub (.x 16) (I6 1), .x 17), (.rt (.x 2000001) (.x 17) 1, .x 2000005), (.bin .add (.x 0) (I6 1), .x 18)]
theorem runRm_p7 : aZ5 dC8 .normal [(0, .x 18), (1, .b true), (2000000, .x 2000000), (2000001, .x 2000005)] [(124, 125)] 125 bK0 bJ8 = true := by kernel_rfl
def dC7 : LK := [(.rn, .x 2000006), (.rl (.x 2000000) 1, .x 20), (.bin .lss (.x 0) (.x 20), .b true), (.el (.x 2000000) (.x 0) 1 0, .x 21), (.call 21 [.x 21], .tu [.x 22, .b true]), (.bin .eql (.x 22) (.s 0 0), .b false), (.bin .eql (.x 22) (.s 1 46), .b false), (.bin .eql (.x 22) (.s 2 11822), .b false), (.rl (.x 2000001) 1, .x 23), (.bin .gtr (.x 23) (I6 0), .b true), (.rr (.x 2000006) (.x 2000001), .x 2000007), (.rf (.x 2000007) 1 16, .b true), (.ra (.x 2000007) [.x 22], .x 2000008), (.rf (.x 2000008) 1 16, .b true), (.bin .add (.x 0) (I6 1), .x 24)]
theorem runRm_p8 : aZ5 dC7 .normal [(0, .x 24), (1, .b false), (2000000, .x 2000000), (2000001, .x 2000008)] [(124, 127)] 125 bK0 bJ8 = true := by kernel_rfl
def dC6 : LK := [(.rl (.x 2000000) 1, .x 26), (.bin .lss (.x 0) (.x 26), .b true), (.el (.x 2000000) (.x 0) 1 0, .x 27), (.call 21 [.x 27], .tu [.s 0 0, .b false])]
theorem runRm_p9 : aZ5 dC6 .ret [] [] 144 [(2, .s 0 0), (3, I6 10)] [] = true := by kernel_rfl
def cI5 : LK := [(.rl (.x 2000000) 1, .x 29), (.bin .lss (.x 0) (.x 29), .b true), (.el (.x 2000000) (.x 0) 1 0, .x 30), (.call 21 [.x 30], .tu [.x 31, .b true]), (.bin .eql (.x 31) (.s 0 0), .b false), (.bin .eql (.x 31) (.s 1 46), .b false), (.bin .eql (.x 31) (.s 2 11822), .b true), (.rl (.x 2000001) 1, .x 32), (.bin .eql (.x 32) (I6 0), .b true)]
theorem runRm_p10 : aZ5 cI5 .ret [] [] 144 [(2, .s 0 0), (3, I6 10)] [] = true := by kernel_rfl
def cI4 : LK := [(.rn, .x 2000011), (.rl (.x 2000000) 1, .x 34), (.bin .lss (.x 0) (.x 34), .b true), (.el (.x 2000000) (.x 0) 1 0, .x 35), (.call 21 [.x 35], .tu [.x 36, .b true]), (.bin .eql (.x 36) (.s 0 0), .b false), (.bin .eql (.x 36) (.s 1 46), .b false), (.bin .eql (.x 36) (.s 2 11822), .b false), (.rl (.x 2000001) 1, .x 37), (.bin .gtr (.x 37) (I6 0), .b false), (.ra (.x 2000011) [.x 36], .x 2000012), (.rf (.x 2000012) 1 16, .b true), (.bin .add (.x 0) (I6 1), .x 38)]
theorem runRm_p11 : aZ5 cI4 .normal [(0, .x 38), (1, .b false), (2000000, .x 2000000), (2000001, .x 2000012)] [(124, 126)] 125 bK0 bJ8 = true := by kernel_rfl
def cI3 : LK := [(.rl (.x 2000000) 1, .x 25), (.bin .lss (.x 0) (.x 25), .b false)]
theorem runRm_p12 : bK7 cI3 (.exit 0) [(0, .x 1)] [] 144 [(5, .nils), (6, .x 0)] [] = true := by kernel_rfl
def cI2 : LK := [(.rl (.x 2000000) 1, .x 40), (.bin .lss (.x 0) (.x 40), .b false)]
theorem runRm_p13 : aZ5 cI2 (.exit 0) [(0, .x 1), (2000000, .x 2000001)] [(124, 124)] 144 [(5, .sr 124), (6, .x 0)] [(124, .r 2000000 9 1 false)] = true := by kernel_rfl
section
variable {q : List LB} {Q : Option (LL × Bool)} {To : List LB} {B Bh : Bool} (c0 : q.length ≤ 1001) (c1 : ∀ x ∈ q, x.length ≤ 400) {i : Int} {o : List LB} {A : Bool} {X : Nat → Value}
include c0 c1
theorem cX2 (hI : aN6 q Q To B Bh (0, i, o, A)) (h0 : i < (q.length : Int)) (h1 : ¬ (dcS (lI q i) = none)) (h2 : ((gS (lI q i)).length : Int) = 0) : RHRm q Q To B Bh E' x' e' h' (0, i, o, A) X := by
  obtain ⟨i0, i1, i2, i3, i4, i5, it⟩ := bN6 q Q To B Bh 0 i o A hI
  have := aR9 c1 i
  have := aD2 (lI q i)
  refine dX1 (h := dD5) (0, (i + 1), ([] : List LB), true) ?_ (bL0 ⟨by omega, by omega, cO1 (by omega) (by omega) (aM4 (o := []) (by assumption) (ps_0 (by omega))).1 ((aM4 (o := []) (by assumption) (ps_0 (by omega))).2.2) (show rfF (q.drop (Int.toNat i)) [] A = Q from by have e := i2; rw [i4 (by omega)] at e; exact e), eN2 (by omega) (by omega) (aM4 (o := []) (by assumption) (ps_0 (by omega))).2.1 i3, fun _ => rfl, by first | omega | (simp only [List.length_append, List.length_cons, List.length_nil, List.length_take]; omega), by omega⟩) (by show q.length - (i + 1).toNat < q.length - i.toNat; omega) (thXi (b := ((i + 1))) rfl rfl (by omega) (aC2 (show Is _ (.b true) (.bool true) from isTo (v := .bool true) (isBb) (by first | rfl | (simp; done))) (thXv (v := rwS q) rfl rfl (aA6)))) runRm_p0
  unfold dD5
  exact hc (kRl (isX rfl) (denX rfl) (by first | omega | (simp <;> omega))) <|hc (ltT rfl rfl (by omega)) <|hc (kEl (j := (Int.toNat (i))) (isX rfl) (isX rfl) (denX rfl) (by omega) (by omega)) <|hc (aS4 (s := (lI q i)) (isX rfl) (by rw [rp_y (by assumption)]; exact aE6 (denX rfl) (denB true)) (by omega) (by omega)) <|hc (kEqS (isX rfl) (isSx (l := ([] : LB)) 0 0 rfl) (nilT (by omega))) <|hc (kEqS (isX rfl) (isSx (l := [u8 46, u8 46]) 2 11822 rfl) (decide_eq_false (by first | assumption | (intro e; have h := congrArg List.length e; simp only [List.length_cons, List.length_nil] at h; omega)))) <|hc (adC rfl rfl (by omega)) <|hnil
theorem cX1 (hI : aN6 q Q To B Bh (0, i, o, A)) (h0 : i < (q.length : Int)) (h1 : ¬ (dcS (lI q i) = none)) (h2 : ¬ (((gS (lI q i)).length : Int) = 0)) (h3 : (gS (lI q i)) = [u8 46]) : RHRm q Q To B Bh E' x' e' h' (0, i, o, A) X := by
  obtain ⟨i0, i1, i2, i3, i4, i5, it⟩ := bN6 q Q To B Bh 0 i o A hI
  have := aR9 c1 i
  have := aD2 (lI q i)
  have hl1 := congrArg List.length (by assumption : (gS (lI q i)) = [u8 46]); simp only [List.length_cons, List.length_nil] at hl1
  refine dX1 (h := dD4) (0, (i + 1), ([] : List LB), true) ?_ (bL0 ⟨by omega, by omega, cO1 (by omega) (by omega) (aM4 (o := []) (by assumption) (ps_1 (by assumption))).1 ((aM4 (o := []) (by assumption) (ps_1 (by assumption))).2.2) (show rfF (q.drop (Int.toNat i)) [] A = Q from by have e := i2; rw [i4 (by omega)] at e; exact e), eN2 (by omega) (by omega) (aM4 (o := []) (by assumption) (ps_1 (by assumption))).2.1 i3, fun _ => rfl, by first | omega | (simp only [List.length_append, List.length_cons, List.length_nil, List.length_take]; omega), by omega⟩) (by show q.length - (i + 1).toNat < q.length - i.toNat; omega) (thXi (b := ((i + 1))) rfl rfl (by omega) (aC2 (show Is _ (.b true) (.bool true) from isTo (v := .bool true) (isBb) (by first | rfl | (simp; done))) (thXv (v := rwS q) rfl rfl (aA6)))) runRm_p1
  unfold dD4
  exact hc (kRl (isX rfl) (denX rfl) (by first | omega | (simp <;> omega))) <|hc (ltT rfl rfl (by omega)) <|hc (kEl (j := (Int.toNat (i))) (isX rfl) (isX rfl) (denX rfl) (by omega) (by omega)) <|hc (aS4 (s := (lI q i)) (isX rfl) (by rw [rp_y (by assumption)]; exact aE6 (denX rfl) (denB true)) (by omega) (by omega)) <|hc (kEqS (isX rfl) (isSx (l := ([] : LB)) 0 0 rfl) (nilF (by omega))) <|hc (kEqS (isX rfl) (isSx (l := [u8 46]) 1 46 rfl) (decide_eq_true (by assumption))) <|hc (kEqS (isX rfl) (isSx (l := [u8 46, u8 46]) 2 11822 rfl) (decide_eq_false (by first | assumption | (intro e; have h := congrArg List.length e; simp only [List.length_cons, List.length_nil] at h; omega)))) <|hc (adC rfl rfl (by omega)) <|hnil
theorem cX0 (hI : aN6 q Q To B Bh (0, i, o, A)) (h0 : i < (q.length : Int)) (h1 : ¬ (dcS (lI q i) = none)) (h2 : ¬ (((gS (lI q i)).length : Int) = 0)) (h3 : ¬ ((gS (lI q i)) = [u8 46])) (h4 : ¬ ((gS (lI q i)) = [u8 46, u8 46])) : RHRm q Q To B Bh E' x' e' h' (0, i, o, A) X := by
  obtain ⟨i0, i1, i2, i3, i4, i5, it⟩ := bN6 q Q To B Bh 0 i o A hI
  have := aR9 c1 i
  have := aD2 (lI q i)
  refine dX1 (h := dD2) (1, (i + 1), (([] : List LB) ++ [(gS (lI q i))]), false) ?_ (bL0 ⟨by omega, by omega, cO1 (by omega) (by omega) (aT3 (o := []) (by assumption) (by assumption) (by rw [ps_n (by omega) (by assumption)]; simp)).1 ((aT3 (o := []) (by assumption) (by assumption) (by rw [ps_n (by omega) (by assumption)]; simp)).2.2) (show rfF (q.drop (Int.toNat i)) [] A = Q from by have e := i2; rw [i4 (by omega)] at e; exact e), by rw [af_yes (by omega) (by omega) (aT3 (o := []) (by assumption) (by assumption) (by rw [ps_n (by omega) (by assumption)]; simp)).2.1 i3]; rfl, fun h => by omega, by first | omega | (simp only [List.length_append, List.length_cons, List.length_nil, List.length_take]; omega), by omega⟩) (by show q.length - (i + 1).toNat < q.length - i.toNat; omega) (thXi (b := ((i + 1))) rfl rfl (by omega) (aC2 (show Is _ (.b false) (.bool false) from isTo (v := .bool false) (isBb) (by first | rfl | (simp; done))) (thXv (v := rwS q) rfl rfl (thXv (v := rwS (([] : List LB) ++ [(gS (lI q i))])) rfl rfl (aA6))))) runRm_p3
  unfold dD2
  exact hc (kRn (denX rfl)) <|hc (kRl (isX rfl) (denX rfl) (by first | omega | (simp <;> omega))) <|hc (ltT rfl rfl (by omega)) <|hc (kEl (j := (Int.toNat (i))) (isX rfl) (isX rfl) (denX rfl) (by omega) (by omega)) <|hc (aS4 (s := (lI q i)) (isX rfl) (by rw [rp_y (by assumption)]; exact aE6 (denX rfl) (denB true)) (by omega) (by omega)) <|hc (kEqS (isX rfl) (isSx (l := ([] : LB)) 0 0 rfl) (nilF (by omega))) <|hc (kEqS (isX rfl) (isSx (l := [u8 46]) 1 46 rfl) (decide_eq_false (by first | assumption | (intro e; have h := congrArg List.length e; simp only [List.length_cons, List.length_nil] at h; omega)))) <|hc (kEqS (isX rfl) (isSx (l := [u8 46, u8 46]) 2 11822 rfl) (decide_eq_false (by first | assumption | (intro e; have h := congrArg List.length e; simp only [List.length_cons, List.length_nil] at h; omega)))) <|hc (kRa (isX rfl) (isX rfl) (denX rfl)) <|hc (kRf (isX rfl) (by first | omega | (simp <;> omega)) (by first | omega | (simp <;> omega))) <|hc (adC rfl rfl (by omega)) <|hnil
theorem cW9 (hI : aN6 q Q To B Bh (1, i, o, A)) (h0 : i < (q.length : Int)) (h1 : ¬ (dcS (lI q i) = none)) (h2 : ((gS (lI q i)).length : Int) = 0) : RHRm q Q To B Bh E' x' e' h' (1, i, o, A) X := by
  obtain ⟨i0, i1, i2, i3, i4, i5, it⟩ := bN6 q Q To B Bh 1 i o A hI
  have := aR9 c1 i
  have := aD2 (lI q i)
  refine cM1 (h := dD0) (1, (i + 1), o, true) ?_ (bL0 ⟨by omega, by omega, cO1 (by omega) (by omega) (aM4 (o := o) (by assumption) (ps_0 (by omega))).1 ((aM4 (o := o) (by assumption) (ps_0 (by omega))).2.2) i2, eN2 (by omega) (by omega) (aM4 (o := o) (by assumption) (ps_0 (by omega))).2.1 i3, fun h => by omega, by first | omega | (simp only [List.length_append, List.length_cons, List.length_nil, List.length_take]; omega), by omega⟩) (by show q.length - (i + 1).toNat < q.length - i.toNat; omega) (thXi (b := ((i + 1))) rfl rfl (by omega) (aC2 (show Is _ (.b true) (.bool true) from isTo (v := .bool true) (isBb) (by first | rfl | (simp; done))) (thXv (v := rwS q) rfl rfl (thXv (v := rwS o) rfl rfl (aA6))))) runRm_p5
  unfold dD0
  exact hc (kRl (isX rfl) (denX rfl) (by first | omega | (simp <;> omega))) <|hc (ltT rfl rfl (by omega)) <|hc (kEl (j := (Int.toNat (i))) (isX rfl) (isX rfl) (denX rfl) (by omega) (by omega)) <|hc (aS4 (s := (lI q i)) (isX rfl) (by rw [rp_y (by assumption)]; exact aE6 (denX rfl) (denB true)) (by omega) (by omega)) <|hc (kEqS (isX rfl) (isSx (l := ([] : LB)) 0 0 rfl) (nilT (by omega))) <|hc (kEqS (isX rfl) (isSx (l := [u8 46, u8 46]) 2 11822 rfl) (decide_eq_false (by first | assumption | (intro e; have h := congrArg List.length e; simp only [List.length_cons, List.length_nil] at h; omega)))) <|hc (adC rfl rfl (by omega)) <|hnil
theorem cW8 (hI : aN6 q Q To B Bh (1, i, o, A)) (h0 : i < (q.length : Int)) (h1 : ¬ (dcS (lI q i) = none)) (h2 : ¬ (((gS (lI q i)).length : Int) = 0)) (h3 : (gS (lI q i)) = [u8 46]) : RHRm q Q To B Bh E' x' e' h' (1, i, o, A) X := by
  obtain ⟨i0, i1, i2, i3, i4, i5, it⟩ := bN6 q Q To B Bh 1 i o A hI
  have := aR9 c1 i
  have := aD2 (lI q i)
  have hl1 := congrArg List.length (by assumption : (gS (lI q i)) = [u8 46]); simp only [List.length_cons, List.length_nil] at hl1
  refine cM1 (h := dC9) (1, (i + 1), o, true) ?_ (bL0 ⟨by omega, by omega, cO1 (by omega) (by omega) (aM4 (o := o) (by assumption) (ps_1 (by assumption))).1 ((aM4 (o := o) (by assumption) (ps_1 (by assumption))).2.2) i2, eN2 (by omega) (by omega) (aM4 (o := o) (by assumption) (ps_1 (by assumption))).2.1 i3, fun h => by omega, by first | omega | (simp only [List.length_append, List.length_cons, List.length_nil, List.length_take]; omega), by omega⟩) (by show q.length - (i + 1).toNat < q.length - i.toNat; omega) (thXi (b := ((i + 1))) rfl rfl (by omega) (aC2 (show Is _ (.b true) (.bool true) from isTo (v := .bool true) (isBb) (by first | rfl | (simp; done))) (thXv (v := rwS q) rfl rfl (thXv (v := rwS o) rfl rfl (aA6))))) runRm_p6
  unfold dC9
  exact hc (kRl (isX rfl) (denX rfl) (by first | omega | (simp <;> omega))) <|hc (ltT rfl rfl (by omega)) <|hc (kEl (j := (Int.toNat (i))) (isX rfl) (isX rfl) (denX rfl) (by omega) (by omega)) <|hc (aS4 (s := (lI q i)) (isX rfl) (by rw [rp_y (by assumption)]; exact aE6 (denX rfl) (denB true)) (by omega) (by omega)) <|hc (kEqS (isX rfl) (isSx (l := ([] : LB)) 0 0 rfl) (nilF (by omega))) <|hc (kEqS (isX rfl) (isSx (l := [u8 46]) 1 46 rfl) (decide_eq_true (by assumption))) <|hc (kEqS (isX rfl) (isSx (l := [u8 46, u8 46]) 2 11822 rfl) (decide_eq_false (by first | assumption | (intro e; have h := congrArg List.length e; simp only [List.length_cons, List.length_nil] at h; omega)))) <|hc (adC rfl rfl (by omega)) <|hnil
theorem cW7 (hI : aN6 q Q To B Bh (1, i, o, A)) (h0 : i < (q.length : Int)) (h1 : ¬ (dcS (lI q i) = none)) (h2 : ¬ (((gS (lI q i)).length : Int) = 0)) (h3 : ¬ ((gS (lI q i)) = [u8 46])) (h4 : (gS (lI q i)) = [u8 46, u8 46]) (h5 : ¬ ((o.length : Int) = 0)) : RHRm q Q To B Bh E' x' e' h' (1, i, o, A) X := by
  obtain ⟨i0, i1, i2, i3, i4, i5, it⟩ := bN6 q Q To B Bh 1 i o A hI
  have := aR9 c1 i
  have := aD2 (lI q i)
  have hl1 := congrArg List.length (by assumption : (gS (lI q i)) = [u8 46, u8 46]); simp only [List.length_cons, List.length_nil] at hl1
  refine cM1 (h := dC8) (1, (i + 1), (o.take (Int.toNat ((o.length : Int) - 1))), true) ?_ (bL0 ⟨by omega, by omega, cO1 (by omega) (by omega) (st_pop (o := o) (by assumption) (by assumption) (by omega)).1 (dd_y (by assumption)) i2, eN2 (by omega) (by omega) (st_pop (o := o) (by assumption) (by assumption) (by omega)).2 i3, fun h => by omega, by first | omega | (simp only [List.length_append, List.length_cons, List.length_nil, List.length_take]; omega), by omega⟩) (by show q.length - (i + 1).toNat < q.length - i.toNat; omega) (thXi (b := ((i + 1))) rfl rfl (by omega) (aC2 (show Is _ (.b true) (.bool true) from isTo (v := .bool true) (isBb) (by first | rfl | (simp; done))) (thXv (v := rwS q) rfl rfl (thXv (v := rwS (o.take (Int.toNat ((o.length : Int) - 1)))) rfl rfl (aA6))))) runRm_p7
  unfold dC8
  exact hc (kRl (isX rfl) (denX rfl) (by first | omega | (simp <;> omega))) <|hc (ltT rfl rfl (by omega)) <|hc (kEl (j := (Int.toNat (i))) (isX rfl) (isX rfl) (denX rfl) (by omega) (by omega)) <|hc (aS4 (s := (lI q i)) (isX rfl) (by rw [rp_y (by assumption)]; exact aE6 (denX rfl) (denB true)) (by omega) (by omega)) <|hc (kEqS (isX rfl) (isSx (l := ([] : LB)) 0 0 rfl) (nilF (by omega))) <|hc (kEqS (isX rfl) (isSx (l := [u8 46]) 1 46 rfl) (decide_eq_false (by first | assumption | (intro e; have h := congrArg List.length e; simp only [List.length_cons, List.length_nil] at h; omega)))) <|hc (kEqS (isX rfl) (isSx (l := [u8 46, u8 46]) 2 11822 rfl) (decide_eq_true (by assumption))) <|hc (kRl (isX rfl) (denX rfl) (by first | omega | (simp <;> omega))) <|hc (eqcF rfl (by omega)) <|hc (sbC rfl rfl (by omega)) <|hc (kRtS (j := (Int.toNat ((o.length : Int) - 1))) (isX rfl) (isX rfl) (denX rfl) (by omega) (by omega)) <|hc (adC rfl rfl (by omega)) <|hnil
theorem cW6 (hI : aN6 q Q To B Bh (1, i, o, A)) (h0 : i < (q.length : Int)) (h1 : ¬ (dcS (lI q i) = none)) (h2 : ¬ (((gS (lI q i)).length : Int) = 0)) (h3 : ¬ ((gS (lI q i)) = [u8 46])) (h4 : ¬ ((gS (lI q i)) = [u8 46, u8 46])) (h5 : 0 < (o.length : Int)) : RHRm q Q To B Bh E' x' e' h' (1, i, o, A) X := by
  obtain ⟨i0, i1, i2, i3, i4, i5, it⟩ := bN6 q Q To B Bh 1 i o A hI
  have := aR9 c1 i
  have := aD2 (lI q i)
  refine cM1 (h := dC7) (1, (i + 1), (o ++ [(gS (lI q i))]), false) ?_ (bL0 ⟨by omega, by omega, cO1 (by omega) (by omega) (aT3 (o := o) (by assumption) (by assumption) (by rw [ps_n (by omega) (by assumption)]; simp)).1 ((aT3 (o := o) (by assumption) (by assumption) (by rw [ps_n (by omega) (by assumption)]; simp)).2.2) i2, by rw [← i3]; rfl, fun h => by omega, by first | omega | (simp only [List.length_append, List.length_cons, List.length_nil, List.length_take]; omega), by omega⟩) (by show q.length - (i + 1).toNat < q.length - i.toNat; omega) (thXi (b := ((i + 1))) rfl rfl (by omega) (aC2 (show Is _ (.b false) (.bool false) from isTo (v := .bool false) (isBb) (by first | rfl | (simp; done))) (thXv (v := rwS q) rfl rfl (thXv (v := rwS (o ++ [(gS (lI q i))])) rfl rfl (aA6))))) runRm_p8
  unfold dC7
  exact hc (kRn (denX rfl)) <|hc (kRl (isX rfl) (denX rfl) (by first | omega | (simp <;> omega))) <|hc (ltT rfl rfl (by omega)) <|hc (kEl (j := (Int.toNat (i))) (isX rfl) (isX rfl) (denX rfl) (by omega) (by omega)) <|hc (aS4 (s := (lI q i)) (isX rfl) (by rw [rp_y (by assumption)]; exact aE6 (denX rfl) (denB true)) (by omega) (by omega)) <|hc (kEqS (isX rfl) (isSx (l := ([] : LB)) 0 0 rfl) (nilF (by omega))) <|hc (kEqS (isX rfl) (isSx (l := [u8 46]) 1 46 rfl) (decide_eq_false (by first | assumption | (intro e; have h := congrArg List.length e; simp only [List.length_cons, List.length_nil] at h; omega)))) <|hc (kEqS (isX rfl) (isSx (l := [u8 46, u8 46]) 2 11822 rfl) (decide_eq_false (by first | assumption | (intro e; have h := congrArg List.length e; simp only [List.length_cons, List.length_nil] at h; omega)))) <|hc (kRl (isX rfl) (denX rfl) (by first | omega | (simp <;> omega))) <|hc (gtcT rfl (by omega)) <|hc (kRrS (l := ([] : List LB)) (m := o) (isX rfl) (isX rfl) (denX rfl)) <|hc (kRf (isX rfl) (by first | omega | (simp <;> omega)) (by first | omega | (simp <;> omega))) <|hc (kRa (isX rfl) (isX rfl) (denX rfl)) <|hc (kRf (isX rfl) (by first | omega | (simp <;> omega)) (by first | omega | (simp <;> omega))) <|hc (adC rfl rfl (by omega)) <|hnil
theorem cC1 (hI : aN6 q Q To B Bh (1, i, o, A)) (h0 : i < (q.length : Int)) (h1 : ¬ (dcS (lI q i) = none)) (h2 : ¬ (((gS (lI q i)).length : Int) = 0)) (h3 : ¬ ((gS (lI q i)) = [u8 46])) (h4 : ¬ ((gS (lI q i)) = [u8 46, u8 46])) (h5 : ¬ (0 < (o.length : Int))) : RHRm q Q To B Bh E' x' e' h' (1, i, o, A) X := by
  obtain ⟨i0, i1, i2, i3, i4, i5, it⟩ := bN6 q Q To B Bh 1 i o A hI
  have := aR9 c1 i
  have := aD2 (lI q i)
  refine cM1 (h := cI4) (1, (i + 1), (([] : List LB) ++ [(gS (lI q i))]), false) ?_ (bL0 ⟨by omega, by omega, cO1 (by omega) (by omega) (aT3 (o := []) (by assumption) (by assumption) (by rw [ps_n (by omega) (by assumption)]; simp)).1 ((aT3 (o := []) (by assumption) (by assumption) (by rw [ps_n (by omega) (by assumption)]; simp)).2.2) (show rfF (q.drop (Int.toNat i)) [] A = Q from by have e := i2; rw [(List.eq_nil_of_length_eq_zero (by omega) : o = [])] at e; exact e), by rw [← i3]; rfl, fun h => by omega, by first | omega | (simp only [List.length_append, List.length_cons, List.length_nil, List.length_take]; omega), by omega⟩) (by show q.length - (i + 1).toNat < q.length - i.toNat; omega) (thXi (b := ((i + 1))) rfl rfl (by omega) (aC2 (show Is _ (.b false) (.bool false) from isTo (v := .bool false) (isBb) (by first | rfl | (simp; done))) (thXv (v := rwS q) rfl rfl (thXv (v := rwS (([] : List LB) ++ [(gS (lI q i))])) rfl rfl (aA6))))) runRm_p11
  unfold cI4
  exact hc (kRn (denX rfl)) <|hc (kRl (isX rfl) (denX rfl) (by first | omega | (simp <;> omega))) <|hc (ltT rfl rfl (by omega)) <|hc (kEl (j := (Int.toNat (i))) (isX rfl) (isX rfl) (denX rfl) (by omega) (by omega)) <|hc (aS4 (s := (lI q i)) (isX rfl) (by rw [rp_y (by assumption)]; exact aE6 (denX rfl) (denB true)) (by omega) (by omega)) <|hc (kEqS (isX rfl) (isSx (l := ([] : LB)) 0 0 rfl) (nilF (by omega))) <|hc (kEqS (isX rfl) (isSx (l := [u8 46]) 1 46 rfl) (decide_eq_false (by first | assumption | (intro e; have h := congrArg List.length e; simp only [List.length_cons, List.length_nil] at h; omega)))) <|hc (kEqS (isX rfl) (isSx (l := [u8 46, u8 46]) 2 11822 rfl) (decide_eq_false (by first | assumption | (intro e; have h := congrArg List.length e; simp only [List.length_cons, List.length_nil] at h; omega)))) <|hc (kRl (isX rfl) (denX rfl) (by first | omega | (simp <;> omega))) <|hc (gtcF rfl (by omega)) <|hc (kRa (isX rfl) (isX rfl) (denX rfl)) <|hc (kRf (isX rfl) (by first | omega | (simp <;> omega)) (by first | omega | (simp <;> omega))) <|hc (adC rfl rfl (by omega)) <|hnil
end
def eG4 (q : List LB) (Q : Option (LL × Bool)) (To : List LB) (B Bh : Bool) : List Value := [.bool Bh]
def roERm_0 (q : List LB) (Q : Option (LL × Bool)) (To : List LB) (B Bh : Bool) : List Value := []
noncomputable def ERm_0 (q : List LB) (Q : Option (LL × Bool)) (To : List LB) (B Bh : Bool) : Cx := cx (nuX (eG4 q Q To B Bh) (rX (roERm_0 q Q To B Bh) (fun _ => .bool true))) (aA4 (aA2 (l := eG4 q Q To B Bh) rfl)) 1 aA3 aA0
theorem roundsRm_0 (q : List LB) (Q : Option (LL × Bool)) (To : List LB) (B Bh : Bool) (c0 : q.length ≤ 1001) (c1 : ∀ x ∈ q, x.length ≤ 400) (x0 : Q = some ([], Bh)) (x1 : B = false) (st : Nat × Int × List LB × Bool) (X : Nat → Value) (hI : aN6 q Q To B Bh st) : RHRm q Q To B Bh (ERm_0 q Q To B Bh) (.exit 0) [(5, .nils), (6, .x 0)] [] st X := by
  obtain ⟨tag, i, o, A⟩ := st
  have hI0 := hI
  obtain ⟨i0, i1, i2, i3, i4, i5, it⟩ := bN6 q Q To B Bh tag i o A hI
  rcases (show tag = 0 ∨ tag = 1 from by omega) with rfl | rfl
  · skip
    by_cases h0 : i < (q.length : Int)
    · by_cases h1 : dcS (lI q i) = none
      · exfalso; rw [bJ0 (by omega) (by omega) (aM5 (o := o) (by assumption)).1 i2] at x0; cases x0
      · by_cases h2 : ((gS (lI q i)).length : Int) = 0
        · exact cX2 c0 c1 hI0 h0 h1 h2
        · by_cases h3 : (gS (lI q i)) = [u8 46]
          · exact cX1 c0 c1 hI0 h0 h1 h2 h3
          · by_cases h4 : (gS (lI q i)) = [u8 46, u8 46]
            · exfalso; rw [bJ0 (by omega) (by omega) (aN8 (o := o) (by assumption) (by assumption) (i4 (by omega))).1 i2] at x0; cases x0
            · exact cX0 c0 c1 hI0 h0 h1 h2 h3 h4
    · skip
      refine eH9 (h := cI3) rfl ?_ (thXe (v := .bool A) (u := .bool Bh) rfl rfl (congrArg Value.bool (ex_f (cO2 (by omega) i2) x0).2) (aA6)) runRm_p12
      unfold cI3
      exact hc (kRl (isX rfl) (denX rfl) (by first | omega | (simp <;> omega))) <|hc (ltF rfl rfl (by omega)) <|hnil
  · skip
    by_cases h0 : i < (q.length : Int)
    · by_cases h1 : dcS (lI q i) = none
      · exfalso; rw [bJ0 (by omega) (by omega) (aM5 (o := o) (by assumption)).1 i2] at x0; cases x0
      · by_cases h2 : ((gS (lI q i)).length : Int) = 0
        · exact cW9 c0 c1 hI0 h0 h1 h2
        · by_cases h3 : (gS (lI q i)) = [u8 46]
          · exact cW8 c0 c1 hI0 h0 h1 h2 h3
          · by_cases h4 : (gS (lI q i)) = [u8 46, u8 46]
            · by_cases h5 : (o.length : Int) = 0
              · exfalso; rw [bJ0 (by omega) (by omega) (aN8 (o := o) (by assumption) (by assumption) (List.eq_nil_of_length_eq_zero (by omega))).1 i2] at x0; cases x0
              · exact cW7 c0 c1 hI0 h0 h1 h2 h3 h4 h5
            · by_cases h5 : 0 < (o.length : Int)
              · exact cW6 c0 c1 hI0 h0 h1 h2 h3 h4 h5
              · exact cC1 c0 c1 hI0 h0 h1 h2 h3 h4 h5
    · exfalso; rw [af_end (by omega) i3] at x1; exact absurd x1 (by decide)
theorem lfOkRm_0 {l : LF} {h : LH} (q : List LB) (Q : Option (LL × Bool)) (To : List LB) (B Bh : Bool) (c0 : q.length ≤ 1001) (c1 : ∀ x ∈ q, x.length ≤ 400) (x0 : Q = some ([], Bh)) (x1 : B = false) (st : Nat × Int × List LB × Bool) (hI : aN6 q Q To B Bh st) (hl : l.hp = some h) (hs : aF3 l h 94 aS2 (.exit 0) 4 124 144 = true) {th0 : LA} {sg0 : List (Nat × Nat)} (hth0 : ∀ X, ThOk (cx nu one 1 aA3 aA0) (DRm q Q To B Bh st X) th0) (h0 : aD9 l h 94 124 125 th0 sg0 (epRm st) (hpRm st) = true) {thx : LA} (hthx : ThOk (ERm_0 q Q To B Bh) (cx nu one 1 aA3 aA0) thx) (hx : aF5 l h 94 124 144 thx [(5, .nils), (6, .x 0)] [] = true) : LfOk (cx nu one 1 aA3 aA0) cA2 l :=
  aL5 (E := ERm_0 q Q To B Bh) (aN6 q Q To B Bh) (muRm q Q To B Bh) (DRm q Q To B Bh) (fun _ _ => rfl) (fun _ _ => rfl) (fun _ _ => rfl) (fun st X t ht => aD3.trans (aE2 ((by decide : ∀ t, t ∈ aS2 → t < 1000000) t ht))) rfl rfl rfl hl hs ebRm rfl rfl st hI hth0 h0 hthx hx (roundsRm_0 q Q To B Bh c0 c1 x0 x1)
def eG3 (q : List LB) (Q : Option (LL × Bool)) (To : List LB) (B Bh : Bool) : List Value := [.bool Bh]
def roERm_1 (q : List LB) (Q : Option (LL × Bool)) (To : List LB) (B Bh : Bool) : List Value := [rwS To]
noncomputable def ERm_1 (q : List LB) (Q : Option (LL × Bool)) (To : List LB) (B Bh : Bool) : Cx := cx (nuX (eG3 q Q To B Bh) (rX (roERm_1 q Q To B Bh) (fun _ => .bool true))) (aA4 (aA2 (l := eG3 q Q To B Bh) rfl)) 1 aA3 aA0
theorem roundsRm_1 (q : List LB) (Q : Option (LL × Bool)) (To : List LB) (B Bh : Bool) (c0 : q.length ≤ 1001) (c1 : ∀ x ∈ q, x.length ≤ 400) (x0 : Q = some (To, Bh)) (x1 : B = true) (st : Nat × Int × List LB × Bool) (X : Nat → Value) (hI : aN6 q Q To B Bh st) : RHRm q Q To B Bh (ERm_1 q Q To B Bh) (.exit 0) [(5, .sr 124), (6, .x 0)] [(124, .r 2000000 9 1 false)] st X := by
  obtain ⟨tag, i, o, A⟩ := st
  have hI0 := hI
  obtain ⟨i0, i1, i2, i3, i4, i5, it⟩ := bN6 q Q To B Bh tag i o A hI
  rcases (show tag = 0 ∨ tag = 1 from by omega) with rfl | rfl
  · skip
    by_cases h0 : i < (q.length : Int)
    · by_cases h1 : dcS (lI q i) = none
      · exfalso; rw [bJ0 (by omega) (by omega) (aM5 (o := o) (by assumption)).1 i2] at x0; cases x0
      · by_cases h2 : ((gS (lI q i)).length : Int) = 0
        · exact cX2 c0 c1 hI0 h0 h1 h2
        · by_cases h3 : (gS (lI q i)) = [u8 46]
          · exact cX1 c0 c1 hI0 h0 h1 h2 h3
          · by_cases h4 : (gS (lI q i)) = [u8 46, u8 46]
            · exfalso; rw [bJ0 (by omega) (by omega) (aN8 (o := o) (by assumption) (by assumption) (i4 (by omega))).1 i2] at x0; cases x0
            · exact cX0 c0 c1 hI0 h0 h1 h2 h3 h4
    · exfalso; rw [af_end (by omega) i3] at x1; exact absurd x1 (by decide)
  · skip
    by_cases h0 : i < (q.length : Int)
    · by_cases h1 : dcS (lI q i) = none
      · exfalso; rw [bJ0 (by omega) (by omega) (aM5 (o := o) (by assumption)).1 i2] at x0; cases x0
      · by_cases h2 : ((gS (lI q i)).length : Int) = 0
        · exact cW9 c0 c1 hI0 h0 h1 h2
        · by_cases h3 : (gS (lI q i)) = [u8 46]
          · exact cW8 c0 c1 hI0 h0 h1 h2 h3
          · by_cases h4 : (gS (lI q i)) = [u8 46, u8 46]
            · by_cases h5 : (o.length : Int) = 0
              · exfalso; rw [bJ0 (by omega) (by omega) (aN8 (o := o) (by assumption) (by assumption) (List.eq_nil_of_length_eq_zero (by omega))).1 i2] at x0; cases x0
              · exact cW7 c0 c1 hI0 h0 h1 h2 h3 h4 h5
            · by_cases h5 : 0 < (o.length : Int)
              · exact cW6 c0 c1 hI0 h0 h1 h2 h3 h4 h5
              · exact cC1 c0 c1 hI0 h0 h1 h2 h3 h4 h5
    · skip
      refine eH8 (h := cI2) rfl ?_ (thXe (v := .bool A) (u := .bool Bh) rfl rfl (congrArg Value.bool (ex_f (cO2 (by omega) i2) x0).2) (thXe (v := rwS o) (u := rwS To) rfl rfl (congrArg rwS (ex_f (cO2 (by omega) i2) x0).1) (aA6))) runRm_p13
      unfold cI2
      exact hc (kRl (isX rfl) (denX rfl) (by first | omega | (simp <;> omega))) <|hc (ltF rfl rfl (by omega)) <|hnil
theorem dR3 {l : LF} {h : LH} (q : List LB) (Q : Option (LL × Bool)) (To : List LB) (B Bh : Bool) (c0 : q.length ≤ 1001) (c1 : ∀ x ∈ q, x.length ≤ 400) (x0 : Q = some (To, Bh)) (x1 : B = true) (st : Nat × Int × List LB × Bool) (hI : aN6 q Q To B Bh st) (hl : l.hp = some h) (hs : aF3 l h 94 aS2 (.exit 0) 4 124 144 = true) {th0 : LA} {sg0 : List (Nat × Nat)} (hth0 : ∀ X, ThOk (cx nu one 1 aA3 aA0) (DRm q Q To B Bh st X) th0) (h0 : aD9 l h 94 124 125 th0 sg0 (epRm st) (hpRm st) = true) {thx : LA} (hthx : ThOk (ERm_1 q Q To B Bh) (cx nu one 1 aA3 aA0) thx) (hx : aF5 l h 94 124 144 thx [(5, .sr 124), (6, .x 0)] [(124, .r 2000000 9 1 false)] = true) : LfOk (cx nu one 1 aA3 aA0) cA2 l :=
  aL5 (E := ERm_1 q Q To B Bh) (aN6 q Q To B Bh) (muRm q Q To B Bh) (DRm q Q To B Bh) (fun _ _ => rfl) (fun _ _ => rfl) (fun _ _ => rfl) (fun st X t ht => aD3.trans (aE2 ((by decide : ∀ t, t ∈ aS2 → t < 1000000) t ht))) rfl rfl rfl hl hs ebRm rfl rfl st hI hth0 h0 hthx hx (roundsRm_1 q Q To B Bh c0 c1 x0 x1)
def eG2 (q : List LB) (Q : Option (LL × Bool)) (To : List LB) (B Bh : Bool) : List Value := []
def roERm_2 (q : List LB) (Q : Option (LL × Bool)) (To : List LB) (B Bh : Bool) : List Value := []
noncomputable def ERm_2 (q : List LB) (Q : Option (LL × Bool)) (To : List LB) (B Bh : Bool) : Cx := cx (nuX (eG2 q Q To B Bh) (rX (roERm_2 q Q To B Bh) (fun _ => .bool true))) (aA4 (aA2 (l := eG2 q Q To B Bh) rfl)) 1 aA3 aA0
theorem roundsRm_2 (q : List LB) (Q : Option (LL × Bool)) (To : List LB) (B Bh : Bool) (c0 : q.length ≤ 1001) (c1 : ∀ x ∈ q, x.length ≤ 400) (x0 : Q = none) (st : Nat × Int × List LB × Bool) (X : Nat → Value) (hI : aN6 q Q To B Bh st) : RHRm q Q To B Bh (ERm_2 q Q To B Bh) .ret [(2, .s 0 0), (3, I6 10)] [] st X := by
  obtain ⟨tag, i, o, A⟩ := st
  have hI0 := hI
  obtain ⟨i0, i1, i2, i3, i4, i5, it⟩ := bN6 q Q To B Bh tag i o A hI
  rcases (show tag = 0 ∨ tag = 1 from by omega) with rfl | rfl
  · skip
    by_cases h0 : i < (q.length : Int)
    · by_cases h1 : dcS (lI q i) = none
      · skip
        have := aR9 c1 i
        have := aD2 (lI q i)
        refine eH9 (h := dD1) rfl ?_ (aA6) runRm_p4
        unfold dD1
        exact hc (kRl (isX rfl) (denX rfl) (by first | omega | (simp <;> omega))) <|hc (ltT rfl rfl (by omega)) <|hc (kEl (j := (Int.toNat (i))) (isX rfl) (isX rfl) (denX rfl) (by omega) (by omega)) <|hc (aS4 (s := (lI q i)) (isX rfl) (by rw [rp_n (by assumption)]; exact aE6 bL4 (denB false)) (by omega) (by omega)) <|hnil
      · by_cases h2 : ((gS (lI q i)).length : Int) = 0
        · exact cX2 c0 c1 hI0 h0 h1 h2
        · by_cases h3 : (gS (lI q i)) = [u8 46]
          · exact cX1 c0 c1 hI0 h0 h1 h2 h3
          · by_cases h4 : (gS (lI q i)) = [u8 46, u8 46]
            · skip
              have := aR9 c1 i
              have := aD2 (lI q i)
              have hl1 := congrArg List.length (by assumption : (gS (lI q i)) = [u8 46, u8 46]); simp only [List.length_cons, List.length_nil] at hl1
              refine eH9 (h := dD3) rfl ?_ (aA6) runRm_p2
              unfold dD3
              exact hc (kRl (isX rfl) (denX rfl) (by first | omega | (simp <;> omega))) <|hc (ltT rfl rfl (by omega)) <|hc (kEl (j := (Int.toNat (i))) (isX rfl) (isX rfl) (denX rfl) (by omega) (by omega)) <|hc (aS4 (s := (lI q i)) (isX rfl) (by rw [rp_y (by assumption)]; exact aE6 (denX rfl) (denB true)) (by omega) (by omega)) <|hc (kEqS (isX rfl) (isSx (l := ([] : LB)) 0 0 rfl) (nilF (by omega))) <|hc (kEqS (isX rfl) (isSx (l := [u8 46]) 1 46 rfl) (decide_eq_false (by first | assumption | (intro e; have h := congrArg List.length e; simp only [List.length_cons, List.length_nil] at h; omega)))) <|hc (kEqS (isX rfl) (isSx (l := [u8 46, u8 46]) 2 11822 rfl) (decide_eq_true (by assumption))) <|hnil
            · exact cX0 c0 c1 hI0 h0 h1 h2 h3 h4
    · exfalso; rw [cO2 (by omega) i2] at x0; cases x0
  · skip
    by_cases h0 : i < (q.length : Int)
    · by_cases h1 : dcS (lI q i) = none
      · skip
        have := aR9 c1 i
        have := aD2 (lI q i)
        refine eH8 (h := dC6) rfl ?_ (aA6) runRm_p9
        unfold dC6
        exact hc (kRl (isX rfl) (denX rfl) (by first | omega | (simp <;> omega))) <|hc (ltT rfl rfl (by omega)) <|hc (kEl (j := (Int.toNat (i))) (isX rfl) (isX rfl) (denX rfl) (by omega) (by omega)) <|hc (aS4 (s := (lI q i)) (isX rfl) (by rw [rp_n (by assumption)]; exact aE6 bL4 (denB false)) (by omega) (by omega)) <|hnil
      · by_cases h2 : ((gS (lI q i)).length : Int) = 0
        · exact cW9 c0 c1 hI0 h0 h1 h2
        · by_cases h3 : (gS (lI q i)) = [u8 46]
          · exact cW8 c0 c1 hI0 h0 h1 h2 h3
          · by_cases h4 : (gS (lI q i)) = [u8 46, u8 46]
            · by_cases h5 : (o.length : Int) = 0
              · skip
                have := aR9 c1 i
                have := aD2 (lI q i)
                have hl1 := congrArg List.length (by assumption : (gS (lI q i)) = [u8 46, u8 46]); simp only [List.length_cons, List.length_nil] at hl1
                refine eH8 (h := cI5) rfl ?_ (aA6) runRm_p10
                unfold cI5
                exact hc (kRl (isX rfl) (denX rfl) (by first | omega | (simp <;> omega))) <|hc (ltT rfl rfl (by omega)) <|hc (kEl (j := (Int.toNat (i))) (isX rfl) (isX rfl) (denX rfl) (by omega) (by omega)) <|hc (aS4 (s := (lI q i)) (isX rfl) (by rw [rp_y (by assumption)]; exact aE6 (denX rfl) (denB true)) (by omega) (by omega)) <|hc (kEqS (isX rfl) (isSx (l := ([] : LB)) 0 0 rfl) (nilF (by omega))) <|hc (kEqS (isX rfl) (isSx (l := [u8 46]) 1 46 rfl) (decide_eq_false (by first | assumption | (intro e; have h := congrArg List.length e; simp only [List.length_cons, List.length_nil] at h; omega)))) <|hc (kEqS (isX rfl) (isSx (l := [u8 46, u8 46]) 2 11822 rfl) (decide_eq_true (by assumption))) <|hc (kRl (isX rfl) (denX rfl) (by first | omega | (simp <;> omega))) <|hc (eqcT rfl (by omega)) <|hnil
              · exact cW7 c0 c1 hI0 h0 h1 h2 h3 h4 h5
            · by_cases h5 : 0 < (o.length : Int)
              · exact cW6 c0 c1 hI0 h0 h1 h2 h3 h4 h5
              · exact cC1 c0 c1 hI0 h0 h1 h2 h3 h4 h5
    · exfalso; rw [cO2 (by omega) i2] at x0; cases x0
theorem lfOkRm_2 {l : LF} {h : LH} (q : List LB) (Q : Option (LL × Bool)) (To : List LB) (B Bh : Bool) (c0 : q.length ≤ 1001) (c1 : ∀ x ∈ q, x.length ≤ 400) (x0 : Q = none) (st : Nat × Int × List LB × Bool) (hI : aN6 q Q To B Bh st) (hl : l.hp = some h) (hs : aF3 l h 94 aS2 .ret 4 124 144 = true) {th0 : LA} {sg0 : List (Nat × Nat)} (hth0 : ∀ X, ThOk (cx nu one 1 aA3 aA0) (DRm q Q To B Bh st X) th0) (h0 : aD9 l h 94 124 125 th0 sg0 (epRm st) (hpRm st) = true) {thx : LA} (hthx : ThOk (ERm_2 q Q To B Bh) (cx nu one 1 aA3 aA0) thx) (hx : aF5 l h 94 124 144 thx [(2, .s 0 0), (3, I6 10)] [] = true) : LfOk (cx nu one 1 aA3 aA0) cA2 l :=
  aL5 (E := ERm_2 q Q To B Bh) (aN6 q Q To B Bh) (muRm q Q To B Bh) (DRm q Q To B Bh) (fun _ _ => rfl) (fun _ _ => rfl) (fun _ _ => rfl) (fun st X t ht => aD3.trans (aE2 ((by decide : ∀ t, t ∈ aS2 → t < 1000000) t ht))) rfl rfl rfl hl hs ebRm rfl rfl st hI hth0 h0 hthx hx (roundsRm_2 q Q To B Bh c0 c1 x0)
end Go.Proofs.YtbipkiiaajklhaaDoor.pathTells
