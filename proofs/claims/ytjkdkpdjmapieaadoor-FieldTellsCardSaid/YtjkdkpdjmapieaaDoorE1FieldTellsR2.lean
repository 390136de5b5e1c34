/- A part of the proof: what an interpreter answers on partly known states is what the program answers. No condition. -/
import Derived.Test.YtjkdkpdjmapieaaDoorE1FieldTellsO9
set_option maxRecDepth 100000
set_option linter.unusedVariables false
set_option linter.unusedSimpArgs false
set_option maxHeartbeats 4000000
namespace Go.Proofs.YtjkdkpdjmapieaaDoor.fieldTells
open Go Go.AX Go.Proofs Go.Proofs.YtjkdkpdjmapieaaDoor
def hy6 : LK := [(.bytes [], .x 3),
  (.rn, .x 2000001),
  (.len (.x 0), .x 4),
  (.bin .gtr (.x 4) (I6 1500), .b true)]
theorem run6 (e : Nat) : Go.AX.okB (call (aV hy6) 9000 4 [.x 0, .sr 4, .x 1, .x 2] ⟨fM 4 [.r 2000000 23 2 true] (H0 e ), 4 + List.length (α := aR) [.r 2000000 23 2 true], 0, 0⟩) = true := by kernel_rfl
noncomputable def nu6 (ln : LB) (aZ : Nat) (ad : Nat) (ab : Nat) (z : List (LB × LB)) (nm : LB) (wd : LB) : List Value := [St' ln,
  St' nm,
  St' wd,
  St' ([] : LB),
  .int .i64 ((ln.length : Int))]
def ro6 (ln : LB) (aZ : Nat) (ad : Nat) (ab : Nat) (z : List (LB × LB)) (nm : LB) (wd : LB) : List Value := [aM aK z,
  aO ([] : List LB)]
theorem on6 (ln : LB) (aZ : Nat) (ad : Nat) (ab : Nat) (z : List (LB × LB)) (nm : LB) (wd : LB) : ∀ j, (ai (nu6 ln aZ ad ab z nm wd) j).oneCell' = true := aQ (l := nu6 ln aZ ad ab z nm wd) (by unfold nu6; simp only [List.all_cons, List.all_nil, Bool.and_true, Bool.true_and, gF]; rfl)
theorem path6 (ln : LB) (aZ : Nat) (ad : Nat) (ab : Nat) (z : List (LB × LB)) (nm : LB) (wd : LB) (b0 : ln.length ≤ 9223372036854775807) (b1 : 1 ≤ z.length) (b2 : ∀ n, n ∈ z → dH n) (b3 : ∀ q, q ∈ z → q.1.length ≤ 140737488351232) (b4 : ∀ q, q ∈ z → q.2.length ≤ 140737488351232) (b5 : z.length ≤ 9223372036854775807) (b6 : nm.length ≤ 9223372036854775807) (b7 : wd.length ≤ 9223372036854775807) (h0 : 1500 < (ln.length : Int)) (w : World) (hl : aC w) (cQ : iJ w 2 (z.flatMap aK) aZ ad z.length ab) (dC : ∀ e, (H0 e ).get aZ = none) : bN 4 #[St' ln, .slice (some ⟨aZ, ad, none⟩) z.length ab, St' nm, St' wd] w (.bool true) := by
  have hn0 : ([] : LB).length = 0 := rfl
  have ho : ∀ k r, (k, r) ∈ hy6 → aL (cx (af (nu6 ln aZ ad ab z nm wd) (rX (ro6 ln aZ ad ab z nm wd) (fun _ => .bool true))) (ah (on6 ln aZ ad ab z nm wd)) 1 aC aG) k r := by
    unfold hy6
    exact hc (kB0 rfl) <|hc (da (aE rfl)) <|hc (au rfl rfl (by omega)) <|hc (dU rfl (by omega)) <|hnil
  obtain ⟨fi, hfi, hb⟩ := lL
  exact kW (tb := (aV hy6)) ((ae (af (nu6 ln aZ ad ab z nm wd) (rX (ro6 ln aZ ad ab z nm wd) (fun _ => .bool true))) (ah (on6 ln aZ ad ab z nm wd))).hyps ho) rfl hfi hb [.r 2000000 23 2 true] [⟨aZ, ad, z.length, ab⟩] (fun e => run6 e ) (args := [St' ln, .slice (some ⟨aZ, ad, none⟩) z.length ab, St' nm, St' wd]) ⟨_, _, rfl, rfl, ⟨_, _, rfl, kX (by decide) rfl cQ.room, ⟨_, _, rfl, rfl, ⟨_, _, rfl, rfl, rfl⟩⟩⟩⟩ w hl rfl (by decide) (fun e => (lj (cQ.arg (dC e ) rfl) lh)) rfl
def hy7 : LK := [(.bytes [], .x 3),
  (.rn, .x 2000000),
  (.len (.x 0), .x 4),
  (.bin .gtr (.x 4) (I6 1500), .b false),
  (.len (.x 1), .x 5),
  (.bin .gtr (.x 5) (I6 100), .b true)]
theorem run7 (e : Nat) : Go.AX.okB (call (aV hy7) 9000 4 [.x 0, .es, .x 1, .x 2] ⟨H0 e , 4, 0, 0⟩) = true := by kernel_rfl
noncomputable def nu7 (ln : LB) (bW : Option Addr) (bV : Nat) (nm : LB) (wd : LB) : List Value := [St' ln,
  St' nm,
  St' wd,
  St' ([] : LB),
  .int .i64 ((ln.length : Int)),
  .int .i64 ((nm.length : Int))]
def ro7 (ln : LB) (bW : Option Addr) (bV : Nat) (nm : LB) (wd : LB) : List Value := [aO ([] : List LB)]
theorem on7 (ln : LB) (bW : Option Addr) (bV : Nat) (nm : LB) (wd : LB) : ∀ j, (ai (nu7 ln bW bV nm wd) j).oneCell' = true := aQ (l := nu7 ln bW bV nm wd) (by unfold nu7; simp only [List.all_cons, List.all_nil, Bool.and_true, Bool.true_and, gF]; rfl)
theorem path7 (ln : LB) (bW : Option Addr) (bV : Nat) (nm : LB) (wd : LB) (b0 : ln.length ≤ 9223372036854775807) (b1 : nm.length ≤ 9223372036854775807) (b2 : wd.length ≤ 9223372036854775807) (h0 : ¬ (1500 < (ln.length : Int))) (h1 : 100 < (nm.length : Int)) (w : World) (hl : aC w) : bN 4 #[St' ln, .slice bW 0 bV, St' nm, St' wd] w (.bool true) := by
  have hn0 : ([] : LB).length = 0 := rfl
  have ho : ∀ k r, (k, r) ∈ hy7 → aL (cx (af (nu7 ln bW bV nm wd) (rX (ro7 ln bW bV nm wd) (fun _ => .bool true))) (ah (on7 ln bW bV nm wd)) 1 aC aG) k r := by
    unfold hy7
    exact hc (kB0 rfl) <|hc (da (aE rfl)) <|hc (au rfl rfl (by omega)) <|hc (bq rfl (by omega)) <|hc (au rfl rfl (by omega)) <|hc (dU rfl (by omega)) <|hnil
  obtain ⟨fi, hfi, hb⟩ := lL
  exact qi (tb := (aV hy7)) ((ae (af (nu7 ln bW bV nm wd) (rX (ro7 ln bW bV nm wd) (fun _ => .bool true))) (ah (on7 ln bW bV nm wd))).hyps ho) rfl hfi hb (fun e => run7 e ) (args := [St' ln, .slice bW 0 bV, St' nm, St' wd]) (by simp only [aF, Rel]; exact ⟨_, _, rfl, rfl, ⟨_, _, rfl, ⟨_, _, rfl⟩, ⟨_, _, rfl, rfl, ⟨_, _, rfl, rfl, rfl⟩⟩⟩⟩) w hl
def hy8 : LK := [(.bytes [], .x 3),
  (.rn, .x 2000001),
  (.len (.x 0), .x 4),
  (.bin .gtr (.x 4) (I6 1500), .b false),
  (.rl (.x 2000000) 2, .x 5),
  (.bin .gtr (.x 5) (I6 20), .b false),
  (.len (.x 1), .x 6),
  (.bin .gtr (.x 6) (I6 100), .b true)]
theorem run8 (e : Nat) : Go.AX.okB (call (aV hy8) 9000 4 [.x 0, .sr 4, .x 1, .x 2] ⟨fM 4 [.r 2000000 23 2 true] (H0 e ), 4 + List.length (α := aR) [.r 2000000 23 2 true], 0, 0⟩) = true := by kernel_rfl
noncomputable def nu8 (ln : LB) (aZ : Nat) (ad : Nat) (ab : Nat) (z : List (LB × LB)) (nm : LB) (wd : LB) : List Value := [St' ln,
  St' nm,
  St' wd,
  St' ([] : LB),
  .int .i64 ((ln.length : Int)),
  .int .i64 ((z.length : Int)),
  .int .i64 ((nm.length : Int))]
def ro8 (ln : LB) (aZ : Nat) (ad : Nat) (ab : Nat) (z : List (LB × LB)) (nm : LB) (wd : LB) : List Value := [aM aK z,
  aO ([] : List LB)]
theorem on8 (ln : LB) (aZ : Nat) (ad : Nat) (ab : Nat) (z : List (LB × LB)) (nm : LB) (wd : LB) : ∀ j, (ai (nu8 ln aZ ad ab z nm wd) j).oneCell' = true := aQ (l := nu8 ln aZ ad ab z nm wd) (by unfold nu8; simp only [List.all_cons, List.all_nil, Bool.and_true, Bool.true_and, gF]; rfl)
theorem path8 (ln : LB) (aZ : Nat) (ad : Nat) (ab : Nat) (z : List (LB × LB)) (nm : LB) (wd : LB) (b0 : ln.length ≤ 9223372036854775807) (b1 : 1 ≤ z.length) (b2 : ∀ n, n ∈ z → dH n) (b3 : ∀ q, q ∈ z → q.1.length ≤ 140737488351232) (b4 : ∀ q, q ∈ z → q.2.length ≤ 140737488351232) (b5 : z.length ≤ 9223372036854775807) (b6 : nm.length ≤ 9223372036854775807) (b7 : wd.length ≤ 9223372036854775807) (h0 : ¬ (1500 < (ln.length : Int))) (h1 : ¬ (20 < (z.length : Int))) (h2 : 100 < (nm.length : Int)) (w : World) (hl : aC w) (cQ : iJ w 2 (z.flatMap aK) aZ ad z.length ab) (dC : ∀ e, (H0 e ).get aZ = none) : bN 4 #[St' ln, .slice (some ⟨aZ, ad, none⟩) z.length ab, St' nm, St' wd] w (.bool true) := by
  have hn0 : ([] : LB).length = 0 := rfl
  have ho : ∀ k r, (k, r) ∈ hy8 → aL (cx (af (nu8 ln aZ ad ab z nm wd) (rX (ro8 ln aZ ad ab z nm wd) (fun _ => .bool true))) (ah (on8 ln aZ ad ab z nm wd)) 1 aC aG) k r := by
    unfold hy8
    exact hc (kB0 rfl) <|hc (da (aE rfl)) <|hc (au rfl rfl (by omega)) <|hc (bq rfl (by omega)) <|hc (bu a7 (aA rfl) (aE rfl) (by first | omega | (simp <;> omega))) <|hc (bq rfl (by omega)) <|hc (au rfl rfl (by omega)) <|hc (dU rfl (by omega)) <|hnil
  obtain ⟨fi, hfi, hb⟩ := lL
  exact kW (tb := (aV hy8)) ((ae (af (nu8 ln aZ ad ab z nm wd) (rX (ro8 ln aZ ad ab z nm wd) (fun _ => .bool true))) (ah (on8 ln aZ ad ab z nm wd))).hyps ho) rfl hfi hb [.r 2000000 23 2 true] [⟨aZ, ad, z.length, ab⟩] (fun e => run8 e ) (args := [St' ln, .slice (some ⟨aZ, ad, none⟩) z.length ab, St' nm, St' wd]) ⟨_, _, rfl, rfl, ⟨_, _, rfl, kX (by decide) rfl cQ.room, ⟨_, _, rfl, rfl, ⟨_, _, rfl, rfl, rfl⟩⟩⟩⟩ w hl rfl (by decide) (fun e => (lj (cQ.arg (dC e ) rfl) lh)) rfl
end Go.Proofs.YtjkdkpdjmapieaaDoor.fieldTells
