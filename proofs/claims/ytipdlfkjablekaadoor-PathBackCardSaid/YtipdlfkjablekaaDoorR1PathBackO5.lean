/- A part of the proof: an interpreter of the model's own code on partly known states, and that what it answers is what the program answers. No condition of its own. -/
import Derived.Test.YtipdlfkjablekaaDoorR1PathBackO4
set_option maxRecDepth 100000
set_option linter.unusedVariables false
set_option linter.unusedSimpArgs false
set_option maxHeartbeats 4000000
namespace Go.Proofs.YtipdlfkjablekaaDoor.pathBack
open Go Go.AX Go.Proofs Go.Proofs.YtipdlfkjablekaaDoor
variable {nu : Nat → Value} {one : ∀ i, i < 1000000 → (nu i).oneCell' = true} {E' : Cx} {x' : Ex} {e' : LA} {h' : LE}
theorem mkA5 : (loopsOf (Tryd.f5.body.getD .skip)).all (fun b => !(keyEq (Go.AX.keyOf b) 7777777)) = true := by kernel_rfl
theorem mkB5 : Nat.beq (rfsOf (Tryd.f5.body.getD .skip)).length 1 = true := by kernel_rfl
theorem mkC5 : Tryd.f5.body = some (Tryd.f5.body.getD .skip) := by kernel_rfl
noncomputable def fi5 : FI := (tabk.fn.get 5).getD default
theorem fi5_at : tabk.fn.get 5 = some fi5 := by kernel_rfl
theorem fi5_body : fi5.body = some (Tryd.f5.body.getD .skip) := by kernel_rfl
theorem fiB5 : fi5.body.isSome = true := by rw [fi5_body]; rfl
theorem cfA5 : (loopsOf (Tryd.f5.body.getD .skip)).all (fun b => !(keyEq (Go.AX.keyOf b) 8888888)) = true := by kernel_rfl
noncomputable def fi29 : FI := (tabk.fn.get 29).getD default
theorem fi29_at : tabk.fn.get 29 = some fi29 := by kernel_rfl
theorem fi29_body : fi29.body = some (Tryd.f29.body.getD .skip) := by kernel_rfl
theorem fiB29 : fi29.body.isSome = true := by rw [fi29_body]; rfl
theorem cfA29 : (loopsOf (Tryd.f29.body.getD .skip)).all (fun b => !(keyEq (Go.AX.keyOf b) 8888888)) = true := by kernel_rfl
noncomputable def fi16 : FI := (tabk.fn.get 16).getD default
theorem fi16_at : tabk.fn.get 16 = some fi16 := by kernel_rfl
theorem fi16_body : fi16.body = some (Tryd.f16.body.getD .skip) := by kernel_rfl
theorem fiB16 : fi16.body.isSome = true := by rw [fi16_body]; rfl
theorem cfA16 : (loopsOf (Tryd.f16.body.getD .skip)).all (fun b => !(keyEq (Go.AX.keyOf b) 8888888)) = true := by kernel_rfl
def hyCln_0 : LK := [(.bytes [], .x 1), (.rn, .x 2000000), (.len (.x 0), .x 2), (.bin .geq (.x 2) (.i .i64 (.ofNat 1)), .b false)]
noncomputable def tabCln_0 : Tab := addLps ({ tabk with hyp := hyCln_0 }) 5 fi5 [⟨7777777, 5, [], [2, 3, 4, 5], .goto 7777777, [], none⟩]
theorem runCln_0 : okA (call tabCln_0 9000 5 [.x 0] ⟨H0 , 3, 0, 0⟩) (.tu [.s 0 0, .ifc 48 (.ag [.i .i64 (.ofNat 10), .s 38 13298115280219938213650618557098360065260128501998867931437897973466215610708264263932190817])]) = true := by kernel_rfl
def nuCln_0 (s : LB) : List Value := [St' s, St' ([] : LB), .int .i64 ((s.length : Int))]
def roCln_0 (s : LB) : List Value := [rwS ([] : List LB)]
theorem onCln_0 (s : LB) : ∀ j, (nuL (nuCln_0 s) j).oneCell' = true := nuL_one (l := nuCln_0 s) rfl
theorem pathCln_0 (s : LB) (b0 : s.length ≤ 9223372036854775807) (p0 : s.length ≤ 1000000) (h0 : ¬ (1 ≤ (s.length : Int))) (w : World) (hl : laidE w) : CwR 5 #[St' s] w (.tuple #[St' ([] : LB), .iface 48 (.agg #[.int .i64 10, St' [u8 97, u8 32, u8 112, u8 97, u8 116, u8 104, u8 32, u8 116, u8 104, u8 97, u8 116, u8 32, u8 100, u8 111, u8 101, u8 115, u8 110, u8 39, u8 116, u8 32, u8 98, u8 101, u8 103, u8 105, u8 110, u8 32, u8 119, u8 105, u8 116, u8 104, u8 32, u8 97, u8 32, u8 115, u8 108, u8 97, u8 115, u8 104]])]) := by
  have ho : ∀ k r, (k, r) ∈ hyCln_0 → HOk (cx (nuX (nuCln_0 s) (rX (roCln_0 s) (fun _ => .bool true))) (nuX_one (onCln_0 s)) 0 laidE laidE_stab) k r := by
    unfold hyCln_0
    exact hc (kBytesB (bs := ([] : LB)) .nil (denX rfl)) <|
     hc (kRn (denX rfl)) <|
     hc (lnV rfl rfl (by omega)) <|
     hc (gecF rfl (by omega)) <|
     hnil
  refine runC (tb := tabCln_0) (ra := .tu [.s 0 0, .ifc 48 (.ag [.i .i64 (.ofNat 10), .s 38 13298115280219938213650618557098360065260128501998867931437897973466215610708264263932190817])]) rfl (AllOk.lp1 ((tabkOk (nuX (nuCln_0 s) (rX (roCln_0 s) (fun _ => .bool true))) (nuX_one (onCln_0 s))).hyps ho) (by omega) fi5_at fi5_body (lfCons (.inr ⟨rfl, mkA5, mkB5, _, Tryd.func5, mkC5⟩) lfNil)) rfl (get_lps (by omega)) fiB5 (runCln_0 ) (args := [St' s]) (by simp only [RelL, Rel]; exact ⟨_, _, rfl, rfl, rfl⟩) w hl fun x hx => ?_
  simp only [Rel, RelL] at hx
  obtain ⟨_, rfl, ⟨_, _, rfl, ⟨rfl, _⟩, ⟨_, _, rfl, ⟨_, rfl, ⟨_, rfl, ⟨_, _, rfl, rfl, ⟨_, _, rfl, ⟨rfl, _⟩, rfl⟩⟩⟩⟩, rfl⟩⟩⟩ := hx
  rfl
def hyCln_1 : LK := [(.bytes [], .x 1), (.rn, .x 2000000), (.len (.x 0), .x 2), (.bin .geq (.x 2) (.i .i64 (.ofNat 1)), .b true), (.sub (.x 0) none (some (.i .i64 (.ofNat 1))), .x 3), (.bin .eql (.x 3) (.s 1 47), .b false)]
noncomputable def tabCln_1 : Tab := addLps ({ tabk with hyp := hyCln_1 }) 5 fi5 [⟨7777777, 5, [], [2, 3, 4, 5], .goto 7777777, [], none⟩]
theorem runCln_1 : okA (call tabCln_1 9000 5 [.x 0] ⟨H0 , 3, 0, 0⟩) (.tu [.s 0 0, .ifc 48 (.ag [.i .i64 (.ofNat 10), .s 38 13298115280219938213650618557098360065260128501998867931437897973466215610708264263932190817])]) = true := by kernel_rfl
def nuCln_1 (s : LB) : List Value := [St' s, St' ([] : LB), .int .i64 ((s.length : Int)), St' (List.take (Int.toNat (1)) s)]
def roCln_1 (s : LB) : List Value := [rwS ([] : List LB)]
theorem onCln_1 (s : LB) : ∀ j, (nuL (nuCln_1 s) j).oneCell' = true := nuL_one (l := nuCln_1 s) rfl
theorem pathCln_1 (s : LB) (b0 : s.length ≤ 9223372036854775807) (p0 : s.length ≤ 1000000) (h0 : 1 ≤ (s.length : Int)) (h1 : ¬ ((List.take (Int.toNat (1)) s) = [u8 47])) (w : World) (hl : laidE w) : CwR 5 #[St' s] w (.tuple #[St' ([] : LB), .iface 48 (.agg #[.int .i64 10, St' [u8 97, u8 32, u8 112, u8 97, u8 116, u8 104, u8 32, u8 116, u8 104, u8 97, u8 116, u8 32, u8 100, u8 111, u8 101, u8 115, u8 110, u8 39, u8 116, u8 32, u8 98, u8 101, u8 103, u8 105, u8 110, u8 32, u8 119, u8 105, u8 116, u8 104, u8 32, u8 97, u8 32, u8 115, u8 108, u8 97, u8 115, u8 104]])]) := by
  have := lenTake (l := s) (Q := 1) (by omega) (by omega)
  have ho : ∀ k r, (k, r) ∈ hyCln_1 → HOk (cx (nuX (nuCln_1 s) (rX (roCln_1 s) (fun _ => .bool true))) (nuX_one (onCln_1 s)) 0 laidE laidE_stab) k r := by
    unfold hyCln_1
    exact hc (kBytesB (bs := ([] : LB)) .nil (denX rfl)) <|
     hc (kRn (denX rfl)) <|
     hc (lnV rfl rfl (by omega)) <|
     hc (gecT rfl (by omega)) <|
     hc (tkC rfl rfl (by omega)) <|
     hc (kEqS (isX rfl) (isSx (l := [u8 47]) 1 47 rfl) (decide_eq_false (by assumption))) <|
     hnil
  refine runC (tb := tabCln_1) (ra := .tu [.s 0 0, .ifc 48 (.ag [.i .i64 (.ofNat 10), .s 38 13298115280219938213650618557098360065260128501998867931437897973466215610708264263932190817])]) rfl (AllOk.lp1 ((tabkOk (nuX (nuCln_1 s) (rX (roCln_1 s) (fun _ => .bool true))) (nuX_one (onCln_1 s))).hyps ho) (by omega) fi5_at fi5_body (lfCons (.inr ⟨rfl, mkA5, mkB5, _, Tryd.func5, mkC5⟩) lfNil)) rfl (get_lps (by omega)) fiB5 (runCln_1 ) (args := [St' s]) (by simp only [RelL, Rel]; exact ⟨_, _, rfl, rfl, rfl⟩) w hl fun x hx => ?_
  simp only [Rel, RelL] at hx
  obtain ⟨_, rfl, ⟨_, _, rfl, ⟨rfl, _⟩, ⟨_, _, rfl, ⟨_, rfl, ⟨_, rfl, ⟨_, _, rfl, rfl, ⟨_, _, rfl, ⟨rfl, _⟩, rfl⟩⟩⟩⟩, rfl⟩⟩⟩ := hx
  rfl
def hyCln_2 : LK := [(.bytes [], .x 1), (.rn, .x 2000000), (.len (.x 0), .x 2), (.bin .geq (.x 2) (.i .i64 (.ofNat 1)), .b true), (.sub (.x 0) none (some (.i .i64 (.ofNat 1))), .x 3), (.bin .eql (.x 3) (.s 1 47), .b true)]
def lh6 : LH := ⟨3, 11, 23, [(3, .b ⟨9, .l [.s 0 0], 0, 0, 0, false, false⟩), (4, .b ⟨24, .l [.ni], 0, 0, 0, false, false⟩), (5, .b ⟨28, .l [.nils], 0, 0, 0, false, false⟩), (6, .b ⟨9, .l [.s 0 0], 0, 0, 0, false, false⟩), (7, .b ⟨9, .l [.x 0], 0, 0, 0, false, false⟩), (8, .b ⟨9, .l [.s 1 47], 0, 0, 0, false, false⟩), (9, .b ⟨3, .l [.i .i64 (.ofNat 0)], 0, 0, 0, false, false⟩), (10, .k 5 [(2, .p 3 0), (3, .p 4 0), (4, .p 5 0), (5, .p 6 0)] 64 0 .normal)], [(3, .b ⟨9, .l [.s 0 0], 0, 0, 0, false, false⟩), (4, .b ⟨24, .l [.ifc 48 (.ag [.i .i64 (.ofNat 10), .x 4])], 0, 0, 0, false, false⟩), (10, .k 5 [(2, .p 3 0), (3, .p 4 0), (4, .p 5 0), (5, .p 6 0)] 64 2 .ret)]⟩
def lf6 : LF := ⟨5, 52, [(0, .yl 10), (1, .p 8 0), (2, .p 7 0), (3, .p 9 0), (9, .s 1 47)], [], .ret, [], some lh6⟩
noncomputable def tabCln_2 : Tab := addLps (addLps ({ tabk with hyp := hyCln_2 }) 5 fi5 [⟨7777777, 5, [], [2, 3, 4, 5], .goto 7777777, [], none⟩]) 29 fi29 [lf6]
theorem runCln_2 : okA (call tabCln_2 9000 5 [.x 0] ⟨H0 , 3, 0, 0⟩) (.tu [.s 0 0, .ifc 48 (.ag [.i .i64 (.ofNat 10), .x 4])]) = true := by kernel_rfl
def nuCln_2 (s : LB) : List Value := [St' s, St' ([] : LB), .int .i64 ((s.length : Int)), St' (List.take (Int.toNat (1)) s), St' (clE unS stM (sp47 [] s) [])]
def roCln_2 (s : LB) : List Value := [rwS ([] : List LB)]
theorem onCln_2 (s : LB) : ∀ j, (nuL (nuCln_2 s) j).oneCell' = true := nuL_one (l := nuCln_2 s) rfl
theorem pathCln_2 (s : LB) (b0 : s.length ≤ 9223372036854775807) (p0 : s.length ≤ 1000000) (h0 : 1 ≤ (s.length : Int)) (h1 : (List.take (Int.toNat (1)) s) = [u8 47]) (h2 : (clL unS (sp47 [] s) []) = none) (w : World) (hl : laidE w) : CwR 5 #[St' s] w (.tuple #[St' ([] : LB), .iface 48 (.agg #[.int .i64 10, St' (clE unS stM (sp47 [] s) [])])]) := by
  have := lenTake (l := s) (Q := 1) (by omega) (by omega)
  have hct := cT_fl s
  have ho : ∀ k r, (k, r) ∈ hyCln_2 → HOk (cx (nuX (nuCln_2 s) (rX (roCln_2 s) (fun _ => .bool true))) (nuX_one (onCln_2 s)) 0 laidE laidE_stab) k r := by
    unfold hyCln_2
    exact hc (kBytesB (bs := ([] : LB)) .nil (denX rfl)) <|
     hc (kRn (denX rfl)) <|
     hc (lnV rfl rfl (by omega)) <|
     hc (gecT rfl (by omega)) <|
     hc (tkC rfl rfl (by omega)) <|
     hc (kEqS (isX rfl) (isSx (l := [u8 47]) 1 47 rfl) (decide_eq_true (by assumption))) <|
     hnil
  refine runC (tb := tabCln_2) (ra := .tu [.s 0 0, .ifc 48 (.ag [.i .i64 (.ofNat 10), .x 4])]) rfl (AllOk.lp1 (AllOk.lp1 ((tabkOk (nuX (nuCln_2 s) (rX (roCln_2 s) (fun _ => .bool true))) (nuX_one (onCln_2 s))).hyps ho) (by omega) fi5_at fi5_body (lfCons (.inr ⟨rfl, mkA5, mkB5, _, Tryd.func5, mkC5⟩) lfNil)) (by omega) (get_lps2 (by omega) (by omega) fi29_at) fi29_body (lfCons (lpKnown rfl ⟨1, keyCl, lfOkCl_2 (l := lf6) (h := lh6) (clL unS (sp47 [] s) []) (clE unS stM (sp47 [] s) []) ((cT s).1) ((cT s).2) (apL unS (sp47 [] s)) (by assumption) (0, s, ([] : List LB)) (mkICl (clL unS (sp47 [] s) []) (clE unS stM (sp47 [] s) []) ((cT s).1) ((cT s).2) (apL unS (sp47 [] s)) 0 s ([] : List LB) ⟨rfl, rfl, rfl, by omega, by simp only [List.length_nil]; omega, fun _ => rfl, by omega⟩) rfl (by kernel_rfl) (th0 := [(0, .x 0)]) (sg0 := []) (fun X => thXv (v := St' s) rfl rfl (thNil)) (by kernel_rfl) (thx := [(4, .x 0)]) (thXv (v := St' (clE unS stM (sp47 [] s) [])) rfl rfl (thNil)) (by kernel_rfl)⟩) lfNil)) rfl (get_lps2 (by omega) (by omega) (get_lps (by omega))) fiB5 (runCln_2 ) (args := [St' s]) (by simp only [RelL, Rel]; exact ⟨_, _, rfl, rfl, rfl⟩) w hl fun x hx => ?_
  simp only [Rel, RelL] at hx
  obtain ⟨_, rfl, ⟨_, _, rfl, ⟨rfl, _⟩, ⟨_, _, rfl, ⟨_, rfl, ⟨_, rfl, ⟨_, _, rfl, rfl, ⟨_, _, rfl, rfl, rfl⟩⟩⟩⟩, rfl⟩⟩⟩ := hx
  rfl
def hyCln_3 : LK := [(.bytes [], .x 1), (.rn, .x 2000000), (.len (.x 0), .x 2), (.bin .geq (.x 2) (.i .i64 (.ofNat 1)), .b true), (.sub (.x 0) none (some (.i .i64 (.ofNat 1))), .x 3), (.bin .eql (.x 3) (.s 1 47), .b true), (.call 14 [.x 4], .tu [.x 5, .ni]), (.bin .eql (.x 5) (.s 2 11822), .b false), (.bin .eql (.x 5) (.s 0 0), .b true)]
def lh7 : LH := ⟨3, 11, 23, [(3, .b ⟨9, .l [.s 0 0], 0, 0, 0, false, false⟩), (4, .b ⟨24, .l [.ni], 0, 0, 0, false, false⟩), (5, .b ⟨28, .l [.nils], 0, 0, 0, false, false⟩), (6, .b ⟨9, .l [.s 0 0], 0, 0, 0, false, false⟩), (7, .b ⟨9, .l [.x 0], 0, 0, 0, false, false⟩), (8, .b ⟨9, .l [.s 1 47], 0, 0, 0, false, false⟩), (9, .b ⟨3, .l [.i .i64 (.ofNat 0)], 0, 0, 0, false, false⟩), (10, .k 5 [(2, .p 3 0), (3, .p 4 0), (4, .p 5 0), (5, .p 6 0)] 64 0 .normal)], [(3, .b ⟨9, .l [.s 0 0], 0, 0, 0, false, false⟩), (4, .b ⟨24, .l [.ni], 0, 0, 0, false, false⟩), (5, .b ⟨28, .l [.nils], 0, 0, 0, false, false⟩), (6, .b ⟨9, .l [.und], 0, 0, 0, false, false⟩), (7, .b ⟨9, .l [.x 4], 0, 0, 0, false, false⟩), (8, .b ⟨9, .l [.s 1 47], 0, 0, 0, false, false⟩), (9, .b ⟨3, .l [.i .i64 (.ofNat 0)], 0, 0, 0, false, false⟩), (10, .k 5 [(2, .p 3 0), (3, .p 4 0), (4, .p 5 0), (5, .p 6 0)] 64 0 .normal)]⟩
def lf7 : LF := ⟨5, 52, [(0, .yl 10), (1, .p 8 0), (2, .p 7 0), (3, .p 9 0), (9, .s 1 47)], [], (.exit 2), [(0, .yl 10), (2, .p 7 0)], some lh7⟩
noncomputable def tabCln_3 : Tab := addLps (addLps ({ tabk with hyp := hyCln_3 }) 5 fi5 [⟨7777777, 5, [], [2, 3, 4, 5], .goto 7777777, [], none⟩]) 29 fi29 [lf7]
theorem runCln_3 : okA (call tabCln_3 9000 5 [.x 0] ⟨H0 , 3, 0, 0⟩) (.tu [.s 1 47, .ni]) = true := by kernel_rfl
def nuCln_3 (s : LB) : List Value := [St' s, St' ([] : LB), .int .i64 ((s.length : Int)), St' (List.take (Int.toNat (1)) s), St' ((cT s).2), St' ((dcS ((cT s).2)).getD [])]
def roCln_3 (s : LB) : List Value := [rwS ([] : List LB)]
theorem onCln_3 (s : LB) : ∀ j, (nuL (nuCln_3 s) j).oneCell' = true := nuL_one (l := nuCln_3 s) rfl
theorem pathCln_3 (s : LB) (b0 : s.length ≤ 9223372036854775807) (p0 : s.length ≤ 1000000) (h0 : 1 ≤ (s.length : Int)) (h1 : (List.take (Int.toNat (1)) s) = [u8 47]) (h2 : ¬ ((clL unS (sp47 [] s) []) = none)) (h3 : ¬ ((apL unS (sp47 [] s)) = true)) (h4 : ¬ (dcS ((cT s).2) = none)) (h5 : ¬ (((dcS ((cT s).2)).getD []) = [u8 46, u8 46])) (h6 : (((dcS ((cT s).2)).getD []).length : Int) = 0) (w : World) (hl : laidE w) : CwR 5 #[St' s] w (.tuple #[St' [u8 47], .nilIface]) := by
  have := lenTake (l := s) (Q := 1) (by omega) (by omega)
  have hct := cT_fl s
  have hTo := cT_nil (s := s) (by assumption) (by simpa using (by assumption : ¬ (apL unS (sp47 [] s)) = true))
  have := dcS_len ((cT s).2)
  have ho : ∀ k r, (k, r) ∈ hyCln_3 → HOk (cx (nuX (nuCln_3 s) (rX (roCln_3 s) (fun _ => .bool true))) (nuX_one (onCln_3 s)) 0 laidE laidE_stab) k r := by
    unfold hyCln_3
    exact hc (kBytesB (bs := ([] : LB)) .nil (denX rfl)) <|
     hc (kRn (denX rfl)) <|
     hc (lnV rfl rfl (by omega)) <|
     hc (gecT rfl (by omega)) <|
     hc (tkC rfl rfl (by omega)) <|
     hc (kEqS (isX rfl) (isSx (l := [u8 47]) 1 47 rfl) (decide_eq_true (by assumption))) <|
     hc (hokDec (s := ((cT s).2)) (isX rfl) (by rw [if_neg (by assumption)]; exact denT2 (denX rfl) denNi) (by omega) (by omega)) <|
     hc (kEqS (isX rfl) (isSx (l := [u8 46, u8 46]) 2 11822 rfl) (decide_eq_false (by assumption))) <|
     hc (kEqS (isX rfl) (isSx (l := ([] : LB)) 0 0 rfl) (nilT (by omega))) <|
     hnil
  refine runC (tb := tabCln_3) (ra := .tu [.s 1 47, .ni]) rfl (AllOk.lp1 (AllOk.lp1 ((tabkOk (nuX (nuCln_3 s) (rX (roCln_3 s) (fun _ => .bool true))) (nuX_one (onCln_3 s))).hyps ho) (by omega) fi5_at fi5_body (lfCons (.inr ⟨rfl, mkA5, mkB5, _, Tryd.func5, mkC5⟩) lfNil)) (by omega) (get_lps2 (by omega) (by omega) fi29_at) fi29_body (lfCons (lpKnown rfl ⟨1, keyCl, lfOkCl_0 (l := lf7) (h := lh7) (clL unS (sp47 [] s) []) (clE unS stM (sp47 [] s) []) ((cT s).1) ((cT s).2) (apL unS (sp47 [] s)) (cT_nils (by assumption) (by simpa using (by assumption : ¬ (apL unS (sp47 [] s)) = true))) (by simpa using (by assumption : ¬ (apL unS (sp47 [] s)) = true)) (0, s, ([] : List LB)) (mkICl (clL unS (sp47 [] s) []) (clE unS stM (sp47 [] s) []) ((cT s).1) ((cT s).2) (apL unS (sp47 [] s)) 0 s ([] : List LB) ⟨rfl, rfl, rfl, by omega, by simp only [List.length_nil]; omega, fun _ => rfl, by omega⟩) rfl (by kernel_rfl) (th0 := [(0, .x 0)]) (sg0 := []) (fun X => thXv (v := St' s) rfl rfl (thNil)) (by kernel_rfl) (thx := [(4, .x 0)]) (thXv (v := St' ((cT s).2)) rfl rfl (thNil)) (by kernel_rfl)⟩) lfNil)) rfl (get_lps2 (by omega) (by omega) (get_lps (by omega))) fiB5 (runCln_3 ) (args := [St' s]) (by simp only [RelL, Rel]; exact ⟨_, _, rfl, rfl, rfl⟩) w hl fun x hx => ?_
  simp only [Rel, RelL] at hx
  obtain ⟨_, rfl, ⟨_, _, rfl, ⟨rfl, _⟩, ⟨_, _, rfl, rfl, rfl⟩⟩⟩ := hx
  rfl
def hyCln_4 : LK := [(.bytes [], .x 1), (.rn, .x 2000000), (.len (.x 0), .x 2), (.bin .geq (.x 2) (.i .i64 (.ofNat 1)), .b true), (.sub (.x 0) none (some (.i .i64 (.ofNat 1))), .x 3), (.bin .eql (.x 3) (.s 1 47), .b true), (.call 14 [.x 4], .tu [.x 5, .ni]), (.bin .eql (.x 5) (.s 2 11822), .b false), (.bin .eql (.x 5) (.s 0 0), .b false), (.bin .eql (.x 5) (.s 1 46), .b true)]
def lh8 : LH := ⟨3, 11, 23, [(3, .b ⟨9, .l [.s 0 0], 0, 0, 0, false, false⟩), (4, .b ⟨24, .l [.ni], 0, 0, 0, false, false⟩), (5, .b ⟨28, .l [.nils], 0, 0, 0, false, false⟩), (6, .b ⟨9, .l [.s 0 0], 0, 0, 0, false, false⟩), (7, .b ⟨9, .l [.x 0], 0, 0, 0, false, false⟩), (8, .b ⟨9, .l [.s 1 47], 0, 0, 0, false, false⟩), (9, .b ⟨3, .l [.i .i64 (.ofNat 0)], 0, 0, 0, false, false⟩), (10, .k 5 [(2, .p 3 0), (3, .p 4 0), (4, .p 5 0), (5, .p 6 0)] 64 0 .normal)], [(3, .b ⟨9, .l [.s 0 0], 0, 0, 0, false, false⟩), (4, .b ⟨24, .l [.ni], 0, 0, 0, false, false⟩), (5, .b ⟨28, .l [.nils], 0, 0, 0, false, false⟩), (6, .b ⟨9, .l [.und], 0, 0, 0, false, false⟩), (7, .b ⟨9, .l [.x 4], 0, 0, 0, false, false⟩), (8, .b ⟨9, .l [.s 1 47], 0, 0, 0, false, false⟩), (9, .b ⟨3, .l [.i .i64 (.ofNat 0)], 0, 0, 0, false, false⟩), (10, .k 5 [(2, .p 3 0), (3, .p 4 0), (4, .p 5 0), (5, .p 6 0)] 64 0 .normal)]⟩
def lf8 : LF := ⟨5, 52, [(0, .yl 10), (1, .p 8 0), (2, .p 7 0), (3, .p 9 0), (9, .s 1 47)], [], (.exit 2), [(0, .yl 10), (2, .p 7 0)], some lh8⟩
noncomputable def tabCln_4 : Tab := addLps (addLps ({ tabk with hyp := hyCln_4 }) 5 fi5 [⟨7777777, 5, [], [2, 3, 4, 5], .goto 7777777, [], none⟩]) 29 fi29 [lf8]
theorem runCln_4 : okA (call tabCln_4 9000 5 [.x 0] ⟨H0 , 3, 0, 0⟩) (.tu [.s 1 47, .ni]) = true := by kernel_rfl
def nuCln_4 (s : LB) : List Value := [St' s, St' ([] : LB), .int .i64 ((s.length : Int)), St' (List.take (Int.toNat (1)) s), St' ((cT s).2), St' ((dcS ((cT s).2)).getD [])]
def roCln_4 (s : LB) : List Value := [rwS ([] : List LB)]
theorem onCln_4 (s : LB) : ∀ j, (nuL (nuCln_4 s) j).oneCell' = true := nuL_one (l := nuCln_4 s) rfl
theorem pathCln_4 (s : LB) (b0 : s.length ≤ 9223372036854775807) (p0 : s.length ≤ 1000000) (h0 : 1 ≤ (s.length : Int)) (h1 : (List.take (Int.toNat (1)) s) = [u8 47]) (h2 : ¬ ((clL unS (sp47 [] s) []) = none)) (h3 : ¬ ((apL unS (sp47 [] s)) = true)) (h4 : ¬ (dcS ((cT s).2) = none)) (h5 : ¬ (((dcS ((cT s).2)).getD []) = [u8 46, u8 46])) (h6 : ¬ ((((dcS ((cT s).2)).getD []).length : Int) = 0)) (h7 : ((dcS ((cT s).2)).getD []) = [u8 46]) (w : World) (hl : laidE w) : CwR 5 #[St' s] w (.tuple #[St' [u8 47], .nilIface]) := by
  have := lenTake (l := s) (Q := 1) (by omega) (by omega)
  have hct := cT_fl s
  have hTo := cT_nil (s := s) (by assumption) (by simpa using (by assumption : ¬ (apL unS (sp47 [] s)) = true))
  have := dcS_len ((cT s).2)
  have ho : ∀ k r, (k, r) ∈ hyCln_4 → HOk (cx (nuX (nuCln_4 s) (rX (roCln_4 s) (fun _ => .bool true))) (nuX_one (onCln_4 s)) 0 laidE laidE_stab) k r := by
    unfold hyCln_4
    exact hc (kBytesB (bs := ([] : LB)) .nil (denX rfl)) <|
     hc (kRn (denX rfl)) <|
     hc (lnV rfl rfl (by omega)) <|
     hc (gecT rfl (by omega)) <|
     hc (tkC rfl rfl (by omega)) <|
     hc (kEqS (isX rfl) (isSx (l := [u8 47]) 1 47 rfl) (decide_eq_true (by assumption))) <|
     hc (hokDec (s := ((cT s).2)) (isX rfl) (by rw [if_neg (by assumption)]; exact denT2 (denX rfl) denNi) (by omega) (by omega)) <|
     hc (kEqS (isX rfl) (isSx (l := [u8 46, u8 46]) 2 11822 rfl) (decide_eq_false (by assumption))) <|
     hc (kEqS (isX rfl) (isSx (l := ([] : LB)) 0 0 rfl) (nilF (by omega))) <|
     hc (kEqS (isX rfl) (isSx (l := [u8 46]) 1 46 rfl) (decide_eq_true (by assumption))) <|
     hnil
  refine runC (tb := tabCln_4) (ra := .tu [.s 1 47, .ni]) rfl (AllOk.lp1 (AllOk.lp1 ((tabkOk (nuX (nuCln_4 s) (rX (roCln_4 s) (fun _ => .bool true))) (nuX_one (onCln_4 s))).hyps ho) (by omega) fi5_at fi5_body (lfCons (.inr ⟨rfl, mkA5, mkB5, _, Tryd.func5, mkC5⟩) lfNil)) (by omega) (get_lps2 (by omega) (by omega) fi29_at) fi29_body (lfCons (lpKnown rfl ⟨1, keyCl, lfOkCl_0 (l := lf8) (h := lh8) (clL unS (sp47 [] s) []) (clE unS stM (sp47 [] s) []) ((cT s).1) ((cT s).2) (apL unS (sp47 [] s)) (cT_nils (by assumption) (by simpa using (by assumption : ¬ (apL unS (sp47 [] s)) = true))) (by simpa using (by assumption : ¬ (apL unS (sp47 [] s)) = true)) (0, s, ([] : List LB)) (mkICl (clL unS (sp47 [] s) []) (clE unS stM (sp47 [] s) []) ((cT s).1) ((cT s).2) (apL unS (sp47 [] s)) 0 s ([] : List LB) ⟨rfl, rfl, rfl, by omega, by simp only [List.length_nil]; omega, fun _ => rfl, by omega⟩) rfl (by kernel_rfl) (th0 := [(0, .x 0)]) (sg0 := []) (fun X => thXv (v := St' s) rfl rfl (thNil)) (by kernel_rfl) (thx := [(4, .x 0)]) (thXv (v := St' ((cT s).2)) rfl rfl (thNil)) (by kernel_rfl)⟩) lfNil)) rfl (get_lps2 (by omega) (by omega) (get_lps (by omega))) fiB5 (runCln_4 ) (args := [St' s]) (by simp only [RelL, Rel]; exact ⟨_, _, rfl, rfl, rfl⟩) w hl fun x hx => ?_
  simp only [Rel, RelL] at hx
  obtain ⟨_, rfl, ⟨_, _, rfl, ⟨rfl, _⟩, ⟨_, _, rfl, rfl, rfl⟩⟩⟩ := hx
  rfl
def hyCln_5 : LK := [(.bytes [], .x 1), (.rn, .x 2000000), (.len (.x 0), .x 2), (.bin .geq (.x 2) (.i .i64 (.ofNat 1)), .b true), (.sub (.x 0) none (some (.i .i64 (.ofNat 1))), .x 3), (.bin .eql (.x 3) (.s 1 47), .b true), (.call 14 [.x 4], .tu [.x 5, .ni]), (.bin .eql (.x 5) (.s 2 11822), .b true)]
def lh9 : LH := ⟨3, 11, 23, [(3, .b ⟨9, .l [.s 0 0], 0, 0, 0, false, false⟩), (4, .b ⟨24, .l [.ni], 0, 0, 0, false, false⟩), (5, .b ⟨28, .l [.nils], 0, 0, 0, false, false⟩), (6, .b ⟨9, .l [.s 0 0], 0, 0, 0, false, false⟩), (7, .b ⟨9, .l [.x 0], 0, 0, 0, false, false⟩), (8, .b ⟨9, .l [.s 1 47], 0, 0, 0, false, false⟩), (9, .b ⟨3, .l [.i .i64 (.ofNat 0)], 0, 0, 0, false, false⟩), (10, .k 5 [(2, .p 3 0), (3, .p 4 0), (4, .p 5 0), (5, .p 6 0)] 64 0 .normal)], [(3, .b ⟨9, .l [.s 0 0], 0, 0, 0, false, false⟩), (4, .b ⟨24, .l [.ni], 0, 0, 0, false, false⟩), (5, .b ⟨28, .l [.nils], 0, 0, 0, false, false⟩), (6, .b ⟨9, .l [.und], 0, 0, 0, false, false⟩), (7, .b ⟨9, .l [.x 4], 0, 0, 0, false, false⟩), (8, .b ⟨9, .l [.s 1 47], 0, 0, 0, false, false⟩), (9, .b ⟨3, .l [.i .i64 (.ofNat 0)], 0, 0, 0, false, false⟩), (10, .k 5 [(2, .p 3 0), (3, .p 4 0), (4, .p 5 0), (5, .p 6 0)] 64 0 .normal)]⟩
def lf9 : LF := ⟨5, 52, [(0, .yl 10), (1, .p 8 0), (2, .p 7 0), (3, .p 9 0), (9, .s 1 47)], [], (.exit 2), [(0, .yl 10), (2, .p 7 0)], some lh9⟩
noncomputable def tabCln_5 : Tab := addLps (addLps ({ tabk with hyp := hyCln_5 }) 5 fi5 [⟨7777777, 5, [], [2, 3, 4, 5], .goto 7777777, [], none⟩]) 29 fi29 [lf9]
theorem runCln_5 : okA (call tabCln_5 9000 5 [.x 0] ⟨H0 , 3, 0, 0⟩) (.tu [.s 0 0, .ifc 48 (.ag [.i .i64 (.ofNat 10), .s 21 170204620060147215156831070085407667714849644748897])]) = true := by kernel_rfl
def nuCln_5 (s : LB) : List Value := [St' s, St' ([] : LB), .int .i64 ((s.length : Int)), St' (List.take (Int.toNat (1)) s), St' ((cT s).2), St' ((dcS ((cT s).2)).getD [])]
def roCln_5 (s : LB) : List Value := [rwS ([] : List LB)]
theorem onCln_5 (s : LB) : ∀ j, (nuL (nuCln_5 s) j).oneCell' = true := nuL_one (l := nuCln_5 s) rfl
theorem pathCln_5 (s : LB) (b0 : s.length ≤ 9223372036854775807) (p0 : s.length ≤ 1000000) (h0 : 1 ≤ (s.length : Int)) (h1 : (List.take (Int.toNat (1)) s) = [u8 47]) (h2 : ¬ ((clL unS (sp47 [] s) []) = none)) (h3 : ¬ ((apL unS (sp47 [] s)) = true)) (h4 : ¬ (dcS ((cT s).2) = none)) (h5 : ((dcS ((cT s).2)).getD []) = [u8 46, u8 46]) (w : World) (hl : laidE w) : CwR 5 #[St' s] w (.tuple #[St' ([] : LB), .iface 48 (.agg #[.int .i64 10, St' [u8 97, u8 32, u8 112, u8 97, u8 116, u8 104, u8 32, u8 116, u8 104, u8 97, u8 116, u8 32, u8 108, u8 101, u8 97, u8 100, u8 115, u8 32, u8 111, u8 117, u8 116]])]) := by
  have := lenTake (l := s) (Q := 1) (by omega) (by omega)
  have hct := cT_fl s
  have hTo := cT_nil (s := s) (by assumption) (by simpa using (by assumption : ¬ (apL unS (sp47 [] s)) = true))
  have := dcS_len ((cT s).2)
  obtain ⟨hdd1, hdd2⟩ := dd_f (t := ((dcS ((cT s).2)).getD [])) (by assumption)
  have ho : ∀ k r, (k, r) ∈ hyCln_5 → HOk (cx (nuX (nuCln_5 s) (rX (roCln_5 s) (fun _ => .bool true))) (nuX_one (onCln_5 s)) 0 laidE laidE_stab) k r := by
    unfold hyCln_5
    exact hc (kBytesB (bs := ([] : LB)) .nil (denX rfl)) <|
     hc (kRn (denX rfl)) <|
     hc (lnV rfl rfl (by omega)) <|
     hc (gecT rfl (by omega)) <|
     hc (tkC rfl rfl (by omega)) <|
     hc (kEqS (isX rfl) (isSx (l := [u8 47]) 1 47 rfl) (decide_eq_true (by assumption))) <|
     hc (hokDec (s := ((cT s).2)) (isX rfl) (by rw [if_neg (by assumption)]; exact denT2 (denX rfl) denNi) (by omega) (by omega)) <|
     hc (kEqS (isX rfl) (isSx (l := [u8 46, u8 46]) 2 11822 rfl) (decide_eq_true (by assumption))) <|
     hnil
  refine runC (tb := tabCln_5) (ra := .tu [.s 0 0, .ifc 48 (.ag [.i .i64 (.ofNat 10), .s 21 170204620060147215156831070085407667714849644748897])]) rfl (AllOk.lp1 (AllOk.lp1 ((tabkOk (nuX (nuCln_5 s) (rX (roCln_5 s) (fun _ => .bool true))) (nuX_one (onCln_5 s))).hyps ho) (by omega) fi5_at fi5_body (lfCons (.inr ⟨rfl, mkA5, mkB5, _, Tryd.func5, mkC5⟩) lfNil)) (by omega) (get_lps2 (by omega) (by omega) fi29_at) fi29_body (lfCons (lpKnown rfl ⟨1, keyCl, lfOkCl_0 (l := lf9) (h := lh9) (clL unS (sp47 [] s) []) (clE unS stM (sp47 [] s) []) ((cT s).1) ((cT s).2) (apL unS (sp47 [] s)) (cT_nils (by assumption) (by simpa using (by assumption : ¬ (apL unS (sp47 [] s)) = true))) (by simpa using (by assumption : ¬ (apL unS (sp47 [] s)) = true)) (0, s, ([] : List LB)) (mkICl (clL unS (sp47 [] s) []) (clE unS stM (sp47 [] s) []) ((cT s).1) ((cT s).2) (apL unS (sp47 [] s)) 0 s ([] : List LB) ⟨rfl, rfl, rfl, by omega, by simp only [List.length_nil]; omega, fun _ => rfl, by omega⟩) rfl (by kernel_rfl) (th0 := [(0, .x 0)]) (sg0 := []) (fun X => thXv (v := St' s) rfl rfl (thNil)) (by kernel_rfl) (thx := [(4, .x 0)]) (thXv (v := St' ((cT s).2)) rfl rfl (thNil)) (by kernel_rfl)⟩) lfNil)) rfl (get_lps2 (by omega) (by omega) (get_lps (by omega))) fiB5 (runCln_5 ) (args := [St' s]) (by simp only [RelL, Rel]; exact ⟨_, _, rfl, rfl, rfl⟩) w hl fun x hx => ?_
  simp only [Rel, RelL] at hx
  obtain ⟨_, rfl, ⟨_, _, rfl, ⟨rfl, _⟩, ⟨_, _, rfl, ⟨_, rfl, ⟨_, rfl, ⟨_, _, rfl, rfl, ⟨_, _, rfl, ⟨rfl, _⟩, rfl⟩⟩⟩⟩, rfl⟩⟩⟩ := hx
  rfl
def hyCln_6 : LK := [(.bytes [], .x 1), (.rn, .x 2000000), (.len (.x 0), .x 2), (.bin .geq (.x 2) (.i .i64 (.ofNat 1)), .b true), (.sub (.x 0) none (some (.i .i64 (.ofNat 1))), .x 3), (.bin .eql (.x 3) (.s 1 47), .b true), (.call 14 [.x 4], .tu [.x 5, .ni]), (.bin .eql (.x 5) (.s 2 11822), .b false), (.bin .eql (.x 5) (.s 0 0), .b false), (.bin .eql (.x 5) (.s 1 46), .b false), (.ra (.x 2000000) [.x 5], .x 2000001), (.rf (.x 2000001) 1 16, .b true), (.bin .add (.s 1 47) (.x 6), .x 7), (.rl (.x 2000001) 1, .i .i64 (.ofNat 1))]
def lh10 : LH := ⟨3, 11, 23, [(3, .b ⟨9, .l [.s 0 0], 0, 0, 0, false, false⟩), (4, .b ⟨24, .l [.ni], 0, 0, 0, false, false⟩), (5, .b ⟨28, .l [.nils], 0, 0, 0, false, false⟩), (6, .b ⟨9, .l [.s 0 0], 0, 0, 0, false, false⟩), (7, .b ⟨9, .l [.x 0], 0, 0, 0, false, false⟩), (8, .b ⟨9, .l [.s 1 47], 0, 0, 0, false, false⟩), (9, .b ⟨3, .l [.i .i64 (.ofNat 0)], 0, 0, 0, false, false⟩), (10, .k 5 [(2, .p 3 0), (3, .p 4 0), (4, .p 5 0), (5, .p 6 0)] 64 0 .normal)], [(3, .b ⟨9, .l [.s 0 0], 0, 0, 0, false, false⟩), (4, .b ⟨24, .l [.ni], 0, 0, 0, false, false⟩), (5, .b ⟨28, .l [.nils], 0, 0, 0, false, false⟩), (6, .b ⟨9, .l [.und], 0, 0, 0, false, false⟩), (7, .b ⟨9, .l [.x 4], 0, 0, 0, false, false⟩), (8, .b ⟨9, .l [.s 1 47], 0, 0, 0, false, false⟩), (9, .b ⟨3, .l [.i .i64 (.ofNat 0)], 0, 0, 0, false, false⟩), (10, .k 5 [(2, .p 3 0), (3, .p 4 0), (4, .p 5 0), (5, .p 6 0)] 64 0 .normal)]⟩
def lf10 : LF := ⟨5, 52, [(0, .yl 10), (1, .p 8 0), (2, .p 7 0), (3, .p 9 0), (9, .s 1 47)], [], (.exit 2), [(0, .yl 10), (2, .p 7 0)], some lh10⟩
def lh11 : LH := ⟨3, 43, 43, [(24, .r 2000001 9 1 false)], [(24, .r 2000001 9 1 false)]⟩
def lf11 : LF := ⟨8888888, 0, [(0, .sr 24), (1, .s 1 47)], [], .normal, [(0, .x 6)], some lh11⟩
noncomputable def tabCln_6 : Tab := addLps (addLps (addLps ({ tabk with hyp := hyCln_6 }) 5 fi5 [⟨7777777, 5, [], [2, 3, 4, 5], .goto 7777777, [], none⟩]) 29 fi29 [lf10]) 16 fi16 [lf11]
theorem runCln_6 : okA (call tabCln_6 9000 5 [.x 0] ⟨H0 , 3, 0, 0⟩) (.tu [.x 7, .ni]) = true := by kernel_rfl
def nuCln_6 (s : LB) : List Value := [St' s, St' ([] : LB), .int .i64 ((s.length : Int)), St' (List.take (Int.toNat (1)) s), St' ((cT s).2), St' ((dcS ((cT s).2)).getD []), St' (join47 (([] : List LB) ++ [((dcS ((cT s).2)).getD [])])), St' ([u8 47] ++ (join47 (([] : List LB) ++ [((dcS ((cT s).2)).getD [])])))]
def roCln_6 (s : LB) : List Value := [rwS ([] : List LB), rwS (([] : List LB) ++ [((dcS ((cT s).2)).getD [])])]
theorem onCln_6 (s : LB) : ∀ j, (nuL (nuCln_6 s) j).oneCell' = true := nuL_one (l := nuCln_6 s) rfl
theorem pathCln_6 (s : LB) (b0 : s.length ≤ 9223372036854775807) (p0 : s.length ≤ 1000000) (h0 : 1 ≤ (s.length : Int)) (h1 : (List.take (Int.toNat (1)) s) = [u8 47]) (h2 : ¬ ((clL unS (sp47 [] s) []) = none)) (h3 : ¬ ((apL unS (sp47 [] s)) = true)) (h4 : ¬ (dcS ((cT s).2) = none)) (h5 : ¬ (((dcS ((cT s).2)).getD []) = [u8 46, u8 46])) (h6 : ¬ ((((dcS ((cT s).2)).getD []).length : Int) = 0)) (h7 : ¬ (((dcS ((cT s).2)).getD []) = [u8 46])) (w : World) (hl : laidE w) : CwR 5 #[St' s] w (.tuple #[St' ([u8 47] ++ (join47 (([] : List LB) ++ [((dcS ((cT s).2)).getD [])]))), .nilIface]) := by
  have := lenTake (l := s) (Q := 1) (by omega) (by omega)
  have hct := cT_fl s
  have hTo := cT_nil (s := s) (by assumption) (by simpa using (by assumption : ¬ (apL unS (sp47 [] s)) = true))
  have := dcS_len ((cT s).2)
  have := jn1 (([] : List LB) ++ [((dcS ((cT s).2)).getD [])])
  have := fl_len (([] : List LB) ++ [((dcS ((cT s).2)).getD [])])
  have := fl_ap ([] : List LB) ((dcS ((cT s).2)).getD [])
  have hf0 : (fl47 []).length = 0 := rfl
  have ho : ∀ k r, (k, r) ∈ hyCln_6 → HOk (cx (nuX (nuCln_6 s) (rX (roCln_6 s) (fun _ => .bool true))) (nuX_one (onCln_6 s)) 0 laidE laidE_stab) k r := by
    unfold hyCln_6
    exact hc (kBytesB (bs := ([] : LB)) .nil (denX rfl)) <|
     hc (kRn (denX rfl)) <|
     hc (lnV rfl rfl (by omega)) <|
     hc (gecT rfl (by omega)) <|
     hc (tkC rfl rfl (by omega)) <|
     hc (kEqS (isX rfl) (isSx (l := [u8 47]) 1 47 rfl) (decide_eq_true (by assumption))) <|
     hc (hokDec (s := ((cT s).2)) (isX rfl) (by rw [if_neg (by assumption)]; exact denT2 (denX rfl) denNi) (by omega) (by omega)) <|
     hc (kEqS (isX rfl) (isSx (l := [u8 46, u8 46]) 2 11822 rfl) (decide_eq_false (by assumption))) <|
     hc (kEqS (isX rfl) (isSx (l := ([] : LB)) 0 0 rfl) (nilF (by omega))) <|
     hc (kEqS (isX rfl) (isSx (l := [u8 46]) 1 46 rfl) (decide_eq_false (by assumption))) <|
     hc (kRa (isX rfl) (isX rfl) (denX rfl)) <|
     hc (kRf (isX rfl) (by first | omega | (simp <;> omega)) (by first | omega | (simp <;> omega))) <|
     hc (kCat (isSx (l := [u8 47]) 1 47 rfl) (isX rfl) (denX rfl) (by first | rfl | (simp; done)) (by first | omega | (simp only [List.length_append, List.length_cons, List.length_nil]; omega))) <|
     hc (kRl (isX rfl) (denZ (m := 1) rfl) (by first | omega | (simp <;> omega))) <|
     hnil
  refine runC (tb := tabCln_6) (ra := .tu [.x 7, .ni]) rfl (AllOk.lp2 (AllOk.lp1 (AllOk.lp1 ((tabkOk (nuX (nuCln_6 s) (rX (roCln_6 s) (fun _ => .bool true))) (nuX_one (onCln_6 s))).hyps ho) (by omega) fi5_at fi5_body (lfCons (.inr ⟨rfl, mkA5, mkB5, _, Tryd.func5, mkC5⟩) lfNil)) (by omega) (get_lps2 (by omega) (by omega) fi29_at) fi29_body (lfCons (lpKnown rfl ⟨1, keyCl, lfOkCl_0 (l := lf10) (h := lh10) (clL unS (sp47 [] s) []) (clE unS stM (sp47 [] s) []) ((cT s).1) ((cT s).2) (apL unS (sp47 [] s)) (cT_nils (by assumption) (by simpa using (by assumption : ¬ (apL unS (sp47 [] s)) = true))) (by simpa using (by assumption : ¬ (apL unS (sp47 [] s)) = true)) (0, s, ([] : List LB)) (mkICl (clL unS (sp47 [] s) []) (clE unS stM (sp47 [] s) []) ((cT s).1) ((cT s).2) (apL unS (sp47 [] s)) 0 s ([] : List LB) ⟨rfl, rfl, rfl, by omega, by simp only [List.length_nil]; omega, fun _ => rfl, by omega⟩) rfl (by kernel_rfl) (th0 := [(0, .x 0)]) (sg0 := []) (fun X => thXv (v := St' s) rfl rfl (thNil)) (by kernel_rfl) (thx := [(4, .x 0)]) (thXv (v := St' ((cT s).2)) rfl rfl (thNil)) (by kernel_rfl)⟩) lfNil)) (by omega) (get_lps2 (by omega) (by omega) (get_lps2 (by omega) (by omega) fi16_at)) fi16_body (lfCons (.inr ⟨⟨rfl, rfl⟩, cfA16, cfJ (l := lf11) (h := lh11) (K := (([] : List LB) ++ [((dcS ((cT s).2)).getD [])])) rfl rfl rfl rfl rfl rfl rfl rfl (by first | omega | (simp <;> omega)) (by first | omega | (simp <;> omega))⟩) lfNil)) rfl (get_lps2 (by omega) (by omega) (get_lps2 (by omega) (by omega) (get_lps (by omega)))) fiB5 (runCln_6 ) (args := [St' s]) (by simp only [RelL, Rel]; exact ⟨_, _, rfl, rfl, rfl⟩) w hl fun x hx => ?_
  simp only [Rel, RelL] at hx
  obtain ⟨_, rfl, ⟨_, _, rfl, rfl, ⟨_, _, rfl, rfl, rfl⟩⟩⟩ := hx
  rfl
def hyCln_7 : LK := [(.bytes [], .x 1), (.rn, .x 2000000), (.len (.x 0), .x 2), (.bin .geq (.x 2) (.i .i64 (.ofNat 1)), .b true), (.sub (.x 0) none (some (.i .i64 (.ofNat 1))), .x 3), (.bin .eql (.x 3) (.s 1 47), .b true), (.call 14 [.x 4], .tu [.s 0 0, .ifc 48 (.ag [.i .i64 (.ofNat 10), .x 5])])]
def lh12 : LH := ⟨3, 11, 23, [(3, .b ⟨9, .l [.s 0 0], 0, 0, 0, false, false⟩), (4, .b ⟨24, .l [.ni], 0, 0, 0, false, false⟩), (5, .b ⟨28, .l [.nils], 0, 0, 0, false, false⟩), (6, .b ⟨9, .l [.s 0 0], 0, 0, 0, false, false⟩), (7, .b ⟨9, .l [.x 0], 0, 0, 0, false, false⟩), (8, .b ⟨9, .l [.s 1 47], 0, 0, 0, false, false⟩), (9, .b ⟨3, .l [.i .i64 (.ofNat 0)], 0, 0, 0, false, false⟩), (10, .k 5 [(2, .p 3 0), (3, .p 4 0), (4, .p 5 0), (5, .p 6 0)] 64 0 .normal)], [(3, .b ⟨9, .l [.s 0 0], 0, 0, 0, false, false⟩), (4, .b ⟨24, .l [.ni], 0, 0, 0, false, false⟩), (5, .b ⟨28, .l [.nils], 0, 0, 0, false, false⟩), (6, .b ⟨9, .l [.und], 0, 0, 0, false, false⟩), (7, .b ⟨9, .l [.x 4], 0, 0, 0, false, false⟩), (8, .b ⟨9, .l [.s 1 47], 0, 0, 0, false, false⟩), (9, .b ⟨3, .l [.i .i64 (.ofNat 0)], 0, 0, 0, false, false⟩), (10, .k 5 [(2, .p 3 0), (3, .p 4 0), (4, .p 5 0), (5, .p 6 0)] 64 0 .normal)]⟩
def lf12 : LF := ⟨5, 52, [(0, .yl 10), (1, .p 8 0), (2, .p 7 0), (3, .p 9 0), (9, .s 1 47)], [], (.exit 2), [(0, .yl 10), (2, .p 7 0)], some lh12⟩
noncomputable def tabCln_7 : Tab := addLps (addLps ({ tabk with hyp := hyCln_7 }) 5 fi5 [⟨7777777, 5, [], [2, 3, 4, 5], .goto 7777777, [], none⟩]) 29 fi29 [lf12]
theorem runCln_7 : okA (call tabCln_7 9000 5 [.x 0] ⟨H0 , 3, 0, 0⟩) (.tu [.s 0 0, .ifc 48 (.ag [.i .i64 (.ofNat 10), .x 5])]) = true := by kernel_rfl
def nuCln_7 (s : LB) : List Value := [St' s, St' ([] : LB), .int .i64 ((s.length : Int)), St' (List.take (Int.toNat (1)) s), St' ((cT s).2), St' (dcM ((cT s).2))]
def roCln_7 (s : LB) : List Value := [rwS ([] : List LB)]
theorem onCln_7 (s : LB) : ∀ j, (nuL (nuCln_7 s) j).oneCell' = true := nuL_one (l := nuCln_7 s) rfl
theorem pathCln_7 (s : LB) (b0 : s.length ≤ 9223372036854775807) (p0 : s.length ≤ 1000000) (h0 : 1 ≤ (s.length : Int)) (h1 : (List.take (Int.toNat (1)) s) = [u8 47]) (h2 : ¬ ((clL unS (sp47 [] s) []) = none)) (h3 : ¬ ((apL unS (sp47 [] s)) = true)) (h4 : dcS ((cT s).2) = none) (w : World) (hl : laidE w) : CwR 5 #[St' s] w (.tuple #[St' ([] : LB), .iface 48 (.agg #[.int .i64 10, St' (dcM ((cT s).2))])]) := by
  have := lenTake (l := s) (Q := 1) (by omega) (by omega)
  have hct := cT_fl s
  have hTo := cT_nil (s := s) (by assumption) (by simpa using (by assumption : ¬ (apL unS (sp47 [] s)) = true))
  have := dcS_len ((cT s).2)
  have ho : ∀ k r, (k, r) ∈ hyCln_7 → HOk (cx (nuX (nuCln_7 s) (rX (roCln_7 s) (fun _ => .bool true))) (nuX_one (onCln_7 s)) 0 laidE laidE_stab) k r := by
    unfold hyCln_7
    exact hc (kBytesB (bs := ([] : LB)) .nil (denX rfl)) <|
     hc (kRn (denX rfl)) <|
     hc (lnV rfl rfl (by omega)) <|
     hc (gecT rfl (by omega)) <|
     hc (tkC rfl rfl (by omega)) <|
     hc (kEqS (isX rfl) (isSx (l := [u8 47]) 1 47 rfl) (decide_eq_true (by assumption))) <|
     hc (hokDec (s := ((cT s).2)) (isX rfl) (by rw [if_pos (by assumption)]; exact denT2 denS0 (denIfc (denA2 (denI .i64 10) (denX rfl)))) (by omega) (by omega)) <|
     hnil
  refine runC (tb := tabCln_7) (ra := .tu [.s 0 0, .ifc 48 (.ag [.i .i64 (.ofNat 10), .x 5])]) rfl (AllOk.lp1 (AllOk.lp1 ((tabkOk (nuX (nuCln_7 s) (rX (roCln_7 s) (fun _ => .bool true))) (nuX_one (onCln_7 s))).hyps ho) (by omega) fi5_at fi5_body (lfCons (.inr ⟨rfl, mkA5, mkB5, _, Tryd.func5, mkC5⟩) lfNil)) (by omega) (get_lps2 (by omega) (by omega) fi29_at) fi29_body (lfCons (lpKnown rfl ⟨1, keyCl, lfOkCl_0 (l := lf12) (h := lh12) (clL unS (sp47 [] s) []) (clE unS stM (sp47 [] s) []) ((cT s).1) ((cT s).2) (apL unS (sp47 [] s)) (cT_nils (by assumption) (by simpa using (by assumption : ¬ (apL unS (sp47 [] s)) = true))) (by simpa using (by assumption : ¬ (apL unS (sp47 [] s)) = true)) (0, s, ([] : List LB)) (mkICl (clL unS (sp47 [] s) []) (clE unS stM (sp47 [] s) []) ((cT s).1) ((cT s).2) (apL unS (sp47 [] s)) 0 s ([] : List LB) ⟨rfl, rfl, rfl, by omega, by simp only [List.length_nil]; omega, fun _ => rfl, by omega⟩) rfl (by kernel_rfl) (th0 := [(0, .x 0)]) (sg0 := []) (fun X => thXv (v := St' s) rfl rfl (thNil)) (by kernel_rfl) (thx := [(4, .x 0)]) (thXv (v := St' ((cT s).2)) rfl rfl (thNil)) (by kernel_rfl)⟩) lfNil)) rfl (get_lps2 (by omega) (by omega) (get_lps (by omega))) fiB5 (runCln_7 ) (args := [St' s]) (by simp only [RelL, Rel]; exact ⟨_, _, rfl, rfl, rfl⟩) w hl fun x hx => ?_
  simp only [Rel, RelL] at hx
  obtain ⟨_, rfl, ⟨_, _, rfl, ⟨rfl, _⟩, ⟨_, _, rfl, ⟨_, rfl, ⟨_, rfl, ⟨_, _, rfl, rfl, ⟨_, _, rfl, rfl, rfl⟩⟩⟩⟩, rfl⟩⟩⟩ := hx
  rfl
def hyCln_8 : LK := [(.bytes [], .x 1), (.rn, .x 2000000), (.len (.x 0), .x 2), (.bin .geq (.x 2) (.i .i64 (.ofNat 1)), .b true), (.sub (.x 0) none (some (.i .i64 (.ofNat 1))), .x 3), (.bin .eql (.x 3) (.s 1 47), .b true), (.call 14 [.x 4], .tu [.x 5, .ni]), (.bin .eql (.x 5) (.s 2 11822), .b false), (.bin .eql (.x 5) (.s 0 0), .b true), (.bin .add (.s 1 47) (.x 6), .x 7), (.rl (.x 2000001) 1, .x 8), (.bin .gtr (.x 8) (.i .i64 (.ofNat 0)), .b true), (.bin .add (.x 7) (.s 1 47), .x 9)]
def lh13 : LH := ⟨3, 11, 23, [(3, .b ⟨9, .l [.s 0 0], 0, 0, 0, false, false⟩), (4, .b ⟨24, .l [.ni], 0, 0, 0, false, false⟩), (5, .b ⟨28, .l [.nils], 0, 0, 0, false, false⟩), (6, .b ⟨9, .l [.s 0 0], 0, 0, 0, false, false⟩), (7, .b ⟨9, .l [.x 0], 0, 0, 0, false, false⟩), (8, .b ⟨9, .l [.s 1 47], 0, 0, 0, false, false⟩), (9, .b ⟨3, .l [.i .i64 (.ofNat 0)], 0, 0, 0, false, false⟩), (10, .k 5 [(2, .p 3 0), (3, .p 4 0), (4, .p 5 0), (5, .p 6 0)] 64 0 .normal)], [(3, .b ⟨9, .l [.s 0 0], 0, 0, 0, false, false⟩), (4, .b ⟨24, .l [.ni], 0, 0, 0, false, false⟩), (5, .b ⟨28, .l [.sr 11], 0, 0, 0, false, false⟩), (6, .b ⟨9, .l [.und], 0, 0, 0, false, false⟩), (7, .b ⟨9, .l [.x 4], 0, 0, 0, false, false⟩), (8, .b ⟨9, .l [.s 1 47], 0, 0, 0, false, false⟩), (9, .b ⟨3, .l [.i .i64 (.ofNat 0)], 0, 0, 0, false, false⟩), (10, .k 5 [(2, .p 3 0), (3, .p 4 0), (4, .p 5 0), (5, .p 6 0)] 64 0 .normal), (11, .r 2000001 9 1 false)]⟩
def lf13 : LF := ⟨5, 52, [(0, .yl 10), (1, .p 8 0), (2, .p 7 0), (3, .p 9 0), (9, .s 1 47)], [], (.exit 2), [(0, .yl 10), (2, .p 7 0)], some lh13⟩
def lh14 : LH := ⟨3, 43, 43, [(11, .r 2000001 9 1 false)], [(11, .r 2000001 9 1 false)]⟩
def lf14 : LF := ⟨8888888, 0, [(0, .sr 11), (1, .s 1 47)], [], .normal, [(0, .x 6)], some lh14⟩
noncomputable def tabCln_8 : Tab := addLps (addLps (addLps ({ tabk with hyp := hyCln_8 }) 5 fi5 [⟨7777777, 5, [], [2, 3, 4, 5], .goto 7777777, [], none⟩]) 29 fi29 [lf13]) 16 fi16 [lf14]
theorem runCln_8 : okA (call tabCln_8 9000 5 [.x 0] ⟨H0 , 3, 0, 0⟩) (.tu [.x 9, .ni]) = true := by kernel_rfl
def nuCln_8 (s : LB) : List Value := [St' s, St' ([] : LB), .int .i64 ((s.length : Int)), St' (List.take (Int.toNat (1)) s), St' ((cT s).2), St' ((dcS ((cT s).2)).getD []), St' (join47 ((cT s).1)), St' ([u8 47] ++ (join47 ((cT s).1))), .int .i64 ((((cT s).1).length : Int)), St' ([u8 47] ++ ((join47 ((cT s).1)) ++ [u8 47]))]
def roCln_8 (s : LB) : List Value := [rwS ([] : List LB), rwS ((cT s).1)]
theorem onCln_8 (s : LB) : ∀ j, (nuL (nuCln_8 s) j).oneCell' = true := nuL_one (l := nuCln_8 s) rfl
theorem pathCln_8 (s : LB) (b0 : s.length ≤ 9223372036854775807) (p0 : s.length ≤ 1000000) (h0 : 1 ≤ (s.length : Int)) (h1 : (List.take (Int.toNat (1)) s) = [u8 47]) (h2 : ¬ ((clL unS (sp47 [] s) []) = none)) (h3 : (apL unS (sp47 [] s)) = true) (h4 : ¬ (dcS ((cT s).2) = none)) (h5 : ¬ (((dcS ((cT s).2)).getD []) = [u8 46, u8 46])) (h6 : (((dcS ((cT s).2)).getD []).length : Int) = 0) (h7 : 0 < (((cT s).1).length : Int)) (w : World) (hl : laidE w) : CwR 5 #[St' s] w (.tuple #[St' ([u8 47] ++ ((join47 ((cT s).1)) ++ [u8 47])), .nilIface]) := by
  have := lenTake (l := s) (Q := 1) (by omega) (by omega)
  have hct := cT_fl s
  have := dcS_len ((cT s).2)
  have := jn1 ((cT s).1)
  have := fl_len ((cT s).1)
  have ho : ∀ k r, (k, r) ∈ hyCln_8 → HOk (cx (nuX (nuCln_8 s) (rX (roCln_8 s) (fun _ => .bool true))) (nuX_one (onCln_8 s)) 0 laidE laidE_stab) k r := by
    unfold hyCln_8
    exact hc (kBytesB (bs := ([] : LB)) .nil (denX rfl)) <|
     hc (kRn (denX rfl)) <|
     hc (lnV rfl rfl (by omega)) <|
     hc (gecT rfl (by omega)) <|
     hc (tkC rfl rfl (by omega)) <|
     hc (kEqS (isX rfl) (isSx (l := [u8 47]) 1 47 rfl) (decide_eq_true (by assumption))) <|
     hc (hokDec (s := ((cT s).2)) (isX rfl) (by rw [if_neg (by assumption)]; exact denT2 (denX rfl) denNi) (by omega) (by omega)) <|
     hc (kEqS (isX rfl) (isSx (l := [u8 46, u8 46]) 2 11822 rfl) (decide_eq_false (by assumption))) <|
     hc (kEqS (isX rfl) (isSx (l := ([] : LB)) 0 0 rfl) (nilT (by omega))) <|
     hc (kCat (isSx (l := [u8 47]) 1 47 rfl) (isX rfl) (denX rfl) (by first | rfl | (simp; done)) (by first | omega | (simp only [List.length_append, List.length_cons, List.length_nil]; omega))) <|
     hc (kRl (isX rfl) (denX rfl) (by first | omega | (simp <;> omega))) <|
     hc (gtcT rfl (by omega)) <|
     hc (kCat (isX rfl) (isSx (l := [u8 47]) 1 47 rfl) (denX rfl) (by first | rfl | (simp; done)) (by first | omega | (simp only [List.length_append, List.length_cons, List.length_nil]; omega))) <|
     hnil
  refine runC (tb := tabCln_8) (ra := .tu [.x 9, .ni]) rfl (AllOk.lp2 (AllOk.lp1 (AllOk.lp1 ((tabkOk (nuX (nuCln_8 s) (rX (roCln_8 s) (fun _ => .bool true))) (nuX_one (onCln_8 s))).hyps ho) (by omega) fi5_at fi5_body (lfCons (.inr ⟨rfl, mkA5, mkB5, _, Tryd.func5, mkC5⟩) lfNil)) (by omega) (get_lps2 (by omega) (by omega) fi29_at) fi29_body (lfCons (lpKnown rfl ⟨1, keyCl, lfOkCl_1 (l := lf13) (h := lh13) (clL unS (sp47 [] s) []) (clE unS stM (sp47 [] s) []) ((cT s).1) ((cT s).2) (apL unS (sp47 [] s)) (cT_some (by assumption)) (by assumption) (0, s, ([] : List LB)) (mkICl (clL unS (sp47 [] s) []) (clE unS stM (sp47 [] s) []) ((cT s).1) ((cT s).2) (apL unS (sp47 [] s)) 0 s ([] : List LB) ⟨rfl, rfl, rfl, by omega, by simp only [List.length_nil]; omega, fun _ => rfl, by omega⟩) rfl (by kernel_rfl) (th0 := [(0, .x 0)]) (sg0 := []) (fun X => thXv (v := St' s) rfl rfl (thNil)) (by kernel_rfl) (thx := [(4, .x 0), (2000001, .x 2000000)]) (thXv (v := St' ((cT s).2)) rfl rfl (thXv (v := rwS ((cT s).1)) rfl rfl (thNil))) (by kernel_rfl)⟩) lfNil)) (by omega) (get_lps2 (by omega) (by omega) (get_lps2 (by omega) (by omega) fi16_at)) fi16_body (lfCons (.inr ⟨⟨rfl, rfl⟩, cfA16, cfJ (l := lf14) (h := lh14) (K := ((cT s).1)) rfl rfl rfl rfl rfl rfl rfl rfl (by first | omega | (simp <;> omega)) (by first | omega | (simp <;> omega))⟩) lfNil)) rfl (get_lps2 (by omega) (by omega) (get_lps2 (by omega) (by omega) (get_lps (by omega)))) fiB5 (runCln_8 ) (args := [St' s]) (by simp only [RelL, Rel]; exact ⟨_, _, rfl, rfl, rfl⟩) w hl fun x hx => ?_
  simp only [Rel, RelL] at hx
  obtain ⟨_, rfl, ⟨_, _, rfl, rfl, ⟨_, _, rfl, rfl, rfl⟩⟩⟩ := hx
  rfl
def hyCln_9 : LK := [(.bytes [], .x 1), (.rn, .x 2000000), (.len (.x 0), .x 2), (.bin .geq (.x 2) (.i .i64 (.ofNat 1)), .b true), (.sub (.x 0) none (some (.i .i64 (.ofNat 1))), .x 3), (.bin .eql (.x 3) (.s 1 47), .b true), (.call 14 [.x 4], .tu [.x 5, .ni]), (.bin .eql (.x 5) (.s 2 11822), .b false), (.bin .eql (.x 5) (.s 0 0), .b false), (.bin .eql (.x 5) (.s 1 46), .b true), (.bin .add (.s 1 47) (.x 6), .x 7), (.rl (.x 2000001) 1, .x 8), (.bin .gtr (.x 8) (.i .i64 (.ofNat 0)), .b true), (.bin .add (.x 7) (.s 1 47), .x 9)]
def lh15 : LH := ⟨3, 11, 23, [(3, .b ⟨9, .l [.s 0 0], 0, 0, 0, false, false⟩), (4, .b ⟨24, .l [.ni], 0, 0, 0, false, false⟩), (5, .b ⟨28, .l [.nils], 0, 0, 0, false, false⟩), (6, .b ⟨9, .l [.s 0 0], 0, 0, 0, false, false⟩), (7, .b ⟨9, .l [.x 0], 0, 0, 0, false, false⟩), (8, .b ⟨9, .l [.s 1 47], 0, 0, 0, false, false⟩), (9, .b ⟨3, .l [.i .i64 (.ofNat 0)], 0, 0, 0, false, false⟩), (10, .k 5 [(2, .p 3 0), (3, .p 4 0), (4, .p 5 0), (5, .p 6 0)] 64 0 .normal)], [(3, .b ⟨9, .l [.s 0 0], 0, 0, 0, false, false⟩), (4, .b ⟨24, .l [.ni], 0, 0, 0, false, false⟩), (5, .b ⟨28, .l [.sr 11], 0, 0, 0, false, false⟩), (6, .b ⟨9, .l [.und], 0, 0, 0, false, false⟩), (7, .b ⟨9, .l [.x 4], 0, 0, 0, false, false⟩), (8, .b ⟨9, .l [.s 1 47], 0, 0, 0, false, false⟩), (9, .b ⟨3, .l [.i .i64 (.ofNat 0)], 0, 0, 0, false, false⟩), (10, .k 5 [(2, .p 3 0), (3, .p 4 0), (4, .p 5 0), (5, .p 6 0)] 64 0 .normal), (11, .r 2000001 9 1 false)]⟩
def lf15 : LF := ⟨5, 52, [(0, .yl 10), (1, .p 8 0), (2, .p 7 0), (3, .p 9 0), (9, .s 1 47)], [], (.exit 2), [(0, .yl 10), (2, .p 7 0)], some lh15⟩
def lh16 : LH := ⟨3, 43, 43, [(11, .r 2000001 9 1 false)], [(11, .r 2000001 9 1 false)]⟩
def lf16 : LF := ⟨8888888, 0, [(0, .sr 11), (1, .s 1 47)], [], .normal, [(0, .x 6)], some lh16⟩
noncomputable def tabCln_9 : Tab := addLps (addLps (addLps ({ tabk with hyp := hyCln_9 }) 5 fi5 [⟨7777777, 5, [], [2, 3, 4, 5], .goto 7777777, [], none⟩]) 29 fi29 [lf15]) 16 fi16 [lf16]
theorem runCln_9 : okA (call tabCln_9 9000 5 [.x 0] ⟨H0 , 3, 0, 0⟩) (.tu [.x 9, .ni]) = true := by kernel_rfl
def nuCln_9 (s : LB) : List Value := [St' s, St' ([] : LB), .int .i64 ((s.length : Int)), St' (List.take (Int.toNat (1)) s), St' ((cT s).2), St' ((dcS ((cT s).2)).getD []), St' (join47 ((cT s).1)), St' ([u8 47] ++ (join47 ((cT s).1))), .int .i64 ((((cT s).1).length : Int)), St' ([u8 47] ++ ((join47 ((cT s).1)) ++ [u8 47]))]
def roCln_9 (s : LB) : List Value := [rwS ([] : List LB), rwS ((cT s).1)]
theorem onCln_9 (s : LB) : ∀ j, (nuL (nuCln_9 s) j).oneCell' = true := nuL_one (l := nuCln_9 s) rfl
theorem pathCln_9 (s : LB) (b0 : s.length ≤ 9223372036854775807) (p0 : s.length ≤ 1000000) (h0 : 1 ≤ (s.length : Int)) (h1 : (List.take (Int.toNat (1)) s) = [u8 47]) (h2 : ¬ ((clL unS (sp47 [] s) []) = none)) (h3 : (apL unS (sp47 [] s)) = true) (h4 : ¬ (dcS ((cT s).2) = none)) (h5 : ¬ (((dcS ((cT s).2)).getD []) = [u8 46, u8 46])) (h6 : ¬ ((((dcS ((cT s).2)).getD []).length : Int) = 0)) (h7 : ((dcS ((cT s).2)).getD []) = [u8 46]) (h8 : 0 < (((cT s).1).length : Int)) (w : World) (hl : laidE w) : CwR 5 #[St' s] w (.tuple #[St' ([u8 47] ++ ((join47 ((cT s).1)) ++ [u8 47])), .nilIface]) := by
  have := lenTake (l := s) (Q := 1) (by omega) (by omega)
  have hct := cT_fl s
  have := dcS_len ((cT s).2)
  have := jn1 ((cT s).1)
  have := fl_len ((cT s).1)
  have ho : ∀ k r, (k, r) ∈ hyCln_9 → HOk (cx (nuX (nuCln_9 s) (rX (roCln_9 s) (fun _ => .bool true))) (nuX_one (onCln_9 s)) 0 laidE laidE_stab) k r := by
    unfold hyCln_9
    exact hc (kBytesB (bs := ([] : LB)) .nil (denX rfl)) <|
     hc (kRn (denX rfl)) <|
     hc (lnV rfl rfl (by omega)) <|
     hc (gecT rfl (by omega)) <|
     hc (tkC rfl rfl (by omega)) <|
     hc (kEqS (isX rfl) (isSx (l := [u8 47]) 1 47 rfl) (decide_eq_true (by assumption))) <|
     hc (hokDec (s := ((cT s).2)) (isX rfl) (by rw [if_neg (by assumption)]; exact denT2 (denX rfl) denNi) (by omega) (by omega)) <|
     hc (kEqS (isX rfl) (isSx (l := [u8 46, u8 46]) 2 11822 rfl) (decide_eq_false (by assumption))) <|
     hc (kEqS (isX rfl) (isSx (l := ([] : LB)) 0 0 rfl) (nilF (by omega))) <|
     hc (kEqS (isX rfl) (isSx (l := [u8 46]) 1 46 rfl) (decide_eq_true (by assumption))) <|
     hc (kCat (isSx (l := [u8 47]) 1 47 rfl) (isX rfl) (denX rfl) (by first | rfl | (simp; done)) (by first | omega | (simp only [List.length_append, List.length_cons, List.length_nil]; omega))) <|
     hc (kRl (isX rfl) (denX rfl) (by first | omega | (simp <;> omega))) <|
     hc (gtcT rfl (by omega)) <|
     hc (kCat (isX rfl) (isSx (l := [u8 47]) 1 47 rfl) (denX rfl) (by first | rfl | (simp; done)) (by first | omega | (simp only [List.length_append, List.length_cons, List.length_nil]; omega))) <|
     hnil
  refine runC (tb := tabCln_9) (ra := .tu [.x 9, .ni]) rfl (AllOk.lp2 (AllOk.lp1 (AllOk.lp1 ((tabkOk (nuX (nuCln_9 s) (rX (roCln_9 s) (fun _ => .bool true))) (nuX_one (onCln_9 s))).hyps ho) (by omega) fi5_at fi5_body (lfCons (.inr ⟨rfl, mkA5, mkB5, _, Tryd.func5, mkC5⟩) lfNil)) (by omega) (get_lps2 (by omega) (by omega) fi29_at) fi29_body (lfCons (lpKnown rfl ⟨1, keyCl, lfOkCl_1 (l := lf15) (h := lh15) (clL unS (sp47 [] s) []) (clE unS stM (sp47 [] s) []) ((cT s).1) ((cT s).2) (apL unS (sp47 [] s)) (cT_some (by assumption)) (by assumption) (0, s, ([] : List LB)) (mkICl (clL unS (sp47 [] s) []) (clE unS stM (sp47 [] s) []) ((cT s).1) ((cT s).2) (apL unS (sp47 [] s)) 0 s ([] : List LB) ⟨rfl, rfl, rfl, by omega, by simp only [List.length_nil]; omega, fun _ => rfl, by omega⟩) rfl (by kernel_rfl) (th0 := [(0, .x 0)]) (sg0 := []) (fun X => thXv (v := St' s) rfl rfl (thNil)) (by kernel_rfl) (thx := [(4, .x 0), (2000001, .x 2000000)]) (thXv (v := St' ((cT s).2)) rfl rfl (thXv (v := rwS ((cT s).1)) rfl rfl (thNil))) (by kernel_rfl)⟩) lfNil)) (by omega) (get_lps2 (by omega) (by omega) (get_lps2 (by omega) (by omega) fi16_at)) fi16_body (lfCons (.inr ⟨⟨rfl, rfl⟩, cfA16, cfJ (l := lf16) (h := lh16) (K := ((cT s).1)) rfl rfl rfl rfl rfl rfl rfl rfl (by first | omega | (simp <;> omega)) (by first | omega | (simp <;> omega))⟩) lfNil)) rfl (get_lps2 (by omega) (by omega) (get_lps2 (by omega) (by omega) (get_lps (by omega)))) fiB5 (runCln_9 ) (args := [St' s]) (by simp only [RelL, Rel]; exact ⟨_, _, rfl, rfl, rfl⟩) w hl fun x hx => ?_
  simp only [Rel, RelL] at hx
  obtain ⟨_, rfl, ⟨_, _, rfl, rfl, ⟨_, _, rfl, rfl, rfl⟩⟩⟩ := hx
  rfl
def hyCln_10 : LK := [(.bytes [], .x 1), (.rn, .x 2000000), (.len (.x 0), .x 2), (.bin .geq (.x 2) (.i .i64 (.ofNat 1)), .b true), (.sub (.x 0) none (some (.i .i64 (.ofNat 1))), .x 3), (.bin .eql (.x 3) (.s 1 47), .b true), (.call 14 [.x 4], .tu [.x 5, .ni]), (.bin .eql (.x 5) (.s 2 11822), .b true), (.rl (.x 2000001) 1, .x 6), (.bin .eql (.x 6) (.i .i64 (.ofNat 0)), .b false), (.bin .sub (.x 6) (.i .i64 (.ofNat 1)), .x 7), (.rt (.x 2000001) (.x 7) 1, .x 2000002), (.bin .add (.s 1 47) (.x 8), .x 9), (.rl (.x 2000002) 1, .x 10), (.bin .gtr (.x 10) (.i .i64 (.ofNat 0)), .b false)]
def lh17 : LH := ⟨3, 11, 23, [(3, .b ⟨9, .l [.s 0 0], 0, 0, 0, false, false⟩), (4, .b ⟨24, .l [.ni], 0, 0, 0, false, false⟩), (5, .b ⟨28, .l [.nils], 0, 0, 0, false, false⟩), (6, .b ⟨9, .l [.s 0 0], 0, 0, 0, false, false⟩), (7, .b ⟨9, .l [.x 0], 0, 0, 0, false, false⟩), (8, .b ⟨9, .l [.s 1 47], 0, 0, 0, false, false⟩), (9, .b ⟨3, .l [.i .i64 (.ofNat 0)], 0, 0, 0, false, false⟩), (10, .k 5 [(2, .p 3 0), (3, .p 4 0), (4, .p 5 0), (5, .p 6 0)] 64 0 .normal)], [(3, .b ⟨9, .l [.s 0 0], 0, 0, 0, false, false⟩), (4, .b ⟨24, .l [.ni], 0, 0, 0, false, false⟩), (5, .b ⟨28, .l [.sr 11], 0, 0, 0, false, false⟩), (6, .b ⟨9, .l [.und], 0, 0, 0, false, false⟩), (7, .b ⟨9, .l [.x 4], 0, 0, 0, false, false⟩), (8, .b ⟨9, .l [.s 1 47], 0, 0, 0, false, false⟩), (9, .b ⟨3, .l [.i .i64 (.ofNat 0)], 0, 0, 0, false, false⟩), (10, .k 5 [(2, .p 3 0), (3, .p 4 0), (4, .p 5 0), (5, .p 6 0)] 64 0 .normal), (11, .r 2000001 9 1 false)]⟩
def lf17 : LF := ⟨5, 52, [(0, .yl 10), (1, .p 8 0), (2, .p 7 0), (3, .p 9 0), (9, .s 1 47)], [], (.exit 2), [(0, .yl 10), (2, .p 7 0)], some lh17⟩
def lh18 : LH := ⟨3, 43, 43, [(23, .r 2000002 9 1 false)], [(23, .r 2000002 9 1 false)]⟩
def lf18 : LF := ⟨8888888, 0, [(0, .sr 23), (1, .s 1 47)], [], .normal, [(0, .x 8)], some lh18⟩
noncomputable def tabCln_10 : Tab := addLps (addLps (addLps ({ tabk with hyp := hyCln_10 }) 5 fi5 [⟨7777777, 5, [], [2, 3, 4, 5], .goto 7777777, [], none⟩]) 29 fi29 [lf17]) 16 fi16 [lf18]
theorem runCln_10 : okA (call tabCln_10 9000 5 [.x 0] ⟨H0 , 3, 0, 0⟩) (.tu [.x 9, .ni]) = true := by kernel_rfl
def nuCln_10 (s : LB) : List Value := [St' s, St' ([] : LB), .int .i64 ((s.length : Int)), St' (List.take (Int.toNat (1)) s), St' ((cT s).2), St' ((dcS ((cT s).2)).getD []), .int .i64 ((((cT s).1).length : Int)), .int .i64 ((((cT s).1).length : Int) - 1), St' (join47 (((cT s).1).take (Int.toNat ((((cT s).1).length : Int) - 1)))), St' ([u8 47] ++ (join47 (((cT s).1).take (Int.toNat ((((cT s).1).length : Int) - 1))))), .int .i64 ((((cT s).1).length : Int) - 1)]
def roCln_10 (s : LB) : List Value := [rwS ([] : List LB), rwS ((cT s).1), rwS (((cT s).1).take (Int.toNat ((((cT s).1).length : Int) - 1)))]
theorem onCln_10 (s : LB) : ∀ j, (nuL (nuCln_10 s) j).oneCell' = true := nuL_one (l := nuCln_10 s) rfl
theorem pathCln_10 (s : LB) (b0 : s.length ≤ 9223372036854775807) (p0 : s.length ≤ 1000000) (h0 : 1 ≤ (s.length : Int)) (h1 : (List.take (Int.toNat (1)) s) = [u8 47]) (h2 : ¬ ((clL unS (sp47 [] s) []) = none)) (h3 : (apL unS (sp47 [] s)) = true) (h4 : ¬ (dcS ((cT s).2) = none)) (h5 : ((dcS ((cT s).2)).getD []) = [u8 46, u8 46]) (h6 : ¬ ((((cT s).1).length : Int) = 0)) (h7 : ¬ (0 < (((cT s).1).length : Int) - 1)) (w : World) (hl : laidE w) : CwR 5 #[St' s] w (.tuple #[St' ([u8 47] ++ (join47 (((cT s).1).take (Int.toNat ((((cT s).1).length : Int) - 1))))), .nilIface]) := by
  have := lenTake (l := s) (Q := 1) (by omega) (by omega)
  have hct := cT_fl s
  have := dcS_len ((cT s).2)
  obtain ⟨hdd1, hdd2⟩ := dd_f (t := ((dcS ((cT s).2)).getD [])) (by assumption)
  have := jn1 (((cT s).1).take (Int.toNat ((((cT s).1).length : Int) - 1)))
  have := fl_len (((cT s).1).take (Int.toNat ((((cT s).1).length : Int) - 1)))
  have := fl_tk ((cT s).1) (Int.toNat ((((cT s).1).length : Int) - 1))
  have ho : ∀ k r, (k, r) ∈ hyCln_10 → HOk (cx (nuX (nuCln_10 s) (rX (roCln_10 s) (fun _ => .bool true))) (nuX_one (onCln_10 s)) 0 laidE laidE_stab) k r := by
    unfold hyCln_10
    exact hc (kBytesB (bs := ([] : LB)) .nil (denX rfl)) <|
     hc (kRn (denX rfl)) <|
     hc (lnV rfl rfl (by omega)) <|
     hc (gecT rfl (by omega)) <|
     hc (tkC rfl rfl (by omega)) <|
     hc (kEqS (isX rfl) (isSx (l := [u8 47]) 1 47 rfl) (decide_eq_true (by assumption))) <|
     hc (hokDec (s := ((cT s).2)) (isX rfl) (by rw [if_neg (by assumption)]; exact denT2 (denX rfl) denNi) (by omega) (by omega)) <|
     hc (kEqS (isX rfl) (isSx (l := [u8 46, u8 46]) 2 11822 rfl) (decide_eq_true (by assumption))) <|
     hc (kRl (isX rfl) (denX rfl) (by first | omega | (simp <;> omega))) <|
     hc (eqcF rfl (by omega)) <|
     hc (sbC rfl rfl (by omega)) <|
     hc (kRtS (j := (Int.toNat ((((cT s).1).length : Int) - 1))) (isX rfl) (isX rfl) (denX rfl) (by omega) (by omega)) <|
     hc (kCat (isSx (l := [u8 47]) 1 47 rfl) (isX rfl) (denX rfl) (by first | rfl | (simp; done)) (by first | omega | (simp only [List.length_append, List.length_cons, List.length_nil]; omega))) <|
     hc (kRl (isX rfl) (denX rfl) (by first | omega | (simp <;> omega))) <|
     hc (gtcF rfl (by omega)) <|
     hnil
  refine runC (tb := tabCln_10) (ra := .tu [.x 9, .ni]) rfl (AllOk.lp2 (AllOk.lp1 (AllOk.lp1 ((tabkOk (nuX (nuCln_10 s) (rX (roCln_10 s) (fun _ => .bool true))) (nuX_one (onCln_10 s))).hyps ho) (by omega) fi5_at fi5_body (lfCons (.inr ⟨rfl, mkA5, mkB5, _, Tryd.func5, mkC5⟩) lfNil)) (by omega) (get_lps2 (by omega) (by omega) fi29_at) fi29_body (lfCons (lpKnown rfl ⟨1, keyCl, lfOkCl_1 (l := lf17) (h := lh17) (clL unS (sp47 [] s) []) (clE unS stM (sp47 [] s) []) ((cT s).1) ((cT s).2) (apL unS (sp47 [] s)) (cT_some (by assumption)) (by assumption) (0, s, ([] : List LB)) (mkICl (clL unS (sp47 [] s) []) (clE unS stM (sp47 [] s) []) ((cT s).1) ((cT s).2) (apL unS (sp47 [] s)) 0 s ([] : List LB) ⟨rfl, rfl, rfl, by omega, by simp only [List.length_nil]; omega, fun _ => rfl, by omega⟩) rfl (by kernel_rfl) (th0 := [(0, .x 0)]) (sg0 := []) (fun X => thXv (v := St' s) rfl rfl (thNil)) (by kernel_rfl) (thx := [(4, .x 0), (2000001, .x 2000000)]) (thXv (v := St' ((cT s).2)) rfl rfl (thXv (v := rwS ((cT s).1)) rfl rfl (thNil))) (by kernel_rfl)⟩) lfNil)) (by omega) (get_lps2 (by omega) (by omega) (get_lps2 (by omega) (by omega) fi16_at)) fi16_body (lfCons (.inr ⟨⟨rfl, rfl⟩, cfA16, cfJ (l := lf18) (h := lh18) (K := (((cT s).1).take (Int.toNat ((((cT s).1).length : Int) - 1)))) rfl rfl rfl rfl rfl rfl rfl rfl (by first | omega | (simp <;> omega)) (by first | omega | (simp <;> omega))⟩) lfNil)) rfl (get_lps2 (by omega) (by omega) (get_lps2 (by omega) (by omega) (get_lps (by omega)))) fiB5 (runCln_10 ) (args := [St' s]) (by simp only [RelL, Rel]; exact ⟨_, _, rfl, rfl, rfl⟩) w hl fun x hx => ?_
  simp only [Rel, RelL] at hx
  obtain ⟨_, rfl, ⟨_, _, rfl, rfl, ⟨_, _, rfl, rfl, rfl⟩⟩⟩ := hx
  rfl
def hyCln_11 : LK := [(.bytes [], .x 1), (.rn, .x 2000000), (.len (.x 0), .x 2), (.bin .geq (.x 2) (.i .i64 (.ofNat 1)), .b true), (.sub (.x 0) none (some (.i .i64 (.ofNat 1))), .x 3), (.bin .eql (.x 3) (.s 1 47), .b true), (.call 14 [.x 4], .tu [.x 5, .ni]), (.bin .eql (.x 5) (.s 2 11822), .b false), (.bin .eql (.x 5) (.s 0 0), .b false), (.bin .eql (.x 5) (.s 1 46), .b false), (.ra (.x 2000001) [.x 5], .x 2000002), (.rf (.x 2000002) 1 16, .b true), (.bin .add (.s 1 47) (.x 6), .x 7), (.rl (.x 2000002) 1, .x 8), (.bin .gtr (.x 8) (.i .i64 (.ofNat 0)), .b true)]
def lh19 : LH := ⟨3, 11, 23, [(3, .b ⟨9, .l [.s 0 0], 0, 0, 0, false, false⟩), (4, .b ⟨24, .l [.ni], 0, 0, 0, false, false⟩), (5, .b ⟨28, .l [.nils], 0, 0, 0, false, false⟩), (6, .b ⟨9, .l [.s 0 0], 0, 0, 0, false, false⟩), (7, .b ⟨9, .l [.x 0], 0, 0, 0, false, false⟩), (8, .b ⟨9, .l [.s 1 47], 0, 0, 0, false, false⟩), (9, .b ⟨3, .l [.i .i64 (.ofNat 0)], 0, 0, 0, false, false⟩), (10, .k 5 [(2, .p 3 0), (3, .p 4 0), (4, .p 5 0), (5, .p 6 0)] 64 0 .normal)], [(3, .b ⟨9, .l [.s 0 0], 0, 0, 0, false, false⟩), (4, .b ⟨24, .l [.ni], 0, 0, 0, false, false⟩), (5, .b ⟨28, .l [.sr 11], 0, 0, 0, false, false⟩), (6, .b ⟨9, .l [.und], 0, 0, 0, false, false⟩), (7, .b ⟨9, .l [.x 4], 0, 0, 0, false, false⟩), (8, .b ⟨9, .l [.s 1 47], 0, 0, 0, false, false⟩), (9, .b ⟨3, .l [.i .i64 (.ofNat 0)], 0, 0, 0, false, false⟩), (10, .k 5 [(2, .p 3 0), (3, .p 4 0), (4, .p 5 0), (5, .p 6 0)] 64 0 .normal), (11, .r 2000001 9 1 false)]⟩
def lf19 : LF := ⟨5, 52, [(0, .yl 10), (1, .p 8 0), (2, .p 7 0), (3, .p 9 0), (9, .s 1 47)], [], (.exit 2), [(0, .yl 10), (2, .p 7 0)], some lh19⟩
def lh20 : LH := ⟨3, 43, 43, [(24, .r 2000002 9 1 false)], [(24, .r 2000002 9 1 false)]⟩
def lf20 : LF := ⟨8888888, 0, [(0, .sr 24), (1, .s 1 47)], [], .normal, [(0, .x 6)], some lh20⟩
noncomputable def tabCln_11 : Tab := addLps (addLps (addLps ({ tabk with hyp := hyCln_11 }) 5 fi5 [⟨7777777, 5, [], [2, 3, 4, 5], .goto 7777777, [], none⟩]) 29 fi29 [lf19]) 16 fi16 [lf20]
theorem runCln_11 : okA (call tabCln_11 9000 5 [.x 0] ⟨H0 , 3, 0, 0⟩) (.tu [.x 7, .ni]) = true := by kernel_rfl
def nuCln_11 (s : LB) : List Value := [St' s, St' ([] : LB), .int .i64 ((s.length : Int)), St' (List.take (Int.toNat (1)) s), St' ((cT s).2), St' ((dcS ((cT s).2)).getD []), St' (join47 (((cT s).1) ++ [((dcS ((cT s).2)).getD [])])), St' ([u8 47] ++ (join47 (((cT s).1) ++ [((dcS ((cT s).2)).getD [])]))), .int .i64 ((((cT s).1).length : Int) + 1)]
def roCln_11 (s : LB) : List Value := [rwS ([] : List LB), rwS ((cT s).1), rwS (((cT s).1) ++ [((dcS ((cT s).2)).getD [])])]
theorem onCln_11 (s : LB) : ∀ j, (nuL (nuCln_11 s) j).oneCell' = true := nuL_one (l := nuCln_11 s) rfl
theorem pathCln_11 (s : LB) (b0 : s.length ≤ 9223372036854775807) (p0 : s.length ≤ 1000000) (h0 : 1 ≤ (s.length : Int)) (h1 : (List.take (Int.toNat (1)) s) = [u8 47]) (h2 : ¬ ((clL unS (sp47 [] s) []) = none)) (h3 : (apL unS (sp47 [] s)) = true) (h4 : ¬ (dcS ((cT s).2) = none)) (h5 : ¬ (((dcS ((cT s).2)).getD []) = [u8 46, u8 46])) (h6 : ¬ ((((dcS ((cT s).2)).getD []).length : Int) = 0)) (h7 : ¬ (((dcS ((cT s).2)).getD []) = [u8 46])) (w : World) (hl : laidE w) : CwR 5 #[St' s] w (.tuple #[St' ([u8 47] ++ (join47 (((cT s).1) ++ [((dcS ((cT s).2)).getD [])]))), .nilIface]) := by
  have := lenTake (l := s) (Q := 1) (by omega) (by omega)
  have hct := cT_fl s
  have := dcS_len ((cT s).2)
  have := jn1 (((cT s).1) ++ [((dcS ((cT s).2)).getD [])])
  have := fl_len (((cT s).1) ++ [((dcS ((cT s).2)).getD [])])
  have := fl_ap ((cT s).1) ((dcS ((cT s).2)).getD [])
  have hf0 : (fl47 []).length = 0 := rfl
  have ho : ∀ k r, (k, r) ∈ hyCln_11 → HOk (cx (nuX (nuCln_11 s) (rX (roCln_11 s) (fun _ => .bool true))) (nuX_one (onCln_11 s)) 0 laidE laidE_stab) k r := by
    unfold hyCln_11
    exact hc (kBytesB (bs := ([] : LB)) .nil (denX rfl)) <|
     hc (kRn (denX rfl)) <|
     hc (lnV rfl rfl (by omega)) <|
     hc (gecT rfl (by omega)) <|
     hc (tkC rfl rfl (by omega)) <|
     hc (kEqS (isX rfl) (isSx (l := [u8 47]) 1 47 rfl) (decide_eq_true (by assumption))) <|
     hc (hokDec (s := ((cT s).2)) (isX rfl) (by rw [if_neg (by assumption)]; exact denT2 (denX rfl) denNi) (by omega) (by omega)) <|
     hc (kEqS (isX rfl) (isSx (l := [u8 46, u8 46]) 2 11822 rfl) (decide_eq_false (by assumption))) <|
     hc (kEqS (isX rfl) (isSx (l := ([] : LB)) 0 0 rfl) (nilF (by omega))) <|
     hc (kEqS (isX rfl) (isSx (l := [u8 46]) 1 46 rfl) (decide_eq_false (by assumption))) <|
     hc (kRa (isX rfl) (isX rfl) (denX rfl)) <|
     hc (kRf (isX rfl) (by first | omega | (simp <;> omega)) (by first | omega | (simp <;> omega))) <|
     hc (kCat (isSx (l := [u8 47]) 1 47 rfl) (isX rfl) (denX rfl) (by first | rfl | (simp; done)) (by first | omega | (simp only [List.length_append, List.length_cons, List.length_nil]; omega))) <|
     hc (kRl (isX rfl) (denX rfl) (by first | omega | (simp <;> omega))) <|
     hc (gtcT rfl (by omega)) <|
     hnil
  refine runC (tb := tabCln_11) (ra := .tu [.x 7, .ni]) rfl (AllOk.lp2 (AllOk.lp1 (AllOk.lp1 ((tabkOk (nuX (nuCln_11 s) (rX (roCln_11 s) (fun _ => .bool true))) (nuX_one (onCln_11 s))).hyps ho) (by omega) fi5_at fi5_body (lfCons (.inr ⟨rfl, mkA5, mkB5, _, Tryd.func5, mkC5⟩) lfNil)) (by omega) (get_lps2 (by omega) (by omega) fi29_at) fi29_body (lfCons (lpKnown rfl ⟨1, keyCl, lfOkCl_1 (l := lf19) (h := lh19) (clL unS (sp47 [] s) []) (clE unS stM (sp47 [] s) []) ((cT s).1) ((cT s).2) (apL unS (sp47 [] s)) (cT_some (by assumption)) (by assumption) (0, s, ([] : List LB)) (mkICl (clL unS (sp47 [] s) []) (clE unS stM (sp47 [] s) []) ((cT s).1) ((cT s).2) (apL unS (sp47 [] s)) 0 s ([] : List LB) ⟨rfl, rfl, rfl, by omega, by simp only [List.length_nil]; omega, fun _ => rfl, by omega⟩) rfl (by kernel_rfl) (th0 := [(0, .x 0)]) (sg0 := []) (fun X => thXv (v := St' s) rfl rfl (thNil)) (by kernel_rfl) (thx := [(4, .x 0), (2000001, .x 2000000)]) (thXv (v := St' ((cT s).2)) rfl rfl (thXv (v := rwS ((cT s).1)) rfl rfl (thNil))) (by kernel_rfl)⟩) lfNil)) (by omega) (get_lps2 (by omega) (by omega) (get_lps2 (by omega) (by omega) fi16_at)) fi16_body (lfCons (.inr ⟨⟨rfl, rfl⟩, cfA16, cfJ (l := lf20) (h := lh20) (K := (((cT s).1) ++ [((dcS ((cT s).2)).getD [])])) rfl rfl rfl rfl rfl rfl rfl rfl (by first | omega | (simp <;> omega)) (by first | omega | (simp <;> omega))⟩) lfNil)) rfl (get_lps2 (by omega) (by omega) (get_lps2 (by omega) (by omega) (get_lps (by omega)))) fiB5 (runCln_11 ) (args := [St' s]) (by simp only [RelL, Rel]; exact ⟨_, _, rfl, rfl, rfl⟩) w hl fun x hx => ?_
  simp only [Rel, RelL] at hx
  obtain ⟨_, rfl, ⟨_, _, rfl, rfl, ⟨_, _, rfl, rfl, rfl⟩⟩⟩ := hx
  rfl
def hyCln_12 : LK := [(.bytes [], .x 1), (.rn, .x 2000000), (.len (.x 0), .x 2), (.bin .geq (.x 2) (.i .i64 (.ofNat 1)), .b true), (.sub (.x 0) none (some (.i .i64 (.ofNat 1))), .x 3), (.bin .eql (.x 3) (.s 1 47), .b true), (.call 14 [.x 4], .tu [.s 0 0, .ifc 48 (.ag [.i .i64 (.ofNat 10), .x 5])])]
def lh21 : LH := ⟨3, 11, 23, [(3, .b ⟨9, .l [.s 0 0], 0, 0, 0, false, false⟩), (4, .b ⟨24, .l [.ni], 0, 0, 0, false, false⟩), (5, .b ⟨28, .l [.nils], 0, 0, 0, false, false⟩), (6, .b ⟨9, .l [.s 0 0], 0, 0, 0, false, false⟩), (7, .b ⟨9, .l [.x 0], 0, 0, 0, false, false⟩), (8, .b ⟨9, .l [.s 1 47], 0, 0, 0, false, false⟩), (9, .b ⟨3, .l [.i .i64 (.ofNat 0)], 0, 0, 0, false, false⟩), (10, .k 5 [(2, .p 3 0), (3, .p 4 0), (4, .p 5 0), (5, .p 6 0)] 64 0 .normal)], [(3, .b ⟨9, .l [.s 0 0], 0, 0, 0, false, false⟩), (4, .b ⟨24, .l [.ni], 0, 0, 0, false, false⟩), (5, .b ⟨28, .l [.sr 11], 0, 0, 0, false, false⟩), (6, .b ⟨9, .l [.und], 0, 0, 0, false, false⟩), (7, .b ⟨9, .l [.x 4], 0, 0, 0, false, false⟩), (8, .b ⟨9, .l [.s 1 47], 0, 0, 0, false, false⟩), (9, .b ⟨3, .l [.i .i64 (.ofNat 0)], 0, 0, 0, false, false⟩), (10, .k 5 [(2, .p 3 0), (3, .p 4 0), (4, .p 5 0), (5, .p 6 0)] 64 0 .normal), (11, .r 2000001 9 1 false)]⟩
def lf21 : LF := ⟨5, 52, [(0, .yl 10), (1, .p 8 0), (2, .p 7 0), (3, .p 9 0), (9, .s 1 47)], [], (.exit 2), [(0, .yl 10), (2, .p 7 0)], some lh21⟩
noncomputable def tabCln_12 : Tab := addLps (addLps ({ tabk with hyp := hyCln_12 }) 5 fi5 [⟨7777777, 5, [], [2, 3, 4, 5], .goto 7777777, [], none⟩]) 29 fi29 [lf21]
theorem runCln_12 : okA (call tabCln_12 9000 5 [.x 0] ⟨H0 , 3, 0, 0⟩) (.tu [.s 0 0, .ifc 48 (.ag [.i .i64 (.ofNat 10), .x 5])]) = true := by kernel_rfl
def nuCln_12 (s : LB) : List Value := [St' s, St' ([] : LB), .int .i64 ((s.length : Int)), St' (List.take (Int.toNat (1)) s), St' ((cT s).2), St' (dcM ((cT s).2))]
def roCln_12 (s : LB) : List Value := [rwS ([] : List LB), rwS ((cT s).1)]
theorem onCln_12 (s : LB) : ∀ j, (nuL (nuCln_12 s) j).oneCell' = true := nuL_one (l := nuCln_12 s) rfl
theorem pathCln_12 (s : LB) (b0 : s.length ≤ 9223372036854775807) (p0 : s.length ≤ 1000000) (h0 : 1 ≤ (s.length : Int)) (h1 : (List.take (Int.toNat (1)) s) = [u8 47]) (h2 : ¬ ((clL unS (sp47 [] s) []) = none)) (h3 : (apL unS (sp47 [] s)) = true) (h4 : dcS ((cT s).2) = none) (w : World) (hl : laidE w) : CwR 5 #[St' s] w (.tuple #[St' ([] : LB), .iface 48 (.agg #[.int .i64 10, St' (dcM ((cT s).2))])]) := by
  have := lenTake (l := s) (Q := 1) (by omega) (by omega)
  have hct := cT_fl s
  have := dcS_len ((cT s).2)
  have ho : ∀ k r, (k, r) ∈ hyCln_12 → HOk (cx (nuX (nuCln_12 s) (rX (roCln_12 s) (fun _ => .bool true))) (nuX_one (onCln_12 s)) 0 laidE laidE_stab) k r := by
    unfold hyCln_12
    exact hc (kBytesB (bs := ([] : LB)) .nil (denX rfl)) <|
     hc (kRn (denX rfl)) <|
     hc (lnV rfl rfl (by omega)) <|
     hc (gecT rfl (by omega)) <|
     hc (tkC rfl rfl (by omega)) <|
     hc (kEqS (isX rfl) (isSx (l := [u8 47]) 1 47 rfl) (decide_eq_true (by assumption))) <|
     hc (hokDec (s := ((cT s).2)) (isX rfl) (by rw [if_pos (by assumption)]; exact denT2 denS0 (denIfc (denA2 (denI .i64 10) (denX rfl)))) (by omega) (by omega)) <|
     hnil
  refine runC (tb := tabCln_12) (ra := .tu [.s 0 0, .ifc 48 (.ag [.i .i64 (.ofNat 10), .x 5])]) rfl (AllOk.lp1 (AllOk.lp1 ((tabkOk (nuX (nuCln_12 s) (rX (roCln_12 s) (fun _ => .bool true))) (nuX_one (onCln_12 s))).hyps ho) (by omega) fi5_at fi5_body (lfCons (.inr ⟨rfl, mkA5, mkB5, _, Tryd.func5, mkC5⟩) lfNil)) (by omega) (get_lps2 (by omega) (by omega) fi29_at) fi29_body (lfCons (lpKnown rfl ⟨1, keyCl, lfOkCl_1 (l := lf21) (h := lh21) (clL unS (sp47 [] s) []) (clE unS stM (sp47 [] s) []) ((cT s).1) ((cT s).2) (apL unS (sp47 [] s)) (cT_some (by assumption)) (by assumption) (0, s, ([] : List LB)) (mkICl (clL unS (sp47 [] s) []) (clE unS stM (sp47 [] s) []) ((cT s).1) ((cT s).2) (apL unS (sp47 [] s)) 0 s ([] : List LB) ⟨rfl, rfl, rfl, by omega, by simp only [List.length_nil]; omega, fun _ => rfl, by omega⟩) rfl (by kernel_rfl) (th0 := [(0, .x 0)]) (sg0 := []) (fun X => thXv (v := St' s) rfl rfl (thNil)) (by kernel_rfl) (thx := [(4, .x 0), (2000001, .x 2000000)]) (thXv (v := St' ((cT s).2)) rfl rfl (thXv (v := rwS ((cT s).1)) rfl rfl (thNil))) (by kernel_rfl)⟩) lfNil)) rfl (get_lps2 (by omega) (by omega) (get_lps (by omega))) fiB5 (runCln_12 ) (args := [St' s]) (by simp only [RelL, Rel]; exact ⟨_, _, rfl, rfl, rfl⟩) w hl fun x hx => ?_
  simp only [Rel, RelL] at hx
  obtain ⟨_, rfl, ⟨_, _, rfl, ⟨rfl, _⟩, ⟨_, _, rfl, ⟨_, rfl, ⟨_, rfl, ⟨_, _, rfl, rfl, ⟨_, _, rfl, rfl, rfl⟩⟩⟩⟩, rfl⟩⟩⟩ := hx
  rfl
def hyCln_13 : LK := [(.bytes [], .x 1), (.rn, .x 2000000), (.len (.x 0), .x 2), (.bin .geq (.x 2) (.i .i64 (.ofNat 1)), .b true), (.sub (.x 0) none (some (.i .i64 (.ofNat 1))), .x 3), (.bin .eql (.x 3) (.s 1 47), .b true), (.call 14 [.x 4], .tu [.x 5, .ni]), (.bin .eql (.x 5) (.s 2 11822), .b false), (.bin .eql (.x 5) (.s 0 0), .b true), (.bin .add (.s 1 47) (.x 6), .x 7), (.rl (.x 2000001) 1, .x 8), (.bin .gtr (.x 8) (.i .i64 (.ofNat 0)), .b false)]
def lh22 : LH := ⟨3, 11, 23, [(3, .b ⟨9, .l [.s 0 0], 0, 0, 0, false, false⟩), (4, .b ⟨24, .l [.ni], 0, 0, 0, false, false⟩), (5, .b ⟨28, .l [.nils], 0, 0, 0, false, false⟩), (6, .b ⟨9, .l [.s 0 0], 0, 0, 0, false, false⟩), (7, .b ⟨9, .l [.x 0], 0, 0, 0, false, false⟩), (8, .b ⟨9, .l [.s 1 47], 0, 0, 0, false, false⟩), (9, .b ⟨3, .l [.i .i64 (.ofNat 0)], 0, 0, 0, false, false⟩), (10, .k 5 [(2, .p 3 0), (3, .p 4 0), (4, .p 5 0), (5, .p 6 0)] 64 0 .normal)], [(3, .b ⟨9, .l [.s 0 0], 0, 0, 0, false, false⟩), (4, .b ⟨24, .l [.ni], 0, 0, 0, false, false⟩), (5, .b ⟨28, .l [.sr 11], 0, 0, 0, false, false⟩), (6, .b ⟨9, .l [.und], 0, 0, 0, false, false⟩), (7, .b ⟨9, .l [.x 4], 0, 0, 0, false, false⟩), (8, .b ⟨9, .l [.s 1 47], 0, 0, 0, false, false⟩), (9, .b ⟨3, .l [.i .i64 (.ofNat 0)], 0, 0, 0, false, false⟩), (10, .k 5 [(2, .p 3 0), (3, .p 4 0), (4, .p 5 0), (5, .p 6 0)] 64 0 .normal), (11, .r 2000001 9 1 false)]⟩
def lf22 : LF := ⟨5, 52, [(0, .yl 10), (1, .p 8 0), (2, .p 7 0), (3, .p 9 0), (9, .s 1 47)], [], (.exit 2), [(0, .yl 10), (2, .p 7 0)], some lh22⟩
def lh23 : LH := ⟨3, 43, 43, [(11, .r 2000001 9 1 false)], [(11, .r 2000001 9 1 false)]⟩
def lf23 : LF := ⟨8888888, 0, [(0, .sr 11), (1, .s 1 47)], [], .normal, [(0, .x 6)], some lh23⟩
noncomputable def tabCln_13 : Tab := addLps (addLps (addLps ({ tabk with hyp := hyCln_13 }) 5 fi5 [⟨7777777, 5, [], [2, 3, 4, 5], .goto 7777777, [], none⟩]) 29 fi29 [lf22]) 16 fi16 [lf23]
theorem runCln_13 : okA (call tabCln_13 9000 5 [.x 0] ⟨H0 , 3, 0, 0⟩) (.tu [.x 7, .ni]) = true := by kernel_rfl
def nuCln_13 (s : LB) : List Value := [St' s, St' ([] : LB), .int .i64 ((s.length : Int)), St' (List.take (Int.toNat (1)) s), St' ((cT s).2), St' ((dcS ((cT s).2)).getD []), St' (join47 ((cT s).1)), St' ([u8 47] ++ (join47 ((cT s).1))), .int .i64 ((((cT s).1).length : Int))]
def roCln_13 (s : LB) : List Value := [rwS ([] : List LB), rwS ((cT s).1)]
theorem onCln_13 (s : LB) : ∀ j, (nuL (nuCln_13 s) j).oneCell' = true := nuL_one (l := nuCln_13 s) rfl
theorem pathCln_13 (s : LB) (b0 : s.length ≤ 9223372036854775807) (p0 : s.length ≤ 1000000) (h0 : 1 ≤ (s.length : Int)) (h1 : (List.take (Int.toNat (1)) s) = [u8 47]) (h2 : ¬ ((clL unS (sp47 [] s) []) = none)) (h3 : (apL unS (sp47 [] s)) = true) (h4 : ¬ (dcS ((cT s).2) = none)) (h5 : ¬ (((dcS ((cT s).2)).getD []) = [u8 46, u8 46])) (h6 : (((dcS ((cT s).2)).getD []).length : Int) = 0) (h7 : ¬ (0 < (((cT s).1).length : Int))) (w : World) (hl : laidE w) : CwR 5 #[St' s] w (.tuple #[St' ([u8 47] ++ (join47 ((cT s).1))), .nilIface]) := by
  have := lenTake (l := s) (Q := 1) (by omega) (by omega)
  have hct := cT_fl s
  have := dcS_len ((cT s).2)
  have := jn1 ((cT s).1)
  have := fl_len ((cT s).1)
  have ho : ∀ k r, (k, r) ∈ hyCln_13 → HOk (cx (nuX (nuCln_13 s) (rX (roCln_13 s) (fun _ => .bool true))) (nuX_one (onCln_13 s)) 0 laidE laidE_stab) k r := by
    unfold hyCln_13
    exact hc (kBytesB (bs := ([] : LB)) .nil (denX rfl)) <|
     hc (kRn (denX rfl)) <|
     hc (lnV rfl rfl (by omega)) <|
     hc (gecT rfl (by omega)) <|
     hc (tkC rfl rfl (by omega)) <|
     hc (kEqS (isX rfl) (isSx (l := [u8 47]) 1 47 rfl) (decide_eq_true (by assumption))) <|
     hc (hokDec (s := ((cT s).2)) (isX rfl) (by rw [if_neg (by assumption)]; exact denT2 (denX rfl) denNi) (by omega) (by omega)) <|
     hc (kEqS (isX rfl) (isSx (l := [u8 46, u8 46]) 2 11822 rfl) (decide_eq_false (by assumption))) <|
     hc (kEqS (isX rfl) (isSx (l := ([] : LB)) 0 0 rfl) (nilT (by omega))) <|
     hc (kCat (isSx (l := [u8 47]) 1 47 rfl) (isX rfl) (denX rfl) (by first | rfl | (simp; done)) (by first | omega | (simp only [List.length_append, List.length_cons, List.length_nil]; omega))) <|
     hc (kRl (isX rfl) (denX rfl) (by first | omega | (simp <;> omega))) <|
     hc (gtcF rfl (by omega)) <|
     hnil
  refine runC (tb := tabCln_13) (ra := .tu [.x 7, .ni]) rfl (AllOk.lp2 (AllOk.lp1 (AllOk.lp1 ((tabkOk (nuX (nuCln_13 s) (rX (roCln_13 s) (fun _ => .bool true))) (nuX_one (onCln_13 s))).hyps ho) (by omega) fi5_at fi5_body (lfCons (.inr ⟨rfl, mkA5, mkB5, _, Tryd.func5, mkC5⟩) lfNil)) (by omega) (get_lps2 (by omega) (by omega) fi29_at) fi29_body (lfCons (lpKnown rfl ⟨1, keyCl, lfOkCl_1 (l := lf22) (h := lh22) (clL unS (sp47 [] s) []) (clE unS stM (sp47 [] s) []) ((cT s).1) ((cT s).2) (apL unS (sp47 [] s)) (cT_some (by assumption)) (by assumption) (0, s, ([] : List LB)) (mkICl (clL unS (sp47 [] s) []) (clE unS stM (sp47 [] s) []) ((cT s).1) ((cT s).2) (apL unS (sp47 [] s)) 0 s ([] : List LB) ⟨rfl, rfl, rfl, by omega, by simp only [List.length_nil]; omega, fun _ => rfl, by omega⟩) rfl (by kernel_rfl) (th0 := [(0, .x 0)]) (sg0 := []) (fun X => thXv (v := St' s) rfl rfl (thNil)) (by kernel_rfl) (thx := [(4, .x 0), (2000001, .x 2000000)]) (thXv (v := St' ((cT s).2)) rfl rfl (thXv (v := rwS ((cT s).1)) rfl rfl (thNil))) (by kernel_rfl)⟩) lfNil)) (by omega) (get_lps2 (by omega) (by omega) (get_lps2 (by omega) (by omega) fi16_at)) fi16_body (lfCons (.inr ⟨⟨rfl, rfl⟩, cfA16, cfJ (l := lf23) (h := lh23) (K := ((cT s).1)) rfl rfl rfl rfl rfl rfl rfl rfl (by first | omega | (simp <;> omega)) (by first | omega | (simp <;> omega))⟩) lfNil)) rfl (get_lps2 (by omega) (by omega) (get_lps2 (by omega) (by omega) (get_lps (by omega)))) fiB5 (runCln_13 ) (args := [St' s]) (by simp only [RelL, Rel]; exact ⟨_, _, rfl, rfl, rfl⟩) w hl fun x hx => ?_
  simp only [Rel, RelL] at hx
  obtain ⟨_, rfl, ⟨_, _, rfl, rfl, ⟨_, _, rfl, rfl, rfl⟩⟩⟩ := hx
  rfl
def hyCln_14 : LK := [(.bytes [], .x 1), (.rn, .x 2000000), (.len (.x 0), .x 2), (.bin .geq (.x 2) (.i .i64 (.ofNat 1)), .b true), (.sub (.x 0) none (some (.i .i64 (.ofNat 1))), .x 3), (.bin .eql (.x 3) (.s 1 47), .b true), (.call 14 [.x 4], .tu [.x 5, .ni]), (.bin .eql (.x 5) (.s 2 11822), .b false), (.bin .eql (.x 5) (.s 0 0), .b false), (.bin .eql (.x 5) (.s 1 46), .b true), (.bin .add (.s 1 47) (.x 6), .x 7), (.rl (.x 2000001) 1, .x 8), (.bin .gtr (.x 8) (.i .i64 (.ofNat 0)), .b false)]
def lh24 : LH := ⟨3, 11, 23, [(3, .b ⟨9, .l [.s 0 0], 0, 0, 0, false, false⟩), (4, .b ⟨24, .l [.ni], 0, 0, 0, false, false⟩), (5, .b ⟨28, .l [.nils], 0, 0, 0, false, false⟩), (6, .b ⟨9, .l [.s 0 0], 0, 0, 0, false, false⟩), (7, .b ⟨9, .l [.x 0], 0, 0, 0, false, false⟩), (8, .b ⟨9, .l [.s 1 47], 0, 0, 0, false, false⟩), (9, .b ⟨3, .l [.i .i64 (.ofNat 0)], 0, 0, 0, false, false⟩), (10, .k 5 [(2, .p 3 0), (3, .p 4 0), (4, .p 5 0), (5, .p 6 0)] 64 0 .normal)], [(3, .b ⟨9, .l [.s 0 0], 0, 0, 0, false, false⟩), (4, .b ⟨24, .l [.ni], 0, 0, 0, false, false⟩), (5, .b ⟨28, .l [.sr 11], 0, 0, 0, false, false⟩), (6, .b ⟨9, .l [.und], 0, 0, 0, false, false⟩), (7, .b ⟨9, .l [.x 4], 0, 0, 0, false, false⟩), (8, .b ⟨9, .l [.s 1 47], 0, 0, 0, false, false⟩), (9, .b ⟨3, .l [.i .i64 (.ofNat 0)], 0, 0, 0, false, false⟩), (10, .k 5 [(2, .p 3 0), (3, .p 4 0), (4, .p 5 0), (5, .p 6 0)] 64 0 .normal), (11, .r 2000001 9 1 false)]⟩
def lf24 : LF := ⟨5, 52, [(0, .yl 10), (1, .p 8 0), (2, .p 7 0), (3, .p 9 0), (9, .s 1 47)], [], (.exit 2), [(0, .yl 10), (2, .p 7 0)], some lh24⟩
def lh25 : LH := ⟨3, 43, 43, [(11, .r 2000001 9 1 false)], [(11, .r 2000001 9 1 false)]⟩
def lf25 : LF := ⟨8888888, 0, [(0, .sr 11), (1, .s 1 47)], [], .normal, [(0, .x 6)], some lh25⟩
noncomputable def tabCln_14 : Tab := addLps (addLps (addLps ({ tabk with hyp := hyCln_14 }) 5 fi5 [⟨7777777, 5, [], [2, 3, 4, 5], .goto 7777777, [], none⟩]) 29 fi29 [lf24]) 16 fi16 [lf25]
theorem runCln_14 : okA (call tabCln_14 9000 5 [.x 0] ⟨H0 , 3, 0, 0⟩) (.tu [.x 7, .ni]) = true := by kernel_rfl
def nuCln_14 (s : LB) : List Value := [St' s, St' ([] : LB), .int .i64 ((s.length : Int)), St' (List.take (Int.toNat (1)) s), St' ((cT s).2), St' ((dcS ((cT s).2)).getD []), St' (join47 ((cT s).1)), St' ([u8 47] ++ (join47 ((cT s).1))), .int .i64 ((((cT s).1).length : Int))]
def roCln_14 (s : LB) : List Value := [rwS ([] : List LB), rwS ((cT s).1)]
theorem onCln_14 (s : LB) : ∀ j, (nuL (nuCln_14 s) j).oneCell' = true := nuL_one (l := nuCln_14 s) rfl
theorem pathCln_14 (s : LB) (b0 : s.length ≤ 9223372036854775807) (p0 : s.length ≤ 1000000) (h0 : 1 ≤ (s.length : Int)) (h1 : (List.take (Int.toNat (1)) s) = [u8 47]) (h2 : ¬ ((clL unS (sp47 [] s) []) = none)) (h3 : (apL unS (sp47 [] s)) = true) (h4 : ¬ (dcS ((cT s).2) = none)) (h5 : ¬ (((dcS ((cT s).2)).getD []) = [u8 46, u8 46])) (h6 : ¬ ((((dcS ((cT s).2)).getD []).length : Int) = 0)) (h7 : ((dcS ((cT s).2)).getD []) = [u8 46]) (h8 : ¬ (0 < (((cT s).1).length : Int))) (w : World) (hl : laidE w) : CwR 5 #[St' s] w (.tuple #[St' ([u8 47] ++ (join47 ((cT s).1))), .nilIface]) := by
  have := lenTake (l := s) (Q := 1) (by omega) (by omega)
  have hct := cT_fl s
  have := dcS_len ((cT s).2)
  have := jn1 ((cT s).1)
  have := fl_len ((cT s).1)
  have ho : ∀ k r, (k, r) ∈ hyCln_14 → HOk (cx (nuX (nuCln_14 s) (rX (roCln_14 s) (fun _ => .bool true))) (nuX_one (onCln_14 s)) 0 laidE laidE_stab) k r := by
    unfold hyCln_14
    exact hc (kBytesB (bs := ([] : LB)) .nil (denX rfl)) <|
     hc (kRn (denX rfl)) <|
     hc (lnV rfl rfl (by omega)) <|
     hc (gecT rfl (by omega)) <|
     hc (tkC rfl rfl (by omega)) <|
     hc (kEqS (isX rfl) (isSx (l := [u8 47]) 1 47 rfl) (decide_eq_true (by assumption))) <|
     hc (hokDec (s := ((cT s).2)) (isX rfl) (by rw [if_neg (by assumption)]; exact denT2 (denX rfl) denNi) (by omega) (by omega)) <|
     hc (kEqS (isX rfl) (isSx (l := [u8 46, u8 46]) 2 11822 rfl) (decide_eq_false (by assumption))) <|
     hc (kEqS (isX rfl) (isSx (l := ([] : LB)) 0 0 rfl) (nilF (by omega))) <|
     hc (kEqS (isX rfl) (isSx (l := [u8 46]) 1 46 rfl) (decide_eq_true (by assumption))) <|
     hc (kCat (isSx (l := [u8 47]) 1 47 rfl) (isX rfl) (denX rfl) (by first | rfl | (simp; done)) (by first | omega | (simp only [List.length_append, List.length_cons, List.length_nil]; omega))) <|
     hc (kRl (isX rfl) (denX rfl) (by first | omega | (simp <;> omega))) <|
     hc (gtcF rfl (by omega)) <|
     hnil
  refine runC (tb := tabCln_14) (ra := .tu [.x 7, .ni]) rfl (AllOk.lp2 (AllOk.lp1 (AllOk.lp1 ((tabkOk (nuX (nuCln_14 s) (rX (roCln_14 s) (fun _ => .bool true))) (nuX_one (onCln_14 s))).hyps ho) (by omega) fi5_at fi5_body (lfCons (.inr ⟨rfl, mkA5, mkB5, _, Tryd.func5, mkC5⟩) lfNil)) (by omega) (get_lps2 (by omega) (by omega) fi29_at) fi29_body (lfCons (lpKnown rfl ⟨1, keyCl, lfOkCl_1 (l := lf24) (h := lh24) (clL unS (sp47 [] s) []) (clE unS stM (sp47 [] s) []) ((cT s).1) ((cT s).2) (apL unS (sp47 [] s)) (cT_some (by assumption)) (by assumption) (0, s, ([] : List LB)) (mkICl (clL unS (sp47 [] s) []) (clE unS stM (sp47 [] s) []) ((cT s).1) ((cT s).2) (apL unS (sp47 [] s)) 0 s ([] : List LB) ⟨rfl, rfl, rfl, by omega, by simp only [List.length_nil]; omega, fun _ => rfl, by omega⟩) rfl (by kernel_rfl) (th0 := [(0, .x 0)]) (sg0 := []) (fun X => thXv (v := St' s) rfl rfl (thNil)) (by kernel_rfl) (thx := [(4, .x 0), (2000001, .x 2000000)]) (thXv (v := St' ((cT s).2)) rfl rfl (thXv (v := rwS ((cT s).1)) rfl rfl (thNil))) (by kernel_rfl)⟩) lfNil)) (by omega) (get_lps2 (by omega) (by omega) (get_lps2 (by omega) (by omega) fi16_at)) fi16_body (lfCons (.inr ⟨⟨rfl, rfl⟩, cfA16, cfJ (l := lf25) (h := lh25) (K := ((cT s).1)) rfl rfl rfl rfl rfl rfl rfl rfl (by first | omega | (simp <;> omega)) (by first | omega | (simp <;> omega))⟩) lfNil)) rfl (get_lps2 (by omega) (by omega) (get_lps2 (by omega) (by omega) (get_lps (by omega)))) fiB5 (runCln_14 ) (args := [St' s]) (by simp only [RelL, Rel]; exact ⟨_, _, rfl, rfl, rfl⟩) w hl fun x hx => ?_
  simp only [Rel, RelL] at hx
  obtain ⟨_, rfl, ⟨_, _, rfl, rfl, ⟨_, _, rfl, rfl, rfl⟩⟩⟩ := hx
  rfl
def hyCln_15 : LK := [(.bytes [], .x 1), (.rn, .x 2000000), (.len (.x 0), .x 2), (.bin .geq (.x 2) (.i .i64 (.ofNat 1)), .b true), (.sub (.x 0) none (some (.i .i64 (.ofNat 1))), .x 3), (.bin .eql (.x 3) (.s 1 47), .b true), (.call 14 [.x 4], .tu [.x 5, .ni]), (.bin .eql (.x 5) (.s 2 11822), .b true), (.rl (.x 2000001) 1, .x 6), (.bin .eql (.x 6) (.i .i64 (.ofNat 0)), .b true)]
def lh26 : LH := ⟨3, 11, 23, [(3, .b ⟨9, .l [.s 0 0], 0, 0, 0, false, false⟩), (4, .b ⟨24, .l [.ni], 0, 0, 0, false, false⟩), (5, .b ⟨28, .l [.nils], 0, 0, 0, false, false⟩), (6, .b ⟨9, .l [.s 0 0], 0, 0, 0, false, false⟩), (7, .b ⟨9, .l [.x 0], 0, 0, 0, false, false⟩), (8, .b ⟨9, .l [.s 1 47], 0, 0, 0, false, false⟩), (9, .b ⟨3, .l [.i .i64 (.ofNat 0)], 0, 0, 0, false, false⟩), (10, .k 5 [(2, .p 3 0), (3, .p 4 0), (4, .p 5 0), (5, .p 6 0)] 64 0 .normal)], [(3, .b ⟨9, .l [.s 0 0], 0, 0, 0, false, false⟩), (4, .b ⟨24, .l [.ni], 0, 0, 0, false, false⟩), (5, .b ⟨28, .l [.sr 11], 0, 0, 0, false, false⟩), (6, .b ⟨9, .l [.und], 0, 0, 0, false, false⟩), (7, .b ⟨9, .l [.x 4], 0, 0, 0, false, false⟩), (8, .b ⟨9, .l [.s 1 47], 0, 0, 0, false, false⟩), (9, .b ⟨3, .l [.i .i64 (.ofNat 0)], 0, 0, 0, false, false⟩), (10, .k 5 [(2, .p 3 0), (3, .p 4 0), (4, .p 5 0), (5, .p 6 0)] 64 0 .normal), (11, .r 2000001 9 1 false)]⟩
def lf26 : LF := ⟨5, 52, [(0, .yl 10), (1, .p 8 0), (2, .p 7 0), (3, .p 9 0), (9, .s 1 47)], [], (.exit 2), [(0, .yl 10), (2, .p 7 0)], some lh26⟩
noncomputable def tabCln_15 : Tab := addLps (addLps ({ tabk with hyp := hyCln_15 }) 5 fi5 [⟨7777777, 5, [], [2, 3, 4, 5], .goto 7777777, [], none⟩]) 29 fi29 [lf26]
theorem runCln_15 : okA (call tabCln_15 9000 5 [.x 0] ⟨H0 , 3, 0, 0⟩) (.tu [.s 0 0, .ifc 48 (.ag [.i .i64 (.ofNat 10), .s 21 170204620060147215156831070085407667714849644748897])]) = true := by kernel_rfl
def nuCln_15 (s : LB) : List Value := [St' s, St' ([] : LB), .int .i64 ((s.length : Int)), St' (List.take (Int.toNat (1)) s), St' ((cT s).2), St' ((dcS ((cT s).2)).getD []), .int .i64 ((((cT s).1).length : Int))]
def roCln_15 (s : LB) : List Value := [rwS ([] : List LB), rwS ((cT s).1)]
theorem onCln_15 (s : LB) : ∀ j, (nuL (nuCln_15 s) j).oneCell' = true := nuL_one (l := nuCln_15 s) rfl
theorem pathCln_15 (s : LB) (b0 : s.length ≤ 9223372036854775807) (p0 : s.length ≤ 1000000) (h0 : 1 ≤ (s.length : Int)) (h1 : (List.take (Int.toNat (1)) s) = [u8 47]) (h2 : ¬ ((clL unS (sp47 [] s) []) = none)) (h3 : (apL unS (sp47 [] s)) = true) (h4 : ¬ (dcS ((cT s).2) = none)) (h5 : ((dcS ((cT s).2)).getD []) = [u8 46, u8 46]) (h6 : (((cT s).1).length : Int) = 0) (w : World) (hl : laidE w) : CwR 5 #[St' s] w (.tuple #[St' ([] : LB), .iface 48 (.agg #[.int .i64 10, St' [u8 97, u8 32, u8 112, u8 97, u8 116, u8 104, u8 32, u8 116, u8 104, u8 97, u8 116, u8 32, u8 108, u8 101, u8 97, u8 100, u8 115, u8 32, u8 111, u8 117, u8 116]])]) := by
  have := lenTake (l := s) (Q := 1) (by omega) (by omega)
  have hct := cT_fl s
  have := dcS_len ((cT s).2)
  obtain ⟨hdd1, hdd2⟩ := dd_f (t := ((dcS ((cT s).2)).getD [])) (by assumption)
  have ho : ∀ k r, (k, r) ∈ hyCln_15 → HOk (cx (nuX (nuCln_15 s) (rX (roCln_15 s) (fun _ => .bool true))) (nuX_one (onCln_15 s)) 0 laidE laidE_stab) k r := by
    unfold hyCln_15
    exact hc (kBytesB (bs := ([] : LB)) .nil (denX rfl)) <|
     hc (kRn (denX rfl)) <|
     hc (lnV rfl rfl (by omega)) <|
     hc (gecT rfl (by omega)) <|
     hc (tkC rfl rfl (by omega)) <|
     hc (kEqS (isX rfl) (isSx (l := [u8 47]) 1 47 rfl) (decide_eq_true (by assumption))) <|
     hc (hokDec (s := ((cT s).2)) (isX rfl) (by rw [if_neg (by assumption)]; exact denT2 (denX rfl) denNi) (by omega) (by omega)) <|
     hc (kEqS (isX rfl) (isSx (l := [u8 46, u8 46]) 2 11822 rfl) (decide_eq_true (by assumption))) <|
     hc (kRl (isX rfl) (denX rfl) (by first | omega | (simp <;> omega))) <|
     hc (eqcT rfl (by omega)) <|
     hnil
  refine runC (tb := tabCln_15) (ra := .tu [.s 0 0, .ifc 48 (.ag [.i .i64 (.ofNat 10), .s 21 170204620060147215156831070085407667714849644748897])]) rfl (AllOk.lp1 (AllOk.lp1 ((tabkOk (nuX (nuCln_15 s) (rX (roCln_15 s) (fun _ => .bool true))) (nuX_one (onCln_15 s))).hyps ho) (by omega) fi5_at fi5_body (lfCons (.inr ⟨rfl, mkA5, mkB5, _, Tryd.func5, mkC5⟩) lfNil)) (by omega) (get_lps2 (by omega) (by omega) fi29_at) fi29_body (lfCons (lpKnown rfl ⟨1, keyCl, lfOkCl_1 (l := lf26) (h := lh26) (clL unS (sp47 [] s) []) (clE unS stM (sp47 [] s) []) ((cT s).1) ((cT s).2) (apL unS (sp47 [] s)) (cT_some (by assumption)) (by assumption) (0, s, ([] : List LB)) (mkICl (clL unS (sp47 [] s) []) (clE unS stM (sp47 [] s) []) ((cT s).1) ((cT s).2) (apL unS (sp47 [] s)) 0 s ([] : List LB) ⟨rfl, rfl, rfl, by omega, by simp only [List.length_nil]; omega, fun _ => rfl, by omega⟩) rfl (by kernel_rfl) (th0 := [(0, .x 0)]) (sg0 := []) (fun X => thXv (v := St' s) rfl rfl (thNil)) (by kernel_rfl) (thx := [(4, .x 0), (2000001, .x 2000000)]) (thXv (v := St' ((cT s).2)) rfl rfl (thXv (v := rwS ((cT s).1)) rfl rfl (thNil))) (by kernel_rfl)⟩) lfNil)) rfl (get_lps2 (by omega) (by omega) (get_lps (by omega))) fiB5 (runCln_15 ) (args := [St' s]) (by simp only [RelL, Rel]; exact ⟨_, _, rfl, rfl, rfl⟩) w hl fun x hx => ?_
  simp only [Rel, RelL] at hx
  obtain ⟨_, rfl, ⟨_, _, rfl, ⟨rfl, _⟩, ⟨_, _, rfl, ⟨_, rfl, ⟨_, rfl, ⟨_, _, rfl, rfl, ⟨_, _, rfl, ⟨rfl, _⟩, rfl⟩⟩⟩⟩, rfl⟩⟩⟩ := hx
  rfl
def hyCln_16 : LK := [(.bytes [], .x 1), (.rn, .x 2000000), (.len (.x 0), .x 2), (.bin .geq (.x 2) (.i .i64 (.ofNat 1)), .b true), (.sub (.x 0) none (some (.i .i64 (.ofNat 1))), .x 3), (.bin .eql (.x 3) (.s 1 47), .b true), (.call 14 [.x 4], .tu [.x 5, .ni]), (.bin .eql (.x 5) (.s 2 11822), .b true), (.rl (.x 2000001) 1, .x 6), (.bin .eql (.x 6) (.i .i64 (.ofNat 0)), .b false), (.bin .sub (.x 6) (.i .i64 (.ofNat 1)), .x 7), (.rt (.x 2000001) (.x 7) 1, .x 2000002), (.bin .add (.s 1 47) (.x 8), .x 9), (.rl (.x 2000002) 1, .x 10), (.bin .gtr (.x 10) (.i .i64 (.ofNat 0)), .b true), (.bin .eql (.x 5) (.s 0 0), .b false), (.bin .eql (.x 5) (.s 1 46), .b false), (.bin .add (.x 9) (.s 1 47), .x 11)]
def lh34 : LH := ⟨3, 11, 23, [(3, .b ⟨9, .l [.s 0 0], 0, 0, 0, false, false⟩), (4, .b ⟨24, .l [.ni], 0, 0, 0, false, false⟩), (5, .b ⟨28, .l [.nils], 0, 0, 0, false, false⟩), (6, .b ⟨9, .l [.s 0 0], 0, 0, 0, false, false⟩), (7, .b ⟨9, .l [.x 0], 0, 0, 0, false, false⟩), (8, .b ⟨9, .l [.s 1 47], 0, 0, 0, false, false⟩), (9, .b ⟨3, .l [.i .i64 (.ofNat 0)], 0, 0, 0, false, false⟩), (10, .k 5 [(2, .p 3 0), (3, .p 4 0), (4, .p 5 0), (5, .p 6 0)] 64 0 .normal)], [(3, .b ⟨9, .l [.s 0 0], 0, 0, 0, false, false⟩), (4, .b ⟨24, .l [.ni], 0, 0, 0, false, false⟩), (5, .b ⟨28, .l [.sr 11], 0, 0, 0, false, false⟩), (6, .b ⟨9, .l [.und], 0, 0, 0, false, false⟩), (7, .b ⟨9, .l [.x 4], 0, 0, 0, false, false⟩), (8, .b ⟨9, .l [.s 1 47], 0, 0, 0, false, false⟩), (9, .b ⟨3, .l [.i .i64 (.ofNat 0)], 0, 0, 0, false, false⟩), (10, .k 5 [(2, .p 3 0), (3, .p 4 0), (4, .p 5 0), (5, .p 6 0)] 64 0 .normal), (11, .r 2000001 9 1 false)]⟩
def lf34 : LF := ⟨5, 52, [(0, .yl 10), (1, .p 8 0), (2, .p 7 0), (3, .p 9 0), (9, .s 1 47)], [], (.exit 2), [(0, .yl 10), (2, .p 7 0)], some lh34⟩
def lh35 : LH := ⟨3, 43, 43, [(23, .r 2000002 9 1 false)], [(23, .r 2000002 9 1 false)]⟩
def lf35 : LF := ⟨8888888, 0, [(0, .sr 23), (1, .s 1 47)], [], .normal, [(0, .x 8)], some lh35⟩
noncomputable def tabCln_16 : Tab := addLps (addLps (addLps ({ tabk with hyp := hyCln_16 }) 5 fi5 [⟨7777777, 5, [], [2, 3, 4, 5], .goto 7777777, [], none⟩]) 29 fi29 [lf34]) 16 fi16 [lf35]
theorem runCln_16 : okA (call tabCln_16 9000 5 [.x 0] ⟨H0 , 3, 0, 0⟩) (.tu [.x 11, .ni]) = true := by kernel_rfl
def nuCln_16 (s : LB) : List Value := [St' s, St' ([] : LB), .int .i64 ((s.length : Int)), St' (List.take (Int.toNat (1)) s), St' ((cT s).2), St' ((dcS ((cT s).2)).getD []), .int .i64 ((((cT s).1).length : Int)), .int .i64 ((((cT s).1).length : Int) - 1), St' (join47 (((cT s).1).take (Int.toNat ((((cT s).1).length : Int) - 1)))), St' ([u8 47] ++ (join47 (((cT s).1).take (Int.toNat ((((cT s).1).length : Int) - 1))))), .int .i64 ((((cT s).1).length : Int) - 1), St' ([u8 47] ++ ((join47 (((cT s).1).take (Int.toNat ((((cT s).1).length : Int) - 1)))) ++ [u8 47]))]
def roCln_16 (s : LB) : List Value := [rwS ([] : List LB), rwS ((cT s).1), rwS (((cT s).1).take (Int.toNat ((((cT s).1).length : Int) - 1)))]
theorem onCln_16 (s : LB) : ∀ j, (nuL (nuCln_16 s) j).oneCell' = true := nuL_one (l := nuCln_16 s) rfl
theorem pathCln_16 (s : LB) (b0 : s.length ≤ 9223372036854775807) (p0 : s.length ≤ 1000000) (h0 : 1 ≤ (s.length : Int)) (h1 : (List.take (Int.toNat (1)) s) = [u8 47]) (h2 : ¬ ((clL unS (sp47 [] s) []) = none)) (h3 : (apL unS (sp47 [] s)) = true) (h4 : ¬ (dcS ((cT s).2) = none)) (h5 : ((dcS ((cT s).2)).getD []) = [u8 46, u8 46]) (h6 : ¬ ((((cT s).1).length : Int) = 0)) (h7 : 0 < (((cT s).1).length : Int) - 1) (w : World) (hl : laidE w) : CwR 5 #[St' s] w (.tuple #[St' ([u8 47] ++ ((join47 (((cT s).1).take (Int.toNat ((((cT s).1).length : Int) - 1)))) ++ [u8 47])), .nilIface]) := by
  have := lenTake (l := s) (Q := 1) (by omega) (by omega)
  have hct := cT_fl s
  have := dcS_len ((cT s).2)
  obtain ⟨hdd1, hdd2⟩ := dd_f (t := ((dcS ((cT s).2)).getD [])) (by assumption)
  have := jn1 (((cT s).1).take (Int.toNat ((((cT s).1).length : Int) - 1)))
  have := fl_len (((cT s).1).take (Int.toNat ((((cT s).1).length : Int) - 1)))
  have := fl_tk ((cT s).1) (Int.toNat ((((cT s).1).length : Int) - 1))
  have ho : ∀ k r, (k, r) ∈ hyCln_16 → HOk (cx (nuX (nuCln_16 s) (rX (roCln_16 s) (fun _ => .bool true))) (nuX_one (onCln_16 s)) 0 laidE laidE_stab) k r := by
    unfold hyCln_16
    exact hc (kBytesB (bs := ([] : LB)) .nil (denX rfl)) <|
     hc (kRn (denX rfl)) <|
     hc (lnV rfl rfl (by omega)) <|
     hc (gecT rfl (by omega)) <|
     hc (tkC rfl rfl (by omega)) <|
     hc (kEqS (isX rfl) (isSx (l := [u8 47]) 1 47 rfl) (decide_eq_true (by assumption))) <|
     hc (hokDec (s := ((cT s).2)) (isX rfl) (by rw [if_neg (by assumption)]; exact denT2 (denX rfl) denNi) (by omega) (by omega)) <|
     hc (kEqS (isX rfl) (isSx (l := [u8 46, u8 46]) 2 11822 rfl) (decide_eq_true (by assumption))) <|
     hc (kRl (isX rfl) (denX rfl) (by first | omega | (simp <;> omega))) <|
     hc (eqcF rfl (by omega)) <|
     hc (sbC rfl rfl (by omega)) <|
     hc (kRtS (j := (Int.toNat ((((cT s).1).length : Int) - 1))) (isX rfl) (isX rfl) (denX rfl) (by omega) (by omega)) <|
     hc (kCat (isSx (l := [u8 47]) 1 47 rfl) (isX rfl) (denX rfl) (by first | rfl | (simp; done)) (by first | omega | (simp only [List.length_append, List.length_cons, List.length_nil]; omega))) <|
     hc (kRl (isX rfl) (denX rfl) (by first | omega | (simp <;> omega))) <|
     hc (gtcT rfl (by omega)) <|
     hc (kEqS (isX rfl) (isSx (l := ([] : LB)) 0 0 rfl) (nilF (by omega))) <|
     hc (kEqS (isX rfl) (isSx (l := [u8 46]) 1 46 rfl) (decide_eq_false (by assumption))) <|
     hc (kCat (isX rfl) (isSx (l := [u8 47]) 1 47 rfl) (denX rfl) (by first | rfl | (simp; done)) (by first | omega | (simp only [List.length_append, List.length_cons, List.length_nil]; omega))) <|
     hnil
  refine runC (tb := tabCln_16) (ra := .tu [.x 11, .ni]) rfl (AllOk.lp2 (AllOk.lp1 (AllOk.lp1 ((tabkOk (nuX (nuCln_16 s) (rX (roCln_16 s) (fun _ => .bool true))) (nuX_one (onCln_16 s))).hyps ho) (by omega) fi5_at fi5_body (lfCons (.inr ⟨rfl, mkA5, mkB5, _, Tryd.func5, mkC5⟩) lfNil)) (by omega) (get_lps2 (by omega) (by omega) fi29_at) fi29_body (lfCons (lpKnown rfl ⟨1, keyCl, lfOkCl_1 (l := lf34) (h := lh34) (clL unS (sp47 [] s) []) (clE unS stM (sp47 [] s) []) ((cT s).1) ((cT s).2) (apL unS (sp47 [] s)) (cT_some (by assumption)) (by assumption) (0, s, ([] : List LB)) (mkICl (clL unS (sp47 [] s) []) (clE unS stM (sp47 [] s) []) ((cT s).1) ((cT s).2) (apL unS (sp47 [] s)) 0 s ([] : List LB) ⟨rfl, rfl, rfl, by omega, by simp only [List.length_nil]; omega, fun _ => rfl, by omega⟩) rfl (by kernel_rfl) (th0 := [(0, .x 0)]) (sg0 := []) (fun X => thXv (v := St' s) rfl rfl (thNil)) (by kernel_rfl) (thx := [(4, .x 0), (2000001, .x 2000000)]) (thXv (v := St' ((cT s).2)) rfl rfl (thXv (v := rwS ((cT s).1)) rfl rfl (thNil))) (by kernel_rfl)⟩) lfNil)) (by omega) (get_lps2 (by omega) (by omega) (get_lps2 (by omega) (by omega) fi16_at)) fi16_body (lfCons (.inr ⟨⟨rfl, rfl⟩, cfA16, cfJ (l := lf35) (h := lh35) (K := (((cT s).1).take (Int.toNat ((((cT s).1).length : Int) - 1)))) rfl rfl rfl rfl rfl rfl rfl rfl (by first | omega | (simp <;> omega)) (by first | omega | (simp <;> omega))⟩) lfNil)) rfl (get_lps2 (by omega) (by omega) (get_lps2 (by omega) (by omega) (get_lps (by omega)))) fiB5 (runCln_16 ) (args := [St' s]) (by simp only [RelL, Rel]; exact ⟨_, _, rfl, rfl, rfl⟩) w hl fun x hx => ?_
  simp only [Rel, RelL] at hx
  obtain ⟨_, rfl, ⟨_, _, rfl, rfl, ⟨_, _, rfl, rfl, rfl⟩⟩⟩ := hx
  rfl
theorem callsCln (s : LB) (b0 : s.length ≤ 9223372036854775807) (p0 : s.length ≤ 1000000) (w : World) (hl : laidE w) : CwR 5 #[St' s] w (if cleanG unS s = none then .tuple #[St' [], .iface 48 (.agg #[.int .i64 10, St' (clnM s)])] else .tuple #[St' ((cleanG unS s).getD []), .nilIface]) := by
  by_cases h0 : 1 ≤ (s.length : Int)
  · by_cases h1 : (List.take (Int.toNat (1)) s) = [u8 47]
    · by_cases h2 : (clL unS (sp47 [] s) []) = none
      · rw [show (if cleanG unS s = none then .tuple #[St' [], .iface 48 (.agg #[.int .i64 10, St' (clnM s)])] else .tuple #[St' ((cleanG unS s).getD []), .nilIface] : Value) = (.tuple #[St' ([] : LB), .iface 48 (.agg #[.int .i64 10, St' (clE unS stM (sp47 [] s) [])])] : Value) from by rw [if_pos (cn_cl (by assumption) (by assumption)).1, (cn_cl (by assumption) (by assumption)).2]]
        exact pathCln_2 s b0 p0 h0 h1 h2 w hl
      · by_cases h3 : (apL unS (sp47 [] s)) = true
        · by_cases h4 : dcS ((cT s).2) = none
          · rw [show (if cleanG unS s = none then .tuple #[St' [], .iface 48 (.agg #[.int .i64 10, St' (clnM s)])] else .tuple #[St' ((cleanG unS s).getD []), .nilIface] : Value) = (.tuple #[St' ([] : LB), .iface 48 (.agg #[.int .i64 10, St' (dcM ((cT s).2))])] : Value) from by have hs := st_bad (f := (cT s).2) (o := (cT s).1) (by assumption); rw [if_pos (cn_st (by assumption) (by assumption) hs.1).1, (cn_st (by assumption) (by assumption) hs.1).2, hs.2]]
            exact pathCln_12 s b0 p0 h0 h1 h2 h3 h4 w hl
          · by_cases h5 : ((dcS ((cT s).2)).getD []) = [u8 46, u8 46]
            · by_cases h6 : (((cT s).1).length : Int) = 0
              · rw [show (if cleanG unS s = none then .tuple #[St' [], .iface 48 (.agg #[.int .i64 10, St' (clnM s)])] else .tuple #[St' ((cleanG unS s).getD []), .nilIface] : Value) = (.tuple #[St' ([] : LB), .iface 48 (.agg #[.int .i64 10, St' [u8 97, u8 32, u8 112, u8 97, u8 116, u8 104, u8 32, u8 116, u8 104, u8 97, u8 116, u8 32, u8 108, u8 101, u8 97, u8 100, u8 115, u8 32, u8 111, u8 117, u8 116]])] : Value) from by have hs := st_out (f := (cT s).2) (o := (cT s).1) (by assumption) (by assumption) (List.eq_nil_of_length_eq_zero (by omega)); rw [if_pos (cn_st (by assumption) (by assumption) hs.1).1, (cn_st (by assumption) (by assumption) hs.1).2, hs.2]; rfl]
                exact pathCln_15 s b0 p0 h0 h1 h2 h3 h4 h5 h6 w hl
              · by_cases h7 : 0 < (((cT s).1).length : Int) - 1
                · rw [show (if cleanG unS s = none then .tuple #[St' [], .iface 48 (.agg #[.int .i64 10, St' (clnM s)])] else .tuple #[St' ((cleanG unS s).getD []), .nilIface] : Value) = (.tuple #[St' ([u8 47] ++ ((join47 (((cT s).1).take (Int.toNat ((((cT s).1).length : Int) - 1)))) ++ [u8 47])), .nilIface] : Value) from by have hs := (st_pop (f := (cT s).2) (o := (cT s).1) (by assumption) (by assumption) (by omega)).1; have hc := cn_ok (by assumption) (by assumption) hs; rw [if_neg (by rw [hc]; simp), hc, Option.getD_some, ou_1 (by first | omega | (simp only [List.length_take, List.length_append, List.length_cons, List.length_nil]; omega)) (dd_y (by assumption))]]
                  exact pathCln_16 s b0 p0 h0 h1 h2 h3 h4 h5 h6 h7 w hl
                · rw [show (if cleanG unS s = none then .tuple #[St' [], .iface 48 (.agg #[.int .i64 10, St' (clnM s)])] else .tuple #[St' ((cleanG unS s).getD []), .nilIface] : Value) = (.tuple #[St' ([u8 47] ++ (join47 (((cT s).1).take (Int.toNat ((((cT s).1).length : Int) - 1))))), .nilIface] : Value) from by have hs := (st_pop (f := (cT s).2) (o := (cT s).1) (by assumption) (by assumption) (by omega)).1; have hc := cn_ok (by assumption) (by assumption) hs; rw [if_neg (by rw [hc]; simp), hc, Option.getD_some, ou_z (by first | omega | (simp only [List.length_take, List.length_append, List.length_cons, List.length_nil]; omega))]]
                  exact pathCln_10 s b0 p0 h0 h1 h2 h3 h4 h5 h6 h7 w hl
            · by_cases h6 : (((dcS ((cT s).2)).getD []).length : Int) = 0
              · by_cases h7 : 0 < (((cT s).1).length : Int)
                · rw [show (if cleanG unS s = none then .tuple #[St' [], .iface 48 (.agg #[.int .i64 10, St' (clnM s)])] else .tuple #[St' ((cleanG unS s).getD []), .nilIface] : Value) = (.tuple #[St' ([u8 47] ++ ((join47 ((cT s).1)) ++ [u8 47])), .nilIface] : Value) from by have hs := (st_ps (f := (cT s).2) (o := (cT s).1) (by assumption) (.inl (by omega))).1; have hc := cn_ok (by assumption) (by assumption) hs; rw [if_neg (by rw [hc]; simp), hc, Option.getD_some, ou_1 (by first | omega | (simp only [List.length_take, List.length_append, List.length_cons, List.length_nil]; omega)) ((st_ps (f := (cT s).2) (o := (cT s).1) (by assumption) (.inl (by omega))).2.2)]]
                  exact pathCln_8 s b0 p0 h0 h1 h2 h3 h4 h5 h6 h7 w hl
                · rw [show (if cleanG unS s = none then .tuple #[St' [], .iface 48 (.agg #[.int .i64 10, St' (clnM s)])] else .tuple #[St' ((cleanG unS s).getD []), .nilIface] : Value) = (.tuple #[St' ([u8 47] ++ (join47 ((cT s).1))), .nilIface] : Value) from by have hs := (st_ps (f := (cT s).2) (o := (cT s).1) (by assumption) (.inl (by omega))).1; have hc := cn_ok (by assumption) (by assumption) hs; rw [if_neg (by rw [hc]; simp), hc, Option.getD_some, ou_z (by first | omega | (simp only [List.length_take, List.length_append, List.length_cons, List.length_nil]; omega))]]
                  exact pathCln_13 s b0 p0 h0 h1 h2 h3 h4 h5 h6 h7 w hl
              · by_cases h7 : ((dcS ((cT s).2)).getD []) = [u8 46]
                · by_cases h8 : 0 < (((cT s).1).length : Int)
                  · rw [show (if cleanG unS s = none then .tuple #[St' [], .iface 48 (.agg #[.int .i64 10, St' (clnM s)])] else .tuple #[St' ((cleanG unS s).getD []), .nilIface] : Value) = (.tuple #[St' ([u8 47] ++ ((join47 ((cT s).1)) ++ [u8 47])), .nilIface] : Value) from by have hs := (st_ps (f := (cT s).2) (o := (cT s).1) (by assumption) (.inr (by assumption))).1; have hc := cn_ok (by assumption) (by assumption) hs; rw [if_neg (by rw [hc]; simp), hc, Option.getD_some, ou_1 (by first | omega | (simp only [List.length_take, List.length_append, List.length_cons, List.length_nil]; omega)) ((st_ps (f := (cT s).2) (o := (cT s).1) (by assumption) (.inr (by assumption))).2.2)]]
                    exact pathCln_9 s b0 p0 h0 h1 h2 h3 h4 h5 h6 h7 h8 w hl
                  · rw [show (if cleanG unS s = none then .tuple #[St' [], .iface 48 (.agg #[.int .i64 10, St' (clnM s)])] else .tuple #[St' ((cleanG unS s).getD []), .nilIface] : Value) = (.tuple #[St' ([u8 47] ++ (join47 ((cT s).1))), .nilIface] : Value) from by have hs := (st_ps (f := (cT s).2) (o := (cT s).1) (by assumption) (.inr (by assumption))).1; have hc := cn_ok (by assumption) (by assumption) hs; rw [if_neg (by rw [hc]; simp), hc, Option.getD_some, ou_z (by first | omega | (simp only [List.length_take, List.length_append, List.length_cons, List.length_nil]; omega))]]
                    exact pathCln_14 s b0 p0 h0 h1 h2 h3 h4 h5 h6 h7 h8 w hl
                · rw [show (if cleanG unS s = none then .tuple #[St' [], .iface 48 (.agg #[.int .i64 10, St' (clnM s)])] else .tuple #[St' ((cleanG unS s).getD []), .nilIface] : Value) = (.tuple #[St' ([u8 47] ++ (join47 (((cT s).1) ++ [((dcS ((cT s).2)).getD [])]))), .nilIface] : Value) from by have hs := (st_ap (f := (cT s).2) (o := (cT s).1) (by assumption) (by assumption) (by omega) (by assumption)).1; have hc := cn_ok (by assumption) (by assumption) hs; rw [if_neg (by rw [hc]; simp), hc, Option.getD_some, ou_0 ((st_ap (f := (cT s).2) (o := (cT s).1) (by assumption) (by assumption) (by omega) (by assumption)).2.2)]]
                  exact pathCln_11 s b0 p0 h0 h1 h2 h3 h4 h5 h6 h7 w hl
        · by_cases h4 : dcS ((cT s).2) = none
          · rw [show (if cleanG unS s = none then .tuple #[St' [], .iface 48 (.agg #[.int .i64 10, St' (clnM s)])] else .tuple #[St' ((cleanG unS s).getD []), .nilIface] : Value) = (.tuple #[St' ([] : LB), .iface 48 (.agg #[.int .i64 10, St' (dcM ((cT s).2))])] : Value) from by have hs := st_bad (f := (cT s).2) (o := (cT s).1) (by assumption); rw [if_pos (cn_st (by assumption) (by assumption) hs.1).1, (cn_st (by assumption) (by assumption) hs.1).2, hs.2]]
            exact pathCln_7 s b0 p0 h0 h1 h2 h3 h4 w hl
          · by_cases h5 : ((dcS ((cT s).2)).getD []) = [u8 46, u8 46]
            · rw [show (if cleanG unS s = none then .tuple #[St' [], .iface 48 (.agg #[.int .i64 10, St' (clnM s)])] else .tuple #[St' ((cleanG unS s).getD []), .nilIface] : Value) = (.tuple #[St' ([] : LB), .iface 48 (.agg #[.int .i64 10, St' [u8 97, u8 32, u8 112, u8 97, u8 116, u8 104, u8 32, u8 116, u8 104, u8 97, u8 116, u8 32, u8 108, u8 101, u8 97, u8 100, u8 115, u8 32, u8 111, u8 117, u8 116]])] : Value) from by have hTo := cT_nil (s := s) (by assumption) (by simpa using (by assumption : ¬ (apL unS (sp47 [] s)) = true)); have hs := st_out (f := (cT s).2) (o := (cT s).1) (by assumption) (by assumption) (hTo); rw [if_pos (cn_st (by assumption) (by assumption) hs.1).1, (cn_st (by assumption) (by assumption) hs.1).2, hs.2]; rfl]
              exact pathCln_5 s b0 p0 h0 h1 h2 h3 h4 h5 w hl
            · by_cases h6 : (((dcS ((cT s).2)).getD []).length : Int) = 0
              · rw [show (if cleanG unS s = none then .tuple #[St' [], .iface 48 (.agg #[.int .i64 10, St' (clnM s)])] else .tuple #[St' ((cleanG unS s).getD []), .nilIface] : Value) = (.tuple #[St' [u8 47], .nilIface] : Value) from by have hTo := cT_nil (s := s) (by assumption) (by simpa using (by assumption : ¬ (apL unS (sp47 [] s)) = true)); have hs := (st_ps (f := (cT s).2) (o := (cT s).1) (by assumption) (.inl (by omega))).1; have hc := cn_ok (by assumption) (by assumption) hs; rw [if_neg (by rw [hc]; simp), hc, Option.getD_some, hTo, ou_n]]
                exact pathCln_3 s b0 p0 h0 h1 h2 h3 h4 h5 h6 w hl
              · by_cases h7 : ((dcS ((cT s).2)).getD []) = [u8 46]
                · rw [show (if cleanG unS s = none then .tuple #[St' [], .iface 48 (.agg #[.int .i64 10, St' (clnM s)])] else .tuple #[St' ((cleanG unS s).getD []), .nilIface] : Value) = (.tuple #[St' [u8 47], .nilIface] : Value) from by have hTo := cT_nil (s := s) (by assumption) (by simpa using (by assumption : ¬ (apL unS (sp47 [] s)) = true)); have hs := (st_ps (f := (cT s).2) (o := (cT s).1) (by assumption) (.inr (by assumption))).1; have hc := cn_ok (by assumption) (by assumption) hs; rw [if_neg (by rw [hc]; simp), hc, Option.getD_some, hTo, ou_n]]
                  exact pathCln_4 s b0 p0 h0 h1 h2 h3 h4 h5 h6 h7 w hl
                · rw [show (if cleanG unS s = none then .tuple #[St' [], .iface 48 (.agg #[.int .i64 10, St' (clnM s)])] else .tuple #[St' ((cleanG unS s).getD []), .nilIface] : Value) = (.tuple #[St' ([u8 47] ++ (join47 (([] : List LB) ++ [((dcS ((cT s).2)).getD [])]))), .nilIface] : Value) from by have hTo := cT_nil (s := s) (by assumption) (by simpa using (by assumption : ¬ (apL unS (sp47 [] s)) = true)); have hs := (st_ap (f := (cT s).2) (o := (cT s).1) (by assumption) (by assumption) (by omega) (by assumption)).1; have hc := cn_ok (by assumption) (by assumption) hs; rw [if_neg (by rw [hc]; simp), hc, Option.getD_some, hTo, ou_0 ((st_ap (f := (cT s).2) (o := (cT s).1) (by assumption) (by assumption) (by omega) (by assumption)).2.2)]]
                  exact pathCln_6 s b0 p0 h0 h1 h2 h3 h4 h5 h6 h7 w hl
    · rw [show (if cleanG unS s = none then .tuple #[St' [], .iface 48 (.agg #[.int .i64 10, St' (clnM s)])] else .tuple #[St' ((cleanG unS s).getD []), .nilIface] : Value) = (.tuple #[St' ([] : LB), .iface 48 (.agg #[.int .i64 10, St' [u8 97, u8 32, u8 112, u8 97, u8 116, u8 104, u8 32, u8 116, u8 104, u8 97, u8 116, u8 32, u8 100, u8 111, u8 101, u8 115, u8 110, u8 39, u8 116, u8 32, u8 98, u8 101, u8 103, u8 105, u8 110, u8 32, u8 119, u8 105, u8 116, u8 104, u8 32, u8 97, u8 32, u8 115, u8 108, u8 97, u8 115, u8 104]])] : Value) from by rw [if_pos (cn_hd (s := s) (by first | exact .inl (by omega) | exact .inr (by assumption))).1, (cn_hd (s := s) (by first | exact .inl (by omega) | exact .inr (by assumption))).2]; rfl]
      exact pathCln_1 s b0 p0 h0 h1 w hl
  · rw [show (if cleanG unS s = none then .tuple #[St' [], .iface 48 (.agg #[.int .i64 10, St' (clnM s)])] else .tuple #[St' ((cleanG unS s).getD []), .nilIface] : Value) = (.tuple #[St' ([] : LB), .iface 48 (.agg #[.int .i64 10, St' [u8 97, u8 32, u8 112, u8 97, u8 116, u8 104, u8 32, u8 116, u8 104, u8 97, u8 116, u8 32, u8 100, u8 111, u8 101, u8 115, u8 110, u8 39, u8 116, u8 32, u8 98, u8 101, u8 103, u8 105, u8 110, u8 32, u8 119, u8 105, u8 116, u8 104, u8 32, u8 97, u8 32, u8 115, u8 108, u8 97, u8 115, u8 104]])] : Value) from by rw [if_pos (cn_hd (s := s) (by first | exact .inl (by omega) | exact .inr (by assumption))).1, (cn_hd (s := s) (by first | exact .inl (by omega) | exact .inr (by assumption))).2]; rfl]
    exact pathCln_0 s b0 p0 h0 w hl
theorem hokCln {x0 r : AV} {s : LB} (i0 : Is (cx nu one 0 laidE laidE_stab) x0 (St' s)) (hr : Den (cx nu one 0 laidE laidE_stab) r (if cleanG unS s = none then .tuple #[St' [], .iface 48 (.agg #[.int .i64 10, St' (clnM s)])] else .tuple #[St' ((cleanG unS s).getD []), .nilIface])) (b0 : s.length ≤ 9223372036854775807) (p0 : s.length ≤ 1000000) : HOk (cx nu one 0 laidE laidE_stab) (.call 5 [x0]) r := by
  intro ρ args ha w hl _
  simp only [RelL] at ha
  obtain ⟨v0, t0, rfl, a0, rfl⟩ := ha
  have e0 := i0 ρ _ a0; subst e0
  exact (callsCln s b0 p0 w hl).mono fun e w' he => ⟨_, he.1, hr ρ, he.2⟩
end Go.Proofs.YtipdlfkjablekaaDoor.pathBack
