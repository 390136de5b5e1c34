/- A part of the proof: an interpreter of the model's own code on partly known states, and that what it answers is what the program answers. No condition of its own. -/
import Derived.Test.YteoafgajdfbenaaKindN1
set_option maxRecDepth 100000
set_option linter.unusedVariables false
namespace Go.Proofs.Yteoafgajdfbenaa
open Go Go.AX Go.Proofs
open Go.RowKit (Below)
namespace kinds
open recordLimits (isTrue)
def nu (a0 a1 : Int) : Nat → Value
  | 0 => .int .i64 a0
  | _ => .int .i64 a1
theorem nu_one (a0 a1 : Int) : ∀ i, (nu a0 a1 i).oneCell' = true
  | 0 => rfl
  | _ + 1 => rfl
theorem inB (l : Bool) : l ∈ [true, false] := by cases l <;> simp
theorem cmpRun (P : Program) (t : TypeId) (a b : Int) (w : World) : (binOp .lss t (.int .i64 a) (.int .i64 b)).run P w = .ok (.bool (decide (a < b))) w ∧ (binOp .gtr t (.int .i64 a) (.int .i64 b)).run P w = .ok (.bool (decide (b < a))) w ∧
    (binOp .geq t (.int .i64 a) (.int .i64 b)).run P w = .ok (.bool (decide (b ≤ a))) w ∧ (binOp .leq t (.int .i64 a) (.int .i64 b)).run P w = .ok (.bool (decide (a ≤ b))) w ∧ (binOp .eql t (.int .i64 a) (.int .i64 b)).run P w = .ok (.bool (decide (a = b))) w := by
  refine ⟨?_, ?_, ?_, ?_, ?_⟩ <;> simp [binOp, Op.intCmp]
  exact Bool.eq_iff_iff.2 (by simp)
theorem HOk.cmp {C : Cx} {o : BinOp} {x y : AV} {a b : Int} {e : Bool} (hx : ∀ ρ v, Rel C ρ x v → v = .int .i64 a) (hy : ∀ ρ v, Rel C ρ y v → v = .int .i64 b) (h : ∀ t w, (binOp o t (.int .i64 a) (.int .i64 b)).run C.P w = .ok (.bool e) w) : HOk C (.bin o x y) (.b e) := by
  intro ρ vx vy h1 h2
  rw [hx ρ vx h1, hy ρ vy h2]
  exact ⟨.inl ⟨.i64, a, b, rfl, rfl⟩, .bool e, by simp only [Rel], h⟩
section
variable {a0 a1 : Int}
theorem x0 (ρ : Rho) (v : Value) (h : Rel (cx (nu a0 a1) (nu_one a0 a1)) ρ (.x 0) v) : v = .int .i64 a0 := by simp only [Rel] at h; exact h
theorem x1 (ρ : Rho) (v : Value) (h : Rel (cx (nu a0 a1) (nu_one a0 a1)) ρ (.x 1) v) : v = .int .i64 a1 := by simp only [Rel] at h; exact h
theorem ci {C : Cx} (n : Int) (ρ : Rho) (v : Value) (h : Rel C ρ (.i .i64 n) v) : v = .int .i64 n := by simpa only [Rel] using h
theorem cmpOk {C : Cx} {i : Nat} {a : Int} {l : Bool} (hx : ∀ ρ v, Rel C ρ (.x i) v → v = .int .i64 a) (h : if l then a < 1 else 11 < a) : ∀ k r, (k, r) ∈ cmpH i l → HOk C k r := by
  intro k r hm
  simp only [cmpH, List.mem_cons, List.not_mem_nil, or_false, Prod.mk.injEq] at hm
  have e1 : decide (a < 1) = l := by cases l <;> simp at h ⊢ <;> omega
  have e2 : decide (11 < a) = !l := by cases l <;> simp at h ⊢ <;> omega
  have e3 : decide (1 ≤ a) = !l := by cases l <;> simp at h ⊢ <;> omega
  have e4 : decide (a ≤ 11) = l := by cases l <;> simp at h ⊢ <;> omega
  rcases hm with ⟨rfl, rfl⟩ | ⟨rfl, rfl⟩ | ⟨rfl, rfl⟩ | ⟨rfl, rfl⟩
  · exact HOk.cmp hx (ci 1) fun t w => by rw [(cmpRun _ t a 1 w).1, e1]
  · exact HOk.cmp hx (ci 11) fun t w => by rw [(cmpRun _ t a 11 w).2.1, e2]
  · exact HOk.cmp hx (ci 1) fun t w => by rw [(cmpRun _ t a 1 w).2.2.1, e3]
  · exact HOk.cmp hx (ci 11) fun t w => by rw [(cmpRun _ t a 11 w).2.2.2.1, e4]
theorem fi7 : ∃ fi, tab4.fn.get 7 = some fi ∧ fi.body.isSome = true := ⟨_, rfl, by kernel_rfl⟩
theorem fin {hs : List (HK × AV)} {l : List AV} {w : World} (hh : ∀ k r, (k, r) ∈ hs → HOk (cx (nu a0 a1) (nu_one a0 a1)) k r) (hl : RelL (cx (nu a0 a1) (nu_one a0 a1)) (fun _ => none) l [.int .i64 a0, .int .i64 a1])
    (hr : isTrue (call { tab4 with hyp := hs } 400 7 l S0) = true) : Calls Try.prog 7 #[.int .i64 a0, .int .i64 a1] w fun e w' => e = .returned (.bool true) ∧ Below w.heap.size w w' := by
  obtain ⟨S, hS⟩ := isTrue_inv hr
  obtain ⟨fi, hfi, hb⟩ := fi7
  refine (run_ok ((tab4Ok (nu a0 a1) (nu_one a0 a1)).hyps hh) hfi hb hS hl w).mono fun e w' he => ?_
  obtain ⟨x, ρ, rfl, hx, hb⟩ := he
  simp only [Rel] at hx
  exact ⟨by rw [hx], hb⟩
theorem mid {a : Int} (h1 : 1 ≤ a) (h2 : a ≤ 11) : ∃ j, j ∈ List.range 11 ∧ a = .ofNat (j + 1) := ⟨a.toNat - 1, by simp; omega, by show a = ((a.toNat - 1 + 1 : Nat) : Int); omega⟩
theorem walk (a0 a1 : Int) (w : World) : Calls Try.prog 7 #[.int .i64 a0, .int .i64 a1] w fun e w' => e = .returned (.bool true) ∧ Below w.heap.size w w' := by
  by_cases p : 1 ≤ a0 ∧ a0 ≤ 11 <;> by_cases q : 1 ≤ a1 ∧ a1 ≤ 11
  · obtain ⟨j, hj, rfl⟩ := mid p.1 p.2
    obtain ⟨k, hk, rfl⟩ := mid q.1 q.2
    have hr := List.all_eq_true.1 (List.all_eq_true.1 mm j hj) k hk
    exact fin (hs := []) (fun k r h => by simp at h) (by simp only [RelL, Rel]; exact ⟨_, _, rfl, rfl, _, _, rfl, rfl, rfl⟩) hr
  · obtain ⟨j, hj, rfl⟩ := mid p.1 p.2
    have hq : (if decide (a1 < 1) then a1 < 1 else 11 < a1) := by split <;> rename_i h <;> simp at h <;> omega
    have hr := List.all_eq_true.1 (List.all_eq_true.1 mo j hj) _ (inB (decide (a1 < 1)))
    refine fin (fun k r h => ?_) (by simp only [RelL, Rel]; exact ⟨_, _, rfl, rfl, _, _, rfl, rfl, rfl⟩) hr
    rcases List.mem_cons.1 h with h | h
    · injection h with h1 h2; subst h1; subst h2
      have e : decide ((Int.ofNat (j + 1) : Int) = a1) = false := by
        have : ¬ (Int.ofNat (j + 1) : Int) = a1 := fun e => q (e ▸ p)
        simpa using this
      exact HOk.cmp (ci _) x1 fun t w => by rw [(cmpRun _ t _ a1 w).2.2.2.2, e]
    · exact cmpOk x1 hq k r h
  · obtain ⟨j, hj, rfl⟩ := mid q.1 q.2
    have hp : (if decide (a0 < 1) then a0 < 1 else 11 < a0) := by split <;> rename_i h <;> simp at h <;> omega
    have hr := List.all_eq_true.1 (List.all_eq_true.1 om j hj) _ (inB (decide (a0 < 1)))
    refine fin (fun k r h => ?_) (by simp only [RelL, Rel]; exact ⟨_, _, rfl, rfl, _, _, rfl, rfl, rfl⟩) hr
    rcases List.mem_cons.1 h with h | h
    · injection h with h1 h2; subst h1; subst h2
      have e : decide (a0 = (Int.ofNat (j + 1) : Int)) = false := by
        have : ¬ a0 = (Int.ofNat (j + 1) : Int) := fun e => p (e ▸ q)
        simpa using this
      exact HOk.cmp x0 (ci _) fun t w => by rw [(cmpRun _ t a0 _ w).2.2.2.2, e]
    · exact cmpOk x0 hp k r h
  · have hp : (if decide (a0 < 1) then a0 < 1 else 11 < a0) := by split <;> rename_i h <;> simp at h <;> omega
    have hq : (if decide (a1 < 1) then a1 < 1 else 11 < a1) := by split <;> rename_i h <;> simp at h <;> omega
    have hr := List.all_eq_true.1 (List.all_eq_true.1 (List.all_eq_true.1 oo _ (inB (decide (a0 = a1)))) _ (inB (decide (a0 < 1)))) _ (inB (decide (a1 < 1)))
    refine fin (fun k r h => ?_) (by simp only [RelL, Rel]; exact ⟨_, _, rfl, rfl, _, _, rfl, rfl, rfl⟩) hr
    rcases List.mem_cons.1 h with h | h
    · injection h with h1 h2; subst h1; subst h2
      exact HOk.cmp x0 x1 fun t w => (cmpRun _ t a0 a1 w).2.2.2.2
    · rcases List.mem_append.1 h with h | h
      · exact cmpOk x0 hp k r h
      · exact cmpOk x1 hq k r h
end
end kinds
end Go.Proofs.Yteoafgajdfbenaa
