/- A part of the proof: an interpreter of the model's own code on partly known states, and that what it answers is what the program answers. No condition of its own. -/
import Derived.Test.YtojgdbbjblaalaaDoorAXx
set_option linter.unusedSimpArgs false
set_option linter.unusedVariables false
namespace Go.AX
open Go.RowKit (Below)
/- one operation, given what a call answers -/
noncomputable def operF (tb : Tab) (cal : Nat → List AV → M AV) (o : Oper) (φ : Operand → AV) : M AV := match o.op with
  | .call c => match c.callee with
    | .builtin b => builtin tb b c.argTypes.toList (c.args.toList.map φ)
    | .value g => match φ g with
      | .fn g first cap => cal g (first ++ c.args.toList.map φ ++ cap)
      | _ => fail
    | .invoke r m => match φ r with
      | .ifc t v => bnd (lft (methd tb.met t m)) fun g => bnd (lft (recv g.2 v)) fun v => cal g.1 (v :: c.args.toList.map φ)
      | _ => fail
  | x => simple tb φ x
theorem oper_eq (tb : Tab) (f : Nat) (o : Oper) (E : Env) : oper tb (f + 1) o E = operF tb (call tb f) o (op tb.ng E.tm) := by
  unfold oper operF
  cases o.op <;> rfl
theorem fillC_congr {spec : Nat → Option (Nat × Nat)} {φ ψ : Operand → AV} : ∀ (ps : List (Nat × Operand)) (l : List AV), (∀ x ∈ ps.map (·.2), φ x = ψ x) → fillC spec φ l ps = fillC spec ψ l ps
  | [], _, _ => by simp only [fillC]
  | (i, x) :: ps, l, h => by
    have hx : φ x = ψ x := h x (by simp)
    have ih := fun l => fillC_congr (spec := spec) ps l (fun y hy => h y (by simp only [List.map_cons, List.mem_cons]; exact .inr hy))
    simp only [fillC, hx, ih]
theorem asNo_congr {φ ψ : Operand → AV} (o : Option Operand) (d : Nat) (h : ∀ x, o = some x → φ x = ψ x) : asNo φ o d = asNo ψ o d := by
  cases o with
  | none => rfl
  | some x => simp only [asNo, h x rfl]
theorem sl2_congr {φ ψ : Operand → AV} (lo hi : Option Operand) (n : Nat) (h : ∀ x, lo = some x → φ x = ψ x) (h' : ∀ x, hi = some x → φ x = ψ x) : sl2 φ lo hi n = sl2 ψ lo hi n := by
  unfold sl2
  rw [asNo_congr lo _ h, asNo_congr hi _ h']
theorem simple_congr (tb : Tab) {φ ψ : Operand → AV} (o : Op) (h : ∀ x ∈ o.operands.toList, φ x = ψ x) : simple tb φ o = simple tb ψ o := by
  cases o <;> simp only [Op.operands] at h <;> simp only [simple]
  case build t ps =>
    have := fun spec l => fillC_congr (spec := spec) (φ := φ) (ψ := ψ) ps.toList l (fun x hx => h x (by simpa using hx))
    simp only [this]
  case buildSlice t n ps =>
    have := fun spec l => fillC_congr (spec := spec) (φ := φ) (ψ := ψ) ps.toList l (fun x hx => h x (by simpa using hx))
    simp only [this]
  case makeFunc fn first cap =>
    have h1 : first.toList.map φ = first.toList.map ψ := List.map_congr_left fun x hx => h x (by simp; exact .inl (by simpa using hx))
    have h2 : cap.toList.map φ = cap.toList.map ψ := List.map_congr_left fun x hx => h x (by simp; exact .inr (by simpa using hx))
    rw [h1, h2]
  case slice t x lo hi mx =>
    have hx : φ x = ψ x := h x (by simp)
    have hs := fun n => sl2_congr (φ := φ) (ψ := ψ) lo hi n (fun y hy => h y (by subst hy; simp)) (fun y hy => h y (by subst hy; simp))
    simp only [hx, hs]
  all_goals first | rfl | (simp only [List.mem_cons, List.not_mem_nil, or_false, forall_eq_or_imp, forall_eq] at h; simp only [h]; done) | (obtain ⟨h1, h2⟩ := h; simp only [h1, h2]; done) | (obtain ⟨h1, h2, h3⟩ := h; simp only [h1, h2, h3]; done) | (simp at h; simp [h]; done)
theorem operF_congr (tb : Tab) (cal : Nat → List AV → M AV) (o : Oper) {φ ψ : Operand → AV} (h : ∀ x ∈ o.op.operands.toList, φ x = ψ x) : operF tb cal o φ = operF tb cal o ψ := by
  unfold operF
  cases ho : o.op
  case call c =>
    rw [ho] at h
    simp only [Op.operands, Call.operands] at h
    have h1 : c.args.toList.map φ = c.args.toList.map ψ := List.map_congr_left fun x hx => h x (by simp; exact .inr (by simpa using hx))
    simp only [h1]
    cases hc : c.callee with
    | builtin b => rfl
    | value g => have hg : φ g = ψ g := h g (by simp [hc]); simp only [hg]
    | invoke r m => have hg : φ r = ψ r := h r (by simp [hc]); simp only [hg]
  all_goals (rw [ho] at h; exact simple_congr tb _ h)
/- the last writer -/
def lw {α : Type} (D wr : Nat → Bool) (X : Nat → α) : Nat → α
  | 0 => X 0
  | k + 1 => cond (D k && wr k) (X (k + 1)) (lw D wr X k)
theorem lwLo {α : Type} {D wr : Nat → Bool} {X : Nat → α} : ∀ i, (∀ k, k < i → wr k = false → X (k + 1) = X k) → (∀ j, j < i → wr j = true → D j = true) → lw D wr X i = X i
  | 0, _, _ => rfl
  | i + 1, hk, h => by
    have ih := lwLo i (fun k hk' => hk k (by omega)) (fun j hj => h j (by omega))
    unfold lw
    cases hw : wr i with
    | true => rw [h i (by omega) hw]; rfl
    | false => rw [Bool.and_false, cond_false, ih, hk i (by omega) hw]
theorem lwHi {α : Type} {D wr : Nat → Bool} {X : Nat → α} (i : Nat) : ∀ n, (∀ j, i ≤ j → j < i + n → D j = true → wr j = false) → lw D wr X (i + n) = lw D wr X i
  | 0, _ => rfl
  | n + 1, h => by
    have ih := lwHi (X := X) i n (fun j h1 h2 => h j h1 (by omega))
    show cond (D (i + n) && wr (i + n)) (X (i + n + 1)) (lw D wr X (i + n)) = _
    cases hD : D (i + n) with
    | false => rw [Bool.false_and, cond_false, ih]
    | true => rw [h (i + n) (by omega) (by omega) hD, Bool.and_false, cond_false, ih]
theorem lwC {α : Type} {D D' wr : Nat → Bool} {X : Nat → α} : ∀ n, (∀ k, k < n → (D' k && wr k) = (D k && wr k)) → lw D' wr X n = lw D wr X n
  | 0, _ => rfl
  | n + 1, h => by
    unfold lw
    rw [h n (by omega), lwC n fun k hk => h k (by omega)]
def add1 (D : Nat → Bool) (i : Nat) : Nat → Bool := fun k => Nat.beq k i || D k
/-- at the place of i: what i finds there -/
theorem lw_find {α : Type} {D wr : Nat → Bool} {X : Nat → α} {i N : Nat} (hi : i < N) (hk : ∀ k, k < N → wr k = false → X (k + 1) = X k)
    (h1 : ∀ j, j < i → wr j = true → D j = true) (h2 : ∀ j, i < j → j < N → D j = true → wr j = false) (h3 : D i = false) : lw D wr X N = X i := by
  have e : N = i + (N - i) := by omega
  have hh : ∀ j, i ≤ j → j < i + (N - i) → D j = true → wr j = false := fun j a b c => by
    rcases Nat.lt_or_ge i j with h | h
    · exact h2 j h (by omega) c
    · have e : j = i := by omega
      rw [e, h3] at c; cases c
  rw [e, lwHi i (N - i) hh]
  exact lwLo i (fun k hk' => hk k (by omega)) h1
theorem lw_wrote {α : Type} {D wr : Nat → Bool} {X : Nat → α} {i N : Nat} (hi : i < N)
    (h2 : ∀ j, i < j → j < N → D j = true → wr j = false) (hw : wr i = true) : lw (add1 D i) wr X N = X (i + 1) := by
  have e : N = (i + 1) + (N - (i + 1)) := by omega
  rw [e, lwHi (i + 1) _ fun j a b c => by
    refine h2 j (by omega) (by omega) ?_
    unfold add1 at c
    rw [Bool.or_eq_true] at c
    rcases c with c | c
    · have := Nat.eq_of_beq_eq_true c; omega
    · exact c]
  unfold lw
  have : add1 D i i = true := by unfold add1; rw [Bool.or_eq_true]; exact .inl (Nat.beq_refl i)
  rw [this, hw]; rfl
theorem lw_left {α : Type} {D wr : Nat → Bool} {X : Nat → α} {i N : Nat} (hw : wr i = false) : lw (add1 D i) wr X N = lw D wr X N :=
  lwC N fun k _ => by
    unfold add1
    cases hb : Nat.beq k i with
    | false => rw [Bool.false_or]
    | true => have := Nat.eq_of_beq_eq_true hb; subst this; rw [hw, Bool.and_false, Bool.and_false]
theorem lw_all {α : Type} {D wr : Nat → Bool} {X : Nat → α} {N : Nat} (hk : ∀ k, k < N → wr k = false → X (k + 1) = X k) (h : ∀ j, j < N → D j = true) : lw D wr X N = X N :=
  lwLo N hk fun j hj _ => h j hj
theorem lw_none {α : Type} {D wr : Nat → Bool} {X : Nat → α} : ∀ N, (∀ j, j < N → D j = false) → lw D wr X N = X 0
  | 0, _ => rfl
  | n + 1, h => by unfold lw; rw [h n (by omega), Bool.false_and, cond_false]; exact lw_none n fun j hj => h j (by omega)
/- how many are left -/
def left (D : Nat → Bool) : Nat → Nat
  | 0 => 0
  | k + 1 => left D k + cond (D k) 0 1
theorem left_add {D : Nat → Bool} {i : Nat} (hi : D i = false) : ∀ n, left (add1 D i) n + (if i < n then 1 else 0) = left D n
  | 0 => by simp [left]
  | n + 1 => by
    have ih := left_add hi n
    unfold left
    by_cases e : n = i
    · subst e
      have : add1 D n n = true := by unfold add1; rw [Bool.or_eq_true]; exact .inl (Nat.beq_refl n)
      rw [this, hi, cond_true, cond_false]
      rw [if_neg (by omega)] at ih
      rw [if_pos (by omega)]; omega
    · have : add1 D i n = D n := by
        unfold add1
        cases hb : Nat.beq n i with
        | false => rfl
        | true => exact absurd (Nat.eq_of_beq_eq_true hb) e
      rw [this]
      by_cases h : i < n
      · rw [if_pos h] at ih; rw [if_pos (by omega)]; omega
      · rw [if_neg h] at ih; rw [if_neg (by omega)]; omega
theorem left_zero {D : Nat → Bool} : ∀ n, left D n = 0 → ∀ j, j < n → D j = true
  | 0, _, j, hj => by omega
  | n + 1, h, j, hj => by
    unfold left at h
    cases hD : D n with
    | false => rw [hD, cond_false] at h; omega
    | true =>
      rcases Nat.lt_or_ge j n with hlt | hge
      · exact left_zero n (by omega) j hlt
      · have : j = n := by omega
        subst this; exact hD
/- what stands ahead of what -/
inductive Anc (ops : List Oper) : Nat → Nat → Prop
  | edge {i : Nat} {o : Oper} {e : Edge} : ops[i]? = some o → e ∈ o.after.toList → bindsL e = true → Anc ops e.on i
  | step {i j : Nat} {o : Oper} {e : Edge} : Anc ops j e.on → ops[i]? = some o → e ∈ o.after.toList → bindsL e = true → Anc ops j i
theorem Anc.closed {ops : List Oper} {D : Nat → Bool} (hD : ∀ i o e, D i = true → ops[i]? = some o → e ∈ o.after.toList → bindsL e = true → D e.on = true) : ∀ {j i}, Anc ops j i → D i = true → D j = true
  | _, _, .edge ho he hb, h => hD _ _ _ h ho he hb
  | _, _, .step ha ho he hb, h => Anc.closed hD ha (hD _ _ _ h ho he hb)
theorem Anc.ready {ops : List Oper} {D : Nat → Bool} (hD : ∀ i o e, D i = true → ops[i]? = some o → e ∈ o.after.toList → bindsL e = true → D e.on = true) {i : Nat}
    (hi : ∀ o e, ops[i]? = some o → e ∈ o.after.toList → bindsL e = true → D e.on = true) {j : Nat} (h : Anc ops j i) : D j = true := by
  cases h with
  | edge ho he hb => exact hi _ _ ho he hb
  | step ha ho he hb => exact ha.closed hD (hi _ _ ho he hb)
def MaskOk (ops : List Oper) (t : T Nat) : Prop := ∀ i j, (maskOf t i).testBit j = true → Anc ops j i
theorem ancE_ok {ops : List Oper} {t : T Nat} (ht : MaskOk ops t) {i : Nat} {o : Oper} (ho : ops[i]? = some o) : ∀ (l : List Edge) (s : Nat), (∀ e ∈ l, e ∈ o.after.toList) → (∀ j, s.testBit j = true → Anc ops j i) → ∀ j, (ancE t l s).testBit j = true → Anc ops j i
  | [], s, _, h, j, hj => h j (by simpa only [ancE] using hj)
  | e :: l, s, hl, h, j, hj => by
    unfold ancE at hj
    refine ancE_ok ht ho l _ (fun x hx => hl x (List.mem_cons_of_mem _ hx)) (fun k hk => ?_) j hj
    cases hb : bindsL e with
    | false => rw [hb, cond_false] at hk; exact h k hk
    | true =>
      rw [hb, cond_true, tb_lor, tb_lor, tb_bit, Bool.or_eq_true, Bool.or_eq_true] at hk
      have he := hl e (List.mem_cons_self ..)
      rcases hk with (hk | hk) | hk
      · exact h k hk
      · have : e.on = k := by simpa using hk
        subst this; exact .edge ho he hb
      · exact .step (ht _ _ hk) ho he hb
theorem anc_ok {ops : List Oper} : ∀ (r : List Oper) (i : Nat) (t : T Nat), (∀ k o, r[k]? = some o → ops[i + k]? = some o) → i + r.length ≤ 16777214 → MaskOk ops t → MaskOk ops (anc r i t)
  | [], _, _, _, _, ht => by simpa only [anc] using ht
  | o :: r, i, t, hr, hle, ht => by
    unfold anc
    have ho : ops[i]? = some o := by simpa using hr 0 o rfl
    refine anc_ok r (Nat.succ i) _ (fun k x hk => ?_) (by simp at hle; simp only [Nat.succ_eq_add_one]; omega) (fun a j hj => ?_)
    · have := hr (k + 1) x (by simpa using hk)
      rw [show Nat.succ i + k = i + (k + 1) by omega]; exact this
    · unfold maskOf at hj
      rw [get_set _ _ _ _ (by simp at hle; omega)] at hj
      split at hj
      · rename_i m hm
        split at hm
        · rename_i e; subst e; injection hm with hm; subst hm
          exact ancE_ok ht ho _ _ (fun _ h => h) (fun j h => by simp at h) j hj
        · exact ht a j (by unfold maskOf; rw [hm]; exact hj)
      · simp at hj
theorem pairsOk_ok {all : List Oper} {m : Nat} {o : Oper} : ∀ (l : List Oper) (j n : Nat), pairsOk all m o l j n = true → ∀ k x, k < n → l[k]? = some x → m.testBit (j + k) = true ∨ apartO all x o = true
  | _, _, 0, _, k, x, hk, _ => by omega
  | [], _, _ + 1, _, k, x, _, hx => by simp at hx
  | y :: l, j, n + 1, h, k, x, hk, hx => by
    unfold pairsOk at h
    rw [Bool.and_eq_true, Bool.or_eq_true] at h
    cases k with
    | zero => simp at hx; subst hx; exact h.1
    | succ k =>
      have := pairsOk_ok l (Nat.succ j) n h.2 k x (by omega) (by simpa using hx)
      rw [show j + (k + 1) = Nat.succ j + k by omega]; exact this
theorem regRow_ok {all : List Oper} {t : T Nat} : ∀ (r : List Oper) (i : Nat), regRow all t r i = true → ∀ k o, r[k]? = some o → (∀ e ∈ o.after.toList, bindsL e = true → e.on < i + k) ∧ pairsOk all (maskOf t (i + k)) o all 0 (i + k) = true
  | [], _, _, k, o, ho => by simp at ho
  | y :: r, i, h, k, o, ho => by
    unfold regRow at h
    rw [Bool.and_eq_true, Bool.and_eq_true] at h
    cases k with
    | zero =>
      simp at ho; subst ho
      refine ⟨fun e he hb => ?_, h.1.2⟩
      have := List.all_eq_true.1 h.1.1 e he
      rw [hb] at this
      simp at this
      omega
    | succ k =>
      have := regRow_ok r (Nat.succ i) h.2 k o (by simpa using ho)
      rw [show i + (k + 1) = Nat.succ i + k by omega]; exact this
theorem regOk_ok {ops : List Oper} (h : regOk ops = true) : ∀ i o, ops[i]? = some o → (∀ e ∈ o.after.toList, bindsL e = true → e.on < i) ∧ ∀ j x, j < i → ops[j]? = some x → Anc ops j i ∨ apartO ops x o = true := by
  unfold regOk at h
  rw [Bool.and_eq_true] at h
  have hle := Nat.le_of_ble_eq_true h.1
  have hm : MaskOk ops (anc ops 0 .leaf) := anc_ok ops 0 .leaf (fun k o hk => by rw [Nat.zero_add]; exact hk) (by omega) (fun i j hj => by simp [maskOf, T.get] at hj)
  intro i o ho
  obtain ⟨h1, h2⟩ := regRow_ok ops 0 h.2 i o ho
  rw [Nat.zero_add] at h1 h2
  refine ⟨h1, fun j x hj hx => ?_⟩
  have := pairsOk_ok ops 0 i h2 j x hj hx
  rw [Nat.zero_add] at this
  exact this.imp (hm _ _) id
theorem tmpsOf_mem {t : Nat} : ∀ l : List Operand, Operand.tmp t ∈ l → hasN (tmpsOf l) t = true
  | [], h => by simp at h
  | x :: l, h => by
    rcases List.mem_cons.1 h with h | h
    · subst h; simp only [tmpsOf, hasN, Nat.beq_refl, Bool.true_or]
    · have ih := tmpsOf_mem l h
      cases x <;> simp only [tmpsOf, hasN] <;> first | exact ih | (rw [Bool.or_eq_true]; exact .inr ih)
theorem looks_op {all : List Oper} {o : Oper} {t : Nat} (h : Operand.tmp t ∈ o.op.operands.toList) : hasN (looks all o) t = true := by
  have := tmpsOf_mem _ h
  unfold looks
  split
  · exact this
  · split
    · split
      · simp only [hasN]; rw [Bool.or_eq_true]; exact .inr this
      · exact this
    · exact this
theorem looks_guard {all : List Oper} {o o' : Oper} {g : Nat} {b : Bool} {d : Nat} (hg : o.guard = some (g, b)) (ho : all[g]? = some o') (hd : o'.dst = some d) : hasN (looks all o) d = true := by
  unfold looks
  rw [hg]; simp only [ho, hd, hasN, Nat.beq_refl, Bool.true_or]
theorem apartO_ok {all : List Oper} {x y : Oper} (h : apartO all x y = true) : (∀ d, x.dst = some d → hasN (looks all y) d = false) ∧ (∀ d, x.dst = some d → y.dst ≠ some d) ∧ (∀ d, y.dst = some d → hasN (looks all x) d = false) := by
  unfold apartO at h
  rw [Bool.and_eq_true] at h
  refine ⟨fun d hd => ?_, fun d hd he => ?_, fun d hd => ?_⟩
  · have := h.1; rw [hd] at this; simp only [Bool.and_eq_true] at this
    simpa using this.1
  · have := h.1; rw [hd, he] at this; simp only [Bool.and_eq_true, Nat.beq_refl] at this
    simp at this
  · have := h.2; rw [hd] at this; simpa using this
end Go.AX
