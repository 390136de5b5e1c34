/- A part of the proof: an interpreter of the model's own code on partly known states, and that what it answers is what the program answers. No condition of its own. -/
import Derived.Test.YtojgdbbjblaalaaDoorAXv
set_option linter.unusedSimpArgs false
set_option linter.unusedVariables false
namespace Go.AX
/-- no block yet where this run will make its own -/
def Rw (S : St) (hi : Nat) : Prop := ∀ v, S.next ≤ v → v < hi → S.heap.get v = none
structure Fr {α : Type} (m : M α) (S : St) (x : α) (S' : St) (A W : Nat) : Prop where
  acc : S'.acc = Nat.lor S.acc A
  wr : S'.wr = Nat.lor S.wr W
  sub : ∀ v, W.testBit v = true → A.testBit v = true
  lt : ∀ v, W.testBit v = true → v < S'.next
  ex : ∀ v, A.testBit v = true → S'.next ≤ v → S.heap.get v ≠ none
  al : ∀ v, S.next ≤ v → v < S'.next → W.testBit v = true
  keep : ∀ v, W.testBit v = false → S'.heap.get v = S.heap.get v
  fr : ∀ T : St, T.next = S.next → (∀ v, A.testBit v = true → ¬ (S.next ≤ v ∧ v < S'.next) → T.heap.get v = S.heap.get v) →
    ∃ T', m T = some (x, T') ∧ T'.next = S'.next ∧ T'.acc = Nat.lor T.acc A ∧ T'.wr = Nat.lor T.wr W ∧ ∀ v, T'.heap.get v = if W.testBit v then S'.heap.get v else T.heap.get v
structure Good {α : Type} (m : M α) : Prop where
  mono : ∀ S x S', m S = some (x, S') → S.next ≤ S'.next
  ok : ∀ S x S', Rw S S'.next → m S = some (x, S') → ∃ A W, Fr m S x S' A W
theorem lor_zero (n : Nat) : Nat.lor n 0 = n := Nat.or_zero n
theorem lor_assoc (a b c : Nat) : Nat.lor (Nat.lor a b) c = Nat.lor a (Nat.lor b c) := Nat.or_assoc a b c
theorem tb_lor (a b v : Nat) : (Nat.lor a b).testBit v = (a.testBit v || b.testBit v) := Nat.testBit_or a b v
theorem tb_bit (u v : Nat) : (bit u).testBit v = decide (u = v) := by
  show (1 <<< u).testBit v = _
  rw [Nat.one_shiftLeft, Nat.testBit_two_pow]
theorem Fr.none {α : Type} {m : M α} {S : St} {x : α} (h : ∀ T, m T = some (x, T)) : Fr m S x S 0 0 :=
  ⟨(lor_zero _).symm, (lor_zero _).symm, fun v h => by simp at h, fun v h => by simp at h, fun v h => by simp at h, fun v h1 h2 => by omega, fun _ _ => rfl,
    fun T hT _ => ⟨T, h T, hT, (lor_zero _).symm, (lor_zero _).symm, fun v => by simp⟩⟩
theorem Good.ret {α : Type} (a : α) : Good (AX.ret a) := ⟨fun S x S' h => by obtain ⟨rfl, rfl⟩ := ret_inv h; exact Nat.le_refl _, fun S x S' hw h => by
  obtain ⟨rfl, rfl⟩ := ret_inv h
  exact ⟨0, 0, .none fun T => rfl⟩⟩
theorem Good.fail {α : Type} : Good (AX.fail : M α) := ⟨fun S x S' h => (fail_inv h).elim, fun S x S' hw h => (fail_inv h).elim⟩
theorem Good.lft {α : Type} (o : Option α) : Good (AX.lft o) := ⟨fun S x S' h => by obtain ⟨_, rfl⟩ := lft_inv h; exact Nat.le_refl _, fun S x S' hw h => by
  obtain ⟨h1, rfl⟩ := lft_inv h
  exact ⟨0, 0, .none fun T => by rw [h1]; rfl⟩⟩
theorem Fr.rw {α : Type} {m : M α} {S : St} {x : α} {S' : St} {A W hi : Nat} (q : Fr m S x S' A W) (h : Rw S hi) (hle : S.next ≤ S'.next) : Rw S' hi := fun v h1 h2 => by
  cases hW : W.testBit v with
  | true => have := q.lt v hW; omega
  | false => rw [q.keep v hW]; exact h v (by omega) h2
theorem Good.bnd {α β : Type} {m : M α} {f : α → M β} (hm : Good m) (hf : ∀ a, Good (f a)) : Good (AX.bnd m f) := ⟨fun S x S' h => by
  obtain ⟨a, S1, h1, h2⟩ := bnd_inv h
  exact Nat.le_trans (hm.mono _ _ _ h1) ((hf a).mono _ _ _ h2), fun S x S' hw h => by
  obtain ⟨a, S1, h1, h2⟩ := bnd_inv h
  have l1 := hm.mono _ _ _ h1
  have l2 := (hf a).mono _ _ _ h2
  obtain ⟨A, W, q⟩ := hm.ok _ _ _ (fun v a b => hw v a (by omega)) h1
  obtain ⟨A2, W2, r⟩ := (hf a).ok _ _ _ (q.rw hw l1) h2
  refine ⟨Nat.lor A A2, Nat.lor W W2, by rw [r.acc, q.acc, lor_assoc], by rw [r.wr, q.wr, lor_assoc], fun v hv => ?_, fun v hv => ?_, fun v hv hge => ?_, fun v h1 h2 => ?_, fun v hv => ?_, fun T hT hag => ?_⟩
  · rw [tb_lor, Bool.or_eq_true] at hv ⊢; exact hv.imp (q.sub v) (r.sub v)
  · rw [tb_lor, Bool.or_eq_true] at hv
    rcases hv with hv | hv
    · exact Nat.lt_of_lt_of_le (q.lt v hv) l2
    · exact r.lt v hv
  · rw [tb_lor, Bool.or_eq_true] at hv
    rcases hv with hv | hv
    · exact q.ex v hv (by omega)
    · have := r.ex v hv hge
      cases hW : W.testBit v with
      | true => have := q.lt v hW; omega
      | false => rwa [q.keep v hW] at this
  · rw [tb_lor, Bool.or_eq_true]
    rcases Nat.lt_or_ge v S1.next with h | h
    · exact .inl (q.al v h1 h)
    · exact .inr (r.al v h h2)
  · rw [tb_lor, Bool.or_eq_false_iff] at hv
    rw [r.keep v hv.2, q.keep v hv.1]
  · obtain ⟨T1, t1, t2, t3, t4, t5⟩ := q.fr T hT fun v hv hno => by
      by_cases hin : S.next ≤ v ∧ v < S'.next
      · exact absurd (hw v hin.1 hin.2) (q.ex v hv (by omega))
      · exact hag v (by rw [tb_lor, hv, Bool.true_or]) hin
    have hag2 : ∀ v, A2.testBit v = true → ¬ (S1.next ≤ v ∧ v < S'.next) → T1.heap.get v = S1.heap.get v := fun v hv hno => by
      rw [t5 v]
      by_cases hw : W.testBit v = true
      · rw [if_pos hw]
      · rw [if_neg hw]
        have hw : W.testBit v = false := by simpa using hw
        rw [q.keep v hw]
        refine hag v (by rw [tb_lor, hv, Bool.or_true]) fun hin => ?_
        rcases Nat.lt_or_ge v S1.next with h | h
        · have := q.al v hin.1 h; rw [hw] at this; cases this
        · exact hno ⟨h, hin.2⟩
    obtain ⟨T2, u1, u2, u3, u4, u5⟩ := r.fr T1 t2 hag2
    refine ⟨T2, by unfold AX.bnd; rw [t1]; exact u1, u2, by rw [u3, t3, lor_assoc], by rw [u4, t4, lor_assoc], fun v => ?_⟩
    rw [u5 v, t5 v, tb_lor]
    cases hW2 : W2.testBit v with
    | true => simp
    | false =>
      cases hW : W.testBit v with
      | true => simp [r.keep v hW2]
      | false => simp⟩
theorem Good.cond {α : Type} {b : Bool} {m n : M α} (hm : Good m) (hn : Good n) : Good (_root_.cond b m n) := by cases b <;> assumption
theorem Good.rd (v : Nat) : Good (AX.rd v) := ⟨fun S k S' h => by have := (rd_inv h).2.2; omega, fun S k S' hw h => by
  unfold AX.rd at h
  cases hg : S.heap.get v with
  | none => rw [hg] at h; cases h
  | some k' =>
    rw [hg] at h; injection h with h; injection h with h1 h2; subst h1; subst h2
    refine ⟨bit v, 0, rfl, (lor_zero _).symm, fun u hu => by simp at hu, fun u hu => by simp at hu, fun u hu hge => ?_, fun u h1 h2 => by simp only [] at h2; omega, fun _ _ => rfl, fun T hT hag => ?_⟩
    · rw [tb_bit] at hu; simp at hu; subst hu; rw [hg]; simp
    · refine ⟨⟨T.heap, T.next, Nat.lor T.acc (bit v), T.wr⟩, ?_, hT, rfl, (lor_zero _).symm, fun u => by simp⟩
      unfold AX.rd
      rw [hag v (by rw [tb_bit]; simp) (by simp only []; omega), hg]⟩
theorem setW {H H' : T Blk} {u v : Nat} {k : Blk} (hn : u ≤ 16777213) (x : Nat) : (H'.set u k).get x = if (bit u).testBit x then (H.set u k).get x else H'.get x := by
  rw [get_set _ _ _ _ hn, get_set _ _ _ _ hn, tb_bit]
  by_cases e : x = u
  · subst e; simp
  · have : decide (u = x) = false := by simpa using fun h => e h.symm
    rw [if_neg e, this]; simp
theorem Good.upd (v : Nat) (k : Blk) : Good (AX.upd v k) := ⟨fun S x S' h => by have := (upd_inv h).2.2.2; omega, fun S x S' hw h => by
  unfold AX.upd at h
  cases hc : (Nat.blt v S.next && Nat.ble v 16777213) with
  | false => rw [hc] at h; cases h
  | true =>
    rw [hc] at h; injection h with h; injection h with h1 h2; subst h2
    have hcc := hc
    rw [Bool.and_eq_true] at hc
    have hlt : v < S.next := Nat.le_of_ble_eq_true hc.1
    have hle := Nat.le_of_ble_eq_true hc.2
    refine ⟨bit v, bit v, rfl, rfl, fun u hu => hu, fun u hu => ?_, fun u hu hge => ?_, fun u h1 h2 => by simp only [] at h2; omega, fun u hu => ?_, fun T hT hag => ?_⟩
    · rw [tb_bit] at hu; simp at hu; subst hu; exact hlt
    · rw [tb_bit] at hu; simp at hu; subst hu; simp only [] at hge; omega
    · rw [tb_bit] at hu; simp at hu; rw [get_set _ _ _ _ hle, if_neg (fun e => hu e.symm)]
    · refine ⟨⟨T.heap.set v k, T.next, Nat.lor T.acc (bit v), Nat.lor T.wr (bit v)⟩, ?_, hT, rfl, rfl, fun u => setW (v := v) hle u⟩
      unfold AX.upd; rw [hT, hcc]; rfl⟩
theorem Good.kill (v : Nat) : Good (AX.kill v) := ⟨fun S x S' h => by have := (kill_inv h).2.2.2; omega, fun S x S' hw h => by
  unfold AX.kill at h
  cases hc : (Nat.blt v S.next && Nat.ble v 16777213) with
  | false => rw [hc] at h; cases h
  | true =>
    rw [hc] at h; injection h with h; injection h with h1 h2; subst h2
    have hcc := hc
    rw [Bool.and_eq_true] at hc
    have hlt : v < S.next := Nat.le_of_ble_eq_true hc.1
    have hle := Nat.le_of_ble_eq_true hc.2
    refine ⟨bit v, bit v, rfl, rfl, fun u hu => hu, fun u hu => ?_, fun u hu hge => ?_, fun u h1 h2 => by simp only [] at h2; omega, fun u hu => ?_, fun T hT hag => ?_⟩
    · rw [tb_bit] at hu; simp at hu; subst hu; exact hlt
    · rw [tb_bit] at hu; simp at hu; subst hu; simp only [] at hge; omega
    · rw [tb_bit] at hu; simp at hu; rw [get_del _ _ _ hle, if_neg (fun e => hu e.symm)]
    · refine ⟨⟨T.heap.del v, T.next, Nat.lor T.acc (bit v), Nat.lor T.wr (bit v)⟩, ?_, hT, rfl, rfl, fun u => ?_⟩
      · unfold AX.kill; rw [hT, hcc]; rfl
      · simp only []
        rw [get_del _ _ _ hle, get_del _ _ _ hle, tb_bit]
        by_cases e : u = v
        · subst e; simp
        · have : decide (v = u) = false := by simpa using fun h => e h.symm
          rw [if_neg e, this]; simp⟩
theorem Good.new (k : Blk) : Good (AX.new k) := ⟨fun S x S' h => by have := (new_inv h).2.2.2; omega, fun S x S' hw h => by
  unfold AX.new at h
  cases hc : Nat.ble S.next 16777213 with
  | false => rw [hc] at h; cases h
  | true =>
    rw [hc] at h; injection h with h; injection h with h1 h2; subst h2; subst h1
    have hle := Nat.le_of_ble_eq_true hc
    refine ⟨bit S.next, bit S.next, rfl, rfl, fun u hu => hu, fun u hu => ?_, fun u hu hge => ?_, fun u h1 h2 => ?_, fun u hu => ?_, fun T hT hag => ?_⟩
    · rw [tb_bit] at hu; simp at hu; subst hu; exact Nat.lt_succ_self _
    · rw [tb_bit] at hu; simp at hu; subst hu; simp only [] at hge; omega
    · simp only [] at h2; rw [tb_bit]; simp; omega
    · rw [tb_bit] at hu; simp at hu; rw [get_set _ _ _ _ hle, if_neg (fun e => hu e.symm)]
    · refine ⟨⟨T.heap.set S.next k, Nat.succ T.next, Nat.lor T.acc (bit S.next), Nat.lor T.wr (bit S.next)⟩, ?_, by simp only []; rw [hT], rfl, rfl, fun u => setW (v := 0) hle u⟩
      unfold AX.new; rw [hT, hc]; rfl⟩
theorem ownRun_inv {α : Type} {m : M α} {S S2 : St} {p : α × Nat × Nat} (h : AX.ownRun m S = some (p, S2)) : ∃ S1, m ⟨S.heap, S.next, 0, 0⟩ = some (p.1, S1) ∧ p.2.1 = S1.acc ∧ p.2.2 = S1.wr ∧ S2.heap = S1.heap ∧ S2.next = S1.next := by
  unfold AX.ownRun at h
  cases hm0 : m ⟨S.heap, S.next, 0, 0⟩ with
  | none => rw [hm0] at h; cases h
  | some r =>
    obtain ⟨a, S1⟩ := r
    rw [hm0] at h
    injection h with h; injection h with e1 e2; subst e1; subst e2
    exact ⟨S1, rfl, rfl, rfl, rfl, rfl⟩
theorem Good.ownRun {α : Type} {m : M α} (hm : Good m) : Good (AX.ownRun m) := ⟨fun S y S2 h => by
  obtain ⟨S1, h1, _, _, _, h2⟩ := ownRun_inv h
  have := hm.mono _ _ _ h1
  simp only [] at this; omega, fun S y S2 hw h => by
  unfold AX.ownRun at h
  cases hm0 : m ⟨S.heap, S.next, 0, 0⟩ with
  | none => rw [hm0] at h; cases h
  | some r =>
    obtain ⟨a, S1⟩ := r
    rw [hm0] at h
    injection h with h; injection h with e1 e2; subst e1; subst e2
    obtain ⟨A, W, q⟩ := hm.ok ⟨S.heap, S.next, 0, 0⟩ a S1 (fun v h1 h2 => hw v h1 h2) hm0
    have hz : ∀ n, Nat.lor 0 n = n := fun n => Nat.zero_or n
    have ha : S1.acc = A := by rw [q.acc]; exact hz A
    have hwr : S1.wr = W := by rw [q.wr]; exact hz W
    rw [ha, hwr]
    refine ⟨A, W, rfl, rfl, q.sub, q.lt, q.ex, q.al, q.keep, fun T hT hag => ?_⟩
    obtain ⟨T', t1, t2, t3, t4, t5⟩ := q.fr ⟨T.heap, T.next, 0, 0⟩ hT hag
    have ta : T'.acc = A := by rw [t3]; exact hz A
    have tw : T'.wr = W := by rw [t4]; exact hz W
    refine ⟨⟨T'.heap, T'.next, Nat.lor T.acc A, Nat.lor T.wr W⟩, ?_, t2, rfl, rfl, t5⟩
    unfold AX.ownRun
    simp only [t1, ta, tw]⟩
theorem Good.load (tb : Tab) (t : Nat) (x : AV) : Good (AX.load tb t x) := by
  unfold AX.load
  split
  · repeat (first | exact Good.ret _ | exact Good.fail | exact Good.lft _ | exact Good.rd _ | apply Good.cond | apply Good.bnd | intro _)
  · exact Good.fail
theorem Good.store (tb : Tab) (t : Nat) (x y : AV) : Good (AX.store tb t x y) := by
  unfold AX.store
  split
  · repeat (first | exact Good.ret _ | exact Good.fail | exact Good.lft _ | exact Good.rd _ | exact Good.upd _ _ | apply Good.cond | apply Good.bnd | intro _ | split)
  · exact Good.fail
theorem Good.ptrEq (a c o u : Nat) : Good (AX.ptrEq a c o u) := by unfold AX.ptrEq; exact Good.cond (Good.ret _) Good.fail
theorem Good.hypB (tb : Tab) (k : HK) : Good (AX.hypB tb k) := by
  unfold AX.hypB; split
  · exact Good.ret _
  · exact Good.fail
theorem Good.eqF {eq : Nat → AV → AV → M Bool} (h : ∀ t x y, Good (eq t x y)) (l m : List AV) : ∀ fs, Good (AX.eqF eq l m fs)
  | [] => Good.ret _
  | f :: fs => by
    unfold AX.eqF
    have ih := Good.eqF h l m fs
    repeat (first | exact ih | exact h _ _ _ | exact Good.ret _ | exact Good.lft _ | apply Good.cond | apply Good.bnd | intro _)
theorem Good.eqT (tb : Tab) : ∀ d t x y, Good (AX.eqT tb d t x y)
  | 0, _, _, _ => Good.fail
  | d + 1, t, x, y => by
    unfold AX.eqT
    have ih := Good.eqT tb d
    refine Good.bnd (Good.lft _) fun ti => ?_
    split <;> repeat (first | exact ih _ _ _ | exact Good.eqF (ih) _ _ _ | exact Good.hypB _ _ | exact Good.ptrEq _ _ _ _ | exact Good.ret _ | exact Good.fail | exact Good.lft _ | apply Good.cond | apply Good.bnd | intro _)
theorem Good.eqTop (tb : Tab) (t : Nat) (c : Bool) (x y : AV) : Good (AX.eqTop tb t c x y) := by
  unfold AX.eqTop
  repeat (first | exact Good.eqT _ _ _ _ _ | exact Good.ret _ | exact Good.fail | exact Good.lft _ | apply Good.cond | apply Good.bnd | intro _ | split)
theorem Good.binI (o : BinOp) (k : IntKind) (a c : Int) : Good (AX.binI o k a c) := by
  unfold AX.binI
  split <;> repeat (first | exact Good.ret _ | exact Good.fail | apply Good.cond)
theorem Good.bin (tb : Tab) (o : BinOp) (t : Nat) (c : Bool) (x y : AV) : Good (AX.bin tb o t c x y) := by
  unfold AX.bin
  split <;> repeat (first | exact Good.ret _ | exact Good.fail | exact Good.lft _ | exact Good.binI _ _ _ _ | exact Good.eqTop _ _ _ _ _ | apply Good.cond | apply Good.bnd | intro _)
set_option maxHeartbeats 1000000 in
theorem Good.simple (tb : Tab) (f : Operand → AV) (o : Op) : Good (AX.simple tb f o) := by
  cases o <;> simp only [AX.simple] <;>
    repeat (first | exact Good.ret _ | exact Good.fail | exact Good.lft _ | exact Good.rd _ | exact Good.new _ | exact Good.load _ _ _ | exact Good.store _ _ _ _ | exact Good.bin _ _ _ _ _ _ | apply Good.cond | apply Good.bnd | intro _ | split)
theorem Good.src (sz : Nat) (x : AV) : Good (AX.src sz x) := by
  unfold AX.src
  split <;> repeat (first | exact Good.ret _ | exact Good.fail | exact Good.lft _ | exact Good.rd _ | apply Good.cond | apply Good.bnd | intro _)
theorem Good.grow (e sz : Nat) (o d : Cells) (n : Nat) : Good (AX.grow e sz o d n) := by
  unfold AX.grow
  repeat (first | exact Good.ret _ | exact Good.new _ | apply Good.bnd | intro _)
theorem Good.appd (e sz b : Nat) (s : AV) (n : Nat) (d : Cells) : Good (AX.appd e sz b s n d) := by
  unfold AX.appd
  refine Good.cond Good.fail ?_
  split <;> repeat (first | exact Good.ret _ | exact Good.fail | exact Good.lft _ | exact Good.rd _ | exact Good.upd _ _ | exact Good.kill _ | exact Good.new _ | exact Good.grow _ _ _ _ _ | apply Good.cond | apply Good.bnd | intro _)
theorem Good.builtin (tb : Tab) (bi : Builtin) (ts : List Nat) (l : List AV) : Good (AX.builtin tb bi ts l) := by
  unfold AX.builtin
  split
  all_goals (try unfold lenK); (try unfold capK); (try unfold appK); (try unfold copyK); (try unfold dataK); (try unfold ustrK)
  all_goals repeat (first | exact Good.ret _ | exact Good.fail | exact Good.lft _ | exact Good.rd _ | exact Good.upd _ _ | exact Good.src _ _ | exact Good.appd _ _ _ _ _ _ | apply Good.cond | apply Good.bnd | intro _ | split)
theorem Good.byQ (f : Nat → AV) (y : AV) : Good (AX.byQ f y) := by
  unfold AX.byQ
  repeat (first | exact Good.ret _ | exact Good.fail | apply Good.cond | intro _ | split)
theorem Good.x3 (x y : AV) : Good (AX.x3 x y) := by
  unfold AX.x3
  split
  · exact Good.byQ _ _
  · exact Good.fail
theorem Good.x4 (x y : AV) : Good (AX.x4 x y) := by
  unfold AX.x4
  split
  · exact Good.byQ _ _
  · exact Good.fail
theorem Good.nilQ (x : AV) : Good (AX.nilQ x) := by
  unfold AX.nilQ
  repeat (first | exact Good.ret _ | exact Good.fail | exact Good.lft _ | exact Good.rd _ | exact Good.new _ | exact Good.load _ _ _ | exact Good.store _ _ _ _ | apply Good.cond | apply Good.bnd | intro _ | split)
theorem Good.x14b (tb : Tab) (t : Nat) (x : AV) : Good (AX.x14b tb t x) := by
  unfold AX.x14b
  repeat (first | exact Good.ret _ | exact Good.fail | exact Good.lft _ | exact Good.rd _ | exact Good.new _ | exact Good.load _ _ _ | exact Good.store _ _ _ _ | apply Good.cond | apply Good.bnd | intro _ | split)
theorem Good.x7 (tb : Tab) (x : AV) : Good (AX.x7 tb x) := by
  unfold AX.x7
  repeat (first | exact Good.ret _ | exact Good.fail | exact Good.lft _ | exact Good.rd _ | exact Good.new _ | exact Good.load _ _ _ | exact Good.store _ _ _ _ | exact Good.nilQ _ | exact Good.x14b _ _ _ | apply Good.cond | apply Good.bnd | intro _ | split)
theorem Good.x8 (tb : Tab) (x : AV) : Good (AX.x8 tb x) := by
  unfold AX.x8
  repeat (first | exact Good.ret _ | exact Good.fail | exact Good.lft _ | exact Good.rd _ | exact Good.new _ | exact Good.load _ _ _ | exact Good.store _ _ _ _ | exact Good.nilQ _ | exact Good.x14b _ _ _ | apply Good.cond | apply Good.bnd | intro _ | split)
theorem Good.x9 (tb : Tab) (x : AV) : Good (AX.x9 tb x) := by
  unfold AX.x9
  repeat (first | exact Good.ret _ | exact Good.fail | exact Good.lft _ | exact Good.rd _ | exact Good.new _ | exact Good.load _ _ _ | exact Good.store _ _ _ _ | exact Good.nilQ _ | exact Good.x14b _ _ _ | apply Good.cond | apply Good.bnd | intro _ | split)
theorem Good.x10 (tb : Tab) (x : AV) : Good (AX.x10 tb x) := by
  unfold AX.x10
  repeat (first | exact Good.ret _ | exact Good.fail | exact Good.lft _ | exact Good.rd _ | exact Good.new _ | exact Good.load _ _ _ | exact Good.store _ _ _ _ | exact Good.nilQ _ | exact Good.x14b _ _ _ | apply Good.cond | apply Good.bnd | intro _ | split)
theorem Good.x11 (tb : Tab) (x : AV) : Good (AX.x11 tb x) := by
  unfold AX.x11
  repeat (first | exact Good.ret _ | exact Good.fail | exact Good.lft _ | exact Good.rd _ | exact Good.new _ | exact Good.load _ _ _ | exact Good.store _ _ _ _ | exact Good.nilQ _ | exact Good.x14b _ _ _ | apply Good.cond | apply Good.bnd | intro _ | split)
theorem Good.x12 (tb : Tab) (x y : AV) : Good (AX.x12 tb x y) := by
  unfold AX.x12
  repeat (first | exact Good.ret _ | exact Good.fail | exact Good.lft _ | exact Good.rd _ | exact Good.new _ | exact Good.load _ _ _ | exact Good.store _ _ _ _ | exact Good.nilQ _ | exact Good.x14b _ _ _ | apply Good.cond | apply Good.bnd | intro _ | split)
theorem Good.x13 (tb : Tab) (x y : AV) : Good (AX.x13 tb x y) := by
  unfold AX.x13
  repeat (first | exact Good.ret _ | exact Good.fail | exact Good.lft _ | exact Good.rd _ | exact Good.new _ | exact Good.load _ _ _ | exact Good.store _ _ _ _ | exact Good.nilQ _ | exact Good.x14b _ _ _ | apply Good.cond | apply Good.bnd | intro _ | split)
theorem Good.x14 (tb : Tab) (x : AV) : Good (AX.x14 tb x) := by
  unfold AX.x14
  repeat (first | exact Good.ret _ | exact Good.fail | exact Good.lft _ | exact Good.rd _ | exact Good.new _ | exact Good.load _ _ _ | exact Good.store _ _ _ _ | exact Good.nilQ _ | exact Good.x14b _ _ _ | apply Good.cond | apply Good.bnd | intro _ | split)
theorem Good.x15 (tb : Tab) (x y : AV) : Good (AX.x15 tb x y) := by
  unfold AX.x15
  repeat (first | exact Good.ret _ | exact Good.fail | exact Good.lft _ | exact Good.rd _ | exact Good.new _ | exact Good.load _ _ _ | exact Good.store _ _ _ _ | exact Good.nilQ _ | exact Good.x14b _ _ _ | apply Good.cond | apply Good.bnd | intro _ | split)
theorem Good.ext (tb : Tab) (e : Nat) (l : List AV) : Good (AX.ext tb e l) := by
  unfold AX.ext
  split
  all_goals (try unfold bytesN)
  all_goals repeat (first | exact Good.x3 _ _ | exact Good.x4 _ _ | exact Good.x7 _ _ | exact Good.x8 _ _ | exact Good.x9 _ _ | exact Good.x10 _ _ | exact Good.x11 _ _ | exact Good.x12 _ _ _ | exact Good.x13 _ _ _ | exact Good.x14 _ _ | exact Good.x15 _ _ _ | exact Good.ret _ | exact Good.fail | exact Good.lft _ | exact Good.rd _ | exact Good.new _ | apply Good.cond | apply Good.bnd | intro _ | split)
theorem Good.resList (tb : Tab) : ∀ l E, Good (AX.resList tb l E)
  | [], _ => Good.ret _
  | .tmp t :: l, E => by unfold AX.resList; exact Good.bnd (Good.resList tb l E) fun _ => Good.ret _
  | .cell a t :: l, E => by unfold AX.resList; exact Good.bnd (Good.load _ _ _) fun _ => Good.bnd (Good.resList tb l E) fun _ => Good.ret _
theorem Good.results (tb : Tab) (l : List ResultVar) (E : Env) : Good (AX.results tb l E) := by
  unfold AX.results
  split
  · exact Good.ret _
  · exact Good.load _ _ _
  · exact Good.bnd (Good.resList _ _ _) fun _ => Good.ret _
structure GoodF (tb : Tab) (f : Nat) : Prop where
  code : ∀ c E, Good (AX.code tb f c E)
  opsT : ∀ all r E, Good (AX.opsT tb f all r E)
  opsD : ∀ all r n E l, Good (AX.opsD tb f all r n E l)
  oper : ∀ o E, Good (AX.oper tb f o E)
  call : ∀ g l, Good (AX.call tb f g l)
theorem goodF (tb : Tab) : ∀ f, GoodF tb f
  | 0 => ⟨fun _ _ => by unfold AX.code; exact Good.fail, fun _ _ _ => by unfold AX.opsT; exact Good.fail, fun _ _ _ _ _ => by unfold AX.opsD; exact Good.fail, fun _ _ => by unfold AX.oper; exact Good.fail, fun _ _ => by unfold AX.call; exact Good.fail⟩
  | f + 1 => by
    have ih := goodF tb f
    refine ⟨fun c E => ?_, fun all r E => ?_, fun all r n E l => ?_, fun o E => ?_, fun g l => ?_⟩
    · unfold AX.code
      split <;> repeat (first | exact ih.code _ _ | exact ih.opsT _ _ _ | exact ih.opsD _ _ _ _ _ | exact Good.ret _ | exact Good.fail | exact Good.lft _ | apply Good.cond | apply Good.bnd | intro _ | split)
    · cases r with
      | nil => unfold AX.opsT; exact Good.ret _
      | cons o r =>
        unfold AX.opsT
        repeat (first | exact ih.oper _ _ | exact ih.opsT _ _ _ | exact Good.lft _ | apply Good.cond | apply Good.bnd | intro _)
    · cases r with
      | nil => unfold AX.opsD; exact Good.ret _
      | cons o r =>
        unfold AX.opsD
        repeat (first | exact Good.ownRun (ih.oper _ _) | exact ih.opsD _ _ _ _ _ | exact Good.lft _ | apply Good.cond | apply Good.bnd | intro _)
    · unfold AX.oper
      split
      · split
        · exact Good.builtin _ _ _ _
        · repeat (first | exact ih.call _ _ | exact Good.fail | split)
        · repeat (first | exact ih.call _ _ | exact Good.fail | exact Good.lft _ | apply Good.bnd | intro _ | split)
      · exact Good.simple _ _ _
    · unfold AX.call
      repeat (first | exact Good.ext _ _ _ | exact Good.results _ _ _ | exact ih.code _ _ | exact Good.ret _ | exact Good.fail | exact Good.lft _ | apply Good.cond | apply Good.bnd | intro _ | split)
end Go.AX
