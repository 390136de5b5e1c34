/- A part of the proof: an interpreter of the model's own code on partly known states, and that what it answers is what the program answers. No condition of its own. -/
import Derived.Test.YtojgdbbjblaalaaDoorAXz
set_option linter.unusedSimpArgs false
set_option linter.unusedVariables false
namespace Go.AX
open Go.RowKit (Below)
theorem Good.operF {tb : Tab} {cal : Nat → List AV → M AV} (hc : ∀ g l, Good (cal g l)) (o : Oper) (φ : Operand → AV) : Good (AX.operF tb cal o φ) := by
  unfold AX.operF
  cases o.op
  case call c =>
    simp only []
    split
    · exact Good.builtin _ _ _ _
    · split
      · exact hc _ _
      · exact Good.fail
    · split
      · exact Good.bnd (Good.lft _) fun _ => Good.bnd (Good.lft _) fun _ => hc _ _
      · exact Good.fail
  all_goals exact Good.simple _ _ _
structure StepAt (tb : Tab) (F : Nat) (all : List Oper) (o : Oper) (E E' : Env) (S S' : St) (b : Bool) (v : AV) (A W : Nat) : Prop where
  want : wanted all E o = some b
  put : E.put o.dst v = some E'
  run : b = true → ∃ g S1, g < F ∧ operF tb (call tb g) o (op tb.ng E.tm) ⟨S.heap, S.next, 0, 0⟩ = some (v, S1) ∧ S1.heap = S'.heap ∧ S1.next = S'.next ∧ S1.acc = A ∧ S1.wr = W
  no : b = false → v = .tu [] ∧ S'.heap = S.heap ∧ S'.next = S.next ∧ A = 0 ∧ W = 0
def sh {α : Type} (x : α) (f : Nat → α) : Nat → α
  | 0 => x
  | k + 1 => f k
theorem opsD_trace {tb : Tab} {F : Nat} {all : List Oper} : ∀ (f : Nat), f ≤ F → ∀ (r : List Oper) (n : Nat) (E : Env) (l : List Rec) (S : St) (E' : Env) (l' : List Rec) (S' : St), opsD tb f all r n E l S = some ((E', l'), S') →
    ∃ (Es : Nat → Env) (Ss : Nat → St) (bs : Nat → Bool) (vs : Nat → AV) (As Ws : Nat → Nat) (R : List Rec), Es 0 = E ∧ Ss 0 = S ∧ Es r.length = E' ∧ Ss r.length = S' ∧ l' = R ++ l ∧
      (∀ k o, r[k]? = some o → StepAt tb F all o (Es k) (Es (k + 1)) (Ss k) (Ss (k + 1)) (bs k) (vs k) (As k) (Ws k)) ∧
      (∀ k, k < r.length → As k ≠ 0 → (⟨n + k, As k, Ws k⟩ : Rec) ∈ R) ∧
      (∀ i j, i < j → j < r.length → As i ≠ 0 → As j ≠ 0 → List.Sublist [(⟨n + j, As j, Ws j⟩ : Rec), ⟨n + i, As i, Ws i⟩] R)
  | 0, _, r, n, E, l, S, E', l', S', h => by unfold opsD at h; exact (fail_inv h).elim
  | f + 1, hf, [], n, E, l, S, E', l', S', h => by
    unfold opsD at h
    obtain ⟨e1, e2⟩ := ret_inv h
    injection e1 with e1 e3
    subst e1; subst e2; subst e3
    exact ⟨fun _ => E', fun _ => S', fun _ => false, fun _ => .und, fun _ => 0, fun _ => 0, [], rfl, rfl, rfl, rfl, rfl, fun k o hk => by simp at hk, fun k hk => by simp at hk, fun i j _ hj => by simp at hj⟩
  | f + 1, hf, o :: r, n, E, l, S, E', l', S', h => by
    unfold opsD at h
    obtain ⟨b, hb, h1⟩ := lb h
    cases b with
    | true =>
      rw [cond_true] at h1
      obtain ⟨p, S1, h2, h3⟩ := bnd_inv h1
      obtain ⟨E1, hp, h4⟩ := lb h3
      obtain ⟨Es, Ss, bs, vs, As, Ws, R, q1, q2, q3, q4, q5, q6, q7, q8⟩ := opsD_trace f (Nat.le_of_succ_le hf) r (Nat.succ n) E1 _ S1 E' l' S' h4
      obtain ⟨v, A, W⟩ := p
      obtain ⟨S2, g1, g2, g3, g4, g5⟩ := ownRun_inv h2
      simp only [] at g1 g2 g3 hp q5
      have hstep : StepAt tb F all o E E1 S S1 true v A W := ⟨hb, hp, fun _ => by
        cases f with
        | zero => unfold oper at g1; exact (fail_inv g1).elim
        | succ g =>
          rw [oper_eq] at g1
          exact ⟨g, S2, by omega, g1, g4.symm, g5.symm, g2.symm, g3.symm⟩, fun h => by cases h⟩
      refine ⟨sh E Es, sh S Ss, sh true bs, sh v vs, sh A As, sh W Ws, R ++ (cond (Nat.beq A 0) [] [⟨n, A, W⟩]), rfl, rfl, q3, q4, ?_, fun k x hk => ?_, fun k hk hA => ?_, fun i j hij hj hAi hAj => ?_⟩
      · rw [q5]; cases Nat.beq A 0 <;> simp
      · cases k with
        | zero => simp at hk; subst hk; simp only [sh, q1, q2]; exact hstep
        | succ k => exact q6 k x (by simpa using hk)
      · cases k with
        | zero =>
          have : Nat.beq A 0 = false := by
            cases hb : Nat.beq A 0 with
            | false => rfl
            | true => exact absurd (Nat.eq_of_beq_eq_true hb) hA
          rw [this]; simp [sh]
        | succ k =>
          have := q7 k (by simpa using hk) hA
          rw [show Nat.succ n + k = n + (k + 1) by omega] at this
          exact List.mem_append_left _ this
      · cases j with
        | zero => omega
        | succ j =>
          cases i with
          | zero =>
            have : Nat.beq A 0 = false := by
              cases hb : Nat.beq A 0 with
              | false => rfl
              | true => exact absurd (Nat.eq_of_beq_eq_true hb) hAi
            rw [this]
            have hm := q7 j (by simpa using hj) hAj
            rw [show Nat.succ n + j = n + (j + 1) by omega] at hm
            exact List.Sublist.append (List.singleton_sublist.2 hm) (List.Sublist.refl _)
          | succ i =>
            have := q8 i j (by omega) (by simpa using hj) hAi hAj
            rw [show Nat.succ n + j = n + (j + 1) by omega, show Nat.succ n + i = n + (i + 1) by omega] at this
            exact this.trans (List.sublist_append_left _ _)
    | false =>
      rw [cond_false] at h1
      obtain ⟨E1, hp, h4⟩ := lb h1
      obtain ⟨Es, Ss, bs, vs, As, Ws, R, q1, q2, q3, q4, q5, q6, q7, q8⟩ := opsD_trace f (Nat.le_of_succ_le hf) r (Nat.succ n) E1 l S E' l' S' h4
      have hstep : StepAt tb F all o E E1 S S false (.tu []) 0 0 := ⟨hb, hp, fun h => (by cases h), fun _ => ⟨rfl, rfl, rfl, rfl, rfl⟩⟩
      refine ⟨sh E Es, sh S Ss, sh false bs, sh (.tu []) vs, sh 0 As, sh 0 Ws, R, rfl, rfl, q3, q4, q5, fun k x hk => ?_, fun k hk hA => ?_, fun i j hij hj hAi hAj => ?_⟩
      · cases k with
        | zero => simp at hk; subst hk; simp only [sh, q1, q2]; exact hstep
        | succ k => exact q6 k x (by simpa using hk)
      · cases k with
        | zero => exact absurd rfl hA
        | succ k =>
          have := q7 k (by simpa using hk) hA
          rw [show Nat.succ n + k = n + (k + 1) by omega] at this
          exact this
      · cases j with
        | zero => omega
        | succ j =>
          cases i with
          | zero => exact absurd rfl hAi
          | succ i =>
            have := q8 i j (by omega) (by simpa using hj) hAi hAj
            rw [show Nat.succ n + j = n + (j + 1) by omega, show Nat.succ n + i = n + (i + 1) by omega] at this
            exact this
theorem clash_symm (x y : Rec) : clash x y = clash y x := by
  unfold clash
  have : Nat.lor (Nat.land x.wr y.acc) (Nat.land y.wr x.acc) = Nat.lor (Nat.land y.wr x.acc) (Nat.land x.wr y.acc) := Nat.or_comm _ _
  rw [this]
theorem pair_of_none {t : T Nat} : ∀ l : List Rec, anyClash l = false → l.Pairwise fun y x => clash x y = true → (maskOf t y.idx).testBit x.idx = true
  | [], _ => .nil
  | x :: l, h => by
    unfold anyClash at h
    rw [Bool.or_eq_false_iff] at h
    refine .cons (fun y hy hc => ?_) (pair_of_none l h.2)
    have := List.any_eq_false.1 h.1 y hy
    rw [clash_symm] at this
    exact absurd hc this
theorem pair_of_order {t : T Nat} : ∀ l : List Rec, orderOk t l = true → l.Pairwise fun y x => clash x y = true → (maskOf t y.idx).testBit x.idx = true
  | [], _ => .nil
  | x :: l, h => by
    unfold orderOk at h
    rw [Bool.and_eq_true] at h
    refine .cons (fun y hy hc => ?_) (pair_of_order l h.2)
    have := List.all_eq_true.1 h.1 y hy
    rw [hc] at this
    simpa using this
theorem clash_of {x y : Rec} {v : Nat} (h : (x.wr.testBit v = true ∧ y.acc.testBit v = true) ∨ (y.wr.testBit v = true ∧ x.acc.testBit v = true)) : clash x y = true := by
  unfold clash
  cases hb : Nat.beq (Nat.lor (Nat.land x.wr y.acc) (Nat.land y.wr x.acc)) 0 with
  | false => rfl
  | true =>
    have e := Nat.eq_of_beq_eq_true hb
    have e2 : (Nat.lor (Nat.land x.wr y.acc) (Nat.land y.wr x.acc)).testBit v = true := by
      rw [tb_lor, Bool.or_eq_true]
      have l1 : (Nat.land x.wr y.acc).testBit v = (x.wr.testBit v && y.acc.testBit v) := Nat.testBit_and _ _ _
      have l2 : (Nat.land y.wr x.acc).testBit v = (y.wr.testBit v && x.acc.testBit v) := Nat.testBit_and _ _ _
      rw [l1, l2]
      rcases h with ⟨h1, h2⟩ | ⟨h1, h2⟩
      · left; rw [h1, h2]; rfl
      · right; rw [h1, h2]; rfl
    rw [e] at e2; simp at e2
structure Tr (tb : Tab) (F : Nat) (ops : Array Oper) (Es : Nat → Env) (Ss : Nat → St) (bs : Nat → Bool) (vs : Nat → AV) (As Ws : Nat → Nat) : Prop where
  step : ∀ i o, ops[i]? = some o → StepAt tb F ops.toList o (Es i) (Es (i + 1)) (Ss i) (Ss (i + 1)) (bs i) (vs i) (As i) (Ws i)
  low : ∀ i o, ops[i]? = some o → ∀ e ∈ o.after.toList, bindsL e = true → e.on < i
  apart : ∀ i j oi oj, j < i → ops[i]? = some oi → ops[j]? = some oj → Anc ops.toList j i ∨ apartO ops.toList oj oi = true
  clash : ∀ i j v, j < i → i < ops.size → (((Ws j).testBit v = true ∧ (As i).testBit v = true) ∨ ((Ws i).testBit v = true ∧ (As j).testBit v = true)) → Anc ops.toList j i
  mono : ∀ i, i < ops.size → (Ss i).next ≤ (Ss (i + 1)).next
  sub : ∀ i v, i < ops.size → (Ws i).testBit v = true → (As i).testBit v = true
  keep : ∀ i v, i < ops.size → (Ws i).testBit v = false → (Ss (i + 1)).heap.get v = (Ss i).heap.get v
  fr : ∀ i o, ops[i]? = some o → bs i = true → ∀ T : St, T.next = (Ss i).next → (∀ v, (As i).testBit v = true → ¬ ((Ss i).next ≤ v ∧ v < (Ss (i + 1)).next) → T.heap.get v = (Ss i).heap.get v) →
    ∃ g T', g < F ∧ operF tb (call tb g) o (op tb.ng (Es i).tm) T = some (vs i, T') ∧ T'.next = (Ss (i + 1)).next ∧ ∀ v, T'.heap.get v = if (Ws i).testBit v then (Ss (i + 1)).heap.get v else T.heap.get v
theorem mono_le {Ss : Nat → St} {N : Nat} (h : ∀ i, i < N → (Ss i).next ≤ (Ss (i + 1)).next) (i : Nat) : ∀ j, i ≤ j → j ≤ N → (Ss i).next ≤ (Ss j).next
  | 0, h1, _ => by have : i = 0 := by omega
                   rw [this]; exact Nat.le_refl _
  | j + 1, h1, h2 => by
    rcases Nat.lt_or_ge i (j + 1) with hlt | hge
    · exact Nat.le_trans (mono_le h i j (by omega) (by omega)) (h j (by omega))
    · have : i = j + 1 := by omega
      rw [this]; exact Nat.le_refl _
theorem tr_of {tb : Tab} {f F : Nat} {ops : Array Oper} {E E' : Env} {l' : List Rec} {S S' : St} (hf : f ≤ F) (hreg : regOk ops.toList = true) (h : opsD tb f ops.toList ops.toList 0 E [] S = some ((E', l'), S'))
    (hord : (!(anyClash l') || orderOk (anc ops.toList 0 .leaf) l') = true) (hrw : Rw S S'.next) :
    ∃ Es Ss bs vs As Ws, Tr tb F ops Es Ss bs vs As Ws ∧ Es 0 = E ∧ Ss 0 = S ∧ Es ops.size = E' ∧ Ss ops.size = S' := by
  obtain ⟨Es, Ss, bs, vs, As, Ws, R, q1, q2, q3, q4, q5, q6, q7, q8⟩ := opsD_trace f hf _ _ _ _ _ _ _ _ h
  have hN : ops.toList.length = ops.size := Array.length_toList
  rw [hN] at q3 q4 q7 q8
  rw [List.append_nil] at q5
  subst q5
  have hget : ∀ (i : Nat), ops.toList[i]? = ops[i]? := fun i => Array.getElem?_toList
  have hle : ops.toList.length ≤ 16777213 := by
    unfold regOk at hreg; rw [Bool.and_eq_true] at hreg; exact Nat.le_of_ble_eq_true hreg.1
  have hm : MaskOk ops.toList (anc ops.toList 0 .leaf) := anc_ok ops.toList 0 .leaf (fun k o hk => by rw [Nat.zero_add]; exact hk) (by omega) (fun i j hj => by simp [maskOf, T.get] at hj)
  have hpair : l'.Pairwise fun y x => clash x y = true → (maskOf (anc ops.toList 0 .leaf) y.idx).testBit x.idx = true := by
    rw [Bool.or_eq_true] at hord
    rcases hord with ho | ho
    · exact pair_of_none l' (by simpa using ho)
    · exact pair_of_order l' ho
  have hsome : ∀ i, i < ops.size → ∃ o, ops[i]? = some o := fun i hi => ⟨ops[i], Array.getElem?_eq_getElem hi⟩
  have step : ∀ i o, ops[i]? = some o → StepAt tb F ops.toList o (Es i) (Es (i + 1)) (Ss i) (Ss (i + 1)) (bs i) (vs i) (As i) (Ws i) := fun i o ho => q6 i o (by rw [hget]; exact ho)
  have mono : ∀ i, i < ops.size → (Ss i).next ≤ (Ss (i + 1)).next := fun i hi => by
    obtain ⟨o, ho⟩ := hsome i hi
    have st := step i o ho
    cases hb : bs i with
    | true =>
      obtain ⟨g, S1, _, h1, _, h2, _⟩ := st.run hb
      have := (Good.operF (goodF tb g).call o (op tb.ng (Es i).tm)).mono _ _ _ h1
      rw [← h2]; exact this
    | false => have := st.no hb; omega
  have frame : ∀ i, i < ops.size → Rw (Ss i) (Ss ops.size).next →
      (∀ v, (Ws i).testBit v = true → (As i).testBit v = true) ∧ (∀ v, (Ws i).testBit v = true → v < (Ss (i + 1)).next) ∧ (∀ v, (Ws i).testBit v = false → (Ss (i + 1)).heap.get v = (Ss i).heap.get v) ∧
      (∀ o, ops[i]? = some o → bs i = true → ∀ T : St, T.next = (Ss i).next → (∀ v, (As i).testBit v = true → ¬ ((Ss i).next ≤ v ∧ v < (Ss (i + 1)).next) → T.heap.get v = (Ss i).heap.get v) →
    ∃ g T', g < F ∧ operF tb (call tb g) o (op tb.ng (Es i).tm) T = some (vs i, T') ∧ T'.next = (Ss (i + 1)).next ∧ ∀ v, T'.heap.get v = if (Ws i).testBit v then (Ss (i + 1)).heap.get v else T.heap.get v) := fun i hi hw => by
    obtain ⟨o, ho⟩ := hsome i hi
    have st := step i o ho
    cases hb : bs i with
    | true =>
      obtain ⟨g, S1, hg, h1, h2, h3, h4, h5⟩ := st.run hb
      have hnx := mono_le mono (i + 1) ops.size (by omega) (Nat.le_refl _)
      obtain ⟨A, W, q⟩ := (Good.operF (goodF tb g).call o (op tb.ng (Es i).tm)).ok ⟨(Ss i).heap, (Ss i).next, 0, 0⟩ _ S1 (fun v a b => hw v a (by omega)) h1
      have hA : A = As i := by rw [← h4, q.acc]; exact (Nat.zero_or A).symm
      have hW : W = Ws i := by rw [← h5, q.wr]; exact (Nat.zero_or W).symm
      subst hA; subst hW
      refine ⟨q.sub, fun v hv => by rw [← h3]; exact q.lt v hv, fun v hv => by rw [← h2]; exact q.keep v hv, fun o' ho' _ T hT hag => ?_⟩
      rw [ho] at ho'; injection ho' with ho'; subst ho'
      obtain ⟨T', t1, t2, t3, t4, t5⟩ := q.fr T hT (fun v a b => hag v a (by rw [← h3]; exact b))
      exact ⟨g, T', hg, t1, t2.trans h3, fun v => by rw [← h2]; exact t5 v⟩
    | false =>
      obtain ⟨_, h2, h3, hA, hW⟩ := st.no hb
      exact ⟨fun v hv => by rw [hW] at hv; simp at hv, fun v hv => by rw [hW] at hv; simp at hv, fun v _ => by rw [h2], fun _ _ hb' => by cases hb'⟩
  have rw_all : ∀ i, i ≤ ops.size → Rw (Ss i) (Ss ops.size).next := by
    intro i
    induction i with
    | zero => intro _; rw [q2, q4]; exact hrw
    | succ i ih =>
      intro hi v hv1 hv2
      have hwi := ih (by omega)
      obtain ⟨_, f2, f3, _⟩ := frame i (by omega) hwi
      cases hW : (Ws i).testBit v with
      | true => have := f2 v hW; omega
      | false => rw [f3 v hW]; exact hwi v (by have := mono i (by omega); omega) hv2
  have regf := regOk_ok hreg
  refine ⟨Es, Ss, bs, vs, As, Ws, ⟨step, fun i o ho => (regf i o (by rw [hget]; exact ho)).1, fun i j oi oj hij hoi hoj => (regf i oi (by rw [hget]; exact hoi)).2 j oj hij (by rw [hget]; exact hoj), fun i j v hij hi hc => ?_, mono, fun i v hi => (frame i hi (rw_all i (by omega))).1 v, fun i v hi => (frame i hi (rw_all i (by omega))).2.2.1 v, fun i o ho => ?_⟩, q1, q2, q3, q4⟩
  · have s1 := (frame i hi (rw_all i (by omega))).1
    have s2 := (frame j (by omega) (rw_all j (by omega))).1
    have nz : ∀ {n : Nat}, n.testBit v = true → n ≠ 0 := fun hn e => by rw [e] at hn; simp at hn
    have hAi : As i ≠ 0 := hc.elim (fun h => nz h.2) (fun h => nz (s1 v h.1))
    have hAj : As j ≠ 0 := hc.elim (fun h => nz (s2 v h.1)) (fun h => nz h.2)
    have hsub := q8 j i hij hi hAj hAi
    have hp := hpair.sublist hsub
    have := (List.pairwise_cons.1 hp).1 _ (List.mem_singleton.2 rfl) (clash_of (v := v) hc)
    simp only [Nat.zero_add] at this
    exact hm _ _ this
  · have hi : i < ops.size := (Array.getElem?_eq_some_iff.1 ho).1
    exact (frame i hi (rw_all i (by omega))).2.2.2 o ho
end Go.AX
