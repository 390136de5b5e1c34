/- A part of the proof: an interpreter of the model's own code on partly known states, and that what it answers is what the program answers. No condition of its own. -/
import Derived.Test.YtkhcgoeccmkmdaaGreatDoorAXpart2
import Derived.LoopN
import Derived.RangeFuncRecord
import Derived.ChangeSame
import Derived.Lib.Bytealg
import Derived.OpenShut
import Derived.ChangeArms
section
set_option linter.unusedSimpArgs false
set_option linter.unusedVariables false
namespace Go.AX
theorem Good.operF {tb : Tab} {cal rn : Nat → List AV → M AV} (hc : ∀ g l, Good (cal g l)) (hr : ∀ g l, Good (rn g l)) (o : Oper) (φ : Operand → AV) : Good (AX.operF tb cal rn o φ) := by
  unfold AX.operF
  cases o.op
  case call c =>
    simp only []
    split
    · exact Good.builtin _ _ _ _
    · split
      · exact hc _ _
      · exact hr _ _
      · exact Good.fail
    · split
      · exact Good.bnd (Good.lft _) fun _ => Good.bnd (Good.lft _) fun _ => hc _ _
      · exact Good.fail
  all_goals exact Good.simple _ _ _
structure StepAt (tb : Tab) (F : Nat) (all : List Oper) (o : Oper) (E E' : Env) (S S' : St) (b : Bool) (v : AV) (A W : Nat) : Prop where
  want : wanted all E o = some b
  put : E.put o.dst v = some E'
  run : b = true → ∃ g S1, g < F ∧ operF tb (call tb g) (rnd tb g) o (op tb.ng E.tm) ⟨S.heap, S.next, 0, 0⟩ = some (v, S1) ∧ S1.heap = S'.heap ∧ S1.next = S'.next ∧ S1.acc = A ∧ S1.wr = W
  no : b = false → v = .tu [] ∧ S'.heap = S.heap ∧ S'.next = S.next ∧ A = 0 ∧ W = 0
def sh {α : Type} (x : α) (f : Nat → α) : Nat → α
  | 0 => x
  | k + 1 => f k
theorem opsD_trace {tb : Tab} {F : Nat} {all : List Oper} : ∀ (f : Nat), f ≤ F → ∀ (r : List Oper) (n : Nat) (E : Env) (l : List Rec) (S : St) (E' : Env) (l' : List Rec) (S' : St), opsD tb f all r n E l S = some ((E', l'), S') →
    ∃ (Es : Nat → Env) (Ss : Nat → St) (bs : Nat → Bool) (vs : Nat → AV) (As Ws : Nat → Nat) (R : List Rec), Es 0 = E ∧ Ss 0 = S ∧ Es r.length = E' ∧ Ss r.length = S' ∧ l' = R ++ l ∧
      (∀ k o, r[k]? = some o → StepAt tb F all o (Es k) (Es (k + 1)) (Ss k) (Ss (k + 1)) (bs k) (vs k) (As k) (Ws k)) ∧
      (∀ k, k < r.length → As k ≠ 0 → (⟨n + k, As k, Ws k⟩ : Rec) ∈ R) ∧
      (∀ i j, i < j → j < r.length → As i ≠ 0 → As j ≠ 0 → List.Sublist [(⟨n + j, As j, Ws j⟩ : Rec), ⟨n + i, As i, Ws i⟩] R)
  | 0, _, r, n, E, l, S, E', l', S', h => by unfold opsD at h; exact (fail_inv h).elim
  | f + 1, hf, [], n, E, l, S, E', l', S', h => by
    unfold opsD at h
    obtain ⟨e1, e2⟩ := ret_inv h
    injection e1 with e1 e3
    subst e1; subst e2; subst e3
    exact ⟨fun _ => E', fun _ => S', fun _ => false, fun _ => .und, fun _ => 0, fun _ => 0, [], rfl, rfl, rfl, rfl, rfl, fun k o hk => by simp at hk, fun k hk => by simp at hk, fun i j _ hj => by simp at hj⟩
  | f + 1, hf, o :: r, n, E, l, S, E', l', S', h => by
    unfold opsD at h
    obtain ⟨b, hb, h1⟩ := lb h
    cases b with
    | true =>
      rw [cond_true] at h1
      obtain ⟨p, S1, h2, h3⟩ := bnd_inv h1
      obtain ⟨E1, hp, h4⟩ := lb h3
      obtain ⟨Es, Ss, bs, vs, As, Ws, R, q1, q2, q3, q4, q5, q6, q7, q8⟩ := opsD_trace f (Nat.le_of_succ_le hf) r (Nat.succ n) E1 _ S1 E' l' S' h4
      obtain ⟨v, A, W⟩ := p
      obtain ⟨S2, g1, g2, g3, g4, g5⟩ := ownRun_inv h2
      simp only [] at g1 g2 g3 hp q5
      have hstep : StepAt tb F all o E E1 S S1 true v A W := ⟨hb, hp, fun _ => by
        cases f with
        | zero => unfold oper at g1; exact (fail_inv g1).elim
        | succ g =>
          rw [oper_eq] at g1
          exact ⟨g, S2, by omega, g1, g4.symm, g5.symm, g2.symm, g3.symm⟩, fun h => by cases h⟩
      refine ⟨sh E Es, sh S Ss, sh true bs, sh v vs, sh A As, sh W Ws, R ++ (cond (Nat.beq A 0) [] [⟨n, A, W⟩]), rfl, rfl, q3, q4, ?_, fun k x hk => ?_, fun k hk hA => ?_, fun i j hij hj hAi hAj => ?_⟩
      · rw [q5]; cases Nat.beq A 0 <;> simp
      · cases k with
        | zero => simp at hk; subst hk; simp only [sh, q1, q2]; exact hstep
        | succ k => exact q6 k x (by simpa using hk)
      · cases k with
        | zero =>
          have : Nat.beq A 0 = false := by
            cases hb : Nat.beq A 0 with
            | false => rfl
            | true => exact absurd (Nat.eq_of_beq_eq_true hb) hA
          rw [this]; simp [sh]
        | succ k =>
          have := q7 k (by simpa using hk) hA
          rw [show Nat.succ n + k = n + (k + 1) by omega] at this
          exact List.mem_append_left _ this
      · cases j with
        | zero => omega
        | succ j =>
          cases i with
          | zero =>
            have : Nat.beq A 0 = false := by
              cases hb : Nat.beq A 0 with
              | false => rfl
              | true => exact absurd (Nat.eq_of_beq_eq_true hb) hAi
            rw [this]
            have hm := q7 j (by simpa using hj) hAj
            rw [show Nat.succ n + j = n + (j + 1) by omega] at hm
            exact List.Sublist.append (List.singleton_sublist.2 hm) (List.Sublist.refl _)
          | succ i =>
            have := q8 i j (by omega) (by simpa using hj) hAi hAj
            rw [show Nat.succ n + j = n + (j + 1) by omega, show Nat.succ n + i = n + (i + 1) by omega] at this
            exact this.trans (List.sublist_append_left _ _)
    | false =>
      rw [cond_false] at h1
      obtain ⟨E1, hp, h4⟩ := lb h1
      obtain ⟨Es, Ss, bs, vs, As, Ws, R, q1, q2, q3, q4, q5, q6, q7, q8⟩ := opsD_trace f (Nat.le_of_succ_le hf) r (Nat.succ n) E1 l S E' l' S' h4
      have hstep : StepAt tb F all o E E1 S S false (.tu []) 0 0 := ⟨hb, hp, fun h => (by cases h), fun _ => ⟨rfl, rfl, rfl, rfl, rfl⟩⟩
      refine ⟨sh E Es, sh S Ss, sh false bs, sh (.tu []) vs, sh 0 As, sh 0 Ws, R, rfl, rfl, q3, q4, q5, fun k x hk => ?_, fun k hk hA => ?_, fun i j hij hj hAi hAj => ?_⟩
      · cases k with
        | zero => simp at hk; subst hk; simp only [sh, q1, q2]; exact hstep
        | succ k => exact q6 k x (by simpa using hk)
      · cases k with
        | zero => exact absurd rfl hA
        | succ k =>
          have := q7 k (by simpa using hk) hA
          rw [show Nat.succ n + k = n + (k + 1) by omega] at this
          exact this
      · cases j with
        | zero => omega
        | succ j =>
          cases i with
          | zero => exact absurd rfl hAi
          | succ i =>
            have := q8 i j (by omega) (by simpa using hj) hAi hAj
            rw [show Nat.succ n + j = n + (j + 1) by omega, show Nat.succ n + i = n + (i + 1) by omega] at this
            exact this
theorem clash_symm (x y : Rec) : clash x y = clash y x := by
  unfold clash
  have : Nat.lor (Nat.land x.wr y.acc) (Nat.land y.wr x.acc) = Nat.lor (Nat.land y.wr x.acc) (Nat.land x.wr y.acc) := Nat.or_comm _ _
  rw [this]
theorem pair_of_none {t : T Nat} : ∀ l : List Rec, anyClash l = false → l.Pairwise fun y x => clash x y = true → (maskOf t y.idx).testBit x.idx = true
  | [], _ => .nil
  | x :: l, h => by
    unfold anyClash at h
    rw [Bool.or_eq_false_iff] at h
    refine .cons (fun y hy hc => ?_) (pair_of_none l h.2)
    have := List.any_eq_false.1 h.1 y hy
    rw [clash_symm] at this
    exact absurd hc this
theorem pair_of_order {t : T Nat} : ∀ l : List Rec, orderOk t l = true → l.Pairwise fun y x => clash x y = true → (maskOf t y.idx).testBit x.idx = true
  | [], _ => .nil
  | x :: l, h => by
    unfold orderOk at h
    rw [Bool.and_eq_true] at h
    refine .cons (fun y hy hc => ?_) (pair_of_order l h.2)
    have := List.all_eq_true.1 h.1 y hy
    rw [hc] at this
    simpa using this
theorem clash_of {x y : Rec} {v : Nat} (h : (x.wr.testBit v = true ∧ y.acc.testBit v = true) ∨ (y.wr.testBit v = true ∧ x.acc.testBit v = true)) : clash x y = true := by
  unfold clash
  cases hb : Nat.beq (Nat.lor (Nat.land x.wr y.acc) (Nat.land y.wr x.acc)) 0 with
  | false => rfl
  | true =>
    have e := Nat.eq_of_beq_eq_true hb
    have e2 : (Nat.lor (Nat.land x.wr y.acc) (Nat.land y.wr x.acc)).testBit v = true := by
      rw [tb_lor, Bool.or_eq_true]
      have l1 : (Nat.land x.wr y.acc).testBit v = (x.wr.testBit v && y.acc.testBit v) := Nat.testBit_and _ _ _
      have l2 : (Nat.land y.wr x.acc).testBit v = (y.wr.testBit v && x.acc.testBit v) := Nat.testBit_and _ _ _
      rw [l1, l2]
      rcases h with ⟨h1, h2⟩ | ⟨h1, h2⟩
      · left; rw [h1, h2]; rfl
      · right; rw [h1, h2]; rfl
    rw [e] at e2; simp at e2
structure Tr (tb : Tab) (F : Nat) (ops : Array Oper) (Es : Nat → Env) (Ss : Nat → St) (bs : Nat → Bool) (vs : Nat → AV) (As Ws : Nat → Nat) : Prop where
  step : ∀ i o, ops[i]? = some o → StepAt tb F ops.toList o (Es i) (Es (i + 1)) (Ss i) (Ss (i + 1)) (bs i) (vs i) (As i) (Ws i)
  low : ∀ i o, ops[i]? = some o → ∀ e ∈ o.after.toList, bindsL e = true → e.on < i
  apart : ∀ i j oi oj, j < i → ops[i]? = some oi → ops[j]? = some oj → Anc ops.toList j i ∨ apartO ops.toList oj oi = true
  clash : ∀ i j v, j < i → i < ops.size → (((Ws j).testBit v = true ∧ (As i).testBit v = true) ∨ ((Ws i).testBit v = true ∧ (As j).testBit v = true)) → Anc ops.toList j i
  mono : ∀ i, i < ops.size → (Ss i).next ≤ (Ss (i + 1)).next
  sub : ∀ i v, i < ops.size → (Ws i).testBit v = true → (As i).testBit v = true
  keep : ∀ i v, i < ops.size → (Ws i).testBit v = false → (Ss (i + 1)).heap.get v = (Ss i).heap.get v
  fr : ∀ i o, ops[i]? = some o → bs i = true → ∀ T : St, T.next = (Ss i).next → (∀ v, (As i).testBit v = true → ¬ ((Ss i).next ≤ v ∧ v < (Ss (i + 1)).next) → T.heap.get v = (Ss i).heap.get v) →
    ∃ g T', g < F ∧ operF tb (call tb g) (rnd tb g) o (op tb.ng (Es i).tm) T = some (vs i, T') ∧ T'.next = (Ss (i + 1)).next ∧ ∀ v, T'.heap.get v = if (Ws i).testBit v then (Ss (i + 1)).heap.get v else T.heap.get v
theorem mono_le {Ss : Nat → St} {N : Nat} (h : ∀ i, i < N → (Ss i).next ≤ (Ss (i + 1)).next) (i : Nat) : ∀ j, i ≤ j → j ≤ N → (Ss i).next ≤ (Ss j).next
  | 0, h1, _ => by have : i = 0 := by omega
                   rw [this]; exact Nat.le_refl _
  | j + 1, h1, h2 => by
    rcases Nat.lt_or_ge i (j + 1) with hlt | hge
    · exact Nat.le_trans (mono_le h i j (by omega) (by omega)) (h j (by omega))
    · have : i = j + 1 := by omega
      rw [this]; exact Nat.le_refl _
theorem tr_of {tb : Tab} {f F : Nat} {ops : Array Oper} {E E' : Env} {l' : List Rec} {S S' : St} (hf : f ≤ F) (hreg : regOk ops.toList = true) (h : opsD tb f ops.toList ops.toList 0 E [] S = some ((E', l'), S'))
    (hord : (!(anyClash l') || orderOk (anc ops.toList 0 .leaf) l') = true) (hrw : Rw S S'.next) :
    ∃ Es Ss bs vs As Ws, Tr tb F ops Es Ss bs vs As Ws ∧ Es 0 = E ∧ Ss 0 = S ∧ Es ops.size = E' ∧ Ss ops.size = S' := by
  obtain ⟨Es, Ss, bs, vs, As, Ws, R, q1, q2, q3, q4, q5, q6, q7, q8⟩ := opsD_trace f hf _ _ _ _ _ _ _ _ h
  have hN : ops.toList.length = ops.size := Array.length_toList
  rw [hN] at q3 q4 q7 q8
  rw [List.append_nil] at q5
  subst q5
  have hget : ∀ (i : Nat), ops.toList[i]? = ops[i]? := fun i => Array.getElem?_toList
  have hle : ops.toList.length ≤ 16777213 := by
    unfold regOk at hreg; rw [Bool.and_eq_true] at hreg; exact Nat.le_of_ble_eq_true hreg.1
  have hm : MaskOk ops.toList (anc ops.toList 0 .leaf) := anc_ok ops.toList 0 .leaf (fun k o hk => by rw [Nat.zero_add]; exact hk) (by omega) (fun i j hj => by simp [maskOf, T.get] at hj)
  have hpair : l'.Pairwise fun y x => clash x y = true → (maskOf (anc ops.toList 0 .leaf) y.idx).testBit x.idx = true := by
    rw [Bool.or_eq_true] at hord
    rcases hord with ho | ho
    · exact pair_of_none l' (by simpa using ho)
    · exact pair_of_order l' ho
  have hsome : ∀ i, i < ops.size → ∃ o, ops[i]? = some o := fun i hi => ⟨ops[i], Array.getElem?_eq_getElem hi⟩
  have step : ∀ i o, ops[i]? = some o → StepAt tb F ops.toList o (Es i) (Es (i + 1)) (Ss i) (Ss (i + 1)) (bs i) (vs i) (As i) (Ws i) := fun i o ho => q6 i o (by rw [hget]; exact ho)
  have mono : ∀ i, i < ops.size → (Ss i).next ≤ (Ss (i + 1)).next := fun i hi => by
    obtain ⟨o, ho⟩ := hsome i hi
    have st := step i o ho
    cases hb : bs i with
    | true =>
      obtain ⟨g, S1, _, h1, _, h2, _⟩ := st.run hb
      have := (Good.operF (goodF tb g).call (goodF tb g).rnd o (op tb.ng (Es i).tm)).mono _ _ _ h1
      rw [← h2]; exact this
    | false => have := st.no hb; omega
  have frame : ∀ i, i < ops.size → Rw (Ss i) (Ss ops.size).next →
      (∀ v, (Ws i).testBit v = true → (As i).testBit v = true) ∧ (∀ v, (Ws i).testBit v = true → v < (Ss (i + 1)).next) ∧ (∀ v, (Ws i).testBit v = false → (Ss (i + 1)).heap.get v = (Ss i).heap.get v) ∧
      (∀ o, ops[i]? = some o → bs i = true → ∀ T : St, T.next = (Ss i).next → (∀ v, (As i).testBit v = true → ¬ ((Ss i).next ≤ v ∧ v < (Ss (i + 1)).next) → T.heap.get v = (Ss i).heap.get v) →
    ∃ g T', g < F ∧ operF tb (call tb g) (rnd tb g) o (op tb.ng (Es i).tm) T = some (vs i, T') ∧ T'.next = (Ss (i + 1)).next ∧ ∀ v, T'.heap.get v = if (Ws i).testBit v then (Ss (i + 1)).heap.get v else T.heap.get v) := fun i hi hw => by
    obtain ⟨o, ho⟩ := hsome i hi
    have st := step i o ho
    cases hb : bs i with
    | true =>
      obtain ⟨g, S1, hg, h1, h2, h3, h4, h5⟩ := st.run hb
      have hnx := mono_le mono (i + 1) ops.size (by omega) (Nat.le_refl _)
      obtain ⟨A, W, q⟩ := (Good.operF (goodF tb g).call (goodF tb g).rnd o (op tb.ng (Es i).tm)).ok ⟨(Ss i).heap, (Ss i).next, 0, 0⟩ _ S1 (fun v a b => hw v a (by omega)) h1
      have hA : A = As i := by rw [← h4, q.acc]; exact (Nat.zero_or A).symm
      have hW : W = Ws i := by rw [← h5, q.wr]; exact (Nat.zero_or W).symm
      subst hA; subst hW
      refine ⟨q.sub, fun v hv => by rw [← h3]; exact q.lt v hv, fun v hv => by rw [← h2]; exact q.keep v hv, fun o' ho' _ T hT hag => ?_⟩
      rw [ho] at ho'; injection ho' with ho'; subst ho'
      obtain ⟨T', t1, t2, t3, t4, t5⟩ := q.fr T hT (fun v a b => hag v a (by rw [← h3]; exact b))
      exact ⟨g, T', hg, t1, t2.trans h3, fun v => by rw [← h2]; exact t5 v⟩
    | false =>
      obtain ⟨_, h2, h3, hA, hW⟩ := st.no hb
      exact ⟨fun v hv => by rw [hW] at hv; simp at hv, fun v hv => by rw [hW] at hv; simp at hv, fun v _ => by rw [h2], fun _ _ hb' => by cases hb'⟩
  have rw_all : ∀ i, i ≤ ops.size → Rw (Ss i) (Ss ops.size).next := by
    intro i
    induction i with
    | zero => intro _; rw [q2, q4]; exact hrw
    | succ i ih =>
      intro hi v hv1 hv2
      have hwi := ih (by omega)
      obtain ⟨_, f2, f3, _⟩ := frame i (by omega) hwi
      cases hW : (Ws i).testBit v with
      | true => have := f2 v hW; omega
      | false => rw [f3 v hW]; exact hwi v (by have := mono i (by omega); omega) hv2
  have regf := regOk_ok hreg
  refine ⟨Es, Ss, bs, vs, As, Ws, ⟨step, fun i o ho => (regf i o (by rw [hget]; exact ho)).1, fun i j oi oj hij hoi hoj => (regf i oi (by rw [hget]; exact hoi)).2 j oj hij (by rw [hget]; exact hoj), fun i j v hij hi hc => ?_, mono, fun i v hi => (frame i hi (rw_all i (by omega))).1 v, fun i v hi => (frame i hi (rw_all i (by omega))).2.2.1 v, fun i o ho => ?_⟩, q1, q2, q3, q4⟩
  · have s1 := (frame i hi (rw_all i (by omega))).1
    have s2 := (frame j (by omega) (rw_all j (by omega))).1
    have nz : ∀ {n : Nat}, n.testBit v = true → n ≠ 0 := fun hn e => by rw [e] at hn; simp at hn
    have hAi : As i ≠ 0 := hc.elim (fun h => nz h.2) (fun h => nz (s1 v h.1))
    have hAj : As j ≠ 0 := hc.elim (fun h => nz (s2 v h.1)) (fun h => nz h.2)
    have hsub := q8 j i hij hi hAj hAi
    have hp := hpair.sublist hsub
    have := (List.pairwise_cons.1 hp).1 _ (List.mem_singleton.2 rfl) (clash_of (v := v) hc)
    simp only [Nat.zero_add] at this
    exact hm _ _ this
  · have hi : i < ops.size := (Array.getElem?_eq_some_iff.1 ho).1
    exact (frame i hi (rw_all i (by omega))).2.2.2 o ho
end Go.AX
end
section
set_option linter.unusedSimpArgs false
set_option linter.unusedVariables false
namespace Go.AX
theorem op_ok' {C : Cx} {tb : Tab} {ρ : Rho} {B : Nat} {H : T Ent} {w : World} {E : Env} {a : Act} (hF : Fits C tb.ng B ρ H w) (x : Operand)
    (h : ∀ t v, x = .tmp t → E.tm.get t = some v → Rel C ρ v (a.tmps.getD t undef)) : Rel C ρ (op tb.ng E.tm x) (a.eval x) := by
  cases x with
  | tmp t =>
    simp only [op, Act.eval]
    cases hg : E.tm.get t with
    | none => simp [Rel]
    | some v => exact h t v rfl hg
  | const v => exact ofV_ok C ρ v
  | global g =>
    simp only [op, Act.eval]
    cases hc : Nat.blt g tb.ng with
    | false => simp [Rel]
    | true =>
      simp only [cond_true, Rel]
      exact ⟨_, hF.glob g (Nat.le_of_ble_eq_true hc), rfl⟩
  | func f => simp only [op, Act.eval, Rel, RelL]; exact ⟨[], [], rfl, rfl, rfl⟩
theorem wanted_ok' {C : Cx} {ρ : Rho} {ops : Array Oper} {E : Env} {a : Act} {o : Oper} {b : Bool}
    (h : ∀ t v, hasN (looks ops.toList o) t = true → E.tm.get t = some v → Rel C ρ v (a.tmps.getD t undef)) (hw : wanted ops.toList E o = some b) : Region.wanted o (yielded ops a.tmps) = b := by
  unfold wanted at hw
  unfold Region.wanted
  cases hg : o.guard with
  | none => rw [hg] at hw; simp only [Option.some.injEq] at hw; simpa using hw
  | some p =>
    obtain ⟨j, want⟩ := p
    rw [hg] at hw
    simp only [] at hw ⊢
    have hj : ops.toList[j]? = ops[j]? := by simp
    rw [hj] at hw
    unfold yielded
    cases ho : ops[j]? with
    | none => rw [ho] at hw; cases hw; rfl
    | some o' =>
      rw [ho] at hw
      simp only [Option.bind_some] at hw ⊢
      cases hd : o'.dst with
      | none => rw [hd] at hw; simp only [Option.some.injEq] at hw; subst hw; simp
      | some d =>
        rw [hd] at hw
        simp only [Option.bind_some] at hw ⊢
        cases hv : E.tm.get d with
        | none => rw [hv] at hw; cases hw
        | some x =>
          rw [hv] at hw
          have hr := h d x (looks_guard hg (hj.trans ho) hd) hv
          have hget : a.tmps.getD d undef = (a.tmps[d]?).getD undef := by simp [Array.getD_eq_getD_getElem?]
          rw [hget] at hr
          have notb : ∀ {y : AV}, (∀ v, Rel C ρ y v → ∀ q, v ≠ .bool q) → x = y → some false = some b → ((match a.tmps[d]? with | some (.bool q) => some q | _ => none) == some want) = b := by
            intro y hy e hb
            subst e
            injection hb with hb; subst hb
            have := hy _ hr
            cases ht : a.tmps[d]? with
            | none => rfl
            | some u =>
              rw [ht] at this
              cases u <;> first | rfl | exact absurd rfl (this _)
          cases x with
          | und => cases hw
          | b q =>
            simp only [Option.some.injEq] at hw
            simp only [Rel] at hr
            cases ht : a.tmps[d]? with
            | none => rw [ht] at hr; simp [undef] at hr
            | some u =>
              rw [ht] at hr
              simp only [Option.getD_some] at hr
              subst hr
              rw [← hw]; rfl
          | sl b' o'' n c r => exact notb (fun v hv q e => by subst e; cases r <;> simp [Rel] at hv) rfl hw
          | x id => cases hw
          | _ => exact notb (fun v hv q e => by subst e; simp [Rel, typeHandle] at hv) rfl hw
theorem Fits.congr {C : Cx} {ng B : Nat} {ρ : Rho} {H H' : T Ent} {w : World} (h : Fits C ng B ρ H w) (hh : ∀ v, H'.get v = H.get v) : Fits C ng B ρ H' w :=
  h.sub fun v k hk => by rw [← hh]; exact hk
def dstIs (ops : Array Oper) (k t : Nat) : Bool := match ops[k]? with
  | some o => match o.dst with
    | some d => Nat.beq d t
    | none => false
  | none => false
theorem dstIs_some {ops : Array Oper} {k t : Nat} (h : dstIs ops k t = true) : ∃ o, ops[k]? = some o ∧ o.dst = some t := by
  unfold dstIs at h
  cases ho : ops[k]? with
  | none => rw [ho] at h; cases h
  | some o =>
    rw [ho] at h
    simp only [] at h
    cases hd : o.dst with
    | none => rw [hd] at h; cases h
    | some d => rw [hd] at h; exact ⟨o, rfl, by rw [hd, Nat.eq_of_beq_eq_true h]⟩
theorem dstIs_false {ops : Array Oper} {k t : Nat} (h : dstIs ops k t = false) {o : Oper} (ho : ops[k]? = some o) : o.dst ≠ some t := fun e => by
  unfold dstIs at h
  rw [ho] at h; simp only [e, Nat.beq_refl] at h; cases h
theorem put_nt {E E' : Env} {d : Option Tmp} {x : AV} (h : E.put d x = some E') : E'.nt = E.nt ∧ (∀ t, d ≠ some t → E.nt ≤ 16777213 → E'.tm.get t = E.tm.get t) ∧ (∀ t, d = some t → E.nt ≤ 16777213 → E'.tm.get t = some x ∧ Nat.lt t E.nt) := by
  cases d with
  | none => simp only [Env.put_none, Option.some.injEq] at h; subst h; exact ⟨rfl, fun _ _ _ => rfl, fun t ht => by cases ht⟩
  | some d =>
    rw [Env.put_some] at h
    cases hc : Nat.blt d E.nt with
    | false => rw [hc] at h; cases h
    | true =>
      rw [hc] at h
      simp only [cond_true, Option.some.injEq] at h
      subst h
      have hlt : Nat.lt d E.nt := Nat.le_of_ble_eq_true hc
      refine ⟨rfl, fun t ht hn => ?_, fun t ht hn => ?_⟩
      · have hd : Nat.le d 16777213 := Nat.le_trans (Nat.le_of_lt hlt) hn
        show (E.tm.set d x).get t = _
        rw [get_set _ _ _ _ hd, if_neg (fun e => ht (by rw [e]))]
      · injection ht with ht; subst ht
        have hd : Nat.le d 16777213 := Nat.le_trans (Nat.le_of_lt hlt) hn
        refine ⟨?_, hlt⟩
        show (E.tm.set d x).get d = _
        rw [get_set _ _ _ _ hd, if_pos rfl]
section
variable {C : Cx} {tb : Tab} {B F : Nat} {ops : Array Oper} {Es : Nat → Env} {Ss : Nat → St} {bs : Nat → Bool} {vs : Nat → AV} {As Ws : Nat → Nat}
structure Inv (C : Cx) (tb : Tab) (B : Nat) (ops : Array Oper) (Es : Nat → Env) (Ss : Nat → St) (Ws : Nat → Nat) (ρ0 : Rho) (a0 : Act) (w0 : World) (D : Nat → Bool) (ρ : Rho) (H : T Ent) (a : Act) (w : World) : Prop where
  fit : Fits C tb.ng B ρ H w
  hp : ∀ v, H.get v = lw D (fun k => (Ws k).testBit v) (fun k => (Ss k).heap.get v) ops.size
  tm : ∀ t x, lw D (fun k => dstIs ops k t) (fun k => (Es k).tm.get t) ops.size = some x → Rel C ρ x (a.tmps.getD t undef)
  free : ∀ j, j < ops.size → D j = false → Free ρ (Ss j).next (Ss (j + 1)).next
  ext : Ext ρ0 ρ (Ss 0).next (Ss ops.size).next
  sz : a.tmps.size = (Es 0).nt
  df : a.defers = a0.defers
  be : Below B w0 w
  cl : ∀ i o e, D i = true → ops.toList[i]? = some o → e ∈ o.after.toList → bindsL e = true → D e.on = true
theorem nt_const (h : Tr tb F ops Es Ss bs vs As Ws) : ∀ i, i ≤ ops.size → (Es i).nt = (Es 0).nt
  | 0, _ => rfl
  | i + 1, hi => by
    have ho : ops[i]? = some ops[i] := Array.getElem?_eq_getElem (by omega)
    rw [(put_nt (h.step i _ ho).put).1, nt_const h i (by omega)]
theorem tm_keep (h : Tr tb F ops Es Ss bs vs As Ws) (hnt : (Es 0).nt ≤ 16777213) (t : Nat) : ∀ k, k < ops.size → dstIs ops k t = false → (Es (k + 1)).tm.get t = (Es k).tm.get t := fun k hk hd => by
  have ho : ops[k]? = some ops[k] := Array.getElem?_eq_getElem hk
  exact (put_nt (h.step k _ ho).put).2.1 t (dstIs_false hd ho) (by rw [nt_const h k (by omega)]; exact hnt)
/-- one operation listed -/
theorem Inv.next (h : Tr tb F ops Es Ss bs vs As Ws) (hnt : (Es 0).nt ≤ 16777213) {ρ0 : Rho} {a0 : Act} {w0 : World} {D : Nat → Bool} {ρ ρ' : Rho} {H H' : T Ent} {a : Act} {w w' : World} (I : Inv C tb B ops Es Ss Ws ρ0 a0 w0 D ρ H a w)
    {i : Nat} {o : Oper} (ho : ops[i]? = some o) (hi : D i = false) (hr : ∀ e ∈ o.after.toList, bindsL e = true → D e.on = true) {x : Value} (hx : Rel C ρ' (vs i) x) (hF : Fits C tb.ng B ρ' H' w')
    (hH : ∀ v, H'.get v = if (Ws i).testBit v then (Ss (i + 1)).heap.get v else H.get v) (he : Ext ρ ρ' (Ss i).next (Ss (i + 1)).next) (hb : Below B w w') :
    Inv C tb B ops Es Ss Ws ρ0 a0 w0 (add1 D i) ρ' H' (a.put o.dst x) w' := by
  have hiN : i < ops.size := (Array.getElem?_eq_some_iff.1 ho).1
  have hget : ∀ (i : Nat), ops.toList[i]? = ops[i]? := fun i => Array.getElem?_toList
  have hsub : Sub ρ ρ' := he.sub (I.free i hiN hi)
  have hanc : ∀ j, Anc ops.toList i j → D j = false := fun j ha => by
    cases hD : D j with
    | false => rfl
    | true => have := ha.closed I.cl hD; rw [hi] at this; cases this
  have st := h.step i o ho
  have pn := put_nt st.put
  have hnti : (Es i).nt ≤ 16777213 := by rw [nt_const h i (by omega)]; exact hnt
  refine ⟨hF, fun v => ?_, fun t y hy => ?_, fun j hj hD => ?_, fun v hv => ?_, ?_, ?_, I.be.trans hb, fun j o' e hD ho' hee hbb => ?_⟩
  · rw [hH v]
    cases hW : (Ws i).testBit v with
    | true =>
      simp only [if_true]
      refine (lw_wrote (wr := fun k => (Ws k).testBit v) (X := fun k => (Ss k).heap.get v) hiN (fun j hj1 hj2 hD => ?_) hW).symm
      cases hWj : (Ws j).testBit v with
      | false => rfl
      | true =>
        have := hanc j (h.clash j i v hj1 hj2 (.inr ⟨hWj, h.sub i v hiN hW⟩))
        rw [hD] at this; cases this
    | false =>
      simp only [Bool.false_eq_true, if_false]
      rw [I.hp v]
      exact (lw_left (wr := fun k => (Ws k).testBit v) (X := fun k => (Ss k).heap.get v) hW).symm
  · cases hd : dstIs ops i t with
    | true =>
      obtain ⟨o2, ho2, hd2⟩ := dstIs_some hd
      rw [ho] at ho2; injection ho2 with ho2; subst ho2
      rw [lw_wrote (wr := fun k => dstIs ops k t) (X := fun k => (Es k).tm.get t) hiN (fun j hj1 hj2 hD => by
        cases hdj : dstIs ops j t with
        | false => rfl
        | true =>
          obtain ⟨oj, hoj, hdj⟩ := dstIs_some hdj
          rcases h.apart j i oj o hj1 hoj ho with ha | ha
          · have := hanc j ha; rw [hD] at this; cases this
          · exact absurd hdj ((apartO_ok ha).2.1 t hd2)) hd] at hy
      obtain ⟨e1, e2⟩ := pn.2.2 t hd2 hnti
      rw [e1] at hy; injection hy with hy; subst hy
      rw [nt_const h i (by omega)] at e2
      have : t < a.tmps.size := by rw [I.sz]; exact e2
      have e3 : (a.put o.dst x).tmps.getD t undef = x := by simp [Act.put, hd2, Array.getD, this]
      rw [e3]; exact hx
    | false =>
      rw [lw_left (wr := fun k => dstIs ops k t) (X := fun k => (Es k).tm.get t) hd] at hy
      have hne := dstIs_false hd ho
      have e3 : (a.put o.dst x).tmps.getD t undef = a.tmps.getD t undef := by
        cases hdd : o.dst with
        | none => rfl
        | some d =>
          have : d ≠ t := fun e => hne (by rw [hdd, e])
          simp [Act.put, Array.getD_eq_getD_getElem?, Array.getElem?_setIfInBounds_ne this]
      rw [e3]; exact Rel.mono hsub _ _ (I.tm t y hy)
  · unfold add1 at hD
    rw [Bool.or_eq_false_iff] at hD
    have hne : j ≠ i := fun e => by rw [e, Nat.beq_refl] at hD; cases hD.1
    intro v hv1 hv2
    have hout : v < (Ss i).next ∨ (Ss (i + 1)).next ≤ v := by
      rcases Nat.lt_or_ge j i with hlt | hge
      · exact .inl (Nat.lt_of_lt_of_le hv2 (mono_le h.mono (j + 1) i (by omega) (by omega)))
      · exact .inr (Nat.le_trans (mono_le h.mono (i + 1) j (by omega) (by omega)) hv1)
    rw [he v hout]; exact I.free j hj hD.2 v hv1 hv2
  · have m1 := mono_le h.mono 0 i (by omega) (by omega)
    have m2 := mono_le h.mono (i + 1) ops.size (by omega) (Nat.le_refl _)
    rw [he v (by omega)]; exact I.ext v hv
  · rw [← I.sz]; cases o.dst <;> simp [Act.put]
  · rw [put_tmps]; exact I.df
  · unfold add1 at hD ⊢
    rw [Bool.or_eq_true] at hD ⊢
    right
    rcases hD with hD | hD
    · have := Nat.eq_of_beq_eq_true hD; subst this
      rw [hget, ho] at ho'; injection ho' with ho'; subst ho'
      exact hr e hee hbb
    · exact I.cl j o' e hD ho' hee hbb
/-- what an operation that may come up finds -/
theorem Inv.finds (h : Tr tb F ops Es Ss bs vs As Ws) (hnt : (Es 0).nt ≤ 16777213) {ρ0 : Rho} {a0 : Act} {w0 : World} {D : Nat → Bool} {ρ : Rho} {H : T Ent} {a : Act} {w : World} (I : Inv C tb B ops Es Ss Ws ρ0 a0 w0 D ρ H a w)
    {i : Nat} {o : Oper} (ho : ops[i]? = some o) (hi : D i = false) (hr : ∀ e ∈ o.after.toList, bindsL e = true → D e.on = true) :
    (∀ v, (As i).testBit v = true → ¬ ((Ss i).next ≤ v ∧ v < (Ss (i + 1)).next) → H.get v = (Ss i).heap.get v) ∧
    (∀ t v, hasN (looks ops.toList o) t = true → (Es i).tm.get t = some v → Rel C ρ v (a.tmps.getD t undef)) := by
  have hiN : i < ops.size := (Array.getElem?_eq_some_iff.1 ho).1
  have hget : ∀ (i : Nat), ops.toList[i]? = ops[i]? := fun i => Array.getElem?_toList
  have hanc : ∀ j, Anc ops.toList i j → D j = false := fun j ha => by
    cases hD : D j with
    | false => rfl
    | true => have := ha.closed I.cl hD; rw [hi] at this; cases this
  have hup : ∀ j, Anc ops.toList j i → D j = true := fun j ha => ha.ready I.cl fun o' e ho' he hb => by
    rw [hget, ho] at ho'; injection ho' with ho'; subst ho'; exact hr e he hb
  refine ⟨fun v hA _ => ?_, fun t v ht hv => ?_⟩
  · rw [I.hp v]
    refine lw_find (X := fun k => (Ss k).heap.get v) hiN (fun k hk hW => h.keep k v hk hW) (fun j hj hW => hup j (h.clash i j v hj hiN (.inl ⟨hW, hA⟩))) (fun j hj1 hj2 hD => ?_) hi
    cases hWj : (Ws j).testBit v with
    | false => rfl
    | true =>
      have := hanc j (h.clash j i v hj1 hj2 (.inr ⟨hWj, hA⟩))
      rw [hD] at this; cases this
  · refine I.tm t v ?_
    rw [lw_find (X := fun k => (Es k).tm.get t) hiN (tm_keep h hnt t) (fun j hj hd => ?_) (fun j hj1 hj2 hD => ?_) hi]
    · exact hv
    · obtain ⟨oj, hoj, hdj⟩ := dstIs_some hd
      rcases h.apart i j o oj hj ho hoj with ha | ha
      · exact hup j ha
      · have := (apartO_ok ha).1 t hdj; rw [ht] at this; cases this
    · cases hdj : dstIs ops j t with
      | false => rfl
      | true =>
        obtain ⟨oj, hoj, hdj⟩ := dstIs_some hdj
        rcases h.apart j i oj o hj1 hoj ho with ha | ha
        · have := hanc j ha; rw [hD] at this; cases this
        · have := (apartO_ok ha).2.2 t hdj; rw [ht] at this; cases this
theorem binds_eq (e : Edge) : Region.binds .any e = bindsL e := by
  unfold Region.binds bindsL; cases e.ground <;> rfl
theorem any_ok (h : Tr tb F ops Es Ss bs vs As Ws) (hnt : (Es 0).nt ≤ 16777213) (hcall : ∀ g, g < F → CROk C tb B (call tb g) (rnd tb g)) (ht : TabOk C tb) (hm : MetOk C tb) (hng : tb.ng ≤ (Ss 0).next) {Φ : Fence} {ν : Nat} (hΦ : Wide Φ)
    {ρ0 : Rho} {a0 : Act} {w0 : World} {Q : Exit → Act → World → Prop}
    (hQ : ∀ ρ a w, EnvOk C ρ (Es ops.size) a → a.defers = a0.defers → Fits C tb.ng B ρ (Ss ops.size).heap w → Ext ρ0 ρ (Ss 0).next (Ss ops.size).next → Below B w0 w → Q .normal a w) :
    ∀ (fuel : Nat) (listed : Array Bool) (ρ : Rho) (H : T Ent) (a : Act) (w : World), listed.size = ops.size → left (fun k => listed.getD k false) ops.size ≤ fuel →
      Inv C tb B ops Es Ss Ws ρ0 a0 w0 (fun k => listed.getD k false) ρ H a w → wpAnyIn Φ ν C.P .any ops Q fuel listed a w := by
  have done : ∀ (listed : Array Bool) (ρ : Rho) (H : T Ent) (a : Act) (w : World), (∀ j, j < ops.size → listed.getD j false = true) → Inv C tb B ops Es Ss Ws ρ0 a0 w0 (fun k => listed.getD k false) ρ H a w → Q .normal a w := fun listed ρ H a w hall I => by
    refine hQ ρ a w ⟨by rw [I.sz, nt_const h ops.size (Nat.le_refl _)], by rw [nt_const h ops.size (Nat.le_refl _)]; exact hnt, fun t x hx => I.tm t x ?_⟩ I.df (I.fit.congr fun v => ?_) I.ext I.be
    · rw [lw_all (X := fun k => (Es k).tm.get t) (tm_keep h hnt t) hall]; exact hx
    · rw [I.hp v, lw_all (X := fun k => (Ss k).heap.get v) (fun k hk hW => h.keep k v hk hW) hall]
  have stuck : ∀ (listed : Array Bool), listed.size = ops.size → Region.ready .any ops listed = [] → ∀ j, j < ops.size → listed.getD j false = true := fun listed hs hn => by
    intro j
    induction j using Nat.strongRecOn with
    | _ j ih =>
      intro hj
      cases hD : listed.getD j false with
      | true => rfl
      | false =>
        have ho : ops[j]? = some ops[j] := Array.getElem?_eq_getElem hj
        have : j ∈ Region.ready .any ops listed := mem_ready.2 ⟨by
          have hjs : j < listed.size := by omega
          simp [Array.getD, hjs] at hD ⊢; exact hD, ops[j], ho, fun e he hb => by
            rw [binds_eq] at hb
            have := h.low j _ ho e (Array.mem_toList_iff.2 he) hb
            exact ih e.on this (by omega)⟩
        rw [hn] at this; cases this
  intro fuel
  induction fuel with
  | zero =>
    intro listed ρ H a w hs hl I
    have hall := left_zero ops.size (by omega : left (fun k => listed.getD k false) ops.size = 0)
    refine ⟨?_, done listed ρ H a w hall I⟩
    cases hrr : Region.ready .any ops listed with
    | nil => rfl
    | cons j l =>
      have hj : j ∈ Region.ready .any ops listed := by rw [hrr]; exact List.mem_cons_self ..
      obtain ⟨h1, o, ho, _⟩ := mem_ready.1 hj
      have hjN : j < ops.size := (Array.getElem?_eq_some_iff.1 ho).1
      have := hall j hjN
      have hjs : j < listed.size := by omega
      simp [Array.getD, hjs] at h1 this
      rw [h1] at this; cases this
  | succ fuel ih =>
    intro listed ρ H a w hs hl I
    refine ⟨fun hn => done listed ρ H a w (stuck listed hs hn) I, fun i hi => ?_⟩
    obtain ⟨h1, o, ho, hpre⟩ := mem_ready.1 hi
    have hiN : i < ops.size := (Array.getElem?_eq_some_iff.1 ho).1
    have his : i < listed.size := by omega
    have hD : listed.getD i false = false := by simp [Array.getD, his] at h1 ⊢; exact h1
    have hr : ∀ e ∈ o.after.toList, bindsL e = true → listed.getD e.on false = true := fun e he hb => hpre e (Array.mem_toList_iff.1 he) (by rw [binds_eq]; exact hb)
    have hadd : (fun k => (listed.setIfInBounds i true).getD k false) = add1 (fun k => listed.getD k false) i := by
      funext k
      unfold add1
      by_cases e : k = i
      · subst e; simp [Array.getD, his]
      · have e' : Nat.beq k i = false := by
          cases hb : Nat.beq k i with
          | false => rfl
          | true => exact absurd (Nat.eq_of_beq_eq_true hb) e
        rw [e', Bool.false_or, getD_set_ne false (fun e'' => e e''.symm)]
    have hleft : left (fun k => (listed.setIfInBounds i true).getD k false) ops.size ≤ fuel := by
      have := left_add (D := fun k => listed.getD k false) hD ops.size
      rw [if_pos hiN] at this
      rw [hadd]; omega
    have go : ∀ ρ' H' x w', Inv C tb B ops Es Ss Ws ρ0 a0 w0 (add1 (fun k => listed.getD k false) i) ρ' H' (a.put o.dst x) w' → wpAnyIn Φ ν C.P .any ops Q fuel (listed.setIfInBounds i true) (a.put o.dst x) w' := fun ρ' H' x w' I' =>
      ih _ ρ' H' _ w' (by simp [hs]) hleft (by rw [hadd]; exact I')
    obtain ⟨f1, f2⟩ := I.finds h hnt ho hD hr
    have st := h.step i o ho
    have hwant := wanted_ok' f2 st.want
    unfold wpOpIn
    simp only [ho]
    rw [hwant]
    cases hb : bs i with
    | true =>
      simp only [if_true]
      obtain ⟨g, T', hg, t1, t2, t3⟩ := h.fr i o ho hb ⟨H, (Ss i).next, 0, 0⟩ rfl f1
      refine operF_ok (S := ⟨H, (Ss i).next, 0, 0⟩) (S' := T') (ρ := ρ) (hcall g hg) ht hm t1 I.fit (Nat.le_trans hng (mono_le h.mono 0 i (by omega) (by omega))) (fun x hx => op_ok' I.fit x fun t v e hv => ?_) (by rw [t2]; exact I.free i hiN hD) (fun ρ' x w' r1 r2 r3 r4 => go ρ' T'.heap x w' ?_) hΦ
      · subst e; exact f2 t v (looks_op hx) hv
      · exact I.next h hnt ho hD hr r1 r2 t3 (by rw [← t2]; exact r3) r4
    | false =>
      simp only [Bool.false_eq_true, if_false]
      obtain ⟨n1, n2, n3, n4, n5⟩ := st.no hb
      refine ⟨fun f _ => hΦ.fn f, go ρ H undef w (I.next h hnt ho hD hr ?_ I.fit (fun v => by rw [n5]; simp) (Ext.refl _ _ _) (Below.refl _ _))⟩
      rw [n1]; simp only [Rel, RelL]; exact ⟨[], rfl, rfl⟩
end
end Go.AX
end
section
set_option linter.unusedSimpArgs false
set_option linter.unusedVariables false
namespace Go.AX
theorem args0_get : ∀ (l : List AV) (n : Nat) (t : T AV) (m : Nat), n + l.length ≤ 16777214 → (args0 l n t).get m = if n ≤ m ∧ m < n + l.length then l[m - n]? else t.get m
  | [], n, t, m, _ => by simp only [args0, List.length_nil]; rw [if_neg (by omega)]
  | v :: l, n, t, m, h => by
    simp only [List.length_cons] at h
    unfold args0
    rw [args0_get l (Nat.succ n) (t.set n v) m (by simp only [Nat.succ_eq_add_one]; omega), get_set _ _ _ _ (by omega)]
    simp only [Nat.succ_eq_add_one, List.length_cons]
    by_cases h1 : m = n
    · subst h1
      rw [if_neg (by omega), if_pos rfl, if_pos (by omega)]; simp
    · by_cases h2 : n + 1 ≤ m ∧ m < n + 1 + l.length
      · rw [if_pos h2, if_pos (by omega)]
        have : m - n = (m - (n + 1)) + 1 := by omega
        rw [this]; simp
      · rw [if_neg h2, if_neg h1, if_neg (by omega)]
section
variable {C : Cx} {tb : Tab} {B : Nat}
theorem env0_ok {ρ : Rho} {l : List AV} {args : List Value} {nt : Nat} (h : RelL C ρ l args) (h1 : l.length ≤ nt) (h2 : nt ≤ 16777213) :
    EnvOk C ρ ⟨args0 l 0 .leaf, nt⟩ { tmps := (⟨args⟩ : Array Value) ++ Array.replicate (nt - (⟨args⟩ : Array Value).size) undef, defers := [] } := by
  have hlen := h.len
  refine ⟨?_, h2, fun t x ht => ?_⟩
  · have : (⟨args⟩ : Array Value).size = args.length := rfl
    simp only [Array.size_append, Array.size_replicate]; rw [this]; omega
  · simp only [] at ht
    rw [args0_get l 0 .leaf t (by omega)] at ht
    split at ht
    · rename_i hr
      rw [Nat.sub_zero] at ht
      obtain ⟨y, hy, hxy⟩ := h.get ht
      have hlt : t < args.length := by
        rcases Nat.lt_or_ge t args.length with h | h
        · exact h
        · rw [List.getElem?_eq_none h] at hy; cases hy
      have : ((⟨args⟩ : Array Value) ++ Array.replicate (nt - (⟨args⟩ : Array Value).size) undef).getD t undef = y := by
        rw [Array.getD_eq_getD_getElem?, Array.getElem?_append_left (by exact hlt), ← Array.getElem?_toList]
        show (args[t]?).getD undef = y
        rw [hy]; rfl
      rw [this]; exact hxy
    · simp [T.get_leaf] at ht
theorem load_as (ht : TyOk C.P tb) {ρ : Rho} {w : World} {S S' : St} (hF : Fits C tb.ng B ρ S.heap w) {t : Nat} {x v : AV} {xv : Value} (hx : Rel C ρ x xv) (h : load tb t x S = some (v, S')) :
    S'.heap = S.heap ∧ S'.next = S.next ∧ ∃ y, (do loadVar t (← asAddr xv) : Sem Value).run C.P w = .ok y w ∧ Rel C ρ v y := by
  obtain ⟨h1, h2, y, h3, h4⟩ := load_ok ht hF hx h
  refine ⟨h1, h2, y, ?_, h4⟩
  cases x <;> simp only [load] at h <;> try exact (fail_inv h).elim
  simp only [Rel] at hx
  obtain ⟨r, hr, rfl⟩ := hx
  exact h3
theorem resList_ok (ht : TyOk C.P tb) {ρ : Rho} {w : World} {E : Env} {a : Act} (hE : EnvOk C ρ E a) : ∀ (l : List ResultVar) {S S' : St} {vs : List AV}, Fits C tb.ng B ρ S.heap w → resList tb l E S = some (vs, S') →
    S'.heap = S.heap ∧ S'.next = S.next ∧ ∃ ys, (l.mapM (fun | .tmp t => pure (a.tmps.getD t undef) | .cell c t => do loadVar t (← asAddr (a.tmps.getD c undef)) : ResultVar → Sem Value)).run C.P w = .ok ys w ∧ RelL C ρ vs ys
  | [], S, S', vs, hF, h => by
    unfold resList at h
    obtain ⟨rfl, rfl⟩ := ret_inv h
    exact ⟨rfl, rfl, [], rfl, by simp [RelL]⟩
  | .tmp t :: l, S, S', vs, hF, h => by
    unfold resList at h
    obtain ⟨us, S1, h1, h2⟩ := bnd_inv h
    obtain ⟨rfl, rfl⟩ := ret_inv h2
    obtain ⟨e1, e2, ys, e3, e4⟩ := resList_ok ht hE l hF h1
    refine ⟨e1, e2, a.tmps.getD t undef :: ys, ?_, ?_⟩
    · rw [List.mapM_cons, Sem.run_bind]
      simp only [Sem.run_pure, Result.andThen_ok]
      rw [Sem.run_bind, e3]; rfl
    · simp only [RelL]
      have := op_ok hF hE (.tmp t)
      refine ⟨_, _, rfl, ?_, e4⟩
      have e : a.eval (.tmp t) = a.tmps.getD t undef := by simp [Act.eval, Array.getD_eq_getD_getElem?]
      rw [← e]; exact this
  | .cell c t :: l, S, S', vs, hF, h => by
    unfold resList at h
    obtain ⟨u, S1, h1, h2⟩ := bnd_inv h
    obtain ⟨us, S2, h3, h4⟩ := bnd_inv h2
    obtain ⟨rfl, rfl⟩ := ret_inv h4
    have hop := op_ok hF hE (.tmp c)
    have e : a.eval (.tmp c) = a.tmps.getD c undef := by simp [Act.eval, Array.getD_eq_getD_getElem?]
    rw [e] at hop
    obtain ⟨g1, g2, y, g3, g4⟩ := load_as ht hF hop h1
    obtain ⟨e1, e2, ys, e3, e4⟩ := resList_ok ht hE l (by rw [g1]; exact hF) h3
    refine ⟨e1.trans g1, e2.trans g2, y :: ys, ?_, ?_⟩
    · rw [List.mapM_cons, Sem.run_bind]
      simp only []
      rw [g3]
      simp only [Result.andThen_ok]
      rw [Sem.run_bind, e3]; rfl
    · simp only [RelL]; exact ⟨_, _, rfl, g4, e4⟩
theorem results_ok (ht : TyOk C.P tb) {ρ : Rho} {w : World} {E : Env} {a : Act} (hE : EnvOk C ρ E a) {fn : Func} {S S' : St} {v : AV} (hF : Fits C tb.ng B ρ S.heap w) (h : results tb fn.results.toList E S = some (v, S')) :
    S'.heap = S.heap ∧ S'.next = S.next ∧ ∃ y, (Go.results fn a.tmps).run C.P w = .ok y w ∧ Rel C ρ v y := by
  have hm : ∀ l, fn.results.toList = l → ∀ ys, (l.mapM (fun | .tmp t => pure (a.tmps.getD t undef) | .cell c t => do loadVar t (← asAddr (a.tmps.getD c undef)) : ResultVar → Sem Value)).run C.P w = .ok ys w →
      (Go.results fn a.tmps).run C.P w = .ok (if h : ys.length = 1 then ys[0] else .tuple ⟨ys⟩) w := by
    intro l hl ys hys
    have hfn : fn.results = l.toArray := by rw [← hl]
    unfold Go.results
    rw [hfn, List.mapM_toArray, Sem.run_bind]
    have : (List.toArray <$> (l.mapM (fun | .tmp t => pure (a.tmps.getD t undef) | .cell c t => do loadVar t (← asAddr (a.tmps.getD c undef)) : ResultVar → Sem Value))).run C.P w = .ok ys.toArray w := by
      rw [map_eq_pure_bind, Sem.run_bind, hys]; rfl
    refine (congrArg (fun r => Result.andThen r _) this).trans ?_
    rfl
  have evt : ∀ t, a.eval (.tmp t) = a.tmps.getD t undef := fun t => by simp [Act.eval, Array.getD_eq_getD_getElem?]
  generalize hL : fn.results.toList = L at h
  unfold results at h
  split at h
  · rename_i t
    obtain ⟨rfl, rfl⟩ := ret_inv h
    refine ⟨rfl, rfl, a.tmps.getD t undef, hm _ hL [a.tmps.getD t undef] rfl, ?_⟩
    rw [← evt]; exact op_ok hF hE (.tmp t)
  · rename_i c t
    have hop := op_ok hF hE (.tmp c)
    rw [evt] at hop
    obtain ⟨g1, g2, y, g3, g4⟩ := load_as ht hF hop h
    refine ⟨g1, g2, y, hm _ hL [y] ?_, g4⟩
    rw [List.mapM_cons, Sem.run_bind]
    simp only []
    rw [g3]; rfl
  · rename_i hl1 hl2
    obtain ⟨us, S1, h1, h2⟩ := bnd_inv h
    obtain ⟨rfl, rfl⟩ := ret_inv h2
    obtain ⟨e1, e2, ys, e3, e4⟩ := resList_ok ht hE _ hF h1
    have hlen : ys.length = L.length := by
      have h1' : ∀ (l : List ResultVar) (S S' : St) (vs : List AV), resList tb l E S = some (vs, S') → vs.length = l.length := by
        intro l
        induction l with
        | nil => intro S S' vs h; unfold resList at h; obtain ⟨rfl, _⟩ := ret_inv h; rfl
        | cons x l ih =>
          intro S S' vs h
          cases x with
          | tmp t =>
            unfold resList at h
            obtain ⟨us, S1, h1, h2⟩ := bnd_inv h
            obtain ⟨rfl, rfl⟩ := ret_inv h2
            simp [ih _ _ _ h1]
          | cell c t =>
            unfold resList at h
            obtain ⟨u, S1, h1, h2⟩ := bnd_inv h
            obtain ⟨us, S2, h3, h4⟩ := bnd_inv h2
            obtain ⟨rfl, rfl⟩ := ret_inv h4
            simp [ih _ _ _ h3]
      rw [e4.len, h1' _ _ _ _ h1]
    refine ⟨e1, e2, .tuple ⟨ys⟩, ?_, by simp only [Rel]; exact ⟨ys, rfl, e4⟩⟩
    rw [hm _ hL ys e3, dif_neg]
    intro hone
    rw [hlen] at hone
    match L, hone, hl1, hl2 with
    | [.tmp t], _, hl1, _ => exact hl1 t rfl
    | [.cell c t], _, _, hl2 => exact hl2 c t rfl
end
end Go.AX
end
section
set_option linter.unusedSimpArgs false
set_option linter.unusedVariables false
namespace Go.AX
/-- a call without arguments of which the answer is known -/
def SumOk (C : Cx) (g : Nat) (v : AV) : Prop := ∀ w : World, C.inv w → C.nst ≤ w.heap.size → Calls C.P g #[] w fun e w' => ∃ x, e = .returned x ∧ Rel C (fun _ => none) v x ∧ Below w.heap.size w w'
/-- a function without a body -/
def ExtOk (C : Cx) (tb : Tab) (e : Nat) (fn : Func) : Prop := Extern.findNext fn = none ∧ ∃ r, Extern.find fn = some r ∧
  ∀ (B : Nat) (l : List AV) (S : St) (v : AV) (S' : St) (ρ : Rho) (w : World) (args : List Value), ext tb e l S = some (v, S') → Fits C tb.ng B ρ S.heap w → tb.ng ≤ S.next → RelL C ρ l args → Free ρ S.next S'.next →
    ∃ ρ' x w', (r ⟨args⟩).run C.P w = .ok x w' ∧ Rel C ρ' v x ∧ Fits C tb.ng B ρ' S'.heap w' ∧ Ext ρ ρ' S.next S'.next ∧ Below B w w'
structure FnOk (C : Cx) (tb : Tab) (g : Nat) (fi : FI) (fn : Func) : Prop where
  at_ : C.P.funcs[g]? = some fn
  name : (fn.name == "runtime.NumGoroutine") = false
  body : fn.body = fi.body
  nt : fn.ntmps = fi.ntmps
  res : fn.results.toList = fi.res
  reg : ∀ c, fi.body = some c → codeOk c = true
  sum : ∀ v, fi.sum = some v → fi.body.isSome = true ∧ SumOk C g v
  ext : fi.body = none → fi.ext = 0 ∨ ExtOk C tb fi.ext fn
structure AllOk (C : Cx) (tb : Tab) : Prop where
  tab : TabOk C tb
  met : MetOk C tb
  fn : ∀ g fi, tb.fn.get g = some fi → ∃ fn, FnOk C tb g fi fn
  mix : C.P.follows .mixedOrders = true
def exOf : Ex → Exit
  | .normal => .normal
  | .exit id => .exit id
  | .goto l => .goto l
  | .ret => .ret
section
variable {C : Cx} {tb : Tab} {B : Nat}
theorem Fits.kept {ρ : Rho} {ng : Nat} {H : T Ent} {w w' : World} (h : Fits C ng B ρ H w) (hb : Below w.heap.size w w') : Fits C ng B ρ H w' := by
  refine ⟨by have := h.size; have := hb.size; omega, h.glob, fun v k hv => ?_, h.inj, h.low, C.stab w w' (fun b hb' => hb.block b (by have := h.low; have := h.size; omega)) h.inv⟩
  obtain ⟨r, h1, o, h2, h3⟩ := h.blk v k hv
  refine ⟨r, h1, o, ?_, h3⟩
  have hlt : r.blk < w.heap.size := by
    rcases Nat.lt_or_ge r.blk w.heap.size with h | h
    · exact h
    · rw [Array.getElem?_eq_none h] at h2; cases h2
  rw [hb.block _ hlt]; exact h2
theorem Below.less {B B' : Nat} {w w' : World} (h : Below B w w') (hle : B' ≤ B) : Below B' w w' := ⟨h.os, h.tape, h.output, h.size, fun k hk => h.block k (by omega), h.walk⟩
theorem callFunc_body {P : Program} {g : Nat} {fn : Func} {args : Array Value} {w : World} (h1 : P.funcs[g]? = some fn) (h2 : (fn.name == "runtime.NumGoroutine") = false) (h3 : fn.body.isSome = true) : (callFunc g args).run P w = .ok (.enter g args) w := by
  unfold callFunc
  rw [Sem.run_bind]
  have hp : (program).run P w = .ok P w := rfl
  rw [hp]
  simp only [Result.andThen_ok, h1, h2]
  have : fn.body.isNone = false := by cases hb : fn.body with
    | none => rw [hb] at h3; cases h3
    | some c => rfl
  rw [this]; rfl
end
/-- the mark of a loop's block -/
def mkD (D : Nat) : Deferred := { target := .collected D, args := #[] }
def Marks (ms : List Nat) (w w' : World) : Prop := ms.Nodup ∧ ∀ D ∈ ms, w.heap.size ≤ D ∧ w'.heap[D]? = some (.deferred (some []))
def Dfs (a a' : Act) (w w' : World) : Prop := ∃ ms, a'.defers = ms.map mkD ++ a.defers ∧ Marks ms w w'
theorem Dfs.of_eq {a a' : Act} {w w' : World} (h : a'.defers = a.defers) : Dfs a a' w w' := ⟨[], h, List.nodup_nil, fun D hD => by cases hD⟩
theorem heap_lt {w : World} {D : Nat} {o : Obj} (h : w.heap[D]? = some o) : D < w.heap.size := by
  rcases Nat.lt_or_ge D w.heap.size with h' | h'
  · exact h'
  · rw [Array.getElem?_eq_none h'] at h; cases h
theorem Dfs.trans {B : Nat} {a b c : Act} {w w1 w2 : World} (h : Dfs a b w w1) (k : Dfs b c w1 w2) (h1 : Below B w w1) (h2 : Below B w1 w2) : Dfs a c w w2 := by
  obtain ⟨ms, e1, n1, m1⟩ := h
  obtain ⟨ns, e2, n2, m2⟩ := k
  refine ⟨ns ++ ms, by rw [e2, e1, List.map_append, List.append_assoc], ?_, fun D hD => ?_⟩
  · rw [List.nodup_append]
    refine ⟨n2, n1, fun x hx y hy e => ?_⟩
    subst e
    have := heap_lt (m1 x hy).2
    have := (m2 x hx).1
    omega
  · rcases List.mem_append.1 hD with hD | hD
    · exact ⟨Nat.le_trans h1.size (m2 D hD).1, (m2 D hD).2⟩
    · exact ⟨(m1 D hD).1, h2.walk D _ (m1 D hD).2 rfl⟩
theorem Dfs.same {a b c : Act} {w w1 w2 : World} (h : a.defers = b.defers) (k : Dfs b c w1 w2) (h1 : w.heap.size ≤ w1.heap.size) : Dfs a c w w2 := by
  obtain ⟨ns, e2, n2, m2⟩ := k
  exact ⟨ns, by rw [h]; exact e2, n2, fun D hD => ⟨Nat.le_trans h1 (m2 D hD).1, (m2 D hD).2⟩⟩
section
variable {C : Cx} {tb : Tab} {B F : Nat} {Φ : Fence} {ν : Nat}
def Post (C : Cx) (tb : Tab) (B : Nat) (ρ : Rho) (S : St) (E' : Env) (S' : St) (a : Act) (w : World) (K : Act → World → Prop) : Prop :=
  ∀ ρ' a' w', EnvOk C ρ' E' a' → Dfs a a' w w' → Fits C tb.ng B ρ' S'.heap w' → Ext ρ ρ' S.next S'.next → Below B w w' → K a' w'
theorem Good.le {α : Type} {m : M α} (h : Good m) {S S' : St} {x : α} (hm : m S = some (x, S')) : S.next ≤ S'.next := h.mono _ _ _ hm
theorem opsT_ok (hΦ : Wide Φ) (hcall : ∀ g, g < F → CROk C tb B (call tb g) (rnd tb g)) (ht : TabOk C tb) (hm : MetOk C tb) {ops : Array Oper} {Q : Exit → Act → World → Prop} :
    ∀ (f : Nat), f ≤ F → ∀ (r : List Oper) (n : Nat) (E : Env) (S : St) (E' : Env) (S' : St) (ρ : Rho) (a : Act) (w : World), (∀ k o, r[k]? = some o → ops[n + k]? = some o) → opsT tb f ops.toList r E S = some (E', S') →
      Fits C tb.ng B ρ S.heap w → tb.ng ≤ S.next → EnvOk C ρ E a → Free ρ S.next S'.next → Post C tb B ρ S E' S' a w (Q .normal) → wpOpsIn Φ ν C.P ops Q (List.range' n r.length) a w
  | 0, _, r, n, E, S, E', S', ρ, a, w, _, h, _, _, _, _, _ => by unfold opsT at h; exact (fail_inv h).elim
  | f + 1, hf, [], n, E, S, E', S', ρ, a, w, _, h, hF, hng, hE, hfree, hP => by
    unfold opsT at h
    obtain ⟨rfl, rfl⟩ := ret_inv h
    exact hP ρ a w hE (.of_eq rfl) hF (Ext.refl _ _ _) (Below.refl _ _)
  | f + 1, hf, o :: r, n, E, S, E', S', ρ, a, w, hr, h, hF, hng, hE, hfree, hP => by
    unfold opsT at h
    obtain ⟨b, hb, h1⟩ := lb h
    have ho : ops[n]? = some o := by simpa using hr 0 o rfl
    have hr' : ∀ k x, r[k]? = some x → ops[n + 1 + k]? = some x := fun k x hk => by
      have := hr (k + 1) x (by simpa using hk)
      rw [show n + 1 + k = n + (k + 1) by omega]; exact this
    have hwant := wanted_ok hE hb
    show wpOpsIn Φ ν C.P ops Q (n :: List.range' (n + 1) r.length) a w
    unfold wpOpsIn
    simp only [ho]
    rw [hwant]
    cases b with
    | true =>
      rw [cond_true] at h1
      simp only [if_true]
      obtain ⟨v, S1, h2, h3⟩ := bnd_inv h1
      obtain ⟨E1, hp, h4⟩ := lb h3
      cases f with
      | zero => unfold oper at h2; exact (fail_inv h2).elim
      | succ g =>
        rw [oper_eq] at h2
        have l1 := (Good.operF (goodF tb g).call (goodF tb g).rnd o (op tb.ng E.tm)).le h2
        have l2 := ((goodF tb (g + 1)).opsT _ _ _).le h4
        refine operF_ok (hcall g (by omega)) ht hm h2 hF hng (fun x _ => op_ok hF hE x) (hfree.left l2) (fun ρ' x w' r1 r2 r3 r4 => ?_) hΦ
        have hs := r3.sub (hfree.left l2)
        refine opsT_ok hΦ hcall ht hm (g + 1) (Nat.le_of_succ_le hf) r (n + 1) E1 S1 E' S' ρ' (a.put o.dst x) w' hr' h4 r2 (by omega) ((hE.mono hs).put hp r1) (hfree.right l1 r3) fun ρ2 a2 w2 p1 p2 p3 p4 p5 => ?_
        exact hP ρ2 a2 w2 p1 (p2.same (put_tmps _ _ _).symm r4.size) p3 (r3.trans p4 l1 l2) (r4.trans p5)
    | false =>
      rw [cond_false] at h1
      simp only [Bool.false_eq_true, if_false]
      obtain ⟨E1, hp, h4⟩ := lb h1
      refine ⟨fun f _ => hΦ.fn f, ?_⟩
      refine opsT_ok hΦ hcall ht hm f (Nat.le_of_succ_le hf) r (n + 1) E1 S E' S' ρ (a.put o.dst undef) w hr' h4 hF hng (hE.put hp (by simp only [Rel, RelL]; exact ⟨[], rfl, rfl⟩)) hfree fun ρ2 a2 w2 p1 p2 p3 p4 p5 => ?_
      exact hP ρ2 a2 w2 p1 (p2.same (put_tmps _ _ _).symm (Nat.le_refl _)) p3 p4 p5
theorem rw_of {ρ : Rho} {S : St} {w : World} {hi : Nat} {ng : Nat} (hF : Fits C ng B ρ S.heap w) (hfree : Free ρ S.next hi) : Rw S hi := fun v h1 h2 => by
  cases hg : S.heap.get v with
  | none => rfl
  | some k =>
    obtain ⟨r, hr, _⟩ := hF.blk v k hg
    rw [hfree v h1 h2] at hr; cases hr
/-- what is asked of code: its regions that draw; in a round no range over a function -/
def COk (Φ : Fence) (c : Code) : Prop := codeOk c = true ∧ (Φ.round = none ∨ flat c = true)
theorem COk.seq {x y : Code} (h : COk Φ (.seq x y)) : COk Φ x ∧ COk Φ y := by
  obtain ⟨h1, h2⟩ := h
  simp only [codeOk, flat, Bool.and_eq_true] at h1 h2
  exact ⟨⟨h1.1, h2.imp id And.left⟩, ⟨h1.2, h2.imp id And.right⟩⟩
theorem COk.cond {q : Operand} {x y : Code} (h : COk Φ (.cond q x y)) : COk Φ x ∧ COk Φ y := by
  obtain ⟨h1, h2⟩ := h
  simp only [codeOk, flat, Bool.and_eq_true] at h1 h2
  exact ⟨⟨h1.1, h2.imp id And.left⟩, ⟨h1.2, h2.imp id And.right⟩⟩
theorem COk.block {id : Nat} {x : Code} (h : COk Φ (.block id x)) : COk Φ x := h
theorem COk.loop {x : Code} (h : COk Φ (.loop x)) : COk Φ x := h
theorem Below.alloc {w : World} (o : Obj) (h : B ≤ w.heap.size) : Below B w (w.alloc o) := by
  have hk : ∀ k, k < w.heap.size → (w.alloc o).heap[k]? = w.heap[k]? := fun k hk => by
    show (w.heap.push o)[k]? = _
    rw [Array.getElem?_push, if_neg (by omega)]
  exact ⟨rfl, rfl, rfl, by show w.heap.size ≤ (w.heap.push o).size; simp, fun k hk' => hk k (by omega), fun k x hx _ => by rw [hk k (heap_lt hx)]; exact hx⟩
/-- an object turned that is a row or a record -/
theorem Below.putObj {w : World} {g : Nat} {o : Obj} (o' : Obj) (hg : w.heap[g]? = some o) (hr : isRow o = true) (hB : B ≤ g) : Below B w (w.putObj g o') := by
  refine ⟨rfl, rfl, rfl, by simp, fun k hk => World.putObj_heap_other (by omega), fun k x hx hx' => ?_⟩
  by_cases e : k = g
  · subst e; rw [hg] at hx; injection hx with hx; subst hx; rw [hr] at hx'; cases hx'
  · rw [World.putObj_heap_other e]; exact hx
theorem Fits.entry {ρ : Rho} {ng : Nat} {H : T Ent} {w : World} {v : Nat} {k : LRec} {r : R} (h : Fits C ng B ρ H w) (hv : H.get v = some (.j k)) (hr : ρ v = some r) : ∃ L, w.heap[r.blk]? = some (.loop L) ∧ RecAt C ρ B k r L := by
  obtain ⟨r', h1, o, h2, h3⟩ := h.blk v _ hv
  rw [hr] at h1; injection h1 with h1; subst h1
  cases o with
  | loop L => exact ⟨L, h2, h3⟩
  | _ => exact h3.elim
/-- a record turned -/
theorem Fits.putJ {ρ : Rho} {ng : Nat} {H : T Ent} {w : World} {v : Nat} {k k' : LRec} {r : R} {L L' : Loop} (h : Fits C ng B ρ H w) (hn : v ≤ 16777213) (hv : H.get v = some (.j k)) (hr : ρ v = some r)
    (hL : w.heap[r.blk]? = some (.loop L)) (hk : RecAt C ρ B k' r L') : Fits C ng B ρ (H.set v (.j k')) (w.putObj r.blk (.loop L')) :=
  h.upd hn hv hr (k' := .j k') (o := .loop L') hk (World.putObj_heap_same (heap_lt hL)) (fun b hb => World.putObj_heap_other hb) (by simp) (fun b hb => World.putObj_heap_other (by have := hk.own; omega))
/-- a record done with -/
theorem Fits.drop {ρ : Rho} {ng : Nat} {H : T Ent} {w : World} {v : Nat} {k : LRec} {r : R} {L : Loop} (o : Obj) (h : Fits C ng B ρ H w) (hn : v ≤ 16777213) (hv : H.get v = some (.j k)) (hr : ρ v = some r)
    (hk : RecAt C ρ B k r L) : Fits C ng B ρ (H.del v) (w.putObj r.blk o) := by
  have hd : ∀ x kx, (H.del v).get x = some kx → x ≠ v ∧ H.get x = some kx := fun x kx hx => by
    rw [get_del _ _ _ hn] at hx; split at hx
    · cases hx
    · rename_i e; exact ⟨e, hx⟩
  refine ⟨by simpa using h.size, h.glob, fun u ku hu => ?_, fun a b k1 k2 r1 r2 ha hb => h.inj a b k1 k2 r1 r2 (hd _ _ ha).2 (hd _ _ hb).2, h.low, C.stab w _ (fun b hb => World.putObj_heap_other (by have := h.low; have := hk.own; omega)) h.inv⟩
  obtain ⟨e, hu'⟩ := hd u ku hu
  obtain ⟨r', h1, o', h2, h3⟩ := h.blk u ku hu'
  refine ⟨r', h1, o', ?_, h3⟩
  rw [World.putObj_heap_other (fun e' => e (h.inj u v ku (.j k) r' r hu' hv h1 hr e'))]; exact h2
/-- a block of deferred calls shut -/
theorem Fits.putD {ρ : Rho} {ng : Nat} {H : T Ent} {w : World} {D : Nat} {ds : Option (List Deferred)} (o : Obj) (h : Fits C ng B ρ H w) (hD : w.heap[D]? = some (.deferred ds)) (hB : B ≤ D) : Fits C ng B ρ H (w.putObj D o) := by
  refine ⟨by simpa using h.size, h.glob, fun u ku hu => ?_, h.inj, h.low, C.stab w _ (fun b hb => World.putObj_heap_other (by have := h.low; omega)) h.inv⟩
  obtain ⟨r', h1, o', h2, h3⟩ := h.blk u ku hu
  refine ⟨r', h1, o', ?_, h3⟩
  rw [World.putObj_heap_other (fun e => ?_)]
  · exact h2
  · subst e; rw [hD] at h2; injection h2 with h2; subst h2; cases ku <;> exact h3
theorem stOf_busy {n : Nat} (h : Nat.beq n 1 = false) : stOf n ≠ .busy := by
  match n with
  | 0 => intro e; cases e
  | 1 => cases h
  | n + 2 => intro e; cases e
theorem code_ok (hΦ : Wide Φ) (hcall : ∀ g, g < F → CROk C tb B (call tb g) (rnd tb g)) (ht : TabOk C tb) (hm : MetOk C tb) (hmix : C.P.follows .mixedOrders = true) (hfn : ∀ g fi, tb.fn.get g = some fi → ∃ fn, FnOk C tb g fi fn) :
    ∀ (f : Nat), f ≤ F → ∀ (c : Code) (E : Env) (S : St) (ex : Ex) (E' : Env) (S' : St) (ρ : Rho) (a : Act) (w : World) (Q : Exit → Act → World → Prop), COk Φ c → code tb f c E S = some ((ex, E'), S') →
      Fits C tb.ng B ρ S.heap w → tb.ng ≤ S.next → EnvOk C ρ E a → Free ρ S.next S'.next → Post C tb B ρ S E' S' a w (Q (exOf ex)) → c.wpIn Φ ν C.P Q a w ∧ ∀ z, c = .loop z → Code.roundsIn Φ ν C.P z Q f a w
  | 0, _, c, E, S, ex, E', S', ρ, a, w, Q, _, h, _, _, _, _, _ => by unfold code at h; exact (fail_inv h).elim
  | f + 1, hf, c, E, S, ex, E', S', ρ, a, w, Q, hc, h, hF, hng, hE, hfree, hP => by
    have hf' := Nat.le_of_succ_le hf
    have here : ∀ {x : Ex}, (x, E) = (ex, E') → S' = S → Q (exOf x) a w := fun {x} e1 e2 => by
      injection e1 with e1 e3; subst e1; subst e2; subst e3
      exact hP ρ a w hE (.of_eq rfl) hF (Ext.refl _ _ _) (Below.refl _ _)
    cases c with
    | skip => unfold code at h; obtain ⟨e1, e2⟩ := ret_inv h; refine ⟨?_, fun z e => by cases e⟩; exact wpIn_skip (here e1.symm e2)
    | label l => unfold code at h; obtain ⟨e1, e2⟩ := ret_inv h; refine ⟨?_, fun z e => by cases e⟩; exact wpIn_label (here e1.symm e2)
    | exit id => unfold code at h; obtain ⟨e1, e2⟩ := ret_inv h; refine ⟨?_, fun z e => by cases e⟩; exact wpIn_exit (here e1.symm e2)
    | goto l => unfold code at h; obtain ⟨e1, e2⟩ := ret_inv h; refine ⟨?_, fun z e => by cases e⟩; exact wpIn_goto (here e1.symm e2)
    | ret => unfold code at h; obtain ⟨e1, e2⟩ := ret_inv h; refine ⟨?_, fun z e => by cases e⟩; exact wpIn_ret (here e1.symm e2)
    | seq x y =>
      refine ⟨?_, fun z e => by cases e⟩
      unfold code at h
      have hc := hc.seq
      obtain ⟨p, S1, h1, h2⟩ := bnd_inv h
      obtain ⟨ex1, E1⟩ := p
      have l1 := ((goodF tb f).code _ _).le h1
      refine wpIn_seq ?_
      cases ex1 with
      | normal =>
        simp only [] at h2
        have l2 := ((goodF tb f).code _ _).le h2
        refine And.left <| code_ok hΦ hcall ht hm hmix hfn f hf' x E S .normal E1 S1 ρ a w _ hc.1 h1 hF hng hE (hfree.left l2) fun ρ1 a1 w1 p1 p2 p3 p4 p5 => ?_
        show y.wpIn Φ ν C.P Q a1 w1
        refine And.left <| code_ok hΦ hcall ht hm hmix hfn f hf' y E1 S1 ex E' S' ρ1 a1 w1 Q hc.2 h2 p3 (by omega) p1 (hfree.right l1 p4) fun ρ2 a2 w2 q1 q2 q3 q4 q5 => ?_
        exact hP ρ2 a2 w2 q1 (p2.trans q2 p5 q5) q3 (p4.trans q4 l1 l2) (p5.trans q5)
      | exit id =>
        obtain ⟨e1, rfl⟩ := ret_inv h2
        injection e1 with e1 e2; subst e1; subst e2
        exact And.left <| code_ok hΦ hcall ht hm hmix hfn f hf' x E S _ _ _ ρ a w _ hc.1 h1 hF hng hE hfree hP
      | goto l =>
        obtain ⟨e1, rfl⟩ := ret_inv h2
        injection e1 with e1 e2; subst e1; subst e2
        exact And.left <| code_ok hΦ hcall ht hm hmix hfn f hf' x E S _ _ _ ρ a w _ hc.1 h1 hF hng hE hfree hP
      | ret =>
        obtain ⟨e1, rfl⟩ := ret_inv h2
        injection e1 with e1 e2; subst e1; subst e2
        exact And.left <| code_ok hΦ hcall ht hm hmix hfn f hf' x E S _ _ _ ρ a w _ hc.1 h1 hF hng hE hfree hP
    | cond q x y =>
      refine ⟨?_, fun z e => by cases e⟩
      unfold code at h
      have hc := hc.cond
      have hq := op_ok hF hE q
      simp only [] at h
      cases hop : op tb.ng E.tm q <;> rw [hop] at h hq <;> try exact (fail_inv h).elim
      rename_i b
      simp only [Rel] at hq
      refine wpIn_cond hq ?_
      cases b with
      | true => exact And.left <| code_ok hΦ hcall ht hm hmix hfn f hf' x E S ex E' S' ρ a w Q hc.1 h hF hng hE hfree hP
      | false => exact And.left <| code_ok hΦ hcall ht hm hmix hfn f hf' y E S ex E' S' ρ a w Q hc.2 h hF hng hE hfree hP
    | block id x =>
      refine ⟨?_, fun z e => by cases e⟩
      unfold code at h
      have hc := hc.block
      obtain ⟨p, S1, h1, h2⟩ := bnd_inv h
      obtain ⟨ex1, E1⟩ := p
      refine wpIn_block ?_
      cases ex1 with
      | exit j =>
        simp only [] at h2
        cases hj : Nat.beq j id with
        | true =>
          rw [hj, cond_true] at h2
          have hji := Nat.eq_of_beq_eq_true hj
          subst hji
          obtain ⟨e1, rfl⟩ := ret_inv h2
          injection e1 with e1 e2; subst e1; subst e2
          refine And.left <| code_ok hΦ hcall ht hm hmix hfn f hf' x E S (.exit j) _ _ ρ a w _ hc h1 hF hng hE hfree fun ρ1 a1 w1 p1 p2 p3 p4 p5 => ?_
          show Exit.inBlock j Q (.exit j) a1 w1
          simp only [Exit.inBlock, if_true]
          exact hP ρ1 a1 w1 p1 p2 p3 p4 p5
        | false =>
          rw [hj, cond_false] at h2
          have hji : j ≠ id := fun e => by rw [e, Nat.beq_refl] at hj; cases hj
          obtain ⟨e1, rfl⟩ := ret_inv h2
          injection e1 with e1 e2; subst e1; subst e2
          refine And.left <| code_ok hΦ hcall ht hm hmix hfn f hf' x E S (.exit j) _ _ ρ a w _ hc h1 hF hng hE hfree fun ρ1 a1 w1 p1 p2 p3 p4 p5 => ?_
          show Exit.inBlock id Q (.exit j) a1 w1
          simp only [Exit.inBlock, if_neg hji]
          exact hP ρ1 a1 w1 p1 p2 p3 p4 p5
      | normal =>
        obtain ⟨e1, rfl⟩ := ret_inv h2
        injection e1 with e1 e2; subst e1; subst e2
        exact And.left <| code_ok hΦ hcall ht hm hmix hfn f hf' x E S _ _ _ ρ a w _ hc h1 hF hng hE hfree hP
      | goto l =>
        obtain ⟨e1, rfl⟩ := ret_inv h2
        injection e1 with e1 e2; subst e1; subst e2
        exact And.left <| code_ok hΦ hcall ht hm hmix hfn f hf' x E S _ _ _ ρ a w _ hc h1 hF hng hE hfree hP
      | ret =>
        obtain ⟨e1, rfl⟩ := ret_inv h2
        injection e1 with e1 e2; subst e1; subst e2
        exact And.left <| code_ok hΦ hcall ht hm hmix hfn f hf' x E S _ _ _ ρ a w _ hc h1 hF hng hE hfree hP
    | loop x =>
      unfold code at h
      have hc0 := hc
      have hc := hc.loop
      obtain ⟨p, S1, h1, h2⟩ := bnd_inv h
      obtain ⟨ex1, E1⟩ := p
      have l1 := ((goodF tb f).code _ _).le h1
      refine (fun hr => ⟨wpIn_loop_rounds _ hr, fun z e => by cases e; exact hr⟩) (?_ : Code.roundsIn Φ ν C.P x Q (f + 1) a w)
      show x.wpIn Φ ν C.P (Exit.then (Code.roundsIn Φ ν C.P x Q f) Q) a w
      cases ex1 with
      | normal =>
        simp only [] at h2
        have l2 := ((goodF tb f).code _ _).le h2
        refine And.left <| code_ok hΦ hcall ht hm hmix hfn f hf' x E S .normal E1 S1 ρ a w _ hc h1 hF hng hE (hfree.left l2) fun ρ1 a1 w1 p1 p2 p3 p4 p5 => ?_
        show Code.roundsIn Φ ν C.P x Q f a1 w1
        refine (code_ok hΦ hcall ht hm hmix hfn f hf' (.loop x) E1 S1 ex E' S' ρ1 a1 w1 Q hc0 h2 p3 (by omega) p1 (hfree.right l1 p4) ?_).2 x rfl
        intro ρ2 a2 w2 q1 q2 q3 q4 q5
        exact hP ρ2 a2 w2 q1 (p2.trans q2 p5 q5) q3 (p4.trans q4 l1 l2) (p5.trans q5)
      | exit id =>
        obtain ⟨e1, rfl⟩ := ret_inv h2
        injection e1 with e1 e2; subst e1; subst e2
        exact And.left <| code_ok hΦ hcall ht hm hmix hfn f hf' x E S _ _ _ ρ a w _ hc h1 hF hng hE hfree hP
      | goto l =>
        obtain ⟨e1, rfl⟩ := ret_inv h2
        injection e1 with e1 e2; subst e1; subst e2
        exact And.left <| code_ok hΦ hcall ht hm hmix hfn f hf' x E S _ _ _ ρ a w _ hc h1 hF hng hE hfree hP
      | ret =>
        obtain ⟨e1, rfl⟩ := ret_inv h2
        injection e1 with e1 e2; subst e1; subst e2
        exact And.left <| code_ok hΦ hcall ht hm hmix hfn f hf' x E S _ _ _ ρ a w _ hc h1 hF hng hE hfree hP
    | region id ops draw =>
      refine ⟨?_, fun z e => by cases e⟩
      unfold code at h
      simp only [] at h
      cases draw with
      | false =>
        rw [cond_false] at h
        obtain ⟨E1, S1, h1, h2⟩ := bnd_inv h
        obtain ⟨e1, rfl⟩ := ret_inv h2
        injection e1 with e1 e2; subst e1; subst e2
        refine wpIn_region ?_
        have hlen : List.range ops.size = List.range' 0 ops.toList.length := by rw [List.range_eq_range', Array.length_toList]
        rw [hlen]
        exact opsT_ok hΦ hcall ht hm f hf' ops.toList 0 E S _ _ ρ a w (fun k o hk => by rw [Nat.zero_add]; simpa using hk) h1 hF hng hE hfree hP
      | true =>
        rw [cond_true] at h
        obtain ⟨p, S1, h1, h2⟩ := bnd_inv h
        obtain ⟨E1, l1⟩ := p
        obtain ⟨hord, h3⟩ := cond_inv h2
        obtain ⟨e1, rfl⟩ := ret_inv h3
        injection e1 with e1 e2; subst e1; subst e2
        have hreg : regOk ops.toList = true := by simpa [codeOk] using hc.1
        obtain ⟨Es, Ss, bs, vs, As, Ws, htr, t1, t2, t3, t4⟩ := tr_of hf' hreg h1 hord (rw_of hF hfree)
        refine wpIn_region_any hmix ?_
        have hF1 : Fits C tb.ng B ρ S.heap { w with drawn := w.drawn + 1 } := ⟨hF.size, hF.glob, hF.blk, hF.inj, hF.low, C.stab w _ (fun _ _ => rfl) hF.inv⟩
        have hb1 : Below B w { w with drawn := w.drawn + 1 } := ⟨rfl, rfl, rfl, Nat.le_refl _, fun _ _ => rfl, fun _ _ h _ => h⟩
        have hrep : ∀ k, (Array.replicate ops.size false).getD k false = false := fun k => by
          rw [Array.getD_eq_getD_getElem?, Array.getElem?_replicate]; split <;> rfl
        have hrw := rw_of hF hfree
        refine any_ok (ρ0 := ρ) (a0 := a) (w0 := { w with drawn := w.drawn + 1 }) htr (by rw [t1]; exact hE.2.1) (fun g hg => hcall g hg) ht hm (by rw [t2]; exact hng) hΦ
          (fun ρ' a' w' q1 q2 q3 q4 q5 => hP ρ' a' w' (by rw [← t3]; exact q1) (.of_eq q2) (by rw [← t4]; exact q3) (by rw [← t2, ← t4]; exact q4) (hb1.trans q5))
          ops.size (Array.replicate ops.size false) ρ S.heap a { w with drawn := w.drawn + 1 } (by simp) ?_ ?_
        · have : ∀ n, left (fun k => (Array.replicate ops.size false).getD k false) n ≤ n := by
            intro n
            induction n with
            | zero => exact Nat.le_refl _
            | succ n ih => unfold left; rw [hrep, cond_false]; omega
          exact this _
        · refine ⟨hF1, fun v => ?_, fun t x hx => ?_, fun j hj _ => ?_, Ext.refl _ _ _, by rw [t1]; exact hE.1, rfl, Below.refl _ _, fun i o e hi => by rw [hrep] at hi; cases hi⟩
          · rw [lw_none (X := fun k => (Ss k).heap.get v) _ (fun j _ => hrep j), t2]
          · rw [lw_none (X := fun k => (Es k).tm.get t) _ (fun j _ => hrep j), t1] at hx
            exact hE.2.2 t x hx
          · intro v hv1 hv2
            have m1 := mono_le htr.mono 0 j (by omega) (by omega)
            have m2 := mono_le htr.mono (j + 1) ops.size (by omega) (Nat.le_refl _)
            rw [t2] at m1; rw [t4] at m2
            exact hfree v (by omega) (by omega)
    | rangeFunc g ps x y =>
      refine ⟨?_, fun z e => by cases e⟩
      have hro : Φ.round = none := hc.2.resolve_right fun e => by cases e
      have hcx := hc.1
      simp only [codeOk, Bool.and_eq_true] at hcx
      unfold code at h
      simp only [] at h
      have hg := op_ok hF hE g
      cases hop : op tb.ng E.tm g <;> rw [hop] at h hg <;> try exact (fail_inv h).elim
      rename_i gf first cap
      obtain ⟨fi, e1, h1⟩ := lb h
      obtain ⟨hbody, h2⟩ := cond_inv h1
      obtain ⟨n, S1, h3, h4⟩ := bnd_inv h2
      obtain ⟨v, S2, h5, h6⟩ := bnd_inv h4
      obtain ⟨k, S3, h7, h8, h9, h10⟩ := rbJ h6
      obtain ⟨hst, h11⟩ := cond_inv' h10
      obtain ⟨u, S4, h12, h13⟩ := bnd_inv h11
      obtain ⟨e2, rfl⟩ := ret_inv h13
      injection e2 with e2 e3; subst e2; subst e3
      obtain ⟨rfl, n1, n2, n3⟩ := newE_inv h3
      obtain ⟨k1, k2, k3, k4⟩ := kill_inv h12
      simp only [Rel] at hg
      obtain ⟨as, cs, hg, hr1, hr2⟩ := hg
      obtain ⟨fn, hfnk⟩ := hfn _ _ e1
      have l1 := ((goodF tb f).call _ _).le h5
      refine wpIn_rangeFunc fun fid _ => ?_
      have hb0 : Below B w (w.alloc (.deferred (some []))) := Below.alloc _ hF.size
      have hbA : Below w.heap.size w (w.alloc (.deferred (some []))) := Below.alloc _ (Nat.le_refl _)
      have hsz : (w.alloc (.deferred (some []))).heap.size = w.heap.size + 1 := by simp
      obtain ⟨L, hL⟩ : ∃ L : Loop, L = { state := .ready, pending := none, fn := fid, tmps := a.tmps, params := ps, assign := x, body := y, defers := w.heap.size } := ⟨_, rfl⟩
      have hb1 : Below B (w.alloc (.deferred (some []))) ((w.alloc (.deferred (some []))).alloc (.loop L)) := Below.alloc _ (by have := hF.size; omega)
      have hfr : ρ S.next = none := hfree _ (Nat.le_refl _) (by omega)
      have hF1 : Fits C tb.ng B (put1 ρ S.next ⟨w.heap.size + 1, 0, 0, 0⟩) S1.heap ((w.alloc (.deferred (some []))).alloc (.loop L)) := by
        rw [n2]
        refine (hF.kept hbA).new n1 hng hfr (by rw [hsz]) (o := .loop L) ?_ rfl
        refine ⟨by have := hF.size; show B ≤ w.heap.size + 1; omega, by rw [hL], by rw [hL], by rw [hL], hcx.1, hcx.2, by rw [hL]; exact hE.1, hE.2.1, fun t z hz => by rw [hL]; exact hE.2.2 t z hz, by rw [hL]; rfl, by rw [hL]; rfl⟩
      have hsub := put1_sub (r := ⟨w.heap.size + 1, 0, 0, 0⟩) hfr
      have hext := put1_ext ρ S.next ⟨w.heap.size + 1, 0, 0, 0⟩
      rw [← n3] at hext
      have hown : put1 ρ S.next ⟨w.heap.size + 1, 0, 0, 0⟩ S.next = some ⟨w.heap.size + 1, 0, 0, 0⟩ := by simp [put1]
      have hargs : RelL C (put1 ρ S.next ⟨w.heap.size + 1, 0, 0, 0⟩) (first ++ (.yl S.next :: cap)) (as ++ (.func (.yield (w.heap.size + 1)) #[] #[] :: cs)) := by
        refine (RelL.mono hsub _ _ hr1).app ?_
        simp only [RelL]
        exact ⟨_, _, rfl, by simp only [Rel]; exact ⟨_, hown, rfl⟩, RelL.mono hsub _ _ hr2⟩
      have hbo : fn.body.isSome = true := by rw [hfnk.body]; exact hbody
      have harr : (⟨as⟩ ++ #[Value.func (.yield (w.heap.size + 1)) #[] #[]] ++ ⟨cs⟩ : Array Value) = ⟨as ++ (.func (.yield (w.heap.size + 1)) #[] #[] :: cs)⟩ := by
        apply Array.toList_inj.1; simp
      refine ⟨w.heap.size + 1, [mkD w.heap.size], (w.alloc (.deferred (some []))).alloc (.loop L), { target := .fn (.func gf) ⟨cs⟩, args := ⟨as⟩ ++ #[.func (.yield (w.heap.size + 1)) #[] #[]] }, (w.alloc (.deferred (some []))).alloc (.loop L), gf, ⟨as ++ (.func (.yield (w.heap.size + 1)) #[] #[] :: cs)⟩, (w.alloc (.deferred (some []))).alloc (.loop L), ?_, ?_, fun f' _ => hΦ.fn f', ?_, hΦ.deep ν, ?_⟩
      · rw [hro, run_enterLoop_outer, hL]; rfl
      · simp only [resolve, hg, Deferred.ofValue]
        rw [Sem.run_pure]
        simp [Act.eval]
      · simp only [invoke]
        rw [harr]
        exact callFunc_body hfnk.at_ hfnk.name hbo
      · have hcl := (hcall f (by omega)).1 gf _ _ _ _ _ _ _ { dst := none, op := default, type := 0, pos := "", after := #[], guard := none } a (fun _ w3 => rangePost Φ ν C.P (w.heap.size + 1) Q { a with defers := [mkD w.heap.size] ++ a.defers } (.returned undef) w3)
          (fun e _ w3 => Q e { a with defers := [mkD w.heap.size] ++ a.defers } w3) Φ ν hΦ h5 hF1 (by omega) hargs ((hfree.right (by omega) hext).left (by omega)) ?_
        · rw [callFunc_body hfnk.at_ hfnk.name hbo, Oper.uponIn_enter] at hcl
          refine CallsIn.mono hcl.2 fun e w3 he => ?_
          cases e with
          | returned v => exact he
          | panicked chain => exact he
          | outgrown => obtain ⟨_, w4, hq⟩ := he; exact ⟨_, w4, hq⟩
        · intro ρ2 xv w2 q1 q2 q3 q4
          have hs2 := q3.sub ((hfree.right (by omega) hext).left (by omega))
          have hown2 := hs2 _ _ hown
          obtain ⟨L2, hL2, hk2⟩ := q2.entry h7 hown2
          have hend := run_endLoop (P := C.P) hL2 (by rw [hk2.st]; exact stOf_busy hst)
          have hbB : Below B w2 (w2.putObj (w.heap.size + 1) (.loop { L2 with state := .exhausted })) := Below.putObj _ hL2 rfl hk2.own
          have hbelow : Below B w (w2.putObj (w.heap.size + 1) (.loop { L2 with state := .exhausted })) := ((hb0.trans hb1).trans q4).trans hbB
          have hdat : ((w.alloc (.deferred (some []))).alloc (.loop L)).heap[w.heap.size]? = some (.deferred (some [])) := hb1.walk _ _ (World.alloc_heap_new w _) rfl
          have hq : Q (exOf k.pend) { a with defers := [mkD w.heap.size] ++ a.defers } (w2.putObj (w.heap.size + 1) (.loop { L2 with state := .exhausted })) := by
            refine hP ρ2 _ _ (EnvOk.mono (a := a) hE fun v r hv => hs2 _ _ (hsub _ _ hv)) ⟨[w.heap.size], rfl, by simp, fun D hD => ?_⟩ ?_ (hext.trans (by rw [k4, h9]; exact q3) (by omega) (by omega)) hbelow
            · rw [List.mem_singleton] at hD; subst hD
              exact ⟨Nat.le_refl _, (q4.trans hbB).walk _ _ hdat rfl⟩
            · rw [k3, h8]
              exact q2.drop _ n1 h7 hown2 hk2
          refine ⟨L2.pending, _, hend, ?_⟩
          rw [hk2.pend] at hq ⊢
          generalize k.pend = ex at hq ⊢
          cases ex with
          | normal => exact hq
          | exit id => exact wpIn_exit hq
          | goto l => exact wpIn_goto hq
          | ret => exact wpIn_ret hq
    | _ => unfold code at h; exact (fail_inv h).elim
end
end Go.AX
end
section
set_option linter.unusedSimpArgs false
set_option linter.unusedVariables false
namespace Go.AX
section
variable {C : Cx} {tb : Tab} {B : Nat}
theorem callFunc_ext {P : Program} {g : Nat} {fn : Func} {args : Array Value} {w w' : World} {r : Array Value → Sem Value} {x : Value} (h1 : P.funcs[g]? = some fn) (h2 : (fn.name == "runtime.NumGoroutine") = false) (h3 : fn.body = none)
    (h4 : Extern.findNext fn = none) (h5 : Extern.find fn = some r) (h6 : (r args).run P w = .ok x w') : (callFunc g args).run P w = .ok (.value x) w' := by
  unfold callFunc
  rw [Sem.run_bind]
  have hp : (program).run P w = .ok P w := rfl
  rw [hp]
  simp only [Result.andThen_ok, h1, h2, h3, h4, h5, Option.isNone_none]
  simp [h6, Sem.run_bind]
theorem Rel.ofNone {ρ : Rho} {v : AV} {x : Value} (h : Rel C (fun _ => none) v x) : Rel C ρ v x := Rel.mono (fun v r hv => by cases hv) v x h
/-- the temporaries with what a round is handed -/
theorem putAll_ok {ρ : Rho} : ∀ (ps : List Nat) (vs : List AV) (args : List Value) (E E' : Env) (a : Act), putAll E ps vs = some E' → RelL C ρ vs args → EnvOk C ρ E a →
    ps.length = args.length ∧ EnvOk C ρ E' { tmps := (ps.zip args).foldl (fun (t : Array Value) (p : Nat × Value) => t.setIfInBounds p.1 p.2) a.tmps, defers := [] }
  | [], [], args, E, E', a, h, hr, hE => by
    simp only [putAll, Option.some.injEq] at h; subst h
    simp only [RelL] at hr; subst hr
    exact ⟨rfl, hE⟩
  | [], v :: vs, args, E, E', a, h, hr, hE => by simp [putAll] at h
  | d :: ps, [], args, E, E', a, h, hr, hE => by simp [putAll] at h
  | d :: ps, v :: vs, args, E, E', a, h, hr, hE => by
    unfold putAll at h
    cases hp : E.put (some d) v with
    | none => rw [hp] at h; cases h
    | some E1 =>
      rw [hp] at h
      simp only [RelL] at hr
      obtain ⟨x, xs, rfl, h1, h2⟩ := hr
      obtain ⟨g1, g2⟩ := putAll_ok ps vs xs E1 E' (a.put (some d) x) h h2 (hE.put hp h1)
      exact ⟨by simp [g1], g2⟩
/-- a frame on its way out by its marks -/
theorem leave_marks {Φ : Fence} {n : Nat} {fn : Func} {tmps : Array Value} {R : Ending → World → Prop} {ρ : Rho} {H : T Ent} {ng : Nat} {w : World} (hB : B ≤ w.heap.size) :
    ∀ (ms : List Nat) (w1 : World), ms.Nodup → (∀ D ∈ ms, w.heap.size ≤ D ∧ w1.heap[D]? = some (.deferred (some []))) → Fits C ng B ρ H w1 → Below B w w1 →
      (∀ w2, Fits C ng B ρ H w2 → Below B w w2 → LeavesIn Φ n C.P fn tmps R [] .returning w2) → LeavesInM Φ n C.P fn tmps R (ms.map mkD) .returning w1
  | [], w1, _, _, hF, hb, hk => hk w1 hF hb
  | D :: ms, w1, hn, hm, hF, hb, hk => by
    obtain ⟨h1, h2⟩ := hm D (List.mem_cons_self ..)
    rw [List.nodup_cons] at hn
    refine ⟨by simp, .inl ⟨D, w1.putObj D (.deferred none), rfl, run_takeDeferred h2, ?_⟩⟩
    refine leave_marks hB ms _ hn.2 (fun D' hD' => ?_) (hF.putD _ h2 (by omega)) ⟨hb.os, hb.tape, hb.output, by simpa using hb.size, fun k hk => ?_, fun k o hk ho => ?_⟩ hk
    · obtain ⟨g1, g2⟩ := hm D' (List.mem_cons_of_mem _ hD')
      exact ⟨g1, by rw [World.putObj_heap_other (fun e => hn.1 (by rw [← e]; exact hD'))]; exact g2⟩
    · rw [World.putObj_heap_other (by omega)]; exact hb.block k hk
    · rw [World.putObj_heap_other (by have := heap_lt hk; omega)]; exact hb.walk k o hk ho
theorem Wide.inRound {Φ : Fence} (h : Wide Φ) (l : Nat) : Wide (Φ.inRound l) := by
  rcases h with rfl | ⟨l', rfl⟩ <;> exact .inr ⟨l, rfl⟩
theorem isN_jump (ex : Ex) : (jumpOf ex).isNone = isN ex := by cases ex <;> rfl
theorem cr_ok (h : AllOk C tb) : ∀ f, CROk C tb B (call tb f) (rnd tb f) := by
  intro f
  induction f using Nat.strongRecOn with
  | _ f ih =>
    cases f with
    | zero =>
      refine ⟨?_, ?_⟩
      · intro g l S v S' ρ w args o a next Q Φ ν hΦ hc; unfold call at hc; exact (fail_inv hc).elim
      · intro g l S v S' ρ w args o a next Q Φ ν r hΦ hc; unfold rnd at hc; exact (fail_inv hc).elim
    | succ f =>
      have hcalls : ∀ g, g < f + 1 → CROk C tb B (call tb g) (rnd tb g) := fun g hg => ih g hg
      refine ⟨?_, ?_⟩
      · intro g l S v S' ρ w args o a next Q Φ ν hΦ hc hF hng hl hfree hk
        unfold call at hc
        obtain ⟨fi, e1, h1⟩ := lb hc
        obtain ⟨fn, hfn⟩ := h.fn g fi e1
        have main : (match fi.body with
            | none => ext tb fi.ext l
            | some c => cond (Nat.ble l.length fi.ntmps && Nat.ble fi.ntmps 16777213) (bnd (code tb f c ⟨args0 l 0 .leaf, fi.ntmps⟩) fun r => match r.1 with
              | .normal | .ret => results tb fi.res r.2
              | _ => AX.fail) AX.fail) S = some (v, S') → o.uponIn Φ ν C.P a next Q ((callFunc g ⟨args⟩).run C.P w) := by
          intro h1
          cases hb : fi.body with
          | none =>
            rw [hb] at h1
            rcases hfn.ext hb with he0 | ⟨x1, r, x2, x3⟩
            · rw [he0] at h1; simp only [ext] at h1; exact (fail_inv h1).elim
            obtain ⟨ρ', x, w', r1, r2, r3, r4, r5⟩ := x3 B l S v S' ρ w args h1 hF hng hl hfree
            rw [callFunc_ext hfn.at_ hfn.name (by rw [hfn.body, hb]) x1 x2 r1]
            exact hk ρ' x w' r2 r3 r4 r5
          | some c =>
            rw [hb] at h1
            simp only [] at h1
            obtain ⟨hcnd, h2⟩ := cond_inv h1
            rw [Bool.and_eq_true] at hcnd
            obtain ⟨p, S1, h3, h4⟩ := bnd_inv h2
            obtain ⟨ex, E1⟩ := p
            have hbody : fn.body = some c := by rw [hfn.body, hb]
            rw [callFunc_body hfn.at_ hfn.name (by rw [hbody]; rfl)]
            rw [Oper.uponIn_enter]
            refine ⟨hΦ.deep ν, ?_⟩
            have l1 := ((goodF tb f).code _ _).le h3
            have hend : (ex = .normal ∨ ex = .ret) → results tb fi.res E1 S1 = some (v, S') → CallsIn Φ (ν - 1) C.P g ⟨args⟩ w fun
                | .returned v, w'' => next (a.put o.dst v) w''
                | .panicked chain, w'' => Q (.panic chain) a w''
                | .outgrown, _ => LetsOut Q := fun hex hr => by
              have l2 := (Good.results tb _ _).le hr
              refine hΦ.out (callsIn_of_wp_marks hfn.at_ hbody trivial ?_)
              refine And.left <| code_ok wide_wide hcalls h.tab h.met h.mix h.fn f (Nat.le_succ f) c _ S ex E1 S1 ρ _ w _ ⟨hfn.reg c hb, .inl rfl⟩ h3 hF hng
                (by rw [hfn.nt]; exact env0_ok hl (Nat.le_of_ble_eq_true hcnd.1) (Nat.le_of_ble_eq_true hcnd.2)) (hfree.left l2) fun ρ' a' w' q1 q2 q3 q4 q5 => ?_
              rw [← hfn.res] at hr
              obtain ⟨ms, d1, d2, d3⟩ := q2
              have hend : bodyPostM Fence.wide (ν - 1) C.P fn (fun
                | .returned v, w'' => next (a.put o.dst v) w''
                | .panicked chain, w'' => Q (.panic chain) a w''
                | .outgrown, _ => LetsOut Q) .normal a' w' := by
                show LeavesInM Fence.wide (ν - 1) C.P fn a'.tmps _ a'.defers .returning w'
                rw [d1]
                simp only [List.append_nil]
                refine leave_marks hF.size ms w' d2 d3 q3 q5 fun w2 k1 k2 => ?_
                obtain ⟨g1, g2, y, g3, g4⟩ := results_ok h.tab.toTyOk q1 k1 hr
                exact ⟨y, g3, hk ρ' y w2 g4 (by rw [g1]; exact k1) (by rw [g2]; exact q4) k2⟩
              rcases hex with hex | hex <;> rw [hex] <;> exact hend
            cases ex with
            | normal => exact hend (.inl rfl) h4
            | ret => exact hend (.inr rfl) h4
            | exit id => exact (fail_inv h4).elim
            | goto l => exact (fail_inv h4).elim
        cases hs : fi.sum with
        | none => rw [hs] at h1; exact main h1
        | some u =>
          rw [hs] at h1
          cases l with
          | cons x l => exact main h1
          | nil =>
            obtain ⟨rfl, rfl⟩ := ret_inv h1
            simp only [RelL] at hl
            subst hl
            obtain ⟨hsome, hsum⟩ := hfn.sum _ hs
            rw [callFunc_body hfn.at_ hfn.name (by rw [hfn.body]; exact hsome), Oper.uponIn_enter]
            refine ⟨hΦ.deep ν, hΦ.calls (Calls.mono (hsum w hF.inv (by have := hF.low; have := hF.size; omega)) fun e w' he => ?_)⟩
            obtain ⟨x, rfl, hx, hb⟩ := he
            exact hk ρ x w' hx.ofNone (hF.kept hb) (Ext.refl _ _ _) (Below.less hb hF.size)
      · intro n l S v S' ρ w args o a next Q Φ ν r hΦ hc hF hng hl hr hfree hk
        unfold rnd at hc
        obtain ⟨k, S1, e1, e2, e3, h1⟩ := rbJ hc
        obtain ⟨E, e4, h2⟩ := lb h1
        obtain ⟨p, S2, h3, h4⟩ := bnd_inv h2
        obtain ⟨ex, E2⟩ := p
        have hexn : ex = .normal := by
          cases ex with
          | normal => rfl
          | _ => exact (fail_inv h4).elim
        subst hexn
        obtain ⟨k1, S3, f1, f2, f3, h5⟩ := rbJ h4
        obtain ⟨hst, h6⟩ := cond_inv h5
        obtain ⟨u, S4, h7, h8⟩ := bnd_inv h6
        obtain ⟨q, S5, h9, h10⟩ := bnd_inv h8
        obtain ⟨eq, E5⟩ := q
        obtain ⟨k2, S6, g1, g2, g3, h11⟩ := rbJ h10
        obtain ⟨u2, S7, h12, h13⟩ := bnd_inv h11
        obtain ⟨hv, rfl⟩ := ret_inv h13
        obtain ⟨a1, a2, a3, a4⟩ := updE_inv h7
        obtain ⟨b1, b2, b3, b4⟩ := updE_inv h12
        have l1 := ((goodF tb f).code _ _).le h3
        have l2 := ((goodF tb f).code _ _).le h9
        obtain ⟨L, hL, hk0⟩ := hF.entry e1 hr
        have hE0 : EnvOk C ρ ⟨k.tm, k.nt⟩ { tmps := L.tmps, defers := [] } := ⟨hk0.size, hk0.nt, hk0.tm⟩
        obtain ⟨hlen, hE1⟩ := putAll_ok k.ps l args _ E _ e4 hl hE0
        have hsz : (⟨args⟩ : Array Value).size = L.params.size := by
          show args.length = _
          rw [← hlen, ← hk0.ps, Array.length_toList]
        have hfold : (L.params.zip (⟨args⟩ : Array Value)).foldl (fun tmps (t, a) => tmps.setIfInBounds t a) L.tmps = (k.ps.zip args).foldl (fun (t : Array Value) (p : Nat × Value) => t.setIfInBounds p.1 p.2) L.tmps := by
          rw [← Array.foldl_toList, Array.toList_zip, hk0.ps]
        rw [run_yield hL hsz, Oper.uponIn_round]
        refine ⟨hΦ.deep ν, roundIn_of_wpIn (hΦ.fn _) ?_⟩
        rw [hfold, hk0.asg, hk0.body]
        rw [← e2] at hF
        refine And.left <| code_ok (hΦ.inRound r.blk) hcalls h.tab h.met h.mix h.fn f (Nat.le_succ f) k.asg E S1 .normal E2 S2 ρ _ w _ ⟨hk0.okA.1, .inr hk0.okA.2⟩ h3 hF (by omega) hE1
          (by rw [e3]; exact hfree.left (by omega)) fun ρ1 c1 w1 p1 p2 p3 p4 p5 => ?_
        show ∃ w₂, (Instr.beginRound r.blk).run C.P w1 = .ok () w₂ ∧ k.body.wpIn (Φ.inRound r.blk) (ν - 1) C.P (roundPost C.P r.blk _) c1 w₂
        have hs1 : Sub ρ ρ1 := p4.sub (by rw [e3]; exact hfree.left (by omega))
        have hr1 := hs1 _ _ hr
        obtain ⟨L1, hL1, hk1⟩ := p3.entry f1 hr1
        have hst0 : k1.st = 0 := Nat.eq_of_beq_eq_true hst
        refine ⟨_, run_beginRound hL1 (by rw [hk1.st, hst0]; rfl), ?_⟩
        have hkb : RecAt C ρ1 B ⟨k1.ps, k1.asg, k1.body, k1.tm, k1.nt, 1, k1.pend⟩ r { L1 with state := .busy } := { hk1 with st := rfl }
        have hF2 : Fits C tb.ng B ρ1 S4.heap (w1.putObj r.blk (.loop { L1 with state := .busy })) := by
          rw [a3, f2]
          exact p3.putJ a2 f1 hr1 hL1 hkb
        have hb2 : Below B w1 (w1.putObj r.blk (.loop { L1 with state := .busy })) := Below.putObj _ hL1 rfl hk1.own
        have hf1 : Free ρ1 S4.next S5.next := by
          rw [a4, f3]
          exact Free.left (hfree.right (by omega) (by rw [e3] at p4; exact p4)) (by omega)
        refine And.left <| code_ok (hΦ.inRound r.blk) hcalls h.tab h.met h.mix h.fn f (Nat.le_succ f) k.body E2 S4 eq E5 S5 ρ1 _ _ _ ⟨hk0.okB.1, .inr hk0.okB.2⟩ h9 hF2 (by omega) p1 hf1 fun ρ2 c2 w3 q1 q2 q3 q4 q5 => ?_
        have hs2 : Sub ρ1 ρ2 := q4.sub hf1
        have hr2 := hs2 _ _ hr1
        obtain ⟨L2, hL2, hk2⟩ := q3.entry g1 hr2
        have hend := run_endRound (P := C.P) (jumpOf eq) hL2
        have hkc : RecAt C ρ2 B ⟨k2.ps, k2.asg, k2.body, k2.tm, k2.nt, cond (isN eq) 0 2, eq⟩ r { L2 with state := if (jumpOf eq).isNone then .ready else .done, pending := jumpOf eq } :=
          { hk2 with st := (by rw [isN_jump]; cases isN eq <;> rfl), pend := rfl }
        have hF3 : Fits C tb.ng B ρ2 S'.heap (w3.putObj r.blk (.loop { L2 with state := if (jumpOf eq).isNone then .ready else .done, pending := jumpOf eq })) := by
          rw [b3, g2]
          exact q3.putJ b2 g1 hr2 hL2 hkc
        have hb3 : Below B w3 (w3.putObj r.blk (.loop { L2 with state := if (jumpOf eq).isNone then .ready else .done, pending := jumpOf eq })) := Below.putObj _ hL2 rfl hk2.own
        have hext : Ext ρ ρ2 S.next S'.next := by
          rw [b4, g3]
          rw [e3] at p4
          rw [a4, f3] at q4
          exact p4.trans q4 (by omega) (by omega)
        have hfin := hk ρ2 (.bool (jumpOf eq).isNone) _ (by rw [hv, isN_jump]; simp only [Rel]) hF3 hext (((p5.trans hb2).trans q5).trans hb3)
        cases eq with
        | normal => exact ⟨_, _, hend, hfin⟩
        | exit id => exact ⟨_, _, hend, hfin⟩
        | goto l => exact ⟨_, _, hend, hfin⟩
        | ret => exact ⟨_, _, hend, hfin⟩
theorem call_ok (h : AllOk C tb) (f : Nat) : CallOk C tb B (call tb f) := (cr_ok h f).1
end
end Go.AX
end
section
set_option linter.unusedSimpArgs false
set_option linter.unusedVariables false
namespace Go.AX
/-- what a tree holds, with the numbers -/
def tl {α : Type} : T α → Nat → Nat → List (Nat × α)
  | .leaf, _, _ => []
  | .node v l r, s, m => (match v with | some x => [(s, x)] | none => []) ++ (tl l (Nat.add s m) (Nat.mul 2 m) ++ tl r (Nat.add s (Nat.mul 2 m)) (Nat.mul 2 m))
theorem tl_mem {α : Type} : ∀ (t : T α) (s m n : Nat) (x : α), t.get n = some x → (s + m * n, x) ∈ tl t s m
  | .leaf, s, m, n, x, h => by simp [T.get_leaf] at h
  | .node v l r, s, m, n, x, h => by
    rw [T.get_node] at h
    unfold tl
    by_cases h0 : n = 0
    · subst h0
      simp only [Nat.beq_refl, cond_true] at h
      subst h
      simp
    · have e0 : Nat.beq n 0 = false := by
        cases hb : Nat.beq n 0 with
        | false => rfl
        | true => exact absurd (Nat.eq_of_beq_eq_true hb) h0
      rw [e0, cond_false] at h
      have hmd : Nat.mod n 2 = n % 2 := rfl
      have hdv : Nat.div n 2 = n / 2 := rfl
      rw [hmd, hdv] at h
      refine List.mem_append_right _ ?_
      cases hm : Nat.beq (n % 2) 1 with
      | true =>
        rw [hm, cond_true] at h
        have h1 := Nat.eq_of_beq_eq_true hm
        refine List.mem_append_left _ ?_
        have := tl_mem l (Nat.add s m) (Nat.mul 2 m) (n / 2) x h
        have e : Nat.add s m + Nat.mul 2 m * (n / 2) = s + m * n := by
          show s + m + 2 * m * (n / 2) = _
          have : n = 2 * (n / 2) + 1 := by omega
          generalize n / 2 = q at this
          subst this
          rw [Nat.mul_add, Nat.mul_one, ← Nat.mul_assoc, Nat.mul_comm 2 m]; omega
        rw [e] at this; exact this
      | false =>
        rw [hm, cond_false] at h
        have h1 : n % 2 = 0 := by
          have : n % 2 ≠ 1 := fun e => by rw [e] at hm; cases hm
          omega
        have hsb : Nat.sub (n / 2) 1 = n / 2 - 1 := rfl
        rw [hsb] at h
        refine List.mem_append_right _ ?_
        have := tl_mem r (Nat.add s (Nat.mul 2 m)) (Nat.mul 2 m) (n / 2 - 1) x h
        have e : Nat.add s (Nat.mul 2 m) + Nat.mul 2 m * (n / 2 - 1) = s + m * n := by
          show s + 2 * m + 2 * m * (n / 2 - 1) = _
          have : n = 2 * (n / 2 - 1) + 2 := by omega
          generalize n / 2 - 1 = q at this
          subst this
          rw [Nat.mul_add, ← Nat.mul_assoc, Nat.mul_comm 2 m, Nat.mul_comm m 2]; omega
        rw [e] at this; exact this
theorem tl_get {α : Type} {t : T α} {n : Nat} {x : α} (h : t.get n = some x) : (n, x) ∈ tl t 0 1 := by
  have := tl_mem t 0 1 n x h
  rwa [Nat.zero_add, Nat.one_mul] at this
theorem map_at {α β : Type} {f g : α → β} : ∀ {l : List α}, l.map f = l.map g → ∀ x ∈ l, f x = g x
  | [], _, x, hx => by simp at hx
  | a :: l, h, x, hx => by
    simp only [List.map_cons, List.cons.injEq] at h
    rcases List.mem_cons.1 hx with e | e
    · rw [e]; exact h.1
    · exact map_at h.2 x e
/- what is asked of a seat's tables -/
def TyEq (P : Program) (tb : Tab) : Prop := (tl tb.ty 0 1).map (fun p => some p.2) = (tl tb.ty 0 1).map fun p => (P.info? p.1).map (mkTI P p.1)
def impAns (P : Program) (t d : Nat) : Option Bool := match P.underlying t, P.info? d with
  | some (.interface want), some i => some (Instr.missingMethod want i.methods).isNone
  | _, _ => none
def ImpEq (P : Program) (tb : Tab) : Prop := tb.imp.map (fun p => some p.2.2) = tb.imp.map fun p => impAns P p.1 p.2.1
def FnEq (P : Program) (tb : Tab) : Prop := (tl tb.fn 0 1).map (fun p => some (p.2.body, p.2.ntmps, p.2.res)) = (tl tb.fn 0 1).map fun p => (P.funcs[p.1]?).map fun fn => (fn.body, fn.ntmps, fn.results.toList)
noncomputable def fnChk (P : Program) (tb : Tab) : Bool := (tl tb.fn 0 1).all fun p => match P.funcs[p.1]? with
  | some fn => !(fn.name == "runtime.NumGoroutine") && (match p.2.body with | some c => codeOk c | none => true) && p.2.sum.isNone
  | none => false
def MetAt (P : Program) (t : Nat) (m : String) (g : Nat) : Prop := ∀ (x : Value) (w : World), (method (P.types.size + Made.depth) t x m).run P w = .ok (g, x) w
theorem impl_mem : ∀ (l : List (Nat × Nat × Bool)) (t d : Nat) (r : Bool), impl l t d = some r → (t, d, r) ∈ l
  | [], _, _, _, h => by simp [impl] at h
  | (a, b, q) :: l, t, d, r, h => by
    unfold impl at h
    cases hc : (Nat.beq a t && Nat.beq b d) with
    | true =>
      rw [hc, cond_true] at h; injection h with h; subst h
      rw [Bool.and_eq_true] at hc
      have e1 := Nat.eq_of_beq_eq_true hc.1
      have e2 := Nat.eq_of_beq_eq_true hc.2
      subst e1; subst e2; exact List.mem_cons_self ..
    | false => rw [hc, cond_false] at h; exact List.mem_cons_of_mem _ (impl_mem l t d r h)
theorem methd_mem : ∀ (l : List (Nat × String × Nat × Bool)) (t : Nat) (m : String) (r : Nat × Bool), methd l t m = some r → (t, m, r) ∈ l
  | [], _, _, _, h => by simp [methd] at h
  | (a, b, q) :: l, t, m, r, h => by
    unfold methd at h
    cases hc : (Nat.beq a t && b == m) with
    | true =>
      rw [hc, cond_true] at h; injection h with h; subst h
      rw [Bool.and_eq_true] at hc
      have e1 := Nat.eq_of_beq_eq_true hc.1
      have e2 := eq_of_beq hc.2
      subst e1; subst e2; exact List.mem_cons_self ..
    | false => rw [hc, cond_false] at h; exact List.mem_cons_of_mem _ (methd_mem l t m r h)
theorem allOk {C : Cx} {tb : Tab} (hty : TyEq C.P tb) (himp : ImpEq C.P tb) (hng : tb.ng = C.P.globals.size) (hhyp : tb.hyp = []) (hfn : FnEq C.P tb) (hchk : fnChk C.P tb = true)
    (hmet : ∀ t m g d, (t, m, g, d) ∈ tb.met → d = false ∧ MetAt C.P t m g) (hmix : C.P.follows .mixedOrders = true)
    (hext : ∀ g fi fn, tb.fn.get g = some fi → C.P.funcs[g]? = some fn → fi.body = none → fi.ext = 0 ∨ ExtOk C tb fi.ext fn) : AllOk C tb where
  tab := { ty := fun t ti h => by
             have := map_at hty _ (tl_get h)
             simp only [] at this
             cases hi : C.P.info? t with
             | none => rw [hi] at this; cases this
             | some i => rw [hi] at this; injection this with this; exact ⟨i, rfl, this⟩
           hyp := fun k r h => by rw [hhyp] at h; simp at h
           imp := fun t d r h => by
             have := map_at himp _ (impl_mem _ _ _ _ h)
             simp only [impAns] at this
             split at this
             · rename_i want i h1 h2
               injection this with this
               exact ⟨want, i, h1, h2, this.symm⟩
             · cases this
           ngl := hng }
  met := fun t m g d v u ρ x w h1 h2 h3 => by
    obtain ⟨rfl, hm⟩ := hmet t m g d (methd_mem _ _ _ _ h1)
    simp only [recv, cond_false, Option.some.injEq] at h2
    subst h2
    exact ⟨x, hm x w, h3⟩
  fn := fun g fi h => by
    have h1 := map_at hfn _ (tl_get h)
    have h2 := List.all_eq_true.1 hchk _ (tl_get h)
    simp only [] at h1 h2
    cases hf : C.P.funcs[g]? with
    | none => rw [hf] at h1; cases h1
    | some fn =>
      rw [hf] at h1 h2
      simp only [Option.map_some, Option.some.injEq, Prod.mk.injEq] at h1
      simp only [Bool.and_eq_true] at h2
      refine ⟨fn, hf, by simpa using h2.1.1, h1.1.symm, h1.2.1.symm, h1.2.2.symm, fun c hc => ?_, fun v hv => ?_, fun hb => hext g fi fn h hf hb⟩
      · have := h2.1.2; rw [hc] at this; exact this
      · have := h2.2; rw [hv] at this; cases this
  mix := hmix
/-- a call's answer set down -/
noncomputable def addSum (tb : Tab) (g : Nat) (fi : FI) (v : AV) : Tab := { tb with fn := tb.fn.set g { fi with sum := some v } }
theorem AllOk.sum {C : Cx} {tb : Tab} (h : AllOk C tb) {g : Nat} {fi : FI} {v : AV} (hg : g ≤ 16777213) (hfi : tb.fn.get g = some fi) (hb : fi.body.isSome = true) (hs : SumOk C g v) : AllOk C (addSum tb g fi v) where
  tab := ⟨⟨h.tab.ty⟩, ⟨h.tab.hyp⟩, h.tab.imp, h.tab.ngl⟩
  met := h.met
  mix := h.mix
  fn := fun g' fi' h' => by
    have h'' : (tb.fn.set g { fi with sum := some v }).get g' = some fi' := h'
    rw [get_set _ _ _ _ hg] at h''
    split at h''
    · rename_i e; subst e
      injection h'' with h''; subst h''
      obtain ⟨fn, hfn⟩ := h.fn _ _ hfi
      exact ⟨fn, hfn.at_, hfn.name, hfn.body, hfn.nt, hfn.res, hfn.reg, fun u hu => by
        simp only [Option.some.injEq] at hu; subst hu; exact ⟨hb, hs⟩, hfn.ext⟩
    · obtain ⟨fn, hfn⟩ := h.fn _ _ h''
      exact ⟨fn, hfn.at_, hfn.name, hfn.body, hfn.nt, hfn.res, hfn.reg, hfn.sum, hfn.ext⟩
theorem AllOk.hyps {C : Cx} {tb : Tab} (h : AllOk C tb) {hs : List (HK × AV)} (hh : ∀ k r, (k, r) ∈ hs → HOk C k r) : AllOk C { tb with hyp := hs } where
  tab := ⟨⟨h.tab.ty⟩, ⟨hh⟩, h.tab.imp, h.tab.ngl⟩
  met := h.met
  mix := h.mix
  fn := fun g fi hg => by
    obtain ⟨fn, hfn⟩ := h.fn g fi hg
    exact ⟨fn, hfn.at_, hfn.name, hfn.body, hfn.nt, hfn.res, hfn.reg, hfn.sum, hfn.ext⟩
/- the whole run -/
def rho0 (ng : Nat) : Rho := fun v => if v < ng then some ⟨v, 0, 0, 0⟩ else none
theorem run_ok {C : Cx} {tb : Tab} (h : AllOk C tb) {f g : Nat} {fi : FI} {l : List AV} {v : AV} {S' : St} {args : List Value} (hfi : tb.fn.get g = some fi) (hb : fi.body.isSome = true)
    (hc : call tb f g l ⟨.leaf, tb.ng, 0, 0⟩ = some (v, S')) (hl : RelL C (fun _ => none) l args) (w : World) (hi : C.inv w) (hsz : C.nst ≤ w.heap.size) :
    Calls C.P g ⟨args⟩ w fun e w' => ∃ x ρ, e = .returned x ∧ Rel C ρ v x ∧ Below w.heap.size w w' := by
  have hF : Fits C tb.ng w.heap.size (rho0 tb.ng) (T.leaf : T Ent) w := ⟨Nat.le_refl _, fun g hg => by simp [rho0, hg], fun v k hv => by simp [T.get_leaf] at hv, fun v v' k k' r r' hv => (by simp [T.get_leaf] at hv), hsz, hi⟩
  have hfree : Free (rho0 tb.ng) tb.ng S'.next := fun v h1 h2 => by simp only [rho0]; rw [if_neg (by omega)]
  obtain ⟨fn, hfn⟩ := h.fn g fi hfi
  have hu := call_ok (B := w.heap.size) h f g l ⟨.leaf, tb.ng, 0, 0⟩ v S' (rho0 tb.ng) w args ⟨some 0, .move (.const undef), 0, "", #[], none⟩ ⟨#[undef], []⟩
    (fun a' w' => ∃ ρ, Rel C ρ v (a'.tmps.getD 0 undef) ∧ Below w.heap.size w w') (fun _ _ _ => False) Fence.wide 0 wide_wide hc hF (Nat.le_refl _) (RelL.mono (fun v r hv => by cases hv) _ _ hl) hfree
    (fun ρ' x w' r1 r2 r3 r4 => ⟨ρ', by simpa [Act.put] using r1, r4⟩)
  rw [callFunc_body hfn.at_ hfn.name (by rw [hfn.body]; exact hb), Oper.uponIn_enter] at hu
  refine Calls.mono (callsIn_wide.1 hu.2) fun e w' he => ?_
  cases e with
  | returned x =>
    obtain ⟨ρ, h1, h2⟩ := he
    exact ⟨x, ρ, rfl, by simpa [Act.put] using h1, h2⟩
  | panicked c => exact he.elim
  | outgrown => obtain ⟨_, _, h⟩ := he; exact h.elim
end Go.AX
end
section
set_option linter.unusedSimpArgs false
set_option linter.unusedVariables false
namespace Go.AX
open Go.ChangeShapes Go.WideShapes
theorem Below.keptBut {w w' : World} (h : Below w.heap.size w w') (may : MemPlace → Prop) : w.keptBut w' may := by
  refine World.keptBut_mono (may := fun _ => False) (fun _ f => f.elim) ⟨h.os, h.output, fun i hi => ?_⟩
  have hk := (World.keptBut_refl w (fun _ => False)).2.2 i hi
  rw [h.block i hi]; exact hk
/-- what was there is as it was: the row's end -/
theorem post_below {H : Type} {enc : TypeId × Value → H} {P : Program} {f : Func} {s : ChangeSpec} {apart fresh handsOn again : Bool} {W W' : World} {args : Array Value} {v : Value} {ds gs : List (DataW H)} {old pa pv : List MemPlace}
    (hW : DataW.Whole enc P f.params.toList s.vars apart W args.toList ds gs old)
    (hr : ∀ (b : Nat) (sp : Nat → Bool) (hd : Bool), DataW.TrodAll enc P W' b sp hd f.resultTypes.toList (v.resultList f.resultTypes.size) (s.fn H (ds ++ gs)).results [])
    (ha : ∀ sp : Nat → Bool, (∀ p ∈ old, sp p.block = true) → DataW.TrodAll enc P W' 0 sp true f.params.toList args.toList (s.fn H (ds ++ gs)).args pa)
    (hv : ∀ sp : Nat → Bool, (∀ p ∈ old, sp p.block = true) → DataW.TrodVars enc P W' sp s.vars (s.fn H (ds ++ gs)).vars pv)
    (hp : old = pa ++ pv) (hb : Below W.heap.size W W')
    (hok : ∀ (j : Nat) (t : TypeId) (r : Value), f.resultTypes[j]? = some t → (v.resultList f.resultTypes.size)[j]? = some r → Value.okWide P W' .any 0 t r) :
    s.post enc P f apart fresh handsOn again W args v W' := by
  have hlt : ∀ p ∈ old, decide (p.block < W.heap.size) = true := fun p h => decide_eq_true (hW.lt p h)
  have hkeep : W.keptBut W' (fun p => p ∈ old ∧ (p ∈ ([] : List MemPlace) ∨ p ∈ pa ∨ p ∈ pv)) := Below.keptBut hb _
  have hfz : ∀ p : MemPlace, p ∈ old → ∀ off, W'.frozen? ⟨p.block, off, none⟩ = W.frozen? ⟨p.block, off, none⟩ := fun p h off => by
    unfold World.frozen?
    simp only [hb.block _ (hW.lt p h)]
  refine ⟨ds, gs, old, [], pa, pv, hW, hr _ _ _, ha _ hlt, hv _ hlt, hkeep, fun _ => ?_⟩
  obtain ⟨_, _, _, _, _, hz, hn⟩ := hW
  have hpp : ([] ++ pa) ++ pv = old := by rw [hp]; rfl
  refine ⟨hok, _, _, ([] ++ pa) ++ pv, ⟨[] ++ pa, pv, trodAll_append (ha _ (fun _ _ => rfl)) (hr _ _ _), hv _ (fun _ _ => rfl), rfl, fun b off hm => ?_, fun hh => ?_⟩, fun p hm _ => ?_⟩
  · rw [hpp] at hm
    exact (hfz _ hm off).trans (hz b off hm)
  · rw [hpp]; exact hn hh
  · rw [hpp] at hm; exact hm
end Go.AX
end
section
set_option linter.unusedSimpArgs false
set_option linter.unusedVariables false
namespace Go.AX
def hasAll (want : Array (String × TypeId)) (got : Array Method) : Bool := (want.toList.filter fun x => !got.any fun m => m.name == x.1 && m.sig == x.2).isEmpty
theorem least_isNone (l : List String) : (Instr.least l).isNone = l.isEmpty := by cases l <;> rfl
theorem orElse_isNone {α : Type} (a b : Option α) : (a <|> b).isNone = (a.isNone && b.isNone) := by cases a <;> rfl
theorem missing_none (want : Array (String × TypeId)) (got : Array Method) : (Instr.missingMethod want got).isNone = hasAll want got := by
  unfold Instr.missingMethod hasAll
  have key : ∀ (L : List (String × TypeId)), (Instr.least ((L.map (·.1)).partition (·.contains (Char.ofNat 46))).2 <|> Instr.least (((L.map (·.1)).partition (·.contains (Char.ofNat 46))).1.map fun id => (id.splitOn ".").getLastD id)).isNone = L.isEmpty := by
    intro L
    rw [orElse_isNone, least_isNone, least_isNone, List.partition_eq_filter_filter]
    cases L with
    | nil => rfl
    | cons x L =>
      simp only [List.map_cons, List.isEmpty_cons]
      cases hc : x.1.contains (Char.ofNat 46) with
      | true => simp [hc]; intro h1 _ h2; exact absurd h1 h2
      | false => simp [hc]; intro h1 _ h2; exact absurd h1 h2
  exact key _
def impAns' (P : Program) (t d : Nat) : Option Bool := match P.underlying t, P.info? d with
  | some (.interface want), some i => some (hasAll want i.methods)
  | _, _ => none
theorem impAns_eq (P : Program) (t d : Nat) : impAns P t d = impAns' P t d := by
  unfold impAns impAns'
  generalize P.underlying t = u
  generalize P.info? d = i
  cases u with
  | none => rfl
  | some u => cases u <;> first | rfl | (cases i with | none => rfl | some i => simp only [missing_none])
theorem impEq_of {P : Program} {tb : Tab} (h : tb.imp.map (fun p => some p.2.2) = tb.imp.map fun p => impAns' P p.1 p.2.1) : ImpEq P tb := by
  unfold ImpEq
  simp only [impAns_eq]; exact h
end Go.AX
end
section
set_option linter.unusedSimpArgs false
set_option linter.unusedVariables false
namespace Go.AX
section
variable {C : Cx} {tb : Tab} {fn : Func}
theorem none_of {α : Type} {o : Option α} (h : o.isNone = true) : o = none := by cases o with | none => rfl | some x => cases h
theorem rel1 {ρ : Rho} {a : AV} {vs : List Value} (h : RelL C ρ [a] vs) : ∃ x, vs = [x] ∧ Rel C ρ a x := by
  simp only [RelL] at h
  obtain ⟨x, vt, rfl, h1, rfl⟩ := h; exact ⟨x, rfl, h1⟩
theorem ext1_ok (h1 : (Extern.findNext fn).isNone = true) (h2 : Extern.find fn = some Extern.AbiNoEscape.same) : ExtOk C tb 1 fn := by
  refine ⟨none_of h1, _, h2, fun B l S v S' ρ w args h hF hng hl hfree => ?_⟩
  match l, h, hl with
  | [x], h, hl =>
    obtain ⟨rfl, rfl⟩ := ret_inv h
    obtain ⟨y, rfl, hy⟩ := rel1 hl
    exact ⟨ρ, y, w, rfl, hy, hF, Ext.refl _ _ _, Below.refl _ _⟩
  | [], h, _ => simp only [ext] at h; exact (fail_inv h).elim
  | _ :: _ :: _, h, _ => simp only [ext] at h; exact (fail_inv h).elim
theorem ext5_ok (h1 : (Extern.findNext fn).isNone = true) (h2 : Extern.find fn = some Extern.ReflectliteType.typeOf) (h3 : ∀ (t : TypeId) (w : World), (Extern.ReflectliteType.toType t).run C.P w = .ok (.iface tb.rty (.agg #[typeHandle C.P t])) w) : ExtOk C tb 5 fn := by
  refine ⟨none_of h1, _, h2, fun B l S v S' ρ w args h hF hng hl hfree => ?_⟩
  match l, h, hl with
  | [x], h, hl =>
    obtain ⟨y, rfl, hy⟩ := rel1 hl
    simp only [ext] at h
    cases x <;> try exact (fail_inv h).elim
    rename_i t u
    obtain ⟨rfl, rfl⟩ := ret_inv h
    simp only [Rel] at hy
    obtain ⟨z, rfl, _⟩ := hy
    refine ⟨ρ, .iface tb.rty (.agg #[typeHandle C.P t]), w, ?_, ?_, hF, Ext.refl _ _ _, Below.refl _ _⟩
    · exact h3 t w
    · simp only [Rel, RelL]; exact ⟨_, rfl, _, rfl, _, _, rfl, rfl, rfl⟩
  | [], h, _ => simp only [ext] at h; exact (fail_inv h).elim
  | _ :: _ :: _, h, _ => simp only [ext] at h; exact (fail_inv h).elim
theorem ofRtype_run {P : Program} {t : Nat} {w : World} (hp : P.packed t = false) : (Extern.ReflectliteType.ofRtype (.agg #[typeHandle P t])).run P w = .ok t w := by
  obtain ⟨s, hdef⟩ : ∃ s : String, Extern.ReflectliteType.ofRtype (.agg #[typeHandle P t]) = (do
    let u ← Extern.Rtype.ofHandle (typeHandle P t)
    Extern.Rtype.noPack s u
    pure u : Sem TypeId) := ⟨_, rfl⟩
  have e1 : (Extern.Rtype.ofHandle (typeHandle P t)).run P w = .ok t w := by
    simp [Extern.Rtype.ofHandle, handleType, typeHandle]
  have e2 : ∀ s, (Extern.Rtype.noPack s t).run P w = .ok () w := fun s => by simp [Extern.Rtype.noPack, hp]
  rw [hdef, Sem.run_bind, e1]
  simp only [Result.andThen_ok]
  rw [Sem.run_bind, e2]; rfl
theorem ext6_ok (hty : TyOk C.P tb) (h1 : (Extern.findNext fn).isNone = true)
    (h2 : Extern.find fn = some (Extern.ReflectliteType.method fun t => do Extern.Rtype.noPackHeld "Comparable" t; pure (.bool (← typeInfo t).comparable)))
    (h3 : ((tl tb.ty 0 1).all fun p => !C.P.packed p.1 && !C.P.holdsPacked C.P.depth p.1) = true) : ExtOk C tb 6 fn := by
  refine ⟨none_of h1, _, h2, fun B l S v S' ρ w args h hF hng hl hfree => ?_⟩
  have hform : ∃ t, l = [.ag [.h t]] := by
    cases l with
    | nil => simp only [ext] at h; exact (fail_inv h).elim
    | cons a l =>
      cases l with
      | cons => simp only [ext] at h; exact (fail_inv h).elim
      | nil =>
        cases a with
        | ag m =>
          cases m with
          | nil => simp only [ext] at h; exact (fail_inv h).elim
          | cons c m =>
            cases m with
            | cons => simp only [ext] at h; exact (fail_inv h).elim
            | nil =>
              cases c with
              | h t => exact ⟨t, rfl⟩
              | _ => simp only [ext] at h; exact (fail_inv h).elim
        | _ => simp only [ext] at h; exact (fail_inv h).elim
  obtain ⟨t, rfl⟩ := hform
  obtain ⟨y, rfl, hy⟩ := rel1 hl
  have h' : (bnd (lft (tb.ty.get t)) fun ti => ret (.b ti.cmp)) S = some (v, S') := h
  obtain ⟨ti, e1, h4⟩ := lb h'
  obtain ⟨rfl, rfl⟩ := ret_inv h4
  obtain ⟨i, hi, rfl⟩ := hty.ty _ _ e1
  have hp := List.all_eq_true.1 h3 _ (tl_get e1)
  simp only [Bool.and_eq_true, Bool.not_eq_true'] at hp
  simp only [Rel, RelL] at hy
  obtain ⟨cs, rfl, x, vt, rfl, rfl, rfl⟩ := hy
  refine ⟨ρ, .bool i.comparable, w, ?_, ?_, hF, Ext.refl _ _ _, Below.refl _ _⟩
  · have hdef : Extern.ReflectliteType.method (fun t => do Extern.Rtype.noPackHeld "Comparable" t; pure (.bool (← typeInfo t).comparable)) ⟨[Value.agg ⟨[typeHandle C.P t]⟩]⟩ = (do
      let u ← Extern.ReflectliteType.ofRtype (.agg #[typeHandle C.P t])
      Extern.Rtype.noPackHeld "Comparable" u
      pure (.bool (← typeInfo u).comparable) : Sem Value) := rfl
    rw [hdef, Sem.run_bind, ofRtype_run hp.1]
    simp only [Result.andThen_ok]
    have e2 : ∀ s, (Extern.Rtype.noPackHeld s t).run C.P w = .ok () w := fun s => by simp [Extern.Rtype.noPackHeld, hp.2]
    rw [Sem.run_bind, e2]
    simp only [Result.andThen_ok]
    rw [Sem.run_bind, run_info hi]; rfl
  · simp only [Rel]; rfl
theorem digits_size : ∀ n t (acc : Array Value), (Extern.BytealgMakeNoZero.digits n t acc).size = acc.size + n
  | 0, _, _ => rfl
  | n + 1, t, acc => by unfold Extern.BytealgMakeNoZero.digits; rw [digits_size n]; simp; omega
theorem ext2_ok {ps rs : Array TypeId} {t : TypeId} (h1 : (Extern.findNext fn).isNone = true) (h2 : Extern.find fn = some (Extern.BytealgMakeNoZero.makeNoZero ps rs)) (h3 : rs[0]? = some t) (h4 : C.P.underlying t = some (.slice tb.u8)) : ExtOk C tb 2 fn := by
  refine ⟨none_of h1, _, h2, fun B l S v S' ρ w args h hF hng hl hfree => ?_⟩
  have hform : ∃ n : Nat, l = [.i .i64 (.ofNat n)] := by
    cases l with
    | nil => simp only [ext] at h; exact (fail_inv h).elim
    | cons a l =>
      cases l with
      | cons => simp only [ext] at h; exact (fail_inv h).elim
      | nil =>
        cases a with
        | i k n =>
          cases k <;> cases n <;> first | exact ⟨_, rfl⟩ | (simp only [ext] at h; exact (fail_inv h).elim)
        | _ => simp only [ext] at h; exact (fail_inv h).elim
  obtain ⟨n, rfl⟩ := hform
  obtain ⟨y, rfl, hy⟩ := rel1 hl
  simp only [Rel] at hy
  subst hy
  have h' : (cond (Nat.ble n 140737488355328) (bnd (new ⟨tb.u8, .y 0 0, n, 1, 0, false, true⟩) fun v => ret (.sl v 0 n 0 true)) AX.fail) S = some (v, S') := h
  obtain ⟨hn, h5⟩ := cond_inv h'
  have hn := Nat.le_of_ble_eq_true hn
  obtain ⟨b, S1, h6, h7⟩ := bnd_inv h5
  obtain ⟨rfl, rfl⟩ := ret_inv h7
  obtain ⟨cp, bs, w2, hrun, hcap, g1, g2, g3, g4⟩ : ∃ cp bs w2, (Extern.BytealgMakeNoZero.makeNoZero ps rs #[.int .i64 (.ofNat n)]).run C.P w = .ok (.slice (some ⟨w.heap.size, 0, none⟩) n cp) w2 ∧ n ≤ cp ∧
      w2.heap = w.heap.push (.cells (Extern.BytealgMakeNoZero.digits cp bs #[]) tb.u8 (0, 0)) ∧ w2.os = w.os ∧ w2.tape = w.tape ∧ w2.output = w.output := by
    have hch : (choose (.appendCap n 0 tb.u8)).run C.P w = .ok (grownCap w n 0 tb.u8) w.drew := by simp [Question.forced, grownCap]
    obtain ⟨s1, s2, e3, q, hq, hdef⟩ : ∃ (s1 s2 : String) (e3 : RuntimeError) (q : Question), q.forced = false ∧ Extern.BytealgMakeNoZero.makeNoZero ps rs #[.int .i64 (.ofNat n)] = (do
      let some t := rs[0]? | stuck s1
      let .slice elem ← underlying t | stuck s2
      if (.ofNat n : Int) < 0 || (.ofNat n : Int) > 2 ^ 48 then runtimePanic e3
      let cap ← choose (.appendCap (Int.ofNat n).toNat 0 elem)
      askRoom cap
      let bytes ← choose q
      let a ← newRow elem (Extern.BytealgMakeNoZero.digits cap bytes #[])
      pure (.slice (some a) (Int.ofNat n).toNat cap) : Sem Value) := ⟨_, _, _, _, rfl, rfl⟩
    obtain ⟨x, hx⟩ : ∃ x, (choose q).run C.P w.drew = .ok x w.drew.drew := by
      refine ⟨q.cut (w.drew.tape w.drew.drawn q), ?_⟩
      rw [run_choose, hq]; rfl
    have hcap := grownCap_ge w n 0 tb.u8
    generalize grownCap w n 0 tb.u8 = cp at hch hcap
    have hlt : ¬ ((281474976710656 : Int) < (n : Int)) := by omega
    refine ⟨cp, x, w.drew.drew.alloc (.cells (Extern.BytealgMakeNoZero.digits cp x #[]) tb.u8), ?_, hcap, rfl, rfl, rfl, rfl⟩
    rw [hdef]
    simp [-run_choose, -run_choose_drew, h3, run_underlying h4, hlt, hch, hx, newRow]
    intro hneg; omega
  have hsz : (Extern.BytealgMakeNoZero.digits cp bs #[]).size = cp := by rw [digits_size]; simp
  have hba : BlkAt C ρ B ⟨tb.u8, .y 0 0, n, 1, 0, false, true⟩ ⟨w.heap.size, 0, cp, 1⟩ (Extern.BytealgMakeNoZero.digits cp bs #[]) (0, 0) := by
    constructor
    · exact ⟨by simp [CW], fun j a hj => by simp [Cells.toL, unp] at hj⟩
    · intro _
      refine ⟨by rw [hsz]; simp, by simpa using hcap, by simp [Cells.len], rfl⟩
    · intro y _ _ h; simp at h
    · intro _; exact .inl rfl
    · intro h; have := hF.size; simp only [] at h; omega
    · rw [hsz]; simp [Cells.len]
    · intro h; cases h
  obtain ⟨r2, r3, r4, r5, r6⟩ := newG_ok (w' := w2) hF hng h6 hfree rfl hba g1 g2 g3 g4
  refine ⟨_, _, w2, hrun, ?_, r2, r3, r4⟩
  simp only [Rel]
  exact ⟨_, _, r5, by simpa using hcap, by simp, .inl rfl⟩
end
end Go.AX
end
section
set_option linter.unusedSimpArgs false
set_option linter.unusedVariables false
namespace Go.AX
open Go.Extern
/-- the facts of reflectlite's types that a table holds -/
structure RfOk (P : Program) (tb : Tab) : Prop where
  kd : ∀ t k, assocN tb.kd t = some k → (∀ w, (Rtype.kind t).run P w = .ok k w) ∧ P.packed t = false
  el : ∀ t e, assocN tb.el t = some e → (∀ w, (Rtype.elem? t).run P w = .ok (some e) w) ∧ P.packed t = false
  asg : ∀ u t r, impl tb.asg u t = some r → (∀ w, (ReflectliteType.assignableTo u t).run P w = .ok r w) ∧ P.packed u = false ∧ P.packed t = false
  im2 : ∀ u t r, impl tb.im2 u t = some r → (∀ w, (ReflectliteType.implements_ u t).run P w = .ok r w) ∧ P.packed u = false ∧ P.packed t = false
  ty : ∀ (t : TypeId) (w : World), (ReflectliteType.toType t).run P w = .ok (.iface tb.rty (.agg #[typeHandle P t])) w
section
variable {C : Cx} {tb : Tab} {fn : Func} {ρ : Rho}
theorem rv_inv {x : AV} {r : Nat × Nat × Nat × Nat} (h : rv x = some r) : x = .ag [.h r.1, .p r.2.1 r.2.2.1, .i .u64 (.ofNat r.2.2.2)] := by
  unfold rv at h
  split at h
  · unfold rvL at h
    split at h
    · injection h with h; subst h; rfl
    · cases h
  · cases h
theorem rh_inv {x : AV} {t : Nat} (h : rh x = some t) : x = .ag [.h t] := by
  unfold rh at h
  split at h
  · unfold rhL at h
    split at h
    · injection h with h; subst h; rfl
    · cases h
  · cases h
theorem rti_inv {x : AV} {t : Nat} (h : rti x = some t) : ∃ a, x = .ifc a (.ag [.h t]) := by
  unfold rti at h
  split at h
  · exact ⟨_, by rw [rh_inv h]⟩
  · cases h
theorem rel_rv {t b o f : Nat} {v : Value} (h : Rel C ρ (.ag [.h t, .p b o, .i .u64 (.ofNat f)]) v) : ∃ r, ρ b = some r ∧ v = .agg #[typeHandle C.P t, .pointer (some ⟨r.blk, r.base + o, none⟩), .int .u64 (.ofNat f)] := by
  simp only [Rel, RelL] at h
  obtain ⟨cs, rfl, x, vt, rfl, hx, y, vt2, rfl, ⟨r, hr, rfl⟩, z, vt3, rfl, rfl, rfl⟩ := h
  exact ⟨r, hr, by rw [hx]⟩
theorem rel_rh {t : Nat} {v : Value} (h : Rel C ρ (.ag [.h t]) v) : v = .agg #[typeHandle C.P t] := by
  simp only [Rel, RelL] at h
  obtain ⟨cs, rfl, x, vt, rfl, rfl, rfl⟩ := h; rfl
theorem rel2 {a b : AV} {vs : List Value} (h : RelL C ρ [a, b] vs) : ∃ x y, vs = [x, y] ∧ Rel C ρ a x ∧ Rel C ρ b y := by
  simp only [RelL] at h
  obtain ⟨x, vt, rfl, h1, y, vt2, rfl, h2, rfl⟩ := h; exact ⟨x, y, rfl, h1, h2⟩
theorem mkrv {t b o f : Nat} {r : R} (h : ρ b = some r) : Rel C ρ (.ag [.h t, .p b o, .i .u64 (.ofNat f)]) (.agg #[typeHandle C.P t, .pointer (some ⟨r.blk, r.base + o, none⟩), .int .u64 (.ofNat f)]) := by
  simp only [Rel, RelL]
  exact ⟨_, rfl, _, _, rfl, rfl, _, _, rfl, ⟨r, h, rfl⟩, _, _, rfl, rfl, rfl⟩
theorem mkty {t : Nat} : Rel C ρ (.ifc tb.rty (.ag [.h t])) (.iface tb.rty (.agg #[typeHandle C.P t])) := by
  simp only [Rel, RelL]
  exact ⟨_, rfl, _, rfl, _, _, rfl, rfl, rfl⟩
theorem inv7 {l : List AV} {S S' : St} {v : AV} (h : ext tb 7 l S = some (v, S')) : ∃ x, l = [x] ∧ x7 tb x S = some (v, S') := by
  match l, h with
  | [x], h => exact ⟨x, rfl, h⟩
  | [], h => simp only [ext] at h; exact (fail_inv h).elim
  | _ :: _ :: _, h => simp only [ext] at h; exact (fail_inv h).elim
theorem inv8 {l : List AV} {S S' : St} {v : AV} (h : ext tb 8 l S = some (v, S')) : ∃ x, l = [x] ∧ x8 tb x S = some (v, S') := by
  match l, h with
  | [x], h => exact ⟨x, rfl, h⟩
  | [], h => simp only [ext] at h; exact (fail_inv h).elim
  | _ :: _ :: _, h => simp only [ext] at h; exact (fail_inv h).elim
theorem inv9 {l : List AV} {S S' : St} {v : AV} (h : ext tb 9 l S = some (v, S')) : ∃ x, l = [x] ∧ x9 tb x S = some (v, S') := by
  match l, h with
  | [x], h => exact ⟨x, rfl, h⟩
  | [], h => simp only [ext] at h; exact (fail_inv h).elim
  | _ :: _ :: _, h => simp only [ext] at h; exact (fail_inv h).elim
theorem inv10 {l : List AV} {S S' : St} {v : AV} (h : ext tb 10 l S = some (v, S')) : ∃ x, l = [x] ∧ x10 tb x S = some (v, S') := by
  match l, h with
  | [x], h => exact ⟨x, rfl, h⟩
  | [], h => simp only [ext] at h; exact (fail_inv h).elim
  | _ :: _ :: _, h => simp only [ext] at h; exact (fail_inv h).elim
theorem inv11 {l : List AV} {S S' : St} {v : AV} (h : ext tb 11 l S = some (v, S')) : ∃ x, l = [x] ∧ x11 tb x S = some (v, S') := by
  match l, h with
  | [x], h => exact ⟨x, rfl, h⟩
  | [], h => simp only [ext] at h; exact (fail_inv h).elim
  | _ :: _ :: _, h => simp only [ext] at h; exact (fail_inv h).elim
theorem inv12 {l : List AV} {S S' : St} {v : AV} (h : ext tb 12 l S = some (v, S')) : ∃ x y, l = [x, y] ∧ x12 tb x y S = some (v, S') := by
  match l, h with
  | [x, y], h => exact ⟨x, y, rfl, h⟩
  | [], h => simp only [ext] at h; exact (fail_inv h).elim
  | [_], h => simp only [ext] at h; exact (fail_inv h).elim
  | _ :: _ :: _ :: _, h => simp only [ext] at h; exact (fail_inv h).elim
theorem inv13 {l : List AV} {S S' : St} {v : AV} (h : ext tb 13 l S = some (v, S')) : ∃ x y, l = [x, y] ∧ x13 tb x y S = some (v, S') := by
  match l, h with
  | [x, y], h => exact ⟨x, y, rfl, h⟩
  | [], h => simp only [ext] at h; exact (fail_inv h).elim
  | [_], h => simp only [ext] at h; exact (fail_inv h).elim
  | _ :: _ :: _ :: _, h => simp only [ext] at h; exact (fail_inv h).elim
theorem inv14 {l : List AV} {S S' : St} {v : AV} (h : ext tb 14 l S = some (v, S')) : ∃ x, l = [x] ∧ x14 tb x S = some (v, S') := by
  match l, h with
  | [x], h => exact ⟨x, rfl, h⟩
  | [], h => simp only [ext] at h; exact (fail_inv h).elim
  | _ :: _ :: _, h => simp only [ext] at h; exact (fail_inv h).elim
theorem inv15 {l : List AV} {S S' : St} {v : AV} (h : ext tb 15 l S = some (v, S')) : ∃ x y, l = [x, y] ∧ x15 tb x y S = some (v, S') := by
  match l, h with
  | [x, y], h => exact ⟨x, y, rfl, h⟩
  | [], h => simp only [ext] at h; exact (fail_inv h).elim
  | [_], h => simp only [ext] at h; exact (fail_inv h).elim
  | _ :: _ :: _ :: _, h => simp only [ext] at h; exact (fail_inv h).elim
theorem partsAny_run {P : Program} {t f : Nat} {a : Addr} (hf : f ≠ 0) (w : World) : (ReflectliteValue.partsAny (.agg #[typeHandle P t, .pointer (some a), .int .u64 (.ofNat f)])).run P w = .ok (some (t, a, f)) w := by
  cases f with
  | zero => exact absurd rfl hf
  | succ f =>
    have e1 : (Rtype.ofHandle (typeHandle P t)).run P w = .ok t w := by simp [Rtype.ofHandle, handleType, typeHandle]
    have hdef : ReflectliteValue.partsAny (.agg #[typeHandle P t, .pointer (some a), .int .u64 (.ofNat (f + 1))]) = (do pure (some (← Rtype.ofHandle (typeHandle P t), a, f + 1)) : Sem (Option (TypeId × Addr × Nat))) := rfl
    rw [hdef, Sem.run_bind, e1]; rfl
theorem parts_run {P : Program} {t f : Nat} {a : Addr} (hf : f ≠ 0) (hp : P.packed t = false) (w : World) : (ReflectliteValue.parts (.agg #[typeHandle P t, .pointer (some a), .int .u64 (.ofNat f)])).run P w = .ok (some (t, a, f)) w := by
  unfold ReflectliteValue.parts
  rw [Sem.run_bind, partsAny_run hf]
  have e2 : ∀ s, (Rtype.noPack s t).run P w = .ok () w := fun s => by simp [Rtype.noPack, hp]
  simp only [Result.andThen_ok, Sem.run_bind, e2, Sem.run_pure]
theorem ofRtype_run' {P : Program} {t : Nat} {w : World} (hp : P.packed t = false) : (ReflectliteType.ofRtype (.agg #[typeHandle P t])).run P w = .ok t w := ofRtype_run hp
theorem load_run (ht : TyOk C.P tb) {B : Nat} {S S' : St} {w : World} (hF : Fits C tb.ng B ρ S.heap w) {t b o : Nat} {r : R} (hr : ρ b = some r) {v : AV} (h : load tb t (.p b o) S = some (v, S')) :
    S'.heap = S.heap ∧ S'.next = S.next ∧ ∃ y, (loadVar t ⟨r.blk, r.base + o, none⟩).run C.P w = .ok y w ∧ Rel C ρ v y := load_ok ht hF (xv := .pointer (some ⟨r.blk, r.base + o, none⟩)) (by simp only [Rel]; exact ⟨r, hr, rfl⟩) h
theorem ext7_ok (hty : TyOk C.P tb) (hr : RfOk C.P tb) (h1 : (Extern.findNext fn).isNone = true) (h2 : Extern.find fn = some fun args => ReflectliteValue.unpack (args.getD 0 (.tuple #[]))) : ExtOk C tb 7 fn := by
  refine ⟨none_of h1, _, h2, fun B l S v S' ρ w args h hF hng hl hfree => ?_⟩
  obtain ⟨x, rfl, h0⟩ := inv7 h
  clear h
  obtain ⟨y, rfl, hy⟩ := rel1 hl
  cases x <;> try exact (fail_inv (show AX.fail S = some (v, S') from h0)).elim
  rename_i t u
  simp only [Rel] at hy
  obtain ⟨z, rfl, hz⟩ := hy
  obtain ⟨k, e1, h3⟩ := lb h0
  obtain ⟨m, e2, h4⟩ := lb h3
  obtain ⟨hs, h5⟩ := cond_inv h4
  obtain ⟨b, S1, h6, h7⟩ := bnd_inv h5
  obtain ⟨rfl, rfl⟩ := ret_inv h7
  have hrel := cellsOf_ok e2 hz
  have hone : ∀ y ∈ z.cells.toList, y.oneCell' = true := fun y hy => by
    obtain ⟨j, hj, he⟩ := List.mem_iff_getElem.1 hy
    have hj' : j < m.length := by rw [← hrel.len]; exact hj
    obtain ⟨x', hx', hr'⟩ := hrel.get (List.getElem?_eq_getElem hj')
    rw [List.getElem?_eq_getElem hj, he] at hx'; injection hx' with hx'; subst hx'
    exact scal_one (List.all_eq_true.1 hs _ (List.getElem_mem hj')) hr'
  obtain ⟨ρ', w', r1, r2, r3, r4, r5, r6⟩ := alloc_ok hF hng h6 hfree (c := .l m) trivial hrel hone
  refine ⟨ρ', _, w', ?_, mkrv (f := k + 128) r5, r2, r3, r4⟩
  show (ReflectliteValue.unpack (.iface t z)).run C.P w = _
  have hn : (newVar t z).run C.P w = .ok ⟨w.heap.size, 0, none⟩ w' := by simpa [newVar] using r1
  unfold ReflectliteValue.unpack
  simp only [Sem.run_bind, hn, Result.andThen_ok]
  have hp : (program).run C.P w' = .ok C.P w' := rfl
  simp only [ReflectliteValue.mk, Rtype.handle, Sem.run_bind, hp, Result.andThen_ok, Sem.run_pure, (hr.kd _ _ e1).1 w']
  rfl
theorem ext8_ok (hr : RfOk C.P tb) (h1 : (Extern.findNext fn).isNone = true) (h2 : Extern.find fn = some (ReflectliteValue.methodAny (ReflectliteValue.valueError "reflectlite.Value.Type" 0) fun t _ _ _ => ReflectliteType.toType t)) : ExtOk C tb 8 fn := by
  refine ⟨none_of h1, _, h2, fun B l S v S' ρ w args h hF hng hl hfree => ?_⟩
  obtain ⟨x, rfl, h⟩ := inv8 h
  obtain ⟨y, rfl, hy⟩ := rel1 hl
  obtain ⟨r, e1, h3⟩ := lb h
  obtain ⟨t, b, o, f⟩ := r
  obtain ⟨hf, h4⟩ := cond_inv' h3
  obtain ⟨rfl, rfl⟩ := ret_inv h4
  rw [rv_inv e1] at hy
  obtain ⟨r, hb, rfl⟩ := rel_rv hy
  refine ⟨ρ, _, w, ?_, mkty, hF, Ext.refl _ _ _, Below.refl _ _⟩
  have hf' : f ≠ 0 := fun e => by subst e; simp at hf
  show (do match ← ReflectliteValue.partsAny (.agg #[typeHandle C.P t, .pointer (some ⟨r.blk, r.base + o, none⟩), .int .u64 (.ofNat f)]) with
    | none => ReflectliteValue.valueError "reflectlite.Value.Type" 0
    | some (t, a, fl) => ReflectliteType.toType t : Sem Value).run C.P w = _
  rw [Sem.run_bind, partsAny_run hf']
  exact hr.ty t w
theorem rlm (z : Sem Value) (f : TypeId → Addr → Nat → Nat → Sem Value) (v : Value) :
    ReflectliteValue.method z f #[v] = (do match ← ReflectliteValue.parts v with | none => z | some (t, a, fl) => f t a fl (fl % 32)) := rfl
def isNilQ (v : Value) : Sem Value := match v with
  | .chan none | .nilFunc | .nilIface | .map none | .pointer none | .slice none _ _ => pure (.bool true)
  | _ => pure (.bool false)
theorem isNil_eq {t : TypeId} {a : Addr} {fl : Nat} : ReflectliteValue.isNil t a fl 22 = (do
    let v ← loadVar t a
    isNilQ v : Sem Value) := rfl
theorem ext9_ok (hty : TyOk C.P tb) (hr : RfOk C.P tb) (h1 : (Extern.findNext fn).isNone = true) (h2 : Extern.find fn = some (ReflectliteValue.method (ReflectliteValue.valueError "reflectlite.Value.IsNil" 0) ReflectliteValue.isNil)) : ExtOk C tb 9 fn := by
  refine ⟨none_of h1, _, h2, fun B l S v S' ρ w args h hF hng hl hfree => ?_⟩
  obtain ⟨x, rfl, h⟩ := inv9 h
  obtain ⟨y, rfl, hy⟩ := rel1 hl
  obtain ⟨r, e1, h3⟩ := lb h
  obtain ⟨e, e2, h3⟩ := lb h3
  obtain ⟨t, b, o, f⟩ := r
  obtain ⟨hf, h4⟩ := cond_inv h3
  obtain ⟨u, S1, h5, h6⟩ := bnd_inv h4
  rw [rv_inv e1] at hy
  obtain ⟨r, hb, rfl⟩ := rel_rv hy
  have hf1 : f % 32 = 22 := Nat.eq_of_beq_eq_true hf
  have hf' : f ≠ 0 := fun e => by subst e; simp at hf1
  obtain ⟨g1, g2, z, g3, g4⟩ := load_run hty hF hb h5
  simp only [] at g3 e2
  have hrun : (ReflectliteValue.method (ReflectliteValue.valueError "reflectlite.Value.IsNil" 0) ReflectliteValue.isNil #[.agg #[typeHandle C.P t, .pointer (some ⟨r.blk, r.base + o, none⟩), .int .u64 (.ofNat f)]]).run C.P w =
      (isNilQ z).run C.P w := by
    rw [rlm, Sem.run_bind, parts_run hf' (hr.el _ _ e2).2]
    simp only [Result.andThen_ok, hf1]
    rw [isNil_eq]
    simp only [Sem.run_bind, g3, Result.andThen_ok]
  cases u <;> simp only [nilQ] at h6 <;> try exact (fail_inv h6).elim
  · obtain ⟨rfl, rfl⟩ := ret_inv h6
    simp only [Rel] at g4
    subst g4
    exact ⟨ρ, .bool true, w, hrun, by simp only [Rel], by rw [g1]; exact hF, by rw [g2]; exact Ext.refl _ _ _, Below.refl _ _⟩
  · obtain ⟨rfl, rfl⟩ := ret_inv h6
    simp only [Rel] at g4
    obtain ⟨q, hq, rfl⟩ := g4
    exact ⟨ρ, .bool false, w, hrun, by simp only [Rel], by rw [g1]; exact hF, by rw [g2]; exact Ext.refl _ _ _, Below.refl _ _⟩
theorem ofHandle_run {P : Program} {t : Nat} {w : World} : (Rtype.ofHandle (typeHandle P t)).run P w = .ok t w := by simp [Rtype.ofHandle, handleType, typeHandle]
theorem noPack_run {P : Program} {t : Nat} {w : World} (hp : P.packed t = false) (s : String) : (Rtype.noPack s t).run P w = .ok () w := by simp [Rtype.noPack, hp]
theorem ext10_ok (hr : RfOk C.P tb) (h1 : (Extern.findNext fn).isNone = true) (h2 : Extern.find fn = some (ReflectliteType.abiMethod fun t => do pure (.int .u8 (← Rtype.kind t)))) : ExtOk C tb 10 fn := by
  refine ⟨none_of h1, _, h2, fun B l S v S' ρ w args h hF hng hl hfree => ?_⟩
  obtain ⟨x, rfl, h0⟩ := inv10 h
  clear h
  obtain ⟨y, rfl, hy⟩ := rel1 hl
  cases x <;> try exact (fail_inv (show AX.fail S = some (v, S') from h0)).elim
  rename_i t
  obtain ⟨k, e1, h3⟩ := lb h0
  obtain ⟨rfl, rfl⟩ := ret_inv h3
  simp only [Rel] at hy
  subst hy
  refine ⟨ρ, .int .u8 (.ofNat k), w, ?_, by simp only [Rel], hF, Ext.refl _ _ _, Below.refl _ _⟩
  obtain ⟨s, hdef⟩ : ∃ s : String, (ReflectliteType.abiMethod fun t => do pure (.int .u8 (← Rtype.kind t))) ⟨[typeHandle C.P t]⟩ = (do
    let u ← Rtype.ofHandle (typeHandle C.P t)
    Rtype.noPack s u
    (do pure (.int .u8 (← Rtype.kind u)) : Sem Value)) := ⟨_, rfl⟩
  rw [hdef, Sem.run_bind, ofHandle_run]
  simp only [Result.andThen_ok]
  rw [Sem.run_bind, noPack_run (hr.kd _ _ e1).2]
  simp only [Result.andThen_ok]
  rw [Sem.run_bind, (hr.kd _ _ e1).1 w]; rfl
theorem ext11_ok (hr : RfOk C.P tb) (h1 : (Extern.findNext fn).isNone = true) (h2 : Extern.find fn = some (ReflectliteType.method ReflectliteType.elem)) : ExtOk C tb 11 fn := by
  refine ⟨none_of h1, _, h2, fun B l S v S' ρ w args h hF hng hl hfree => ?_⟩
  obtain ⟨x, rfl, h⟩ := inv11 h
  obtain ⟨y, rfl, hy⟩ := rel1 hl
  obtain ⟨t, e1, h3⟩ := lb h
  obtain ⟨e, e2, h4⟩ := lb h3
  obtain ⟨rfl, rfl⟩ := ret_inv h4
  rw [rh_inv e1] at hy
  have hy := rel_rh hy
  subst hy
  refine ⟨ρ, _, w, ?_, mkty, hF, Ext.refl _ _ _, Below.refl _ _⟩
  show (do ReflectliteType.elem (← ReflectliteType.ofRtype (.agg #[typeHandle C.P t])) : Sem Value).run C.P w = _
  rw [Sem.run_bind, ofRtype_run (hr.el _ _ e2).2]
  simp only [Result.andThen_ok]
  unfold ReflectliteType.elem
  rw [Sem.run_bind, (hr.el _ _ e2).1 w]
  exact hr.ty e w
theorem rel_run {P : Program} {what : String} {f : TypeId → TypeId → Sem Bool} {a t u : Nat} {r : Bool} {w : World} (hu : P.packed u = false) (ht : P.packed t = false) (h : (f u t).run P w = .ok r w) :
    (ReflectliteType.relation what f ⟨[.agg #[typeHandle P t], .iface a (.agg #[typeHandle P u])]⟩).run P w = .ok (.bool r) w := by
  show (do pure (.bool (← f (← ReflectliteType.ofRtype (.agg #[typeHandle P u])) (← ReflectliteType.ofRtype (.agg #[typeHandle P t])))) : Sem Value).run P w = _
  simp only [Sem.run_bind, ofRtype_run hu, ofRtype_run ht, Result.andThen_ok, h, Sem.run_pure]
theorem ext12_ok (hr : RfOk C.P tb) (h1 : (Extern.findNext fn).isNone = true) (h2 : Extern.find fn = some (ReflectliteType.relation "Implements" ReflectliteType.implements_)) : ExtOk C tb 12 fn := by
  refine ⟨none_of h1, _, h2, fun B l S v S' ρ w args h hF hng hl hfree => ?_⟩
  obtain ⟨x, y, rfl, h⟩ := inv12 h
  obtain ⟨x', y', rfl, hx, hy⟩ := rel2 hl
  obtain ⟨t, e1, h3⟩ := lb h
  obtain ⟨u, e2, h4⟩ := lb h3
  obtain ⟨q, e3, h5⟩ := lb h4
  obtain ⟨rfl, rfl⟩ := ret_inv h5
  rw [rh_inv e1] at hx
  obtain ⟨a, e4⟩ := rti_inv e2
  rw [e4] at hy
  have hx := rel_rh hx
  simp only [Rel] at hy
  obtain ⟨z, rfl, hz⟩ := hy
  have hz : Rel C ρ (.ag [.h u]) z := by simpa only [Rel] using hz
  have hz := rel_rh hz
  subst hx; subst hz
  obtain ⟨g1, g2, g3⟩ := hr.im2 _ _ _ e3
  exact ⟨ρ, _, w, rel_run g2 g3 (g1 w), by simp only [Rel], hF, Ext.refl _ _ _, Below.refl _ _⟩
theorem ext13_ok (hr : RfOk C.P tb) (h1 : (Extern.findNext fn).isNone = true) (h2 : Extern.find fn = some (ReflectliteType.relation "AssignableTo" ReflectliteType.assignableTo)) : ExtOk C tb 13 fn := by
  refine ⟨none_of h1, _, h2, fun B l S v S' ρ w args h hF hng hl hfree => ?_⟩
  obtain ⟨x, y, rfl, h⟩ := inv13 h
  obtain ⟨x', y', rfl, hx, hy⟩ := rel2 hl
  obtain ⟨t, e1, h3⟩ := lb h
  obtain ⟨u, e2, h4⟩ := lb h3
  obtain ⟨q, e3, h5⟩ := lb h4
  obtain ⟨rfl, rfl⟩ := ret_inv h5
  rw [rh_inv e1] at hx
  obtain ⟨a, e4⟩ := rti_inv e2
  rw [e4] at hy
  have hx := rel_rh hx
  simp only [Rel] at hy
  obtain ⟨z, rfl, hz⟩ := hy
  have hz : Rel C ρ (.ag [.h u]) z := by simpa only [Rel] using hz
  have hz := rel_rh hz
  subst hx; subst hz
  obtain ⟨g1, g2, g3⟩ := hr.asg _ _ _ e3
  exact ⟨ρ, _, w, rel_run g2 g3 (g1 w), by simp only [Rel], hF, Ext.refl _ _ _, Below.refl _ _⟩
theorem ext14_ok (hty : TyOk C.P tb) (hr : RfOk C.P tb) (h1 : (Extern.findNext fn).isNone = true) (h2 : Extern.find fn = some (ReflectliteValue.method (ReflectliteValue.valueError "reflectlite.Value.Elem" 0) ReflectliteValue.elem)) : ExtOk C tb 14 fn := by
  refine ⟨none_of h1, _, h2, fun B l S v S' ρ w args h hF hng hl hfree => ?_⟩
  obtain ⟨x, rfl, h⟩ := inv14 h
  obtain ⟨y, rfl, hy⟩ := rel1 hl
  obtain ⟨r, e1, h3⟩ := lb h
  obtain ⟨e, e2, h3⟩ := lb h3
  obtain ⟨t, b, o, f⟩ := r
  obtain ⟨hf, h4⟩ := cond_inv h3
  obtain ⟨u, S1, h5, h6⟩ := bnd_inv h4
  rw [rv_inv e1] at hy
  obtain ⟨r, hb, rfl⟩ := rel_rv hy
  have hf1 : f % 32 = 22 := Nat.eq_of_beq_eq_true hf
  have hf' : f ≠ 0 := fun e => by subst e; simp at hf1
  obtain ⟨g1, g2, z, g3, g4⟩ := load_run hty hF hb h5
  simp only [] at g3 e2
  cases u <;> simp only [x14b] at h6 <;> try exact (fail_inv h6).elim
  rename_i b2 o2
  obtain ⟨e', e3, h7⟩ := lb h6
  rw [e2] at e3; injection e3 with e3; subst e3
  obtain ⟨k, e4, h8⟩ := lb h7
  obtain ⟨rfl, rfl⟩ := ret_inv h8
  simp only [Rel] at g4
  obtain ⟨q, hq, rfl⟩ := g4
  refine ⟨ρ, _, w, ?_, mkrv (f := k + 384) hq, by rw [g1]; exact hF, by rw [g2]; exact Ext.refl _ _ _, Below.refl _ _⟩
  show (ReflectliteValue.method (ReflectliteValue.valueError "reflectlite.Value.Elem" 0) ReflectliteValue.elem #[.agg #[typeHandle C.P t, .pointer (some ⟨r.blk, r.base + o, none⟩), .int .u64 (.ofNat f)]]).run C.P w = _
  rw [rlm, Sem.run_bind, parts_run hf' (hr.el _ _ e2).2]
  simp only [Result.andThen_ok, hf1]
  unfold ReflectliteValue.elem
  have hp : (program).run C.P w = .ok C.P w := rfl
  simp [g3, (hr.el _ _ e2).1 w, ReflectliteValue.mk, Rtype.handle, hp, (hr.kd _ _ e4).1 w, ReflectliteValue.flagAddr, ReflectliteValue.flagIndir]
  omega
theorem rls (v x : Value) : ReflectliteValue.set #[v, x] = (do
    let (some (dst, a, fl), some (src, b, _)) := (← ReflectliteValue.parts v, ← ReflectliteValue.parts x)
      | unsupported (.noEntry "extern/(internal/reflectlite.Value).Set.zeroValue")
    if fl / ReflectliteValue.flagAddr % 2 == 0 then unsupported (.noEntry "extern/(internal/reflectlite.Value).Set.unaddressable")
    let val ← loadVar src b
    if ← Rtype.directlyAssignable dst src then storeVar dst a val
    else if ← Rtype.implements dst src then
      if (← Rtype.kind src) == 20 then
        match val with
        | .nilIface => unsupported (.noEntry "extern/reflectlite: a nil value of one interface type handed on as a value of another")
        | _ => storeVar dst a val
      else storeVar dst a (.iface src val)
    else panicString ("reflectlite.Set: value of type " ++ (← Rtype.spelt src) ++ " is not assignable to type " ++ (← Rtype.spelt dst))
    pure (.tuple #[])) := rfl
theorem direct_run {P : Program} {t : Nat} {w : World} : (Rtype.directlyAssignable t t).run P w = .ok true w := by simp [Rtype.directlyAssignable]
theorem ext15_ok (hty : TyOk C.P tb) (hr : RfOk C.P tb) (h1 : (Extern.findNext fn).isNone = true) (h2 : Extern.find fn = some ReflectliteValue.set) : ExtOk C tb 15 fn := by
  refine ⟨none_of h1, _, h2, fun B l S v S' ρ w args h hF hng hl hfree => ?_⟩
  obtain ⟨x, y, rfl, h⟩ := inv15 h
  obtain ⟨x', y', rfl, hx, hy⟩ := rel2 hl
  obtain ⟨r, e1, h3⟩ := lb h
  obtain ⟨q, e2, h3⟩ := lb h3
  obtain ⟨k, e3, h3⟩ := lb h3
  obtain ⟨t, b, o, f⟩ := r
  obtain ⟨u, c, p, g⟩ := q
  obtain ⟨hc, h4⟩ := cond_inv h3
  simp only [Bool.and_eq_true, Bool.not_eq_true'] at hc
  obtain ⟨hc1, hc2, hc3⟩ := hc
  have hc1 := Nat.eq_of_beq_eq_true hc1
  have hc2 : f / 256 % 2 = 1 := Nat.eq_of_beq_eq_true hc2
  subst hc1
  have hg : g ≠ 0 := fun e => by subst e; cases hc3
  have hf : f ≠ 0 := fun e => by subst e; simp at hc2
  obtain ⟨z, S1, h5, h6⟩ := bnd_inv h4
  obtain ⟨un, S2, h7, h8⟩ := bnd_inv h6
  obtain ⟨rfl, rfl⟩ := ret_inv h8
  rw [rv_inv e1] at hx
  rw [rv_inv e2] at hy
  obtain ⟨r, hb, rfl⟩ := rel_rv hx
  obtain ⟨r2, hb2, rfl⟩ := rel_rv hy
  obtain ⟨g1, g2, zv, g3, g4⟩ := load_run hty hF hb2 h5
  have hpk := (hr.kd _ _ e3).2
  simp only [] at h7 g3 hpk
  obtain ⟨k1, w', k2, k3, k4⟩ := store_ok hty (w := w) (S := S1) (by rw [g1]; exact hF) (x := .p b o) (xv := .pointer (some ⟨r.blk, r.base + o, none⟩)) (by simp only [Rel]; exact ⟨r, hb, rfl⟩) g4 h7
  have k2 : (storeVar t ⟨r.blk, r.base + o, none⟩ zv).run C.P w = .ok () w' := k2
  refine ⟨ρ, .tuple #[], w', ?_, by simp only [Rel, RelL]; exact ⟨[], rfl, rfl⟩, k3, by rw [k1, g2]; exact Ext.refl _ _ _, k4⟩
  show (ReflectliteValue.set #[.agg #[typeHandle C.P t, .pointer (some ⟨r.blk, r.base + o, none⟩), .int .u64 (.ofNat f)], .agg #[typeHandle C.P t, .pointer (some ⟨r2.blk, r2.base + p, none⟩), .int .u64 (.ofNat g)]]).run C.P w = _
  rw [rls, Sem.run_bind, parts_run hf hpk]
  simp only [Result.andThen_ok]
  rw [Sem.run_bind, parts_run hg hpk]
  simp only [Result.andThen_ok]
  have hq : (f / ReflectliteValue.flagAddr % 2 == 0) = false := by show (f / 256 % 2 == 0) = false; rw [hc2]; rfl
  simp [hq, g3, direct_run, k2]
/-- a method that takes its receiver's first field -/
def MetAt2 (P : Program) (t : Nat) (m : String) (g : Nat) : Prop := ∀ (x : Value) (w : World), (method (P.types.size + Made.depth) t (.agg #[x]) m).run P w = .ok (g, x) w
theorem allOk' {C : Cx} {tb : Tab} (hty : TyEq C.P tb) (himp : ImpEq C.P tb) (hng : tb.ng = C.P.globals.size) (hhyp : tb.hyp = []) (hfn : FnEq C.P tb) (hchk : fnChk C.P tb = true)
    (hmet : ∀ t m g d, (t, m, g, d) ∈ tb.met → (d = false ∧ MetAt C.P t m g) ∨ (d = true ∧ MetAt2 C.P t m g)) (hmix : C.P.follows .mixedOrders = true)
    (hext : ∀ g fi fn, tb.fn.get g = some fi → C.P.funcs[g]? = some fn → fi.body = none → fi.ext = 0 ∨ ExtOk C tb fi.ext fn) : AllOk C tb where
  tab := { ty := fun t ti h => by
             have := map_at hty _ (tl_get h)
             simp only [] at this
             cases hi : C.P.info? t with
             | none => rw [hi] at this; cases this
             | some i => rw [hi] at this; injection this with this; exact ⟨i, rfl, this⟩
           hyp := fun k r h => by rw [hhyp] at h; simp at h
           imp := fun t d r h => by
             have := map_at himp _ (impl_mem _ _ _ _ h)
             simp only [impAns] at this
             split at this
             · rename_i want i h1 h2
               injection this with this
               exact ⟨want, i, h1, h2, this.symm⟩
             · cases this
           ngl := hng }
  met := fun t m g d v u ρ x w h1 h2 h3 => by
    rcases hmet t m g d (methd_mem _ _ _ _ h1) with ⟨rfl, hm⟩ | ⟨rfl, hm⟩
    · simp only [recv, cond_false, Option.some.injEq] at h2
      subst h2
      exact ⟨x, hm x w, h3⟩
    · simp only [recv, cond_true] at h2
      split at h2
      · injection h2 with h2; subst h2
        simp only [Rel, RelL] at h3
        obtain ⟨cs, rfl, y, vt, rfl, hy, rfl⟩ := h3
        exact ⟨y, hm y w, hy⟩
      · cases h2
  fn := fun g fi h => by
    have h1 := map_at hfn _ (tl_get h)
    have h2 := List.all_eq_true.1 hchk _ (tl_get h)
    simp only [] at h1 h2
    cases hf : C.P.funcs[g]? with
    | none => rw [hf] at h1; cases h1
    | some fn =>
      rw [hf] at h1 h2
      simp only [Option.map_some, Option.some.injEq, Prod.mk.injEq] at h1
      simp only [Bool.and_eq_true] at h2
      refine ⟨fn, hf, by simpa using h2.1.1, h1.1.symm, h1.2.1.symm, h1.2.2.symm, fun c hc => ?_, fun v hv => ?_, fun hb => hext g fi fn h hf hb⟩
      · have := h2.1.2; rw [hc] at this; exact this
      · have := h2.2; rw [hv] at this; cases this
  mix := hmix
theorem assocN_mem : ∀ (l : List (Nat × Nat)) (t k : Nat), assocN l t = some k → (t, k) ∈ l
  | [], _, _, h => by simp [assocN] at h
  | (a, q) :: l, t, k, h => by
    unfold assocN at h
    cases hc : Nat.beq a t with
    | true =>
      rw [hc, cond_true] at h; injection h with h; subst h
      have e1 := Nat.eq_of_beq_eq_true hc
      subst e1; exact List.mem_cons_self ..
    | false => rw [hc, cond_false] at h; exact List.mem_cons_of_mem _ (assocN_mem l t k h)
/- the whole run, some old blocks known -/
/-- a package variable's block, read alone -/
def gBlk (e : Nat) (c : Cells) : Ent := .b ⟨e, c, 0, 0, c.len, true, false⟩
def GOk (C : Cx) (w : World) (g e : Nat) (l : List AV) : Prop := ∃ vs fz, w.heap[g]? = some (.cells ⟨vs⟩ e fz) ∧ RelL C (fun _ => none) l vs ∧ (∀ x ∈ vs, x.oneCell' = true)
theorem run_okH {C : Cx} {tb : Tab} (h : AllOk C tb) {f g : Nat} {fi : FI} {l : List AV} {v : AV} {S' : St} {args : List Value} {H : T Ent} (hfi : tb.fn.get g = some fi) (hb : fi.body.isSome = true)
    (hc : call tb f g l ⟨H, tb.ng, 0, 0⟩ = some (v, S')) (hl : RelL C (fun _ => none) l args) (w : World) (hi : C.inv w) (hsz : C.nst ≤ w.heap.size)
    (hH : ∀ v k, H.get v = some k → v < tb.ng ∧ ∃ e m, k = gBlk e (.l m) ∧ GOk C w v e m) :
    Calls C.P g ⟨args⟩ w fun e w' => ∃ x ρ, e = .returned x ∧ Rel C ρ v x ∧ Below w.heap.size w w' := by
  have hF : Fits C tb.ng w.heap.size (rho0 tb.ng) H w := by
    refine ⟨Nat.le_refl _, fun g hg => by simp [rho0, hg], fun v k hv => ?_, fun v v' k k' r r' hv hv' h1 h2 h3 => ?_, hsz, hi⟩
    · obtain ⟨hlt, e, m, rfl, vs, fz, h1, h2, h3⟩ := hH v k hv
      refine ⟨⟨v, 0, 0, 0⟩, by simp [rho0, hlt], _, h1, rfl, ?_⟩
      have hlen := h2.len
      refine ⟨⟨trivial, fun j a hj => ?_⟩, fun h => (by cases h), fun x hx1 hx2 hx3 => ?_, fun h => (by cases h), fun _ => ⟨Nat.le_refl _, rfl, rfl⟩, ?_, fun _ => rfl⟩
      · obtain ⟨x, hx, hr⟩ := h2.get hj
        exact ⟨x, by simpa using hx, hr.ofNone, h3 x (List.mem_of_getElem? hx)⟩
      · simp [gBlk, Cells.len] at hx1 hx2; omega
      · simp [gBlk, Cells.len]; omega
    · obtain ⟨l1, _⟩ := hH v k hv
      obtain ⟨l2, _⟩ := hH v' k' hv'
      simp only [rho0, if_pos l1, if_pos l2, Option.some.injEq] at h1 h2
      subst h1; subst h2; exact h3
  have hfree : Free (rho0 tb.ng) tb.ng S'.next := fun v h1 h2 => by simp only [rho0]; rw [if_neg (by omega)]
  obtain ⟨fn, hfn⟩ := h.fn g fi hfi
  have hu := call_ok (B := w.heap.size) h f g l ⟨H, tb.ng, 0, 0⟩ v S' (rho0 tb.ng) w args ⟨some 0, .move (.const undef), 0, "", #[], none⟩ ⟨#[undef], []⟩
    (fun a' w' => ∃ ρ, Rel C ρ v (a'.tmps.getD 0 undef) ∧ Below w.heap.size w w') (fun _ _ _ => False) Fence.wide 0 wide_wide hc hF (Nat.le_refl _) (RelL.mono (fun v r hv => by cases hv) _ _ hl) hfree
    (fun ρ' x w' r1 r2 r3 r4 => ⟨ρ', by simpa [Act.put] using r1, r4⟩)
  rw [callFunc_body hfn.at_ hfn.name (by rw [hfn.body]; exact hb), Oper.uponIn_enter] at hu
  refine Calls.mono (callsIn_wide.1 hu.2) fun e w' he => ?_
  cases e with
  | returned x =>
    obtain ⟨ρ, h1, h2⟩ := he
    exact ⟨x, ρ, rfl, by simpa [Act.put] using h1, h2⟩
  | panicked c => exact he.elim
  | outgrown => obtain ⟨_, _, h⟩ := he; exact h.elim
end
end Go.AX
end
section
set_option linter.unusedSimpArgs false
set_option linter.unusedVariables false
namespace Go.AX
open Go.Extern
theorem strB_cons (k n : Nat) : strB (k + 1) n = UInt8.ofNat (n % 256) :: strB k (Nat.shiftRight n 8) := by
  unfold strB
  rw [List.range_succ_eq_map, List.map_cons, List.map_map]
  congr 1
  apply List.map_congr_left
  intro j _
  show UInt8.ofNat (byteAt n (j + 1)) = UInt8.ofNat (byteAt (n >>> 8) j)
  rw [byteAt_eq, byteAt_eq, Nat.shiftRight_eq_div_pow, Nat.div_div_eq_div_mul, ← Nat.pow_add, show 8 + 8 * j = 8 * (j + 1) by omega]
theorem ofNat_beq (a c : Nat) (ha : a < 256) (hc : c < 256) : (UInt8.ofNat a == UInt8.ofNat c) = Nat.beq a c := by
  have e : (UInt8.ofNat a = UInt8.ofNat c) ↔ a = c := by
    rw [← UInt8.toNat_inj]; simp [Nat.mod_eq_of_lt ha, Nat.mod_eq_of_lt hc]
  by_cases h : a = c
  · subst h; simp
  · have h2 : Nat.beq a c = false := by
      cases hb : Nat.beq a c with
      | false => rfl
      | true => exact absurd (Nat.eq_of_beq_eq_true hb) h
    rw [h2, beq_eq_false_iff_ne]; exact fun e' => h (e.1 e')
theorem find_spec (c : Nat) (hc : c < 256) : ∀ (k n j : Nat), (match findByte k n c j with | some i => ((i - j : Nat) : Int) | none => -1) = Lib.indexByte (strB k n) (UInt8.ofNat c) ∧ ∀ i, findByte k n c j = some i → j ≤ i
  | 0, n, j => ⟨rfl, fun i h => by simp [findByte] at h⟩
  | k + 1, n, j => by
    rw [strB_cons]
    unfold Lib.indexByte findByte
    rw [ofNat_beq _ _ (Nat.mod_lt _ (by omega)) hc]
    show (match cond (Nat.beq (n % 256) c) (some j) (findByte k (Nat.shiftRight n 8) c (Nat.succ j)) with | some i => ((i - j : Nat) : Int) | none => -1) = _ ∧ ∀ i, cond (Nat.beq (n % 256) c) (some j) (findByte k (Nat.shiftRight n 8) c (Nat.succ j)) = some i → j ≤ i
    cases hb : Nat.beq (n % 256) c with
    | true =>
      simp only [cond_true, if_true]
      refine ⟨by simp, fun i h => by injection h with h; omega⟩
    | false =>
      simp only [cond_false, Bool.false_eq_true, if_false]
      obtain ⟨h1, h2⟩ := find_spec c hc k (Nat.shiftRight n 8) (Nat.succ j)
      refine ⟨?_, fun i h => by have := h2 i h; omega⟩
      rw [← h1]
      cases hf : findByte k (Nat.shiftRight n 8) c (Nat.succ j) with
      | none => rfl
      | some i =>
        have := h2 i hf
        simp only []
        have hne : (((i - Nat.succ j : Nat) : Int) == -1) = false := by
          rw [beq_eq_false_iff_ne]; omega
        rw [hne]
        simp only [Bool.false_eq_true, if_false]
        omega
theorem cnt_spec (c : Nat) (hc : c < 256) : ∀ (k n : Nat), cntByte k n c = Lib.countByte (strB k n) (UInt8.ofNat c)
  | 0, n => rfl
  | k + 1, n => by
    rw [strB_cons]
    unfold cntByte Lib.countByte
    rw [List.count_cons, ofNat_beq _ _ (Nat.mod_lt _ (by omega)) hc]
    have ih := cnt_spec c hc k (Nat.shiftRight n 8)
    unfold Lib.countByte at ih
    show cond (Nat.beq (n % 256) c) _ _ = _
    cases hb : Nat.beq (n % 256) c with
    | true => simp only [cond_true, if_true, ih]
    | false => simp only [cond_false, Bool.false_eq_true, if_false, ih]; rfl
section
variable {C : Cx} {tb : Tab} {fn : Func} {ρ : Rho}
theorem inv3 {l : List AV} {S S' : St} {v : AV} (h : ext tb 3 l S = some (v, S')) : ∃ x y, l = [x, y] ∧ x3 x y S = some (v, S') := by
  match l, h with
  | [x, y], h => exact ⟨x, y, rfl, h⟩
  | [], h => simp only [ext] at h; exact (fail_inv h).elim
  | [_], h => simp only [ext] at h; exact (fail_inv h).elim
  | _ :: _ :: _ :: _, h => simp only [ext] at h; exact (fail_inv h).elim
theorem inv4 {l : List AV} {S S' : St} {v : AV} (h : ext tb 4 l S = some (v, S')) : ∃ x y, l = [x, y] ∧ x4 x y S = some (v, S') := by
  match l, h with
  | [x, y], h => exact ⟨x, y, rfl, h⟩
  | [], h => simp only [ext] at h; exact (fail_inv h).elim
  | [_], h => simp only [ext] at h; exact (fail_inv h).elim
  | _ :: _ :: _ :: _, h => simp only [ext] at h; exact (fail_inv h).elim
theorem byQ_inv {f : Nat → AV} {y : AV} {S S' : St} {v : AV} (h : byQ f y S = some (v, S')) : ∃ c, y = .i .u8 (.ofNat c) ∧ c < 256 ∧ v = f c ∧ S' = S := by
  unfold byQ at h
  split at h
  · obtain ⟨hc, h2⟩ := cond_inv h
    obtain ⟨rfl, rfl⟩ := ret_inv h2
    exact ⟨_, rfl, Nat.le_of_ble_eq_true hc, rfl, rfl⟩
  · exact (fail_inv h).elim
theorem ext3_ok (h1 : (Extern.findNext fn).isNone = true) (h2 : Extern.find fn = some BytealgIndexByte.indexByte) : ExtOk C tb 3 fn := by
  refine ⟨none_of h1, _, h2, fun B l S v S' ρ w args h hF hng hl hfree => ?_⟩
  obtain ⟨x, y, rfl, h0⟩ := inv3 h
  clear h
  obtain ⟨x', y', rfl, hx, hy⟩ := rel2 hl
  unfold x3 at h0
  split at h0
  · rename_i k n
    obtain ⟨c, rfl, hc, rfl, rfl⟩ := byQ_inv h0
    simp only [Rel] at hx hy
    obtain ⟨rfl, hn⟩ := hx
    subst hy
    refine ⟨ρ, _, w, Lib.run_indexByteString _ _ w, ?_, hF, Ext.refl _ _ _, Below.refl _ _⟩
    have := (find_spec c hc k n 0).1
    show Rel C ρ (idxAV (findByte k n c 0)) (.int .i64 (Lib.indexByte (strB k n) (UInt8.ofNat c)))
    rw [← this]
    cases findByte k n c 0 <;> simp [idxAV, Rel]
  · exact (fail_inv h0).elim
theorem ext4_ok (h1 : (Extern.findNext fn).isNone = true) (h2 : Extern.find fn = some BytealgCount.count) : ExtOk C tb 4 fn := by
  refine ⟨none_of h1, _, h2, fun B l S v S' ρ w args h hF hng hl hfree => ?_⟩
  obtain ⟨x, y, rfl, h0⟩ := inv4 h
  clear h
  obtain ⟨x', y', rfl, hx, hy⟩ := rel2 hl
  unfold x4 at h0
  split at h0
  · rename_i k n
    obtain ⟨c, rfl, hc, rfl, rfl⟩ := byQ_inv h0
    simp only [Rel] at hx hy
    obtain ⟨rfl, hn⟩ := hx
    subst hy
    refine ⟨ρ, _, w, Lib.run_countString _ _ w, ?_, hF, Ext.refl _ _ _, Below.refl _ _⟩
    show Rel C ρ (.i .i64 (.ofNat (cntByte k n c))) (.int .i64 (Lib.countByte (strB k n) (UInt8.ofNat c) : Nat))
    rw [cnt_spec c hc k n]
    simp [Rel]
  · exact (fail_inv h0).elim
end
end Go.AX
end
section
set_option linter.unusedSimpArgs false
set_option linter.unusedVariables false
namespace Go.AX
/- old blocks of which the first cells are known -/
def GArr (C : Cx) (w : World) (g e : Nat) (l : List AV) : Prop :=
  ∃ arr fz, w.heap[g]? = some (.cells arr e fz) ∧ arr.size = l.length ∧ ∀ (j : Nat) (a : AV), l[j]? = some a → ∃ x, arr[j]? = some x ∧ Rel C (fun _ => none) a x ∧ x.oneCell' = true
def CellsAre (l : List AV) (c : Cells) : Prop := CW c ∧ c.toL = l
theorem run_okG {C : Cx} {tb : Tab} (h : AllOk C tb) {f g : Nat} {fi : FI} {l : List AV} {v : AV} {S' : St} {args : List Value} {H : T Ent} (hfi : tb.fn.get g = some fi) (hb : fi.body.isSome = true)
    (hc : call tb f g l ⟨H, tb.ng, 0, 0⟩ = some (v, S')) (hl : RelL C (fun _ => none) l args) (w : World) (hi : C.inv w) (hsz : C.nst ≤ w.heap.size)
    (hH : ∀ v k, H.get v = some k → v < tb.ng ∧ ∃ e c m, k = gBlk e c ∧ CellsAre m c ∧ GArr C w v e m) :
    Calls C.P g ⟨args⟩ w fun e w' => ∃ x ρ, e = .returned x ∧ Rel C ρ v x ∧ Below w.heap.size w w' := by
  have hF : Fits C tb.ng w.heap.size (rho0 tb.ng) H w := by
    refine ⟨Nat.le_refl _, fun g hg => by simp [rho0, hg], fun v k hv => ?_, fun v v' k k' r r' hv hv' h1 h2 h3 => ?_, hsz, hi⟩
    · obtain ⟨hlt, e, c, m, rfl, ⟨hcw, hcm⟩, arr, fz, h1, h2, h3⟩ := hH v k hv
      refine ⟨⟨v, 0, 0, 0⟩, by simp [rho0, hlt], _, h1, rfl, ?_⟩
      have hcl : c.len = m.length := by rw [Cells.len_eq, hcm]
      refine ⟨⟨hcw, fun j a hj => ?_⟩, fun h => (by cases h), fun x hx1 hx2 hx3 => ?_, fun h => (by cases h), fun _ => ⟨Nat.le_refl _, rfl, rfl⟩, ?_, fun _ => rfl⟩
      · have hj : c.toL[j]? = some a := hj
        rw [hcm] at hj
        obtain ⟨x, hx, hr, ho⟩ := h3 j a hj
        exact ⟨x, by simpa using hx, hr.ofNone, ho⟩
      · have hx1 : 0 + c.len ≤ x := hx1
        omega
      · show 0 + c.len ≤ arr.size; omega
    · obtain ⟨l1, _⟩ := hH v k hv
      obtain ⟨l2, _⟩ := hH v' k' hv'
      simp only [rho0, if_pos l1, if_pos l2, Option.some.injEq] at h1 h2
      subst h1; subst h2; exact h3
  have hfree : Free (rho0 tb.ng) tb.ng S'.next := fun v h1 h2 => by simp only [rho0]; rw [if_neg (by omega)]
  obtain ⟨fn, hfn⟩ := h.fn g fi hfi
  have hu := call_ok (B := w.heap.size) h f g l ⟨H, tb.ng, 0, 0⟩ v S' (rho0 tb.ng) w args ⟨some 0, .move (.const undef), 0, "", #[], none⟩ ⟨#[undef], []⟩
    (fun a' w' => ∃ ρ, Rel C ρ v (a'.tmps.getD 0 undef) ∧ Below w.heap.size w w') (fun _ _ _ => False) Fence.wide 0 wide_wide hc hF (Nat.le_refl _) (RelL.mono (fun v r hv => by cases hv) _ _ hl) hfree
    (fun ρ' x w' r1 r2 r3 r4 => ⟨ρ', by simpa [Act.put] using r1, r4⟩)
  rw [callFunc_body hfn.at_ hfn.name (by rw [hfn.body]; exact hb), Oper.uponIn_enter] at hu
  refine Calls.mono (callsIn_wide.1 hu.2) fun e w' he => ?_
  cases e with
  | returned x =>
    obtain ⟨ρ, h1, h2⟩ := he
    exact ⟨x, ρ, rfl, by simpa [Act.put] using h1, h2⟩
  | panicked c => exact he.elim
  | outgrown => obtain ⟨_, _, h⟩ := he; exact h.elim
theorem laidVars_mem {P : Program} {w : World} {name : String} {d : DataW Unit} : ∀ {laid : List (String × DataW Unit)} {ps : List MemPlace}, DataW.LaidVars P w laid ps → (name, d) ∈ laid →
    ∃ g t cs fuel p, P.globalNamed name = some g ∧ (P.globals[g]?).map (·.type) = some t ∧ w.var? P name = some cs ∧ DataW.trod (fun _ => ()) P w 0 (fun _ => true) false fuel t cs.toList = some (d, p)
  | [], _, _, h => by cases h
  | (n, d') :: r, ps, h, hm => by
    obtain ⟨g, t, cs, fuel, p, q, h1, h2, h3, h4, h5, _⟩ := h
    rcases List.mem_cons.1 hm with e | e
    · injection e with e1 e2; subst e1; subst e2
      exact ⟨g, t, cs, fuel, p, h1, h2, h3, h4⟩
    · exact laidVars_mem h5 e
theorem laid_ints {C : Cx} {W : World} {laid : List (String × DataW Unit)} {name : String} {g t e n : Nat} {k : IntKind} {zs : List Int} (h : laidMet C.P laid W)
    (hm : (name, .agg (zs.map fun z => .lit (.int k z))) ∈ laid) (hg : C.P.globalNamed name = some g) (ht : (C.P.globals[g]?).map (·.type) = some t) (hu : C.P.underlying t = some (.array n e))
    (hc : C.P.cellsOf e = 1) (hct : C.P.cellsOf t = n) (hk : C.P.underlying e = some (.int k)) : ∃ ty, GArr C W g ty (zs.map fun z => .i k z) := by
  obtain ⟨ps, hp, _, _⟩ := h
  obtain ⟨g', t', cs, fuel, p, h1, h2, h3, h4⟩ := laidVars_mem hp hm
  rw [hg] at h1; injection h1 with h1; subst h1
  rw [ht] at h2; injection h2 with h2; subst h2
  obtain ⟨xs, m, _, ex, hlen, hxl, hel⟩ := DataW.trod_array hu h4
  have e3 : xs.map (·.1) = zs.map fun z => .lit (.int k z) := (DataW.agg.inj (Prod.mk.inj ex).1).symm
  have hzl : zs.length = n := by have := congrArg List.length e3; simp at this; omega
  unfold World.var? at h3
  rw [hg] at h3
  simp only [Option.bind_some] at h3
  split at h3
  · rename_i arr ty fz hh
    injection h3 with h3
    subst h3
    have hsz : arr.size = n := by rw [← hct, ← hlen]; simp
    refine ⟨ty, arr, fz, hh, by simp [hsz, hzl], fun j a hj => ?_⟩
    rw [List.getElem?_map] at hj
    have hjn : j < n := by
      rcases Nat.lt_or_ge j n with h | h
      · exact h
      · rw [List.getElem?_eq_none (by omega)] at hj; cases hj
    rw [List.getElem?_eq_getElem (by omega : j < zs.length)] at hj
    simp only [Option.map_some, Option.some.injEq] at hj
    subst hj
    have hE := hel j hjn
    rw [hc, Nat.mul_one, List.getElem?_eq_getElem (by omega : j < xs.length)] at hE
    obtain ⟨z, e1, e2, _⟩ := DataW.trod_int hk hE
    have e4 : (xs.map (·.1))[j]? = (zs.map fun z => (DataW.lit (.int k z) : DataW Unit))[j]? := by rw [e3]
    rw [List.getElem?_map, List.getElem?_map, List.getElem?_eq_getElem (by omega : j < xs.length), List.getElem?_eq_getElem (by omega : j < zs.length), e2] at e4
    have hz : z = zs[j] := by
      simp only [Option.map_some, Option.some.injEq, DataW.lit.injEq, Lit.int.injEq, true_and] at e4
      exact e4
    refine ⟨.int k zs[j], ?_, by simp only [Rel], rfl⟩
    have h0 : ((arr.toList.drop j).take 1)[0]? = some (.int k z) := by rw [e1]; rfl
    rw [← hz]
    simpa using h0
  · cases h3
end Go.AX
namespace Go.AX
/-- a package variable that is an array of numbers -/
def ArrIs (w : World) (g : Nat) (k : IntKind) (zs : List Int) : Prop :=
  ∃ ty arr fz, w.heap[g]? = some (.cells arr ty fz) ∧ arr.size = zs.length ∧ ∀ (j : Nat) (z : Int), zs[j]? = some z → arr[j]? = some (.int k z)
theorem ArrIs.size {w : World} {g : Nat} {k : IntKind} {zs : List Int} (h : ArrIs w g k zs) : g < w.heap.size := by
  obtain ⟨ty, arr, fz, hw, _⟩ := h
  rcases Nat.lt_or_ge g w.heap.size with h | h
  · exact h
  · rw [Array.getElem?_eq_none h] at hw; cases hw
theorem ArrIs.same {w w' : World} {g : Nat} {k : IntKind} {zs : List Int} (h : ArrIs w g k zs) (e : w'.heap[g]? = w.heap[g]?) : ArrIs w' g k zs := by
  obtain ⟨ty, arr, fz, hw, hr⟩ := h
  exact ⟨ty, arr, fz, by rw [e]; exact hw, hr⟩
theorem ArrIs.gArr {C : Cx} {w : World} {g : Nat} {k : IntKind} {zs : List Int} (h : ArrIs w g k zs) : ∃ ty, GArr C w g ty (zs.map fun z => .i k z) := by
  obtain ⟨ty, arr, fz, hw, hs, hr⟩ := h
  refine ⟨ty, arr, fz, hw, by simpa using hs, fun j a hj => ?_⟩
  rw [List.getElem?_map] at hj
  cases hz : zs[j]? with
  | none => rw [hz] at hj; cases hj
  | some z =>
    rw [hz] at hj
    simp only [Option.map_some, Option.some.injEq] at hj
    subst hj
    exact ⟨_, hr j z hz, by simp only [Rel], rfl⟩
theorem laid_arr {P : Program} {W : World} {laid : List (String × DataW Unit)} {name : String} {g t e n : Nat} {k : IntKind} {zs : List Int} (h : laidMet P laid W)
    (hm : (name, .agg (zs.map fun z => .lit (.int k z))) ∈ laid) (hg : P.globalNamed name = some g) (ht : (P.globals[g]?).map (·.type) = some t) (hu : P.underlying t = some (.array n e))
    (hc : P.cellsOf e = 1) (hct : P.cellsOf t = n) (hk : P.underlying e = some (.int k)) : ArrIs W g k zs := by
  obtain ⟨ty, arr, fz, h1, h2, h3⟩ := laid_ints (C := ⟨P, fun _ => .bool true, fun _ => rfl, 0, fun _ => True, fun _ _ _ h => h⟩) h hm hg ht hu hc hct hk
  refine ⟨ty, arr, fz, h1, by simpa using h2, fun j z hz => ?_⟩
  obtain ⟨x, h4, h5, _⟩ := h3 j (.i k z) (by rw [List.getElem?_map, hz]; rfl)
  simp only [Rel] at h5
  rw [h4, h5]
end Go.AX
end
section
set_option linter.unusedVariables false
set_option linter.unusedSimpArgs false
namespace Go.AX
noncomputable section
def xMove (f : Operand → AV) (x : Operand) : M AV := ret (f x)
def pickB (p q : AV) : AV → M AV
  | .b b => cond b (ret p) (ret q)
  | _ => fail
def xPick (f : Operand → AV) (c a d : Operand) : M AV := pickB (f a) (f d) (f c)
def xAlloc (tb : Tab) (e : Nat) : M AV := bnd (lft (tb.ty.get e)) fun ti => match ti.zero with
    | none => fail
    | some _ => cond ti.zs (bnd (new (mkBlk e ti.zc)) fun v => ret (.p v 0)) fail
def xBox (f : Operand → AV) (e : Nat) (x : Operand) : M AV := bnd (lft (cellsOf (f x))) fun l => cond (l.all scal) (bnd (new (mkBlk e (.l l))) fun v => ret (.p v 0)) fail
def xLoad (tb : Tab) (f : Operand → AV) (t : Nat) (a : Operand) : M AV := load tb t (f a)
def xStore (tb : Tab) (f : Operand → AV) (t : Nat) (a x : Operand) : M AV := bnd (store tb t (f a) (f x)) fun _ => ret .und
def binSh (o : BinOp) (k l : IntKind) (a c : Int) : M AV := match o with
  | .shl => (match c with | .ofNat c => ret (mkI k (a * 2 ^ (Nat.min c k.bits))) | _ => fail)
  | .shr => (match a, c with | .ofNat a, .ofNat c => ret (.i k (.ofNat (Nat.shiftRight a (Nat.min c k.bits)))) | _, _ => fail)
  | o => cond (kEq k l) (binI o k a c) fail
def binE (tb : Tab) (o : BinOp) (t : Nat) (cx : Bool) (x y : AV) : M AV := match o with
  | .eql => bnd (eqTop tb t cx x y) fun r => ret (.b r)
  | .neq => bnd (eqTop tb t cx x y) fun r => ret (.b (!r))
  | _ => fail
def binH (tb : Tab) (o : BinOp) (t : Nat) (cx : Bool) (x : AV) (y : AV) : M AV := match y with
  | .x c => lft (hl tb.hyp (.bin o x (.x c)))
  | y => binE tb o t cx x y
def binS (o : BinOp) (k a l c : Nat) : M AV := match o with
  | .add => cond (Nat.ble (Nat.add k l) 9223372036854775807) (ret (.s (Nat.add k l) (Nat.add a (Nat.shiftLeft c (Nat.mul 8 k))))) fail
  | .eql => ret (.b (Nat.beq k l && Nat.beq a c))
  | .neq => ret (.b (!(Nat.beq k l && Nat.beq a c)))
  | .lss => ret (.b (sless k a l c))
  | .gtr => ret (.b (!(sless k a l c || (Nat.beq k l && Nat.beq a c))))
  | .leq => ret (.b (sless k a l c || (Nat.beq k l && Nat.beq a c)))
  | .geq => ret (.b (!(sless k a l c)))
  | _ => fail
def binI1 (tb : Tab) (o : BinOp) (t : Nat) (cx : Bool) (k : IntKind) (a : Int) (y : AV) : M AV := match y with
  | .i l c => binSh o k l a c
  | y => binH tb o t cx (.i k a) y
def binS1 (tb : Tab) (o : BinOp) (t : Nat) (cx : Bool) (k a : Nat) (y : AV) : M AV := match y with
  | .s l c => binS o k a l c
  | y => binH tb o t cx (.s k a) y
def binF (tb : Tab) (o : BinOp) (t : Nat) (cx : Bool) (x y : AV) : M AV := match x with
  | .i k a => binI1 tb o t cx k a y
  | .s k a => binS1 tb o t cx k a y
  | .x a => lft (hl tb.hyp (.bin o (.x a) y))
  | x => binH tb o t cx x y
def xBin (tb : Tab) (f : Operand → AV) (o : BinOp) (t : Nat) (x y : Operand) : M AV := binF tb o t (isC x || isC y) (f x) (f y)
def xField (tb : Tab) (f : Operand → AV) (t : Nat) (x : Operand) (i : Nat) : M AV := bnd (lft (tb.ty.get t)) fun ti => bnd (lft (fget ti.fs i)) fun fl => match f x with
    | .ag l => lft (part l fl)
    | _ => fail
def xFieldAddr (tb : Tab) (f : Operand → AV) (t : Nat) (x : Operand) (i : Nat) : M AV := bnd (lft (tb.ty.get t)) fun ti => bnd (lft (fget ti.fs i)) fun fl => match f x with
    | .p v o => cond (Nat.beq fl.sz 0) fail (ret (.p v (Nat.add o fl.off)))
    | _ => fail
def idxA (tb : Tab) (k : K) (x : AV) (i : Nat) : M AV := match k with
    | .arr n e => (match x with | .p v o => cond (Nat.blt i n) (bnd (lft (tb.ty.get e)) fun te => ret (.p v (Nat.add o (Nat.mul i te.size)))) fail | _ => fail)
    | .slice e => (match x with | .sl v o n _ _ => cond (Nat.blt i n) (bnd (lft (tb.ty.get e)) fun te => ret (.p v (Nat.add o (Nat.mul i te.size)))) fail | _ => fail)
    | _ => fail
def xIndexAddr (tb : Tab) (f : Operand → AV) (t : Nat) (x ix : Operand) : M AV := bnd (lft (tb.ty.get t)) fun ti => bnd (lft (asN (f ix))) fun i => idxA tb ti.k (f x) i
def idxS (tb : Tab) (x y : AV) : M AV := match x with
    | .s k n => (match asN y with | some i => cond (Nat.blt i k) (ret (.i .u8 (.ofNat (byteAt n i)))) fail | none => fail)
    | .x a => lft (hl tb.hyp (.idx (.x a) y))
    | _ => fail
def idxR (tb : Tab) (n e : Nat) (x y : AV) : M AV := match x with
    | .ag l => (match asN y with | some i => cond (Nat.blt i n) (bnd (lft (tb.ty.get e)) fun te => lft (part l ⟨Nat.mul i te.size, e, te.size, isAgg te.k, isBad te.k, true⟩)) fail | none => fail)
    | _ => fail
def idxK (tb : Tab) (k : K) (x y : AV) : M AV := match k with
    | .str => idxS tb x y
    | .arr n e => idxR tb n e x y
    | _ => fail
def xIndex (tb : Tab) (f : Operand → AV) (t : Nat) (x ix : Operand) : M AV := bnd (lft (tb.ty.get t)) fun ti => idxK tb ti.k (f x) (f ix)
def xExtract (f : Operand → AV) (x : Operand) (k : Nat) : M AV := match f x with
    | .tu l => lft (lget l k)
    | _ => fail
def xNil (f : Operand → AV) (x : Operand) : M AV := match f x with
    | .p v o => ret (.p v o)
    | .h t => ret (.h t)
    | .ifc t v => ret (.ifc t v)
    | .fn g a c => ret (.fn g a c)
    | .yl n => ret (.yl n)
    | _ => fail
def simpleF (tb : Tab) (f : Operand → AV) (o : Op) : M AV := match o with
  | .move x => xMove f x
  | .assign x => xMove f x
  | .pick c a d => xPick f c a d
  | .alloc e => xAlloc tb e
  | .box e x => xBox f e x
  | .load t a => xLoad tb f t a
  | .store t a x => xStore tb f t a x
  | .nilCheck x => xNil f x
  | .binOp o t x y _ => xBin tb f o t x y
  | .fieldAddr t x i => xFieldAddr tb f t x i
  | .field t x i => xField tb f t x i
  | .indexAddr t x ix => xIndexAddr tb f t x ix
  | .index t x ix => xIndex tb f t x ix
  | .extract x k => xExtract f x k
  | o => simple tb f o
def bi1 (tb : Tab) (bi : Builtin) (t : Nat) (ts : List Nat) (args : List AV) (x : AV) : M AV := match bi with
  | .len => bnd (lft (tb.ty.get t)) fun ti => lenK tb ti.k x
  | .cap => bnd (lft (tb.ty.get t)) fun ti => capK ti.k x
  | bi => builtin tb bi (t :: ts) args
def builtinF (tb : Tab) (bi : Builtin) (ts : List Nat) (args : List AV) : M AV := match ts with
  | t :: ts => (match args with
    | [x] => bi1 tb bi t ts args x
    | args => builtin tb bi (t :: ts) args)
  | ts => builtin tb bi ts args

structure Fs where
  code : Code → Env → M (Ex × Env)
  opsT : List Oper → List Oper → Env → M Env
  opsD : List Oper → List Oper → Nat → Env → List Rec → M (Env × List Rec)
  oper : Oper → Env → M AV
  call : Nat → List AV → M AV
  rnd : Nat → List AV → M AV
def F0 : Fs := ⟨fun _ _ => fail, fun _ _ _ => fail, fun _ _ _ _ _ => fail, fun _ _ => fail, fun _ _ => fail, fun _ _ => fail⟩
def rfPre (tb : Tab) (gf : Nat) (ps : List Nat) (a b : Code) (E : Env) : M Nat := bnd (lft (tb.fn.get gf)) fun fi => cond fi.body.isSome (newE (.j ⟨ps, a, b, E.tm, E.nt, 0, .normal⟩)) fail
def rfPost (n : Nat) (E : Env) : M (Ex × Env) := bnd (rdJ n) fun r => cond (Nat.beq r.st 1) fail (bnd (kill n) fun _ => ret (r.pend, E))
def rfK (tb : Tab) (R : Fs) (ps : List Nat) (a b : Code) (E : Env) (v : AV) : M (Ex × Env) := match v with
  | .fn gf first cap => bnd (rfPre tb gf ps a b E) fun n => bnd (R.call gf (first ++ (.yl n :: cap))) fun _ => rfPost n E
  | _ => fail
def rnd1 (n : Nat) : M Unit := bnd (rdJ n) fun r1 => cond (Nat.beq r1.st 0) (updE n (.j ⟨r1.ps, r1.asg, r1.body, r1.tm, r1.nt, 1, r1.pend⟩)) fail
def rnd2 (n : Nat) (ex : Ex) : M AV := bnd (rdJ n) fun r2 => bnd (updE n (.j ⟨r2.ps, r2.asg, r2.body, r2.tm, r2.nt, cond (isN ex) 0 2, ex⟩)) fun _ => ret (.b (isN ex))
def rndK (R : Fs) (n : Nat) (body : Code) (p : Ex × Env) : M AV := match p.1 with
  | .normal => bnd (rnd1 n) fun _ => bnd (R.code body p.2) fun q => rnd2 n q.1
  | _ => fail
def rndB (R : Fs) (n : Nat) (args : List AV) : M AV := bnd (rdJ n) fun r => bnd (lft (putAll ⟨r.tm, r.nt⟩ r.ps args)) fun E => bnd (R.code r.asg E) (rndK R n r.body)
def seqK (R : Fs) (b : Code) (r : Ex × Env) : M (Ex × Env) := match r.1 with
  | .normal => R.code b r.2
  | _ => ret r
def condK (R : Fs) (x y : Code) (E : Env) (v : AV) : M (Ex × Env) := match v with
  | .b b => cond b (R.code x E) (R.code y E)
  | _ => fail
def blockK (id : Nat) (r : Ex × Env) : M (Ex × Env) := match r.1 with
  | .exit j => cond (Nat.beq j id) (ret (.normal, r.2)) (ret r)
  | _ => ret r
def regD (R : Fs) (ops : List Oper) (E : Env) : M (Ex × Env) := bnd (R.opsD ops ops 0 E []) fun r => cond (!(anyClash r.2) || orderOk (anc ops 0 .leaf) r.2) (ret (.normal, r.1)) fail
def regT (R : Fs) (ops : List Oper) (E : Env) : M (Ex × Env) := bnd (R.opsT ops ops E) fun E => ret (.normal, E)
def codeB (tb : Tab) (R : Fs) (c : Code) (E : Env) : M (Ex × Env) := match c with
    | .skip => ret (.normal, E)
    | .label _ => ret (.normal, E)
    | .seq a b => bnd (R.code a E) (seqK R b)
    | .cond c x y => condK R x y E (op tb.ng E.tm c)
    | .block id body => bnd (R.code body E) (blockK id)
    | .loop body => bnd (R.code body E) (seqK R (.loop body))
    | .exit id => ret (.exit id, E)
    | .goto l => ret (.goto l, E)
    | .ret => ret (.ret, E)
    | .region _ ops draw => cond draw (regD R ops.toList E) (regT R ops.toList E)
    | .rangeFunc g ps a b => rfK tb R ps.toList a b E (op tb.ng E.tm g)
    | _ => fail
def wantF (all : List Oper) (E : Env) (o : Oper) (g : Option (Nat × Bool)) : Option Bool := match g with
  | none => some true
  | some _ => wanted all E o
def opsTK (R : Fs) (all : List Oper) (o : Oper) (r : List Oper) (E : Env) (w : Bool) : M Env := cond w
      (bnd (R.oper o E) fun v => bnd (lft (E.put o.dst v)) fun E => R.opsT all r E)
      (bnd (lft (E.put o.dst (.tu []))) fun E => R.opsT all r E)
def opsTB (R : Fs) (all : List Oper) (l : List Oper) (E : Env) : M Env := match l with
  | [] => ret E
  | o :: r => bnd (lft (wantF all E o o.guard)) (opsTK R all o r E)
def opsDK (R : Fs) (all : List Oper) (o : Oper) (r : List Oper) (n : Nat) (E : Env) (l : List Rec) (w : Bool) : M (Env × List Rec) := cond w
      (bnd (ownRun (R.oper o E)) fun p => bnd (lft (E.put o.dst p.1)) fun E => R.opsD all r (Nat.succ n) E (cond (Nat.beq p.2.1 0) l (⟨n, p.2.1, p.2.2⟩ :: l)))
      (bnd (lft (E.put o.dst (.tu []))) fun E => R.opsD all r (Nat.succ n) E l)
def opsDB (R : Fs) (all : List Oper) (l : List Oper) (n : Nat) (E : Env) (recs : List Rec) : M (Env × List Rec) := match l with
  | [] => ret (E, recs)
  | o :: r => bnd (lft (wantF all E o o.guard)) (opsDK R all o r n E recs)
def callV (R : Fs) (args : List AV) (v : AV) : M AV := match v with
  | .fn g first cap => R.call g (first ++ args ++ cap)
  | .yl n => R.rnd n args
  | _ => fail
def callI (tb : Tab) (R : Fs) (m : String) (args : List AV) (v : AV) : M AV := match v with
  | .ifc t v => bnd (lft (methd tb.met t m)) fun g => bnd (lft (recv g.2 v)) fun v => R.call g.1 (v :: args)
  | _ => fail
def callC (tb : Tab) (R : Fs) (φ : Operand → AV) (c : Call) : M AV := match c.callee with
  | .builtin b => builtinF tb b c.argTypes.toList (c.args.toList.map φ)
  | .value g => callV R (c.args.toList.map φ) (φ g)
  | .invoke r m => callI tb R m (c.args.toList.map φ) (φ r)
def operB (tb : Tab) (R : Fs) (o : Oper) (E : Env) : M AV := match o.op with
  | .call c => callC tb R (op tb.ng E.tm) c
  | x => simpleF tb (op tb.ng E.tm) x
def endK (tb : Tab) (res : List ResultVar) (r : Ex × Env) : M AV := match r.1 with
  | .normal => results tb res r.2
  | .ret => results tb res r.2
  | _ => fail
def bodyK (tb : Tab) (R : Fs) (fi : FI) (args : List AV) (b : Option Code) : M AV := match b with
  | none => ext tb fi.ext args
  | some c => cond (Nat.ble args.length fi.ntmps && Nat.ble fi.ntmps 16777213) (bnd (R.code c ⟨args0 args 0 .leaf, fi.ntmps⟩) (endK tb fi.res)) fail
def sumK (tb : Tab) (R : Fs) (fi : FI) (args : List AV) (s : Option AV) : M AV := match s with
  | none => bodyK tb R fi args fi.body
  | some v => (match args with | [] => ret v | _ => bodyK tb R fi args fi.body)
def callB (tb : Tab) (R : Fs) (g : Nat) (args : List AV) : M AV := bnd (lft (tb.fn.get g)) fun fi => sumK tb R fi args fi.sum
def fstep (tb : Tab) (R : Fs) : Fs := ⟨codeB tb R, opsTB R, opsDB R, operB tb R, callB tb R, rndB R⟩
def fs (tb : Tab) (f : Nat) : Fs := Nat.rec (motive := fun _ => Fs) F0 (fun _ R => fstep tb R) f
theorem pickB_eq (p q v : AV) : pickB p q v = (match v with
    | .b true => ret p
    | .b false => ret q
    | _ => fail) := by
  cases v with
  | b x => cases x <;> rfl
  | _ => rfl
theorem binF_eq (tb : Tab) (o : BinOp) (t : Nat) (cx : Bool) (x y : AV) : binF tb o t cx x y = bin tb o t cx x y := by
  cases x with
  | i k a =>
    cases y with
    | i l c =>
      cases o <;> first | rfl | (cases a <;> cases c <;> first | rfl | (show (fail : M AV) = cond (kEq k l) fail fail; cases kEq k l <;> rfl))
    | _ => cases o <;> first | rfl | (cases a <;> rfl)
  | s k a =>
    cases y with
    | s l c => cases o <;> rfl
    | _ => cases o <;> rfl
  | x a => cases o <;> cases y <;> rfl
  | _ => cases y <;> cases o <;> rfl
theorem bnd_congr {α β : Type} {m : M α} {f g : α → M β} (h : ∀ a, f a = g a) : bnd m f = bnd m g := by rw [funext h]
theorem bnd_fail {α β : Type} (m : M α) (f : α → M β) (h : ∀ a, f a = fail) : ∀ S, bnd m f S = none := fun S => by
  unfold bnd
  cases m S with
  | none => rfl
  | some p => exact congrFun (h p.1) p.2
theorem idxA_eq (tb : Tab) (k : K) (x y : AV) : (bnd (lft (asN y)) fun i => idxA tb k x i) = (match k, x, asN y with
    | .arr n e, .p v o, some i => cond (Nat.blt i n) (bnd (lft (tb.ty.get e)) fun te => ret (.p v (Nat.add o (Nat.mul i te.size)))) fail
    | .slice e, .sl v o n _ _, some i => cond (Nat.blt i n) (bnd (lft (tb.ty.get e)) fun te => ret (.p v (Nat.add o (Nat.mul i te.size)))) fail
    | _, _, _ => fail) := by
  cases asN y with
  | none => cases k <;> cases x <;> rfl
  | some i => cases k <;> cases x <;> rfl
theorem idxK_eq (tb : Tab) (k : K) (x y : AV) : idxK tb k x y = (match k, x, asN y with
    | .str, .s k n, some i => cond (Nat.blt i k) (ret (.i .u8 (.ofNat (byteAt n i)))) fail
    | .str, .x a, _ => lft (hl tb.hyp (.idx (.x a) y))
    | .arr n e, .ag l, some i => cond (Nat.blt i n) (bnd (lft (tb.ty.get e)) fun te => lft (part l ⟨Nat.mul i te.size, e, te.size, isAgg te.k, isBad te.k, true⟩)) fail
    | _, _, _ => fail) := by
  unfold idxK idxS idxR
  generalize asN y = n
  cases k <;> cases x <;> cases n <;> rfl
theorem simpleF_eq (tb : Tab) (f : Operand → AV) (o : Op) : simpleF tb f o = simple tb f o := by
  cases o with
  | pick c a d => exact pickB_eq _ _ _
  | binOp o t x y u => exact binF_eq _ _ _ _ _ _
  | indexAddr t x ix => exact bnd_congr fun ti => idxA_eq tb ti.k (f x) (f ix)
  | index t x ix => exact bnd_congr fun ti => idxK_eq tb ti.k (f x) (f ix)
  | _ => rfl
theorem builtinF_eq (tb : Tab) (bi : Builtin) (ts : List Nat) (args : List AV) : builtinF tb bi ts args = builtin tb bi ts args := by
  cases ts with
  | nil => rfl
  | cons t ts =>
    cases args with
    | nil => rfl
    | cons x l =>
      cases l with
      | nil => cases bi <;> rfl
      | cons y l => rfl
theorem wantF_eq (all : List Oper) (E : Env) (o : Oper) : wantF all E o o.guard = wanted all E o := by
  cases hg : o.guard with
  | none => show some true = wanted all E o; unfold wanted; rw [hg]
  | some g => rfl
theorem bnd_cond {α β γ : Type} (m : M γ) (c : γ → Bool) (n : γ → M α) (f : α → M β) : bnd (bnd m fun x => cond (c x) (n x) fail) f = bnd m fun x => cond (c x) (bnd (n x) f) fail := by
  funext S
  unfold bnd
  cases m S with
  | none => rfl
  | some q =>
    obtain ⟨x, S1⟩ := q
    cases h : c x <;> simp [h, fail]
theorem fs_eq (tb : Tab) : ∀ f, fs tb f = ⟨code tb f, opsT tb f, opsD tb f, oper tb f, call tb f, rnd tb f⟩
  | 0 => by
    show F0 = _
    unfold F0
    congr 1
  | f + 1 => by
    show fstep tb (fs tb f) = _
    rw [fs_eq tb f]
    unfold fstep
    congr 1
    · funext c E
      cases c with
      | cond c x y =>
        rw [code]
        show condK _ x y E (op tb.ng E.tm c) = _
        cases op tb.ng E.tm c with
        | b v => cases v <;> rfl
        | _ => rfl
      | rangeFunc g ps a b =>
        rw [code]
        show rfK tb _ ps.toList a b E (op tb.ng E.tm g) = _
        cases op tb.ng E.tm g with
        | fn gf first cap =>
          show bnd (rfPre tb gf ps.toList a b E) _ = _
          unfold rfPre
          rw [bnd_cond]
          rfl
        | _ => rfl
      | _ => unfold code; rfl
    · funext a r E
      cases r with
      | nil => rw [opsT]; rfl
      | cons o r => rw [opsT]; show bnd (lft (wantF a E o o.guard)) _ = _; rw [wantF_eq]; rfl
    · funext a r n E l
      cases r with
      | nil => rw [opsD]; rfl
      | cons o r => rw [opsD]; show bnd (lft (wantF a E o o.guard)) _ = _; rw [wantF_eq]; rfl
    · funext o E
      rw [oper]
      show (match o.op with
        | .call c => callC tb _ (op tb.ng E.tm) c
        | x => simpleF tb (op tb.ng E.tm) x) = _
      cases o.op with
      | call c =>
        show callC tb _ (op tb.ng E.tm) c = _
        cases c
        rename_i callee args tys
        cases callee with
        | builtin b => exact builtinF_eq _ _ _ _
        | value g =>
          show callV _ _ (op tb.ng E.tm g) = (match op tb.ng E.tm g with
            | .fn g first cap => call tb f g (first ++ args.toList.map (op tb.ng E.tm) ++ cap)
            | .yl n => rnd tb f n (args.toList.map (op tb.ng E.tm))
            | _ => fail)
          cases op tb.ng E.tm g <;> rfl
        | invoke r m =>
          show callI tb _ m _ (op tb.ng E.tm r) = (match op tb.ng E.tm r with
            | .ifc t v => bnd (lft (methd tb.met t m)) fun g => bnd (lft (recv g.2 v)) fun v => call tb f g.1 (v :: args.toList.map (op tb.ng E.tm))
            | _ => fail)
          cases op tb.ng E.tm r <;> rfl
      | _ => exact simpleF_eq _ _ _
    · funext g l
      rw [call]
      refine bnd_congr fun fi => ?_
      have hbody : bodyK tb ⟨code tb f, opsT tb f, opsD tb f, oper tb f, call tb f, rnd tb f⟩ fi l fi.body = (match fi.body with
          | none => ext tb fi.ext l
          | some c => cond (Nat.ble l.length fi.ntmps && Nat.ble fi.ntmps 16777213) (bnd (code tb f c ⟨args0 l 0 .leaf, fi.ntmps⟩) fun r => match r.1 with
            | .normal | .ret => results tb fi.res r.2
            | _ => fail) fail) := by
        cases fi.body with
        | none => rfl
        | some c =>
          show cond _ (bnd _ (endK tb fi.res)) fail = _
          rw [show endK tb fi.res = (fun r => match r.1 with
            | .normal | .ret => results tb fi.res r.2
            | _ => fail) from funext fun r => by unfold endK; cases r.1 <;> rfl]
      show sumK tb _ fi l fi.sum = _
      cases fi.sum with
      | none => exact hbody
      | some v =>
        cases l with
        | nil => rfl
        | cons x l => exact hbody
    · funext n l
      rw [rnd]
      refine bnd_congr fun r => bnd_congr fun E => bnd_congr fun p => ?_
      obtain ⟨ex, E1⟩ := p
      cases ex with
      | normal =>
        show bnd (rnd1 n) _ = _
        unfold rnd1
        rw [bnd_cond]
        rfl
      | _ => rfl
theorem run_fs {tb : Tab} {f g : Nat} {l : List AV} {S : St} : (fs tb f).call g l S = call tb f g l S := by rw [fs_eq]
end
end Go.AX
end
section
set_option linter.unusedVariables false
set_option linter.unusedSimpArgs false
namespace Go.AX
noncomputable section
/- a twin by continuations: quick in the kernel; what it says true the interpreter answers -/
def CM (α : Type) := (α → St → Bool) → St → Bool
def retC {α : Type} (a : α) (k : α → St → Bool) (S : St) : Bool := k a S
def failC {α : Type} (k : α → St → Bool) (S : St) : Bool := false
def bndC {α β : Type} (m : CM α) (f : α → CM β) (k : β → St → Bool) (S : St) : Bool := m (fun a => f a k) S
def lftC {α : Type} (o : Option α) (k : α → St → Bool) (S : St) : Bool := Option.rec (motive := fun _ => Bool) false (fun a => k a S) o
def embC {α : Type} (m : M α) (k : α → St → Bool) (S : St) : Bool := Option.rec (motive := fun _ => Bool) false (fun p => Prod.rec (motive := fun _ => Bool) k p) (m S)
def ifC {α : Type} (b : Bool) (x y : CM α) (k : α → St → Bool) (S : St) : Bool := Bool.rec (motive := fun _ => Bool) (y k S) (x k S) b
def rdC (v : Nat) (k : Blk → St → Bool) (S : St) : Bool := St.rec (motive := fun _ => Bool) (fun heap next acc wr => Option.rec (motive := fun _ => Bool) false (fun e => Ent.rec (motive := fun _ => Bool) (fun b => k b ⟨heap, next, Nat.lor acc (bit v), wr⟩) (fun _ => false) (fun _ _ => false) (fun _ _ _ _ => false) e) (T.get heap v)) S
def Sim {α : Type} (mC : CM α) (m : M α) : Prop := ∀ k S, mC k S = true → ∃ a S', m S = some (a, S') ∧ k a S' = true
theorem Sim.ret {α : Type} (a : α) : Sim (retC a) (ret a) := fun k S h => ⟨a, S, rfl, h⟩
theorem Sim.fail {α : Type} : Sim (failC : CM α) fail := fun k S h => by cases h
theorem Sim.bnd {α β : Type} {mC : CM α} {m : M α} {fC : α → CM β} {f : α → M β} (hm : Sim mC m) (hf : ∀ a, Sim (fC a) (f a)) : Sim (bndC mC fC) (bnd m f) := fun k S h => by
  obtain ⟨a, S1, h1, h2⟩ := hm _ _ h
  obtain ⟨b, S2, h3, h4⟩ := hf a _ _ h2
  exact ⟨b, S2, by unfold AX.bnd; rw [h1]; exact h3, h4⟩
theorem Sim.lft {α : Type} (o : Option α) : Sim (lftC o) (lft o) := fun k S h => by
  cases o with
  | none => cases h
  | some a => exact ⟨a, S, rfl, h⟩
theorem Sim.emb {α : Type} (m : M α) : Sim (embC m) m := fun k S h => by
  unfold embC at h
  cases hm : m S with
  | none => rw [hm] at h; cases h
  | some p => obtain ⟨a, S'⟩ := p; rw [hm] at h; exact ⟨a, S', rfl, h⟩
theorem Sim.embD {α : Type} {mC : CM α} {m : M α} (h : mC = embC m) : Sim mC m := h ▸ Sim.emb m
theorem Sim.cond {α : Type} {b : Bool} {x y : CM α} {x' y' : M α} (hx : Sim x x') (hy : Sim y y') : Sim (ifC b x y) (_root_.cond b x' y') := by
  cases b
  · exact hy
  · exact hx
theorem Sim.rd (v : Nat) : Sim (rdC v) (rd v) := fun k S h => by
  obtain ⟨heap, next, acc, wr⟩ := S
  unfold rdC at h
  unfold AX.rd
  simp only [] at h ⊢
  cases hg : heap.get v with
  | none => rw [hg] at h; cases h
  | some e =>
    rw [hg] at h
    cases e with
    | b b => exact ⟨b, _, rfl, h⟩
    | _ => cases h
theorem Sim.of_eq {α : Type} {mC : CM α} {m m' : M α} (h : Sim mC m) (e : m = m') : Sim mC m' := e ▸ h
/- operations -/
def kn : IntKind → Nat
  | .i8 => 0
  | .i16 => 1
  | .i32 => 2
  | .i64 => 3
  | .u8 => 4
  | .u16 => 5
  | .u32 => 6
  | .u64 => 7
theorem kn_eq (k l : IntKind) : Nat.beq (kn k) (kn l) = kEq k l := by cases k <;> cases l <;> rfl
def kC (k l : IntKind) (v : AV) : CM AV := ifC (Nat.beq (kn k) (kn l)) (retC v) failC
theorem Sim.kC {k l : IntKind} {v : AV} {m : M AV} (h : m = _root_.cond (kEq k l) (AX.ret v) AX.fail) : Sim (kC k l v) m := by
  subst h
  rw [← kn_eq]
  exact Sim.cond (Sim.ret _) Sim.fail
def binShC (o : BinOp) (k l : IntKind) (a c : Int) : CM AV := match o with
  | .add => kC k l (mkI k (a + c))
  | .sub => kC k l (mkI k (a - c))
  | .lss => kC k l (.b (ilt a c))
  | .leq => kC k l (.b (ile a c))
  | .gtr => kC k l (.b (ilt c a))
  | .geq => kC k l (.b (ile c a))
  | .eql => kC k l (.b (ieq a c))
  | .neq => kC k l (.b (!(ieq a c)))
  | o => embC (binSh o k l a c)
theorem Sim.binSh (o : BinOp) (k l : IntKind) (a c : Int) : Sim (binShC o k l a c) (AX.binSh o k l a c) := by
  cases o <;> first | exact Sim.emb _ | exact Sim.kC rfl
def binI1C (tb : Tab) (o : BinOp) (t : Nat) (cx : Bool) (k : IntKind) (a : Int) (y : AV) : CM AV := match y with
  | .i l c => binShC o k l a c
  | y => embC (binH tb o t cx (.i k a) y)
def binFC (tb : Tab) (o : BinOp) (t : Nat) (cx : Bool) (x y : AV) : CM AV := match x with
  | .i k a => binI1C tb o t cx k a y
  | x => embC (binF tb o t cx x y)
theorem Sim.binF (tb : Tab) (o : BinOp) (t : Nat) (cx : Bool) (x y : AV) : Sim (binFC tb o t cx x y) (bin tb o t cx x y) := by
  rw [← binF_eq]
  cases x with
  | i k a => cases y <;> first | exact Sim.binSh _ _ _ _ _ | exact Sim.emb _
  | _ => exact Sim.emb _
def pickC (p q : AV) (v : AV) : CM AV := match v with
  | .b b => retC (Bool.rec (motive := fun _ => AV) q p b)
  | _ => failC
theorem Sim.pick (p q v : AV) : Sim (pickC p q v) (pickB p q v) := by
  cases v with
  | b x => cases x <;> exact Sim.ret _
  | _ => exact Sim.fail
def newC (b : Blk) (k : Nat → St → Bool) (S : St) : Bool := St.rec (motive := fun _ => Bool) (fun heap next acc wr => Bool.rec (motive := fun _ => Bool) false (k next ⟨heap.set next (.b b), Nat.succ next, Nat.lor acc (bit next), Nat.lor wr (bit next)⟩) (Nat.ble next 16777213)) S
theorem Sim.new (b : Blk) : Sim (newC b) (AX.new b) := fun k S h => by
  obtain ⟨heap, next, acc, wr⟩ := S
  unfold newC at h
  unfold AX.new AX.newE
  simp only [] at h ⊢
  cases hg : Nat.ble next 16777213 with
  | false => rw [hg] at h; cases h
  | true => rw [hg] at h; exact ⟨_, _, rfl, h⟩
def allocK (e : Nat) (zs : Bool) (zc : Cells) (z : Option AV) : CM AV := fun k S => Option.rec (motive := fun _ => Bool) false (fun _ => ifC zs (bndC (newC (mkBlk e zc)) fun v => retC (.p v 0)) failC k S) z
def allocC (tb : Tab) (e : Nat) : CM AV := bndC (lftC (tb.ty.get e)) fun ti => allocK e ti.zs ti.zc ti.zero
theorem Sim.alloc (tb : Tab) (e : Nat) : Sim (allocC tb e) (xAlloc tb e) := by
  refine Sim.bnd (Sim.lft _) fun ti => ?_
  cases h : ti.zero with
  | none => exact fun k S h => by cases h
  | some z => exact Sim.cond (Sim.bnd (Sim.new _) fun _ => Sim.ret _) Sim.fail
def loadC (tb : Tab) (t : Nat) (x : AV) : CM AV := match x with
  | .p v o => bndC (lftC (tb.ty.get t)) fun ti => bndC (rdC v) fun k => ifC (isAgg ti.k) (bndC (lftC (k.c.sub o ti.size)) fun c => retC (.ag c.toL)) (ifC (isBad ti.k) failC (lftC (k.c.get o)))
  | _ => failC
theorem Sim.load (tb : Tab) (t : Nat) (x : AV) : Sim (loadC tb t x) (AX.load tb t x) := by
  cases x with
  | p v o => exact Sim.bnd (Sim.lft _) fun ti => Sim.bnd (Sim.rd _) fun k => Sim.cond (Sim.bnd (Sim.lft _) fun c => Sim.ret _) (Sim.cond Sim.fail (Sim.lft _))
  | _ => exact Sim.fail
def updC (v : Nat) (b : Blk) (k : Unit → St → Bool) (S : St) : Bool := St.rec (motive := fun _ => Bool) (fun heap next acc wr => Bool.rec (motive := fun _ => Bool) false (k () ⟨heap.set v (.b b), next, Nat.lor acc (bit v), Nat.lor wr (bit v)⟩) (Nat.blt v next && Nat.ble v 16777213)) S
theorem Sim.upd (v : Nat) (b : Blk) : Sim (updC v b) (AX.upd v b) := fun k S h => by
  obtain ⟨heap, next, acc, wr⟩ := S
  unfold updC at h
  unfold AX.upd AX.updE
  simp only [] at h ⊢
  cases hg : (Nat.blt v next && Nat.ble v 16777213) with
  | false => rw [hg] at h; cases h
  | true => rw [hg] at h; exact ⟨_, _, rfl, h⟩
def storeOne (v o sz : Nat) (k : Blk) (y : AV) : CM Unit := ifC (scal y && Nat.beq sz 1) (bndC (lftC (k.c.set1 o y)) fun c => updC v { k with c }) failC
def storeY (v o sz : Nat) (k : Blk) (y : AV) : CM Unit := match y with
  | .ag l => ifC (Nat.beq l.length sz && Nat.ble (Nat.add o sz) k.c.len && l.all scal) (bndC (lftC (k.c.put o (.l l))) fun c => updC v { k with c }) failC
  | y => storeOne v o sz k y
def storeC (tb : Tab) (t : Nat) (x y : AV) : CM Unit := match x with
  | .p v o => bndC (lftC (tb.ty.get t)) fun ti => bndC (rdC v) fun k => ifC (Nat.ble k.fr o) (storeY v o ti.size k y) failC
  | _ => failC
theorem Sim.storeOne (v o sz : Nat) (k : Blk) (y : AV) : Sim (storeOne v o sz k y) (_root_.cond (scal y && Nat.beq sz 1) (AX.bnd (AX.lft (k.c.set1 o y)) fun c => AX.upd v { k with c }) AX.fail) := Sim.cond (Sim.bnd (Sim.lft _) fun c => Sim.upd _ _) Sim.fail
theorem Sim.storeAg (v o sz : Nat) (k : Blk) (l : List AV) : Sim (storeY v o sz k (.ag l)) (_root_.cond (Nat.beq l.length sz && Nat.ble (Nat.add o sz) k.c.len && l.all scal) (AX.bnd (AX.lft (k.c.put o (.l l))) fun c => AX.upd v { k with c }) AX.fail) := Sim.cond (Sim.bnd (Sim.lft _) fun c => Sim.upd _ _) Sim.fail
theorem Sim.store (tb : Tab) (t : Nat) (x y : AV) : Sim (storeC tb t x y) (AX.store tb t x y) := by
  cases x with
  | p v o =>
    refine Sim.bnd (Sim.lft _) fun ti => Sim.bnd (Sim.rd _) fun k => Sim.cond ?_ Sim.fail
    cases y <;> first | exact Sim.storeAg _ _ _ _ _ | exact Sim.storeOne _ _ _ _ _
  | _ => exact Sim.fail
def fieldK (fl : Fl) (x : AV) : CM AV := match x with
  | .ag l => lftC (part l fl)
  | _ => failC
def fieldC (tb : Tab) (t i : Nat) (x : AV) : CM AV := bndC (lftC (tb.ty.get t)) fun ti => bndC (lftC (fget ti.fs i)) fun fl => fieldK fl x
def fieldAddrK (fl : Fl) (x : AV) : CM AV := match x with
  | .p v o => ifC (Nat.beq fl.sz 0) failC (retC (.p v (Nat.add o fl.off)))
  | _ => failC
def fieldAddrC (tb : Tab) (t i : Nat) (x : AV) : CM AV := bndC (lftC (tb.ty.get t)) fun ti => bndC (lftC (fget ti.fs i)) fun fl => fieldAddrK fl x
theorem Sim.field (tb : Tab) (f : Operand → AV) (t i : Nat) (x : Operand) : Sim (fieldC tb t i (f x)) (xField tb f t x i) := by
  refine Sim.bnd (Sim.lft _) fun ti => Sim.bnd (Sim.lft _) fun fl => ?_
  generalize f x = y
  cases y <;> first | exact Sim.lft _ | exact Sim.fail
theorem Sim.fieldAddr (tb : Tab) (f : Operand → AV) (t i : Nat) (x : Operand) : Sim (fieldAddrC tb t i (f x)) (xFieldAddr tb f t x i) := by
  refine Sim.bnd (Sim.lft _) fun ti => Sim.bnd (Sim.lft _) fun fl => ?_
  generalize f x = y
  cases y <;> first | exact Sim.cond Sim.fail (Sim.ret _) | exact Sim.fail
def idxSl (tb : Tab) (e : Nat) (x : AV) (i : Nat) : CM AV := match x with
  | .sl v o n _ _ => ifC (Nat.blt i n) (bndC (lftC (tb.ty.get e)) fun te => retC (.p v (Nat.add o (Nat.mul i te.size)))) failC
  | _ => failC
def idxAC (tb : Tab) (k : K) (x : AV) (i : Nat) : CM AV := match k with
  | .slice e => idxSl tb e x i
  | k => embC (idxA tb k x i)
def indexAddrC (tb : Tab) (t : Nat) (x y : AV) : CM AV := bndC (lftC (tb.ty.get t)) fun ti => bndC (lftC (asN y)) fun i => idxAC tb ti.k x i
theorem Sim.indexAddr (tb : Tab) (f : Operand → AV) (t : Nat) (x ix : Operand) : Sim (indexAddrC tb t (f x) (f ix)) (xIndexAddr tb f t x ix) := by
  refine Sim.bnd (Sim.lft _) fun ti => Sim.bnd (Sim.lft _) fun i => ?_
  generalize f x = y
  generalize ti.k = q
  cases q with
  | slice e => cases y <;> first | exact Sim.cond (Sim.bnd (Sim.lft _) fun _ => Sim.ret _) Sim.fail | exact Sim.fail
  | arr n e => exact Sim.emb (idxA tb (.arr n e) y i)
  | bool => exact Sim.emb (idxA tb .bool y i)
  | int k => exact Sim.emb (idxA tb (.int k) y i)
  | map k e => exact Sim.emb (idxA tb (.map k e) y i)
  | str => exact Sim.emb (idxA tb .str y i)
  | struct => exact Sim.emb (idxA tb .struct y i)
  | ptr e => exact Sim.emb (idxA tb (.ptr e) y i)
  | iface e => exact Sim.emb (idxA tb (.iface e) y i)
  | uptr => exact Sim.emb (idxA tb .uptr y i)
  | func => exact Sim.emb (idxA tb .func y i)
  | other => exact Sim.emb (idxA tb .other y i)
  | bad => exact Sim.emb (idxA tb .bad y i)
def idxSC (n k : Nat) (i : Nat) : CM AV := ifC (Nat.blt i k) (retC (.i .u8 (.ofNat (byteAt n i)))) failC
def idxStr (tb : Tab) (x y : AV) : CM AV := match x with
  | .s k n => bndC (lftC (asN y)) fun i => idxSC n k i
  | x => embC (idxS tb x y)
def idxKC (tb : Tab) (k : K) (x y : AV) : CM AV := match k with
  | .str => idxStr tb x y
  | k => embC (idxK tb k x y)
def indexC (tb : Tab) (t : Nat) (x y : AV) : CM AV := bndC (lftC (tb.ty.get t)) fun ti => idxKC tb ti.k x y
theorem Sim.index (tb : Tab) (f : Operand → AV) (t : Nat) (x ix : Operand) : Sim (indexC tb t (f x) (f ix)) (xIndex tb f t x ix) := by
  refine Sim.bnd (Sim.lft _) fun ti => ?_
  generalize f x = y
  generalize f ix = z
  generalize ti.k = q
  have hs : ∀ y, Sim (idxStr tb y z) (idxS tb y z) := fun y => by
    cases y with
    | s k n =>
      have h : Sim (bndC (lftC (asN z)) fun i => idxSC n k i) (AX.bnd (AX.lft (asN z)) fun i => _root_.cond (Nat.blt i k) (AX.ret (.i .u8 (.ofNat (byteAt n i)))) AX.fail) := Sim.bnd (Sim.lft _) fun i => Sim.cond (Sim.ret _) Sim.fail
      refine Sim.of_eq (mC := idxStr tb (.s k n) z) h ?_
      unfold idxS
      cases asN z <;> rfl
    | _ => exact Sim.embD rfl
  cases q with
  | str => exact hs y
  | arr n e => exact Sim.emb (idxK tb (.arr n e) y z)
  | bool => exact Sim.emb (idxK tb .bool y z)
  | int k => exact Sim.emb (idxK tb (.int k) y z)
  | map k e => exact Sim.emb (idxK tb (.map k e) y z)
  | slice e => exact Sim.emb (idxK tb (.slice e) y z)
  | struct => exact Sim.emb (idxK tb .struct y z)
  | ptr e => exact Sim.emb (idxK tb (.ptr e) y z)
  | iface e => exact Sim.emb (idxK tb (.iface e) y z)
  | uptr => exact Sim.emb (idxK tb .uptr y z)
  | func => exact Sim.emb (idxK tb .func y z)
  | other => exact Sim.emb (idxK tb .other y z)
  | bad => exact Sim.emb (idxK tb .bad y z)
def extractC (x : AV) (k : Nat) : CM AV := match x with
  | .tu l => lftC (lget l k)
  | _ => failC
theorem Sim.extract (f : Operand → AV) (x : Operand) (k : Nat) : Sim (extractC (f x) k) (xExtract f x k) := by
  unfold xExtract
  generalize f x = y
  cases y <;> first | exact Sim.lft _ | exact Sim.fail
def nilC (x : AV) : CM AV := match x with
  | .p v o => retC (.p v o)
  | .h t => retC (.h t)
  | .ifc t v => retC (.ifc t v)
  | .fn g a c => retC (.fn g a c)
  | .yl n => retC (.yl n)
  | _ => failC
theorem Sim.nil (f : Operand → AV) (x : Operand) : Sim (nilC (f x)) (xNil f x) := by
  unfold xNil
  generalize f x = y
  cases y <;> first | exact Sim.ret _ | exact Sim.fail
def convI (k : K) (n : Int) (m : M AV) : CM AV := match k with
  | .int q => retC (mkI q n)
  | _ => embC m
def convC (tb : Tab) (src dst : Nat) (x : AV) (m : M AV) : CM AV := match x with
  | .i _ n => bndC (lftC (tb.ty.get src)) fun ts => bndC (lftC (tb.ty.get dst)) fun td => ifC (isBad ts.k) failC (convI td.k n m)
  | _ => embC m
theorem Sim.conv (tb : Tab) (f : Operand → AV) (src dst : Nat) (x : Operand) : Sim (convC tb src dst (f x) (simple tb f (.convert src dst x))) (simple tb f (.convert src dst x)) := by
  generalize hm : simple tb f (.convert src dst x) = m
  generalize hx : f x = y
  cases y <;> first | exact Sim.emb _ | skip
  rename_i q n
  intro k S h
  obtain ⟨ts, S1, h1, h2⟩ := Sim.lft _ _ _ h
  obtain ⟨h3, rfl⟩ := lft_inv h1
  obtain ⟨td, S2, h4, h5⟩ := Sim.lft _ _ _ h2
  obtain ⟨h6, rfl⟩ := lft_inv h4
  have h5 : ifC (isBad ts.k) failC (convI td.k n m) k S2 = true := h5
  cases hb : isBad ts.k with
  | true => rw [hb] at h5; cases h5
  | false =>
    rw [hb] at h5
    have h5 : convI td.k n m k S2 = true := h5
    cases hk : td.k with
    | int q' =>
      rw [hk] at h5
      refine ⟨_, _, ?_, h5⟩
      rw [← hm]
      simp only [AX.simple, AX.bnd, AX.lft, h3, h6, hb, hk, hx, cond_false]
      first | done | rfl
    | _ => rw [hk] at h5; exact Sim.emb m k S2 h5
def mkIfK (k : K) (t : Nat) (x : AV) : CM AV := match k with
  | .iface _ => failC
  | .bad => failC
  | _ => retC (.ifc t x)
def mkIfC (tb : Tab) (t : Nat) (x : AV) : CM AV := bndC (lftC (tb.ty.get t)) fun ti => mkIfK ti.k t x
theorem Sim.mkIf (tb : Tab) (f : Operand → AV) (t : Nat) (x : Operand) : Sim (mkIfC tb t (f x)) (simple tb f (.makeInterface t x)) := by
  refine Sim.bnd (Sim.lft _) fun ti => ?_
  cases ti.k <;> first | exact Sim.fail | exact Sim.ret _
def simpleC (tb : Tab) (f : Operand → AV) (o : Op) : CM AV := match o with
  | .move x => retC (f x)
  | .assign x => retC (f x)
  | .pick c a d => pickC (f a) (f d) (f c)
  | .alloc e => allocC tb e
  | .load t a => loadC tb t (f a)
  | .store t a x => bndC (storeC tb t (f a) (f x)) fun _ => retC .und
  | .nilCheck x => nilC (f x)
  | .binOp o t x y _ => binFC tb o t (isC x || isC y) (f x) (f y)
  | .convert src dst x => convC tb src dst (f x) (simple tb f (.convert src dst x))
  | .makeInterface t x => mkIfC tb t (f x)
  | .fieldAddr t x i => fieldAddrC tb t i (f x)
  | .field t x i => fieldC tb t i (f x)
  | .indexAddr t x ix => indexAddrC tb t (f x) (f ix)
  | .index t x ix => indexC tb t (f x) (f ix)
  | .extract x k => extractC (f x) k
  | o => embC (simple tb f o)
theorem Sim.simple (tb : Tab) (f : Operand → AV) (o : Op) : Sim (simpleC tb f o) (AX.simple tb f o) := by
  cases o with
  | move x => exact Sim.ret _
  | assign x => exact Sim.ret _
  | pick c a d => rw [← simpleF_eq]; exact Sim.pick _ _ _
  | alloc e => exact Sim.alloc tb e
  | load t a => exact Sim.load _ _ _
  | store t a x => exact Sim.bnd (Sim.store _ _ _ _) fun _ => Sim.ret _
  | nilCheck x => exact Sim.nil f x
  | binOp o t x y u => exact Sim.binF _ _ _ _ _ _
  | convert src dst x => exact Sim.conv tb f src dst x
  | makeInterface t x => exact Sim.mkIf tb f t x
  | fieldAddr t x i => exact Sim.fieldAddr tb f t i x
  | field t x i => exact Sim.field tb f t i x
  | indexAddr t x ix => rw [← simpleF_eq]; exact Sim.indexAddr tb f t x ix
  | index t x ix => rw [← simpleF_eq]; exact Sim.index tb f t x ix
  | extract x k => exact Sim.extract f x k
  | _ => exact Sim.embD rfl
structure FsC where
  code : Code → Env → (Ex → Env → St → Bool) → St → Bool
  opsT : List Oper → List Oper → Env → (Env → St → Bool) → St → Bool
  opsD : List Oper → List Oper → Nat → Env → List Rec → (Env → List Rec → St → Bool) → St → Bool
  oper : Oper → Env → (AV → St → Bool) → St → Bool
  call : Nat → List AV → (AV → St → Bool) → St → Bool
  rnd : Nat → List AV → (AV → St → Bool) → St → Bool
structure SimF (tb : Tab) (f : Nat) (R : FsC) : Prop where
  code : ∀ c E k S, R.code c E k S = true → ∃ ex E' S', AX.code tb f c E S = some ((ex, E'), S') ∧ k ex E' S' = true
  opsT : ∀ all r E k S, R.opsT all r E k S = true → ∃ E' S', AX.opsT tb f all r E S = some (E', S') ∧ k E' S' = true
  opsD : ∀ all r n E l k S, R.opsD all r n E l k S = true → ∃ E' l' S', AX.opsD tb f all r n E l S = some ((E', l'), S') ∧ k E' l' S' = true
  oper : ∀ o E, Sim (R.oper o E) (AX.oper tb f o E)
  call : ∀ g l, Sim (R.call g l) (AX.call tb f g l)
  rnd : ∀ n l, Sim (R.rnd n l) (AX.rnd tb f n l)
def C0 : FsC := ⟨fun _ _ _ _ => false, fun _ _ _ _ _ => false, fun _ _ _ _ _ _ _ => false, fun _ _ _ _ => false, fun _ _ _ _ => false, fun _ _ _ _ => false⟩
def rfC (tb : Tab) (R : FsC) (ps : List Nat) (a b : Code) (E : Env) (v : AV) (k : Ex → Env → St → Bool) (S : St) : Bool := match v with
  | .fn gf first cap => embC (rfPre tb gf ps a b E) (fun n S => R.call gf (first ++ (.yl n :: cap)) (fun _ S => embC (rfPost n E) (fun p S => k p.1 p.2 S) S) S) S
  | _ => false
def rndKC (R : FsC) (n : Nat) (body : Code) (k : AV → St → Bool) (ex : Ex) (E : Env) (S : St) : Bool := match ex with
  | .normal => embC (rnd1 n) (fun _ S => R.code body E (fun ex _ S => embC (rnd2 n ex) k S) S) S
  | _ => false
def rndC (R : FsC) (n : Nat) (args : List AV) (k : AV → St → Bool) (S : St) : Bool := embC (rdJ n) (fun r S => lftC (putAll ⟨r.tm, r.nt⟩ r.ps args) (fun E S => R.code r.asg E (rndKC R n r.body k) S) S) S
def seqC (R : FsC) (b : Code) (k : Ex → Env → St → Bool) (ex : Ex) (E : Env) (S : St) : Bool := match ex with
  | .normal => R.code b E k S
  | ex => k ex E S
def condC (R : FsC) (x y : Code) (E : Env) (v : AV) (k : Ex → Env → St → Bool) (S : St) : Bool := match v with
  | .b b => Bool.rec (motive := fun _ => Bool) (R.code y E k S) (R.code x E k S) b
  | _ => false
def blockC (id : Nat) (k : Ex → Env → St → Bool) (ex : Ex) (E : Env) (S : St) : Bool := match ex with
  | .exit j => Bool.rec (motive := fun _ => Bool) (k (.exit j) E S) (k .normal E S) (Nat.beq j id)
  | ex => k ex E S
def regDC (R : FsC) (ops : List Oper) (E : Env) (k : Ex → Env → St → Bool) (S : St) : Bool :=
  R.opsD ops ops 0 E [] (fun E l S => Bool.rec (motive := fun _ => Bool) false (k .normal E S) (!(anyClash l) || orderOk (anc ops 0 .leaf) l)) S
def codeBC (tb : Tab) (R : FsC) (c : Code) (E : Env) (k : Ex → Env → St → Bool) (S : St) : Bool := match c with
    | .skip => k .normal E S
    | .label _ => k .normal E S
    | .seq a b => R.code a E (seqC R b k) S
    | .cond c x y => condC R x y E (op tb.ng E.tm c) k S
    | .block id body => R.code body E (blockC id k) S
    | .loop body => R.code body E (seqC R (.loop body) k) S
    | .exit id => k (.exit id) E S
    | .goto l => k (.goto l) E S
    | .ret => k .ret E S
    | .region _ ops draw => Bool.rec (motive := fun _ => Bool) (R.opsT ops.toList ops.toList E (k .normal) S) (regDC R ops.toList E k S) draw
    | .rangeFunc g ps a b => rfC tb R ps.toList a b E (op tb.ng E.tm g) k S
    | _ => false
def putC (E : Env) (d : Option Tmp) (v : AV) (k : Env → St → Bool) (S : St) : Bool := Option.rec (motive := fun _ => Bool) (k E S) (fun d => Env.rec (motive := fun _ => Bool) (fun tm nt => Bool.rec (motive := fun _ => Bool) false (k ⟨tm.set d v, nt⟩ S) (Nat.blt d nt)) E) d
def runTC (R : FsC) (all : List Oper) (o : Oper) (r : List Oper) (E : Env) (k : Env → St → Bool) (S : St) : Bool :=
  R.oper o E (fun v => putC E o.dst v (fun E => R.opsT all r E k)) S
def skipTC (R : FsC) (all : List Oper) (o : Oper) (r : List Oper) (E : Env) (k : Env → St → Bool) (S : St) : Bool := putC E o.dst (.tu []) (fun E => R.opsT all r E k) S
def opsTBC (R : FsC) (all : List Oper) (l : List Oper) (E : Env) (k : Env → St → Bool) (S : St) : Bool :=
  List.rec (motive := fun _ => Bool) (k E S) (fun o r _ => Option.rec (motive := fun _ => Bool) (runTC R all o r E k S)
    (fun _ => Option.rec (motive := fun _ => Bool) false (fun w => Bool.rec (motive := fun _ => Bool) (skipTC R all o r E k S) (runTC R all o r E k S) w) (wanted all E o)) o.guard) l
def runDC (R : FsC) (all : List Oper) (o : Oper) (r : List Oper) (n : Nat) (E : Env) (l : List Rec) (k : Env → List Rec → St → Bool) (S : St) : Bool :=
  St.rec (motive := fun _ => Bool) (fun heap next acc wr => R.oper o E (fun v S' => St.rec (motive := fun _ => Bool) (fun heap' next' acc' wr' =>
    putC E o.dst v (fun E => R.opsD all r (Nat.succ n) E (Bool.rec (motive := fun _ => List Rec) (⟨n, acc', wr'⟩ :: l) l (Nat.beq acc' 0)) k) ⟨heap', next', Nat.lor acc acc', Nat.lor wr wr'⟩) S') ⟨heap, next, 0, 0⟩) S
def skipDC (R : FsC) (all : List Oper) (o : Oper) (r : List Oper) (n : Nat) (E : Env) (l : List Rec) (k : Env → List Rec → St → Bool) (S : St) : Bool := putC E o.dst (.tu []) (fun E => R.opsD all r (Nat.succ n) E l k) S
def opsDBC (R : FsC) (all : List Oper) (l : List Oper) (n : Nat) (E : Env) (recs : List Rec) (k : Env → List Rec → St → Bool) (S : St) : Bool :=
  List.rec (motive := fun _ => Bool) (k E recs S) (fun o r _ => Option.rec (motive := fun _ => Bool) (runDC R all o r n E recs k S)
    (fun _ => Option.rec (motive := fun _ => Bool) false (fun w => Bool.rec (motive := fun _ => Bool) (skipDC R all o r n E recs k S) (runDC R all o r n E recs k S) w) (wanted all E o)) o.guard) l
def callVC (R : FsC) (args : List AV) (v : AV) : CM AV := match v with
  | .fn g first cap => R.call g (first ++ args ++ cap)
  | .yl n => R.rnd n args
  | _ => failC
def callIC (tb : Tab) (R : FsC) (m : String) (args : List AV) (v : AV) : CM AV := match v with
  | .ifc t v => bndC (lftC (methd tb.met t m)) fun g => bndC (lftC (recv g.2 v)) fun v => R.call g.1 (v :: args)
  | _ => failC
def callCC (tb : Tab) (R : FsC) (φ : Operand → AV) (c : Call) : CM AV := match c.callee with
  | .builtin b => embC (builtinF tb b c.argTypes.toList (c.args.toList.map φ))
  | .value g => callVC R (c.args.toList.map φ) (φ g)
  | .invoke r m => callIC tb R m (c.args.toList.map φ) (φ r)
def operBC (tb : Tab) (R : FsC) (o : Oper) (E : Env) : CM AV := match o.op with
  | .call c => callCC tb R (op tb.ng E.tm) c
  | x => simpleC tb (op tb.ng E.tm) x
def endC (tb : Tab) (res : List ResultVar) (k : AV → St → Bool) (ex : Ex) (E : Env) (S : St) : Bool := match ex with
  | .normal => embC (results tb res E) k S
  | .ret => embC (results tb res E) k S
  | _ => false
def bodyC (tb : Tab) (R : FsC) (fi : FI) (args : List AV) (k : AV → St → Bool) (S : St) : Bool := Option.rec (motive := fun _ => Bool) (embC (ext tb fi.ext args) k S)
  (fun c => Bool.rec (motive := fun _ => Bool) false (R.code c ⟨args0 args 0 .leaf, fi.ntmps⟩ (endC tb fi.res k) S) (Nat.ble args.length fi.ntmps && Nat.ble fi.ntmps 16777213)) fi.body
def sumC (tb : Tab) (R : FsC) (fi : FI) (args : List AV) (k : AV → St → Bool) (S : St) : Bool := Option.rec (motive := fun _ => Bool) (bodyC tb R fi args k S)
  (fun v => List.rec (motive := fun _ => Bool) (k v S) (fun _ _ _ => bodyC tb R fi args k S) args) fi.sum
def callBC (tb : Tab) (R : FsC) (g : Nat) (args : List AV) : CM AV := bndC (lftC (tb.fn.get g)) fun fi => sumC tb R fi args
def cstep (tb : Tab) (R : FsC) : FsC := ⟨codeBC tb R, opsTBC R, opsDBC R, operBC tb R, callBC tb R, rndC R⟩
def cs (tb : Tab) (f : Nat) : FsC := Nat.rec (motive := fun _ => FsC) C0 (fun _ R => cstep tb R) f
theorem putC_inv {E : Env} {d : Option Tmp} {v : AV} {k : Env → St → Bool} {S : St} (h : putC E d v k S = true) : ∃ E', E.put d v = some E' ∧ k E' S = true := by
  cases d with
  | none => exact ⟨E, rfl, h⟩
  | some d =>
    obtain ⟨tm, nt⟩ := E
    unfold putC at h
    rw [Env.put_some]
    simp only [] at h ⊢
    cases hb : Nat.blt d nt with
    | false => rw [hb] at h; cases h
    | true => rw [hb] at h; exact ⟨_, rfl, h⟩
theorem bnd_of {α β : Type} {m : M α} {f : α → M β} {S S1 : St} {a : α} (h : m S = some (a, S1)) : bnd m f S = f a S1 := by unfold bnd; rw [h]
theorem simF (tb : Tab) : ∀ f, SimF tb f (cs tb f)
  | 0 => ⟨fun _ _ _ _ h => (by cases h), fun _ _ _ _ _ h => (by cases h), fun _ _ _ _ _ _ _ h => (by cases h), fun _ _ _ _ h => (by cases h), fun _ _ _ _ h => (by cases h), fun _ _ _ _ h => (by cases h)⟩
  | f + 1 => by
    have ih := simF tb f
    have hR : cs tb (f + 1) = cstep tb (cs tb f) := rfl
    rw [hR]
    generalize cs tb f = R at ih
    refine ⟨fun c E k S h => ?_, fun all r E k S h => ?_, fun all r n E l k S h => ?_, fun o E => ?_, fun g l => ?_, fun n l => ?_⟩
    · have h : codeBC tb R c E k S = true := h
      have e : AX.code tb (f + 1) c E = codeB tb ⟨AX.code tb f, AX.opsT tb f, AX.opsD tb f, AX.oper tb f, AX.call tb f, AX.rnd tb f⟩ c E := by
        have := congrArg Fs.code (fs_eq tb (f + 1))
        have h2 : (fs tb (f + 1)).code = codeB tb (fs tb f) := rfl
        rw [h2, fs_eq tb f] at this
        exact (congrFun (congrFun this c) E).symm
      rw [e]
      generalize hF : (⟨AX.code tb f, AX.opsT tb f, AX.opsD tb f, AX.oper tb f, AX.call tb f, AX.rnd tb f⟩ : Fs) = F
      have hc : F.code = AX.code tb f := by rw [← hF]
      have hT : F.opsT = AX.opsT tb f := by rw [← hF]
      have hD : F.opsD = AX.opsD tb f := by rw [← hF]
      have ihc := ih.code
      rw [← hc] at ihc
      have ihT := ih.opsT
      rw [← hT] at ihT
      have ihD := ih.opsD
      rw [← hD] at ihD
      cases c with
      | skip => exact ⟨_, _, _, rfl, h⟩
      | label l => exact ⟨_, _, _, rfl, h⟩
      | exit id => exact ⟨_, _, _, rfl, h⟩
      | goto l => exact ⟨_, _, _, rfl, h⟩
      | ret => exact ⟨_, _, _, rfl, h⟩
      | seq a b =>
        obtain ⟨ex, E1, S1, h1, h2⟩ := ihc _ _ _ _ (show R.code a E (seqC R b k) S = true from h)
        have g : codeB tb F (.seq a b) E S = seqK F b (ex, E1) S1 := bnd_of h1
        cases ex with
        | normal =>
          obtain ⟨ex2, E2, S2, h3, h4⟩ := ihc _ _ _ _ (show R.code b E1 k S1 = true from h2)
          exact ⟨ex2, E2, S2, by rw [g]; exact h3, h4⟩
        | exit id => exact ⟨_, _, _, g, h2⟩
        | goto l => exact ⟨_, _, _, g, h2⟩
        | ret => exact ⟨_, _, _, g, h2⟩
      | loop a =>
        obtain ⟨ex, E1, S1, h1, h2⟩ := ihc _ _ _ _ (show R.code a E (seqC R (.loop a) k) S = true from h)
        have g : codeB tb F (.loop a) E S = seqK F (.loop a) (ex, E1) S1 := bnd_of h1
        cases ex with
        | normal =>
          obtain ⟨ex2, E2, S2, h3, h4⟩ := ihc _ _ _ _ (show R.code (.loop a) E1 k S1 = true from h2)
          exact ⟨ex2, E2, S2, by rw [g]; exact h3, h4⟩
        | exit id => exact ⟨_, _, _, g, h2⟩
        | goto l => exact ⟨_, _, _, g, h2⟩
        | ret => exact ⟨_, _, _, g, h2⟩
      | block id a =>
        obtain ⟨ex, E1, S1, h1, h2⟩ := ihc _ _ _ _ (show R.code a E (blockC id k) S = true from h)
        have g : codeB tb F (.block id a) E S = blockK id (ex, E1) S1 := bnd_of h1
        cases ex with
        | exit j =>
          have h2 : Bool.rec (motive := fun _ => Bool) (k (.exit j) E1 S1) (k .normal E1 S1) (Nat.beq j id) = true := h2
          have g2 : blockK id (.exit j, E1) S1 = (_root_.cond (Nat.beq j id) (AX.ret (Ex.normal, E1)) (AX.ret (Ex.exit j, E1))) S1 := rfl
          cases hj : Nat.beq j id with
          | true => rw [hj] at h2 g2; exact ⟨_, _, _, g.trans g2, h2⟩
          | false => rw [hj] at h2 g2; exact ⟨_, _, _, g.trans g2, h2⟩
        | normal => exact ⟨_, _, _, g, h2⟩
        | goto l => exact ⟨_, _, _, g, h2⟩
        | ret => exact ⟨_, _, _, g, h2⟩
      | cond c x y =>
        have h : condC R x y E (op tb.ng E.tm c) k S = true := h
        show ∃ ex E' S', condK F x y E (op tb.ng E.tm c) S = some ((ex, E'), S') ∧ k ex E' S' = true
        cases hv : op tb.ng E.tm c with
        | b v =>
          rw [hv] at h
          cases v with
          | true => exact ihc _ _ _ _ (show R.code x E k S = true from h)
          | false => exact ihc _ _ _ _ (show R.code y E k S = true from h)
        | _ => rw [hv] at h; cases h
      | region id ops draw =>
        cases draw with
        | false =>
          obtain ⟨E1, S1, h1, h2⟩ := ihT _ _ _ _ _ (show R.opsT ops.toList ops.toList E (k .normal) S = true from h)
          have g : codeB tb F (.region id ops false) E S = AX.ret (Ex.normal, E1) S1 := bnd_of h1
          exact ⟨_, E1, S1, g, h2⟩
        | true =>
          obtain ⟨E1, l1, S1, h1, h2⟩ := ihD _ _ _ _ _ _ _ (show R.opsD ops.toList ops.toList 0 E [] (fun E l S => Bool.rec (motive := fun _ => Bool) false (k .normal E S) (!(anyClash l) || orderOk (anc ops.toList 0 .leaf) l)) S = true from h)
          have g : codeB tb F (.region id ops true) E S = (_root_.cond (!(anyClash l1) || orderOk (anc ops.toList 0 .leaf) l1) (AX.ret (Ex.normal, E1)) AX.fail) S1 := bnd_of h1
          cases ho : (!(anyClash l1) || orderOk (anc ops.toList 0 .leaf) l1) with
          | false => rw [ho] at h2; cases h2
          | true => rw [ho] at h2 g; exact ⟨_, E1, S1, g, h2⟩
      | rangeFunc g ps a b =>
        have h : rfC tb R ps.toList a b E (op tb.ng E.tm g) k S = true := h
        show ∃ ex E' S', rfK tb F ps.toList a b E (op tb.ng E.tm g) S = some ((ex, E'), S') ∧ k ex E' S' = true
        cases hv : op tb.ng E.tm g with
        | fn gf first cap =>
          rw [hv] at h
          have h : embC (rfPre tb gf ps.toList a b E) (fun n S => R.call gf (first ++ (.yl n :: cap)) (fun _ S => embC (rfPost n E) (fun p S => k p.1 p.2 S) S) S) S = true := h
          obtain ⟨n, S1, h1, h2⟩ := Sim.emb _ _ _ h
          obtain ⟨v, S2, h3, h4⟩ := ih.call _ _ _ _ h2
          obtain ⟨p, S3, h5, h6⟩ := Sim.emb _ _ _ h4
          have hcl : F.call = AX.call tb f := by rw [← hF]
          refine ⟨p.1, p.2, S3, ?_, h6⟩
          show AX.bnd (rfPre tb gf ps.toList a b E) _ S = _
          rw [bnd_of h1]
          show AX.bnd (F.call gf _) _ S1 = _
          rw [hcl, bnd_of h3]
          exact h5
        | _ => rw [hv] at h; cases h
      | _ => cases h
    · have h : opsTBC R all r E k S = true := h
      cases r with
      | nil => exact ⟨_, _, by unfold AX.opsT; rfl, h⟩
      | cons o r =>
        have run : wanted all E o = some true → runTC R all o r E k S = true → ∃ E' S', AX.opsT tb (f + 1) all (o :: r) E S = some (E', S') ∧ k E' S' = true := fun hw h => by
          obtain ⟨v, S1, h1, h2⟩ := ih.oper o E _ _ h
          obtain ⟨E1, h3, h4⟩ := putC_inv h2
          obtain ⟨E2, S2, h5, h6⟩ := ih.opsT _ _ _ _ _ h4
          exact ⟨E2, S2, by unfold AX.opsT; simp only [AX.bnd, AX.lft, hw, cond_true, h1, h3]; exact h5, h6⟩
        have skip : wanted all E o = some false → skipTC R all o r E k S = true → ∃ E' S', AX.opsT tb (f + 1) all (o :: r) E S = some (E', S') ∧ k E' S' = true := fun hw h => by
          obtain ⟨E1, h3, h4⟩ := putC_inv h
          obtain ⟨E2, S2, h5, h6⟩ := ih.opsT _ _ _ _ _ h4
          exact ⟨E2, S2, by unfold AX.opsT; simp only [AX.bnd, AX.lft, hw, cond_false, h3]; exact h5, h6⟩
        unfold opsTBC at h
        simp only [] at h
        cases hg : o.guard with
        | none => rw [hg] at h; exact run (by unfold wanted; rw [hg]) h
        | some g =>
          rw [hg] at h
          simp only [] at h
          cases hw : wanted all E o with
          | none => rw [hw] at h; cases h
          | some b =>
            rw [hw] at h
            cases b with
            | true => exact run hw h
            | false => exact skip hw h
    · have h : opsDBC R all r n E l k S = true := h
      cases r with
      | nil => exact ⟨_, _, _, by unfold AX.opsD; rfl, h⟩
      | cons o r =>
        have run : wanted all E o = some true → runDC R all o r n E l k S = true → ∃ E' l' S', AX.opsD tb (f + 1) all (o :: r) n E l S = some ((E', l'), S') ∧ k E' l' S' = true := fun hw h => by
          obtain ⟨heap, next, acc, wr⟩ := S
          obtain ⟨v, S1, h1, h2⟩ := ih.oper o E _ _ h
          obtain ⟨heap', next', acc', wr'⟩ := S1
          obtain ⟨E1, h3, h4⟩ := putC_inv h2
          obtain ⟨E2, l2, S2, h5, h6⟩ := ih.opsD _ _ _ _ _ _ _ h4
          refine ⟨E2, l2, S2, ?_, h6⟩
          unfold AX.opsD
          simp only [AX.bnd, AX.lft, AX.ownRun, hw, cond_true, h1, h3]
          rw [← h5]
          cases Nat.beq acc' 0 <;> rfl
        have skip : wanted all E o = some false → skipDC R all o r n E l k S = true → ∃ E' l' S', AX.opsD tb (f + 1) all (o :: r) n E l S = some ((E', l'), S') ∧ k E' l' S' = true := fun hw h => by
          obtain ⟨E1, h3, h4⟩ := putC_inv h
          obtain ⟨E2, l2, S2, h5, h6⟩ := ih.opsD _ _ _ _ _ _ _ h4
          exact ⟨E2, l2, S2, by unfold AX.opsD; simp only [AX.bnd, AX.lft, hw, cond_false, h3]; exact h5, h6⟩
        unfold opsDBC at h
        simp only [] at h
        cases hg : o.guard with
        | none => rw [hg] at h; exact run (by unfold wanted; rw [hg]) h
        | some g =>
          rw [hg] at h
          simp only [] at h
          cases hw : wanted all E o with
          | none => rw [hw] at h; cases h
          | some b =>
            rw [hw] at h
            cases b with
            | true => exact run hw h
            | false => exact skip hw h
    · have e : AX.oper tb (f + 1) o E = operB tb ⟨AX.code tb f, AX.opsT tb f, AX.opsD tb f, AX.oper tb f, AX.call tb f, AX.rnd tb f⟩ o E := by
        have := congrArg Fs.oper (fs_eq tb (f + 1))
        have h2 : (fs tb (f + 1)).oper = operB tb (fs tb f) := rfl
        rw [h2, fs_eq tb f] at this
        exact (congrFun (congrFun this o) E).symm
      rw [e]
      show Sim (operBC tb R o E) (operB tb _ o E)
      unfold operBC operB
      cases o.op with
      | call c =>
        show Sim (callCC tb R (op tb.ng E.tm) c) (callC tb _ (op tb.ng E.tm) c)
        cases c
        rename_i callee args tys
        cases callee with
        | builtin b => exact Sim.embD rfl
        | value g =>
          show Sim (callVC R _ (op tb.ng E.tm g)) (callV _ _ (op tb.ng E.tm g))
          cases op tb.ng E.tm g <;> first | exact ih.call _ _ | exact ih.rnd _ _ | exact Sim.fail
        | invoke r m =>
          show Sim (callIC tb R m _ (op tb.ng E.tm r)) (callI tb _ m _ (op tb.ng E.tm r))
          cases op tb.ng E.tm r <;> first | exact Sim.bnd (Sim.lft _) fun _ => Sim.bnd (Sim.lft _) fun _ => ih.call _ _ | exact Sim.fail
      | _ =>
        show Sim (simpleC tb (op tb.ng E.tm) _) (simpleF tb (op tb.ng E.tm) _)
        rw [simpleF_eq]
        exact Sim.simple _ _ _
    · have e : AX.call tb (f + 1) g l = callB tb ⟨AX.code tb f, AX.opsT tb f, AX.opsD tb f, AX.oper tb f, AX.call tb f, AX.rnd tb f⟩ g l := by
        have := congrArg Fs.call (fs_eq tb (f + 1))
        have h2 : (fs tb (f + 1)).call = callB tb (fs tb f) := rfl
        rw [h2, fs_eq tb f] at this
        exact (congrFun (congrFun this g) l).symm
      rw [e]
      refine Sim.bnd (Sim.lft _) fun fi => ?_
      have hb : Sim (bodyC tb R fi l) (bodyK tb ⟨AX.code tb f, AX.opsT tb f, AX.opsD tb f, AX.oper tb f, AX.call tb f, AX.rnd tb f⟩ fi l fi.body) := fun k S h => by
        unfold bodyC at h
        cases hbd : fi.body with
        | none => rw [hbd] at h; exact Sim.emb _ k S h
        | some c =>
          rw [hbd] at h
          simp only [] at h
          cases hc : (Nat.ble l.length fi.ntmps && Nat.ble fi.ntmps 16777213) with
          | false => rw [hc] at h; cases h
          | true =>
            rw [hc] at h
            obtain ⟨ex, E1, S1, h1, h2⟩ := ih.code _ _ _ _ h
            have fin : embC (results tb fi.res E1) k S1 = true → (ex = .normal ∨ ex = .ret) → ∃ a S', bodyK tb ⟨AX.code tb f, AX.opsT tb f, AX.opsD tb f, AX.oper tb f, AX.call tb f, AX.rnd tb f⟩ fi l (some c) S = some (a, S') ∧ k a S' = true := fun h hex => by
              obtain ⟨a, S2, h3, h4⟩ := Sim.emb _ _ _ h
              refine ⟨a, S2, ?_, h4⟩
              unfold bodyK
              simp only [hc, cond_true, AX.bnd, h1]
              rcases hex with rfl | rfl <;> exact h3
            cases ex with
            | normal => exact fin h2 (.inl rfl)
            | ret => exact fin h2 (.inr rfl)
            | exit id => cases h2
            | goto l => cases h2
      show Sim (sumC tb R fi l) (sumK tb _ fi l fi.sum)
      intro k S h
      unfold sumC at h
      cases hs : fi.sum with
      | none => rw [hs] at h; exact hb k S h
      | some v =>
        rw [hs] at h
        cases l with
        | nil => exact ⟨v, S, rfl, h⟩
        | cons x l => exact hb k S h
    · have e : AX.rnd tb (f + 1) n l = rndB ⟨AX.code tb f, AX.opsT tb f, AX.opsD tb f, AX.oper tb f, AX.call tb f, AX.rnd tb f⟩ n l := by
        have := congrArg Fs.rnd (fs_eq tb (f + 1))
        have h2 : (fs tb (f + 1)).rnd = rndB (fs tb f) := rfl
        rw [h2, fs_eq tb f] at this
        exact (congrFun (congrFun this n) l).symm
      rw [e]
      intro k S h
      have h : rndC R n l k S = true := h
      obtain ⟨r, S1, h1, h2⟩ := Sim.emb _ _ _ h
      obtain ⟨E, S2, h3, h4⟩ := Sim.lft _ _ _ h2
      obtain ⟨ex, E1, S3, h5, h6⟩ := ih.code _ _ _ _ h4
      cases ex with
      | normal =>
        have h6 : embC (rnd1 n) (fun _ S => R.code r.body E1 (fun ex _ S => embC (rnd2 n ex) k S) S) S3 = true := h6
        obtain ⟨u, S4, h7, h8⟩ := Sim.emb _ _ _ h6
        obtain ⟨ex2, E2, S5, h9, h10⟩ := ih.code _ _ _ _ h8
        obtain ⟨v, S6, h11, h12⟩ := Sim.emb _ _ _ h10
        refine ⟨v, S6, ?_, h12⟩
        unfold rndB
        rw [bnd_of h1, bnd_of h3, bnd_of h5]
        show AX.bnd (rnd1 n) _ S3 = _
        rw [bnd_of h7]
        show AX.bnd (AX.code tb f r.body E1) _ S4 = _
        rw [bnd_of h9]
        exact h11
      | _ => cases h6
def isB (v : AV) (S : St) : Bool := match v with
  | .b b => b
  | _ => false
/-- what the twin says true, the interpreter answers true -/
theorem run_cs {tb : Tab} {f g : Nat} {l : List AV} {S : St} (h : (cs tb f).call g l isB S = true) : ∃ S', call tb f g l S = some (.b true, S') := by
  obtain ⟨a, S', h1, h2⟩ := (simF tb f).call g l _ _ h
  cases a <;> first | (cases h2; done) | skip
  rename_i x
  have h2 : x = true := h2
  subst h2
  exact ⟨S', h1⟩
end
end Go.AX
end
