/- A part of the proof: an interpreter of the model's own code on partly known states, and that what it answers is what the program answers. No condition of its own. -/
import Derived.Test.YtfoalkoifcpdmaaHXpart3
import Derived.LoopN
import Derived.RangeFuncRecord
import Derived.ChangeSame
import Derived.Lib.Bytealg
import Derived.OpenShut
import Derived.ChangeArms
set_option linter.unusedSimpArgs false
set_option linter.unusedVariables false
section
namespace Go.AX
def SumOk (C : Cx) (g : Nat) (v : AV) : Prop := ∀ w : World, C.inv w → C.nst ≤ w.heap.size → Calls C.P g #[] w fun e w' => ∃ x, e = .returned x ∧ Rel C (fun _ => none) v x ∧ Below (Fz.lt w.heap.size) w w'
def cV1 (C : Cx) (tb : Tab) (e : Nat) (fn : Func) : Prop := Extern.findNext fn = none ∧ ∃ r, Extern.find fn = some r ∧
  ∀ (B : Fz) (l : List AV) (S : St) (v : AV) (S' : St) (ρ : Rho) (w : World) (args : List Value), ext tb e l S = some (v, S') → Fits C tb.ng B ρ S.heap w → tb.ng ≤ S.next → RelL C ρ l args → Free ρ S.next S'.next →
    ∃ ρ' x w', (r ⟨args⟩).run C.P w = .ok x w' ∧ Rel C ρ' v x ∧ Fits C tb.ng B ρ' S'.heap w' ∧ Ext ρ ρ' S.next S'.next ∧ Below B w w'
def exOf : Ex → Exit
  | .normal => .normal
  | .exit id => .exit id
  | .goto l => .goto l
  | .ret => .ret
def mkD (D : Nat) : Deferred := { target := .collected D, args := #[] }
def Marks (ms : List Nat) (w w' : World) : Prop := ms.Nodup ∧ ∀ D ∈ ms, w.heap.size ≤ D ∧ w'.heap[D]? = some (.deferred (some []))
def Dfs (a a' : Act) (w w' : World) : Prop := ∃ ms, a'.defers = ms.map mkD ++ a.defers ∧ Marks ms w w'
theorem Dfs.of_eq {a a' : Act} {w w' : World} (h : a'.defers = a.defers) : Dfs a a' w w' := ⟨[], h, List.nodup_nil, fun D hD => by cases hD⟩
theorem bS3 {w : World} {D : Nat} {o : Obj} (h : w.heap[D]? = some o) : D < w.heap.size := by
  rcases Nat.lt_or_ge D w.heap.size with h' | h'
  · exact h'
  · rw [Array.getElem?_eq_none h'] at h; cases h
theorem Dfs.trans {B : Fz} {a b c : Act} {w w1 w2 : World} (h : Dfs a b w w1) (k : Dfs b c w1 w2) (h1 : Below B w w1) (h2 : Below B w1 w2) : Dfs a c w w2 := by
  obtain ⟨ms, e1, n1, m1⟩ := h
  obtain ⟨ns, e2, n2, m2⟩ := k
  refine ⟨ns ++ ms, by rw [e2, e1, List.map_append, List.append_assoc], ?_, fun D hD => ?_⟩
  · rw [List.nodup_append]
    refine ⟨n2, n1, fun x hx y hy e => ?_⟩
    subst e
    have := bS3 (m1 x hy).2
    have := (m2 x hx).1
    omega
  · rcases List.mem_append.1 hD with hD | hD
    · exact ⟨Nat.le_trans h1.size (m2 D hD).1, (m2 D hD).2⟩
    · exact ⟨(m1 D hD).1, h2.walk D _ (m1 D hD).2 rfl⟩
theorem Dfs.same {a b c : Act} {w w1 w2 : World} (h : a.defers = b.defers) (k : Dfs b c w1 w2) (h1 : w.heap.size ≤ w1.heap.size) : Dfs a c w w2 := by
  obtain ⟨ns, e2, n2, m2⟩ := k
  exact ⟨ns, by rw [h]; exact e2, n2, fun D hD => ⟨Nat.le_trans h1 (m2 D hD).1, (m2 D hD).2⟩⟩
section
variable {Φ : Fence}
def COk (Φ : Fence) (c : Code) : Prop := codeOk c = true ∧ (Φ.round = none ∨ flat c = true)
theorem COk.seq {x y : Code} (h : COk Φ (.seq x y)) : COk Φ x ∧ COk Φ y := by
  obtain ⟨h1, h2⟩ := h
  simp only [codeOk, flat, Bool.and_eq_true] at h1 h2
  exact ⟨⟨h1.1, h2.imp id And.left⟩, ⟨h1.2, h2.imp id And.right⟩⟩
theorem COk.cond {q : Operand} {x y : Code} (h : COk Φ (.cond q x y)) : COk Φ x ∧ COk Φ y := by
  obtain ⟨h1, h2⟩ := h
  simp only [codeOk, flat, Bool.and_eq_true] at h1 h2
  exact ⟨⟨h1.1, h2.imp id And.left⟩, ⟨h1.2, h2.imp id And.right⟩⟩
theorem COk.block {id : Nat} {x : Code} (h : COk Φ (.block id x)) : COk Φ x := h
theorem COk.loop {x : Code} (h : COk Φ (.loop x)) : COk Φ x := h
end
def RAny (F : Fence) (n : Nat) (P : Program) (c : Code) (Q : Exit → Act → World → Prop) (a : Act) (w : World) : Prop :=
  ∀ (b : Frame) (k : List Item) (cs : List Frame), b.roundOf = F.round → F.fn b.fn → F.room (cs.length + 1 + n) →
    ∃ e a' w', Q e a' w' ∧ ArrivesIn (Machine.fenced P F) P (lone (b.atR a (.code c :: .inLoop c :: k)) cs w) b k cs e a' w'
theorem RAny.wp {F : Fence} {n : Nat} {P : Program} {c : Code} {Q : Exit → Act → World → Prop} {a : Act} {w : World} (h : RAny F n P c Q a w) : (Code.loop c).wpIn F n P Q a w := by
  intro b k cs hro hb hr
  obtain ⟨e, a', w', hq, harr⟩ := h b k cs hro hb hr
  exact ⟨e, a', w', hq, .of_steps (.one (fenced_calm hb hr rfl) stepR_loop) harr⟩
theorem RAny.step {F : Fence} {n : Nat} {P : Program} {c : Code} {Q : Exit → Act → World → Prop} {a : Act} {w : World} (h : c.wpIn F n P (Exit.then (RAny F n P c Q) Q) a w) : RAny F n P c Q a w := by
  intro b k cs hro hb hr
  obtain ⟨e, a₁, w₁, hq, harr⟩ := h b (.inLoop c :: k) cs hro hb hr
  cases e with
  | normal =>
    obtain ⟨e₂, a₂, w₂, hq₂, harr₂⟩ := hq b k cs hro hb hr
    exact ⟨e₂, a₂, w₂, hq₂, .of_steps (StepsIn.trans harr (.one (fenced_calm hb hr rfl) stepR_inLoop)) harr₂⟩
  | exit id => exact ⟨_, a₁, w₁, hq, .pass (x := .inLoop c) rfl (fun _ _ => .inl (by simp)) harr⟩
  | goto l => exact ⟨_, a₁, w₁, hq, .pass (x := .inLoop c) rfl (fun _ _ => .inl (by simp)) harr⟩
  | ret => exact ⟨_, a₁, w₁, hq, .pass (x := .inLoop c) rfl (fun _ _ => .inl (by simp)) harr⟩
  | panic ch => exact ⟨_, a₁, w₁, hq, .pass (x := .inLoop c) rfl (fun _ _ => .inl (by simp)) harr⟩
  | outgrown => exact ⟨_, a₁, w₁, hq, .pass (x := .inLoop c) rfl (fun _ _ => .inl (by simp)) harr⟩
def LfOkN (C : Cx) (body : Code) (l : LF) : Prop :=
  ∀ (Φ : Fence) (ν : Nat) (Q : Exit → Act → World → Prop) (a : Act) (w : World), Wide Φ → COk Φ (.loop body) → C.inv w → C.nst ≤ w.heap.size → a.tmps.size = l.nt → l.nt ≤ 16777213 →
    (∀ s x, (s, x) ∈ l.pre → Rel C (fun _ => none) x (a.tmps.getD s undef)) →
    (∀ a' w', a'.tmps.size = a.tmps.size → (∀ s, s ∈ l.keep → a'.tmps.getD s undef = a.tmps.getD s undef) → (∀ s x, (s, x) ∈ l.post → Rel C (fun _ => none) x (a'.tmps.getD s undef)) → Dfs a a' w w' → Below (Fz.lt w.heap.size) w w' → Q (exOf l.ex) a' w') →
    RAny Φ ν C.P body Q a w
def LfOkH (C : Cx) (body : Code) (l : LF) (h : LH) : Prop :=
  ∀ (Φ : Fence) (ν : Nat) (Q : Exit → Act → World → Prop) (a : Act) (w : World) (B : Fz) (ρ : Rho) (H : T Ent), Wide Φ → COk Φ (.loop body) → Fits C h.ng B ρ H w → h.ng ≤ h.n0 → LhOk h → (∀ v k, (v, k) ∈ h.pre → H.get v = some k) → Free ρ h.n0 h.n1 →
    a.tmps.size = l.nt → l.nt ≤ 16777213 → (∀ s x, (s, x) ∈ l.pre → Rel C ρ x (a.tmps.getD s undef)) →
    (∀ ρ' a' w', a'.tmps.size = a.tmps.size → (∀ s, s ∈ l.keep → a'.tmps.getD s undef = a.tmps.getD s undef) → (∀ s x, (s, x) ∈ l.post → Rel C ρ' x (a'.tmps.getD s undef)) → Dfs a a' w w' → Fits C h.ng B ρ' (aJ8 h H) w' → Ext ρ ρ' h.n0 h.n1 → Below B w w' → Q (exOf l.ex) a' w') →
    RAny Φ ν C.P body Q a w
def LfOk (C : Cx) (body : Code) (l : LF) : Prop := match l.hp with
  | none => LfOkN C body l
  | some h => LfOkH C body l h
theorem LfOk.n {C : Cx} {body : Code} {l : LF} (hn : l.hp = none) (h : LfOkN C body l) : LfOk C body l := by unfold LfOk; rw [hn]; exact h
theorem LfOk.h {C : Cx} {body : Code} {l : LF} {x : LH} (hn : l.hp = some x) (h : LfOkH C body l x) : LfOk C body l := by unfold LfOk; rw [hn]; exact h
theorem LfOk.toN {C : Cx} {body : Code} {l : LF} (h : LfOk C body l) (hn : l.hp = none) : LfOkN C body l := by unfold LfOk at h; rw [hn] at h; exact h
theorem LfOk.toH {C : Cx} {body : Code} {l : LF} {x : LH} (h : LfOk C body l) (hn : l.hp = some x) : LfOkH C body l x := by unfold LfOk at h; rw [hn] at h; exact h
theorem eqCe_eq {a b : Cells} (h : eqCe a b = true) : a = b := by
  cases a <;> cases b <;> simp only [eqCe] at h <;> first | (cases h; done) | skip
  · rw [aK9 (bS5 8) h]
  · simp only [Bool.and_eq_true] at h; rw [Nat.eq_of_beq_eq_true h.1, Nat.eq_of_beq_eq_true h.2]
theorem eqX_eq {a b : Ex} (h : eqX a b = true) : a = b := by
  cases a <;> cases b <;> simp only [eqX] at h <;> first | (cases h; done) | rfl | (rw [Nat.eq_of_beq_eq_true h])
theorem dP0 : ∀ {a b : List (Nat × AV)}, eqTm a b = true → a = b
  | [], [], _ => rfl
  | [], _ :: _, h => by cases h
  | _ :: _, [], h => by cases h
  | (s, a) :: l, (u, b) :: m, h => by
    simp only [eqTm, Bool.and_eq_true] at h
    rw [Nat.eq_of_beq_eq_true h.1, bS5 8 a b h.2.1, dP0 h.2.2]
theorem eqE_eq {a b : Ent} (h : eqE a b = true) : a = b := by
  cases a <;> cases b <;> simp only [eqE] at h <;> first | (cases h; done) | skip
  · rename_i k j
    obtain ⟨k1, k2, k3, k4, k5, k6, k7⟩ := k
    obtain ⟨j1, j2, j3, j4, j5, j6, j7⟩ := j
    simp only [Bool.and_eq_true, beq_iff_eq] at h
    rw [Nat.eq_of_beq_eq_true h.1.1.1.1.1.1, eqCe_eq h.1.1.1.1.1.2, Nat.eq_of_beq_eq_true h.1.1.1.1.2, Nat.eq_of_beq_eq_true h.1.1.1.2, Nat.eq_of_beq_eq_true h.1.1.2, h.1.2, h.2]
  · simp only [Bool.and_eq_true, beq_iff_eq] at h; rw [Nat.eq_of_beq_eq_true h.1, Nat.eq_of_beq_eq_true h.2.1, Nat.eq_of_beq_eq_true h.2.2.1, h.2.2.2]
  · simp only [Bool.and_eq_true] at h; rw [Nat.eq_of_beq_eq_true h.1, Nat.eq_of_beq_eq_true h.2]
  · simp only [Bool.and_eq_true] at h
    obtain ⟨h1, h2, h3, h4, h5⟩ := h
    rw [Nat.eq_of_beq_eq_true h1, dP0 h2, Nat.eq_of_beq_eq_true h3, Nat.eq_of_beq_eq_true h4, eqX_eq h5]
theorem bP9 {H : T Ent} : ∀ {l : List (Nat × Ent)}, bT8 H l = true → ∀ v k, (v, k) ∈ l → H.get v = some k
  | [], _, v, k, h => by cases h
  | p :: r, h, v, k, hm => by
    simp only [bT8, Bool.and_eq_true] at h
    rcases List.mem_cons.1 hm with e | hm
    · subst e
      have h1 := h.1
      simp only [] at h1
      cases hg : H.get v with
      | none => rw [hg] at h1; cases h1
      | some a => rw [hg] at h1; rw [eqE_eq h1]
    · exact bP9 h.2 v k hm
def LpOk (C : Cx) (L : List LF) : Code → Prop
  | .seq a b => LpOk C L a ∧ LpOk C L b
  | .cond _ a b => LpOk C L a ∧ LpOk C L b
  | .block _ b => LpOk C L b
  | .loop b => (∀ l, l ∈ L → keyOf b = some l.key → LfOk C b l) ∧ LpOk C L b
  | .rangeFunc _ ps a b => ∀ l, l ∈ L → isMk l = true → rfP C.P l.nt = some (ps.toList, a, b)
  | _ => True
theorem LpOk.nil {C : Cx} : ∀ c : Code, LpOk C [] c
  | .seq a b => ⟨LpOk.nil a, LpOk.nil b⟩
  | .cond _ a b => ⟨LpOk.nil a, LpOk.nil b⟩
  | .block _ b => LpOk.nil b
  | .loop b => ⟨fun l hl => (by cases hl), LpOk.nil b⟩
  | .skip => trivial
  | .region .. => trivial
  | .rangeFunc .. => fun l hl => (by cases hl)
  | .exit _ => trivial
  | .scope _ => trivial
  | .label _ => trivial
  | .goto _ => trivial
  | .ret => trivial
  | .refuse _ => trivial
theorem bN6 {p : AV → Bool} : ∀ {l : List AV}, allP p l = true → ∀ a, a ∈ l → p a = true
  | [], _, a, h => by cases h
  | b :: l, h, a, ha => by
    simp only [allP, Bool.and_eq_true] at h
    rcases List.mem_cons.1 ha with rfl | ha
    · exact h.1
    · exact bN6 h.2 a ha
theorem RelL.move {C : Cx} {ρ ρ' : Rho} : ∀ (l : List AV) (vs : List Value), (∀ a, a ∈ l → ∀ v, Rel C ρ a v → Rel C ρ' a v) → RelL C ρ l vs → RelL C ρ' l vs
  | [], vs, _, h => h
  | a :: l, vs, hm, h => by
    simp only [RelL] at h ⊢
    obtain ⟨v, vt, rfl, h1, h2⟩ := h
    exact ⟨v, vt, rfl, hm a (List.mem_cons_self ..) v h1, RelL.move l vt (fun b hb => hm b (List.mem_cons_of_mem _ hb)) h2⟩
theorem cD7 {C : Cx} {ρ ρ' : Rho} : ∀ (d : Nat) (a : AV), noR d a = true → ∀ v, Rel C ρ a v → Rel C ρ' a v
  | 0, a, h, v, hr => by cases h
  | d + 1, a, h, v, hr => by
    have ih := cD7 (C := C) (ρ := ρ) (ρ' := ρ') d
    cases a <;> simp only [noR] at h <;> try (cases h; done)
    all_goals try (simpa only [Rel] using hr)
    · simp only [Rel] at hr ⊢
      obtain ⟨x, rfl, h1⟩ := hr
      exact ⟨x, rfl, ih _ h x h1⟩
    · simp only [Rel] at hr ⊢
      obtain ⟨cs, rfl, h1⟩ := hr
      exact ⟨cs, rfl, RelL.move _ _ (fun a ha => ih a (bN6 h a ha)) h1⟩
    · simp only [Rel] at hr ⊢
      obtain ⟨cs, rfl, h1⟩ := hr
      exact ⟨cs, rfl, RelL.move _ _ (fun a ha => ih a (bN6 h a ha)) h1⟩
theorem bF2 {E : Env} : ∀ {l : List (Nat × AV)}, bL9 E l = true → ∀ s x, (s, x) ∈ l → E.tm.get s = some x ∧ noR 8 x = true
  | [], _, s, x, h => by cases h
  | p :: r, h, s, x, hm => by
    simp only [bL9, Bool.and_eq_true] at h
    rcases List.mem_cons.1 hm with e | hm
    · subst e
      refine ⟨?_, h.1.2⟩
      have h1 := h.1.1
      simp only [] at h1
      cases hg : E.tm.get s with
      | none => rw [hg] at h1; cases h1
      | some a => rw [hg] at h1; rw [aI1 8 a x h1]
    · exact bF2 h.2 s x hm
theorem bQ2 {E : Env} : ∀ {l : List (Nat × AV)}, bL4 E l = true → ∀ s x, (s, x) ∈ l → E.tm.get s = some x
  | [], _, s, x, h => by cases h
  | p :: r, h, s, x, hm => by
    simp only [bL4, Bool.and_eq_true] at h
    rcases List.mem_cons.1 hm with e | hm
    · subst e
      have h1 := h.1
      simp only [] at h1
      cases hg : E.tm.get s with
      | none => rw [hg] at h1; cases h1
      | some a => rw [hg] at h1; rw [bS5 8 a x h1]
    · exact bQ2 h.2 s x hm
theorem bQ4 : ∀ {l : List (Nat × AV)}, lfB l = true → ∀ p, p ∈ l → p.1 ≤ 16777213
  | [], _, p, h => by cases h
  | q :: r, h, p, hm => by
    simp only [lfB, Bool.and_eq_true] at h
    rcases List.mem_cons.1 hm with rfl | hm
    · exact Nat.le_of_ble_eq_true h.1
    · exact bQ4 h.2 p hm
theorem cX1 : ∀ {l : List Nat}, lfC l = true → ∀ p, p ∈ l → p ≤ 16777213
  | [], _, p, h => by cases h
  | q :: r, h, p, hm => by
    simp only [lfC, Bool.and_eq_true] at h
    rcases List.mem_cons.1 hm with rfl | hm
    · exact Nat.le_of_ble_eq_true h.1
    · exact cX1 h.2 p hm
structure LfAt (E : Env) (k : Option Nat) (L : List LF) (l : LF) : Prop where
  mem : l ∈ L
  key : k = some l.key
  nt : E.nt = l.nt
  pre : ∀ s x, (s, x) ∈ l.pre → E.tm.get s = some x
  low : l.hp = none → ∀ s x, (s, x) ∈ l.pre → noR 8 x = true
  post : ∀ p, p ∈ l.post → p.1 ≤ 16777213
  keep : ∀ p, p ∈ l.keep → p ≤ 16777213
theorem cS0 {E : Env} {k : Option Nat} : ∀ {L : List LF} {l : LF}, cS1 E k L = some l → LfAt E k L l
  | [], l, h => by cases h
  | x :: r, l, h => by
    unfold cS1 at h
    cases hc : (bQ6 k x.key && Nat.beq E.nt x.nt && cX0 E x && lfB x.post && lfC x.keep) with
    | true =>
      rw [hc] at h
      simp only [cond_true, Option.some.injEq] at h
      subst h
      simp only [Bool.and_eq_true] at hc
      have hm := hc.1.1.2
      unfold cX0 at hm
      refine ⟨List.mem_cons_self .., ?_, Nat.eq_of_beq_eq_true hc.1.1.1.2, ?_, ?_, bQ4 hc.1.2, cX1 hc.2⟩
      rotate_left
      · cases hx : x.hp with
        | none => rw [hx] at hm; exact fun s y hs => (bF2 hm s y hs).1
        | some h => rw [hx] at hm; exact bQ2 hm
      · intro hx
        rw [hx] at hm; exact fun s y hs => (bF2 hm s y hs).2
      have h1 := hc.1.1.1.1
      cases k with
      | none => cases h1
      | some k => rw [Nat.eq_of_beq_eq_true h1]
    | false =>
      rw [hc] at h
      obtain ⟨a, b, c, d, g, e, f⟩ := cS0 (L := r) h
      exact ⟨List.mem_cons_of_mem _ a, b, c, d, g, e, f⟩
theorem aV2 {E : Env} : ∀ (l : List Nat) (t : T AV), (∀ p, p ∈ l → p ≤ 16777213) → ∀ s x, (bQ3 E l t).get s = some x → (s ∈ l ∧ E.tm.get s = some x) ∨ t.get s = some x
  | [], t, _, s, x, h => .inr h
  | p :: r, t, hb, s, x, h => by
    unfold bQ3 at h
    have hb' := fun q hq => hb q (List.mem_cons_of_mem _ hq)
    cases hg : E.tm.get p with
    | none =>
      rw [hg] at h
      rcases aV2 r t hb' s x h with h1 | h1
      · exact .inl ⟨List.mem_cons_of_mem _ h1.1, h1.2⟩
      · exact .inr h1
    | some a =>
      rw [hg] at h
      rcases aV2 r _ hb' s x h with h1 | h1
      · exact .inl ⟨List.mem_cons_of_mem _ h1.1, h1.2⟩
      · rw [aE9 _ _ _ _ (hb p (List.mem_cons_self ..))] at h1
        split at h1
        · rename_i e; subst e; exact .inl ⟨List.mem_cons_self .., by rw [hg]; exact h1⟩
        · exact .inr h1
theorem aI4 : ∀ (l : List (Nat × AV)) (t : T AV), (∀ p, p ∈ l → p.1 ≤ 16777213) → ∀ s x, (aT0 l t).get s = some x → (s, x) ∈ l ∨ t.get s = some x
  | [], t, _, s, x, h => .inr h
  | p :: r, t, hb, s, x, h => by
    unfold aT0 at h
    rcases aI4 r _ (fun q hq => hb q (List.mem_cons_of_mem _ hq)) s x h with h1 | h1
    · exact .inl (List.mem_cons_of_mem _ h1)
    · rw [aE9 _ _ _ _ (hb p (List.mem_cons_self ..))] at h1
      split at h1
      · rename_i e; injection h1 with h1; subst e; subst h1; exact .inl (List.mem_cons_self ..)
      · exact .inr h1
def CfOk (C : Cx) (g : Nat) (l : LF) : Prop := ∀ (h : LH) (q : Nat × AV), l.hp = some h → l.post = [q] → ∀ (B : Fz) (ρ : Rho) (H : T Ent) (w : World) (args : List Value), Fits C h.ng B ρ H w → h.ng ≤ h.n0 → LhOk h → (∀ v k, (v, k) ∈ h.pre → H.get v = some k) → Free ρ h.n0 h.n1 → RelL C ρ (l.pre.map (·.2)) args →
  Calls C.P g ⟨args⟩ w fun e w' => ∃ x ρ', e = .returned x ∧ Rel C ρ' q.2 x ∧ Fits C h.ng B ρ' (aJ8 h H) w' ∧ Ext ρ ρ' h.n0 h.n1 ∧ Below B w w'
theorem cU0 : ∀ (a : List AV) (l : List (Nat × AV)), cU1 a l = true → a = l.map (·.2)
  | [], [], _ => rfl
  | a :: l, p :: r, h => by
    simp only [cU1, Bool.and_eq_true, Bool.or_eq_true] at h
    have e : a = p.2 := h.1.elim (aI1 8 _ _) (bS5 8 _ _)
    rw [List.map_cons, ← e, ← cU0 l r h.2]
  | [], _ :: _, h => by cases h
  | _ :: _, [], h => by cases h
theorem cT9 {args : List AV} {x : LH × AV} : ∀ L : List LF, bH1 args L = some x → ∃ l q, l ∈ L ∧ isCf l = true ∧ l.hp = some x.1 ∧ l.post = [q] ∧ q.2 = x.2 ∧ args = l.pre.map (·.2)
  | [], h => by cases h
  | l :: r, h => by
    have next : bH1 args r = some x → ∃ l' q, l' ∈ l :: r ∧ isCf l' = true ∧ l'.hp = some x.1 ∧ l'.post = [q] ∧ q.2 = x.2 ∧ args = l'.pre.map (·.2) := fun hn => by
      obtain ⟨l', q, a, b⟩ := cT9 r hn
      exact ⟨l', q, List.mem_cons_of_mem _ a, b⟩
    unfold bH1 at h
    split at h
    · rename_i hh q e1 e2
      cases hc : (isCf l && cU1 args l.pre) with
      | true =>
        rw [hc, cond_true] at h
        injection h with h
        subst h
        rw [Bool.and_eq_true] at hc
        exact ⟨l, q, List.mem_cons_self .., hc.1, e1, e2, rfl, cU0 _ _ hc.2⟩
      | false => rw [hc, cond_false] at h; exact next h
    · exact next h
structure FnOk (C : Cx) (tb : Tab) (g : Nat) (fi : FI) (fn : Func) : Prop where
  at_ : C.P.funcs[g]? = some fn
  name : (fn.name == "runtime.NumGoroutine") = false
  body : fn.body = fi.body
  nt : fn.ntmps = fi.ntmps
  res : fn.results.toList = fi.res
  reg : ∀ c, fi.body = some c → codeOk c = true
  sum : ∀ v, fi.sum = some v → fi.body.isSome = true ∧ SumOk C g v
  lps : ∀ c, fi.body = some c → LpOk C fi.lps c
  cfs : ∀ l, l ∈ fi.lps → isCf l = true → CfOk C g l
  ext : fi.body = none → fi.ext = 0 ∨ cV1 C tb fi.ext fn
structure aF3 (C : Cx) (tb : Tab) : Prop where
  tab : cU7 C tb
  met : dR2 C tb
  fn : ∀ g fi, tb.fn.get g = some fi → ∃ fn, FnOk C tb g fi fn
  mix : C.P.follows .mixedOrders = true
section
variable {C : Cx} {tb : Tab} {B : Fz}
theorem Fits.kept {ρ : Rho} {ng : Nat} {H : T Ent} {w w' : World} (h : Fits C ng B ρ H w) (hb : Below (Fz.lt w.heap.size) w w') : Fits C ng B ρ H w' := by
  refine ⟨fun k hk => by have := h.size k hk; have := hb.size; omega, h.glob, fun v k hv => ?_, h.inj, h.low, C.stab w w' (fun b hb' => hb.block b (h.size b (h.low b hb'))) h.inv⟩
  obtain ⟨r, h1, o, h2, h3⟩ := h.blk v k hv
  refine ⟨r, h1, o, ?_, h3⟩
  have hlt : r.blk < w.heap.size := by
    rcases Nat.lt_or_ge r.blk w.heap.size with h | h
    · exact h
    · rw [Array.getElem?_eq_none h] at h2; cases h2
  rw [hb.block _ hlt]; exact h2
theorem Below.less {B B' : Fz} {w w' : World} (h : Below B w w') (hle : ∀ k, B' k → B k) : Below B' w w' := ⟨h.os, h.tape, h.output, h.size, fun k hk => h.block k (hle k hk), h.walk⟩
theorem aE3 {P : Program} {g : Nat} {fn : Func} {args : Array Value} {w : World} (h1 : P.funcs[g]? = some fn) (h2 : (fn.name == "runtime.NumGoroutine") = false) (h3 : fn.body.isSome = true) : (callFunc g args).run P w = .ok (.enter g args) w := by
  unfold callFunc
  rw [Sem.run_bind]
  have hp : (program).run P w = .ok P w := rfl
  rw [hp]
  simp only [Result.andThen_ok, h1, h2]
  have : fn.body.isNone = false := by cases hb : fn.body with
    | none => rw [hb] at h3; cases h3
    | some c => rfl
  rw [this]; rfl
end
section
variable {C : Cx} {tb : Tab} {B : Fz} {F : Nat} {Φ : Fence} {ν : Nat}
def Post (C : Cx) (tb : Tab) (B : Fz) (ρ : Rho) (S : St) (E' : Env) (S' : St) (a : Act) (w : World) (K : Act → World → Prop) : Prop :=
  ∀ ρ' a' w', aQ7 C ρ' E' a' → Dfs a a' w w' → Fits C tb.ng B ρ' S'.heap w' → Ext ρ ρ' S.next S'.next → Below B w w' → K a' w'
theorem Good.le {α : Type} {m : M α} (h : Good m) {S S' : St} {x : α} (hm : m S = some (x, S')) : S.next ≤ S'.next := h.mono _ _ _ hm
theorem cW0 (hΦ : Wide Φ) (hcall : ∀ g, g < F → CROk C tb B (call tb g) (rnd tb g)) (ht : cU7 C tb) (hm : dR2 C tb) {ops : Array Oper} {Q : Exit → Act → World → Prop} :
    ∀ (f : Nat), f ≤ F → ∀ (r : List Oper) (n : Nat) (E : Env) (S : St) (E' : Env) (S' : St) (ρ : Rho) (a : Act) (w : World), (∀ k o, r[k]? = some o → ops[n + k]? = some o) → opsT tb f ops.toList r E S = some (E', S') →
      Fits C tb.ng B ρ S.heap w → tb.ng ≤ S.next → aQ7 C ρ E a → Free ρ S.next S'.next → Post C tb B ρ S E' S' a w (Q .normal) → wpOpsIn Φ ν C.P ops Q (List.range' n r.length) a w
  | 0, _, r, n, E, S, E', S', ρ, a, w, _, h, _, _, _, _, _ => by unfold opsT at h; exact (aA2 h).elim
  | f + 1, hf, [], n, E, S, E', S', ρ, a, w, _, h, hF, hng, hE, hfree, hP => by
    unfold opsT at h
    obtain ⟨rfl, rfl⟩ := aA3 h
    exact hP ρ a w hE (.of_eq rfl) hF (Ext.refl _ _ _) (Below.refl _ _)
  | f + 1, hf, o :: r, n, E, S, E', S', ρ, a, w, hr, h, hF, hng, hE, hfree, hP => by
    unfold opsT at h
    obtain ⟨b, hb, h1⟩ := lb h
    have ho : ops[n]? = some o := by simpa using hr 0 o rfl
    have hr' : ∀ k x, r[k]? = some x → ops[n + 1 + k]? = some x := fun k x hk => by
      have := hr (k + 1) x (by simpa using hk)
      rw [show n + 1 + k = n + (k + 1) by omega]; exact this
    have hwant := wanted_ok ht.hyp hE hb
    show wpOpsIn Φ ν C.P ops Q (n :: List.range' (n + 1) r.length) a w
    unfold wpOpsIn
    simp only [ho]
    rw [hwant]
    cases b with
    | true =>
      rw [cond_true] at h1
      simp only [if_true]
      obtain ⟨v, S1, h2, h3⟩ := aB2 h1
      obtain ⟨E1, hp, h4⟩ := lb h3
      cases f with
      | zero => unfold oper at h2; exact (aA2 h2).elim
      | succ g =>
        rw [dL4] at h2
        have l1 := (Good.aO1 (aW9 tb g).call (aW9 tb g).rnd o (op tb.ng E.tm)).le h2
        have l2 := ((aW9 tb (g + 1)).opsT _ _ _).le h4
        refine dC9 (hcall g (by omega)) ht hm h2 hF hng (fun x _ => cW4 hF hE x) (hfree.left l2) (fun ρ' x w' r1 r2 r3 r4 => ?_) hΦ
        have hs := r3.sub (hfree.left l2)
        refine cW0 hΦ hcall ht hm (g + 1) (Nat.le_of_succ_le hf) r (n + 1) E1 S1 E' S' ρ' (a.put o.dst x) w' hr' h4 r2 (by omega) ((hE.mono hs).put hp r1) (hfree.right l1 r3) fun ρ2 a2 w2 p1 p2 p3 p4 p5 => ?_
        exact hP ρ2 a2 w2 p1 (p2.same (cA4 _ _ _).symm r4.size) p3 (r3.trans p4 l1 l2) (r4.trans p5)
    | false =>
      rw [cond_false] at h1
      simp only [Bool.false_eq_true, if_false]
      obtain ⟨E1, hp, h4⟩ := lb h1
      refine ⟨fun f _ => hΦ.fn f, ?_⟩
      refine cW0 hΦ hcall ht hm f (Nat.le_of_succ_le hf) r (n + 1) E1 S E' S' ρ (a.put o.dst undef) w hr' h4 hF hng (hE.put hp (by simp only [Rel, RelL]; exact ⟨[], rfl, rfl⟩)) hfree fun ρ2 a2 w2 p1 p2 p3 p4 p5 => ?_
      exact hP ρ2 a2 w2 p1 (p2.same (cA4 _ _ _).symm (Nat.le_refl _)) p3 p4 p5
theorem rw_of {ρ : Rho} {S : St} {w : World} {hi : Nat} {ng : Nat} (hF : Fits C ng B ρ S.heap w) (hfree : Free ρ S.next hi) : Rw S hi := fun v h1 h2 => by
  cases hg : S.heap.get v with
  | none => rfl
  | some k =>
    obtain ⟨r, hr, _⟩ := hF.blk v k hg
    rw [hfree v h1 h2] at hr; cases hr
theorem Below.alloc {w : World} (o : Obj) (h : ∀ k, B k → k < w.heap.size) : Below B w (w.alloc o) := by
  have hk : ∀ k, k < w.heap.size → (w.alloc o).heap[k]? = w.heap[k]? := fun k hk => by
    show (w.heap.push o)[k]? = _
    rw [Array.getElem?_push, if_neg (by omega)]
  exact ⟨rfl, rfl, rfl, by show w.heap.size ≤ (w.heap.push o).size; simp, fun k hk' => hk k (h k hk'), fun k x hx _ => by rw [hk k (bS3 hx)]; exact hx⟩
theorem Below.putObj {w : World} {g : Nat} {o : Obj} (o' : Obj) (hg : w.heap[g]? = some o) (hr : isRow o = true) (hB : ¬ B g) : Below B w (w.putObj g o') := by
  refine ⟨rfl, rfl, rfl, by simp, fun k hk => World.putObj_heap_other (fun e => hB (e ▸ hk)), fun k x hx hx' => ?_⟩
  by_cases e : k = g
  · subst e; rw [hg] at hx; injection hx with hx; subst hx; rw [hr] at hx'; cases hx'
  · rw [World.putObj_heap_other e]; exact hx
theorem rfT_ok (hfn : ∀ g fi, tb.fn.get g = some fi → ∃ fn, FnOk C tb g fi fn) {g : Nat} {c : List Nat × Code × Code} (h : rfT tb g = some c) : rfP C.P g = some c := by
  unfold rfT at h
  cases hg : tb.fn.get g with
  | none => rw [hg] at h; cases h
  | some fi =>
    rw [hg] at h
    obtain ⟨fn, hf⟩ := hfn g fi hg
    unfold rfP
    rw [hf.at_]
    simp only [hf.body]
    exact h
theorem cP7 (hfn : ∀ g fi, tb.fn.get g = some fi → ∃ fn, FnOk C tb g fi fn) {ρ : Rho} {e : Ent} {k : LRec} (hk : bE7 tb e = some k) {r : R} {L : Loop} : aU3 C ρ B e r (.loop L) ↔ aS3 C ρ B k r L := by
  cases e <;> simp only [bE7] at hk <;> first | (cases hk; done) | skip
  · injection hk with hk; subst hk; exact Iff.rfl
  · rename_i g tm nt st pend
    cases hc : rfT tb g with
    | none => rw [hc] at hk; cases hk
    | some c =>
      rw [hc] at hk; injection hk with hk; subst hk
      have hp := rfT_ok hfn hc
      constructor
      · intro h
        obtain ⟨h1, h2⟩ := h
        rw [hp] at h1; injection h1 with h1; subst h1; exact h2
      · intro h
        have e1 := h.ps; have e2 := h.asg; have e3 := h.body
        simp only [] at e1 e2 e3
        refine ⟨?_, ?_⟩
        · rw [hp, e1, e2, e3]
        · rw [e1, e2, e3]; exact h
theorem recOf_loop {ρ : Rho} {e : Ent} {k : LRec} (hk : bE7 tb e = some k) {r : R} {o : Obj} (h : aU3 C ρ B e r o) : ∃ L, o = .loop L := by
  cases e <;> simp only [bE7] at hk <;> first | (cases hk; done) | skip
  · cases o <;> first | exact ⟨_, rfl⟩ | exact h.elim
  · cases o <;> first | exact ⟨_, rfl⟩ | exact h.elim
theorem cP5 {e : Ent} {k : LRec} (hk : bE7 tb e = some k) (st : Nat) (pend : Ex) : bE7 tb (dB6 st pend e) = some ⟨k.ps, k.asg, k.body, k.tm, k.nt, st, pend⟩ := by
  cases e <;> simp only [bE7] at hk <;> first | (cases hk; done) | skip
  · injection hk with hk; subst hk; rfl
  · rename_i g tm nt st' pend'
    cases hc : rfT tb g with
    | none => rw [hc] at hk; cases hk
    | some c =>
      rw [hc] at hk; injection hk with hk; subst hk
      simp only [dB6, bE7, hc]
theorem Fits.entry (hfn : ∀ g fi, tb.fn.get g = some fi → ∃ fn, FnOk C tb g fi fn) {ρ : Rho} {ng : Nat} {H : T Ent} {w : World} {v : Nat} {k : LRec} {r : R} {en : Ent} (h : Fits C ng B ρ H w) (hv : H.get v = some en) (hk : bE7 tb en = some k) (hr : ρ v = some r) : ∃ L, w.heap[r.blk]? = some (.loop L) ∧ aS3 C ρ B k r L := by
  obtain ⟨r', h1, o, h2, h3⟩ := h.blk v _ hv
  rw [hr] at h1; injection h1 with h1; subst h1
  obtain ⟨L, rfl⟩ := recOf_loop hk h3
  exact ⟨L, h2, (cP7 hfn hk).1 h3⟩
theorem Fits.dN4 {ρ : Rho} {ng : Nat} {H : T Ent} {w : World} {v : Nat} {en : Ent} {r : R} {L : Loop} (h : Fits C ng B ρ H w) (hv : H.get v = some en) (hr : ρ v = some r) (hL : w.heap[r.blk]? = some (.loop L)) : roE en = false := by
  obtain ⟨r', h1, o, h2, h3⟩ := h.blk v en hv
  rw [hr] at h1; injection h1 with h1; subst h1
  rw [hL] at h2; injection h2 with h2; subst h2
  cases en <;> first | rfl | exact h3.elim
theorem Fits.putJ (hfn : ∀ g fi, tb.fn.get g = some fi → ∃ fn, FnOk C tb g fi fn) {ρ : Rho} {ng : Nat} {H : T Ent} {w : World} {v : Nat} {en en' : Ent} {k' : LRec} {r : R} {L L' : Loop} (h : Fits C ng B ρ H w) (hn : v ≤ 16777213) (hv : H.get v = some en) (hr : ρ v = some r)
    (hL : w.heap[r.blk]? = some (.loop L)) (hk' : bE7 tb en' = some k') (hk : aS3 C ρ B k' r L') : Fits C ng B ρ (H.set v en') (w.putObj r.blk (.loop L')) :=
  h.upd hn hv hr (k' := en') (o := .loop L') ((cP7 hfn hk').2 hk) (World.putObj_heap_same (bS3 hL)) (fun b hb => World.putObj_heap_other hb) (by simp) (fun b hb => World.putObj_heap_other (fun e => hk.own (e ▸ hb))) (h.dN4 hv hr hL)
theorem Fits.drop {ρ : Rho} {ng : Nat} {H : T Ent} {w : World} {v : Nat} {en : Ent} {k : LRec} {r : R} {L : Loop} (o : Obj) (h : Fits C ng B ρ H w) (hn : v ≤ 16777213) (hv : H.get v = some en) (hr : ρ v = some r)
    (hk : aS3 C ρ B k r L) (hL : w.heap[r.blk]? = some (.loop L)) : Fits C ng B ρ (H.del v) (w.putObj r.blk o) := by
  have hd : ∀ x kx, (H.del v).get x = some kx → x ≠ v ∧ H.get x = some kx := fun x kx hx => by
    rw [aR6 _ _ _ hn] at hx; split at hx
    · cases hx
    · rename_i e; exact ⟨e, hx⟩
  refine ⟨by simpa using h.size, h.glob, fun u ku hu => ?_, fun a b k1 k2 r1 r2 ha hb => h.inj a b k1 k2 r1 r2 (hd _ _ ha).2 (hd _ _ hb).2, h.low, C.stab w _ (fun b hb => World.putObj_heap_other (fun e => hk.own (e ▸ h.low b hb))) h.inv⟩
  obtain ⟨e, hu'⟩ := hd u ku hu
  obtain ⟨r', h1, o', h2, h3⟩ := h.blk u ku hu'
  refine ⟨r', h1, o', ?_, h3⟩
  rw [World.putObj_heap_other (fun e' => e (h.solo hu' hv h1 hr (h.dN4 hv hr hL) e'))]; exact h2
theorem Fits.putD {ρ : Rho} {ng : Nat} {H : T Ent} {w : World} {D : Nat} {ds : Option (List Deferred)} (o : Obj) (h : Fits C ng B ρ H w) (hD : w.heap[D]? = some (.deferred ds)) (hB : ¬ B D) : Fits C ng B ρ H (w.putObj D o) := by
  refine ⟨by simpa using h.size, h.glob, fun u ku hu => ?_, h.inj, h.low, C.stab w _ (fun b hb => World.putObj_heap_other (fun e => hB (e ▸ h.low b hb))) h.inv⟩
  obtain ⟨r', h1, o', h2, h3⟩ := h.blk u ku hu
  refine ⟨r', h1, o', ?_, h3⟩
  rw [World.putObj_heap_other (fun e => ?_)]
  · exact h2
  · subst e; rw [hD] at h2; injection h2 with h2; subst h2; cases ku <;> exact h3
theorem stOf_busy {n : Nat} (h : Nat.beq n 1 = false) : stOf n ≠ .busy := by
  match n with
  | 0 => intro e; cases e
  | 1 => cases h
  | n + 2 => intro e; cases e
theorem dD9 : ∀ {L : List LF} {l : LF}, mkOf L = some l → l ∈ L ∧ isMk l = true
  | [], l, h => by cases h
  | x :: r, l, h => by
    unfold mkOf at h
    cases hx : isMk x with
    | true => rw [hx, cond_true] at h; injection h with h; subst h; exact ⟨List.mem_cons_self .., hx⟩
    | false =>
      rw [hx, cond_false] at h
      obtain ⟨h1, h2⟩ := dD9 h
      exact ⟨List.mem_cons_of_mem _ h1, h2⟩
theorem bC3 (t : T AV) : ∀ (l : List Nat) s x, (s, x) ∈ pick t l → t.get s = some x ∧ s ≤ 16777213
  | [], s, x, h => by cases h
  | u :: r, s, x, h => by
    unfold pick at h
    cases hg : t.get u with
    | none => rw [hg] at h; exact bC3 t r s x h
    | some a =>
      rw [hg] at h
      simp only [] at h
      cases hb : Nat.ble u 16777213 with
      | false => rw [hb, cond_false] at h; exact bC3 t r s x h
      | true =>
        rw [hb, cond_true] at h
        rcases List.mem_cons.1 h with e | h
        · injection e with e1 e2; subst e1; subst e2; exact ⟨hg, Nat.le_of_ble_eq_true hb⟩
        · exact bC3 t r s x h
theorem pick_get (t : T AV) (l : List Nat) (s : Nat) (x : AV) (h : (aT0 (pick t l) .leaf).get s = some x) : t.get s = some x := by
  rcases aI4 _ _ (fun p hp => (bC3 t l p.1 p.2 hp).2) s x h with h | h
  · exact (bC3 t l s x h).1
  · simp [T.aD7] at h
theorem dE4 {h : LH} {H : T Ent} {n : Nat} (hh : LhOk h) (hh2 : LhOk (lhAt n h)) (hn : n ≤ h.n0) {v : Nat} {k : Ent} (hv : (aJ8 (lhAt n h) H).get v = some k) : (aJ8 h H).get v = some k := by
  have hle := hh.le
  rw [aL7 hh2] at hv
  rw [aL7 hh]
  have e1 : (lhAt n h).post = h.post := rfl
  have e2 : (lhAt n h).pre = h.pre := rfl
  have e3 : (lhAt n h).n0 = n := rfl
  have e4 : (lhAt n h).n1 = h.n1 := rfl
  rw [e1, e2, e3, e4] at hv
  cases hg : aS9 h.post v with
  | some j => rw [hg] at hv; simpa using hv
  | none =>
    rw [hg] at hv
    simp only [Option.none_or] at hv ⊢
    split at hv
    · cases hv
    · rename_i g
      rw [if_neg (by omega)]; exact hv
theorem aG1 (hΦ : Wide Φ) (hcall : ∀ g, g < F → CROk C tb B (call tb g) (rnd tb g)) (ht : cU7 C tb) (hm : dR2 C tb) (hmix : C.P.follows .mixedOrders = true) (hfn : ∀ g fi, tb.fn.get g = some fi → ∃ fn, FnOk C tb g fi fn) :
    ∀ (f : Nat), f ≤ F → ∀ (L : List LF) (c : Code) (E : Env) (S : St) (ex : Ex) (E' : Env) (S' : St) (ρ : Rho) (a : Act) (w : World) (Q : Exit → Act → World → Prop), COk Φ c → LpOk C L c → code tb f L c E S = some ((ex, E'), S') →
      Fits C tb.ng B ρ S.heap w → tb.ng ≤ S.next → aQ7 C ρ E a → Free ρ S.next S'.next → Post C tb B ρ S E' S' a w (Q (exOf ex)) → c.wpIn Φ ν C.P Q a w ∧ ∀ z, c = .loop z → RAny Φ ν C.P z Q a w
  | 0, _, L, c, E, S, ex, E', S', ρ, a, w, Q, _, _, h, _, _, _, _, _ => by unfold code at h; exact (aA2 h).elim
  | f + 1, hf, L, c, E, S, ex, E', S', ρ, a, w, Q, hc, hLp, h, hF, hng, hE, hfree, hP => by
    have hf' := Nat.le_of_succ_le hf
    have here : ∀ {x : Ex}, (x, E) = (ex, E') → S' = S → Q (exOf x) a w := fun {x} e1 e2 => by
      injection e1 with e1 e3; subst e1; subst e2; subst e3
      exact hP ρ a w hE (.of_eq rfl) hF (Ext.refl _ _ _) (Below.refl _ _)
    cases c with
    | skip => unfold code at h; obtain ⟨e1, e2⟩ := aA3 h; refine ⟨?_, fun z e => by cases e⟩; exact wpIn_skip (here e1.symm e2)
    | label l => unfold code at h; obtain ⟨e1, e2⟩ := aA3 h; refine ⟨?_, fun z e => by cases e⟩; exact wpIn_label (here e1.symm e2)
    | exit id => unfold code at h; obtain ⟨e1, e2⟩ := aA3 h; refine ⟨?_, fun z e => by cases e⟩; exact wpIn_exit (here e1.symm e2)
    | goto l => unfold code at h; obtain ⟨e1, e2⟩ := aA3 h; refine ⟨?_, fun z e => by cases e⟩; exact wpIn_goto (here e1.symm e2)
    | ret => unfold code at h; obtain ⟨e1, e2⟩ := aA3 h; refine ⟨?_, fun z e => by cases e⟩; exact wpIn_ret (here e1.symm e2)
    | seq x y =>
      refine ⟨?_, fun z e => by cases e⟩
      unfold code at h
      have hc := hc.seq
      obtain ⟨p, S1, h1, h2⟩ := aB2 h
      obtain ⟨ex1, E1⟩ := p
      have l1 := ((aW9 tb f).code _ _ _).le h1
      refine wpIn_seq ?_
      cases ex1 with
      | normal =>
        simp only [] at h2
        have l2 := ((aW9 tb f).code _ _ _).le h2
        refine And.left <| aG1 hΦ hcall ht hm hmix hfn f hf' L x E S .normal E1 S1 ρ a w _ hc.1 hLp.1 h1 hF hng hE (hfree.left l2) fun ρ1 a1 w1 p1 p2 p3 p4 p5 => ?_
        show y.wpIn Φ ν C.P Q a1 w1
        refine And.left <| aG1 hΦ hcall ht hm hmix hfn f hf' L y E1 S1 ex E' S' ρ1 a1 w1 Q hc.2 hLp.2 h2 p3 (by omega) p1 (hfree.right l1 p4) fun ρ2 a2 w2 q1 q2 q3 q4 q5 => ?_
        exact hP ρ2 a2 w2 q1 (p2.trans q2 p5 q5) q3 (p4.trans q4 l1 l2) (p5.trans q5)
      | exit id =>
        obtain ⟨e1, rfl⟩ := aA3 h2
        injection e1 with e1 e2; subst e1; subst e2
        exact And.left <| aG1 hΦ hcall ht hm hmix hfn f hf' L x E S _ _ _ ρ a w _ hc.1 hLp.1 h1 hF hng hE hfree hP
      | goto l =>
        obtain ⟨e1, rfl⟩ := aA3 h2
        injection e1 with e1 e2; subst e1; subst e2
        exact And.left <| aG1 hΦ hcall ht hm hmix hfn f hf' L x E S _ _ _ ρ a w _ hc.1 hLp.1 h1 hF hng hE hfree hP
      | ret =>
        obtain ⟨e1, rfl⟩ := aA3 h2
        injection e1 with e1 e2; subst e1; subst e2
        exact And.left <| aG1 hΦ hcall ht hm hmix hfn f hf' L x E S _ _ _ ρ a w _ hc.1 hLp.1 h1 hF hng hE hfree hP
    | cond q x y =>
      refine ⟨?_, fun z e => by cases e⟩
      unfold code at h
      have hc := hc.cond
      have hq := cW4 hF hE q
      simp only [] at h
      have hbr : ∀ b : Bool, a.eval q = .bool b → (cond b (code tb f L x E) (code tb f L y E)) S = some ((ex, E'), S') → (Code.cond q x y).wpIn Φ ν C.P Q a w := fun b hq h => by
        refine wpIn_cond hq ?_
        cases b with
        | true => exact And.left <| aG1 hΦ hcall ht hm hmix hfn f hf' L x E S ex E' S' ρ a w Q hc.1 hLp.1 h hF hng hE hfree hP
        | false => exact And.left <| aG1 hΦ hcall ht hm hmix hfn f hf' L y E S ex E' S' ρ a w Q hc.2 hLp.2 h hF hng hE hfree hP
      cases hop : op tb.ng E.tm q with
      | b b =>
        rw [hop] at h hq
        simp only [Rel] at hq
        exact hbr b hq (by cases b <;> exact h)
      | x i =>
        rw [hop] at h hq
        simp only [] at h
        obtain ⟨r, S1, h1, h2⟩ := aB2 h
        obtain ⟨rfl, h3⟩ := bR8 h1
        obtain ⟨b, e1, e2⟩ := ht.hyp _ _ (cS7 h3)
        injection e1 with e1; subst e1
        obtain ⟨p, q', e3, e4, e5⟩ := e2 ρ _ (.bool true) hq (by simp only [Rel])
        injection e4 with e4; subst e4
        have e6 : r = p := by rw [e5]; cases p <;> rfl
        subst e6
        exact hbr _ e3 h2
      | _ => rw [hop] at h; exact (aA2 h).elim
    | block id x =>
      refine ⟨?_, fun z e => by cases e⟩
      unfold code at h
      have hc := hc.block
      obtain ⟨p, S1, h1, h2⟩ := aB2 h
      obtain ⟨ex1, E1⟩ := p
      refine wpIn_block ?_
      cases ex1 with
      | exit j =>
        simp only [] at h2
        cases hj : Nat.beq j id with
        | true =>
          rw [hj, cond_true] at h2
          have hji := Nat.eq_of_beq_eq_true hj
          subst hji
          obtain ⟨e1, rfl⟩ := aA3 h2
          injection e1 with e1 e2; subst e1; subst e2
          refine And.left <| aG1 hΦ hcall ht hm hmix hfn f hf' L x E S (.exit j) _ _ ρ a w _ hc hLp h1 hF hng hE hfree fun ρ1 a1 w1 p1 p2 p3 p4 p5 => ?_
          show Exit.inBlock j Q (.exit j) a1 w1
          simp only [Exit.inBlock, if_true]
          exact hP ρ1 a1 w1 p1 p2 p3 p4 p5
        | false =>
          rw [hj, cond_false] at h2
          have hji : j ≠ id := fun e => by rw [e, Nat.beq_refl] at hj; cases hj
          obtain ⟨e1, rfl⟩ := aA3 h2
          injection e1 with e1 e2; subst e1; subst e2
          refine And.left <| aG1 hΦ hcall ht hm hmix hfn f hf' L x E S (.exit j) _ _ ρ a w _ hc hLp h1 hF hng hE hfree fun ρ1 a1 w1 p1 p2 p3 p4 p5 => ?_
          show Exit.inBlock id Q (.exit j) a1 w1
          simp only [Exit.inBlock, if_neg hji]
          exact hP ρ1 a1 w1 p1 p2 p3 p4 p5
      | normal =>
        obtain ⟨e1, rfl⟩ := aA3 h2
        injection e1 with e1 e2; subst e1; subst e2
        exact And.left <| aG1 hΦ hcall ht hm hmix hfn f hf' L x E S _ _ _ ρ a w _ hc hLp h1 hF hng hE hfree hP
      | goto l =>
        obtain ⟨e1, rfl⟩ := aA3 h2
        injection e1 with e1 e2; subst e1; subst e2
        exact And.left <| aG1 hΦ hcall ht hm hmix hfn f hf' L x E S _ _ _ ρ a w _ hc hLp h1 hF hng hE hfree hP
      | ret =>
        obtain ⟨e1, rfl⟩ := aA3 h2
        injection e1 with e1 e2; subst e1; subst e2
        exact And.left <| aG1 hΦ hcall ht hm hmix hfn f hf' L x E S _ _ _ ρ a w _ hc hLp h1 hF hng hE hfree hP
    | loop x =>
      unfold code at h
      dsimp only at h
      cases hl : cS1 E (keyOf x) L with
      | some l =>
        rw [hl] at h
        have hA := cS0 hl
        cases hhp : l.hp with
        | some hh =>
          have h : cE2 tb.ng E l S = some ((ex, E'), S') := h
          unfold cE2 at h
          rw [hhp] at h
          simp only [] at h
          obtain ⟨u, S1, h1, h2⟩ := aB2 h
          obtain ⟨e1, rfl⟩ := aA3 h2
          obtain ⟨⟨n1, n1g⟩, n2, n2b, n3, n4⟩ := cR5 h1
          have e2 : ex = l.ex := congrArg Prod.fst e1
          have e3 : E' = ⟨aT0 l.post (bQ3 E l.keep .leaf), E.nt⟩ := congrArg Prod.snd e1
          subst e2; subst e3
          have hnx : S'.next = hh.n1 := by rw [n4]
          have hok := bA2 n2
          have hx : RAny Φ ν C.P x Q a w := (hLp.1 l hA.mem hA.key).toH hhp Φ ν Q a w B ρ S.heap hΦ hc (n1g ▸ hF) (by omega) hok (bP9 n3) (fun v g1 g2 => hfree v (by omega) (by omega)) (by rw [hE.1]; exact hA.nt) (by rw [← hA.nt]; exact hE.2.1)
            (fun s y hs => hE.2.2 s y (hA.pre s y hs))
            fun ρ' a' w' k1 k2 k3 k4 k5 k6 k7 => by
              have k6 : Ext ρ ρ' S.next S'.next := fun v hv => k6 v (by have := hok.le; omega)
              have k5 : Fits C hh.ng B ρ' (aJ8 (lhAt S.next hh) S.heap) w' := k5.sub fun v k hv => dE4 hok (bA2 n2b) n1 hv
              refine hP ρ' a' w' ⟨by rw [k1]; exact hE.1, hE.2.1, fun t y hy => ?_⟩ k4 (by rw [n4, n1g]; exact k5) k6 k7
              rcases aI4 _ _ hA.post t y hy with g | g
              · exact k3 t y g
              · rcases aV2 _ _ hA.keep t y g with g | g
                · rw [k2 t g.1]; exact Rel.mono (k6.sub hfree) _ _ (hE.2.2 t y g.2)
                · simp [T.aD7] at g
          exact ⟨hx.wp, fun z e => by cases e; exact hx⟩
        | none =>
        have h : cE2 tb.ng E l S = some ((ex, E'), S') := h
        unfold cE2 at h
        rw [hhp] at h
        simp only [] at h
        obtain ⟨e1, rfl⟩ := aA3 h
        have e2 : ex = l.ex := congrArg Prod.fst e1
        have e3 : E' = ⟨aT0 l.post (bQ3 E l.keep .leaf), E.nt⟩ := congrArg Prod.snd e1
        subst e2; subst e3
        have hx : RAny Φ ν C.P x Q a w := (hLp.1 l hA.mem hA.key).toN hhp Φ ν Q a w hΦ hc hF.inv hF.nsz (by rw [hE.1]; exact hA.nt) (by rw [← hA.nt]; exact hE.2.1)
          (fun s y hs => cD7 8 y (hA.low hhp s y hs) _ (hE.2.2 s y (hA.pre s y hs)))
          fun a' w' k1 k2 k3 k4 k5 => hP ρ a' w' ⟨by rw [k1]; exact hE.1, hE.2.1, fun t y hy => by
            rcases aI4 _ _ hA.post t y hy with g | g
            · exact Rel.mono (fun v r hv => by cases hv) _ _ (k3 t y g)
            · rcases aV2 _ _ hA.keep t y g with g | g
              · rw [k2 t g.1]; exact hE.2.2 t y g.2
              · simp [T.aD7] at g⟩ k4 (hF.kept k5) (Ext.refl _ _ _) (Below.less k5 hF.size)
        exact ⟨hx.wp, fun z e => by cases e; exact hx⟩
      | none =>
      rw [hl] at h
      have hc0 := hc
      have hc := hc.loop
      obtain ⟨p, S1, h1, h2⟩ := aB2 h
      obtain ⟨ex1, E1⟩ := p
      have l1 := ((aW9 tb f).code _ _ _).le h1
      refine (fun hr => ⟨hr.wp, fun z e => by cases e; exact hr⟩) (?_ : RAny Φ ν C.P x Q a w)
      refine RAny.step ?_
      cases ex1 with
      | normal =>
        simp only [] at h2
        have l2 := ((aW9 tb f).code _ _ _).le h2
        refine And.left <| aG1 hΦ hcall ht hm hmix hfn f hf' L x E S .normal E1 S1 ρ a w _ hc hLp.2 h1 hF hng hE (hfree.left l2) fun ρ1 a1 w1 p1 p2 p3 p4 p5 => ?_
        show RAny Φ ν C.P x Q a1 w1
        refine (aG1 hΦ hcall ht hm hmix hfn f hf' L (.loop x) E1 S1 ex E' S' ρ1 a1 w1 Q hc0 hLp h2 p3 (by omega) p1 (hfree.right l1 p4) ?_).2 x rfl
        intro ρ2 a2 w2 q1 q2 q3 q4 q5
        exact hP ρ2 a2 w2 q1 (p2.trans q2 p5 q5) q3 (p4.trans q4 l1 l2) (p5.trans q5)
      | exit id =>
        obtain ⟨e1, rfl⟩ := aA3 h2
        injection e1 with e1 e2; subst e1; subst e2
        exact And.left <| aG1 hΦ hcall ht hm hmix hfn f hf' L x E S _ _ _ ρ a w _ hc hLp.2 h1 hF hng hE hfree hP
      | goto l =>
        obtain ⟨e1, rfl⟩ := aA3 h2
        injection e1 with e1 e2; subst e1; subst e2
        exact And.left <| aG1 hΦ hcall ht hm hmix hfn f hf' L x E S _ _ _ ρ a w _ hc hLp.2 h1 hF hng hE hfree hP
      | ret =>
        obtain ⟨e1, rfl⟩ := aA3 h2
        injection e1 with e1 e2; subst e1; subst e2
        exact And.left <| aG1 hΦ hcall ht hm hmix hfn f hf' L x E S _ _ _ ρ a w _ hc hLp.2 h1 hF hng hE hfree hP
    | region id ops draw =>
      refine ⟨?_, fun z e => by cases e⟩
      unfold code at h
      simp only [] at h
      cases draw with
      | false =>
        rw [cond_false] at h
        obtain ⟨E1, S1, h1, h2⟩ := aB2 h
        obtain ⟨e1, rfl⟩ := aA3 h2
        injection e1 with e1 e2; subst e1; subst e2
        refine wpIn_region ?_
        have hlen : List.range ops.size = List.range' 0 ops.toList.length := by rw [List.range_eq_range', Array.length_toList]
        rw [hlen]
        exact cW0 hΦ hcall ht hm f hf' ops.toList 0 E S _ _ ρ a w (fun k o hk => by rw [Nat.zero_add]; simpa using hk) h1 hF hng hE hfree hP
      | true =>
        rw [cond_true] at h
        obtain ⟨p, S1, h1, h2⟩ := aB2 h
        obtain ⟨E1, l1⟩ := p
        obtain ⟨hord, h3⟩ := aA4 h2
        obtain ⟨e1, rfl⟩ := aA3 h3
        injection e1 with e1 e2; subst e1; subst e2
        have hreg : dI3 ops.toList = true := by simpa [codeOk] using hc.1
        obtain ⟨Es, Ss, bs, vs, As, Ws, htr, t1, t2, t3, t4⟩ := tr_of hf' hreg h1 hord (rw_of hF hfree)
        refine wpIn_region_any hmix ?_
        have hF1 : Fits C tb.ng B ρ S.heap { w with drawn := w.drawn + 1 } := ⟨hF.size, hF.glob, hF.blk, hF.inj, hF.low, C.stab w _ (fun _ _ => rfl) hF.inv⟩
        have hb1 : Below B w { w with drawn := w.drawn + 1 } := ⟨rfl, rfl, rfl, Nat.le_refl _, fun _ _ => rfl, fun _ _ h _ => h⟩
        have hrep : ∀ k, (Array.replicate ops.size false).getD k false = false := fun k => by
          rw [Array.getD_eq_getD_getElem?, Array.getElem?_replicate]; split <;> rfl
        have hrw := rw_of hF hfree
        refine any_ok (ρ0 := ρ) (a0 := a) (w0 := { w with drawn := w.drawn + 1 }) htr (by rw [t1]; exact hE.2.1) (fun g hg => hcall g hg) ht hm (by rw [t2]; exact hng) hΦ
          (fun ρ' a' w' q1 q2 q3 q4 q5 => hP ρ' a' w' (by rw [← t3]; exact q1) (.of_eq q2) (by rw [← t4]; exact q3) (by rw [← t2, ← t4]; exact q4) (hb1.trans q5))
          ops.size (Array.replicate ops.size false) ρ S.heap a { w with drawn := w.drawn + 1 } (by simp) ?_ ?_
        · have : ∀ n, left (fun k => (Array.replicate ops.size false).getD k false) n ≤ n := by
            intro n
            induction n with
            | zero => exact Nat.le_refl _
            | succ n ih => unfold left; rw [hrep, cond_false]; omega
          exact this _
        · refine ⟨hF1, fun v => ?_, fun t x hx => ?_, fun j hj _ => ?_, Ext.refl _ _ _, by rw [t1]; exact hE.1, rfl, Below.refl _ _, fun i o e hi => by rw [hrep] at hi; cases hi⟩
          · rw [cW7 (X := fun k => (Ss k).heap.get v) _ (fun j _ => hrep j), t2]
          · rw [cW7 (X := fun k => (Es k).tm.get t) _ (fun j _ => hrep j), t1] at hx
            exact hE.2.2 t x hx
          · intro v hv1 hv2
            have m1 := aR1 htr.mono 0 j (by omega) (by omega)
            have m2 := aR1 htr.mono (j + 1) ops.size (by omega) (Nat.le_refl _)
            rw [t2] at m1; rw [t4] at m2
            exact hfree v (by omega) (by omega)
    | rangeFunc g ps x y =>
      refine ⟨?_, fun z e => by cases e⟩
      have hro : Φ.round = none := hc.2.resolve_right fun e => by cases e
      have hcx := hc.1
      simp only [codeOk, Bool.and_eq_true] at hcx
      unfold code at h
      simp only [] at h
      have hg := cW4 hF hE g
      cases hop : op tb.ng E.tm g <;> rw [hop] at h hg <;> try exact (aA2 h).elim
      rename_i gf first cap
      obtain ⟨fi, e1, h1⟩ := lb h
      obtain ⟨hbody, h2⟩ := aA4 h1
      obtain ⟨n, S1, h3, h4⟩ := aB2 h2
      obtain ⟨v, S2, h5, h6⟩ := aB2 h4
      obtain ⟨en, k, S3, h7, h7k, h8, h9, h10⟩ := rbR h6
      obtain ⟨hst, h11⟩ := cond_inv' h10
      obtain ⟨u, S4, h12, h13⟩ := aB2 h11
      obtain ⟨e2, rfl⟩ := aA3 h13
      injection e2 with e2 e3; subst e2; subst e3
      obtain ⟨rfl, n1, n2, n3⟩ := aG2 h3
      obtain ⟨k1, k2, k3, k4⟩ := aL3 h12
      simp only [Rel] at hg
      obtain ⟨as, cs, hg, hr1, hr2⟩ := hg
      obtain ⟨fn, hfnk⟩ := hfn _ _ e1
      have l1 := ((aW9 tb f).call _ _).le h5
      refine wpIn_rangeFunc fun fid _ => ?_
      have hb0 : Below B w (w.alloc (.deferred (some []))) := Below.alloc _ hF.size
      have hbA : Below (Fz.lt w.heap.size) w (w.alloc (.deferred (some []))) := Below.alloc _ (fun k hk => hk)
      have hsz : (w.alloc (.deferred (some []))).heap.size = w.heap.size + 1 := by simp
      have hentc : (dP3 L E' ps.toList x y = .j ⟨ps.toList, x, y, E'.tm, E'.nt, 0, .normal⟩) ∨ (∃ gk l, dP3 L E' ps.toList x y = .k gk (pick E'.tm l) E'.nt 0 .normal ∧ rfP C.P gk = some (ps.toList, x, y)) := by
        unfold dP3
        cases hmk : mkOf L with
        | none => exact .inl rfl
        | some l =>
          obtain ⟨m1, m2⟩ := dD9 hmk
          exact .inr ⟨_, _, rfl, hLp l m1 m2⟩
      generalize dP3 L E' ps.toList x y = en0 at hentc n2
      obtain ⟨L, hL⟩ : ∃ L : Loop, L = { state := .ready, pending := none, fn := fid, tmps := a.tmps, params := ps, assign := x, body := y, defers := w.heap.size } := ⟨_, rfl⟩
      have hb1 : Below B (w.alloc (.deferred (some []))) ((w.alloc (.deferred (some []))).alloc (.loop L)) := Below.alloc _ (fun k hk => by have := hF.size k hk; omega)
      have hfr : ρ S.next = none := hfree _ (Nat.le_refl _) (by omega)
      have hF1 : Fits C tb.ng B (put1 ρ S.next ⟨w.heap.size + 1, 0, 0, 0⟩) S1.heap ((w.alloc (.deferred (some []))).alloc (.loop L)) := by
        rw [n2]
        refine (hF.kept hbA).new n1 hng hfr (by rw [hsz]) (o := .loop L) ?_ rfl
        rcases hentc with rfl | ⟨gk, l, rfl, hpk⟩
        rotate_left
        · refine ⟨by rw [hL]; exact hpk, ?_⟩
          refine ⟨hF.fresh (Nat.le_succ _), rfl, rfl, rfl, by rw [hL]; exact hcx.1, by rw [hL]; exact hcx.2, by rw [hL]; exact hE.1, hE.2.1, fun t z hz => by rw [hL]; exact hE.2.2 t z (pick_get _ _ _ _ hz), by rw [hL]; rfl, by rw [hL]; rfl⟩
        refine ⟨hF.fresh (Nat.le_succ _), by rw [hL], by rw [hL], by rw [hL], hcx.1, hcx.2, by rw [hL]; exact hE.1, hE.2.1, fun t z hz => by rw [hL]; exact hE.2.2 t z hz, by rw [hL]; rfl, by rw [hL]; rfl⟩
      have hsub := aU8 (r := ⟨w.heap.size + 1, 0, 0, 0⟩) hfr
      have hext := aE2 ρ S.next ⟨w.heap.size + 1, 0, 0, 0⟩
      rw [← n3] at hext
      have hown : put1 ρ S.next ⟨w.heap.size + 1, 0, 0, 0⟩ S.next = some ⟨w.heap.size + 1, 0, 0, 0⟩ := by simp [put1]
      have hargs : RelL C (put1 ρ S.next ⟨w.heap.size + 1, 0, 0, 0⟩) (first ++ (.yl S.next :: cap)) (as ++ (.func (.yield (w.heap.size + 1)) #[] #[] :: cs)) := by
        refine (RelL.mono hsub _ _ hr1).app ?_
        simp only [RelL]
        exact ⟨_, _, rfl, by simp only [Rel]; exact ⟨_, hown, rfl⟩, RelL.mono hsub _ _ hr2⟩
      have hbo : fn.body.isSome = true := by rw [hfnk.body]; exact hbody
      have harr : (⟨as⟩ ++ #[Value.func (.yield (w.heap.size + 1)) #[] #[]] ++ ⟨cs⟩ : Array Value) = ⟨as ++ (.func (.yield (w.heap.size + 1)) #[] #[] :: cs)⟩ := by
        apply Array.toList_inj.1; simp
      refine ⟨w.heap.size + 1, [mkD w.heap.size], (w.alloc (.deferred (some []))).alloc (.loop L), { target := .fn (.func gf) ⟨cs⟩, args := ⟨as⟩ ++ #[.func (.yield (w.heap.size + 1)) #[] #[]] }, (w.alloc (.deferred (some []))).alloc (.loop L), gf, ⟨as ++ (.func (.yield (w.heap.size + 1)) #[] #[] :: cs)⟩, (w.alloc (.deferred (some []))).alloc (.loop L), ?_, ?_, fun f' _ => hΦ.fn f', ?_, hΦ.deep ν, ?_⟩
      · rw [hro, run_enterLoop_outer, hL]; rfl
      · simp only [resolve, hg, Deferred.ofValue]
        rw [Sem.run_pure]
        simp [Act.eval]
      · simp only [invoke]
        rw [harr]
        exact aE3 hfnk.at_ hfnk.name hbo
      · have hcl := (hcall f (by omega)).1 gf _ _ _ _ _ _ _ { dst := none, op := default, type := 0, pos := "", after := #[], guard := none } a (fun _ w3 => rangePost Φ ν C.P (w.heap.size + 1) Q { a with defers := [mkD w.heap.size] ++ a.defers } (.returned undef) w3)
          (fun e _ w3 => Q e { a with defers := [mkD w.heap.size] ++ a.defers } w3) Φ ν hΦ h5 hF1 (by omega) hargs ((hfree.right (by omega) hext).left (by omega)) ?_
        · rw [aE3 hfnk.at_ hfnk.name hbo, Oper.uponIn_enter] at hcl
          refine CallsIn.mono hcl.2 fun e w3 he => ?_
          cases e with
          | returned v => exact he
          | panicked chain => exact he
          | outgrown => obtain ⟨_, w4, hq⟩ := he; exact ⟨_, w4, hq⟩
        · intro ρ2 xv w2 q1 q2 q3 q4
          have hs2 := q3.sub ((hfree.right (by omega) hext).left (by omega))
          have hown2 := hs2 _ _ hown
          obtain ⟨L2, hL2, hk2⟩ := q2.entry hfn h7 h7k hown2
          have hend := run_endLoop (P := C.P) hL2 (by rw [hk2.st]; exact stOf_busy hst)
          have hbB : Below B w2 (w2.putObj (w.heap.size + 1) (.loop { L2 with state := .exhausted })) := Below.putObj _ hL2 rfl hk2.own
          have hbelow : Below B w (w2.putObj (w.heap.size + 1) (.loop { L2 with state := .exhausted })) := ((hb0.trans hb1).trans q4).trans hbB
          have hdat : ((w.alloc (.deferred (some []))).alloc (.loop L)).heap[w.heap.size]? = some (.deferred (some [])) := hb1.walk _ _ (World.alloc_heap_new w _) rfl
          have hq : Q (exOf k.pend) { a with defers := [mkD w.heap.size] ++ a.defers } (w2.putObj (w.heap.size + 1) (.loop { L2 with state := .exhausted })) := by
            refine hP ρ2 _ _ (aQ7.mono (a := a) hE fun v r hv => hs2 _ _ (hsub _ _ hv)) ⟨[w.heap.size], rfl, by simp, fun D hD => ?_⟩ ?_ (hext.trans (by rw [k4, h9]; exact q3) (by omega) (by omega)) hbelow
            · rw [List.mem_singleton] at hD; subst hD
              exact ⟨Nat.le_refl _, (q4.trans hbB).walk _ _ hdat rfl⟩
            · rw [k3, h8]
              exact q2.drop _ n1 h7 hown2 hk2 hL2
          refine ⟨L2.pending, _, hend, ?_⟩
          rw [hk2.pend] at hq ⊢
          generalize k.pend = ex at hq ⊢
          cases ex with
          | normal => exact hq
          | exit id => exact wpIn_exit hq
          | goto l => exact wpIn_goto hq
          | ret => exact wpIn_ret hq
    | _ => unfold code at h; exact (aA2 h).elim
end
end Go.AX
end
section
namespace Go.AX
section
variable {C : Cx} {tb : Tab} {B : Fz}
theorem bH2 {P : Program} {g : Nat} {fn : Func} {args : Array Value} {w w' : World} {r : Array Value → Sem Value} {x : Value} (h1 : P.funcs[g]? = some fn) (h2 : (fn.name == "runtime.NumGoroutine") = false) (h3 : fn.body = none)
    (h4 : Extern.findNext fn = none) (h5 : Extern.find fn = some r) (h6 : (r args).run P w = .ok x w') : (callFunc g args).run P w = .ok (.value x) w' := by
  unfold callFunc
  rw [Sem.run_bind]
  have hp : (program).run P w = .ok P w := rfl
  rw [hp]
  simp only [Result.andThen_ok, h1, h2, h3, h4, h5, Option.isNone_none]
  simp [h6, Sem.run_bind]
theorem Rel.dD1 {ρ : Rho} {v : AV} {x : Value} (h : Rel C (fun _ => none) v x) : Rel C ρ v x := Rel.mono (fun v r hv => by cases hv) v x h
theorem cP8 {ρ : Rho} : ∀ (ps : List Nat) (vs : List AV) (args : List Value) (E E' : Env) (a : Act), bP2 E ps vs = some E' → RelL C ρ vs args → aQ7 C ρ E a →
    ps.length = args.length ∧ aQ7 C ρ E' { tmps := (ps.zip args).foldl (fun (t : Array Value) (p : Nat × Value) => t.setIfInBounds p.1 p.2) a.tmps, defers := [] }
  | [], [], args, E, E', a, h, hr, hE => by
    simp only [bP2, Option.some.injEq] at h; subst h
    simp only [RelL] at hr; subst hr
    exact ⟨rfl, hE⟩
  | [], v :: vs, args, E, E', a, h, hr, hE => by simp [bP2] at h
  | d :: ps, [], args, E, E', a, h, hr, hE => by simp [bP2] at h
  | d :: ps, v :: vs, args, E, E', a, h, hr, hE => by
    unfold bP2 at h
    cases hp : E.put (some d) v with
    | none => rw [hp] at h; cases h
    | some E1 =>
      rw [hp] at h
      simp only [RelL] at hr
      obtain ⟨x, xs, rfl, h1, h2⟩ := hr
      obtain ⟨g1, g2⟩ := cP8 ps vs xs E1 E' (a.put (some d) x) h h2 (hE.put hp h1)
      exact ⟨by simp [g1], g2⟩
theorem bQ5 {Φ : Fence} {n : Nat} {fn : Func} {tmps : Array Value} {R : Ending → World → Prop} {ρ : Rho} {H : T Ent} {ng : Nat} {w : World} (hB : ∀ k, B k → k < w.heap.size) :
    ∀ (ms : List Nat) (w1 : World), ms.Nodup → (∀ D ∈ ms, w.heap.size ≤ D ∧ w1.heap[D]? = some (.deferred (some []))) → Fits C ng B ρ H w1 → Below B w w1 →
      (∀ w2, Fits C ng B ρ H w2 → Below B w w2 → LeavesIn Φ n C.P fn tmps R [] .returning w2) → LeavesInM Φ n C.P fn tmps R (ms.map mkD) .returning w1
  | [], w1, _, _, hF, hb, hk => hk w1 hF hb
  | D :: ms, w1, hn, hm, hF, hb, hk => by
    obtain ⟨h1, h2⟩ := hm D (List.mem_cons_self ..)
    rw [List.nodup_cons] at hn
    refine ⟨by simp, .inl ⟨D, w1.putObj D (.deferred none), rfl, run_takeDeferred h2, ?_⟩⟩
    refine bQ5 hB ms _ hn.2 (fun D' hD' => ?_) (hF.putD _ h2 (fun hb => by have := hB D hb; omega)) ⟨hb.os, hb.tape, hb.output, by simpa using hb.size, fun k hk => ?_, fun k o hk ho => ?_⟩ hk
    · obtain ⟨g1, g2⟩ := hm D' (List.mem_cons_of_mem _ hD')
      exact ⟨g1, by rw [World.putObj_heap_other (fun e => hn.1 (by rw [← e]; exact hD'))]; exact g2⟩
    · rw [World.putObj_heap_other (fun e => by have := hB k hk; omega)]; exact hb.block k hk
    · rw [World.putObj_heap_other (by have := bS3 hk; omega)]; exact hb.walk k o hk ho
theorem Wide.inRound {Φ : Fence} (h : Wide Φ) (l : Nat) : Wide (Φ.inRound l) := by
  rcases h with rfl | ⟨l', rfl⟩ <;> exact .inr ⟨l, rfl⟩
theorem dF2 (ex : Ex) : (aY3 ex).isNone = isN ex := by cases ex <;> rfl
theorem cr_ok (h : aF3 C tb) : ∀ f, CROk C tb B (call tb f) (rnd tb f) := by
  intro f
  induction f using Nat.strongRecOn with
  | _ f ih =>
    cases f with
    | zero =>
      refine ⟨?_, ?_⟩
      · intro g l S v S' ρ w args o a next Q Φ ν hΦ hc; unfold call at hc; exact (aA2 hc).elim
      · intro g l S v S' ρ w args o a next Q Φ ν r hΦ hc; unfold rnd at hc; exact (aA2 hc).elim
    | succ f =>
      have bY7 : ∀ g, g < f + 1 → CROk C tb B (call tb g) (rnd tb g) := fun g hg => ih g hg
      refine ⟨?_, ?_⟩
      · intro g l S v S' ρ w args o a next Q Φ ν hΦ hc hF hng hl hfree hk
        unfold call at hc
        obtain ⟨fi, e1, h1⟩ := lb hc
        obtain ⟨fn, hfn⟩ := h.fn g fi e1
        have main : (match fi.body with
            | none => match AX.hl tb.hyp (.ext g l) with
             | some v => AX.ret v
             | none => ext tb fi.ext l
            | some c => match AX.hl tb.hyp (.call g l) with
             | some v => AX.ret v
             | none => match bH1 l fi.lps with
              | some q => bnd (AX.bH9 tb.ng q.1) fun _ => AX.ret q.2
              | none => cond (Nat.ble l.length fi.ntmps && Nat.ble fi.ntmps 16777213) (bnd (code tb f fi.lps c ⟨dA1 l 0 .leaf, fi.ntmps⟩) fun r => match r.1 with
               | .normal | .ret => results tb fi.res r.2
               | _ => AX.fail) AX.fail) S = some (v, S') → o.uponIn Φ ν C.P a next Q ((callFunc g ⟨args⟩).run C.P w) := by
          intro h1
          cases hb : fi.body with
          | none =>
            rw [hb] at h1
            simp only [] at h1
            cases hcl : AX.hl tb.hyp (.ext g l) with
            | some u =>
              rw [hcl] at h1
              obtain ⟨rfl, rfl⟩ := aA3 h1
              obtain ⟨rr, x1, x2, x3⟩ := aB8 h.tab.toHypOk hcl ρ args hl fn hfn.at_
              obtain ⟨x, r1, r2⟩ := x3 w
              rw [bH2 hfn.at_ hfn.name (by rw [hfn.body, hb]) x1 x2 r1]
              exact hk ρ x w r2 hF (Ext.refl _ _ _) (Below.refl _ _)
            | none =>
            rw [hcl] at h1
            simp only [] at h1
            rcases hfn.ext hb with he0 | ⟨x1, r, x2, x3⟩
            · rw [he0] at h1; simp only [ext] at h1; exact (aA2 h1).elim
            obtain ⟨ρ', x, w', r1, r2, r3, r4, r5⟩ := x3 B l S v S' ρ w args h1 hF hng hl hfree
            rw [bH2 hfn.at_ hfn.name (by rw [hfn.body, hb]) x1 x2 r1]
            exact hk ρ' x w' r2 r3 r4 r5
          | some c =>
            rw [hb] at h1
            simp only [] at h1
            cases hcl : AX.hl tb.hyp (.call g l) with
            | some u =>
              rw [hcl] at h1
              obtain ⟨rfl, rfl⟩ := aA3 h1
              rw [aE3 hfn.at_ hfn.name (by rw [hfn.body, hb]; rfl), Oper.uponIn_enter]
              refine ⟨hΦ.deep ν, hΦ.calls (Calls.mono (aB8 h.tab.toHypOk hcl ρ args hl w hF.inv hF.nsz) fun e w' he => ?_)⟩
              obtain ⟨x, rfl, hx, hb'⟩ := he
              exact hk ρ x w' hx (hF.kept hb') (Ext.refl _ _ _) (Below.less hb' hF.size)
            | none =>
            rw [hcl] at h1
            dsimp only at h1
            cases hcf : bH1 l fi.lps with
            | some q =>
              rw [hcf] at h1
              dsimp only at h1
              obtain ⟨u, S1, h2, h3⟩ := aB2 h1
              obtain ⟨rfl, rfl⟩ := aA3 h3
              obtain ⟨⟨n1, n1g⟩, n2, n2b, n3, n4⟩ := cR5 h2
              obtain ⟨lf, q', m1, m2, m3, m4, m5, m6⟩ := cT9 _ hcf
              have hok := bA2 n2
              have hnx : S'.next = q.1.n1 := by rw [n4]
              have hcall := hfn.cfs lf m1 m2 q.1 q' m3 m4 B ρ S.heap w args (n1g ▸ hF) (by omega) hok (bP9 n3) (fun v g1 g2 => hfree v (by omega) (by omega)) (by rw [← m6]; exact hl)
              rw [aE3 hfn.at_ hfn.name (by rw [hfn.body, hb]; rfl), Oper.uponIn_enter]
              refine ⟨hΦ.deep ν, hΦ.calls (Calls.mono hcall fun e w' he => ?_)⟩
              obtain ⟨x, ρ', rfl, k1, k2, k3, k4⟩ := he
              have k3 : Ext ρ ρ' S.next S'.next := fun v hv => k3 v (by have := hok.le; omega)
              have k2 : Fits C q.1.ng B ρ' (aJ8 (lhAt S.next q.1) S.heap) w' := k2.sub fun v k hv => dE4 hok (bA2 n2b) n1 hv
              exact hk ρ' x w' (by rw [← m5]; exact k1) (by rw [n4, n1g]; exact k2) k3 k4
            | none =>
            rw [hcf] at h1
            dsimp only at h1
            obtain ⟨hcnd, h2⟩ := aA4 h1
            rw [Bool.and_eq_true] at hcnd
            obtain ⟨p, S1, h3, h4⟩ := aB2 h2
            obtain ⟨ex, E1⟩ := p
            have hbody : fn.body = some c := by rw [hfn.body, hb]
            rw [aE3 hfn.at_ hfn.name (by rw [hbody]; rfl)]
            rw [Oper.uponIn_enter]
            refine ⟨hΦ.deep ν, ?_⟩
            have l1 := ((aW9 tb f).code _ _ _).le h3
            have hend : (ex = .normal ∨ ex = .ret) → results tb fi.res E1 S1 = some (v, S') → CallsIn Φ (ν - 1) C.P g ⟨args⟩ w fun
                | .returned v, w'' => next (a.put o.dst v) w''
                | .panicked chain, w'' => Q (.panic chain) a w''
                | .outgrown, _ => LetsOut Q := fun hex hr => by
              have l2 := (Good.results tb _ _).le hr
              refine hΦ.out (callsIn_of_wp_marks hfn.at_ hbody trivial ?_)
              refine And.left <| aG1 bB4 bY7 h.tab h.met h.mix h.fn f (Nat.le_succ f) fi.lps c _ S ex E1 S1 ρ _ w _ ⟨hfn.reg c hb, .inl rfl⟩ (hfn.lps c hb) h3 hF hng
                (by rw [hfn.nt]; exact env0_ok hl (Nat.le_of_ble_eq_true hcnd.1) (Nat.le_of_ble_eq_true hcnd.2)) (hfree.left l2) fun ρ' a' w' q1 q2 q3 q4 q5 => ?_
              rw [← hfn.res] at hr
              obtain ⟨ms, d1, d2, d3⟩ := q2
              have hend : bodyPostM Fence.wide (ν - 1) C.P fn (fun
                | .returned v, w'' => next (a.put o.dst v) w''
                | .panicked chain, w'' => Q (.panic chain) a w''
                | .outgrown, _ => LetsOut Q) .normal a' w' := by
                show LeavesInM Fence.wide (ν - 1) C.P fn a'.tmps _ a'.defers .returning w'
                rw [d1]
                simp only [List.append_nil]
                refine bQ5 hF.size ms w' d2 d3 q3 q5 fun w2 k1 k2 => ?_
                obtain ⟨g1, g2, y, g3, g4⟩ := results_ok h.tab.toTyOk q1 k1 hr
                exact ⟨y, g3, hk ρ' y w2 g4 (by rw [g1]; exact k1) (by rw [g2]; exact q4) k2⟩
              rcases hex with hex | hex <;> rw [hex] <;> exact hend
            cases ex with
            | normal => exact hend (.inl rfl) h4
            | ret => exact hend (.inr rfl) h4
            | exit id => exact (aA2 h4).elim
            | goto l => exact (aA2 h4).elim
        cases hs : fi.sum with
        | none => rw [hs] at h1; exact main h1
        | some u =>
          rw [hs] at h1
          cases l with
          | cons x l => exact main h1
          | nil =>
            obtain ⟨rfl, rfl⟩ := aA3 h1
            simp only [RelL] at hl
            subst hl
            obtain ⟨hsome, hsum⟩ := hfn.sum _ hs
            rw [aE3 hfn.at_ hfn.name (by rw [hfn.body]; exact hsome), Oper.uponIn_enter]
            refine ⟨hΦ.deep ν, hΦ.calls (Calls.mono (hsum w hF.inv hF.nsz) fun e w' he => ?_)⟩
            obtain ⟨x, rfl, hx, hb⟩ := he
            exact hk ρ x w' hx.dD1 (hF.kept hb) (Ext.refl _ _ _) (Below.less hb hF.size)
      · intro n l S v S' ρ w args o a next Q Φ ν r hΦ hc hF hng hl hr hfree hk
        unfold rnd at hc
        obtain ⟨en, k, S1, e1, e1k, e2, e3, h1⟩ := rbR hc
        obtain ⟨E, e4, h2⟩ := lb h1
        obtain ⟨p, S2, h3, h4⟩ := aB2 h2
        obtain ⟨ex, E2⟩ := p
        have hexn : ex = .normal := by
          cases ex with
          | normal => rfl
          | _ => exact (aA2 h4).elim
        subst hexn
        obtain ⟨en1, k1, S3, f1, f1k, f2, f3, h5⟩ := rbR h4
        obtain ⟨hst, h6⟩ := aA4 h5
        obtain ⟨u, S4, h7, h8⟩ := aB2 h6
        obtain ⟨q, S5, h9, h10⟩ := aB2 h8
        obtain ⟨eq, E5⟩ := q
        obtain ⟨en2, k2, S6, g1, g1k, g2, g3, h11⟩ := rbR h10
        obtain ⟨u2, S7, h12, h13⟩ := aB2 h11
        obtain ⟨hv, rfl⟩ := aA3 h13
        obtain ⟨a1, a2, a3, a4⟩ := aU7 h7
        obtain ⟨b1, b2, b3, b4⟩ := aU7 h12
        have l1 := ((aW9 tb f).code _ _ _).le h3
        have l2 := ((aW9 tb f).code _ _ _).le h9
        obtain ⟨L, hL, hk0⟩ := hF.entry h.fn e1 e1k hr
        have hE0 : aQ7 C ρ ⟨k.tm, k.nt⟩ { tmps := L.tmps, defers := [] } := ⟨hk0.size, hk0.nt, hk0.tm⟩
        obtain ⟨hlen, hE1⟩ := cP8 k.ps l args _ E _ e4 hl hE0
        have hsz : (⟨args⟩ : Array Value).size = L.params.size := by
          show args.length = _
          rw [← hlen, ← hk0.ps, Array.length_toList]
        have hfold : (L.params.zip (⟨args⟩ : Array Value)).foldl (fun tmps (t, a) => tmps.setIfInBounds t a) L.tmps = (k.ps.zip args).foldl (fun (t : Array Value) (p : Nat × Value) => t.setIfInBounds p.1 p.2) L.tmps := by
          rw [← Array.foldl_toList, Array.toList_zip, hk0.ps]
        rw [run_yield hL hsz, Oper.uponIn_round]
        refine ⟨hΦ.deep ν, roundIn_of_wpIn (hΦ.fn _) ?_⟩
        rw [hfold, hk0.asg, hk0.body]
        rw [← e2] at hF
        refine And.left <| aG1 (hΦ.inRound r.blk) bY7 h.tab h.met h.mix h.fn f (Nat.le_succ f) [] k.asg E S1 .normal E2 S2 ρ _ w _ ⟨hk0.okA.1, .inr hk0.okA.2⟩ (LpOk.nil _) h3 hF (by omega) hE1
          (by rw [e3]; exact hfree.left (by omega)) fun ρ1 c1 w1 p1 p2 p3 p4 p5 => ?_
        show ∃ w₂, (Instr.beginRound r.blk).run C.P w1 = .ok () w₂ ∧ k.body.wpIn (Φ.inRound r.blk) (ν - 1) C.P (roundPost C.P r.blk _) c1 w₂
        have hs1 : Sub ρ ρ1 := p4.sub (by rw [e3]; exact hfree.left (by omega))
        have hr1 := hs1 _ _ hr
        obtain ⟨L1, hL1, hk1⟩ := p3.entry h.fn f1 f1k hr1
        have hst0 : k1.st = 0 := Nat.eq_of_beq_eq_true hst
        refine ⟨_, run_beginRound hL1 (by rw [hk1.st, hst0]; rfl), ?_⟩
        have hkb : aS3 C ρ1 B ⟨k1.ps, k1.asg, k1.body, k1.tm, k1.nt, 1, k1.pend⟩ r { L1 with state := .busy } := { hk1 with st := rfl }
        have hF2 : Fits C tb.ng B ρ1 S4.heap (w1.putObj r.blk (.loop { L1 with state := .busy })) := by
          rw [a3, f2]
          exact p3.putJ h.fn a2 f1 hr1 hL1 (cP5 f1k _ _) hkb
        have hb2 : Below B w1 (w1.putObj r.blk (.loop { L1 with state := .busy })) := Below.putObj _ hL1 rfl hk1.own
        have hf1 : Free ρ1 S4.next S5.next := by
          rw [a4, f3]
          exact Free.left (hfree.right (by omega) (by rw [e3] at p4; exact p4)) (by omega)
        refine And.left <| aG1 (hΦ.inRound r.blk) bY7 h.tab h.met h.mix h.fn f (Nat.le_succ f) [] k.body E2 S4 eq E5 S5 ρ1 _ _ _ ⟨hk0.okB.1, .inr hk0.okB.2⟩ (LpOk.nil _) h9 hF2 (by omega) p1 hf1 fun ρ2 c2 w3 q1 q2 q3 q4 q5 => ?_
        have hs2 : Sub ρ1 ρ2 := q4.sub hf1
        have hr2 := hs2 _ _ hr1
        obtain ⟨L2, hL2, hk2⟩ := q3.entry h.fn g1 g1k hr2
        have hend := run_endRound (P := C.P) (aY3 eq) hL2
        have hkc : aS3 C ρ2 B ⟨k2.ps, k2.asg, k2.body, k2.tm, k2.nt, cond (isN eq) 0 2, eq⟩ r { L2 with state := if (aY3 eq).isNone then .ready else .done, pending := aY3 eq } :=
          { hk2 with st := (by rw [dF2]; cases isN eq <;> rfl), pend := rfl }
        have hF3 : Fits C tb.ng B ρ2 S'.heap (w3.putObj r.blk (.loop { L2 with state := if (aY3 eq).isNone then .ready else .done, pending := aY3 eq })) := by
          rw [b3, g2]
          exact q3.putJ h.fn b2 g1 hr2 hL2 (cP5 g1k _ _) hkc
        have hb3 : Below B w3 (w3.putObj r.blk (.loop { L2 with state := if (aY3 eq).isNone then .ready else .done, pending := aY3 eq })) := Below.putObj _ hL2 rfl hk2.own
        have hext : Ext ρ ρ2 S.next S'.next := by
          rw [b4, g3]
          rw [e3] at p4
          rw [a4, f3] at q4
          exact p4.trans q4 (by omega) (by omega)
        have hfin := hk ρ2 (.bool (aY3 eq).isNone) _ (by rw [hv, dF2]; simp only [Rel]) hF3 hext (((p5.trans hb2).trans q5).trans hb3)
        cases eq with
        | normal => exact ⟨_, _, hend, hfin⟩
        | exit id => exact ⟨_, _, hend, hfin⟩
        | goto l => exact ⟨_, _, hend, hfin⟩
        | ret => exact ⟨_, _, hend, hfin⟩
theorem cZ8 (h : aF3 C tb) (f : Nat) : CallOk C tb B (call tb f) := (cr_ok h f).1
end
end Go.AX
end
section
namespace Go.AX
def tl {α : Type} : T α → Nat → Nat → List (Nat × α)
  | .leaf, _, _ => []
  | .node v l r, s, m => (match v with | some x => [(s, x)] | none => []) ++ (tl l (Nat.add s m) (Nat.mul 2 m) ++ tl r (Nat.add s (Nat.mul 2 m)) (Nat.mul 2 m))
theorem dJ4 {α : Type} : ∀ (t : T α) (s m n : Nat) (x : α), t.get n = some x → (s + m * n, x) ∈ tl t s m
  | .leaf, s, m, n, x, h => by simp [T.aD7] at h
  | .node v l r, s, m, n, x, h => by
    rw [T.aL6] at h
    unfold tl
    by_cases h0 : n = 0
    · subst h0
      simp only [Nat.beq_refl, cond_true] at h
      subst h
      simp
    · have e0 : Nat.beq n 0 = false := by
        cases hb : Nat.beq n 0 with
        | false => rfl
        | true => exact absurd (Nat.eq_of_beq_eq_true hb) h0
      rw [e0, cond_false] at h
      have hmd : Nat.mod n 2 = n % 2 := rfl
      have hdv : Nat.div n 2 = n / 2 := rfl
      rw [hmd, hdv] at h
      refine List.mem_append_right _ ?_
      cases hm : Nat.beq (n % 2) 1 with
      | true =>
        rw [hm, cond_true] at h
        have h1 := Nat.eq_of_beq_eq_true hm
        refine List.mem_append_left _ ?_
        have := dJ4 l (Nat.add s m) (Nat.mul 2 m) (n / 2) x h
        have e : Nat.add s m + Nat.mul 2 m * (n / 2) = s + m * n := by
          show s + m + 2 * m * (n / 2) = _
          have : n = 2 * (n / 2) + 1 := by omega
          generalize n / 2 = q at this
          subst this
          rw [Nat.mul_add, Nat.mul_one, ← Nat.mul_assoc, Nat.mul_comm 2 m]; omega
        rw [e] at this; exact this
      | false =>
        rw [hm, cond_false] at h
        have h1 : n % 2 = 0 := by
          have : n % 2 ≠ 1 := fun e => by rw [e] at hm; cases hm
          omega
        have hsb : Nat.sub (n / 2) 1 = n / 2 - 1 := rfl
        rw [hsb] at h
        refine List.mem_append_right _ ?_
        have := dJ4 r (Nat.add s (Nat.mul 2 m)) (Nat.mul 2 m) (n / 2 - 1) x h
        have e : Nat.add s (Nat.mul 2 m) + Nat.mul 2 m * (n / 2 - 1) = s + m * n := by
          show s + 2 * m + 2 * m * (n / 2 - 1) = _
          have : n = 2 * (n / 2 - 1) + 2 := by omega
          generalize n / 2 - 1 = q at this
          subst this
          rw [Nat.mul_add, ← Nat.mul_assoc, Nat.mul_comm 2 m, Nat.mul_comm m 2]; omega
        rw [e] at this; exact this
theorem cN2 {α : Type} {t : T α} {n : Nat} {x : α} (h : t.get n = some x) : (n, x) ∈ tl t 0 1 := by
  have := dJ4 t 0 1 n x h
  rwa [Nat.zero_add, Nat.one_mul] at this
theorem cQ6 {α β : Type} {f g : α → β} : ∀ {l : List α}, l.map f = l.map g → ∀ x ∈ l, f x = g x
  | [], _, x, hx => by simp at hx
  | a :: l, h, x, hx => by
    simp only [List.map_cons, List.cons.injEq] at h
    rcases List.mem_cons.1 hx with e | e
    · rw [e]; exact h.1
    · exact cQ6 h.2 x e
/- what is asked of a seat's tables -/
def TyEq (P : Program) (tb : Tab) : Prop := (tl tb.ty 0 1).map (fun p => some p.2) = (tl tb.ty 0 1).map fun p => (P.info? p.1).map (mkTI P p.1)
def dF6 (P : Program) (t d : Nat) : Option Bool := match P.underlying t, P.info? d with
  | some (.interface want), some i => some (Instr.missingMethod want i.methods).isNone
  | _, _ => none
def ImpEq (P : Program) (tb : Tab) : Prop := tb.imp.map (fun p => some p.2.2) = tb.imp.map fun p => dF6 P p.1 p.2.1
def FnEq (P : Program) (tb : Tab) : Prop := (tl tb.fn 0 1).map (fun p => some (p.2.body, p.2.ntmps, p.2.res)) = (tl tb.fn 0 1).map fun p => (P.funcs[p.1]?).map fun fn => (fn.body, fn.ntmps, fn.results.toList)
noncomputable def fnChk (P : Program) (tb : Tab) : Bool := (tl tb.fn 0 1).all fun p => match P.funcs[p.1]? with
  | some fn => !(fn.name == "runtime.NumGoroutine") && (match p.2.body with | some c => codeOk c | none => true) && p.2.sum.isNone && p.2.lps.isEmpty
  | none => false
def MetAt (P : Program) (t : Nat) (m : String) (g : Nat) : Prop := ∀ (x : Value) (w : World), (method (P.types.size + Made.depth) t x m).run P w = .ok (g, x) w
theorem dF5 : ∀ (l : List (Nat × Nat × Bool)) (t d : Nat) (r : Bool), impl l t d = some r → (t, d, r) ∈ l
  | [], _, _, _, h => by simp [impl] at h
  | (a, b, q) :: l, t, d, r, h => by
    unfold impl at h
    cases hc : (Nat.beq a t && Nat.beq b d) with
    | true =>
      rw [hc, cond_true] at h; injection h with h; subst h
      rw [Bool.and_eq_true] at hc
      have e1 := Nat.eq_of_beq_eq_true hc.1
      have e2 := Nat.eq_of_beq_eq_true hc.2
      subst e1; subst e2; exact List.mem_cons_self ..
    | false => rw [hc, cond_false] at h; exact List.mem_cons_of_mem _ (dF5 l t d r h)
theorem cQ5 : ∀ (l : List (Nat × String × Nat × Bool)) (t : Nat) (m : String) (r : Nat × Bool), cW6 l t m = some r → (t, m, r) ∈ l
  | [], _, _, _, h => by simp [cW6] at h
  | (a, b, q) :: l, t, m, r, h => by
    unfold cW6 at h
    cases hc : (Nat.beq a t && b == m) with
    | true =>
      rw [hc, cond_true] at h; injection h with h; subst h
      rw [Bool.and_eq_true] at hc
      have e1 := Nat.eq_of_beq_eq_true hc.1
      have e2 := eq_of_beq hc.2
      subst e1; subst e2; exact List.mem_cons_self ..
    | false => rw [hc, cond_false] at h; exact List.mem_cons_of_mem _ (cQ5 l t m r h)
noncomputable def addSum (tb : Tab) (g : Nat) (fi : FI) (v : AV) : Tab := { tb with fn := tb.fn.set g { fi with sum := some v } }
theorem aF3.sum {C : Cx} {tb : Tab} (h : aF3 C tb) {g : Nat} {fi : FI} {v : AV} (hg : g ≤ 16777213) (hfi : tb.fn.get g = some fi) (hb : fi.body.isSome = true) (hs : SumOk C g v) : aF3 C (addSum tb g fi v) where
  tab := ⟨⟨h.tab.ty⟩, ⟨h.tab.hyp⟩, h.tab.imp, h.tab.ngl⟩
  met := h.met
  mix := h.mix
  fn := fun g' fi' h' => by
    have h'' : (tb.fn.set g { fi with sum := some v }).get g' = some fi' := h'
    rw [aE9 _ _ _ _ hg] at h''
    split at h''
    · rename_i e; subst e
      injection h'' with h''; subst h''
      obtain ⟨fn, hfn⟩ := h.fn _ _ hfi
      exact ⟨fn, hfn.at_, hfn.name, hfn.body, hfn.nt, hfn.res, hfn.reg, fun u hu => by
        simp only [Option.some.injEq] at hu; subst hu; exact ⟨hb, hs⟩, hfn.lps, hfn.cfs, hfn.ext⟩
    · obtain ⟨fn, hfn⟩ := h.fn _ _ h''
      exact ⟨fn, hfn.at_, hfn.name, hfn.body, hfn.nt, hfn.res, hfn.reg, hfn.sum, hfn.lps, hfn.cfs, hfn.ext⟩
theorem aF3.hyps {C : Cx} {tb : Tab} (h : aF3 C tb) {hs : List (HK × AV)} (hh : ∀ k r, (k, r) ∈ hs → HOk C k r) : aF3 C { tb with hyp := hs } where
  tab := ⟨⟨h.tab.ty⟩, ⟨hh⟩, h.tab.imp, h.tab.ngl⟩
  met := h.met
  mix := h.mix
  fn := fun g fi hg => by
    obtain ⟨fn, hfn⟩ := h.fn g fi hg
    exact ⟨fn, hfn.at_, hfn.name, hfn.body, hfn.nt, hfn.res, hfn.reg, hfn.sum, hfn.lps, hfn.cfs, hfn.ext⟩
/- the whole run -/
def rho0 (ng : Nat) : Rho := fun v => if v < ng then some ⟨v, 0, 0, 0⟩ else none
end Go.AX
end
section
namespace Go.AX
open Go.ChangeShapes Go.WideShapes
theorem Below.keptBut {w w' : World} (h : Below (Fz.lt w.heap.size) w w') (may : MemPlace → Prop) : w.keptBut w' may := by
  refine World.keptBut_mono (may := fun _ => False) (fun _ f => f.elim) ⟨h.os, h.output, fun i hi => ?_⟩
  have hk := (World.keptBut_refl w (fun _ => False)).2.2 i hi
  rw [h.block i hi]; exact hk
theorem post_below {H : Type} {enc : TypeId × Value → H} {P : Program} {f : Func} {s : ChangeSpec} {apart fresh handsOn again : Bool} {W W' : World} {args : Array Value} {v : Value} {ds gs : List (DataW H)} {old pa pv : List MemPlace}
    (hW : DataW.Whole enc P f.params.toList s.vars apart W args.toList ds gs old)
    (hr : ∀ (b : Nat) (sp : Nat → Bool) (hd : Bool), DataW.TrodAll enc P W' b sp hd f.resultTypes.toList (v.resultList f.resultTypes.size) (s.fn H (ds ++ gs)).results [])
    (ha : ∀ sp : Nat → Bool, (∀ p ∈ old, sp p.block = true) → DataW.TrodAll enc P W' 0 sp true f.params.toList args.toList (s.fn H (ds ++ gs)).args pa)
    (hv : ∀ sp : Nat → Bool, (∀ p ∈ old, sp p.block = true) → DataW.TrodVars enc P W' sp s.vars (s.fn H (ds ++ gs)).vars pv)
    (hp : old = pa ++ pv) (hb : Below (Fz.lt W.heap.size) W W')
    (hok : ∀ (j : Nat) (t : TypeId) (r : Value), f.resultTypes[j]? = some t → (v.resultList f.resultTypes.size)[j]? = some r → Value.okWide P W' .any 0 t r) :
    s.post enc P f apart fresh handsOn again W args v W' := by
  have hlt : ∀ p ∈ old, decide (p.block < W.heap.size) = true := fun p h => decide_eq_true (hW.lt p h)
  have hkeep : W.keptBut W' (fun p => p ∈ old ∧ (p ∈ ([] : List MemPlace) ∨ p ∈ pa ∨ p ∈ pv)) := Below.keptBut hb _
  have hfz : ∀ p : MemPlace, p ∈ old → ∀ off, W'.frozen? ⟨p.block, off, none⟩ = W.frozen? ⟨p.block, off, none⟩ := fun p h off => by
    unfold World.frozen?
    simp only [hb.block _ (hW.lt p h)]
  refine ⟨ds, gs, old, [], pa, pv, hW, hr _ _ _, ha _ hlt, hv _ hlt, hkeep, fun _ => ?_⟩
  obtain ⟨_, _, _, _, _, hz, hn⟩ := hW
  have hpp : ([] ++ pa) ++ pv = old := by rw [hp]; rfl
  refine ⟨hok, _, _, ([] ++ pa) ++ pv, ⟨[] ++ pa, pv, trodAll_append (ha _ (fun _ _ => rfl)) (hr _ _ _), hv _ (fun _ _ => rfl), rfl, fun b off hm => ?_, fun hh => ?_⟩, fun p hm _ => ?_⟩
  · rw [hpp] at hm
    exact (hfz _ hm off).trans (hz b off hm)
  · rw [hpp]; exact hn hh
  · rw [hpp] at hm; exact hm
end Go.AX
end
section
namespace Go.AX
def hasAll (want : Array (String × TypeId)) (got : Array Method) : Bool := (want.toList.filter fun x => !got.any fun m => m.name == x.1 && m.sig == x.2).isEmpty
theorem bG6 (l : List String) : (Instr.least l).isNone = l.isEmpty := by cases l <;> rfl
theorem orElse_isNone {α : Type} (a b : Option α) : (a <|> b).isNone = (a.isNone && b.isNone) := by cases a <;> rfl
theorem missing_none (want : Array (String × TypeId)) (got : Array Method) : (Instr.missingMethod want got).isNone = hasAll want got := by
  unfold Instr.missingMethod hasAll
  have key : ∀ (L : List (String × TypeId)), (Instr.least ((L.map (·.1)).partition (·.contains (Char.ofNat 46))).2 <|> Instr.least (((L.map (·.1)).partition (·.contains (Char.ofNat 46))).1.map fun id => (id.splitOn ".").getLastD id)).isNone = L.isEmpty := by
    intro L
    rw [orElse_isNone, bG6, bG6, List.partition_eq_filter_filter]
    cases L with
    | nil => rfl
    | cons x L =>
      simp only [List.map_cons, List.isEmpty_cons]
      cases hc : x.1.contains (Char.ofNat 46) with
      | true => simp [hc]; intro h1 _ h2; exact absurd h1 h2
      | false => simp [hc]; intro h1 _ h2; exact absurd h1 h2
  exact key _
def impAns' (P : Program) (t d : Nat) : Option Bool := match P.underlying t, P.info? d with
  | some (.interface want), some i => some (hasAll want i.methods)
  | _, _ => none
theorem impAns_eq (P : Program) (t d : Nat) : dF6 P t d = impAns' P t d := by
  unfold dF6 impAns'
  generalize P.underlying t = u
  generalize P.info? d = i
  cases u with
  | none => rfl
  | some u => cases u <;> first | rfl | (cases i with | none => rfl | some i => simp only [missing_none])
theorem impEq_of {P : Program} {tb : Tab} (h : tb.imp.map (fun p => some p.2.2) = tb.imp.map fun p => impAns' P p.1 p.2.1) : ImpEq P tb := by
  unfold ImpEq
  simp only [impAns_eq]; exact h
end Go.AX
end
section
namespace Go.AX
section
variable {C : Cx} {tb : Tab} {fn : Func}
theorem dM2 {α : Type} {o : Option α} (h : o.isNone = true) : o = none := by cases o with | none => rfl | some x => cases h
theorem rel1 {ρ : Rho} {a : AV} {vs : List Value} (h : RelL C ρ [a] vs) : ∃ x, vs = [x] ∧ Rel C ρ a x := by
  simp only [RelL] at h
  obtain ⟨x, vt, rfl, h1, rfl⟩ := h; exact ⟨x, rfl, h1⟩
theorem ext1_ok (h1 : (Extern.findNext fn).isNone = true) (h2 : Extern.find fn = some Extern.AbiNoEscape.same) : cV1 C tb 1 fn := by
  refine ⟨dM2 h1, _, h2, fun B l S v S' ρ w args h hF hng hl hfree => ?_⟩
  match l, h, hl with
  | [x], h, hl =>
    obtain ⟨rfl, rfl⟩ := aA3 h
    obtain ⟨y, rfl, hy⟩ := rel1 hl
    exact ⟨ρ, y, w, rfl, hy, hF, Ext.refl _ _ _, Below.refl _ _⟩
  | [], h, _ => simp only [ext] at h; exact (aA2 h).elim
  | _ :: _ :: _, h, _ => simp only [ext] at h; exact (aA2 h).elim
theorem bT1 : ∀ n t (acc : Array Value), (Extern.BytealgMakeNoZero.digits n t acc).size = acc.size + n
  | 0, _, _ => rfl
  | n + 1, t, acc => by unfold Extern.BytealgMakeNoZero.digits; rw [bT1 n]; simp; omega
theorem ext2_ok {ps rs : Array TypeId} {t : TypeId} (h1 : (Extern.findNext fn).isNone = true) (h2 : Extern.find fn = some (Extern.BytealgMakeNoZero.makeNoZero ps rs)) (h3 : rs[0]? = some t) (h4 : C.P.underlying t = some (.slice tb.u8)) : cV1 C tb 2 fn := by
  refine ⟨dM2 h1, _, h2, fun B l S v S' ρ w args h hF hng hl hfree => ?_⟩
  have hform : ∃ n : Nat, l = [.i .i64 (.ofNat n)] := by
    cases l with
    | nil => simp only [ext] at h; exact (aA2 h).elim
    | cons a l =>
      cases l with
      | cons => simp only [ext] at h; exact (aA2 h).elim
      | nil =>
        cases a with
        | i k n =>
          cases k <;> cases n <;> first | exact ⟨_, rfl⟩ | (simp only [ext] at h; exact (aA2 h).elim)
        | _ => simp only [ext] at h; exact (aA2 h).elim
  obtain ⟨n, rfl⟩ := hform
  obtain ⟨y, rfl, hy⟩ := rel1 hl
  simp only [Rel] at hy
  subst hy
  have h' : (cond (Nat.ble n 140737488355328) (bnd (new ⟨tb.u8, .y 0 0, n, 1, 0, false, true⟩) fun v => ret (.sl v 0 n 0 true)) AX.fail) S = some (v, S') := h
  obtain ⟨hn, h5⟩ := aA4 h'
  have hn := Nat.le_of_ble_eq_true hn
  obtain ⟨b, S1, h6, h7⟩ := aB2 h5
  obtain ⟨rfl, rfl⟩ := aA3 h7
  obtain ⟨cp, bs, w2, hrun, hcap, g1, g2, g3, g4⟩ : ∃ cp bs w2, (Extern.BytealgMakeNoZero.makeNoZero ps rs #[.int .i64 (.ofNat n)]).run C.P w = .ok (.slice (some ⟨w.heap.size, 0, none⟩) n cp) w2 ∧ n ≤ cp ∧
      w2.heap = w.heap.push (.cells (Extern.BytealgMakeNoZero.digits cp bs #[]) tb.u8 (0, 0)) ∧ w2.os = w.os ∧ w2.tape = w.tape ∧ w2.output = w.output := by
    have hch : (choose (.appendCap n 0 tb.u8)).run C.P w = .ok (grownCap w n 0 tb.u8) w.drew := by simp [Question.forced, grownCap]
    obtain ⟨s1, s2, e3, q, hq, hdef⟩ : ∃ (s1 s2 : String) (e3 : RuntimeError) (q : Question), q.forced = false ∧ Extern.BytealgMakeNoZero.makeNoZero ps rs #[.int .i64 (.ofNat n)] = (do
      let some t := rs[0]? | stuck s1
      let .slice elem ← underlying t | stuck s2
      if (.ofNat n : Int) < 0 || (.ofNat n : Int) > 2 ^ 48 then runtimePanic e3
      let cap ← choose (.appendCap (Int.ofNat n).toNat 0 elem)
      askRoom cap
      let bytes ← choose q
      let a ← newRow elem (Extern.BytealgMakeNoZero.digits cap bytes #[])
      pure (.slice (some a) (Int.ofNat n).toNat cap) : Sem Value) := ⟨_, _, _, _, rfl, rfl⟩
    obtain ⟨x, hx⟩ : ∃ x, (choose q).run C.P w.drew = .ok x w.drew.drew := by
      refine ⟨q.cut (w.drew.tape w.drew.drawn q), ?_⟩
      rw [run_choose, hq]; rfl
    have hcap := grownCap_ge w n 0 tb.u8
    generalize grownCap w n 0 tb.u8 = cp at hch hcap
    have hlt : ¬ ((281474976710656 : Int) < (n : Int)) := by omega
    refine ⟨cp, x, w.drew.drew.alloc (.cells (Extern.BytealgMakeNoZero.digits cp x #[]) tb.u8), ?_, hcap, rfl, rfl, rfl, rfl⟩
    rw [hdef]
    simp [-run_choose, -run_choose_drew, h3, run_underlying h4, hlt, hch, hx, newRow]
    intro hneg; omega
  have hsz : (Extern.BytealgMakeNoZero.digits cp bs #[]).size = cp := by rw [bT1]; simp
  have hba : aU6 C ρ B ⟨tb.u8, .y 0 0, n, 1, 0, false, true⟩ ⟨w.heap.size, 0, cp, 1⟩ (Extern.BytealgMakeNoZero.digits cp bs #[]) (0, 0) := by
    constructor
    · exact ⟨by simp [CW], fun j a hj => by simp [Cells.toL, unp] at hj⟩
    · intro _
      refine ⟨by rw [hsz]; simp, by simpa using hcap, by simp [Cells.len], rfl⟩
    · intro y _ _ h; simp at h
    · intro _; exact .inl rfl
    · intro h; exact absurd h (hF.fresh (Nat.le_refl _))
    · rw [hsz]; simp [Cells.len]
    · intro h; cases h
  obtain ⟨r2, r3, r4, r5, r6⟩ := cD9 (w' := w2) hF hng h6 hfree rfl hba g1 g2 g3 g4
  refine ⟨_, _, w2, hrun, ?_, r2, r3, r4⟩
  simp only [Rel]
  exact ⟨_, _, r5, by simpa using hcap, by simp, .inl rfl⟩
end
end Go.AX
end
section
namespace Go.AX
open Go.Extern
structure RfOk (P : Program) (tb : Tab) : Prop where
  kd : ∀ t k, aU0 tb.kd t = some k → (∀ w, (Rtype.kind t).run P w = .ok k w) ∧ P.packed t = false
  el : ∀ t e, aU0 tb.el t = some e → (∀ w, (Rtype.elem? t).run P w = .ok (some e) w) ∧ P.packed t = false
  asg : ∀ u t r, impl tb.asg u t = some r → (∀ w, (ReflectliteType.assignableTo u t).run P w = .ok r w) ∧ P.packed u = false ∧ P.packed t = false
  im2 : ∀ u t r, impl tb.im2 u t = some r → (∀ w, (ReflectliteType.implements_ u t).run P w = .ok r w) ∧ P.packed u = false ∧ P.packed t = false
  ty : ∀ (t : TypeId) (w : World), (ReflectliteType.toType t).run P w = .ok (.iface tb.rty (.agg #[typeHandle P t])) w
section
variable {C : Cx} {tb : Tab} {fn : Func} {ρ : Rho}
def MetAt2 (P : Program) (t : Nat) (m : String) (g : Nat) : Prop := ∀ (x : Value) (w : World), (method (P.types.size + Made.depth) t (.agg #[x]) m).run P w = .ok (g, x) w
theorem allOk' {C : Cx} {tb : Tab} (hty : TyEq C.P tb) (himp : ImpEq C.P tb) (hng : tb.ng = C.P.globals.size) (hhyp : tb.hyp = []) (hfn : FnEq C.P tb) (hchk : fnChk C.P tb = true)
    (hmet : ∀ t m g d, (t, m, g, d) ∈ tb.met → (d = false ∧ MetAt C.P t m g) ∨ (d = true ∧ MetAt2 C.P t m g)) (hmix : C.P.follows .mixedOrders = true)
    (hext : ∀ g fi fn, tb.fn.get g = some fi → C.P.funcs[g]? = some fn → fi.body = none → fi.ext = 0 ∨ cV1 C tb fi.ext fn) : aF3 C tb where
  tab := { ty := fun t ti h => by
             have := cQ6 hty _ (cN2 h)
             simp only [] at this
             cases hi : C.P.info? t with
             | none => rw [hi] at this; cases this
             | some i => rw [hi] at this; injection this with this; exact ⟨i, rfl, this⟩
           hyp := fun k r h => by rw [hhyp] at h; simp at h
           imp := fun t d r h => by
             have := cQ6 himp _ (dF5 _ _ _ _ h)
             simp only [dF6] at this
             split at this
             · rename_i want i h1 h2
               injection this with this
               exact ⟨want, i, h1, h2, this.symm⟩
             · cases this
           ngl := hng }
  met := fun t m g d v u ρ x w h1 h2 h3 => by
    rcases hmet t m g d (cQ5 _ _ _ _ h1) with ⟨rfl, hm⟩ | ⟨rfl, hm⟩
    · simp only [recv, cond_false, Option.some.injEq] at h2
      subst h2
      exact ⟨x, hm x w, h3⟩
    · simp only [recv, cond_true] at h2
      split at h2
      · injection h2 with h2; subst h2
        simp only [Rel, RelL] at h3
        obtain ⟨cs, rfl, y, vt, rfl, hy, rfl⟩ := h3
        exact ⟨y, hm y w, hy⟩
      · cases h2
  fn := fun g fi h => by
    have h1 := cQ6 hfn _ (cN2 h)
    have h2 := List.all_eq_true.1 hchk _ (cN2 h)
    simp only [] at h1 h2
    cases hf : C.P.funcs[g]? with
    | none => rw [hf] at h1; cases h1
    | some fn =>
      rw [hf] at h1 h2
      simp only [Option.map_some, Option.some.injEq, Prod.mk.injEq] at h1
      simp only [Bool.and_eq_true] at h2
      refine ⟨fn, hf, by simpa using h2.1.1.1, h1.1.symm, h1.2.1.symm, h1.2.2.symm, fun c hc => ?_, fun v hv => ?_, fun c hc => ?_, fun l hl _ => ?_, fun hb => hext g fi fn h hf hb⟩
      · have := h2.1.1.2; rw [hc] at this; exact this
      · have := h2.1.2; rw [hv] at this; cases this
      · rw [List.isEmpty_iff.1 h2.2]; exact LpOk.nil c
      · rw [List.isEmpty_iff.1 h2.2] at hl; cases hl
  mix := hmix
/- the whole run, some old blocks known -/
def gBlk (e : Nat) (c : Cells) : Ent := .b ⟨e, c, 0, 0, c.len, true, false⟩
end
end Go.AX
end
section
namespace Go.AX
open Go.Extern
section
variable {C : Cx} {tb : Tab} {fn : Func} {ρ : Rho}
end
end Go.AX
end
section
namespace Go.AX
/- old blocks of which the first cells are known -/
def GArr (C : Cx) (w : World) (g e : Nat) (l : List AV) : Prop :=
  ∃ arr fz, w.heap[g]? = some (.cells arr e fz) ∧ arr.size = l.length ∧ ∀ (j : Nat) (a : AV), l[j]? = some a → ∃ x, arr[j]? = some x ∧ Rel C (fun _ => none) a x ∧ x.oneCell' = true
def bD9 (l : List AV) (c : Cells) : Prop := CW c ∧ c.toL = l
theorem cV8 {C : Cx} {tb : Tab} (h : aF3 C tb) {f g : Nat} {fi : FI} {l : List AV} {v : AV} {S' : St} {args : List Value} {H : T Ent} (hfi : tb.fn.get g = some fi) (hb : fi.body.isSome = true)
    (hc : call tb f g l ⟨H, tb.ng, 0, 0⟩ = some (v, S')) (hl : RelL C (fun _ => none) l args) (w : World) (hi : C.inv w) (hsz : C.nst ≤ w.heap.size)
    (hH : ∀ v k, H.get v = some k → v < tb.ng ∧ ∃ e c m, k = gBlk e c ∧ bD9 m c ∧ GArr C w v e m) :
    Calls C.P g ⟨args⟩ w fun e w' => ∃ x ρ, e = .returned x ∧ Rel C ρ v x ∧ Below (Fz.lt w.heap.size) w w' := by
  have hF : Fits C tb.ng (Fz.lt w.heap.size) (rho0 tb.ng) H w := by
    refine ⟨fun k hk => hk, fun g hg => by simp [rho0, hg], fun v k hv => ?_, fun v v' k k' r r' hv hv' h1 h2 h3 => ?_, fun k hk => Nat.lt_of_lt_of_le hk hsz, hi⟩
    · obtain ⟨hlt, e, c, m, rfl, ⟨hcw, hcm⟩, arr, fz, h1, h2, h3⟩ := hH v k hv
      refine ⟨⟨v, 0, 0, 0⟩, by simp [rho0, hlt], _, h1, rfl, ?_⟩
      have hcl : c.len = m.length := by rw [Cells.len_eq, hcm]
      refine ⟨⟨hcw, fun j a hj => ?_⟩, fun h => (by cases h), fun x hx1 hx2 hx3 => ?_, fun h => (by cases h), fun _ => ⟨Nat.le_refl _, rfl, rfl⟩, ?_, fun _ => rfl⟩
      · have hj : c.toL[j]? = some a := hj
        rw [hcm] at hj
        obtain ⟨x, hx, hr, ho⟩ := h3 j a hj
        exact ⟨x, by simpa using hx, hr.dD1, ho⟩
      · have hx1 : 0 + c.len ≤ x := hx1
        omega
      · show 0 + c.len ≤ arr.size; omega
    · obtain ⟨l1, _⟩ := hH v k hv
      obtain ⟨l2, _⟩ := hH v' k' hv'
      simp only [rho0, if_pos l1, if_pos l2, Option.some.injEq] at h1 h2
      subst h1; subst h2; exact .inl h3
  have hfree : Free (rho0 tb.ng) tb.ng S'.next := fun v h1 h2 => by simp only [rho0]; rw [if_neg (by omega)]
  obtain ⟨fn, hfn⟩ := h.fn g fi hfi
  have hu := cZ8 (B := Fz.lt w.heap.size) h f g l ⟨H, tb.ng, 0, 0⟩ v S' (rho0 tb.ng) w args ⟨some 0, .move (.const undef), 0, "", #[], none⟩ ⟨#[undef], []⟩
    (fun a' w' => ∃ ρ, Rel C ρ v (a'.tmps.getD 0 undef) ∧ Below (Fz.lt w.heap.size) w w') (fun _ _ _ => False) Fence.wide 0 bB4 hc hF (Nat.le_refl _) (RelL.mono (fun v r hv => by cases hv) _ _ hl) hfree
    (fun ρ' x w' r1 r2 r3 r4 => ⟨ρ', by simpa [Act.put] using r1, r4⟩)
  rw [aE3 hfn.at_ hfn.name (by rw [hfn.body]; exact hb), Oper.uponIn_enter] at hu
  refine Calls.mono (callsIn_wide.1 hu.2) fun e w' he => ?_
  cases e with
  | returned x =>
    obtain ⟨ρ, h1, h2⟩ := he
    exact ⟨x, ρ, rfl, by simpa [Act.put] using h1, h2⟩
  | panicked c => exact he.elim
  | outgrown => obtain ⟨_, _, h⟩ := he; exact h.elim
end Go.AX
namespace Go.AX
def dR7 (w : World) (g : Nat) (k : IntKind) (zs : List Int) : Prop :=
  ∃ ty arr fz, w.heap[g]? = some (.cells arr ty fz) ∧ arr.size = zs.length ∧ ∀ (j : Nat) (z : Int), zs[j]? = some z → arr[j]? = some (.int k z)
theorem dR7.size {w : World} {g : Nat} {k : IntKind} {zs : List Int} (h : dR7 w g k zs) : g < w.heap.size := by
  obtain ⟨ty, arr, fz, hw, _⟩ := h
  rcases Nat.lt_or_ge g w.heap.size with h | h
  · exact h
  · rw [Array.getElem?_eq_none h] at hw; cases hw
theorem dR7.same {w w' : World} {g : Nat} {k : IntKind} {zs : List Int} (h : dR7 w g k zs) (e : w'.heap[g]? = w.heap[g]?) : dR7 w' g k zs := by
  obtain ⟨ty, arr, fz, hw, hr⟩ := h
  exact ⟨ty, arr, fz, by rw [e]; exact hw, hr⟩
end Go.AX
end
section
namespace Go.AX
noncomputable section
def aM6 (l : List (Nat × AV)) (nt : Nat) : Env := ⟨aT0 l .leaf, nt⟩
def aH9 (ep : List (Nat × AV)) (keep : List Nat) : List (Nat × AV) := keep.foldl (fun l t => (t, .x (Nat.add 1000000 t)) :: l) ep
theorem bY6 (keep : List Nat) : ∀ (ep : List (Nat × AV)) s x, (s, x) ∈ aH9 ep keep → (s, x) ∈ ep ∨ (s ∈ keep ∧ x = .x (1000000 + s)) := by
  induction keep with
  | nil => intro ep s x h; exact .inl h
  | cons t r ih =>
    intro ep s x h
    rcases ih _ s x h with h1 | h1
    · rcases List.mem_cons.1 h1 with e | h2
      · injection e with e1 e2; subst e1; exact .inr ⟨List.mem_cons_self .., e2⟩
      · exact .inl h2
    · exact .inr ⟨List.mem_cons_of_mem _ h1.1, h1.2⟩
def dJ9 (E : Env) (s : Nat) (y : AV) : Bool := match E.tm.get s with
  | some a => aW8 8 a y && noR 8 y
  | none => false
def bC0 (E : Env) : List (Nat × AV) → Bool
  | [] => true
  | p :: r => dJ9 E p.1 p.2 && bC0 E r
def aR2 (E : Env) : List Nat → Bool
  | [] => true
  | t :: r => dJ9 E t (.x (Nat.add 1000000 t)) && aR2 E r
theorem bQ8 {E : Env} : ∀ {l : List Nat}, aR2 E l = true → ∀ t, t ∈ l → E.tm.get t = some (.x (1000000 + t))
  | [], _, t, h => by cases h
  | u :: r, h, t, hm => by
    simp only [aR2, dJ9, Bool.and_eq_true] at h
    rcases List.mem_cons.1 hm with e | hm
    · subst e
      have h1 := h.1
      cases hg : E.tm.get t with
      | none => rw [hg] at h1; cases h1
      | some a => rw [hg] at h1; simp only [Bool.and_eq_true] at h1; rw [aI1 8 a _ h1.1]; rfl
    · exact bQ8 h.2 t hm
structure Round (C : Cx) (body : Code) (l : LF) (ep : List (Nat × AV)) {α : Type} (I : α → Prop) (μ : α → Nat) (D : α → (Nat → Value) → Cx) (x : α) (X : Nat → Value) : Prop where
  run : ∃ (tb : Tab) (L : List LF) (f : Nat) (ex : Ex) (E1 : Env) (S1 : St), aF3 (D x X) tb ∧ LpOk (D x X) L body ∧ code tb f L body (aM6 (aH9 ep l.keep) l.nt) ⟨.leaf, tb.ng, 0, 0⟩ = some ((ex, E1), S1) ∧ aR2 E1 l.keep = true ∧ E1.nt = l.nt ∧
    ((ex = .normal ∧ ∃ (y : α) (q : List (Nat × AV)), I y ∧ μ y < μ x ∧ bC0 E1 q = true ∧ ∀ s a, (s, a) ∈ ep → ∃ b, (s, b) ∈ q ∧ ∀ v, Rel (D x X) (fun _ => none) b v → Rel (D y X) (fun _ => none) a v) ∨
     (ex ≠ .normal ∧ ex = l.ex ∧ ∃ q : List (Nat × AV), bC0 E1 q = true ∧ ∀ s a, (s, a) ∈ l.post → ∃ b, (s, b) ∈ q ∧ ∀ v, Rel (D x X) (fun _ => none) b v → Rel C (fun _ => none) a v))
end
end Go.AX
end
section

namespace Go.AX
noncomputable def allN (p : Nat → Bool) (lo n : Nat) : Bool := Nat.rec (motive := fun _ => Bool) true (fun j ih => Bool.rec (motive := fun _ => Bool) false ih (p (Nat.add lo j))) n
theorem dQ9 {p : Nat → Bool} {lo : Nat} : ∀ {n : Nat}, allN p lo n = true → ∀ i, lo ≤ i → i < lo + n → p i = true
  | 0, _, i, h1, h2 => by omega
  | n + 1, h, i, h1, h2 => by
    have h : Bool.rec (motive := fun _ => Bool) false (allN p lo n) (p (Nat.add lo n)) = true := h
    cases hp : p (Nat.add lo n) with
    | false => rw [hp] at h; cases h
    | true =>
      rw [hp] at h
      have h : allN p lo n = true := h
      by_cases e : i = lo + n
      · subst e; exact hp
      · exact dQ9 h i h1 (by omega)
section
variable {C : Cx}
end
end Go.AX
end
section
namespace Go.AX
abbrev St' (l : List UInt8) : Value := .string ⟨l.toArray⟩
def bt (l : List UInt8) (i : Nat) : Int := ((l.getD i 0).toNat : Int)
theorem bI9 (l : List UInt8) (i : Nat) : 0 ≤ bt l i := by unfold bt; omega
theorem aX1 (l : List UInt8) (i : Nat) : bt l i ≤ 255 := by unfold bt; have := (l.getD i 0).toNat_lt; omega
def Is (C : Cx) (a : AV) (v : Value) : Prop := ∀ ρ x, Rel C ρ a x → x = v
def Den (C : Cx) (a : AV) (v : Value) : Prop := ∀ ρ, Rel C ρ a v
section
variable {C : Cx}
theorem isX {i : Nat} {v : Value} (h : C.nu i = v) : Is C (.x i) v := fun ρ x hx => by simp only [Rel] at hx; rw [hx, h]
theorem isI (k : IntKind) (n : Int) : Is C (.i k n) (.int k n) := fun ρ x hx => by simpa only [Rel] using hx
theorem isS (len n : Nat) : Is C (.s len n) (St' (strB len n)) := fun ρ x hx => by simp only [Rel] at hx; exact hx.1
theorem denX {i : Nat} {v : Value} (h : C.nu i = v) : Den C (.x i) v := fun ρ => by simp only [Rel]; exact h.symm
theorem denI (k : IntKind) (n : Int) : Den C (.i k n) (.int k n) := fun ρ => by simp only [Rel]
theorem denB (b : Bool) : Den C (.b b) (.bool b) := fun ρ => by simp only [Rel]
theorem fI64 {n : Int} (h1 : -9223372036854775808 ≤ n) (h2 : n ≤ 9223372036854775807) : fits .i64 n = true := by
  cases n with
  | ofNat a => exact Nat.ble_eq_true_of_le (by have : Int.ofNat a = (a : Int) := rfl; omega)
  | negSucc a => exact Nat.ble_eq_true_of_le (by omega)
theorem fU {k : IntKind} {n : Int} (h0 : 0 ≤ n) (hk : ∀ a : Nat, (a : Int) = n → fits k (.ofNat a) = true) : fits k n = true := by
  obtain ⟨a, rfl⟩ := Int.eq_ofNat_of_zero_le h0
  exact hk a rfl
theorem fU8 {n : Int} (h0 : 0 ≤ n) (h : n ≤ 255) : fits .u8 n = true := fU h0 fun a e => Nat.ble_eq_true_of_le (by omega)
theorem wrapU8 (n : Int) : IntKind.u8.wrap n = n % 256 := by
  simp only [IntKind.wrap, IntKind.bits, IntKind.signed, Bool.false_and, Bool.false_eq_true, if_false, Nat.reduceSub]
  omega
variable {x y r : AV} {k : IntKind} {a b c : Int}
theorem cZ1 {o : BinOp} {v : Value} (hx : Is C x (.int k a)) (hy : Is C y (.int k b)) (hr : Den C r v) (hrun : ∀ t w, (binOp o t (.int k a) (.int k b)).run C.P w = .ok v w) : HOk C (.bin o x y) r := by
  intro ρ vx vy h1 h2
  have e1 := hx ρ vx h1; have e2 := hy ρ vy h2; subst e1; subst e2
  exact ⟨.inl ⟨k, a, b, rfl, rfl⟩, v, hr ρ, hrun⟩
theorem kAdd (hx : Is C x (.int k a)) (hy : Is C y (.int k b)) (hr : Den C r (.int k c)) (hc : a + b = c) (hf : fits k c = true) : HOk C (.bin .add x y) r :=
  cZ1 hx hy hr fun t w => by subst hc; simp [binOp, Op.intArith, aI9 k _ hf]
theorem kSub (hx : Is C x (.int k a)) (hy : Is C y (.int k b)) (hr : Den C r (.int k c)) (hc : a - b = c) (hf : fits k c = true) : HOk C (.bin .sub x y) r :=
  cZ1 hx hy hr fun t w => by subst hc; simp [binOp, Op.intArith, aI9 k _ hf]
theorem kQuo (hx : Is C x (.int k a)) (hy : Is C y (.int k b)) (hr : Den C r (.int k c)) (h0 : 0 ≤ a) (hb : 0 < b) (hc : a / b = c) (hf : fits k c = true) : HOk C (.bin .quo x y) r :=
  cZ1 hx hy hr fun t w => by
    have e : a.tdiv b = c := by rw [Int.tdiv_eq_ediv_of_nonneg h0]; exact hc
    have hz : b ≠ 0 := by omega
    simp [binOp, Op.intDiv, hz, e, aI9 k _ hf]
theorem kRem (hx : Is C x (.int k a)) (hy : Is C y (.int k b)) (hr : Den C r (.int k c)) (h0 : 0 ≤ a) (hb : 0 < b) (hc : a % b = c) : HOk C (.bin .rem x y) r :=
  cZ1 hx hy hr fun t w => by
    have e : a.tmod b = c := by rw [Int.tmod_eq_emod_of_nonneg h0]; exact hc
    have hz : b ≠ 0 := by omega
    simp [binOp, Op.intDiv, hz, e]
theorem dJ2 {k : IntKind} {n : Nat} (h : fits k (n : Int) = true) : tn k (n : Int) = n := by
  show tn k (.ofNat n) = n
  unfold tn
  have h : fits k (.ofNat n) = true := h
  simp only [h, cond_true]
theorem kOr (m : Nat) (hx : Is C x (.int k a)) (hy : Is C y (.int k b)) (hr : Den C r (.int k c)) (h0 : 0 ≤ a) (h1 : 0 ≤ b) (hfa : fits k a = true) (hfb : fits k b = true) (ha : a % 2 ^ m = 0) (hb : b < 2 ^ m) (hc : a + b = c) (hf : fits k c = true) : HOk C (.bin .or x y) r := by
  obtain ⟨A, rfl⟩ := Int.eq_ofNat_of_zero_le h0
  obtain ⟨Bn, rfl⟩ := Int.eq_ofNat_of_zero_le h1
  have ha' : A % 2 ^ m = 0 := by
    have : ((A % 2 ^ m : Nat) : Int) = 0 := by rw [← ha]; simp
    omega
  have hb' : Bn < 2 ^ m := by
    have : ((Bn : Nat) : Int) < ((2 ^ m : Nat) : Int) := by simpa using hb
    omega
  have e : Nat.lor A Bn = A + Bn := by
    have hA : A = 2 ^ m * (A / 2 ^ m) := by have := Nat.div_add_mod A (2 ^ m); omega
    have h := Nat.two_pow_add_eq_or_of_lt hb' (A / 2 ^ m)
    rw [← hA] at h
    exact h.symm
  refine cZ1 hx hy hr fun t w => ?_
  obtain ⟨_, v, hv, hq⟩ := dA0 (C := C) (ρ := fun _ => none) (o := .or) (k := k) (a := A) (c := Bn) (S := ⟨.leaf, 0, 0, 0⟩) rfl ⟨by simp, by simp⟩
  have hv' : v = .int k c := by
    simp only [mkI, Rel] at hv
    rw [hv, dJ2 hfa, dJ2 hfb, e, aO9, ← hc]
    have hf' : fits k (Int.ofNat (A + Bn)) = true := by rw [← hc] at hf; exact hf
    rw [aI9 k _ hf']; rfl
  rw [← hv']; exact hq t w
theorem kShl {l : IntKind} (p : Nat) (hx : Is C x (.int k a)) (hy : Is C y (.int l b)) (hr : Den C r (.int k c)) (hb : b = (p : Int)) (hp : p ≤ k.bits) (hc : k.wrap (a * 2 ^ p) = c) : HOk C (.bin .shl x y) r := by
  intro ρ vx vy h1 h2
  have e1 := hx ρ vx h1; have e2 := hy ρ vy h2; subst e1; subst e2; subst hb; subst hc
  refine ⟨.inr (.inr ⟨.inl rfl, k, l, a, p, rfl, rfl⟩), _, hr ρ, fun t w => ?_⟩
  simp [binOp, Op.shift, Nat.min_eq_left hp]
  intro hneg; omega
theorem kShr {l : IntKind} (p : Nat) (hx : Is C x (.int k a)) (hy : Is C y (.int l b)) (hr : Den C r (.int k c)) (hb : b = (p : Int)) (hp : p ≤ k.bits) (h0 : 0 ≤ a) (hc : a / 2 ^ p = c) : HOk C (.bin .shr x y) r := by
  intro ρ vx vy h1 h2
  have e1 := hx ρ vx h1; have e2 := hy ρ vy h2; subst e1; subst e2; subst hb; subst hc
  refine ⟨.inr (.inr ⟨.inr rfl, k, l, a, p, rfl, rfl⟩), _, hr ρ, fun t w => ?_⟩
  have e : a.fdiv (2 ^ p) = a / 2 ^ p := Int.fdiv_eq_ediv_of_nonneg _ (Int.pow_nonneg (by omega))
  simp [binOp, Op.shift, Nat.min_eq_left hp, e]
  intro hneg; omega
theorem kCmp {o : BinOp} {q : Bool} (hx : Is C x (.int k a)) (hy : Is C y (.int k b)) (h : (o = .lss ∧ q = decide (a < b)) ∨ (o = .leq ∧ q = decide (a ≤ b)) ∨ (o = .gtr ∧ q = decide (b < a)) ∨ (o = .geq ∧ q = decide (b ≤ a)) ∨ (o = .eql ∧ q = decide (a = b)) ∨ (o = .neq ∧ q = !decide (a = b))) : HOk C (.bin o x y) (.b q) :=
  cZ1 hx hy (denB q) fun t w => by
    rcases h with ⟨rfl, rfl⟩ | ⟨rfl, rfl⟩ | ⟨rfl, rfl⟩ | ⟨rfl, rfl⟩ | ⟨rfl, rfl⟩ | ⟨rfl, rfl⟩ <;> simp [binOp, Op.intCmp] <;> rfl
theorem kLt {q : Bool} (hx : Is C x (.int k a)) (hy : Is C y (.int k b)) (h : decide (a < b) = q) : HOk C (.bin .lss x y) (.b q) := kCmp hx hy (.inl ⟨rfl, h.symm⟩)
theorem kLe {q : Bool} (hx : Is C x (.int k a)) (hy : Is C y (.int k b)) (h : decide (a ≤ b) = q) : HOk C (.bin .leq x y) (.b q) := kCmp hx hy (.inr (.inl ⟨rfl, h.symm⟩))
theorem kGt {q : Bool} (hx : Is C x (.int k a)) (hy : Is C y (.int k b)) (h : decide (b < a) = q) : HOk C (.bin .gtr x y) (.b q) := kCmp hx hy (.inr (.inr (.inl ⟨rfl, h.symm⟩)))
theorem kGe {q : Bool} (hx : Is C x (.int k a)) (hy : Is C y (.int k b)) (h : decide (b ≤ a) = q) : HOk C (.bin .geq x y) (.b q) := kCmp hx hy (.inr (.inr (.inr (.inl ⟨rfl, h.symm⟩))))
theorem kEqI {q : Bool} (hx : Is C x (.int k a)) (hy : Is C y (.int k b)) (h : decide (a = b) = q) : HOk C (.bin .eql x y) (.b q) := kCmp hx hy (.inr (.inr (.inr (.inr (.inl ⟨rfl, h.symm⟩)))))
theorem kNeI {q : Bool} (hx : Is C x (.int k a)) (hy : Is C y (.int k b)) (h : (!decide (a = b)) = q) : HOk C (.bin .neq x y) (.b q) := kCmp hx hy (.inr (.inr (.inr (.inr (.inr ⟨rfl, h.symm⟩)))))
theorem kNeg (hx : Is C x (.int k a)) (hr : Den C r (.int k c)) (hc : -a = c) (hf : fits k c = true) : HOk C (.un .neg x) r := by
  intro ρ vx h1
  have e1 := hx ρ vx h1; subst e1
  refine ⟨_, hr ρ, fun w => ?_⟩
  have e : 0 - a = c := by omega
  simp [Op.unary, Op.intArith, e, aI9 k _ hf]
theorem kConv {t : Nat} {q : IntKind} (hx : Is C x (.int k a)) (ht : C.P.underlying t = some (.int q)) (hr : Den C r (.int q c)) (hc : q.wrap a = c) : HOk C (.conv t x) r := by
  intro ρ vx h1
  have e1 := hx ρ vx h1; subst e1; subst hc
  refine ⟨.inl ⟨k, a, rfl⟩, _, hr ρ, fun src w hs => ?_⟩
  obtain ⟨d, hd⟩ := Option.isSome_iff_exists.1 hs
  simp only [convert, Sem.run_bind, run_underlying hd, run_underlying ht, Result.andThen_ok]
  simp [Conv.intToInt]
theorem kConvF {t : Nat} {q : IntKind} (hx : Is C x (.int k a)) (ht : C.P.underlying t = some (.int q)) (hr : Den C r (.int q a)) (hf : fits q a = true) : HOk C (.conv t x) r := kConv hx ht hr (aI9 q a hf)
theorem kMax (hx : Is C x (.int k a)) (hy : Is C y (.int k b)) (hr : Den C r (.int k c)) (hc : max a b = c) : HOk C (.mm true x y) r := by
  intro ρ vx vy h1 h2
  have e1 := hx ρ vx h1; have e2 := hy ρ vy h2; subst e1; subst e2; subst hc
  refine ⟨_, hr ρ, fun w => ?_⟩
  simp only [if_true]
  show Result.ok (Value.int k (if a < b then b else a)) w = _
  congr 2
  rw [Int.max_def]; split <;> split <;> omega
theorem kMin (hx : Is C x (.int k a)) (hy : Is C y (.int k b)) (hr : Den C r (.int k c)) (hc : min a b = c) : HOk C (.mm false x y) r := by
  intro ρ vx vy h1 h2
  have e1 := hx ρ vx h1; have e2 := hy ρ vy h2; subst e1; subst e2; subst hc
  refine ⟨_, hr ρ, fun w => ?_⟩
  simp only [Bool.false_eq_true, if_false]
  show Result.ok (Value.int k (if b < a then b else a)) w = _
  congr 2
  rw [Int.min_def]; split <;> split <;> omega
/- strings -/
variable {l m n : List UInt8}
theorem hStrs {o : BinOp} {v : Value} (hx : Is C x (St' l)) (hy : Is C y (St' m)) (hr : Den C r v) (hrun : ∀ t w, (binOp o t (St' l) (St' m)).run C.P w = .ok v w) : HOk C (.bin o x y) r := by
  intro ρ vx vy h1 h2
  have e1 := hx ρ vx h1; have e2 := hy ρ vy h2; subst e1; subst e2
  exact ⟨.inr (.inl ⟨_, _, rfl, rfl⟩), v, hr ρ, hrun⟩
theorem kCat (hx : Is C x (St' l)) (hy : Is C y (St' m)) (hr : Den C r (St' n)) (hc : l ++ m = n) (hsz : l.length + m.length ≤ 9223372036854775807) : HOk C (.bin .add x y) r :=
  hStrs hx hy hr fun t w => by
    subst hc
    have h1 : (⟨l.toArray⟩ : ByteArray).size = l.length := by simp [ByteArray.size]
    have h2 : (⟨m.toArray⟩ : ByteArray).size = m.length := by simp [ByteArray.size]
    have e : (⟨l.toArray⟩ : ByteArray) ++ ⟨m.toArray⟩ = ⟨(l ++ m).toArray⟩ := by
      apply ByteArray.ext
      simp
    simp only [binOp, Op.stringOp, h1, h2]
    rw [if_neg (by simp [IntKind.max, IntKind.signed, IntKind.bits]; omega)]
    simp [e]
theorem toL_eq (l : List UInt8) : (⟨l.toArray⟩ : ByteArray).toList = l := by rw [ByteArray.toList_eq]
theorem lb_eq (l m : List UInt8) : (l == m) = decide (l = m) := by rw [Bool.eq_iff_iff]; simp
theorem kEqS {q : Bool} (hx : Is C x (St' l)) (hy : Is C y (St' m)) (h : decide (l = m) = q) : HOk C (.bin .eql x y) (.b q) :=
  hStrs hx hy (denB q) fun t w => by
    subst h
    simp only [binOp, Op.stringOp, toL_eq]
    simp only [Sem.run_pure, lb_eq]
theorem kNeS {q : Bool} (hx : Is C x (St' l)) (hy : Is C y (St' m)) (h : (!decide (l = m)) = q) : HOk C (.bin .neq x y) (.b q) :=
  hStrs hx hy (denB q) fun t w => by
    subst h
    simp only [binOp, Op.stringOp, toL_eq]
    simp only [Sem.run_pure, lb_eq]
theorem kLen (hx : Is C x (St' l)) (hr : Den C r (.int .i64 (l.length : Int))) : HOk C (.len x) r := by
  intro ρ vx h1
  have e1 := hx ρ vx h1; subst e1
  exact ⟨_, hr ρ, _, rfl, by simp [ByteArray.size]⟩
theorem kIdx {i : Nat} (hx : Is C x (St' l)) (hy : Is C y (.int k b)) (hr : Den C r (.int .u8 (bt l i))) (hb : b = (i : Int)) (hi : i < l.length) : HOk C (.idx x y) r := by
  intro ρ vx vy h1 h2
  have e1 := hx ρ vx h1; have e2 := hy ρ vy h2; subst e1; subst e2; subst hb
  refine ⟨_, hr ρ, fun t w hu => ?_⟩
  have hsz : (⟨l.toArray⟩ : ByteArray).size = l.length := by simp [ByteArray.size]
  have hg : (⟨l.toArray⟩ : ByteArray).data[i]? = some (l.getD i 0) := by
    simp [List.getElem?_eq_getElem hi, List.getD_eq_getElem?_getD]
  have h0 : (0 : Int) ≤ i ∧ (i : Int) < l.length := by omega
  simp [Instr.index, asIntOf, run_underlying hu, hsz, h0, hi]
  unfold bt
  have e : (⟨l.toArray⟩ : ByteArray)[i]'(by simpa [ByteArray.size] using hi) = l.getD i 0 := by
    rw [ByteArray.getElem_eq_getElem_data]
    simp [List.getD_eq_getElem?_getD, List.getElem?_eq_getElem hi]
  simp [e]
theorem kSub' {lo hi : Option AV} {p q : Nat} (hx : Is C x (St' l)) (hlo : (lo = none ∧ p = 0) ∨ ∃ e k, lo = some e ∧ Is C e (.int k (p : Int))) (hhi : (hi = none ∧ q = l.length) ∨ ∃ e k, hi = some e ∧ Is C e (.int k (q : Int)))
    (h1 : p ≤ q) (h2 : q ≤ l.length) (hr : Den C r (St' n)) (hc : (l.drop p).take (q - p) = n) : HOk C (.sub x lo hi) r := by
  intro ρ vx h3
  have e1 := hx ρ vx h3; subst e1
  refine ⟨_, hr ρ, fun vl vh hl hh t w hu => ?_⟩
  have hsz : (⟨l.toArray⟩ : ByteArray).size = l.length := by simp [ByteArray.size]
  have bl : (vl = none ∧ p = 0) ∨ ∃ k, vl = some (.int k (p : Int)) := by
    rcases hlo with ⟨rfl, e⟩ | ⟨e, k, rfl, he⟩
    · exact .inl ⟨hl, e⟩
    · obtain ⟨y, rfl, hy⟩ := hl; exact .inr ⟨k, by rw [he ρ y hy]⟩
  have bh : (vh = none ∧ q = l.length) ∨ ∃ k, vh = some (.int k (q : Int)) := by
    rcases hhi with ⟨rfl, e⟩ | ⟨e, k, rfl, he⟩
    · exact .inl ⟨hh, e⟩
    · obtain ⟨y, rfl, hy⟩ := hh; exact .inr ⟨k, by rw [he ρ y hy]⟩
  have he : (⟨l.toArray⟩ : ByteArray).extract p q = ⟨n.toArray⟩ := by
    subst hc
    apply ByteArray.ext
    simp [ByteArray.data_extract, List.extract_eq_take_drop]
  simp [Instr.slice, run_underlying hu, hsz, aF7 bl bh h1 h2, he]
/- a row of bytes made a string -/
theorem kBytes {vs : List AV} (bs : List UInt8) (h : ∀ ρ xs, RelL C ρ vs xs → xs = bs.map fun b => .int .u8 (b.toNat : Int)) (hr : Den C r (St' bs)) : HOk C (.bytes vs) r := fun ρ xs hx => ⟨bs, _, h ρ xs hx, rfl, hr ρ⟩
theorem kEqTS {t : Nat} {q : Bool} (hx : Is C x (St' l)) (hy : Is C y (St' m)) (ht : C.P.underlying t = some .string) (h : decide (l = m) = q) : HOk C (.eq t x y) (.b q) := by
  refine ⟨q, rfl, fun ρ vx vy h1 h2 D w hD => ?_⟩
  have e1 := hx ρ vx h1; have e2 := hy ρ vy h2; subst e1; subst e2; subst h
  obtain ⟨d, rfl⟩ : ∃ d, D = d + 1 := ⟨D - 1, by omega⟩
  rw [run_equalIn_string w d t _ _ ht, toL_eq, toL_eq, lb_eq]
end
end Go.AX
end
section
namespace Go.AX
def u8 (n : Int) : UInt8 := UInt8.ofNat n.toNat
theorem bB7 {n : Int} (h0 : 0 ≤ n) (h : n ≤ 255) : ((u8 n).toNat : Int) = n := by
  unfold u8
  rw [UInt8.toNat_ofNat']
  have : n.toNat % 2 ^ 8 = n.toNat := Nat.mod_eq_of_lt (by omega)
  omega
section
variable {C : Cx} {x y r : AV} {k : IntKind} {a b c : Int} {l m n : List UInt8}
theorem kAndG (m : Nat) (M : Int) (hM : (2 : Int) ^ m = M) (hm : m ≤ k.bits) (hx : Is C x (.int k a)) (hy : Is C y (.int k b)) (hr : Den C r (.int k c)) (hfb : fits k b = true) (hb : b = M - 1) (hc : a % M = c) (hf : fits k c = true) : HOk C (.bin .and x y) r := by
  subst hM
  have h1 : (1 : Nat) ≤ 2 ^ m := Nat.one_le_two_pow
  have hp : ((2 ^ m : Nat) : Int) = 2 ^ m := by simp
  obtain ⟨Bn, hB⟩ := Int.eq_ofNat_of_zero_le (show (0 : Int) ≤ b by omega)
  subst hB
  have hbn : Bn = 2 ^ m - 1 := by omega
  have e : ∀ A : Nat, Nat.land A Bn = A % 2 ^ m := fun A => by rw [hbn]; exact Nat.and_two_pow_sub_one_eq_mod A m
  have hd : (2 : Int) ^ m ∣ 2 ^ k.bits := ⟨2 ^ (k.bits - m), by rw [← Int.pow_add]; congr 1; omega⟩
  have hpos : (0 : Int) < 2 ^ k.bits := Int.pow_pos (by omega)
  have ht : ((tn k a % 2 ^ m : Nat) : Int) = a % 2 ^ m := by
    rw [tn_eq]
    have h0 : 0 ≤ a % 2 ^ k.bits := Int.emod_nonneg _ (by omega)
    rw [Int.natCast_emod, Int.toNat_of_nonneg h0, hp, Int.emod_emod_of_dvd _ hd]
  refine cZ1 hx hy hr fun t w => ?_
  obtain ⟨_, v, hv, hq⟩ := dA0 (C := C) (ρ := fun _ => none) (o := .and) (k := k) (a := a) (c := Bn) (S := ⟨.leaf, 0, 0, 0⟩) rfl ⟨by simp, by simp⟩
  have hv' : v = .int k c := by
    simp only [mkI, Rel] at hv
    have hcc : Int.ofNat (tn k a % 2 ^ m) = c := by rw [← hc]; exact ht
    rw [hv, dJ2 hfb, e, aO9, hcc, aI9 k c hf]
  rw [← hv']; exact hq t w
theorem kOrM (m : Nat) (M : Int) (hM : (2 : Int) ^ m = M) (hx : Is C x (.int k a)) (hy : Is C y (.int k b)) (hr : Den C r (.int k c)) (h0 : 0 ≤ a) (h1 : 0 ≤ b) (hfa : fits k a = true) (hfb : fits k b = true) (ha : a % M = 0) (hb : b < M) (hc : a + b = c) (hf : fits k c = true) : HOk C (.bin .or x y) r :=
  kOr m hx hy hr h0 h1 hfa hfb (by rw [hM]; exact ha) (by rw [hM]; exact hb) hc hf
theorem kShlM {l : IntKind} (p : Nat) (M : Int) (hM : (2 : Int) ^ p = M) (hx : Is C x (.int k a)) (hy : Is C y (.int l b)) (hr : Den C r (.int k c)) (hb : b = (p : Int)) (hp : p ≤ k.bits) (hc : a * M = c) (hf : fits k c = true) : HOk C (.bin .shl x y) r :=
  kShl p hx hy hr hb hp (by rw [hM, hc]; exact aI9 k c hf)
theorem kShrM {l : IntKind} (p : Nat) (M : Int) (hM : (2 : Int) ^ p = M) (hx : Is C x (.int k a)) (hy : Is C y (.int l b)) (hr : Den C r (.int k c)) (hb : b = (p : Int)) (hp : p ≤ k.bits) (h0 : 0 ≤ a) (hc : a / M = c) : HOk C (.bin .shr x y) r :=
  kShr p hx hy hr hb hp h0 (by rw [hM]; exact hc)
theorem bY0 {t : Nat} (hx : Is C x (.int k a)) (ht : C.P.underlying t = some (.int .u8)) (hr : Den C r (.int .u8 c)) (hc : a % 256 = c) : HOk C (.conv t x) r := kConv hx ht hr (by rw [wrapU8]; exact hc)
theorem kLenE (hx : Is C x (St' l)) (hr : Den C r (.int .i64 c)) (hc : (l.length : Int) = c) : HOk C (.len x) r := by subst hc; exact kLen hx hr
theorem kIdxE {i : Nat} (hx : Is C x (St' l)) (hy : Is C y (.int k b)) (hr : Den C r (.int .u8 c)) (hb : b = (i : Int)) (hi : i < l.length) (hc : bt l i = c) : HOk C (.idx x y) r := by subst hc; exact kIdx hx hy hr hb hi
theorem isB8 (h : Is C x (.int .u8 a)) (h0 : 0 ≤ a) (h1 : a ≤ 255) : Is C x (.int .u8 ((u8 a).toNat : Int)) := by rw [bB7 h0 h1]; exact h
inductive BY (C : Cx) : List AV → List UInt8 → Prop
  | nil : BY C [] []
  | cons {a : AV} {b : UInt8} {vs : List AV} {bs : List UInt8} : Is C a (.int .u8 (b.toNat : Int)) → BY C vs bs → BY C (a :: vs) (b :: bs)
theorem BY.rel {vs : List AV} {bs : List UInt8} (h : BY C vs bs) : ∀ ρ xs, RelL C ρ vs xs → xs = bs.map fun b => .int .u8 (b.toNat : Int) := by
  induction h with
  | nil => intro ρ xs hx; simp only [RelL] at hx; rw [hx]; rfl
  | cons h1 _ ih =>
    intro ρ xs hx
    simp only [RelL] at hx
    obtain ⟨v, vt, rfl, g1, g2⟩ := hx
    rw [h1 ρ v g1, ih ρ vt g2]; rfl
theorem bA7 {vs : List AV} {bs : List UInt8} (h : BY C vs bs) (hr : Den C r (St' bs)) : HOk C (.bytes vs) r := kBytes bs h.rel hr
theorem neF {a b : Int} (h : a = b) : (!decide (a = b)) = false := by simp [h]
theorem bnT {b : Bool} (h : b = false) : (!b) = true := by rw [h]; rfl
theorem bnF {b : Bool} (h : b = true) : (!b) = false := by rw [h]; rfl
theorem isZ {k : IntKind} {n m : Int} (h : n = m) : Is C (.i k n) (.int k m) := h ▸ isI k n
theorem denZ {k : IntKind} {n m : Int} (h : n = m) : Den C (.i k n) (.int k m) := h ▸ denI k n
theorem isSx (len n : Nat) {l : List UInt8} (h : strB len n = l) : Is C (.s len n) (St' l) := h ▸ isS len n
theorem nilT {l : List UInt8} (h : (l.length : Int) = 0) : decide (l = []) = true := decide_eq_true (List.eq_nil_of_length_eq_zero (by omega))
theorem nilF {l : List UInt8} (h : ¬ (l.length : Int) = 0) : decide (l = []) = false := decide_eq_false fun e => h (by rw [e]; rfl)
def okB (o : Option (AV × St)) : Bool := match o with
  | some (.b true, _) => true
  | _ => false
theorem dL5 {o : Option (AV × St)} (h : okB o = true) : ∃ S, o = some (.b true, S) := by
  unfold okB at h
  split at h
  · exact ⟨_, rfl⟩
  · cases h
def okS (o : Option (AV × St)) (len n : Nat) : Bool := match o with
  | some (.s k m, _) => Nat.beq k len && Nat.beq m n
  | _ => false
theorem okS_inv {o : Option (AV × St)} {len n : Nat} (h : okS o len n = true) : ∃ S, o = some (.s len n, S) := by
  unfold okS at h
  split at h
  · rw [Bool.and_eq_true] at h
    have h1 := Nat.eq_of_beq_eq_true h.1
    have h2 := Nat.eq_of_beq_eq_true h.2
    subst h1; subst h2
    exact ⟨_, rfl⟩
  · cases h
theorem hcons {h : List (HK × AV)} {k : HK} {r : AV} (h1 : HOk C k r) (h2 : ∀ k r, (k, r) ∈ h → HOk C k r) : ∀ k' r', (k', r') ∈ (k, r) :: h → HOk C k' r' := fun k' r' hm => by
  rcases List.mem_cons.1 hm with e | e
  · injection e with e1 e2; subst e1; subst e2; exact h1
  · exact h2 k' r' e
theorem hnil : ∀ k r, (k, r) ∈ ([] : List (HK × AV)) → HOk C k r := fun k r h => by cases h
end
theorem intOf2 {k : IntKind} {a lo hi : Int} (h : (Lit.int k a).wf = true) (h0 : IntKind.min k = lo) (hM : IntKind.max k = hi) : lo ≤ a ∧ a ≤ hi := by
  have h1 : IntKind.min k ≤ a ∧ a ≤ IntKind.max k := by simpa [Lit.wf] using h
  rw [h0, hM] at h1; exact h1
def nuL (l : List Value) (i : Nat) : Value := l.getD i (.bool true)
theorem aA9 {l : List Value} (h : l.all (fun v => v.oneCell') = true) : ∀ i, (nuL l i).oneCell' = true := fun i => by
  unfold nuL
  rw [List.getD_eq_getElem?_getD]
  cases hl : l[i]? with
  | none => rfl
  | some v => exact List.all_eq_true.1 h v (List.mem_of_getElem? hl)
end Go.AX
end
section
namespace Go.AX
section
variable {C : Cx} {x y z r : AV} {k : IntKind} {a b c d : Int} {l m n : List UInt8}
theorem kByt {i : Nat} (hx : Is C x (St' l)) (hy : Is C y (.int k b)) (hr : Den C r (.int .u8 c)) (hb : b = (i : Int)) (hi : i < l.length) (hc : bt l i = c) : HOk C (.byt x y) r := by
  intro ρ vx vi h1 h2
  have e1 := hx ρ vx h1; have e2 := hy ρ vi h2; subst e1; subst e2; subst hb; subst hc
  refine ⟨l, k, i, l[i], rfl, rfl, List.getElem?_eq_getElem hi, ?_⟩
  have e : l.getD i 0 = l[i] := by simp [List.getD_eq_getElem?_getD, List.getElem?_eq_getElem hi]
  have := hr ρ
  unfold bt at this
  rw [e] at this
  exact this
theorem kFit (hx : Is C x (St' l)) (h : (l.length : Int) ≤ 140737488355328) : HOk C (.fit x) r := by
  intro ρ vx g1
  have e1 := hx ρ vx g1; subst e1
  exact ⟨l, rfl, by omega⟩
theorem kZer (hx : Is C x (.int k a)) (h0 : 0 ≤ a) (h1 : a ≤ 140737488355328) (hr : Den C r (St' (List.replicate a.toNat 0))) : HOk C (.zer x) r := by
  intro ρ vx g1
  have e1 := hx ρ vx g1; subst e1
  exact ⟨k, a.toNat, by congr 1; show a = ((a.toNat : Nat) : Int); omega, by omega, hr ρ⟩
theorem kMid {lo hi : Option AV} {P Q : Int} (hx : Is C x (St' l)) (hlo : (lo = none ∧ P = 0) ∨ ∃ e k, lo = some e ∧ Is C e (.int k P)) (hhi : (hi = none ∧ Q = (l.length : Int)) ∨ ∃ e k, hi = some e ∧ Is C e (.int k Q))
    (h0 : 0 ≤ P) (h1 : P ≤ Q) (h2 : Q ≤ (l.length : Int)) (hr : Den C r (St' ((l.drop P.toNat).take (Q - P).toNat))) : HOk C (.sub x lo hi) r := by
  have hp : P = (P.toNat : Int) := by omega
  have hq : Q = (Q.toNat : Int) := by omega
  refine kSub' (p := P.toNat) (q := Q.toNat) hx ?_ ?_ (by omega) (by omega) hr (by congr 1; omega)
  · rcases hlo with ⟨g1, g2⟩ | ⟨e, k, g1, g2⟩
    · exact .inl ⟨g1, by omega⟩
    · exact .inr ⟨e, k, g1, by rw [← hp]; exact g2⟩
  · rcases hhi with ⟨g1, g2⟩ | ⟨e, k, g1, g2⟩
    · exact .inl ⟨g1, by omega⟩
    · exact .inr ⟨e, k, g1, by rw [← hq]; exact g2⟩
end
end Go.AX
end
section
namespace Go.AX
section
variable {C : Cx} {x y r : AV} {l : List UInt8} {a c m n : Int}
end
end Go.AX
end
section
namespace Go.AX
section
variable {C : Cx} {x y r : AV} {l : List UInt8}
end
abbrev i6 (n : Nat) : AV := .i .i64 (.ofNat n)
abbrev u1 (n : Nat) : AV := .i .u8 (.ofNat n)
end Go.AX
end
section
namespace Go.AX
def okA (o : Option (AV × St)) (a : AV) : Bool := match o with
  | some (b, _) => aW8 8 b a
  | _ => false
theorem okA_inv {o : Option (AV × St)} {a : AV} (h : okA o a = true) : ∃ S, o = some (a, S) := by
  unfold okA at h
  split at h
  · rename_i b S
    exact ⟨S, by rw [aI1 8 b a h]⟩
  · cases h
section
variable {C : Cx}
theorem denT3 {a b c : AV} {u v z : Value} (h1 : Den C a u) (h2 : Den C b v) (h3 : Den C c z) : Den C (.tu [a, b, c]) (.tuple #[u, v, z]) := fun ρ => by
  simp only [Rel, RelL]
  exact ⟨[u, v, z], rfl, u, [v, z], rfl, h1 ρ, v, [z], rfl, h2 ρ, z, [], rfl, h3 ρ, rfl⟩
end
end Go.AX
namespace Go.AX
end Go.AX
namespace Go.AX
end Go.AX
namespace Go.AX
section
variable {C : Cx} {x r : AV}
end
end Go.AX
namespace Go.AX
section
variable {C : Cx} {x y r : AV} {l p q : List UInt8} {k : IntKind} {b c : Int}
end
end Go.AX
namespace Go.AX
section
variable {C : Cx} {x y : AV} {l p q : List UInt8} {k : IntKind} {b : Int}
end
theorem hc {C : Cx} {k : HK} {r : AV} {l : List (HK × AV)} (h : HOk C k r) (ht : ∀ k r, (k, r) ∈ l → HOk C k r) : ∀ k' r', (k', r') ∈ (k, r) :: l → HOk C k' r' := hcons h ht
end Go.AX
end
section
namespace Go.AX
noncomputable section
def aL2 (tb : Tab) (g : Nat) (fi : FI) (L : List LF) : Tab := { tb with fn := tb.fn.set g { fi with lps := L } }
theorem aF3.lps {C : Cx} {tb : Tab} (h : aF3 C tb) {g : Nat} {fi : FI} {L : List LF} (hg : g ≤ 16777213) (hfi : tb.fn.get g = some fi) (hL : ∀ c, fi.body = some c → LpOk C L c) (hcf : ∀ l, l ∈ L → isCf l = true → CfOk C g l) : aF3 C (aL2 tb g fi L) where
  tab := ⟨⟨h.tab.ty⟩, ⟨h.tab.hyp⟩, h.tab.imp, h.tab.ngl⟩
  met := h.met
  mix := h.mix
  fn := fun g' fi' h' => by
    have h'' : (tb.fn.set g { fi with lps := L }).get g' = some fi' := h'
    rw [aE9 _ _ _ _ hg] at h''
    split at h''
    · rename_i e; subst e
      injection h'' with h''; subst h''
      obtain ⟨fn, hfn⟩ := h.fn _ _ hfi
      exact ⟨fn, hfn.at_, hfn.name, hfn.body, hfn.nt, hfn.res, hfn.reg, hfn.sum, hL, hcf, hfn.ext⟩
    · obtain ⟨fn, hfn⟩ := h.fn _ _ h''
      exact ⟨fn, hfn.at_, hfn.name, hfn.body, hfn.nt, hfn.res, hfn.reg, hfn.sum, hfn.lps, hfn.cfs, hfn.ext⟩
def aE7 : Code → List Code
  | .seq a b => aE7 a ++ aE7 b
  | .cond _ a b => aE7 a ++ aE7 b
  | .block _ b => aE7 b
  | .loop b => b :: aE7 b
  | _ => []
def aZ8 : Code → List (List Nat × Code × Code)
  | .rangeFunc _ ps a b => [(ps.toList, a, b)]
  | .seq a b => aZ8 a ++ aZ8 b
  | .cond _ a b => aZ8 a ++ aZ8 b
  | .block _ b => aZ8 b
  | .loop b => aZ8 b
  | _ => []
theorem aM0 : ∀ c : Code, aP4 c = (aZ8 c)[0]?
  | .seq a b => by
    unfold aP4 aZ8
    rw [aM0 a, aM0 b]
    cases h : aZ8 a <;> simp
  | .cond _ a b => by
    unfold aP4 aZ8
    rw [aM0 a, aM0 b]
    cases h : aZ8 a <;> simp
  | .block _ b => by unfold aP4 aZ8; exact aM0 b
  | .loop b => by unfold aP4 aZ8; exact aM0 b
  | .rangeFunc .. => rfl
  | .skip => rfl
  | .region .. => rfl
  | .exit _ => rfl
  | .scope _ => rfl
  | .label _ => rfl
  | .goto _ => rfl
  | .ret => rfl
  | .refuse _ => rfl
theorem bA1 {C : Cx} {L : List LF} : ∀ c : Code, (∀ b, b ∈ aE7 c → ∀ l, l ∈ L → keyOf b = some l.key → LfOk C b l) → (∀ r, r ∈ aZ8 c → ∀ l, l ∈ L → isMk l = true → rfP C.P l.nt = some r) → LpOk C L c
  | .seq a b, h, g => ⟨bA1 a (fun x hx => h x (List.mem_append_left _ hx)) fun x hx => g x (List.mem_append_left _ hx), bA1 b (fun x hx => h x (List.mem_append_right _ hx)) fun x hx => g x (List.mem_append_right _ hx)⟩
  | .cond _ a b, h, g => ⟨bA1 a (fun x hx => h x (List.mem_append_left _ hx)) fun x hx => g x (List.mem_append_left _ hx), bA1 b (fun x hx => h x (List.mem_append_right _ hx)) fun x hx => g x (List.mem_append_right _ hx)⟩
  | .block _ b, h, g => bA1 b h g
  | .loop b, h, g => ⟨fun l hl hk => h b (List.mem_cons_self ..) l hl hk, bA1 b (fun x hx => h x (List.mem_cons_of_mem _ hx)) g⟩
  | .skip, _, _ => trivial
  | .region .., _, _ => trivial
  | .rangeFunc .., _, g => fun l hl hm => g _ (List.mem_singleton.2 rfl) l hl hm
  | .exit _, _, _ => trivial
  | .scope _, _, _ => trivial
  | .label _, _, _ => trivial
  | .goto _, _, _ => trivial
  | .ret, _, _ => trivial
  | .refuse _, _, _ => trivial
end
end Go.AX
end
section
namespace Go.AX
noncomputable section
def nuX (l : List Value) (X : Nat → Value) (i : Nat) : Value := cond (Nat.blt i 1000000) (nuL l i) (X (i - 1000000))
theorem aB3 {l : List Value} {X : Nat → Value} (h : ∀ j, (nuL l j).oneCell' = true) : ∀ i, i < 1000000 → (nuX l X i).oneCell' = true := fun i hi => by
  have : Nat.blt i 1000000 = true := by simpa [Nat.blt_eq] using hi
  unfold nuX; rw [this]; exact h i
theorem aN1 {l : List Value} {X : Nat → Value} {t : Nat} : nuX l X (1000000 + t) = X t := by
  have h : Nat.blt (1000000 + t) 1000000 = false := by
    rw [Bool.eq_false_iff]; intro h; rw [Nat.blt_eq] at h; omega
  unfold nuX; rw [h, cond_false, Nat.add_sub_cancel_left]
def exB : Ex → Ex → Bool
  | .normal, .normal => true
  | .exit a, .exit b => Nat.beq a b
  | .goto a, .goto b => Nat.beq a b
  | .ret, .ret => true
  | _, _ => false
theorem dO8 {a b : Ex} (h : exB a b = true) : a = b := by
  cases a <;> cases b <;> simp only [exB] at h <;> first | rfl | (cases h; done) | skip
  · rw [Nat.eq_of_beq_eq_true h]
  · rw [Nat.eq_of_beq_eq_true h]
def okRd (o : Option ((Ex × Env) × St)) (ex : Ex) (q : List (Nat × AV)) (keep : List Nat) (nt : Nat) : Bool := match o with
  | some (p, _) => exB p.1 ex && aR2 p.2 keep && Nat.beq p.2.nt nt && bC0 p.2 q
  | none => false
theorem dD0 {o : Option ((Ex × Env) × St)} {ex : Ex} {q : List (Nat × AV)} {keep : List Nat} {nt : Nat} (h : okRd o ex q keep nt = true) : ∃ E S, o = some ((ex, E), S) ∧ aR2 E keep = true ∧ E.nt = nt ∧ bC0 E q = true := by
  cases o with
  | none => cases h
  | some p =>
    obtain ⟨⟨e, E⟩, S⟩ := p
    simp only [okRd, Bool.and_eq_true] at h
    obtain ⟨⟨⟨h1, h2⟩, h3⟩, h4⟩ := h
    exact ⟨E, S, by rw [dO8 h1], h2, Nat.eq_of_beq_eq_true h3, h4⟩
section
variable {C : Cx} {body : Code} {l : LF} {ep : List (Nat × AV)} {α : Type} {I : α → Prop} {μ : α → Nat} {D : α → (Nat → Value) → Cx} {x : α} {X : Nat → Value}
theorem Round.next {tb : Tab} {L : List LF} {f : Nat} {q : List (Nat × AV)} (y : α) (hall : aF3 (D x X) tb) (hlp : LpOk (D x X) L body) (hrun : okRd (code tb f L body (aM6 (aH9 ep l.keep) l.nt) ⟨.leaf, tb.ng, 0, 0⟩) .normal q l.keep l.nt = true)
    (hy : I y) (hlt : μ y < μ x) (hm : ∀ s a, (s, a) ∈ ep → ∃ b, (s, b) ∈ q ∧ ∀ v, Rel (D x X) (fun _ => none) b v → Rel (D y X) (fun _ => none) a v) : Round C body l ep I μ D x X := by
  obtain ⟨E, S, h1, h2, h3, h4⟩ := dD0 hrun
  exact ⟨tb, L, f, .normal, E, S, hall, hlp, h1, h2, h3, .inl ⟨rfl, y, q, hy, hlt, h4, hm⟩⟩
theorem Round.leave {tb : Tab} {L : List LF} {f : Nat} {q : List (Nat × AV)} (hall : aF3 (D x X) tb) (hlp : LpOk (D x X) L body) (hrun : okRd (code tb f L body (aM6 (aH9 ep l.keep) l.nt) ⟨.leaf, tb.ng, 0, 0⟩) l.ex q l.keep l.nt = true)
    (hne : l.ex ≠ .normal) (hm : ∀ s a, (s, a) ∈ l.post → ∃ b, (s, b) ∈ q ∧ ∀ v, Rel (D x X) (fun _ => none) b v → Rel C (fun _ => none) a v) : Round C body l ep I μ D x X := by
  obtain ⟨E, S, h1, h2, h3, h4⟩ := dD0 hrun
  exact ⟨tb, L, f, l.ex, E, S, hall, hlp, h1, h2, h3, .inr ⟨hne, rfl, q, h4, hm⟩⟩
end
def aS8 : List Code → Nat → Nat → Nat → Bool
  | [], _, _, _ => true
  | b :: r, k, j, i => (match keyOf b with | some k' => cond (Nat.beq k' k) (Nat.beq i j) true | none => true) && aS8 r k j (Nat.succ i)
theorem bX0 {k j : Nat} : ∀ (l : List Code) (i : Nat), aS8 l k j i = true → ∀ b, b ∈ l → keyOf b = some k → i ≤ j ∧ l[j - i]? = some b
  | [], _, _, b, hb, _ => by cases hb
  | c :: r, i, h, b, hb, hk => by
    simp only [aS8, Bool.and_eq_true] at h
    rcases List.mem_cons.1 hb with e | hb
    · subst e
      have h1 := h.1
      rw [hk] at h1
      simp only [Nat.beq_refl, cond_true] at h1
      have := Nat.eq_of_beq_eq_true h1
      subst this
      exact ⟨Nat.le_refl _, by simp⟩
    · obtain ⟨h1, h2⟩ := bX0 r (i + 1) h.2 b hb hk
      refine ⟨by omega, ?_⟩
      rw [show j - i = (j - (i + 1)) + 1 by omega]
      simpa using h2
def aX8 (c : Code) (j : Nat) : Code := ((aE7 c)[j]?).getD .skip
def cN0 (C : Cx) (c : Code) (l : LF) : Prop := ((isMk l || isCf l) = false ∧ ∃ j, aS8 (aE7 c) l.key j 0 = true ∧ LfOk C (aX8 c j) l) ∨ (isCf l = false ∧ (aE7 c).all (fun b => !(bQ6 (keyOf b) l.key)) = true ∧ Nat.beq (aZ8 c).length 1 = true ∧ ∃ fn, C.P.funcs[l.nt]? = some fn ∧ fn.body = some c)
def dH8 (C : Cx) (g : Nat) (c : Code) (l : LF) : Prop := cN0 C c l ∨ ((isMk l = false ∧ isCf l = true) ∧ (aE7 c).all (fun b => !(bQ6 (keyOf b) l.key)) = true ∧ CfOk C g l)
theorem dE1 {C : Cx} {g : Nat} {c : Code} {L : List LF} (h : ∀ l, l ∈ L → dH8 C g c l) : LpOk C L c :=
  bA1 c (fun b hb l hl hk => by
    rcases h l hl with (⟨_, j, h1, h2⟩ | ⟨_, h1, _⟩) | ⟨_, h1, _⟩
    rotate_left
    · rw [List.all_eq_true] at h1
      have := h1 b hb
      rw [hk] at this
      have e : bQ6 (some l.key) l.key = true := Nat.beq_refl _
      rw [e] at this
      cases this
    · rw [List.all_eq_true] at h1
      have := h1 b hb
      rw [hk] at this
      have e : bQ6 (some l.key) l.key = true := Nat.beq_refl _
      rw [e] at this
      cases this
    obtain ⟨_, h3⟩ := bX0 _ _ h1 b hb hk
    simp only [Nat.sub_zero] at h3
    have : aX8 c j = b := by unfold aX8; rw [h3]; rfl
    rw [this] at h2; exact h2) fun r hr l hl hm => by
    rcases h l hl with (⟨h1, _⟩ | ⟨_, _, h3, fn, h4, h5⟩) | ⟨h1, _⟩
    rotate_right
    · rw [hm] at h1; cases h1.1
    · rw [hm] at h1; cases h1
    · unfold rfP
      rw [h4]
      simp only [h5]
      rw [aM0]
      have hn := Nat.eq_of_beq_eq_true h3
      obtain ⟨x, hx⟩ := List.length_eq_one_iff.1 hn
      rw [hx] at hr ⊢
      rw [List.mem_singleton.1 hr]; rfl
theorem lpOk_one {C : Cx} {c : Code} {L : List LF} (h : ∀ l, l ∈ L → cN0 C c l) : LpOk C L c := dE1 (g := 0) fun l hl => .inl (h l hl)
theorem aO8 {C : Cx} {c : Code} {l : LF} (hm : (isMk l || isCf l) = false) (h : ∃ j, aS8 (aE7 c) l.key j 0 = true ∧ LfOk C (aX8 c j) l) : cN0 C c l := .inl ⟨hm, h⟩
theorem bQ1 {P : LF → Prop} : ∀ l, l ∈ ([] : List LF) → P l := fun l h => by cases h
theorem aN4 {P : LF → Prop} {a : LF} {r : List LF} (h : P a) (ht : ∀ l, l ∈ r → P l) : ∀ l, l ∈ a :: r → P l := fun l hl => by
  rcases List.mem_cons.1 hl with e | hl
  · subst e; exact h
  · exact ht l hl
theorem aF3.lp1 {C : Cx} {tb : Tab} (h : aF3 C tb) {g : Nat} {fi : FI} {L : List LF} {c : Code} (hg : g ≤ 16777213) (hfi : tb.fn.get g = some fi) (hc : fi.body = some c) (hL : ∀ l, l ∈ L → cN0 C c l) : aF3 C (aL2 tb g fi L) :=
  h.lps hg hfi (fun c' hc' => by rw [hc] at hc'; injection hc' with hc'; subst hc'; exact lpOk_one hL) fun l hl hcf => by
    rcases hL l hl with ⟨h1, _⟩ | ⟨h1, _⟩
    · rw [hcf, Bool.or_true] at h1; cases h1
    · rw [hcf] at h1; cases h1
theorem aF3.lp2 {C : Cx} {tb : Tab} (h : aF3 C tb) {g : Nat} {fi : FI} {L : List LF} {c : Code} (hg : g ≤ 16777213) (hfi : tb.fn.get g = some fi) (hc : fi.body = some c) (hL : ∀ l, l ∈ L → dH8 C g c l) : aF3 C (aL2 tb g fi L) :=
  h.lps hg hfi (fun c' hc' => by rw [hc] at hc'; injection hc' with hc'; subst hc'; exact dE1 hL) fun l hl hcf => by
    rcases hL l hl with (⟨h1, _⟩ | ⟨h1, _⟩) | ⟨_, _, h1⟩
    · rw [hcf, Bool.or_true] at h1; cases h1
    · rw [hcf] at h1; cases h1
    · exact h1
theorem bF5 {tb : Tab} {g : Nat} {fi : FI} {L : List LF} (hg : g ≤ 16777213) : (aL2 tb g fi L).fn.get g = some { fi with lps := L } := by
  show (tb.fn.set g { fi with lps := L }).get g = _
  rw [aE9 _ _ _ _ hg, if_pos rfl]
theorem aG9 {tb : Tab} {g f : Nat} {fi fj : FI} {L : List LF} (hg : g ≤ 16777213) (hne : f ≠ g) (h : tb.fn.get f = some fj) : (aL2 tb g fi L).fn.get f = some fj := by
  show (tb.fn.set g { fi with lps := L }).get f = _
  rw [aE9 _ _ _ _ hg, if_neg hne]; exact h
end
end Go.AX
end
section
namespace Go.AX
noncomputable section
/- what a run leaves, seen as a pattern: blocks renamed, symbols told -/
def sgAt : List (Nat × Nat) → Nat → Nat
  | [], v => v
  | p :: r, v => cond (Nat.beq p.1 v) p.2 (sgAt r v)
def thAt : List (Nat × AV) → Nat → Option AV
  | [], _ => none
  | p :: r, i => cond (Nat.beq p.1 i) (some p.2) (thAt r i)
def sgB (n0 nh : Nat) (sg : List (Nat × Nat)) (v w : Nat) : Bool := cond (Nat.blt v n0) (Nat.beq v w) (Nat.blt v nh && Nat.beq (sgAt sg v) w)
def numB (n0 : Nat) (sg : List (Nat × Nat)) (v : Nat) : Nat := cond (Nat.blt v n0) v (sgAt sg v)
def inA (th : List (Nat × AV)) (q : Nat → Nat → Bool) : Nat → AV → AV → Bool
  | 0, _, _ => false
  | d + 1, a, b => match a, b with
    | .und, _ => true
    | .x i, b => (match thAt th i with | some c => aW8 8 c b && noR 8 b | none => false)
    | .p v o, .p w u => q v w && Nat.beq o u
    | .sl v o n c r, .sl w u m e s => q v w && Nat.beq o u && Nat.beq n m && Nat.beq c e && (r == s)
    | .sy v, .sy w => q v w
    | .mp v, .mp w => q v w
    | .yl v, .yl w => q v w
    | .sr v, .sr w => q v w
    | .pr v i z o, .pr w j t u => q v w && (inA th q d i j && (Nat.beq z t && Nat.beq o u))
    | .fn f a c, .fn g b e => Nat.beq f g && allS (inA th q d) a b && allS (inA th q d) c e
    | .ag l, .ag m => allS (inA th q d) l m
    | .tu l, .tu m => allS (inA th q d) l m
    | .ifc t x, .ifc u y => Nat.beq t u && inA th q d x y
    | .nils, .nils => true
    | .ni, .ni => true
    | .nilp, .nilp => true
    | .nilf, .nilf => true
    | .nilm, .nilm => true
    | .es, .es => true
    | .es, .nils => true
    | .h a, .h b => Nat.beq a b
    | .i k n, .i l m => kEq k l && ieq n m
    | .b x, .b y => x == y
    | .s k n, .s l m => Nat.beq k l && Nat.beq n m
    | _, _ => false
def inCe (th : List (Nat × AV)) (q : Nat → Nat → Bool) : Cells → Cells → Bool
  | .y k n, .y l m => Nat.beq k l && Nat.beq n m
  | .l a, c => allS (inA th q 8) a c.toL
  | _, _ => false
def inTm (th : List (Nat × AV)) (q : Nat → Nat → Bool) (b : T AV) : List (Nat × AV) → Bool
  | [] => true
  | p :: r => (Nat.ble p.1 16777213 && (match b.get p.1 with | some y => inA th q 8 p.2 y | none => false)) && inTm th q b r
theorem cE3 {th : List (Nat × AV)} {q : Nat → Nat → Bool} {b : T AV} : ∀ {l : List (Nat × AV)}, inTm th q b l = true → ∀ s x, (s, x) ∈ l → s ≤ 16777213 ∧ ∃ y, b.get s = some y ∧ inA th q 8 x y = true
  | [], _, s, x, h => by cases h
  | p :: r, h, s, x, hm => by
    simp only [inTm, Bool.and_eq_true] at h
    rcases List.mem_cons.1 hm with e | hm
    · subst e
      obtain ⟨⟨h1, h2⟩, _⟩ := h
      simp only [] at h1 h2
      refine ⟨Nat.le_of_ble_eq_true h1, ?_⟩
      cases hg : b.get s with
      | none => rw [hg] at h2; cases h2
      | some y => rw [hg] at h2; exact ⟨y, rfl, h2⟩
    · exact cE3 h.2 s x hm
def inE (th : List (Nat × AV)) (q : Nat → Nat → Bool) : Ent → Ent → Bool
  | .b k, .b j => Nat.beq k.e j.e && inCe th q k.c j.c && Nat.beq k.m j.m && Nat.beq k.es j.es && Nat.beq k.fr j.fr && (k.st == j.st) && (k.g == j.g)
  | .t i e, .t j f => Nat.beq e f && (match thAt th i with | some c => aW8 8 c (.x j) | none => false)
  | .r i e s o, .r j f t u => Nat.beq e f && (Nat.beq s t && ((o == u) && (match thAt th i with | some c => aW8 8 c (.x j) | none => false)))
  | .k g a n s x, .k h b m t y => Nat.beq g h && (inTm th q (aT0 b .leaf) a && (Nat.beq n m && (Nat.beq s t && eqX x y)))
  | _, _ => false
def ownE : Ent → Bool
  | .b k => !k.st || k.g
  | .r _ _ _ o => !o
  | _ => true
def bR4 (th : List (Nat × AV)) (q : Nat → Nat → Bool) (E : Env) : List (Nat × AV) → Bool
  | [] => true
  | p :: r => (match E.tm.get p.1 with | some b => inA th q 8 p.2 b | none => false) && bR4 th q E r
def aK1 (n0 nh : Nat) (th : List (Nat × AV)) (sg : List (Nat × Nat)) (H : T Ent) : List (Nat × Ent) → Bool
  | [] => true
  | p :: r => (match H.get (numB n0 sg p.1) with | some j => inE th (sgB n0 nh sg) p.2 j | none => false) && cond (Nat.blt p.1 n0) true (Nat.blt p.1 nh && ownE p.2) && Nat.ble p.1 16777213 && aK1 n0 nh th sg H r
def aJ7 : List Nat → Bool
  | [] => true
  | a :: r => !(r.any fun b => Nat.beq a b) && aJ7 r
def numsOf (n0 : Nat) (sg : List (Nat × Nat)) (l : List (Nat × Ent)) : List Nat := l.map fun p => numB n0 sg p.1
theorem dF3 {th : List (Nat × AV)} {q : Nat → Nat → Bool} {k j : Ent} (h : inE th q k j = true) : roE k = roE j := by
  cases k <;> cases j <;> simp only [inE] at h <;> first | rfl | (cases h; done) | skip
  simp only [Bool.and_eq_true, beq_iff_eq] at h
  exact h.2.2.1
def ren (ρ ρ2 : Rho) (n0 nh : Nat) (sg : List (Nat × Nat)) : Rho := fun v => if n0 ≤ v ∧ v < nh then ρ2 (sgAt sg v) else ρ v
section
variable {C1 C2 : Cx} {th : List (Nat × AV)} {q : Nat → Nat → Bool} {ρ1 ρ2 : Rho}
def ThOk (C1 C2 : Cx) (th : List (Nat × AV)) : Prop := ∀ i c, thAt th i = some c → Is C1 c (C2.nu i)
theorem cE4 (hP : C1.P = C2.P) (hth : ThOk C1 C2 th) (hq : ∀ v w r, q v w = true → ρ1 w = some r → ρ2 v = some r) : ∀ (d : Nat) (a b : AV), inA th q d a b = true → ∀ v, Rel C1 ρ1 b v → Rel C2 ρ2 a v
  | 0, a, b, h, v, hr => by cases h
  | d + 1, a, b, h, v, hr => by
    have ih := cE4 hP hth hq d
    have ihL : ∀ (l m : List AV), allS (inA th q d) l m = true → ∀ vs, RelL C1 ρ1 m vs → RelL C2 ρ2 l vs := by
      intro l
      induction l with
      | nil => intro m hm vs hv; cases m with
        | nil => simpa only [RelL] using hv
        | cons => cases hm
      | cons x l ihl => intro m hm vs hv; cases m with
        | nil => cases hm
        | cons y m =>
          simp only [allS, Bool.and_eq_true] at hm
          simp only [RelL] at hv ⊢
          obtain ⟨u, us, e, h1, h2⟩ := hv
          exact ⟨u, us, e, ih _ _ hm.1 u h1, ihl m hm.2 us h2⟩
    unfold inA at h
    split at h
    · simp only [Rel]
    · split at h
      · rename_i i b c hc
        simp only [Bool.and_eq_true] at h
        have e := aI1 8 _ _ h.1
        subst e
        simp only [Rel]
        exact hth _ _ hc ρ1 v hr
      · cases h
    · simp only [Bool.and_eq_true] at h
      simp only [Rel] at hr ⊢
      obtain ⟨r, h1, h2⟩ := hr
      exact ⟨r, hq _ _ _ h.1 h1, by rw [h2, Nat.eq_of_beq_eq_true h.2]⟩
    · rename_i v0 o n c r w u m e s
      simp only [Bool.and_eq_true, beq_iff_eq] at h
      obtain ⟨⟨⟨⟨g1, g2⟩, g3⟩, g4⟩, g5⟩ := h
      have e2 := Nat.eq_of_beq_eq_true g2; have e3 := Nat.eq_of_beq_eq_true g3; have e4 := Nat.eq_of_beq_eq_true g4
      subst e2; subst e3; subst e4; subst g5
      cases r with
      | false =>
        simp only [Rel] at hr ⊢
        obtain ⟨r, h1, h2⟩ := hr
        exact ⟨r, hq _ _ _ g1 h1, h2⟩
      | true =>
        simp only [Rel] at hr ⊢
        obtain ⟨r, a, h1, h2⟩ := hr
        exact ⟨r, a, hq _ _ _ g1 h1, h2⟩
    · simp only [Rel] at hr ⊢
      obtain ⟨r, h1, h2⟩ := hr
      exact ⟨r, hq _ _ _ h h1, h2⟩
    · simp only [Rel] at hr ⊢
      obtain ⟨r, h1, h2⟩ := hr
      exact ⟨r, hq _ _ _ h h1, h2⟩
    · simp only [Rel] at hr ⊢
      obtain ⟨r, h1, h2⟩ := hr
      exact ⟨r, hq _ _ _ h h1, h2⟩
    · simp only [Rel] at hr ⊢
      obtain ⟨r, h1, h2⟩ := hr
      exact ⟨r, hq _ _ _ h h1, h2⟩
    · simp only [Bool.and_eq_true] at h
      obtain ⟨g1, g2, g3, g4⟩ := h
      have e3 := Nat.eq_of_beq_eq_true g3; have e4 := Nat.eq_of_beq_eq_true g4
      subst e3; subst e4
      simp only [Rel] at hr ⊢
      obtain ⟨r, kk, jj, h1, h2, h3⟩ := hr
      exact ⟨r, kk, jj, hq _ _ _ g1 h1, ih _ _ g2 _ h2, h3⟩
    · simp only [Bool.and_eq_true] at h
      have e := Nat.eq_of_beq_eq_true h.1.1
      subst e
      simp only [Rel] at hr ⊢
      obtain ⟨as, cs, e, h1, h2⟩ := hr
      exact ⟨as, cs, e, ihL _ _ h.1.2 _ h1, ihL _ _ h.2 _ h2⟩
    · simp only [Rel] at hr ⊢
      obtain ⟨cs, e, h1⟩ := hr
      exact ⟨cs, e, ihL _ _ h _ h1⟩
    · simp only [Rel] at hr ⊢
      obtain ⟨cs, e, h1⟩ := hr
      exact ⟨cs, e, ihL _ _ h _ h1⟩
    · simp only [Bool.and_eq_true] at h
      have e := Nat.eq_of_beq_eq_true h.1
      subst e
      simp only [Rel] at hr ⊢
      obtain ⟨x, e, h1⟩ := hr
      exact ⟨x, e, ih _ _ h.2 _ h1⟩
    · simpa only [Rel] using hr
    · simpa only [Rel] using hr
    · simpa only [Rel] using hr
    · simpa only [Rel] using hr
    · simpa only [Rel] using hr
    · simpa only [Rel] using hr
    · simp only [Rel] at hr ⊢; exact ⟨none, 0, hr⟩
    · have e := Nat.eq_of_beq_eq_true h
      subst e
      simp only [Rel] at hr ⊢
      rw [← hP]; exact hr
    · simp only [Bool.and_eq_true, aT5, decide_eq_true_eq] at h
      simp only [Rel] at hr ⊢
      rw [hr, dN9 h.1, h.2]
    · simp only [beq_iff_eq] at h
      subst h
      simpa only [Rel] using hr
    · simp only [Bool.and_eq_true] at h
      have e1 := Nat.eq_of_beq_eq_true h.1; have e2 := Nat.eq_of_beq_eq_true h.2
      subst e1; subst e2
      simpa only [Rel] using hr
    · cases h
theorem dH3 {s : AV → AV → Bool} : ∀ {l m : List AV}, allS s l m = true → ∀ (j : Nat) a, l[j]? = some a → ∃ b, m[j]? = some b ∧ s a b = true
  | [], [], _, j, a, h => by simp at h
  | [], _ :: _, h, _, _, _ => by cases h
  | _ :: _, [], h, _, _, _ => by cases h
  | x :: l, y :: m, h, j, a, ha => by
    simp only [allS, Bool.and_eq_true] at h
    cases j with
    | zero => simp at ha; subst ha; exact ⟨y, by simp, h.1⟩
    | succ j => simp at ha; obtain ⟨b, h1, h2⟩ := dH3 h.2 j a ha; exact ⟨b, by simpa using h1, h2⟩
theorem dH2 {s : AV → AV → Bool} : ∀ {l m : List AV}, allS s l m = true → l.length = m.length
  | [], [], _ => rfl
  | [], _ :: _, h => by cases h
  | _ :: _, [], h => by cases h
  | x :: l, y :: m, h => by
    simp only [allS, Bool.and_eq_true] at h
    simp [dH2 h.2]
theorem inCe_ok (hP : C1.P = C2.P) (hth : ThOk C1 C2 th) (hq : ∀ v w r, q v w = true → ρ1 w = some r → ρ2 v = some r) {c d : Cells} (h : inCe th q c d = true) {arr : Array Value} {base : Nat} (hc : bB3 C1 ρ1 d arr base) : bB3 C2 ρ2 c arr base ∧ c.len = d.len := by
  cases c with
  | y k n =>
    cases d with
    | l => cases h
    | y l m =>
      simp only [inCe, Bool.and_eq_true] at h
      have e1 := Nat.eq_of_beq_eq_true h.1; have e2 := Nat.eq_of_beq_eq_true h.2
      subst e1; subst e2
      refine ⟨⟨hc.1, fun j a hj => ?_⟩, rfl⟩
      obtain ⟨x, h1, h2, h3⟩ := hc.2 j a hj
      refine ⟨x, h1, ?_, h3⟩
      have hj : (unp k n)[j]? = some a := hj
      unfold unp at hj
      rw [List.getElem?_map] at hj
      cases hr : (List.range k)[j]? with
      | none => rw [hr] at hj; cases hj
      | some z => rw [hr] at hj; simp only [Option.map_some, Option.some.injEq] at hj; subst hj; simpa only [Rel] using h2
  | l a =>
    have h : allS (inA th q 8) a d.toL = true := by cases d <;> exact h
    refine ⟨⟨trivial, fun j x hj => ?_⟩, by rw [Cells.len_eq, Cells.len_eq]; exact dH2 h⟩
    have hj : a[j]? = some x := hj
    obtain ⟨b, hb, hs⟩ := dH3 h j x hj
    obtain ⟨v, h1, h2, h3⟩ := hc.2 j b hb
    exact ⟨v, h1, cE4 hP hth hq 8 _ _ hs v h2, h3⟩
theorem inE_ok (hP : C1.P = C2.P) (hth : ThOk C1 C2 th) (hq : ∀ v w r, q v w = true → ρ1 w = some r → ρ2 v = some r) {B1 B2 : Fz} {k j : Ent} (h : inE th q k j = true) {r : R} {o : Obj} (hB : roE k = false → B2 r.blk → B1 r.blk) (ho : aU3 C1 ρ1 B1 j r o) : aU3 C2 ρ2 B2 k r o := by
  cases k with
  | b k =>
    cases j with
    | b j =>
      cases o with
      | cells arr t fz =>
        simp only [inE, Bool.and_eq_true, beq_iff_eq] at h
        obtain ⟨⟨⟨⟨⟨⟨h1, h2⟩, h3⟩, h4⟩, h5⟩, h6⟩, h7⟩ := h
        have e1 := Nat.eq_of_beq_eq_true h1; have e3 := Nat.eq_of_beq_eq_true h3; have e4 := Nat.eq_of_beq_eq_true h4; have e5 := Nat.eq_of_beq_eq_true h5
        obtain ⟨t1, hb⟩ := ho
        obtain ⟨c1, c2⟩ := inCe_ok hP hth hq h2 hb.cells
        refine ⟨by rw [e1]; exact t1, c1, fun hg => ?_, fun x => by rw [e5]; exact hb.cold x, fun hs => by rw [e5]; exact hb.plain (by rw [← h6]; exact hs), fun hb2 => ?_, by rw [c2]; exact hb.room, fun hg => hb.base0 (by rw [← h7]; exact hg)⟩
        · have := hb.grown (by rw [← h7]; exact hg)
          rw [e3, c2, e4]; exact this
        · have := hb.old (hB rfl hb2)
          rw [c2, e5, h6, h7]; exact this
      | _ => exact ho.elim
    | _ => cases h
  | t i e =>
    cases j with
    | t j f =>
      cases o with
      | cells arr t fz =>
        simp only [inE, Bool.and_eq_true] at h
        obtain ⟨h1, h2⟩ := h
        have e1 := Nat.eq_of_beq_eq_true h1
        subst e1
        obtain ⟨t1, hb⟩ := ho
        cases hc : thAt th i with
        | none => rw [hc] at h2; cases h2
        | some c =>
          rw [hc] at h2
          have e2 := aI1 8 _ _ h2
          subst e2
          have hv : C1.nu j = C2.nu i := hth _ _ hc ρ1 _ (by simp only [Rel])
          refine ⟨t1, fun hb2 => hb.own (hB rfl hb2), hb.base, ?_, hb.cap, hb.room, hb.free⟩
          rw [← hv]; exact hb.str
      | _ => exact ho.elim
    | _ => cases h
  | r i e z ro =>
    cases j with
    | r j f t u =>
      cases o with
      | cells arr ty fz =>
        simp only [inE, Bool.and_eq_true, beq_iff_eq] at h
        obtain ⟨h1, h3, h4, h2⟩ := h
        have e1 := Nat.eq_of_beq_eq_true h1
        have e3 := Nat.eq_of_beq_eq_true h3
        subst e1; subst e3; subst h4
        obtain ⟨t1, hb⟩ := ho
        cases hc : thAt th i with
        | none => rw [hc] at h2; cases h2
        | some c =>
          rw [hc] at h2
          have e2 := aI1 8 _ _ h2
          subst e2
          have hv : C1.nu j = C2.nu i := hth _ _ hc ρ1 _ (by simp only [Rel])
          refine ⟨t1, fun hro => ?_, ?_, hb.cap, hb.pos⟩
          · obtain ⟨q1, q2⟩ := hb.own hro
            exact ⟨fun hb2 => q1 (hB hro hb2), q2⟩
          · rw [← hv]; exact hb.row
      | _ => exact ho.elim
    | _ => cases h
  | k g a n s x =>
    cases j with
    | k g2 b n2 s2 x2 =>
      cases o with
      | loop L =>
        simp only [inE, Bool.and_eq_true] at h
        obtain ⟨h1, h2, h3, h4, h5⟩ := h
        have e1 := Nat.eq_of_beq_eq_true h1; have e3 := Nat.eq_of_beq_eq_true h3; have e4 := Nat.eq_of_beq_eq_true h4; have e5 := eqX_eq h5
        subst e1; subst e3; subst e4; subst e5
        obtain ⟨t1, hb⟩ := ho
        refine ⟨hP ▸ t1, ⟨fun hb2 => hb.own (hB rfl hb2), rfl, rfl, rfl, hb.okA, hb.okB, hb.size, hb.nt, fun t y ht => ?_, hb.st, hb.pend⟩⟩
        rcases aI4 _ _ (fun p hp => (cE3 h2 p.1 p.2 hp).1) t y ht with hm | hm
        · obtain ⟨_, z, hz, hi⟩ := cE3 h2 t y hm
          exact cE4 hP hth hq 8 y z hi _ (hb.tm t z hz)
        · simp [T.aD7] at hm
      | _ => exact ho.elim
    | _ => cases h
  | _ => cases j <;> cases h
end
theorem aT4 {th : List (Nat × AV)} {q : Nat → Nat → Bool} {E : Env} : ∀ {l : List (Nat × AV)}, bR4 th q E l = true → ∀ s a, (s, a) ∈ l → ∃ b, E.tm.get s = some b ∧ inA th q 8 a b = true
  | [], _, s, a, h => by cases h
  | p :: r, h, s, a, hm => by
    simp only [bR4, Bool.and_eq_true] at h
    rcases List.mem_cons.1 hm with e | hm
    · subst e
      have h1 := h.1
      simp only [] at h1
      cases hg : E.tm.get s with
      | none => rw [hg] at h1; cases h1
      | some b => rw [hg] at h1; exact ⟨b, rfl, h1⟩
    · exact aT4 h.2 s a hm
structure HeapAt (n0 nh : Nat) (th : List (Nat × AV)) (sg : List (Nat × Nat)) (H : T Ent) (v : Nat) (k : Ent) : Prop where
  at_ : ∃ j, H.get (numB n0 sg v) = some j ∧ inE th (sgB n0 nh sg) k j = true
  move : n0 ≤ v → v < nh ∧ ownE k = true
  top : v ≤ 16777213
theorem aG4 {n0 nh : Nat} {th : List (Nat × AV)} {sg : List (Nat × Nat)} {H : T Ent} : ∀ {l : List (Nat × Ent)}, aK1 n0 nh th sg H l = true → ∀ v k, (v, k) ∈ l → HeapAt n0 nh th sg H v k
  | [], _, v, k, h => by cases h
  | p :: r, h, v, k, hm => by
    simp only [aK1, Bool.and_eq_true] at h
    rcases List.mem_cons.1 hm with e | hm
    · subst e
      obtain ⟨⟨⟨h1, h2⟩, h3⟩, h4⟩ := h
      simp only [] at h1 h2 h3
      refine ⟨?_, fun hge => ?_, Nat.le_of_ble_eq_true h3⟩
      · cases hg : H.get (numB n0 sg v) with
        | none => rw [hg] at h1; cases h1
        | some b => rw [hg] at h1; exact ⟨b, rfl, h1⟩
      · have : Nat.blt v n0 = false := by rw [Bool.eq_false_iff]; intro hh; rw [Nat.blt_eq] at hh; omega
        rw [this] at h2
        simp only [cond_false, Bool.and_eq_true, Nat.blt_eq] at h2
        exact h2
    · exact aG4 h.2 v k hm
theorem cQ2 {n0 : Nat} {sg : List (Nat × Nat)} : ∀ {l : List (Nat × Ent)}, aJ7 (numsOf n0 sg l) = true → ∀ v k u j, (v, k) ∈ l → (u, j) ∈ l → numB n0 sg v = numB n0 sg u → v = u
  | [], _, v, k, u, j, h, _, _ => by cases h
  | p :: r, h, v, k, u, j, hv, hu, e => by
    have h : (!((numsOf n0 sg r).any fun b => Nat.beq (numB n0 sg p.1) b) && aJ7 (numsOf n0 sg r)) = true := h
    simp only [Bool.and_eq_true, Bool.not_eq_true', List.any_eq_false] at h
    have hno : ∀ u j, (u, j) ∈ r → numB n0 sg p.1 ≠ numB n0 sg u := fun u j hm e => by
      have := h.1 (numB n0 sg u) (List.mem_map.2 ⟨(u, j), hm, rfl⟩)
      rw [e, Nat.beq_refl] at this; exact this rfl
    rcases List.mem_cons.1 hv with e1 | g1
    · rcases List.mem_cons.1 hu with e2 | g2
      · rw [← e2] at e1; injection e1
      · subst e1; exact absurd e (hno _ _ g2)
    · rcases List.mem_cons.1 hu with e2 | g2
      · subst e2; exact absurd e.symm (hno _ _ g1)
      · exact cQ2 h.2 v k u j g1 g2 e
theorem dL3 {C : Cx} {ρ : Rho} {B : Fz} {k : Ent} {r : R} {o : Obj} (ho : aU3 C ρ B k r o) (h : ownE k = true) : ¬ B r.blk := by
  cases k <;> cases o <;> first | exact ho.elim | skip
  · intro hb
    obtain ⟨_, h2, h3⟩ := ho.2.old hb
    simp only [ownE, h2, h3] at h; cases h
  · exact aS3.own ho
  · exact MapAt.own ho
  · exact ItAt.own ho
  · refine (ho.2.own ?_).1
    simpa [ownE] using h
  · exact ho.2.own
  · exact aS3.own ho.2
theorem inE_refl {C : Cx} {ρ : Rho} {B B2 : Fz} {k : Ent} {r : R} {o : Obj} (hB : B2 r.blk → B r.blk) (ho : aU3 C ρ B k r o) : aU3 C ρ B2 k r o := by
  cases k <;> cases o <;> first | exact ho.elim | skip
  · exact ⟨ho.1, { ho.2 with old := fun h => ho.2.old (hB h) }⟩
  · exact { (show aS3 C ρ B _ r _ from ho) with own := fun h => aS3.own ho (hB h) }
  · exact { (show MapAt C ρ B _ _ r _ _ from ho) with own := fun h => MapAt.own ho (hB h) }
  · exact { (show ItAt C ρ B _ _ _ _ r _ _ _ _ from ho) with own := fun h => ItAt.own ho (hB h) }
  · exact ⟨ho.1, { ho.2 with own := fun h => ⟨fun hb => (ho.2.own h).1 (hB hb), (ho.2.own h).2⟩ }⟩
  · exact ⟨ho.1, { ho.2 with own := fun h => ho.2.own (hB h) }⟩
  · exact ⟨ho.1, { (show aS3 C ρ B _ r _ from ho.2) with own := fun h => aS3.own ho.2 (hB h) }⟩
theorem aP5 {l : List (Nat × Ent)} (hb : ∀ v k, (v, k) ∈ l → v ≤ 16777213) {v : Nat} {k : Ent} (h : (aE8 l .leaf).get v = some k) : (v, k) ∈ l := by
  rw [aP6 _ _ (fun u hu => by obtain ⟨j, hj⟩ := bA8.1 hu; exact hb u j hj)] at h
  cases hg : aS9 l v with
  | some j => rw [hg] at h; simp only [Option.some_or, Option.some.injEq] at h; subst h; exact bD2 hg
  | none => rw [hg] at h; simp [T.aD7] at h
section
variable {C D : Cx} {ng n0 nh : Nat} {K : Fz} {ρ ρ2 : Rho} {w : World}
theorem aG6 {S1 : T Ent} {l : List (Nat × Ent)} {th : List (Nat × AV)} {sg : List (Nat × Nat)} (hP : C.P = D.P) (hinv : C.inv = D.inv) (hnst : C.nst = D.nst) {B : Fz}
    (hF : Fits C ng B ρ2 S1 w) (hth : ThOk C D th) (bG9 : ∀ v, v < n0 → ρ2 v = ρ v) (hng : ng ≤ n0) (hin : aK1 n0 nh th sg S1 l = true) (hnd : aJ7 (numsOf n0 sg l) = true)
    (hK : ∀ k, K k → k < w.heap.size) (hlow : ∀ k, k < D.nst → K k) (hKB : ∀ v k r, (v, k) ∈ l → roE k = false → ρ2 (numB n0 sg v) = some r → K r.blk → B r.blk) :
    Fits D ng K (ren ρ ρ2 n0 nh sg) (aE8 l .leaf) w ∧ (∀ a b v, inA th (sgB n0 nh sg) 8 a b = true → Rel C ρ2 b v → Rel D (ren ρ ρ2 n0 nh sg) a v) := by
  have hq : ∀ v u r, sgB n0 nh sg v u = true → ρ2 u = some r → ren ρ ρ2 n0 nh sg v = some r := fun v u r hs hr => by
    unfold sgB at hs
    unfold ren
    cases hlt : Nat.blt v n0 with
    | true =>
      rw [hlt, cond_true] at hs
      have e := Nat.eq_of_beq_eq_true hs
      subst e
      rw [Nat.blt_eq] at hlt
      rw [if_neg (by omega), ← bG9 v hlt]; exact hr
    | false =>
      rw [hlt, cond_false, Bool.and_eq_true, Nat.blt_eq] at hs
      have hlt : ¬ v < n0 := fun h => by rw [← Nat.blt_eq, hlt] at h; cases h
      rw [if_pos ⟨by omega, hs.1⟩, Nat.eq_of_beq_eq_true hs.2]; exact hr
  have hnum : ∀ v k, (v, k) ∈ l → ren ρ ρ2 n0 nh sg v = ρ2 (numB n0 sg v) := fun v k hm => by
    obtain ⟨_, h3, _⟩ := aG4 hin v k hm
    unfold ren numB
    cases hlt : Nat.blt v n0 with
    | true => rw [Nat.blt_eq] at hlt; rw [if_neg (by omega), cond_true, bG9 v hlt]
    | false =>
      have hlt : ¬ v < n0 := fun h => by rw [← Nat.blt_eq, hlt] at h; cases h
      rw [if_pos ⟨by omega, (h3 (by omega)).1⟩, cond_false]
  have hmem : ∀ v k, (aE8 l .leaf).get v = some k → (v, k) ∈ l := fun v k h => aP5 (fun u j hu => (aG4 hin u j hu).top) h
  refine ⟨⟨hK, fun g hg => ?_, fun v k hv => ?_, fun v v' k k' r r' hv hv' hr hr' he => ?_, hlow, hinv ▸ hF.inv⟩, fun a b v hi hr => cE4 hP hth hq 8 a b hi v hr⟩
  · unfold ren; rw [if_neg (by omega), ← bG9 g (by omega)]; exact hF.glob g hg
  · have hm := hmem v k hv
    obtain ⟨⟨j, h1, h2⟩, _⟩ := aG4 hin v k hm
    obtain ⟨r, h3, o, h4, h5⟩ := hF.blk _ _ h1
    exact ⟨r, by rw [hnum v k hm]; exact h3, o, h4, inE_ok hP hth hq h2 (fun hro => hKB v k r hm hro h3) h5⟩
  · have hm := hmem v k hv
    have hm' := hmem v' k' hv'
    obtain ⟨⟨j, h1, hq1⟩, _⟩ := aG4 hin v k hm
    obtain ⟨⟨j', h1', hq2⟩, _⟩ := aG4 hin v' k' hm'
    rw [hnum v k hm] at hr; rw [hnum v' k' hm'] at hr'
    rcases hF.inj _ _ _ _ _ _ h1 h1' hr hr' he with e | ⟨e1, e2⟩
    · exact .inl (cQ2 hnd v k v' k' hm hm' e)
    · exact .inr ⟨by rw [dF3 hq1]; exact e1, by rw [dF3 hq2]; exact e2⟩
end
def frz (B : Fz) (ρ : Rho) (h : LH) (w : World) : Fz := fun k => B k ∨ (k < w.heap.size ∧ ∀ v j r, (v, j) ∈ h.pre → roE j = false → ρ v = some r → r.blk ≠ k)
theorem bS4 {C : Cx} {B : Fz} {ρ ρ' : Rho} {h : LH} {H : T Ent} {w w' : World} (hh : LhOk h) (hF : Fits C h.ng B ρ H w) (hpre : ∀ v k, (v, k) ∈ h.pre → H.get v = some k) (hfree : Free ρ h.n0 h.n1)
    (hb : Below (frz B ρ h w) w w') (hF' : Fits C h.ng (frz B ρ h w) ρ' (aE8 h.post .leaf) w') (he : Ext ρ ρ' h.n0 h.n1) (hown : ∀ v k, (v, k) ∈ h.post → h.n0 ≤ v → ownE k = true) : Fits C h.ng B ρ' (aJ8 h H) w' := by
  have htop := hh.top
  have hsub := he.sub hfree
  have hget : ∀ v k, (aJ8 h H).get v = some k → (aS9 h.post v = some k) ∨ (isK h.pre v = false ∧ ¬ (h.n0 ≤ v ∧ v < h.n1) ∧ H.get v = some k) := fun v k hv => by
    rw [aL7 hh] at hv
    cases hg : aS9 h.post v with
    | some j => rw [hg] at hv; left; simpa using hv
    | none =>
      rw [hg] at hv
      simp only [Option.none_or] at hv
      split at hv
      · cases hv
      · split at hv
        · cases hv
        · rename_i e1 e2; right; exact ⟨by simpa using e2, e1, hv⟩
  have hset : ∀ v k, aS9 h.post v = some k → (aE8 h.post .leaf).get v = some k := fun v k hv => by
    rw [aP6 _ _ (fun u hu => by have := (hh.post u hu).1; omega), hv]; rfl
  have hρ : ∀ v, ¬ (h.n0 ≤ v ∧ v < h.n1) → ρ' v = ρ v := fun v hv => he v (by have := hh.le; omega)
  have hfr : ∀ v k r, isK h.pre v = false → H.get v = some k → ρ v = some r → frz B ρ h w r.blk := fun v k r hn hv hr => by
    obtain ⟨r', h1, o, h2, _⟩ := hF.blk v k hv
    rw [hr] at h1; injection h1 with h1; subst h1
    refine .inr ⟨bS3 h2, fun u j ru hj hjr hru e => ?_⟩
    have hu : isK h.pre u = true := bA8.2 ⟨j, hj⟩
    have := hF.solo hv (hpre u j hj) hr hru hjr e.symm
    subst this; rw [hn] at hu; cases hu
  refine ⟨fun k hk => Nat.lt_of_lt_of_le (hF.size k hk) hb.size, hF'.glob, fun v k hv => ?_, fun v v' k k' r r' hv hv' hr hr' e => ?_, hF.low, hF'.inv⟩
  · rcases hget v k hv with g | ⟨g1, g2, g3⟩
    · obtain ⟨r, h1, o, h2, h3⟩ := hF'.blk v k (hset v k g)
      exact ⟨r, h1, o, h2, inE_refl (fun hb => .inl hb) h3⟩
    · obtain ⟨r, h1, o, h2, h3⟩ := hF.blk v k g3
      refine ⟨r, hsub _ _ h1, o, ?_, h3.mono hsub⟩
      rw [hb.block _ (hfr v k r g1 g3 h1)]; exact h2
  · have cross : ∀ v v' k k' r r', aS9 h.post v = some k → isK h.pre v' = false → ¬ (h.n0 ≤ v' ∧ v' < h.n1) → H.get v' = some k' → ρ' v = some r → ρ' v' = some r' → r.blk = r'.blk → v = v' ∨ (roE k = true ∧ roE k' = true) := fun v v' k k' r r' g g1 g2 g3 hr hr' e => by
      rw [hρ v' g2] at hr'
      have hfz := hfr v' k' r' g1 g3 hr'
      have hm := bD2 g
      by_cases hlt : v < h.n0
      · have hp : isK h.pre v = true := (hh.post v (bA8.2 ⟨k, hm⟩)).2.resolve_right (by omega)
        obtain ⟨j, hj⟩ := bA8.1 hp
        rw [hρ v (by omega)] at hr
        rcases hF.inj v v' j k' r r' (hpre v j hj) g3 hr hr' e with e1 | ⟨e1, e2⟩
        · subst e1; rw [g1] at hp; cases hp
        · exact .inr ⟨hh.ro v k j hm hj e1, e2⟩
      · obtain ⟨r2, h1, o, h2, h3⟩ := hF'.blk v k (hset v k g)
        rw [hr] at h1; injection h1 with h1; subst h1
        exact (dL3 h3 (hown v k hm (by omega)) (e ▸ hfz)).elim
    rcases hget v k hv with g | ⟨g1, g2, g3⟩ <;> rcases hget v' k' hv' with g' | ⟨g1', g2', g3'⟩
    · exact hF'.inj v v' k k' r r' (hset v k g) (hset v' k' g') hr hr' e
    · exact cross v v' k k' r r' g g1' g2' g3' hr hr' e
    · exact (cross v' v k' k r' r g' g1 g2 g3 hr' hr e.symm).imp Eq.symm And.symm
    · rw [hρ v g2] at hr; rw [hρ v' g2'] at hr'
      exact hF.inj v v' k k' r r' g3 g3' hr hr' e
end
end Go.AX
end
section
namespace Go.AX
noncomputable section
def bA0 (o : Option ((Ex × Env) × St)) (ex : Ex) (keep : List Nat) (nt n1 : Nat) (th : List (Nat × AV)) (sg : List (Nat × Nat)) (n0 nh : Nat) (ep : List (Nat × AV)) (hp : List (Nat × Ent)) : Bool := match o with
  | some (p, S) => exB p.1 ex && Nat.ble S.next n1 && aR2 p.2 keep && Nat.beq p.2.nt nt && bR4 th (sgB n0 nh sg) p.2 ep && aK1 n0 nh th sg S.heap hp && aJ7 (numsOf n0 sg hp)
  | none => false
structure aF4 (E : Cx) (body : Code) (keep : List Nat) (nt : Nat) (ex' : Ex) (ng n0 nh n1 : Nat) {α : Type} (ep : α → List (Nat × AV)) (hp : α → List (Nat × Ent)) (epx : List (Nat × AV)) (hpx : List (Nat × Ent)) (I : α → Prop) (μ : α → Nat) (D : α → (Nat → Value) → Cx) (x : α) (X : Nat → Value) : Prop where
  run : ∃ (tb : Tab) (L : List LF) (f : Nat) (th : List (Nat × AV)) (sg : List (Nat × Nat)), aF3 (D x X) tb ∧ LpOk (D x X) L body ∧ tb.ng = ng ∧
    ((∃ y, I y ∧ μ y < μ x ∧ ThOk (D x X) (D y X) th ∧ bA0 (code tb f L body (aM6 (aH9 (ep x) keep) nt) ⟨aE8 (hp x) .leaf, nh, 0, 0⟩) .normal keep nt n1 th sg n0 nh (ep y) (hp y) = true) ∨
     (ex' ≠ .normal ∧ ThOk (D x X) E th ∧ bA0 (code tb f L body (aM6 (aH9 (ep x) keep) nt) ⟨aE8 (hp x) .leaf, nh, 0, 0⟩) ex' keep nt n1 th sg n0 n1 epx hpx = true))
theorem cQ0 {o : Option ((Ex × Env) × St)} {ex : Ex} {keep : List Nat} {nt n1 : Nat} {th : List (Nat × AV)} {sg : List (Nat × Nat)} {n0 nh : Nat} {ep : List (Nat × AV)} {hp : List (Nat × Ent)} (h : bA0 o ex keep nt n1 th sg n0 nh ep hp = true) :
    ∃ E1 S1, o = some ((ex, E1), S1) ∧ S1.next ≤ n1 ∧ aR2 E1 keep = true ∧ E1.nt = nt ∧ bR4 th (sgB n0 nh sg) E1 ep = true ∧ aK1 n0 nh th sg S1.heap hp = true ∧ aJ7 (numsOf n0 sg hp) = true := by
  cases o with
  | none => cases h
  | some p =>
    obtain ⟨⟨e, E⟩, S⟩ := p
    simp only [bA0, Bool.and_eq_true] at h
    obtain ⟨⟨⟨⟨⟨⟨h1, h2⟩, h3⟩, h4⟩, h5⟩, h6⟩, h7⟩ := h
    exact ⟨E, S, by rw [dO8 h1], Nat.le_of_ble_eq_true h2, h3, Nat.eq_of_beq_eq_true h4, h5, h6, h7⟩
theorem headOf_bd {ep : List (Nat × AV)} {keep : List Nat} (hb : (lfB ep && lfC keep) = true) : ∀ p, p ∈ aH9 ep keep → p.1 ≤ 16777213 := fun p hp => by
  rw [Bool.and_eq_true] at hb
  obtain ⟨s, x⟩ := p
  rcases bY6 _ _ _ _ hp with h | h
  · exact bQ4 hb.1 _ h
  · exact cX1 hb.2 _ h.1
theorem loop_okH {C E : Cx} {body : Code} {l : LF} {h : LH} {keep : List Nat} {nt : Nat} {ex : Ex} {ng n0 nh n1 : Nat} {α : Type} {ep : α → List (Nat × AV)} {hp : α → List (Nat × Ent)} {epx : List (Nat × AV)} {hpx : List (Nat × Ent)} (I : α → Prop) (μ : α → Nat) (D : α → (Nat → Value) → Cx)
    (hP : ∀ x X, (D x X).P = C.P) (hi : ∀ x X, (D x X).inv = C.inv) (hn : ∀ x X, (D x X).nst = C.nst) (hX : ∀ x X t, t ∈ keep → (D x X).nu (1000000 + t) = X t)
    (hPE : E.P = C.P) (hiE : E.inv = C.inv) (hnE : E.nst = C.nst)
    (hkeep : l.keep = keep) (hlnt : l.nt = nt) (hex : l.ex = ex) (hgn : h.ng = ng) (hn0 : h.n0 = n0) (hn1 : h.n1 = n1)
    (hb : ∀ x, (lfB (ep x) && lfC keep) = true) (hbx : lfB epx = true) (hnh : n0 ≤ nh ∧ nh ≤ n1)
    (start : α) (hstart : I start) {th0 : List (Nat × AV)} {sg0 : List (Nat × Nat)} (hth0 : ∀ X, ThOk C (D start X) th0) (h0e : bR4 th0 (sgB n0 nh sg0) (aM6 l.pre nt) (ep start) = true) (hlp : lfB l.pre = true)
    (h0h : aK1 n0 nh th0 sg0 (aE8 h.pre .leaf) (hp start) = true) (h0n : aJ7 (numsOf n0 sg0 (hp start)) = true)
    {thx : List (Nat × AV)} (hthx : ThOk E C thx) (hxe : bR4 thx (sgB n0 n1 []) (aM6 epx nt) l.post = true) (hxh : aK1 n0 n1 thx [] (aE8 hpx .leaf) h.post = true) (hxn : aJ7 (numsOf n0 [] h.post) = true)
    (hr : ∀ x X, I x → aF4 E body keep nt ex ng n0 nh n1 ep hp epx hpx I μ D x X) : LfOkH C body l h := by
  subst hkeep; subst hlnt; subst hex; subst hgn; subst hn0; subst hn1
  intro Φ ν Q a w B ρ H hΦ hc hF hng hh hpre hfree hsz hnt hslots hK
  have hle := hh.le
  have htop := hh.top
  have bT9 : ∀ k, B k → frz B ρ h w k := fun k hk => .inl hk
  -- the heads
  have key : ∀ (n : Nat) (x : α), μ x < n → I x → ∀ (X : Nat → Value) (ρ1 : Rho) (a1 : Act) (w1 : World),
      Fits (D x X) h.ng (frz B ρ h w) ρ1 (aE8 (hp x) .leaf) w1 → Ext ρ ρ1 h.n0 nh → Below (frz B ρ h w) w w1 → a1.tmps.size = l.nt →
      (∀ s y, (s, y) ∈ ep x → Rel (D x X) ρ1 y (a1.tmps.getD s undef)) → (∀ t, t ∈ l.keep → a1.tmps.getD t undef = X t) →
      (∀ ρ' a' w', a'.tmps.size = l.nt → (∀ s, s ∈ l.keep → a'.tmps.getD s undef = X s) → (∀ s y, (s, y) ∈ l.post → Rel C ρ' y (a'.tmps.getD s undef)) → Dfs a1 a' w1 w' →
        Fits C h.ng (frz B ρ h w) ρ' (aE8 h.post .leaf) w' → (∀ v k, (v, k) ∈ h.post → h.n0 ≤ v → ownE k = true) → Ext ρ ρ' h.n0 h.n1 → Below (frz B ρ h w) w1 w' → Q (exOf l.ex) a' w') →
      RAny Φ ν C.P body Q a1 w1 := by
    intro n
    induction n with
    | zero => intro x hx; omega
    | succ n ih =>
      intro x hx hI X ρ1 a1 w1 hF1 he1 hb1 hsz1 hep hkeep hK1
      obtain ⟨tb, L, f, th, sg, hall, hlpo, htn, hcase⟩ := (hr x X hI).run
      obtain ⟨ex, E1, S1, hrun, hnx, hkept, hnt1, hcase⟩ : ∃ ex E1 S1, code tb f L body (aM6 (aH9 (ep x) l.keep) l.nt) ⟨aE8 (hp x) .leaf, nh, 0, 0⟩ = some ((ex, E1), S1) ∧ S1.next ≤ h.n1 ∧ aR2 E1 l.keep = true ∧ E1.nt = l.nt ∧
          ((ex = .normal ∧ ∃ y, I y ∧ μ y < μ x ∧ ThOk (D x X) (D y X) th ∧ bR4 th (sgB h.n0 nh sg) E1 (ep y) = true ∧ aK1 h.n0 nh th sg S1.heap (hp y) = true ∧ aJ7 (numsOf h.n0 sg (hp y)) = true) ∨
           (ex ≠ .normal ∧ ex = l.ex ∧ ThOk (D x X) E th ∧ bR4 th (sgB h.n0 h.n1 sg) E1 epx = true ∧ aK1 h.n0 h.n1 th sg S1.heap hpx = true ∧ aJ7 (numsOf h.n0 sg hpx) = true)) := by
        rcases hcase with ⟨y, hy, hlt, hth, hrd⟩ | ⟨hne, hth, hrd⟩
        · obtain ⟨E1, S1, g1, g2, g3, g4, g5, g6, g7⟩ := cQ0 hrd
          exact ⟨_, E1, S1, g1, g2, g3, g4, .inl ⟨rfl, y, hy, hlt, hth, g5, g6, g7⟩⟩
        · obtain ⟨E1, S1, g1, g2, g3, g4, g5, g6, g7⟩ := cQ0 hrd
          exact ⟨_, E1, S1, g1, g2, g3, g4, .inr ⟨hne, rfl, hth, g5, g6, g7⟩⟩
      have hP' := hP x X
      refine RAny.step ?_
      have hE : aQ7 (D x X) ρ1 (aM6 (aH9 (ep x) l.keep) l.nt) a1 := by
        refine ⟨hsz1, hnt, fun t y ht => ?_⟩
        rcases aI4 _ _ (headOf_bd (hb x)) t y ht with g | g
        · rcases bY6 _ _ _ _ g with h1 | h1
          · exact hep t y h1
          · obtain ⟨h1, rfl⟩ := h1
            simp only [Rel]
            rw [hX x X t h1]; exact hkeep t h1
        · simp [T.aD7] at g
      have dO5 : Free ρ1 nh h.n1 := fun v g1 g2 => by rw [he1 v (by omega)]; exact hfree v (by omega) g2
      have hgo := (aG1 (C := D x X) (B := frz B ρ h w) (F := f) (Φ := Φ) (ν := ν) hΦ (fun g _ => cr_ok hall g) hall.tab hall.met hall.mix hall.fn f (Nat.le_refl _) L body (aM6 (aH9 (ep x) l.keep) l.nt) ⟨aE8 (hp x) .leaf, nh, 0, 0⟩ ex E1 S1 ρ1 a1 w1
        (Exit.then (RAny Φ ν C.P body Q) Q) hc.loop hlpo hrun (by rw [htn]; exact hF1) (by show tb.ng ≤ nh; omega) hE (fun v g1 g2 => dO5 v g1 (by omega)) ?_).1
      · rw [hP'] at hgo; exact hgo
      · intro ρ2 a2 w2 e1 e2 e3 e4 e5
        have e4 : Ext ρ1 ρ2 nh S1.next := e4
        rw [htn] at e3
        have hkp : ∀ t, t ∈ l.keep → a2.tmps.getD t undef = X t := fun t ht => by
          have := e1.2.2 t _ (bQ8 hkept t ht)
          simp only [Rel] at this
          rw [this]; exact hX x X t ht
        have hsz2 : a2.tmps.size = l.nt := e1.1.trans hnt1
        have bG9 : ∀ v, v < h.n0 → ρ2 v = ρ v := fun v hv => by rw [e4 v (by omega), he1 v (by omega)]
        have hb2 := hb1.trans e5
        have hKs : ∀ k, frz B ρ h w k → k < w2.heap.size := fun k hk => by
          have := hb2.size
          rcases hk with hk | hk
          · have := hF.size k hk; omega
          · omega
        have hext : ∀ hi, h.n0 ≤ hi → hi ≤ h.n1 → Ext ρ (ren ρ ρ2 h.n0 hi sg) h.n0 hi := fun hi _ _ v hv => by unfold ren; rw [if_neg (by omega)]
        rcases hcase with ⟨rfl, y, hy, hlt, hth, hen, hhe, hnd⟩ | ⟨hne, rfl, hth, hen, hhe, hnd⟩
        · show RAny Φ ν C.P body Q a2 w2
          obtain ⟨g1, g2⟩ := aG6 (C := D x X) (D := D y X) (ρ := ρ) (K := frz B ρ h w) (by rw [hP, hP]) (by rw [hi, hi]) (by rw [hn, hn]) e3 hth bG9 hng hhe hnd hKs
            (fun k hk => bT9 k (hF.low k (by rw [← hn y X]; exact hk))) (fun v k r _ _ _ hk => hk)
          refine ih y (by omega) hy X _ a2 w2 g1 (hext nh hnh.1 hnh.2) hb2 hsz2 (fun s b hs => ?_) hkp fun ρ' a3 w3 k1 k2 k3 k4 k5 k6 k7 k8 => ?_
          · obtain ⟨c, hc1, hc2⟩ := aT4 hen s b hs
            exact g2 _ _ _ hc2 (e1.2.2 s c hc1)
          · exact hK1 ρ' a3 w3 k1 k2 k3 (e2.trans k4 e5 k8) k5 k6 k7 (e5.trans k8)
        · obtain ⟨g1, g2⟩ := aG6 (C := D x X) (D := E) (ρ := ρ) (K := frz B ρ h w) ((hP x X).trans hPE.symm) ((hi x X).trans hiE.symm) ((hn x X).trans hnE.symm) e3 hth bG9 hng hhe hnd hKs
            (fun k hk => bT9 k (hF.low k (by rw [← hnE]; exact hk))) (fun v k r _ _ _ hk => hk)
          obtain ⟨g3, g4⟩ := aG6 (C := E) (D := C) (ρ := ρ) (K := frz B ρ h w) hPE hiE hnE g1 hthx (fun v hv => by unfold ren; rw [if_neg (by omega)]) hng hxh hxn hKs
            (fun k hk => bT9 k (hF.low k hk)) (fun v k r _ _ _ hk => hk)
          have hfin : Q (exOf l.ex) a2 w2 := hK1 _ a2 w2 hsz2 hkp (fun s b hs => by
            obtain ⟨c, hc1, hc2⟩ := aT4 hxe s b hs
            refine g4 _ _ _ hc2 ?_
            rcases aI4 _ _ (fun p hp => bQ4 hbx p hp) s c hc1 with g | g
            · obtain ⟨d, hd1, hd2⟩ := aT4 hen s c g
              exact g2 _ _ _ hd2 (e1.2.2 s d hd1)
            · simp [T.aD7] at g) e2 g3 (fun v k hm hge => ((aG4 hxh v k hm).move hge).2) (fun v hv => by unfold ren; rw [if_neg (by omega)]) e5
          cases hx : l.ex with
          | normal => exact absurd hx hne
          | exit id => rw [hx] at hfin; exact hfin
          | goto l => rw [hx] at hfin; exact hfin
          | ret => rw [hx] at hfin; exact hfin
  -- the start
  have dO2 : ∀ v k, (v, k) ∈ h.pre → v ≤ 16777213 := fun v k hm => by have := hh.pre v (bA8.2 ⟨k, hm⟩); omega
  have hF0 : Fits C h.ng B ρ (aE8 h.pre .leaf) w := hF.sub fun v k hv => hpre v k (aP5 dO2 hv)
  obtain ⟨g1, g2⟩ := aG6 (C := C) (D := D start (fun t => a.tmps.getD t undef)) (ρ := ρ) (K := frz B ρ h w) (hP _ _).symm (hi _ _).symm (hn _ _).symm hF0 (hth0 _) (fun v _ => rfl) hng h0h h0n
    (fun k hk => by
      rcases hk with hk | hk
      · exact hF.size k hk
      · exact hk.1) (fun k hk => bT9 k (hF.low k (by rw [← hn start _]; exact hk))) (fun v k r hm hkr hr hk => by
      rcases hk with hk | hk
      · exact hk
      · obtain ⟨⟨j, hj, hjk⟩, _⟩ := aG4 h0h v k hm
        exact absurd rfl (hk.2 _ j r (aP5 dO2 hj) (by rw [← dF3 hjk]; exact hkr) hr))
  refine key _ start (Nat.lt_succ_self _) hstart _ _ a w g1 (fun v hv => by unfold ren; rw [if_neg (by omega)]) (Below.refl _ _) hsz (fun s y hs => ?_) (fun t ht => rfl) fun ρ' a' w' k1 k2 k3 k4 k5 k6 k7 k8 => ?_
  · obtain ⟨b, hb1, hb2⟩ := aT4 h0e s y hs
    refine g2 _ _ _ hb2 (hslots s b ?_)
    rcases aI4 _ _ (fun p hp => bQ4 hlp p hp) s b hb1 with g | g
    · exact g
    · simp [T.aD7] at g
  · exact hK ρ' a' w' (by rw [k1, hsz]) k2 k3 k4 (bS4 hh hF hpre hfree k8 k5 k7 k6) k7 (Below.less k8 bT9)
end
end Go.AX
end
section
namespace Go.AX
noncomputable section
def dD8 : List Nat → List Nat → Bool
  | [], [] => true
  | a :: l, b :: m => Nat.beq a b && dD8 l m
  | _, _ => false
theorem cQ3 : ∀ {a b : List Nat}, dD8 a b = true → a = b
  | [], [], _ => rfl
  | [], _ :: _, h => by cases h
  | _ :: _, [], h => by cases h
  | a :: l, b :: m, h => by
    simp only [dD8, Bool.and_eq_true] at h
    rw [Nat.eq_of_beq_eq_true h.1, cQ3 h.2]
def aY1 (l : LF) (h : LH) (nt : Nat) (keep : List Nat) (ex : Ex) (ng n0 n1 : Nat) : Bool := dD8 l.keep keep && Nat.beq l.nt nt && exB l.ex ex && Nat.beq h.ng ng && Nat.beq h.n0 n0 && Nat.beq h.n1 n1 && lfB l.pre
def aN8 (l : LF) (h : LH) (nt n0 nh : Nat) (th0 : List (Nat × AV)) (sg0 : List (Nat × Nat)) (ep : List (Nat × AV)) (hp : List (Nat × Ent)) : Bool := bR4 th0 (sgB n0 nh sg0) (aM6 l.pre nt) ep && aK1 n0 nh th0 sg0 (aE8 h.pre .leaf) hp && aJ7 (numsOf n0 sg0 hp)
def aY4 (l : LF) (h : LH) (nt n0 n1 : Nat) (thx : List (Nat × AV)) (epx : List (Nat × AV)) (hpx : List (Nat × Ent)) : Bool := bR4 thx (sgB n0 n1 []) (aM6 epx nt) l.post && aK1 n0 n1 thx [] (aE8 hpx .leaf) h.post && aJ7 (numsOf n0 [] h.post)
theorem aE0 {C1 C2 : Cx} : ThOk C1 C2 [] := fun i c h => by cases h
theorem aJ2 {C1 C2 : Cx} {i : Nat} {c : AV} {r : List (Nat × AV)} (h : Is C1 c (C2.nu i)) (ht : ThOk C1 C2 r) : ThOk C1 C2 ((i, c) :: r) := fun j d hd => by
  unfold thAt at hd
  cases hb : Nat.beq i j with
  | true =>
    rw [hb, cond_true] at hd
    injection hd with hd
    have := Nat.eq_of_beq_eq_true hb
    subst this; subst hd; exact h
  | false => rw [hb, cond_false] at hd; exact ht j d hd
theorem isTo {C : Cx} {a : AV} {v u : Value} (h : Is C a v) (e : v = u) : Is C a u := e ▸ h
theorem cR9 {C E : Cx} {body : Code} {l : LF} {h : LH} {keep : List Nat} {nt : Nat} {ex : Ex} {ng n0 nh n1 : Nat} {α : Type} {ep : α → List (Nat × AV)} {hp : α → List (Nat × Ent)} {epx : List (Nat × AV)} {hpx : List (Nat × Ent)} (I : α → Prop) (μ : α → Nat) (D : α → (Nat → Value) → Cx)
    (hP : ∀ x X, (D x X).P = C.P) (hi : ∀ x X, (D x X).inv = C.inv) (hn : ∀ x X, (D x X).nst = C.nst) (hX : ∀ x X t, t ∈ keep → (D x X).nu (1000000 + t) = X t)
    (hPE : E.P = C.P) (hiE : E.inv = C.inv) (hnE : E.nst = C.nst) (hl : l.hp = some h) (hs : aY1 l h nt keep ex ng n0 n1 = true)
    (hb : ∀ x, (lfB (ep x) && lfC keep) = true) (hbx : lfB epx = true) (hnh : (Nat.ble n0 nh && Nat.ble nh n1) = true)
    (start : α) (hstart : I start) {th0 : List (Nat × AV)} {sg0 : List (Nat × Nat)} (hth0 : ∀ X, ThOk C (D start X) th0) (h0 : aN8 l h nt n0 nh th0 sg0 (ep start) (hp start) = true)
    {thx : List (Nat × AV)} (hthx : ThOk E C thx) (hx : aY4 l h nt n0 n1 thx epx hpx = true)
    (hr : ∀ x X, I x → aF4 E body keep nt ex ng n0 nh n1 ep hp epx hpx I μ D x X) : LfOk C body l := by
  simp only [aY1, aN8, aY4, Bool.and_eq_true] at hs h0 hx hnh
  exact LfOk.h hl (loop_okH I μ D hP hi hn hX hPE hiE hnE (cQ3 hs.1.1.1.1.1.1) (Nat.eq_of_beq_eq_true hs.1.1.1.1.1.2) (dO8 hs.1.1.1.1.2) (Nat.eq_of_beq_eq_true hs.1.1.1.2) (Nat.eq_of_beq_eq_true hs.1.1.2) (Nat.eq_of_beq_eq_true hs.1.2) hb hbx
    ⟨Nat.le_of_ble_eq_true hnh.1, Nat.le_of_ble_eq_true hnh.2⟩ start hstart hth0 h0.1.1 hs.2 h0.1.2 h0.2 hthx hx.1.1 hx.1.2 hx.2 hr)
section
variable {E : Cx} {body : Code} {keep : List Nat} {nt : Nat} {ex : Ex} {ng n0 nh n1 : Nat} {α : Type} {ep : α → List (Nat × AV)} {hp : α → List (Nat × Ent)} {epx : List (Nat × AV)} {hpx : List (Nat × Ent)} {I : α → Prop} {μ : α → Nat} {D : α → (Nat → Value) → Cx} {x : α} {X : Nat → Value}
theorem aF4.next {tb : Tab} {L : List LF} {f : Nat} {th : List (Nat × AV)} {sg : List (Nat × Nat)} (y : α) (hall : aF3 (D x X) tb) (hlp : LpOk (D x X) L body) (hng : tb.ng = ng) (hy : I y) (hlt : μ y < μ x) (hth : ThOk (D x X) (D y X) th)
    (hrun : bA0 (code tb f L body (aM6 (aH9 (ep x) keep) nt) ⟨aE8 (hp x) .leaf, nh, 0, 0⟩) .normal keep nt n1 th sg n0 nh (ep y) (hp y) = true) : aF4 E body keep nt ex ng n0 nh n1 ep hp epx hpx I μ D x X :=
  ⟨tb, L, f, th, sg, hall, hlp, hng, .inl ⟨y, hy, hlt, hth, hrun⟩⟩
theorem aF4.leave {tb : Tab} {L : List LF} {f : Nat} {th : List (Nat × AV)} {sg : List (Nat × Nat)} (hall : aF3 (D x X) tb) (hlp : LpOk (D x X) L body) (hng : tb.ng = ng) (hne : exB ex .normal = false) (hth : ThOk (D x X) E th)
    (hrun : bA0 (code tb f L body (aM6 (aH9 (ep x) keep) nt) ⟨aE8 (hp x) .leaf, nh, 0, 0⟩) ex keep nt n1 th sg n0 n1 epx hpx = true) : aF4 E body keep nt ex ng n0 nh n1 ep hp epx hpx I μ D x X :=
  ⟨tb, L, f, th, sg, hall, hlp, hng, .inr ⟨(fun e => by subst e; cases hne), hth, hrun⟩⟩
end
/- classes of bytes, by a mask -/
end
end Go.AX
namespace Go.AX
theorem bU1 {C : Cx} {x : Bool} (h : x = true) : Den C (.b true) (.bool x) := by subst h; exact denB true
theorem denBF {C : Cx} {x : Bool} (h : ¬ (x = true)) : Den C (.b false) (.bool x) := by
  cases x with
  | true => exact absurd rfl h
  | false => exact denB false
end Go.AX
namespace Go.AX
theorem thX {C1 C2 : Cx} {i id : Nat} {r : List (Nat × AV)} (h : C1.nu id = C2.nu i) (ht : ThOk C1 C2 r) : ThOk C1 C2 ((i, .x id) :: r) :=
  aJ2 (fun ρ v hv => by simp only [Rel] at hv; rw [hv, h]) ht
theorem thXi {C1 C2 : Cx} {i id : Nat} {k : IntKind} {a b : Int} {r : List (Nat × AV)} (h1 : C1.nu id = .int k a) (h2 : C2.nu i = .int k b) (e : a = b) (ht : ThOk C1 C2 r) : ThOk C1 C2 ((i, .x id) :: r) :=
  thX (by rw [h1, h2, e]) ht
end Go.AX
end
section
namespace Go.AX
end Go.AX
namespace Go.AX
theorem dropE {l : List UInt8} {P : Int} : List.drop (Int.toNat P) l = (l.drop P.toNat).take ((l.length : Int) - P).toNat := by
  rw [List.take_of_length_le]; rw [List.length_drop]; omega
end Go.AX
namespace Go.AX
end Go.AX
namespace Go.AX
end Go.AX
end
section
namespace Go.AX
noncomputable section
def rwS (l : List (List UInt8)) : Value := .tuple ⟨l.map St'⟩
def rX (l : List Value) (X : Nat → Value) (t : Nat) : Value := cond (Nat.blt t 1000000) (X t) (nuL l (t - 1000000))
theorem aS7 {l : List Value} {X : Nat → Value} {t : Nat} (h : t < 1000000) : rX l X t = X t := by
  have : Nat.blt t 1000000 = true := by rw [Nat.blt_eq]; exact h
  unfold rX; rw [this, cond_true]
section
variable {C : Cx} {x y i r : AV} {l : List (List UInt8)}
theorem kRn (hr : Den C r (rwS [])) : HOk C .rn r := fun ρ => hr ρ
end
end
end Go.AX
end
section
namespace Go.AX
abbrev LB := List UInt8
abbrev LA := List (Nat × AV)
abbrev LE := List (Nat × Ent)
abbrev LK := List (HK × AV)
section
variable {C : Cx} {i j m : Nat} {k : IntKind} {a b c : Int} {n : Nat} {l : List UInt8}
theorem iN : Is C (.i k (.ofNat n)) (.int k (n : Int)) := isI k (Int.ofNat n)
theorem ltT (h1 : C.nu i = .int k a) (h2 : C.nu j = .int k b) (h : a < b) : HOk C (.bin .lss (.x i) (.x j)) (.b true) := kLt (isX h1) (isX h2) (decide_eq_true h)
theorem ltF (h1 : C.nu i = .int k a) (h2 : C.nu j = .int k b) (h : ¬ a < b) : HOk C (.bin .lss (.x i) (.x j)) (.b false) := kLt (isX h1) (isX h2) (decide_eq_false h)
theorem ltcT (h1 : C.nu i = .int k a) (h : a < (n : Int)) : HOk C (.bin .lss (.x i) (.i k (.ofNat n))) (.b true) := kLt (isX h1) iN (decide_eq_true h)
theorem ltcF (h1 : C.nu i = .int k a) (h : ¬ a < (n : Int)) : HOk C (.bin .lss (.x i) (.i k (.ofNat n))) (.b false) := kLt (isX h1) iN (decide_eq_false h)
theorem lecT (h1 : C.nu i = .int k a) (h : a ≤ (n : Int)) : HOk C (.bin .leq (.x i) (.i k (.ofNat n))) (.b true) := kLe (isX h1) iN (decide_eq_true h)
theorem lecF (h1 : C.nu i = .int k a) (h : ¬ a ≤ (n : Int)) : HOk C (.bin .leq (.x i) (.i k (.ofNat n))) (.b false) := kLe (isX h1) iN (decide_eq_false h)
theorem gtcT (h1 : C.nu i = .int k a) (h : (n : Int) < a) : HOk C (.bin .gtr (.x i) (.i k (.ofNat n))) (.b true) := kGt (isX h1) iN (decide_eq_true h)
theorem gtcF (h1 : C.nu i = .int k a) (h : ¬ (n : Int) < a) : HOk C (.bin .gtr (.x i) (.i k (.ofNat n))) (.b false) := kGt (isX h1) iN (decide_eq_false h)
theorem gecT (h1 : C.nu i = .int k a) (h : (n : Int) ≤ a) : HOk C (.bin .geq (.x i) (.i k (.ofNat n))) (.b true) := kGe (isX h1) iN (decide_eq_true h)
theorem gecF (h1 : C.nu i = .int k a) (h : ¬ (n : Int) ≤ a) : HOk C (.bin .geq (.x i) (.i k (.ofNat n))) (.b false) := kGe (isX h1) iN (decide_eq_false h)
theorem eqcT (h1 : C.nu i = .int k a) (h : a = (n : Int)) : HOk C (.bin .eql (.x i) (.i k (.ofNat n))) (.b true) := kEqI (isX h1) iN (decide_eq_true h)
theorem eqcF (h1 : C.nu i = .int k a) (h : ¬ a = (n : Int)) : HOk C (.bin .eql (.x i) (.i k (.ofNat n))) (.b false) := kEqI (isX h1) iN (decide_eq_false h)
theorem necF (h1 : C.nu i = .int k a) (h : a = (n : Int)) : HOk C (.bin .neq (.x i) (.i k (.ofNat n))) (.b false) := kNeI (isX h1) iN (neF h)
theorem adX (h1 : C.nu i = .int .i64 a) (h2 : C.nu j = .int .i64 b) (h3 : C.nu m = .int .i64 c) (h : a + b = c ∧ -9223372036854775808 ≤ c ∧ c ≤ 9223372036854775807) : HOk C (.bin .add (.x i) (.x j)) (.x m) := kAdd (isX h1) (isX h2) (denX h3) h.1 (fI64 h.2.1 h.2.2)
theorem adC (h1 : C.nu i = .int .i64 a) (h3 : C.nu m = .int .i64 c) (h : a + (n : Int) = c ∧ -9223372036854775808 ≤ c ∧ c ≤ 9223372036854775807) : HOk C (.bin .add (.x i) (.i .i64 (.ofNat n))) (.x m) := kAdd (isX h1) iN (denX h3) h.1 (fI64 h.2.1 h.2.2)
theorem sbC (h1 : C.nu i = .int .i64 a) (h3 : C.nu m = .int .i64 c) (h : a - (n : Int) = c ∧ -9223372036854775808 ≤ c ∧ c ≤ 9223372036854775807) : HOk C (.bin .sub (.x i) (.i .i64 (.ofNat n))) (.x m) := kSub (isX h1) iN (denX h3) h.1 (fI64 h.2.1 h.2.2)
theorem ixC (h1 : C.nu i = St' l) (h3 : C.nu m = .int .u8 (bt l n)) (h : n < l.length) : HOk C (.idx (.x i) (.i k (.ofNat n))) (.x m) := kIdxE (i := n) (isX h1) iN (denX h3) rfl h rfl
theorem lnV (h1 : C.nu i = St' l) (h3 : C.nu m = .int .i64 c) (h : (l.length : Int) = c) : HOk C (.len (.x i)) (.x m) := kLenE (isX h1) (denX h3) h
theorem lenMd {P Q : Int} (h : 0 ≤ P ∧ P ≤ Q ∧ Q ≤ (l.length : Int)) : ((List.take (Int.toNat (Q - (P))) (List.drop (Int.toNat (P)) l)).length : Int) = Q - P := by rw [List.length_take, List.length_drop]; omega
end
end Go.AX
namespace Go.AX
theorem thXv {C1 C2 : Cx} {i id : Nat} {v : Value} {r : List (Nat × AV)} (h1 : C1.nu id = v) (h2 : C2.nu i = v) (ht : ThOk C1 C2 r) : ThOk C1 C2 ((i, .x id) :: r) := thX (h1.trans h2.symm) ht
end Go.AX
namespace Go.AX
theorem thXe {C1 C2 : Cx} {i id : Nat} {v u : Value} {r : List (Nat × AV)} (h1 : C1.nu id = v) (h2 : C2.nu i = u) (e : v = u) (ht : ThOk C1 C2 r) : ThOk C1 C2 ((i, .x id) :: r) := thX (h1.trans (e.trans h2.symm)) ht
end Go.AX
end
