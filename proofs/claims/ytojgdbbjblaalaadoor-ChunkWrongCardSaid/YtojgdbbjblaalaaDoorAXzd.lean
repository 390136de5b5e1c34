/- A part of the proof: an interpreter of the model's own code on partly known states, and that what it answers is what the program answers. No condition of its own. -/
import Derived.Test.YtojgdbbjblaalaaDoorAXzc
import Derived.LoopN
set_option linter.unusedSimpArgs false
set_option linter.unusedVariables false
namespace Go.AX
open Go.RowKit (Below)
/-- a call without arguments of which the answer is known -/
def SumOk (C : Cx) (g : Nat) (v : AV) : Prop := ∀ w : World, C.inv w → C.nst ≤ w.heap.size → Calls C.P g #[] w fun e w' => ∃ x, e = .returned x ∧ Rel C (fun _ => none) v x ∧ Below w.heap.size w w'
/-- a function without a body -/
def ExtOk (C : Cx) (tb : Tab) (e : Nat) (fn : Func) : Prop := Extern.findNext fn = none ∧ ∃ r, Extern.find fn = some r ∧
  ∀ (B : Nat) (l : List AV) (S : St) (v : AV) (S' : St) (ρ : Rho) (w : World) (args : List Value), ext tb e l S = some (v, S') → Fits C tb.ng B ρ S.heap w → tb.ng ≤ S.next → RelL C ρ l args → Free ρ S.next S'.next →
    ∃ ρ' x w', (r ⟨args⟩).run C.P w = .ok x w' ∧ Rel C ρ' v x ∧ Fits C tb.ng B ρ' S'.heap w' ∧ Ext ρ ρ' S.next S'.next ∧ Below B w w'
structure FnOk (C : Cx) (tb : Tab) (g : Nat) (fi : FI) (fn : Func) : Prop where
  at_ : C.P.funcs[g]? = some fn
  name : (fn.name == "runtime.NumGoroutine") = false
  body : fn.body = fi.body
  nt : fn.ntmps = fi.ntmps
  res : fn.results.toList = fi.res
  reg : ∀ c, fi.body = some c → codeOk c = true
  sum : ∀ v, fi.sum = some v → fi.body.isSome = true ∧ SumOk C g v
  ext : fi.body = none → fi.ext = 0 ∨ ExtOk C tb fi.ext fn
structure AllOk (C : Cx) (tb : Tab) : Prop where
  tab : TabOk C tb
  met : MetOk C tb
  fn : ∀ g fi, tb.fn.get g = some fi → ∃ fn, FnOk C tb g fi fn
  mix : C.P.follows .mixedOrders = true
def exOf : Ex → Exit
  | .normal => .normal
  | .exit id => .exit id
  | .goto l => .goto l
  | .ret => .ret
section
variable {C : Cx} {tb : Tab} {B F : Nat}
def Post (C : Cx) (tb : Tab) (B : Nat) (ρ : Rho) (S : St) (E' : Env) (S' : St) (a : Act) (w : World) (K : Act → World → Prop) : Prop :=
  ∀ ρ' a' w', EnvOk C ρ' E' a' → a'.defers = a.defers → Fits C tb.ng B ρ' S'.heap w' → Ext ρ ρ' S.next S'.next → Below B w w' → K a' w'
theorem Good.le {α : Type} {m : M α} (h : Good m) {S S' : St} {x : α} (hm : m S = some (x, S')) : S.next ≤ S'.next := h.mono _ _ _ hm
theorem opsT_ok (hcall : ∀ g, g < F → CallOk C tb B (call tb g)) (ht : TabOk C tb) (hm : MetOk C tb) {ops : Array Oper} {Q : Exit → Act → World → Prop} :
    ∀ (f : Nat), f ≤ F → ∀ (r : List Oper) (n : Nat) (E : Env) (S : St) (E' : Env) (S' : St) (ρ : Rho) (a : Act) (w : World), (∀ k o, r[k]? = some o → ops[n + k]? = some o) → opsT tb f ops.toList r E S = some (E', S') →
      Fits C tb.ng B ρ S.heap w → tb.ng ≤ S.next → EnvOk C ρ E a → Free ρ S.next S'.next → Post C tb B ρ S E' S' a w (Q .normal) → wpOps C.P ops Q (List.range' n r.length) a w
  | 0, _, r, n, E, S, E', S', ρ, a, w, _, h, _, _, _, _, _ => by unfold opsT at h; exact (fail_inv h).elim
  | f + 1, hf, [], n, E, S, E', S', ρ, a, w, _, h, hF, hng, hE, hfree, hP => by
    unfold opsT at h
    obtain ⟨rfl, rfl⟩ := ret_inv h
    exact hP ρ a w hE rfl hF (Ext.refl _ _ _) (Below.refl _ _)
  | f + 1, hf, o :: r, n, E, S, E', S', ρ, a, w, hr, h, hF, hng, hE, hfree, hP => by
    unfold opsT at h
    obtain ⟨b, hb, h1⟩ := lb h
    have ho : ops[n]? = some o := by simpa using hr 0 o rfl
    have hr' : ∀ k x, r[k]? = some x → ops[n + 1 + k]? = some x := fun k x hk => by
      have := hr (k + 1) x (by simpa using hk)
      rw [show n + 1 + k = n + (k + 1) by omega]; exact this
    have hwant := wanted_ok hE hb
    show wpOps C.P ops Q (n :: List.range' (n + 1) r.length) a w
    unfold wpOps
    simp only [ho]
    rw [hwant]
    cases b with
    | true =>
      rw [cond_true] at h1
      simp only [if_true]
      left
      obtain ⟨v, S1, h2, h3⟩ := bnd_inv h1
      obtain ⟨E1, hp, h4⟩ := lb h3
      cases f with
      | zero => unfold oper at h2; exact (fail_inv h2).elim
      | succ g =>
        rw [oper_eq] at h2
        have l1 := (Good.operF (goodF tb g).call o (op tb.ng E.tm)).le h2
        have l2 := ((goodF tb (g + 1)).opsT _ _ _).le h4
        refine operF_ok (hcall g (by omega)) ht hm h2 hF hng (fun x _ => op_ok hF hE x) (hfree.left l2) fun ρ' x w' r1 r2 r3 r4 => ?_
        have hs := r3.sub (hfree.left l2)
        refine opsT_ok hcall ht hm (g + 1) (Nat.le_of_succ_le hf) r (n + 1) E1 S1 E' S' ρ' (a.put o.dst x) w' hr' h4 r2 (by omega) ((hE.mono hs).put hp r1) (hfree.right l1 r3) fun ρ2 a2 w2 p1 p2 p3 p4 p5 => ?_
        exact hP ρ2 a2 w2 p1 (by rw [p2, put_tmps]) p3 (r3.trans p4 l1 l2) (r4.trans p5)
    | false =>
      rw [cond_false] at h1
      simp only [Bool.false_eq_true, if_false]
      obtain ⟨E1, hp, h4⟩ := lb h1
      refine opsT_ok hcall ht hm f (Nat.le_of_succ_le hf) r (n + 1) E1 S E' S' ρ (a.put o.dst undef) w hr' h4 hF hng (hE.put hp (by simp only [Rel, RelL]; exact ⟨[], rfl, rfl⟩)) hfree fun ρ2 a2 w2 p1 p2 p3 p4 p5 => ?_
      exact hP ρ2 a2 w2 p1 (by rw [p2, put_tmps]) p3 p4 p5
theorem rw_of {ρ : Rho} {S : St} {w : World} {hi : Nat} {ng : Nat} (hF : Fits C ng B ρ S.heap w) (hfree : Free ρ S.next hi) : Rw S hi := fun v h1 h2 => by
  cases hg : S.heap.get v with
  | none => rfl
  | some k =>
    obtain ⟨r, hr, _⟩ := hF.blk v k hg
    rw [hfree v h1 h2] at hr; cases hr
theorem code_ok (hcall : ∀ g, g < F → CallOk C tb B (call tb g)) (ht : TabOk C tb) (hm : MetOk C tb) (hmix : C.P.follows .mixedOrders = true) :
    ∀ (f : Nat), f ≤ F → ∀ (c : Code) (E : Env) (S : St) (ex : Ex) (E' : Env) (S' : St) (ρ : Rho) (a : Act) (w : World) (Q : Exit → Act → World → Prop), codeOk c = true → code tb f c E S = some ((ex, E'), S') →
      Fits C tb.ng B ρ S.heap w → tb.ng ≤ S.next → EnvOk C ρ E a → Free ρ S.next S'.next → Post C tb B ρ S E' S' a w (Q (exOf ex)) → c.wp C.P Q a w ∧ ∀ z, c = .loop z → Code.rounds C.P z Q f a w
  | 0, _, c, E, S, ex, E', S', ρ, a, w, Q, _, h, _, _, _, _, _ => by unfold code at h; exact (fail_inv h).elim
  | f + 1, hf, c, E, S, ex, E', S', ρ, a, w, Q, hc, h, hF, hng, hE, hfree, hP => by
    have hf' := Nat.le_of_succ_le hf
    have here : ∀ {x : Ex}, (x, E) = (ex, E') → S' = S → Q (exOf x) a w := fun {x} e1 e2 => by
      injection e1 with e1 e3; subst e1; subst e2; subst e3
      exact hP ρ a w hE rfl hF (Ext.refl _ _ _) (Below.refl _ _)
    cases c with
    | skip => unfold code at h; obtain ⟨e1, e2⟩ := ret_inv h; refine ⟨?_, fun z e => by cases e⟩; exact wp_skip (here e1.symm e2)
    | label l => unfold code at h; obtain ⟨e1, e2⟩ := ret_inv h; refine ⟨?_, fun z e => by cases e⟩; exact wp_label (here e1.symm e2)
    | exit id => unfold code at h; obtain ⟨e1, e2⟩ := ret_inv h; refine ⟨?_, fun z e => by cases e⟩; exact wp_exit (here e1.symm e2)
    | goto l => unfold code at h; obtain ⟨e1, e2⟩ := ret_inv h; refine ⟨?_, fun z e => by cases e⟩; exact wp_goto (here e1.symm e2)
    | ret => unfold code at h; obtain ⟨e1, e2⟩ := ret_inv h; refine ⟨?_, fun z e => by cases e⟩; exact wp_ret (here e1.symm e2)
    | seq x y =>
      refine ⟨?_, fun z e => by cases e⟩
      unfold code at h
      simp only [codeOk, Bool.and_eq_true] at hc
      obtain ⟨p, S1, h1, h2⟩ := bnd_inv h
      obtain ⟨ex1, E1⟩ := p
      have l1 := ((goodF tb f).code _ _).le h1
      refine wp_seq ?_
      cases ex1 with
      | normal =>
        simp only [] at h2
        have l2 := ((goodF tb f).code _ _).le h2
        refine And.left <| code_ok hcall ht hm hmix f hf' x E S .normal E1 S1 ρ a w _ hc.1 h1 hF hng hE (hfree.left l2) fun ρ1 a1 w1 p1 p2 p3 p4 p5 => ?_
        show y.wp C.P Q a1 w1
        refine And.left <| code_ok hcall ht hm hmix f hf' y E1 S1 ex E' S' ρ1 a1 w1 Q hc.2 h2 p3 (by omega) p1 (hfree.right l1 p4) fun ρ2 a2 w2 q1 q2 q3 q4 q5 => ?_
        exact hP ρ2 a2 w2 q1 (q2.trans p2) q3 (p4.trans q4 l1 l2) (p5.trans q5)
      | exit id =>
        obtain ⟨e1, rfl⟩ := ret_inv h2
        injection e1 with e1 e2; subst e1; subst e2
        exact And.left <| code_ok hcall ht hm hmix f hf' x E S _ _ _ ρ a w _ hc.1 h1 hF hng hE hfree hP
      | goto l =>
        obtain ⟨e1, rfl⟩ := ret_inv h2
        injection e1 with e1 e2; subst e1; subst e2
        exact And.left <| code_ok hcall ht hm hmix f hf' x E S _ _ _ ρ a w _ hc.1 h1 hF hng hE hfree hP
      | ret =>
        obtain ⟨e1, rfl⟩ := ret_inv h2
        injection e1 with e1 e2; subst e1; subst e2
        exact And.left <| code_ok hcall ht hm hmix f hf' x E S _ _ _ ρ a w _ hc.1 h1 hF hng hE hfree hP
    | cond q x y =>
      refine ⟨?_, fun z e => by cases e⟩
      unfold code at h
      simp only [codeOk, Bool.and_eq_true] at hc
      have hq := op_ok hF hE q
      simp only [] at h
      cases hop : op tb.ng E.tm q <;> rw [hop] at h hq <;> try exact (fail_inv h).elim
      rename_i b
      simp only [Rel] at hq
      refine wp_cond hq ?_
      cases b with
      | true => exact And.left <| code_ok hcall ht hm hmix f hf' x E S ex E' S' ρ a w Q hc.1 h hF hng hE hfree hP
      | false => exact And.left <| code_ok hcall ht hm hmix f hf' y E S ex E' S' ρ a w Q hc.2 h hF hng hE hfree hP
    | block id x =>
      refine ⟨?_, fun z e => by cases e⟩
      unfold code at h
      simp only [codeOk] at hc
      obtain ⟨p, S1, h1, h2⟩ := bnd_inv h
      obtain ⟨ex1, E1⟩ := p
      refine wp_block ?_
      cases ex1 with
      | exit j =>
        simp only [] at h2
        cases hj : Nat.beq j id with
        | true =>
          rw [hj, cond_true] at h2
          have hji := Nat.eq_of_beq_eq_true hj
          subst hji
          obtain ⟨e1, rfl⟩ := ret_inv h2
          injection e1 with e1 e2; subst e1; subst e2
          refine And.left <| code_ok hcall ht hm hmix f hf' x E S (.exit j) _ _ ρ a w _ hc h1 hF hng hE hfree fun ρ1 a1 w1 p1 p2 p3 p4 p5 => ?_
          show Exit.inBlock j Q (.exit j) a1 w1
          simp only [Exit.inBlock, if_true]
          exact hP ρ1 a1 w1 p1 p2 p3 p4 p5
        | false =>
          rw [hj, cond_false] at h2
          have hji : j ≠ id := fun e => by rw [e, Nat.beq_refl] at hj; cases hj
          obtain ⟨e1, rfl⟩ := ret_inv h2
          injection e1 with e1 e2; subst e1; subst e2
          refine And.left <| code_ok hcall ht hm hmix f hf' x E S (.exit j) _ _ ρ a w _ hc h1 hF hng hE hfree fun ρ1 a1 w1 p1 p2 p3 p4 p5 => ?_
          show Exit.inBlock id Q (.exit j) a1 w1
          simp only [Exit.inBlock, if_neg hji]
          exact hP ρ1 a1 w1 p1 p2 p3 p4 p5
      | normal =>
        obtain ⟨e1, rfl⟩ := ret_inv h2
        injection e1 with e1 e2; subst e1; subst e2
        exact And.left <| code_ok hcall ht hm hmix f hf' x E S _ _ _ ρ a w _ hc h1 hF hng hE hfree hP
      | goto l =>
        obtain ⟨e1, rfl⟩ := ret_inv h2
        injection e1 with e1 e2; subst e1; subst e2
        exact And.left <| code_ok hcall ht hm hmix f hf' x E S _ _ _ ρ a w _ hc h1 hF hng hE hfree hP
      | ret =>
        obtain ⟨e1, rfl⟩ := ret_inv h2
        injection e1 with e1 e2; subst e1; subst e2
        exact And.left <| code_ok hcall ht hm hmix f hf' x E S _ _ _ ρ a w _ hc h1 hF hng hE hfree hP
    | loop x =>
      unfold code at h
      have hc0 := hc
      simp only [codeOk] at hc
      obtain ⟨p, S1, h1, h2⟩ := bnd_inv h
      obtain ⟨ex1, E1⟩ := p
      have l1 := ((goodF tb f).code _ _).le h1
      refine (fun hr => ⟨wp_loop_rounds _ hr, fun z e => by cases e; exact hr⟩) (?_ : Code.rounds C.P x Q (f + 1) a w)
      show x.wp C.P (Exit.then (Code.rounds C.P x Q f) Q) a w
      cases ex1 with
      | normal =>
        simp only [] at h2
        have l2 := ((goodF tb f).code _ _).le h2
        refine And.left <| code_ok hcall ht hm hmix f hf' x E S .normal E1 S1 ρ a w _ hc h1 hF hng hE (hfree.left l2) fun ρ1 a1 w1 p1 p2 p3 p4 p5 => ?_
        show Code.rounds C.P x Q f a1 w1
        refine (code_ok hcall ht hm hmix f hf' (.loop x) E1 S1 ex E' S' ρ1 a1 w1 Q hc0 h2 p3 (by omega) p1 (hfree.right l1 p4) ?_).2 x rfl
        intro ρ2 a2 w2 q1 q2 q3 q4 q5
        exact hP ρ2 a2 w2 q1 (q2.trans p2) q3 (p4.trans q4 l1 l2) (p5.trans q5)
      | exit id =>
        obtain ⟨e1, rfl⟩ := ret_inv h2
        injection e1 with e1 e2; subst e1; subst e2
        exact And.left <| code_ok hcall ht hm hmix f hf' x E S _ _ _ ρ a w _ hc h1 hF hng hE hfree hP
      | goto l =>
        obtain ⟨e1, rfl⟩ := ret_inv h2
        injection e1 with e1 e2; subst e1; subst e2
        exact And.left <| code_ok hcall ht hm hmix f hf' x E S _ _ _ ρ a w _ hc h1 hF hng hE hfree hP
      | ret =>
        obtain ⟨e1, rfl⟩ := ret_inv h2
        injection e1 with e1 e2; subst e1; subst e2
        exact And.left <| code_ok hcall ht hm hmix f hf' x E S _ _ _ ρ a w _ hc h1 hF hng hE hfree hP
    | region id ops draw =>
      refine ⟨?_, fun z e => by cases e⟩
      unfold code at h
      simp only [] at h
      cases draw with
      | false =>
        rw [cond_false] at h
        obtain ⟨E1, S1, h1, h2⟩ := bnd_inv h
        obtain ⟨e1, rfl⟩ := ret_inv h2
        injection e1 with e1 e2; subst e1; subst e2
        refine wp_region ?_
        have hlen : List.range ops.size = List.range' 0 ops.toList.length := by rw [List.range_eq_range', Array.length_toList]
        rw [hlen]
        exact opsT_ok hcall ht hm f hf' ops.toList 0 E S _ _ ρ a w (fun k o hk => by rw [Nat.zero_add]; simpa using hk) h1 hF hng hE hfree hP
      | true =>
        rw [cond_true] at h
        obtain ⟨p, S1, h1, h2⟩ := bnd_inv h
        obtain ⟨E1, l1⟩ := p
        obtain ⟨hord, h3⟩ := cond_inv h2
        obtain ⟨e1, rfl⟩ := ret_inv h3
        injection e1 with e1 e2; subst e1; subst e2
        have hreg : regOk ops.toList = true := by simpa [codeOk] using hc
        obtain ⟨Es, Ss, bs, vs, As, Ws, htr, t1, t2, t3, t4⟩ := tr_of hf' hreg h1 hord (rw_of hF hfree)
        refine wp_region_any hmix ?_
        have hF1 : Fits C tb.ng B ρ S.heap { w with drawn := w.drawn + 1 } := ⟨hF.size, hF.glob, hF.blk, hF.inj, hF.low, C.stab w _ (fun _ _ => rfl) hF.inv⟩
        have hb1 : Below B w { w with drawn := w.drawn + 1 } := ⟨rfl, rfl, rfl, Nat.le_refl _, fun _ _ => rfl⟩
        have hrep : ∀ k, (Array.replicate ops.size false).getD k false = false := fun k => by
          rw [Array.getD_eq_getD_getElem?, Array.getElem?_replicate]; split <;> rfl
        have hrw := rw_of hF hfree
        refine any_ok (ρ0 := ρ) (a0 := a) (w0 := { w with drawn := w.drawn + 1 }) htr (by rw [t1]; exact hE.2.1) (fun g hg => hcall g hg) ht hm (by rw [t2]; exact hng)
          (fun ρ' a' w' q1 q2 q3 q4 q5 => hP ρ' a' w' (by rw [← t3]; exact q1) q2 (by rw [← t4]; exact q3) (by rw [← t2, ← t4]; exact q4) (hb1.trans q5))
          ops.size (Array.replicate ops.size false) ρ S.heap a { w with drawn := w.drawn + 1 } (by simp) ?_ ?_
        · have : ∀ n, left (fun k => (Array.replicate ops.size false).getD k false) n ≤ n := by
            intro n
            induction n with
            | zero => exact Nat.le_refl _
            | succ n ih => unfold left; rw [hrep, cond_false]; omega
          exact this _
        · refine ⟨hF1, fun v => ?_, fun t x hx => ?_, fun j hj _ => ?_, Ext.refl _ _ _, by rw [t1]; exact hE.1, rfl, Below.refl _ _, fun i o e hi => by rw [hrep] at hi; cases hi⟩
          · rw [lw_none (X := fun k => (Ss k).heap.get v) _ (fun j _ => hrep j), t2]
          · rw [lw_none (X := fun k => (Es k).tm.get t) _ (fun j _ => hrep j), t1] at hx
            exact hE.2.2 t x hx
          · intro v hv1 hv2
            have m1 := mono_le htr.mono 0 j (by omega) (by omega)
            have m2 := mono_le htr.mono (j + 1) ops.size (by omega) (Nat.le_refl _)
            rw [t2] at m1; rw [t4] at m2
            exact hfree v (by omega) (by omega)
    | _ => unfold code at h; exact (fail_inv h).elim
end
end Go.AX
