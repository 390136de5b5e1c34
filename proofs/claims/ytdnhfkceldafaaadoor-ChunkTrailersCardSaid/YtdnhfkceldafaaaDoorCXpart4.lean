/- A part of the proof: an interpreter of the model's own code on partly known states, and that what it answers is what the program answers. No condition of its own. -/
import Derived.Test.YtdnhfkceldafaaaDoorCXpart3
import Derived.OpenShut
import Derived.ChangeArms
section
set_option linter.unusedSimpArgs false
set_option linter.unusedVariables false
namespace Go.AX
/- old blocks of which the first cells are known -/
def GArr (C : Cx) (w : World) (g e : Nat) (l : List AV) : Prop :=
  ∃ arr fz, w.heap[g]? = some (.cells arr e fz) ∧ arr.size = l.length ∧ ∀ (j : Nat) (a : AV), l[j]? = some a → ∃ x, arr[j]? = some x ∧ Rel C (fun _ => none) a x ∧ x.oneCell' = true
def CellsAre (l : List AV) (c : Cells) : Prop := CW c ∧ c.toL = l
theorem run_okG {C : Cx} {tb : Tab} (h : AllOk C tb) {f g : Nat} {fi : FI} {l : List AV} {v : AV} {S' : St} {args : List Value} {H : T Ent} (hfi : tb.fn.get g = some fi) (hb : fi.body.isSome = true)
    (hc : call tb f g l ⟨H, tb.ng, 0, 0⟩ = some (v, S')) (hl : RelL C (fun _ => none) l args) (w : World) (hi : C.inv w) (hsz : C.nst ≤ w.heap.size)
    (hH : ∀ v k, H.get v = some k → v < tb.ng ∧ ∃ e c m, k = gBlk e c ∧ CellsAre m c ∧ GArr C w v e m) :
    Calls C.P g ⟨args⟩ w fun e w' => ∃ x ρ, e = .returned x ∧ Rel C ρ v x ∧ Below w.heap.size w w' := by
  have hF : Fits C tb.ng w.heap.size (rho0 tb.ng) H w := by
    refine ⟨Nat.le_refl _, fun g hg => by simp [rho0, hg], fun v k hv => ?_, fun v v' k k' r r' hv hv' h1 h2 h3 => ?_, hsz, hi⟩
    · obtain ⟨hlt, e, c, m, rfl, ⟨hcw, hcm⟩, arr, fz, h1, h2, h3⟩ := hH v k hv
      refine ⟨⟨v, 0, 0, 0⟩, by simp [rho0, hlt], _, h1, rfl, ?_⟩
      have hcl : c.len = m.length := by rw [Cells.len_eq, hcm]
      refine ⟨⟨hcw, fun j a hj => ?_⟩, fun h => (by cases h), fun x hx1 hx2 hx3 => ?_, fun h => (by cases h), fun _ => ⟨Nat.le_refl _, rfl, rfl⟩, ?_, fun _ => rfl⟩
      · have hj : c.toL[j]? = some a := hj
        rw [hcm] at hj
        obtain ⟨x, hx, hr, ho⟩ := h3 j a hj
        exact ⟨x, by simpa using hx, hr.ofNone, ho⟩
      · have hx1 : 0 + c.len ≤ x := hx1
        omega
      · show 0 + c.len ≤ arr.size; omega
    · obtain ⟨l1, _⟩ := hH v k hv
      obtain ⟨l2, _⟩ := hH v' k' hv'
      simp only [rho0, if_pos l1, if_pos l2, Option.some.injEq] at h1 h2
      subst h1; subst h2; exact h3
  have hfree : Free (rho0 tb.ng) tb.ng S'.next := fun v h1 h2 => by simp only [rho0]; rw [if_neg (by omega)]
  obtain ⟨fn, hfn⟩ := h.fn g fi hfi
  have hu := call_ok (B := w.heap.size) h f g l ⟨H, tb.ng, 0, 0⟩ v S' (rho0 tb.ng) w args ⟨some 0, .move (.const undef), 0, "", #[], none⟩ ⟨#[undef], []⟩
    (fun a' w' => ∃ ρ, Rel C ρ v (a'.tmps.getD 0 undef) ∧ Below w.heap.size w w') (fun _ _ _ => False) Fence.wide 0 wide_wide hc hF (Nat.le_refl _) (RelL.mono (fun v r hv => by cases hv) _ _ hl) hfree
    (fun ρ' x w' r1 r2 r3 r4 => ⟨ρ', by simpa [Act.put] using r1, r4⟩)
  rw [callFunc_body hfn.at_ hfn.name (by rw [hfn.body]; exact hb), Oper.uponIn_enter] at hu
  refine Calls.mono (callsIn_wide.1 hu.2) fun e w' he => ?_
  cases e with
  | returned x =>
    obtain ⟨ρ, h1, h2⟩ := he
    exact ⟨x, ρ, rfl, by simpa [Act.put] using h1, h2⟩
  | panicked c => exact he.elim
  | outgrown => obtain ⟨_, _, h⟩ := he; exact h.elim
theorem laidVars_mem {P : Program} {w : World} {name : String} {d : DataW Unit} : ∀ {laid : List (String × DataW Unit)} {ps : List MemPlace}, DataW.LaidVars P w laid ps → (name, d) ∈ laid →
    ∃ g t cs fuel p, P.globalNamed name = some g ∧ (P.globals[g]?).map (·.type) = some t ∧ w.var? P name = some cs ∧ DataW.trod (fun _ => ()) P w 0 (fun _ => true) false fuel t cs.toList = some (d, p)
  | [], _, _, h => by cases h
  | (n, d') :: r, ps, h, hm => by
    obtain ⟨g, t, cs, fuel, p, q, h1, h2, h3, h4, h5, _⟩ := h
    rcases List.mem_cons.1 hm with e | e
    · injection e with e1 e2; subst e1; subst e2
      exact ⟨g, t, cs, fuel, p, h1, h2, h3, h4⟩
    · exact laidVars_mem h5 e
theorem laid_ints {C : Cx} {W : World} {laid : List (String × DataW Unit)} {name : String} {g t e n : Nat} {k : IntKind} {zs : List Int} (h : laidMet C.P laid W)
    (hm : (name, .agg (zs.map fun z => .lit (.int k z))) ∈ laid) (hg : C.P.globalNamed name = some g) (ht : (C.P.globals[g]?).map (·.type) = some t) (hu : C.P.underlying t = some (.array n e))
    (hc : C.P.cellsOf e = 1) (hct : C.P.cellsOf t = n) (hk : C.P.underlying e = some (.int k)) : ∃ ty, GArr C W g ty (zs.map fun z => .i k z) := by
  obtain ⟨ps, hp, _, _⟩ := h
  obtain ⟨g', t', cs, fuel, p, h1, h2, h3, h4⟩ := laidVars_mem hp hm
  rw [hg] at h1; injection h1 with h1; subst h1
  rw [ht] at h2; injection h2 with h2; subst h2
  obtain ⟨xs, m, _, ex, hlen, hxl, hel⟩ := DataW.trod_array hu h4
  have e3 : xs.map (·.1) = zs.map fun z => .lit (.int k z) := (DataW.agg.inj (Prod.mk.inj ex).1).symm
  have hzl : zs.length = n := by have := congrArg List.length e3; simp at this; omega
  unfold World.var? at h3
  rw [hg] at h3
  simp only [Option.bind_some] at h3
  split at h3
  · rename_i arr ty fz hh
    injection h3 with h3
    subst h3
    have hsz : arr.size = n := by rw [← hct, ← hlen]; simp
    refine ⟨ty, arr, fz, hh, by simp [hsz, hzl], fun j a hj => ?_⟩
    rw [List.getElem?_map] at hj
    have hjn : j < n := by
      rcases Nat.lt_or_ge j n with h | h
      · exact h
      · rw [List.getElem?_eq_none (by omega)] at hj; cases hj
    rw [List.getElem?_eq_getElem (by omega : j < zs.length)] at hj
    simp only [Option.map_some, Option.some.injEq] at hj
    subst hj
    have hE := hel j hjn
    rw [hc, Nat.mul_one, List.getElem?_eq_getElem (by omega : j < xs.length)] at hE
    obtain ⟨z, e1, e2, _⟩ := DataW.trod_int hk hE
    have e4 : (xs.map (·.1))[j]? = (zs.map fun z => (DataW.lit (.int k z) : DataW Unit))[j]? := by rw [e3]
    rw [List.getElem?_map, List.getElem?_map, List.getElem?_eq_getElem (by omega : j < xs.length), List.getElem?_eq_getElem (by omega : j < zs.length), e2] at e4
    have hz : z = zs[j] := by
      simp only [Option.map_some, Option.some.injEq, DataW.lit.injEq, Lit.int.injEq, true_and] at e4
      exact e4
    refine ⟨.int k zs[j], ?_, by simp only [Rel], rfl⟩
    have h0 : ((arr.toList.drop j).take 1)[0]? = some (.int k z) := by rw [e1]; rfl
    rw [← hz]
    simpa using h0
  · cases h3
end Go.AX
namespace Go.AX
def ArrIs (w : World) (g : Nat) (k : IntKind) (zs : List Int) : Prop :=
  ∃ ty arr fz, w.heap[g]? = some (.cells arr ty fz) ∧ arr.size = zs.length ∧ ∀ (j : Nat) (z : Int), zs[j]? = some z → arr[j]? = some (.int k z)
theorem ArrIs.size {w : World} {g : Nat} {k : IntKind} {zs : List Int} (h : ArrIs w g k zs) : g < w.heap.size := by
  obtain ⟨ty, arr, fz, hw, _⟩ := h
  rcases Nat.lt_or_ge g w.heap.size with h | h
  · exact h
  · rw [Array.getElem?_eq_none h] at hw; cases hw
theorem ArrIs.same {w w' : World} {g : Nat} {k : IntKind} {zs : List Int} (h : ArrIs w g k zs) (e : w'.heap[g]? = w.heap[g]?) : ArrIs w' g k zs := by
  obtain ⟨ty, arr, fz, hw, hr⟩ := h
  exact ⟨ty, arr, fz, by rw [e]; exact hw, hr⟩
theorem ArrIs.gArr {C : Cx} {w : World} {g : Nat} {k : IntKind} {zs : List Int} (h : ArrIs w g k zs) : ∃ ty, GArr C w g ty (zs.map fun z => .i k z) := by
  obtain ⟨ty, arr, fz, hw, hs, hr⟩ := h
  refine ⟨ty, arr, fz, hw, by simpa using hs, fun j a hj => ?_⟩
  rw [List.getElem?_map] at hj
  cases hz : zs[j]? with
  | none => rw [hz] at hj; cases hj
  | some z =>
    rw [hz] at hj
    simp only [Option.map_some, Option.some.injEq] at hj
    subst hj
    exact ⟨_, hr j z hz, by simp only [Rel], rfl⟩
theorem laid_arr {P : Program} {W : World} {laid : List (String × DataW Unit)} {name : String} {g t e n : Nat} {k : IntKind} {zs : List Int} (h : laidMet P laid W)
    (hm : (name, .agg (zs.map fun z => .lit (.int k z))) ∈ laid) (hg : P.globalNamed name = some g) (ht : (P.globals[g]?).map (·.type) = some t) (hu : P.underlying t = some (.array n e))
    (hc : P.cellsOf e = 1) (hct : P.cellsOf t = n) (hk : P.underlying e = some (.int k)) : ArrIs W g k zs := by
  obtain ⟨ty, arr, fz, h1, h2, h3⟩ := laid_ints (C := ⟨P, fun _ => .bool true, fun _ _ => rfl, 0, fun _ => True, fun _ _ _ h => h⟩) h hm hg ht hu hc hct hk
  refine ⟨ty, arr, fz, h1, by simpa using h2, fun j z hz => ?_⟩
  obtain ⟨x, h4, h5, _⟩ := h3 j (.i k z) (by rw [List.getElem?_map, hz]; rfl)
  simp only [Rel] at h5
  rw [h4, h5]
end Go.AX
end
section
set_option linter.unusedSimpArgs false
set_option linter.unusedVariables false
namespace Go.AX
noncomputable section
theorem fits0 {C : Cx} {ng : Nat} (w : World) (hi : C.inv w) (hsz : C.nst ≤ w.heap.size) : Fits C ng w.heap.size (rho0 ng) (T.leaf : T Ent) w :=
  ⟨Nat.le_refl _, fun g hg => by simp [rho0, hg], fun v k hv => by simp [T.get_leaf] at hv, fun v v' k k' r r' hv => (by simp [T.get_leaf] at hv), hsz, hi⟩
def envOf (l : List (Nat × AV)) (nt : Nat) : Env := ⟨lfPost l .leaf, nt⟩
def headOf (ep : List (Nat × AV)) (keep : List Nat) : List (Nat × AV) := keep.foldl (fun l t => (t, .x (Nat.add 1000000 t)) :: l) ep
theorem headOf_mem (keep : List Nat) : ∀ (ep : List (Nat × AV)) s x, (s, x) ∈ headOf ep keep → (s, x) ∈ ep ∨ (s ∈ keep ∧ x = .x (1000000 + s)) := by
  induction keep with
  | nil => intro ep s x h; exact .inl h
  | cons t r ih =>
    intro ep s x h
    rcases ih _ s x h with h1 | h1
    · rcases List.mem_cons.1 h1 with e | h2
      · injection e with e1 e2; subst e1; exact .inr ⟨List.mem_cons_self .., e2⟩
      · exact .inl h2
    · exact .inr ⟨List.mem_cons_of_mem _ h1.1, h1.2⟩
def slotIs (E : Env) (s : Nat) (y : AV) : Bool := match E.tm.get s with
  | some a => sameR 8 a y && noR 8 y
  | none => false
def slotsAre (E : Env) : List (Nat × AV) → Bool
  | [] => true
  | p :: r => slotIs E p.1 p.2 && slotsAre E r
def keptAre (E : Env) : List Nat → Bool
  | [] => true
  | t :: r => slotIs E t (.x (Nat.add 1000000 t)) && keptAre E r
theorem slotsAre_mem {E : Env} : ∀ {l : List (Nat × AV)}, slotsAre E l = true → ∀ s y, (s, y) ∈ l → E.tm.get s = some y ∧ noR 8 y = true
  | [], _, s, y, h => by cases h
  | p :: r, h, s, y, hm => by
    simp only [slotsAre, slotIs, Bool.and_eq_true] at h
    rcases List.mem_cons.1 hm with e | hm
    · subst e
      have h1 := h.1
      simp only [] at h1
      cases hg : E.tm.get s with
      | none => rw [hg] at h1; cases h1
      | some a => rw [hg] at h1; simp only [Bool.and_eq_true] at h1; exact ⟨by rw [sameR_eq 8 a y h1.1], h1.2⟩
    · exact slotsAre_mem h.2 s y hm
theorem keptAre_mem {E : Env} : ∀ {l : List Nat}, keptAre E l = true → ∀ t, t ∈ l → E.tm.get t = some (.x (1000000 + t))
  | [], _, t, h => by cases h
  | u :: r, h, t, hm => by
    simp only [keptAre, slotIs, Bool.and_eq_true] at h
    rcases List.mem_cons.1 hm with e | hm
    · subst e
      have h1 := h.1
      cases hg : E.tm.get t with
      | none => rw [hg] at h1; cases h1
      | some a => rw [hg] at h1; simp only [Bool.and_eq_true] at h1; rw [sameR_eq 8 a _ h1.1]; rfl
    · exact keptAre_mem h.2 t hm
structure Round (C : Cx) (body : Code) (l : LF) (ep : List (Nat × AV)) {α : Type} (I : α → Prop) (μ : α → Nat) (D : α → (Nat → Value) → Cx) (x : α) (X : Nat → Value) : Prop where
  run : ∃ (tb : Tab) (L : List LF) (f : Nat) (ex : Ex) (E1 : Env) (S1 : St), AllOk (D x X) tb ∧ LpOk (D x X) L body ∧ code tb f L body (envOf (headOf ep l.keep) l.nt) ⟨.leaf, tb.ng, 0, 0⟩ = some ((ex, E1), S1) ∧ keptAre E1 l.keep = true ∧ E1.nt = l.nt ∧
    ((ex = .normal ∧ ∃ (y : α) (q : List (Nat × AV)), I y ∧ μ y < μ x ∧ slotsAre E1 q = true ∧ ∀ s a, (s, a) ∈ ep → ∃ b, (s, b) ∈ q ∧ ∀ v, Rel (D x X) (fun _ => none) b v → Rel (D y X) (fun _ => none) a v) ∨
     (ex ≠ .normal ∧ ex = l.ex ∧ ∃ q : List (Nat × AV), slotsAre E1 q = true ∧ ∀ s a, (s, a) ∈ l.post → ∃ b, (s, b) ∈ q ∧ ∀ v, Rel (D x X) (fun _ => none) b v → Rel C (fun _ => none) a v))
theorem loop_ok {C : Cx} {body : Code} {l : LF} {ep : List (Nat × AV)} {α : Type} (I : α → Prop) (μ : α → Nat) (D : α → (Nat → Value) → Cx)
    (hP : ∀ x X, (D x X).P = C.P) (hi : ∀ x X, (D x X).inv = C.inv) (hn : ∀ x X, (D x X).nst = C.nst) (hX : ∀ x X t, t ∈ l.keep → (D x X).nu (1000000 + t) = X t)
    (hb : (lfB ep && lfC l.keep) = true)
    (start : α) (hstart : I start) (h0 : ∀ X s a, (s, a) ∈ ep → ∃ b, (s, b) ∈ l.pre ∧ ∀ v, Rel C (fun _ => none) b v → Rel (D start X) (fun _ => none) a v)
    (hr : ∀ x X, I x → Round C body l ep I μ D x X) : LfOk C body l := by
  intro Φ ν Q a w hΦ hc hinv hnst hsz hnt hpre hK
  rw [Bool.and_eq_true] at hb
  have hbd : ∀ p, p ∈ headOf ep l.keep → p.1 ≤ 16777213 := fun p hp => by
    obtain ⟨s, x⟩ := p
    rcases headOf_mem _ _ _ _ hp with h | h
    · exact lfB_mem hb.1 _ h
    · exact lfC_mem hb.2 _ h.1
  have key : ∀ (n : Nat) (x : α), μ x < n → I x → ∀ (X : Nat → Value) (a : Act) (w : World), C.inv w → C.nst ≤ w.heap.size → a.tmps.size = l.nt →
      (∀ s y, (s, y) ∈ ep → Rel (D x X) (fun _ => none) y (a.tmps.getD s undef)) → (∀ t, t ∈ l.keep → a.tmps.getD t undef = X t) →
      (∀ a' w', a'.tmps.size = a.tmps.size → (∀ s, s ∈ l.keep → a'.tmps.getD s undef = a.tmps.getD s undef) → (∀ s x, (s, x) ∈ l.post → Rel C (fun _ => none) x (a'.tmps.getD s undef)) → Dfs a a' w w' → Below w.heap.size w w' → Q (exOf l.ex) a' w') →
      RAny Φ ν C.P body Q a w := by
    intro n
    induction n with
    | zero => intro x hx; omega
    | succ n ih =>
      intro x hx hI X a w hinv hnst hsz hep hkeep hK
      obtain ⟨tb, L, f, ex, E1, S1, hall, hlp, hrun, hkept, hnt1, hcase⟩ := (hr x X hI).run
      have hP' := hP x X
      refine RAny.step ?_
      have hE : EnvOk (D x X) (rho0 tb.ng) (envOf (headOf ep l.keep) l.nt) a := by
        refine ⟨hsz, hnt, fun t y ht => ?_⟩
        rcases lfPost_get _ _ hbd t y ht with h | h
        · rcases headOf_mem _ _ _ _ h with h1 | h1
          · exact (hep t y h1).ofNone
          · obtain ⟨h1, rfl⟩ := h1
            simp only [Rel]
            rw [hX x X t h1]; exact hkeep t h1
        · simp [T.get_leaf] at h
      have hfree : Free (rho0 tb.ng) tb.ng S1.next := fun v h1 h2 => by simp only [rho0]; rw [if_neg (by omega)]
      have hmono : ∀ b v, noR 8 b = true → ∀ ρ, Rel (D x X) ρ b v → Rel (D x X) (fun _ => none) b v := fun b v hb ρ h => noR_rel 8 b hb v h
      have hgo := (code_ok (C := D x X) (B := w.heap.size) (F := f) (Φ := Φ) (ν := ν) hΦ (fun g _ => cr_ok hall g) hall.tab hall.met hall.mix hall.fn f (Nat.le_refl _) L body (envOf (headOf ep l.keep) l.nt) ⟨.leaf, tb.ng, 0, 0⟩ ex E1 S1 (rho0 tb.ng) a w
        (Exit.then (RAny Φ ν C.P body Q) Q) hc.loop hlp hrun (fits0 w (by rw [hi]; exact hinv) (by rw [hn]; exact hnst)) (Nat.le_refl _) hE hfree ?_).1
      · rw [hP'] at hgo; exact hgo
      · intro ρ' a' w' e1 e2 e3 e4 e5
        have hkp : ∀ t, t ∈ l.keep → a'.tmps.getD t undef = X t := fun t ht => by
          have := e1.2.2 t _ (keptAre_mem hkept t ht)
          simp only [Rel] at this
          rw [this]; exact hX x X t ht
        have hsz' : a'.tmps.size = l.nt := e1.1.trans hnt1
        rcases hcase with ⟨rfl, y, q, hy, hlt, hq, hm⟩ | ⟨hne, rfl, q, hq, hm⟩
        · show RAny Φ ν C.P body Q a' w'
          refine ih y (by omega) hy X a' w' (by rw [← hi x X]; exact e3.inv) (by have := e5.size; omega) hsz' (fun s b hs => ?_) hkp fun a2 w2 k1 k2 k3 k4 k5 => ?_
          · obtain ⟨c, hc1, hc2⟩ := hm s b hs
            obtain ⟨g1, g2⟩ := slotsAre_mem hq s c hc1
            exact hc2 _ (hmono c _ g2 _ (e1.2.2 s c g1))
          · exact hK a2 w2 (by rw [k1, hsz', hsz]) (fun s hs => by rw [k2 s hs, hkp s hs, hkeep s hs]) k3 (e2.trans k4 e5 (Below.less k5 e5.size)) (e5.trans (Below.less k5 e5.size))
        · have hfin : Q (exOf l.ex) a' w' := hK a' w' (by rw [hsz', hsz]) (fun s hs => by rw [hkp s hs, hkeep s hs]) (fun s b hs => by
            obtain ⟨c, hc1, hc2⟩ := hm s b hs
            obtain ⟨g1, g2⟩ := slotsAre_mem hq s c hc1
            exact hc2 _ (hmono c _ g2 _ (e1.2.2 s c g1))) e2 e5
          cases hx : l.ex with
          | normal => exact absurd hx hne
          | exit id => rw [hx] at hfin; exact hfin
          | goto l => rw [hx] at hfin; exact hfin
          | ret => rw [hx] at hfin; exact hfin
  exact key _ start (Nat.lt_succ_self _) hstart (fun t => a.tmps.getD t undef) a w hinv hnst hsz (fun s y hs => by
    obtain ⟨b, h1, h2⟩ := h0 (fun t => a.tmps.getD t undef) s y hs
    exact h2 _ (hpre s b h1)) (fun t ht => rfl) hK
end
end Go.AX
end
section

set_option linter.unusedSimpArgs false
set_option linter.unusedVariables false
namespace Go.AX
noncomputable def allN (p : Nat → Bool) (lo n : Nat) : Bool := Nat.rec (motive := fun _ => Bool) true (fun j ih => Bool.rec (motive := fun _ => Bool) false ih (p (Nat.add lo j))) n
theorem allN_at {p : Nat → Bool} {lo : Nat} : ∀ {n : Nat}, allN p lo n = true → ∀ i, lo ≤ i → i < lo + n → p i = true
  | 0, _, i, h1, h2 => by omega
  | n + 1, h, i, h1, h2 => by
    have h : Bool.rec (motive := fun _ => Bool) false (allN p lo n) (p (Nat.add lo n)) = true := h
    cases hp : p (Nat.add lo n) with
    | false => rw [hp] at h; cases h
    | true =>
      rw [hp] at h
      have h : allN p lo n = true := h
      by_cases e : i = lo + n
      · subst e; exact hp
      · exact allN_at h i h1 (by omega)
def bOf (n : Nat) : Bool := Nat.beq n 1
def nOf (b : Bool) : Nat := cond b 1 0
theorem bOf_nOf (b : Bool) : bOf (nOf b) = b := by cases b <;> rfl
theorem nOf_lt (b : Bool) : nOf b < 2 := by cases b <;> decide
section
variable {C : Cx}
theorem hBin {i : Nat} {k : IntKind} {a b : Int} {o : BinOp} {u r : AV} {z : Value} (hi : C.nu i = .int k a) (ho : o ≠ .shl ∧ o ≠ .shr) (hrun : binI o k a b ⟨.leaf, 0, 0, 0⟩ = some (u, ⟨.leaf, 0, 0, 0⟩)) (hz : ∀ ρ v, Rel C ρ u v → v = z) (hr : ∀ ρ, Rel C ρ r z) :
    HOk C (.bin o (.x i) (.i k b)) r := by
  intro ρ vx vy hx hy
  simp only [Rel] at hx hy
  subst hx; subst hy
  rw [hi]
  refine ⟨.inl ⟨k, a, b, rfl, rfl⟩, z, hr ρ, fun t w => ?_⟩
  obtain ⟨_, v, hv, hq⟩ := binI_ok (C := C) (ρ := ρ) hrun ho
  rw [hz ρ v hv] at hq
  exact hq t w
theorem hRemX {i x m : Nat} {k : IntKind} (hi : C.nu i = .int k (.ofNat x)) (hm : m ≠ 0) {r : Nat} (hr : x % m = r) : HOk C (.bin .rem (.x i) (.i k (.ofNat m))) (.i k (.ofNat r)) := by
  have e : (Int.ofNat x).tmod (Int.ofNat m) = Int.ofNat r := by subst hr; rfl
  refine hBin (u := .i k (.ofNat r)) (z := .int k (.ofNat r)) hi ⟨by simp, by simp⟩ ?_ (fun ρ v h => by simpa only [Rel] using h) (fun ρ => by simp only [Rel])
  have : ieq (Int.ofNat m) 0 = false := by rw [ieq_iff]; simp; exact hm
  show (cond (ieq (Int.ofNat m) 0) (AX.fail : M AV) (AX.ret (AV.i k ((Int.ofNat x).tmod (Int.ofNat m))))) _ = _
  rw [this, e]; rfl
theorem wrp_nat {k : IntKind} {n : Nat} (h : fits k (.ofNat n) = true) : wrp k (.ofNat n) = .ofNat n := by unfold wrp; rw [h]; rfl
theorem hQuoX {i j x m : Nat} {k : IntKind} (hi : C.nu i = .int k (.ofNat x)) (hm : m ≠ 0) (hj : C.nu j = .int k (.ofNat (x / m))) (hf : fits k (.ofNat (x / m)) = true) : HOk C (.bin .quo (.x i) (.i k (.ofNat m))) (.x j) := by
  have e : (Int.ofNat x).tdiv (Int.ofNat m) = Int.ofNat (x / m) := rfl
  refine hBin (u := .i k (.ofNat (x / m))) (z := .int k (.ofNat (x / m))) hi ⟨by simp, by simp⟩ ?_ (fun ρ v h => by simpa only [Rel] using h) (fun ρ => by simp only [Rel]; exact hj.symm)
  have : ieq (Int.ofNat m) 0 = false := by rw [ieq_iff]; simp; exact hm
  show (cond (ieq (Int.ofNat m) 0) (AX.fail : M AV) (AX.ret (mkI k ((Int.ofNat x).tdiv (Int.ofNat m))))) _ = _
  rw [this, e]
  show some (AV.i k (wrp k (.ofNat (x / m))), _) = _
  rw [wrp_nat hf]
theorem hAndX {i x m r : Nat} {k : IntKind} (hi : C.nu i = .int k (.ofNat x)) (hx : fits k (.ofNat x) = true) (hm : fits k (.ofNat m) = true) (hf : fits k (.ofNat r) = true) (hr : Nat.land x m = r) : HOk C (.bin .and (.x i) (.i k (.ofNat m))) (.i k (.ofNat r)) := by
  refine hBin (u := .i k (.ofNat r)) (z := .int k (.ofNat r)) hi ⟨by simp, by simp⟩ ?_ (fun ρ v h => by simpa only [Rel] using h) (fun ρ => by simp only [Rel])
  show some (AV.i k (wrp k (.ofNat (Nat.land (tn k (.ofNat x)) (tn k (.ofNat m))))), _) = _
  have e1 : tn k (.ofNat x) = x := by unfold tn; simp only [hx, cond_true]
  have e2 : tn k (.ofNat m) = m := by unfold tn; simp only [hm, cond_true]
  rw [e1, e2, hr, wrp_nat hf]
theorem hShrX {i j x p : Nat} {k l : IntKind} (hi : C.nu i = .int k (.ofNat x)) (hp : p ≤ k.bits) (hj : C.nu j = .int k (.ofNat (x >>> p))) : HOk C (.bin .shr (.x i) (.i l (.ofNat p))) (.x j) := by
  intro ρ vx vy hx hy
  simp only [Rel] at hx hy
  subst hx; subst hy
  rw [hi]
  refine ⟨.inr (.inr ⟨.inr rfl, k, l, .ofNat x, .ofNat p, rfl, rfl⟩), .int k (.ofNat (x >>> p)), by simp only [Rel]; exact hj.symm, fun t w => ?_⟩
  have e := fdiv_pow x p
  simp [binOp, Op.shift, Nat.min_eq_left hp, e]
  intro hneg
  omega
theorem hConvX {i j t : Nat} {x : Nat} {k q : IntKind} (hi : C.nu i = .int k (.ofNat x)) (ht : C.P.underlying t = some (.int q)) (hf : fits q (.ofNat x) = true) (hj : C.nu j = .int q (.ofNat x)) : HOk C (.conv t (.x i)) (.x j) := by
  intro ρ vx hx
  simp only [Rel] at hx
  subst hx
  rw [hi]
  refine ⟨.inl ⟨k, _, rfl⟩, .int q (.ofNat x), by simp only [Rel]; exact hj.symm, fun src w hs => ?_⟩
  obtain ⟨d, hd⟩ := Option.isSome_iff_exists.1 hs
  have e := fits_wrap q (.ofNat x) hf
  simp only [convert, Sem.run_bind, run_underlying hd, run_underlying ht, Result.andThen_ok]
  simp [Conv.intToInt, e]
  try exact e
end
theorem fits16 {n : Nat} (h : n ≤ 65535) : fits .u16 (.ofNat n) = true := Nat.ble_eq_true_of_le h
theorem fitsShr {x : Nat} (h : x ≤ 65535) (i : Nat) : fits .u16 (.ofNat (x >>> i)) = true := fits16 (Nat.le_trans (by rw [Nat.shiftRight_eq_div_pow]; exact Nat.div_le_self _ _) h)
theorem fitsBit (n : Nat) : fits .u16 (.ofNat (Nat.mod n 2)) = true := fits16 (by have : Nat.mod n 2 = n % 2 := rfl; omega)
theorem bitOf {x c : Nat} (hc : x % 256 = c) (i : Nat) (hi : i < 8) : Nat.land (x >>> i) 1 = Nat.mod (Nat.div c (2 ^ i)) 2 := by
  subst hc
  have e : Nat.land (x >>> i) 1 = (x >>> i) % 2 := Nat.and_one_is_mod _
  rw [e, Nat.shiftRight_eq_div_pow]
  show x / 2 ^ i % 2 = x % 256 / 2 ^ i % 2
  have h8 : (256 : Nat) = 2 ^ i * 2 ^ (8 - i) := by rw [← Nat.pow_add, show i + (8 - i) = 8 by omega]
  rw [h8, Nat.mod_mul_right_div_self, Nat.mod_mod_of_dvd]
  exact ⟨2 ^ (7 - i), by rw [show 8 - i = (7 - i) + 1 by omega, Nat.pow_succ]; omega⟩
theorem fits8 {n : Nat} (h : n ≤ 255) : fits .u8 (.ofNat n) = true := Nat.ble_eq_true_of_le h
theorem fits64 {n : Nat} (h : n ≤ 9223372036854775807) : fits .i64 (.ofNat n) = true := Nat.ble_eq_true_of_le h
theorem fitsBit8 (n : Nat) : fits .u8 (.ofNat (Nat.mod n 2)) = true := fits8 (by have : Nat.mod n 2 = n % 2 := rfl; omega)
theorem fitsShr8 {x : Nat} (h : x ≤ 255) (i : Nat) : fits .u8 (.ofNat (x >>> i)) = true := fits8 (Nat.le_trans (by rw [Nat.shiftRight_eq_div_pow]; exact Nat.div_le_self _ _) h)
theorem bitOfG {x c b : Nat} (hc : x % 2 ^ b = c) (i : Nat) (hi : i < b) : Nat.land (x >>> i) 1 = Nat.mod (Nat.div c (2 ^ i)) 2 := by
  subst hc
  have e : Nat.land (x >>> i) 1 = (x >>> i) % 2 := Nat.and_one_is_mod _
  rw [e, Nat.shiftRight_eq_div_pow]
  show x / 2 ^ i % 2 = x % 2 ^ b / 2 ^ i % 2
  have h8 : (2 : Nat) ^ b = 2 ^ i * 2 ^ (b - i) := by rw [← Nat.pow_add, show i + (b - i) = b by omega]
  rw [h8, Nat.mod_mul_right_div_self, Nat.mod_mod_of_dvd]
  obtain ⟨d, hd⟩ : ∃ d, b - i = d + 1 := ⟨b - i - 1, by omega⟩
  exact ⟨2 ^ d, by rw [hd, Nat.pow_succ]; omega⟩
theorem natOf {k : IntKind} {a : Int} {M : Nat} (h : (Lit.int k a).wf = true) (h0 : IntKind.min k = 0) (hM : IntKind.max k = (M : Int)) : ∃ x : Nat, a = Int.ofNat x ∧ x ≤ M := by
  have h1 : IntKind.min k ≤ a ∧ a ≤ IntKind.max k := by simpa [Lit.wf] using h
  rw [h0, hM] at h1
  exact ⟨a.toNat, by simp; omega, by omega⟩
end Go.AX
end
section
set_option linter.unusedSimpArgs false
set_option linter.unusedVariables false
namespace Go.AX
abbrev St' (l : List UInt8) : Value := .string ⟨l.toArray⟩
def bt (l : List UInt8) (i : Nat) : Int := ((l.getD i 0).toNat : Int)
theorem bt_lo (l : List UInt8) (i : Nat) : 0 ≤ bt l i := by unfold bt; omega
theorem bt_hi (l : List UInt8) (i : Nat) : bt l i ≤ 255 := by unfold bt; have := (l.getD i 0).toNat_lt; omega
theorem str_of (s : ByteArray) : Value.string s = St' s.data.toList := by
  cases s; simp
def Is (C : Cx) (a : AV) (v : Value) : Prop := ∀ ρ x, Rel C ρ a x → x = v
def Den (C : Cx) (a : AV) (v : Value) : Prop := ∀ ρ, Rel C ρ a v
section
variable {C : Cx}
theorem isX {i : Nat} {v : Value} (h : C.nu i = v) : Is C (.x i) v := fun ρ x hx => by simp only [Rel] at hx; rw [hx, h]
theorem isI (k : IntKind) (n : Int) : Is C (.i k n) (.int k n) := fun ρ x hx => by simpa only [Rel] using hx
theorem isS (len n : Nat) : Is C (.s len n) (St' (strB len n)) := fun ρ x hx => by simp only [Rel] at hx; exact hx.1
theorem denX {i : Nat} {v : Value} (h : C.nu i = v) : Den C (.x i) v := fun ρ => by simp only [Rel]; exact h.symm
theorem denI (k : IntKind) (n : Int) : Den C (.i k n) (.int k n) := fun ρ => by simp only [Rel]
theorem denB (b : Bool) : Den C (.b b) (.bool b) := fun ρ => by simp only [Rel]
theorem denS {len n : Nat} (h : n < 2 ^ (8 * len)) : Den C (.s len n) (St' (strB len n)) := fun ρ => by simp only [Rel]; exact ⟨trivial, h⟩
theorem fI64 {n : Int} (h1 : -9223372036854775808 ≤ n) (h2 : n ≤ 9223372036854775807) : fits .i64 n = true := by
  cases n with
  | ofNat a => exact Nat.ble_eq_true_of_le (by have : Int.ofNat a = (a : Int) := rfl; omega)
  | negSucc a => exact Nat.ble_eq_true_of_le (by omega)
theorem fU {k : IntKind} {n : Int} (h0 : 0 ≤ n) (hk : ∀ a : Nat, (a : Int) = n → fits k (.ofNat a) = true) : fits k n = true := by
  obtain ⟨a, rfl⟩ := Int.eq_ofNat_of_zero_le h0
  exact hk a rfl
theorem fU8 {n : Int} (h0 : 0 ≤ n) (h : n ≤ 255) : fits .u8 n = true := fU h0 fun a e => Nat.ble_eq_true_of_le (by omega)
theorem fU16 {n : Int} (h0 : 0 ≤ n) (h : n ≤ 65535) : fits .u16 n = true := fU h0 fun a e => Nat.ble_eq_true_of_le (by omega)
theorem fU32 {n : Int} (h0 : 0 ≤ n) (h : n ≤ 4294967295) : fits .u32 n = true := fU h0 fun a e => Nat.ble_eq_true_of_le (by omega)
theorem fU64 {n : Int} (h0 : 0 ≤ n) (h : n ≤ 18446744073709551615) : fits .u64 n = true := fU h0 fun a e => Nat.ble_eq_true_of_le (by omega)
theorem fI32 {n : Int} (h1 : -2147483648 ≤ n) (h2 : n ≤ 2147483647) : fits .i32 n = true := by
  cases n with
  | ofNat a => exact Nat.ble_eq_true_of_le (by have : Int.ofNat a = (a : Int) := rfl; omega)
  | negSucc a => exact Nat.ble_eq_true_of_le (by omega)
theorem wrapU8 (n : Int) : IntKind.u8.wrap n = n % 256 := by
  simp only [IntKind.wrap, IntKind.bits, IntKind.signed, Bool.false_and, Bool.false_eq_true, if_false, Nat.reduceSub]
  omega
theorem wrapU32 (n : Int) : IntKind.u32.wrap n = n % 4294967296 := by
  simp only [IntKind.wrap, IntKind.bits, IntKind.signed, Bool.false_and, Bool.false_eq_true, if_false, Nat.reduceSub]
  omega
theorem wrapU16 (n : Int) : IntKind.u16.wrap n = n % 65536 := by
  simp only [IntKind.wrap, IntKind.bits, IntKind.signed, Bool.false_and, Bool.false_eq_true, if_false, Nat.reduceSub]
  omega
variable {x y r : AV} {k : IntKind} {a b c : Int}
theorem hInts {o : BinOp} {v : Value} (hx : Is C x (.int k a)) (hy : Is C y (.int k b)) (hr : Den C r v) (hrun : ∀ t w, (binOp o t (.int k a) (.int k b)).run C.P w = .ok v w) : HOk C (.bin o x y) r := by
  intro ρ vx vy h1 h2
  have e1 := hx ρ vx h1; have e2 := hy ρ vy h2; subst e1; subst e2
  exact ⟨.inl ⟨k, a, b, rfl, rfl⟩, v, hr ρ, hrun⟩
theorem kAdd (hx : Is C x (.int k a)) (hy : Is C y (.int k b)) (hr : Den C r (.int k c)) (hc : a + b = c) (hf : fits k c = true) : HOk C (.bin .add x y) r :=
  hInts hx hy hr fun t w => by subst hc; simp [binOp, Op.intArith, fits_wrap k _ hf]
theorem kSub (hx : Is C x (.int k a)) (hy : Is C y (.int k b)) (hr : Den C r (.int k c)) (hc : a - b = c) (hf : fits k c = true) : HOk C (.bin .sub x y) r :=
  hInts hx hy hr fun t w => by subst hc; simp [binOp, Op.intArith, fits_wrap k _ hf]
theorem kMul (hx : Is C x (.int k a)) (hy : Is C y (.int k b)) (hr : Den C r (.int k c)) (hc : a * b = c) (hf : fits k c = true) : HOk C (.bin .mul x y) r :=
  hInts hx hy hr fun t w => by subst hc; simp [binOp, Op.intArith, fits_wrap k _ hf]
theorem kArW {o : BinOp} {q : Int} (hx : Is C x (.int k a)) (hy : Is C y (.int k b)) (hr : Den C r (.int k c)) (hq : (o = .add ∧ q = a + b) ∨ (o = .sub ∧ q = a - b) ∨ (o = .mul ∧ q = a * b)) (hc : k.wrap q = c) : HOk C (.bin o x y) r :=
  hInts hx hy hr fun t w => by
    subst hc
    rcases hq with ⟨rfl, rfl⟩ | ⟨rfl, rfl⟩ | ⟨rfl, rfl⟩ <;> simp [binOp, Op.intArith]
theorem kQuo (hx : Is C x (.int k a)) (hy : Is C y (.int k b)) (hr : Den C r (.int k c)) (h0 : 0 ≤ a) (hb : 0 < b) (hc : a / b = c) (hf : fits k c = true) : HOk C (.bin .quo x y) r :=
  hInts hx hy hr fun t w => by
    have e : a.tdiv b = c := by rw [Int.tdiv_eq_ediv_of_nonneg h0]; exact hc
    have hz : b ≠ 0 := by omega
    simp [binOp, Op.intDiv, hz, e, fits_wrap k _ hf]
theorem kRem (hx : Is C x (.int k a)) (hy : Is C y (.int k b)) (hr : Den C r (.int k c)) (h0 : 0 ≤ a) (hb : 0 < b) (hc : a % b = c) : HOk C (.bin .rem x y) r :=
  hInts hx hy hr fun t w => by
    have e : a.tmod b = c := by rw [Int.tmod_eq_emod_of_nonneg h0]; exact hc
    have hz : b ≠ 0 := by omega
    simp [binOp, Op.intDiv, hz, e]
theorem tn_nat {k : IntKind} {n : Nat} (h : fits k (n : Int) = true) : tn k (n : Int) = n := by
  show tn k (.ofNat n) = n
  unfold tn
  have h : fits k (.ofNat n) = true := h
  simp only [h, cond_true]
theorem kAnd (m : Nat) (hx : Is C x (.int k a)) (hy : Is C y (.int k b)) (hr : Den C r (.int k c)) (h0 : 0 ≤ a) (hfa : fits k a = true) (hfb : fits k b = true) (hb : b = 2 ^ m - 1) (hc : a % 2 ^ m = c) : HOk C (.bin .and x y) r := by
  obtain ⟨A, rfl⟩ := Int.eq_ofNat_of_zero_le h0
  have hp : (1 : Int) ≤ 2 ^ m := by have h1 : (1 : Nat) ≤ 2 ^ m := Nat.one_le_two_pow; have : ((2 ^ m : Nat) : Int) = 2 ^ m := by simp
                                    omega
  obtain ⟨Bn, hB⟩ := Int.eq_ofNat_of_zero_le (show (0 : Int) ≤ b by omega)
  subst hB
  have hbn : Bn = 2 ^ m - 1 := by
    have h1 : (1 : Nat) ≤ 2 ^ m := Nat.one_le_two_pow
    have : ((2 ^ m - 1 : Nat) : Int) = 2 ^ m - 1 := by rw [Int.ofNat_sub h1]; simp
    omega
  have e : Nat.land A Bn = A % 2 ^ m := by rw [hbn]; exact Nat.and_two_pow_sub_one_eq_mod A m
  have hcA : c = ((A % 2 ^ m : Nat) : Int) := by rw [← hc]; simp
  have hle : A % 2 ^ m ≤ A := Nat.mod_le _ _
  refine hInts hx hy hr fun t w => ?_
  obtain ⟨_, v, hv, hq⟩ := binI_ok (C := C) (ρ := fun _ => none) (o := .and) (k := k) (a := A) (c := Bn) (S := ⟨.leaf, 0, 0, 0⟩) rfl ⟨by simp, by simp⟩
  have hv' : v = .int k c := by
    simp only [mkI, Rel] at hv
    rw [hv, tn_nat hfa, tn_nat hfb, e, hcA, wrp_eq, fits_wrap]
    · rfl
    · have := fits_range k _ hfa
      have : fits k ((A % 2 ^ m : Nat) : Int) = true := by
        have h := hfa
        cases k <;> first | (cases h; done) | exact Nat.ble_eq_true_of_le (Nat.le_trans hle (Nat.le_of_ble_eq_true h))
      exact this
  rw [← hv']; exact hq t w
theorem kOr (m : Nat) (hx : Is C x (.int k a)) (hy : Is C y (.int k b)) (hr : Den C r (.int k c)) (h0 : 0 ≤ a) (h1 : 0 ≤ b) (hfa : fits k a = true) (hfb : fits k b = true) (ha : a % 2 ^ m = 0) (hb : b < 2 ^ m) (hc : a + b = c) (hf : fits k c = true) : HOk C (.bin .or x y) r := by
  obtain ⟨A, rfl⟩ := Int.eq_ofNat_of_zero_le h0
  obtain ⟨Bn, rfl⟩ := Int.eq_ofNat_of_zero_le h1
  have ha' : A % 2 ^ m = 0 := by
    have : ((A % 2 ^ m : Nat) : Int) = 0 := by rw [← ha]; simp
    omega
  have hb' : Bn < 2 ^ m := by
    have : ((Bn : Nat) : Int) < ((2 ^ m : Nat) : Int) := by simpa using hb
    omega
  have e : Nat.lor A Bn = A + Bn := by
    have hA : A = 2 ^ m * (A / 2 ^ m) := by have := Nat.div_add_mod A (2 ^ m); omega
    have h := Nat.two_pow_add_eq_or_of_lt hb' (A / 2 ^ m)
    rw [← hA] at h
    exact h.symm
  refine hInts hx hy hr fun t w => ?_
  obtain ⟨_, v, hv, hq⟩ := binI_ok (C := C) (ρ := fun _ => none) (o := .or) (k := k) (a := A) (c := Bn) (S := ⟨.leaf, 0, 0, 0⟩) rfl ⟨by simp, by simp⟩
  have hv' : v = .int k c := by
    simp only [mkI, Rel] at hv
    rw [hv, tn_nat hfa, tn_nat hfb, e, wrp_eq, ← hc]
    have hf' : fits k (Int.ofNat (A + Bn)) = true := by rw [← hc] at hf; exact hf
    rw [fits_wrap k _ hf']; rfl
  rw [← hv']; exact hq t w
theorem kShl {l : IntKind} (p : Nat) (hx : Is C x (.int k a)) (hy : Is C y (.int l b)) (hr : Den C r (.int k c)) (hb : b = (p : Int)) (hp : p ≤ k.bits) (hc : k.wrap (a * 2 ^ p) = c) : HOk C (.bin .shl x y) r := by
  intro ρ vx vy h1 h2
  have e1 := hx ρ vx h1; have e2 := hy ρ vy h2; subst e1; subst e2; subst hb; subst hc
  refine ⟨.inr (.inr ⟨.inl rfl, k, l, a, p, rfl, rfl⟩), _, hr ρ, fun t w => ?_⟩
  simp [binOp, Op.shift, Nat.min_eq_left hp]
  intro hneg; omega
theorem kShr {l : IntKind} (p : Nat) (hx : Is C x (.int k a)) (hy : Is C y (.int l b)) (hr : Den C r (.int k c)) (hb : b = (p : Int)) (hp : p ≤ k.bits) (h0 : 0 ≤ a) (hc : a / 2 ^ p = c) : HOk C (.bin .shr x y) r := by
  intro ρ vx vy h1 h2
  have e1 := hx ρ vx h1; have e2 := hy ρ vy h2; subst e1; subst e2; subst hb; subst hc
  refine ⟨.inr (.inr ⟨.inr rfl, k, l, a, p, rfl, rfl⟩), _, hr ρ, fun t w => ?_⟩
  have e : a.fdiv (2 ^ p) = a / 2 ^ p := Int.fdiv_eq_ediv_of_nonneg _ (Int.pow_nonneg (by omega))
  simp [binOp, Op.shift, Nat.min_eq_left hp, e]
  intro hneg; omega
theorem kCmp {o : BinOp} {q : Bool} (hx : Is C x (.int k a)) (hy : Is C y (.int k b)) (h : (o = .lss ∧ q = decide (a < b)) ∨ (o = .leq ∧ q = decide (a ≤ b)) ∨ (o = .gtr ∧ q = decide (b < a)) ∨ (o = .geq ∧ q = decide (b ≤ a)) ∨ (o = .eql ∧ q = decide (a = b)) ∨ (o = .neq ∧ q = !decide (a = b))) : HOk C (.bin o x y) (.b q) :=
  hInts hx hy (denB q) fun t w => by
    rcases h with ⟨rfl, rfl⟩ | ⟨rfl, rfl⟩ | ⟨rfl, rfl⟩ | ⟨rfl, rfl⟩ | ⟨rfl, rfl⟩ | ⟨rfl, rfl⟩ <;> simp [binOp, Op.intCmp] <;> rfl
theorem kLt {q : Bool} (hx : Is C x (.int k a)) (hy : Is C y (.int k b)) (h : decide (a < b) = q) : HOk C (.bin .lss x y) (.b q) := kCmp hx hy (.inl ⟨rfl, h.symm⟩)
theorem kLe {q : Bool} (hx : Is C x (.int k a)) (hy : Is C y (.int k b)) (h : decide (a ≤ b) = q) : HOk C (.bin .leq x y) (.b q) := kCmp hx hy (.inr (.inl ⟨rfl, h.symm⟩))
theorem kGt {q : Bool} (hx : Is C x (.int k a)) (hy : Is C y (.int k b)) (h : decide (b < a) = q) : HOk C (.bin .gtr x y) (.b q) := kCmp hx hy (.inr (.inr (.inl ⟨rfl, h.symm⟩)))
theorem kGe {q : Bool} (hx : Is C x (.int k a)) (hy : Is C y (.int k b)) (h : decide (b ≤ a) = q) : HOk C (.bin .geq x y) (.b q) := kCmp hx hy (.inr (.inr (.inr (.inl ⟨rfl, h.symm⟩))))
theorem kEqI {q : Bool} (hx : Is C x (.int k a)) (hy : Is C y (.int k b)) (h : decide (a = b) = q) : HOk C (.bin .eql x y) (.b q) := kCmp hx hy (.inr (.inr (.inr (.inr (.inl ⟨rfl, h.symm⟩)))))
theorem kNeI {q : Bool} (hx : Is C x (.int k a)) (hy : Is C y (.int k b)) (h : (!decide (a = b)) = q) : HOk C (.bin .neq x y) (.b q) := kCmp hx hy (.inr (.inr (.inr (.inr (.inr ⟨rfl, h.symm⟩)))))
theorem kNeg (hx : Is C x (.int k a)) (hr : Den C r (.int k c)) (hc : -a = c) (hf : fits k c = true) : HOk C (.un .neg x) r := by
  intro ρ vx h1
  have e1 := hx ρ vx h1; subst e1
  refine ⟨_, hr ρ, fun w => ?_⟩
  have e : 0 - a = c := by omega
  simp [Op.unary, Op.intArith, e, fits_wrap k _ hf]
theorem kConv {t : Nat} {q : IntKind} (hx : Is C x (.int k a)) (ht : C.P.underlying t = some (.int q)) (hr : Den C r (.int q c)) (hc : q.wrap a = c) : HOk C (.conv t x) r := by
  intro ρ vx h1
  have e1 := hx ρ vx h1; subst e1; subst hc
  refine ⟨.inl ⟨k, a, rfl⟩, _, hr ρ, fun src w hs => ?_⟩
  obtain ⟨d, hd⟩ := Option.isSome_iff_exists.1 hs
  simp only [convert, Sem.run_bind, run_underlying hd, run_underlying ht, Result.andThen_ok]
  simp [Conv.intToInt]
theorem kConvF {t : Nat} {q : IntKind} (hx : Is C x (.int k a)) (ht : C.P.underlying t = some (.int q)) (hr : Den C r (.int q a)) (hf : fits q a = true) : HOk C (.conv t x) r := kConv hx ht hr (fits_wrap q a hf)
theorem kMax (hx : Is C x (.int k a)) (hy : Is C y (.int k b)) (hr : Den C r (.int k c)) (hc : max a b = c) : HOk C (.mm true x y) r := by
  intro ρ vx vy h1 h2
  have e1 := hx ρ vx h1; have e2 := hy ρ vy h2; subst e1; subst e2; subst hc
  refine ⟨_, hr ρ, fun w => ?_⟩
  simp only [if_true]
  show Result.ok (Value.int k (if a < b then b else a)) w = _
  congr 2
  rw [Int.max_def]; split <;> split <;> omega
theorem kMin (hx : Is C x (.int k a)) (hy : Is C y (.int k b)) (hr : Den C r (.int k c)) (hc : min a b = c) : HOk C (.mm false x y) r := by
  intro ρ vx vy h1 h2
  have e1 := hx ρ vx h1; have e2 := hy ρ vy h2; subst e1; subst e2; subst hc
  refine ⟨_, hr ρ, fun w => ?_⟩
  simp only [Bool.false_eq_true, if_false]
  show Result.ok (Value.int k (if b < a then b else a)) w = _
  congr 2
  rw [Int.min_def]; split <;> split <;> omega
/- strings -/
variable {l m n : List UInt8}
theorem hStrs {o : BinOp} {v : Value} (hx : Is C x (St' l)) (hy : Is C y (St' m)) (hr : Den C r v) (hrun : ∀ t w, (binOp o t (St' l) (St' m)).run C.P w = .ok v w) : HOk C (.bin o x y) r := by
  intro ρ vx vy h1 h2
  have e1 := hx ρ vx h1; have e2 := hy ρ vy h2; subst e1; subst e2
  exact ⟨.inr (.inl ⟨_, _, rfl, rfl⟩), v, hr ρ, hrun⟩
theorem kCat (hx : Is C x (St' l)) (hy : Is C y (St' m)) (hr : Den C r (St' n)) (hc : l ++ m = n) (hsz : l.length + m.length ≤ 9223372036854775807) : HOk C (.bin .add x y) r :=
  hStrs hx hy hr fun t w => by
    subst hc
    have h1 : (⟨l.toArray⟩ : ByteArray).size = l.length := by simp [ByteArray.size]
    have h2 : (⟨m.toArray⟩ : ByteArray).size = m.length := by simp [ByteArray.size]
    have e : (⟨l.toArray⟩ : ByteArray) ++ ⟨m.toArray⟩ = ⟨(l ++ m).toArray⟩ := by
      apply ByteArray.ext
      simp
    simp only [binOp, Op.stringOp, h1, h2]
    rw [if_neg (by simp [IntKind.max, IntKind.signed, IntKind.bits]; omega)]
    simp [e]
theorem toL_eq (l : List UInt8) : (⟨l.toArray⟩ : ByteArray).toList = l := by rw [ByteArray.toList_eq]
theorem lb_eq (l m : List UInt8) : (l == m) = decide (l = m) := by rw [Bool.eq_iff_iff]; simp
theorem kEqS {q : Bool} (hx : Is C x (St' l)) (hy : Is C y (St' m)) (h : decide (l = m) = q) : HOk C (.bin .eql x y) (.b q) :=
  hStrs hx hy (denB q) fun t w => by
    subst h
    simp only [binOp, Op.stringOp, toL_eq]
    simp only [Sem.run_pure, lb_eq]
theorem kNeS {q : Bool} (hx : Is C x (St' l)) (hy : Is C y (St' m)) (h : (!decide (l = m)) = q) : HOk C (.bin .neq x y) (.b q) :=
  hStrs hx hy (denB q) fun t w => by
    subst h
    simp only [binOp, Op.stringOp, toL_eq]
    simp only [Sem.run_pure, lb_eq]
theorem kLen (hx : Is C x (St' l)) (hr : Den C r (.int .i64 (l.length : Int))) : HOk C (.len x) r := by
  intro ρ vx h1
  have e1 := hx ρ vx h1; subst e1
  exact ⟨_, hr ρ, _, rfl, by simp [ByteArray.size]⟩
theorem kIdx {i : Nat} (hx : Is C x (St' l)) (hy : Is C y (.int k b)) (hr : Den C r (.int .u8 (bt l i))) (hb : b = (i : Int)) (hi : i < l.length) : HOk C (.idx x y) r := by
  intro ρ vx vy h1 h2
  have e1 := hx ρ vx h1; have e2 := hy ρ vy h2; subst e1; subst e2; subst hb
  refine ⟨_, hr ρ, fun t w hu => ?_⟩
  have hsz : (⟨l.toArray⟩ : ByteArray).size = l.length := by simp [ByteArray.size]
  have hg : (⟨l.toArray⟩ : ByteArray).data[i]? = some (l.getD i 0) := by
    simp [List.getElem?_eq_getElem hi, List.getD_eq_getElem?_getD]
  have h0 : (0 : Int) ≤ i ∧ (i : Int) < l.length := by omega
  simp [Instr.index, asIntOf, run_underlying hu, hsz, h0, hi]
  unfold bt
  have e : (⟨l.toArray⟩ : ByteArray)[i]'(by simpa [ByteArray.size] using hi) = l.getD i 0 := by
    rw [ByteArray.getElem_eq_getElem_data]
    simp [List.getD_eq_getElem?_getD, List.getElem?_eq_getElem hi]
  simp [e]
theorem kSub' {lo hi : Option AV} {p q : Nat} (hx : Is C x (St' l)) (hlo : (lo = none ∧ p = 0) ∨ ∃ e k, lo = some e ∧ Is C e (.int k (p : Int))) (hhi : (hi = none ∧ q = l.length) ∨ ∃ e k, hi = some e ∧ Is C e (.int k (q : Int)))
    (h1 : p ≤ q) (h2 : q ≤ l.length) (hr : Den C r (St' n)) (hc : (l.drop p).take (q - p) = n) : HOk C (.sub x lo hi) r := by
  intro ρ vx h3
  have e1 := hx ρ vx h3; subst e1
  refine ⟨_, hr ρ, fun vl vh hl hh t w hu => ?_⟩
  have hsz : (⟨l.toArray⟩ : ByteArray).size = l.length := by simp [ByteArray.size]
  have bl : (vl = none ∧ p = 0) ∨ ∃ k, vl = some (.int k (p : Int)) := by
    rcases hlo with ⟨rfl, e⟩ | ⟨e, k, rfl, he⟩
    · exact .inl ⟨hl, e⟩
    · obtain ⟨y, rfl, hy⟩ := hl; exact .inr ⟨k, by rw [he ρ y hy]⟩
  have bh : (vh = none ∧ q = l.length) ∨ ∃ k, vh = some (.int k (q : Int)) := by
    rcases hhi with ⟨rfl, e⟩ | ⟨e, k, rfl, he⟩
    · exact .inl ⟨hh, e⟩
    · obtain ⟨y, rfl, hy⟩ := hh; exact .inr ⟨k, by rw [he ρ y hy]⟩
  have he : (⟨l.toArray⟩ : ByteArray).extract p q = ⟨n.toArray⟩ := by
    subst hc
    apply ByteArray.ext
    simp [ByteArray.data_extract, List.extract_eq_take_drop]
  simp [Instr.slice, run_underlying hu, hsz, bounds_run bl bh h1 h2, he]
/- a row of bytes made a string -/
theorem kBytes {vs : List AV} (bs : List UInt8) (h : ∀ ρ xs, RelL C ρ vs xs → xs = bs.map fun b => .int .u8 (b.toNat : Int)) (hr : Den C r (St' bs)) : HOk C (.bytes vs) r := fun ρ xs hx => ⟨bs, _, h ρ xs hx, rfl, hr ρ⟩
theorem kEqT {t : Nat} {q : Bool} (hx : Is C x (.int k a)) (hy : Is C y (.int k b)) (ht : C.P.underlying t = some (.int k)) (h : decide (a = b) = q) : HOk C (.eq t x y) (.b q) := by
  refine ⟨q, rfl, fun ρ vx vy h1 h2 D w hD => ?_⟩
  have e1 := hx ρ vx h1; have e2 := hy ρ vy h2; subst e1; subst e2; subst h
  obtain ⟨d, rfl⟩ : ∃ d, D = d + 1 := ⟨D - 1, by omega⟩
  rw [run_equalIn_int w d t _ k _ _ ht]; congr 1
theorem kEqTS {t : Nat} {q : Bool} (hx : Is C x (St' l)) (hy : Is C y (St' m)) (ht : C.P.underlying t = some .string) (h : decide (l = m) = q) : HOk C (.eq t x y) (.b q) := by
  refine ⟨q, rfl, fun ρ vx vy h1 h2 D w hD => ?_⟩
  have e1 := hx ρ vx h1; have e2 := hy ρ vy h2; subst e1; subst e2; subst h
  obtain ⟨d, rfl⟩ : ∃ d, D = d + 1 := ⟨D - 1, by omega⟩
  rw [run_equalIn_string w d t _ _ ht, toL_eq, toL_eq, lb_eq]
end
end Go.AX
end
section
set_option linter.unusedSimpArgs false
set_option linter.unusedVariables false
namespace Go.AX
def u8 (n : Int) : UInt8 := UInt8.ofNat n.toNat
theorem u8_toNat {n : Int} (h0 : 0 ≤ n) (h : n ≤ 255) : ((u8 n).toNat : Int) = n := by
  unfold u8
  rw [UInt8.toNat_ofNat']
  have : n.toNat % 2 ^ 8 = n.toNat := Nat.mod_eq_of_lt (by omega)
  omega
theorem u8_bt (l : List UInt8) (i : Nat) : u8 (bt l i) = l.getD i 0 := by
  unfold u8 bt
  simp
section
variable {C : Cx} {x y r : AV} {k : IntKind} {a b c : Int} {l m n : List UInt8}
theorem kAndM (m : Nat) (M : Int) (hM : (2 : Int) ^ m = M) (hx : Is C x (.int k a)) (hy : Is C y (.int k b)) (hr : Den C r (.int k c)) (h0 : 0 ≤ a) (hfa : fits k a = true) (hfb : fits k b = true) (hb : b = M - 1) (hc : a % M = c) : HOk C (.bin .and x y) r :=
  kAnd m hx hy hr h0 hfa hfb (by rw [hM]; exact hb) (by rw [hM]; exact hc)
theorem kAndG (m : Nat) (M : Int) (hM : (2 : Int) ^ m = M) (hm : m ≤ k.bits) (hx : Is C x (.int k a)) (hy : Is C y (.int k b)) (hr : Den C r (.int k c)) (hfb : fits k b = true) (hb : b = M - 1) (hc : a % M = c) (hf : fits k c = true) : HOk C (.bin .and x y) r := by
  subst hM
  have h1 : (1 : Nat) ≤ 2 ^ m := Nat.one_le_two_pow
  have hp : ((2 ^ m : Nat) : Int) = 2 ^ m := by simp
  obtain ⟨Bn, hB⟩ := Int.eq_ofNat_of_zero_le (show (0 : Int) ≤ b by omega)
  subst hB
  have hbn : Bn = 2 ^ m - 1 := by omega
  have e : ∀ A : Nat, Nat.land A Bn = A % 2 ^ m := fun A => by rw [hbn]; exact Nat.and_two_pow_sub_one_eq_mod A m
  have hd : (2 : Int) ^ m ∣ 2 ^ k.bits := ⟨2 ^ (k.bits - m), by rw [← Int.pow_add]; congr 1; omega⟩
  have hpos : (0 : Int) < 2 ^ k.bits := Int.pow_pos (by omega)
  have ht : ((tn k a % 2 ^ m : Nat) : Int) = a % 2 ^ m := by
    rw [tn_eq]
    have h0 : 0 ≤ a % 2 ^ k.bits := Int.emod_nonneg _ (by omega)
    rw [Int.natCast_emod, Int.toNat_of_nonneg h0, hp, Int.emod_emod_of_dvd _ hd]
  refine hInts hx hy hr fun t w => ?_
  obtain ⟨_, v, hv, hq⟩ := binI_ok (C := C) (ρ := fun _ => none) (o := .and) (k := k) (a := a) (c := Bn) (S := ⟨.leaf, 0, 0, 0⟩) rfl ⟨by simp, by simp⟩
  have hv' : v = .int k c := by
    simp only [mkI, Rel] at hv
    have hcc : Int.ofNat (tn k a % 2 ^ m) = c := by rw [← hc]; exact ht
    rw [hv, tn_nat hfb, e, wrp_eq, hcc, fits_wrap k c hf]
  rw [← hv']; exact hq t w
theorem kOrM (m : Nat) (M : Int) (hM : (2 : Int) ^ m = M) (hx : Is C x (.int k a)) (hy : Is C y (.int k b)) (hr : Den C r (.int k c)) (h0 : 0 ≤ a) (h1 : 0 ≤ b) (hfa : fits k a = true) (hfb : fits k b = true) (ha : a % M = 0) (hb : b < M) (hc : a + b = c) (hf : fits k c = true) : HOk C (.bin .or x y) r :=
  kOr m hx hy hr h0 h1 hfa hfb (by rw [hM]; exact ha) (by rw [hM]; exact hb) hc hf
theorem kOrR (m : Nat) (M : Int) (hM : (2 : Int) ^ m = M) (hx : Is C x (.int k a)) (hy : Is C y (.int k b)) (hr : Den C r (.int k c)) (h0 : 0 ≤ a) (h1 : 0 ≤ b) (hfa : fits k a = true) (hfb : fits k b = true) (hb : b % M = 0) (ha : a < M) (hc : a + b = c) (hf : fits k c = true) : HOk C (.bin .or x y) r := by
  have h := kOrM (C := C) (r := r) m M hM hy hx hr h1 h0 hfb hfa hb ha (by omega) hf
  intro ρ vx vy g1 g2
  obtain ⟨q1, v, q2, q3⟩ := h ρ vy vx g2 g1
  have e1 := hx ρ vx g1; have e2 := hy ρ vy g2; subst e1; subst e2
  refine ⟨.inl ⟨k, a, b, rfl, rfl⟩, v, q2, fun t w => ?_⟩
  rw [← q3 t w]
  simp only [binOp, ne_eq, not_true_eq_false, if_false, Op.intBits]
  rw [show (BitVec.ofInt k.bits a ||| BitVec.ofInt k.bits b) = (BitVec.ofInt k.bits b ||| BitVec.ofInt k.bits a) from BitVec.or_comm _ _]
theorem kShlM {l : IntKind} (p : Nat) (M : Int) (hM : (2 : Int) ^ p = M) (hx : Is C x (.int k a)) (hy : Is C y (.int l b)) (hr : Den C r (.int k c)) (hb : b = (p : Int)) (hp : p ≤ k.bits) (hc : a * M = c) (hf : fits k c = true) : HOk C (.bin .shl x y) r :=
  kShl p hx hy hr hb hp (by rw [hM, hc]; exact fits_wrap k c hf)
theorem kShrM {l : IntKind} (p : Nat) (M : Int) (hM : (2 : Int) ^ p = M) (hx : Is C x (.int k a)) (hy : Is C y (.int l b)) (hr : Den C r (.int k c)) (hb : b = (p : Int)) (hp : p ≤ k.bits) (h0 : 0 ≤ a) (hc : a / M = c) : HOk C (.bin .shr x y) r :=
  kShr p hx hy hr hb hp h0 (by rw [hM]; exact hc)
theorem kConv8 {t : Nat} (hx : Is C x (.int k a)) (ht : C.P.underlying t = some (.int .u8)) (hr : Den C r (.int .u8 c)) (hc : a % 256 = c) : HOk C (.conv t x) r := kConv hx ht hr (by rw [wrapU8]; exact hc)
theorem kConv16 {t : Nat} (hx : Is C x (.int k a)) (ht : C.P.underlying t = some (.int .u16)) (hr : Den C r (.int .u16 c)) (hc : a % 65536 = c) : HOk C (.conv t x) r := kConv hx ht hr (by rw [wrapU16]; exact hc)
theorem kConv32 {t : Nat} (hx : Is C x (.int k a)) (ht : C.P.underlying t = some (.int .u32)) (hr : Den C r (.int .u32 c)) (hc : a % 4294967296 = c) : HOk C (.conv t x) r := kConv hx ht hr (by rw [wrapU32]; exact hc)
theorem kLenE (hx : Is C x (St' l)) (hr : Den C r (.int .i64 c)) (hc : (l.length : Int) = c) : HOk C (.len x) r := by subst hc; exact kLen hx hr
theorem kIdxE {i : Nat} (hx : Is C x (St' l)) (hy : Is C y (.int k b)) (hr : Den C r (.int .u8 c)) (hb : b = (i : Int)) (hi : i < l.length) (hc : bt l i = c) : HOk C (.idx x y) r := by subst hc; exact kIdx hx hy hr hb hi
theorem bt_at {i : Nat} {q : Int} (h : l.getD i 0 = u8 q) (h0 : 0 ≤ q) (h1 : q ≤ 255) : bt l i = q := by unfold bt; rw [h]; exact u8_toNat h0 h1
theorem bt_take {i j : Nat} (h : i < j) : bt (l.take j) i = bt l i := by
  unfold bt
  rw [List.getD_eq_getElem?_getD, List.getD_eq_getElem?_getD, List.getElem?_take, if_pos h]
theorem isB8 (h : Is C x (.int .u8 a)) (h0 : 0 ≤ a) (h1 : a ≤ 255) : Is C x (.int .u8 ((u8 a).toNat : Int)) := by rw [u8_toNat h0 h1]; exact h
inductive BY (C : Cx) : List AV → List UInt8 → Prop
  | nil : BY C [] []
  | cons {a : AV} {b : UInt8} {vs : List AV} {bs : List UInt8} : Is C a (.int .u8 (b.toNat : Int)) → BY C vs bs → BY C (a :: vs) (b :: bs)
theorem BY.rel {vs : List AV} {bs : List UInt8} (h : BY C vs bs) : ∀ ρ xs, RelL C ρ vs xs → xs = bs.map fun b => .int .u8 (b.toNat : Int) := by
  induction h with
  | nil => intro ρ xs hx; simp only [RelL] at hx; rw [hx]; rfl
  | cons h1 _ ih =>
    intro ρ xs hx
    simp only [RelL] at hx
    obtain ⟨v, vt, rfl, g1, g2⟩ := hx
    rw [h1 ρ v g1, ih ρ vt g2]; rfl
theorem kBytesB {vs : List AV} {bs : List UInt8} (h : BY C vs bs) (hr : Den C r (St' bs)) : HOk C (.bytes vs) r := kBytes bs h.rel hr
theorem neT {a b : Int} (h : ¬ a = b) : (!decide (a = b)) = true := by simp [h]
theorem neF {a b : Int} (h : a = b) : (!decide (a = b)) = false := by simp [h]
theorem bnT {b : Bool} (h : b = false) : (!b) = true := by rw [h]; rfl
theorem bnF {b : Bool} (h : b = true) : (!b) = false := by rw [h]; rfl
theorem isZ {k : IntKind} {n m : Int} (h : n = m) : Is C (.i k n) (.int k m) := h ▸ isI k n
theorem denZ {k : IntKind} {n m : Int} (h : n = m) : Den C (.i k n) (.int k m) := h ▸ denI k n
theorem isSx (len n : Nat) {l : List UInt8} (h : strB len n = l) : Is C (.s len n) (St' l) := h ▸ isS len n
theorem kCut {lo hi : Option AV} {z p q : List UInt8} {P Q : Int} (hx : Is C x (St' z)) (hlo : (lo = none ∧ P = 0) ∨ ∃ e k, lo = some e ∧ Is C e (.int k P)) (hhi : (hi = none ∧ Q = (z.length : Int)) ∨ ∃ e k, hi = some e ∧ Is C e (.int k Q))
    (hz : z = p ++ (m ++ q)) (hP : P = (p.length : Int)) (hQ : Q = (p.length : Int) + (m.length : Int)) (hr : Den C r (St' m)) : HOk C (.sub x lo hi) r := by
  subst hP; subst hQ; subst hz
  refine kSub' (p := p.length) (q := p.length + m.length) hx ?_ ?_ (by omega) (by simp) hr ?_
  · rcases hlo with ⟨h1, h2⟩ | h
    · exact .inl ⟨h1, by omega⟩
    · exact .inr h
  · rcases hhi with ⟨h1, h2⟩ | ⟨e, k, h1, h2⟩
    · exact .inl ⟨h1, by omega⟩
    · exact .inr ⟨e, k, h1, by simpa using h2⟩
  · simp
theorem kTake {z : List UInt8} {e : AV} {q : IntKind} {Q : Int} (hx : Is C x (St' z)) (he : Is C e (.int q Q)) (h0 : 0 ≤ Q) (h1 : Q ≤ (z.length : Int)) (hr : Den C r (St' (z.take Q.toNat))) : HOk C (.sub x none (some e)) r := by
  have hq : Q = (Q.toNat : Int) := by omega
  refine kSub' (p := 0) (q := Q.toNat) hx (.inl ⟨rfl, rfl⟩) (.inr ⟨e, q, rfl, by rw [← hq]; exact he⟩) (by omega) (by omega) hr ?_
  simp
theorem nilT {l : List UInt8} (h : (l.length : Int) = 0) : decide (l = []) = true := decide_eq_true (List.eq_nil_of_length_eq_zero (by omega))
theorem nilF {l : List UInt8} (h : ¬ (l.length : Int) = 0) : decide (l = []) = false := decide_eq_false fun e => h (by rw [e]; rfl)
theorem nilT' {l : List UInt8} (h : (l.length : Int) = 0) : decide ([] = l) = true := decide_eq_true (List.eq_nil_of_length_eq_zero (by omega)).symm
theorem nilF' {l : List UInt8} (h : ¬ (l.length : Int) = 0) : decide ([] = l) = false := decide_eq_false fun e => h (by rw [← e]; rfl)
def okB (o : Option (AV × St)) : Bool := match o with
  | some (.b true, _) => true
  | _ => false
theorem okB_inv {o : Option (AV × St)} (h : okB o = true) : ∃ S, o = some (.b true, S) := by
  unfold okB at h
  split at h
  · exact ⟨_, rfl⟩
  · cases h
def okS (o : Option (AV × St)) (len n : Nat) : Bool := match o with
  | some (.s k m, _) => Nat.beq k len && Nat.beq m n
  | _ => false
theorem okS_inv {o : Option (AV × St)} {len n : Nat} (h : okS o len n = true) : ∃ S, o = some (.s len n, S) := by
  unfold okS at h
  split at h
  · rw [Bool.and_eq_true] at h
    have h1 := Nat.eq_of_beq_eq_true h.1
    have h2 := Nat.eq_of_beq_eq_true h.2
    subst h1; subst h2
    exact ⟨_, rfl⟩
  · cases h
theorem hcons {h : List (HK × AV)} {k : HK} {r : AV} (h1 : HOk C k r) (h2 : ∀ k r, (k, r) ∈ h → HOk C k r) : ∀ k' r', (k', r') ∈ (k, r) :: h → HOk C k' r' := fun k' r' hm => by
  rcases List.mem_cons.1 hm with e | e
  · injection e with e1 e2; subst e1; subst e2; exact h1
  · exact h2 k' r' e
theorem hnil : ∀ k r, (k, r) ∈ ([] : List (HK × AV)) → HOk C k r := fun k r h => by cases h
end
theorem intOf2 {k : IntKind} {a lo hi : Int} (h : (Lit.int k a).wf = true) (h0 : IntKind.min k = lo) (hM : IntKind.max k = hi) : lo ≤ a ∧ a ≤ hi := by
  have h1 : IntKind.min k ≤ a ∧ a ≤ IntKind.max k := by simpa [Lit.wf] using h
  rw [h0, hM] at h1; exact h1
def nuL (l : List Value) (i : Nat) : Value := l.getD i (.bool true)
theorem nuL_one {l : List Value} (h : l.all (fun v => v.oneCell') = true) : ∀ i, (nuL l i).oneCell' = true := fun i => by
  unfold nuL
  rw [List.getD_eq_getElem?_getD]
  cases hl : l[i]? with
  | none => rfl
  | some v => exact List.all_eq_true.1 h v (List.mem_of_getElem? hl)
end Go.AX
end
section
set_option linter.unusedSimpArgs false
set_option linter.unusedVariables false
namespace Go.AX
section
variable {C : Cx} {x y z r : AV} {k : IntKind} {a b c d : Int} {l m n : List UInt8}
theorem kByt {i : Nat} (hx : Is C x (St' l)) (hy : Is C y (.int k b)) (hr : Den C r (.int .u8 c)) (hb : b = (i : Int)) (hi : i < l.length) (hc : bt l i = c) : HOk C (.byt x y) r := by
  intro ρ vx vi h1 h2
  have e1 := hx ρ vx h1; have e2 := hy ρ vi h2; subst e1; subst e2; subst hb; subst hc
  refine ⟨l, k, i, l[i], rfl, rfl, List.getElem?_eq_getElem hi, ?_⟩
  have e : l.getD i 0 = l[i] := by simp [List.getD_eq_getElem?_getD, List.getElem?_eq_getElem hi]
  have := hr ρ
  unfold bt at this
  rw [e] at this
  exact this
theorem kSet {i : Nat} (hx : Is C x (St' l)) (hy : Is C y (.int k b)) (hz : Is C z (.int .u8 d)) (hr : Den C r (St' n)) (hb : b = (i : Int)) (hi : i < l.length) (h0 : 0 ≤ d) (h1 : d ≤ 255) (hc : l.set i (u8 d) = n) : HOk C (.set x y z) r := by
  intro ρ vx vi vy g1 g2 g3
  have e1 := hx ρ vx g1; have e2 := hy ρ vi g2; have e3 := hz ρ vy g3; subst e1; subst e2; subst e3; subst hb; subst hc
  exact ⟨l, k, i, u8 d, rfl, rfl, hi, by rw [u8_toNat h0 h1], hr ρ⟩
theorem set_last (p : List UInt8) (n : Nat) (v : UInt8) (h : 1 ≤ n) : (p ++ List.replicate n 0).set (p.length + n - 1) v = p ++ (List.replicate (n - 1) 0 ++ [v]) := by
  obtain ⟨m, rfl⟩ : ∃ m, n = m + 1 := ⟨n - 1, by omega⟩
  rw [List.replicate_succ', ← List.append_assoc]
  have e : p.length + (m + 1) - 1 = (p ++ List.replicate m (0 : UInt8)).length := by simp
  rw [e, List.set_append_right _ _ (Nat.le_refl _)]
  simp
theorem kSetLast {p : List UInt8} {N : Int} (hx : Is C x (St' l)) (hy : Is C y (.int k b)) (hz : Is C z (.int .u8 d)) (hr : Den C r (St' n)) (hl : l = p ++ List.replicate (Int.toNat N) 0) (hN : 1 ≤ N) (hb : b = (p.length : Int) + N - 1) (h0 : 0 ≤ d) (h1 : d ≤ 255)
    (hn : p ++ (List.replicate (Int.toNat (N - 1)) 0 ++ [u8 d]) = n) : HOk C (.set x y z) r := by
  have hi : b = ((p.length + N.toNat - 1 : Nat) : Int) := by omega
  refine kSet (i := p.length + N.toNat - 1) hx hy hz hr hi (by rw [hl, List.length_append, List.length_replicate]; omega) h0 h1 ?_
  rw [hl, set_last p N.toNat (u8 d) (by omega), ← hn]
  congr 3
  omega
theorem kApp {ys : List AV} {bs : List UInt8} (hx : Is C x (St' l)) (hy : BY C ys bs) (hr : Den C r (St' n)) (hc : l ++ bs = n) : HOk C (.app x ys) r := by
  intro ρ vx vs g1 g2
  have e1 := hx ρ vx g1; subst e1; subst hc
  exact ⟨l, bs, rfl, hy.rel ρ vs g2, hr ρ⟩
theorem kFit (hx : Is C x (St' l)) (h : (l.length : Int) ≤ 140737488355328) : HOk C (.fit x) r := by
  intro ρ vx g1
  have e1 := hx ρ vx g1; subst e1
  exact ⟨l, rfl, by omega⟩
theorem kZer (hx : Is C x (.int k a)) (h0 : 0 ≤ a) (h1 : a ≤ 140737488355328) (hr : Den C r (St' (List.replicate a.toNat 0))) : HOk C (.zer x) r := by
  intro ρ vx g1
  have e1 := hx ρ vx g1; subst e1
  exact ⟨k, a.toNat, by congr 1; show a = ((a.toNat : Nat) : Int); omega, by omega, hr ρ⟩
theorem kMid {lo hi : Option AV} {P Q : Int} (hx : Is C x (St' l)) (hlo : (lo = none ∧ P = 0) ∨ ∃ e k, lo = some e ∧ Is C e (.int k P)) (hhi : (hi = none ∧ Q = (l.length : Int)) ∨ ∃ e k, hi = some e ∧ Is C e (.int k Q))
    (h0 : 0 ≤ P) (h1 : P ≤ Q) (h2 : Q ≤ (l.length : Int)) (hr : Den C r (St' ((l.drop P.toNat).take (Q - P).toNat))) : HOk C (.sub x lo hi) r := by
  have hp : P = (P.toNat : Int) := by omega
  have hq : Q = (Q.toNat : Int) := by omega
  refine kSub' (p := P.toNat) (q := Q.toNat) hx ?_ ?_ (by omega) (by omega) hr (by congr 1; omega)
  · rcases hlo with ⟨g1, g2⟩ | ⟨e, k, g1, g2⟩
    · exact .inl ⟨g1, by omega⟩
    · exact .inr ⟨e, k, g1, by rw [← hp]; exact g2⟩
  · rcases hhi with ⟨g1, g2⟩ | ⟨e, k, g1, g2⟩
    · exact .inl ⟨g1, by omega⟩
    · exact .inr ⟨e, k, g1, by rw [← hq]; exact g2⟩
theorem mid_len {l : List UInt8} {P Q : Int} (h0 : 0 ≤ P) (h1 : P ≤ Q) (h2 : Q ≤ (l.length : Int)) : (((l.drop P.toNat).take (Q - P).toNat).length : Int) = Q - P := by
  rw [List.length_take, List.length_drop]; omega
theorem strB_zero (n : Nat) : strB n 0 = List.replicate n 0 := by
  apply List.ext_getElem?
  intro j
  rw [List.getElem?_replicate]
  by_cases h : j < n
  · rw [strB_get n 0 j h, if_pos h]
    simp [byteAt]; rfl
  · rw [if_neg h]
    exact List.getElem?_eq_none (by rw [strB_length]; omega)
end
end Go.AX
end
section
set_option linter.unusedSimpArgs false
set_option linter.unusedVariables false
namespace Go.AX
theorem u8_ne {a c : Int} (h : a ≠ c ∧ 0 ≤ a ∧ a ≤ 255 ∧ 0 ≤ c ∧ c ≤ 255) : u8 a ≠ u8 c := fun e => by
  have h1 := u8_toNat h.2.1 h.2.2.1
  have h2 := u8_toNat h.2.2.2.1 h.2.2.2.2
  rw [e] at h1
  omega
section
variable {C : Cx} {x y r : AV} {l : List UInt8} {a c m n : Int}
def cntB (l : List UInt8) (c : Int) : Int := (Lib.countByte l (u8 c) : Nat)
def idxB (l : List UInt8) (c : Int) : Int := Lib.indexByte l (u8 c)
theorem kExtC {g : Nat} {fn : Func} (hg : C.P.funcs[g]? = some fn) (h1 : (Extern.findNext fn).isNone = true) (h2 : Extern.find fn = some Extern.BytealgCount.count) (hx : Is C x (St' l)) (hy : Is C y (.int .u8 c)) (hr : Den C r (.int .i64 n)) (hc : cntB l c = n) : HOk C (.ext g [x, y]) r := by
  intro ρ args ha fn' hf
  rw [hg] at hf; injection hf with hf; subst hf
  obtain ⟨x', y', rfl, hx', hy'⟩ := rel2 ha
  have e1 := hx ρ x' hx'; have e2 := hy ρ y' hy'; subst e1; subst e2
  exact ⟨_, none_of h1, h2, fun w => ⟨_, Lib.run_countString _ _ w, by rw [← hc] at hr; exact hr ρ⟩⟩
theorem kExtI {g : Nat} {fn : Func} (hg : C.P.funcs[g]? = some fn) (h1 : (Extern.findNext fn).isNone = true) (h2 : Extern.find fn = some Extern.BytealgIndexByte.indexByte) (hx : Is C x (St' l)) (hy : Is C y (.int .u8 c)) (hr : Den C r (.int .i64 n)) (hc : idxB l c = n) : HOk C (.ext g [x, y]) r := by
  intro ρ args ha fn' hf
  rw [hg] at hf; injection hf with hf; subst hf
  obtain ⟨x', y', rfl, hx', hy'⟩ := rel2 ha
  have e1 := hx ρ x' hx'; have e2 := hy ρ y' hy'; subst e1; subst e2
  exact ⟨_, none_of h1, h2, fun w => ⟨_, Lib.run_indexByteString _ _ w, by rw [← hc] at hr; exact hr ρ⟩⟩
theorem cnZ : cntB [] c = 0 := rfl
theorem cnN (h : a ≠ c ∧ 0 ≤ a ∧ a ≤ 255 ∧ 0 ≤ c ∧ c ≤ 255) (hl : cntB l c = n) : cntB (u8 a :: l) c = n := by
  have h1 : (u8 a == u8 c) = false := by simpa using u8_ne h
  unfold cntB Lib.countByte at *
  rw [List.count_cons, h1]; simpa using hl
theorem cnE (h : a = c) (hl : cntB l c = m) (hn : m + 1 = n) : cntB (u8 a :: l) c = n := by
  subst h
  unfold cntB Lib.countByte at *
  rw [List.count_cons]; simp; omega
theorem ixZ : idxB [] c = -1 := rfl
theorem ixE (h : a = c) : idxB (u8 a :: l) c = 0 := by
  subst h
  unfold idxB Lib.indexByte; simp
theorem ixN (h : a ≠ c ∧ 0 ≤ a ∧ a ≤ 255 ∧ 0 ≤ c ∧ c ≤ 255) (hl : idxB l c = m) (hn : (m = -1 ∧ n = -1) ∨ (0 ≤ m ∧ n = m + 1)) : idxB (u8 a :: l) c = n := by
  have h1 : (u8 a == u8 c) = false := by simpa using u8_ne h
  unfold idxB at *
  unfold Lib.indexByte
  rw [h1]
  simp only [Bool.false_eq_true, if_false]
  rw [hl]
  rcases hn with ⟨rfl, rfl⟩ | ⟨h0, rfl⟩
  · rfl
  · have : (m == -1) = false := by simp; omega
    rw [this]; rfl
theorem u8_cons {a b : Int} {l m : List UInt8} (h : a = b) (ht : l = m) : u8 a :: l = u8 b :: m := by rw [h, ht]
theorem neAt (i : Nat) {l m : List UInt8} {p q : Int} (h1 : bt l i = p) (h2 : bt m i = q) (h : p ≠ q) : decide (l = m) = false := decide_eq_false fun e => by
  subst e; rw [h1] at h2; exact h h2
theorem repSplit {E a b : Int} (h : a + b = E) (h0 : 0 ≤ a) (h1 : 0 ≤ b) : List.replicate (Int.toNat E) (0 : UInt8) = List.replicate (Int.toNat a) 0 ++ List.replicate (Int.toNat b) 0 := by
  rw [List.replicate_append_replicate]; congr 1; omega
theorem neLen {l m : List UInt8} (h : l.length ≠ m.length) : decide (l = m) = false := decide_eq_false fun e => h (by rw [e])
end
end Go.AX
end
section
set_option linter.unusedSimpArgs false
set_option linter.unusedVariables false
namespace Go.AX
section
variable {C : Cx} {x y r : AV} {l : List UInt8}
theorem kIdxC {q : IntKind} {i c : Nat} (hx : Is C x (St' l)) (hi : i < l.length) (h : l.getD i 0 = u8 (Int.ofNat c)) (hc : c ≤ 255) : HOk C (.idx x (.i q (.ofNat i))) (.i .u8 (.ofNat c)) :=
  kIdxE (i := i) hx (isI q (Int.ofNat i)) (denI .u8 (Int.ofNat c)) rfl hi (bt_at h (by have : Int.ofNat c = (c : Int) := rfl; omega) (by have : Int.ofNat c = (c : Int) := rfl; omega))
theorem bC {vs : List AV} {bs : List UInt8} {n : Nat} (h : n ≤ 255) (ht : BY C vs bs) : BY C (.i .u8 (.ofNat n) :: vs) (u8 (Int.ofNat n) :: bs) :=
  .cons (isB8 (isI .u8 (Int.ofNat n)) (by have : Int.ofNat n = (n : Int) := rfl; omega) (by have : Int.ofNat n = (n : Int) := rfl; omega)) ht
end
abbrev i6 (n : Nat) : AV := .i .i64 (.ofNat n)
abbrev u1 (n : Nat) : AV := .i .u8 (.ofNat n)
end Go.AX
end
section
set_option linter.unusedSimpArgs false
set_option linter.unusedVariables false
namespace Go.AX
def okA (o : Option (AV × St)) (a : AV) : Bool := match o with
  | some (b, _) => sameR 8 b a
  | _ => false
theorem okA_inv {o : Option (AV × St)} {a : AV} (h : okA o a = true) : ∃ S, o = some (a, S) := by
  unfold okA at h
  split at h
  · rename_i b S
    exact ⟨S, by rw [sameR_eq 8 b a h]⟩
  · cases h
section
variable {C : Cx}
theorem isB (b : Bool) : Is C (.b b) (.bool b) := fun ρ x hx => by simpa only [Rel] using hx
theorem denT2 {a b : AV} {u v : Value} (h1 : Den C a u) (h2 : Den C b v) : Den C (.tu [a, b]) (.tuple #[u, v]) := fun ρ => by
  simp only [Rel, RelL]
  exact ⟨[u, v], rfl, u, [v], rfl, h1 ρ, v, [], rfl, h2 ρ, rfl⟩
theorem denT3 {a b c : AV} {u v z : Value} (h1 : Den C a u) (h2 : Den C b v) (h3 : Den C c z) : Den C (.tu [a, b, c]) (.tuple #[u, v, z]) := fun ρ => by
  simp only [Rel, RelL]
  exact ⟨[u, v, z], rfl, u, [v, z], rfl, h1 ρ, v, [z], rfl, h2 ρ, z, [], rfl, h3 ρ, rfl⟩
end
end Go.AX
namespace Go.AX
abbrev DIG : List UInt8 := [u8 48, u8 49, u8 50, u8 51, u8 52, u8 53, u8 54, u8 55, u8 56, u8 57, u8 97, u8 98, u8 99, u8 100, u8 101, u8 102, u8 103, u8 104, u8 105, u8 106, u8 107, u8 108, u8 109, u8 110, u8 111, u8 112, u8 113, u8 114, u8 115, u8 116, u8 117, u8 118, u8 119, u8 120, u8 121, u8 122]
def dg (x : Int) : Int := if x < 10 then x + 48 else x + 87
theorem dg_or (x : Int) : (x < 10 ∧ dg x = x + 48) ∨ (10 ≤ x ∧ dg x = x + 87) := by
  unfold dg
  by_cases h : x < 10
  · rw [if_pos h]; omega
  · rw [if_neg h]; omega
theorem dg_nat : ∀ n : Nat, n < 36 → bt DIG n = dg (n : Int) := by decide
theorem dg_bt {x : Int} (h0 : 0 ≤ x) (h1 : x < 36) : bt DIG (Int.toNat x) = dg x := by
  have h := dg_nat x.toNat (by omega)
  rwa [Int.toNat_of_nonneg h0] at h
end Go.AX
namespace Go.AX
theorem bt_app {l p q : List UInt8} {i : Nat} {x : Int} (j : Nat) (h : l = p ++ q) (hi : (i : Int) = (p.length : Int) + (j : Int)) (hx : bt q j = x) : bt l i = x := by
  have e : i = p.length + j := by omega
  subst e; subst h; subst hx
  unfold bt
  rw [List.getD_eq_getElem?_getD, List.getElem?_append_right (Nat.le_add_right _ _), List.getD_eq_getElem?_getD, Nat.add_sub_cancel_left]
end Go.AX
namespace Go.AX
section
variable {C : Cx} {x r : AV}
theorem kMidR {lo hi : Option AV} {E P Q : Int} (hx : Is C x (St' (List.replicate (Int.toNat E) 0))) (hlo : (lo = none ∧ P = 0) ∨ ∃ e k, lo = some e ∧ Is C e (.int k P)) (hhi : (hi = none ∧ Q = ((List.replicate (Int.toNat E) (0 : UInt8)).length : Int)) ∨ ∃ e k, hi = some e ∧ Is C e (.int k Q))
    (h0 : 0 ≤ P) (h1 : P ≤ Q) (h2 : Q ≤ E) (hr : Den C r (St' (List.replicate (Int.toNat (Q - P)) 0))) : HOk C (.sub x lo hi) r := by
  refine kMid hx hlo hhi h0 h1 (by rw [List.length_replicate]; omega) ?_
  have e : ((List.replicate (Int.toNat E) (0 : UInt8)).drop P.toNat).take (Q - P).toNat = List.replicate (Int.toNat (Q - P)) 0 := by
    rw [List.drop_replicate, List.take_replicate]; congr 1; omega
  rw [e]; exact hr
end
end Go.AX
namespace Go.AX
section
variable {C : Cx} {x y r : AV} {l p q : List UInt8} {k : IntKind} {b c : Int}
theorem kIdxA2 {a : List UInt8} (j : Nat) (hx : Is C x (St' l)) (hy : Is C y (.int k b)) (hl : l = a ++ (p ++ q)) (hb : b = (a.length : Int) + (p.length : Int) + (j : Int)) (hj : j < q.length) (hq : q.getD j 0 = u8 c) (hc : 0 ≤ c ∧ c ≤ 255) (hr : Den C r (.int .u8 c)) : HOk C (.idx x y) r := by
  refine kIdxE (i := b.toNat) hx hy hr (by omega) (by rw [hl, List.length_append, List.length_append]; omega) ?_
  exact bt_app (p := a ++ p) j (by rw [hl, List.append_assoc]) (by rw [List.length_append]; omega) (bt_at hq hc.1 hc.2)
theorem kLtT {a : Int} (hx : Is C x (.int k a)) (hy : Is C y (.int k b)) (h : a < b) : HOk C (.bin .lss x y) (.b true) := kLt hx hy (decide_eq_true h)
theorem kLtF {a : Int} (hx : Is C x (.int k a)) (hy : Is C y (.int k b)) (h : ¬ a < b) : HOk C (.bin .lss x y) (.b false) := kLt hx hy (decide_eq_false h)
theorem kInc {a : Int} {m : Nat} (hx : Is C x (.int .i64 a)) (hr : Den C r (.int .i64 c)) (h : a + m = c ∧ -9223372036854775808 ≤ c ∧ c ≤ 9223372036854775807) : HOk C (.bin .add x (.i .i64 (.ofNat m))) r :=
  kAdd hx (isI .i64 (Int.ofNat m)) hr h.1 (fI64 h.2.1 h.2.2)
end
end Go.AX
namespace Go.AX
section
variable {C : Cx} {x y : AV} {l p q : List UInt8} {k : IntKind} {b : Int}
theorem kIdxA3 {a : List UInt8} {c : Nat} (j : Nat) (hx : Is C x (St' l)) (hy : Is C y (.int k b)) (hl : l = a ++ (p ++ q)) (hb : b = (a.length : Int) + (p.length : Int) + (j : Int)) (hq : q[j]? = some (u8 (Int.ofNat c))) (hc : Nat.ble c 255 = true) : HOk C (.idx x y) (.i .u8 (.ofNat c)) := by
  have hj : j < q.length := by
    rcases Nat.lt_or_ge j q.length with h | h
    · exact h
    · rw [List.getElem?_eq_none h] at hq; cases hq
  have hc' : c ≤ 255 := Nat.le_of_ble_eq_true hc
  have e : Int.ofNat c = (c : Int) := rfl
  exact kIdxA2 (c := Int.ofNat c) j hx hy hl hb hj (by rw [List.getD_eq_getElem?_getD, hq]; rfl) (by omega) (denI .u8 (Int.ofNat c))
end
theorem hc {C : Cx} {k : HK} {r : AV} {l : List (HK × AV)} (h : HOk C k r) (ht : ∀ k r, (k, r) ∈ l → HOk C k r) : ∀ k' r', (k', r') ∈ (k, r) :: l → HOk C k' r' := hcons h ht
end Go.AX
end
