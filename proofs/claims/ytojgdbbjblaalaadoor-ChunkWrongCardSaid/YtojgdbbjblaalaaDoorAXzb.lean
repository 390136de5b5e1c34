/- A part of the proof: an interpreter of the model's own code on partly known states, and that what it answers is what the program answers. No condition of its own. -/
import Derived.Test.YtojgdbbjblaalaaDoorAXza
set_option linter.unusedSimpArgs false
set_option linter.unusedVariables false
namespace Go.AX
open Go.RowKit (Below)
theorem op_ok' {C : Cx} {tb : Tab} {ρ : Rho} {B : Nat} {H : T Blk} {w : World} {E : Env} {a : Act} (hF : Fits C tb.ng B ρ H w) (x : Operand)
    (h : ∀ t v, x = .tmp t → E.tm.get t = some v → Rel C ρ v (a.tmps.getD t undef)) : Rel C ρ (op tb.ng E.tm x) (a.eval x) := by
  cases x with
  | tmp t =>
    simp only [op, Act.eval]
    cases hg : E.tm.get t with
    | none => simp [Rel]
    | some v => exact h t v rfl hg
  | const v => exact ofV_ok C ρ v
  | global g =>
    simp only [op, Act.eval]
    cases hc : Nat.blt g tb.ng with
    | false => simp [Rel]
    | true =>
      simp only [cond_true, Rel]
      exact ⟨_, hF.glob g (Nat.le_of_ble_eq_true hc), rfl⟩
  | func f => simp only [op, Act.eval, Rel, RelL]; exact ⟨[], [], rfl, rfl, rfl⟩
theorem wanted_ok' {C : Cx} {ρ : Rho} {ops : Array Oper} {E : Env} {a : Act} {o : Oper} {b : Bool}
    (h : ∀ t v, hasN (looks ops.toList o) t = true → E.tm.get t = some v → Rel C ρ v (a.tmps.getD t undef)) (hw : wanted ops.toList E o = some b) : Region.wanted o (yielded ops a.tmps) = b := by
  unfold wanted at hw
  unfold Region.wanted
  cases hg : o.guard with
  | none => rw [hg] at hw; simp only [Option.some.injEq] at hw; simpa using hw
  | some p =>
    obtain ⟨j, want⟩ := p
    rw [hg] at hw
    simp only [] at hw ⊢
    have hj : ops.toList[j]? = ops[j]? := by simp
    rw [hj] at hw
    unfold yielded
    cases ho : ops[j]? with
    | none => rw [ho] at hw; cases hw; rfl
    | some o' =>
      rw [ho] at hw
      simp only [Option.bind_some] at hw ⊢
      cases hd : o'.dst with
      | none => rw [hd] at hw; simp only [Option.some.injEq] at hw; subst hw; simp
      | some d =>
        rw [hd] at hw
        simp only [Option.bind_some] at hw ⊢
        cases hv : E.tm.get d with
        | none => rw [hv] at hw; cases hw
        | some x =>
          rw [hv] at hw
          have hr := h d x (looks_guard hg (hj.trans ho) hd) hv
          have hget : a.tmps.getD d undef = (a.tmps[d]?).getD undef := by simp [Array.getD_eq_getD_getElem?]
          rw [hget] at hr
          have notb : ∀ {y : AV}, (∀ v, Rel C ρ y v → ∀ q, v ≠ .bool q) → x = y → some false = some b → ((match a.tmps[d]? with | some (.bool q) => some q | _ => none) == some want) = b := by
            intro y hy e hb
            subst e
            injection hb with hb; subst hb
            have := hy _ hr
            cases ht : a.tmps[d]? with
            | none => rfl
            | some u =>
              rw [ht] at this
              cases u <;> first | rfl | exact absurd rfl (this _)
          cases x with
          | und => cases hw
          | b q =>
            simp only [Option.some.injEq] at hw
            simp only [Rel] at hr
            cases ht : a.tmps[d]? with
            | none => rw [ht] at hr; simp [undef] at hr
            | some u =>
              rw [ht] at hr
              simp only [Option.getD_some] at hr
              subst hr
              rw [← hw]; rfl
          | sl b' o'' n c r => exact notb (fun v hv q e => by subst e; cases r <;> simp [Rel] at hv) rfl hw
          | x id => cases hw
          | _ => exact notb (fun v hv q e => by subst e; simp [Rel, typeHandle] at hv) rfl hw
theorem Fits.congr {C : Cx} {ng B : Nat} {ρ : Rho} {H H' : T Blk} {w : World} (h : Fits C ng B ρ H w) (hh : ∀ v, H'.get v = H.get v) : Fits C ng B ρ H' w :=
  h.sub fun v k hk => by rw [← hh]; exact hk
def dstIs (ops : Array Oper) (k t : Nat) : Bool := match ops[k]? with
  | some o => match o.dst with
    | some d => Nat.beq d t
    | none => false
  | none => false
theorem dstIs_some {ops : Array Oper} {k t : Nat} (h : dstIs ops k t = true) : ∃ o, ops[k]? = some o ∧ o.dst = some t := by
  unfold dstIs at h
  cases ho : ops[k]? with
  | none => rw [ho] at h; cases h
  | some o =>
    rw [ho] at h
    simp only [] at h
    cases hd : o.dst with
    | none => rw [hd] at h; cases h
    | some d => rw [hd] at h; exact ⟨o, rfl, by rw [hd, Nat.eq_of_beq_eq_true h]⟩
theorem dstIs_false {ops : Array Oper} {k t : Nat} (h : dstIs ops k t = false) {o : Oper} (ho : ops[k]? = some o) : o.dst ≠ some t := fun e => by
  unfold dstIs at h
  rw [ho] at h; simp only [e, Nat.beq_refl] at h; cases h
theorem put_nt {E E' : Env} {d : Option Tmp} {x : AV} (h : E.put d x = some E') : E'.nt = E.nt ∧ (∀ t, d ≠ some t → E.nt ≤ 16777213 → E'.tm.get t = E.tm.get t) ∧ (∀ t, d = some t → E.nt ≤ 16777213 → E'.tm.get t = some x ∧ Nat.lt t E.nt) := by
  cases d with
  | none => simp only [Env.put_none, Option.some.injEq] at h; subst h; exact ⟨rfl, fun _ _ _ => rfl, fun t ht => by cases ht⟩
  | some d =>
    rw [Env.put_some] at h
    cases hc : Nat.blt d E.nt with
    | false => rw [hc] at h; cases h
    | true =>
      rw [hc] at h
      simp only [cond_true, Option.some.injEq] at h
      subst h
      have hlt : Nat.lt d E.nt := Nat.le_of_ble_eq_true hc
      refine ⟨rfl, fun t ht hn => ?_, fun t ht hn => ?_⟩
      · have hd : Nat.le d 16777213 := Nat.le_trans (Nat.le_of_lt hlt) hn
        show (E.tm.set d x).get t = _
        rw [get_set _ _ _ _ hd, if_neg (fun e => ht (by rw [e]))]
      · injection ht with ht; subst ht
        have hd : Nat.le d 16777213 := Nat.le_trans (Nat.le_of_lt hlt) hn
        refine ⟨?_, hlt⟩
        show (E.tm.set d x).get d = _
        rw [get_set _ _ _ _ hd, if_pos rfl]
section
variable {C : Cx} {tb : Tab} {B F : Nat} {ops : Array Oper} {Es : Nat → Env} {Ss : Nat → St} {bs : Nat → Bool} {vs : Nat → AV} {As Ws : Nat → Nat}
structure Inv (C : Cx) (tb : Tab) (B : Nat) (ops : Array Oper) (Es : Nat → Env) (Ss : Nat → St) (Ws : Nat → Nat) (ρ0 : Rho) (a0 : Act) (w0 : World) (D : Nat → Bool) (ρ : Rho) (H : T Blk) (a : Act) (w : World) : Prop where
  fit : Fits C tb.ng B ρ H w
  hp : ∀ v, H.get v = lw D (fun k => (Ws k).testBit v) (fun k => (Ss k).heap.get v) ops.size
  tm : ∀ t x, lw D (fun k => dstIs ops k t) (fun k => (Es k).tm.get t) ops.size = some x → Rel C ρ x (a.tmps.getD t undef)
  free : ∀ j, j < ops.size → D j = false → Free ρ (Ss j).next (Ss (j + 1)).next
  ext : Ext ρ0 ρ (Ss 0).next (Ss ops.size).next
  sz : a.tmps.size = (Es 0).nt
  df : a.defers = a0.defers
  be : Below B w0 w
  cl : ∀ i o e, D i = true → ops.toList[i]? = some o → e ∈ o.after.toList → bindsL e = true → D e.on = true
theorem nt_const (h : Tr tb F ops Es Ss bs vs As Ws) : ∀ i, i ≤ ops.size → (Es i).nt = (Es 0).nt
  | 0, _ => rfl
  | i + 1, hi => by
    have ho : ops[i]? = some ops[i] := Array.getElem?_eq_getElem (by omega)
    rw [(put_nt (h.step i _ ho).put).1, nt_const h i (by omega)]
theorem tm_keep (h : Tr tb F ops Es Ss bs vs As Ws) (hnt : (Es 0).nt ≤ 16777213) (t : Nat) : ∀ k, k < ops.size → dstIs ops k t = false → (Es (k + 1)).tm.get t = (Es k).tm.get t := fun k hk hd => by
  have ho : ops[k]? = some ops[k] := Array.getElem?_eq_getElem hk
  exact (put_nt (h.step k _ ho).put).2.1 t (dstIs_false hd ho) (by rw [nt_const h k (by omega)]; exact hnt)
/-- one operation listed -/
theorem Inv.next (h : Tr tb F ops Es Ss bs vs As Ws) (hnt : (Es 0).nt ≤ 16777213) {ρ0 : Rho} {a0 : Act} {w0 : World} {D : Nat → Bool} {ρ ρ' : Rho} {H H' : T Blk} {a : Act} {w w' : World} (I : Inv C tb B ops Es Ss Ws ρ0 a0 w0 D ρ H a w)
    {i : Nat} {o : Oper} (ho : ops[i]? = some o) (hi : D i = false) (hr : ∀ e ∈ o.after.toList, bindsL e = true → D e.on = true) {x : Value} (hx : Rel C ρ' (vs i) x) (hF : Fits C tb.ng B ρ' H' w')
    (hH : ∀ v, H'.get v = if (Ws i).testBit v then (Ss (i + 1)).heap.get v else H.get v) (he : Ext ρ ρ' (Ss i).next (Ss (i + 1)).next) (hb : Below B w w') :
    Inv C tb B ops Es Ss Ws ρ0 a0 w0 (add1 D i) ρ' H' (a.put o.dst x) w' := by
  have hiN : i < ops.size := (Array.getElem?_eq_some_iff.1 ho).1
  have hget : ∀ (i : Nat), ops.toList[i]? = ops[i]? := fun i => Array.getElem?_toList
  have hsub : Sub ρ ρ' := he.sub (I.free i hiN hi)
  have hanc : ∀ j, Anc ops.toList i j → D j = false := fun j ha => by
    cases hD : D j with
    | false => rfl
    | true => have := ha.closed I.cl hD; rw [hi] at this; cases this
  have st := h.step i o ho
  have pn := put_nt st.put
  have hnti : (Es i).nt ≤ 16777213 := by rw [nt_const h i (by omega)]; exact hnt
  refine ⟨hF, fun v => ?_, fun t y hy => ?_, fun j hj hD => ?_, fun v hv => ?_, ?_, ?_, I.be.trans hb, fun j o' e hD ho' hee hbb => ?_⟩
  · rw [hH v]
    cases hW : (Ws i).testBit v with
    | true =>
      simp only [if_true]
      refine (lw_wrote (wr := fun k => (Ws k).testBit v) (X := fun k => (Ss k).heap.get v) hiN (fun j hj1 hj2 hD => ?_) hW).symm
      cases hWj : (Ws j).testBit v with
      | false => rfl
      | true =>
        have := hanc j (h.clash j i v hj1 hj2 (.inr ⟨hWj, h.sub i v hiN hW⟩))
        rw [hD] at this; cases this
    | false =>
      simp only [Bool.false_eq_true, if_false]
      rw [I.hp v]
      exact (lw_left (wr := fun k => (Ws k).testBit v) (X := fun k => (Ss k).heap.get v) hW).symm
  · cases hd : dstIs ops i t with
    | true =>
      obtain ⟨o2, ho2, hd2⟩ := dstIs_some hd
      rw [ho] at ho2; injection ho2 with ho2; subst ho2
      rw [lw_wrote (wr := fun k => dstIs ops k t) (X := fun k => (Es k).tm.get t) hiN (fun j hj1 hj2 hD => by
        cases hdj : dstIs ops j t with
        | false => rfl
        | true =>
          obtain ⟨oj, hoj, hdj⟩ := dstIs_some hdj
          rcases h.apart j i oj o hj1 hoj ho with ha | ha
          · have := hanc j ha; rw [hD] at this; cases this
          · exact absurd hdj ((apartO_ok ha).2.1 t hd2)) hd] at hy
      obtain ⟨e1, e2⟩ := pn.2.2 t hd2 hnti
      rw [e1] at hy; injection hy with hy; subst hy
      rw [nt_const h i (by omega)] at e2
      have : t < a.tmps.size := by rw [I.sz]; exact e2
      have e3 : (a.put o.dst x).tmps.getD t undef = x := by simp [Act.put, hd2, Array.getD, this]
      rw [e3]; exact hx
    | false =>
      rw [lw_left (wr := fun k => dstIs ops k t) (X := fun k => (Es k).tm.get t) hd] at hy
      have hne := dstIs_false hd ho
      have e3 : (a.put o.dst x).tmps.getD t undef = a.tmps.getD t undef := by
        cases hdd : o.dst with
        | none => rfl
        | some d =>
          have : d ≠ t := fun e => hne (by rw [hdd, e])
          simp [Act.put, Array.getD_eq_getD_getElem?, Array.getElem?_setIfInBounds_ne this]
      rw [e3]; exact Rel.mono hsub _ _ (I.tm t y hy)
  · unfold add1 at hD
    rw [Bool.or_eq_false_iff] at hD
    have hne : j ≠ i := fun e => by rw [e, Nat.beq_refl] at hD; cases hD.1
    intro v hv1 hv2
    have hout : v < (Ss i).next ∨ (Ss (i + 1)).next ≤ v := by
      rcases Nat.lt_or_ge j i with hlt | hge
      · exact .inl (Nat.lt_of_lt_of_le hv2 (mono_le h.mono (j + 1) i (by omega) (by omega)))
      · exact .inr (Nat.le_trans (mono_le h.mono (i + 1) j (by omega) (by omega)) hv1)
    rw [he v hout]; exact I.free j hj hD.2 v hv1 hv2
  · have m1 := mono_le h.mono 0 i (by omega) (by omega)
    have m2 := mono_le h.mono (i + 1) ops.size (by omega) (Nat.le_refl _)
    rw [he v (by omega)]; exact I.ext v hv
  · rw [← I.sz]; cases o.dst <;> simp [Act.put]
  · rw [put_tmps]; exact I.df
  · unfold add1 at hD ⊢
    rw [Bool.or_eq_true] at hD ⊢
    right
    rcases hD with hD | hD
    · have := Nat.eq_of_beq_eq_true hD; subst this
      rw [hget, ho] at ho'; injection ho' with ho'; subst ho'
      exact hr e hee hbb
    · exact I.cl j o' e hD ho' hee hbb
/-- what an operation that may come up finds -/
theorem Inv.finds (h : Tr tb F ops Es Ss bs vs As Ws) (hnt : (Es 0).nt ≤ 16777213) {ρ0 : Rho} {a0 : Act} {w0 : World} {D : Nat → Bool} {ρ : Rho} {H : T Blk} {a : Act} {w : World} (I : Inv C tb B ops Es Ss Ws ρ0 a0 w0 D ρ H a w)
    {i : Nat} {o : Oper} (ho : ops[i]? = some o) (hi : D i = false) (hr : ∀ e ∈ o.after.toList, bindsL e = true → D e.on = true) :
    (∀ v, (As i).testBit v = true → ¬ ((Ss i).next ≤ v ∧ v < (Ss (i + 1)).next) → H.get v = (Ss i).heap.get v) ∧
    (∀ t v, hasN (looks ops.toList o) t = true → (Es i).tm.get t = some v → Rel C ρ v (a.tmps.getD t undef)) := by
  have hiN : i < ops.size := (Array.getElem?_eq_some_iff.1 ho).1
  have hget : ∀ (i : Nat), ops.toList[i]? = ops[i]? := fun i => Array.getElem?_toList
  have hanc : ∀ j, Anc ops.toList i j → D j = false := fun j ha => by
    cases hD : D j with
    | false => rfl
    | true => have := ha.closed I.cl hD; rw [hi] at this; cases this
  have hup : ∀ j, Anc ops.toList j i → D j = true := fun j ha => ha.ready I.cl fun o' e ho' he hb => by
    rw [hget, ho] at ho'; injection ho' with ho'; subst ho'; exact hr e he hb
  refine ⟨fun v hA _ => ?_, fun t v ht hv => ?_⟩
  · rw [I.hp v]
    refine lw_find (X := fun k => (Ss k).heap.get v) hiN (fun k hk hW => h.keep k v hk hW) (fun j hj hW => hup j (h.clash i j v hj hiN (.inl ⟨hW, hA⟩))) (fun j hj1 hj2 hD => ?_) hi
    cases hWj : (Ws j).testBit v with
    | false => rfl
    | true =>
      have := hanc j (h.clash j i v hj1 hj2 (.inr ⟨hWj, hA⟩))
      rw [hD] at this; cases this
  · refine I.tm t v ?_
    rw [lw_find (X := fun k => (Es k).tm.get t) hiN (tm_keep h hnt t) (fun j hj hd => ?_) (fun j hj1 hj2 hD => ?_) hi]
    · exact hv
    · obtain ⟨oj, hoj, hdj⟩ := dstIs_some hd
      rcases h.apart i j o oj hj ho hoj with ha | ha
      · exact hup j ha
      · have := (apartO_ok ha).1 t hdj; rw [ht] at this; cases this
    · cases hdj : dstIs ops j t with
      | false => rfl
      | true =>
        obtain ⟨oj, hoj, hdj⟩ := dstIs_some hdj
        rcases h.apart j i oj o hj1 hoj ho with ha | ha
        · have := hanc j ha; rw [hD] at this; cases this
        · have := (apartO_ok ha).2.2 t hdj; rw [ht] at this; cases this
theorem binds_eq (e : Edge) : Region.binds .any e = bindsL e := by
  unfold Region.binds bindsL; cases e.ground <;> rfl
theorem any_ok (h : Tr tb F ops Es Ss bs vs As Ws) (hnt : (Es 0).nt ≤ 16777213) (hcall : ∀ g, g < F → CallOk C tb B (call tb g)) (ht : TabOk C tb) (hm : MetOk C tb) (hng : tb.ng ≤ (Ss 0).next)
    {ρ0 : Rho} {a0 : Act} {w0 : World} {Q : Exit → Act → World → Prop}
    (hQ : ∀ ρ a w, EnvOk C ρ (Es ops.size) a → a.defers = a0.defers → Fits C tb.ng B ρ (Ss ops.size).heap w → Ext ρ0 ρ (Ss 0).next (Ss ops.size).next → Below B w0 w → Q .normal a w) :
    ∀ (fuel : Nat) (listed : Array Bool) (ρ : Rho) (H : T Blk) (a : Act) (w : World), listed.size = ops.size → left (fun k => listed.getD k false) ops.size ≤ fuel →
      Inv C tb B ops Es Ss Ws ρ0 a0 w0 (fun k => listed.getD k false) ρ H a w → wpAny C.P .any ops Q fuel listed a w := by
  have done : ∀ (listed : Array Bool) (ρ : Rho) (H : T Blk) (a : Act) (w : World), (∀ j, j < ops.size → listed.getD j false = true) → Inv C tb B ops Es Ss Ws ρ0 a0 w0 (fun k => listed.getD k false) ρ H a w → Q .normal a w := fun listed ρ H a w hall I => by
    refine hQ ρ a w ⟨by rw [I.sz, nt_const h ops.size (Nat.le_refl _)], by rw [nt_const h ops.size (Nat.le_refl _)]; exact hnt, fun t x hx => I.tm t x ?_⟩ I.df (I.fit.congr fun v => ?_) I.ext I.be
    · rw [lw_all (X := fun k => (Es k).tm.get t) (tm_keep h hnt t) hall]; exact hx
    · rw [I.hp v, lw_all (X := fun k => (Ss k).heap.get v) (fun k hk hW => h.keep k v hk hW) hall]
  have stuck : ∀ (listed : Array Bool), listed.size = ops.size → Region.ready .any ops listed = [] → ∀ j, j < ops.size → listed.getD j false = true := fun listed hs hn => by
    intro j
    induction j using Nat.strongRecOn with
    | _ j ih =>
      intro hj
      cases hD : listed.getD j false with
      | true => rfl
      | false =>
        have ho : ops[j]? = some ops[j] := Array.getElem?_eq_getElem hj
        have : j ∈ Region.ready .any ops listed := mem_ready.2 ⟨by
          have hjs : j < listed.size := by omega
          simp [Array.getD, hjs] at hD ⊢; exact hD, ops[j], ho, fun e he hb => by
            rw [binds_eq] at hb
            have := h.low j _ ho e (Array.mem_toList_iff.2 he) hb
            exact ih e.on this (by omega)⟩
        rw [hn] at this; cases this
  intro fuel
  induction fuel with
  | zero =>
    intro listed ρ H a w hs hl I
    have hall := left_zero ops.size (by omega : left (fun k => listed.getD k false) ops.size = 0)
    refine ⟨?_, done listed ρ H a w hall I⟩
    cases hrr : Region.ready .any ops listed with
    | nil => rfl
    | cons j l =>
      have hj : j ∈ Region.ready .any ops listed := by rw [hrr]; exact List.mem_cons_self ..
      obtain ⟨h1, o, ho, _⟩ := mem_ready.1 hj
      have hjN : j < ops.size := (Array.getElem?_eq_some_iff.1 ho).1
      have := hall j hjN
      have hjs : j < listed.size := by omega
      simp [Array.getD, hjs] at h1 this
      rw [h1] at this; cases this
  | succ fuel ih =>
    intro listed ρ H a w hs hl I
    refine ⟨fun hn => done listed ρ H a w (stuck listed hs hn) I, fun i hi => ?_⟩
    obtain ⟨h1, o, ho, hpre⟩ := mem_ready.1 hi
    have hiN : i < ops.size := (Array.getElem?_eq_some_iff.1 ho).1
    have his : i < listed.size := by omega
    have hD : listed.getD i false = false := by simp [Array.getD, his] at h1 ⊢; exact h1
    have hr : ∀ e ∈ o.after.toList, bindsL e = true → listed.getD e.on false = true := fun e he hb => hpre e (Array.mem_toList_iff.1 he) (by rw [binds_eq]; exact hb)
    have hadd : (fun k => (listed.setIfInBounds i true).getD k false) = add1 (fun k => listed.getD k false) i := by
      funext k
      unfold add1
      by_cases e : k = i
      · subst e; simp [Array.getD, his]
      · have e' : Nat.beq k i = false := by
          cases hb : Nat.beq k i with
          | false => rfl
          | true => exact absurd (Nat.eq_of_beq_eq_true hb) e
        rw [e', Bool.false_or, getD_set_ne false (fun e'' => e e''.symm)]
    have hleft : left (fun k => (listed.setIfInBounds i true).getD k false) ops.size ≤ fuel := by
      have := left_add (D := fun k => listed.getD k false) hD ops.size
      rw [if_pos hiN] at this
      rw [hadd]; omega
    have go : ∀ ρ' H' x w', Inv C tb B ops Es Ss Ws ρ0 a0 w0 (add1 (fun k => listed.getD k false) i) ρ' H' (a.put o.dst x) w' → wpAny C.P .any ops Q fuel (listed.setIfInBounds i true) (a.put o.dst x) w' := fun ρ' H' x w' I' =>
      ih _ ρ' H' _ w' (by simp [hs]) hleft (by rw [hadd]; exact I')
    obtain ⟨f1, f2⟩ := I.finds h hnt ho hD hr
    have st := h.step i o ho
    have hwant := wanted_ok' f2 st.want
    unfold wpOp
    simp only [ho]
    rw [hwant]
    cases hb : bs i with
    | true =>
      simp only [if_true]
      left
      obtain ⟨g, T', hg, t1, t2, t3⟩ := h.fr i o ho hb ⟨H, (Ss i).next, 0, 0⟩ rfl f1
      refine operF_ok (S := ⟨H, (Ss i).next, 0, 0⟩) (S' := T') (ρ := ρ) (hcall g hg) ht hm t1 I.fit (Nat.le_trans hng (mono_le h.mono 0 i (by omega) (by omega))) (fun x hx => op_ok' I.fit x fun t v e hv => ?_) (by rw [t2]; exact I.free i hiN hD) (fun ρ' x w' r1 r2 r3 r4 => go ρ' T'.heap x w' ?_)
      · subst e; exact f2 t v (looks_op hx) hv
      · exact I.next h hnt ho hD hr r1 r2 t3 (by rw [← t2]; exact r3) r4
    | false =>
      simp only [Bool.false_eq_true, if_false]
      obtain ⟨n1, n2, n3, n4, n5⟩ := st.no hb
      refine go ρ H undef w (I.next h hnt ho hD hr ?_ I.fit (fun v => by rw [n5]; simp) (Ext.refl _ _ _) (Below.refl _ _))
      rw [n1]; simp only [Rel, RelL]; exact ⟨[], rfl, rfl⟩
end
end Go.AX
