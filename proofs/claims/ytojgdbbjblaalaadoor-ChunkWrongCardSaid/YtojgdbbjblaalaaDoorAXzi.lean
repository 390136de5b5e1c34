/- A part of the proof: an interpreter of the model's own code on partly known states, and that what it answers is what the program answers. No condition of its own. -/
import Derived.Test.YtojgdbbjblaalaaDoorAXzh
set_option linter.unusedSimpArgs false
set_option linter.unusedVariables false
namespace Go.AX
open Go.RowKit (Below)
section
variable {C : Cx} {tb : Tab} {fn : Func}
theorem none_of {α : Type} {o : Option α} (h : o.isNone = true) : o = none := by cases o with | none => rfl | some x => cases h
theorem rel1 {ρ : Rho} {a : AV} {vs : List Value} (h : RelL C ρ [a] vs) : ∃ x, vs = [x] ∧ Rel C ρ a x := by
  simp only [RelL] at h
  obtain ⟨x, vt, rfl, h1, rfl⟩ := h; exact ⟨x, rfl, h1⟩
theorem ext1_ok (h1 : (Extern.findNext fn).isNone = true) (h2 : Extern.find fn = some Extern.AbiNoEscape.same) : ExtOk C tb 1 fn := by
  refine ⟨none_of h1, _, h2, fun B l S v S' ρ w args h hF hng hl hfree => ?_⟩
  match l, h, hl with
  | [x], h, hl =>
    obtain ⟨rfl, rfl⟩ := ret_inv h
    obtain ⟨y, rfl, hy⟩ := rel1 hl
    exact ⟨ρ, y, w, rfl, hy, hF, Ext.refl _ _ _, Below.refl _ _⟩
  | [], h, _ => simp only [ext] at h; exact (fail_inv h).elim
  | _ :: _ :: _, h, _ => simp only [ext] at h; exact (fail_inv h).elim
theorem ext5_ok (h1 : (Extern.findNext fn).isNone = true) (h2 : Extern.find fn = some Extern.ReflectliteType.typeOf) (h3 : ∀ (t : TypeId) (w : World), (Extern.ReflectliteType.toType t).run C.P w = .ok (.iface tb.rty (.agg #[typeHandle C.P t])) w) : ExtOk C tb 5 fn := by
  refine ⟨none_of h1, _, h2, fun B l S v S' ρ w args h hF hng hl hfree => ?_⟩
  match l, h, hl with
  | [x], h, hl =>
    obtain ⟨y, rfl, hy⟩ := rel1 hl
    simp only [ext] at h
    cases x <;> try exact (fail_inv h).elim
    rename_i t u
    obtain ⟨rfl, rfl⟩ := ret_inv h
    simp only [Rel] at hy
    obtain ⟨z, rfl, _⟩ := hy
    refine ⟨ρ, .iface tb.rty (.agg #[typeHandle C.P t]), w, ?_, ?_, hF, Ext.refl _ _ _, Below.refl _ _⟩
    · exact h3 t w
    · simp only [Rel, RelL]; exact ⟨_, rfl, _, rfl, _, _, rfl, rfl, rfl⟩
  | [], h, _ => simp only [ext] at h; exact (fail_inv h).elim
  | _ :: _ :: _, h, _ => simp only [ext] at h; exact (fail_inv h).elim
theorem ofRtype_run {P : Program} {t : Nat} {w : World} (hp : P.packed t = false) : (Extern.ReflectliteType.ofRtype (.agg #[typeHandle P t])).run P w = .ok t w := by
  obtain ⟨s, hdef⟩ : ∃ s : String, Extern.ReflectliteType.ofRtype (.agg #[typeHandle P t]) = (do
    let u ← Extern.Rtype.ofHandle (typeHandle P t)
    Extern.Rtype.noPack s u
    pure u : Sem TypeId) := ⟨_, rfl⟩
  have e1 : (Extern.Rtype.ofHandle (typeHandle P t)).run P w = .ok t w := by
    simp [Extern.Rtype.ofHandle, handleType, typeHandle]
  have e2 : ∀ s, (Extern.Rtype.noPack s t).run P w = .ok () w := fun s => by simp [Extern.Rtype.noPack, hp]
  rw [hdef, Sem.run_bind, e1]
  simp only [Result.andThen_ok]
  rw [Sem.run_bind, e2]; rfl
theorem ext6_ok (hty : TyOk C.P tb) (h1 : (Extern.findNext fn).isNone = true)
    (h2 : Extern.find fn = some (Extern.ReflectliteType.method fun t => do Extern.Rtype.noPackHeld "Comparable" t; pure (.bool (← typeInfo t).comparable)))
    (h3 : ((tl tb.ty 0 1).all fun p => !C.P.packed p.1 && !C.P.holdsPacked C.P.depth p.1) = true) : ExtOk C tb 6 fn := by
  refine ⟨none_of h1, _, h2, fun B l S v S' ρ w args h hF hng hl hfree => ?_⟩
  have hform : ∃ t, l = [.ag [.h t]] := by
    cases l with
    | nil => simp only [ext] at h; exact (fail_inv h).elim
    | cons a l =>
      cases l with
      | cons => simp only [ext] at h; exact (fail_inv h).elim
      | nil =>
        cases a with
        | ag m =>
          cases m with
          | nil => simp only [ext] at h; exact (fail_inv h).elim
          | cons c m =>
            cases m with
            | cons => simp only [ext] at h; exact (fail_inv h).elim
            | nil =>
              cases c with
              | h t => exact ⟨t, rfl⟩
              | _ => simp only [ext] at h; exact (fail_inv h).elim
        | _ => simp only [ext] at h; exact (fail_inv h).elim
  obtain ⟨t, rfl⟩ := hform
  obtain ⟨y, rfl, hy⟩ := rel1 hl
  have h' : (bnd (lft (tb.ty.get t)) fun ti => ret (.b ti.cmp)) S = some (v, S') := h
  obtain ⟨ti, e1, h4⟩ := lb h'
  obtain ⟨rfl, rfl⟩ := ret_inv h4
  obtain ⟨i, hi, rfl⟩ := hty.ty _ _ e1
  have hp := List.all_eq_true.1 h3 _ (tl_get e1)
  simp only [Bool.and_eq_true, Bool.not_eq_true'] at hp
  simp only [Rel, RelL] at hy
  obtain ⟨cs, rfl, x, vt, rfl, rfl, rfl⟩ := hy
  refine ⟨ρ, .bool i.comparable, w, ?_, ?_, hF, Ext.refl _ _ _, Below.refl _ _⟩
  · have hdef : Extern.ReflectliteType.method (fun t => do Extern.Rtype.noPackHeld "Comparable" t; pure (.bool (← typeInfo t).comparable)) ⟨[Value.agg ⟨[typeHandle C.P t]⟩]⟩ = (do
      let u ← Extern.ReflectliteType.ofRtype (.agg #[typeHandle C.P t])
      Extern.Rtype.noPackHeld "Comparable" u
      pure (.bool (← typeInfo u).comparable) : Sem Value) := rfl
    rw [hdef, Sem.run_bind, ofRtype_run hp.1]
    simp only [Result.andThen_ok]
    have e2 : ∀ s, (Extern.Rtype.noPackHeld s t).run C.P w = .ok () w := fun s => by simp [Extern.Rtype.noPackHeld, hp.2]
    rw [Sem.run_bind, e2]
    simp only [Result.andThen_ok]
    rw [Sem.run_bind, run_info hi]; rfl
  · simp only [Rel]; rfl
theorem digits_size : ∀ n t (acc : Array Value), (Extern.BytealgMakeNoZero.digits n t acc).size = acc.size + n
  | 0, _, _ => rfl
  | n + 1, t, acc => by unfold Extern.BytealgMakeNoZero.digits; rw [digits_size n]; simp; omega
theorem ext2_ok {ps rs : Array TypeId} {t : TypeId} (h1 : (Extern.findNext fn).isNone = true) (h2 : Extern.find fn = some (Extern.BytealgMakeNoZero.makeNoZero ps rs)) (h3 : rs[0]? = some t) (h4 : C.P.underlying t = some (.slice tb.u8)) : ExtOk C tb 2 fn := by
  refine ⟨none_of h1, _, h2, fun B l S v S' ρ w args h hF hng hl hfree => ?_⟩
  have hform : ∃ n : Nat, l = [.i .i64 (.ofNat n)] := by
    cases l with
    | nil => simp only [ext] at h; exact (fail_inv h).elim
    | cons a l =>
      cases l with
      | cons => simp only [ext] at h; exact (fail_inv h).elim
      | nil =>
        cases a with
        | i k n =>
          cases k <;> cases n <;> first | exact ⟨_, rfl⟩ | (simp only [ext] at h; exact (fail_inv h).elim)
        | _ => simp only [ext] at h; exact (fail_inv h).elim
  obtain ⟨n, rfl⟩ := hform
  obtain ⟨y, rfl, hy⟩ := rel1 hl
  simp only [Rel] at hy
  subst hy
  have h' : (cond (Nat.ble n 140737488355328) (bnd (new ⟨tb.u8, .y 0 0, n, 1, 0, false, true⟩) fun v => ret (.sl v 0 n 0 true)) AX.fail) S = some (v, S') := h
  obtain ⟨hn, h5⟩ := cond_inv h'
  have hn := Nat.le_of_ble_eq_true hn
  obtain ⟨b, S1, h6, h7⟩ := bnd_inv h5
  obtain ⟨rfl, rfl⟩ := ret_inv h7
  obtain ⟨cp, bs, w2, hrun, hcap, g1, g2, g3, g4⟩ : ∃ cp bs w2, (Extern.BytealgMakeNoZero.makeNoZero ps rs #[.int .i64 (.ofNat n)]).run C.P w = .ok (.slice (some ⟨w.heap.size, 0, none⟩) n cp) w2 ∧ n ≤ cp ∧
      w2.heap = w.heap.push (.cells (Extern.BytealgMakeNoZero.digits cp bs #[]) tb.u8 (0, 0)) ∧ w2.os = w.os ∧ w2.tape = w.tape ∧ w2.output = w.output := by
    have hch : (choose (.appendCap n 0 tb.u8)).run C.P w = .ok (grownCap w n 0 tb.u8) w.drew := by simp [Question.forced, grownCap]
    obtain ⟨s1, s2, e3, q, hq, hdef⟩ : ∃ (s1 s2 : String) (e3 : RuntimeError) (q : Question), q.forced = false ∧ Extern.BytealgMakeNoZero.makeNoZero ps rs #[.int .i64 (.ofNat n)] = (do
      let some t := rs[0]? | stuck s1
      let .slice elem ← underlying t | stuck s2
      if (.ofNat n : Int) < 0 || (.ofNat n : Int) > 2 ^ 48 then runtimePanic e3
      let cap ← choose (.appendCap (Int.ofNat n).toNat 0 elem)
      askRoom cap
      let bytes ← choose q
      let a ← newRow elem (Extern.BytealgMakeNoZero.digits cap bytes #[])
      pure (.slice (some a) (Int.ofNat n).toNat cap) : Sem Value) := ⟨_, _, _, _, rfl, rfl⟩
    obtain ⟨x, hx⟩ : ∃ x, (choose q).run C.P w.drew = .ok x w.drew.drew := by
      refine ⟨q.cut (w.drew.tape w.drew.drawn q), ?_⟩
      rw [run_choose, hq]; rfl
    have hcap := grownCap_ge w n 0 tb.u8
    generalize grownCap w n 0 tb.u8 = cp at hch hcap
    have hlt : ¬ ((281474976710656 : Int) < (n : Int)) := by omega
    refine ⟨cp, x, w.drew.drew.alloc (.cells (Extern.BytealgMakeNoZero.digits cp x #[]) tb.u8), ?_, hcap, rfl, rfl, rfl, rfl⟩
    rw [hdef]
    simp [-run_choose, h3, run_underlying h4, hlt, hch, hx, newRow]
    intro hneg; omega
  have hsz : (Extern.BytealgMakeNoZero.digits cp bs #[]).size = cp := by rw [digits_size]; simp
  have hba : BlkAt C ρ B ⟨tb.u8, .y 0 0, n, 1, 0, false, true⟩ ⟨w.heap.size, 0, cp, 1⟩ (Extern.BytealgMakeNoZero.digits cp bs #[]) (0, 0) := by
    constructor
    · exact ⟨by simp [CW], fun j a hj => by simp [Cells.toL, unp] at hj⟩
    · intro _
      refine ⟨by rw [hsz]; simp, by simpa using hcap, by simp [Cells.len], rfl⟩
    · intro y _ _ h; simp at h
    · intro _; exact .inl rfl
    · intro h; have := hF.size; simp only [] at h; omega
    · rw [hsz]; simp [Cells.len]
    · intro h; cases h
  obtain ⟨r2, r3, r4, r5, r6⟩ := newG_ok (w' := w2) hF hng h6 hfree rfl hba g1 g2 g3 g4
  refine ⟨_, _, w2, hrun, ?_, r2, r3, r4⟩
  simp only [Rel]
  exact ⟨_, _, r5, by simpa using hcap, by simp, .inl rfl⟩
end
end Go.AX
