/- A part of the proof: an interpreter of the model's own code on partly known states, and that what it answers is what the program answers. No condition of its own. -/
import Derived.Test.YtojgdbbjblaalaaDoorAXzi
set_option linter.unusedSimpArgs false
set_option linter.unusedVariables false
namespace Go.AX
open Go.RowKit (Below)
open Go.Extern
/-- the facts of reflectlite's types that a table holds -/
structure RfOk (P : Program) (tb : Tab) : Prop where
  kd : ∀ t k, assocN tb.kd t = some k → (∀ w, (Rtype.kind t).run P w = .ok k w) ∧ P.packed t = false
  el : ∀ t e, assocN tb.el t = some e → (∀ w, (Rtype.elem? t).run P w = .ok (some e) w) ∧ P.packed t = false
  asg : ∀ u t r, impl tb.asg u t = some r → (∀ w, (ReflectliteType.assignableTo u t).run P w = .ok r w) ∧ P.packed u = false ∧ P.packed t = false
  im2 : ∀ u t r, impl tb.im2 u t = some r → (∀ w, (ReflectliteType.implements_ u t).run P w = .ok r w) ∧ P.packed u = false ∧ P.packed t = false
  ty : ∀ (t : TypeId) (w : World), (ReflectliteType.toType t).run P w = .ok (.iface tb.rty (.agg #[typeHandle P t])) w
section
variable {C : Cx} {tb : Tab} {fn : Func} {ρ : Rho}
theorem rv_inv {x : AV} {r : Nat × Nat × Nat × Nat} (h : rv x = some r) : x = .ag [.h r.1, .p r.2.1 r.2.2.1, .i .u64 (.ofNat r.2.2.2)] := by
  unfold rv at h
  split at h
  · unfold rvL at h
    split at h
    · injection h with h; subst h; rfl
    · cases h
  · cases h
theorem rh_inv {x : AV} {t : Nat} (h : rh x = some t) : x = .ag [.h t] := by
  unfold rh at h
  split at h
  · unfold rhL at h
    split at h
    · injection h with h; subst h; rfl
    · cases h
  · cases h
theorem rti_inv {x : AV} {t : Nat} (h : rti x = some t) : ∃ a, x = .ifc a (.ag [.h t]) := by
  unfold rti at h
  split at h
  · exact ⟨_, by rw [rh_inv h]⟩
  · cases h
theorem rel_rv {t b o f : Nat} {v : Value} (h : Rel C ρ (.ag [.h t, .p b o, .i .u64 (.ofNat f)]) v) : ∃ r, ρ b = some r ∧ v = .agg #[typeHandle C.P t, .pointer (some ⟨r.blk, r.base + o, none⟩), .int .u64 (.ofNat f)] := by
  simp only [Rel, RelL] at h
  obtain ⟨cs, rfl, x, vt, rfl, hx, y, vt2, rfl, ⟨r, hr, rfl⟩, z, vt3, rfl, rfl, rfl⟩ := h
  exact ⟨r, hr, by rw [hx]⟩
theorem rel_rh {t : Nat} {v : Value} (h : Rel C ρ (.ag [.h t]) v) : v = .agg #[typeHandle C.P t] := by
  simp only [Rel, RelL] at h
  obtain ⟨cs, rfl, x, vt, rfl, rfl, rfl⟩ := h; rfl
theorem rel2 {a b : AV} {vs : List Value} (h : RelL C ρ [a, b] vs) : ∃ x y, vs = [x, y] ∧ Rel C ρ a x ∧ Rel C ρ b y := by
  simp only [RelL] at h
  obtain ⟨x, vt, rfl, h1, y, vt2, rfl, h2, rfl⟩ := h; exact ⟨x, y, rfl, h1, h2⟩
theorem mkrv {t b o f : Nat} {r : R} (h : ρ b = some r) : Rel C ρ (.ag [.h t, .p b o, .i .u64 (.ofNat f)]) (.agg #[typeHandle C.P t, .pointer (some ⟨r.blk, r.base + o, none⟩), .int .u64 (.ofNat f)]) := by
  simp only [Rel, RelL]
  exact ⟨_, rfl, _, _, rfl, rfl, _, _, rfl, ⟨r, h, rfl⟩, _, _, rfl, rfl, rfl⟩
theorem mkty {t : Nat} : Rel C ρ (.ifc tb.rty (.ag [.h t])) (.iface tb.rty (.agg #[typeHandle C.P t])) := by
  simp only [Rel, RelL]
  exact ⟨_, rfl, _, rfl, _, _, rfl, rfl, rfl⟩
theorem inv7 {l : List AV} {S S' : St} {v : AV} (h : ext tb 7 l S = some (v, S')) : ∃ x, l = [x] ∧ x7 tb x S = some (v, S') := by
  match l, h with
  | [x], h => exact ⟨x, rfl, h⟩
  | [], h => simp only [ext] at h; exact (fail_inv h).elim
  | _ :: _ :: _, h => simp only [ext] at h; exact (fail_inv h).elim
theorem inv8 {l : List AV} {S S' : St} {v : AV} (h : ext tb 8 l S = some (v, S')) : ∃ x, l = [x] ∧ x8 tb x S = some (v, S') := by
  match l, h with
  | [x], h => exact ⟨x, rfl, h⟩
  | [], h => simp only [ext] at h; exact (fail_inv h).elim
  | _ :: _ :: _, h => simp only [ext] at h; exact (fail_inv h).elim
theorem inv9 {l : List AV} {S S' : St} {v : AV} (h : ext tb 9 l S = some (v, S')) : ∃ x, l = [x] ∧ x9 tb x S = some (v, S') := by
  match l, h with
  | [x], h => exact ⟨x, rfl, h⟩
  | [], h => simp only [ext] at h; exact (fail_inv h).elim
  | _ :: _ :: _, h => simp only [ext] at h; exact (fail_inv h).elim
theorem inv10 {l : List AV} {S S' : St} {v : AV} (h : ext tb 10 l S = some (v, S')) : ∃ x, l = [x] ∧ x10 tb x S = some (v, S') := by
  match l, h with
  | [x], h => exact ⟨x, rfl, h⟩
  | [], h => simp only [ext] at h; exact (fail_inv h).elim
  | _ :: _ :: _, h => simp only [ext] at h; exact (fail_inv h).elim
theorem inv11 {l : List AV} {S S' : St} {v : AV} (h : ext tb 11 l S = some (v, S')) : ∃ x, l = [x] ∧ x11 tb x S = some (v, S') := by
  match l, h with
  | [x], h => exact ⟨x, rfl, h⟩
  | [], h => simp only [ext] at h; exact (fail_inv h).elim
  | _ :: _ :: _, h => simp only [ext] at h; exact (fail_inv h).elim
theorem inv12 {l : List AV} {S S' : St} {v : AV} (h : ext tb 12 l S = some (v, S')) : ∃ x y, l = [x, y] ∧ x12 tb x y S = some (v, S') := by
  match l, h with
  | [x, y], h => exact ⟨x, y, rfl, h⟩
  | [], h => simp only [ext] at h; exact (fail_inv h).elim
  | [_], h => simp only [ext] at h; exact (fail_inv h).elim
  | _ :: _ :: _ :: _, h => simp only [ext] at h; exact (fail_inv h).elim
theorem inv13 {l : List AV} {S S' : St} {v : AV} (h : ext tb 13 l S = some (v, S')) : ∃ x y, l = [x, y] ∧ x13 tb x y S = some (v, S') := by
  match l, h with
  | [x, y], h => exact ⟨x, y, rfl, h⟩
  | [], h => simp only [ext] at h; exact (fail_inv h).elim
  | [_], h => simp only [ext] at h; exact (fail_inv h).elim
  | _ :: _ :: _ :: _, h => simp only [ext] at h; exact (fail_inv h).elim
theorem inv14 {l : List AV} {S S' : St} {v : AV} (h : ext tb 14 l S = some (v, S')) : ∃ x, l = [x] ∧ x14 tb x S = some (v, S') := by
  match l, h with
  | [x], h => exact ⟨x, rfl, h⟩
  | [], h => simp only [ext] at h; exact (fail_inv h).elim
  | _ :: _ :: _, h => simp only [ext] at h; exact (fail_inv h).elim
theorem inv15 {l : List AV} {S S' : St} {v : AV} (h : ext tb 15 l S = some (v, S')) : ∃ x y, l = [x, y] ∧ x15 tb x y S = some (v, S') := by
  match l, h with
  | [x, y], h => exact ⟨x, y, rfl, h⟩
  | [], h => simp only [ext] at h; exact (fail_inv h).elim
  | [_], h => simp only [ext] at h; exact (fail_inv h).elim
  | _ :: _ :: _ :: _, h => simp only [ext] at h; exact (fail_inv h).elim
theorem partsAny_run {P : Program} {t f : Nat} {a : Addr} (hf : f ≠ 0) (w : World) : (ReflectliteValue.partsAny (.agg #[typeHandle P t, .pointer (some a), .int .u64 (.ofNat f)])).run P w = .ok (some (t, a, f)) w := by
  cases f with
  | zero => exact absurd rfl hf
  | succ f =>
    have e1 : (Rtype.ofHandle (typeHandle P t)).run P w = .ok t w := by simp [Rtype.ofHandle, handleType, typeHandle]
    have hdef : ReflectliteValue.partsAny (.agg #[typeHandle P t, .pointer (some a), .int .u64 (.ofNat (f + 1))]) = (do pure (some (← Rtype.ofHandle (typeHandle P t), a, f + 1)) : Sem (Option (TypeId × Addr × Nat))) := rfl
    rw [hdef, Sem.run_bind, e1]; rfl
theorem parts_run {P : Program} {t f : Nat} {a : Addr} (hf : f ≠ 0) (hp : P.packed t = false) (w : World) : (ReflectliteValue.parts (.agg #[typeHandle P t, .pointer (some a), .int .u64 (.ofNat f)])).run P w = .ok (some (t, a, f)) w := by
  unfold ReflectliteValue.parts
  rw [Sem.run_bind, partsAny_run hf]
  have e2 : ∀ s, (Rtype.noPack s t).run P w = .ok () w := fun s => by simp [Rtype.noPack, hp]
  simp only [Result.andThen_ok, Sem.run_bind, e2, Sem.run_pure]
theorem ofRtype_run' {P : Program} {t : Nat} {w : World} (hp : P.packed t = false) : (ReflectliteType.ofRtype (.agg #[typeHandle P t])).run P w = .ok t w := ofRtype_run hp
theorem load_run (ht : TyOk C.P tb) {B : Nat} {S S' : St} {w : World} (hF : Fits C tb.ng B ρ S.heap w) {t b o : Nat} {r : R} (hr : ρ b = some r) {v : AV} (h : load tb t (.p b o) S = some (v, S')) :
    S'.heap = S.heap ∧ S'.next = S.next ∧ ∃ y, (loadVar t ⟨r.blk, r.base + o, none⟩).run C.P w = .ok y w ∧ Rel C ρ v y := load_ok ht hF (xv := .pointer (some ⟨r.blk, r.base + o, none⟩)) (by simp only [Rel]; exact ⟨r, hr, rfl⟩) h
theorem ext7_ok (hty : TyOk C.P tb) (hr : RfOk C.P tb) (h1 : (Extern.findNext fn).isNone = true) (h2 : Extern.find fn = some fun args => ReflectliteValue.unpack (args.getD 0 (.tuple #[]))) : ExtOk C tb 7 fn := by
  refine ⟨none_of h1, _, h2, fun B l S v S' ρ w args h hF hng hl hfree => ?_⟩
  obtain ⟨x, rfl, h0⟩ := inv7 h
  clear h
  obtain ⟨y, rfl, hy⟩ := rel1 hl
  cases x <;> try exact (fail_inv (show AX.fail S = some (v, S') from h0)).elim
  rename_i t u
  simp only [Rel] at hy
  obtain ⟨z, rfl, hz⟩ := hy
  obtain ⟨k, e1, h3⟩ := lb h0
  obtain ⟨m, e2, h4⟩ := lb h3
  obtain ⟨hs, h5⟩ := cond_inv h4
  obtain ⟨b, S1, h6, h7⟩ := bnd_inv h5
  obtain ⟨rfl, rfl⟩ := ret_inv h7
  have hrel := cellsOf_ok e2 hz
  have hone : ∀ y ∈ z.cells.toList, y.oneCell' = true := fun y hy => by
    obtain ⟨j, hj, he⟩ := List.mem_iff_getElem.1 hy
    have hj' : j < m.length := by rw [← hrel.len]; exact hj
    obtain ⟨x', hx', hr'⟩ := hrel.get (List.getElem?_eq_getElem hj')
    rw [List.getElem?_eq_getElem hj, he] at hx'; injection hx' with hx'; subst hx'
    exact scal_one (List.all_eq_true.1 hs _ (List.getElem_mem hj')) hr'
  obtain ⟨ρ', w', r1, r2, r3, r4, r5, r6⟩ := alloc_ok hF hng h6 hfree (c := .l m) trivial hrel hone
  refine ⟨ρ', _, w', ?_, mkrv (f := k + 128) r5, r2, r3, r4⟩
  show (ReflectliteValue.unpack (.iface t z)).run C.P w = _
  have hn : (newVar t z).run C.P w = .ok ⟨w.heap.size, 0, none⟩ w' := by simpa [newVar] using r1
  unfold ReflectliteValue.unpack
  simp only [Sem.run_bind, hn, Result.andThen_ok]
  have hp : (program).run C.P w' = .ok C.P w' := rfl
  simp only [ReflectliteValue.mk, Rtype.handle, Sem.run_bind, hp, Result.andThen_ok, Sem.run_pure, (hr.kd _ _ e1).1 w']
  rfl
theorem ext8_ok (hr : RfOk C.P tb) (h1 : (Extern.findNext fn).isNone = true) (h2 : Extern.find fn = some (ReflectliteValue.methodAny (ReflectliteValue.valueError "reflectlite.Value.Type" 0) fun t _ _ _ => ReflectliteType.toType t)) : ExtOk C tb 8 fn := by
  refine ⟨none_of h1, _, h2, fun B l S v S' ρ w args h hF hng hl hfree => ?_⟩
  obtain ⟨x, rfl, h⟩ := inv8 h
  obtain ⟨y, rfl, hy⟩ := rel1 hl
  obtain ⟨r, e1, h3⟩ := lb h
  obtain ⟨t, b, o, f⟩ := r
  obtain ⟨hf, h4⟩ := cond_inv' h3
  obtain ⟨rfl, rfl⟩ := ret_inv h4
  rw [rv_inv e1] at hy
  obtain ⟨r, hb, rfl⟩ := rel_rv hy
  refine ⟨ρ, _, w, ?_, mkty, hF, Ext.refl _ _ _, Below.refl _ _⟩
  have hf' : f ≠ 0 := fun e => by subst e; simp at hf
  show (do match ← ReflectliteValue.partsAny (.agg #[typeHandle C.P t, .pointer (some ⟨r.blk, r.base + o, none⟩), .int .u64 (.ofNat f)]) with
    | none => ReflectliteValue.valueError "reflectlite.Value.Type" 0
    | some (t, a, fl) => ReflectliteType.toType t : Sem Value).run C.P w = _
  rw [Sem.run_bind, partsAny_run hf']
  exact hr.ty t w
theorem rlm (z : Sem Value) (f : TypeId → Addr → Nat → Nat → Sem Value) (v : Value) :
    ReflectliteValue.method z f #[v] = (do match ← ReflectliteValue.parts v with | none => z | some (t, a, fl) => f t a fl (fl % 32)) := rfl
def isNilQ (v : Value) : Sem Value := match v with
  | .chan none | .nilFunc | .nilIface | .map none | .pointer none | .slice none _ _ => pure (.bool true)
  | _ => pure (.bool false)
theorem isNil_eq {t : TypeId} {a : Addr} {fl : Nat} : ReflectliteValue.isNil t a fl 22 = (do
    let v ← loadVar t a
    isNilQ v : Sem Value) := rfl
theorem ext9_ok (hty : TyOk C.P tb) (hr : RfOk C.P tb) (h1 : (Extern.findNext fn).isNone = true) (h2 : Extern.find fn = some (ReflectliteValue.method (ReflectliteValue.valueError "reflectlite.Value.IsNil" 0) ReflectliteValue.isNil)) : ExtOk C tb 9 fn := by
  refine ⟨none_of h1, _, h2, fun B l S v S' ρ w args h hF hng hl hfree => ?_⟩
  obtain ⟨x, rfl, h⟩ := inv9 h
  obtain ⟨y, rfl, hy⟩ := rel1 hl
  obtain ⟨r, e1, h3⟩ := lb h
  obtain ⟨e, e2, h3⟩ := lb h3
  obtain ⟨t, b, o, f⟩ := r
  obtain ⟨hf, h4⟩ := cond_inv h3
  obtain ⟨u, S1, h5, h6⟩ := bnd_inv h4
  rw [rv_inv e1] at hy
  obtain ⟨r, hb, rfl⟩ := rel_rv hy
  have hf1 : f % 32 = 22 := Nat.eq_of_beq_eq_true hf
  have hf' : f ≠ 0 := fun e => by subst e; simp at hf1
  obtain ⟨g1, g2, z, g3, g4⟩ := load_run hty hF hb h5
  simp only [] at g3 e2
  have hrun : (ReflectliteValue.method (ReflectliteValue.valueError "reflectlite.Value.IsNil" 0) ReflectliteValue.isNil #[.agg #[typeHandle C.P t, .pointer (some ⟨r.blk, r.base + o, none⟩), .int .u64 (.ofNat f)]]).run C.P w =
      (isNilQ z).run C.P w := by
    rw [rlm, Sem.run_bind, parts_run hf' (hr.el _ _ e2).2]
    simp only [Result.andThen_ok, hf1]
    rw [isNil_eq]
    simp only [Sem.run_bind, g3, Result.andThen_ok]
  cases u <;> simp only [nilQ] at h6 <;> try exact (fail_inv h6).elim
  · obtain ⟨rfl, rfl⟩ := ret_inv h6
    simp only [Rel] at g4
    subst g4
    exact ⟨ρ, .bool true, w, hrun, by simp only [Rel], by rw [g1]; exact hF, by rw [g2]; exact Ext.refl _ _ _, Below.refl _ _⟩
  · obtain ⟨rfl, rfl⟩ := ret_inv h6
    simp only [Rel] at g4
    obtain ⟨q, hq, rfl⟩ := g4
    exact ⟨ρ, .bool false, w, hrun, by simp only [Rel], by rw [g1]; exact hF, by rw [g2]; exact Ext.refl _ _ _, Below.refl _ _⟩
theorem ofHandle_run {P : Program} {t : Nat} {w : World} : (Rtype.ofHandle (typeHandle P t)).run P w = .ok t w := by simp [Rtype.ofHandle, handleType, typeHandle]
theorem noPack_run {P : Program} {t : Nat} {w : World} (hp : P.packed t = false) (s : String) : (Rtype.noPack s t).run P w = .ok () w := by simp [Rtype.noPack, hp]
theorem ext10_ok (hr : RfOk C.P tb) (h1 : (Extern.findNext fn).isNone = true) (h2 : Extern.find fn = some (ReflectliteType.abiMethod fun t => do pure (.int .u8 (← Rtype.kind t)))) : ExtOk C tb 10 fn := by
  refine ⟨none_of h1, _, h2, fun B l S v S' ρ w args h hF hng hl hfree => ?_⟩
  obtain ⟨x, rfl, h0⟩ := inv10 h
  clear h
  obtain ⟨y, rfl, hy⟩ := rel1 hl
  cases x <;> try exact (fail_inv (show AX.fail S = some (v, S') from h0)).elim
  rename_i t
  obtain ⟨k, e1, h3⟩ := lb h0
  obtain ⟨rfl, rfl⟩ := ret_inv h3
  simp only [Rel] at hy
  subst hy
  refine ⟨ρ, .int .u8 (.ofNat k), w, ?_, by simp only [Rel], hF, Ext.refl _ _ _, Below.refl _ _⟩
  obtain ⟨s, hdef⟩ : ∃ s : String, (ReflectliteType.abiMethod fun t => do pure (.int .u8 (← Rtype.kind t))) ⟨[typeHandle C.P t]⟩ = (do
    let u ← Rtype.ofHandle (typeHandle C.P t)
    Rtype.noPack s u
    (do pure (.int .u8 (← Rtype.kind u)) : Sem Value)) := ⟨_, rfl⟩
  rw [hdef, Sem.run_bind, ofHandle_run]
  simp only [Result.andThen_ok]
  rw [Sem.run_bind, noPack_run (hr.kd _ _ e1).2]
  simp only [Result.andThen_ok]
  rw [Sem.run_bind, (hr.kd _ _ e1).1 w]; rfl
theorem ext11_ok (hr : RfOk C.P tb) (h1 : (Extern.findNext fn).isNone = true) (h2 : Extern.find fn = some (ReflectliteType.method ReflectliteType.elem)) : ExtOk C tb 11 fn := by
  refine ⟨none_of h1, _, h2, fun B l S v S' ρ w args h hF hng hl hfree => ?_⟩
  obtain ⟨x, rfl, h⟩ := inv11 h
  obtain ⟨y, rfl, hy⟩ := rel1 hl
  obtain ⟨t, e1, h3⟩ := lb h
  obtain ⟨e, e2, h4⟩ := lb h3
  obtain ⟨rfl, rfl⟩ := ret_inv h4
  rw [rh_inv e1] at hy
  have hy := rel_rh hy
  subst hy
  refine ⟨ρ, _, w, ?_, mkty, hF, Ext.refl _ _ _, Below.refl _ _⟩
  show (do ReflectliteType.elem (← ReflectliteType.ofRtype (.agg #[typeHandle C.P t])) : Sem Value).run C.P w = _
  rw [Sem.run_bind, ofRtype_run (hr.el _ _ e2).2]
  simp only [Result.andThen_ok]
  unfold ReflectliteType.elem
  rw [Sem.run_bind, (hr.el _ _ e2).1 w]
  exact hr.ty e w
theorem rel_run {P : Program} {what : String} {f : TypeId → TypeId → Sem Bool} {a t u : Nat} {r : Bool} {w : World} (hu : P.packed u = false) (ht : P.packed t = false) (h : (f u t).run P w = .ok r w) :
    (ReflectliteType.relation what f ⟨[.agg #[typeHandle P t], .iface a (.agg #[typeHandle P u])]⟩).run P w = .ok (.bool r) w := by
  show (do pure (.bool (← f (← ReflectliteType.ofRtype (.agg #[typeHandle P u])) (← ReflectliteType.ofRtype (.agg #[typeHandle P t])))) : Sem Value).run P w = _
  simp only [Sem.run_bind, ofRtype_run hu, ofRtype_run ht, Result.andThen_ok, h, Sem.run_pure]
theorem ext12_ok (hr : RfOk C.P tb) (h1 : (Extern.findNext fn).isNone = true) (h2 : Extern.find fn = some (ReflectliteType.relation "Implements" ReflectliteType.implements_)) : ExtOk C tb 12 fn := by
  refine ⟨none_of h1, _, h2, fun B l S v S' ρ w args h hF hng hl hfree => ?_⟩
  obtain ⟨x, y, rfl, h⟩ := inv12 h
  obtain ⟨x', y', rfl, hx, hy⟩ := rel2 hl
  obtain ⟨t, e1, h3⟩ := lb h
  obtain ⟨u, e2, h4⟩ := lb h3
  obtain ⟨q, e3, h5⟩ := lb h4
  obtain ⟨rfl, rfl⟩ := ret_inv h5
  rw [rh_inv e1] at hx
  obtain ⟨a, e4⟩ := rti_inv e2
  rw [e4] at hy
  have hx := rel_rh hx
  simp only [Rel] at hy
  obtain ⟨z, rfl, hz⟩ := hy
  have hz : Rel C ρ (.ag [.h u]) z := by simpa only [Rel] using hz
  have hz := rel_rh hz
  subst hx; subst hz
  obtain ⟨g1, g2, g3⟩ := hr.im2 _ _ _ e3
  exact ⟨ρ, _, w, rel_run g2 g3 (g1 w), by simp only [Rel], hF, Ext.refl _ _ _, Below.refl _ _⟩
theorem ext13_ok (hr : RfOk C.P tb) (h1 : (Extern.findNext fn).isNone = true) (h2 : Extern.find fn = some (ReflectliteType.relation "AssignableTo" ReflectliteType.assignableTo)) : ExtOk C tb 13 fn := by
  refine ⟨none_of h1, _, h2, fun B l S v S' ρ w args h hF hng hl hfree => ?_⟩
  obtain ⟨x, y, rfl, h⟩ := inv13 h
  obtain ⟨x', y', rfl, hx, hy⟩ := rel2 hl
  obtain ⟨t, e1, h3⟩ := lb h
  obtain ⟨u, e2, h4⟩ := lb h3
  obtain ⟨q, e3, h5⟩ := lb h4
  obtain ⟨rfl, rfl⟩ := ret_inv h5
  rw [rh_inv e1] at hx
  obtain ⟨a, e4⟩ := rti_inv e2
  rw [e4] at hy
  have hx := rel_rh hx
  simp only [Rel] at hy
  obtain ⟨z, rfl, hz⟩ := hy
  have hz : Rel C ρ (.ag [.h u]) z := by simpa only [Rel] using hz
  have hz := rel_rh hz
  subst hx; subst hz
  obtain ⟨g1, g2, g3⟩ := hr.asg _ _ _ e3
  exact ⟨ρ, _, w, rel_run g2 g3 (g1 w), by simp only [Rel], hF, Ext.refl _ _ _, Below.refl _ _⟩
theorem ext14_ok (hty : TyOk C.P tb) (hr : RfOk C.P tb) (h1 : (Extern.findNext fn).isNone = true) (h2 : Extern.find fn = some (ReflectliteValue.method (ReflectliteValue.valueError "reflectlite.Value.Elem" 0) ReflectliteValue.elem)) : ExtOk C tb 14 fn := by
  refine ⟨none_of h1, _, h2, fun B l S v S' ρ w args h hF hng hl hfree => ?_⟩
  obtain ⟨x, rfl, h⟩ := inv14 h
  obtain ⟨y, rfl, hy⟩ := rel1 hl
  obtain ⟨r, e1, h3⟩ := lb h
  obtain ⟨e, e2, h3⟩ := lb h3
  obtain ⟨t, b, o, f⟩ := r
  obtain ⟨hf, h4⟩ := cond_inv h3
  obtain ⟨u, S1, h5, h6⟩ := bnd_inv h4
  rw [rv_inv e1] at hy
  obtain ⟨r, hb, rfl⟩ := rel_rv hy
  have hf1 : f % 32 = 22 := Nat.eq_of_beq_eq_true hf
  have hf' : f ≠ 0 := fun e => by subst e; simp at hf1
  obtain ⟨g1, g2, z, g3, g4⟩ := load_run hty hF hb h5
  simp only [] at g3 e2
  cases u <;> simp only [x14b] at h6 <;> try exact (fail_inv h6).elim
  rename_i b2 o2
  obtain ⟨e', e3, h7⟩ := lb h6
  rw [e2] at e3; injection e3 with e3; subst e3
  obtain ⟨k, e4, h8⟩ := lb h7
  obtain ⟨rfl, rfl⟩ := ret_inv h8
  simp only [Rel] at g4
  obtain ⟨q, hq, rfl⟩ := g4
  refine ⟨ρ, _, w, ?_, mkrv (f := k + 384) hq, by rw [g1]; exact hF, by rw [g2]; exact Ext.refl _ _ _, Below.refl _ _⟩
  show (ReflectliteValue.method (ReflectliteValue.valueError "reflectlite.Value.Elem" 0) ReflectliteValue.elem #[.agg #[typeHandle C.P t, .pointer (some ⟨r.blk, r.base + o, none⟩), .int .u64 (.ofNat f)]]).run C.P w = _
  rw [rlm, Sem.run_bind, parts_run hf' (hr.el _ _ e2).2]
  simp only [Result.andThen_ok, hf1]
  unfold ReflectliteValue.elem
  have hp : (program).run C.P w = .ok C.P w := rfl
  simp [g3, (hr.el _ _ e2).1 w, ReflectliteValue.mk, Rtype.handle, hp, (hr.kd _ _ e4).1 w, ReflectliteValue.flagAddr, ReflectliteValue.flagIndir]
  omega
theorem rls (v x : Value) : ReflectliteValue.set #[v, x] = (do
    let (some (dst, a, fl), some (src, b, _)) := (← ReflectliteValue.parts v, ← ReflectliteValue.parts x)
      | unsupported (.noEntry "extern/(internal/reflectlite.Value).Set.zeroValue")
    if fl / ReflectliteValue.flagAddr % 2 == 0 then unsupported (.noEntry "extern/(internal/reflectlite.Value).Set.unaddressable")
    let val ← loadVar src b
    if ← Rtype.directlyAssignable dst src then storeVar dst a val
    else if ← Rtype.implements dst src then
      if (← Rtype.kind src) == 20 then
        match val with
        | .nilIface => unsupported (.noEntry "extern/reflectlite: a nil value of one interface type handed on as a value of another")
        | _ => storeVar dst a val
      else storeVar dst a (.iface src val)
    else panicString ("reflectlite.Set: value of type " ++ (← Rtype.spelt src) ++ " is not assignable to type " ++ (← Rtype.spelt dst))
    pure (.tuple #[])) := rfl
theorem direct_run {P : Program} {t : Nat} {w : World} : (Rtype.directlyAssignable t t).run P w = .ok true w := by simp [Rtype.directlyAssignable]
theorem ext15_ok (hty : TyOk C.P tb) (hr : RfOk C.P tb) (h1 : (Extern.findNext fn).isNone = true) (h2 : Extern.find fn = some ReflectliteValue.set) : ExtOk C tb 15 fn := by
  refine ⟨none_of h1, _, h2, fun B l S v S' ρ w args h hF hng hl hfree => ?_⟩
  obtain ⟨x, y, rfl, h⟩ := inv15 h
  obtain ⟨x', y', rfl, hx, hy⟩ := rel2 hl
  obtain ⟨r, e1, h3⟩ := lb h
  obtain ⟨q, e2, h3⟩ := lb h3
  obtain ⟨k, e3, h3⟩ := lb h3
  obtain ⟨t, b, o, f⟩ := r
  obtain ⟨u, c, p, g⟩ := q
  obtain ⟨hc, h4⟩ := cond_inv h3
  simp only [Bool.and_eq_true, Bool.not_eq_true'] at hc
  obtain ⟨hc1, hc2, hc3⟩ := hc
  have hc1 := Nat.eq_of_beq_eq_true hc1
  have hc2 : f / 256 % 2 = 1 := Nat.eq_of_beq_eq_true hc2
  subst hc1
  have hg : g ≠ 0 := fun e => by subst e; cases hc3
  have hf : f ≠ 0 := fun e => by subst e; simp at hc2
  obtain ⟨z, S1, h5, h6⟩ := bnd_inv h4
  obtain ⟨un, S2, h7, h8⟩ := bnd_inv h6
  obtain ⟨rfl, rfl⟩ := ret_inv h8
  rw [rv_inv e1] at hx
  rw [rv_inv e2] at hy
  obtain ⟨r, hb, rfl⟩ := rel_rv hx
  obtain ⟨r2, hb2, rfl⟩ := rel_rv hy
  obtain ⟨g1, g2, zv, g3, g4⟩ := load_run hty hF hb2 h5
  have hpk := (hr.kd _ _ e3).2
  simp only [] at h7 g3 hpk
  obtain ⟨k1, w', k2, k3, k4⟩ := store_ok hty (w := w) (S := S1) (by rw [g1]; exact hF) (x := .p b o) (xv := .pointer (some ⟨r.blk, r.base + o, none⟩)) (by simp only [Rel]; exact ⟨r, hb, rfl⟩) g4 h7
  have k2 : (storeVar t ⟨r.blk, r.base + o, none⟩ zv).run C.P w = .ok () w' := k2
  refine ⟨ρ, .tuple #[], w', ?_, by simp only [Rel, RelL]; exact ⟨[], rfl, rfl⟩, k3, by rw [k1, g2]; exact Ext.refl _ _ _, k4⟩
  show (ReflectliteValue.set #[.agg #[typeHandle C.P t, .pointer (some ⟨r.blk, r.base + o, none⟩), .int .u64 (.ofNat f)], .agg #[typeHandle C.P t, .pointer (some ⟨r2.blk, r2.base + p, none⟩), .int .u64 (.ofNat g)]]).run C.P w = _
  rw [rls, Sem.run_bind, parts_run hf hpk]
  simp only [Result.andThen_ok]
  rw [Sem.run_bind, parts_run hg hpk]
  simp only [Result.andThen_ok]
  have hq : (f / ReflectliteValue.flagAddr % 2 == 0) = false := by show (f / 256 % 2 == 0) = false; rw [hc2]; rfl
  simp [hq, g3, direct_run, k2]
/-- a method that takes its receiver's first field -/
def MetAt2 (P : Program) (t : Nat) (m : String) (g : Nat) : Prop := ∀ (x : Value) (w : World), (method (P.types.size + Made.depth) t (.agg #[x]) m).run P w = .ok (g, x) w
theorem allOk' {C : Cx} {tb : Tab} (hty : TyEq C.P tb) (himp : ImpEq C.P tb) (hng : tb.ng = C.P.globals.size) (hhyp : tb.hyp = []) (hfn : FnEq C.P tb) (hchk : fnChk C.P tb = true)
    (hmet : ∀ t m g d, (t, m, g, d) ∈ tb.met → (d = false ∧ MetAt C.P t m g) ∨ (d = true ∧ MetAt2 C.P t m g)) (hmix : C.P.follows .mixedOrders = true)
    (hext : ∀ g fi fn, tb.fn.get g = some fi → C.P.funcs[g]? = some fn → fi.body = none → fi.ext = 0 ∨ ExtOk C tb fi.ext fn) : AllOk C tb where
  tab := { ty := fun t ti h => by
             have := map_at hty _ (tl_get h)
             simp only [] at this
             cases hi : C.P.info? t with
             | none => rw [hi] at this; cases this
             | some i => rw [hi] at this; injection this with this; exact ⟨i, rfl, this⟩
           hyp := fun k r h => by rw [hhyp] at h; simp at h
           imp := fun t d r h => by
             have := map_at himp _ (impl_mem _ _ _ _ h)
             simp only [impAns] at this
             split at this
             · rename_i want i h1 h2
               injection this with this
               exact ⟨want, i, h1, h2, this.symm⟩
             · cases this
           ngl := hng }
  met := fun t m g d v u ρ x w h1 h2 h3 => by
    rcases hmet t m g d (methd_mem _ _ _ _ h1) with ⟨rfl, hm⟩ | ⟨rfl, hm⟩
    · simp only [recv, cond_false, Option.some.injEq] at h2
      subst h2
      exact ⟨x, hm x w, h3⟩
    · simp only [recv, cond_true] at h2
      split at h2
      · injection h2 with h2; subst h2
        simp only [Rel, RelL] at h3
        obtain ⟨cs, rfl, y, vt, rfl, hy, rfl⟩ := h3
        exact ⟨y, hm y w, hy⟩
      · cases h2
  fn := fun g fi h => by
    have h1 := map_at hfn _ (tl_get h)
    have h2 := List.all_eq_true.1 hchk _ (tl_get h)
    simp only [] at h1 h2
    cases hf : C.P.funcs[g]? with
    | none => rw [hf] at h1; cases h1
    | some fn =>
      rw [hf] at h1 h2
      simp only [Option.map_some, Option.some.injEq, Prod.mk.injEq] at h1
      simp only [Bool.and_eq_true] at h2
      refine ⟨fn, hf, by simpa using h2.1.1, h1.1.symm, h1.2.1.symm, h1.2.2.symm, fun c hc => ?_, fun v hv => ?_, fun hb => hext g fi fn h hf hb⟩
      · have := h2.1.2; rw [hc] at this; exact this
      · have := h2.2; rw [hv] at this; cases this
  mix := hmix
theorem assocN_mem : ∀ (l : List (Nat × Nat)) (t k : Nat), assocN l t = some k → (t, k) ∈ l
  | [], _, _, h => by simp [assocN] at h
  | (a, q) :: l, t, k, h => by
    unfold assocN at h
    cases hc : Nat.beq a t with
    | true =>
      rw [hc, cond_true] at h; injection h with h; subst h
      have e1 := Nat.eq_of_beq_eq_true hc
      subst e1; exact List.mem_cons_self ..
    | false => rw [hc, cond_false] at h; exact List.mem_cons_of_mem _ (assocN_mem l t k h)
/- the whole run, some old blocks known -/
/-- a package variable's block, read alone -/
def gBlk (e : Nat) (c : Cells) : Blk := ⟨e, c, 0, 0, c.len, true, false⟩
def GOk (C : Cx) (w : World) (g e : Nat) (l : List AV) : Prop := ∃ vs fz, w.heap[g]? = some (.cells ⟨vs⟩ e fz) ∧ RelL C (fun _ => none) l vs ∧ (∀ x ∈ vs, x.oneCell' = true)
theorem run_okH {C : Cx} {tb : Tab} (h : AllOk C tb) {f g : Nat} {fi : FI} {l : List AV} {v : AV} {S' : St} {args : List Value} {H : T Blk} (hfi : tb.fn.get g = some fi) (hb : fi.body.isSome = true)
    (hc : call tb f g l ⟨H, tb.ng, 0, 0⟩ = some (v, S')) (hl : RelL C (fun _ => none) l args) (w : World) (hi : C.inv w) (hsz : C.nst ≤ w.heap.size)
    (hH : ∀ v k, H.get v = some k → v < tb.ng ∧ ∃ e m, k = gBlk e (.l m) ∧ GOk C w v e m) :
    Calls C.P g ⟨args⟩ w fun e w' => ∃ x ρ, e = .returned x ∧ Rel C ρ v x ∧ Below w.heap.size w w' := by
  have hF : Fits C tb.ng w.heap.size (rho0 tb.ng) H w := by
    refine ⟨Nat.le_refl _, fun g hg => by simp [rho0, hg], fun v k hv => ?_, fun v v' k k' r r' hv hv' h1 h2 h3 => ?_, hsz, hi⟩
    · obtain ⟨hlt, e, m, rfl, vs, fz, h1, h2, h3⟩ := hH v k hv
      refine ⟨⟨v, 0, 0, 0⟩, by simp [rho0, hlt], ⟨vs⟩, fz, h1, ?_⟩
      have hlen := h2.len
      refine ⟨⟨trivial, fun j a hj => ?_⟩, fun h => (by cases h), fun x hx1 hx2 hx3 => ?_, fun h => (by cases h), fun _ => ⟨Nat.le_refl _, rfl, rfl⟩, ?_, fun _ => rfl⟩
      · obtain ⟨x, hx, hr⟩ := h2.get hj
        exact ⟨x, by simpa using hx, hr.ofNone, h3 x (List.mem_of_getElem? hx)⟩
      · simp [gBlk, Cells.len] at hx1 hx2; omega
      · simp [gBlk, Cells.len]; omega
    · obtain ⟨l1, _⟩ := hH v k hv
      obtain ⟨l2, _⟩ := hH v' k' hv'
      simp only [rho0, if_pos l1, if_pos l2, Option.some.injEq] at h1 h2
      subst h1; subst h2; exact h3
  have hfree : Free (rho0 tb.ng) tb.ng S'.next := fun v h1 h2 => by simp only [rho0]; rw [if_neg (by omega)]
  obtain ⟨fn, hfn⟩ := h.fn g fi hfi
  have hu := call_ok (B := w.heap.size) h f g l ⟨H, tb.ng, 0, 0⟩ v S' (rho0 tb.ng) w args ⟨some 0, .move (.const undef), 0, "", #[], none⟩ ⟨#[undef], []⟩
    (fun a' w' => ∃ ρ, Rel C ρ v (a'.tmps.getD 0 undef) ∧ Below w.heap.size w w') (fun _ _ _ => False) hc hF (Nat.le_refl _) (RelL.mono (fun v r hv => by cases hv) _ _ hl) hfree
    (fun ρ' x w' r1 r2 r3 r4 => ⟨ρ', by simpa [Act.put] using r1, r4⟩)
  rw [callFunc_body hfn.at_ hfn.name (by rw [hfn.body]; exact hb), Oper.upon_enter] at hu
  refine Calls.mono hu fun e w' he => ?_
  cases e with
  | returned x =>
    obtain ⟨ρ, h1, h2⟩ := he
    exact ⟨x, ρ, rfl, by simpa [Act.put] using h1, h2⟩
  | panicked c => exact he.elim
  | outgrown => obtain ⟨_, _, h⟩ := he; exact h.elim
end
end Go.AX
