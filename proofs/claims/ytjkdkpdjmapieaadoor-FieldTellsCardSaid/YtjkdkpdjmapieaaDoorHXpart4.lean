/- A part of the proof: what an interpreter answers on partly known states is what the program answers. No condition. -/
import Derived.Test.YtjkdkpdjmapieaaDoorHXpart3
import Derived.Lib.Bytealg
import Derived.OpenShut
import Derived.ChangeArms
set_option linter.unusedSimpArgs false
set_option linter.unusedVariables false
section
namespace Go.AX
open Go.Extern
structure jD (P : Program) (tb : Tab) : Prop where
  kd : ∀ t k, fL tb.kd t = some k → (∀ w, (Rtype.kind t).run P w = .ok k w) ∧ P.packed t = false
  el : ∀ t e, fL tb.el t = some e → (∀ w, (Rtype.elem? t).run P w = .ok (some e) w) ∧ P.packed t = false
  eH : ∀ u t r, impl tb.eH u t = some r → (∀ w, (ReflectliteType.assignableTo u t).run P w = .ok r w) ∧ P.packed u = false ∧ P.packed t = false
  im2 : ∀ u t r, impl tb.im2 u t = some r → (∀ w, (ReflectliteType.implements_ u t).run P w = .ok r w) ∧ P.packed u = false ∧ P.packed t = false
  ty : ∀ (t : TypeId) (w : World), (ReflectliteType.toType t).run P w = .ok (.iface tb.rty (.agg #[typeHandle P t])) w
section
variable {C : Cx} {tb : Tab} {fn : Func} {ρ : aY}
theorem qf {x : AV} {r : Nat × Nat × Nat × Nat} (h : rv x = some r) : x = .ag [.h r.1, .p r.2.1 r.2.2.1, .i .u64 (.ofNat r.2.2.2)] := by
  unfold rv at h
  split at h
  · unfold rvL at h
    split at h
    · injection h with h; subst h; rfl
    · cases h
  · cases h
theorem wB {x : AV} {t : Nat} (h : rh x = some t) : x = .ag [.h t] := by
  unfold rh at h
  split at h
  · unfold rhL at h
    split at h
    · injection h with h; subst h; rfl
    · cases h
  · cases h
theorem aX4 {x : AV} {t : Nat} (h : rti x = some t) : ∃ a, x = .bm a (.ag [.h t]) := by
  unfold rti at h
  split at h
  · exact ⟨_, by rw [wB h]⟩
  · cases h
theorem qm {t b o f : Nat} {v : Value} (h : Rel C ρ (.ag [.h t, .p b o, .i .u64 (.ofNat f)]) v) : ∃ r, ρ b = some r ∧ v = .agg #[typeHandle C.P t, .pointer (some ⟨r.blk, r.base + o, none⟩), .int .u64 (.ofNat f)] := by
  simp only [Rel, aF] at h
  obtain ⟨cs, rfl, x, vt, rfl, hx, y, vt2, rfl, ⟨r, hr, rfl⟩, z, vt3, rfl, rfl, rfl⟩ := h
  exact ⟨r, hr, by rw [hx]⟩
theorem qn {t : Nat} {v : Value} (h : Rel C ρ (.ag [.h t]) v) : v = .agg #[typeHandle C.P t] := by
  simp only [Rel, aF] at h
  obtain ⟨cs, rfl, x, vt, rfl, rfl, rfl⟩ := h; rfl
theorem qp {a b : AV} {vs : List Value} (h : aF C ρ [a, b] vs) : ∃ x y, vs = [x, y] ∧ Rel C ρ a x ∧ Rel C ρ b y := by
  simp only [aF] at h
  obtain ⟨x, vt, rfl, h1, y, vt2, rfl, h2, rfl⟩ := h; exact ⟨x, y, rfl, h1, h2⟩
theorem mkrv {t b o f : Nat} {r : R} (h : ρ b = some r) : Rel C ρ (.ag [.h t, .p b o, .i .u64 (.ofNat f)]) (.agg #[typeHandle C.P t, .pointer (some ⟨r.blk, r.base + o, none⟩), .int .u64 (.ofNat f)]) := by
  simp only [Rel, aF]
  exact ⟨_, rfl, _, _, rfl, rfl, _, _, rfl, ⟨r, h, rfl⟩, _, _, rfl, rfl, rfl⟩
theorem mkty {t : Nat} : Rel C ρ (.bm tb.rty (.ag [.h t])) (.iface tb.rty (.agg #[typeHandle C.P t])) := by
  simp only [Rel, aF]
  exact ⟨_, rfl, _, rfl, _, _, rfl, rfl, rfl⟩
theorem inv7 {l : List AV} {S S' : St} {v : AV} (h : ext tb 7 l S = some (v, S')) : ∃ x, l = [x] ∧ x7 tb x S = some (v, S') := by
  match l, h with
  | [x], h => exact ⟨x, rfl, h⟩
  | [], h => simp only [ext] at h; exact (aU h).elim
  | _ :: _ :: _, h => simp only [ext] at h; exact (aU h).elim
theorem inv8 {l : List AV} {S S' : St} {v : AV} (h : ext tb 8 l S = some (v, S')) : ∃ x, l = [x] ∧ x8 tb x S = some (v, S') := by
  match l, h with
  | [x], h => exact ⟨x, rfl, h⟩
  | [], h => simp only [ext] at h; exact (aU h).elim
  | _ :: _ :: _, h => simp only [ext] at h; exact (aU h).elim
theorem inv9 {l : List AV} {S S' : St} {v : AV} (h : ext tb 9 l S = some (v, S')) : ∃ x, l = [x] ∧ x9 tb x S = some (v, S') := by
  match l, h with
  | [x], h => exact ⟨x, rfl, h⟩
  | [], h => simp only [ext] at h; exact (aU h).elim
  | _ :: _ :: _, h => simp only [ext] at h; exact (aU h).elim
theorem inv10 {l : List AV} {S S' : St} {v : AV} (h : ext tb 10 l S = some (v, S')) : ∃ x, l = [x] ∧ x10 tb x S = some (v, S') := by
  match l, h with
  | [x], h => exact ⟨x, rfl, h⟩
  | [], h => simp only [ext] at h; exact (aU h).elim
  | _ :: _ :: _, h => simp only [ext] at h; exact (aU h).elim
theorem inv11 {l : List AV} {S S' : St} {v : AV} (h : ext tb 11 l S = some (v, S')) : ∃ x, l = [x] ∧ x11 tb x S = some (v, S') := by
  match l, h with
  | [x], h => exact ⟨x, rfl, h⟩
  | [], h => simp only [ext] at h; exact (aU h).elim
  | _ :: _ :: _, h => simp only [ext] at h; exact (aU h).elim
theorem inv12 {l : List AV} {S S' : St} {v : AV} (h : ext tb 12 l S = some (v, S')) : ∃ x y, l = [x, y] ∧ x12 tb x y S = some (v, S') := by
  match l, h with
  | [x, y], h => exact ⟨x, y, rfl, h⟩
  | [], h => simp only [ext] at h; exact (aU h).elim
  | [_], h => simp only [ext] at h; exact (aU h).elim
  | _ :: _ :: _ :: _, h => simp only [ext] at h; exact (aU h).elim
theorem inv13 {l : List AV} {S S' : St} {v : AV} (h : ext tb 13 l S = some (v, S')) : ∃ x y, l = [x, y] ∧ x13 tb x y S = some (v, S') := by
  match l, h with
  | [x, y], h => exact ⟨x, y, rfl, h⟩
  | [], h => simp only [ext] at h; exact (aU h).elim
  | [_], h => simp only [ext] at h; exact (aU h).elim
  | _ :: _ :: _ :: _, h => simp only [ext] at h; exact (aU h).elim
theorem inv14 {l : List AV} {S S' : St} {v : AV} (h : ext tb 14 l S = some (v, S')) : ∃ x, l = [x] ∧ x14 tb x S = some (v, S') := by
  match l, h with
  | [x], h => exact ⟨x, rfl, h⟩
  | [], h => simp only [ext] at h; exact (aU h).elim
  | _ :: _ :: _, h => simp only [ext] at h; exact (aU h).elim
theorem inv15 {l : List AV} {S S' : St} {v : AV} (h : ext tb 15 l S = some (v, S')) : ∃ x y, l = [x, y] ∧ x15 tb x y S = some (v, S') := by
  match l, h with
  | [x, y], h => exact ⟨x, y, rfl, h⟩
  | [], h => simp only [ext] at h; exact (aU h).elim
  | [_], h => simp only [ext] at h; exact (aU h).elim
  | _ :: _ :: _ :: _, h => simp only [ext] at h; exact (aU h).elim
theorem aA6 {P : Program} {t f : Nat} {a : Addr} (hf : f ≠ 0) (w : World) : (ReflectliteValue.partsAny (.agg #[typeHandle P t, .pointer (some a), .int .u64 (.ofNat f)])).run P w = .ok (some (t, a, f)) w := by
  cases f with
  | zero => exact absurd rfl hf
  | succ f =>
    have e1 : (Rtype.ofHandle (typeHandle P t)).run P w = .ok t w := by simp [Rtype.ofHandle, handleType, typeHandle]
    have hdef : ReflectliteValue.partsAny (.agg #[typeHandle P t, .pointer (some a), .int .u64 (.ofNat (f + 1))]) = (do pure (some (← Rtype.ofHandle (typeHandle P t), a, f + 1)) : Sem (Option (TypeId × Addr × Nat))) := rfl
    rw [hdef, Sem.run_bind, e1]; rfl
theorem wE {P : Program} {t f : Nat} {a : Addr} (hf : f ≠ 0) (hp : P.packed t = false) (w : World) : (ReflectliteValue.parts (.agg #[typeHandle P t, .pointer (some a), .int .u64 (.ofNat f)])).run P w = .ok (some (t, a, f)) w := by
  unfold ReflectliteValue.parts
  rw [Sem.run_bind, aA6 hf]
  have e2 : ∀ s, (Rtype.noPack s t).run P w = .ok () w := fun s => by simp [Rtype.noPack, hp]
  simp only [Result.andThen_ok, Sem.run_bind, e2, Sem.run_pure]
theorem Dw (ht : TyOk C.P tb) {B : Fz} {S S' : St} {w : World} (hF : Fits C tb.ng B ρ S.heap w) {t b o : Nat} {r : R} (hr : ρ b = some r) {v : AV} (h : load tb t (.p b o) S = some (v, S')) :
    S'.heap = S.heap ∧ S'.next = S.next ∧ ∃ y, (loadVar t ⟨r.blk, r.base + o, none⟩).run C.P w = .ok y w ∧ Rel C ρ v y := Dx ht hF (xv := .pointer (some ⟨r.blk, r.base + o, none⟩)) (by simp only [Rel]; exact ⟨r, hr, rfl⟩) h
theorem ext7_ok (hty : TyOk C.P tb) (hr : jD C.P tb) (h1 : (Extern.findNext fn).isNone = true) (h2 : Extern.find fn = some fun args => ReflectliteValue.unpack (args.getD 0 (.tuple #[]))) : cZ C tb 7 fn := by
  refine ⟨fB h1, _, h2, fun B l S v S' ρ w args h hF aX hl hfree => ?_⟩
  obtain ⟨x, rfl, h0⟩ := inv7 h
  clear h
  obtain ⟨y, rfl, hy⟩ := jX hl
  cases x <;> try exact (aU (show AX.fail S = some (v, S') from h0)).elim
  rename_i t u
  simp only [Rel] at hy
  obtain ⟨z, rfl, hz⟩ := hy
  obtain ⟨k, e1, h3⟩ := lb h0
  obtain ⟨m, e2, h4⟩ := lb h3
  obtain ⟨hs, h5⟩ := bJ h4
  obtain ⟨b, S1, h6, h7⟩ := bM h5
  obtain ⟨rfl, rfl⟩ := aW h7
  have hrel := Ig e2 hz
  have hone : ∀ y ∈ z.cells.toList, y.oneCell' = true := fun y hy => by
    obtain ⟨j, hj, he⟩ := List.mem_iff_getElem.1 hy
    have hj' : j < m.length := by rw [← hrel.len]; exact hj
    obtain ⟨x', hx', hr'⟩ := hrel.get (List.getElem?_eq_getElem hj')
    rw [List.getElem?_eq_getElem hj, he] at hx'; injection hx' with hx'; subst hx'
    exact kU (List.all_eq_true.1 hs _ (List.getElem_mem hj')) hr'
  obtain ⟨ρ', w', r1, r2, r3, r4, r5, r6⟩ := BH hF aX h6 hfree (c := .l m) trivial hrel hone
  refine ⟨ρ', _, w', ?_, mkrv (f := k + 128) r5, r2, r3, r4⟩
  show (ReflectliteValue.unpack (.iface t z)).run C.P w = _
  have hn : (newVar t z).run C.P w = .ok ⟨w.heap.size, 0, none⟩ w' := by simpa [newVar] using r1
  unfold ReflectliteValue.unpack
  simp only [Sem.run_bind, hn, Result.andThen_ok]
  have hp : (program).run C.P w' = .ok C.P w' := rfl
  simp only [ReflectliteValue.mk, Rtype.handle, Sem.run_bind, hp, Result.andThen_ok, Sem.run_pure, (hr.kd _ _ e1).1 w']
  rfl
theorem ext8_ok (hr : jD C.P tb) (h1 : (Extern.findNext fn).isNone = true) (h2 : Extern.find fn = some (ReflectliteValue.methodAny (ReflectliteValue.valueError "reflectlite.Value.Type" 0) fun t _ _ _ => ReflectliteType.toType t)) : cZ C tb 8 fn := by
  refine ⟨fB h1, _, h2, fun B l S v S' ρ w args h hF aX hl hfree => ?_⟩
  obtain ⟨x, rfl, h⟩ := inv8 h
  obtain ⟨y, rfl, hy⟩ := jX hl
  obtain ⟨r, e1, h3⟩ := lb h
  obtain ⟨t, b, o, f⟩ := r
  obtain ⟨hf, h4⟩ := cond_inv' h3
  obtain ⟨rfl, rfl⟩ := aW h4
  rw [qf e1] at hy
  obtain ⟨r, hb, rfl⟩ := qm hy
  refine ⟨ρ, _, w, ?_, mkty, hF, Ext.refl _ _ _, Below.refl _ _⟩
  have hf' : f ≠ 0 := fun e => by subst e; simp at hf
  show (do match ← ReflectliteValue.partsAny (.agg #[typeHandle C.P t, .pointer (some ⟨r.blk, r.base + o, none⟩), .int .u64 (.ofNat f)]) with
    | none => ReflectliteValue.valueError "reflectlite.Value.Type" 0
    | some (t, a, fl) => ReflectliteType.toType t : Sem Value).run C.P w = _
  rw [Sem.run_bind, aA6 hf']
  exact hr.ty t w
theorem rlm (z : Sem Value) (f : TypeId → Addr → Nat → Nat → Sem Value) (v : Value) :
    ReflectliteValue.method z f #[v] = (do match ← ReflectliteValue.parts v with | none => z | some (t, a, fl) => f t a fl (fl % 32)) := rfl
def isNilQ (v : Value) : Sem Value := match v with
  | .chan none | .nilFunc | .nilIface | .map none | .pointer none | .slice none _ _ => pure (.bool true)
  | _ => pure (.bool false)
theorem isNil_eq {t : TypeId} {a : Addr} {fl : Nat} : ReflectliteValue.isNil t a fl 22 = (do
    let v ← loadVar t a
    isNilQ v : Sem Value) := rfl
theorem ext9_ok (hty : TyOk C.P tb) (hr : jD C.P tb) (h1 : (Extern.findNext fn).isNone = true) (h2 : Extern.find fn = some (ReflectliteValue.method (ReflectliteValue.valueError "reflectlite.Value.IsNil" 0) ReflectliteValue.isNil)) : cZ C tb 9 fn := by
  refine ⟨fB h1, _, h2, fun B l S v S' ρ w args h hF aX hl hfree => ?_⟩
  obtain ⟨x, rfl, h⟩ := inv9 h
  obtain ⟨y, rfl, hy⟩ := jX hl
  obtain ⟨r, e1, h3⟩ := lb h
  obtain ⟨e, e2, h3⟩ := lb h3
  obtain ⟨t, b, o, f⟩ := r
  obtain ⟨hf, h4⟩ := bJ h3
  obtain ⟨u, S1, h5, h6⟩ := bM h4
  rw [qf e1] at hy
  obtain ⟨r, hb, rfl⟩ := qm hy
  have hf1 : f % 32 = 22 := Nat.eq_of_beq_eq_true hf
  have hf' : f ≠ 0 := fun e => by subst e; simp at hf1
  obtain ⟨g1, g2, z, g3, g4⟩ := Dw hty hF hb h5
  simp only [] at g3 e2
  have hrun : (ReflectliteValue.method (ReflectliteValue.valueError "reflectlite.Value.IsNil" 0) ReflectliteValue.isNil #[.agg #[typeHandle C.P t, .pointer (some ⟨r.blk, r.base + o, none⟩), .int .u64 (.ofNat f)]]).run C.P w =
      (isNilQ z).run C.P w := by
    rw [rlm, Sem.run_bind, wE hf' (hr.el _ _ e2).2]
    simp only [Result.andThen_ok, hf1]
    rw [isNil_eq]
    simp only [Sem.run_bind, g3, Result.andThen_ok]
  cases u <;> simp only [fC] at h6 <;> try exact (aU h6).elim
  · obtain ⟨rfl, rfl⟩ := aW h6
    simp only [Rel] at g4
    subst g4
    exact ⟨ρ, .bool true, w, hrun, by simp only [Rel], by rw [g1]; exact hF, by rw [g2]; exact Ext.refl _ _ _, Below.refl _ _⟩
  · obtain ⟨rfl, rfl⟩ := aW h6
    simp only [Rel] at g4
    obtain ⟨q, hq, rfl⟩ := g4
    exact ⟨ρ, .bool false, w, hrun, by simp only [Rel], by rw [g1]; exact hF, by rw [g2]; exact Ext.refl _ _ _, Below.refl _ _⟩
theorem ofHandle_run {P : Program} {t : Nat} {w : World} : (Rtype.ofHandle (typeHandle P t)).run P w = .ok t w := by simp [Rtype.ofHandle, handleType, typeHandle]
theorem noPack_run {P : Program} {t : Nat} {w : World} (hp : P.packed t = false) (s : String) : (Rtype.noPack s t).run P w = .ok () w := by simp [Rtype.noPack, hp]
theorem ext10_ok (hr : jD C.P tb) (h1 : (Extern.findNext fn).isNone = true) (h2 : Extern.find fn = some (ReflectliteType.abiMethod fun t => do pure (.int .u8 (← Rtype.kind t)))) : cZ C tb 10 fn := by
  refine ⟨fB h1, _, h2, fun B l S v S' ρ w args h hF aX hl hfree => ?_⟩
  obtain ⟨x, rfl, h0⟩ := inv10 h
  clear h
  obtain ⟨y, rfl, hy⟩ := jX hl
  cases x <;> try exact (aU (show AX.fail S = some (v, S') from h0)).elim
  rename_i t
  obtain ⟨k, e1, h3⟩ := lb h0
  obtain ⟨rfl, rfl⟩ := aW h3
  simp only [Rel] at hy
  subst hy
  refine ⟨ρ, .int .u8 (.ofNat k), w, ?_, by simp only [Rel], hF, Ext.refl _ _ _, Below.refl _ _⟩
  obtain ⟨s, hdef⟩ : ∃ s : String, (ReflectliteType.abiMethod fun t => do pure (.int .u8 (← Rtype.kind t))) ⟨[typeHandle C.P t]⟩ = (do
    let u ← Rtype.ofHandle (typeHandle C.P t)
    Rtype.noPack s u
    (do pure (.int .u8 (← Rtype.kind u)) : Sem Value)) := ⟨_, rfl⟩
  rw [hdef, Sem.run_bind, ofHandle_run]
  simp only [Result.andThen_ok]
  rw [Sem.run_bind, noPack_run (hr.kd _ _ e1).2]
  simp only [Result.andThen_ok]
  rw [Sem.run_bind, (hr.kd _ _ e1).1 w]; rfl
theorem ext11_ok (hr : jD C.P tb) (h1 : (Extern.findNext fn).isNone = true) (h2 : Extern.find fn = some (ReflectliteType.method ReflectliteType.elem)) : cZ C tb 11 fn := by
  refine ⟨fB h1, _, h2, fun B l S v S' ρ w args h hF aX hl hfree => ?_⟩
  obtain ⟨x, rfl, h⟩ := inv11 h
  obtain ⟨y, rfl, hy⟩ := jX hl
  obtain ⟨t, e1, h3⟩ := lb h
  obtain ⟨e, e2, h4⟩ := lb h3
  obtain ⟨rfl, rfl⟩ := aW h4
  rw [wB e1] at hy
  have hy := qn hy
  subst hy
  refine ⟨ρ, _, w, ?_, mkty, hF, Ext.refl _ _ _, Below.refl _ _⟩
  show (do ReflectliteType.elem (← ReflectliteType.ofRtype (.agg #[typeHandle C.P t])) : Sem Value).run C.P w = _
  rw [Sem.run_bind, wI (hr.el _ _ e2).2]
  simp only [Result.andThen_ok]
  unfold ReflectliteType.elem
  rw [Sem.run_bind, (hr.el _ _ e2).1 w]
  exact hr.ty e w
theorem aY4 {P : Program} {what : String} {f : TypeId → TypeId → Sem Bool} {a t u : Nat} {r : Bool} {w : World} (hu : P.packed u = false) (ht : P.packed t = false) (h : (f u t).run P w = .ok r w) :
    (ReflectliteType.relation what f ⟨[.agg #[typeHandle P t], .iface a (.agg #[typeHandle P u])]⟩).run P w = .ok (.bool r) w := by
  show (do pure (.bool (← f (← ReflectliteType.ofRtype (.agg #[typeHandle P u])) (← ReflectliteType.ofRtype (.agg #[typeHandle P t])))) : Sem Value).run P w = _
  simp only [Sem.run_bind, wI hu, wI ht, Result.andThen_ok, h, Sem.run_pure]
theorem ext12_ok (hr : jD C.P tb) (h1 : (Extern.findNext fn).isNone = true) (h2 : Extern.find fn = some (ReflectliteType.relation "Implements" ReflectliteType.implements_)) : cZ C tb 12 fn := by
  refine ⟨fB h1, _, h2, fun B l S v S' ρ w args h hF aX hl hfree => ?_⟩
  obtain ⟨x, y, rfl, h⟩ := inv12 h
  obtain ⟨x', y', rfl, hx, hy⟩ := qp hl
  obtain ⟨t, e1, h3⟩ := lb h
  obtain ⟨u, e2, h4⟩ := lb h3
  obtain ⟨q, e3, h5⟩ := lb h4
  obtain ⟨rfl, rfl⟩ := aW h5
  rw [wB e1] at hx
  obtain ⟨a, e4⟩ := aX4 e2
  rw [e4] at hy
  have hx := qn hx
  simp only [Rel] at hy
  obtain ⟨z, rfl, hz⟩ := hy
  have hz : Rel C ρ (.ag [.h u]) z := by simpa only [Rel] using hz
  have hz := qn hz
  subst hx; subst hz
  obtain ⟨g1, g2, g3⟩ := hr.im2 _ _ _ e3
  exact ⟨ρ, _, w, aY4 g2 g3 (g1 w), by simp only [Rel], hF, Ext.refl _ _ _, Below.refl _ _⟩
theorem ext13_ok (hr : jD C.P tb) (h1 : (Extern.findNext fn).isNone = true) (h2 : Extern.find fn = some (ReflectliteType.relation "AssignableTo" ReflectliteType.assignableTo)) : cZ C tb 13 fn := by
  refine ⟨fB h1, _, h2, fun B l S v S' ρ w args h hF aX hl hfree => ?_⟩
  obtain ⟨x, y, rfl, h⟩ := inv13 h
  obtain ⟨x', y', rfl, hx, hy⟩ := qp hl
  obtain ⟨t, e1, h3⟩ := lb h
  obtain ⟨u, e2, h4⟩ := lb h3
  obtain ⟨q, e3, h5⟩ := lb h4
  obtain ⟨rfl, rfl⟩ := aW h5
  rw [wB e1] at hx
  obtain ⟨a, e4⟩ := aX4 e2
  rw [e4] at hy
  have hx := qn hx
  simp only [Rel] at hy
  obtain ⟨z, rfl, hz⟩ := hy
  have hz : Rel C ρ (.ag [.h u]) z := by simpa only [Rel] using hz
  have hz := qn hz
  subst hx; subst hz
  obtain ⟨g1, g2, g3⟩ := hr.eH _ _ _ e3
  exact ⟨ρ, _, w, aY4 g2 g3 (g1 w), by simp only [Rel], hF, Ext.refl _ _ _, Below.refl _ _⟩
theorem ext14_ok (hty : TyOk C.P tb) (hr : jD C.P tb) (h1 : (Extern.findNext fn).isNone = true) (h2 : Extern.find fn = some (ReflectliteValue.method (ReflectliteValue.valueError "reflectlite.Value.Elem" 0) ReflectliteValue.elem)) : cZ C tb 14 fn := by
  refine ⟨fB h1, _, h2, fun B l S v S' ρ w args h hF aX hl hfree => ?_⟩
  obtain ⟨x, rfl, h⟩ := inv14 h
  obtain ⟨y, rfl, hy⟩ := jX hl
  obtain ⟨r, e1, h3⟩ := lb h
  obtain ⟨e, e2, h3⟩ := lb h3
  obtain ⟨t, b, o, f⟩ := r
  obtain ⟨hf, h4⟩ := bJ h3
  obtain ⟨u, S1, h5, h6⟩ := bM h4
  rw [qf e1] at hy
  obtain ⟨r, hb, rfl⟩ := qm hy
  have hf1 : f % 32 = 22 := Nat.eq_of_beq_eq_true hf
  have hf' : f ≠ 0 := fun e => by subst e; simp at hf1
  obtain ⟨g1, g2, z, g3, g4⟩ := Dw hty hF hb h5
  simp only [] at g3 e2
  cases u <;> simp only [ez] at h6 <;> try exact (aU h6).elim
  rename_i b2 o2
  obtain ⟨e', e3, h7⟩ := lb h6
  rw [e2] at e3; injection e3 with e3; subst e3
  obtain ⟨k, e4, h8⟩ := lb h7
  obtain ⟨rfl, rfl⟩ := aW h8
  simp only [Rel] at g4
  obtain ⟨q, hq, rfl⟩ := g4
  refine ⟨ρ, _, w, ?_, mkrv (f := k + 384) hq, by rw [g1]; exact hF, by rw [g2]; exact Ext.refl _ _ _, Below.refl _ _⟩
  show (ReflectliteValue.method (ReflectliteValue.valueError "reflectlite.Value.Elem" 0) ReflectliteValue.elem #[.agg #[typeHandle C.P t, .pointer (some ⟨r.blk, r.base + o, none⟩), .int .u64 (.ofNat f)]]).run C.P w = _
  rw [rlm, Sem.run_bind, wE hf' (hr.el _ _ e2).2]
  simp only [Result.andThen_ok, hf1]
  unfold ReflectliteValue.elem
  have hp : (program).run C.P w = .ok C.P w := rfl
  simp [g3, (hr.el _ _ e2).1 w, ReflectliteValue.mk, Rtype.handle, hp, (hr.kd _ _ e4).1 w, ReflectliteValue.flagAddr, ReflectliteValue.flagIndir]
  omega
theorem rls (v x : Value) : ReflectliteValue.set #[v, x] = (do
    let (some (dst, a, fl), some (src, b, _)) := (← ReflectliteValue.parts v, ← ReflectliteValue.parts x)
      | unsupported (.noEntry "extern/(internal/reflectlite.Value).Set.zeroValue")
    if fl / ReflectliteValue.flagAddr % 2 == 0 then unsupported (.noEntry "extern/(internal/reflectlite.Value).Set.unaddressable")
    let val ← loadVar src b
    if ← Rtype.directlyAssignable dst src then storeVar dst a val
    else if ← Rtype.implements dst src then
      if (← Rtype.kind src) == 20 then
        match val with
        | .nilIface => unsupported (.noEntry "extern/reflectlite: a nil value of one interface type handed on as a value of another")
        | _ => storeVar dst a val
      else storeVar dst a (.iface src val)
    else panicString ("reflectlite.Set: value of type " ++ (← Rtype.spelt src) ++ " is not assignable to type " ++ (← Rtype.spelt dst))
    pure (.tuple #[])) := rfl
theorem direct_run {P : Program} {t : Nat} {w : World} : (Rtype.directlyAssignable t t).run P w = .ok true w := by simp [Rtype.directlyAssignable]
theorem ext15_ok (hty : TyOk C.P tb) (hr : jD C.P tb) (h1 : (Extern.findNext fn).isNone = true) (h2 : Extern.find fn = some ReflectliteValue.set) : cZ C tb 15 fn := by
  refine ⟨fB h1, _, h2, fun B l S v S' ρ w args h hF aX hl hfree => ?_⟩
  obtain ⟨x, y, rfl, h⟩ := inv15 h
  obtain ⟨x', y', rfl, hx, hy⟩ := qp hl
  obtain ⟨r, e1, h3⟩ := lb h
  obtain ⟨q, e2, h3⟩ := lb h3
  obtain ⟨k, e3, h3⟩ := lb h3
  obtain ⟨t, b, o, f⟩ := r
  obtain ⟨u, c, p, g⟩ := q
  obtain ⟨hc, h4⟩ := bJ h3
  simp only [Bool.and_eq_true, Bool.not_eq_true'] at hc
  obtain ⟨hc1, hc2, hc3⟩ := hc
  have hc1 := Nat.eq_of_beq_eq_true hc1
  have hc2 : f / 256 % 2 = 1 := Nat.eq_of_beq_eq_true hc2
  subst hc1
  have hg : g ≠ 0 := fun e => by subst e; cases hc3
  have hf : f ≠ 0 := fun e => by subst e; simp at hc2
  obtain ⟨z, S1, h5, h6⟩ := bM h4
  obtain ⟨un, S2, h7, h8⟩ := bM h6
  obtain ⟨rfl, rfl⟩ := aW h8
  rw [qf e1] at hx
  rw [qf e2] at hy
  obtain ⟨r, hb, rfl⟩ := qm hx
  obtain ⟨r2, hb2, rfl⟩ := qm hy
  obtain ⟨g1, g2, zv, g3, g4⟩ := Dw hty hF hb2 h5
  have hpk := (hr.kd _ _ e3).2
  simp only [] at h7 g3 hpk
  obtain ⟨k1, w', k2, k3, k4⟩ := aP8 hty (w := w) (S := S1) (by rw [g1]; exact hF) (x := .p b o) (xv := .pointer (some ⟨r.blk, r.base + o, none⟩)) (by simp only [Rel]; exact ⟨r, hb, rfl⟩) g4 h7
  have k2 : (storeVar t ⟨r.blk, r.base + o, none⟩ zv).run C.P w = .ok () w' := k2
  refine ⟨ρ, .tuple #[], w', ?_, by simp only [Rel, aF]; exact ⟨[], rfl, rfl⟩, k3, by rw [k1, g2]; exact Ext.refl _ _ _, k4⟩
  show (ReflectliteValue.set #[.agg #[typeHandle C.P t, .pointer (some ⟨r.blk, r.base + o, none⟩), .int .u64 (.ofNat f)], .agg #[typeHandle C.P t, .pointer (some ⟨r2.blk, r2.base + p, none⟩), .int .u64 (.ofNat g)]]).run C.P w = _
  rw [rls, Sem.run_bind, wE hf hpk]
  simp only [Result.andThen_ok]
  rw [Sem.run_bind, wE hg hpk]
  simp only [Result.andThen_ok]
  have hq : (f / ReflectliteValue.flagAddr % 2 == 0) = false := by show (f / 256 % 2 == 0) = false; rw [hc2]; rfl
  simp [hq, g3, direct_run, k2]
def MetAt2 (P : Program) (t : Nat) (m : String) (g : Nat) : Prop := ∀ (x : Value) (w : World), (method (P.types.size + Made.depth) t (.agg #[x]) m).run P w = .ok (g, x) w
theorem allOk' {C : Cx} {tb : Tab} (hty : TyEq C.P tb) (himp : Bb C.P tb) (aX : tb.ng = C.P.globals.size) (hhyp : tb.hyp = []) (hfn : FnEq C.P tb) (hchk : fnChk C.P tb = true)
    (hmet : ∀ t m g d, (t, m, g, d) ∈ tb.met → (d = false ∧ qK C.P t m g) ∨ (d = true ∧ MetAt2 C.P t m g)) (dd : C.P.follows .mixedOrders = true)
    (hext : ∀ g fi fn, tb.fn.get g = some fi → C.P.funcs[g]? = some fn → fi.body = none → fi.ext = 0 ∨ cZ C tb fi.ext fn) : ar C tb where
  tab := { ty := fun t ti h => by
             have := ry hty _ (nf h)
             simp only [] at this
             cases hi : C.P.info? t with
             | none => rw [hi] at this; cases this
             | some i => rw [hi] at this; injection this with this; exact ⟨i, rfl, this⟩
           hyp := fun k r h => by rw [hhyp] at h; simp at h
           imp := fun t d r h => by
             have := ry himp _ (y5 _ _ _ _ h)
             simp only [y6] at this
             split at this
             · rename_i want i h1 h2
               injection this with this
               exact ⟨want, i, h1, h2, this.symm⟩
             · cases this
           ngl := aX }
  met := fun t m g d v u ρ x w h1 h2 h3 => by
    rcases hmet t m g d (aK8 _ _ _ _ h1) with ⟨rfl, hm⟩ | ⟨rfl, hm⟩
    · simp only [recv, cond_false, Option.some.injEq] at h2
      subst h2
      exact ⟨x, hm x w, h3⟩
    · simp only [recv, cond_true] at h2
      split at h2
      · injection h2 with h2; subst h2
        simp only [Rel, aF] at h3
        obtain ⟨cs, rfl, y, vt, rfl, hy, rfl⟩ := h3
        exact ⟨y, hm y w, hy⟩
      · cases h2
  fn := fun g fi h => by
    have h1 := ry hfn _ (nf h)
    have h2 := List.all_eq_true.1 hchk _ (nf h)
    simp only [] at h1 h2
    cases hf : C.P.funcs[g]? with
    | none => rw [hf] at h1; cases h1
    | some fn =>
      rw [hf] at h1 h2
      simp only [Option.map_some, Option.some.injEq, Prod.mk.injEq] at h1
      simp only [Bool.and_eq_true] at h2
      refine ⟨fn, hf, by simpa using h2.1.1.1, h1.1.symm, h1.2.1.symm, h1.2.2.symm, fun c hc => ?_, fun v hv => ?_, fun c hc => ?_, fun l hl _ => ?_, fun hb => hext g fi fn h hf hb⟩
      · have := h2.1.1.2; rw [hc] at this; exact this
      · have := h2.1.2; rw [hv] at this; cases this
      · rw [List.isEmpty_iff.1 h2.2]; exact bA.nil c
      · rw [List.isEmpty_iff.1 h2.2] at hl; cases hl
  mix := dd
theorem Iw : ∀ (l : List (Nat × Nat)) (t k : Nat), fL l t = some k → (t, k) ∈ l
  | [], _, _, h => by simp [fL] at h
  | (a, q) :: l, t, k, h => by
    unfold fL at h
    cases hc : Nat.beq a t with
    | true =>
      rw [hc, cond_true] at h; injection h with h; subst h
      have e1 := Nat.eq_of_beq_eq_true hc
      subst e1; exact List.mem_cons_self ..
    | false => rw [hc, cond_false] at h; exact List.mem_cons_of_mem _ (Iw l t k h)
/- the whole run, some old blocks known -/
def ou (e : Nat) (c : Cells) : aR := .b ⟨e, c, 0, 0, c.len, true, false⟩
end
end Go.AX
end
section
namespace Go.AX
open Go.Extern
theorem strB_cons (k n : Nat) : bZ (k + 1) n = UInt8.ofNat (n % 256) :: bZ k (Nat.shiftRight n 8) := by
  unfold bZ
  rw [List.range_succ_eq_map, List.map_cons, List.map_map]
  congr 1
  apply List.map_congr_left
  intro j _
  show UInt8.ofNat (byteAt n (j + 1)) = UInt8.ofNat (byteAt (n >>> 8) j)
  rw [i9, i9, Nat.shiftRight_eq_div_pow, Nat.div_div_eq_div_mul, ← Nat.pow_add, show 8 + 8 * j = 8 * (j + 1) by omega]
theorem ofNat_beq (a c : Nat) (ha : a < 256) (hc : c < 256) : (UInt8.ofNat a == UInt8.ofNat c) = Nat.beq a c := by
  have e : (UInt8.ofNat a = UInt8.ofNat c) ↔ a = c := by
    rw [← UInt8.toNat_inj]; simp [Nat.mod_eq_of_lt ha, Nat.mod_eq_of_lt hc]
  by_cases h : a = c
  · subst h; simp
  · have h2 : Nat.beq a c = false := by
      cases hb : Nat.beq a c with
      | false => rfl
      | true => exact absurd (Nat.eq_of_beq_eq_true hb) h
    rw [h2, beq_eq_false_iff_ne]; exact fun e' => h (e.1 e')
theorem find_spec (c : Nat) (hc : c < 256) : ∀ (k n j : Nat), (match iD k n c j with | some i => ((i - j : Nat) : Int) | none => -1) = Lib.indexByte (bZ k n) (UInt8.ofNat c) ∧ ∀ i, iD k n c j = some i → j ≤ i
  | 0, n, j => ⟨rfl, fun i h => by simp [iD] at h⟩
  | k + 1, n, j => by
    rw [strB_cons]
    unfold Lib.indexByte iD
    rw [ofNat_beq _ _ (Nat.mod_lt _ (by omega)) hc]
    show (match cond (Nat.beq (n % 256) c) (some j) (iD k (Nat.shiftRight n 8) c (Nat.succ j)) with | some i => ((i - j : Nat) : Int) | none => -1) = _ ∧ ∀ i, cond (Nat.beq (n % 256) c) (some j) (iD k (Nat.shiftRight n 8) c (Nat.succ j)) = some i → j ≤ i
    cases hb : Nat.beq (n % 256) c with
    | true =>
      simp only [cond_true, if_true]
      refine ⟨by simp, fun i h => by injection h with h; omega⟩
    | false =>
      simp only [cond_false, Bool.false_eq_true, if_false]
      obtain ⟨h1, h2⟩ := find_spec c hc k (Nat.shiftRight n 8) (Nat.succ j)
      refine ⟨?_, fun i h => by have := h2 i h; omega⟩
      rw [← h1]
      cases hf : iD k (Nat.shiftRight n 8) c (Nat.succ j) with
      | none => rfl
      | some i =>
        have := h2 i hf
        simp only []
        have hne : (((i - Nat.succ j : Nat) : Int) == -1) = false := by
          rw [beq_eq_false_iff_ne]; omega
        rw [hne]
        simp only [Bool.false_eq_true, if_false]
        omega
section
variable {C : Cx} {tb : Tab} {fn : Func} {ρ : aY}
theorem inv3 {l : List AV} {S S' : St} {v : AV} (h : ext tb 3 l S = some (v, S')) : ∃ x y, l = [x, y] ∧ x3 x y S = some (v, S') := by
  match l, h with
  | [x, y], h => exact ⟨x, y, rfl, h⟩
  | [], h => simp only [ext] at h; exact (aU h).elim
  | [_], h => simp only [ext] at h; exact (aU h).elim
  | _ :: _ :: _ :: _, h => simp only [ext] at h; exact (aU h).elim
theorem byQ_inv {f : Nat → AV} {y : AV} {S S' : St} {v : AV} (h : kD f y S = some (v, S')) : ∃ c, y = .i .u8 (.ofNat c) ∧ c < 256 ∧ v = f c ∧ S' = S := by
  unfold kD at h
  split at h
  · obtain ⟨hc, h2⟩ := bJ h
    obtain ⟨rfl, rfl⟩ := aW h2
    exact ⟨_, rfl, Nat.le_of_ble_eq_true hc, rfl, rfl⟩
  · exact (aU h).elim
theorem ext3_ok (h1 : (Extern.findNext fn).isNone = true) (h2 : Extern.find fn = some BytealgIndexByte.indexByte) : cZ C tb 3 fn := by
  refine ⟨fB h1, _, h2, fun B l S v S' ρ w args h hF aX hl hfree => ?_⟩
  obtain ⟨x, y, rfl, h0⟩ := inv3 h
  clear h
  obtain ⟨x', y', rfl, hx, hy⟩ := qp hl
  unfold x3 at h0
  split at h0
  · rename_i k n
    obtain ⟨c, rfl, hc, rfl, rfl⟩ := byQ_inv h0
    simp only [Rel] at hx hy
    obtain ⟨rfl, hn⟩ := hx
    subst hy
    refine ⟨ρ, _, w, Lib.run_indexByteString _ _ w, ?_, hF, Ext.refl _ _ _, Below.refl _ _⟩
    have := (find_spec c hc k n 0).1
    show Rel C ρ (Eb (iD k n c 0)) (.int .i64 (Lib.indexByte (bZ k n) (UInt8.ofNat c)))
    rw [← this]
    cases iD k n c 0 <;> simp [Eb, Rel]
  · exact (aU h0).elim
end
end Go.AX
end
section
namespace Go.AX
/- old blocks of which the first cells are known -/
def qL (C : Cx) (w : World) (g e : Nat) (l : List AV) : Prop :=
  ∃ arr fz, w.heap[g]? = some (.cells arr e fz) ∧ arr.size = l.length ∧ ∀ (j : Nat) (a : AV), l[j]? = some a → ∃ x, arr[j]? = some x ∧ Rel C (fun _ => none) a x ∧ x.oneCell' = true
def vH (l : List AV) (c : Cells) : Prop := CW c ∧ c.toL = l
theorem aX3 {C : Cx} {tb : Tab} (h : ar C tb) {f g : Nat} {fi : FI} {l : List AV} {v : AV} {S' : St} {args : List Value} {H : T aR} (hfi : tb.fn.get g = some fi) (hb : fi.body.isSome = true)
    (hc : call tb f g l ⟨H, tb.ng, 0, 0⟩ = some (v, S')) (hl : aF C (fun _ => none) l args) (w : World) (hi : C.inv w) (hsz : C.bU ≤ w.heap.size)
    (hH : ∀ v k, H.get v = some k → v < tb.ng ∧ ∃ e c m, k = ou e c ∧ vH m c ∧ qL C w v e m) :
    Calls C.P g ⟨args⟩ w fun e w' => ∃ x ρ, e = .returned x ∧ Rel C ρ v x ∧ Below (Fz.lt w.heap.size) w w' := by
  have hF : Fits C tb.ng (Fz.lt w.heap.size) (mC tb.ng) H w := by
    refine ⟨fun k hk => hk, fun g hg => by simp [mC, hg], fun v k hv => ?_, fun v v' k k' r r' hv hv' h1 h2 h3 => ?_, fun k hk => Nat.lt_of_lt_of_le hk hsz, hi⟩
    · obtain ⟨hlt, e, c, m, rfl, ⟨hcw, hcm⟩, arr, fz, h1, h2, h3⟩ := hH v k hv
      refine ⟨⟨v, 0, 0, 0⟩, by simp [mC, hlt], _, h1, rfl, ?_⟩
      have hcl : c.len = m.length := by rw [Cells.len_eq, hcm]
      refine ⟨⟨hcw, fun j a hj => ?_⟩, fun h => (by cases h), fun x hx1 hx2 hx3 => ?_, fun h => (by cases h), fun _ => ⟨Nat.le_refl _, rfl, rfl⟩, ?_, fun _ => rfl⟩
      · have hj : c.toL[j]? = some a := hj
        rw [hcm] at hj
        obtain ⟨x, hx, hr, ho⟩ := h3 j a hj
        exact ⟨x, by simpa using hx, hr.wJ, ho⟩
      · have hx1 : 0 + c.len ≤ x := hx1
        omega
      · show 0 + c.len ≤ arr.size; omega
    · obtain ⟨l1, _⟩ := hH v k hv
      obtain ⟨l2, _⟩ := hH v' k' hv'
      simp only [mC, if_pos l1, if_pos l2, Option.some.injEq] at h1 h2
      subst h1; subst h2; exact .inl h3
  have hfree : Free (mC tb.ng) tb.ng S'.next := fun v h1 h2 => by simp only [mC]; rw [if_neg (by omega)]
  obtain ⟨fn, hfn⟩ := h.fn g fi hfi
  have hu := Ih (B := Fz.lt w.heap.size) h f g l ⟨H, tb.ng, 0, 0⟩ v S' (mC tb.ng) w args ⟨some 0, .move (.const undef), 0, "", #[], none⟩ ⟨#[undef], []⟩
    (fun a' w' => ∃ ρ, Rel C ρ v (a'.tmps.getD 0 undef) ∧ Below (Fz.lt w.heap.size) w w') (fun _ _ _ => False) Fence.wide 0 vP hc hF (Nat.le_refl _) (aF.mono (fun v r hv => by cases hv) _ _ hl) hfree
    (fun ρ' x w' r1 r2 r3 r4 => ⟨ρ', by simpa [Act.put] using r1, r4⟩)
  rw [kC hfn.at_ hfn.name (by rw [hfn.body]; exact hb), Oper.uponIn_enter] at hu
  refine Calls.mono (callsIn_wide.1 hu.2) fun e w' he => ?_
  cases e with
  | returned x =>
    obtain ⟨ρ, h1, h2⟩ := he
    exact ⟨x, ρ, rfl, by simpa [Act.put] using h1, h2⟩
  | panicked c => exact he.elim
  | outgrown => obtain ⟨_, _, h⟩ := he; exact h.elim
end Go.AX
namespace Go.AX
def vI (w : World) (g : Nat) (k : IntKind) (zs : List Int) : Prop :=
  ∃ ty arr fz, w.heap[g]? = some (.cells arr ty fz) ∧ arr.size = zs.length ∧ ∀ (j : Nat) (z : Int), zs[j]? = some z → arr[j]? = some (.int k z)
theorem vI.size {w : World} {g : Nat} {k : IntKind} {zs : List Int} (h : vI w g k zs) : g < w.heap.size := by
  obtain ⟨ty, arr, fz, hw, _⟩ := h
  rcases Nat.lt_or_ge g w.heap.size with h | h
  · exact h
  · rw [Array.getElem?_eq_none h] at hw; cases hw
theorem vI.same {w w' : World} {g : Nat} {k : IntKind} {zs : List Int} (h : vI w g k zs) (e : w'.heap[g]? = w.heap[g]?) : vI w' g k zs := by
  obtain ⟨ty, arr, fz, hw, hr⟩ := h
  exact ⟨ty, arr, fz, by rw [e]; exact hw, hr⟩
end Go.AX
end
section
namespace Go.AX
noncomputable section
def bc (l : List (Nat × AV)) (nt : Nat) : Env := ⟨hJ l .leaf, nt⟩
def bf (ep : List (Nat × AV)) (keep : List Nat) : List (Nat × AV) := keep.foldl (fun l t => (t, .x (Nat.add 1000000 t)) :: l) ep
theorem aI2 (keep : List Nat) : ∀ (ep : List (Nat × AV)) s x, (s, x) ∈ bf ep keep → (s, x) ∈ ep ∨ (s ∈ keep ∧ x = .x (1000000 + s)) := by
  induction keep with
  | nil => intro ep s x h; exact .inl h
  | cons t r ih =>
    intro ep s x h
    rcases ih _ s x h with h1 | h1
    · rcases List.mem_cons.1 h1 with e | h2
      · injection e with e1 e2; subst e1; exact .inr ⟨List.mem_cons_self .., e2⟩
      · exact .inl h2
    · exact .inr ⟨List.mem_cons_of_mem _ h1.1, h1.2⟩
def Cp (E : Env) (s : Nat) (y : AV) : Bool := match E.tm.get s with
  | some a => eT 8 a y && eV 8 y
  | none => false
def qX (E : Env) : List (Nat × AV) → Bool
  | [] => true
  | p :: r => Cp E p.1 p.2 && qX E r
def jh (E : Env) : List Nat → Bool
  | [] => true
  | t :: r => Cp E t (.x (Nat.add 1000000 t)) && jh E r
theorem aE9 {E : Env} : ∀ {l : List Nat}, jh E l = true → ∀ t, t ∈ l → E.tm.get t = some (.x (1000000 + t))
  | [], _, t, h => by cases h
  | u :: r, h, t, hm => by
    simp only [jh, Cp, Bool.and_eq_true] at h
    rcases List.mem_cons.1 hm with e | hm
    · subst e
      have h1 := h.1
      cases hg : E.tm.get t with
      | none => rw [hg] at h1; cases h1
      | some a => rw [hg] at h1; simp only [Bool.and_eq_true] at h1; rw [gC 8 a _ h1.1]; rfl
    · exact aE9 h.2 t hm
structure Round (C : Cx) (body : Code) (l : LF) (ep : List (Nat × AV)) {α : Type} (I : α → Prop) (μ : α → Nat) (D : α → (Nat → Value) → Cx) (x : α) (X : Nat → Value) : Prop where
  run : ∃ (tb : Tab) (L : List LF) (f : Nat) (ex : Ex) (E1 : Env) (S1 : St), ar (D x X) tb ∧ bA (D x X) L body ∧ code tb f L body (bc (bf ep l.keep) l.nt) ⟨.leaf, tb.ng, 0, 0⟩ = some ((ex, E1), S1) ∧ jh E1 l.keep = true ∧ E1.nt = l.nt ∧
    ((ex = .normal ∧ ∃ (y : α) (q : List (Nat × AV)), I y ∧ μ y < μ x ∧ qX E1 q = true ∧ ∀ s a, (s, a) ∈ ep → ∃ b, (s, b) ∈ q ∧ ∀ v, Rel (D x X) (fun _ => none) b v → Rel (D y X) (fun _ => none) a v) ∨
     (ex ≠ .normal ∧ ex = l.ex ∧ ∃ q : List (Nat × AV), qX E1 q = true ∧ ∀ s a, (s, a) ∈ l.post → ∃ b, (s, b) ∈ q ∧ ∀ v, Rel (D x X) (fun _ => none) b v → Rel C (fun _ => none) a v))
end
end Go.AX
end
section

namespace Go.AX
noncomputable def dE (p : Nat → Bool) (lo n : Nat) : Bool := Nat.rec (motive := fun _ => Bool) true (fun j ih => Bool.rec (motive := fun _ => Bool) false ih (p (Nat.add lo j))) n
theorem dO {p : Nat → Bool} {lo : Nat} : ∀ {n : Nat}, dE p lo n = true → ∀ i, lo ≤ i → i < lo + n → p i = true
  | 0, _, i, h1, h2 => by omega
  | n + 1, h, i, h1, h2 => by
    have h : Bool.rec (motive := fun _ => Bool) false (dE p lo n) (p (Nat.add lo n)) = true := h
    cases hp : p (Nat.add lo n) with
    | false => rw [hp] at h; cases h
    | true =>
      rw [hp] at h
      have h : dE p lo n = true := h
      by_cases e : i = lo + n
      · subst e; exact hp
      · exact dO h i h1 (by omega)
section
variable {C : Cx}
end
end Go.AX
end
section
namespace Go.AX
abbrev St' (l : List UInt8) : Value := .string ⟨l.toArray⟩
def bt (l : List UInt8) (i : Nat) : Int := ((l.getD i 0).toNat : Int)
theorem bF (l : List UInt8) (i : Nat) : 0 ≤ bt l i := by unfold bt; omega
theorem bG (l : List UInt8) (i : Nat) : bt l i ≤ 255 := by unfold bt; have := (l.getD i 0).toNat_lt; omega
def Is (C : Cx) (a : AV) (v : Value) : Prop := ∀ ρ x, Rel C ρ a x → x = v
def Den (C : Cx) (a : AV) (v : Value) : Prop := ∀ ρ, Rel C ρ a v
section
variable {C : Cx}
theorem aA {i : Nat} {v : Value} (h : C.nu i = v) : Is C (.x i) v := fun ρ x hx => by simp only [Rel] at hx; rw [hx, h]
theorem bP (k : IntKind) (n : Int) : Is C (.i k n) (.int k n) := fun ρ x hx => by simpa only [Rel] using hx
theorem isS (len n : Nat) : Is C (.s len n) (St' (bZ len n)) := fun ρ x hx => by simp only [Rel] at hx; exact hx.1
theorem aE {i : Nat} {v : Value} (h : C.nu i = v) : Den C (.x i) v := fun ρ => by simp only [Rel]; exact h.symm
theorem uL (b : Bool) : Den C (.b b) (.bool b) := fun ρ => by simp only [Rel]
theorem fI64 {n : Int} (h1 : -9223372036854775808 ≤ n) (h2 : n ≤ 9223372036854775807) : fits .i64 n = true := by
  cases n with
  | ofNat a => exact Nat.ble_eq_true_of_le (by have : Int.ofNat a = (a : Int) := rfl; omega)
  | negSucc a => exact Nat.ble_eq_true_of_le (by omega)
theorem fU {k : IntKind} {n : Int} (h0 : 0 ≤ n) (hk : ∀ a : Nat, (a : Int) = n → fits k (.ofNat a) = true) : fits k n = true := by
  obtain ⟨a, rfl⟩ := Int.eq_ofNat_of_zero_le h0
  exact hk a rfl
theorem fU8 {n : Int} (h0 : 0 ≤ n) (h : n ≤ 255) : fits .u8 n = true := fU h0 fun a e => Nat.ble_eq_true_of_le (by omega)
variable {x y r : AV} {k : IntKind} {a b c : Int}
theorem Hh {o : BinOp} {v : Value} (hx : Is C x (.int k a)) (hy : Is C y (.int k b)) (hr : Den C r v) (hrun : ∀ t w, (binOp o t (.int k a) (.int k b)).run C.P w = .ok v w) : aL C (.bin o x y) r := by
  intro ρ vx vy h1 h2
  have e1 := hx ρ vx h1; have e2 := hy ρ vy h2; subst e1; subst e2
  exact ⟨.inl ⟨k, a, b, rfl, rfl⟩, v, hr ρ, hrun⟩
theorem kAdd (hx : Is C x (.int k a)) (hy : Is C y (.int k b)) (hr : Den C r (.int k c)) (hc : a + b = c) (hf : fits k c = true) : aL C (.bin .add x y) r :=
  Hh hx hy hr fun t w => by subst hc; simp [binOp, Op.intArith, Hm k _ hf]
theorem kSub (hx : Is C x (.int k a)) (hy : Is C y (.int k b)) (hr : Den C r (.int k c)) (hc : a - b = c) (hf : fits k c = true) : aL C (.bin .sub x y) r :=
  Hh hx hy hr fun t w => by subst hc; simp [binOp, Op.intArith, Hm k _ hf]
theorem oV {o : BinOp} {q : Bool} (hx : Is C x (.int k a)) (hy : Is C y (.int k b)) (h : (o = .lss ∧ q = decide (a < b)) ∨ (o = .leq ∧ q = decide (a ≤ b)) ∨ (o = .gtr ∧ q = decide (b < a)) ∨ (o = .geq ∧ q = decide (b ≤ a)) ∨ (o = .eql ∧ q = decide (a = b)) ∨ (o = .neq ∧ q = !decide (a = b))) : aL C (.bin o x y) (.b q) :=
  Hh hx hy (uL q) fun t w => by
    rcases h with ⟨rfl, rfl⟩ | ⟨rfl, rfl⟩ | ⟨rfl, rfl⟩ | ⟨rfl, rfl⟩ | ⟨rfl, rfl⟩ | ⟨rfl, rfl⟩ <;> simp [binOp, Op.intCmp] <;> rfl
theorem kLt {q : Bool} (hx : Is C x (.int k a)) (hy : Is C y (.int k b)) (h : decide (a < b) = q) : aL C (.bin .lss x y) (.b q) := oV hx hy (.inl ⟨rfl, h.symm⟩)
theorem kLe {q : Bool} (hx : Is C x (.int k a)) (hy : Is C y (.int k b)) (h : decide (a ≤ b) = q) : aL C (.bin .leq x y) (.b q) := oV hx hy (.inr (.inl ⟨rfl, h.symm⟩))
theorem kGt {q : Bool} (hx : Is C x (.int k a)) (hy : Is C y (.int k b)) (h : decide (b < a) = q) : aL C (.bin .gtr x y) (.b q) := oV hx hy (.inr (.inr (.inl ⟨rfl, h.symm⟩)))
theorem kGe {q : Bool} (hx : Is C x (.int k a)) (hy : Is C y (.int k b)) (h : decide (b ≤ a) = q) : aL C (.bin .geq x y) (.b q) := oV hx hy (.inr (.inr (.inr (.inl ⟨rfl, h.symm⟩))))
theorem yq {q : Bool} (hx : Is C x (.int k a)) (hy : Is C y (.int k b)) (h : decide (a = b) = q) : aL C (.bin .eql x y) (.b q) := oV hx hy (.inr (.inr (.inr (.inr (.inl ⟨rfl, h.symm⟩)))))
theorem oU {q : Bool} (hx : Is C x (.int k a)) (hy : Is C y (.int k b)) (h : (!decide (a = b)) = q) : aL C (.bin .neq x y) (.b q) := oV hx hy (.inr (.inr (.inr (.inr (.inr ⟨rfl, h.symm⟩)))))
/- strings -/
variable {l m n : List UInt8}
theorem Hf {o : BinOp} {v : Value} (hx : Is C x (St' l)) (hy : Is C y (St' m)) (hr : Den C r v) (hrun : ∀ t w, (binOp o t (St' l) (St' m)).run C.P w = .ok v w) : aL C (.bin o x y) r := by
  intro ρ vx vy h1 h2
  have e1 := hx ρ vx h1; have e2 := hy ρ vy h2; subst e1; subst e2
  exact ⟨.inr (.inl ⟨_, _, rfl, rfl⟩), v, hr ρ, hrun⟩
theorem hR (hx : Is C x (St' l)) (hy : Is C y (St' m)) (hr : Den C r (St' n)) (hc : l ++ m = n) (hsz : l.length + m.length ≤ 9223372036854775807) : aL C (.bin .add x y) r :=
  Hf hx hy hr fun t w => by
    subst hc
    have h1 : (⟨l.toArray⟩ : ByteArray).size = l.length := by simp [ByteArray.size]
    have h2 : (⟨m.toArray⟩ : ByteArray).size = m.length := by simp [ByteArray.size]
    have e : (⟨l.toArray⟩ : ByteArray) ++ ⟨m.toArray⟩ = ⟨(l ++ m).toArray⟩ := by
      apply ByteArray.ext
      simp
    simp only [binOp, Op.stringOp, h1, h2]
    rw [if_neg (by simp [IntKind.max, IntKind.signed, IntKind.bits]; omega)]
    simp [e]
theorem toL_eq (l : List UInt8) : (⟨l.toArray⟩ : ByteArray).toList = l := by rw [ByteArray.toList_eq]
theorem EJ (l m : List UInt8) : (l == m) = decide (l = m) := by rw [Bool.eq_iff_iff]; simp
theorem cH {q : Bool} (hx : Is C x (St' l)) (hy : Is C y (St' m)) (h : decide (l = m) = q) : aL C (.bin .eql x y) (.b q) :=
  Hf hx hy (uL q) fun t w => by
    subst h
    simp only [binOp, Op.stringOp, toL_eq]
    simp only [Sem.run_pure, EJ]
theorem ck {q : Bool} (hx : Is C x (St' l)) (hy : Is C y (St' m)) (h : (!decide (l = m)) = q) : aL C (.bin .neq x y) (.b q) :=
  Hf hx hy (uL q) fun t w => by
    subst h
    simp only [binOp, Op.stringOp, toL_eq]
    simp only [Sem.run_pure, EJ]
theorem kLen (hx : Is C x (St' l)) (hr : Den C r (.int .i64 (l.length : Int))) : aL C (.len x) r := by
  intro ρ vx h1
  have e1 := hx ρ vx h1; subst e1
  exact ⟨_, hr ρ, _, rfl, by simp [ByteArray.size]⟩
theorem kIdx {i : Nat} (hx : Is C x (St' l)) (hy : Is C y (.int k b)) (hr : Den C r (.int .u8 (bt l i))) (hb : b = (i : Int)) (hi : i < l.length) : aL C (.idx x y) r := by
  intro ρ vx vy h1 h2
  have e1 := hx ρ vx h1; have e2 := hy ρ vy h2; subst e1; subst e2; subst hb
  refine ⟨_, hr ρ, fun t w hu => ?_⟩
  have hsz : (⟨l.toArray⟩ : ByteArray).size = l.length := by simp [ByteArray.size]
  have hg : (⟨l.toArray⟩ : ByteArray).data[i]? = some (l.getD i 0) := by
    simp [List.getElem?_eq_getElem hi, List.getD_eq_getElem?_getD]
  have h0 : (0 : Int) ≤ i ∧ (i : Int) < l.length := by omega
  simp [Instr.index, asIntOf, run_underlying hu, hsz, h0, hi]
  unfold bt
  have e : (⟨l.toArray⟩ : ByteArray)[i]'(by simpa [ByteArray.size] using hi) = l.getD i 0 := by
    rw [ByteArray.getElem_eq_getElem_data]
    simp [List.getD_eq_getElem?_getD, List.getElem?_eq_getElem hi]
  simp [e]
theorem kSub' {lo hi : Option AV} {p q : Nat} (hx : Is C x (St' l)) (hlo : (lo = none ∧ p = 0) ∨ ∃ e k, lo = some e ∧ Is C e (.int k (p : Int))) (hhi : (hi = none ∧ q = l.length) ∨ ∃ e k, hi = some e ∧ Is C e (.int k (q : Int)))
    (h1 : p ≤ q) (h2 : q ≤ l.length) (hr : Den C r (St' n)) (hc : (l.drop p).take (q - p) = n) : aL C (.sub x lo hi) r := by
  intro ρ vx h3
  have e1 := hx ρ vx h3; subst e1
  refine ⟨_, hr ρ, fun vl vh hl hh t w hu => ?_⟩
  have hsz : (⟨l.toArray⟩ : ByteArray).size = l.length := by simp [ByteArray.size]
  have bl : (vl = none ∧ p = 0) ∨ ∃ k, vl = some (.int k (p : Int)) := by
    rcases hlo with ⟨rfl, e⟩ | ⟨e, k, rfl, he⟩
    · exact .inl ⟨hl, e⟩
    · obtain ⟨y, rfl, hy⟩ := hl; exact .inr ⟨k, by rw [he ρ y hy]⟩
  have bh : (vh = none ∧ q = l.length) ∨ ∃ k, vh = some (.int k (q : Int)) := by
    rcases hhi with ⟨rfl, e⟩ | ⟨e, k, rfl, he⟩
    · exact .inl ⟨hh, e⟩
    · obtain ⟨y, rfl, hy⟩ := hh; exact .inr ⟨k, by rw [he ρ y hy]⟩
  have he : (⟨l.toArray⟩ : ByteArray).extract p q = ⟨n.toArray⟩ := by
    subst hc
    apply ByteArray.ext
    simp [ByteArray.data_extract, List.extract_eq_take_drop]
  simp [Instr.slice, run_underlying hu, hsz, gb bl bh h1 h2, he]
/- a row of bytes made a string -/
theorem kBytes {vs : List AV} (bs : List UInt8) (h : ∀ ρ xs, aF C ρ vs xs → xs = bs.map fun b => .int .u8 (b.toNat : Int)) (hr : Den C r (St' bs)) : aL C (.bytes vs) r := fun ρ xs hx => ⟨bs, _, h ρ xs hx, rfl, hr ρ⟩
theorem ij {t : Nat} {q : Bool} (hx : Is C x (St' l)) (hy : Is C y (St' m)) (ht : C.P.underlying t = some .string) (h : decide (l = m) = q) : aL C (.eq t x y) (.b q) := by
  refine ⟨q, rfl, fun ρ vx vy h1 h2 D w hD => ?_⟩
  have e1 := hx ρ vx h1; have e2 := hy ρ vy h2; subst e1; subst e2; subst h
  obtain ⟨d, rfl⟩ : ∃ d, D = d + 1 := ⟨D - 1, by omega⟩
  rw [run_equalIn_string w d t _ _ ht, toL_eq, toL_eq, EJ]
end
end Go.AX
end
section
namespace Go.AX
def u8 (n : Int) : UInt8 := UInt8.ofNat n.toNat
theorem l7 {n : Int} (h0 : 0 ≤ n) (h : n ≤ 255) : ((u8 n).toNat : Int) = n := by
  unfold u8
  rw [UInt8.toNat_ofNat']
  have : n.toNat % 2 ^ 8 = n.toNat := Nat.mod_eq_of_lt (by omega)
  omega
theorem jP (l : List UInt8) (i : Nat) : u8 (bt l i) = l.getD i 0 := by
  unfold u8 bt
  simp
section
variable {C : Cx} {x y r : AV} {k : IntKind} {a b c : Int} {l m n : List UInt8}
theorem kLenE (hx : Is C x (St' l)) (hr : Den C r (.int .i64 c)) (hc : (l.length : Int) = c) : aL C (.len x) r := by subst hc; exact kLen hx hr
theorem kIdxE {i : Nat} (hx : Is C x (St' l)) (hy : Is C y (.int k b)) (hr : Den C r (.int .u8 c)) (hb : b = (i : Int)) (hi : i < l.length) (hc : bt l i = c) : aL C (.idx x y) r := by subst hc; exact kIdx hx hy hr hb hi
inductive BY (C : Cx) : List AV → List UInt8 → Prop
  | nil : BY C [] []
  | cons {a : AV} {b : UInt8} {vs : List AV} {bs : List UInt8} : Is C a (.int .u8 (b.toNat : Int)) → BY C vs bs → BY C (a :: vs) (b :: bs)
theorem BY.rel {vs : List AV} {bs : List UInt8} (h : BY C vs bs) : ∀ ρ xs, aF C ρ vs xs → xs = bs.map fun b => .int .u8 (b.toNat : Int) := by
  induction h with
  | nil => intro ρ xs hx; simp only [aF] at hx; rw [hx]; rfl
  | cons h1 _ ih =>
    intro ρ xs hx
    simp only [aF] at hx
    obtain ⟨v, vt, rfl, g1, g2⟩ := hx
    rw [h1 ρ v g1, ih ρ vt g2]; rfl
theorem kBytesB {vs : List AV} {bs : List UInt8} (h : BY C vs bs) (hr : Den C r (St' bs)) : aL C (.bytes vs) r := kBytes bs h.rel hr
theorem neT {a b : Int} (h : ¬ a = b) : (!decide (a = b)) = true := by simp [h]
theorem neF {a b : Int} (h : a = b) : (!decide (a = b)) = false := by simp [h]
theorem gd {b : Bool} (h : b = false) : (!b) = true := by rw [h]; rfl
theorem ev {b : Bool} (h : b = true) : (!b) = false := by rw [h]; rfl
theorem dr {k : IntKind} {n m : Int} (h : n = m) : Is C (.i k n) (.int k m) := h ▸ bP k n
theorem bQ (len n : Nat) {l : List UInt8} (h : bZ len n = l) : Is C (.s len n) (St' l) := h ▸ isS len n
theorem gG {l : List UInt8} (h : (l.length : Int) = 0) : decide (l = []) = true := decide_eq_true (List.eq_nil_of_length_eq_zero (by omega))
theorem iQ {l : List UInt8} (h : ¬ (l.length : Int) = 0) : decide (l = []) = false := decide_eq_false fun e => h (by rw [e]; rfl)
def okB (o : Option (AV × St)) : Bool := match o with
  | some (.b true, _) => true
  | _ => false
theorem aY9 {o : Option (AV × St)} (h : okB o = true) : ∃ S, o = some (.b true, S) := by
  unfold okB at h
  split at h
  · exact ⟨_, rfl⟩
  · cases h
theorem hcons {h : List (HK × AV)} {k : HK} {r : AV} (h1 : aL C k r) (h2 : ∀ k r, (k, r) ∈ h → aL C k r) : ∀ k' r', (k', r') ∈ (k, r) :: h → aL C k' r' := fun k' r' hm => by
  rcases List.mem_cons.1 hm with e | e
  · injection e with e1 e2; subst e1; subst e2; exact h1
  · exact h2 k' r' e
theorem hnil : ∀ k r, (k, r) ∈ ([] : List (HK × AV)) → aL C k r := fun k r h => by cases h
end
def ai (l : List Value) (i : Nat) : Value := l.getD i (.bool true)
theorem aQ {l : List Value} (h : l.all (fun v => v.oneCell') = true) : ∀ i, (ai l i).oneCell' = true := fun i => by
  unfold ai
  rw [List.getD_eq_getElem?_getD]
  cases hl : l[i]? with
  | none => rfl
  | some v => exact List.all_eq_true.1 h v (List.mem_of_getElem? hl)
end Go.AX
end
section
namespace Go.AX
section
variable {C : Cx} {x y z r : AV} {k : IntKind} {a b c d : Int} {l m n : List UInt8}
theorem ik {i : Nat} (hx : Is C x (St' l)) (hy : Is C y (.int k b)) (hr : Den C r (.int .u8 c)) (hb : b = (i : Int)) (hi : i < l.length) (hc : bt l i = c) : aL C (.di x y) r := by
  intro ρ vx vi h1 h2
  have e1 := hx ρ vx h1; have e2 := hy ρ vi h2; subst e1; subst e2; subst hb; subst hc
  refine ⟨l, k, i, l[i], rfl, rfl, List.getElem?_eq_getElem hi, ?_⟩
  have e : l.getD i 0 = l[i] := by simp [List.getD_eq_getElem?_getD, List.getElem?_eq_getElem hi]
  have := hr ρ
  unfold bt at this
  rw [e] at this
  exact this
theorem kSet {i : Nat} (hx : Is C x (St' l)) (hy : Is C y (.int k b)) (hz : Is C z (.int .u8 d)) (hr : Den C r (St' n)) (hb : b = (i : Int)) (hi : i < l.length) (h0 : 0 ≤ d) (h1 : d ≤ 255) (hc : l.set i (u8 d) = n) : aL C (.set x y z) r := by
  intro ρ vx vi vy g1 g2 g3
  have e1 := hx ρ vx g1; have e2 := hy ρ vi g2; have e3 := hz ρ vy g3; subst e1; subst e2; subst e3; subst hb; subst hc
  exact ⟨l, k, i, u8 d, rfl, rfl, hi, by rw [l7 h0 h1], hr ρ⟩
theorem mc (hx : Is C x (St' l)) (h : (l.length : Int) ≤ 140737488355328) : aL C (.fit x) r := by
  intro ρ vx g1
  have e1 := hx ρ vx g1; subst e1
  exact ⟨l, rfl, by omega⟩
theorem sT {lo hi : Option AV} {P Q : Int} (hx : Is C x (St' l)) (hlo : (lo = none ∧ P = 0) ∨ ∃ e k, lo = some e ∧ Is C e (.int k P)) (hhi : (hi = none ∧ Q = (l.length : Int)) ∨ ∃ e k, hi = some e ∧ Is C e (.int k Q))
    (h0 : 0 ≤ P) (h1 : P ≤ Q) (h2 : Q ≤ (l.length : Int)) (hr : Den C r (St' ((l.drop P.toNat).take (Q - P).toNat))) : aL C (.sub x lo hi) r := by
  have hp : P = (P.toNat : Int) := by omega
  have hq : Q = (Q.toNat : Int) := by omega
  refine kSub' (p := P.toNat) (q := Q.toNat) hx ?_ ?_ (by omega) (by omega) hr (by congr 1; omega)
  · rcases hlo with ⟨g1, g2⟩ | ⟨e, k, g1, g2⟩
    · exact .inl ⟨g1, by omega⟩
    · exact .inr ⟨e, k, g1, by rw [← hp]; exact g2⟩
  · rcases hhi with ⟨g1, g2⟩ | ⟨e, k, g1, g2⟩
    · exact .inl ⟨g1, by omega⟩
    · exact .inr ⟨e, k, g1, by rw [← hq]; exact g2⟩
end
end Go.AX
end
section
namespace Go.AX
section
variable {C : Cx} {x y r : AV} {l : List UInt8} {a c m n : Int}
def aD (l : List UInt8) (c : Int) : Int := Lib.indexByte l (u8 c)
theorem gO {g : Nat} {fn : Func} (hg : C.P.funcs[g]? = some fn) (h1 : (Extern.findNext fn).isNone = true) (h2 : Extern.find fn = some Extern.BytealgIndexByte.indexByte) (hx : Is C x (St' l)) (hy : Is C y (.int .u8 c)) (hr : Den C r (.int .i64 n)) (hc : aD l c = n) : aL C (.ext g [x, y]) r := by
  intro ρ args ha fn' hf
  rw [hg] at hf; injection hf with hf; subst hf
  obtain ⟨x', y', rfl, hx', hy'⟩ := qp ha
  have e1 := hx ρ x' hx'; have e2 := hy ρ y' hy'; subst e1; subst e2
  exact ⟨_, fB h1, h2, fun w => ⟨_, Lib.run_indexByteString _ _ w, by rw [← hc] at hr; exact hr ρ⟩⟩
end
end Go.AX
end
section
namespace Go.AX
section
variable {C : Cx} {x y r : AV} {l : List UInt8}
end
abbrev i6 (n : Nat) : AV := .i .i64 (.ofNat n)
abbrev u1 (n : Nat) : AV := .i .u8 (.ofNat n)
end Go.AX
end
section
namespace Go.AX
def okA (o : Option (AV × St)) (a : AV) : Bool := match o with
  | some (b, _) => eT 8 b a
  | _ => false
theorem okA_inv {o : Option (AV × St)} {a : AV} (h : okA o a = true) : ∃ S, o = some (a, S) := by
  unfold okA at h
  split at h
  · rename_i b S
    exact ⟨S, by rw [gC 8 b a h]⟩
  · cases h
section
variable {C : Cx}
theorem lV {a b : AV} {u v : Value} (h1 : Den C a u) (h2 : Den C b v) : Den C (.tu [a, b]) (.tuple #[u, v]) := fun ρ => by
  simp only [Rel, aF]
  exact ⟨[u, v], rfl, u, [v], rfl, h1 ρ, v, [], rfl, h2 ρ, rfl⟩
end
end Go.AX
namespace Go.AX
end Go.AX
namespace Go.AX
end Go.AX
namespace Go.AX
section
variable {C : Cx} {x r : AV}
end
end Go.AX
namespace Go.AX
section
variable {C : Cx} {x y r : AV} {l p q : List UInt8} {k : IntKind} {b c : Int}
end
end Go.AX
namespace Go.AX
section
variable {C : Cx} {x y : AV} {l p q : List UInt8} {k : IntKind} {b : Int}
end
theorem hc {C : Cx} {k : HK} {r : AV} {l : List (HK × AV)} (h : aL C k r) (ht : ∀ k r, (k, r) ∈ l → aL C k r) : ∀ k' r', (k', r') ∈ (k, r) :: l → aL C k' r' := hcons h ht
end Go.AX
end
section
namespace Go.AX
noncomputable section
def bI (tb : Tab) (g : Nat) (fi : FI) (L : List LF) : Tab := { tb with fn := tb.fn.set g { fi with lps := L } }
theorem ar.lps {C : Cx} {tb : Tab} (h : ar C tb) {g : Nat} {fi : FI} {L : List LF} (hg : g ≤ 16777213) (hfi : tb.fn.get g = some fi) (hL : ∀ c, fi.body = some c → bA C L c) (hcf : ∀ l, l ∈ L → ir l = true → ey C g l) : ar C (bI tb g fi L) where
  tab := ⟨⟨h.tab.ty⟩, ⟨h.tab.hyp⟩, h.tab.imp, h.tab.ngl⟩
  met := h.met
  mix := h.mix
  fn := fun g' fi' h' => by
    have h'' : (tb.fn.set g { fi with lps := L }).get g' = some fi' := h'
    rw [ct _ _ _ _ hg] at h''
    split at h''
    · rename_i e; subst e
      injection h'' with h''; subst h''
      obtain ⟨fn, hfn⟩ := h.fn _ _ hfi
      exact ⟨fn, hfn.at_, hfn.name, hfn.body, hfn.nt, hfn.res, hfn.reg, hfn.sum, hL, hcf, hfn.ext⟩
    · obtain ⟨fn, hfn⟩ := h.fn _ _ h''
      exact ⟨fn, hfn.at_, hfn.name, hfn.body, hfn.nt, hfn.res, hfn.reg, hfn.sum, hfn.lps, hfn.cfs, hfn.ext⟩
def br : Code → List Code
  | .seq a b => br a ++ br b
  | .cond _ a b => br a ++ br b
  | .block _ b => br b
  | .loop b => b :: br b
  | _ => []
def eU : Code → List (List Nat × Code × Code)
  | .rangeFunc _ ps a b => [(ps.toList, a, b)]
  | .seq a b => eU a ++ eU b
  | .cond _ a b => eU a ++ eU b
  | .block _ b => eU b
  | .loop b => eU b
  | _ => []
theorem mE : ∀ c : Code, fQ c = (eU c)[0]?
  | .seq a b => by
    unfold fQ eU
    rw [mE a, mE b]
    cases h : eU a <;> simp
  | .cond _ a b => by
    unfold fQ eU
    rw [mE a, mE b]
    cases h : eU a <;> simp
  | .block _ b => by unfold fQ eU; exact mE b
  | .loop b => by unfold fQ eU; exact mE b
  | .rangeFunc .. => rfl
  | .skip => rfl
  | .region .. => rfl
  | .exit _ => rfl
  | .scope _ => rfl
  | .label _ => rfl
  | .goto _ => rfl
  | .ret => rfl
  | .refuse _ => rfl
theorem mY {C : Cx} {L : List LF} : ∀ c : Code, (∀ b, b ∈ br c → ∀ l, l ∈ L → keyOf b = some l.key → dQ C b l) → (∀ r, r ∈ eU c → ∀ l, l ∈ L → lE l = true → rfP C.P l.nt = some r) → bA C L c
  | .seq a b, h, g => ⟨mY a (fun x hx => h x (List.mem_append_left _ hx)) fun x hx => g x (List.mem_append_left _ hx), mY b (fun x hx => h x (List.mem_append_right _ hx)) fun x hx => g x (List.mem_append_right _ hx)⟩
  | .cond _ a b, h, g => ⟨mY a (fun x hx => h x (List.mem_append_left _ hx)) fun x hx => g x (List.mem_append_left _ hx), mY b (fun x hx => h x (List.mem_append_right _ hx)) fun x hx => g x (List.mem_append_right _ hx)⟩
  | .block _ b, h, g => mY b h g
  | .loop b, h, g => ⟨fun l hl hk => h b (List.mem_cons_self ..) l hl hk, mY b (fun x hx => h x (List.mem_cons_of_mem _ hx)) g⟩
  | .skip, _, _ => trivial
  | .region .., _, _ => trivial
  | .rangeFunc .., _, g => fun l hl hm => g _ (List.mem_singleton.2 rfl) l hl hm
  | .exit _, _, _ => trivial
  | .scope _, _, _ => trivial
  | .label _, _, _ => trivial
  | .goto _, _, _ => trivial
  | .ret, _, _ => trivial
  | .refuse _, _, _ => trivial
end
end Go.AX
end
section
namespace Go.AX
noncomputable section
def af (l : List Value) (X : Nat → Value) (i : Nat) : Value := cond (Nat.blt i 1000000) (ai l i) (X (i - 1000000))
theorem ah {l : List Value} {X : Nat → Value} (h : ∀ j, (ai l j).oneCell' = true) : ∀ i, i < 1000000 → (af l X i).oneCell' = true := fun i hi => by
  have : Nat.blt i 1000000 = true := by simpa [Nat.blt_eq] using hi
  unfold af; rw [this]; exact h i
theorem cE {l : List Value} {X : Nat → Value} {t : Nat} : af l X (1000000 + t) = X t := by
  have h : Nat.blt (1000000 + t) 1000000 = false := by
    rw [Bool.eq_false_iff]; intro h; rw [Nat.blt_eq] at h; omega
  unfold af; rw [h, cond_false, Nat.add_sub_cancel_left]
def cI : Ex → Ex → Bool
  | .normal, .normal => true
  | .exit a, .exit b => Nat.beq a b
  | .goto a, .goto b => Nat.beq a b
  | .ret, .ret => true
  | _, _ => false
theorem H9 {a b : Ex} (h : cI a b = true) : a = b := by
  cases a <;> cases b <;> simp only [cI] at h <;> first | rfl | (cases h; done) | skip
  · rw [Nat.eq_of_beq_eq_true h]
  · rw [Nat.eq_of_beq_eq_true h]
def wH (o : Option ((Ex × Env) × St)) (ex : Ex) (q : List (Nat × AV)) (keep : List Nat) (nt : Nat) : Bool := match o with
  | some (p, _) => cI p.1 ex && jh p.2 keep && Nat.beq p.2.nt nt && qX p.2 q
  | none => false
theorem aR2 {o : Option ((Ex × Env) × St)} {ex : Ex} {q : List (Nat × AV)} {keep : List Nat} {nt : Nat} (h : wH o ex q keep nt = true) : ∃ E S, o = some ((ex, E), S) ∧ jh E keep = true ∧ E.nt = nt ∧ qX E q = true := by
  cases o with
  | none => cases h
  | some p =>
    obtain ⟨⟨e, E⟩, S⟩ := p
    simp only [wH, Bool.and_eq_true] at h
    obtain ⟨⟨⟨h1, h2⟩, h3⟩, h4⟩ := h
    exact ⟨E, S, by rw [H9 h1], h2, Nat.eq_of_beq_eq_true h3, h4⟩
section
variable {C : Cx} {body : Code} {l : LF} {ep : List (Nat × AV)} {α : Type} {I : α → Prop} {μ : α → Nat} {D : α → (Nat → Value) → Cx} {x : α} {X : Nat → Value}
theorem Round.next {tb : Tab} {L : List LF} {f : Nat} {q : List (Nat × AV)} (y : α) (hall : ar (D x X) tb) (hlp : bA (D x X) L body) (hrun : wH (code tb f L body (bc (bf ep l.keep) l.nt) ⟨.leaf, tb.ng, 0, 0⟩) .normal q l.keep l.nt = true)
    (hy : I y) (hlt : μ y < μ x) (hm : ∀ s a, (s, a) ∈ ep → ∃ b, (s, b) ∈ q ∧ ∀ v, Rel (D x X) (fun _ => none) b v → Rel (D y X) (fun _ => none) a v) : Round C body l ep I μ D x X := by
  obtain ⟨E, S, h1, h2, h3, h4⟩ := aR2 hrun
  exact ⟨tb, L, f, .normal, E, S, hall, hlp, h1, h2, h3, .inl ⟨rfl, y, q, hy, hlt, h4, hm⟩⟩
theorem Round.leave {tb : Tab} {L : List LF} {f : Nat} {q : List (Nat × AV)} (hall : ar (D x X) tb) (hlp : bA (D x X) L body) (hrun : wH (code tb f L body (bc (bf ep l.keep) l.nt) ⟨.leaf, tb.ng, 0, 0⟩) l.ex q l.keep l.nt = true)
    (hne : l.ex ≠ .normal) (hm : ∀ s a, (s, a) ∈ l.post → ∃ b, (s, b) ∈ q ∧ ∀ v, Rel (D x X) (fun _ => none) b v → Rel C (fun _ => none) a v) : Round C body l ep I μ D x X := by
  obtain ⟨E, S, h1, h2, h3, h4⟩ := aR2 hrun
  exact ⟨tb, L, f, l.ex, E, S, hall, hlp, h1, h2, h3, .inr ⟨hne, rfl, q, h4, hm⟩⟩
end
def cU : List Code → Nat → Nat → Nat → Bool
  | [], _, _, _ => true
  | b :: r, k, j, i => (match keyOf b with | some k' => cond (Nat.beq k' k) (Nat.beq i j) true | none => true) && cU r k j (Nat.succ i)
theorem aH7 {k j : Nat} : ∀ (l : List Code) (i : Nat), cU l k j i = true → ∀ b, b ∈ l → keyOf b = some k → i ≤ j ∧ l[j - i]? = some b
  | [], _, _, b, hb, _ => by cases hb
  | c :: r, i, h, b, hb, hk => by
    simp only [cU, Bool.and_eq_true] at h
    rcases List.mem_cons.1 hb with e | hb
    · subst e
      have h1 := h.1
      rw [hk] at h1
      simp only [Nat.beq_refl, cond_true] at h1
      have := Nat.eq_of_beq_eq_true h1
      subst this
      exact ⟨Nat.le_refl _, by simp⟩
    · obtain ⟨h1, h2⟩ := aH7 r (i + 1) h.2 b hb hk
      refine ⟨by omega, ?_⟩
      rw [show j - i = (j - (i + 1)) + 1 by omega]
      simpa using h2
def cS (c : Code) (j : Nat) : Code := ((br c)[j]?).getD .skip
def BX (C : Cx) (c : Code) (l : LF) : Prop := ((lE l || ir l) = false ∧ ∃ j, cU (br c) l.key j 0 = true ∧ dQ C (cS c j) l) ∨ (ir l = false ∧ (br c).all (fun b => !(hM (keyOf b) l.key)) = true ∧ Nat.beq (eU c).length 1 = true ∧ ∃ fn, C.P.funcs[l.nt]? = some fn ∧ fn.body = some c)
def aW4 (C : Cx) (g : Nat) (c : Code) (l : LF) : Prop := BX C c l ∨ ((lE l = false ∧ ir l = true) ∧ (br c).all (fun b => !(hM (keyOf b) l.key)) = true ∧ ey C g l)
theorem aT8 {C : Cx} {g : Nat} {c : Code} {L : List LF} (h : ∀ l, l ∈ L → aW4 C g c l) : bA C L c :=
  mY c (fun b hb l hl hk => by
    rcases h l hl with (⟨_, j, h1, h2⟩ | ⟨_, h1, _⟩) | ⟨_, h1, _⟩
    rotate_left
    · rw [List.all_eq_true] at h1
      have := h1 b hb
      rw [hk] at this
      have e : hM (some l.key) l.key = true := Nat.beq_refl _
      rw [e] at this
      cases this
    · rw [List.all_eq_true] at h1
      have := h1 b hb
      rw [hk] at this
      have e : hM (some l.key) l.key = true := Nat.beq_refl _
      rw [e] at this
      cases this
    obtain ⟨_, h3⟩ := aH7 _ _ h1 b hb hk
    simp only [Nat.sub_zero] at h3
    have : cS c j = b := by unfold cS; rw [h3]; rfl
    rw [this] at h2; exact h2) fun r hr l hl hm => by
    rcases h l hl with (⟨h1, _⟩ | ⟨_, _, h3, fn, h4, h5⟩) | ⟨h1, _⟩
    rotate_right
    · rw [hm] at h1; cases h1.1
    · rw [hm] at h1; cases h1
    · unfold rfP
      rw [h4]
      simp only [h5]
      rw [mE]
      have hn := Nat.eq_of_beq_eq_true h3
      obtain ⟨x, hx⟩ := List.length_eq_one_iff.1 hn
      rw [hx] at hr ⊢
      rw [List.mem_singleton.1 hr]; rfl
theorem mX {C : Cx} {c : Code} {L : List LF} (h : ∀ l, l ∈ L → BX C c l) : bA C L c := aT8 (g := 0) fun l hl => .inl (h l hl)
theorem bR {C : Cx} {c : Code} {l : LF} (hm : (lE l || ir l) = false) (h : ∃ j, cU (br c) l.key j 0 = true ∧ dQ C (cS c j) l) : BX C c l := .inl ⟨hm, h⟩
theorem bE {P : LF → Prop} : ∀ l, l ∈ ([] : List LF) → P l := fun l h => by cases h
theorem bH {P : LF → Prop} {a : LF} {r : List LF} (h : P a) (ht : ∀ l, l ∈ r → P l) : ∀ l, l ∈ a :: r → P l := fun l hl => by
  rcases List.mem_cons.1 hl with e | hl
  · subst e; exact h
  · exact ht l hl
theorem ar.bS {C : Cx} {tb : Tab} (h : ar C tb) {g : Nat} {fi : FI} {L : List LF} {c : Code} (hg : g ≤ 16777213) (hfi : tb.fn.get g = some fi) (hc : fi.body = some c) (hL : ∀ l, l ∈ L → BX C c l) : ar C (bI tb g fi L) :=
  h.lps hg hfi (fun c' hc' => by rw [hc] at hc'; injection hc' with hc'; subst hc'; exact mX hL) fun l hl hcf => by
    rcases hL l hl with ⟨h1, _⟩ | ⟨h1, _⟩
    · rw [hcf, Bool.or_true] at h1; cases h1
    · rw [hcf] at h1; cases h1
theorem ar.lp2 {C : Cx} {tb : Tab} (h : ar C tb) {g : Nat} {fi : FI} {L : List LF} {c : Code} (hg : g ≤ 16777213) (hfi : tb.fn.get g = some fi) (hc : fi.body = some c) (hL : ∀ l, l ∈ L → aW4 C g c l) : ar C (bI tb g fi L) :=
  h.lps hg hfi (fun c' hc' => by rw [hc] at hc'; injection hc' with hc'; subst hc'; exact aT8 hL) fun l hl hcf => by
    rcases hL l hl with (⟨h1, _⟩ | ⟨h1, _⟩) | ⟨_, _, h1⟩
    · rw [hcf, Bool.or_true] at h1; cases h1
    · rw [hcf] at h1; cases h1
    · exact h1
theorem cP {tb : Tab} {g : Nat} {fi : FI} {L : List LF} (hg : g ≤ 16777213) : (bI tb g fi L).fn.get g = some { fi with lps := L } := by
  show (tb.fn.set g { fi with lps := L }).get g = _
  rw [ct _ _ _ _ hg, if_pos rfl]
theorem aS {tb : Tab} {g f : Nat} {fi fj : FI} {L : List LF} (hg : g ≤ 16777213) (hne : f ≠ g) (h : tb.fn.get f = some fj) : (bI tb g fi L).fn.get f = some fj := by
  show (tb.fn.set g { fi with lps := L }).get f = _
  rw [ct _ _ _ _ hg, if_neg hne]; exact h
end
end Go.AX
end
section
namespace Go.AX
noncomputable section
/- what a run leaves, seen as a pattern: blocks renamed, symbols told -/
def jU : List (Nat × Nat) → Nat → Nat
  | [], v => v
  | p :: r, v => cond (Nat.beq p.1 v) p.2 (jU r v)
def jS : List (Nat × AV) → Nat → Option AV
  | [], _ => none
  | p :: r, i => cond (Nat.beq p.1 i) (some p.2) (jS r i)
def cb (n0 nh : Nat) (sg : List (Nat × Nat)) (v w : Nat) : Bool := cond (Nat.blt v n0) (Nat.beq v w) (Nat.blt v nh && Nat.beq (jU sg v) w)
def fZ (n0 : Nat) (sg : List (Nat × Nat)) (v : Nat) : Nat := cond (Nat.blt v n0) v (jU sg v)
def inA (th : List (Nat × AV)) (q : Nat → Nat → Bool) : Nat → AV → AV → Bool
  | 0, _, _ => false
  | d + 1, a, b => match a, b with
    | .und, _ => true
    | .x i, b => (match jS th i with | some c => eT 8 c b && eV 8 b | none => false)
    | .p v o, .p w u => q v w && Nat.beq o u
    | .sl v o n c r, .sl w u m e s => q v w && Nat.beq o u && Nat.beq n m && Nat.beq c e && (r == s)
    | .sy v, .sy w => q v w
    | .mp v, .mp w => q v w
    | .yl v, .yl w => q v w
    | .sr v, .sr w => q v w
    | .pr v i z o, .pr w j t u => q v w && (inA th q d i j && (Nat.beq z t && Nat.beq o u))
    | .fn f a c, .fn g b e => Nat.beq f g && cz (inA th q d) a b && cz (inA th q d) c e
    | .ag l, .ag m => cz (inA th q d) l m
    | .tu l, .tu m => cz (inA th q d) l m
    | .bm t x, .bm u y => Nat.beq t u && inA th q d x y
    | .aq, .aq => true
    | .ni, .ni => true
    | .bX, .bX => true
    | .dy, .dy => true
    | .iP, .iP => true
    | .es, .es => true
    | .es, .aq => true
    | .h a, .h b => Nat.beq a b
    | .i k n, .i l m => kEq k l && ieq n m
    | .b x, .b y => x == y
    | .s k n, .s l m => Nat.beq k l && Nat.beq n m
    | _, _ => false
def inCe (th : List (Nat × AV)) (q : Nat → Nat → Bool) : Cells → Cells → Bool
  | .y k n, .y l m => Nat.beq k l && Nat.beq n m
  | .l a, c => cz (inA th q 8) a c.toL
  | _, _ => false
def yz (th : List (Nat × AV)) (q : Nat → Nat → Bool) (b : T AV) : List (Nat × AV) → Bool
  | [] => true
  | p :: r => (Nat.ble p.1 16777213 && (match b.get p.1 with | some y => inA th q 8 p.2 y | none => false)) && yz th q b r
theorem EX {th : List (Nat × AV)} {q : Nat → Nat → Bool} {b : T AV} : ∀ {l : List (Nat × AV)}, yz th q b l = true → ∀ s x, (s, x) ∈ l → s ≤ 16777213 ∧ ∃ y, b.get s = some y ∧ inA th q 8 x y = true
  | [], _, s, x, h => by cases h
  | p :: r, h, s, x, hm => by
    simp only [yz, Bool.and_eq_true] at h
    rcases List.mem_cons.1 hm with e | hm
    · subst e
      obtain ⟨⟨h1, h2⟩, _⟩ := h
      simp only [] at h1 h2
      refine ⟨Nat.le_of_ble_eq_true h1, ?_⟩
      cases hg : b.get s with
      | none => rw [hg] at h2; cases h2
      | some y => rw [hg] at h2; exact ⟨y, rfl, h2⟩
    · exact EX h.2 s x hm
def jk (th : List (Nat × AV)) (q : Nat → Nat → Bool) : aR → aR → Bool
  | .b k, .b j => Nat.beq k.e j.e && inCe th q k.c j.c && Nat.beq k.m j.m && Nat.beq k.es j.es && Nat.beq k.fr j.fr && (k.st == j.st) && (k.g == j.g)
  | .t i e, .t j f => Nat.beq e f && (match jS th i with | some c => eT 8 c (.x j) | none => false)
  | .r i e s o, .r j f t u => Nat.beq e f && (Nat.beq s t && ((o == u) && (match jS th i with | some c => eT 8 c (.x j) | none => false)))
  | .k g a n s x, .k h b m t y => Nat.beq g h && (yz th q (hJ b .leaf) a && (Nat.beq n m && (Nat.beq s t && eqX x y)))
  | _, _ => false
def iO : aR → Bool
  | .b k => !k.st || k.g
  | .r _ _ _ o => !o
  | _ => true
def hY (th : List (Nat × AV)) (q : Nat → Nat → Bool) (E : Env) : List (Nat × AV) → Bool
  | [] => true
  | p :: r => (match E.tm.get p.1 with | some b => inA th q 8 p.2 b | none => false) && hY th q E r
def cf (n0 nh : Nat) (th : List (Nat × AV)) (sg : List (Nat × Nat)) (H : T aR) : List (Nat × aR) → Bool
  | [] => true
  | p :: r => (match H.get (fZ n0 sg p.1) with | some j => jk th (cb n0 nh sg) p.2 j | none => false) && cond (Nat.blt p.1 n0) true (Nat.blt p.1 nh && iO p.2) && Nat.ble p.1 16777213 && cf n0 nh th sg H r
def cd : List Nat → Bool
  | [] => true
  | a :: r => !(r.any fun b => Nat.beq a b) && cd r
def numsOf (n0 : Nat) (sg : List (Nat × Nat)) (l : List (Nat × aR)) : List Nat := l.map fun p => fZ n0 sg p.1
theorem y3 {th : List (Nat × AV)} {q : Nat → Nat → Bool} {k j : aR} (h : jk th q k j = true) : cg k = cg j := by
  cases k <;> cases j <;> simp only [jk] at h <;> first | rfl | (cases h; done) | skip
  simp only [Bool.and_eq_true, beq_iff_eq] at h
  exact h.2.2.1
def ren (ρ ρ2 : aY) (n0 nh : Nat) (sg : List (Nat × Nat)) : aY := fun v => if n0 ≤ v ∧ v < nh then ρ2 (jU sg v) else ρ v
section
variable {C1 C2 : Cx} {th : List (Nat × AV)} {q : Nat → Nat → Bool} {ρ1 ρ2 : aY}
def aw (C1 C2 : Cx) (th : List (Nat × AV)) : Prop := ∀ i c, jS th i = some c → Is C1 c (C2.nu i)
theorem y4 (hP : C1.P = C2.P) (hth : aw C1 C2 th) (hq : ∀ v w r, q v w = true → ρ1 w = some r → ρ2 v = some r) : ∀ (d : Nat) (a b : AV), inA th q d a b = true → ∀ v, Rel C1 ρ1 b v → Rel C2 ρ2 a v
  | 0, a, b, h, v, hr => by cases h
  | d + 1, a, b, h, v, hr => by
    have ih := y4 hP hth hq d
    have ihL : ∀ (l m : List AV), cz (inA th q d) l m = true → ∀ vs, aF C1 ρ1 m vs → aF C2 ρ2 l vs := by
      intro l
      induction l with
      | nil => intro m hm vs hv; cases m with
        | nil => simpa only [aF] using hv
        | cons => cases hm
      | cons x l ihl => intro m hm vs hv; cases m with
        | nil => cases hm
        | cons y m =>
          simp only [cz, Bool.and_eq_true] at hm
          simp only [aF] at hv ⊢
          obtain ⟨u, us, e, h1, h2⟩ := hv
          exact ⟨u, us, e, ih _ _ hm.1 u h1, ihl m hm.2 us h2⟩
    unfold inA at h
    split at h
    · simp only [Rel]
    · split at h
      · rename_i i b c hc
        simp only [Bool.and_eq_true] at h
        have e := gC 8 _ _ h.1
        subst e
        simp only [Rel]
        exact hth _ _ hc ρ1 v hr
      · cases h
    · simp only [Bool.and_eq_true] at h
      simp only [Rel] at hr ⊢
      obtain ⟨r, h1, h2⟩ := hr
      exact ⟨r, hq _ _ _ h.1 h1, by rw [h2, Nat.eq_of_beq_eq_true h.2]⟩
    · rename_i v0 o n c r w u m e s
      simp only [Bool.and_eq_true, beq_iff_eq] at h
      obtain ⟨⟨⟨⟨g1, g2⟩, g3⟩, g4⟩, g5⟩ := h
      have e2 := Nat.eq_of_beq_eq_true g2; have e3 := Nat.eq_of_beq_eq_true g3; have e4 := Nat.eq_of_beq_eq_true g4
      subst e2; subst e3; subst e4; subst g5
      cases r with
      | false =>
        simp only [Rel] at hr ⊢
        obtain ⟨r, h1, h2⟩ := hr
        exact ⟨r, hq _ _ _ g1 h1, h2⟩
      | true =>
        simp only [Rel] at hr ⊢
        obtain ⟨r, a, h1, h2⟩ := hr
        exact ⟨r, a, hq _ _ _ g1 h1, h2⟩
    · simp only [Rel] at hr ⊢
      obtain ⟨r, h1, h2⟩ := hr
      exact ⟨r, hq _ _ _ h h1, h2⟩
    · simp only [Rel] at hr ⊢
      obtain ⟨r, h1, h2⟩ := hr
      exact ⟨r, hq _ _ _ h h1, h2⟩
    · simp only [Rel] at hr ⊢
      obtain ⟨r, h1, h2⟩ := hr
      exact ⟨r, hq _ _ _ h h1, h2⟩
    · simp only [Rel] at hr ⊢
      obtain ⟨r, h1, h2⟩ := hr
      exact ⟨r, hq _ _ _ h h1, h2⟩
    · simp only [Bool.and_eq_true] at h
      obtain ⟨g1, g2, g3, g4⟩ := h
      have e3 := Nat.eq_of_beq_eq_true g3; have e4 := Nat.eq_of_beq_eq_true g4
      subst e3; subst e4
      simp only [Rel] at hr ⊢
      obtain ⟨r, kk, jj, h1, h2, h3⟩ := hr
      exact ⟨r, kk, jj, hq _ _ _ g1 h1, ih _ _ g2 _ h2, h3⟩
    · simp only [Bool.and_eq_true] at h
      have e := Nat.eq_of_beq_eq_true h.1.1
      subst e
      simp only [Rel] at hr ⊢
      obtain ⟨as, cs, e, h1, h2⟩ := hr
      exact ⟨as, cs, e, ihL _ _ h.1.2 _ h1, ihL _ _ h.2 _ h2⟩
    · simp only [Rel] at hr ⊢
      obtain ⟨cs, e, h1⟩ := hr
      exact ⟨cs, e, ihL _ _ h _ h1⟩
    · simp only [Rel] at hr ⊢
      obtain ⟨cs, e, h1⟩ := hr
      exact ⟨cs, e, ihL _ _ h _ h1⟩
    · simp only [Bool.and_eq_true] at h
      have e := Nat.eq_of_beq_eq_true h.1
      subst e
      simp only [Rel] at hr ⊢
      obtain ⟨x, e, h1⟩ := hr
      exact ⟨x, e, ih _ _ h.2 _ h1⟩
    · simpa only [Rel] using hr
    · simpa only [Rel] using hr
    · simpa only [Rel] using hr
    · simpa only [Rel] using hr
    · simpa only [Rel] using hr
    · simpa only [Rel] using hr
    · simp only [Rel] at hr ⊢; exact ⟨none, 0, hr⟩
    · have e := Nat.eq_of_beq_eq_true h
      subst e
      simp only [Rel] at hr ⊢
      rw [← hP]; exact hr
    · simp only [Bool.and_eq_true, lF, decide_eq_true_eq] at h
      simp only [Rel] at hr ⊢
      rw [hr, ET h.1, h.2]
    · simp only [beq_iff_eq] at h
      subst h
      simpa only [Rel] using hr
    · simp only [Bool.and_eq_true] at h
      have e1 := Nat.eq_of_beq_eq_true h.1; have e2 := Nat.eq_of_beq_eq_true h.2
      subst e1; subst e2
      simpa only [Rel] using hr
    · cases h
theorem aW2 {s : AV → AV → Bool} : ∀ {l m : List AV}, cz s l m = true → ∀ (j : Nat) a, l[j]? = some a → ∃ b, m[j]? = some b ∧ s a b = true
  | [], [], _, j, a, h => by simp at h
  | [], _ :: _, h, _, _, _ => by cases h
  | _ :: _, [], h, _, _, _ => by cases h
  | x :: l, y :: m, h, j, a, ha => by
    simp only [cz, Bool.and_eq_true] at h
    cases j with
    | zero => simp at ha; subst ha; exact ⟨y, by simp, h.1⟩
    | succ j => simp at ha; obtain ⟨b, h1, h2⟩ := aW2 h.2 j a ha; exact ⟨b, by simpa using h1, h2⟩
theorem aW1 {s : AV → AV → Bool} : ∀ {l m : List AV}, cz s l m = true → l.length = m.length
  | [], [], _ => rfl
  | [], _ :: _, h => by cases h
  | _ :: _, [], h => by cases h
  | x :: l, y :: m, h => by
    simp only [cz, Bool.and_eq_true] at h
    simp [aW1 h.2]
theorem inCe_ok (hP : C1.P = C2.P) (hth : aw C1 C2 th) (hq : ∀ v w r, q v w = true → ρ1 w = some r → ρ2 v = some r) {c d : Cells} (h : inCe th q c d = true) {arr : Array Value} {base : Nat} (hc : nW C1 ρ1 d arr base) : nW C2 ρ2 c arr base ∧ c.len = d.len := by
  cases c with
  | y k n =>
    cases d with
    | l => cases h
    | y l m =>
      simp only [inCe, Bool.and_eq_true] at h
      have e1 := Nat.eq_of_beq_eq_true h.1; have e2 := Nat.eq_of_beq_eq_true h.2
      subst e1; subst e2
      refine ⟨⟨hc.1, fun j a hj => ?_⟩, rfl⟩
      obtain ⟨x, h1, h2, h3⟩ := hc.2 j a hj
      refine ⟨x, h1, ?_, h3⟩
      have hj : (cv k n)[j]? = some a := hj
      unfold cv at hj
      rw [List.getElem?_map] at hj
      cases hr : (List.range k)[j]? with
      | none => rw [hr] at hj; cases hj
      | some z => rw [hr] at hj; simp only [Option.map_some, Option.some.injEq] at hj; subst hj; simpa only [Rel] using h2
  | l a =>
    have h : cz (inA th q 8) a d.toL = true := by cases d <;> exact h
    refine ⟨⟨trivial, fun j x hj => ?_⟩, by rw [Cells.len_eq, Cells.len_eq]; exact aW1 h⟩
    have hj : a[j]? = some x := hj
    obtain ⟨b, hb, hs⟩ := aW2 h j x hj
    obtain ⟨v, h1, h2, h3⟩ := hc.2 j b hb
    exact ⟨v, h1, y4 hP hth hq 8 _ _ hs v h2, h3⟩
theorem inE_ok (hP : C1.P = C2.P) (hth : aw C1 C2 th) (hq : ∀ v w r, q v w = true → ρ1 w = some r → ρ2 v = some r) {B1 B2 : Fz} {k j : aR} (h : jk th q k j = true) {r : R} {o : Obj} (hB : cg k = false → B2 r.blk → B1 r.blk) (ho : eP C1 ρ1 B1 j r o) : eP C2 ρ2 B2 k r o := by
  cases k with
  | b k =>
    cases j with
    | b j =>
      cases o with
      | cells arr t fz =>
        simp only [jk, Bool.and_eq_true, beq_iff_eq] at h
        obtain ⟨⟨⟨⟨⟨⟨h1, h2⟩, h3⟩, h4⟩, h5⟩, h6⟩, h7⟩ := h
        have e1 := Nat.eq_of_beq_eq_true h1; have e3 := Nat.eq_of_beq_eq_true h3; have e4 := Nat.eq_of_beq_eq_true h4; have e5 := Nat.eq_of_beq_eq_true h5
        obtain ⟨t1, hb⟩ := ho
        obtain ⟨c1, c2⟩ := inCe_ok hP hth hq h2 hb.cells
        refine ⟨by rw [e1]; exact t1, c1, fun hg => ?_, fun x => by rw [e5]; exact hb.cold x, fun hs => by rw [e5]; exact hb.plain (by rw [← h6]; exact hs), fun hb2 => ?_, by rw [c2]; exact hb.room, fun hg => hb.base0 (by rw [← h7]; exact hg)⟩
        · have := hb.grown (by rw [← h7]; exact hg)
          rw [e3, c2, e4]; exact this
        · have := hb.old (hB rfl hb2)
          rw [c2, e5, h6, h7]; exact this
      | _ => exact ho.elim
    | _ => cases h
  | t i e =>
    cases j with
    | t j f =>
      cases o with
      | cells arr t fz =>
        simp only [jk, Bool.and_eq_true] at h
        obtain ⟨h1, h2⟩ := h
        have e1 := Nat.eq_of_beq_eq_true h1
        subst e1
        obtain ⟨t1, hb⟩ := ho
        cases hc : jS th i with
        | none => rw [hc] at h2; cases h2
        | some c =>
          rw [hc] at h2
          have e2 := gC 8 _ _ h2
          subst e2
          have hv : C1.nu j = C2.nu i := hth _ _ hc ρ1 _ (by simp only [Rel])
          refine ⟨t1, fun hb2 => hb.own (hB rfl hb2), hb.base, ?_, hb.cap, hb.room, hb.free⟩
          rw [← hv]; exact hb.str
      | _ => exact ho.elim
    | _ => cases h
  | r i e z ro =>
    cases j with
    | r j f t u =>
      cases o with
      | cells arr ty fz =>
        simp only [jk, Bool.and_eq_true, beq_iff_eq] at h
        obtain ⟨h1, h3, h4, h2⟩ := h
        have e1 := Nat.eq_of_beq_eq_true h1
        have e3 := Nat.eq_of_beq_eq_true h3
        subst e1; subst e3; subst h4
        obtain ⟨t1, hb⟩ := ho
        cases hc : jS th i with
        | none => rw [hc] at h2; cases h2
        | some c =>
          rw [hc] at h2
          have e2 := gC 8 _ _ h2
          subst e2
          have hv : C1.nu j = C2.nu i := hth _ _ hc ρ1 _ (by simp only [Rel])
          refine ⟨t1, fun hro => ?_, ?_, hb.cap, hb.pos⟩
          · obtain ⟨q1, q2⟩ := hb.own hro
            exact ⟨fun hb2 => q1 (hB hro hb2), q2⟩
          · rw [← hv]; exact hb.row
      | _ => exact ho.elim
    | _ => cases h
  | k g a n s x =>
    cases j with
    | k g2 b n2 s2 x2 =>
      cases o with
      | loop L =>
        simp only [jk, Bool.and_eq_true] at h
        obtain ⟨h1, h2, h3, h4, h5⟩ := h
        have e1 := Nat.eq_of_beq_eq_true h1; have e3 := Nat.eq_of_beq_eq_true h3; have e4 := Nat.eq_of_beq_eq_true h4; have e5 := eqX_eq h5
        subst e1; subst e3; subst e4; subst e5
        obtain ⟨t1, hb⟩ := ho
        refine ⟨hP ▸ t1, ⟨fun hb2 => hb.own (hB rfl hb2), rfl, rfl, rfl, hb.okA, hb.okB, hb.size, hb.nt, fun t y ht => ?_, hb.st, hb.pend⟩⟩
        rcases ko _ _ (fun p hp => (EX h2 p.1 p.2 hp).1) t y ht with hm | hm
        · obtain ⟨_, z, hz, hi⟩ := EX h2 t y hm
          exact y4 hP hth hq 8 y z hi _ (hb.tm t z hz)
        · simp [T.c9] at hm
      | _ => exact ho.elim
    | _ => cases h
  | _ => cases j <;> cases h
end
theorem sX {th : List (Nat × AV)} {q : Nat → Nat → Bool} {E : Env} : ∀ {l : List (Nat × AV)}, hY th q E l = true → ∀ s a, (s, a) ∈ l → ∃ b, E.tm.get s = some b ∧ inA th q 8 a b = true
  | [], _, s, a, h => by cases h
  | p :: r, h, s, a, hm => by
    simp only [hY, Bool.and_eq_true] at h
    rcases List.mem_cons.1 hm with e | hm
    · subst e
      have h1 := h.1
      simp only [] at h1
      cases hg : E.tm.get s with
      | none => rw [hg] at h1; cases h1
      | some b => rw [hg] at h1; exact ⟨b, rfl, h1⟩
    · exact sX h.2 s a hm
structure HeapAt (n0 nh : Nat) (th : List (Nat × AV)) (sg : List (Nat × Nat)) (H : T aR) (v : Nat) (k : aR) : Prop where
  at_ : ∃ j, H.get (fZ n0 sg v) = some j ∧ jk th (cb n0 nh sg) k j = true
  move : n0 ≤ v → v < nh ∧ iO k = true
  top : v ≤ 16777213
theorem hU {n0 nh : Nat} {th : List (Nat × AV)} {sg : List (Nat × Nat)} {H : T aR} : ∀ {l : List (Nat × aR)}, cf n0 nh th sg H l = true → ∀ v k, (v, k) ∈ l → HeapAt n0 nh th sg H v k
  | [], _, v, k, h => by cases h
  | p :: r, h, v, k, hm => by
    simp only [cf, Bool.and_eq_true] at h
    rcases List.mem_cons.1 hm with e | hm
    · subst e
      obtain ⟨⟨⟨h1, h2⟩, h3⟩, h4⟩ := h
      simp only [] at h1 h2 h3
      refine ⟨?_, fun hge => ?_, Nat.le_of_ble_eq_true h3⟩
      · cases hg : H.get (fZ n0 sg v) with
        | none => rw [hg] at h1; cases h1
        | some b => rw [hg] at h1; exact ⟨b, rfl, h1⟩
      · have : Nat.blt v n0 = false := by rw [Bool.eq_false_iff]; intro hh; rw [Nat.blt_eq] at hh; omega
        rw [this] at h2
        simp only [cond_false, Bool.and_eq_true, Nat.blt_eq] at h2
        exact h2
    · exact hU h.2 v k hm
theorem aK6 {n0 : Nat} {sg : List (Nat × Nat)} : ∀ {l : List (Nat × aR)}, cd (numsOf n0 sg l) = true → ∀ v k u j, (v, k) ∈ l → (u, j) ∈ l → fZ n0 sg v = fZ n0 sg u → v = u
  | [], _, v, k, u, j, h, _, _ => by cases h
  | p :: r, h, v, k, u, j, hv, hu, e => by
    have h : (!((numsOf n0 sg r).any fun b => Nat.beq (fZ n0 sg p.1) b) && cd (numsOf n0 sg r)) = true := h
    simp only [Bool.and_eq_true, Bool.not_eq_true', List.any_eq_false] at h
    have hno : ∀ u j, (u, j) ∈ r → fZ n0 sg p.1 ≠ fZ n0 sg u := fun u j hm e => by
      have := h.1 (fZ n0 sg u) (List.mem_map.2 ⟨(u, j), hm, rfl⟩)
      rw [e, Nat.beq_refl] at this; exact this rfl
    rcases List.mem_cons.1 hv with e1 | g1
    · rcases List.mem_cons.1 hu with e2 | g2
      · rw [← e2] at e1; injection e1
      · subst e1; exact absurd e (hno _ _ g2)
    · rcases List.mem_cons.1 hu with e2 | g2
      · subst e2; exact absurd e.symm (hno _ _ g1)
      · exact aK6 h.2 v k u j g1 g2 e
theorem aY7 {C : Cx} {ρ : aY} {B : Fz} {k : aR} {r : R} {o : Obj} (ho : eP C ρ B k r o) (h : iO k = true) : ¬ B r.blk := by
  cases k <;> cases o <;> first | exact ho.elim | skip
  · intro hb
    obtain ⟨_, h2, h3⟩ := ho.2.old hb
    simp only [iO, h2, h3] at h; cases h
  · exact eJ.own ho
  · exact MapAt.own ho
  · exact ly.own ho
  · refine (ho.2.own ?_).1
    simpa [iO] using h
  · exact ho.2.own
  · exact eJ.own ho.2
theorem inE_refl {C : Cx} {ρ : aY} {B B2 : Fz} {k : aR} {r : R} {o : Obj} (hB : B2 r.blk → B r.blk) (ho : eP C ρ B k r o) : eP C ρ B2 k r o := by
  cases k <;> cases o <;> first | exact ho.elim | skip
  · exact ⟨ho.1, { ho.2 with old := fun h => ho.2.old (hB h) }⟩
  · exact { (show eJ C ρ B _ r _ from ho) with own := fun h => eJ.own ho (hB h) }
  · exact { (show MapAt C ρ B _ _ r _ _ from ho) with own := fun h => MapAt.own ho (hB h) }
  · exact { (show ly C ρ B _ _ _ _ r _ _ _ _ from ho) with own := fun h => ly.own ho (hB h) }
  · exact ⟨ho.1, { ho.2 with own := fun h => ⟨fun hb => (ho.2.own h).1 (hB hb), (ho.2.own h).2⟩ }⟩
  · exact ⟨ho.1, { ho.2 with own := fun h => ho.2.own (hB h) }⟩
  · exact ⟨ho.1, { (show eJ C ρ B _ r _ from ho.2) with own := fun h => eJ.own ho.2 (hB h) }⟩
theorem r8 {l : List (Nat × aR)} (hb : ∀ v k, (v, k) ∈ l → v ≤ 16777213) {v : Nat} {k : aR} (h : (ay l .leaf).get v = some k) : (v, k) ∈ l := by
  rw [kg _ _ (fun u hu => by obtain ⟨j, hj⟩ := iq.1 hu; exact hb u j hj)] at h
  cases hg : dM l v with
  | some j => rw [hg] at h; simp only [Option.some_or, Option.some.injEq] at h; subst h; exact kj hg
  | none => rw [hg] at h; simp [T.c9] at h
section
variable {C D : Cx} {ng n0 nh : Nat} {K : Fz} {ρ ρ2 : aY} {w : World}
theorem lK {S1 : T aR} {l : List (Nat × aR)} {th : List (Nat × AV)} {sg : List (Nat × Nat)} (hP : C.P = D.P) (hinv : C.inv = D.inv) (hnst : C.bU = D.bU) {B : Fz}
    (hF : Fits C ng B ρ2 S1 w) (hth : aw C D th) (lI : ∀ v, v < n0 → ρ2 v = ρ v) (aX : ng ≤ n0) (hin : cf n0 nh th sg S1 l = true) (hnd : cd (numsOf n0 sg l) = true)
    (hK : ∀ k, K k → k < w.heap.size) (hlow : ∀ k, k < D.bU → K k) (hKB : ∀ v k r, (v, k) ∈ l → cg k = false → ρ2 (fZ n0 sg v) = some r → K r.blk → B r.blk) :
    Fits D ng K (ren ρ ρ2 n0 nh sg) (ay l .leaf) w ∧ (∀ a b v, inA th (cb n0 nh sg) 8 a b = true → Rel C ρ2 b v → Rel D (ren ρ ρ2 n0 nh sg) a v) := by
  have hq : ∀ v u r, cb n0 nh sg v u = true → ρ2 u = some r → ren ρ ρ2 n0 nh sg v = some r := fun v u r hs hr => by
    unfold cb at hs
    unfold ren
    cases hlt : Nat.blt v n0 with
    | true =>
      rw [hlt, cond_true] at hs
      have e := Nat.eq_of_beq_eq_true hs
      subst e
      rw [Nat.blt_eq] at hlt
      rw [if_neg (by omega), ← lI v hlt]; exact hr
    | false =>
      rw [hlt, cond_false, Bool.and_eq_true, Nat.blt_eq] at hs
      have hlt : ¬ v < n0 := fun h => by rw [← Nat.blt_eq, hlt] at h; cases h
      rw [if_pos ⟨by omega, hs.1⟩, Nat.eq_of_beq_eq_true hs.2]; exact hr
  have hnum : ∀ v k, (v, k) ∈ l → ren ρ ρ2 n0 nh sg v = ρ2 (fZ n0 sg v) := fun v k hm => by
    obtain ⟨_, h3, _⟩ := hU hin v k hm
    unfold ren fZ
    cases hlt : Nat.blt v n0 with
    | true => rw [Nat.blt_eq] at hlt; rw [if_neg (by omega), cond_true, lI v hlt]
    | false =>
      have hlt : ¬ v < n0 := fun h => by rw [← Nat.blt_eq, hlt] at h; cases h
      rw [if_pos ⟨by omega, (h3 (by omega)).1⟩, cond_false]
  have hmem : ∀ v k, (ay l .leaf).get v = some k → (v, k) ∈ l := fun v k h => r8 (fun u j hu => (hU hin u j hu).top) h
  refine ⟨⟨hK, fun g hg => ?_, fun v k hv => ?_, fun v v' k k' r r' hv hv' hr hr' he => ?_, hlow, hinv ▸ hF.inv⟩, fun a b v hi hr => y4 hP hth hq 8 a b hi v hr⟩
  · unfold ren; rw [if_neg (by omega), ← lI g (by omega)]; exact hF.glob g hg
  · have hm := hmem v k hv
    obtain ⟨⟨j, h1, h2⟩, _⟩ := hU hin v k hm
    obtain ⟨r, h3, o, h4, h5⟩ := hF.blk _ _ h1
    exact ⟨r, by rw [hnum v k hm]; exact h3, o, h4, inE_ok hP hth hq h2 (fun hro => hKB v k r hm hro h3) h5⟩
  · have hm := hmem v k hv
    have hm' := hmem v' k' hv'
    obtain ⟨⟨j, h1, hq1⟩, _⟩ := hU hin v k hm
    obtain ⟨⟨j', h1', hq2⟩, _⟩ := hU hin v' k' hm'
    rw [hnum v k hm] at hr; rw [hnum v' k' hm'] at hr'
    rcases hF.inj _ _ _ _ _ _ h1 h1' hr hr' he with e | ⟨e1, e2⟩
    · exact .inl (aK6 hnd v k v' k' hm hm' e)
    · exact .inr ⟨by rw [y3 hq1]; exact e1, by rw [y3 hq2]; exact e2⟩
end
def dJ (B : Fz) (ρ : aY) (h : LH) (w : World) : Fz := fun k => B k ∨ (k < w.heap.size ∧ ∀ v j r, (v, j) ∈ h.pre → cg j = false → ρ v = some r → r.blk ≠ k)
theorem Hn {C : Cx} {B : Fz} {ρ ρ' : aY} {h : LH} {H : T aR} {w w' : World} (hh : lx h) (hF : Fits C h.ng B ρ H w) (hpre : ∀ v k, (v, k) ∈ h.pre → H.get v = some k) (hfree : Free ρ h.n0 h.n1)
    (hb : Below (dJ B ρ h w) w w') (hF' : Fits C h.ng (dJ B ρ h w) ρ' (ay h.post .leaf) w') (he : Ext ρ ρ' h.n0 h.n1) (hown : ∀ v k, (v, k) ∈ h.post → h.n0 ≤ v → iO k = true) : Fits C h.ng B ρ' (dz h H) w' := by
  have htop := hh.top
  have hsub := he.sub hfree
  have hget : ∀ v k, (dz h H).get v = some k → (dM h.post v = some k) ∨ (isK h.pre v = false ∧ ¬ (h.n0 ≤ v ∧ v < h.n1) ∧ H.get v = some k) := fun v k hv => by
    rw [mZ hh] at hv
    cases hg : dM h.post v with
    | some j => rw [hg] at hv; left; simpa using hv
    | none =>
      rw [hg] at hv
      simp only [Option.none_or] at hv
      split at hv
      · cases hv
      · split at hv
        · cases hv
        · rename_i e1 e2; right; exact ⟨by simpa using e2, e1, hv⟩
  have hset : ∀ v k, dM h.post v = some k → (ay h.post .leaf).get v = some k := fun v k hv => by
    rw [kg _ _ (fun u hu => by have := (hh.post u hu).1; omega), hv]; rfl
  have hρ : ∀ v, ¬ (h.n0 ≤ v ∧ v < h.n1) → ρ' v = ρ v := fun v hv => he v (by have := hh.le; omega)
  have hfr : ∀ v k r, isK h.pre v = false → H.get v = some k → ρ v = some r → dJ B ρ h w r.blk := fun v k r hn hv hr => by
    obtain ⟨r', h1, o, h2, _⟩ := hF.blk v k hv
    rw [hr] at h1; injection h1 with h1; subst h1
    refine .inr ⟨tN h2, fun u j ru hj hjr hru e => ?_⟩
    have hu : isK h.pre u = true := iq.2 ⟨j, hj⟩
    have := hF.solo hv (hpre u j hj) hr hru hjr e.symm
    subst this; rw [hn] at hu; cases hu
  refine ⟨fun k hk => Nat.lt_of_lt_of_le (hF.size k hk) hb.size, hF'.glob, fun v k hv => ?_, fun v v' k k' r r' hv hv' hr hr' e => ?_, hF.low, hF'.inv⟩
  · rcases hget v k hv with g | ⟨g1, g2, g3⟩
    · obtain ⟨r, h1, o, h2, h3⟩ := hF'.blk v k (hset v k g)
      exact ⟨r, h1, o, h2, inE_refl (fun hb => .inl hb) h3⟩
    · obtain ⟨r, h1, o, h2, h3⟩ := hF.blk v k g3
      refine ⟨r, hsub _ _ h1, o, ?_, h3.mono hsub⟩
      rw [hb.block _ (hfr v k r g1 g3 h1)]; exact h2
  · have cross : ∀ v v' k k' r r', dM h.post v = some k → isK h.pre v' = false → ¬ (h.n0 ≤ v' ∧ v' < h.n1) → H.get v' = some k' → ρ' v = some r → ρ' v' = some r' → r.blk = r'.blk → v = v' ∨ (cg k = true ∧ cg k' = true) := fun v v' k k' r r' g g1 g2 g3 hr hr' e => by
      rw [hρ v' g2] at hr'
      have hfz := hfr v' k' r' g1 g3 hr'
      have hm := kj g
      by_cases hlt : v < h.n0
      · have hp : isK h.pre v = true := (hh.post v (iq.2 ⟨k, hm⟩)).2.resolve_right (by omega)
        obtain ⟨j, hj⟩ := iq.1 hp
        rw [hρ v (by omega)] at hr
        rcases hF.inj v v' j k' r r' (hpre v j hj) g3 hr hr' e with e1 | ⟨e1, e2⟩
        · subst e1; rw [g1] at hp; cases hp
        · exact .inr ⟨hh.ro v k j hm hj e1, e2⟩
      · obtain ⟨r2, h1, o, h2, h3⟩ := hF'.blk v k (hset v k g)
        rw [hr] at h1; injection h1 with h1; subst h1
        exact (aY7 h3 (hown v k hm (by omega)) (e ▸ hfz)).elim
    rcases hget v k hv with g | ⟨g1, g2, g3⟩ <;> rcases hget v' k' hv' with g' | ⟨g1', g2', g3'⟩
    · exact hF'.inj v v' k k' r r' (hset v k g) (hset v' k' g') hr hr' e
    · exact cross v v' k k' r r' g g1' g2' g3' hr hr' e
    · exact (cross v' v k' k r' r g' g1 g2 g3 hr' hr e.symm).imp Eq.symm And.symm
    · rw [hρ v g2] at hr; rw [hρ v' g2'] at hr'
      exact hF.inj v v' k k' r r' g3 g3' hr hr' e
end
end Go.AX
end
section
namespace Go.AX
noncomputable section
def bn (o : Option ((Ex × Env) × St)) (ex : Ex) (keep : List Nat) (nt n1 : Nat) (th : List (Nat × AV)) (sg : List (Nat × Nat)) (n0 nh : Nat) (ep : List (Nat × AV)) (hp : List (Nat × aR)) : Bool := match o with
  | some (p, S) => cI p.1 ex && Nat.ble S.next n1 && jh p.2 keep && Nat.beq p.2.nt nt && hY th (cb n0 nh sg) p.2 ep && cf n0 nh th sg S.heap hp && cd (numsOf n0 sg hp)
  | none => false
structure a6 (E : Cx) (body : Code) (keep : List Nat) (nt : Nat) (ex' : Ex) (ng n0 nh n1 : Nat) {α : Type} (ep : α → List (Nat × AV)) (hp : α → List (Nat × aR)) (dD : List (Nat × AV)) (hpx : List (Nat × aR)) (I : α → Prop) (μ : α → Nat) (D : α → (Nat → Value) → Cx) (x : α) (X : Nat → Value) : Prop where
  run : ∃ (tb : Tab) (L : List LF) (f : Nat) (th : List (Nat × AV)) (sg : List (Nat × Nat)), ar (D x X) tb ∧ bA (D x X) L body ∧ tb.ng = ng ∧
    ((∃ y, I y ∧ μ y < μ x ∧ aw (D x X) (D y X) th ∧ bn (code tb f L body (bc (bf (ep x) keep) nt) ⟨ay (hp x) .leaf, nh, 0, 0⟩) .normal keep nt n1 th sg n0 nh (ep y) (hp y) = true) ∨
     (ex' ≠ .normal ∧ aw (D x X) E th ∧ bn (code tb f L body (bc (bf (ep x) keep) nt) ⟨ay (hp x) .leaf, nh, 0, 0⟩) ex' keep nt n1 th sg n0 n1 dD hpx = true))
theorem aK3 {o : Option ((Ex × Env) × St)} {ex : Ex} {keep : List Nat} {nt n1 : Nat} {th : List (Nat × AV)} {sg : List (Nat × Nat)} {n0 nh : Nat} {ep : List (Nat × AV)} {hp : List (Nat × aR)} (h : bn o ex keep nt n1 th sg n0 nh ep hp = true) :
    ∃ E1 S1, o = some ((ex, E1), S1) ∧ S1.next ≤ n1 ∧ jh E1 keep = true ∧ E1.nt = nt ∧ hY th (cb n0 nh sg) E1 ep = true ∧ cf n0 nh th sg S1.heap hp = true ∧ cd (numsOf n0 sg hp) = true := by
  cases o with
  | none => cases h
  | some p =>
    obtain ⟨⟨e, E⟩, S⟩ := p
    simp only [bn, Bool.and_eq_true] at h
    obtain ⟨⟨⟨⟨⟨⟨h1, h2⟩, h3⟩, h4⟩, h5⟩, h6⟩, h7⟩ := h
    exact ⟨E, S, by rw [H9 h1], Nat.le_of_ble_eq_true h2, h3, Nat.eq_of_beq_eq_true h4, h5, h6, h7⟩
theorem headOf_bd {ep : List (Nat × AV)} {keep : List Nat} (hb : (cG ep && cO keep) = true) : ∀ p, p ∈ bf ep keep → p.1 ≤ 16777213 := fun p hp => by
  rw [Bool.and_eq_true] at hb
  obtain ⟨s, x⟩ := p
  rcases aI2 _ _ _ _ hp with h | h
  · exact sM hb.1 _ h
  · exact EI hb.2 _ h.1
theorem loop_okH {C E : Cx} {body : Code} {l : LF} {h : LH} {keep : List Nat} {nt : Nat} {ex : Ex} {ng n0 nh n1 : Nat} {α : Type} {ep : α → List (Nat × AV)} {hp : α → List (Nat × aR)} {dD : List (Nat × AV)} {hpx : List (Nat × aR)} (I : α → Prop) (μ : α → Nat) (D : α → (Nat → Value) → Cx)
    (hP : ∀ x X, (D x X).P = C.P) (hi : ∀ x X, (D x X).inv = C.inv) (hn : ∀ x X, (D x X).bU = C.bU) (hX : ∀ x X t, t ∈ keep → (D x X).nu (1000000 + t) = X t)
    (ju : E.P = C.P) (js : E.inv = C.inv) (iB : E.bU = C.bU)
    (hkeep : l.keep = keep) (hlnt : l.nt = nt) (hex : l.ex = ex) (hgn : h.ng = ng) (hn0 : h.n0 = n0) (hn1 : h.n1 = n1)
    (hb : ∀ x, (cG (ep x) && cO keep) = true) (hbx : cG dD = true) (iA : n0 ≤ nh ∧ nh ≤ n1)
    (start : α) (hstart : I start) {ao : List (Nat × AV)} {aj : List (Nat × Nat)} (cq : ∀ X, aw C (D start X) ao) (h0e : hY ao (cb n0 nh aj) (bc l.pre nt) (ep start) = true) (hlp : cG l.pre = true)
    (h0h : cf n0 nh ao aj (ay h.pre .leaf) (hp start) = true) (h0n : cd (numsOf n0 aj (hp start)) = true)
    {ak : List (Nat × AV)} (cn : aw E C ak) (hxe : hY ak (cb n0 n1 []) (bc dD nt) l.post = true) (hxh : cf n0 n1 ak [] (ay hpx .leaf) h.post = true) (hxn : cd (numsOf n0 [] h.post) = true)
    (hr : ∀ x X, I x → a6 E body keep nt ex ng n0 nh n1 ep hp dD hpx I μ D x X) : BZ C body l h := by
  subst hkeep; subst hlnt; subst hex; subst hgn; subst hn0; subst hn1
  intro Φ ν Q a w B ρ H hΦ hc hF aX hh hpre hfree hsz hnt hslots hK
  have hle := hh.le
  have htop := hh.top
  have iw : ∀ k, B k → dJ B ρ h w k := fun k hk => .inl hk
  -- the heads
  have key : ∀ (n : Nat) (x : α), μ x < n → I x → ∀ (X : Nat → Value) (ρ1 : aY) (a1 : Act) (w1 : World),
      Fits (D x X) h.ng (dJ B ρ h w) ρ1 (ay (hp x) .leaf) w1 → Ext ρ ρ1 h.n0 nh → Below (dJ B ρ h w) w w1 → a1.tmps.size = l.nt →
      (∀ s y, (s, y) ∈ ep x → Rel (D x X) ρ1 y (a1.tmps.getD s undef)) → (∀ t, t ∈ l.keep → a1.tmps.getD t undef = X t) →
      (∀ ρ' a' w', a'.tmps.size = l.nt → (∀ s, s ∈ l.keep → a'.tmps.getD s undef = X s) → (∀ s y, (s, y) ∈ l.post → Rel C ρ' y (a'.tmps.getD s undef)) → fx a1 a' w1 w' →
        Fits C h.ng (dJ B ρ h w) ρ' (ay h.post .leaf) w' → (∀ v k, (v, k) ∈ h.post → h.n0 ≤ v → iO k = true) → Ext ρ ρ' h.n0 h.n1 → Below (dJ B ρ h w) w1 w' → Q (mv l.ex) a' w') →
      eO Φ ν C.P body Q a1 w1 := by
    intro n
    induction n with
    | zero => intro x hx; omega
    | succ n ih =>
      intro x hx hI X ρ1 a1 w1 hF1 he1 hb1 hsz1 hep hkeep hK1
      obtain ⟨tb, L, f, th, sg, hall, hlpo, htn, hcase⟩ := (hr x X hI).run
      obtain ⟨ex, E1, S1, hrun, hnx, hkept, hnt1, hcase⟩ : ∃ ex E1 S1, code tb f L body (bc (bf (ep x) l.keep) l.nt) ⟨ay (hp x) .leaf, nh, 0, 0⟩ = some ((ex, E1), S1) ∧ S1.next ≤ h.n1 ∧ jh E1 l.keep = true ∧ E1.nt = l.nt ∧
          ((ex = .normal ∧ ∃ y, I y ∧ μ y < μ x ∧ aw (D x X) (D y X) th ∧ hY th (cb h.n0 nh sg) E1 (ep y) = true ∧ cf h.n0 nh th sg S1.heap (hp y) = true ∧ cd (numsOf h.n0 sg (hp y)) = true) ∨
           (ex ≠ .normal ∧ ex = l.ex ∧ aw (D x X) E th ∧ hY th (cb h.n0 h.n1 sg) E1 dD = true ∧ cf h.n0 h.n1 th sg S1.heap hpx = true ∧ cd (numsOf h.n0 sg hpx) = true)) := by
        rcases hcase with ⟨y, hy, hlt, hth, hrd⟩ | ⟨hne, hth, hrd⟩
        · obtain ⟨E1, S1, g1, g2, g3, g4, g5, g6, g7⟩ := aK3 hrd
          exact ⟨_, E1, S1, g1, g2, g3, g4, .inl ⟨rfl, y, hy, hlt, hth, g5, g6, g7⟩⟩
        · obtain ⟨E1, S1, g1, g2, g3, g4, g5, g6, g7⟩ := aK3 hrd
          exact ⟨_, E1, S1, g1, g2, g3, g4, .inr ⟨hne, rfl, hth, g5, g6, g7⟩⟩
      have hP' := hP x X
      refine eO.step ?_
      have hE : dk (D x X) ρ1 (bc (bf (ep x) l.keep) l.nt) a1 := by
        refine ⟨hsz1, hnt, fun t y ht => ?_⟩
        rcases ko _ _ (headOf_bd (hb x)) t y ht with g | g
        · rcases aI2 _ _ _ _ g with h1 | h1
          · exact hep t y h1
          · obtain ⟨h1, rfl⟩ := h1
            simp only [Rel]
            rw [hX x X t h1]; exact hkeep t h1
        · simp [T.c9] at g
      have Hb : Free ρ1 nh h.n1 := fun v g1 g2 => by rw [he1 v (by omega)]; exact hfree v (by omega) g2
      have hgo := (dV (C := D x X) (B := dJ B ρ h w) (F := f) (Φ := Φ) (ν := ν) hΦ (fun g _ => cr_ok hall g) hall.tab hall.met hall.mix hall.fn f (Nat.le_refl _) L body (bc (bf (ep x) l.keep) l.nt) ⟨ay (hp x) .leaf, nh, 0, 0⟩ ex E1 S1 ρ1 a1 w1
        (Exit.then (eO Φ ν C.P body Q) Q) hc.loop hlpo hrun (by rw [htn]; exact hF1) (by show tb.ng ≤ nh; omega) hE (fun v g1 g2 => Hb v g1 (by omega)) ?_).1
      · rw [hP'] at hgo; exact hgo
      · intro ρ2 a2 w2 e1 e2 e3 e4 e5
        have e4 : Ext ρ1 ρ2 nh S1.next := e4
        rw [htn] at e3
        have hkp : ∀ t, t ∈ l.keep → a2.tmps.getD t undef = X t := fun t ht => by
          have := e1.2.2 t _ (aE9 hkept t ht)
          simp only [Rel] at this
          rw [this]; exact hX x X t ht
        have hsz2 : a2.tmps.size = l.nt := e1.1.trans hnt1
        have lI : ∀ v, v < h.n0 → ρ2 v = ρ v := fun v hv => by rw [e4 v (by omega), he1 v (by omega)]
        have hb2 := hb1.trans e5
        have hKs : ∀ k, dJ B ρ h w k → k < w2.heap.size := fun k hk => by
          have := hb2.size
          rcases hk with hk | hk
          · have := hF.size k hk; omega
          · omega
        have hext : ∀ hi, h.n0 ≤ hi → hi ≤ h.n1 → Ext ρ (ren ρ ρ2 h.n0 hi sg) h.n0 hi := fun hi _ _ v hv => by unfold ren; rw [if_neg (by omega)]
        rcases hcase with ⟨rfl, y, hy, hlt, hth, hen, hhe, hnd⟩ | ⟨hne, rfl, hth, hen, hhe, hnd⟩
        · show eO Φ ν C.P body Q a2 w2
          obtain ⟨g1, g2⟩ := lK (C := D x X) (D := D y X) (ρ := ρ) (K := dJ B ρ h w) (by rw [hP, hP]) (by rw [hi, hi]) (by rw [hn, hn]) e3 hth lI aX hhe hnd hKs
            (fun k hk => iw k (hF.low k (by rw [← hn y X]; exact hk))) (fun v k r _ _ _ hk => hk)
          refine ih y (by omega) hy X _ a2 w2 g1 (hext nh iA.1 iA.2) hb2 hsz2 (fun s b hs => ?_) hkp fun ρ' a3 w3 k1 k2 k3 k4 k5 k6 k7 k8 => ?_
          · obtain ⟨c, hc1, hc2⟩ := sX hen s b hs
            exact g2 _ _ _ hc2 (e1.2.2 s c hc1)
          · exact hK1 ρ' a3 w3 k1 k2 k3 (e2.trans k4 e5 k8) k5 k6 k7 (e5.trans k8)
        · obtain ⟨g1, g2⟩ := lK (C := D x X) (D := E) (ρ := ρ) (K := dJ B ρ h w) ((hP x X).trans ju.symm) ((hi x X).trans js.symm) ((hn x X).trans iB.symm) e3 hth lI aX hhe hnd hKs
            (fun k hk => iw k (hF.low k (by rw [← iB]; exact hk))) (fun v k r _ _ _ hk => hk)
          obtain ⟨g3, g4⟩ := lK (C := E) (D := C) (ρ := ρ) (K := dJ B ρ h w) ju js iB g1 cn (fun v hv => by unfold ren; rw [if_neg (by omega)]) aX hxh hxn hKs
            (fun k hk => iw k (hF.low k hk)) (fun v k r _ _ _ hk => hk)
          have hfin : Q (mv l.ex) a2 w2 := hK1 _ a2 w2 hsz2 hkp (fun s b hs => by
            obtain ⟨c, hc1, hc2⟩ := sX hxe s b hs
            refine g4 _ _ _ hc2 ?_
            rcases ko _ _ (fun p hp => sM hbx p hp) s c hc1 with g | g
            · obtain ⟨d, hd1, hd2⟩ := sX hen s c g
              exact g2 _ _ _ hd2 (e1.2.2 s d hd1)
            · simp [T.c9] at g) e2 g3 (fun v k hm hge => ((hU hxh v k hm).move hge).2) (fun v hv => by unfold ren; rw [if_neg (by omega)]) e5
          cases hx : l.ex with
          | normal => exact absurd hx hne
          | exit id => rw [hx] at hfin; exact hfin
          | goto l => rw [hx] at hfin; exact hfin
          | ret => rw [hx] at hfin; exact hfin
  -- the start
  have sa : ∀ v k, (v, k) ∈ h.pre → v ≤ 16777213 := fun v k hm => by have := hh.pre v (iq.2 ⟨k, hm⟩); omega
  have hF0 : Fits C h.ng B ρ (ay h.pre .leaf) w := hF.sub fun v k hv => hpre v k (r8 sa hv)
  obtain ⟨g1, g2⟩ := lK (C := C) (D := D start (fun t => a.tmps.getD t undef)) (ρ := ρ) (K := dJ B ρ h w) (hP _ _).symm (hi _ _).symm (hn _ _).symm hF0 (cq _) (fun v _ => rfl) aX h0h h0n
    (fun k hk => by
      rcases hk with hk | hk
      · exact hF.size k hk
      · exact hk.1) (fun k hk => iw k (hF.low k (by rw [← hn start _]; exact hk))) (fun v k r hm hkr hr hk => by
      rcases hk with hk | hk
      · exact hk
      · obtain ⟨⟨j, hj, hjk⟩, _⟩ := hU h0h v k hm
        exact absurd rfl (hk.2 _ j r (r8 sa hj) (by rw [← y3 hjk]; exact hkr) hr))
  refine key _ start (Nat.lt_succ_self _) hstart _ _ a w g1 (fun v hv => by unfold ren; rw [if_neg (by omega)]) (Below.refl _ _) hsz (fun s y hs => ?_) (fun t ht => rfl) fun ρ' a' w' k1 k2 k3 k4 k5 k6 k7 k8 => ?_
  · obtain ⟨b, hb1, hb2⟩ := sX h0e s y hs
    refine g2 _ _ _ hb2 (hslots s b ?_)
    rcases ko _ _ (fun p hp => sM hlp p hp) s b hb1 with g | g
    · exact g
    · simp [T.c9] at g
  · exact hK ρ' a' w' (by rw [k1, hsz]) k2 k3 k4 (Hn hh hF hpre hfree k8 k5 k7 k6) k7 (Below.less k8 iw)
end
end Go.AX
end
section
namespace Go.AX
noncomputable section
def xp : List Nat → List Nat → Bool
  | [], [] => true
  | a :: l, b :: m => Nat.beq a b && xp l m
  | _, _ => false
theorem aK7 : ∀ {a b : List Nat}, xp a b = true → a = b
  | [], [], _ => rfl
  | [], _ :: _, h => by cases h
  | _ :: _, [], h => by cases h
  | a :: l, b :: m, h => by
    simp only [xp, Bool.and_eq_true] at h
    rw [Nat.eq_of_beq_eq_true h.1, aK7 h.2]
def yY (l : LF) (h : LH) (nt : Nat) (keep : List Nat) (ex : Ex) (ng n0 n1 : Nat) : Bool := xp l.keep keep && Nat.beq l.nt nt && cI l.ex ex && Nat.beq h.ng ng && Nat.beq h.n0 n0 && Nat.beq h.n1 n1 && cG l.pre
def vu (l : LF) (h : LH) (nt n0 nh : Nat) (ao : List (Nat × AV)) (aj : List (Nat × Nat)) (ep : List (Nat × AV)) (hp : List (Nat × aR)) : Bool := hY ao (cb n0 nh aj) (bc l.pre nt) ep && cf n0 nh ao aj (ay h.pre .leaf) hp && cd (numsOf n0 aj hp)
def Ad (l : LF) (h : LH) (nt n0 n1 : Nat) (ak : List (Nat × AV)) (dD : List (Nat × AV)) (hpx : List (Nat × aR)) : Bool := hY ak (cb n0 n1 []) (bc dD nt) l.post && cf n0 n1 ak [] (ay hpx .leaf) h.post && cd (numsOf n0 [] h.post)
theorem aI {C1 C2 : Cx} : aw C1 C2 [] := fun i c h => by cases h
theorem bK {C1 C2 : Cx} {i : Nat} {c : AV} {r : List (Nat × AV)} (h : Is C1 c (C2.nu i)) (ht : aw C1 C2 r) : aw C1 C2 ((i, c) :: r) := fun j d hd => by
  unfold jS at hd
  cases hb : Nat.beq i j with
  | true =>
    rw [hb, cond_true] at hd
    injection hd with hd
    have := Nat.eq_of_beq_eq_true hb
    subst this; subst hd; exact h
  | false => rw [hb, cond_false] at hd; exact ht j d hd
theorem bL {C : Cx} {a : AV} {v u : Value} (h : Is C a v) (e : v = u) : Is C a u := e ▸ h
theorem lfOkX {C E : Cx} {body : Code} {l : LF} {h : LH} {keep : List Nat} {nt : Nat} {ex : Ex} {ng n0 nh n1 : Nat} {α : Type} {ep : α → List (Nat × AV)} {hp : α → List (Nat × aR)} {dD : List (Nat × AV)} {hpx : List (Nat × aR)} (I : α → Prop) (μ : α → Nat) (D : α → (Nat → Value) → Cx)
    (hP : ∀ x X, (D x X).P = C.P) (hi : ∀ x X, (D x X).inv = C.inv) (hn : ∀ x X, (D x X).bU = C.bU) (hX : ∀ x X t, t ∈ keep → (D x X).nu (1000000 + t) = X t)
    (ju : E.P = C.P) (js : E.inv = C.inv) (iB : E.bU = C.bU) (hl : l.hp = some h) (hs : yY l h nt keep ex ng n0 n1 = true)
    (hb : ∀ x, (cG (ep x) && cO keep) = true) (hbx : cG dD = true) (iA : (Nat.ble n0 nh && Nat.ble nh n1) = true)
    (start : α) (hstart : I start) {ao : List (Nat × AV)} {aj : List (Nat × Nat)} (cq : ∀ X, aw C (D start X) ao) (h0 : vu l h nt n0 nh ao aj (ep start) (hp start) = true)
    {ak : List (Nat × AV)} (cn : aw E C ak) (hx : Ad l h nt n0 n1 ak dD hpx = true)
    (hr : ∀ x X, I x → a6 E body keep nt ex ng n0 nh n1 ep hp dD hpx I μ D x X) : dQ C body l := by
  simp only [yY, vu, Ad, Bool.and_eq_true] at hs h0 hx iA
  exact dQ.h hl (loop_okH I μ D hP hi hn hX ju js iB (aK7 hs.1.1.1.1.1.1) (Nat.eq_of_beq_eq_true hs.1.1.1.1.1.2) (H9 hs.1.1.1.1.2) (Nat.eq_of_beq_eq_true hs.1.1.1.2) (Nat.eq_of_beq_eq_true hs.1.1.2) (Nat.eq_of_beq_eq_true hs.1.2) hb hbx
    ⟨Nat.le_of_ble_eq_true iA.1, Nat.le_of_ble_eq_true iA.2⟩ start hstart cq h0.1.1 hs.2 h0.1.2 h0.2 cn hx.1.1 hx.1.2 hx.2 hr)
section
variable {E : Cx} {body : Code} {keep : List Nat} {nt : Nat} {ex : Ex} {ng n0 nh n1 : Nat} {α : Type} {ep : α → List (Nat × AV)} {hp : α → List (Nat × aR)} {dD : List (Nat × AV)} {hpx : List (Nat × aR)} {I : α → Prop} {μ : α → Nat} {D : α → (Nat → Value) → Cx} {x : α} {X : Nat → Value}
theorem a6.next {tb : Tab} {L : List LF} {f : Nat} {th : List (Nat × AV)} {sg : List (Nat × Nat)} (y : α) (hall : ar (D x X) tb) (hlp : bA (D x X) L body) (aX : tb.ng = ng) (hy : I y) (hlt : μ y < μ x) (hth : aw (D x X) (D y X) th)
    (hrun : bn (code tb f L body (bc (bf (ep x) keep) nt) ⟨ay (hp x) .leaf, nh, 0, 0⟩) .normal keep nt n1 th sg n0 nh (ep y) (hp y) = true) : a6 E body keep nt ex ng n0 nh n1 ep hp dD hpx I μ D x X :=
  ⟨tb, L, f, th, sg, hall, hlp, aX, .inl ⟨y, hy, hlt, hth, hrun⟩⟩
theorem a6.leave {tb : Tab} {L : List LF} {f : Nat} {th : List (Nat × AV)} {sg : List (Nat × Nat)} (hall : ar (D x X) tb) (hlp : bA (D x X) L body) (aX : tb.ng = ng) (hne : cI ex .normal = false) (hth : aw (D x X) E th)
    (hrun : bn (code tb f L body (bc (bf (ep x) keep) nt) ⟨ay (hp x) .leaf, nh, 0, 0⟩) ex keep nt n1 th sg n0 n1 dD hpx = true) : a6 E body keep nt ex ng n0 nh n1 ep hp dD hpx I μ D x X :=
  ⟨tb, L, f, th, sg, hall, hlp, aX, .inr ⟨(fun e => by subst e; cases hne), hth, hrun⟩⟩
end
/- classes of bytes, by a mask -/
def tb8 (M : Nat) (c : Int) : Bool := M.testBit c.toNat
end
end Go.AX
namespace Go.AX
theorem cM {C : Cx} {x : Bool} (h : x = true) : Den C (.b true) (.bool x) := by subst h; exact uL true
theorem dh {C : Cx} {x : Bool} (h : ¬ (x = true)) : Den C (.b false) (.bool x) := by
  cases x with
  | true => exact absurd rfl h
  | false => exact uL false
end Go.AX
namespace Go.AX
theorem thX {C1 C2 : Cx} {i id : Nat} {r : List (Nat × AV)} (h : C1.nu id = C2.nu i) (ht : aw C1 C2 r) : aw C1 C2 ((i, .x id) :: r) :=
  bK (fun ρ v hv => by simp only [Rel] at hv; rw [hv, h]) ht
theorem bT {C1 C2 : Cx} {i id : Nat} {k : IntKind} {a b : Int} {r : List (Nat × AV)} (h1 : C1.nu id = .int k a) (h2 : C2.nu i = .int k b) (e : a = b) (ht : aw C1 C2 r) : aw C1 C2 ((i, .x id) :: r) :=
  thX (by rw [h1, h2, e]) ht
end Go.AX
end
section
namespace Go.AX
end Go.AX
namespace Go.AX
theorem dropE {l : List UInt8} {P : Int} : List.drop (Int.toNat P) l = (l.drop P.toNat).take ((l.length : Int) - P).toNat := by
  rw [List.take_of_length_le]; rw [List.length_drop]; omega
theorem takeE {l : List UInt8} {Q : Int} : List.take (Int.toNat Q) l = (l.drop (0 : Int).toNat).take (Q - 0).toNat := by
  rw [show Q - 0 = Q by omega]; rfl
theorem eA {l : List UInt8} {P : Int} (h0 : 0 ≤ P) (h : P ≤ (l.length : Int)) : ((List.drop (Int.toNat P) l).length : Int) = (l.length : Int) - P := by rw [List.length_drop]; omega
theorem dq {l : List UInt8} {Q : Int} (h0 : 0 ≤ Q) (h : Q ≤ (l.length : Int)) : ((List.take (Int.toNat Q) l).length : Int) = Q := by rw [List.length_take]; omega
end Go.AX
namespace Go.AX
end Go.AX
namespace Go.AX
theorem yr {C : Cx} {x y : AV} {b : Bool} (hx : Is C x (.bool b)) (hy : Is C y (.bool b)) : aL C (.fK x y) (.b true) :=
  ⟨true, rfl, fun ρ vx vy h1 h2 => ⟨b, b, hx ρ vx h1, hy ρ vy h2, by simp⟩⟩
end Go.AX
end
section
namespace Go.AX
noncomputable section
def aO (l : List (List UInt8)) : Value := .tuple ⟨l.map St'⟩
def rX (l : List Value) (X : Nat → Value) (t : Nat) : Value := cond (Nat.blt t 1000000) (X t) (ai l (t - 1000000))
theorem cD {l : List Value} {X : Nat → Value} {t : Nat} (h : t < 1000000) : rX l X t = X t := by
  have : Nat.blt t 1000000 = true := by rw [Nat.blt_eq]; exact h
  unfold rX; rw [this, cond_true]
section
variable {C : Cx} {x y i r : AV} {l : List (List UInt8)}
theorem eK {c : Int} (hx : Is C x (aO l)) (hr : Den C r (.int .i64 c)) (hc : (l.length : Int) = c) : aL C (.rl x 1) r := by
  intro ρ vx g1
  have e1 := hx ρ vx g1; subst e1
  subst hc
  exact ⟨l.map St', l.length, rfl, by rw [List.length_map, Nat.mul_one], hr ρ⟩
theorem gP {k : IntKind} {a : Int} {j : Nat} (hx : Is C x (aO l)) (hi : Is C i (.int k a)) (hr : Den C r (St' (l.getD j []))) (ha : a = (j : Int)) (hj : j < l.length) : aL C (.el x i 1 0) r := by
  intro ρ vx vi g1 g2
  have e1 := hx ρ vx g1; subst e1
  have e2 := hi ρ vi g2; subst e2
  subst ha
  refine ⟨l.map St', k, j, _, rfl, rfl, ?_, hr ρ⟩
  rw [Nat.mul_one, Nat.add_zero, List.getElem?_map, List.getD_eq_getElem?_getD, List.getElem?_eq_getElem hj]; rfl
theorem gN {s : List UInt8} (hx : Is C x (aO l)) (hy : Is C y (St' s)) (hr : Den C r (aO (l ++ [s]))) : aL C (.ra x [y]) r := by
  intro ρ vx vs g1 g2
  have e1 := hx ρ vx g1; subst e1
  simp only [aF] at g2
  obtain ⟨v, vt, rfl, h1, rfl⟩ := g2
  have e2 := hy ρ v h1; subst e2
  refine ⟨l.map St', rfl, ?_⟩
  have := hr ρ
  unfold aO at this
  rw [List.map_append] at this
  exact this
theorem da (hr : Den C r (aO [])) : aL C .rn r := fun ρ => hr ρ
theorem gM {b : Nat} (hx : Is C x (aO l)) (h : l.length * b ≤ 140737488355328) (h2 : l.length ≤ 140737488355328) : aL C (.rf x 1 b) r := by
  intro ρ vx g1
  have e1 := hx ρ vx g1; subst e1
  exact ⟨l.map St', l.length, rfl, by rw [List.length_map, Nat.mul_one], h, h2⟩
end
end
end Go.AX
end
section
namespace Go.AX
abbrev LB := List UInt8
abbrev LA := List (Nat × AV)
abbrev LE := List (Nat × aR)
abbrev LK := List (HK × AV)
section
variable {C : Cx} {i j m : Nat} {k : IntKind} {a b c : Int} {n : Nat} {l : List UInt8}
theorem iN : Is C (.i k (.ofNat n)) (.int k (n : Int)) := bP k (Int.ofNat n)
theorem ba (h1 : C.nu i = .int k a) (h2 : C.nu j = .int k b) (h : a < b) : aL C (.bin .lss (.x i) (.x j)) (.b true) := kLt (aA h1) (aA h2) (decide_eq_true h)
theorem dB (h1 : C.nu i = .int k a) (h2 : C.nu j = .int k b) (h : ¬ a < b) : aL C (.bin .lss (.x i) (.x j)) (.b false) := kLt (aA h1) (aA h2) (decide_eq_false h)
theorem iV (h1 : C.nu i = .int k a) (h2 : C.nu j = .int k b) (h : a ≤ b) : aL C (.bin .leq (.x i) (.x j)) (.b true) := kLe (aA h1) (aA h2) (decide_eq_true h)
theorem leF (h1 : C.nu i = .int k a) (h2 : C.nu j = .int k b) (h : ¬ a ≤ b) : aL C (.bin .leq (.x i) (.x j)) (.b false) := kLe (aA h1) (aA h2) (decide_eq_false h)
theorem lS (h1 : C.nu i = .int k a) (h2 : C.nu j = .int k b) (h : a = b) : aL C (.bin .eql (.x i) (.x j)) (.b true) := yq (aA h1) (aA h2) (decide_eq_true h)
theorem pJ (h1 : C.nu i = .int k a) (h2 : C.nu j = .int k b) (h : ¬ a = b) : aL C (.bin .eql (.x i) (.x j)) (.b false) := yq (aA h1) (aA h2) (decide_eq_false h)
theorem jb (h1 : C.nu i = .int k a) (h : a < (n : Int)) : aL C (.bin .lss (.x i) (.i k (.ofNat n))) (.b true) := kLt (aA h1) iN (decide_eq_true h)
theorem ei (h1 : C.nu i = .int k a) (h : ¬ a < (n : Int)) : aL C (.bin .lss (.x i) (.i k (.ofNat n))) (.b false) := kLt (aA h1) iN (decide_eq_false h)
theorem jg (h1 : C.nu i = .int k a) (h : a ≤ (n : Int)) : aL C (.bin .leq (.x i) (.i k (.ofNat n))) (.b true) := kLe (aA h1) iN (decide_eq_true h)
theorem yi (h1 : C.nu i = .int k a) (h : ¬ a ≤ (n : Int)) : aL C (.bin .leq (.x i) (.i k (.ofNat n))) (.b false) := kLe (aA h1) iN (decide_eq_false h)
theorem dU (h1 : C.nu i = .int k a) (h : (n : Int) < a) : aL C (.bin .gtr (.x i) (.i k (.ofNat n))) (.b true) := kGt (aA h1) iN (decide_eq_true h)
theorem bq (h1 : C.nu i = .int k a) (h : ¬ (n : Int) < a) : aL C (.bin .gtr (.x i) (.i k (.ofNat n))) (.b false) := kGt (aA h1) iN (decide_eq_false h)
theorem jz (h1 : C.nu i = .int k a) (h : (n : Int) ≤ a) : aL C (.bin .geq (.x i) (.i k (.ofNat n))) (.b true) := kGe (aA h1) iN (decide_eq_true h)
theorem gecF (h1 : C.nu i = .int k a) (h : ¬ (n : Int) ≤ a) : aL C (.bin .geq (.x i) (.i k (.ofNat n))) (.b false) := kGe (aA h1) iN (decide_eq_false h)
theorem gZ (h1 : C.nu i = .int k a) (h : a = (n : Int)) : aL C (.bin .eql (.x i) (.i k (.ofNat n))) (.b true) := yq (aA h1) iN (decide_eq_true h)
theorem ek (h1 : C.nu i = .int k a) (h : ¬ a = (n : Int)) : aL C (.bin .eql (.x i) (.i k (.ofNat n))) (.b false) := yq (aA h1) iN (decide_eq_false h)
theorem necT (h1 : C.nu i = .int k a) (h : ¬ a = (n : Int)) : aL C (.bin .neq (.x i) (.i k (.ofNat n))) (.b true) := oU (aA h1) iN (neT h)
theorem necF (h1 : C.nu i = .int k a) (h : a = (n : Int)) : aL C (.bin .neq (.x i) (.i k (.ofNat n))) (.b false) := oU (aA h1) iN (neF h)
theorem bO (h1 : C.nu i = .int .i64 a) (h3 : C.nu m = .int .i64 c) (h : a + (n : Int) = c ∧ -9223372036854775808 ≤ c ∧ c ≤ 9223372036854775807) : aL C (.bin .add (.x i) (.i .i64 (.ofNat n))) (.x m) := kAdd (aA h1) iN (aE h3) h.1 (fI64 h.2.1 h.2.2)
theorem sbC (h1 : C.nu i = .int .i64 a) (h3 : C.nu m = .int .i64 c) (h : a - (n : Int) = c ∧ -9223372036854775808 ≤ c ∧ c ≤ 9223372036854775807) : aL C (.bin .sub (.x i) (.i .i64 (.ofNat n))) (.x m) := kSub (aA h1) iN (aE h3) h.1 (fI64 h.2.1 h.2.2)
theorem cm (h1 : C.nu i = St' l) (h2 : C.nu j = .int k b) (h3 : C.nu m = .int .u8 (bt l (Int.toNat (b)))) (h : 0 ≤ b ∧ b < (l.length : Int)) : aL C (.idx (.x i) (.x j)) (.x m) := kIdxE (i := (Int.toNat (b))) (aA h1) (aA h2) (aE h3) (by omega) (by omega) rfl
theorem ixC (h1 : C.nu i = St' l) (h3 : C.nu m = .int .u8 (bt l n)) (h : n < l.length) : aL C (.idx (.x i) (.i k (.ofNat n))) (.x m) := kIdxE (i := n) (aA h1) iN (aE h3) rfl h rfl
theorem au (h1 : C.nu i = St' l) (h3 : C.nu m = .int .i64 c) (h : (l.length : Int) = c) : aL C (.len (.x i)) (.x m) := kLenE (aA h1) (aE h3) h
theorem ke {k' : IntKind} {n : Nat} (h1 : C.nu i = St' l) (h2 : C.nu j = .int k a) (h3 : C.nu n = .int k' b) (h4 : C.nu m = St' (List.take (Int.toNat (b - (a))) (List.drop (Int.toNat (a)) l))) (h : 0 ≤ a ∧ a ≤ b ∧ b ≤ (l.length : Int)) : aL C (.sub (.x i) (some (.x j)) (some (.x n))) (.x m) :=
  sT (P := a) (Q := b) (aA h1) (.inr ⟨_, _, rfl, aA h2⟩) (.inr ⟨_, _, rfl, aA h3⟩) h.1 h.2.1 h.2.2 (aE h4)
theorem fm (h1 : C.nu i = St' l) (h2 : C.nu j = .int k a) (h4 : C.nu m = St' (List.drop (Int.toNat (a)) l)) (h : 0 ≤ a ∧ a ≤ (l.length : Int)) : aL C (.sub (.x i) (some (.x j)) none) (.x m) :=
  sT (P := a) (Q := (l.length : Int)) (aA h1) (.inr ⟨_, _, rfl, aA h2⟩) (.inl ⟨rfl, rfl⟩) h.1 h.2 (Int.le_refl _) (aE (h4.trans (congrArg (fun l => St' l) dropE)))
theorem eS (h1 : C.nu i = St' l) (h2 : C.nu j = .int k a) (h4 : C.nu m = St' (List.take (Int.toNat (a)) l)) (h : 0 ≤ a ∧ a ≤ (l.length : Int)) : aL C (.sub (.x i) none (some (.x j))) (.x m) :=
  sT (P := 0) (Q := a) (aA h1) (.inl ⟨rfl, rfl⟩) (.inr ⟨_, _, rfl, aA h2⟩) (Int.le_refl _) h.1 h.2 (aE (h4.trans (congrArg (fun l => St' l) takeE)))
theorem kp {P Q : Int} (h : 0 ≤ P ∧ P ≤ Q ∧ Q ≤ (l.length : Int)) : ((List.take (Int.toNat (Q - (P))) (List.drop (Int.toNat (P)) l)).length : Int) = Q - P := by rw [List.length_take, List.length_drop]; omega
theorem drC (h1 : C.nu i = St' l) (h4 : C.nu m = St' (List.drop (Int.toNat ((n : Int))) l)) (h : n ≤ l.length) : aL C (.sub (.x i) (some (.i k (.ofNat n))) none) (.x m) :=
  sT (P := (n : Int)) (Q := (l.length : Int)) (aA h1) (.inr ⟨_, _, rfl, iN⟩) (.inl ⟨rfl, rfl⟩) (by omega) (by omega) (Int.le_refl _) (aE (h4.trans (congrArg (fun l => St' l) dropE)))
theorem tkC (h1 : C.nu i = St' l) (h4 : C.nu m = St' (List.take (Int.toNat ((n : Int))) l)) (h : n ≤ l.length) : aL C (.sub (.x i) none (some (.i k (.ofNat n)))) (.x m) :=
  sT (P := 0) (Q := (n : Int)) (aA h1) (.inl ⟨rfl, rfl⟩) (.inr ⟨_, _, rfl, iN⟩) (Int.le_refl _) (by omega) (by omega) (aE (h4.trans (congrArg (fun l => St' l) takeE)))
end
end Go.AX
namespace Go.AX
theorem aB {C1 C2 : Cx} {i id : Nat} {v : Value} {r : List (Nat × AV)} (h1 : C1.nu id = v) (h2 : C2.nu i = v) (ht : aw C1 C2 r) : aw C1 C2 ((i, .x id) :: r) := thX (h1.trans h2.symm) ht
end Go.AX
namespace Go.AX
theorem dK {C1 C2 : Cx} {i id : Nat} {v u : Value} {r : List (Nat × AV)} (h1 : C1.nu id = v) (h2 : C2.nu i = u) (e : v = u) (ht : aw C1 C2 r) : aw C1 C2 ((i, .x id) :: r) := thX (h1.trans (e.trans h2.symm)) ht
end Go.AX
end
