/- A part of the proof: an interpreter of the model's own code on partly known states, and that what it answers is what the program answers. No condition of its own. -/
import Derived.Test.YtojgdbbjblaalaaDoorAXe
import Derived.Laws.StructEq
import Derived.Laws.IdiomStrings
set_option linter.unusedSimpArgs false
set_option linter.unusedVariables false
namespace Go.AX
open Go.RowKit (Below)
theorem bnd_inv {α β : Type} {m : M α} {f : α → M β} {S S' : St} {x : β} (h : bnd m f S = some (x, S')) : ∃ a S1, m S = some (a, S1) ∧ f a S1 = some (x, S') := by
  unfold bnd at h
  cases hm : m S with
  | none => rw [hm] at h; cases h
  | some r => obtain ⟨a, S1⟩ := r; rw [hm] at h; exact ⟨a, S1, rfl, h⟩
theorem lft_inv {α : Type} {o : Option α} {S S' : St} {a : α} (h : lft o S = some (a, S')) : o = some a ∧ S' = S := by
  unfold lft at h
  cases o with
  | none => cases h
  | some b => injection h with h; injection h with h1 h2; subst h1; exact ⟨rfl, h2.symm⟩
theorem ret_inv {α : Type} {a x : α} {S S' : St} (h : ret a S = some (x, S')) : x = a ∧ S' = S := by
  injection h with h; injection h with h1 h2; exact ⟨h1.symm, h2.symm⟩
theorem fail_inv {α : Type} {S S' : St} {x : α} (h : (fail : M α) S = some (x, S')) : False := by cases h
theorem rd_inv {v : Nat} {S S' : St} {k : Blk} (h : rd v S = some (k, S')) : S.heap.get v = some k ∧ S'.heap = S.heap ∧ S'.next = S.next := by
  unfold rd at h
  cases hg : S.heap.get v with
  | none => rw [hg] at h; cases h
  | some k' => rw [hg] at h; injection h with h; injection h with h1 h2; subst h1; subst h2; exact ⟨rfl, rfl, rfl⟩
theorem upd_inv {v : Nat} {S S' : St} {k : Blk} {u : Unit} (h : upd v k S = some (u, S')) : v < S.next ∧ v ≤ 16777213 ∧ S'.heap = S.heap.set v k ∧ S'.next = S.next := by
  unfold upd at h
  cases hc : (Nat.blt v S.next && Nat.ble v 16777213) with
  | false => rw [hc] at h; cases h
  | true =>
    rw [hc] at h; injection h with h; injection h with h1 h2; subst h2
    rw [Bool.and_eq_true] at hc
    exact ⟨Nat.le_of_ble_eq_true hc.1, Nat.le_of_ble_eq_true hc.2, rfl, rfl⟩
theorem kill_inv {v : Nat} {S S' : St} {u : Unit} (h : kill v S = some (u, S')) : v < S.next ∧ v ≤ 16777213 ∧ S'.heap = S.heap.del v ∧ S'.next = S.next := by
  unfold kill at h
  cases hc : (Nat.blt v S.next && Nat.ble v 16777213) with
  | false => rw [hc] at h; cases h
  | true =>
    rw [hc] at h; injection h with h; injection h with h1 h2; subst h2
    rw [Bool.and_eq_true] at hc
    exact ⟨Nat.le_of_ble_eq_true hc.1, Nat.le_of_ble_eq_true hc.2, rfl, rfl⟩
theorem new_inv {S S' : St} {k : Blk} {v : Nat} (h : new k S = some (v, S')) : v = S.next ∧ S.next ≤ 16777213 ∧ S'.heap = S.heap.set S.next k ∧ S'.next = S.next + 1 := by
  unfold new at h
  cases hc : Nat.ble S.next 16777213 with
  | false => rw [hc] at h; cases h
  | true =>
    rw [hc] at h; injection h with h; injection h with h1 h2; subst h2
    exact ⟨h1.symm, Nat.le_of_ble_eq_true hc, rfl, rfl⟩
theorem lb {α β : Type} {o : Option α} {f : α → M β} {S S' : St} {x : β} (h : bnd (lft o) f S = some (x, S')) : ∃ a, o = some a ∧ f a S = some (x, S') := by
  obtain ⟨a, S1, h1, h2⟩ := bnd_inv h
  obtain ⟨e1, e2⟩ := lft_inv h1
  exact ⟨a, e1, by rw [← e2]; exact h2⟩
theorem rb {β : Type} {v : Nat} {f : Blk → M β} {S S' : St} {x : β} (h : bnd (rd v) f S = some (x, S')) : ∃ k S1, S.heap.get v = some k ∧ S1.heap = S.heap ∧ S1.next = S.next ∧ f k S1 = some (x, S') := by
  obtain ⟨k, S1, h1, h2⟩ := bnd_inv h
  obtain ⟨e1, e2, e3⟩ := rd_inv h1
  exact ⟨k, S1, e1, e2, e3, h2⟩
theorem cond_inv {α : Type} {c : Bool} {S S' : St} {m : M α} {x : α} (h : (cond c m fail) S = some (x, S')) : c = true ∧ m S = some (x, S') := by
  cases c with
  | false => cases h
  | true => exact ⟨rfl, h⟩
theorem cond_inv' {α : Type} {c : Bool} {S S' : St} {m : M α} {x : α} (h : (cond c fail m) S = some (x, S')) : c = false ∧ m S = some (x, S') := by
  cases c with
  | true => cases h
  | false => exact ⟨rfl, h⟩
theorem and_ble {a b c d : Nat} (h : (Nat.ble a b && Nat.ble c d) = true) : a ≤ b ∧ c ≤ d := by
  rw [Bool.and_eq_true] at h; exact ⟨Nat.le_of_ble_eq_true h.1, Nat.le_of_ble_eq_true h.2⟩
theorem beq_inv {a b : Nat} (h : Nat.beq a b = true) : a = b := Nat.eq_of_beq_eq_true h
theorem beq_false_inv {a b : Nat} (h : Nat.beq a b = false) : a ≠ b := Nat.ne_of_beq_eq_false h

structure TyOk (P : Program) (tb : Tab) : Prop where
  ty : ∀ t ti, tb.ty.get t = some ti → ∃ i, P.info? t = some i ∧ ti = mkTI P t i
section
variable {P : Program} {tb : Tab}
theorem kOf_int {t : Nat} {k : IntKind} (h : kOf P t = .int k) : P.underlying t = some (.int k) := by
  unfold kOf at h; split at h <;> first | (cases h; done) | (injection h with h; subst h; assumption) | (revert h; cases (List.all _ _) <;> intro h <;> cases h)
theorem kOf_bool {t : Nat} (h : kOf P t = .bool) : P.underlying t = some .bool := by
  unfold kOf at h; split at h <;> first | (cases h; done) | assumption | (revert h; cases (List.all _ _) <;> intro h <;> cases h)
theorem kOf_str {t : Nat} (h : kOf P t = .str) : P.underlying t = some .string := by
  unfold kOf at h; split at h <;> first | (cases h; done) | assumption | (revert h; cases (List.all _ _) <;> intro h <;> cases h)
theorem kOf_uptr {t : Nat} (h : kOf P t = .uptr) : P.underlying t = some .unsafePointer := by
  unfold kOf at h; split at h <;> first | (cases h; done) | assumption | (revert h; cases (List.all _ _) <;> intro h <;> cases h)
theorem kOf_slice {t e : Nat} (h : kOf P t = .slice e) : P.underlying t = some (.slice e) := by
  unfold kOf at h; split at h <;> first | (cases h; done) | (injection h with h; subst h; assumption) | (revert h; cases (List.all _ _) <;> intro h <;> cases h)
theorem kOf_ptr {t e : Nat} (h : kOf P t = .ptr e) : P.underlying t = some (.pointer e) := by
  unfold kOf at h; split at h <;> first | (cases h; done) | (injection h with h; subst h; assumption) | (revert h; cases (List.all _ _) <;> intro h <;> cases h)
theorem kOf_arr {t n e : Nat} (h : kOf P t = .arr n e) : P.underlying t = some (.array n e) := by
  unfold kOf at h; split at h <;> first | (cases h; done) | (injection h with h1 h2; subst h1; subst h2; assumption) | (revert h; cases (List.all _ _) <;> intro h <;> cases h)
theorem kOf_struct {t : Nat} (h : kOf P t = .struct) : ∃ fs, P.underlying t = some (.struct fs) ∧ fldsOf P t = fs.toList ∧ P.fieldsOf t = fs ∧ ∀ f ∈ fs.toList, ∃ i, P.info? f.type = some i := by
  unfold kOf at h; split at h <;> first
    | (cases h; done)
    | (rename_i fs hu
       cases hc : (fs.toList.all fun f => (P.info? f.type).isSome) with
       | false => rw [hc] at h; cases h
       | true => exact ⟨fs, hu, by simp [fldsOf, hu], by simp [Program.fieldsOf, hu], fun f hf => Option.isSome_iff_exists.1 (List.all_eq_true.1 hc f hf)⟩)
theorem kOf_iface {t : Nat} {b : Bool} (h : kOf P t = .iface b) : ∃ ms, P.underlying t = some (.interface ms) := by
  unfold kOf at h; split at h <;> first | (cases h; done) | exact ⟨_, by assumption⟩ | (revert h; cases (List.all _ _) <;> intro h <;> cases h)
theorem kOf_func {t : Nat} (h : kOf P t = .func) : ∃ a b c, P.underlying t = some (.func a b c) := by
  unfold kOf at h; split at h <;> first | (cases h; done) | exact ⟨_, _, _, by assumption⟩ | (revert h; cases (List.all _ _) <;> intro h <;> cases h)
theorem run_info {t : Nat} {i : TypeInfo} (h : P.info? t = some i) (w : World) : (typeInfo t).run P w = .ok i w := by simp [typeInfo, h]
theorem run_size {t : Nat} {i : TypeInfo} (h : P.info? t = some i) (w : World) : (sizeOf t).run P w = .ok i.size w := by simp [sizeOf, run_info h]
theorem info_under {t : Nat} {i : TypeInfo} (h : P.info? t = some i) (hk : isAgg (kOf P t) = true) : ∃ d, P.underlying t = some d ∧ (match d with | .struct _ | .array _ _ => true | _ => false) = true := by
  unfold kOf at hk; split at hk <;> first | (cases hk; done) | exact ⟨_, by assumption, rfl⟩
theorem run_isAgg_true {t : Nat} (hk : isAgg (kOf P t) = true) (w : World) : (Go.isAgg t).run P w = .ok true w := by
  unfold kOf at hk; split at hk <;> first | (cases hk; done) | (rename_i hu; simp [Go.isAgg, run_underlying hu])
end
theorem ofV_ok (C : Cx) (ρ : Rho) (v : Value) : Rel C ρ (ofV v) v := by
  unfold ofV
  split <;> simp only [Rel, RelL]
  · rename_i s
    obtain ⟨h1, h2⟩ := packL_eq s.data.toList
    exact ⟨by rw [h2], h1⟩
  · exact ⟨[], [], rfl, rfl, rfl⟩
  · exact ⟨[], rfl, rfl⟩
theorem avZ_ok (C : Cx) (ρ : Rho) (v : Value) : Rel C ρ (avZ v) v := by
  unfold avZ
  split
  · rename_i cs
    simp only [Rel]
    exact ⟨cs.toList, rfl, by simpa using RelL.map ofV id (fun x => ofV_ok C ρ x) cs.toList⟩
  · exact ofV_ok C ρ v
theorem cells_ok (C : Cx) (ρ : Rho) (v : Value) : RelL C ρ (v.cells.toList.map ofV) v.cells.toList := by
  simpa using RelL.map ofV id (fun x => ofV_ok C ρ x) v.cells.toList
def Out (C : Cx) (ng B : Nat) (ρ : Rho) (w : World) (S S' : St) (v : AV) (r : Result Value) : Prop :=
  ∃ ρ' x w', r = .ok x w' ∧ Rel C ρ' v x ∧ Fits C ng B ρ' S'.heap w' ∧ Ext ρ ρ' S.next S'.next ∧ Below B w w'
theorem Out.same {C : Cx} {ng B : Nat} {ρ : Rho} {w : World} {S S' : St} {v : AV} {x : Value} {r : Result Value} (hF : Fits C ng B ρ S.heap w) (hh : S'.heap = S.heap) (hr : r = .ok x w) (hx : Rel C ρ v x) : Out C ng B ρ w S S' v r :=
  ⟨ρ, x, w, hr, hx, by rw [hh]; exact hF, Ext.refl _ _ _, Below.refl _ _⟩
section
variable {C : Cx} {tb : Tab} {B : Nat} {ρ : Rho} {w : World} {S S' : St}
theorem run_isAgg_false {P : Program} {t : Nat} {i : TypeInfo} (hi : P.info? t = some i) (hd : isBad (kOf P t) = false) (hk : isAgg (kOf P t) = false) (w : World) : (Go.isAgg t).run P w = .ok false w := by
  cases hu : P.underlying t with
  | none => unfold kOf at hd; rw [hu] at hd; cases hd
  | some d =>
    simp only [Go.isAgg, Sem.run_bind, run_underlying hu, Result.andThen_ok]
    unfold kOf at hk hd; rw [hu] at hk hd
    cases d <;> first | rfl | (cases hk; done) | (revert hk hd; simp only []; cases (List.all _ _) <;> intro h1 h2 <;> first | (cases h1; done) | (cases h2; done))
/-- a new block of cells -/
theorem newG_ok (hF : Fits C tb.ng B ρ S.heap w) (hng : tb.ng ≤ S.next) {k : Blk} {v : Nat} (h : new k S = some (v, S')) (hfree : Free ρ S.next S'.next) {arr : Array Value} {r : R} {fz : Nat × Nat} {w' : World}
    (hr : r.blk = w.heap.size) (hk : BlkAt C ρ B k r arr fz) (hw' : w'.heap = w.heap.push (.cells arr k.e fz)) (h1 : w'.os = w.os) (h2 : w'.tape = w.tape) (h3 : w'.output = w.output) :
    Fits C tb.ng B (put1 ρ S.next r) S'.heap w' ∧ Ext ρ (put1 ρ S.next r) S.next S'.next ∧ Below B w w' ∧ (put1 ρ S.next r) v = some r ∧ Sub ρ (put1 ρ S.next r) := by
  obtain ⟨rfl, q1, q2, q3⟩ := new_inv h
  have hf : ρ S.next = none := hfree _ (Nat.le_refl _) (by omega)
  refine ⟨by rw [q2]; exact hF.new q1 hng hf hr hk hw', ?_, ⟨h1, h2, h3, by rw [hw']; simp, fun b hb => ?_⟩, by simp [put1], put1_sub hf⟩
  · rw [q3]; exact put1_ext _ _ _
  · have := hF.size
    rw [hw', Array.getElem?_push, if_neg (by omega)]
theorem new_ok (hF : Fits C tb.ng B ρ S.heap w) (hng : tb.ng ≤ S.next) {k : Blk} {v : Nat} (h : new k S = some (v, S')) (hfree : Free ρ S.next S'.next) {arr : Array Value} {r : R}
    (hr : r.blk = w.heap.size) (hk : BlkAt C ρ B k r arr (0, 0)) :
    Fits C tb.ng B (put1 ρ S.next r) S'.heap { w with heap := w.heap.push (.cells arr k.e) } ∧ Ext ρ (put1 ρ S.next r) S.next S'.next ∧ Below B w { w with heap := w.heap.push (.cells arr k.e) } ∧ (put1 ρ S.next r) v = some r ∧ Sub ρ (put1 ρ S.next r) :=
  newG_ok hF hng h hfree hr hk rfl rfl rfl rfl
/-- a block whose cells are just these -/
theorem BlkAt.fresh {ρ : Rho} {e : Nat} {c : Cells} {vs : List Value} (hcw : CW c) (hrel : RelL C ρ c.toL vs) (h1 : ∀ x ∈ vs, x.oneCell' = true) (b : Nat) (hb : B ≤ b) :
    BlkAt C ρ B (mkBlk e c) ⟨b, 0, 0, 0⟩ vs.toArray (0, 0) := by
  refine ⟨⟨hcw, fun j a hj => ?_⟩, fun h => (by cases h), fun x _ _ h => by simp at h, fun _ => .inl rfl, fun h => by simp only [] at h; omega, by show 0 + c.len ≤ _; rw [Cells.len_eq, ← hrel.len]; simp, fun _ => rfl⟩
  obtain ⟨x, hx, hr⟩ := hrel.get hj
  exact ⟨x, by simpa using hx, hr, h1 x (List.mem_of_getElem? hx)⟩
theorem alloc_ok (hF : Fits C tb.ng B ρ S.heap w) (hng : tb.ng ≤ S.next) {e : Nat} {c : Cells} {v : Nat} (h : new (mkBlk e c) S = some (v, S')) (hfree : Free ρ S.next S'.next)
    (hcw : CW c) {vs : List Value} (hrel : RelL C ρ c.toL vs) (h1 : ∀ x ∈ vs, x.oneCell' = true) :
    ∃ ρ' w', (newRow e vs.toArray).run C.P w = .ok ⟨w.heap.size, 0, none⟩ w' ∧ Fits C tb.ng B ρ' S'.heap w' ∧ Ext ρ ρ' S.next S'.next ∧ Below B w w' ∧ ρ' v = some ⟨w.heap.size, 0, 0, 0⟩ ∧ Sub ρ ρ' := by
  obtain ⟨a, b, c', d, f⟩ := new_ok hF hng h hfree (r := ⟨w.heap.size, 0, 0, 0⟩) rfl (BlkAt.fresh (e := e) hcw hrel h1 _ hF.size)
  exact ⟨_, _, by simp [newRow, mkBlk], a, b, c', d, f⟩
theorem cellsOf_ok {a : AV} {l : List AV} {v : Value} (h : cellsOf a = some l) (hr : Rel C ρ a v) : RelL C ρ l v.cells.toList := by
  cases a with
  | und => cases h
  | tu _ => cases h
  | ag m => simp only [cellsOf, Option.some.injEq] at h; subst h; simp only [Rel] at hr; obtain ⟨cs, rfl, h2⟩ := hr; exact h2
  | sl b o n c r =>
    simp only [cellsOf, Option.some.injEq] at h; subst h
    have h1 := scal_one (a := .sl b o n c r) rfl hr
    have : v.cells = #[v] := by cases v <;> first | rfl | (cases h1; done)
    rw [this]; simp only [RelL]; exact ⟨v, [], rfl, hr, rfl⟩
  | _ =>
    simp only [cellsOf, Option.some.injEq] at h; subst h
    have h1 := scal_one rfl hr
    have : v.cells = #[v] := by cases v <;> first | rfl | (cases h1; done)
    rw [this]; simp only [RelL]; exact ⟨v, [], rfl, hr, rfl⟩
end
end Go.AX
