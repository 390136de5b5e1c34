/- A part of the proof: an interpreter of the model's own code on partly known states, and that what it answers is what the program answers. No condition of its own. -/
import Derived.Test.YtkhcgoeccmkmdaaGreatDoorAXpart1
import Derived.Laws.LoneSync
import Derived.Laws.BytesString
import Derived.MapKept
import Derived.Orders
import Derived.Calls
import Derived.CallsIn
import Derived.OrdersIn
import Derived.LoopNIn
import Derived.RangeFuncIn
section
set_option linter.unusedSimpArgs false
set_option linter.unusedVariables false
namespace Go.AX
section
variable {C : Cx} {tb : Tab} {B : Nat} {ρ : Rho} {w : World} {S S' : St}
variable {f : Operand → AV} {g : Operand → Value}
theorem s_index (ht : TyOk C.P tb) (hh : HypOk C tb) (hF : Fits C tb.ng B ρ S.heap w) (hf : ∀ x, Rel C ρ (f x) (g x)) {t : Nat} {x ix : Operand} {o : Oper} (ho : o.op = .index t x ix) {v : AV} (h : simple tb f (.index t x ix) S = some (v, S')) :
    SOut C tb.ng B ρ w S S' v ((execOp g o).run C.P w) := by
  have hx := hf x
  simp only [simple] at h
  obtain ⟨ti, e1, h1⟩ := lb h
  obtain ⟨i, hi', rfl⟩ := ht.ty _ _ e1
  rw [mkTI_k] at h1
  have fin : ∀ {z : Value}, S' = S → Rel C ρ v z → (Instr.index t (g x) (g ix)).run C.P w = .ok z w → SOut C tb.ng B ρ w S S' v ((execOp g o).run C.P w) := by
    intro z e hz hrun
    subst e
    refine .same hF rfl (x := z) ?_ hz
    simp only [execOp, ho]
    rw [Sem.run_bind, hrun]
    try rfl
  cases hk : kOf C.P t <;> rw [hk] at h1 <;> try (cases hfx : f x <;> cases hn : asN (f ix) <;> rw [hfx, hn] at h1 <;> exact (fail_inv h1).elim)
  case str =>
    have hu := kOf_str hk
    cases hfx : f x <;> rw [hfx] at h1 hx <;> try (cases hn : asN (f ix) <;> rw [hn] at h1 <;> exact (fail_inv h1).elim)
    · rename_i k m
      cases hn : asN (f ix) with
      | none => rw [hn] at h1; exact (fail_inv h1).elim
      | some n =>
        rw [hn] at h1
        obtain ⟨kk, hg⟩ := asN_ok hn (hf ix)
        obtain ⟨hlt, h2⟩ := cond_inv h1
        have hlt : n < k := Nat.le_of_ble_eq_true hlt
        obtain ⟨rfl, e⟩ := ret_inv h2
        simp only [Rel] at hx
        obtain ⟨hgx, _⟩ := hx
        refine fin e (z := .int .u8 (byteAt m n : Nat)) (by simp only [Rel]; rfl) ?_
        rw [hgx, hg, run_index_string w t _ kk n hu]
        have hsz : (⟨(strB k m).toArray⟩ : ByteArray).size = k := by simp [ByteArray.size, strB_length]
        rw [dif_pos (by rw [hsz]; omega)]
        congr 2
        have hb : (⟨(strB k m).toArray⟩ : ByteArray)[(n : Int).toNat]'(by rw [hsz]; omega) = UInt8.ofNat (byteAt m n) := by
          show ((strB k m).toArray)[(n : Int).toNat]'_ = _
          have := strB_get k m n hlt
          rw [List.getElem?_eq_getElem (by rw [strB_length]; exact hlt)] at this
          simpa using this
        rw [hb, ofNat_toNat _ (byteAt_lt _ _)]
    · rename_i id
      have h2 : lft (hl tb.hyp (.idx (.x id) (f ix))) S = some (v, S') := by cases hn : asN (f ix) <;> rw [hn] at h1 <;> exact h1
      obtain ⟨h3, e⟩ := lft_inv h2
      obtain ⟨z, hz, hrun⟩ := hyp_ok hh h3 ρ _ _ hx (hf ix)
      exact fin e hz (hrun t w hu)
  case arr m e =>
    have hu := kOf_arr hk
    cases hfx : f x <;> rw [hfx] at h1 hx <;> try (cases hn : asN (f ix) <;> rw [hn] at h1 <;> exact (fail_inv h1).elim)
    rename_i l
    cases hn : asN (f ix) with
    | none => rw [hn] at h1; exact (fail_inv h1).elim
    | some n =>
      rw [hn] at h1
      obtain ⟨kk, hg⟩ := asN_ok hn (hf ix)
      obtain ⟨hlt, h2⟩ := cond_inv h1
      have hlt : n < m := Nat.le_of_ble_eq_true hlt
      obtain ⟨te, e2, h3⟩ := lb h2
      obtain ⟨ie, hie, rfl⟩ := ht.ty _ _ e2
      obtain ⟨h4, e'⟩ := lft_inv h3
      simp only [Rel] at hx
      obtain ⟨cs, hgx, hrel⟩ := hx
      obtain ⟨z, hz1, hz2⟩ := part_ok (w := w) hrel h4 (i := ie) hie rfl rfl rfl
      refine fin e' hz2 ?_
      have hz1 : (Go.part e ⟨cs⟩ (n * ie.size)).run C.P w = .ok z w := hz1
      have h0 : (0 : Int) ≤ n ∧ (n : Int) < m := by omega
      rw [hgx, hg]
      simp [Instr.index, asIntOf, run_underlying hu, h0, hlt, run_size hie, hz1]
theorem zero_ok {P : Program} {t : Nat} {i : TypeInfo} (hi : P.info? t = some i) {z : AV} (hz : (mkTI P t i).zero = some z) (w : World) : ∃ y, (zeroValue t).run P w = .ok y w ∧ z = avZ y := by
  cases hzz : i.zero with
  | none => simp [mkTI, hzz] at hz
  | some y => simp only [mkTI, hzz, Option.map_some, Option.some.injEq] at hz; exact ⟨y, by simp [zeroValue, run_info hi, hzz], hz.symm⟩
theorem rel_pair {ρ : Rho} {a : AV} {v : Value} {b : Bool} (h : Rel C ρ a v) : Rel C ρ (.tu [a, .b b]) (.tuple #[v, .bool b]) := by
  simp only [Rel, RelL]; exact ⟨[v, .bool b], rfl, v, [.bool b], rfl, h, .bool b, [], rfl, rfl, rfl⟩
theorem s_typeAssert (ht : TabOk C tb) (hF : Fits C tb.ng B ρ S.heap w) (hf : ∀ x, Rel C ρ (f x) (g x)) {x : Operand} {xt t : Nat} {ok : Bool} {o : Oper} (ho : o.op = .typeAssert x xt t ok) {v : AV} (h : simple tb f (.typeAssert x xt t ok) S = some (v, S')) :
    SOut C tb.ng B ρ w S S' v ((execOp g o).run C.P w) := by
  have hx := hf x
  simp only [simple] at h
  have fin : ∀ {z : Value}, S' = S → Rel C ρ v z → (Instr.typeAssert (g x) xt t ok).run C.P w = .ok z w → SOut C tb.ng B ρ w S S' v ((execOp g o).run C.P w) := by
    intro z e hz hrun
    subst e
    refine .same hF rfl (x := z) ?_ hz
    simp only [execOp, ho]
    rw [Sem.run_bind, hrun]
    try rfl
  cases hfx : f x <;> rw [hfx] at h hx <;> try exact (fail_inv h).elim
  · -- nil
    obtain ⟨hok, h1⟩ := cond_inv h
    obtain ⟨ti, e1, h2⟩ := lb h1
    obtain ⟨i, hi, rfl⟩ := ht.ty _ _ e1
    obtain ⟨hbad, h2'⟩ := cond_inv' h2
    obtain ⟨z, hz, h3⟩ := lb h2'
    obtain ⟨rfl, e⟩ := ret_inv h3
    obtain ⟨y, hy, rfl⟩ := zero_ok hi hz w
    simp only [Rel] at hx
    refine fin e (rel_pair (avZ_ok C ρ y)) ?_
    rw [hx, hok]
    cases hu : C.P.underlying t with
    | none => simp [mkTI, kOf, hu, isBad] at hbad
    | some d => cases d <;> simp [Instr.typeAssert, run_underlying hu, hy]
  · rename_i d a
    simp only [Rel] at hx
    obtain ⟨xv, hgx, hxr⟩ := hx
    obtain ⟨ti, e1, h1⟩ := lb h
    obtain ⟨i, hi, rfl⟩ := ht.ty _ _ e1
    obtain ⟨hbad, h2⟩ := cond_inv' h1
    rw [mkTI_k] at h2
    have hbad : isBad (kOf C.P t) = false := hbad
    cases hif : isIf (kOf C.P t) with
    | true =>
      rw [hif] at h2
      obtain ⟨r, e2, h3⟩ := lb h2
      obtain ⟨want, id, hu, hid, hr⟩ := ht.imp _ _ _ e2
      cases r with
      | true =>
        obtain ⟨rfl, e⟩ := ret_inv h3
        have hm : Instr.missingMethod want id.methods = none := by
          cases hmm : Instr.missingMethod want id.methods with
          | none => rfl
          | some q => rw [hmm] at hr; cases hr
        cases ok with
        | true => exact fin e (rel_pair (a := .ifc d a) (by simp only [Rel]; exact ⟨xv, hgx, hxr⟩)) (by rw [hgx]; simp [Instr.typeAssert, run_underlying hu, run_info hid, hm])
        | false => exact fin e (z := .iface d xv) (by show Rel C ρ (.ifc d a) _; simp only [Rel]; exact ⟨xv, rfl, hxr⟩) (by rw [hgx]; simp [Instr.typeAssert, run_underlying hu, run_info hid, hm])
      | false =>
        obtain ⟨hok, h4⟩ := cond_inv h3
        obtain ⟨z, hz, h5⟩ := lb h4
        obtain ⟨rfl, e⟩ := ret_inv h5
        obtain ⟨y, hy, rfl⟩ := zero_ok hi hz w
        have hm : ∃ q, Instr.missingMethod want id.methods = some q := by
          cases hmm : Instr.missingMethod want id.methods with
          | none => rw [hmm] at hr; cases hr
          | some q => exact ⟨q, rfl⟩
        obtain ⟨q, hm⟩ := hm
        exact fin e (rel_pair (avZ_ok C ρ y)) (by rw [hgx, hok]; simp [Instr.typeAssert, run_underlying hu, run_info hid, hm, hy])
    | false =>
      rw [hif] at h2
      simp only [cond_false] at h2
      have hun : ∃ du, C.P.underlying t = some du ∧ ∀ ms, du ≠ .interface ms := by
        cases hu : C.P.underlying t with
        | none => simp [kOf, hu, isBad] at hbad
        | some du => exact ⟨du, rfl, fun ms e => by subst e; simp [kOf, hu, isIf] at hif⟩
      obtain ⟨du, hu, hnd⟩ := hun
      cases hdt : Nat.beq d t with
      | true =>
        rw [hdt] at h2
        have := beq_inv hdt
        subst this
        obtain ⟨rfl, e⟩ := ret_inv h2
        cases ok with
        | true => exact fin e (rel_pair hxr) (by rw [hgx]; cases du <;> first | exact absurd rfl (hnd _) | simp [Instr.typeAssert, run_underlying hu])
        | false => exact fin e hxr (by rw [hgx]; cases du <;> first | exact absurd rfl (hnd _) | simp [Instr.typeAssert, run_underlying hu])
      | false =>
        rw [hdt] at h2
        have hne := beq_false_inv hdt
        obtain ⟨hok, h4⟩ := cond_inv h2
        obtain ⟨z, hz, h5⟩ := lb h4
        obtain ⟨rfl, e⟩ := ret_inv h5
        obtain ⟨y, hy, rfl⟩ := zero_ok hi hz w
        exact fin e (rel_pair (avZ_ok C ρ y)) (by rw [hgx, hok]; cases du <;> first | exact absurd rfl (hnd _) | simp [Instr.typeAssert, run_underlying hu, hne, hy])
theorem made_eq (z : Array Value) (n s : Nat) (h : z.toList.length = s) : (madeCells z (n * s)).toList = (List.replicate n z.toList).flatten := by
  apply List.ext_getElem?
  intro j
  have hl : ((List.replicate n z.toList).flatten).length = n * s := by simp [h]
  have hl2 : (madeCells z (n * s)).toList.length = n * s := by simp [size_madeCells]
  by_cases hj : j < n * s
  · have hs : 0 < s := by rcases Nat.eq_zero_or_pos s with h0 | h0
                          · subst h0; omega
                          · exact h0
    have hz : j % z.size < z.size := Nat.mod_lt _ (by simp at h; omega)
    have hzs : z.size = s := by simpa using h
    have e1 : (madeCells z (n * s)).toList[j]? = some (z[j % z.size]'hz) := by
      simp [madeCells, hj, hz]
    have e2 : ∀ (n j : Nat), j < n * s → ((List.replicate n z.toList).flatten)[j]? = z.toList[j % s]? := by
      intro n
      induction n with
      | zero => intro j hj; simp at hj
      | succ n ih =>
        intro j hj
        simp only [List.replicate_succ, List.flatten_cons, List.getElem?_append]
        rw [h]
        split
        · rename_i hlt; rw [Nat.mod_eq_of_lt hlt]
        · rename_i hlt
          rw [ih _ (by rw [Nat.succ_mul] at hj; omega), Nat.mod_eq_sub_mod (a := j) (b := s) (by omega)]
    rw [e1, e2 n j hj, ← hzs]
    simp [hz]
  · rw [List.getElem?_eq_none (by omega), List.getElem?_eq_none (by omega)]
theorem reps_rel {P : Program} {t n : Nat} {i : TypeInfo} {z : Value} (hz : i.zero = some z) (hlen : z.cells.toList.length = i.size) (ρ : Rho) (C : Cx) :
    RelL C ρ (reps (mkTI P t i).zc n).toL (madeCells z.cells (n * i.size)).toList ∧ CW (reps (mkTI P t i).zc n) := by
  obtain ⟨h1, h2⟩ := zc_spec (P := P) (t := t) hz ρ C
  obtain ⟨r1, r2⟩ := reps_spec h2 n
  refine ⟨?_, r2⟩
  rw [r1, made_eq _ _ _ hlen]
  clear r1 r2
  induction n with
  | zero => simp [RelL]
  | succ n ih => simp only [List.replicate_succ, List.flatten_cons]; exact h1.app ih
theorem flat_one {z : List Value} (h : ∀ x ∈ z, x.oneCell' = true) (n : Nat) : ∀ x ∈ (List.replicate n z).flatten, x.oneCell' = true := by
  intro x hx
  rw [List.mem_flatten] at hx
  obtain ⟨l, hl, hx⟩ := hx
  rw [(List.mem_replicate.1 hl).2] at hx
  exact h x hx
theorem s_makeSlice (ht : TyOk C.P tb) (hF : Fits C tb.ng B ρ S.heap w) (hng : tb.ng ≤ S.next) (hf : ∀ x, Rel C ρ (f x) (g x)) {t : Nat} {a c : Operand} {o : Oper} (ho : o.op = .makeSlice t a c) {v : AV} (h : simple tb f (.makeSlice t a c) S = some (v, S')) (hfree : Free ρ S.next S'.next) :
    SOut C tb.ng B ρ w S S' v ((execOp g o).run C.P w) := by
  simp only [simple] at h
  obtain ⟨ti, e1, h1⟩ := lb h
  obtain ⟨i, hi, rfl⟩ := ht.ty _ _ e1
  rw [mkTI_k] at h1
  cases hk : kOf C.P t <;> rw [hk] at h1 <;> try exact (fail_inv h1).elim
  rename_i e
  have hu := kOf_slice hk
  cases ha : asN (f a) with
  | none => rw [ha] at h1; exact (fail_inv h1).elim
  | some n =>
    cases hc : asN (f c) with
    | none => rw [ha, hc] at h1; exact (fail_inv h1).elim
    | some m =>
      rw [ha, hc] at h1
      obtain ⟨ka, hga⟩ := asN_ok ha (hf a)
      obtain ⟨kc, hgc⟩ := asN_ok hc (hf c)
      obtain ⟨te, e2, h2⟩ := lb h1
      obtain ⟨ie, hie, rfl⟩ := ht.ty _ _ e2
      obtain ⟨hcnd, h3⟩ := cond_inv h2
      simp only [Bool.and_eq_true] at hcnd
      obtain ⟨⟨⟨c1, c2⟩, c3⟩, c4⟩ := hcnd
      have c1 := Nat.le_of_ble_eq_true c1
      have c2 : ie.bytes * m ≤ 281474976710656 := Nat.le_of_ble_eq_true c2
      have c3 := Nat.le_of_ble_eq_true c3
      obtain ⟨z, hz, hone, hlen⟩ := zs_spec c4
      obtain ⟨b, S1, h4, h5⟩ := bnd_inv h3
      obtain ⟨rfl, rfl⟩ := ret_inv h5
      obtain ⟨hrel, hcw⟩ := reps_rel (P := C.P) (t := e) (n := m) hz hlen ρ C
      obtain ⟨ρ', w', r1, r2, r3, r4, r5, r6⟩ := alloc_ok hF hng h4 hfree hcw hrel (by rw [made_eq _ _ _ hlen]; exact flat_one hone m)
      refine ⟨ρ', .slice (some ⟨w.heap.size, 0, none⟩) n m, w', .inl ?_, ?_, r2, r3, r4⟩
      · have hr := run_make (P := C.P) w t e ie z hu hie hz ka kc (n : Int) (m : Int) (by omega) (by omega) (by rw [← Int.natCast_mul]; omega) (by omega)
        have hw : w' = w.alloc (.cells (madeCells z.cells (m * ie.size)) e) := by
          simp only [newRow, Sem.run_bind, run_newObj, Result.andThen_ok, Sem.run_pure, Result.ok.injEq] at r1
          rw [← r1.2]; rfl
        simp only [execOp, ho, hga, hgc]
        rw [Sem.run_bind, hr, hw]
        simp only [Result.andThen_ok, Sem.run_pure, Int.toNat_natCast]
      · simp only [Rel]; exact ⟨_, r5, c1, rfl⟩
theorem s_buildSlice (ht : TyOk C.P tb) (hF : Fits C tb.ng B ρ S.heap w) (hng : tb.ng ≤ S.next) (hf : ∀ x, Rel C ρ (f x) (g x)) {t n : Nat} {ps : Array (Nat × Operand)} {o : Oper} (ho : o.op = .buildSlice t n ps) {v : AV} (h : simple tb f (.buildSlice t n ps) S = some (v, S')) (hfree : Free ρ S.next S'.next) :
    SOut C tb.ng B ρ w S S' v ((execOp g o).run C.P w) := by
  simp only [simple] at h
  obtain ⟨ti, e1, h1⟩ := lb h
  obtain ⟨i, hi, rfl⟩ := ht.ty _ _ e1
  rw [mkTI_k] at h1
  cases hk : kOf C.P t <;> rw [hk] at h1 <;> try exact (fail_inv h1).elim
  rename_i e
  have hu := kOf_slice hk
  obtain ⟨te, e2, h2⟩ := lb h1
  obtain ⟨ie, hie, rfl⟩ := ht.ty _ _ e2
  obtain ⟨hle, h3⟩ := cond_inv h2
  have hle : n * ie.size ≤ 16777216 := Nat.le_of_ble_eq_true hle
  obtain ⟨l, h4, h5⟩ := lb h3
  obtain ⟨hcnd, h6⟩ := cond_inv h5
  simp only [Bool.and_eq_true] at hcnd
  obtain ⟨hsc, hzs⟩ := hcnd
  obtain ⟨z, hz, hone, hlen⟩ := zs_spec hzs
  obtain ⟨b, S1, h7, h8⟩ := bnd_inv h6
  obtain ⟨rfl, rfl⟩ := ret_inv h8
  obtain ⟨hrel, hcw⟩ := reps_rel (P := C.P) (t := e) (n := n) hz hlen ρ C
  obtain ⟨out, o1, o2⟩ := fill_ok (cs := madeCells z.cells (n * ie.size)) hf ps.toList _ _ hrel h4
  have houts : ∀ y ∈ out.toList, y.oneCell' = true := fun y hy => by
    obtain ⟨j, hj, he⟩ := List.mem_iff_getElem.1 hy
    have hj' : j < l.length := by rw [← o2.len]; exact hj
    obtain ⟨x', hx', hr'⟩ := o2.get (List.getElem?_eq_getElem hj')
    rw [List.getElem?_eq_getElem hj, he] at hx'; injection hx' with hx'; subst hx'
    exact scal_one (List.all_eq_true.1 hsc _ (List.getElem_mem hj')) hr'
  obtain ⟨s1, s2⟩ := toCells_spec (isU8K (mkTI C.P e ie).k) l
  obtain ⟨ρ', w', r1, r2, r3, r4, r5, r6⟩ := alloc_ok hF hng h7 hfree s2 (by rw [s1]; exact o2) houts
  refine ⟨ρ', .slice (some ⟨w.heap.size, 0, none⟩) n n, w', .inl ?_, ?_, r2, r3, r4⟩
  · have o1' : Instr.fill (fun i => some (i * ie.size, ie.size)) (madeCells z.cells (n * ie.size)) (ps.toList.map fun p => (p.1, g p.2)) = some out := o1
    have r1' : (newRow e out).run C.P w = .ok ⟨w.heap.size, 0, none⟩ w' := by simpa using r1
    have hgt : ¬ (n * ie.size > 2 ^ 24) := by omega
    by_cases h0 : n * ie.size = 0
    · have hm : madeCells z.cells (n * ie.size) = #[] := by rw [h0]; exact Array.eq_empty_of_size_eq_zero (size_madeCells _ _)
      have hm2 : madeCells #[] (n * ie.size) = #[] := by rw [h0]; exact Array.eq_empty_of_size_eq_zero (size_madeCells _ _)
      rw [hm] at o1'
      have hr2 : (Array.map (fun x => (#[] : Array Value)[x % (#[] : Array Value).size]!) (Array.range (n * ie.size))) = #[] := hm2
      simp only [execOp, ho, Instr.buildSlice, Sem.run_bind, run_underlying hu, Result.andThen_ok, run_size hie, Sem.run_ite, if_neg hgt, if_pos h0, Sem.run_pure, hr2]
      have : (Array.map (fun x : Nat × Operand => (x.fst, g x.snd)) ps).toList = ps.toList.map fun p => (p.1, g p.2) := by simp
      simp only [this, o1', Sem.run_bind, r1', Result.andThen_ok, Sem.run_pure]
    · simp only [execOp, ho, Instr.buildSlice, Sem.run_bind, run_underlying hu, Result.andThen_ok, run_size hie, Sem.run_ite, if_neg hgt, if_neg h0, Sem.run_pure, zeroValue, run_info hie, hz]
      have : (Array.map (fun x : Nat × Operand => (x.fst, g x.snd)) ps).toList = ps.toList.map fun p => (p.1, g p.2) := by simp
      have o1'' : Instr.fill (fun i => some (i * ie.size, ie.size)) (Array.map (fun x => z.cells[x % z.cells.size]!) (Array.range (n * ie.size))) (ps.toList.map fun p => (p.1, g p.2)) = some out := o1'
      simp only [this, o1'', Sem.run_bind, r1', Result.andThen_ok, Sem.run_pure]
  · simp only [Rel]; exact ⟨_, r5, Nat.le_refl _, rfl⟩
end
end Go.AX
end
section
set_option linter.unusedSimpArgs false
set_option linter.unusedVariables false
namespace Go.AX
section
variable {C : Cx} {tb : Tab} {B : Nat} {ρ : Rho} {w : World} {S S' : St}
variable {f : Operand → AV} {g : Operand → Value}
theorem isU8_spec (ht : TyOk C.P tb) {e : Nat} (h : isU8 tb e = true) : C.P.underlying e = some (.int .u8) := by
  unfold isU8 at h
  cases hg : tb.ty.get e with
  | none => rw [hg] at h; cases h
  | some ti =>
    rw [hg] at h
    obtain ⟨i, hi, rfl⟩ := ht.ty _ _ hg
    have h : (match kOf C.P e with | .int .u8 => true | _ => false) = true := h
    cases hk : kOf C.P e <;> rw [hk] at h <;> try (cases h; done)
    rename_i k
    have hu := kOf_int hk
    cases k <;> first | exact hu | cases h
theorem slU8_spec (ht : TyOk C.P tb) {t : Nat} (h : slU8 tb (kOf C.P t) = true) : ∃ e, C.P.underlying t = some (.slice e) ∧ C.P.underlying e = some (.int .u8) := by
  cases hk : kOf C.P t <;> rw [hk] at h <;> try (cases h; done)
  exact ⟨_, kOf_slice hk, isU8_spec ht h⟩
/-- cells that are bytes, read back -/
theorem unp_rel {k m : Nat} {vs : List Value} (h : RelL C ρ (unp k m) vs) : vs = (strB k m).map fun b => .int .u8 (b.toNat : Int) := by
  apply List.ext_getElem?
  intro j
  have hl := h.len
  rw [unp_length] at hl
  by_cases hj : j < k
  · have hu : (unp k m)[j]? = some (.i .u8 (.ofNat (byteAt m j))) := by rw [unp_get, if_pos hj]
    obtain ⟨x, hx, hr⟩ := h.get hu
    simp only [Rel] at hr; subst hr
    rw [hx, List.getElem?_map, strB_get _ _ _ hj]
    simp [Nat.mod_eq_of_lt (byteAt_lt m j)]
  · rw [List.getElem?_eq_none (by omega), List.getElem?_eq_none (by simp [strB_length]; omega)]
theorem bytes_run (w : World) {src dst e : Nat} (hs : C.P.underlying src = some (.slice e)) (he : C.P.underlying e = some (.int .u8)) (hd : C.P.underlying dst = some .string) {a : Addr} {cap : Nat} (l : List UInt8) {vs : List Value} (hvs : vs = l.map fun b => .int .u8 (b.toNat : Int))
    (hc : ∀ (j : Nat) v, vs[j]? = some v → w.cell? (a.add j) = some v) : (convert src dst (.slice (some a) vs.length cap)).run C.P w = .ok (.string ⟨l.toArray⟩) w := by
  subst hvs
  rw [List.length_map]
  exact run_convert_bytes_back w src dst e a cap l hs he hd fun j hj => hc j _ (by simp [hj])
theorem sl_addr {b o n c : Nat} {q : Bool} {v : Value} (h : Rel C ρ (.sl b o n c q) v) : ∃ r a c', ρ b = some r ∧ v = .slice (some a) n c' ∧ n ≤ c' ∧ (a = ⟨r.blk, r.base + o, none⟩ ∨ n = 0) := by
  cases q <;> simp only [Rel] at h
  · obtain ⟨r, h1, h2, rfl⟩ := h; exact ⟨r, _, _, h1, rfl, h2, .inl rfl⟩
  · obtain ⟨r, a, h1, h2, rfl, h3⟩ := h; exact ⟨r, a, _, h1, rfl, by omega, h3.imp id (·.1)⟩
/-- a block marked as a string's -/
theorem stringish_ok (hF : Fits C tb.ng B ρ S.heap w) {v : Nat} {k : Blk} (hv : S.heap.get v = some (.b k)) (hvn : v ≤ 16777213) {r : R} (hr : ρ v = some r) {arr : Array Value} {fz : Nat × Nat}
    (hb : w.heap[r.blk]? = some (.cells arr k.e fz)) (hk : BlkAt C ρ B k r arr fz) (hst : k.st = false) (hg : k.g = false) (hfr : k.fr = 0) :
    Fits C tb.ng B ρ (S.heap.set v (.b { k with st := true })) (w.freeze ⟨r.blk, arr.size, none⟩ 1) ∧ Below B w (w.freeze ⟨r.blk, arr.size, none⟩ 1) := by
  have hBB : ¬ r.blk < B := fun h => by have := (hk.old h).2.1; rw [hst] at this; cases this
  obtain ⟨lo, hi⟩ := fz
  have hheap : (w.freeze ⟨r.blk, arr.size, none⟩ 1).heap = w.heap.modify r.blk fun
      | .cells c elem (lo, hi) => .cells c elem (if lo == hi then (arr.size, arr.size + 1) else (min lo arr.size, max hi (arr.size + 1)))
      | o => o := by unfold World.freeze; rw [if_neg (by omega)]; rfl
  have hat : (w.freeze ⟨r.blk, arr.size, none⟩ 1).heap[r.blk]? = some (.cells arr k.e (if lo == hi then (arr.size, arr.size + 1) else (min lo arr.size, max hi (arr.size + 1)))) := by
    rw [hheap, Array.getElem?_modify, if_pos rfl, hb]; rfl
  have hother : ∀ b, b ≠ r.blk → (w.freeze ⟨r.blk, arr.size, none⟩ 1).heap[b]? = w.heap[b]? := fun b hb' => by
    rw [hheap, Array.getElem?_modify, if_neg (fun e => hb' e.symm)]
  have hsz : (w.freeze ⟨r.blk, arr.size, none⟩ 1).heap.size = w.heap.size := by rw [hheap]; simp
  have hos : (w.freeze ⟨r.blk, arr.size, none⟩ 1).os = w.os ∧ (w.freeze ⟨r.blk, arr.size, none⟩ 1).tape = w.tape ∧ (w.freeze ⟨r.blk, arr.size, none⟩ 1).output = w.output := by
    unfold World.freeze; rw [if_neg (by omega)]; exact ⟨rfl, rfl, rfl⟩
  refine ⟨hF.upd hvn hv hr (k' := .b { k with st := true }) (o := .cells arr k.e (if lo == hi then (arr.size, arr.size + 1) else (min lo arr.size, max hi (arr.size + 1)))) ⟨rfl, ?_⟩ hat hother hsz (fun b hb' => hother b (by omega)), ⟨hos.1, hos.2.1, hos.2.2, by rw [hsz]; exact Nat.le_refl _, fun b hb' => hother b (by omega), walk_of hb hother⟩⟩
  have hpl := hk.plain hst
  have hba := hk.base0 hg
  simp only [] at hpl
  by_cases e : lo = hi
  · simp only [e, beq_self_eq_true, if_true]
    exact ⟨hk.cells, hk.grown, fun y h1 h2 => by simp only []; omega, fun h => (by cases h), fun h => absurd h hBB, hk.room, hk.base0⟩
  · exfalso; omega
theorem s_convert (ht : TyOk C.P tb) (hh : HypOk C tb) (hF : Fits C tb.ng B ρ S.heap w) (hng : tb.ng ≤ S.next) (hf : ∀ x, Rel C ρ (f x) (g x)) {src dst : Nat} {x : Operand} {o : Oper} (ho : o.op = .convert src dst x) {v : AV} (h : simple tb f (.convert src dst x) S = some (v, S')) (hfree : Free ρ S.next S'.next) :
    SOut C tb.ng B ρ w S S' v ((execOp g o).run C.P w) := by
  have hx := hf x
  simp only [simple] at h
  obtain ⟨ts, e1, h1⟩ := lb h
  obtain ⟨is, his, rfl⟩ := ht.ty _ _ e1
  obtain ⟨td, e2, h2⟩ := lb h1
  obtain ⟨id, hid, rfl⟩ := ht.ty _ _ e2
  obtain ⟨hbad, h3⟩ := cond_inv' h2
  have hbad : isBad (kOf C.P src) = false := hbad
  rw [mkTI_k, mkTI_k] at h3
  have hsome : ∃ ds, C.P.underlying src = some ds := by
    cases hu : C.P.underlying src with
    | some d => exact ⟨d, rfl⟩
    | none => simp [kOf, hu, isBad] at hbad
  obtain ⟨ds, hsrc⟩ := hsome
  have fin : ∀ {z : Value}, S'.heap = S.heap → Rel C ρ v z → (convert src dst (g x)).run C.P w = .ok z w → SOut C tb.ng B ρ w S S' v ((execOp g o).run C.P w) := by
    intro z e hz hrun
    refine .same hF e (x := z) ?_ hz
    simp only [execOp, ho]
    rw [Sem.run_bind, hrun]
    try rfl
  cases hk : kOf C.P dst <;> rw [hk] at h3 <;> try (cases hfx : f x <;> rw [hfx] at h3 <;> exact (fail_inv h3).elim)
  case int k =>
    have hu := kOf_int hk
    cases hfx : f x <;> rw [hfx] at h3 hx <;> try exact (fail_inv h3).elim
    · obtain ⟨rfl, e⟩ := ret_inv h3
      simp only [Rel] at hx
      rename_i l n
      refine fin (by rw [e]) (z := .int k (k.wrap n)) (by simp only [Rel, mkI, wrp_eq]) ?_
      rw [hx]
      simp [convert, run_underlying hsrc, run_underlying hu, Conv.intToInt]
    · obtain ⟨h4, e⟩ := lft_inv h3
      obtain ⟨_, z, hz, hrun⟩ := hyp_ok hh h4 ρ _ hx
      exact fin (by rw [e]) hz (hrun src w (by rw [hsrc]; rfl))
  case str =>
    have hu := kOf_str hk
    cases hfx : f x <;> rw [hfx] at h3 hx <;> try exact (fail_inv h3).elim
    · obtain ⟨rfl, e⟩ := ret_inv h3
      refine fin (by rw [e]) hx ?_
      simp only [Rel] at hx
      obtain ⟨hgx, _⟩ := hx
      rw [hgx]
      cases ds <;> simp [convert, run_underlying hsrc, run_underlying hu]
    · obtain ⟨hu8, h4⟩ := cond_inv h3
      obtain ⟨rfl, e⟩ := ret_inv h4
      obtain ⟨el, hs, he⟩ := slU8_spec ht hu8
      simp only [Rel] at hx
      refine fin (by rw [e]) (z := .string ⟨#[]⟩) (by simp only [Rel]; exact ⟨rfl, by simp⟩) ?_
      rw [hx]
      simp [convert, run_underlying hs, run_underlying hu, run_underlying he, Conv.bytesToString]
      rfl
    · rename_i b off n cap rest
      obtain ⟨hu8, h4⟩ := cond_inv h3
      obtain ⟨el, hs, he⟩ := slU8_spec ht hu8
      obtain ⟨k, S1, e3, e4, e5, h5⟩ := rb h4
      obtain ⟨c, h6, h7⟩ := lb h5
      obtain ⟨hle, hto, hcw⟩ := Cells.sub_spec h6
      obtain ⟨r, a, c', hr, hgx, _, ha⟩ := sl_addr hx
      obtain ⟨arr, fz, hb, hbk⟩ := get_block hF e3 hr
      obtain ⟨vs, v1, v2, v3, v4⟩ := read_ok hb hbk.cells hle
      rw [← hto] at v2
      have hcells : ∀ (j : Nat) u, vs[j]? = some u → w.cell? (a.add j) = some u := by
        rcases ha with rfl | h0
        · exact v4
        · intro j u hj; have : vs = [] := List.eq_nil_of_length_eq_zero (by omega); subst this; simp at hj
      have go : ∀ (l : List UInt8), vs = (l.map fun b => .int .u8 (b.toNat : Int)) → (convert src dst (g x)).run C.P w = .ok (.string ⟨l.toArray⟩) w := fun l hl => by
        rw [hgx, ← v1]; exact bytes_run w hs he hu l hl hcells
      have pk : ∀ (l m : Nat), unp l m = c.toL → m < 2 ^ (8 * l) → ret (AV.s l m) S1 = some (v, S') → SOut C tb.ng B ρ w S S' v ((execOp g o).run C.P w) := by
        intro l m hun hm hret
        obtain ⟨rfl, e⟩ := ret_inv hret
        rw [← hun] at v2
        exact fin (by rw [e, e4]) (z := .string ⟨(strB l m).toArray⟩) (by simp only [Rel]; exact ⟨trivial, hm⟩) (go _ (unp_rel v2))
      cases c with
      | y l m => exact pk l m rfl hcw h7
      | l us =>
        simp only [] at h7
        cases hp : packA us with
        | some rr =>
          obtain ⟨l, m⟩ := rr
          rw [hp] at h7
          obtain ⟨p1, p2, p3⟩ := packA_spec hp
          exact pk l m p2 p3 h7
        | none =>
          rw [hp] at h7
          obtain ⟨h8, e⟩ := lft_inv h7
          obtain ⟨bs, z, hz1, hz2, hz3⟩ := hyp_ok hh h8 ρ _ v2
          exact fin (by rw [e, e4]) hz3 (by rw [hz2]; exact go bs hz1)
    · obtain ⟨h4, e⟩ := lft_inv h3
      obtain ⟨_, z, hz, hrun⟩ := hyp_ok hh h4 ρ _ hx
      exact fin (by rw [e]) hz (hrun src w (by rw [hsrc]; rfl))
  case slice e =>
    have hu := kOf_slice hk
    cases hfx : f x <;> rw [hfx] at h3 hx <;> try exact (fail_inv h3).elim
    rotate_left
    · rename_i b off n c q
      obtain ⟨hc, h4⟩ := cond_inv h3
      simp only [Bool.and_eq_true] at hc
      obtain ⟨⟨⟨c1, c2⟩, c3⟩, c4⟩ := hc
      have he := isU8_spec ht c1
      have c2 : src = dst := beq_inv c2
      subst c2
      have c4 : 1 ≤ n := Nat.le_of_ble_eq_true c4
      obtain ⟨k, S1, k1, k2, k3, k4⟩ := rb h4
      obtain ⟨kc, h5⟩ := cond_inv k4
      obtain ⟨u, S2, h6, h7⟩ := bnd_inv h5
      obtain ⟨rfl, rfl⟩ := ret_inv h7
      simp only [Bool.and_eq_true, Bool.not_eq_true'] at kc
      obtain ⟨⟨⟨d1, d2⟩, d3⟩, d4⟩ := kc
      have d1 : k.e = e := beq_inv d1
      have d4 : k.fr = 0 := beq_inv d4
      obtain ⟨u1, u2, u3, u4⟩ := upd_inv h6
      obtain ⟨r, a, c', hr, hgx, _, ha⟩ := sl_addr hx
      have ha : a = ⟨r.blk, r.base + off, none⟩ := ha.resolve_right (by omega)
      obtain ⟨arr, fz, hblk, hba⟩ := get_block hF k1 hr
      obtain ⟨hF2, hb2⟩ := stringish_ok hF k1 u2 hr hblk hba d3 d2 d4
      rw [← k2] at hF2
      refine ⟨ρ, g x, w.freeze ⟨r.blk, arr.size, none⟩ 1, .inl ?_, hx, by rw [u3]; exact hF2, Ext.refl _ _ _, hb2⟩
      simp only [execOp, ho]
      rw [Sem.run_bind]
      have hrun : (convert src src (g x)).run C.P w = .ok (g x) (w.freeze ⟨r.blk, arr.size, none⟩ 1) := by
        have hsh : (shape r.blk).run C.P w = .ok (some (k.e, arr.size)) w := by rw [run_shape]; unfold World.shape?; rw [hblk]
        rw [hgx]
        simp only [convert, Sem.run_bind, run_underlying hu, Result.andThen_ok, run_underlying he, beq_self_eq_true, markStringish, ha, hsh]
        simp [Go.freeze, Sem.run]
      rw [hrun]
      try rfl
    rename_i k m
    obtain ⟨hc, h4⟩ := cond_inv h3
    rw [Bool.and_eq_true] at hc
    have he := isU8_spec ht hc.1
    have hs : C.P.underlying src = some .string := by
      have := hc.2
      cases hk' : kOf C.P src <;> rw [hk'] at this <;> try (cases this; done)
      exact kOf_str hk'
    obtain ⟨b, S1, h5, h6⟩ := bnd_inv h4
    obtain ⟨rfl, rfl⟩ := ret_inv h6
    simp only [Rel] at hx
    obtain ⟨hgx, hlt⟩ := hx
    have hsz : (⟨(strB k m).toArray⟩ : ByteArray).size = k := by simp [ByteArray.size, strB_length]
    have hrun := run_bytes_of_string (P := C.P) w src dst e ⟨(strB k m).toArray⟩ hs hu he
    rw [hsz] at hrun
    have hcap := grownCap_ge w k 0 e
    generalize hcp : grownCap w k 0 e = cp at hrun hcap
    have hrsz : (bytesRow ⟨(strB k m).toArray⟩ cp).size = cp := by simp [bytesRow, hsz, strB_length]; omega
    have hcell : ∀ j, j < k → (bytesRow ⟨(strB k m).toArray⟩ cp)[j]? = some (.int .u8 (byteAt m j : Nat)) := fun j hj => by
      unfold bytesRow
      rw [Array.getElem?_append_left (by simp [strB_length]; exact hj)]
      simp [strB_get k m j hj, Nat.mod_eq_of_lt (byteAt_lt m j)]
    rw [hrsz] at hrun
    have hba : BlkAt C ρ B ⟨e, .y k m, k, 1, 0, true, true⟩ ⟨w.heap.size, 0, cp, 1⟩ (bytesRow ⟨(strB k m).toArray⟩ cp) (cp, cp + 1) := by
      constructor
      · refine ⟨hlt, fun j a hj => ?_⟩
        simp only [Cells.toL, unp_get] at hj
        split at hj
        · rename_i hlt'
          simp only [Option.some.injEq] at hj; subst hj
          exact ⟨_, by rw [Nat.zero_add]; exact hcell j hlt', by simp only [Rel]; rfl, rfl⟩
        · cases hj
      · intro _
        refine ⟨?_, ?_, Nat.le_refl _, rfl⟩
        · rw [hrsz]; show 0 + cp * 1 = cp; omega
        · show k ≤ cp * 1; omega
      · intro y hy1 hy2
        rw [hrsz] at hy2
        show ¬ (cp ≤ y ∧ y < cp + 1)
        omega
      · intro h; cases h
      · intro h; have := hF.size; simp only [] at h; omega
      · rw [hrsz]; show 0 + k ≤ cp; omega
      · intro h; cases h
    obtain ⟨r2, r3, r4, r5, r6⟩ := newG_ok (w' := w.drew.alloc (.cells (bytesRow ⟨(strB k m).toArray⟩ cp) e (cp, cp + 1))) hF hng h5 hfree rfl hba rfl rfl rfl rfl
    refine ⟨_, .slice (some ⟨w.heap.size, 0, none⟩) k cp, _, .inl ?_, ?_, r2, r3, r4⟩
    · simp only [execOp, ho, hgx]
      rw [Sem.run_bind, hrun]
      try rfl
    · simp only [Rel]
      exact ⟨_, ⟨w.heap.size, 0, none⟩, r5, by show 0 + k ≤ cp; omega, rfl, .inl rfl⟩
  case uptr =>
    have hu := kOf_uptr hk
    cases hfx : f x <;> rw [hfx] at h3 hx <;> try exact (fail_inv h3).elim
    rename_i b off
    cases hks : kOf C.P src <;> rw [hks] at h3 <;> try exact (fail_inv h3).elim
    rename_i e
    have hs := kOf_ptr hks
    obtain ⟨te, e3, h4⟩ := lb h3
    obtain ⟨ie, hie, rfl⟩ := ht.ty _ _ e3
    obtain ⟨k, S1, e4, e5, e6, h5⟩ := rb h4
    obtain ⟨hc, h6⟩ := cond_inv' h5
    obtain ⟨rfl, e⟩ := ret_inv h6
    rw [Bool.or_eq_false_iff] at hc
    have hsz : ie.size ≠ 0 := beq_false_inv hc.1
    have hlt : off < k.c.len := by
      rcases Nat.lt_or_ge off k.c.len with h | h
      · exact h
      · rw [ble_true h] at hc; exact absurd hc.2 (by simp)
    have hx0 := hx
    simp only [Rel] at hx
    obtain ⟨r, hr, hgx⟩ := hx
    obtain ⟨arr, fz, hb, hbk⟩ := get_block hF e4 hr
    obtain ⟨vs, v1, v2, v3, v4⟩ := read_ok (o := off) (n := 1) hb hbk.cells (by omega)
    obtain ⟨u, hu0⟩ : ∃ u, vs[0]? = some u := ⟨vs[0]'(by omega), List.getElem?_eq_getElem _⟩
    have hcell := v4 0 u hu0
    rw [Addr.add_lit, Nat.add_zero] at hcell
    refine fin (by rw [e, e5]) hx0 ?_
    rw [hgx]
    exact run_convert_to_unsafe hs hu (by simp [hie, hsz]) hcell
  case ptr e =>
    have hu := kOf_ptr hk
    cases hfx : f x <;> rw [hfx] at h3 hx <;> try exact (fail_inv h3).elim
    rename_i b off
    cases hks : kOf C.P src <;> rw [hks] at h3 <;> try exact (fail_inv h3).elim
    have hs := kOf_uptr hks
    obtain ⟨te, e3, h4⟩ := lb h3
    obtain ⟨ie, hie, rfl⟩ := ht.ty _ _ e3
    obtain ⟨k, S1, e4, e5, e6, h5⟩ := rb h4
    obtain ⟨hc, h6⟩ := cond_inv h5
    obtain ⟨rfl, e'⟩ := ret_inv h6
    simp only [Bool.and_eq_true] at hc
    obtain ⟨⟨⟨⟨c1, c2⟩, c3⟩, c4⟩, c5⟩ := hc
    have c1 := beq_inv c1
    have c2 := beq_inv c2
    have c3 : k.g = false := by simpa using c3
    have c4 : 1 ≤ ie.size := Nat.le_of_ble_eq_true c4
    have c5 : ie.size ≤ k.c.len := Nat.le_of_ble_eq_true c5
    have hx0 := hx
    simp only [Rel] at hx
    obtain ⟨r, hr, hgx⟩ := hx
    obtain ⟨arr, fz, hb, hbk⟩ := get_block hF e4 hr
    refine fin (by rw [e', e5]) hx0 ?_
    have hb0 := hbk.base0 c3
    have hroom := hbk.room
    rw [hb0, Nat.zero_add] at hroom
    subst c2
    rw [hgx, hb0]
    have hsh : w.shape? r.blk = some (k.e, arr.size) := by simp [World.shape?, hb]
    have hcell : C.P.cellsOf e = ie.size := by simp [Program.cellsOf, hie]
    have hdep : ∃ d, C.P.depth = d + 1 := ⟨2 * (C.P.types.size + Made.depth) + 1, rfl⟩
    obtain ⟨d, hd⟩ := hdep
    have hla : liesAt C.P C.P.depth e (arr.size / ie.size) 0 e 1 = true := by
      rw [hd]
      simp only [liesAt, rowAt, hcell, hd]
      have h1 : ¬ ie.size = 0 := by omega
      have h2 : 1 ≤ arr.size / ie.size := (Nat.le_div_iff_mul_le (by omega)).2 (by omega)
      simp [h1, sameLayout, h2]
    have hva : (variablesAt ⟨r.blk, 0, none⟩ e 1).run C.P w = .ok true w := by
      simp [variablesAt, hsh, c1, hcell, hla]
    simp [convert, Conv.unsafePointer, Conv.seenAt, viewAt, run_underlying hs, run_underlying hu, hsh, run_size hie, hva]
end
end Go.AX
end
section
set_option linter.unusedSimpArgs false
set_option linter.unusedVariables false
namespace Go.AX
section
variable {C : Cx} {tb : Tab} {B : Nat} {ρ : Rho} {w : World} {S S' : St}
variable {f : Operand → AV} {g : Operand → Value}
def putO (w : World) (r : Nat) (o : Obj) : World := { w with heap := w.heap.setIfInBounds r o }
theorem putO_other {r k : Nat} {o : Obj} (h : k ≠ r) : (putO w r o).heap[k]? = w.heap[k]? := by
  simp [putO, Array.getElem?_setIfInBounds_ne (Ne.symm h)]
def isMap : Obj → Bool
  | .map .. => true
  | .mapIter .. => true
  | _ => false
theorem run_getO {P : Program} {r : Nat} {o : Obj} (h : w.heap[r]? = some o) (hm : isMap o = true) : (getObj r).run P w = .ok o w := by
  cases o <;> first | (cases hm; done) | simp [getObj, Sem.run, h]
theorem run_setO {P : Program} {r : Nat} {o : Obj} (o' : Obj) (h : w.heap[r]? = some o) (hm : isMap o = true) : (setObj r o').run P w = .ok () (putO w r o') := by
  cases o <;> first | (cases hm; done) | simp [setObj, Sem.run, h, putO]
theorem heap_ltO {D : Nat} {o : Obj} (h : w.heap[D]? = some o) : D < w.heap.size := by
  rcases Nat.lt_or_ge D w.heap.size with h' | h'
  · exact h'
  · rw [Array.getElem?_eq_none h'] at h; cases h
theorem Below.putO {g : Nat} {o : Obj} (o' : Obj) (hg : w.heap[g]? = some o) (hr : isRow o = true) (hB : B ≤ g) : Below B w (putO w g o') := by
  refine ⟨rfl, rfl, rfl, by simp [AX.putO], fun k hk => putO_other (by omega), fun k x hx hx' => ?_⟩
  by_cases e : k = g
  · subst e; rw [hg] at hx; injection hx with hx; subst hx; rw [hr] at hx'; cases hx'
  · rw [putO_other e]; exact hx
/-- an object turned into another one -/
theorem Fits.putO {ng : Nat} {H : T Ent} {v : Nat} {k k' : Ent} {r : R} {o o' : Obj} (h : Fits C ng B ρ H w) (hn : v ≤ 16777213) (hv : H.get v = some k) (hr : ρ v = some r)
    (ho : w.heap[r.blk]? = some o) (hB : B ≤ r.blk) (hk : ObjAt C ρ B k' r o') : Fits C ng B ρ (H.set v k') (putO w r.blk o') :=
  h.upd hn hv hr hk (by simp [AX.putO, heap_ltO ho]) (fun b hb => putO_other hb) (by simp [AX.putO]) (fun b hb => putO_other (by omega))
/-- an object laid anew -/
theorem allocE_ok (hF : Fits C tb.ng B ρ S.heap w) (hng : tb.ng ≤ S.next) {k : Ent} {v : Nat} (h : newE k S = some (v, S')) (hfree : Free ρ S.next S'.next) {o : Obj} {r : R}
    (hr : r.blk = w.heap.size) (hk : ObjAt C ρ B k r o) :
    Fits C tb.ng B (put1 ρ S.next r) S'.heap (w.alloc o) ∧ Ext ρ (put1 ρ S.next r) S.next S'.next ∧ Below B w (w.alloc o) ∧ (put1 ρ S.next r) v = some r ∧ Sub ρ (put1 ρ S.next r) := by
  obtain ⟨rfl, q1, q2, q3⟩ := newE_inv h
  have hf : ρ S.next = none := hfree _ (Nat.le_refl _) (by omega)
  refine ⟨by rw [q2]; exact hF.new q1 hng hf hr hk rfl, ?_, ⟨rfl, rfl, rfl, ?_, fun b hb => ?_, fun b o hb _ => ?_⟩, by simp [put1], put1_sub hf⟩
  · rw [q3]; exact put1_ext _ _ _
  · show w.heap.size ≤ (w.heap.push _).size; simp
  · have := hF.size
    show (w.heap.push _)[b]? = _
    rw [Array.getElem?_push, if_neg (by omega)]
  · show (w.heap.push _)[b]? = _
    have := heap_ltO hb
    rw [Array.getElem?_push, if_neg (by omega)]; exact hb
theorem Fits.mapE {ng : Nat} {H : T Ent} {v : Nat} {es : List ME} {c : Nat} {r : R} (h : Fits C ng B ρ H w) (hv : H.get v = some (.m es c)) (hr : ρ v = some r) : ∃ arr, w.heap[r.blk]? = some (.map arr c) ∧ B ≤ r.blk ∧ RelM C ρ es arr.toList := by
  obtain ⟨r', h1, o, h2, h3⟩ := h.blk v _ hv
  rw [hr] at h1; injection h1 with h1; subst h1
  cases o with
  | map arr clk => obtain ⟨a, b, rfl⟩ := h3; exact ⟨arr, h2, a, b⟩
  | _ => exact h3.elim
theorem Fits.itE {ng : Nat} {H : T Ent} {v m si : Nat} {se : List Nat} {la : Nat} {r : R} (h : Fits C ng B ρ H w) (hv : H.get v = some (.it m si se la)) (hr : ρ v = some r) :
    ∃ rm sn, ρ m = some rm ∧ w.heap[r.blk]? = some (.mapIter (some rm.blk) si sn la) ∧ sn.toList = se ∧ B ≤ r.blk ∧ r.base = 0 := by
  obtain ⟨r', h1, o, h2, h3⟩ := h.blk v _ hv
  rw [hr] at h1; injection h1 with h1; subst h1
  cases o with
  | mapIter mo s n st =>
    obtain ⟨a, b, ⟨rm, hm, rfl⟩, rfl, hs, rfl⟩ := h3
    exact ⟨rm, n, hm, h2, hs, a, b⟩
  | _ => exact h3.elim
/- entries -/
def RelE (C : Cx) (ρ : Rho) (e : ME) (x : MapEntry) : Prop := Rel C ρ e.k x.key ∧ Rel C ρ e.v x.val ∧ x.born = e.b
theorem RelM.len : ∀ {es : List ME} {l : List MapEntry}, RelM C ρ es l → l.length = es.length
  | [], l, h => by have h : l = [] := h; rw [h]; rfl
  | e :: es, l, h => by obtain ⟨x, xs, rfl, _, _, _, h5⟩ := h; simp [RelM.len h5]
theorem RelM.get : ∀ {es : List ME} {l : List MapEntry}, RelM C ρ es l → ∀ {n : Nat} {e : ME}, es[n]? = some e → ∃ x, l[n]? = some x ∧ RelE C ρ e x
  | [], l, h, n, e, hn => by simp at hn
  | a :: es, l, h, n, e, hn => by
    obtain ⟨x, xs, rfl, h1, h2, h3, h5⟩ := h
    cases n with
    | zero => simp at hn; subst hn; exact ⟨x, by simp, h1, h2, h3⟩
    | succ n => obtain ⟨y, hy, hr⟩ := RelM.get h5 (n := n) (e := e) (by simpa using hn); exact ⟨y, by simpa using hy, hr⟩
theorem RelM.app : ∀ {es : List ME} {l : List MapEntry}, RelM C ρ es l → ∀ {e : ME} {x : MapEntry}, RelE C ρ e x → RelM C ρ (es ++ [e]) (l ++ [x])
  | [], l, h, e, x, hx => by have h : l = [] := h; subst h; exact ⟨x, [], rfl, hx.1, hx.2.1, hx.2.2, rfl⟩
  | a :: es, l, h, e, x, hx => by
    obtain ⟨y, xs, rfl, h1, h2, h3, h5⟩ := h
    exact ⟨y, xs ++ [x], rfl, h1, h2, h3, RelM.app h5 hx⟩
theorem RelM.mod {F : ME → ME} {G : MapEntry → MapEntry} : ∀ {es : List ME} {l : List MapEntry} {n : Nat}, RelM C ρ es l → (∀ e x, es[n]? = some e → l[n]? = some x → RelE C ρ e x → RelE C ρ (F e) (G x)) → RelM C ρ (modL F es n) (l.modify n G)
  | [], l, n, h, _ => by have h : l = [] := h; subst h; cases n <;> simp [modL, RelM]
  | a :: es, l, 0, h, hfg => by
    obtain ⟨y, xs, rfl, h1, h2, h3, h5⟩ := h
    obtain ⟨q1, q2, q3⟩ := hfg a y rfl rfl ⟨h1, h2, h3⟩
    exact ⟨G y, xs, by simp, q1, q2, q3, h5⟩
  | a :: es, l, n + 1, h, hfg => by
    obtain ⟨y, xs, rfl, h1, h2, h3, h5⟩ := h
    refine ⟨y, xs.modify n G, by simp, h1, h2, h3, RelM.mod h5 fun e x he hx => hfg e x (by simpa using he) (by simpa using hx)⟩
theorem RelM.del : ∀ {es : List ME} {l : List MapEntry} (n : Nat), RelM C ρ es l → RelM C ρ (delL es n) (l.eraseIdx n)
  | [], l, n, h => by have h : l = [] := h; subst h; simp [delL, RelM]
  | a :: es, l, 0, h => by
    obtain ⟨y, xs, rfl, h1, h2, h3, h5⟩ := h
    simpa [delL] using h5
  | a :: es, l, n + 1, h => by
    obtain ⟨y, xs, rfl, h1, h2, h3, h5⟩ := h
    exact ⟨y, xs.eraseIdx n, by simp, h1, h2, h3, RelM.del n h5⟩
/- keys -/
theorem ckK_ok (ht : TyOk C.P tb) : ∀ (d : Nat) {t : Nat} {x : AV} {vx : Value}, ckK tb d t x = true → Rel C ρ x vx → ∀ (D : Nat) (b : Bool), d ≤ D → (Instr.checkKey b D t vx).run C.P w = .ok () w
  | 0, t, x, vx, h, _, _, _, _ => by cases h
  | d + 1, t, x, vx, h, hx, D, b, hD => by
    obtain ⟨D, rfl⟩ : ∃ D', D = D' + 1 := ⟨D - 1, by omega⟩
    unfold ckK at h
    cases hg : tb.ty.get t with
    | none => rw [hg] at h; cases h
    | some ti =>
      rw [hg] at h
      obtain ⟨i, hi, rfl⟩ := ht.ty _ _ hg
      simp only [mkTI_k] at h
      cases hk : kOf C.P t <;> rw [hk] at h <;> try (cases h; done)
      case bool => have hu := kOf_bool hk; simp [Instr.checkKey, run_underlying hu]
      case int k => have hu := kOf_int hk; simp [Instr.checkKey, run_underlying hu]
      case str => have hu := kOf_str hk; simp [Instr.checkKey, run_underlying hu]
      case struct =>
        obtain ⟨fs, hu, hfl, hfo, hin⟩ := kOf_struct hk
        cases x <;> try (cases h; done)
        rename_i l
        simp only [Rel] at hx
        obtain ⟨cs, rfl, hl⟩ := hx
        have h : (((fldsOf C.P t).map (mkFl C.P)).all fun f => !f.nm || (match part l f with
          | some y => ckK tb d f.t y
          | none => false)) = true := h
        rw [hfl] at h
        rw [Instr.checkKey]
        simp only [Sem.run_bind, run_underlying hu, Result.andThen_ok]
        rw [← Array.forIn_toList]
        generalize fs.toList = L at h
        induction L with
        | nil => simp
        | cons fd L ih =>
          simp only [List.map_cons, List.all_cons, Bool.and_eq_true] at h
          have ih := ih h.2
          simp only [List.forIn_cons, Sem.run_bind]
          by_cases hn : fd.name = "_"
          · simp only [hn, ne_eq, not_true_eq_false, if_false, Sem.run_pure, Result.andThen_ok]
            exact ih
          · have h1 := h.1
            have hnm : (mkFl C.P fd).nm = true := by simpa [mkFl] using hn
            rw [hnm] at h1
            simp only [Bool.not_true, Bool.false_or] at h1
            cases hp : part l (mkFl C.P fd) with
            | none => rw [hp] at h1; cases h1
            | some y =>
              rw [hp] at h1
              have hinf : ∃ it, C.P.info? fd.type = some it := by
                cases hb : isBad (kOf C.P fd.type) with
                | true => simp [part, mkFl, hb] at hp
                | false =>
                  cases hit : C.P.info? fd.type with
                  | some it => exact ⟨it, rfl⟩
                  | none => simp [kOf, Program.underlying, hit, isBad] at hb
              obtain ⟨it, hit⟩ := hinf
              obtain ⟨vy, y1, y2⟩ := part_ok (w := w) hl hp (i := it) hit (by simp [mkFl, Program.cellsOf, hit]) rfl rfl
              have y1 : (Go.part fd.type ⟨cs⟩ fd.offset).run C.P w = .ok vy w := y1
              have y3 := ckK_ok ht d h1 y2 D b (by omega)
              have y3 : (Instr.checkKey b D fd.type vy).run C.P w = .ok () w := y3
              simp only [hn, ne_eq, not_false_eq_true, if_true, Sem.run_bind, y1, y3, Result.andThen_ok, Sem.run_pure]
              exact ih
theorem sameKL_ok {eq : AV → AV → Bool} {bt : Value → Value → Bool} (he : ∀ a b x y, eq a b = true → Rel C ρ a x → Rel C ρ b y → bt x y = true) : ∀ (l m : List AV) (xs ys : List Value), sameKL eq l m = true → RelL C ρ l xs → RelL C ρ m ys → xs.length = ys.length ∧ ((xs.zip ys).all fun p => bt p.1 p.2) = true
  | [], m, xs, ys, h, hx, hy => by
    cases m with
    | cons => cases h
    | nil => simp only [RelL] at hx hy; subst hx; subst hy; simp
  | a :: l, m, xs, ys, h, hx, hy => by
    cases m with
    | nil => cases h
    | cons b m =>
      simp only [sameKL, Bool.and_eq_true] at h
      simp only [RelL] at hx hy
      obtain ⟨x, xs, rfl, h1, h2⟩ := hx
      obtain ⟨y, ys, rfl, h3, h4⟩ := hy
      obtain ⟨q1, q2⟩ := sameKL_ok he l m xs ys h.2 h2 h4
      refine ⟨by simp [q1], ?_⟩
      simp only [List.zip_cons_cons, List.all_cons, Bool.and_eq_true]
      exact ⟨he a b x y h.1 h1 h3, q2⟩
theorem sameK_ok : ∀ (d : Nat) (a b : AV) (x y : Value) (D : Nat), sameK d a b = true → Rel C ρ a x → Rel C ρ b y → d ≤ D → Instr.sameBits D x y = true
  | 0, a, b, x, y, D, h, _, _, _ => by cases h
  | d + 1, a, b, x, y, D, h, hx, hy, hD => by
    obtain ⟨D, rfl⟩ : ∃ D', D = D' + 1 := ⟨D - 1, by omega⟩
    unfold sameK at h
    split at h
    · simp only [Bool.and_eq_true] at h
      have e := kEq_eq h.1; subst e
      rw [ieq_iff] at h
      simp only [Rel] at hx hy; subst hx; subst hy
      simpa [Instr.sameBits] using h.2
    · simp only [Rel] at hx hy; subst hx; subst hy
      simpa [Instr.sameBits] using h
    · simp only [Bool.and_eq_true, Nat.beq_eq] at h
      obtain ⟨rfl, rfl⟩ := h
      simp only [Rel] at hx hy; obtain ⟨rfl, _⟩ := hx; obtain ⟨rfl, _⟩ := hy
      simp only [Instr.sameBits]
      exact (MapKept.bytes_beq _ _).2 rfl
    · rename_i l m
      simp only [Rel] at hx hy
      obtain ⟨cs, rfl, hl⟩ := hx
      obtain ⟨ds, rfl, hm⟩ := hy
      obtain ⟨h1, h2⟩ := sameKL_ok (bt := Instr.sameBits D) (fun a b x y h hx hy => sameK_ok d a b x y D h hx hy (by omega)) l m cs ds h hl hm
      simp only [Instr.sameBits, Bool.and_eq_true, beq_iff_eq]
      exact ⟨by simpa using h1, h2⟩
    · cases h
theorem keyStays {old new : AV} {x y : Value} (h : sameK 4 old new = true) (hx : Rel C ρ old x) (hy : Rel C ρ new y) : (Instr.keyThatStays x y).run C.P w = .ok y w := by
  have := sameK_ok 4 old new x y 10000 h hx hy (by omega)
  unfold Instr.keyThatStays
  rw [if_pos this]; rfl
theorem sameNow_ok {P : Program} {t : Nat} {d : TypeDesc} (hu : P.underlying t = some d) {a b : Value} {q : Bool} (h : Instr.sameNow d a b = some q) : (Op.equal t a b).run P w = .ok q w := by
  unfold Instr.sameNow at h
  suffices ∀ D, (Op.equalIn (D + 1) t a b).run P w = .ok q w from this 9999
  intro D
  split at h
  · split at h
    · rename_i e
      simp only [Option.some.injEq] at h
      simp [Op.equalIn, run_underlying hu, e, h]
    · cases h
  · simp only [Option.some.injEq] at h
    simp [Op.equalIn, run_underlying hu, h]
  · simp only [Option.some.injEq] at h
    simp [Op.equalIn, run_underlying hu, h]
  · cases h
theorem findNow_ok {P : Program} {t : Nat} {d : TypeDesc} (hu : P.underlying t = some d) {k : Value} : ∀ (es : List MapEntry) (i : Nat) (r : Option (Nat × Value)), Instr.findNow d k es i = some r → (Instr.findAsking t k es i).run P w = .ok r w
  | [], i, r, h => by simp only [Instr.findNow, Option.some.injEq] at h; subst h; rfl
  | e :: es, i, r, h => by
    unfold Instr.findNow at h
    cases hs : Instr.sameNow d k e.key with
    | none => rw [hs] at h; cases h
    | some q =>
      rw [hs] at h
      have h1 := sameNow_ok (w := w) hu hs
      unfold Instr.findAsking
      rw [Sem.run_bind, h1]
      cases q with
      | true => simp only [Option.some.injEq] at h; subst h; rfl
      | false => simpa using findNow_ok hu es (i + 1) r h
theorem findKey_asks {P : Program} {t : Nat} {d : TypeDesc} (hu : P.underlying t = some d) {k : Value} {es : List MapEntry} {r : Option (Nat × Value)} (h : (Instr.findAsking t k es 0).run P w = .ok r w) : (Instr.findKey t k es).run P w = .ok r w := by
  unfold Instr.findKey
  rw [Sem.run_bind, run_underlying hu]
  simp only [Result.andThen_ok]
  cases hf : Instr.findNow d k es 0 with
  | none => exact h
  | some r' =>
    have := findNow_ok (w := w) hu es 0 r' hf
    rw [h] at this
    injection this with this
    subst this; rfl
theorem findK_ok (ht : TyOk C.P tb) (hh : HypOk C tb) {t : Nat} {k : AV} {kx : Value} (hk : Rel C ρ k kx) : ∀ (es : List ME) (l : List MapEntry) (i : Nat) {S S' : St} {r : Option (Nat × ME)}, RelM C ρ es l → findK tb t k es i S = some (r, S') →
    S'.heap = S.heap ∧ S'.next = S.next ∧ (match r with
      | none => (Instr.findAsking t kx l i).run C.P w = .ok none w
      | some (j, e) => ∃ n x, j = i + n ∧ es[n]? = some e ∧ l[n]? = some x ∧ RelE C ρ e x ∧ (Instr.findAsking t kx l i).run C.P w = .ok (some (j, x.val)) w)
  | [], l, i, S, S', r, hm, h => by
    have hm : l = [] := hm; subst hm
    obtain ⟨rfl, rfl⟩ := ret_inv h
    exact ⟨rfl, rfl, rfl⟩
  | e :: es, l, i, S, S', r, hm, h => by
    obtain ⟨x, xs, rfl, m1, m2, m3, m4⟩ := hm
    unfold findK at h
    obtain ⟨q, S1, h1, h2⟩ := bnd_inv h
    obtain ⟨a1, a2, a3⟩ := eqT_ok (w := w) ht hh 12 hk m1 h1
    have a4 : (Op.equal t kx x.key).run C.P w = .ok q w := a3 Op.maxDepth (by simp [Op.maxDepth])
    unfold Instr.findAsking
    rw [Sem.run_bind, a4]
    cases q with
    | true =>
      rw [cond_true] at h2
      obtain ⟨rfl, rfl⟩ := ret_inv h2
      exact ⟨a1, a2, 0, x, rfl, rfl, rfl, ⟨m1, m2, m3⟩, rfl⟩
    | false =>
      rw [cond_false] at h2
      obtain ⟨b1, b2, b3⟩ := findK_ok ht hh hk es xs (i + 1) m4 h2
      refine ⟨b1.trans a1, b2.trans a2, ?_⟩
      cases r with
      | none => simpa using b3
      | some p =>
        obtain ⟨j, e'⟩ := p
        obtain ⟨n, y, c1, c2, c3, c4, c5⟩ := b3
        exact ⟨n + 1, y, by omega, by simpa using c2, by simpa using c3, c4, by simpa using c5⟩
theorem kvT_spec {P : Program} {t a b : Nat} (h : kvT (kOf P t) = some (a, b)) : P.underlying t = some (.map a b) := by
  cases hk : kOf P t <;> rw [hk] at h <;> try (cases h; done)
  simp only [kvT, Option.some.injEq, Prod.mk.injEq] at h
  obtain ⟨rfl, rfl⟩ := h
  exact kOf_map hk
theorem mpOf_ok {x : AV} {b : Nat} {v : Value} (h : mpOf x = some b) (hx : Rel C ρ x v) : ∃ r, ρ b = some r ∧ v = .map (some r.blk) := by
  cases x <;> simp only [mpOf] at h <;> try (cases h; done)
  simp only [Option.some.injEq] at h; subst h
  simpa only [Rel] using hx
theorem mapOf_ok (hF : Fits C tb.ng B ρ S.heap w) {x : AV} {v : Value} {es : List ME} (hx : Rel C ρ x v) (h : mapOf x S = some (es, S')) :
    S'.heap = S.heap ∧ S'.next = S.next ∧ ((v = .map none ∧ es = []) ∨ ∃ r arr c, v = .map (some r) ∧ w.heap[r]? = some (.map arr c) ∧ RelM C ρ es arr.toList) := by
  unfold mapOf at h
  split at h
  · obtain ⟨rfl, rfl⟩ := ret_inv h
    simp only [Rel] at hx
    exact ⟨rfl, rfl, .inl ⟨hx, rfl⟩⟩
  · obtain ⟨es', c, S1, h1, h2, h3, h4⟩ := rbM h
    obtain ⟨rfl, rfl⟩ := ret_inv h4
    simp only [Rel] at hx
    obtain ⟨r, hr, rfl⟩ := hx
    obtain ⟨arr, g1, g2, g3⟩ := hF.mapE h1 hr
    exact ⟨h2, h3, .inr ⟨r.blk, arr, c, rfl, g1, g3⟩⟩
  · exact (fail_inv h).elim
theorem zeroT_ok (ht : TyOk C.P tb) {t : Nat} {z : AV} (h : zeroT tb t S = some (z, S')) : S' = S ∧ ∃ y, (zeroValue t).run C.P w = .ok y w ∧ ∀ ρ, Rel C ρ z y := by
  obtain ⟨te, e1, h1⟩ := lb h
  obtain ⟨ie, hie, rfl⟩ := ht.ty _ _ e1
  obtain ⟨h2, rfl⟩ := lft_inv h1
  obtain ⟨y, hy, rfl⟩ := zero_ok hie h2 w
  exact ⟨rfl, y, hy, fun ρ => avZ_ok C ρ y⟩
theorem rel_ok {v : AV} {x : Value} {ok b : Bool} (h : Rel C ρ v x) : Rel C ρ (cond ok (.tu [v, .b b]) v) (if ok then .tuple #[x, .bool b] else x) := by
  cases ok with
  | true => exact rel_pair h
  | false => exact h
theorem s_lookup (ht : TyOk C.P tb) (hh : HypOk C tb) (hF : Fits C tb.ng B ρ S.heap w) {t : Nat} {m k : AV} {vm vk : Value} {ok : Bool} (hm : Rel C ρ m vm) (hk : Rel C ρ k vk) {v : AV} (h : lookupK tb t m k ok S = some (v, S')) :
    S'.heap = S.heap ∧ ∃ x, (Instr.lookup t vm vk ok).run C.P w = .ok x w ∧ Rel C ρ v x := by
  unfold lookupK at h
  obtain ⟨ti, e1, h1⟩ := lb h
  obtain ⟨i, hi, rfl⟩ := ht.ty _ _ e1
  rw [mkTI_k] at h1
  obtain ⟨⟨kt, et⟩, e2, h2⟩ := lb h1
  have hu := kvT_spec e2
  obtain ⟨es, S1, h3, h4⟩ := bnd_inv h2
  obtain ⟨a1, a2, a3⟩ := mapOf_ok hF hm h3
  obtain ⟨hc, h5⟩ := cond_inv h4
  obtain ⟨r, S2, h6, h7⟩ := bnd_inv h5
  have hd : ∃ d, C.P.underlying kt = some d := by
    unfold ckK at hc
    cases hg : tb.ty.get kt with
    | none => simp only [hg] at hc; cases hc
    | some ti =>
      simp only [hg] at hc
      obtain ⟨i, hi, rfl⟩ := ht.ty _ _ hg
      simp only [mkTI_k] at hc
      cases hu : C.P.underlying kt with
      | some d => exact ⟨d, rfl⟩
      | none => simp [kOf, hu] at hc
  obtain ⟨d, hd⟩ := hd
  have main : ∀ l : List MapEntry, RelM C ρ es l → ∀ em : Bool, S'.heap = S.heap ∧ ∃ x, (do
      Instr.checkKey em 10000 kt vk
      let (v, ok') ← match ← Instr.findKey kt vk l with
        | some (_, v) => pure (v, true)
        | none => pure (← zeroValue et, false)
      pure (if ok then .tuple #[v, .bool ok'] else v) : Sem Value).run C.P w = .ok x w ∧ Rel C ρ v x := by
    intro l hl em
    obtain ⟨b1, b2, b3⟩ := findK_ok (w := w) ht hh hk es l 0 hl h6
    have hck := ckK_ok (w := w) ht 4 hc hk 10000 em (by omega)
    cases r with
    | some p =>
      obtain ⟨j, e⟩ := p
      obtain ⟨rfl, rfl⟩ := ret_inv h7
      obtain ⟨n, x, c1, c2, c3, c4, c5⟩ := b3
      refine ⟨b1.trans a1, (if ok then .tuple #[x.val, .bool true] else x.val), ?_, rel_ok c4.2.1⟩
      simp only [Sem.run_bind, hck, Result.andThen_ok, findKey_asks hd c5, Sem.run_pure]
    | none =>
      obtain ⟨z, S3, h8, h9⟩ := bnd_inv h7
      obtain ⟨rfl, rfl⟩ := ret_inv h9
      obtain ⟨rfl, y, hy, hz⟩ := zeroT_ok (w := w) ht h8
      refine ⟨b1.trans a1, (if ok then .tuple #[y, .bool false] else y), ?_, rel_ok (hz ρ)⟩
      simp only [Sem.run_bind, hck, Result.andThen_ok, findKey_asks hd b3, Sem.run_pure, hy]
  rcases a3 with ⟨rfl, rfl⟩ | ⟨r, arr, c, rfl, g1, g2⟩
  · obtain ⟨q1, x, q2, q3⟩ := main [] rfl true
    refine ⟨q1, x, ?_, q3⟩
    rw [← q2]
    simp only [Instr.lookup, Sem.run_bind, run_underlying hu, Result.andThen_ok, Sem.run_pure]
    rfl
  · obtain ⟨q1, x, q2, q3⟩ := main arr.toList g2 arr.isEmpty
    refine ⟨q1, x, ?_, q3⟩
    rw [← q2]
    simp only [Instr.lookup, Sem.run_bind, run_underlying hu, Result.andThen_ok, Sem.run_pure, run_getO g1 rfl]
    rfl
theorem ckK_under (ht : TyOk C.P tb) {d t : Nat} {k : AV} (hc : ckK tb d t k = true) : ∃ d, C.P.underlying t = some d := by
  cases d with
  | zero => cases hc
  | succ d =>
    unfold ckK at hc
    cases hg : tb.ty.get t with
    | none => rw [hg] at hc; cases hc
    | some ti =>
      rw [hg] at hc
      obtain ⟨i, hi, rfl⟩ := ht.ty _ _ hg
      simp only [mkTI_k] at hc
      cases hu : C.P.underlying t with
      | some d => exact ⟨d, rfl⟩
      | none => simp [kOf, hu] at hc
theorem mod_toList {α : Type} (arr : Array α) (i : Nat) (G : α → α) : (arr.modify i G).toList = arr.toList.modify i G := by
  apply List.ext_getElem?
  intro j
  rw [Array.getElem?_toList, Array.getElem?_modify, List.getElem?_modify, Array.getElem?_toList]
  by_cases e : i = j
  · simp [e]
  · simp [e]
theorem s_mapUpdate (ht : TyOk C.P tb) (hh : HypOk C tb) (hF : Fits C tb.ng B ρ S.heap w) {t : Nat} {m k x : AV} {vm vk vx : Value} (hm : Rel C ρ m vm) (hk : Rel C ρ k vk) (hx : Rel C ρ x vx) {u : Unit} (h : updK tb t m k x S = some (u, S')) :
    S'.next = S.next ∧ ∃ w', (Instr.mapUpdate t vm vk vx).run C.P w = .ok () w' ∧ Fits C tb.ng B ρ S'.heap w' ∧ Below B w w' := by
  unfold updK at h
  obtain ⟨ti, e1, h1⟩ := lb h
  obtain ⟨i, hi, rfl⟩ := ht.ty _ _ e1
  rw [mkTI_k] at h1
  obtain ⟨⟨kt, et⟩, e2, h2⟩ := lb h1
  have hu := kvT_spec e2
  obtain ⟨b, e3, h3⟩ := lb h2
  obtain ⟨r, hr, rfl⟩ := mpOf_ok e3 hm
  obtain ⟨es, c, S1, g1, g2, g3, h4⟩ := rbM h3
  obtain ⟨hc, h5⟩ := cond_inv h4
  have hc : ckK tb 4 kt k = true := hc
  obtain ⟨d, hd⟩ := ckK_under ht hc
  obtain ⟨p, S2, h6, h7⟩ := bnd_inv h5
  obtain ⟨arr, hb, hB, hrel⟩ := hF.mapE g1 hr
  obtain ⟨b1, b2, b3⟩ := findK_ok (w := w) ht hh hk es arr.toList 0 hrel h6
  have hck := ckK_ok (w := w) ht 4 hc hk 10000 false (by omega)
  have hrow : isRow (Obj.map arr c) = true := rfl
  cases p with
  | some p =>
    obtain ⟨j, e⟩ := p
    obtain ⟨hs, h8⟩ := cond_inv h7
    obtain ⟨n, y, c1, c2, c3, c4, c5⟩ := b3
    rw [Nat.zero_add] at c1; subst c1
    obtain ⟨u1, u2, u3, u4⟩ := updE_inv h8
    have hkey : ((arr[j]?).map (·.key)).getD vk = y.key := by rw [← Array.getElem?_toList, c3]; rfl
    have hst := keyStays (w := w) hs c4.1 hk
    refine ⟨by rw [u4, b2, g3], putO w r.blk (.map (arr.modify j fun e => { e with key := vk, val := vx }) c), ?_, ?_, Below.putO _ hb hrow hB⟩
    · simp only [Instr.mapUpdate, Sem.run_bind, run_underlying hu, Result.andThen_ok, run_getO hb rfl, hck, findKey_asks hd c5, hkey, hst, run_setO _ hb rfl]
    · rw [u3, b1, g2]
      refine hF.putO u2 g1 hr hb hB (show ObjAt C ρ B (.m _ c) r (.map _ c) from ⟨hB, ?_, rfl⟩)
      rw [mod_toList]
      exact RelM.mod hrel fun e x _ _ he => ⟨hk, hx, he.2.2⟩
  | none =>
    obtain ⟨u1, u2, u3, u4⟩ := updE_inv h7
    refine ⟨by rw [u4, b2, g3], putO w r.blk (.map (arr.push { key := vk, val := vx, born := c }) (c + 1)), ?_, ?_, Below.putO _ hb hrow hB⟩
    · simp only [Instr.mapUpdate, Sem.run_bind, run_underlying hu, Result.andThen_ok, run_getO hb rfl, hck, findKey_asks hd b3, run_setO _ hb rfl]
    · rw [u3, b1, g2]
      refine hF.putO u2 g1 hr hb hB (show ObjAt C ρ B (.m _ (c + 1)) r (.map _ (c + 1)) from ⟨hB, ?_, rfl⟩)
      rw [Array.toList_push]
      exact RelM.app hrel ⟨hk, hx, rfl⟩
theorem rel_pairV {a : AV} {v : Value} {n : Nat} (h : Rel C ρ a v) : Rel C ρ (.tu [a, .i .i64 (.ofNat n)]) (.tuple #[v, goInt n]) := by
  simp only [Rel, RelL]; exact ⟨[v, goInt n], rfl, v, [goInt n], rfl, h, goInt n, [], rfl, rfl, rfl⟩
theorem s_mapEntry (ht : TyOk C.P tb) (hh : HypOk C tb) (hF : Fits C tb.ng B ρ S.heap w) {t : Nat} {m k : AV} {vm vk : Value} (hm : Rel C ρ m vm) (hk : Rel C ρ k vk) {v : AV} (h : entK tb t m k S = some (v, S')) :
    S'.next = S.next ∧ ∃ x w', (Instr.mapEntry t vm vk).run C.P w = .ok x w' ∧ Rel C ρ v x ∧ Fits C tb.ng B ρ S'.heap w' ∧ Below B w w' := by
  unfold entK at h
  obtain ⟨ti, e1, h1⟩ := lb h
  obtain ⟨i, hi, rfl⟩ := ht.ty _ _ e1
  rw [mkTI_k] at h1
  obtain ⟨⟨kt, et⟩, e2, h2⟩ := lb h1
  have hu := kvT_spec e2
  obtain ⟨b, e3, h3⟩ := lb h2
  obtain ⟨r, hr, rfl⟩ := mpOf_ok e3 hm
  obtain ⟨es, c, S1, g1, g2, g3, h4⟩ := rbM h3
  obtain ⟨hc, h5⟩ := cond_inv h4
  have hc : ckK tb 4 kt k = true := hc
  obtain ⟨d, hd⟩ := ckK_under ht hc
  obtain ⟨p, S2, h6, h7⟩ := bnd_inv h5
  obtain ⟨arr, hb, hB, hrel⟩ := hF.mapE g1 hr
  obtain ⟨b1, b2, b3⟩ := findK_ok (w := w) ht hh hk es arr.toList 0 hrel h6
  have hck := ckK_ok (w := w) ht 4 hc hk 10000 false (by omega)
  have hrow : isRow (Obj.map arr c) = true := rfl
  cases p with
  | some p =>
    obtain ⟨j, e⟩ := p
    obtain ⟨hs, h8⟩ := cond_inv h7
    obtain ⟨n, y, c1, c2, c3, c4, c5⟩ := b3
    rw [Nat.zero_add] at c1; subst c1
    obtain ⟨u0, S3, h9, h10⟩ := bnd_inv h8
    obtain ⟨rfl, rfl⟩ := ret_inv h10
    obtain ⟨u1, u2, u3, u4⟩ := updE_inv h9
    have hkey : ((arr[j]?).map (·.key)).getD vk = y.key := by rw [← Array.getElem?_toList, c3]; rfl
    have hbo : ((arr[j]?).map (fun x => (x.born : Int))).getD 0 = (e.b : Int) := by rw [← Array.getElem?_toList, c3]; show (y.born : Int) = _; rw [c4.2.2]
    have hst := keyStays (w := w) hs c4.1 hk
    refine ⟨by rw [u4, b2, g3], .tuple #[y.val, goInt e.b], putO w r.blk (.map (arr.modify j fun e => { e with key := vk }) c), ?_, rel_pairV c4.2.1, ?_, Below.putO _ hb hrow hB⟩
    · simp only [Instr.mapEntry, Sem.run_bind, run_underlying hu, Result.andThen_ok, run_getO hb rfl, hck, findKey_asks hd c5, hkey, hst, run_setO _ hb rfl, Sem.run_pure, hbo]
    · rw [u3, b1, g2]
      refine hF.putO u2 g1 hr hb hB (show ObjAt C ρ B (.m _ c) r (.map _ c) from ⟨hB, ?_, rfl⟩)
      rw [mod_toList]
      exact RelM.mod hrel fun e x _ _ he => ⟨hk, he.2.1, he.2.2⟩
  | none =>
    obtain ⟨z, S3, h8, h9⟩ := bnd_inv h7
    obtain ⟨rfl, y, hy, hz⟩ := zeroT_ok (w := w) ht h8
    obtain ⟨u0, S4, h10, h11⟩ := bnd_inv h9
    obtain ⟨rfl, rfl⟩ := ret_inv h11
    obtain ⟨u1, u2, u3, u4⟩ := updE_inv h10
    refine ⟨by rw [u4, b2, g3], .tuple #[y, goInt c], putO w r.blk (.map (arr.push { key := vk, val := y, born := c }) (c + 1)), ?_, rel_pairV (hz ρ), ?_, Below.putO _ hb hrow hB⟩
    · simp only [Instr.mapEntry, Sem.run_bind, run_underlying hu, Result.andThen_ok, run_getO hb rfl, hck, findKey_asks hd b3, hy, run_setO _ hb rfl, Sem.run_pure]
    · rw [u3, b1, g2]
      refine hF.putO u2 g1 hr hb hB (show ObjAt C ρ B (.m _ (c + 1)) r (.map _ (c + 1)) from ⟨hB, ?_, rfl⟩)
      rw [Array.toList_push]
      exact RelM.app hrel ⟨hk, hz ρ, rfl⟩
theorem bornAt_ok : ∀ (es : List ME) (l : List MapEntry) (s k i : Nat), RelM C ρ es l → bornAt es s k = some i → ∃ n, i = k + n ∧ l.findIdx? (fun e => (e.born : Int) == (s : Int)) = some n
  | [], l, s, k, i, hm, h => by cases h
  | e :: es, l, s, k, i, hm, h => by
    obtain ⟨x, xs, rfl, m1, m2, m3, m4⟩ := hm
    unfold bornAt at h
    cases hb : Nat.beq e.b s with
    | true =>
      rw [hb, cond_true] at h
      simp only [Option.some.injEq] at h; subst h
      have := Nat.eq_of_beq_eq_true hb
      refine ⟨0, rfl, ?_⟩
      rw [List.findIdx?_cons]
      simp [m3, this]
    | false =>
      rw [hb, cond_false] at h
      have hne := beq_false_inv hb
      obtain ⟨n, h1, h2⟩ := bornAt_ok es xs s (Nat.succ k) i m4 h
      refine ⟨n + 1, by omega, ?_⟩
      rw [List.findIdx?_cons]
      have : ((x.born : Int) == (s : Int)) = false := by rw [m3]; simp; omega
      rw [this]
      simp [h2]
theorem s_entryStore (hF : Fits C tb.ng B ρ S.heap w) {t : Nat} {m s x : AV} {vm vs vx : Value} (hm : Rel C ρ m vm) (hs : Rel C ρ s vs) (hx : Rel C ρ x vx) {u : Unit} (h : entStK m s x S = some (u, S')) :
    S'.next = S.next ∧ ∃ w', (Instr.entryStore t vm vs vx).run C.P w = .ok () w' ∧ Fits C tb.ng B ρ S'.heap w' ∧ Below B w w' := by
  unfold entStK at h
  obtain ⟨b, e3, h3⟩ := lb h
  obtain ⟨r, hr, rfl⟩ := mpOf_ok e3 hm
  obtain ⟨es, c, S1, g1, g2, g3, h4⟩ := rbM h3
  obtain ⟨n, e4, h5⟩ := lb h4
  obtain ⟨k, rfl⟩ := asN_ok e4 hs
  obtain ⟨i, e5, h6⟩ := lb h5
  obtain ⟨arr, hb, hB, hrel⟩ := hF.mapE g1 hr
  obtain ⟨j, e6, e7⟩ := bornAt_ok es arr.toList n 0 i hrel e5
  rw [Nat.zero_add] at e6; subst e6
  obtain ⟨u1, u2, u3, u4⟩ := updE_inv h6
  have hrow : isRow (Obj.map arr c) = true := rfl
  refine ⟨by rw [u4, g3], putO w r.blk (.map (arr.modify i fun e => { e with val := vx }) c), ?_, ?_, Below.putO _ hb hrow hB⟩
  · have e8 : arr.findIdx? (fun e => (e.born : Int) == (n : Int)) = some i := by rw [← Array.toArray_toList (xs := arr), List.findIdx?_toArray]; exact e7
    have hai : (asInt (.int k (n : Int))).run C.P w = .ok (n : Int) w := by simp [asInt, asIntOf]
    simp only [Instr.entryStore, Sem.run_bind, Result.andThen_ok, run_getO hb rfl, hai, Sem.run_pure, e8, run_setO _ hb rfl]
  · rw [u3, g2]
    refine hF.putO u2 g1 hr hb hB (show ObjAt C ρ B (.m _ c) r (.map _ c) from ⟨hB, ?_, rfl⟩)
    rw [mod_toList]
    exact RelM.mod hrel fun e x _ _ he => ⟨he.1, hx, he.2.2⟩
theorem delete_ok (ht : TyOk C.P tb) (hh : HypOk C tb) (hF : Fits C tb.ng B ρ S.heap w) {ats : Array Nat} {t ty : Nat} (h0 : ats[0]? = some t) {m k : AV} {vm vk : Value} (hm : Rel C ρ m vm) (hk : Rel C ρ k vk) {v : AV} (h : delK tb t m k S = some (v, S')) :
    S'.next = S.next ∧ ∃ x w', (Builtin.delete_ ats ty #[vm, vk]).run C.P w = .ok x w' ∧ Rel C ρ v x ∧ Fits C tb.ng B ρ S'.heap w' ∧ Below B w w' := by
  unfold delK at h
  obtain ⟨ti, e1, h1⟩ := lb h
  obtain ⟨i, hi, rfl⟩ := ht.ty _ _ e1
  rw [mkTI_k] at h1
  obtain ⟨⟨kt, et⟩, e2, h2⟩ := lb h1
  have hu := kvT_spec e2
  obtain ⟨b, e3, h3⟩ := lb h2
  obtain ⟨r, hr, rfl⟩ := mpOf_ok e3 hm
  obtain ⟨es, c, S1, g1, g2, g3, h4⟩ := rbM h3
  obtain ⟨hc, h5⟩ := cond_inv h4
  have hc : ckK tb 4 kt k = true := hc
  obtain ⟨d, hd⟩ := ckK_under ht hc
  obtain ⟨p, S2, h6, h7⟩ := bnd_inv h5
  obtain ⟨arr, hb, hB, hrel⟩ := hF.mapE g1 hr
  obtain ⟨b1, b2, b3⟩ := findK_ok (w := w) ht hh hk es arr.toList 0 hrel h6
  have hck := ckK_ok (w := w) ht 4 hc hk 10000 arr.isEmpty (by omega)
  have hrow : isRow (Obj.map arr c) = true := rfl
  have nilRel : Rel C ρ (.tu []) (.tuple #[]) := by simp only [Rel, RelL]; exact ⟨[], rfl, rfl⟩
  cases p with
  | some p =>
    obtain ⟨j, e⟩ := p
    obtain ⟨n, y, c1, c2, c3, c4, c5⟩ := b3
    rw [Nat.zero_add] at c1; subst c1
    obtain ⟨u0, S3, h9, h10⟩ := bnd_inv h7
    obtain ⟨rfl, rfl⟩ := ret_inv h10
    obtain ⟨u1, u2, u3, u4⟩ := updE_inv h9
    refine ⟨by rw [u4, b2, g3], .tuple #[], putO w r.blk (.map (arr.eraseIdxIfInBounds j) c), ?_, nilRel, ?_, Below.putO _ hb hrow hB⟩
    · simp [Builtin.delete_, h0, Sem.run_bind, run_underlying hu, run_getO hb rfl, hck, findKey_asks hd c5, run_setO _ hb rfl]
    · rw [u3, b1, g2]
      refine hF.putO u2 g1 hr hb hB (show ObjAt C ρ B (.m _ c) r (.map _ c) from ⟨hB, ?_, rfl⟩)
      have hj : j < arr.size := by
        rcases Nat.lt_or_ge j arr.size with h | h
        · exact h
        · rw [List.getElem?_eq_none (by simpa using h)] at c3; cases c3
      have : (arr.eraseIdxIfInBounds j).toList = arr.toList.eraseIdx j := by simp [Array.eraseIdxIfInBounds, hj]
      rw [this]
      exact RelM.del j hrel
  | none =>
    obtain ⟨u0, S3, h9, h10⟩ := bnd_inv h7
    obtain ⟨rfl, rfl⟩ := ret_inv h10
    obtain ⟨u1, u2, u3, u4⟩ := updE_inv h9
    refine ⟨by rw [u4, b2, g3], .tuple #[], putO w r.blk (.map arr c), ?_, nilRel, ?_, Below.putO _ hb hrow hB⟩
    · simp [Builtin.delete_, h0, Sem.run_bind, run_underlying hu, run_getO hb rfl, hck, findKey_asks hd b3, run_setO _ hb rfl]
    · rw [u3, b1, g2]
      exact hF.putO u2 g1 hr hb hB (show ObjAt C ρ B (.m _ c) r (.map _ c) from ⟨hB, hrel, rfl⟩)
theorem s_makeMap (ht : TyOk C.P tb) (hF : Fits C tb.ng B ρ S.heap w) (hng : tb.ng ≤ S.next) (hf : ∀ x, Rel C ρ (f x) (g x)) {t : Nat} {rs : Option Operand} {o : Oper} (ho : o.op = .makeMap t rs) {v : AV} (h : simple tb f (.makeMap t rs) S = some (v, S')) (hfree : Free ρ S.next S'.next) :
    SOut C tb.ng B ρ w S S' v ((execOp g o).run C.P w) := by
  simp only [simple] at h
  obtain ⟨ti, e1, h1⟩ := lb h
  obtain ⟨i, hi, rfl⟩ := ht.ty _ _ e1
  rw [mkTI_k] at h1
  obtain ⟨⟨kt, et⟩, e2, h2⟩ := lb h1
  have hu := kvT_spec e2
  have fin : bnd (newE (.m [] 0)) (fun v => ret (.mp v)) S = some (v, S') → (Instr.makeMap t (rs.map g)).run C.P w = .ok (.map (some w.heap.size)) (w.alloc (.map #[] 0)) → SOut C tb.ng B ρ w S S' v ((execOp g o).run C.P w) := by
    intro h hrun
    obtain ⟨b, S1, h5, h6⟩ := bnd_inv h
    obtain ⟨rfl, rfl⟩ := ret_inv h6
    obtain ⟨r2, r3, r4, r5, r6⟩ := allocE_ok (o := .map #[] 0) (r := ⟨w.heap.size, 0, 0, 0⟩) hF hng h5 hfree rfl (show ObjAt C ρ B (.m [] 0) ⟨w.heap.size, 0, 0, 0⟩ (.map #[] 0) from ⟨hF.size, rfl, rfl⟩)
    refine ⟨_, .map (some w.heap.size), _, .inl ?_, ?_, r2, r3, r4⟩
    · simp only [execOp, ho]
      rw [Sem.run_bind, hrun]; rfl
    · simp only [Rel]; exact ⟨_, r5, rfl⟩
  cases rs with
  | none =>
    refine fin h2 ?_
    simp only [Instr.makeMap, Option.map_none, Sem.run_bind]
    rfl
  | some q =>
    obtain ⟨n, e3, h3⟩ := lb h2
    obtain ⟨k, hk⟩ := asN_ok e3 (hf q)
    refine fin h3 ?_
    simp only [Instr.makeMap, Option.map_some, hk, Sem.run_bind, run_underlying hu, Result.andThen_ok, asInt, asIntOf, Sem.run_pure]
    rfl
theorem s_range (ht : TyOk C.P tb) (hF : Fits C tb.ng B ρ S.heap w) (hng : tb.ng ≤ S.next) (hf : ∀ x, Rel C ρ (f x) (g x)) {t : Nat} {x : Operand} {o : Oper} (ho : o.op = .range t x) {v : AV} (h : simple tb f (.range t x) S = some (v, S')) (hfree : Free ρ S.next S'.next) :
    SOut C tb.ng B ρ w S S' v ((execOp g o).run C.P w) := by
  simp only [simple] at h
  unfold rangeK at h
  obtain ⟨ti, e1, h1⟩ := lb h
  obtain ⟨i, hi, rfl⟩ := ht.ty _ _ e1
  rw [mkTI_k] at h1
  obtain ⟨⟨kt, et⟩, e2, h2⟩ := lb h1
  have hu := kvT_spec e2
  obtain ⟨b, e3, h3⟩ := lb h2
  obtain ⟨r, hr, hgx⟩ := mpOf_ok e3 (hf x)
  obtain ⟨es, c, S1, g1, g2, g3, h4⟩ := rbM h3
  obtain ⟨arr, hb, hB, hrel⟩ := hF.mapE g1 hr
  obtain ⟨n, S2, h5, h6⟩ := bnd_inv h4
  obtain ⟨rfl, rfl⟩ := ret_inv h6
  rw [← g2] at hF
  obtain ⟨r2, r3, r4, r5, r6⟩ := allocE_ok (o := .mapIter (some r.blk) c #[] c) (r := ⟨w.heap.size, 0, 0, 0⟩) hF (by omega) h5 (by rw [g3]; exact hfree) rfl
    (show ObjAt C ρ B (.it b c [] c) ⟨w.heap.size, 0, 0, 0⟩ (.mapIter (some r.blk) c #[] c) from ⟨hF.size, rfl, ⟨r, hr, rfl⟩, rfl, rfl, rfl⟩)
  refine ⟨_, .pointer (some ⟨w.heap.size, 0, none⟩), _, .inl ?_, ?_, r2, by rw [← g3]; exact r3, r4⟩
  · simp only [execOp, ho, hgx]
    simp only [Instr.range, Sem.run_bind, run_underlying hu, Result.andThen_ok, run_getO hb rfl, Sem.run_pure]
    rfl
  · simp only [Rel]; exact ⟨_, r5, rfl⟩
theorem itOf_ok {x : AV} {n : Nat} {v : Value} (h : itOf x = some n) (hx : Rel C ρ x v) : ∃ r, ρ n = some r ∧ v = .pointer (some ⟨r.blk, r.base, none⟩) := by
  unfold itOf at h
  split at h
  · simp only [Option.some.injEq] at h; subst h
    simp only [Rel] at hx
    obtain ⟨r, h1, h2⟩ := hx
    exact ⟨r, h1, h2⟩
  · cases h
theorem s_entry (hF : Fits C tb.ng B ρ S.heap w) {x : AV} {vx : Value} (hx : Rel C ρ x vx) {v : AV} (h : entryK x S = some (v, S')) :
    S'.heap = S.heap ∧ ∃ y, (Instr.entry vx).run C.P w = .ok y w ∧ Rel C ρ v y := by
  unfold entryK at h
  obtain ⟨n, e1, h1⟩ := lb h
  obtain ⟨r, hr, rfl⟩ := itOf_ok e1 hx
  obtain ⟨m, si, se, la, S1, i1, i2, i3, h2⟩ := rbI h1
  obtain ⟨s, e2, h3⟩ := lb h2
  obtain ⟨es, c, S2, g1, g2, g3, h4⟩ := rbM h3
  obtain ⟨hcl, h5⟩ := cond_inv h4
  obtain ⟨e, e3, h6⟩ := lb h5
  obtain ⟨rfl, rfl⟩ := ret_inv h6
  obtain ⟨rm, sn, j1, j2, j3, j4, j5⟩ := hF.itE i1 hr
  rw [i2] at g1
  obtain ⟨arr, hb, hB, hrel⟩ := hF.mapE g1 j1
  have hcl : c = la := Nat.eq_of_beq_eq_true hcl
  have hback : sn.back? = some s := by
    have e2 : se.getLast? = some s := e2
    rw [← j3] at e2
    rw [Array.back?_eq_getElem?]
    rw [List.getLast?_eq_getElem?] at e2
    simpa using e2
  have hfind : ∃ y, arr.find? (fun e => e.born == s) = some y ∧ RelE C ρ e y := by
    have : ∀ (es : List ME) (l : List MapEntry), RelM C ρ es l → es.find? (fun e => Nat.beq e.b s) = some e → ∃ y, l.find? (fun e => e.born == s) = some y ∧ RelE C ρ e y := by
      intro es
      induction es with
      | nil => intro l _ h; simp at h
      | cons a es ih =>
        intro l hl h
        obtain ⟨y, ys, rfl, m1, m2, m3, m4⟩ := hl
        rw [List.find?_cons] at h
        cases hb : Nat.beq a.b s with
        | true =>
          rw [hb] at h
          simp only [Option.some.injEq] at h; subst h
          have := Nat.eq_of_beq_eq_true hb
          exact ⟨y, by rw [List.find?_cons]; simp [m3, this], m1, m2, m3⟩
        | false =>
          rw [hb] at h
          have hne := beq_false_inv hb
          obtain ⟨z, z1, z2⟩ := ih ys m4 h
          refine ⟨z, ?_, z2⟩
          rw [List.find?_cons]
          have : (y.born == s) = false := by rw [m3]; simpa using hne
          rw [this]; exact z1
    obtain ⟨y, y1, y2⟩ := this es arr.toList hrel e3
    exact ⟨y, by rw [← Array.find?_toList]; exact y1, y2⟩
  obtain ⟨y, y1, y2⟩ := hfind
  refine ⟨by rw [g2, i2], .tuple #[y.key, y.val], ?_, ?_⟩
  · rw [j5]
    simp only [Instr.entry, Sem.run_bind, Result.andThen_ok, run_getO j2 rfl, hback, run_getO hb rfl, hcl, bne_self_eq_false, Bool.false_eq_true, if_false, y1, Sem.run_pure]
  · simp only [Rel, RelL]; exact ⟨[y.key, y.val], rfl, y.key, [y.val], rfl, y2.1, y.val, [], rfl, y2.2.1, rfl⟩
theorem RelM.filter (F : Nat → Bool) : ∀ {es : List ME} {l : List MapEntry}, RelM C ρ es l → RelM C ρ (es.filter fun e => F e.b) (l.filter fun x => F x.born)
  | [], l, h => by have h : l = [] := h; subst h; rfl
  | e :: es, l, h => by
    obtain ⟨x, xs, rfl, h1, h2, h3, h5⟩ := h
    have ih := RelM.filter F h5
    rw [List.filter_cons, List.filter_cons, h3]
    cases F e.b with
    | true => exact ⟨x, _, rfl, h1, h2, h3, ih⟩
    | false => exact ih
theorem inN_eq (sn : Array Nat) (n : Nat) : inN sn.toList n = sn.contains n := by
  unfold inN
  rw [Bool.eq_iff_iff, List.any_eq_true, Array.contains_iff_mem]
  constructor
  · rintro ⟨x, h1, h2⟩
    have := Nat.eq_of_beq_eq_true h2
    subst this
    exact Array.mem_toList_iff.1 h1
  · intro h
    exact ⟨n, Array.mem_toList_iff.2 h, by simp⟩
def candsM (es : Array MapEntry) (since : Nat) (seen : Array Nat) : Array (Option MapEntry) :=
  let left := es.filter fun e => !seen.contains e.born
  let old := left.filter (·.born < since)
  let new := left.filter (·.born ≥ since)
  (if old.isEmpty then #[none] else #[]) ++ (old ++ new).map some
theorem cands_ok {es : List ME} {arr : Array MapEntry} (h : RelM C ρ es arr.toList) (since : Nat) (sn : Array Nat) {c : Option ME} (hc : one1 (cands es since sn.toList) = some c) :
    (c = none ∧ candsM arr since sn = #[none]) ∨ ∃ e x, c = some e ∧ candsM arr since sn = #[some x] ∧ RelE C ρ e x := by
  have h1 : RelM C ρ (es.filter fun e => !(inN sn.toList e.b)) (arr.toList.filter fun e => !sn.contains e.born) := by
    have := RelM.filter (fun n => !(inN sn.toList n)) h
    simpa only [inN_eq] using this
  have h2 := RelM.filter (fun n => Nat.blt n since) h1
  have h3 := RelM.filter (fun n => !(Nat.blt n since)) h1
  have e2 : (fun x : MapEntry => Nat.blt x.born since) = fun x => decide (x.born < since) := by
    funext x
    rw [Bool.eq_iff_iff, decide_eq_true_eq]
    exact ⟨fun h => Nat.le_of_ble_eq_true h, fun h => blt_true h⟩
  have e3 : (fun x : MapEntry => !(Nat.blt x.born since)) = fun x => decide (x.born ≥ since) := by
    funext x
    have := congrFun e2 x
    rw [this, Bool.eq_iff_iff]
    simp
  rw [e2] at h2
  rw [e3] at h3
  have hM : (candsM arr since sn).toList = (if ((arr.toList.filter fun e => !sn.contains e.born).filter fun x => decide (x.born < since)).isEmpty then [none] else []) ++ ((((arr.toList.filter fun e => !sn.contains e.born).filter fun x => decide (x.born < since)) ++ ((arr.toList.filter fun e => !sn.contains e.born).filter fun x => decide (x.born ≥ since))).map some) := by
    unfold candsM
    simp only [Array.toList_append, Array.toList_map, Array.toList_filter]
    congr 1
    rw [← Array.toList_filter, ← Array.toList_filter]
    generalize (arr.filter fun e => !sn.contains e.born).filter (fun x => decide (x.born < since)) = q
    cases hq : q.isEmpty with
    | true =>
      have : q.toList.isEmpty = true := by simpa using hq
      rw [this]; rfl
    | false =>
      have : q.toList.isEmpty = false := by simpa using hq
      rw [this]; rfl
  unfold cands at hc
  simp only [] at hc
  generalize ((arr.toList.filter fun e => !sn.contains e.born).filter fun x => decide (x.born < since)) = oM at h2 hM
  generalize ((arr.toList.filter fun e => !sn.contains e.born).filter fun x => decide (x.born ≥ since)) = nM at h3 hM
  generalize ((es.filter fun e => !(inN sn.toList e.b)).filter fun e => Nat.blt e.b since) = o at h2 hc
  generalize ((es.filter fun e => !(inN sn.toList e.b)).filter fun e => !(Nat.blt e.b since)) = n at h3 hc
  have arrEq : ∀ {a : Array (Option MapEntry)} {l : List (Option MapEntry)}, a.toList = l → a = l.toArray := fun h => by rw [← h]
  cases o with
  | nil =>
    have h2 : oM = [] := h2
    subst h2
    cases n with
    | nil =>
      have h3 : nM = [] := h3
      subst h3
      simp only [List.isEmpty_nil, cond_true, List.append_nil, List.map_nil, one1, Option.some.injEq] at hc
      exact .inl ⟨hc.symm, arrEq hM⟩
    | cons a n => simp [one1] at hc
  | cons a o =>
    obtain ⟨x, xs, rfl, m1, m2, m3, m4⟩ := h2
    cases o with
    | cons b o => simp [one1] at hc
    | nil =>
      have m4 : xs = [] := m4
      subst m4
      cases n with
      | cons b n => simp [one1] at hc
      | nil =>
        have h3 : nM = [] := h3
        subst h3
        simp only [List.isEmpty_cons, cond_false, List.nil_append, List.append_nil, List.map_cons, List.map_nil, one1, Option.some.injEq] at hc
        exact .inr ⟨a, x, hc.symm, arrEq hM, m1, m2, m3⟩
theorem all_born : ∀ {es : List ME} {l : List MapEntry} (n : Nat), RelM C ρ es l → (es.all fun e => Nat.ble n e.b) = l.all fun x => decide (x.born ≥ n)
  | [], l, n, h => by have h : l = [] := h; subst h; rfl
  | e :: es, l, n, h => by
    obtain ⟨x, xs, rfl, h1, h2, h3, h5⟩ := h
    simp only [List.all_cons, all_born n h5, h3]
    congr 1
    rw [Bool.eq_iff_iff]; simp [Nat.ble_eq]
theorem s_next (hF : Fits C tb.ng B ρ S.heap w) {x : AV} {vx : Value} (hx : Rel C ρ x vx) {ty : Nat} {v : AV} (h : nextK x S = some (v, S')) :
    S'.next = S.next ∧ ∃ y w', (Instr.next vx false ty).run C.P w = .ok y w' ∧ Rel C ρ v y ∧ Fits C tb.ng B ρ S'.heap w' ∧ Below B w w' := by
  unfold nextK at h
  obtain ⟨n, e1, h1⟩ := lb h
  obtain ⟨r, hr, rfl⟩ := itOf_ok e1 hx
  obtain ⟨m, si, se, la, S1, i1, i2, i3, h2⟩ := rbI h1
  obtain ⟨es, c, S2, g1, g2, g3, h4⟩ := rbM h2
  obtain ⟨hcl, h5⟩ := cond_inv' h4
  obtain ⟨q, e2, h6⟩ := lb h5
  obtain ⟨rm, sn, j1, j2, j3, j4, j5⟩ := hF.itE i1 hr
  rw [i2] at g1
  obtain ⟨arr, hb, hB, hrel⟩ := hF.mapE g1 j1
  subst j3
  have hcl : (!sn.isEmpty && !arr.isEmpty && arr.all fun e => decide (e.born ≥ la)) = false := by
    have h1 : (!sn.toList.isEmpty && !es.isEmpty && es.all fun e => Nat.ble la e.b) = false := hcl
    rw [all_born la hrel] at h1
    have e1 : sn.toList.isEmpty = sn.isEmpty := by simp
    have e2 : es.isEmpty = arr.isEmpty := by
      have := hrel.len
      rw [Bool.eq_iff_iff]; simp only [List.isEmpty_iff_length_eq_zero, Array.isEmpty_iff_size_eq_zero]
      rw [Array.length_toList] at this; omega
    rw [e1, e2, Array.all_toList] at h1
    exact h1
  have hrow : isRow (Obj.mapIter (some rm.blk) si sn la) = true := rfl
  have hrun : ∀ c', (Instr.next (.pointer (some ⟨r.blk, r.base, none⟩)) false ty).run C.P w = ((choose (.mapNext (candsM arr si sn).size)).run C.P w).andThen (fun a w' => (match (candsM arr si sn)[a]? with
      | some (some e) => do
        setObj r.blk (.mapIter (some rm.blk) si (sn.push e.born) c)
        pure (.tuple #[.bool true, e.key, e.val])
      | some none => pure (.tuple #[.bool false])
      | none => stuck c' : Sem Value).run C.P w') ∨ c' ≠ "Next: no such candidate" := by
    intro c'
    by_cases hc : c' = "Next: no such candidate"
    · subst hc
      left
      rw [j5]
      simp only [Instr.next, Sem.run_bind, Result.andThen_ok, run_getO j2 rfl, run_getO hb rfl, hcl, Bool.false_eq_true, if_false]
      rfl
    · exact .inr hc
  have hrun := (hrun _).resolve_right (fun h => h rfl)
  rcases cands_ok hrel si sn e2 with ⟨rfl, hcs⟩ | ⟨e, y, rfl, hcs, he⟩
  · obtain ⟨rfl, rfl⟩ := ret_inv h6
    refine ⟨by rw [g3, i3], .tuple #[.bool false], w, ?_, ?_, by rw [g2, i2]; exact hF, Below.refl _ _⟩
    · rw [hrun, hcs]
      rfl
    · simp only [Rel, RelL]; exact ⟨[.bool false], rfl, .bool false, [], rfl, rfl, rfl⟩
  · obtain ⟨u0, S3, h9, h10⟩ := bnd_inv h6
    obtain ⟨rfl, rfl⟩ := ret_inv h10
    obtain ⟨u1, u2, u3, u4⟩ := updE_inv h9
    refine ⟨by rw [u4, g3, i3], .tuple #[.bool true, y.key, y.val], putO w r.blk (.mapIter (some rm.blk) si (sn.push y.born) c), ?_, ?_, ?_, Below.putO _ j2 hrow j4⟩
    · rw [hrun, hcs]
      show (do setObj r.blk (.mapIter (some rm.blk) si (sn.push y.born) c); pure (.tuple #[.bool true, y.key, y.val]) : Sem Value).run C.P w = _
      rw [Sem.run_bind, run_setO _ j2 rfl]
      rfl
    · simp only [Rel, RelL]; exact ⟨[.bool true, y.key, y.val], rfl, .bool true, [y.key, y.val], rfl, rfl, y.key, [y.val], rfl, he.1, y.val, [], rfl, he.2.1, rfl⟩
    · rw [u3, g2, i2]
      refine hF.putO u2 i1 hr j2 j4 (show ObjAt C ρ B (.it m si _ c) r (.mapIter _ si _ c) from ⟨j4, j5, ⟨rm, j1, rfl⟩, rfl, ?_, rfl⟩)
      rw [Array.toList_push, he.2.2]
end
end Go.AX
end
section
set_option linter.unusedSimpArgs false
set_option linter.unusedVariables false
namespace Go.AX
section
variable {C : Cx} {tb : Tab} {B : Nat} {ρ : Rho} {w : World} {S S' : St}
variable {f : Operand → AV} {g : Operand → Value}
theorem simple_ok (ht : TabOk C tb) (hF : Fits C tb.ng B ρ S.heap w) (hng : tb.ng ≤ S.next) (hf : ∀ x, Rel C ρ (f x) (g x)) {o : Oper} {v : AV} (h : simple tb f o.op S = some (v, S')) (hfree : Free ρ S.next S'.next) :
    SOut C tb.ng B ρ w S S' v ((execOp g o).run C.P w) := by
  cases ho : o.op <;> rw [ho] at h
  case move x => obtain ⟨rfl, rfl⟩ := ret_inv h; exact .same hF rfl (by simp [execOp, ho]) (hf x)
  case assign x => obtain ⟨rfl, rfl⟩ := ret_inv h; exact .same hF rfl (by simp [execOp, ho]) (hf x)
  case pick => exact s_pick hF hf ho h
  case alloc => exact s_alloc ht.toTyOk hF hng ho h hfree
  case box => exact s_box hF hng hf ho h hfree
  case build => exact s_build ht.toTyOk hF hf ho h
  case buildSlice => exact s_buildSlice ht.toTyOk hF hng hf ho h hfree
  case load t a =>
    obtain ⟨h1, h2, y, h3, h4⟩ := load_ok ht.toTyOk hF (hf a) h
    exact .same hF h1 (by simp only [execOp, ho]; rw [Sem.run_bind, h3]; rfl) h4
  case store t a x =>
    simp only [simple] at h
    obtain ⟨u, S1, h1, h2⟩ := bnd_inv h
    obtain ⟨rfl, rfl⟩ := ret_inv h2
    obtain ⟨h3, w', h4, h5, h6⟩ := store_ok ht.toTyOk hF (hf a) (hf x) h1
    exact ⟨ρ, undef, w', .inr ⟨by simp only [execOp, ho]; rw [Sem.run_bind, h4]; rfl, rfl⟩, by simp [Rel], h5, Ext.refl _ _ _, h6⟩
  case nilCheck => exact s_nilCheck hF hf ho h
  case binOp => exact s_binOp ht.toTyOk ht.toHypOk hF hf ho h
  case unOp => exact s_unOp ht.toHypOk hF hf ho h
  case convert => exact s_convert ht.toTyOk ht.toHypOk hF hng hf ho h hfree
  case makeInterface => exact s_makeInterface ht.toTyOk hF hf ho h
  case makeFunc => exact s_makeFunc hF hf ho h
  case makeMap => exact s_makeMap ht.toTyOk hF hng hf ho h hfree
  case lookup t m k ok =>
    obtain ⟨h1, y, h3, h4⟩ := s_lookup ht.toTyOk ht.toHypOk hF (hf m) (hf k) h
    exact .same hF h1 (by simp only [execOp, ho]; rw [Sem.run_bind, h3]; rfl) h4
  case mapUpdate t m k x =>
    simp only [simple] at h
    obtain ⟨u, S1, h1, h2⟩ := bnd_inv h
    obtain ⟨rfl, rfl⟩ := ret_inv h2
    obtain ⟨h3, w', h4, h5, h6⟩ := s_mapUpdate ht.toTyOk ht.toHypOk hF (hf m) (hf k) (hf x) h1
    exact ⟨ρ, undef, w', .inr ⟨by simp only [execOp, ho]; rw [Sem.run_bind, h4]; rfl, rfl⟩, by simp [Rel], h5, Ext.refl _ _ _, h6⟩
  case mapEntry t m k =>
    obtain ⟨h1, x, w', h2, h3, h4, h5⟩ := s_mapEntry ht.toTyOk ht.toHypOk hF (hf m) (hf k) h
    exact ⟨ρ, x, w', .inl (by simp only [execOp, ho]; rw [Sem.run_bind, h2]; rfl), h3, h4, Ext.refl _ _ _, h5⟩
  case entryStore t m s x =>
    simp only [simple] at h
    obtain ⟨u, S1, h1, h2⟩ := bnd_inv h
    obtain ⟨rfl, rfl⟩ := ret_inv h2
    obtain ⟨h3, w', h4, h5, h6⟩ := s_entryStore (t := t) hF (hf m) (hf s) (hf x) h1
    exact ⟨ρ, undef, w', .inr ⟨by simp only [execOp, ho]; rw [Sem.run_bind, h4]; rfl, rfl⟩, by simp [Rel], h5, Ext.refl _ _ _, h6⟩
  case range => exact s_range ht.toTyOk hF hng hf ho h hfree
  case next x isS =>
    simp only [simple] at h
    cases isS with
    | true => rw [cond_true] at h; exact (fail_inv h).elim
    | false =>
    rw [cond_false] at h
    obtain ⟨h1, y, w', h2, h3, h4, h5⟩ := s_next (ty := o.type) hF (hf x) h
    exact ⟨ρ, y, w', .inl (by simp only [execOp, ho]; rw [Sem.run_bind, h2]; rfl), h3, h4, Ext.refl _ _ _, h5⟩
  case entry x =>
    obtain ⟨h1, y, h3, h4⟩ := s_entry hF (hf x) h
    exact .same hF h1 (by simp only [execOp, ho]; rw [Sem.run_bind, h3]; rfl) h4
  case makeSlice => exact s_makeSlice ht.toTyOk hF hng hf ho h hfree
  case slice => exact s_slice ht.toTyOk ht.toHypOk hF hf ho h
  case fieldAddr => exact s_fieldAddr ht.toTyOk hF hf ho h
  case field => exact s_field ht.toTyOk hF hf ho h
  case indexAddr => exact s_indexAddr ht.toTyOk hF hf ho h
  case index => exact s_index ht.toTyOk ht.toHypOk hF hf ho h
  case typeAssert => exact s_typeAssert ht hF hf ho h
  case extract => exact s_extract hF hf ho h
  all_goals (simp only [simple] at h; exact (fail_inv h).elim)
/- builtins -/
theorem lenK_ok (hF : Fits C tb.ng B ρ S.heap w) (hh : HypOk C tb) {t ty : Nat} {x v : AV} {xv : Value} (hx : Rel C ρ x xv) (h : lenK tb (kOf C.P t) x S = some (v, S')) :
    S'.heap = S.heap ∧ ∃ y, (Builtin.len_ #[t] ty #[xv]).run C.P w = .ok y w ∧ Rel C ρ v y := by
  unfold lenK at h
  cases hk : kOf C.P t <;> rw [hk] at h <;> try (cases x <;> exact (fail_inv h).elim)
  case str =>
    have hu := kOf_str hk
    cases x <;> try exact (fail_inv h).elim
    · obtain ⟨rfl, rfl⟩ := ret_inv h
      simp only [Rel] at hx
      obtain ⟨rfl, _⟩ := hx
      exact ⟨rfl, _, run_len_string w t ty _ hu, by simp [Rel, goInt, ByteArray.size, strB_length]⟩
    · obtain ⟨h1, rfl⟩ := lft_inv h
      obtain ⟨z, hz, s, rfl, rfl⟩ := hyp_ok hh h1 ρ _ hx
      exact ⟨rfl, _, run_len_string w t ty _ hu, hz⟩
  case slice =>
    have hu := kOf_slice hk
    cases x <;> try exact (fail_inv h).elim
    · obtain ⟨rfl, rfl⟩ := ret_inv h
      simp only [Rel] at hx; subst hx
      exact ⟨rfl, .int .i64 0, by simp [Builtin.len_, run_underlying hu, goInt], by simp [Rel]⟩
    · obtain ⟨rfl, rfl⟩ := ret_inv h
      obtain ⟨r, a, c', _, rfl, _⟩ := sl_addr hx
      exact ⟨rfl, _, by simp [Builtin.len_, run_underlying hu, goInt]; rfl, by simp [Rel]⟩
  case map k e =>
    have hu := kOf_map hk
    have h : bnd (mapOf x) (fun es => ret (.i .i64 (.ofNat es.length))) S = some (v, S') := by cases x <;> exact h
    obtain ⟨es, S1, h1, h2⟩ := bnd_inv h
    obtain ⟨rfl, rfl⟩ := ret_inv h2
    obtain ⟨a1, a2, a3⟩ := mapOf_ok hF hx h1
    refine ⟨a1, .int .i64 es.length, ?_, by simp [Rel]⟩
    rcases a3 with ⟨rfl, rfl⟩ | ⟨r, arr, c, rfl, g1, g2⟩
    · simp [Builtin.len_, run_underlying hu, goInt]
    · have := g2.len
      rw [Array.length_toList] at this
      simp [Builtin.len_, run_underlying hu, goInt, run_getO g1 rfl, this]
  case arr n e =>
    have hu := kOf_arr hk
    have h2 : ret (AV.i .i64 (.ofNat n)) S = some (v, S') := by cases x <;> exact h
    obtain ⟨rfl, rfl⟩ := ret_inv h2
    exact ⟨rfl, .int .i64 n, by cases xv <;> simp [Builtin.len_, run_underlying hu, goInt], by simp [Rel]⟩
theorem capK_ok {t ty : Nat} {x v : AV} {xv : Value} (hx : Rel C ρ x xv) (h : capK (kOf C.P t) x S = some (v, S')) :
    S' = S ∧ ∃ y, (Builtin.cap_ #[t] ty #[xv]).run C.P w = .ok y w ∧ Rel C ρ v y := by
  unfold capK at h
  cases hk : kOf C.P t <;> rw [hk] at h <;> try (cases x <;> exact (fail_inv h).elim)
  have hu := kOf_slice hk
  cases x <;> try exact (fail_inv h).elim
  · obtain ⟨rfl, rfl⟩ := ret_inv h
    simp only [Rel] at hx; subst hx
    exact ⟨rfl, .int .i64 0, by simp [Builtin.cap_, run_underlying hu, goInt], by simp [Rel]⟩
  · rename_i b o n c q
    cases q <;> try exact (fail_inv h).elim
    obtain ⟨rfl, rfl⟩ := ret_inv h
    simp only [Rel] at hx
    obtain ⟨r, _, _, rfl⟩ := hx
    exact ⟨rfl, _, by simp [Builtin.cap_, run_underlying hu, goInt]; rfl, by simp [Rel]⟩
theorem max2_ok {x y z : AV} {xv yv : Value} (hx : Rel C ρ x xv) (hy : Rel C ρ y yv) (h : max2 x y = some z) : ∃ zv, (Builtin.max2 xv yv).run C.P w = .ok zv w ∧ Rel C ρ z zv := by
  unfold max2 at h
  split at h
  · rename_i k a l c
    simp only [Option.some.injEq] at h; subst h
    simp only [Rel] at hx hy; subst hx; subst hy
    refine ⟨_, rfl, ?_⟩
    simp only [Rel, ilt_iff]
    by_cases hac : a < c <;> simp [hac]
  · cases h
theorem min2_ok {x y z : AV} {xv yv : Value} (hx : Rel C ρ x xv) (hy : Rel C ρ y yv) (h : min2 x y = some z) : ∃ zv, (Builtin.min2 xv yv).run C.P w = .ok zv w ∧ Rel C ρ z zv := by
  unfold min2 at h
  split at h
  · rename_i k a l c
    simp only [Option.some.injEq] at h; subst h
    simp only [Rel] at hx hy; subst hx; subst hy
    refine ⟨_, rfl, ?_⟩
    simp only [Rel, ilt_iff]
    by_cases hac : c < a <;> simp [hac]
  · cases h
theorem foldA_ok {ff : AV → AV → Option AV} {gg : Value → Value → Sem Value} (hfg : ∀ {x y z : AV} {xv yv : Value}, Rel C ρ x xv → Rel C ρ y yv → ff x y = some z → ∃ zv, (gg xv yv).run C.P w = .ok zv w ∧ Rel C ρ z zv) :
    ∀ (l : List AV) (vs : List Value) (x v : AV) (xv : Value), RelL C ρ l vs → Rel C ρ x xv → foldA ff x l = some v → ∃ y, (vs.foldlM gg xv).run C.P w = .ok y w ∧ Rel C ρ v y := by
  intro l
  induction l with
  | nil => intro vs x v xv hl hx h; simp only [RelL] at hl; subst hl; simp only [foldA, Option.some.injEq] at h; subst h; exact ⟨xv, by simp, hx⟩
  | cons a l ih =>
    intro vs x v xv hl hx h
    simp only [RelL] at hl
    obtain ⟨u, us, rfl, h1, h2⟩ := hl
    simp only [foldA] at h
    cases hz : ff x a with
    | none => rw [hz] at h; cases h
    | some z =>
      rw [hz] at h
      obtain ⟨zv, z1, z2⟩ := hfg hx h1 hz
      obtain ⟨y, y1, y2⟩ := ih us z v zv h2 z2 h
      exact ⟨y, by simp only [List.foldlM_cons, Sem.run_bind, z1, Result.andThen_ok, y1], y2⟩
end
end Go.AX
end
section
set_option linter.unusedSimpArgs false
set_option linter.unusedVariables false
namespace Go.AX
section
variable {P : Program} {w : World}
/-- what is appended: how many, and its cells, in whatever world has this heap -/
structure Apd (P : Program) (w : World) (ats : Array Nat) (e : Nat) (ie : TypeInfo) (x : Value) (n : Nat) (news : List Value) : Prop where
  ex : ∃ xt dx, ats[1]? = some xt ∧ P.underlying xt = some dx ∧
    (((∀ k, dx ≠ .int k) ∧ (∀ w', (Builtin.lenOf x).run P w' = .ok n w') ∧ ∀ w', w'.heap = w.heap → (Builtin.firstCells ie.size n x).run P w' = .ok news.toArray w') ∨
     ((∃ k, dx = .int k) ∧ (∃ k, x = .int k (n : Int)) ∧ n ≤ 140737488355328 ∧ n * ie.bytes ≤ 140737488355328 ∧ ∃ z, ie.zero = some z ∧ z.cells.toList.length = ie.size ∧ news = (madeCells z.cells (n * ie.size)).toList))
theorem zeroCells_made (z : Array Value) (n s : Nat) (h : z.toList.length = s) : Builtin.zeroCells z n = madeCells z (n * s) := by
  unfold Builtin.zeroCells madeCells
  rw [← h]; simp
set_option maxHeartbeats 2000000 in
theorem app_room {ats : Array Nat} {st e ty n : Nat} {ie : TypeInfo} {a : Addr} {sLen sCap : Nat} {x : Value} {news : List Value} (h0 : ats[0]? = some st) (hst : P.underlying st = some (.slice e)) (hie : P.info? e = some ie)
    (hA : Apd P w ats e ie x n news) (hroom : sLen + n ≤ sCap) :
    (Builtin.append_ ats ty #[.slice (some a) sLen sCap, x]).run P w = ((storeCells (a.add (sLen * ie.size)) news).run P w).andThen fun _ w' => .ok (.slice (some a) (sLen + n) sCap) w' := by
  obtain ⟨xt, dx, h1, hx, hor⟩ := hA.ex
  rcases hor with ⟨hni, hlen, hnew⟩ | ⟨⟨k, rfl⟩, ⟨kx, rfl⟩, hb1, hb2, z, hz, hzl, rfl⟩
  · cases dx <;> first
      | exact absurd rfl (hni _)
      | (simp [Builtin.append_, h0, h1, run_underlying hst, run_underlying hx, run_size hie, hlen, hroom, hnew w rfl]; done)
      | (simp [Builtin.append_, h0, h1, run_underlying hst, run_underlying hx, run_size hie, hlen, hroom, hnew w rfl]; rfl)
  · have hw : IntKind.i64.wrap (n : Int) = n := by rw [IntKind.wrap_i64]; omega
    have hnb : ¬ (281474976710656 < (n : Int) * (ie.bytes : Int)) := by
      rw [← Int.natCast_mul]; omega
    have hneg : ¬ ((n : Int) < 0) := by omega
    by_cases hz0 : n * ie.size = 0
    · have : madeCells z.cells (n * ie.size) = #[] := by rw [hz0]; exact Array.eq_empty_of_size_eq_zero (size_madeCells _ _)
      rw [this]
      simp [Builtin.append_, h0, h1, run_underlying hst, run_underlying hx, run_size hie, asInt, asIntOf, hw, run_info hie, hroom, hz0, hnb, hneg]
    · have hzc := zeroCells_made z.cells n ie.size hzl
      simp [Builtin.append_, h0, h1, run_underlying hst, run_underlying hx, run_size hie, asInt, asIntOf, hw, run_info hie, hroom, hz0, hnb, hneg, zeroValue, hz, hzc]
set_option maxHeartbeats 2000000 in
theorem app_roomN {ats : Array Nat} {st e ty n : Nat} {ie : TypeInfo} {sLen sCap : Nat} {x : Value} {news : List Value} (h0 : ats[0]? = some st) (hst : P.underlying st = some (.slice e)) (hie : P.info? e = some ie)
    (hA : Apd P w ats e ie x n news) (hroom : sLen + n ≤ sCap) :
    (Builtin.append_ ats ty #[.slice none sLen sCap, x]).run P w = .ok (.slice none (sLen + n) sCap) w := by
  obtain ⟨xt, dx, h1, hx, hor⟩ := hA.ex
  rcases hor with ⟨hni, hlen, hnew⟩ | ⟨⟨k, rfl⟩, ⟨kx, rfl⟩, hb1, hb2, z, hz, hzl, rfl⟩
  · cases dx <;> first
      | exact absurd rfl (hni _)
      | (simp [Builtin.append_, h0, h1, run_underlying hst, run_underlying hx, run_size hie, hlen, hroom, hnew w rfl]; done)
      | (simp [Builtin.append_, h0, h1, run_underlying hst, run_underlying hx, run_size hie, hlen, hroom, hnew w rfl]; rfl)
  · have hw : IntKind.i64.wrap (n : Int) = n := by rw [IntKind.wrap_i64]; omega
    have hnb : ¬ (281474976710656 < (n : Int) * (ie.bytes : Int)) := by
      rw [← Int.natCast_mul]; omega
    have hneg : ¬ ((n : Int) < 0) := by omega
    by_cases hz0 : n * ie.size = 0
    · have : madeCells z.cells (n * ie.size) = #[] := by rw [hz0]; exact Array.eq_empty_of_size_eq_zero (size_madeCells _ _)
      try rw [this]
      simp [Builtin.append_, h0, h1, run_underlying hst, run_underlying hx, run_size hie, asInt, asIntOf, hw, run_info hie, hroom, hz0, hnb, hneg]
    · have hzc := zeroCells_made z.cells n ie.size hzl
      simp [Builtin.append_, h0, h1, run_underlying hst, run_underlying hx, run_size hie, asInt, asIntOf, hw, run_info hie, hroom, hz0, hnb, hneg, zeroValue, hz, hzc]
set_option maxHeartbeats 2000000 in
theorem app_grow {ats : Array Nat} {st e ty n : Nat} {ie : TypeInfo} {base : Option Addr} {sLen sCap : Nat} {x : Value} {olds news : List Value} {z : Value} (h0 : ats[0]? = some st) (hst : P.underlying st = some (.slice e)) (hie : P.info? e = some ie)
    (hz : ie.zero = some z) (hzl : z.cells.toList.length = ie.size) (hA : Apd P w ats e ie x n news) (hroom : sCap < sLen + n) (hold : ∀ w', w'.heap = w.heap → (Builtin.firstCells ie.size sLen (.slice base sLen sCap)).run P w' = .ok olds.toArray w')
    (hb1 : (sLen + n) * ie.bytes ≤ 140737488355328) (hb2 : sLen + n ≤ 140737488355328) :
    (Builtin.append_ ats ty #[.slice base sLen sCap, x]).run P w = .ok (.slice (some ⟨w.heap.size, 0, none⟩) (sLen + n) (grownCap w (sLen + n) sCap e))
      (w.drew.alloc (.cells (olds.toArray ++ (news.toArray ++ madeCells z.cells ((grownCap w (sLen + n) sCap e - (sLen + n)) * ie.size))) e)) := by
  obtain ⟨xt, dx, h1, hx, hor⟩ := hA.ex
  have hnr : ¬ (sLen + n ≤ sCap) := by omega
  have hfit := growslice_fits hroom hb1
  have hfit' : ¬ (281474976710656 < Builtin.nextslicecap (sLen + n) sCap * ie.bytes) := by omega
  have h63 : ¬ ((9223372036854775807 : Int) < (sLen : Int) + (n : Int)) := by omega
  have hzc := zeroCells_made z.cells (grownCap w (sLen + n) sCap e - (sLen + n)) ie.size hzl
  have hd : w.drew.heap = w.heap := rfl
  have hch : (choose (.appendCap (sLen + n) sCap e)).run P w = .ok (grownCap w (sLen + n) sCap e) w.drew := by
    simp [Question.forced, grownCap]
  rcases hor with ⟨hni, hlen, hnew⟩ | ⟨⟨k, rfl⟩, ⟨kx, rfl⟩, hb1, hb2, z', hz', hzl', rfl⟩
  · cases dx <;> first
      | exact absurd rfl (hni _)
      | (simp [-run_choose, Builtin.append_, h0, h1, run_underlying hst, run_underlying hx, run_size hie, run_info hie, hlen, hnr, h63, hfit', hch, hnew _ hd, hold _ hd, zeroValue, hz, hzc, newRow]; done)
      | (simp [-run_choose, Builtin.append_, h0, h1, run_underlying hst, run_underlying hx, run_size hie, run_info hie, hlen, hnr, h63, hfit', hch, hnew _ hd, hold _ hd, zeroValue, hz, hzc, newRow]; rfl)
  · have hw : IntKind.i64.wrap (n : Int) = n := by rw [IntKind.wrap_i64]; omega
    have hnb : ¬ (281474976710656 < (n : Int) * (ie.bytes : Int)) := by
      rw [← Int.natCast_mul]; omega
    have hneg : ¬ ((n : Int) < 0) := by omega
    rw [hz] at hz'; injection hz' with hz'; subst hz'
    by_cases hz0 : n * ie.size = 0
    · have : madeCells z.cells (n * ie.size) = #[] := by rw [hz0]; exact Array.eq_empty_of_size_eq_zero (size_madeCells _ _)
      rw [this]
      simp [-run_choose, Builtin.append_, h0, h1, run_underlying hst, run_underlying hx, run_size hie, run_info hie, asInt, asIntOf, hw, hz0, hnb, hneg, hnr, h63, hfit', hch, hold _ hd, zeroValue, hz, hzc, newRow]
    · have hzc2 := zeroCells_made z.cells n ie.size hzl
      simp [-run_choose, Builtin.append_, h0, h1, run_underlying hst, run_underlying hx, run_size hie, run_info hie, asInt, asIntOf, hw, hz0, hnb, hneg, hnr, h63, hfit', hch, hold _ hd, zeroValue, hz, hzc, hzc2, newRow]
      try rfl
end
end Go.AX
end
section
set_option linter.unusedSimpArgs false
set_option linter.unusedVariables false
namespace Go.AX
section
variable {C : Cx} {tb : Tab} {B : Nat} {ρ : Rho} {w : World} {S S' : St}
theorem str_rel (k m : Nat) (ρ : Rho) (C : Cx) : RelL C ρ (unp k m) ((strB k m).map fun b => .int .u8 (b.toNat : Int)) := by
  rw [RelL.iff]
  refine ⟨by simp [unp_length, strB_length], fun j a hj => ?_⟩
  rw [unp_get] at hj
  split at hj
  · rename_i hlt
    simp only [Option.some.injEq] at hj; subst hj
    refine ⟨.int .u8 (byteAt m j : Nat), ?_, by simp only [Rel]; rfl⟩
    rw [List.getElem?_map, strB_get _ _ _ hlt]
    simp [Nat.mod_eq_of_lt (byteAt_lt m j)]
  · cases hj
theorem src_ok (hF : Fits C tb.ng B ρ S.heap w) {sz n : Nat} {x : AV} {xv : Value} {d : Cells} (hx : Rel C ρ x xv) (hn : avLen x = some n) (h : src sz x S = some (d, S')) :
    S'.heap = S.heap ∧ S'.next = S.next ∧ CW d ∧ d.toL.length = n * sz ∧ ∃ news : List Value, RelL C ρ d.toL news ∧ (∀ y ∈ news, y.oneCell' = true) ∧
      (∀ w', (Builtin.lenOf xv).run C.P w' = .ok n w') ∧ (∀ w', w'.heap = w.heap → (Builtin.firstCells sz n xv).run C.P w' = .ok news.toArray w') ∧
      (∀ s, xv = .string s → sz = 1) ∧ (∀ a l c, xv = .slice (some a) l c → ∀ (j : Nat) v, news[j]? = some v → w.cell? (a.add j) = some v) := by
  cases x <;> simp only [src] at h <;> try exact (fail_inv h).elim
  case s k m =>
    obtain ⟨hsz, h1⟩ := cond_inv h
    have hsz := beq_inv hsz
    subst hsz
    obtain ⟨rfl, rfl⟩ := ret_inv h1
    simp only [avLen, Option.some.injEq] at hn; subst hn
    simp only [Rel] at hx
    obtain ⟨rfl, hlt⟩ := hx
    refine ⟨rfl, rfl, hlt, by simp [Cells.toL, unp_length], _, str_rel k m ρ C, fun y hy => ?_, fun w' => ?_, fun w' _ => ?_, fun _ _ => rfl, fun a l c e => by cases e⟩
    · rw [List.mem_map] at hy; obtain ⟨b, _, rfl⟩ := hy; rfl
    · simp [Builtin.lenOf, ByteArray.size, strB_length]
    · have hsz2 : (⟨(strB k m).toArray⟩ : ByteArray).size = k := by simp [ByteArray.size, strB_length]
      have : (⟨(strB k m).toArray⟩ : ByteArray).extract 0 k = ⟨(strB k m).toArray⟩ := by
        have := ByteArray.extract_zero_size (b := (⟨(strB k m).toArray⟩ : ByteArray))
        rw [hsz2] at this; exact this
      simp [Builtin.firstCells, this]
  case nils =>
    obtain ⟨rfl, rfl⟩ := ret_inv h
    simp only [avLen, Option.some.injEq] at hn; subst hn
    simp only [Rel] at hx; subst hx
    exact ⟨rfl, rfl, trivial, by simp [Cells.toL], [], by simp [RelL, Cells.toL], by simp, (fun w' => by simp [Builtin.lenOf]), (fun w' _ => by simp [Builtin.firstCells]), (fun s e => by cases e), (fun a l c e => by cases e)⟩
  case sl b o m c r =>
    simp only [avLen, Option.some.injEq] at hn; subst hn
    obtain ⟨k, S1, e1, e2, e3, h1⟩ := rb h
    obtain ⟨h2, rfl⟩ := lft_inv h1
    obtain ⟨hle, hto, hcw⟩ := Cells.sub_spec h2
    obtain ⟨rr, a, c', hr, rfl, _, ha⟩ := sl_addr hx
    obtain ⟨arr, fz, hb, hbk⟩ := get_block hF e1 hr
    obtain ⟨vs, v1, v2, v3, v4⟩ := read_ok hb hbk.cells hle
    have hcells : ∀ (j : Nat) u, vs[j]? = some u → w.cell? (a.add j) = some u := by
      rcases ha with rfl | h0
      · exact v4
      · intro j u hj; have : vs = [] := List.eq_nil_of_length_eq_zero (by rw [v1, h0]; simp); subst this; simp at hj
    refine ⟨e2, e3, hcw, ?_, vs, by rw [hto]; exact v2, v3, fun w' => by simp [Builtin.lenOf], fun w' hw' => ?_, fun s e => (by cases e), fun a' l' c'' e => (by injection e with e1 _ _; injection e1 with e1; subst e1; exact hcells)⟩
    · rw [hto, ← v2.len, v1]; rfl
    · have hc' : ∀ (j : Nat) u, vs[j]? = some u → w'.cell? (a.add j) = some u := fun j u hj => by
        have := hcells j u hj
        simpa [World.cell?, hw'] using this
      have := run_loadCells_list (P := C.P) w' a vs hc'
      rw [v1] at this
      exact this
theorem big_spec {b n : Nat} (h : big b n = false) : b * n ≤ 140737488355328 ∧ n ≤ 140737488355328 := by
  unfold big at h
  rw [Bool.or_eq_false_iff] at h
  constructor
  · rcases Nat.lt_or_ge 140737488355328 (b * n) with h1 | h1
    · have := blt_true h1; rw [show Nat.mul b n = b * n from rfl, this] at h; cases h.1
    · exact h1
  · rcases Nat.lt_or_ge 140737488355328 n with h1 | h1
    · have := blt_true h1; rw [this] at h; cases h.2
    · exact h1
def ApdOut (C : Cx) (ng B : Nat) (ρ : Rho) (w : World) (S S' : St) (v : AV) (ats : Array Nat) (ty : Nat) (sv x : Value) : Prop :=
  Out C ng B ρ w S S' v ((Builtin.append_ ats ty #[sv, x]).run C.P w)
/-- a block struck, and its memory under a new number -/
theorem Fits.move {ng : Nat} {H : T Ent} {w' : World} {v n : Nat} {k k' : Ent} {r r' : R} {o : Obj} (h : Fits C ng B ρ H w) (hv : H.get v = some k) (hr : ρ v = some r) (hvn : v ≤ 16777213) (hn : n ≤ 16777213) (hf : ρ n = none)
    (hk : ObjAt C ρ B k' r' o) (hrr : r'.blk = r.blk) (hw : w'.heap[r.blk]? = some o) (ho : ∀ b, b ≠ r.blk → w'.heap[b]? = w.heap[b]?) (hsz : w'.heap.size = w.heap.size) (hB : ∀ b, b < B → w'.heap[b]? = w.heap[b]?) :
    Fits C ng B (put1 ρ n r') ((H.del v).set n k') w' := by
  have hs := put1_sub (r := r') hf
  have hget : ∀ u ku, u ≠ n → ((H.del v).set n k').get u = some ku → u ≠ v ∧ H.get u = some ku := fun u ku hun hu => by
    rw [get_set _ _ _ _ hn, if_neg hun, get_del _ _ _ hvn] at hu
    split at hu
    · cases hu
    · rename_i e; exact ⟨e, hu⟩
  refine ⟨by have := h.size; omega, fun g hg => by rw [hs g _ (h.glob g hg)], fun u ku hu => ?_, ?_, h.low, C.stab w w' (fun b hb => hB b (by have := h.low; omega)) h.inv⟩
  · by_cases e : u = n
    · subst e
      rw [get_set _ _ _ _ hn, if_pos rfl] at hu; injection hu with hu; subst hu
      exact ⟨r', by simp [put1], o, by rw [hrr]; exact hw, hk.mono hs⟩
    · obtain ⟨e2, hu'⟩ := hget u ku e hu
      obtain ⟨r2, h1, o2, h2, h3⟩ := h.blk u ku hu'
      refine ⟨r2, hs _ _ h1, o2, ?_, h3.mono hs⟩
      rw [ho _ (fun e' => e2 (h.inj u v ku k r2 r hu' hv h1 hr e'))]; exact h2
  · intro a b k1 k2 r1 r2 ha hb hr1 hr2 he
    by_cases e1 : a = n <;> by_cases e2 : b = n
    · omega
    · subst e1
      obtain ⟨e3, hb'⟩ := hget b k2 e2 hb
      simp only [put1, if_pos rfl] at hr1; injection hr1 with hr1; subst hr1
      unfold put1 at hr2; rw [if_neg e2] at hr2
      exact absurd (h.inj b v k2 k r2 r hb' hv hr2 hr (by rw [← he, hrr])) e3
    · subst e2
      obtain ⟨e3, ha'⟩ := hget a k1 e1 ha
      simp only [put1, if_pos rfl] at hr2; injection hr2 with hr2; subst hr2
      unfold put1 at hr1; rw [if_neg e1] at hr1
      exact absurd (h.inj a v k1 k r1 r ha' hv hr1 hr (by rw [he, hrr])) e3
    · obtain ⟨_, ha'⟩ := hget a k1 e1 ha
      obtain ⟨_, hb'⟩ := hget b k2 e2 hb
      unfold put1 at hr1 hr2; rw [if_neg e1] at hr1; rw [if_neg e2] at hr2
      exact h.inj a b k1 k2 r1 r2 ha' hb' hr1 hr2 he
/-- a new row for old and new -/
theorem grow_ok (hF : Fits C tb.ng B ρ S.heap w) (hng : tb.ng ≤ S.next) {ats : Array Nat} {st e ty n : Nat} {ie : TypeInfo} {base : Option Addr} {sLen sCap : Nat} {x : Value} {olds news : List Value} {z : Value} (h0 : ats[0]? = some st) (hst : C.P.underlying st = some (.slice e)) (hie : C.P.info? e = some ie)
    (hz : ie.zero = some z) (hzl : z.cells.toList.length = ie.size) (hzo : ∀ y ∈ z.cells.toList, y.oneCell' = true) (hA : Apd C.P w ats e ie x n news) (hroom : sCap < sLen + n) (hold : ∀ w', w'.heap = w.heap → (Builtin.firstCells ie.size sLen (.slice base sLen sCap)).run C.P w' = .ok olds.toArray w')
    (hb1 : (sLen + n) * ie.bytes ≤ 140737488355328) (hb2 : sLen + n ≤ 140737488355328)
    {old d : Cells} (ho : RelL C ρ old.toL olds) (hd : RelL C ρ d.toL news) (how : CW old) (hdw : CW d) (ho1 : ∀ y ∈ olds, y.oneCell' = true) (hd1 : ∀ y ∈ news, y.oneCell' = true) (hol : olds.length = sLen * ie.size) (hdl : news.length = n * ie.size)
    {fr : Nat} {sti : Bool} {b : Nat} (h : new ⟨e, old.app d, (sLen + n) * ie.size, ie.size, fr, sti, true⟩ S = some (b, S')) (hfree : Free ρ S.next S'.next) :
    ApdOut C tb.ng B ρ w S S' (.sl b 0 (sLen + n) 0 true) ats ty (.slice base sLen sCap) x := by
  have hrun := app_grow (ty := ty) h0 hst hie hz hzl hA hroom hold hb1 hb2
  have hcap := grownCap_ge w (sLen + n) sCap e
  generalize grownCap w (sLen + n) sCap e = cp at hrun hcap
  obtain ⟨a1, a2⟩ := Cells.app_spec how hdw
  have hmade : (madeCells z.cells ((cp - (sLen + n)) * ie.size)).toList = (List.replicate (cp - (sLen + n)) z.cells.toList).flatten := made_eq _ _ _ hzl
  have hsz : (olds.toArray ++ (news.toArray ++ madeCells z.cells ((cp - (sLen + n)) * ie.size))).size = cp * ie.size := by
    simp only [Array.size_append, List.size_toArray, size_madeCells, hol, hdl, ← Nat.add_mul]
    congr 1; omega
  have hlen : (old.app d).len = (sLen + n) * ie.size := by
    rw [Cells.len_eq, a1, List.length_append, ← ho.len, ← hd.len, hol, hdl, Nat.add_mul]
  have hle : (sLen + n) * ie.size ≤ cp * ie.size := Nat.mul_le_mul_right _ hcap
  have hba : BlkAt C ρ B ⟨e, old.app d, (sLen + n) * ie.size, ie.size, fr, sti, true⟩ ⟨w.heap.size, 0, cp, ie.size⟩ (olds.toArray ++ (news.toArray ++ madeCells z.cells ((cp - (sLen + n)) * ie.size))) (0, 0) := by
    constructor
    · refine ⟨a2, fun j a hj => ?_⟩
      simp only [] at hj
      rw [a1] at hj
      obtain ⟨y, hy, hr⟩ := (ho.app hd).get hj
      refine ⟨y, ?_, hr, ?_⟩
      · rw [Nat.zero_add, ← Array.getElem?_toList]
        simp only [Array.toList_append, ← List.append_assoc]
        rw [List.getElem?_append_left (by have := (ho.app hd).len; rcases Nat.lt_or_ge j (olds ++ news).length with h | h; exact h; rw [List.getElem?_eq_none h] at hy; cases hy)]
        exact hy
      · rcases List.mem_append.1 (List.mem_of_getElem? hy) with h | h
        · exact ho1 y h
        · exact hd1 y h
    · intro _
      refine ⟨by rw [hsz]; simp, hle, by show (old.app d).len ≤ _; rw [hlen]; exact Nat.le_refl _, rfl⟩
    · intro y _ _ h; simp at h
    · intro _; exact .inl rfl
    · intro h; have := hF.size; simp only [] at h; omega
    · rw [hsz]; show 0 + (old.app d).len ≤ _; rw [hlen]; omega
    · intro h; cases h
  obtain ⟨r2, r3, r4, r5, r6⟩ := newG_ok (w' := w.drew.alloc (.cells (olds.toArray ++ (news.toArray ++ madeCells z.cells ((cp - (sLen + n)) * ie.size))) e)) hF hng h hfree rfl hba rfl rfl rfl rfl
  refine ⟨_, _, _, hrun, ?_, r2, r3, r4⟩
  simp only [Rel]
  exact ⟨_, ⟨w.heap.size, 0, none⟩, r5, by show 0 + (sLen + n) ≤ cp; omega, rfl, .inl rfl⟩
end
end Go.AX
end
section
set_option linter.unusedSimpArgs false
set_option linter.unusedVariables false
namespace Go.AX
section
variable {C : Cx} {tb : Tab} {B : Nat} {ρ : Rho} {w : World} {S S' : St}
set_option maxHeartbeats 1000000 in
theorem appd_ok (hF : Fits C tb.ng B ρ S.heap w) (hng : tb.ng ≤ S.next) {ats : Array Nat} {st e ty n : Nat} {ie : TypeInfo} {s v : AV} {sv x : Value} {news : List Value} {z : Value} (h0 : ats[0]? = some st) (hst : C.P.underlying st = some (.slice e)) (hie : C.P.info? e = some ie)
    (hz : ie.zero = some z) (hzl : z.cells.toList.length = ie.size) (hzo : ∀ y ∈ z.cells.toList, y.oneCell' = true) (hA : Apd C.P w ats e ie x n news)
    {d : Cells} (hd : RelL C ρ d.toL news) (hdw : CW d) (hd1 : ∀ y ∈ news, y.oneCell' = true) (hdl : news.length = n * ie.size) (hs : Rel C ρ s sv)
    (h : appd e ie.size ie.bytes s n d S = some (v, S')) (hfree : Free ρ S.next S'.next) : ApdOut C tb.ng B ρ w S S' v ats ty sv x := by
  unfold appd at h
  obtain ⟨hsz, h1⟩ := cond_inv' h
  have hsz := beq_false_inv hsz
  cases s <;> try exact (fail_inv h1).elim
  case nils =>
    simp only [Rel] at hs; subst hs
    cases hn0 : Nat.beq n 0 with
    | true =>
      rw [hn0] at h1
      have := beq_inv hn0; subst this
      obtain ⟨rfl, rfl⟩ := ret_inv h1
      have hnw : news = [] := List.eq_nil_of_length_eq_zero (by omega)
      subst hnw
      have := app_roomN (ty := ty) (sLen := 0) (sCap := 0) h0 hst hie hA (by omega)
      exact .same hF rfl this (by simp only [Rel])
    | false =>
      rw [hn0] at h1
      have hn0 := beq_false_inv hn0
      obtain ⟨hb, h2⟩ := cond_inv' h1
      obtain ⟨b1, b2⟩ := big_spec hb
      unfold grow at h2
      obtain ⟨b, S1, h3, h4⟩ := bnd_inv h2
      obtain ⟨rfl, rfl⟩ := ret_inv h4
      have he : (emptyLike d).toL = [] ∧ CW (emptyLike d) := by cases d <;> simp [emptyLike, Cells.toL, CW, unp]
      have := grow_ok (ty := ty) (sLen := 0) (sCap := 0) (base := none) (olds := []) (old := emptyLike d) (d := d) (fr := 0) (sti := false) (b := b) hF hng h0 hst hie hz hzl hzo hA (by omega) (fun w' _ => by simp [Builtin.firstCells])
        (by rw [Nat.zero_add, Nat.mul_comm]; exact b1) (by rw [Nat.zero_add]; exact b2) (by rw [he.1]; simp [RelL]) hd he.2 hdw (by simp) hd1 (by simp) hdl (by rw [Nat.zero_add]; exact h3) hfree
      simpa [ApdOut] using this
  case sl b o len cap r =>
    obtain ⟨rr, a, c', hr, rfl, hlc, ha⟩ := sl_addr hs
    cases hn0 : Nat.beq n 0 with
    | true =>
      rw [hn0] at h1
      have := beq_inv hn0; subst this
      obtain ⟨rfl, rfl⟩ := ret_inv h1
      have hnw : news = [] := List.eq_nil_of_length_eq_zero (by omega)
      subst hnw
      have := app_room (ty := ty) (a := a) (sLen := len) (sCap := c') h0 hst hie hA (by omega)
      exact .same hF rfl (by rw [this]; simp [storeCells]) hs
    | false =>
      rw [hn0] at h1
      have hn0 := beq_false_inv hn0
      simp only [cond_false] at h1
      obtain ⟨k, S1, e1, e2, e3, h2⟩ := rb h1
      obtain ⟨hb, h3⟩ := cond_inv' h2
      obtain ⟨b1, b2⟩ := big_spec hb
      have b1 : ie.bytes * (len + n) ≤ 140737488355328 := b1
      have b2 : len + n ≤ 140737488355328 := b2
      obtain ⟨arr, fz, hbk, hk⟩ := get_block hF e1 hr
      have hatl : o + len * ie.size ≤ k.c.len → ∃ vs : List Value, vs.length = len * ie.size ∧ RelL C ρ ((k.c.toL.drop o).take (len * ie.size)) vs ∧ (∀ x ∈ vs, x.oneCell' = true) ∧ (∀ w', w'.heap = w.heap → (Builtin.firstCells ie.size len (.slice (some a) len c')).run C.P w' = .ok vs.toArray w') := fun hle => by
        obtain ⟨vs, v1, v2, v3, v4⟩ := read_ok hbk hk.cells hle
        refine ⟨vs, v1, v2, v3, fun w' hw' => ?_⟩
        have hcells : ∀ (j : Nat) u, vs[j]? = some u → w'.cell? (a.add j) = some u := by
          intro j u hj
          rcases ha with rfl | h0
          · have := v4 j u hj; simpa [World.cell?, hw'] using this
          · have : vs = [] := List.eq_nil_of_length_eq_zero (by rw [v1, h0]; simp); subst this; simp at hj
        have := run_loadCells_list (P := C.P) w' a vs hcells
        rw [v1] at this
        exact this
      -- writing in place
      have inplace : ∀ (c2 : Cells) (hput : k.c.put (o + len * ie.size) d = some c2) (hfr : k.fr ≤ o + len * ie.size) (hfit : rr.base + (o + len * ie.size) + n * ie.size ≤ arr.size) (hgm : k.g = true → o + len * ie.size + n * ie.size ≤ k.m) (hold : rr.blk < B → news = []) (hadr : a = ⟨rr.blk, rr.base + o, none⟩) (hroom : len + n ≤ c') (hub : b ≤ 16777213),
          ∃ w', (Builtin.append_ ats ty #[.slice (some a) len c', x]).run C.P w = .ok (.slice (some a) (len + n) c') w' ∧ Fits C tb.ng B ρ (S.heap.set b (.b { k with c := c2 })) w' ∧ Below B w w' := by
        intro c2 hput hfr hfit hgm hold hadr hroom hub
        obtain ⟨p1, p2, p3⟩ := Cells.put_spec hk.cells.1 hdw hput
        obtain ⟨w', g1, g2, g3⟩ := write_ok hF e1 hub hr hbk hk hd hd1 hfr p1 (by rw [hdl]; exact hfit) (fun hg => by rw [hdl]; exact hgm hg) hold p2 p3
        refine ⟨w', ?_, g2, g3⟩
        rw [app_room (ty := ty) h0 hst hie hA hroom, hadr, Addr.add_lit]
        have : (⟨rr.blk, rr.base + o + len * ie.size, none⟩ : Addr) = ⟨rr.blk, rr.base + (o + len * ie.size), none⟩ := by rw [Nat.add_assoc]
        rw [this, g1]; rfl
      cases r with
      | false =>
        simp only [cond_false] at h3
        have hs0 := hs
        simp only [Rel] at hs
        obtain ⟨rr', hr', hle', heq⟩ := hs
        rw [hr] at hr'; injection hr' with hr'; subst hr'
        simp only [Value.slice.injEq, Option.some.injEq, true_and] at heq
        obtain ⟨rfl, rfl⟩ := heq
        cases hroom : Nat.ble (Nat.add len n) c' with
        | true =>
          rw [hroom, cond_true] at h3
          have hroom : len + n ≤ c' := Nat.le_of_ble_eq_true hroom
          obtain ⟨hc, h4⟩ := cond_inv h3
          simp only [Bool.and_eq_true, Bool.not_eq_true'] at hc
          obtain ⟨⟨c1, c2⟩, c3⟩ := hc
          have c1 : k.fr ≤ o + len * ie.size := Nat.le_of_ble_eq_true c1
          have c2 : o + len * ie.size + n * ie.size ≤ k.c.len := Nat.le_of_ble_eq_true c2
          obtain ⟨c4, h5, h6⟩ := lb h4
          obtain ⟨u, S2, h7, h8⟩ := bnd_inv h6
          obtain ⟨rfl, rfl⟩ := ret_inv h8
          obtain ⟨u1, u2, u3, u4⟩ := upd_inv h7
          have hroom2 := hk.room
          obtain ⟨w', g1, g2, g3⟩ := inplace c4 h5 c1 (by omega) (fun hg => by rw [c3] at hg; cases hg) (fun hB => by have := (hk.old hB).1; exact List.eq_nil_of_length_eq_zero (by rw [hdl]; omega)) rfl hroom u2
          refine ⟨ρ, _, w', g1, ?_, by rw [u3, e2]; exact g2, Ext.refl _ _ _, g3⟩
          simp only [Rel]
          exact ⟨rr, hr, hroom, rfl⟩
        | false =>
          rw [hroom, cond_false] at h3
          have hroom : c' < len + n := by
            rcases Nat.lt_or_ge c' (len + n) with h | h
            · exact h
            · have : Nat.ble (Nat.add len n) c' = true := ble_true h
              rw [this] at hroom; cases hroom
          obtain ⟨old, h4, h5⟩ := lb h3
          unfold grow at h5
          obtain ⟨b', S2, h6, h7⟩ := bnd_inv h5
          obtain ⟨rfl, rfl⟩ := ret_inv h7
          obtain ⟨q1, q2, q3⟩ := Cells.sub_spec h4
          obtain ⟨vs, v1, v2, v3, v4⟩ := hatl q1
          have hF1 : Fits C tb.ng B ρ S1.heap w := by rw [e2]; exact hF
          have := grow_ok (ty := ty) (tb := tb) (S := S1) (sLen := len) (sCap := c') (olds := vs) (old := old) (d := d) (fr := 0) (sti := false) (b := b') hF1 (by rw [e3]; exact hng) h0 hst hie hz hzl hzo hA hroom v4
            (by rw [Nat.mul_comm]; exact b1) b2 (by rw [q2]; exact v2) hd q3 hdw v3 hd1 v1 hdl h6 (by rw [e3]; exact hfree)
          obtain ⟨ρ', y, w', t1, t2, t3, t4, t5⟩ := this
          exact ⟨ρ', y, w', t1, t2, t3, by rw [← e3]; exact t4, t5⟩
      | true =>
        simp only [cond_true] at h3
        obtain ⟨hc, h4⟩ := cond_inv h3
        simp only [Bool.and_eq_true] at hc
        obtain ⟨⟨⟨c1, c2⟩, c3⟩, c4⟩ := hc
        have c2 := beq_inv c2
        have c3 : o = cap * ie.size := beq_inv c3
        have c4 : k.fr ≤ o + len * ie.size := Nat.le_of_ble_eq_true c4
        obtain ⟨g1, g2, g3, g4⟩ := hk.grown c1
        simp only [Rel] at hs
        obtain ⟨rr', a', hr', hle', heq, hadr⟩ := hs
        rw [hr] at hr'; injection hr' with hr'; subst hr'
        simp only [Value.slice.injEq, Option.some.injEq, true_and] at heq
        obtain ⟨rfl, rfl⟩ := heq
        have hes : rr.es = ie.size := by rw [g4, c2]
        rw [hes] at g1 g2
        have hBB : ¬ rr.blk < B := fun hB => by have := (hk.old hB).2.2; rw [c1] at this; cases this
        cases hm : Nat.ble (Nat.mul (Nat.add cap (Nat.add len n)) ie.size) k.m with
        | true =>
          rw [hm, cond_true] at h4
          have hm : (cap + (len + n)) * ie.size ≤ k.m := Nat.le_of_ble_eq_true hm
          obtain ⟨cc, h5, h6⟩ := lb h4
          obtain ⟨u, S2, h7, h8⟩ := bnd_inv h6
          obtain ⟨rfl, rfl⟩ := ret_inv h8
          obtain ⟨u1, u2, u3, u4⟩ := upd_inv h7
          have hmm : (cap + (len + n)) * ie.size = cap * ie.size + len * ie.size + n * ie.size := by rw [← Nat.add_assoc, Nat.add_mul, Nat.add_mul]
          have hcapl : cap + (len + n) ≤ rr.cap := Nat.le_of_mul_le_mul_right (Nat.le_trans hm g2) (by omega)
          have hadr' : a = ⟨rr.blk, rr.base + o, none⟩ := by
            rcases hadr with h | ⟨_, h⟩
            · exact h
            · omega
          obtain ⟨w', i1, i2, i3⟩ := inplace cc h5 c4 (by omega) (fun _ => by omega) (fun hB => absurd hB hBB) hadr' (by omega) u2
          refine ⟨ρ, _, w', i1, ?_, by rw [u3, e2]; exact i2, Ext.refl _ _ _, i3⟩
          simp only [Rel]
          exact ⟨rr, a, hr, hcapl, rfl, .inl hadr'⟩
        | false =>
          rw [hm, cond_false] at h4
          obtain ⟨old, h5, h6⟩ := lb h4
          obtain ⟨u, S2, h7, h8⟩ := bnd_inv h6
          obtain ⟨b', S3, h9, h10⟩ := bnd_inv h8
          obtain ⟨hke, h11⟩ := cond_inv h10
          have hke := beq_inv hke
          obtain ⟨rfl, rfl⟩ := ret_inv h11
          obtain ⟨u1, u2, u3, u4⟩ := kill_inv h7
          obtain ⟨q1, q2, q3⟩ := Cells.sub_spec h5
          obtain ⟨vs, v1, v2, v3, v4⟩ := hatl q1
          have hF2 : Fits C tb.ng B ρ S2.heap w := by rw [u3, e2]; exact hF.del u2
          have hn2 : S2.next = S.next := by rw [u4, e3]
          by_cases hroom : len + n ≤ rr.cap - cap
          · -- it stays where it is
            have q2 : old.toL = (k.c.toL.drop o).take (len * ie.size) := q2
            have hadr' : a = ⟨rr.blk, rr.base + o, none⟩ := by
              rcases hadr with h | ⟨_, h⟩
              · exact h
              · omega
            have hcapl : cap + (len + n) ≤ rr.cap := by omega
            have hmul : (cap + (len + n)) * ie.size ≤ rr.cap * ie.size := Nat.mul_le_mul_right _ hcapl
            have hmm : (cap + (len + n)) * ie.size = cap * ie.size + len * ie.size + n * ie.size := by rw [← Nat.add_assoc, Nat.add_mul, Nat.add_mul]
            have hrun := run_lay C.P rr.blk k.e fz (rr.base + (o + len * ie.size)) news 0 arr w hbk (fun y hy hys => hk.cold y (by omega) hys) (by rw [hdl]; omega) hd1
            simp only [Nat.add_zero] at hrun
            obtain ⟨a1, a2⟩ := Cells.app_spec q3 hdw
            have hAl : (layV arr.toList (rr.base + (o + len * ie.size)) news).toArray.size = arr.size := by
              simp only [List.size_toArray]; rw [layV_length _ _ _ (by rw [hdl]; simp; omega)]; simp
            obtain ⟨n1, n2, n3, n4⟩ := new_inv h9
            rw [hn2] at n2
            have hfn : ρ S.next = none := hfree _ (Nat.le_refl _) (by omega)
            have hol : old.len = len * ie.size := by rw [Cells.len_eq, q2, ← v2.len]; exact v1
            have hcl : (old.app d).len = (len + n) * ie.size := by
              rw [Cells.len_eq, a1, List.length_append, ← Cells.len_eq, hol, ← hd.len, hdl, Nat.add_mul]
            have hbase : cap * ie.size + (rr.cap - cap) * ie.size = rr.cap * ie.size := by rw [← Nat.add_mul, Nat.add_sub_cancel' (Nat.le_trans (Nat.le_add_right _ _) hcapl)]
            have hln : (len + n) * ie.size = len * ie.size + n * ie.size := Nat.add_mul _ _ _
            have hgetA : ∀ j, (layV arr.toList (rr.base + (o + len * ie.size)) news).toArray[rr.base + o + j]? = if j < len * ie.size then arr[rr.base + o + j]? else if j < len * ie.size + news.length then news[j - len * ie.size]? else arr[rr.base + o + j]? := fun j => by
              rw [List.getElem?_toArray, layV_get _ _ _ _ (by rw [hdl]; simp; omega)]
              simp only [Array.getElem?_toList]
              by_cases e1' : j < len * ie.size
              · rw [if_pos e1', if_pos (by omega)]
              · rw [if_neg e1', if_neg (by omega)]
                by_cases e2' : j < len * ie.size + news.length
                · rw [if_pos e2', if_pos (by omega)]; congr 1; omega
                · rw [if_neg e2', if_neg (by omega)]
            have hba : BlkAt C ρ B ⟨k.e, old.app d, Nat.mul (Nat.add len n) ie.size, ie.size, Nat.sub k.fr o, k.st, true⟩ ⟨rr.blk, rr.base + o, rr.cap - cap, ie.size⟩ (layV arr.toList (rr.base + (o + len * ie.size)) news).toArray fz := by
              constructor
              · refine ⟨a2, fun j y hj => ?_⟩
                simp only [] at hj ⊢
                rw [a1, List.getElem?_append, ← Cells.len_eq, hol] at hj
                rw [hgetA j]
                split at hj
                · rename_i e1'
                  rw [if_pos e1']
                  rw [q2, List.getElem?_take, if_pos (by exact e1'), List.getElem?_drop] at hj
                  have := hk.cells.2 (o + j) y hj
                  rwa [← Nat.add_assoc] at this
                · rename_i e1'
                  rw [if_neg e1']
                  obtain ⟨xx, hx1, hx2⟩ := hd.get hj
                  have hlt : j - len * ie.size < news.length := by
                    rcases Nat.lt_or_ge (j - len * ie.size) news.length with h | h
                    · exact h
                    · rw [List.getElem?_eq_none h] at hx1; cases hx1
                  rw [if_pos (by omega)]
                  exact ⟨xx, hx1, hx2, hd1 xx (List.mem_of_getElem? hx1)⟩
              · intro _
                refine ⟨?_, ?_, ?_, rfl⟩
                · rw [hAl]; show rr.base + o + (rr.cap - cap) * ie.size = arr.size; omega
                · show (len + n) * ie.size ≤ (rr.cap - cap) * ie.size; exact Nat.mul_le_mul_right _ hroom
                · show (old.app d).len ≤ (len + n) * ie.size; omega
              · intro y hy1 hy2
                rw [hAl] at hy2
                have hy1 : rr.base + o + (k.fr - o) ≤ y := hy1
                exact hk.cold y (by omega) hy2
              · intro hst'
                rcases hk.plain hst' with h | h
                · exact .inl h
                · right; exact ⟨h.1, by show fz.2 ≤ rr.base + o + (k.fr - o); omega⟩
              · intro hB; exact absurd hB hBB
              · rw [hAl]; show rr.base + o + (old.app d).len ≤ arr.size; rw [hcl]; omega
              · intro h; cases h
            have hmv := hF.move (k' := .b ⟨k.e, old.app d, Nat.mul (Nat.add len n) ie.size, ie.size, Nat.sub k.fr o, k.st, true⟩) e1 hr u2 n2 hfn (o := .cells _ k.e fz) ⟨rfl, hba⟩ rfl (setRow_heap w rr.blk arr _ k.e fz hbk) (fun b hb' => setRow_other w _ _ _ hb') (by simp) (fun b hb' => setRow_other w _ _ _ (by omega))
            refine ⟨put1 ρ S.next ⟨rr.blk, rr.base + o, rr.cap - cap, ie.size⟩, .slice (some a) (len + n) (rr.cap - cap), w.setRow rr.blk (layV arr.toList (rr.base + (o + len * ie.size)) news).toArray, ?_, ?_, ?_, ?_, Below.row hbk (by omega)⟩
            · rw [app_room (ty := ty) h0 hst hie hA hroom, hadr', Addr.add_lit]
              have : (⟨rr.blk, rr.base + o + len * ie.size, none⟩ : Addr) = ⟨rr.blk, rr.base + (o + len * ie.size), none⟩ := by rw [Nat.add_assoc]
              rw [this, hrun]; rfl
            · simp only [Rel]
              refine ⟨⟨rr.blk, rr.base + o, rr.cap - cap, ie.size⟩, a, ?_, ?_, rfl, .inl ?_⟩
              · rw [n1, hn2]; simp [put1]
              · show 0 + (len + n) ≤ rr.cap - cap; omega
              · rw [hadr']; rfl
            · rw [n3, hn2, u3, e2]; exact hmv
            · rw [n4, hn2]; exact put1_ext _ _ _
          · have hroom' : rr.cap - cap < len + n := by omega
            have hnew : new ⟨e, old.app d, (len + n) * ie.size, ie.size, Nat.sub k.fr o, k.st, true⟩ S2 = some (b', S') := by rw [← hke]; exact h9
            have := grow_ok (ty := ty) (tb := tb) (S := S2) (sLen := len) (sCap := rr.cap - cap) (olds := vs) (old := old) (d := d) (fr := Nat.sub k.fr o) (sti := k.st) (b := b') hF2 (by rw [hn2]; exact hng) h0 hst hie hz hzl hzo hA hroom' v4
              (by rw [Nat.mul_comm]; exact b1) b2 (by rw [q2]; exact v2) hd q3 hdw v3 hd1 v1 hdl hnew (by rw [hn2]; exact hfree)
            obtain ⟨ρ', y, w', t1, t2, t3, t4, t5⟩ := this
            exact ⟨ρ', y, w', t1, t2, t3, by rw [← hn2]; exact t4, t5⟩
end
end Go.AX
end
section
set_option linter.unusedSimpArgs false
set_option linter.unusedVariables false
namespace Go.AX
section
variable {C : Cx} {tb : Tab} {B : Nat} {ρ : Rho} {w : World} {S S' : St}
theorem isInt_true {t : Nat} (h : isInt (kOf C.P t) = true) : ∃ k, C.P.underlying t = some (.int k) := by
  cases hk : kOf C.P t <;> rw [hk] at h <;> try (cases h; done)
  exact ⟨_, kOf_int hk⟩
theorem isInt_false {t : Nat} (h : isInt (kOf C.P t) = false) (hb : isBad (kOf C.P t) = false) : ∃ d, C.P.underlying t = some d ∧ ∀ k, d ≠ .int k := by
  cases hu : C.P.underlying t with
  | none => simp [kOf, hu, isBad] at hb
  | some d => exact ⟨d, rfl, fun k e => by subst e; simp [kOf, hu, isInt] at h⟩
theorem appK_ok (ht : TyOk C.P tb) (hF : Fits C tb.ng B ρ S.heap w) (hng : tb.ng ≤ S.next) {ats : Array Nat} {st xt ty : Nat} {s x v : AV} {sv xv : Value} (h0 : ats[0]? = some st) (h1 : ats[1]? = some xt) (hs : Rel C ρ s sv) (hx : Rel C ρ x xv)
    (h : appK tb st xt s x S = some (v, S')) (hfree : Free ρ S.next S'.next) : ApdOut C tb.ng B ρ w S S' v ats ty sv xv := by
  unfold appK at h
  obtain ⟨ti, e1, h2⟩ := lb h
  obtain ⟨i, hi, rfl⟩ := ht.ty _ _ e1
  rw [mkTI_k] at h2
  cases hk : kOf C.P st <;> rw [hk] at h2 <;> try exact (fail_inv h2).elim
  rename_i e
  have hu := kOf_slice hk
  obtain ⟨te, e2, h3⟩ := lb h2
  obtain ⟨ie, hie, rfl⟩ := ht.ty _ _ e2
  obtain ⟨tx, e3, h4⟩ := lb h3
  obtain ⟨ix, hix, rfl⟩ := ht.ty _ _ e3
  obtain ⟨hc, h5⟩ := cond_inv' h4
  rw [Bool.or_eq_false_iff] at hc
  have hbad : isBad (kOf C.P xt) = false := hc.1
  have hzs : (mkTI C.P e ie).zs = true := by simpa using hc.2
  obtain ⟨z, hz, hone, hlen⟩ := zs_spec hzs
  cases hin : isInt (mkTI C.P xt ix).k with
  | true =>
    rw [hin] at h5
    obtain ⟨k, hux⟩ := isInt_true hin
    obtain ⟨n, h6, h7⟩ := lb h5
    obtain ⟨hb, h8⟩ := cond_inv' h7
    obtain ⟨kx, hxv⟩ := asN_ok h6 hx
    obtain ⟨b1, b2⟩ := big_spec hb
    have b1 : ie.bytes * n ≤ 140737488355328 := b1
    obtain ⟨r1, r2⟩ := reps_rel (P := C.P) (t := e) (n := n) hz hlen ρ C
    have hA : Apd C.P w ats e ie xv n (madeCells z.cells (n * ie.size)).toList := ⟨xt, _, h1, hux, .inr ⟨⟨k, rfl⟩, ⟨kx, hxv⟩, b2, by rw [Nat.mul_comm]; exact b1, z, hz, hlen, rfl⟩⟩
    exact appd_ok hF hng h0 hu hie hz hlen hone hA r1 r2 (by rw [made_eq _ _ _ hlen]; exact flat_one hone n) (by simp [size_madeCells]) hs h8 hfree
  | false =>
    rw [hin] at h5
    obtain ⟨dx, hux, hni⟩ := isInt_false hin hbad
    obtain ⟨n, h6, h7⟩ := lb h5
    obtain ⟨d, S1, h8, h9⟩ := bnd_inv h7
    obtain ⟨q1, q2, q3, q4, news, q5, q6, q7, q8, q9, q10⟩ := src_ok hF hx h6 h8
    have hA : Apd C.P w ats e ie xv n news := ⟨xt, dx, h1, hux, .inl ⟨hni, q7, q8⟩⟩
    have := appd_ok (S := S1) (ty := ty) (by rw [q1]; exact hF) (by rw [q2]; exact hng) h0 hu hie hz hlen hone hA q5 q3 q6 (by rw [q5.len]; exact q4) hs h9 (by rw [q2]; exact hfree)
    obtain ⟨ρ', y, w', t1, t2, t3, t4, t5⟩ := this
    exact ⟨ρ', y, w', t1, t2, t3, by rw [← q2]; exact t4, t5⟩
theorem firstCells_take {P : Program} {w : World} {sz n m : Nat} {xv : Value} {news : List Value} (hm : m ≤ n) (hl : (Builtin.lenOf xv).run P w = .ok n w) (hn : news.length = n * sz) (hs : ∀ s, xv = .string s → sz = 1) (h : (Builtin.firstCells sz n xv).run P w = .ok news.toArray w)
    (hc : ∀ a l c, xv = .slice (some a) l c → ∀ (j : Nat) v, news[j]? = some v → w.cell? (a.add j) = some v) : (Builtin.firstCells sz m xv).run P w = .ok (news.take (m * sz)).toArray w := by
  cases xv <;> try (simp [Builtin.lenOf] at hl; done)
  case string s =>
    have := hs s rfl
    subst this
    simp [Builtin.lenOf] at hl
    subst hl
    simp only [Builtin.firstCells, Sem.run_pure, Result.ok.injEq, and_true] at h ⊢
    rw [Nat.mul_one]
    have h2 : news = (s.extract 0 s.size).data.toList.map fun b => .int .u8 (b.toNat : Int) := by
      have := congrArg Array.toList h; simpa using this.symm
    rw [h2]
    apply Array.ext'
    simp [← List.map_take, List.take_take, Nat.min_eq_left hm]
  case slice a l c =>
    simp [Builtin.lenOf] at hl
    subst hl
    cases a with
    | none => simp [Builtin.firstCells] at h ⊢; rw [← h]; simp
    | some a =>
      have hcc := hc a l c rfl
      have hms : m * sz ≤ l * sz := Nat.mul_le_mul_right _ hm
      have := run_loadCells_list (P := P) w a (news.take (m * sz)) (fun j v hj => by
        rw [List.getElem?_take] at hj
        split at hj
        · exact hcc j v hj
        · cases hj)
      rw [List.length_take, hn, Nat.min_eq_left hms] at this
      exact this
theorem copyK_ok (ht : TyOk C.P tb) (hF : Fits C tb.ng B ρ S.heap w) {ats : Array Nat} {st ty : Nat} {s x v : AV} {sv xv : Value} (h0 : ats[0]? = some st) (hs : Rel C ρ s sv) (hx : Rel C ρ x xv)
    (h : copyK tb st s x S = some (v, S')) : S'.next = S.next ∧ ∃ y w', (Builtin.copy_ ats ty #[sv, xv]).run C.P w = .ok y w' ∧ Rel C ρ v y ∧ Fits C tb.ng B ρ S'.heap w' ∧ Below B w w' := by
  unfold copyK at h
  obtain ⟨ti, e1, h2⟩ := lb h
  obtain ⟨i, hi, rfl⟩ := ht.ty _ _ e1
  rw [mkTI_k] at h2
  cases hk : kOf C.P st <;> rw [hk] at h2 <;> try exact (fail_inv h2).elim
  rename_i e
  have hu := kOf_slice hk
  obtain ⟨te, e2, h3⟩ := lb h2
  obtain ⟨ie, hie, rfl⟩ := ht.ty _ _ e2
  obtain ⟨n, h4, h5⟩ := lb h3
  have first : ∀ m, m ≤ n → True := fun _ _ => trivial
  cases s <;> try exact (fail_inv h5).elim
  case nils =>
    obtain ⟨rfl, rfl⟩ := ret_inv h5
    simp only [Rel] at hs; subst hs
    have hl : (Builtin.lenOf xv).run C.P w = .ok n w ∧ (Builtin.firstCells ie.size 0 xv).run C.P w = .ok #[] w := by
      cases x <;> simp only [avLen, Option.some.injEq, reduceCtorEq] at h4
      · subst h4; simp only [Rel] at hx; obtain ⟨rfl, _⟩ := hx
        exact ⟨by simp [Builtin.lenOf, ByteArray.size, strB_length], by simp [Builtin.firstCells]⟩
      · subst h4; simp only [Rel] at hx; subst hx
        exact ⟨by simp [Builtin.lenOf], by simp [Builtin.firstCells]⟩
      · subst h4; obtain ⟨r, a, c', _, rfl, _⟩ := sl_addr hx
        exact ⟨by simp [Builtin.lenOf], by simp [Builtin.firstCells, loadCells, loadCellsFrom]⟩
    refine ⟨rfl, .int .i64 0, w, ?_, by simp [Rel], hF, Below.refl _ _⟩
    simp [Builtin.copy_, h0, run_underlying hu, run_size hie, hl.1, hl.2, goInt]
  case sl b o len cap r =>
    simp only [] at h5
    obtain ⟨cc, S1, h6, h7⟩ := bnd_inv h5
    obtain ⟨c2, h8, h9⟩ := lb h7
    obtain ⟨k, S2, e3, e4, e5, h10⟩ := rb h9
    obtain ⟨hc, h11⟩ := cond_inv h10
    obtain ⟨cd1, cd2⟩ := and_ble hc
    obtain ⟨c3, h12, h13⟩ := lb h11
    obtain ⟨u, S3, h14, h15⟩ := bnd_inv h13
    obtain ⟨rfl, rfl⟩ := ret_inv h15
    obtain ⟨u1, u2, u3, u4⟩ := upd_inv h14
    obtain ⟨q1, q2, q3, q4, news, q5, q6, q7, q8, q9, q10⟩ := src_ok hF hx h4 h6
    obtain ⟨s1, s2, s3⟩ := Cells.sub_spec h8
    rw [q1] at e3
    obtain ⟨rr, a, c', hr, rfl, hlc, ha⟩ := sl_addr hs
    obtain ⟨arr, fz, hbk, hk2⟩ := get_block hF e3 hr
    have hms : (Nat.min n len) * ie.size ≤ n * ie.size := Nat.mul_le_mul_right _ (Nat.min_le_left _ _)
    have cd2 : o + (Nat.min n len) * ie.size ≤ k.c.len := cd2
    have s2 : c2.toL = cc.toL.take ((Nat.min n len) * ie.size) := by rw [s2]; rfl
    have hrel2 : RelL C ρ c2.toL (news.take ((Nat.min n len) * ie.size)) := by
      rw [s2]; have := q5.sub 0 ((Nat.min n len) * ie.size); simpa using this
    have hl2 : (news.take ((Nat.min n len) * ie.size)).length = (Nat.min n len) * ie.size := by
      rw [List.length_take, q5.len, q4]; exact Nat.min_eq_left hms
    have hroom := hk2.room
    obtain ⟨p1, p2, p3⟩ := Cells.put_spec hk2.cells.1 s3 h12
    obtain ⟨w', g1, g2, g3⟩ := write_ok hF e3 u2 hr hbk hk2 hrel2 (fun y hy => q6 y (List.mem_of_mem_take hy)) cd1 (by omega) (by rw [hl2]; omega) (fun hg => by have := (hk2.grown hg).2.2.1; rw [hl2]; omega)
      (fun hB => by have := (hk2.old hB).1; exact List.eq_nil_of_length_eq_zero (by rw [hl2]; omega)) p2 p3
    have hfc : (Builtin.firstCells ie.size (Nat.min n len) xv).run C.P w = .ok (news.take ((Nat.min n len) * ie.size)).toArray w := firstCells_take (P := C.P) (w := w) (Nat.min_le_left n len) (q7 w) (by rw [q5.len]; exact q4) q9 (q8 w rfl) q10
    refine ⟨by rw [u4, e5, q2], .int .i64 (Nat.min n len : Nat), w', ?_, by simp [Rel], by rw [u3, e4, q1]; exact g2, g3⟩
    have hstore : (storeCells a (news.take ((Nat.min n len) * ie.size))).run C.P w = .ok () w' := by
      rcases ha with rfl | hz
      · exact g1
      · have hn0 : (Nat.min n len) = 0 := by rw [hz]; exact Nat.min_eq_right (Nat.zero_le _)
        rw [hn0, Nat.zero_mul] at g1 ⊢
        exact g1
    simp [Builtin.copy_, h0, run_underlying hu, run_size hie, q7, goInt, hfc, hstore]
theorem usd_run {P : Program} {ats : Array Nat} {ty : Nat} {a : Addr} {n c : Nat} (h : c ≠ 0) : (Builtin.unsafeSliceData_ ats ty #[.slice (some a) n c]).run P w = .ok (.pointer (some a)) w := by
  show (if c ≠ 0 then (pure (Value.pointer (some a)) : Sem Value) else _).run P w = _
  rw [if_pos h]; rfl
theorem dataK_ok (hF : Fits C tb.ng B ρ S.heap w) {ats : Array Nat} {ty : Nat} {x v : AV} {xv : Value} (hx : Rel C ρ x xv) (h : dataK x S = some (v, S')) :
    S'.heap = S.heap ∧ S'.next = S.next ∧ ∃ y, (Builtin.unsafeSliceData_ ats ty #[xv]).run C.P w = .ok y w ∧ Rel C ρ v y := by
  cases x <;> simp only [dataK] at h <;> try exact (fail_inv h).elim
  case nils =>
    obtain ⟨rfl, rfl⟩ := ret_inv h
    simp only [Rel] at hx; subst hx
    exact ⟨rfl, rfl, .pointer none, rfl, by simp [Rel]⟩
  case sl b o n c r =>
    cases r with
    | false =>
      obtain ⟨hc, h1⟩ := cond_inv' h
      obtain ⟨rfl, rfl⟩ := ret_inv h1
      have hc := beq_false_inv hc
      simp only [Rel] at hx
      obtain ⟨r, hr, _, rfl⟩ := hx
      exact ⟨rfl, rfl, .pointer (some ⟨r.blk, r.base + o, none⟩), usd_run hc, by simp only [Rel]; exact ⟨r, hr, rfl⟩⟩
    | true =>
      simp only [Rel] at hx
      obtain ⟨r, a, hr, hle, rfl, ha⟩ := hx
      have fin : r.cap - c ≠ 0 → (Builtin.unsafeSliceData_ ats ty #[.slice (some a) n (r.cap - c)]).run C.P w = .ok (.pointer (some ⟨r.blk, r.base + o, none⟩)) w := fun hne => by
        rcases ha with rfl | ⟨_, h0⟩
        · exact usd_run hne
        · omega
      change (cond (Nat.beq n 0) (bnd (rd b) fun k => cond (k.g && Nat.blt (Nat.mul c k.es) k.m) (ret (AV.p b o)) fail) (ret (AV.p b o))) S = some (v, S') at h
      cases hn : Nat.beq n 0 with
      | true =>
        rw [hn] at h
        obtain ⟨k, S1, e1, e2, e3, h1⟩ := rb h
        obtain ⟨hc, h2⟩ := cond_inv h1
        obtain ⟨rfl, rfl⟩ := ret_inv h2
        rw [Bool.and_eq_true] at hc
        obtain ⟨arr, fz, hbk, hk2⟩ := get_block hF e1 hr
        obtain ⟨g1, g2, g3, g4⟩ := hk2.grown hc.1
        have hlt : c * k.es < k.m := Nat.le_of_ble_eq_true hc.2
        rw [g4] at g2
        have : c < r.cap := Nat.lt_of_mul_lt_mul_right (Nat.lt_of_lt_of_le hlt g2)
        exact ⟨e2, e3, _, fin (by omega), by simp only [Rel]; exact ⟨r, hr, rfl⟩⟩
      | false =>
        rw [hn] at h
        have hn := beq_false_inv hn
        obtain ⟨rfl, rfl⟩ := ret_inv h
        exact ⟨rfl, rfl, _, fin (by omega), by simp only [Rel]; exact ⟨r, hr, rfl⟩⟩
theorem loadBytes_run {P : Program} {w : World} (b o : Nat) : ∀ (l : List UInt8) (acc : ByteArray) (i : Nat), (∀ (j : Nat) (h : j < l.length), w.cell? ⟨b, o + i + j, none⟩ = some (.int .u8 (l[j].toNat : Int))) →
    (loadBytes ⟨b, o + i, none⟩ acc l.length).run P w = .ok ⟨acc.data ++ l.toArray⟩ w := by
  intro l
  induction l with
  | nil => intro acc i _; simp [loadBytes]
  | cons x l ih =>
    intro acc i h
    have h0 := h 0 (by simp)
    simp only [Nat.add_zero, List.getElem_cons_zero] at h0
    have ih' := ih (acc.push x) (i + 1) (fun j hj => by
      have := h (j + 1) (by simp; exact hj)
      rw [show o + (i + 1) + j = o + i + (j + 1) by omega]; simpa using this)
    have e : (⟨b, o + i, none⟩ : Addr).add 1 = ⟨b, o + (i + 1), none⟩ := by rw [Addr.add_lit]; rfl
    simp only [List.length_cons, loadBytes, Sem.run_bind, run_load, h0, Result.andThen_ok, e]
    have e2 : acc.push ((x.toNat : Int).toNat.toUInt8) = acc.push x := by simp
    rw [e2, ih']
    simp [ByteArray.push]
theorem us_def {P : Program} {ats : Array Nat} {ty pt : Nat} (h0 : ats[0]? = some pt) (p : Option Addr) (kk : IntKind) (n : Nat) (hb : n ≤ 140737488355328) :
    ∃ q1 q2 : Sem Value, (Builtin.unsafeString_ ats ty #[.pointer p, .int kk (n : Int)]).run P w = (match p with
      | none => if (n : Int) = 0 then (pure (.string .empty) : Sem Value) else q1
      | some a => if (n : Int) = 0 then pure (.string .empty)
        else do
          let b ← variablesAt a (← elemOf pt) n
          if b then do
            let s ← loadBytes a .empty n
            freeze a n
            pure (.string s)
          else q2 : Sem Value).run P w := by
  have hmax : IntKind.i64.max = 9223372036854775807 := rfl
  have h1 : ¬ ((n : Int) < 0) := by omega
  have h2 : ¬ ((n : Int) > 9223372036854775807) := by omega
  obtain ⟨m1, m2, m3, m4, m5, hd⟩ : ∃ (m1 : Sem Value) (m2 m3 : Sem PUnit) (m4 m5 : Sem Value), Builtin.unsafeString_ ats ty #[.pointer p, .int kk (n : Int)] = (do
      let n ← asInt (.int kk (n : Int))
      let some pt := ats[0]? | m1
      if n < 0 then m2
      if n > IntKind.i64.max then m3
      match p with
      | none =>
        if n = 0 then pure (.string .empty)
        else m4
      | some a =>
        if n = 0 then pure (.string .empty)
        else if ← variablesAt a (← elemOf pt) n.toNat then do
          let s ← loadBytes a .empty n.toNat
          freeze a n.toNat
          pure (.string s)
        else m5) := ⟨_, _, _, _, _, rfl⟩
  refine ⟨m4, m5, ?_⟩
  rw [hd, h0]
  cases p <;> simp [asInt, asIntOf, hmax, h1, h2]
theorem liesAt_u8 {P : Program} {e u : Nat} {ie : TypeInfo} (hie : P.info? e = some ie) (hs : ie.size = 1) (he : P.underlying e = some (.int .u8)) (hu : P.underlying u = some (.int .u8)) {size o n : Nat} (h : o + n ≤ size) :
    liesAt P P.depth e (size / P.cellsOf e) o u n = true := by
  have hc : P.cellsOf e = 1 := by simp [Program.cellsOf, hie, hs]
  obtain ⟨d, hd⟩ : ∃ d, P.depth = d + 1 := ⟨2 * (P.types.size + Made.depth) + 1, rfl⟩
  have hlay : sameLayout P P.depth e u = true := by rw [hd]; simp [sameLayout, he, hu]
  have hrow : rowAt P (sameLayout P P.depth · u) P.depth e (size / P.cellsOf e) o n = true := by
    have : ∀ fits : Nat → Bool, fits e = true → rowAt P fits (d + 1) e (size / P.cellsOf e) o n = true := fun fits hf => by
      unfold rowAt
      simp [hc, h, hf, Nat.mod_one]
    rw [hd]
    exact this _ (by rw [← hd]; exact hlay)
  rw [hd]
  unfold liesAt
  rw [hrow]; simp
theorem bytesTo {k m : Nat} {vs : List Value} (h : RelL C ρ (unp k m) vs) {b o : Nat} (hc : ∀ (j : Nat) v, vs[j]? = some v → w.cell? ((⟨b, o, none⟩ : Addr).add j) = some v) :
    (loadBytes ⟨b, o, none⟩ .empty k).run C.P w = .ok ⟨(strB k m).toArray⟩ w := by
  have hvs := unp_rel h
  have := loadBytes_run (P := C.P) (w := w) b o (strB k m) .empty 0 (fun j hj => by
    have := hc j (.int .u8 ((strB k m)[j].toNat : Int)) (by rw [hvs, List.getElem?_map, List.getElem?_eq_getElem hj]; rfl)
    rw [Addr.add_lit] at this; simpa using this)
  rw [strB_length] at this
  simp only [Nat.add_zero] at this
  rw [this]
  simp
theorem freeze_ok (hF : Fits C tb.ng B ρ S.heap w) {v : Nat} {k : Blk} (hv : S.heap.get v = some (.b k)) (hvn : v ≤ 16777213) {r : R} (hr : ρ v = some r) {arr : Array Value} {fz : Nat × Nat}
    (hb : w.heap[r.blk]? = some (.cells arr k.e fz)) (hk : BlkAt C ρ B k r arr fz) (hst : k.st = false) (o n : Nat) (hn : n ≠ 0) :
    Fits C tb.ng B ρ (S.heap.set v (.b { k with fr := max k.fr (o + n) })) (w.freeze ⟨r.blk, r.base + o, none⟩ n) ∧ Below B w (w.freeze ⟨r.blk, r.base + o, none⟩ n) := by
  have hBB : ¬ r.blk < B := fun h => by have := (hk.old h).2.1; rw [hst] at this; cases this
  obtain ⟨lo, hi⟩ := fz
  have hheap : (w.freeze ⟨r.blk, r.base + o, none⟩ n).heap = w.heap.modify r.blk fun
      | .cells c elem (lo, hi) => .cells c elem (if lo == hi then (r.base + o, r.base + o + n) else (min lo (r.base + o), max hi (r.base + o + n)))
      | o => o := by unfold World.freeze; rw [if_neg hn]; rfl
  have hlt : r.blk < w.heap.size := by
    rcases Nat.lt_or_ge r.blk w.heap.size with h | h
    · exact h
    · rw [Array.getElem?_eq_none h] at hb; cases hb
  have hat : (w.freeze ⟨r.blk, r.base + o, none⟩ n).heap[r.blk]? = some (.cells arr k.e (if lo == hi then (r.base + o, r.base + o + n) else (min lo (r.base + o), max hi (r.base + o + n)))) := by
    rw [hheap, Array.getElem?_modify, if_pos rfl, hb]; rfl
  have hother : ∀ b, b ≠ r.blk → (w.freeze ⟨r.blk, r.base + o, none⟩ n).heap[b]? = w.heap[b]? := fun b hb' => by
    rw [hheap, Array.getElem?_modify, if_neg (fun e => hb' e.symm)]
  have hsz : (w.freeze ⟨r.blk, r.base + o, none⟩ n).heap.size = w.heap.size := by rw [hheap]; simp
  have hos : (w.freeze ⟨r.blk, r.base + o, none⟩ n).os = w.os ∧ (w.freeze ⟨r.blk, r.base + o, none⟩ n).tape = w.tape ∧ (w.freeze ⟨r.blk, r.base + o, none⟩ n).output = w.output := by
    unfold World.freeze; rw [if_neg hn]; exact ⟨rfl, rfl, rfl⟩
  refine ⟨hF.upd hvn hv hr (k' := .b { k with fr := max k.fr (o + n) }) (o := .cells arr k.e (if lo == hi then (r.base + o, r.base + o + n) else (min lo (r.base + o), max hi (r.base + o + n)))) ⟨rfl, ?_⟩ hat hother hsz (fun b hb' => hother b (by omega)), ⟨hos.1, hos.2.1, hos.2.2, by rw [hsz]; exact Nat.le_refl _, fun b hb' => hother b (by omega), walk_of hb hother⟩⟩
  have hpl := hk.plain hst
  simp only [] at hpl
  by_cases e : lo = hi
  · simp only [e, beq_self_eq_true, if_true]
    exact ⟨hk.cells, hk.grown, fun y h1 h2 => by simp only [] at h1 ⊢; omega, fun _ => by right; simp only []; omega, fun h => absurd h hBB, hk.room, hk.base0⟩
  · have e' : (lo == hi) = false := by simpa using e
    simp only [e', Bool.false_eq_true, if_false]
    exact ⟨hk.cells, hk.grown, fun y h1 h2 => by simp only [] at h1 ⊢; omega, fun _ => by right; simp only []; omega, fun h => absurd h hBB, hk.room, hk.base0⟩
theorem ustrK_ok (ht : TyOk C.P tb) (hF : Fits C tb.ng B ρ S.heap w) {ats : Array Nat} {pt ty : Nat} {x nn v : AV} {xv nv : Value} (h0 : ats[0]? = some pt) (hx : Rel C ρ x xv) (hn : Rel C ρ nn nv) (h : ustrK tb pt x nn S = some (v, S')) :
    S'.next = S.next ∧ ∃ y w', (Builtin.unsafeString_ ats ty #[xv, nv]).run C.P w = .ok y w' ∧ Rel C ρ v y ∧ Fits C tb.ng B ρ S'.heap w' ∧ Below B w w' := by
  unfold ustrK at h
  cases hnn : asN nn with
  | none => rw [hnn] at h; cases x <;> exact (fail_inv h).elim
  | some n =>
    obtain ⟨kk, rfl⟩ := asN_ok hnn hn
    rw [hnn] at h
    have hn0 : ¬ ((n : Int) < 0) := by omega
    cases x <;> try (cases n <;> exact (fail_inv h).elim)
    case nilp =>
      cases n with
      | succ n => exact (fail_inv h).elim
      | zero =>
        obtain ⟨rfl, rfl⟩ := ret_inv h
        simp only [Rel] at hx; subst hx
        refine ⟨rfl, .string .empty, w, ?_, by simp only [Rel]; exact ⟨rfl, by simp⟩, hF, Below.refl _ _⟩
        rw [(us_def h0 _ kk 0 (by omega)).choose_spec.choose_spec]
        simp
    case p b o =>
      have h : (cond (Nat.beq n 0) (ret (AV.s 0 0)) (bnd (lft (tb.ty.get pt)) fun tp => match tp.k with
        | .ptr e => bnd (rd b) fun k => bnd (lft (tb.ty.get k.e)) fun te => cond (isU8 tb e && isU8K te.k && Nat.beq te.size 1 && !k.st && Nat.ble n 140737488355328) (bnd (lft (k.c.sub o n)) fun c => match c with
            | .y l m => bnd (upd b { k with fr := max k.fr (Nat.add o n) }) fun _ => ret (.s l m)
            | .l vs => bnd (lft (packA vs)) fun r => bnd (upd b { k with fr := max k.fr (Nat.add o n) }) fun _ => ret (.s r.1 r.2)) fail
        | _ => fail)) S = some (v, S') := by cases n <;> exact h
      simp only [Rel] at hx
      obtain ⟨r, hr, rfl⟩ := hx
      cases hz : Nat.beq n 0 with
      | true =>
        rw [hz] at h
        have := beq_inv hz; subst this
        obtain ⟨rfl, rfl⟩ := ret_inv h
        refine ⟨rfl, .string .empty, w, ?_, by simp only [Rel]; exact ⟨rfl, by simp⟩, hF, Below.refl _ _⟩
        rw [(us_def h0 _ kk 0 (by omega)).choose_spec.choose_spec]
        simp
      | false =>
        rw [hz] at h
        have hz := beq_false_inv hz
        obtain ⟨tp, e1, h1⟩ := lb h
        obtain ⟨ip, hip, rfl⟩ := ht.ty _ _ e1
        rw [mkTI_k] at h1
        cases hkp : kOf C.P pt <;> rw [hkp] at h1 <;> try exact (fail_inv h1).elim
        rename_i e
        have hup := kOf_ptr hkp
        obtain ⟨k, S1, e2, e3, e4, h2⟩ := rb h1
        obtain ⟨te, e5, h3⟩ := lb h2
        obtain ⟨ie, hie, rfl⟩ := ht.ty _ _ e5
        obtain ⟨hc, h4⟩ := cond_inv h3
        simp only [Bool.and_eq_true] at hc
        obtain ⟨⟨⟨⟨c1, c2⟩, c3⟩, c4⟩, c5⟩ := hc
        have c1 := isU8_spec ht c1
        have c3 : ie.size = 1 := beq_inv c3
        have c4 : k.st = false := by simpa using c4
        have c5 := Nat.le_of_ble_eq_true c5
        have c2 : C.P.underlying k.e = some (.int .u8) := by
          have c2 : isU8K (kOf C.P k.e) = true := c2
          cases hk' : kOf C.P k.e <;> rw [hk'] at c2 <;> try (cases c2; done)
          rename_i kk'
          have := kOf_int hk'
          cases kk' <;> first | exact this | cases c2
        obtain ⟨c, h5, h6⟩ := lb h4
        obtain ⟨q1, q2, q3⟩ := Cells.sub_spec h5
        obtain ⟨arr, fz, hb, hk⟩ := get_block hF e2 hr
        obtain ⟨vs, v1, v2, v3, v4⟩ := read_ok hb hk.cells q1
        rw [← q2] at v2
        have hroom := hk.room
        have hva : (variablesAt ⟨r.blk, r.base + o, none⟩ e n).run C.P w = .ok true w := by
          have hsh : w.shape? r.blk = some (k.e, arr.size) := by simp [World.shape?, hb]
          simp [variablesAt, hsh, liesAt_u8 hie c3 c2 c1 (show r.base + o + n ≤ arr.size by omega)]
        have hel : (elemOf pt).run C.P w = .ok e w := by simp [elemOf, run_underlying hup]
        have fin : ∀ (l m : Nat), unp l m = c.toL → m < 2 ^ (8 * l) → (bnd (upd b { k with fr := max k.fr (Nat.add o n) }) fun _ => ret (AV.s l m)) S1 = some (v, S') →
            S'.next = S.next ∧ ∃ y w', (Builtin.unsafeString_ ats ty #[.pointer (some ⟨r.blk, r.base + o, none⟩), .int kk (n : Int)]).run C.P w = .ok y w' ∧ Rel C ρ v y ∧ Fits C tb.ng B ρ S'.heap w' ∧ Below B w w' := by
          intro l m hun hm h7
          obtain ⟨u, S2, h8, h9⟩ := bnd_inv h7
          obtain ⟨rfl, rfl⟩ := ret_inv h9
          obtain ⟨u1, u2, u3, u4⟩ := upd_inv h8
          have hln : l = n := by
            have := congrArg List.length hun
            rw [unp_length, ← v2.len] at this
            omega
          subst hln
          rw [← hun] at v2
          have hlb := bytesTo v2 v4
          obtain ⟨f1, f2⟩ := freeze_ok hF e2 u2 hr hb hk c4 o l hz
          refine ⟨by rw [u4, e4], .string ⟨(strB l m).toArray⟩, _, ?_, by simp only [Rel]; exact ⟨trivial, hm⟩, by rw [u3, e3]; exact f1, f2⟩
          have hmx : ¬ ((9223372036854775807 : Int) < (l : Int)) := by omega
          have hzi : ¬ ((l : Int) = 0) := by omega
          rw [(us_def h0 _ kk l c5).choose_spec.choose_spec]
          simp [hz, hel, hva, hlb]
        cases c with
        | y l m => exact fin l m rfl q3 h6
        | l us =>
          obtain ⟨rr, h7, h8⟩ := lb h6
          obtain ⟨l, m⟩ := rr
          obtain ⟨p1, p2, p3⟩ := packA_spec h7
          exact fin l m p2 p3 h8
end
end Go.AX
end
section
set_option linter.unusedSimpArgs false
set_option linter.unusedVariables false
namespace Go.AX
section
variable {C : Cx} {tb : Tab} {B : Nat} {ρ : Rho} {w : World} {S S' : St}
theorem clear_ok (ht : TyOk C.P tb) (hF : Fits C tb.ng B ρ S.heap w) {ats : Array Nat} {t ty : Nat} (h0 : ats[0]? = some t) {x v : AV} {xv : Value} (hx : Rel C ρ x xv) (h : clrK tb t x S = some (v, S')) :
    S'.next = S.next ∧ ∃ y w', (Builtin.clear_ ats ty #[xv]).run C.P w = .ok y w' ∧ Rel C ρ v y ∧ Fits C tb.ng B ρ S'.heap w' ∧ Below B w w' := by
  have nilRel : Rel C ρ (.tu []) (.tuple #[]) := by simp only [Rel, RelL]; exact ⟨[], rfl, rfl⟩
  unfold clrK at h
  obtain ⟨ti, e1, h1⟩ := lb h
  obtain ⟨i, hi, rfl⟩ := ht.ty _ _ e1
  rw [mkTI_k] at h1
  cases hk : kOf C.P t <;> rw [hk] at h1 <;> try exact (fail_inv h1).elim
  rename_i e
  have hu := kOf_slice hk
  cases x <;> try exact (fail_inv h1).elim
  case nils =>
    obtain ⟨rfl, rfl⟩ := ret_inv h1
    simp only [Rel] at hx; subst hx
    exact ⟨rfl, .tuple #[], w, by simp [Builtin.clear_, h0, run_underlying hu], nilRel, hF, Below.refl _ _⟩
  case sl b o n c q =>
    obtain ⟨rr, a, c', hr, rfl, hlc, ha⟩ := sl_addr hx
    have h1 : (cond (Nat.beq n 0) (ret (.tu [])) (bnd (lft (tb.ty.get e)) fun te => bnd (rd b) fun k =>
      cond (te.zs && Nat.ble k.fr o && Nat.ble (Nat.add o (Nat.mul n te.size)) k.c.len) (bnd (lft (k.c.put o (reps te.zc n))) fun c => bnd (upd b { k with c := c }) fun _ => ret (.tu [])) fail)) S = some (v, S') := h1
    cases hn : Nat.beq n 0 with
    | true =>
      rw [hn, cond_true] at h1
      have hn := beq_inv hn
      subst hn
      obtain ⟨rfl, rfl⟩ := ret_inv h1
      exact ⟨rfl, .tuple #[], w, by simp [Builtin.clear_, h0, run_underlying hu], nilRel, hF, Below.refl _ _⟩
    | false =>
      rw [hn, cond_false] at h1
      have hn := beq_false_inv hn
      obtain ⟨te, e2, h2⟩ := lb h1
      obtain ⟨ie, hie, rfl⟩ := ht.ty _ _ e2
      obtain ⟨k, S1, k1, k2, k3, h3⟩ := rb h2
      obtain ⟨hc, h4⟩ := cond_inv h3
      simp only [Bool.and_eq_true] at hc
      obtain ⟨⟨c1, c2⟩, c3⟩ := hc
      have c2 : k.fr ≤ o := Nat.le_of_ble_eq_true c2
      have c3 : o + n * ie.size ≤ k.c.len := Nat.le_of_ble_eq_true c3
      obtain ⟨cc, h5, h6⟩ := lb h4
      obtain ⟨u, S2, h7, h8⟩ := bnd_inv h6
      obtain ⟨rfl, rfl⟩ := ret_inv h8
      obtain ⟨u1, u2, u3, u4⟩ := upd_inv h7
      obtain ⟨arr, fz, hbk, hk2⟩ := get_block hF k1 hr
      obtain ⟨z, hz, hone, hlen⟩ := zs_spec c1
      obtain ⟨hrel, hcw⟩ := reps_rel (P := C.P) (t := e) (n := n) hz hlen ρ C
      obtain ⟨p1, p2, p3⟩ := Cells.put_spec hk2.cells.1 hcw h5
      have hmz := zeroCells_made z.cells n ie.size hlen
      have hml : (madeCells z.cells (n * ie.size)).toList.length = n * ie.size := by rw [made_eq _ _ _ hlen]; simp [hlen]
      have hroom := hk2.room
      obtain ⟨w', g1, g2, g3⟩ := write_ok hF k1 u2 hr hbk hk2 hrel (by rw [made_eq _ _ _ hlen]; exact flat_one hone n) c2 (by omega) (by rw [hml]; omega) (fun hg => by have := (hk2.grown hg).2.2.1; rw [hml]; omega)
        (fun hB => by have := (hk2.old hB).1; exact List.eq_nil_of_length_eq_zero (by rw [hml]; omega)) p2 p3
      have ha : a = ⟨rr.blk, rr.base + o, none⟩ := ha.resolve_right hn
      subst ha
      refine ⟨by rw [u4, k3], .tuple #[], w', ?_, nilRel, by rw [u3, k2]; exact g2, g3⟩
      have hzv : (zeroValue e).run C.P w = .ok z w := by simp [zeroValue, run_info hie, hz]
      obtain ⟨n, rfl⟩ : ∃ m, n = m + 1 := ⟨n - 1, by omega⟩
      rw [← hmz] at g1
      simp [Builtin.clear_, h0, run_underlying hu, hzv, g1]
end
end Go.AX
end
section
set_option linter.unusedSimpArgs false
set_option linter.unusedVariables false
namespace Go.AX
section
variable {C : Cx} {tb : Tab} {B : Nat} {ρ : Rho} {w : World} {S S' : St}
variable {f : Operand → AV} {g : Operand → Value}
theorem args_rel (hf : ∀ x, Rel C ρ (f x) (g x)) (l : List Operand) : RelL C ρ (l.map f) (l.map g) := RelL.map f g hf l
theorem s_builtin (ht : TabOk C tb) (hF : Fits C tb.ng B ρ S.heap w) (hng : tb.ng ≤ S.next) (hf : ∀ x, Rel C ρ (f x) (g x)) {c : Call} {bi : Builtin} {o : Oper} (ho : o.op = .call c) (hc : c.callee = .builtin bi) {v : AV}
    (h : builtin tb bi c.argTypes.toList (c.args.toList.map f) S = some (v, S')) (hfree : Free ρ S.next S'.next) : SOut C tb.ng B ρ w S S' v ((execOp g o).run C.P w) := by
  have hargs := args_rel hf c.args.toList
  have hga : c.args.map g = (c.args.toList.map g).toArray := by rw [← List.map_toArray, Array.toArray_toList]
  have hex : (execOp g o).run C.P w = (Go.builtin bi c.argTypes o.type (c.args.map fun | .const _ => true | _ => false) (c.args.toList.map g).toArray).run C.P w := by
    simp only [execOp, ho, resolve, hc, hga]; rfl
  rw [hex]
  generalize (c.args.map fun | .const _ => true | _ => false) = consts
  generalize c.args.toList.map f = l at h hargs
  generalize c.args.toList.map g = vs at hargs
  have hats : ∀ (t : Nat) r, c.argTypes.toList = t :: r → c.argTypes[0]? = some t := fun t r e => by
    rw [← Array.getElem?_toList, e]; rfl
  have hats1 : ∀ (t u : Nat) r, c.argTypes.toList = t :: u :: r → c.argTypes[1]? = some u := fun t u r e => by
    rw [← Array.getElem?_toList, e]; rfl
  have two : ∀ {a b : AV} {vs : List Value}, RelL C ρ [a, b] vs → ∃ x y, vs = [x, y] ∧ Rel C ρ a x ∧ Rel C ρ b y := by
    intro a b vs h; simp only [RelL] at h
    obtain ⟨x, vt, rfl, h1, y, vt2, rfl, h2, rfl⟩ := h; exact ⟨x, y, rfl, h1, h2⟩
  have one : ∀ {a : AV} {vs : List Value}, RelL C ρ [a] vs → ∃ x, vs = [x] ∧ Rel C ρ a x := by
    intro a vs h; simp only [RelL] at h
    obtain ⟨x, vt, rfl, h1, rfl⟩ := h; exact ⟨x, rfl, h1⟩
  generalize hts : c.argTypes.toList = ts at h
  unfold builtin at h
  split at h
  · rename_i t r x
    obtain ⟨x', rfl, hx⟩ := one hargs
    obtain ⟨ti, e1, h1⟩ := lb h
    obtain ⟨i, hi, rfl⟩ := ht.ty _ _ e1
    rw [mkTI_k] at h1
    obtain ⟨eh, y, h2, h3⟩ := lenK_ok (w := w) (ty := o.type) hF ht.toHypOk hx h1
    have h2' : (Builtin.len_ c.argTypes o.type #[x']).run C.P w = .ok y w := by
      have : Builtin.len_ c.argTypes o.type #[x'] = Builtin.len_ #[t] o.type #[x'] := by simp [Builtin.len_, hats _ _ hts]
      rw [this]; exact h2
    exact SOut.of (.same hF eh h2' h3)
  · rename_i t r x
    obtain ⟨x', rfl, hx⟩ := one hargs
    obtain ⟨ti, e1, h1⟩ := lb h
    obtain ⟨i, hi, rfl⟩ := ht.ty _ _ e1
    rw [mkTI_k] at h1
    obtain ⟨rfl, y, h2, h3⟩ := capK_ok (C := C) (w := w) (ty := o.type) hx h1
    have h2' : (Builtin.cap_ c.argTypes o.type #[x']).run C.P w = .ok y w := by
      have : Builtin.cap_ c.argTypes o.type #[x'] = Builtin.cap_ #[t] o.type #[x'] := by simp [Builtin.cap_, hats _ _ hts]
      rw [this]; exact h2
    exact SOut.of (.same hF rfl h2' h3)
  · rename_i x l'
    obtain ⟨h1, rfl⟩ := lft_inv h
    simp only [RelL] at hargs
    obtain ⟨x', vt, rfl, hx, hl⟩ := hargs
    obtain ⟨y, h2, h3⟩ := foldA_ok (C := C) (w := w) (fun hx hy h => max2_ok hx hy h) l' vt x v x' hl hx h1
    exact SOut.of (s := Builtin.max_ c.argTypes o.type (x' :: vt).toArray) (.same hF rfl (by simpa [Builtin.max_] using h2) h3)
  · rename_i x l'
    obtain ⟨h1, rfl⟩ := lft_inv h
    simp only [RelL] at hargs
    obtain ⟨x', vt, rfl, hx, hl⟩ := hargs
    obtain ⟨y, h2, h3⟩ := foldA_ok (C := C) (w := w) (fun hx hy h => min2_ok hx hy h) l' vt x v x' hl hx h1
    exact SOut.of (s := Builtin.min_ c.argTypes o.type (x' :: vt).toArray) (.same hF rfl (by simpa [Builtin.min_] using h2) h3)
  · rename_i st xt r s x
    obtain ⟨s', x', rfl, hs, hx⟩ := two hargs
    exact SOut.of (appK_ok (ty := o.type) ht.toTyOk hF hng (hats _ _ hts) (hats1 _ _ _ hts) hs hx h hfree)
  · rename_i st r d x
    obtain ⟨d', x', rfl, hd, hx⟩ := two hargs
    obtain ⟨h1, y, w', h2, h3, h4, h5⟩ := copyK_ok (ty := o.type) ht.toTyOk hF (hats _ _ hts) hd hx h
    exact SOut.of (s := Builtin.copy_ c.argTypes o.type #[d', x']) ⟨ρ, y, w', h2, h3, h4, Ext.refl _ _ _, h5⟩
  · rename_i t r x
    obtain ⟨x', rfl, hx⟩ := one hargs
    obtain ⟨h1, y, w', h2, h3, h4, h5⟩ := clear_ok (ty := o.type) ht.toTyOk hF (hats _ _ hts) hx h
    exact SOut.of (s := Builtin.clear_ c.argTypes o.type #[x']) ⟨ρ, y, w', h2, h3, h4, by rw [h1]; exact Ext.refl _ _ _, h5⟩
  · rename_i t r m k
    obtain ⟨m', k', rfl, hm, hk⟩ := two hargs
    obtain ⟨h1, y, w', h2, h3, h4, h5⟩ := delete_ok (ty := o.type) ht.toTyOk ht.toHypOk hF (hats _ _ hts) hm hk h
    exact SOut.of (s := Builtin.delete_ c.argTypes o.type #[m', k']) ⟨ρ, y, w', h2, h3, h4, Ext.refl _ _ _, h5⟩
  · rename_i x
    obtain ⟨x', rfl, hx⟩ := one hargs
    obtain ⟨h1, h2, y, h3, h4⟩ := dataK_ok (ats := c.argTypes) (ty := o.type) hF hx h
    exact SOut.of (s := Builtin.unsafeSliceData_ c.argTypes o.type #[x']) (.same hF h1 h3 h4)
  · rename_i pt r x n
    obtain ⟨x', n', rfl, hx, hn⟩ := two hargs
    obtain ⟨h1, y, w', h2, h3, h4, h5⟩ := ustrK_ok (ty := o.type) ht.toTyOk hF (hats _ _ hts) hx hn h
    exact SOut.of (s := Builtin.unsafeString_ c.argTypes o.type #[x', n']) ⟨ρ, y, w', h2, h3, h4, Ext.refl _ _ _, h5⟩
  · exact (fail_inv h).elim
end
end Go.AX
end
section
set_option linter.unusedSimpArgs false
set_option linter.unusedVariables false
namespace Go.AX
/-- no block yet where this run will make its own -/
def Rw (S : St) (hi : Nat) : Prop := ∀ v, S.next ≤ v → v < hi → S.heap.get v = none
structure Fr {α : Type} (m : M α) (S : St) (x : α) (S' : St) (A W : Nat) : Prop where
  acc : S'.acc = Nat.lor S.acc A
  wr : S'.wr = Nat.lor S.wr W
  sub : ∀ v, W.testBit v = true → A.testBit v = true
  lt : ∀ v, W.testBit v = true → v < S'.next
  ex : ∀ v, A.testBit v = true → S'.next ≤ v → S.heap.get v ≠ none
  al : ∀ v, S.next ≤ v → v < S'.next → W.testBit v = true
  keep : ∀ v, W.testBit v = false → S'.heap.get v = S.heap.get v
  fr : ∀ T : St, T.next = S.next → (∀ v, A.testBit v = true → ¬ (S.next ≤ v ∧ v < S'.next) → T.heap.get v = S.heap.get v) →
    ∃ T', m T = some (x, T') ∧ T'.next = S'.next ∧ T'.acc = Nat.lor T.acc A ∧ T'.wr = Nat.lor T.wr W ∧ ∀ v, T'.heap.get v = if W.testBit v then S'.heap.get v else T.heap.get v
structure Good {α : Type} (m : M α) : Prop where
  mono : ∀ S x S', m S = some (x, S') → S.next ≤ S'.next
  ok : ∀ S x S', Rw S S'.next → m S = some (x, S') → ∃ A W, Fr m S x S' A W
theorem lor_zero (n : Nat) : Nat.lor n 0 = n := Nat.or_zero n
theorem lor_assoc (a b c : Nat) : Nat.lor (Nat.lor a b) c = Nat.lor a (Nat.lor b c) := Nat.or_assoc a b c
theorem tb_lor (a b v : Nat) : (Nat.lor a b).testBit v = (a.testBit v || b.testBit v) := Nat.testBit_or a b v
theorem tb_bit (u v : Nat) : (bit u).testBit v = decide (u = v) := by
  show (1 <<< u).testBit v = _
  rw [Nat.one_shiftLeft, Nat.testBit_two_pow]
theorem Fr.none {α : Type} {m : M α} {S : St} {x : α} (h : ∀ T, m T = some (x, T)) : Fr m S x S 0 0 :=
  ⟨(lor_zero _).symm, (lor_zero _).symm, fun v h => by simp at h, fun v h => by simp at h, fun v h => by simp at h, fun v h1 h2 => by omega, fun _ _ => rfl,
    fun T hT _ => ⟨T, h T, hT, (lor_zero _).symm, (lor_zero _).symm, fun v => by simp⟩⟩
theorem Good.ret {α : Type} (a : α) : Good (AX.ret a) := ⟨fun S x S' h => by obtain ⟨rfl, rfl⟩ := ret_inv h; exact Nat.le_refl _, fun S x S' hw h => by
  obtain ⟨rfl, rfl⟩ := ret_inv h
  exact ⟨0, 0, .none fun T => rfl⟩⟩
theorem Good.fail {α : Type} : Good (AX.fail : M α) := ⟨fun S x S' h => (fail_inv h).elim, fun S x S' hw h => (fail_inv h).elim⟩
theorem Good.lft {α : Type} (o : Option α) : Good (AX.lft o) := ⟨fun S x S' h => by obtain ⟨_, rfl⟩ := lft_inv h; exact Nat.le_refl _, fun S x S' hw h => by
  obtain ⟨h1, rfl⟩ := lft_inv h
  exact ⟨0, 0, .none fun T => by rw [h1]; rfl⟩⟩
theorem Fr.rw {α : Type} {m : M α} {S : St} {x : α} {S' : St} {A W hi : Nat} (q : Fr m S x S' A W) (h : Rw S hi) (hle : S.next ≤ S'.next) : Rw S' hi := fun v h1 h2 => by
  cases hW : W.testBit v with
  | true => have := q.lt v hW; omega
  | false => rw [q.keep v hW]; exact h v (by omega) h2
theorem Good.bnd {α β : Type} {m : M α} {f : α → M β} (hm : Good m) (hf : ∀ a, Good (f a)) : Good (AX.bnd m f) := ⟨fun S x S' h => by
  obtain ⟨a, S1, h1, h2⟩ := bnd_inv h
  exact Nat.le_trans (hm.mono _ _ _ h1) ((hf a).mono _ _ _ h2), fun S x S' hw h => by
  obtain ⟨a, S1, h1, h2⟩ := bnd_inv h
  have l1 := hm.mono _ _ _ h1
  have l2 := (hf a).mono _ _ _ h2
  obtain ⟨A, W, q⟩ := hm.ok _ _ _ (fun v a b => hw v a (by omega)) h1
  obtain ⟨A2, W2, r⟩ := (hf a).ok _ _ _ (q.rw hw l1) h2
  refine ⟨Nat.lor A A2, Nat.lor W W2, by rw [r.acc, q.acc, lor_assoc], by rw [r.wr, q.wr, lor_assoc], fun v hv => ?_, fun v hv => ?_, fun v hv hge => ?_, fun v h1 h2 => ?_, fun v hv => ?_, fun T hT hag => ?_⟩
  · rw [tb_lor, Bool.or_eq_true] at hv ⊢; exact hv.imp (q.sub v) (r.sub v)
  · rw [tb_lor, Bool.or_eq_true] at hv
    rcases hv with hv | hv
    · exact Nat.lt_of_lt_of_le (q.lt v hv) l2
    · exact r.lt v hv
  · rw [tb_lor, Bool.or_eq_true] at hv
    rcases hv with hv | hv
    · exact q.ex v hv (by omega)
    · have := r.ex v hv hge
      cases hW : W.testBit v with
      | true => have := q.lt v hW; omega
      | false => rwa [q.keep v hW] at this
  · rw [tb_lor, Bool.or_eq_true]
    rcases Nat.lt_or_ge v S1.next with h | h
    · exact .inl (q.al v h1 h)
    · exact .inr (r.al v h h2)
  · rw [tb_lor, Bool.or_eq_false_iff] at hv
    rw [r.keep v hv.2, q.keep v hv.1]
  · obtain ⟨T1, t1, t2, t3, t4, t5⟩ := q.fr T hT fun v hv hno => by
      by_cases hin : S.next ≤ v ∧ v < S'.next
      · exact absurd (hw v hin.1 hin.2) (q.ex v hv (by omega))
      · exact hag v (by rw [tb_lor, hv, Bool.true_or]) hin
    have hag2 : ∀ v, A2.testBit v = true → ¬ (S1.next ≤ v ∧ v < S'.next) → T1.heap.get v = S1.heap.get v := fun v hv hno => by
      rw [t5 v]
      by_cases hw : W.testBit v = true
      · rw [if_pos hw]
      · rw [if_neg hw]
        have hw : W.testBit v = false := by simpa using hw
        rw [q.keep v hw]
        refine hag v (by rw [tb_lor, hv, Bool.or_true]) fun hin => ?_
        rcases Nat.lt_or_ge v S1.next with h | h
        · have := q.al v hin.1 h; rw [hw] at this; cases this
        · exact hno ⟨h, hin.2⟩
    obtain ⟨T2, u1, u2, u3, u4, u5⟩ := r.fr T1 t2 hag2
    refine ⟨T2, by unfold AX.bnd; rw [t1]; exact u1, u2, by rw [u3, t3, lor_assoc], by rw [u4, t4, lor_assoc], fun v => ?_⟩
    rw [u5 v, t5 v, tb_lor]
    cases hW2 : W2.testBit v with
    | true => simp
    | false =>
      cases hW : W.testBit v with
      | true => simp [r.keep v hW2]
      | false => simp⟩
theorem Good.cond {α : Type} {b : Bool} {m n : M α} (hm : Good m) (hn : Good n) : Good (_root_.cond b m n) := by cases b <;> assumption
theorem Good.rd (v : Nat) : Good (AX.rd v) := ⟨fun S k S' h => by have := (rd_inv h).2.2; omega, fun S k S' hw h => by
  obtain ⟨hg, _, _⟩ := rd_inv h
  unfold AX.rd at h
  rw [hg] at h; injection h with h; injection h with h1 h2; subst h2
  refine ⟨bit v, 0, rfl, (lor_zero _).symm, fun u hu => by simp at hu, fun u hu => by simp at hu, fun u hu hge => ?_, fun u h1 h2 => by simp only [] at h2; omega, fun _ _ => rfl, fun T hT hag => ?_⟩
  · rw [tb_bit] at hu; simp at hu; subst hu; rw [hg]; simp
  · refine ⟨⟨T.heap, T.next, Nat.lor T.acc (bit v), T.wr⟩, ?_, hT, rfl, (lor_zero _).symm, fun u => by simp⟩
    unfold AX.rd
    rw [hag v (by rw [tb_bit]; simp) (by simp only []; omega), hg]⟩
theorem Good.rdJ (v : Nat) : Good (AX.rdJ v) := ⟨fun S k S' h => by have := (rdJ_inv h).2.2; omega, fun S k S' hw h => by
  obtain ⟨hg, _, _⟩ := rdJ_inv h
  unfold AX.rdJ at h
  rw [hg] at h; injection h with h; injection h with h1 h2; subst h2
  refine ⟨bit v, 0, rfl, (lor_zero _).symm, fun u hu => by simp at hu, fun u hu => by simp at hu, fun u hu hge => ?_, fun u h1 h2 => by simp only [] at h2; omega, fun _ _ => rfl, fun T hT hag => ?_⟩
  · rw [tb_bit] at hu; simp at hu; subst hu; rw [hg]; simp
  · refine ⟨⟨T.heap, T.next, Nat.lor T.acc (bit v), T.wr⟩, ?_, hT, rfl, (lor_zero _).symm, fun u => by simp⟩
    unfold AX.rdJ
    rw [hag v (by rw [tb_bit]; simp) (by simp only []; omega), hg]⟩
theorem Good.rdM (v : Nat) : Good (AX.rdM v) := ⟨fun S k S' h => by have := (rdM_inv h).2.2; omega, fun S k S' hw h => by
  obtain ⟨hg, _, _⟩ := rdM_inv h
  unfold AX.rdM at h
  rw [hg] at h; injection h with h; injection h with h1 h2; subst h2
  refine ⟨bit v, 0, rfl, (lor_zero _).symm, fun u hu => by simp at hu, fun u hu => by simp at hu, fun u hu hge => ?_, fun u h1 h2 => by simp only [] at h2; omega, fun _ _ => rfl, fun T hT hag => ?_⟩
  · rw [tb_bit] at hu; simp at hu; subst hu; rw [hg]; simp
  · refine ⟨⟨T.heap, T.next, Nat.lor T.acc (bit v), T.wr⟩, ?_, hT, rfl, (lor_zero _).symm, fun u => by simp⟩
    unfold AX.rdM
    rw [hag v (by rw [tb_bit]; simp) (by simp only []; omega), hg]⟩
theorem Good.rdI (v : Nat) : Good (AX.rdI v) := ⟨fun S k S' h => by have := (rdI_inv h).2.2; omega, fun S k S' hw h => by
  obtain ⟨hg, _, _⟩ := rdI_inv h
  unfold AX.rdI at h
  rw [hg] at h; injection h with h; injection h with h1 h2; subst h2
  refine ⟨bit v, 0, rfl, (lor_zero _).symm, fun u hu => by simp at hu, fun u hu => by simp at hu, fun u hu hge => ?_, fun u h1 h2 => by simp only [] at h2; omega, fun _ _ => rfl, fun T hT hag => ?_⟩
  · rw [tb_bit] at hu; simp at hu; subst hu; rw [hg]; simp
  · refine ⟨⟨T.heap, T.next, Nat.lor T.acc (bit v), T.wr⟩, ?_, hT, rfl, (lor_zero _).symm, fun u => by simp⟩
    unfold AX.rdI
    rw [hag v (by rw [tb_bit]; simp) (by simp only []; omega), hg]⟩
theorem setW {H H' : T Ent} {u v : Nat} {k : Ent} (hn : u ≤ 16777213) (x : Nat) : (H'.set u k).get x = if (bit u).testBit x then (H.set u k).get x else H'.get x := by
  rw [get_set _ _ _ _ hn, get_set _ _ _ _ hn, tb_bit]
  by_cases e : x = u
  · subst e; simp
  · have : decide (u = x) = false := by simpa using fun h => e h.symm
    rw [if_neg e, this]; simp
theorem Good.updE (v : Nat) (k : Ent) : Good (AX.updE v k) := ⟨fun S x S' h => by have := (updE_inv h).2.2.2; omega, fun S x S' hw h => by
  unfold AX.updE at h
  cases hc : (Nat.blt v S.next && Nat.ble v 16777213) with
  | false => rw [hc] at h; cases h
  | true =>
    rw [hc] at h; injection h with h; injection h with h1 h2; subst h2
    have hcc := hc
    rw [Bool.and_eq_true] at hc
    have hlt : v < S.next := Nat.le_of_ble_eq_true hc.1
    have hle := Nat.le_of_ble_eq_true hc.2
    refine ⟨bit v, bit v, rfl, rfl, fun u hu => hu, fun u hu => ?_, fun u hu hge => ?_, fun u h1 h2 => by simp only [] at h2; omega, fun u hu => ?_, fun T hT hag => ?_⟩
    · rw [tb_bit] at hu; simp at hu; subst hu; exact hlt
    · rw [tb_bit] at hu; simp at hu; subst hu; simp only [] at hge; omega
    · rw [tb_bit] at hu; simp at hu; rw [get_set _ _ _ _ hle, if_neg (fun e => hu e.symm)]
    · refine ⟨⟨T.heap.set v k, T.next, Nat.lor T.acc (bit v), Nat.lor T.wr (bit v)⟩, ?_, hT, rfl, rfl, fun u => setW (v := v) hle u⟩
      unfold AX.updE; rw [hT, hcc]; rfl⟩
theorem Good.upd (v : Nat) (k : Blk) : Good (AX.upd v k) := Good.updE v (.b k)
theorem Good.kill (v : Nat) : Good (AX.kill v) := ⟨fun S x S' h => by have := (kill_inv h).2.2.2; omega, fun S x S' hw h => by
  unfold AX.kill at h
  cases hc : (Nat.blt v S.next && Nat.ble v 16777213) with
  | false => rw [hc] at h; cases h
  | true =>
    rw [hc] at h; injection h with h; injection h with h1 h2; subst h2
    have hcc := hc
    rw [Bool.and_eq_true] at hc
    have hlt : v < S.next := Nat.le_of_ble_eq_true hc.1
    have hle := Nat.le_of_ble_eq_true hc.2
    refine ⟨bit v, bit v, rfl, rfl, fun u hu => hu, fun u hu => ?_, fun u hu hge => ?_, fun u h1 h2 => by simp only [] at h2; omega, fun u hu => ?_, fun T hT hag => ?_⟩
    · rw [tb_bit] at hu; simp at hu; subst hu; exact hlt
    · rw [tb_bit] at hu; simp at hu; subst hu; simp only [] at hge; omega
    · rw [tb_bit] at hu; simp at hu; rw [get_del _ _ _ hle, if_neg (fun e => hu e.symm)]
    · refine ⟨⟨T.heap.del v, T.next, Nat.lor T.acc (bit v), Nat.lor T.wr (bit v)⟩, ?_, hT, rfl, rfl, fun u => ?_⟩
      · unfold AX.kill; rw [hT, hcc]; rfl
      · simp only []
        rw [get_del _ _ _ hle, get_del _ _ _ hle, tb_bit]
        by_cases e : u = v
        · subst e; simp
        · have : decide (v = u) = false := by simpa using fun h => e h.symm
          rw [if_neg e, this]; simp⟩
theorem Good.newE (k : Ent) : Good (AX.newE k) := ⟨fun S x S' h => by have := (newE_inv h).2.2.2; omega, fun S x S' hw h => by
  unfold AX.newE at h
  cases hc : Nat.ble S.next 16777213 with
  | false => rw [hc] at h; cases h
  | true =>
    rw [hc] at h; injection h with h; injection h with h1 h2; subst h2; subst h1
    have hle := Nat.le_of_ble_eq_true hc
    refine ⟨bit S.next, bit S.next, rfl, rfl, fun u hu => hu, fun u hu => ?_, fun u hu hge => ?_, fun u h1 h2 => ?_, fun u hu => ?_, fun T hT hag => ?_⟩
    · rw [tb_bit] at hu; simp at hu; subst hu; exact Nat.lt_succ_self _
    · rw [tb_bit] at hu; simp at hu; subst hu; simp only [] at hge; omega
    · simp only [] at h2; rw [tb_bit]; simp; omega
    · rw [tb_bit] at hu; simp at hu; rw [get_set _ _ _ _ hle, if_neg (fun e => hu e.symm)]
    · refine ⟨⟨T.heap.set S.next k, Nat.succ T.next, Nat.lor T.acc (bit S.next), Nat.lor T.wr (bit S.next)⟩, ?_, by simp only []; rw [hT], rfl, rfl, fun u => setW (v := 0) hle u⟩
      unfold AX.newE; rw [hT, hc]; rfl⟩
theorem Good.new (k : Blk) : Good (AX.new k) := Good.newE (.b k)
theorem ownRun_inv {α : Type} {m : M α} {S S2 : St} {p : α × Nat × Nat} (h : AX.ownRun m S = some (p, S2)) : ∃ S1, m ⟨S.heap, S.next, 0, 0⟩ = some (p.1, S1) ∧ p.2.1 = S1.acc ∧ p.2.2 = S1.wr ∧ S2.heap = S1.heap ∧ S2.next = S1.next := by
  unfold AX.ownRun at h
  cases hm0 : m ⟨S.heap, S.next, 0, 0⟩ with
  | none => rw [hm0] at h; cases h
  | some r =>
    obtain ⟨a, S1⟩ := r
    rw [hm0] at h
    injection h with h; injection h with e1 e2; subst e1; subst e2
    exact ⟨S1, rfl, rfl, rfl, rfl, rfl⟩
theorem Good.ownRun {α : Type} {m : M α} (hm : Good m) : Good (AX.ownRun m) := ⟨fun S y S2 h => by
  obtain ⟨S1, h1, _, _, _, h2⟩ := ownRun_inv h
  have := hm.mono _ _ _ h1
  simp only [] at this; omega, fun S y S2 hw h => by
  unfold AX.ownRun at h
  cases hm0 : m ⟨S.heap, S.next, 0, 0⟩ with
  | none => rw [hm0] at h; cases h
  | some r =>
    obtain ⟨a, S1⟩ := r
    rw [hm0] at h
    injection h with h; injection h with e1 e2; subst e1; subst e2
    obtain ⟨A, W, q⟩ := hm.ok ⟨S.heap, S.next, 0, 0⟩ a S1 (fun v h1 h2 => hw v h1 h2) hm0
    have hz : ∀ n, Nat.lor 0 n = n := fun n => Nat.zero_or n
    have ha : S1.acc = A := by rw [q.acc]; exact hz A
    have hwr : S1.wr = W := by rw [q.wr]; exact hz W
    rw [ha, hwr]
    refine ⟨A, W, rfl, rfl, q.sub, q.lt, q.ex, q.al, q.keep, fun T hT hag => ?_⟩
    obtain ⟨T', t1, t2, t3, t4, t5⟩ := q.fr ⟨T.heap, T.next, 0, 0⟩ hT hag
    have ta : T'.acc = A := by rw [t3]; exact hz A
    have tw : T'.wr = W := by rw [t4]; exact hz W
    refine ⟨⟨T'.heap, T'.next, Nat.lor T.acc A, Nat.lor T.wr W⟩, ?_, t2, rfl, rfl, t5⟩
    unfold AX.ownRun
    simp only [t1, ta, tw]⟩
theorem Good.load (tb : Tab) (t : Nat) (x : AV) : Good (AX.load tb t x) := by
  unfold AX.load
  split
  · repeat (first | exact Good.ret _ | exact Good.fail | exact Good.lft _ | exact Good.rd _ | apply Good.cond | apply Good.bnd | intro _)
  · exact Good.fail
theorem Good.store (tb : Tab) (t : Nat) (x y : AV) : Good (AX.store tb t x y) := by
  unfold AX.store
  split
  · repeat (first | exact Good.ret _ | exact Good.fail | exact Good.lft _ | exact Good.rd _ | exact Good.upd _ _ | apply Good.cond | apply Good.bnd | intro _ | split)
  · exact Good.fail
theorem Good.ptrEq (a c o u : Nat) : Good (AX.ptrEq a c o u) := by unfold AX.ptrEq; exact Good.cond (Good.ret _) Good.fail
theorem Good.hypB (tb : Tab) (k : HK) : Good (AX.hypB tb k) := by
  unfold AX.hypB; split
  · exact Good.ret _
  · exact Good.fail
theorem Good.eqF {eq : Nat → AV → AV → M Bool} (h : ∀ t x y, Good (eq t x y)) (l m : List AV) : ∀ fs, Good (AX.eqF eq l m fs)
  | [] => Good.ret _
  | f :: fs => by
    unfold AX.eqF
    have ih := Good.eqF h l m fs
    repeat (first | exact ih | exact h _ _ _ | exact Good.ret _ | exact Good.lft _ | apply Good.cond | apply Good.bnd | intro _)
theorem Good.eqT (tb : Tab) : ∀ d t x y, Good (AX.eqT tb d t x y)
  | 0, _, _, _ => Good.fail
  | d + 1, t, x, y => by
    unfold AX.eqT
    have ih := Good.eqT tb d
    refine Good.bnd (Good.lft _) fun ti => ?_
    split <;> repeat (first | exact ih _ _ _ | exact Good.eqF (ih) _ _ _ | exact Good.hypB _ _ | exact Good.ptrEq _ _ _ _ | exact Good.ret _ | exact Good.fail | exact Good.lft _ | apply Good.cond | apply Good.bnd | intro _)
theorem Good.eqTop (tb : Tab) (t : Nat) (c : Bool) (x y : AV) : Good (AX.eqTop tb t c x y) := by
  unfold AX.eqTop
  repeat (first | exact Good.eqT _ _ _ _ _ | exact Good.ret _ | exact Good.fail | exact Good.lft _ | apply Good.cond | apply Good.bnd | intro _ | split)
theorem Good.binI (o : BinOp) (k : IntKind) (a c : Int) : Good (AX.binI o k a c) := by
  unfold AX.binI
  split <;> repeat (first | exact Good.ret _ | exact Good.fail | apply Good.cond)
theorem Good.bin (tb : Tab) (o : BinOp) (t : Nat) (c : Bool) (x y : AV) : Good (AX.bin tb o t c x y) := by
  unfold AX.bin
  split <;> repeat (first | exact Good.ret _ | exact Good.fail | exact Good.lft _ | exact Good.binI _ _ _ _ | exact Good.eqTop _ _ _ _ _ | apply Good.cond | apply Good.bnd | intro _)
theorem Good.findK (tb : Tab) (t : Nat) (k : AV) : ∀ es i, Good (AX.findK tb t k es i)
  | [], i => Good.ret _
  | e :: es, i => by
    unfold AX.findK
    have ih := Good.findK tb t k es (Nat.succ i)
    exact Good.bnd (Good.eqT _ _ _ _ _) fun r => Good.cond (Good.ret _) ih
theorem Good.mapOf (x : AV) : Good (AX.mapOf x) := by
  unfold AX.mapOf
  repeat (first | exact Good.ret _ | exact Good.fail | exact Good.rdM _ | apply Good.bnd | intro _ | split)
theorem Good.zeroT (tb : Tab) (t : Nat) : Good (AX.zeroT tb t) := by
  unfold AX.zeroT
  exact Good.bnd (Good.lft _) fun _ => Good.lft _
theorem Good.lookupK (tb : Tab) (t : Nat) (m k : AV) (ok : Bool) : Good (AX.lookupK tb t m k ok) := by
  unfold AX.lookupK
  repeat (first | exact Good.ret _ | exact Good.fail | exact Good.lft _ | exact Good.rd _ | exact Good.rdM _ | exact Good.rdI _ | exact Good.updE _ _ | exact Good.upd _ _ | exact Good.newE _ | exact Good.findK _ _ _ _ _ | exact Good.mapOf _ | exact Good.zeroT _ _ | apply Good.cond | apply Good.bnd | intro _ | split)
theorem Good.updK (tb : Tab) (t : Nat) (m k v : AV) : Good (AX.updK tb t m k v) := by
  unfold AX.updK
  repeat (first | exact Good.ret _ | exact Good.fail | exact Good.lft _ | exact Good.rd _ | exact Good.rdM _ | exact Good.rdI _ | exact Good.updE _ _ | exact Good.upd _ _ | exact Good.newE _ | exact Good.findK _ _ _ _ _ | exact Good.mapOf _ | exact Good.zeroT _ _ | apply Good.cond | apply Good.bnd | intro _ | split)
theorem Good.entK (tb : Tab) (t : Nat) (m k : AV) : Good (AX.entK tb t m k) := by
  unfold AX.entK
  repeat (first | exact Good.ret _ | exact Good.fail | exact Good.lft _ | exact Good.rd _ | exact Good.rdM _ | exact Good.rdI _ | exact Good.updE _ _ | exact Good.upd _ _ | exact Good.newE _ | exact Good.findK _ _ _ _ _ | exact Good.mapOf _ | exact Good.zeroT _ _ | apply Good.cond | apply Good.bnd | intro _ | split)
theorem Good.entStK (m s v : AV) : Good (AX.entStK m s v) := by
  unfold AX.entStK
  repeat (first | exact Good.ret _ | exact Good.fail | exact Good.lft _ | exact Good.rd _ | exact Good.rdM _ | exact Good.rdI _ | exact Good.updE _ _ | exact Good.upd _ _ | exact Good.newE _ | exact Good.findK _ _ _ _ _ | exact Good.mapOf _ | exact Good.zeroT _ _ | apply Good.cond | apply Good.bnd | intro _ | split)
theorem Good.delK (tb : Tab) (t : Nat) (m k : AV) : Good (AX.delK tb t m k) := by
  unfold AX.delK
  repeat (first | exact Good.ret _ | exact Good.fail | exact Good.lft _ | exact Good.rd _ | exact Good.rdM _ | exact Good.rdI _ | exact Good.updE _ _ | exact Good.upd _ _ | exact Good.newE _ | exact Good.findK _ _ _ _ _ | exact Good.mapOf _ | exact Good.zeroT _ _ | apply Good.cond | apply Good.bnd | intro _ | split)
theorem Good.rangeK (tb : Tab) (t : Nat) (m : AV) : Good (AX.rangeK tb t m) := by
  unfold AX.rangeK
  repeat (first | exact Good.ret _ | exact Good.fail | exact Good.lft _ | exact Good.rd _ | exact Good.rdM _ | exact Good.rdI _ | exact Good.updE _ _ | exact Good.upd _ _ | exact Good.newE _ | exact Good.findK _ _ _ _ _ | exact Good.mapOf _ | exact Good.zeroT _ _ | apply Good.cond | apply Good.bnd | intro _ | split)
theorem Good.nextK (x : AV) : Good (AX.nextK x) := by
  unfold AX.nextK
  repeat (first | exact Good.ret _ | exact Good.fail | exact Good.lft _ | exact Good.rd _ | exact Good.rdM _ | exact Good.rdI _ | exact Good.updE _ _ | exact Good.upd _ _ | exact Good.newE _ | exact Good.findK _ _ _ _ _ | exact Good.mapOf _ | exact Good.zeroT _ _ | apply Good.cond | apply Good.bnd | intro _ | split)
theorem Good.entryK (x : AV) : Good (AX.entryK x) := by
  unfold AX.entryK
  repeat (first | exact Good.ret _ | exact Good.fail | exact Good.lft _ | exact Good.rd _ | exact Good.rdM _ | exact Good.rdI _ | exact Good.updE _ _ | exact Good.upd _ _ | exact Good.newE _ | exact Good.findK _ _ _ _ _ | exact Good.mapOf _ | exact Good.zeroT _ _ | apply Good.cond | apply Good.bnd | intro _ | split)
theorem Good.clrK (tb : Tab) (t : Nat) (x : AV) : Good (AX.clrK tb t x) := by
  unfold AX.clrK
  repeat (first | exact Good.ret _ | exact Good.fail | exact Good.lft _ | exact Good.rd _ | exact Good.rdM _ | exact Good.rdI _ | exact Good.updE _ _ | exact Good.upd _ _ | exact Good.newE _ | exact Good.findK _ _ _ _ _ | exact Good.mapOf _ | exact Good.zeroT _ _ | apply Good.cond | apply Good.bnd | intro _ | split)
theorem Good.slcW (v off cap sz lo hi : Nat) : Good (AX.slcW v off cap sz lo hi) := by
  unfold AX.slcW
  repeat (first | exact Good.ret _ | exact Good.fail | exact Good.lft _ | exact Good.rd _ | exact Good.rdM _ | exact Good.rdI _ | exact Good.updE _ _ | exact Good.upd _ _ | exact Good.newE _ | exact Good.findK _ _ _ _ _ | exact Good.mapOf _ | exact Good.zeroT _ _ | apply Good.cond | apply Good.bnd | intro _ | split)
set_option maxHeartbeats 1000000 in
theorem Good.simple (tb : Tab) (f : Operand → AV) (o : Op) : Good (AX.simple tb f o) := by
  cases o <;> simp only [AX.simple] <;>
    repeat (first | exact Good.ret _ | exact Good.fail | exact Good.lft _ | exact Good.rd _ | exact Good.new _ | exact Good.newE _ | exact Good.upd _ _ | exact Good.load _ _ _ | exact Good.store _ _ _ _ | exact Good.bin _ _ _ _ _ _ | exact Good.lookupK _ _ _ _ _ | exact Good.updK _ _ _ _ _ | exact Good.entK _ _ _ _ | exact Good.entStK _ _ _ | exact Good.rangeK _ _ _ | exact Good.nextK _ | exact Good.entryK _ | exact Good.slcW _ _ _ _ _ _ | apply Good.cond | apply Good.bnd | intro _ | split)
theorem Good.src (sz : Nat) (x : AV) : Good (AX.src sz x) := by
  unfold AX.src
  split <;> repeat (first | exact Good.ret _ | exact Good.fail | exact Good.lft _ | exact Good.rd _ | apply Good.cond | apply Good.bnd | intro _)
theorem Good.grow (e sz : Nat) (o d : Cells) (n : Nat) : Good (AX.grow e sz o d n) := by
  unfold AX.grow
  repeat (first | exact Good.ret _ | exact Good.new _ | apply Good.bnd | intro _)
theorem Good.appd (e sz b : Nat) (s : AV) (n : Nat) (d : Cells) : Good (AX.appd e sz b s n d) := by
  unfold AX.appd
  refine Good.cond Good.fail ?_
  split <;> repeat (first | exact Good.ret _ | exact Good.fail | exact Good.lft _ | exact Good.rd _ | exact Good.upd _ _ | exact Good.kill _ | exact Good.new _ | exact Good.grow _ _ _ _ _ | apply Good.cond | apply Good.bnd | intro _)
theorem Good.builtin (tb : Tab) (bi : Builtin) (ts : List Nat) (l : List AV) : Good (AX.builtin tb bi ts l) := by
  unfold AX.builtin
  split
  all_goals (try unfold lenK); (try unfold capK); (try unfold appK); (try unfold copyK); (try unfold dataK); (try unfold ustrK)
  all_goals repeat (first | exact Good.ret _ | exact Good.fail | exact Good.lft _ | exact Good.rd _ | exact Good.upd _ _ | exact Good.src _ _ | exact Good.appd _ _ _ _ _ _ | exact Good.mapOf _ | exact Good.clrK _ _ _ | exact Good.delK _ _ _ _ | apply Good.cond | apply Good.bnd | intro _ | split)
theorem Good.byQ (f : Nat → AV) (y : AV) : Good (AX.byQ f y) := by
  unfold AX.byQ
  repeat (first | exact Good.ret _ | exact Good.fail | apply Good.cond | intro _ | split)
theorem Good.x3 (x y : AV) : Good (AX.x3 x y) := by
  unfold AX.x3
  split
  · exact Good.byQ _ _
  · exact Good.fail
theorem Good.x4 (x y : AV) : Good (AX.x4 x y) := by
  unfold AX.x4
  split
  · exact Good.byQ _ _
  · exact Good.fail
theorem Good.nilQ (x : AV) : Good (AX.nilQ x) := by
  unfold AX.nilQ
  repeat (first | exact Good.ret _ | exact Good.fail | exact Good.lft _ | exact Good.rd _ | exact Good.new _ | exact Good.load _ _ _ | exact Good.store _ _ _ _ | apply Good.cond | apply Good.bnd | intro _ | split)
theorem Good.x14b (tb : Tab) (t : Nat) (x : AV) : Good (AX.x14b tb t x) := by
  unfold AX.x14b
  repeat (first | exact Good.ret _ | exact Good.fail | exact Good.lft _ | exact Good.rd _ | exact Good.new _ | exact Good.load _ _ _ | exact Good.store _ _ _ _ | apply Good.cond | apply Good.bnd | intro _ | split)
theorem Good.x7 (tb : Tab) (x : AV) : Good (AX.x7 tb x) := by
  unfold AX.x7
  repeat (first | exact Good.ret _ | exact Good.fail | exact Good.lft _ | exact Good.rd _ | exact Good.new _ | exact Good.load _ _ _ | exact Good.store _ _ _ _ | exact Good.nilQ _ | exact Good.x14b _ _ _ | apply Good.cond | apply Good.bnd | intro _ | split)
theorem Good.x8 (tb : Tab) (x : AV) : Good (AX.x8 tb x) := by
  unfold AX.x8
  repeat (first | exact Good.ret _ | exact Good.fail | exact Good.lft _ | exact Good.rd _ | exact Good.new _ | exact Good.load _ _ _ | exact Good.store _ _ _ _ | exact Good.nilQ _ | exact Good.x14b _ _ _ | apply Good.cond | apply Good.bnd | intro _ | split)
theorem Good.x9 (tb : Tab) (x : AV) : Good (AX.x9 tb x) := by
  unfold AX.x9
  repeat (first | exact Good.ret _ | exact Good.fail | exact Good.lft _ | exact Good.rd _ | exact Good.new _ | exact Good.load _ _ _ | exact Good.store _ _ _ _ | exact Good.nilQ _ | exact Good.x14b _ _ _ | apply Good.cond | apply Good.bnd | intro _ | split)
theorem Good.x10 (tb : Tab) (x : AV) : Good (AX.x10 tb x) := by
  unfold AX.x10
  repeat (first | exact Good.ret _ | exact Good.fail | exact Good.lft _ | exact Good.rd _ | exact Good.new _ | exact Good.load _ _ _ | exact Good.store _ _ _ _ | exact Good.nilQ _ | exact Good.x14b _ _ _ | apply Good.cond | apply Good.bnd | intro _ | split)
theorem Good.x11 (tb : Tab) (x : AV) : Good (AX.x11 tb x) := by
  unfold AX.x11
  repeat (first | exact Good.ret _ | exact Good.fail | exact Good.lft _ | exact Good.rd _ | exact Good.new _ | exact Good.load _ _ _ | exact Good.store _ _ _ _ | exact Good.nilQ _ | exact Good.x14b _ _ _ | apply Good.cond | apply Good.bnd | intro _ | split)
theorem Good.x12 (tb : Tab) (x y : AV) : Good (AX.x12 tb x y) := by
  unfold AX.x12
  repeat (first | exact Good.ret _ | exact Good.fail | exact Good.lft _ | exact Good.rd _ | exact Good.new _ | exact Good.load _ _ _ | exact Good.store _ _ _ _ | exact Good.nilQ _ | exact Good.x14b _ _ _ | apply Good.cond | apply Good.bnd | intro _ | split)
theorem Good.x13 (tb : Tab) (x y : AV) : Good (AX.x13 tb x y) := by
  unfold AX.x13
  repeat (first | exact Good.ret _ | exact Good.fail | exact Good.lft _ | exact Good.rd _ | exact Good.new _ | exact Good.load _ _ _ | exact Good.store _ _ _ _ | exact Good.nilQ _ | exact Good.x14b _ _ _ | apply Good.cond | apply Good.bnd | intro _ | split)
theorem Good.x14 (tb : Tab) (x : AV) : Good (AX.x14 tb x) := by
  unfold AX.x14
  repeat (first | exact Good.ret _ | exact Good.fail | exact Good.lft _ | exact Good.rd _ | exact Good.new _ | exact Good.load _ _ _ | exact Good.store _ _ _ _ | exact Good.nilQ _ | exact Good.x14b _ _ _ | apply Good.cond | apply Good.bnd | intro _ | split)
theorem Good.x15 (tb : Tab) (x y : AV) : Good (AX.x15 tb x y) := by
  unfold AX.x15
  repeat (first | exact Good.ret _ | exact Good.fail | exact Good.lft _ | exact Good.rd _ | exact Good.new _ | exact Good.load _ _ _ | exact Good.store _ _ _ _ | exact Good.nilQ _ | exact Good.x14b _ _ _ | apply Good.cond | apply Good.bnd | intro _ | split)
theorem Good.ext (tb : Tab) (e : Nat) (l : List AV) : Good (AX.ext tb e l) := by
  unfold AX.ext
  split
  all_goals (try unfold bytesN)
  all_goals repeat (first | exact Good.x3 _ _ | exact Good.x4 _ _ | exact Good.x7 _ _ | exact Good.x8 _ _ | exact Good.x9 _ _ | exact Good.x10 _ _ | exact Good.x11 _ _ | exact Good.x12 _ _ _ | exact Good.x13 _ _ _ | exact Good.x14 _ _ | exact Good.x15 _ _ _ | exact Good.ret _ | exact Good.fail | exact Good.lft _ | exact Good.rd _ | exact Good.new _ | apply Good.cond | apply Good.bnd | intro _ | split)
theorem Good.resList (tb : Tab) : ∀ l E, Good (AX.resList tb l E)
  | [], _ => Good.ret _
  | .tmp t :: l, E => by unfold AX.resList; exact Good.bnd (Good.resList tb l E) fun _ => Good.ret _
  | .cell a t :: l, E => by unfold AX.resList; exact Good.bnd (Good.load _ _ _) fun _ => Good.bnd (Good.resList tb l E) fun _ => Good.ret _
theorem Good.results (tb : Tab) (l : List ResultVar) (E : Env) : Good (AX.results tb l E) := by
  unfold AX.results
  split
  · exact Good.ret _
  · exact Good.load _ _ _
  · exact Good.bnd (Good.resList _ _ _) fun _ => Good.ret _
structure GoodF (tb : Tab) (f : Nat) : Prop where
  code : ∀ c E, Good (AX.code tb f c E)
  opsT : ∀ all r E, Good (AX.opsT tb f all r E)
  opsD : ∀ all r n E l, Good (AX.opsD tb f all r n E l)
  oper : ∀ o E, Good (AX.oper tb f o E)
  call : ∀ g l, Good (AX.call tb f g l)
  rnd : ∀ g l, Good (AX.rnd tb f g l)
theorem goodF (tb : Tab) : ∀ f, GoodF tb f
  | 0 => ⟨fun _ _ => by unfold AX.code; exact Good.fail, fun _ _ _ => by unfold AX.opsT; exact Good.fail, fun _ _ _ _ _ => by unfold AX.opsD; exact Good.fail, fun _ _ => by unfold AX.oper; exact Good.fail, fun _ _ => by unfold AX.call; exact Good.fail, fun _ _ => by unfold AX.rnd; exact Good.fail⟩
  | f + 1 => by
    have ih := goodF tb f
    refine ⟨fun c E => ?_, fun all r E => ?_, fun all r n E l => ?_, fun o E => ?_, fun g l => ?_, fun g l => ?_⟩
    · unfold AX.code
      split <;> repeat (first | exact ih.code _ _ | exact ih.opsT _ _ _ | exact ih.opsD _ _ _ _ _ | exact ih.call _ _ | exact Good.rdJ _ | exact Good.newE _ | exact Good.kill _ | exact Good.ret _ | exact Good.fail | exact Good.lft _ | apply Good.cond | apply Good.bnd | intro _ | split)
    · cases r with
      | nil => unfold AX.opsT; exact Good.ret _
      | cons o r =>
        unfold AX.opsT
        repeat (first | exact ih.oper _ _ | exact ih.opsT _ _ _ | exact Good.lft _ | apply Good.cond | apply Good.bnd | intro _)
    · cases r with
      | nil => unfold AX.opsD; exact Good.ret _
      | cons o r =>
        unfold AX.opsD
        repeat (first | exact Good.ownRun (ih.oper _ _) | exact ih.opsD _ _ _ _ _ | exact Good.lft _ | apply Good.cond | apply Good.bnd | intro _)
    · unfold AX.oper
      split
      · split
        · exact Good.builtin _ _ _ _
        · repeat (first | exact ih.call _ _ | exact ih.rnd _ _ | exact Good.fail | split)
        · repeat (first | exact ih.call _ _ | exact Good.fail | exact Good.lft _ | apply Good.bnd | intro _ | split)
      · exact Good.simple _ _ _
    · unfold AX.call
      repeat (first | exact Good.ext _ _ _ | exact Good.results _ _ _ | exact ih.code _ _ | exact Good.ret _ | exact Good.fail | exact Good.lft _ | apply Good.cond | apply Good.bnd | intro _ | split)
    · unfold AX.rnd
      repeat (first | exact ih.code _ _ | exact Good.rdJ _ | exact Good.updE _ _ | exact Good.ret _ | exact Good.fail | exact Good.lft _ | apply Good.cond | apply Good.bnd | intro _ | split)
end Go.AX
end
section
set_option linter.unusedSimpArgs false
set_option linter.unusedVariables false
namespace Go.AX
def EnvOk (C : Cx) (ρ : Rho) (E : Env) (a : Act) : Prop :=
  a.tmps.size = E.nt ∧ E.nt ≤ 16777213 ∧ ∀ t x, E.tm.get t = some x → Rel C ρ x (a.tmps.getD t undef)
theorem EnvOk.mono {C : Cx} {ρ ρ' : Rho} {E : Env} {a : Act} (h : EnvOk C ρ E a) (hs : Sub ρ ρ') : EnvOk C ρ' E a :=
  ⟨h.1, h.2.1, fun t x ht => Rel.mono hs x _ (h.2.2 t x ht)⟩
theorem put_tmps (a : Act) (d : Option Tmp) (v : Value) : (a.put d v).defers = a.defers := by cases d <;> rfl
theorem EnvOk.put {C : Cx} {ρ : Rho} {E E' : Env} {a : Act} {d : Option Tmp} {x : AV} {v : Value} (h : EnvOk C ρ E a) (hp : E.put d x = some E') (hx : Rel C ρ x v) : EnvOk C ρ E' (a.put d v) := by
  cases d with
  | none => simp only [Env.put_none, Option.some.injEq] at hp; subst hp; exact h
  | some d =>
    rw [Env.put_some] at hp
    cases hc : Nat.blt d E.nt with
    | false => rw [hc] at hp; cases hp
    | true =>
      rw [hc] at hp
      simp only [cond_true, Option.some.injEq] at hp
      subst hp
      have hlt : Nat.lt d E.nt := Nat.le_of_ble_eq_true hc
      obtain ⟨h1, h2, h3⟩ := h
      have hd : Nat.le d 16777213 := Nat.le_trans (Nat.le_of_lt hlt) h2
      refine ⟨by simp [Act.put, h1], h2, fun t y ht => ?_⟩
      simp only [] at ht
      rw [get_set _ _ _ _ hd] at ht
      simp only [Act.put]
      by_cases e : t = d
      · subst e
        rw [if_pos rfl] at ht; injection ht with ht; subst ht
        have hlt' : t < a.tmps.size := by rw [h1]; exact hlt
        simpa [Array.getD, hlt'] using hx
      · rw [if_neg e] at ht
        have := h3 t y ht
        simpa [Array.getD_eq_getD_getElem?, Array.getElem?_setIfInBounds_ne (Ne.symm e)] using this
theorem op_ok {C : Cx} {tb : Tab} {ρ : Rho} {B : Nat} {H : T Ent} {w : World} {E : Env} {a : Act} (hF : Fits C tb.ng B ρ H w) (h : EnvOk C ρ E a) (x : Operand) : Rel C ρ (op tb.ng E.tm x) (a.eval x) := by
  cases x with
  | tmp t =>
    simp only [op, Act.eval]
    cases hg : E.tm.get t with
    | none => simp [Rel]
    | some v => exact h.2.2 t v hg
  | const v => exact ofV_ok C ρ v
  | global g =>
    simp only [op, Act.eval]
    cases hc : Nat.blt g tb.ng with
    | false => simp [Rel]
    | true =>
      simp only [cond_true, Rel]
      exact ⟨_, hF.glob g (Nat.le_of_ble_eq_true hc), rfl⟩
  | func f => simp only [op, Act.eval, Rel, RelL]; exact ⟨[], [], rfl, rfl, rfl⟩
theorem wanted_ok {C : Cx} {ρ : Rho} {ops : Array Oper} {E : Env} {a : Act} {o : Oper} {b : Bool} (h : EnvOk C ρ E a) (hw : wanted ops.toList E o = some b) : Region.wanted o (yielded ops a.tmps) = b := by
  unfold wanted at hw
  unfold Region.wanted
  cases hg : o.guard with
  | none => rw [hg] at hw; simp only [Option.some.injEq] at hw; simpa using hw
  | some p =>
    obtain ⟨j, want⟩ := p
    rw [hg] at hw
    simp only [] at hw ⊢
    have hj : ops.toList[j]? = ops[j]? := by simp
    rw [hj] at hw
    unfold yielded
    cases ho : ops[j]? with
    | none => rw [ho] at hw; cases hw; rfl
    | some o' =>
      rw [ho] at hw
      simp only [Option.bind_some] at hw ⊢
      cases hd : o'.dst with
      | none => rw [hd] at hw; simp only [Option.some.injEq] at hw; subst hw; simp
      | some d =>
        rw [hd] at hw
        simp only [Option.bind_some] at hw ⊢
        cases hv : E.tm.get d with
        | none => rw [hv] at hw; cases hw
        | some x =>
          rw [hv] at hw
          have hr := h.2.2 d x hv
          have hget : a.tmps.getD d undef = (a.tmps[d]?).getD undef := by simp [Array.getD_eq_getD_getElem?]
          rw [hget] at hr
          have notb : ∀ {y : AV}, (∀ v, Rel C ρ y v → ∀ q, v ≠ .bool q) → x = y → some false = some b → ((match a.tmps[d]? with | some (.bool q) => some q | _ => none) == some want) = b := by
            intro y hy e hb
            subst e
            injection hb with hb; subst hb
            have := hy _ hr
            cases ht : a.tmps[d]? with
            | none => rfl
            | some u =>
              rw [ht] at this
              cases u <;> first | rfl | exact absurd rfl (this _)
          cases x with
          | und => cases hw
          | b q =>
            simp only [Option.some.injEq] at hw
            simp only [Rel] at hr
            cases ht : a.tmps[d]? with
            | none => rw [ht] at hr; simp [undef] at hr
            | some u =>
              rw [ht] at hr
              simp only [Option.getD_some] at hr
              subst hr
              rw [← hw]; rfl
          | sl b' o'' n c r => exact notb (fun v hv q e => by subst e; cases r <;> simp [Rel] at hv) rfl hw
          | x id => cases hw
          | _ => exact notb (fun v hv q e => by subst e; simp [Rel, typeHandle] at hv) rfl hw
end Go.AX
end
section
set_option linter.unusedSimpArgs false
set_option linter.unusedVariables false
namespace Go.AX
/- one operation, given what a call answers -/
noncomputable def operF (tb : Tab) (cal rn : Nat → List AV → M AV) (o : Oper) (φ : Operand → AV) : M AV := match o.op with
  | .call c => match c.callee with
    | .builtin b => builtin tb b c.argTypes.toList (c.args.toList.map φ)
    | .value g => match φ g with
      | .fn g first cap => cal g (first ++ c.args.toList.map φ ++ cap)
      | .yl n => rn n (c.args.toList.map φ)
      | _ => fail
    | .invoke r m => match φ r with
      | .ifc t v => bnd (lft (methd tb.met t m)) fun g => bnd (lft (recv g.2 v)) fun v => cal g.1 (v :: c.args.toList.map φ)
      | _ => fail
  | x => simple tb φ x
theorem oper_eq (tb : Tab) (f : Nat) (o : Oper) (E : Env) : oper tb (f + 1) o E = operF tb (call tb f) (rnd tb f) o (op tb.ng E.tm) := by
  unfold oper operF
  cases o.op <;> rfl
theorem fillC_congr {spec : Nat → Option (Nat × Nat)} {φ ψ : Operand → AV} : ∀ (ps : List (Nat × Operand)) (l : List AV), (∀ x ∈ ps.map (·.2), φ x = ψ x) → fillC spec φ l ps = fillC spec ψ l ps
  | [], _, _ => by simp only [fillC]
  | (i, x) :: ps, l, h => by
    have hx : φ x = ψ x := h x (by simp)
    have ih := fun l => fillC_congr (spec := spec) ps l (fun y hy => h y (by simp only [List.map_cons, List.mem_cons]; exact .inr hy))
    simp only [fillC, hx, ih]
theorem asNo_congr {φ ψ : Operand → AV} (o : Option Operand) (d : Nat) (h : ∀ x, o = some x → φ x = ψ x) : asNo φ o d = asNo ψ o d := by
  cases o with
  | none => rfl
  | some x => simp only [asNo, h x rfl]
theorem sl2_congr {φ ψ : Operand → AV} (lo hi : Option Operand) (n : Nat) (h : ∀ x, lo = some x → φ x = ψ x) (h' : ∀ x, hi = some x → φ x = ψ x) : sl2 φ lo hi n = sl2 ψ lo hi n := by
  unfold sl2
  rw [asNo_congr lo _ h, asNo_congr hi _ h']
theorem simple_congr (tb : Tab) {φ ψ : Operand → AV} (o : Op) (h : ∀ x ∈ o.operands.toList, φ x = ψ x) : simple tb φ o = simple tb ψ o := by
  cases o <;> simp only [Op.operands] at h <;> simp only [simple]
  case build t ps =>
    have := fun spec l => fillC_congr (spec := spec) (φ := φ) (ψ := ψ) ps.toList l (fun x hx => h x (by simpa using hx))
    simp only [this]
  case buildSlice t n ps =>
    have := fun spec l => fillC_congr (spec := spec) (φ := φ) (ψ := ψ) ps.toList l (fun x hx => h x (by simpa using hx))
    simp only [this]
  case makeFunc fn first cap =>
    have h1 : first.toList.map φ = first.toList.map ψ := List.map_congr_left fun x hx => h x (by simp; exact .inl (by simpa using hx))
    have h2 : cap.toList.map φ = cap.toList.map ψ := List.map_congr_left fun x hx => h x (by simp; exact .inr (by simpa using hx))
    rw [h1, h2]
  case slice t x lo hi mx =>
    have hx : φ x = ψ x := h x (by simp)
    have hs := fun n => sl2_congr (φ := φ) (ψ := ψ) lo hi n (fun y hy => h y (by subst hy; simp)) (fun y hy => h y (by subst hy; simp))
    cases mx with
    | none => simp only [hx, hs]
    | some m =>
      have hm : φ m = ψ m := h m (by simp)
      simp only [hx, hs, hm]
  case makeMap t r =>
    cases r with
    | none => rfl
    | some q => have hq : φ q = ψ q := h q (by simp); simp only [hq]
  all_goals first | rfl | (simp only [List.mem_cons, List.not_mem_nil, or_false, forall_eq_or_imp, forall_eq] at h; simp only [h]; done) | (obtain ⟨h1, h2⟩ := h; simp only [h1, h2]; done) | (obtain ⟨h1, h2, h3⟩ := h; simp only [h1, h2, h3]; done) | (simp at h; simp [h]; done)
theorem operF_congr (tb : Tab) (cal rn : Nat → List AV → M AV) (o : Oper) {φ ψ : Operand → AV} (h : ∀ x ∈ o.op.operands.toList, φ x = ψ x) : operF tb cal rn o φ = operF tb cal rn o ψ := by
  unfold operF
  cases ho : o.op
  case call c =>
    rw [ho] at h
    simp only [Op.operands, Call.operands] at h
    have h1 : c.args.toList.map φ = c.args.toList.map ψ := List.map_congr_left fun x hx => h x (by simp; exact .inr (by simpa using hx))
    simp only [h1]
    cases hc : c.callee with
    | builtin b => rfl
    | value g => have hg : φ g = ψ g := h g (by simp [hc]); simp only [hg]
    | invoke r m => have hg : φ r = ψ r := h r (by simp [hc]); simp only [hg]
  all_goals (rw [ho] at h; exact simple_congr tb _ h)
/- the last writer -/
def lw {α : Type} (D wr : Nat → Bool) (X : Nat → α) : Nat → α
  | 0 => X 0
  | k + 1 => cond (D k && wr k) (X (k + 1)) (lw D wr X k)
theorem lwLo {α : Type} {D wr : Nat → Bool} {X : Nat → α} : ∀ i, (∀ k, k < i → wr k = false → X (k + 1) = X k) → (∀ j, j < i → wr j = true → D j = true) → lw D wr X i = X i
  | 0, _, _ => rfl
  | i + 1, hk, h => by
    have ih := lwLo i (fun k hk' => hk k (by omega)) (fun j hj => h j (by omega))
    unfold lw
    cases hw : wr i with
    | true => rw [h i (by omega) hw]; rfl
    | false => rw [Bool.and_false, cond_false, ih, hk i (by omega) hw]
theorem lwHi {α : Type} {D wr : Nat → Bool} {X : Nat → α} (i : Nat) : ∀ n, (∀ j, i ≤ j → j < i + n → D j = true → wr j = false) → lw D wr X (i + n) = lw D wr X i
  | 0, _ => rfl
  | n + 1, h => by
    have ih := lwHi (X := X) i n (fun j h1 h2 => h j h1 (by omega))
    show cond (D (i + n) && wr (i + n)) (X (i + n + 1)) (lw D wr X (i + n)) = _
    cases hD : D (i + n) with
    | false => rw [Bool.false_and, cond_false, ih]
    | true => rw [h (i + n) (by omega) (by omega) hD, Bool.and_false, cond_false, ih]
theorem lwC {α : Type} {D D' wr : Nat → Bool} {X : Nat → α} : ∀ n, (∀ k, k < n → (D' k && wr k) = (D k && wr k)) → lw D' wr X n = lw D wr X n
  | 0, _ => rfl
  | n + 1, h => by
    unfold lw
    rw [h n (by omega), lwC n fun k hk => h k (by omega)]
def add1 (D : Nat → Bool) (i : Nat) : Nat → Bool := fun k => Nat.beq k i || D k
/-- at the place of i: what i finds there -/
theorem lw_find {α : Type} {D wr : Nat → Bool} {X : Nat → α} {i N : Nat} (hi : i < N) (hk : ∀ k, k < N → wr k = false → X (k + 1) = X k)
    (h1 : ∀ j, j < i → wr j = true → D j = true) (h2 : ∀ j, i < j → j < N → D j = true → wr j = false) (h3 : D i = false) : lw D wr X N = X i := by
  have e : N = i + (N - i) := by omega
  have hh : ∀ j, i ≤ j → j < i + (N - i) → D j = true → wr j = false := fun j a b c => by
    rcases Nat.lt_or_ge i j with h | h
    · exact h2 j h (by omega) c
    · have e : j = i := by omega
      rw [e, h3] at c; cases c
  rw [e, lwHi i (N - i) hh]
  exact lwLo i (fun k hk' => hk k (by omega)) h1
theorem lw_wrote {α : Type} {D wr : Nat → Bool} {X : Nat → α} {i N : Nat} (hi : i < N)
    (h2 : ∀ j, i < j → j < N → D j = true → wr j = false) (hw : wr i = true) : lw (add1 D i) wr X N = X (i + 1) := by
  have e : N = (i + 1) + (N - (i + 1)) := by omega
  rw [e, lwHi (i + 1) _ fun j a b c => by
    refine h2 j (by omega) (by omega) ?_
    unfold add1 at c
    rw [Bool.or_eq_true] at c
    rcases c with c | c
    · have := Nat.eq_of_beq_eq_true c; omega
    · exact c]
  unfold lw
  have : add1 D i i = true := by unfold add1; rw [Bool.or_eq_true]; exact .inl (Nat.beq_refl i)
  rw [this, hw]; rfl
theorem lw_left {α : Type} {D wr : Nat → Bool} {X : Nat → α} {i N : Nat} (hw : wr i = false) : lw (add1 D i) wr X N = lw D wr X N :=
  lwC N fun k _ => by
    unfold add1
    cases hb : Nat.beq k i with
    | false => rw [Bool.false_or]
    | true => have := Nat.eq_of_beq_eq_true hb; subst this; rw [hw, Bool.and_false, Bool.and_false]
theorem lw_all {α : Type} {D wr : Nat → Bool} {X : Nat → α} {N : Nat} (hk : ∀ k, k < N → wr k = false → X (k + 1) = X k) (h : ∀ j, j < N → D j = true) : lw D wr X N = X N :=
  lwLo N hk fun j hj _ => h j hj
theorem lw_none {α : Type} {D wr : Nat → Bool} {X : Nat → α} : ∀ N, (∀ j, j < N → D j = false) → lw D wr X N = X 0
  | 0, _ => rfl
  | n + 1, h => by unfold lw; rw [h n (by omega), Bool.false_and, cond_false]; exact lw_none n fun j hj => h j (by omega)
/- how many are left -/
def left (D : Nat → Bool) : Nat → Nat
  | 0 => 0
  | k + 1 => left D k + cond (D k) 0 1
theorem left_add {D : Nat → Bool} {i : Nat} (hi : D i = false) : ∀ n, left (add1 D i) n + (if i < n then 1 else 0) = left D n
  | 0 => by simp [left]
  | n + 1 => by
    have ih := left_add hi n
    unfold left
    by_cases e : n = i
    · subst e
      have : add1 D n n = true := by unfold add1; rw [Bool.or_eq_true]; exact .inl (Nat.beq_refl n)
      rw [this, hi, cond_true, cond_false]
      rw [if_neg (by omega)] at ih
      rw [if_pos (by omega)]; omega
    · have : add1 D i n = D n := by
        unfold add1
        cases hb : Nat.beq n i with
        | false => rfl
        | true => exact absurd (Nat.eq_of_beq_eq_true hb) e
      rw [this]
      by_cases h : i < n
      · rw [if_pos h] at ih; rw [if_pos (by omega)]; omega
      · rw [if_neg h] at ih; rw [if_neg (by omega)]; omega
theorem left_zero {D : Nat → Bool} : ∀ n, left D n = 0 → ∀ j, j < n → D j = true
  | 0, _, j, hj => by omega
  | n + 1, h, j, hj => by
    unfold left at h
    cases hD : D n with
    | false => rw [hD, cond_false] at h; omega
    | true =>
      rcases Nat.lt_or_ge j n with hlt | hge
      · exact left_zero n (by omega) j hlt
      · have : j = n := by omega
        subst this; exact hD
/- what stands ahead of what -/
inductive Anc (ops : List Oper) : Nat → Nat → Prop
  | edge {i : Nat} {o : Oper} {e : Edge} : ops[i]? = some o → e ∈ o.after.toList → bindsL e = true → Anc ops e.on i
  | step {i j : Nat} {o : Oper} {e : Edge} : Anc ops j e.on → ops[i]? = some o → e ∈ o.after.toList → bindsL e = true → Anc ops j i
theorem Anc.closed {ops : List Oper} {D : Nat → Bool} (hD : ∀ i o e, D i = true → ops[i]? = some o → e ∈ o.after.toList → bindsL e = true → D e.on = true) : ∀ {j i}, Anc ops j i → D i = true → D j = true
  | _, _, .edge ho he hb, h => hD _ _ _ h ho he hb
  | _, _, .step ha ho he hb, h => Anc.closed hD ha (hD _ _ _ h ho he hb)
theorem Anc.ready {ops : List Oper} {D : Nat → Bool} (hD : ∀ i o e, D i = true → ops[i]? = some o → e ∈ o.after.toList → bindsL e = true → D e.on = true) {i : Nat}
    (hi : ∀ o e, ops[i]? = some o → e ∈ o.after.toList → bindsL e = true → D e.on = true) {j : Nat} (h : Anc ops j i) : D j = true := by
  cases h with
  | edge ho he hb => exact hi _ _ ho he hb
  | step ha ho he hb => exact ha.closed hD (hi _ _ ho he hb)
def MaskOk (ops : List Oper) (t : T Nat) : Prop := ∀ i j, (maskOf t i).testBit j = true → Anc ops j i
theorem ancE_ok {ops : List Oper} {t : T Nat} (ht : MaskOk ops t) {i : Nat} {o : Oper} (ho : ops[i]? = some o) : ∀ (l : List Edge) (s : Nat), (∀ e ∈ l, e ∈ o.after.toList) → (∀ j, s.testBit j = true → Anc ops j i) → ∀ j, (ancE t l s).testBit j = true → Anc ops j i
  | [], s, _, h, j, hj => h j (by simpa only [ancE] using hj)
  | e :: l, s, hl, h, j, hj => by
    unfold ancE at hj
    refine ancE_ok ht ho l _ (fun x hx => hl x (List.mem_cons_of_mem _ hx)) (fun k hk => ?_) j hj
    cases hb : bindsL e with
    | false => rw [hb, cond_false] at hk; exact h k hk
    | true =>
      rw [hb, cond_true, tb_lor, tb_lor, tb_bit, Bool.or_eq_true, Bool.or_eq_true] at hk
      have he := hl e (List.mem_cons_self ..)
      rcases hk with (hk | hk) | hk
      · exact h k hk
      · have : e.on = k := by simpa using hk
        subst this; exact .edge ho he hb
      · exact .step (ht _ _ hk) ho he hb
theorem anc_ok {ops : List Oper} : ∀ (r : List Oper) (i : Nat) (t : T Nat), (∀ k o, r[k]? = some o → ops[i + k]? = some o) → i + r.length ≤ 16777214 → MaskOk ops t → MaskOk ops (anc r i t)
  | [], _, _, _, _, ht => by simpa only [anc] using ht
  | o :: r, i, t, hr, hle, ht => by
    unfold anc
    have ho : ops[i]? = some o := by simpa using hr 0 o rfl
    refine anc_ok r (Nat.succ i) _ (fun k x hk => ?_) (by simp at hle; simp only [Nat.succ_eq_add_one]; omega) (fun a j hj => ?_)
    · have := hr (k + 1) x (by simpa using hk)
      rw [show Nat.succ i + k = i + (k + 1) by omega]; exact this
    · unfold maskOf at hj
      rw [get_set _ _ _ _ (by simp at hle; omega)] at hj
      split at hj
      · rename_i m hm
        split at hm
        · rename_i e; subst e; injection hm with hm; subst hm
          exact ancE_ok ht ho _ _ (fun _ h => h) (fun j h => by simp at h) j hj
        · exact ht a j (by unfold maskOf; rw [hm]; exact hj)
      · simp at hj
theorem pairsOk_ok {all : List Oper} {m : Nat} {o : Oper} : ∀ (l : List Oper) (j n : Nat), pairsOk all m o l j n = true → ∀ k x, k < n → l[k]? = some x → m.testBit (j + k) = true ∨ apartO all x o = true
  | _, _, 0, _, k, x, hk, _ => by omega
  | [], _, _ + 1, _, k, x, _, hx => by simp at hx
  | y :: l, j, n + 1, h, k, x, hk, hx => by
    unfold pairsOk at h
    rw [Bool.and_eq_true, Bool.or_eq_true] at h
    cases k with
    | zero => simp at hx; subst hx; exact h.1
    | succ k =>
      have := pairsOk_ok l (Nat.succ j) n h.2 k x (by omega) (by simpa using hx)
      rw [show j + (k + 1) = Nat.succ j + k by omega]; exact this
theorem regRow_ok {all : List Oper} {t : T Nat} : ∀ (r : List Oper) (i : Nat), regRow all t r i = true → ∀ k o, r[k]? = some o → (∀ e ∈ o.after.toList, bindsL e = true → e.on < i + k) ∧ pairsOk all (maskOf t (i + k)) o all 0 (i + k) = true
  | [], _, _, k, o, ho => by simp at ho
  | y :: r, i, h, k, o, ho => by
    unfold regRow at h
    rw [Bool.and_eq_true, Bool.and_eq_true] at h
    cases k with
    | zero =>
      simp at ho; subst ho
      refine ⟨fun e he hb => ?_, h.1.2⟩
      have := List.all_eq_true.1 h.1.1 e he
      rw [hb] at this
      simp at this
      omega
    | succ k =>
      have := regRow_ok r (Nat.succ i) h.2 k o (by simpa using ho)
      rw [show i + (k + 1) = Nat.succ i + k by omega]; exact this
theorem regOk_ok {ops : List Oper} (h : regOk ops = true) : ∀ i o, ops[i]? = some o → (∀ e ∈ o.after.toList, bindsL e = true → e.on < i) ∧ ∀ j x, j < i → ops[j]? = some x → Anc ops j i ∨ apartO ops x o = true := by
  unfold regOk at h
  rw [Bool.and_eq_true] at h
  have hle := Nat.le_of_ble_eq_true h.1
  have hm : MaskOk ops (anc ops 0 .leaf) := anc_ok ops 0 .leaf (fun k o hk => by rw [Nat.zero_add]; exact hk) (by omega) (fun i j hj => by simp [maskOf, T.get] at hj)
  intro i o ho
  obtain ⟨h1, h2⟩ := regRow_ok ops 0 h.2 i o ho
  rw [Nat.zero_add] at h1 h2
  refine ⟨h1, fun j x hj hx => ?_⟩
  have := pairsOk_ok ops 0 i h2 j x hj hx
  rw [Nat.zero_add] at this
  exact this.imp (hm _ _) id
theorem tmpsOf_mem {t : Nat} : ∀ l : List Operand, Operand.tmp t ∈ l → hasN (tmpsOf l) t = true
  | [], h => by simp at h
  | x :: l, h => by
    rcases List.mem_cons.1 h with h | h
    · subst h; simp only [tmpsOf, hasN, Nat.beq_refl, Bool.true_or]
    · have ih := tmpsOf_mem l h
      cases x <;> simp only [tmpsOf, hasN] <;> first | exact ih | (rw [Bool.or_eq_true]; exact .inr ih)
theorem looks_op {all : List Oper} {o : Oper} {t : Nat} (h : Operand.tmp t ∈ o.op.operands.toList) : hasN (looks all o) t = true := by
  have := tmpsOf_mem _ h
  unfold looks
  split
  · exact this
  · split
    · split
      · simp only [hasN]; rw [Bool.or_eq_true]; exact .inr this
      · exact this
    · exact this
theorem looks_guard {all : List Oper} {o o' : Oper} {g : Nat} {b : Bool} {d : Nat} (hg : o.guard = some (g, b)) (ho : all[g]? = some o') (hd : o'.dst = some d) : hasN (looks all o) d = true := by
  unfold looks
  rw [hg]; simp only [ho, hd, hasN, Nat.beq_refl, Bool.true_or]
theorem apartO_ok {all : List Oper} {x y : Oper} (h : apartO all x y = true) : (∀ d, x.dst = some d → hasN (looks all y) d = false) ∧ (∀ d, x.dst = some d → y.dst ≠ some d) ∧ (∀ d, y.dst = some d → hasN (looks all x) d = false) := by
  unfold apartO at h
  rw [Bool.and_eq_true] at h
  refine ⟨fun d hd => ?_, fun d hd he => ?_, fun d hd => ?_⟩
  · have := h.1; rw [hd] at this; simp only [Bool.and_eq_true] at this
    simpa using this.1
  · have := h.1; rw [hd, he] at this; simp only [Bool.and_eq_true, Nat.beq_refl] at this
    simp at this
  · have := h.2; rw [hd] at this; simpa using this
end Go.AX
end
section
set_option linter.unusedSimpArgs false
set_option linter.unusedVariables false
namespace Go.AX
/-- the fences that let all through: outside of rounds, in a round -/
def Wide (Φ : Fence) : Prop := Φ = Fence.wide ∨ ∃ l, Φ = Fence.wide.inRound l
theorem Wide.fn {Φ : Fence} (h : Wide Φ) (f : FuncId) : Φ.fn f := by
  rcases h with rfl | ⟨l, rfl⟩ <;> exact trivial
theorem Wide.room {Φ : Fence} (h : Wide Φ) : Φ.depth.isSome = true → 1 ≤ 0 := by
  rcases h with rfl | ⟨l, rfl⟩ <;> intro e <;> cases e
theorem Wide.deep {Φ : Fence} (h : Wide Φ) (n : Nat) : Φ.depth.isSome = true → 1 ≤ n := by
  rcases h with rfl | ⟨l, rfl⟩ <;> intro e <;> cases e
theorem Wide.calls {Φ : Fence} (h : Wide Φ) {n : Nat} {P : Program} {f : FuncId} {args : Array Value} {w : World} {R : Ending → World → Prop} (hc : Calls P f args w R) : CallsIn Φ n P f args w R := by
  rcases h with rfl | ⟨l, rfl⟩
  · exact callsIn_wide.2 hc
  · exact (show CallsIn Fence.wide n P f args w R from callsIn_wide.2 hc)
theorem Wide.out {Φ : Fence} (h : Wide Φ) {n : Nat} {P : Program} {f : FuncId} {args : Array Value} {w : World} {R : Ending → World → Prop} (hc : CallsIn Fence.wide n P f args w R) : CallsIn Φ n P f args w R := by
  rcases h with rfl | ⟨l, rfl⟩ <;> exact hc
theorem wide_wide : Wide Fence.wide := .inl rfl
/-- what a call answers is what the program's answers -/
def CallOk (C : Cx) (tb : Tab) (B : Nat) (cal : Nat → List AV → M AV) : Prop :=
  ∀ (g : Nat) (l : List AV) (S : St) (v : AV) (S' : St) (ρ : Rho) (w : World) (args : List Value) (o : Oper) (a : Act) (next : Act → World → Prop) (Q : Exit → Act → World → Prop) (Φ : Fence) (ν : Nat), Wide Φ →
    cal g l S = some (v, S') → Fits C tb.ng B ρ S.heap w → tb.ng ≤ S.next → RelL C ρ l args → Free ρ S.next S'.next →
    (∀ ρ' x w', Rel C ρ' v x → Fits C tb.ng B ρ' S'.heap w' → Ext ρ ρ' S.next S'.next → Below B w w' → next (a.put o.dst x) w') →
    o.uponIn Φ ν C.P a next Q ((callFunc g ⟨args⟩).run C.P w)
/-- what a round answers is what the program's answers -/
def RndOk (C : Cx) (tb : Tab) (B : Nat) (rn : Nat → List AV → M AV) : Prop :=
  ∀ (n : Nat) (l : List AV) (S : St) (v : AV) (S' : St) (ρ : Rho) (w : World) (args : List Value) (o : Oper) (a : Act) (next : Act → World → Prop) (Q : Exit → Act → World → Prop) (Φ : Fence) (ν : Nat) (r : R), Wide Φ →
    rn n l S = some (v, S') → Fits C tb.ng B ρ S.heap w → tb.ng ≤ S.next → RelL C ρ l args → ρ n = some r → Free ρ S.next S'.next →
    (∀ ρ' x w', Rel C ρ' v x → Fits C tb.ng B ρ' S'.heap w' → Ext ρ ρ' S.next S'.next → Below B w w' → next (a.put o.dst x) w') →
    o.uponIn Φ ν C.P a next Q ((Instr.yield r.blk ⟨args⟩).run C.P w)
def CROk (C : Cx) (tb : Tab) (B : Nat) (cal rn : Nat → List AV → M AV) : Prop := CallOk C tb B cal ∧ RndOk C tb B rn
def MetOk (C : Cx) (tb : Tab) : Prop := ∀ t m g d (v : AV) (u : AV) (ρ : Rho) (x : Value) (w : World), methd tb.met t m = some (g, d) → recv d v = some u → Rel C ρ v x →
  ∃ y, (method (C.P.types.size + Made.depth) t x m).run C.P w = .ok (g, y) w ∧ Rel C ρ u y
theorem operF_ok {C : Cx} {tb : Tab} {B : Nat} {ρ : Rho} {w : World} {S S' : St} {cal rn : Nat → List AV → M AV} (hc : CROk C tb B cal rn) (ht : TabOk C tb) (hm : MetOk C tb)
    {o : Oper} {φ : Operand → AV} {a : Act} {v : AV} {next : Act → World → Prop} {Q : Exit → Act → World → Prop} (h : operF tb cal rn o φ S = some (v, S')) (hF : Fits C tb.ng B ρ S.heap w) (hng : tb.ng ≤ S.next)
    (hf : ∀ x ∈ o.op.operands.toList, Rel C ρ (φ x) (a.eval x)) (hfree : Free ρ S.next S'.next)
    (hk : ∀ ρ' x w', Rel C ρ' v x → Fits C tb.ng B ρ' S'.heap w' → Ext ρ ρ' S.next S'.next → Below B w w' → next (a.put o.dst x) w') {Φ : Fence} {ν : Nat} (hΦ : Wide Φ) : o.wpIn Φ ν C.P a w next Q := by
  classical
  have hcg : operF tb cal rn o φ = operF tb cal rn o (fun x => if x ∈ o.op.operands.toList then φ x else .und) := operF_congr tb cal rn o fun x hx => by rw [if_pos hx]
  rw [hcg] at h
  have hf' : ∀ x, Rel C ρ ((fun x => if x ∈ o.op.operands.toList then φ x else .und) x) (a.eval x) := fun x => by
    show Rel C ρ (if x ∈ o.op.operands.toList then φ x else .und) (a.eval x)
    split
    · rename_i hx; exact hf x hx
    · simp [Rel]
  generalize (fun x => if x ∈ o.op.operands.toList then φ x else .und) = ψ at h hf'
  have fin : ∀ {r : Result Next}, SOut C tb.ng B ρ w S S' v r → o.uponIn Φ ν C.P a next Q r := by
    rintro r ⟨ρ', x, w', h1 | ⟨h1, rfl⟩, h2, h3, h4, h5⟩
    · rw [h1]; exact hk ρ' x w' h2 h3 h4 h5
    · rw [h1]; exact hk ρ' undef w' h2 h3 h4 h5
  have hnd : ∀ c, o.op ≠ .defer c := fun c e => by
    unfold operF at h; rw [e] at h; exact (fail_inv (show AX.fail S = some (v, S') from h)).elim
  refine ⟨fun f _ => hΦ.fn f, ?_⟩
  rw [Oper.semAt_eq _ _ _ hnd]
  by_cases hcall : ∃ c, o.op = .call c
  · obtain ⟨c, ho⟩ := hcall
    unfold operF at h
    rw [ho] at h
    simp only [] at h
    cases hcb : c.callee <;> rw [hcb] at h <;> simp only [] at h
    case builtin b => exact fin (s_builtin ht hF hng hf' ho hcb h hfree)
    case value g =>
      have hcg' := hcb
      have hg := hf' g
      generalize hψ : ψ g = pg at h hg
      cases pg <;> try exact (fail_inv h).elim
      case yl n =>
        simp only [Rel] at hg
        obtain ⟨r, hr, hg⟩ := hg
        have hrun : (execOp a.eval o).run C.P w = (Instr.yield r.blk ⟨c.args.toList.map a.eval⟩).run C.P w := by
          have e1 : #[] ++ c.args.map a.eval = (⟨c.args.toList.map a.eval⟩ : Array Value) := by
            apply Array.toList_inj.1; simp
          simp only [execOp, ho, resolve, hcg', hg, Deferred.ofValue]
          rw [Sem.run_bind]
          simp only [Sem.run_pure, Result.andThen_ok, invoke]
          rw [e1]
        rw [hrun]
        exact hc.2 _ _ _ _ _ _ _ _ o a next Q Φ ν r hΦ h hF hng (args_rel hf' c.args.toList) hr hfree hk
      rename_i g' first cap
      simp only [Rel] at hg
      obtain ⟨as, cs, hg, h1, h2⟩ := hg
      have hrun : (execOp a.eval o).run C.P w = (callFunc g' ⟨as ++ c.args.toList.map a.eval ++ cs⟩).run C.P w := by
        have e1 : (⟨as⟩ : Array Value) ++ c.args.map a.eval ++ ⟨cs⟩ = ⟨as ++ c.args.toList.map a.eval ++ cs⟩ := by
          apply Array.toList_inj.1; simp
        simp only [execOp, ho, resolve, hcg', hg, Deferred.ofValue]
        rw [Sem.run_bind]
        simp only [Sem.run_pure, Result.andThen_ok, invoke]
        rw [e1]
      rw [hrun]
      exact hc.1 _ _ _ _ _ _ _ _ o a next Q Φ ν hΦ h hF hng ((h1.app (args_rel hf' c.args.toList)).app h2) hfree hk
    case invoke r m =>
      have hcr := hcb
      have hr := hf' r
      generalize hψ : ψ r = pr at h hr
      cases pr <;> try exact (fail_inv h).elim
      rename_i t u
      simp only [Rel] at hr
      obtain ⟨x, hr, h1⟩ := hr
      obtain ⟨g, e1, h2⟩ := lb h
      obtain ⟨u', e2, h3⟩ := lb h2
      obtain ⟨g1, g2⟩ := g
      obtain ⟨y, hmeth, hy⟩ := hm t m g1 g2 u u' ρ x w e1 e2 h1
      have hrun : (execOp a.eval o).run C.P w = (callFunc g1 ⟨y :: c.args.toList.map a.eval⟩).run C.P w := by
        have e3 : (#[y] ++ (#[Value.iface t x] ++ c.args.map a.eval).extract 1 (#[Value.iface t x] ++ c.args.map a.eval).size : Array Value) = ⟨y :: c.args.toList.map a.eval⟩ := by
          apply Array.toList_inj.1; simp; exact List.take_of_length_le (by simp)
        simp only [execOp, ho, resolve, hcr, hr]
        rw [Sem.run_bind]
        simp only [Sem.run_pure, Result.andThen_ok, invoke]
        have e4 : (#[Value.iface t x] ++ c.args.map a.eval)[0]? = some (Value.iface t x) := by rw [← Array.getElem?_toList, Array.toList_append]; rfl
        rw [e4]
        simp only [callMethod]
        rw [Sem.run_bind]
        have hp : (program).run C.P w = .ok C.P w := rfl
        rw [hp]
        simp only [Result.andThen_ok]
        rw [Sem.run_bind, hmeth]
        simp only [Result.andThen_ok]
        rw [e3]
      rw [hrun]
      exact hc.1 _ _ _ _ _ _ _ _ o a next Q Φ ν hΦ h3 hF hng (by simp only [RelL]; exact ⟨y, _, rfl, hy, args_rel hf' c.args.toList⟩) hfree hk
  · have hs : operF tb cal rn o ψ = simple tb ψ o.op := by
      unfold operF
      cases ho : o.op <;> first | rfl | exact absurd ⟨_, ho⟩ hcall
    rw [hs] at h
    exact fin (simple_ok ht hF hng hf' h hfree)
end Go.AX
end
