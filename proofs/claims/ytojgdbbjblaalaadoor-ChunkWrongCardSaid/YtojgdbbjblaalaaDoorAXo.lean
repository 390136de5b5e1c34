/- A part of the proof: an interpreter of the model's own code on partly known states, and that what it answers is what the program answers. No condition of its own. -/
import Derived.Test.YtojgdbbjblaalaaDoorAXn
set_option linter.unusedSimpArgs false
set_option linter.unusedVariables false
namespace Go.AX
open Go.RowKit (Below)
section
variable {C : Cx} {tb : Tab} {B : Nat} {ρ : Rho} {w : World} {S S' : St}
variable {f : Operand → AV} {g : Operand → Value}
theorem s_index (ht : TyOk C.P tb) (hh : HypOk C tb) (hF : Fits C tb.ng B ρ S.heap w) (hf : ∀ x, Rel C ρ (f x) (g x)) {t : Nat} {x ix : Operand} {o : Oper} (ho : o.op = .index t x ix) {v : AV} (h : simple tb f (.index t x ix) S = some (v, S')) :
    SOut C tb.ng B ρ w S S' v ((execOp g o).run C.P w) := by
  have hx := hf x
  simp only [simple] at h
  obtain ⟨ti, e1, h1⟩ := lb h
  obtain ⟨i, hi', rfl⟩ := ht.ty _ _ e1
  rw [mkTI_k] at h1
  have fin : ∀ {z : Value}, S' = S → Rel C ρ v z → (Instr.index t (g x) (g ix)).run C.P w = .ok z w → SOut C tb.ng B ρ w S S' v ((execOp g o).run C.P w) := by
    intro z e hz hrun
    subst e
    refine .same hF rfl (x := z) ?_ hz
    simp only [execOp, ho]
    rw [Sem.run_bind, hrun]
    try rfl
  cases hk : kOf C.P t <;> rw [hk] at h1 <;> try (cases hfx : f x <;> cases hn : asN (f ix) <;> rw [hfx, hn] at h1 <;> exact (fail_inv h1).elim)
  case str =>
    have hu := kOf_str hk
    cases hfx : f x <;> rw [hfx] at h1 hx <;> try (cases hn : asN (f ix) <;> rw [hn] at h1 <;> exact (fail_inv h1).elim)
    · rename_i k m
      cases hn : asN (f ix) with
      | none => rw [hn] at h1; exact (fail_inv h1).elim
      | some n =>
        rw [hn] at h1
        obtain ⟨kk, hg⟩ := asN_ok hn (hf ix)
        obtain ⟨hlt, h2⟩ := cond_inv h1
        have hlt : n < k := Nat.le_of_ble_eq_true hlt
        obtain ⟨rfl, e⟩ := ret_inv h2
        simp only [Rel] at hx
        obtain ⟨hgx, _⟩ := hx
        refine fin e (z := .int .u8 (byteAt m n : Nat)) (by simp only [Rel]; rfl) ?_
        rw [hgx, hg, run_index_string w t _ kk n hu]
        have hsz : (⟨(strB k m).toArray⟩ : ByteArray).size = k := by simp [ByteArray.size, strB_length]
        rw [dif_pos (by rw [hsz]; omega)]
        congr 2
        have hb : (⟨(strB k m).toArray⟩ : ByteArray)[(n : Int).toNat]'(by rw [hsz]; omega) = UInt8.ofNat (byteAt m n) := by
          show ((strB k m).toArray)[(n : Int).toNat]'_ = _
          have := strB_get k m n hlt
          rw [List.getElem?_eq_getElem (by rw [strB_length]; exact hlt)] at this
          simpa using this
        rw [hb, ofNat_toNat _ (byteAt_lt _ _)]
    · rename_i id
      have h2 : lft (hl tb.hyp (.idx (.x id) (f ix))) S = some (v, S') := by cases hn : asN (f ix) <;> rw [hn] at h1 <;> exact h1
      obtain ⟨h3, e⟩ := lft_inv h2
      obtain ⟨z, hz, hrun⟩ := hyp_ok hh h3 ρ _ _ hx (hf ix)
      exact fin e hz (hrun t w hu)
  case arr m e =>
    have hu := kOf_arr hk
    cases hfx : f x <;> rw [hfx] at h1 hx <;> try (cases hn : asN (f ix) <;> rw [hn] at h1 <;> exact (fail_inv h1).elim)
    rename_i l
    cases hn : asN (f ix) with
    | none => rw [hn] at h1; exact (fail_inv h1).elim
    | some n =>
      rw [hn] at h1
      obtain ⟨kk, hg⟩ := asN_ok hn (hf ix)
      obtain ⟨hlt, h2⟩ := cond_inv h1
      have hlt : n < m := Nat.le_of_ble_eq_true hlt
      obtain ⟨te, e2, h3⟩ := lb h2
      obtain ⟨ie, hie, rfl⟩ := ht.ty _ _ e2
      obtain ⟨h4, e'⟩ := lft_inv h3
      simp only [Rel] at hx
      obtain ⟨cs, hgx, hrel⟩ := hx
      obtain ⟨z, hz1, hz2⟩ := part_ok (w := w) hrel h4 (i := ie) hie rfl rfl rfl
      refine fin e' hz2 ?_
      have hz1 : (Go.part e ⟨cs⟩ (n * ie.size)).run C.P w = .ok z w := hz1
      have h0 : (0 : Int) ≤ n ∧ (n : Int) < m := by omega
      rw [hgx, hg]
      simp [Instr.index, asIntOf, run_underlying hu, h0, hlt, run_size hie, hz1]
theorem zero_ok {P : Program} {t : Nat} {i : TypeInfo} (hi : P.info? t = some i) {z : AV} (hz : (mkTI P t i).zero = some z) (w : World) : ∃ y, (zeroValue t).run P w = .ok y w ∧ z = avZ y := by
  cases hzz : i.zero with
  | none => simp [mkTI, hzz] at hz
  | some y => simp only [mkTI, hzz, Option.map_some, Option.some.injEq] at hz; exact ⟨y, by simp [zeroValue, run_info hi, hzz], hz.symm⟩
theorem rel_pair {ρ : Rho} {a : AV} {v : Value} {b : Bool} (h : Rel C ρ a v) : Rel C ρ (.tu [a, .b b]) (.tuple #[v, .bool b]) := by
  simp only [Rel, RelL]; exact ⟨[v, .bool b], rfl, v, [.bool b], rfl, h, .bool b, [], rfl, rfl, rfl⟩
theorem s_typeAssert (ht : TabOk C tb) (hF : Fits C tb.ng B ρ S.heap w) (hf : ∀ x, Rel C ρ (f x) (g x)) {x : Operand} {xt t : Nat} {ok : Bool} {o : Oper} (ho : o.op = .typeAssert x xt t ok) {v : AV} (h : simple tb f (.typeAssert x xt t ok) S = some (v, S')) :
    SOut C tb.ng B ρ w S S' v ((execOp g o).run C.P w) := by
  have hx := hf x
  simp only [simple] at h
  have fin : ∀ {z : Value}, S' = S → Rel C ρ v z → (Instr.typeAssert (g x) xt t ok).run C.P w = .ok z w → SOut C tb.ng B ρ w S S' v ((execOp g o).run C.P w) := by
    intro z e hz hrun
    subst e
    refine .same hF rfl (x := z) ?_ hz
    simp only [execOp, ho]
    rw [Sem.run_bind, hrun]
    try rfl
  cases hfx : f x <;> rw [hfx] at h hx <;> try exact (fail_inv h).elim
  · -- nil
    obtain ⟨hok, h1⟩ := cond_inv h
    obtain ⟨ti, e1, h2⟩ := lb h1
    obtain ⟨i, hi, rfl⟩ := ht.ty _ _ e1
    obtain ⟨hbad, h2'⟩ := cond_inv' h2
    obtain ⟨z, hz, h3⟩ := lb h2'
    obtain ⟨rfl, e⟩ := ret_inv h3
    obtain ⟨y, hy, rfl⟩ := zero_ok hi hz w
    simp only [Rel] at hx
    refine fin e (rel_pair (avZ_ok C ρ y)) ?_
    rw [hx, hok]
    cases hu : C.P.underlying t with
    | none => simp [mkTI, kOf, hu, isBad] at hbad
    | some d => cases d <;> simp [Instr.typeAssert, run_underlying hu, hy]
  · rename_i d a
    simp only [Rel] at hx
    obtain ⟨xv, hgx, hxr⟩ := hx
    obtain ⟨ti, e1, h1⟩ := lb h
    obtain ⟨i, hi, rfl⟩ := ht.ty _ _ e1
    obtain ⟨hbad, h2⟩ := cond_inv' h1
    rw [mkTI_k] at h2
    have hbad : isBad (kOf C.P t) = false := hbad
    cases hif : isIf (kOf C.P t) with
    | true =>
      rw [hif] at h2
      obtain ⟨r, e2, h3⟩ := lb h2
      obtain ⟨want, id, hu, hid, hr⟩ := ht.imp _ _ _ e2
      cases r with
      | true =>
        obtain ⟨rfl, e⟩ := ret_inv h3
        have hm : Instr.missingMethod want id.methods = none := by
          cases hmm : Instr.missingMethod want id.methods with
          | none => rfl
          | some q => rw [hmm] at hr; cases hr
        cases ok with
        | true => exact fin e (rel_pair (a := .ifc d a) (by simp only [Rel]; exact ⟨xv, hgx, hxr⟩)) (by rw [hgx]; simp [Instr.typeAssert, run_underlying hu, run_info hid, hm])
        | false => exact fin e (z := .iface d xv) (by show Rel C ρ (.ifc d a) _; simp only [Rel]; exact ⟨xv, rfl, hxr⟩) (by rw [hgx]; simp [Instr.typeAssert, run_underlying hu, run_info hid, hm])
      | false =>
        obtain ⟨hok, h4⟩ := cond_inv h3
        obtain ⟨z, hz, h5⟩ := lb h4
        obtain ⟨rfl, e⟩ := ret_inv h5
        obtain ⟨y, hy, rfl⟩ := zero_ok hi hz w
        have hm : ∃ q, Instr.missingMethod want id.methods = some q := by
          cases hmm : Instr.missingMethod want id.methods with
          | none => rw [hmm] at hr; cases hr
          | some q => exact ⟨q, rfl⟩
        obtain ⟨q, hm⟩ := hm
        exact fin e (rel_pair (avZ_ok C ρ y)) (by rw [hgx, hok]; simp [Instr.typeAssert, run_underlying hu, run_info hid, hm, hy])
    | false =>
      rw [hif] at h2
      simp only [cond_false] at h2
      have hun : ∃ du, C.P.underlying t = some du ∧ ∀ ms, du ≠ .interface ms := by
        cases hu : C.P.underlying t with
        | none => simp [kOf, hu, isBad] at hbad
        | some du => exact ⟨du, rfl, fun ms e => by subst e; simp [kOf, hu, isIf] at hif⟩
      obtain ⟨du, hu, hnd⟩ := hun
      cases hdt : Nat.beq d t with
      | true =>
        rw [hdt] at h2
        have := beq_inv hdt
        subst this
        obtain ⟨rfl, e⟩ := ret_inv h2
        cases ok with
        | true => exact fin e (rel_pair hxr) (by rw [hgx]; cases du <;> first | exact absurd rfl (hnd _) | simp [Instr.typeAssert, run_underlying hu])
        | false => exact fin e hxr (by rw [hgx]; cases du <;> first | exact absurd rfl (hnd _) | simp [Instr.typeAssert, run_underlying hu])
      | false =>
        rw [hdt] at h2
        have hne := beq_false_inv hdt
        obtain ⟨hok, h4⟩ := cond_inv h2
        obtain ⟨z, hz, h5⟩ := lb h4
        obtain ⟨rfl, e⟩ := ret_inv h5
        obtain ⟨y, hy, rfl⟩ := zero_ok hi hz w
        exact fin e (rel_pair (avZ_ok C ρ y)) (by rw [hgx, hok]; cases du <;> first | exact absurd rfl (hnd _) | simp [Instr.typeAssert, run_underlying hu, hne, hy])
theorem made_eq (z : Array Value) (n s : Nat) (h : z.toList.length = s) : (madeCells z (n * s)).toList = (List.replicate n z.toList).flatten := by
  apply List.ext_getElem?
  intro j
  have hl : ((List.replicate n z.toList).flatten).length = n * s := by simp [h]
  have hl2 : (madeCells z (n * s)).toList.length = n * s := by simp [size_madeCells]
  by_cases hj : j < n * s
  · have hs : 0 < s := by rcases Nat.eq_zero_or_pos s with h0 | h0
                          · subst h0; omega
                          · exact h0
    have hz : j % z.size < z.size := Nat.mod_lt _ (by simp at h; omega)
    have hzs : z.size = s := by simpa using h
    have e1 : (madeCells z (n * s)).toList[j]? = some (z[j % z.size]'hz) := by
      simp [madeCells, hj, hz]
    have e2 : ∀ (n j : Nat), j < n * s → ((List.replicate n z.toList).flatten)[j]? = z.toList[j % s]? := by
      intro n
      induction n with
      | zero => intro j hj; simp at hj
      | succ n ih =>
        intro j hj
        simp only [List.replicate_succ, List.flatten_cons, List.getElem?_append]
        rw [h]
        split
        · rename_i hlt; rw [Nat.mod_eq_of_lt hlt]
        · rename_i hlt
          rw [ih _ (by rw [Nat.succ_mul] at hj; omega), Nat.mod_eq_sub_mod (a := j) (b := s) (by omega)]
    rw [e1, e2 n j hj, ← hzs]
    simp [hz]
  · rw [List.getElem?_eq_none (by omega), List.getElem?_eq_none (by omega)]
theorem reps_rel {P : Program} {t n : Nat} {i : TypeInfo} {z : Value} (hz : i.zero = some z) (hlen : z.cells.toList.length = i.size) (ρ : Rho) (C : Cx) :
    RelL C ρ (reps (mkTI P t i).zc n).toL (madeCells z.cells (n * i.size)).toList ∧ CW (reps (mkTI P t i).zc n) := by
  obtain ⟨h1, h2⟩ := zc_spec (P := P) (t := t) hz ρ C
  obtain ⟨r1, r2⟩ := reps_spec h2 n
  refine ⟨?_, r2⟩
  rw [r1, made_eq _ _ _ hlen]
  clear r1 r2
  induction n with
  | zero => simp [RelL]
  | succ n ih => simp only [List.replicate_succ, List.flatten_cons]; exact h1.app ih
theorem flat_one {z : List Value} (h : ∀ x ∈ z, x.oneCell' = true) (n : Nat) : ∀ x ∈ (List.replicate n z).flatten, x.oneCell' = true := by
  intro x hx
  rw [List.mem_flatten] at hx
  obtain ⟨l, hl, hx⟩ := hx
  rw [(List.mem_replicate.1 hl).2] at hx
  exact h x hx
theorem s_makeSlice (ht : TyOk C.P tb) (hF : Fits C tb.ng B ρ S.heap w) (hng : tb.ng ≤ S.next) (hf : ∀ x, Rel C ρ (f x) (g x)) {t : Nat} {a c : Operand} {o : Oper} (ho : o.op = .makeSlice t a c) {v : AV} (h : simple tb f (.makeSlice t a c) S = some (v, S')) (hfree : Free ρ S.next S'.next) :
    SOut C tb.ng B ρ w S S' v ((execOp g o).run C.P w) := by
  simp only [simple] at h
  obtain ⟨ti, e1, h1⟩ := lb h
  obtain ⟨i, hi, rfl⟩ := ht.ty _ _ e1
  rw [mkTI_k] at h1
  cases hk : kOf C.P t <;> rw [hk] at h1 <;> try exact (fail_inv h1).elim
  rename_i e
  have hu := kOf_slice hk
  cases ha : asN (f a) with
  | none => rw [ha] at h1; exact (fail_inv h1).elim
  | some n =>
    cases hc : asN (f c) with
    | none => rw [ha, hc] at h1; exact (fail_inv h1).elim
    | some m =>
      rw [ha, hc] at h1
      obtain ⟨ka, hga⟩ := asN_ok ha (hf a)
      obtain ⟨kc, hgc⟩ := asN_ok hc (hf c)
      obtain ⟨te, e2, h2⟩ := lb h1
      obtain ⟨ie, hie, rfl⟩ := ht.ty _ _ e2
      obtain ⟨hcnd, h3⟩ := cond_inv h2
      simp only [Bool.and_eq_true] at hcnd
      obtain ⟨⟨⟨c1, c2⟩, c3⟩, c4⟩ := hcnd
      have c1 := Nat.le_of_ble_eq_true c1
      have c2 : ie.bytes * m ≤ 281474976710656 := Nat.le_of_ble_eq_true c2
      have c3 := Nat.le_of_ble_eq_true c3
      obtain ⟨z, hz, hone, hlen⟩ := zs_spec c4
      obtain ⟨b, S1, h4, h5⟩ := bnd_inv h3
      obtain ⟨rfl, rfl⟩ := ret_inv h5
      obtain ⟨hrel, hcw⟩ := reps_rel (P := C.P) (t := e) (n := m) hz hlen ρ C
      obtain ⟨ρ', w', r1, r2, r3, r4, r5, r6⟩ := alloc_ok hF hng h4 hfree hcw hrel (by rw [made_eq _ _ _ hlen]; exact flat_one hone m)
      refine ⟨ρ', .slice (some ⟨w.heap.size, 0, none⟩) n m, w', .inl ?_, ?_, r2, r3, r4⟩
      · have hr := run_make (P := C.P) w t e ie z hu hie hz ka kc (n : Int) (m : Int) (by omega) (by omega) (by rw [← Int.natCast_mul]; omega) (by omega)
        have hw : w' = w.alloc (.cells (madeCells z.cells (m * ie.size)) e) := by
          simp only [newRow, Sem.run_bind, run_newObj, Result.andThen_ok, Sem.run_pure, Result.ok.injEq] at r1
          rw [← r1.2]; rfl
        simp only [execOp, ho, hga, hgc]
        rw [Sem.run_bind, hr, hw]
        simp only [Result.andThen_ok, Sem.run_pure, Int.toNat_natCast]
      · simp only [Rel]; exact ⟨_, r5, c1, rfl⟩
theorem s_buildSlice (ht : TyOk C.P tb) (hF : Fits C tb.ng B ρ S.heap w) (hng : tb.ng ≤ S.next) (hf : ∀ x, Rel C ρ (f x) (g x)) {t n : Nat} {ps : Array (Nat × Operand)} {o : Oper} (ho : o.op = .buildSlice t n ps) {v : AV} (h : simple tb f (.buildSlice t n ps) S = some (v, S')) (hfree : Free ρ S.next S'.next) :
    SOut C tb.ng B ρ w S S' v ((execOp g o).run C.P w) := by
  simp only [simple] at h
  obtain ⟨ti, e1, h1⟩ := lb h
  obtain ⟨i, hi, rfl⟩ := ht.ty _ _ e1
  rw [mkTI_k] at h1
  cases hk : kOf C.P t <;> rw [hk] at h1 <;> try exact (fail_inv h1).elim
  rename_i e
  have hu := kOf_slice hk
  obtain ⟨te, e2, h2⟩ := lb h1
  obtain ⟨ie, hie, rfl⟩ := ht.ty _ _ e2
  obtain ⟨hle, h3⟩ := cond_inv h2
  have hle : n * ie.size ≤ 16777216 := Nat.le_of_ble_eq_true hle
  obtain ⟨l, h4, h5⟩ := lb h3
  obtain ⟨hcnd, h6⟩ := cond_inv h5
  simp only [Bool.and_eq_true] at hcnd
  obtain ⟨hsc, hzs⟩ := hcnd
  obtain ⟨z, hz, hone, hlen⟩ := zs_spec hzs
  obtain ⟨b, S1, h7, h8⟩ := bnd_inv h6
  obtain ⟨rfl, rfl⟩ := ret_inv h8
  obtain ⟨hrel, hcw⟩ := reps_rel (P := C.P) (t := e) (n := n) hz hlen ρ C
  obtain ⟨out, o1, o2⟩ := fill_ok (cs := madeCells z.cells (n * ie.size)) hf ps.toList _ _ hrel h4
  have houts : ∀ y ∈ out.toList, y.oneCell' = true := fun y hy => by
    obtain ⟨j, hj, he⟩ := List.mem_iff_getElem.1 hy
    have hj' : j < l.length := by rw [← o2.len]; exact hj
    obtain ⟨x', hx', hr'⟩ := o2.get (List.getElem?_eq_getElem hj')
    rw [List.getElem?_eq_getElem hj, he] at hx'; injection hx' with hx'; subst hx'
    exact scal_one (List.all_eq_true.1 hsc _ (List.getElem_mem hj')) hr'
  obtain ⟨s1, s2⟩ := toCells_spec (isU8K (mkTI C.P e ie).k) l
  obtain ⟨ρ', w', r1, r2, r3, r4, r5, r6⟩ := alloc_ok hF hng h7 hfree s2 (by rw [s1]; exact o2) houts
  refine ⟨ρ', .slice (some ⟨w.heap.size, 0, none⟩) n n, w', .inl ?_, ?_, r2, r3, r4⟩
  · have o1' : Instr.fill (fun i => some (i * ie.size, ie.size)) (madeCells z.cells (n * ie.size)) (ps.toList.map fun p => (p.1, g p.2)) = some out := o1
    have r1' : (newRow e out).run C.P w = .ok ⟨w.heap.size, 0, none⟩ w' := by simpa using r1
    have hgt : ¬ (n * ie.size > 2 ^ 24) := by omega
    by_cases h0 : n * ie.size = 0
    · have hm : madeCells z.cells (n * ie.size) = #[] := by rw [h0]; exact Array.eq_empty_of_size_eq_zero (size_madeCells _ _)
      have hm2 : madeCells #[] (n * ie.size) = #[] := by rw [h0]; exact Array.eq_empty_of_size_eq_zero (size_madeCells _ _)
      rw [hm] at o1'
      have hr2 : (Array.map (fun x => (#[] : Array Value)[x % (#[] : Array Value).size]!) (Array.range (n * ie.size))) = #[] := hm2
      simp only [execOp, ho, Instr.buildSlice, Sem.run_bind, run_underlying hu, Result.andThen_ok, run_size hie, Sem.run_ite, if_neg hgt, if_pos h0, Sem.run_pure, hr2]
      have : (Array.map (fun x : Nat × Operand => (x.fst, g x.snd)) ps).toList = ps.toList.map fun p => (p.1, g p.2) := by simp
      simp only [this, o1', Sem.run_bind, r1', Result.andThen_ok, Sem.run_pure]
    · simp only [execOp, ho, Instr.buildSlice, Sem.run_bind, run_underlying hu, Result.andThen_ok, run_size hie, Sem.run_ite, if_neg hgt, if_neg h0, Sem.run_pure, zeroValue, run_info hie, hz]
      have : (Array.map (fun x : Nat × Operand => (x.fst, g x.snd)) ps).toList = ps.toList.map fun p => (p.1, g p.2) := by simp
      have o1'' : Instr.fill (fun i => some (i * ie.size, ie.size)) (Array.map (fun x => z.cells[x % z.cells.size]!) (Array.range (n * ie.size))) (ps.toList.map fun p => (p.1, g p.2)) = some out := o1'
      simp only [this, o1'', Sem.run_bind, r1', Result.andThen_ok, Sem.run_pure]
  · simp only [Rel]; exact ⟨_, r5, Nat.le_refl _, rfl⟩
end
end Go.AX
