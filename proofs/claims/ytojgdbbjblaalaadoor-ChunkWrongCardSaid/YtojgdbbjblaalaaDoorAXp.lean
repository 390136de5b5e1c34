/- A part of the proof: an interpreter of the model's own code on partly known states, and that what it answers is what the program answers. No condition of its own. -/
import Derived.Test.YtojgdbbjblaalaaDoorAXo
import Derived.Laws.LoneSync
import Derived.Laws.BytesString
set_option linter.unusedSimpArgs false
set_option linter.unusedVariables false
namespace Go.AX
open Go.RowKit (Below)
section
variable {C : Cx} {tb : Tab} {B : Nat} {ρ : Rho} {w : World} {S S' : St}
variable {f : Operand → AV} {g : Operand → Value}
theorem isU8_spec (ht : TyOk C.P tb) {e : Nat} (h : isU8 tb e = true) : C.P.underlying e = some (.int .u8) := by
  unfold isU8 at h
  cases hg : tb.ty.get e with
  | none => rw [hg] at h; cases h
  | some ti =>
    rw [hg] at h
    obtain ⟨i, hi, rfl⟩ := ht.ty _ _ hg
    have h : (match kOf C.P e with | .int .u8 => true | _ => false) = true := h
    cases hk : kOf C.P e <;> rw [hk] at h <;> try (cases h; done)
    rename_i k
    have hu := kOf_int hk
    cases k <;> first | exact hu | cases h
theorem slU8_spec (ht : TyOk C.P tb) {t : Nat} (h : slU8 tb (kOf C.P t) = true) : ∃ e, C.P.underlying t = some (.slice e) ∧ C.P.underlying e = some (.int .u8) := by
  cases hk : kOf C.P t <;> rw [hk] at h <;> try (cases h; done)
  exact ⟨_, kOf_slice hk, isU8_spec ht h⟩
/-- cells that are bytes, read back -/
theorem unp_rel {k m : Nat} {vs : List Value} (h : RelL C ρ (unp k m) vs) : vs = (strB k m).map fun b => .int .u8 (b.toNat : Int) := by
  apply List.ext_getElem?
  intro j
  have hl := h.len
  rw [unp_length] at hl
  by_cases hj : j < k
  · have hu : (unp k m)[j]? = some (.i .u8 (.ofNat (byteAt m j))) := by rw [unp_get, if_pos hj]
    obtain ⟨x, hx, hr⟩ := h.get hu
    simp only [Rel] at hr; subst hr
    rw [hx, List.getElem?_map, strB_get _ _ _ hj]
    simp [Nat.mod_eq_of_lt (byteAt_lt m j)]
  · rw [List.getElem?_eq_none (by omega), List.getElem?_eq_none (by simp [strB_length]; omega)]
theorem bytes_run (w : World) {src dst e : Nat} (hs : C.P.underlying src = some (.slice e)) (he : C.P.underlying e = some (.int .u8)) (hd : C.P.underlying dst = some .string) {a : Addr} {cap : Nat} (l : List UInt8) {vs : List Value} (hvs : vs = l.map fun b => .int .u8 (b.toNat : Int))
    (hc : ∀ (j : Nat) v, vs[j]? = some v → w.cell? (a.add j) = some v) : (convert src dst (.slice (some a) vs.length cap)).run C.P w = .ok (.string ⟨l.toArray⟩) w := by
  subst hvs
  rw [List.length_map]
  exact run_convert_bytes_back w src dst e a cap l hs he hd fun j hj => hc j _ (by simp [hj])
theorem sl_addr {b o n c : Nat} {q : Bool} {v : Value} (h : Rel C ρ (.sl b o n c q) v) : ∃ r a c', ρ b = some r ∧ v = .slice (some a) n c' ∧ n ≤ c' ∧ (a = ⟨r.blk, r.base + o, none⟩ ∨ n = 0) := by
  cases q <;> simp only [Rel] at h
  · obtain ⟨r, h1, h2, rfl⟩ := h; exact ⟨r, _, _, h1, rfl, h2, .inl rfl⟩
  · obtain ⟨r, a, h1, h2, rfl, h3⟩ := h; exact ⟨r, a, _, h1, rfl, by omega, h3.imp id (·.1)⟩
theorem s_convert (ht : TyOk C.P tb) (hh : HypOk C tb) (hF : Fits C tb.ng B ρ S.heap w) (hng : tb.ng ≤ S.next) (hf : ∀ x, Rel C ρ (f x) (g x)) {src dst : Nat} {x : Operand} {o : Oper} (ho : o.op = .convert src dst x) {v : AV} (h : simple tb f (.convert src dst x) S = some (v, S')) (hfree : Free ρ S.next S'.next) :
    SOut C tb.ng B ρ w S S' v ((execOp g o).run C.P w) := by
  have hx := hf x
  simp only [simple] at h
  obtain ⟨ts, e1, h1⟩ := lb h
  obtain ⟨is, his, rfl⟩ := ht.ty _ _ e1
  obtain ⟨td, e2, h2⟩ := lb h1
  obtain ⟨id, hid, rfl⟩ := ht.ty _ _ e2
  obtain ⟨hbad, h3⟩ := cond_inv' h2
  have hbad : isBad (kOf C.P src) = false := hbad
  rw [mkTI_k, mkTI_k] at h3
  have hsome : ∃ ds, C.P.underlying src = some ds := by
    cases hu : C.P.underlying src with
    | some d => exact ⟨d, rfl⟩
    | none => simp [kOf, hu, isBad] at hbad
  obtain ⟨ds, hsrc⟩ := hsome
  have fin : ∀ {z : Value}, S'.heap = S.heap → Rel C ρ v z → (convert src dst (g x)).run C.P w = .ok z w → SOut C tb.ng B ρ w S S' v ((execOp g o).run C.P w) := by
    intro z e hz hrun
    refine .same hF e (x := z) ?_ hz
    simp only [execOp, ho]
    rw [Sem.run_bind, hrun]
    try rfl
  cases hk : kOf C.P dst <;> rw [hk] at h3 <;> try (cases hfx : f x <;> rw [hfx] at h3 <;> exact (fail_inv h3).elim)
  case int k =>
    have hu := kOf_int hk
    cases hfx : f x <;> rw [hfx] at h3 hx <;> try exact (fail_inv h3).elim
    · obtain ⟨rfl, e⟩ := ret_inv h3
      simp only [Rel] at hx
      rename_i l n
      refine fin (by rw [e]) (z := .int k (k.wrap n)) (by simp only [Rel, mkI, wrp_eq]) ?_
      rw [hx]
      simp [convert, run_underlying hsrc, run_underlying hu, Conv.intToInt]
    · obtain ⟨h4, e⟩ := lft_inv h3
      obtain ⟨_, z, hz, hrun⟩ := hyp_ok hh h4 ρ _ hx
      exact fin (by rw [e]) hz (hrun src w (by rw [hsrc]; rfl))
  case str =>
    have hu := kOf_str hk
    cases hfx : f x <;> rw [hfx] at h3 hx <;> try exact (fail_inv h3).elim
    · obtain ⟨rfl, e⟩ := ret_inv h3
      refine fin (by rw [e]) hx ?_
      simp only [Rel] at hx
      obtain ⟨hgx, _⟩ := hx
      rw [hgx]
      cases ds <;> simp [convert, run_underlying hsrc, run_underlying hu]
    · obtain ⟨hu8, h4⟩ := cond_inv h3
      obtain ⟨rfl, e⟩ := ret_inv h4
      obtain ⟨el, hs, he⟩ := slU8_spec ht hu8
      simp only [Rel] at hx
      refine fin (by rw [e]) (z := .string ⟨#[]⟩) (by simp only [Rel]; exact ⟨rfl, by simp⟩) ?_
      rw [hx]
      simp [convert, run_underlying hs, run_underlying hu, run_underlying he, Conv.bytesToString]
      rfl
    · rename_i b off n cap rest
      obtain ⟨hu8, h4⟩ := cond_inv h3
      obtain ⟨el, hs, he⟩ := slU8_spec ht hu8
      obtain ⟨k, S1, e3, e4, e5, h5⟩ := rb h4
      obtain ⟨c, h6, h7⟩ := lb h5
      obtain ⟨hle, hto, hcw⟩ := Cells.sub_spec h6
      obtain ⟨r, a, c', hr, hgx, _, ha⟩ := sl_addr hx
      obtain ⟨arr, fz, hb, hbk⟩ := get_block hF e3 hr
      obtain ⟨vs, v1, v2, v3, v4⟩ := read_ok hb hbk.cells hle
      rw [← hto] at v2
      have hcells : ∀ (j : Nat) u, vs[j]? = some u → w.cell? (a.add j) = some u := by
        rcases ha with rfl | h0
        · exact v4
        · intro j u hj; have : vs = [] := List.eq_nil_of_length_eq_zero (by omega); subst this; simp at hj
      have go : ∀ (l : List UInt8), vs = (l.map fun b => .int .u8 (b.toNat : Int)) → (convert src dst (g x)).run C.P w = .ok (.string ⟨l.toArray⟩) w := fun l hl => by
        rw [hgx, ← v1]; exact bytes_run w hs he hu l hl hcells
      have pk : ∀ (l m : Nat), unp l m = c.toL → m < 2 ^ (8 * l) → ret (AV.s l m) S1 = some (v, S') → SOut C tb.ng B ρ w S S' v ((execOp g o).run C.P w) := by
        intro l m hun hm hret
        obtain ⟨rfl, e⟩ := ret_inv hret
        rw [← hun] at v2
        exact fin (by rw [e, e4]) (z := .string ⟨(strB l m).toArray⟩) (by simp only [Rel]; exact ⟨trivial, hm⟩) (go _ (unp_rel v2))
      cases c with
      | y l m => exact pk l m rfl hcw h7
      | l us =>
        simp only [] at h7
        cases hp : packA us with
        | some rr =>
          obtain ⟨l, m⟩ := rr
          rw [hp] at h7
          obtain ⟨p1, p2, p3⟩ := packA_spec hp
          exact pk l m p2 p3 h7
        | none =>
          rw [hp] at h7
          obtain ⟨h8, e⟩ := lft_inv h7
          obtain ⟨bs, z, hz1, hz2, hz3⟩ := hyp_ok hh h8 ρ _ v2
          exact fin (by rw [e, e4]) hz3 (by rw [hz2]; exact go bs hz1)
    · obtain ⟨h4, e⟩ := lft_inv h3
      obtain ⟨_, z, hz, hrun⟩ := hyp_ok hh h4 ρ _ hx
      exact fin (by rw [e]) hz (hrun src w (by rw [hsrc]; rfl))
  case slice e =>
    have hu := kOf_slice hk
    cases hfx : f x <;> rw [hfx] at h3 hx <;> try exact (fail_inv h3).elim
    rename_i k m
    obtain ⟨hc, h4⟩ := cond_inv h3
    rw [Bool.and_eq_true] at hc
    have he := isU8_spec ht hc.1
    have hs : C.P.underlying src = some .string := by
      have := hc.2
      cases hk' : kOf C.P src <;> rw [hk'] at this <;> try (cases this; done)
      exact kOf_str hk'
    obtain ⟨b, S1, h5, h6⟩ := bnd_inv h4
    obtain ⟨rfl, rfl⟩ := ret_inv h6
    simp only [Rel] at hx
    obtain ⟨hgx, hlt⟩ := hx
    have hsz : (⟨(strB k m).toArray⟩ : ByteArray).size = k := by simp [ByteArray.size, strB_length]
    have hrun := run_bytes_of_string (P := C.P) w src dst e ⟨(strB k m).toArray⟩ hs hu he
    rw [hsz] at hrun
    have hcap := grownCap_ge w k 0 e
    generalize hcp : grownCap w k 0 e = cp at hrun hcap
    have hrsz : (bytesRow ⟨(strB k m).toArray⟩ cp).size = cp := by simp [bytesRow, hsz, strB_length]; omega
    have hcell : ∀ j, j < k → (bytesRow ⟨(strB k m).toArray⟩ cp)[j]? = some (.int .u8 (byteAt m j : Nat)) := fun j hj => by
      unfold bytesRow
      rw [Array.getElem?_append_left (by simp [strB_length]; exact hj)]
      simp [strB_get k m j hj, Nat.mod_eq_of_lt (byteAt_lt m j)]
    rw [hrsz] at hrun
    have hba : BlkAt C ρ B ⟨e, .y k m, k, 1, 0, true, true⟩ ⟨w.heap.size, 0, cp, 1⟩ (bytesRow ⟨(strB k m).toArray⟩ cp) (cp, cp + 1) := by
      constructor
      · refine ⟨hlt, fun j a hj => ?_⟩
        simp only [Cells.toL, unp_get] at hj
        split at hj
        · rename_i hlt'
          simp only [Option.some.injEq] at hj; subst hj
          exact ⟨_, by rw [Nat.zero_add]; exact hcell j hlt', by simp only [Rel]; rfl, rfl⟩
        · cases hj
      · intro _
        refine ⟨?_, ?_, Nat.le_refl _, rfl⟩
        · rw [hrsz]; show 0 + cp * 1 = cp; omega
        · show k ≤ cp * 1; omega
      · intro y hy1 hy2
        rw [hrsz] at hy2
        show ¬ (cp ≤ y ∧ y < cp + 1)
        omega
      · intro h; cases h
      · intro h; have := hF.size; simp only [] at h; omega
      · rw [hrsz]; show 0 + k ≤ cp; omega
      · intro h; cases h
    obtain ⟨r2, r3, r4, r5, r6⟩ := newG_ok (w' := w.drew.alloc (.cells (bytesRow ⟨(strB k m).toArray⟩ cp) e (cp, cp + 1))) hF hng h5 hfree rfl hba rfl rfl rfl rfl
    refine ⟨_, .slice (some ⟨w.heap.size, 0, none⟩) k cp, _, .inl ?_, ?_, r2, r3, r4⟩
    · simp only [execOp, ho, hgx]
      rw [Sem.run_bind, hrun]
      try rfl
    · simp only [Rel]
      exact ⟨_, ⟨w.heap.size, 0, none⟩, r5, by show 0 + k ≤ cp; omega, rfl, .inl rfl⟩
  case uptr =>
    have hu := kOf_uptr hk
    cases hfx : f x <;> rw [hfx] at h3 hx <;> try exact (fail_inv h3).elim
    rename_i b off
    cases hks : kOf C.P src <;> rw [hks] at h3 <;> try exact (fail_inv h3).elim
    rename_i e
    have hs := kOf_ptr hks
    obtain ⟨te, e3, h4⟩ := lb h3
    obtain ⟨ie, hie, rfl⟩ := ht.ty _ _ e3
    obtain ⟨k, S1, e4, e5, e6, h5⟩ := rb h4
    obtain ⟨hc, h6⟩ := cond_inv' h5
    obtain ⟨rfl, e⟩ := ret_inv h6
    rw [Bool.or_eq_false_iff] at hc
    have hsz : ie.size ≠ 0 := beq_false_inv hc.1
    have hlt : off < k.c.len := by
      rcases Nat.lt_or_ge off k.c.len with h | h
      · exact h
      · rw [ble_true h] at hc; exact absurd hc.2 (by simp)
    have hx0 := hx
    simp only [Rel] at hx
    obtain ⟨r, hr, hgx⟩ := hx
    obtain ⟨arr, fz, hb, hbk⟩ := get_block hF e4 hr
    obtain ⟨vs, v1, v2, v3, v4⟩ := read_ok (o := off) (n := 1) hb hbk.cells (by omega)
    obtain ⟨u, hu0⟩ : ∃ u, vs[0]? = some u := ⟨vs[0]'(by omega), List.getElem?_eq_getElem _⟩
    have hcell := v4 0 u hu0
    rw [Addr.add_lit, Nat.add_zero] at hcell
    refine fin (by rw [e, e5]) hx0 ?_
    rw [hgx]
    exact run_convert_to_unsafe hs hu (by simp [hie, hsz]) hcell
  case ptr e =>
    have hu := kOf_ptr hk
    cases hfx : f x <;> rw [hfx] at h3 hx <;> try exact (fail_inv h3).elim
    rename_i b off
    cases hks : kOf C.P src <;> rw [hks] at h3 <;> try exact (fail_inv h3).elim
    have hs := kOf_uptr hks
    obtain ⟨te, e3, h4⟩ := lb h3
    obtain ⟨ie, hie, rfl⟩ := ht.ty _ _ e3
    obtain ⟨k, S1, e4, e5, e6, h5⟩ := rb h4
    obtain ⟨hc, h6⟩ := cond_inv h5
    obtain ⟨rfl, e'⟩ := ret_inv h6
    simp only [Bool.and_eq_true] at hc
    obtain ⟨⟨⟨⟨c1, c2⟩, c3⟩, c4⟩, c5⟩ := hc
    have c1 := beq_inv c1
    have c2 := beq_inv c2
    have c3 : k.g = false := by simpa using c3
    have c4 : 1 ≤ ie.size := Nat.le_of_ble_eq_true c4
    have c5 : ie.size ≤ k.c.len := Nat.le_of_ble_eq_true c5
    have hx0 := hx
    simp only [Rel] at hx
    obtain ⟨r, hr, hgx⟩ := hx
    obtain ⟨arr, fz, hb, hbk⟩ := get_block hF e4 hr
    refine fin (by rw [e', e5]) hx0 ?_
    have hb0 := hbk.base0 c3
    have hroom := hbk.room
    rw [hb0, Nat.zero_add] at hroom
    subst c2
    rw [hgx, hb0]
    have hsh : w.shape? r.blk = some (k.e, arr.size) := by simp [World.shape?, hb]
    have hcell : C.P.cellsOf e = ie.size := by simp [Program.cellsOf, hie]
    have hdep : ∃ d, C.P.depth = d + 1 := ⟨2 * (C.P.types.size + Made.depth) + 1, rfl⟩
    obtain ⟨d, hd⟩ := hdep
    have hla : liesAt C.P C.P.depth e (arr.size / ie.size) 0 e 1 = true := by
      rw [hd]
      simp only [liesAt, rowAt, hcell, hd]
      have h1 : ¬ ie.size = 0 := by omega
      have h2 : 1 ≤ arr.size / ie.size := (Nat.le_div_iff_mul_le (by omega)).2 (by omega)
      simp [h1, sameLayout, h2]
    have hva : (variablesAt ⟨r.blk, 0, none⟩ e 1).run C.P w = .ok true w := by
      simp [variablesAt, hsh, c1, hcell, hla]
    simp [convert, Conv.unsafePointer, Conv.seenAt, viewAt, run_underlying hs, run_underlying hu, hsh, run_size hie, hva]
end
end Go.AX
