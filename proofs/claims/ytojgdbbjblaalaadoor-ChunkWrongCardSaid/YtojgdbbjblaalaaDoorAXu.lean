/- A part of the proof: an interpreter of the model's own code on partly known states, and that what it answers is what the program answers. No condition of its own. -/
import Derived.Test.YtojgdbbjblaalaaDoorAXt
set_option linter.unusedSimpArgs false
set_option linter.unusedVariables false
namespace Go.AX
open Go.RowKit (Below)
section
variable {C : Cx} {tb : Tab} {B : Nat} {ρ : Rho} {w : World} {S S' : St}
theorem isInt_true {t : Nat} (h : isInt (kOf C.P t) = true) : ∃ k, C.P.underlying t = some (.int k) := by
  cases hk : kOf C.P t <;> rw [hk] at h <;> try (cases h; done)
  exact ⟨_, kOf_int hk⟩
theorem isInt_false {t : Nat} (h : isInt (kOf C.P t) = false) (hb : isBad (kOf C.P t) = false) : ∃ d, C.P.underlying t = some d ∧ ∀ k, d ≠ .int k := by
  cases hu : C.P.underlying t with
  | none => simp [kOf, hu, isBad] at hb
  | some d => exact ⟨d, rfl, fun k e => by subst e; simp [kOf, hu, isInt] at h⟩
theorem appK_ok (ht : TyOk C.P tb) (hF : Fits C tb.ng B ρ S.heap w) (hng : tb.ng ≤ S.next) {ats : Array Nat} {st xt ty : Nat} {s x v : AV} {sv xv : Value} (h0 : ats[0]? = some st) (h1 : ats[1]? = some xt) (hs : Rel C ρ s sv) (hx : Rel C ρ x xv)
    (h : appK tb st xt s x S = some (v, S')) (hfree : Free ρ S.next S'.next) : ApdOut C tb.ng B ρ w S S' v ats ty sv xv := by
  unfold appK at h
  obtain ⟨ti, e1, h2⟩ := lb h
  obtain ⟨i, hi, rfl⟩ := ht.ty _ _ e1
  rw [mkTI_k] at h2
  cases hk : kOf C.P st <;> rw [hk] at h2 <;> try exact (fail_inv h2).elim
  rename_i e
  have hu := kOf_slice hk
  obtain ⟨te, e2, h3⟩ := lb h2
  obtain ⟨ie, hie, rfl⟩ := ht.ty _ _ e2
  obtain ⟨tx, e3, h4⟩ := lb h3
  obtain ⟨ix, hix, rfl⟩ := ht.ty _ _ e3
  obtain ⟨hc, h5⟩ := cond_inv' h4
  rw [Bool.or_eq_false_iff] at hc
  have hbad : isBad (kOf C.P xt) = false := hc.1
  have hzs : (mkTI C.P e ie).zs = true := by simpa using hc.2
  obtain ⟨z, hz, hone, hlen⟩ := zs_spec hzs
  cases hin : isInt (mkTI C.P xt ix).k with
  | true =>
    rw [hin] at h5
    obtain ⟨k, hux⟩ := isInt_true hin
    obtain ⟨n, h6, h7⟩ := lb h5
    obtain ⟨hb, h8⟩ := cond_inv' h7
    obtain ⟨kx, hxv⟩ := asN_ok h6 hx
    obtain ⟨b1, b2⟩ := big_spec hb
    have b1 : ie.bytes * n ≤ 140737488355328 := b1
    obtain ⟨r1, r2⟩ := reps_rel (P := C.P) (t := e) (n := n) hz hlen ρ C
    have hA : Apd C.P w ats e ie xv n (madeCells z.cells (n * ie.size)).toList := ⟨xt, _, h1, hux, .inr ⟨⟨k, rfl⟩, ⟨kx, hxv⟩, b2, by rw [Nat.mul_comm]; exact b1, z, hz, hlen, rfl⟩⟩
    exact appd_ok hF hng h0 hu hie hz hlen hone hA r1 r2 (by rw [made_eq _ _ _ hlen]; exact flat_one hone n) (by simp [size_madeCells]) hs h8 hfree
  | false =>
    rw [hin] at h5
    obtain ⟨dx, hux, hni⟩ := isInt_false hin hbad
    obtain ⟨n, h6, h7⟩ := lb h5
    obtain ⟨d, S1, h8, h9⟩ := bnd_inv h7
    obtain ⟨q1, q2, q3, q4, news, q5, q6, q7, q8, q9, q10⟩ := src_ok hF hx h6 h8
    have hA : Apd C.P w ats e ie xv n news := ⟨xt, dx, h1, hux, .inl ⟨hni, q7, q8⟩⟩
    have := appd_ok (S := S1) (ty := ty) (by rw [q1]; exact hF) (by rw [q2]; exact hng) h0 hu hie hz hlen hone hA q5 q3 q6 (by rw [q5.len]; exact q4) hs h9 (by rw [q2]; exact hfree)
    obtain ⟨ρ', y, w', t1, t2, t3, t4, t5⟩ := this
    exact ⟨ρ', y, w', t1, t2, t3, by rw [← q2]; exact t4, t5⟩
theorem firstCells_take {P : Program} {w : World} {sz n m : Nat} {xv : Value} {news : List Value} (hm : m ≤ n) (hl : (Builtin.lenOf xv).run P w = .ok n w) (hn : news.length = n * sz) (hs : ∀ s, xv = .string s → sz = 1) (h : (Builtin.firstCells sz n xv).run P w = .ok news.toArray w)
    (hc : ∀ a l c, xv = .slice (some a) l c → ∀ (j : Nat) v, news[j]? = some v → w.cell? (a.add j) = some v) : (Builtin.firstCells sz m xv).run P w = .ok (news.take (m * sz)).toArray w := by
  cases xv <;> try (simp [Builtin.lenOf] at hl; done)
  case string s =>
    have := hs s rfl
    subst this
    simp [Builtin.lenOf] at hl
    subst hl
    simp only [Builtin.firstCells, Sem.run_pure, Result.ok.injEq, and_true] at h ⊢
    rw [Nat.mul_one]
    have h2 : news = (s.extract 0 s.size).data.toList.map fun b => .int .u8 (b.toNat : Int) := by
      have := congrArg Array.toList h; simpa using this.symm
    rw [h2]
    apply Array.ext'
    simp [← List.map_take, List.take_take, Nat.min_eq_left hm]
  case slice a l c =>
    simp [Builtin.lenOf] at hl
    subst hl
    cases a with
    | none => simp [Builtin.firstCells] at h ⊢; rw [← h]; simp
    | some a =>
      have hcc := hc a l c rfl
      have hms : m * sz ≤ l * sz := Nat.mul_le_mul_right _ hm
      have := run_loadCells_list (P := P) w a (news.take (m * sz)) (fun j v hj => by
        rw [List.getElem?_take] at hj
        split at hj
        · exact hcc j v hj
        · cases hj)
      rw [List.length_take, hn, Nat.min_eq_left hms] at this
      exact this
theorem copyK_ok (ht : TyOk C.P tb) (hF : Fits C tb.ng B ρ S.heap w) {ats : Array Nat} {st ty : Nat} {s x v : AV} {sv xv : Value} (h0 : ats[0]? = some st) (hs : Rel C ρ s sv) (hx : Rel C ρ x xv)
    (h : copyK tb st s x S = some (v, S')) : S'.next = S.next ∧ ∃ y w', (Builtin.copy_ ats ty #[sv, xv]).run C.P w = .ok y w' ∧ Rel C ρ v y ∧ Fits C tb.ng B ρ S'.heap w' ∧ Below B w w' := by
  unfold copyK at h
  obtain ⟨ti, e1, h2⟩ := lb h
  obtain ⟨i, hi, rfl⟩ := ht.ty _ _ e1
  rw [mkTI_k] at h2
  cases hk : kOf C.P st <;> rw [hk] at h2 <;> try exact (fail_inv h2).elim
  rename_i e
  have hu := kOf_slice hk
  obtain ⟨te, e2, h3⟩ := lb h2
  obtain ⟨ie, hie, rfl⟩ := ht.ty _ _ e2
  obtain ⟨n, h4, h5⟩ := lb h3
  have first : ∀ m, m ≤ n → True := fun _ _ => trivial
  cases s <;> try exact (fail_inv h5).elim
  case nils =>
    obtain ⟨rfl, rfl⟩ := ret_inv h5
    simp only [Rel] at hs; subst hs
    have hl : (Builtin.lenOf xv).run C.P w = .ok n w ∧ (Builtin.firstCells ie.size 0 xv).run C.P w = .ok #[] w := by
      cases x <;> simp only [avLen, Option.some.injEq, reduceCtorEq] at h4
      · subst h4; simp only [Rel] at hx; obtain ⟨rfl, _⟩ := hx
        exact ⟨by simp [Builtin.lenOf, ByteArray.size, strB_length], by simp [Builtin.firstCells]⟩
      · subst h4; simp only [Rel] at hx; subst hx
        exact ⟨by simp [Builtin.lenOf], by simp [Builtin.firstCells]⟩
      · subst h4; obtain ⟨r, a, c', _, rfl, _⟩ := sl_addr hx
        exact ⟨by simp [Builtin.lenOf], by simp [Builtin.firstCells, loadCells, loadCellsFrom]⟩
    refine ⟨rfl, .int .i64 0, w, ?_, by simp [Rel], hF, Below.refl _ _⟩
    simp [Builtin.copy_, h0, run_underlying hu, run_size hie, hl.1, hl.2, goInt]
  case sl b o len cap r =>
    simp only [] at h5
    obtain ⟨cc, S1, h6, h7⟩ := bnd_inv h5
    obtain ⟨c2, h8, h9⟩ := lb h7
    obtain ⟨k, S2, e3, e4, e5, h10⟩ := rb h9
    obtain ⟨hc, h11⟩ := cond_inv h10
    obtain ⟨cd1, cd2⟩ := and_ble hc
    obtain ⟨c3, h12, h13⟩ := lb h11
    obtain ⟨u, S3, h14, h15⟩ := bnd_inv h13
    obtain ⟨rfl, rfl⟩ := ret_inv h15
    obtain ⟨u1, u2, u3, u4⟩ := upd_inv h14
    obtain ⟨q1, q2, q3, q4, news, q5, q6, q7, q8, q9, q10⟩ := src_ok hF hx h4 h6
    obtain ⟨s1, s2, s3⟩ := Cells.sub_spec h8
    rw [q1] at e3
    obtain ⟨rr, a, c', hr, rfl, hlc, ha⟩ := sl_addr hs
    obtain ⟨arr, fz, hbk, hk2⟩ := get_block hF e3 hr
    have hms : (Nat.min n len) * ie.size ≤ n * ie.size := Nat.mul_le_mul_right _ (Nat.min_le_left _ _)
    have cd2 : o + (Nat.min n len) * ie.size ≤ k.c.len := cd2
    have s2 : c2.toL = cc.toL.take ((Nat.min n len) * ie.size) := by rw [s2]; rfl
    have hrel2 : RelL C ρ c2.toL (news.take ((Nat.min n len) * ie.size)) := by
      rw [s2]; have := q5.sub 0 ((Nat.min n len) * ie.size); simpa using this
    have hl2 : (news.take ((Nat.min n len) * ie.size)).length = (Nat.min n len) * ie.size := by
      rw [List.length_take, q5.len, q4]; exact Nat.min_eq_left hms
    have hroom := hk2.room
    obtain ⟨p1, p2, p3⟩ := Cells.put_spec hk2.cells.1 s3 h12
    obtain ⟨w', g1, g2, g3⟩ := write_ok hF e3 u2 hr hbk hk2 hrel2 (fun y hy => q6 y (List.mem_of_mem_take hy)) cd1 (by omega) (by rw [hl2]; omega) (fun hg => by have := (hk2.grown hg).2.2.1; rw [hl2]; omega)
      (fun hB => by have := (hk2.old hB).1; exact List.eq_nil_of_length_eq_zero (by rw [hl2]; omega)) p2 p3
    have hfc : (Builtin.firstCells ie.size (Nat.min n len) xv).run C.P w = .ok (news.take ((Nat.min n len) * ie.size)).toArray w := firstCells_take (P := C.P) (w := w) (Nat.min_le_left n len) (q7 w) (by rw [q5.len]; exact q4) q9 (q8 w rfl) q10
    refine ⟨by rw [u4, e5, q2], .int .i64 (Nat.min n len : Nat), w', ?_, by simp [Rel], by rw [u3, e4, q1]; exact g2, g3⟩
    have hstore : (storeCells a (news.take ((Nat.min n len) * ie.size))).run C.P w = .ok () w' := by
      rcases ha with rfl | hz
      · exact g1
      · have hn0 : (Nat.min n len) = 0 := by rw [hz]; exact Nat.min_eq_right (Nat.zero_le _)
        rw [hn0, Nat.zero_mul] at g1 ⊢
        exact g1
    simp [Builtin.copy_, h0, run_underlying hu, run_size hie, q7, goInt, hfc, hstore]
theorem usd_run {P : Program} {ats : Array Nat} {ty : Nat} {a : Addr} {n c : Nat} (h : c ≠ 0) : (Builtin.unsafeSliceData_ ats ty #[.slice (some a) n c]).run P w = .ok (.pointer (some a)) w := by
  show (if c ≠ 0 then (pure (Value.pointer (some a)) : Sem Value) else _).run P w = _
  rw [if_pos h]; rfl
theorem dataK_ok (hF : Fits C tb.ng B ρ S.heap w) {ats : Array Nat} {ty : Nat} {x v : AV} {xv : Value} (hx : Rel C ρ x xv) (h : dataK x S = some (v, S')) :
    S'.heap = S.heap ∧ S'.next = S.next ∧ ∃ y, (Builtin.unsafeSliceData_ ats ty #[xv]).run C.P w = .ok y w ∧ Rel C ρ v y := by
  cases x <;> simp only [dataK] at h <;> try exact (fail_inv h).elim
  case nils =>
    obtain ⟨rfl, rfl⟩ := ret_inv h
    simp only [Rel] at hx; subst hx
    exact ⟨rfl, rfl, .pointer none, rfl, by simp [Rel]⟩
  case sl b o n c r =>
    cases r with
    | false =>
      obtain ⟨hc, h1⟩ := cond_inv' h
      obtain ⟨rfl, rfl⟩ := ret_inv h1
      have hc := beq_false_inv hc
      simp only [Rel] at hx
      obtain ⟨r, hr, _, rfl⟩ := hx
      exact ⟨rfl, rfl, .pointer (some ⟨r.blk, r.base + o, none⟩), usd_run hc, by simp only [Rel]; exact ⟨r, hr, rfl⟩⟩
    | true =>
      simp only [Rel] at hx
      obtain ⟨r, a, hr, hle, rfl, ha⟩ := hx
      have fin : r.cap - c ≠ 0 → (Builtin.unsafeSliceData_ ats ty #[.slice (some a) n (r.cap - c)]).run C.P w = .ok (.pointer (some ⟨r.blk, r.base + o, none⟩)) w := fun hne => by
        rcases ha with rfl | ⟨_, h0⟩
        · exact usd_run hne
        · omega
      change (cond (Nat.beq n 0) (bnd (rd b) fun k => cond (k.g && Nat.blt (Nat.mul c k.es) k.m) (ret (AV.p b o)) fail) (ret (AV.p b o))) S = some (v, S') at h
      cases hn : Nat.beq n 0 with
      | true =>
        rw [hn] at h
        obtain ⟨k, S1, e1, e2, e3, h1⟩ := rb h
        obtain ⟨hc, h2⟩ := cond_inv h1
        obtain ⟨rfl, rfl⟩ := ret_inv h2
        rw [Bool.and_eq_true] at hc
        obtain ⟨arr, fz, hbk, hk2⟩ := get_block hF e1 hr
        obtain ⟨g1, g2, g3, g4⟩ := hk2.grown hc.1
        have hlt : c * k.es < k.m := Nat.le_of_ble_eq_true hc.2
        rw [g4] at g2
        have : c < r.cap := Nat.lt_of_mul_lt_mul_right (Nat.lt_of_lt_of_le hlt g2)
        exact ⟨e2, e3, _, fin (by omega), by simp only [Rel]; exact ⟨r, hr, rfl⟩⟩
      | false =>
        rw [hn] at h
        have hn := beq_false_inv hn
        obtain ⟨rfl, rfl⟩ := ret_inv h
        exact ⟨rfl, rfl, _, fin (by omega), by simp only [Rel]; exact ⟨r, hr, rfl⟩⟩
theorem loadBytes_run {P : Program} {w : World} (b o : Nat) : ∀ (l : List UInt8) (acc : ByteArray) (i : Nat), (∀ (j : Nat) (h : j < l.length), w.cell? ⟨b, o + i + j, none⟩ = some (.int .u8 (l[j].toNat : Int))) →
    (loadBytes ⟨b, o + i, none⟩ acc l.length).run P w = .ok ⟨acc.data ++ l.toArray⟩ w := by
  intro l
  induction l with
  | nil => intro acc i _; simp [loadBytes]
  | cons x l ih =>
    intro acc i h
    have h0 := h 0 (by simp)
    simp only [Nat.add_zero, List.getElem_cons_zero] at h0
    have ih' := ih (acc.push x) (i + 1) (fun j hj => by
      have := h (j + 1) (by simp; exact hj)
      rw [show o + (i + 1) + j = o + i + (j + 1) by omega]; simpa using this)
    have e : (⟨b, o + i, none⟩ : Addr).add 1 = ⟨b, o + (i + 1), none⟩ := by rw [Addr.add_lit]; rfl
    simp only [List.length_cons, loadBytes, Sem.run_bind, run_load, h0, Result.andThen_ok, e]
    have e2 : acc.push ((x.toNat : Int).toNat.toUInt8) = acc.push x := by simp
    rw [e2, ih']
    simp [ByteArray.push]
theorem us_def {P : Program} {ats : Array Nat} {ty pt : Nat} (h0 : ats[0]? = some pt) (p : Option Addr) (kk : IntKind) (n : Nat) (hb : n ≤ 140737488355328) :
    ∃ q1 q2 : Sem Value, (Builtin.unsafeString_ ats ty #[.pointer p, .int kk (n : Int)]).run P w = (match p with
      | none => if (n : Int) = 0 then (pure (.string .empty) : Sem Value) else q1
      | some a => if (n : Int) = 0 then pure (.string .empty)
        else do
          let b ← variablesAt a (← elemOf pt) n
          if b then do
            let s ← loadBytes a .empty n
            freeze a n
            pure (.string s)
          else q2 : Sem Value).run P w := by
  have hmax : IntKind.i64.max = 9223372036854775807 := rfl
  have h1 : ¬ ((n : Int) < 0) := by omega
  have h2 : ¬ ((n : Int) > 9223372036854775807) := by omega
  obtain ⟨m1, m2, m3, m4, m5, hd⟩ : ∃ (m1 : Sem Value) (m2 m3 : Sem PUnit) (m4 m5 : Sem Value), Builtin.unsafeString_ ats ty #[.pointer p, .int kk (n : Int)] = (do
      let n ← asInt (.int kk (n : Int))
      let some pt := ats[0]? | m1
      if n < 0 then m2
      if n > IntKind.i64.max then m3
      match p with
      | none =>
        if n = 0 then pure (.string .empty)
        else m4
      | some a =>
        if n = 0 then pure (.string .empty)
        else if ← variablesAt a (← elemOf pt) n.toNat then do
          let s ← loadBytes a .empty n.toNat
          freeze a n.toNat
          pure (.string s)
        else m5) := ⟨_, _, _, _, _, rfl⟩
  refine ⟨m4, m5, ?_⟩
  rw [hd, h0]
  cases p <;> simp [asInt, asIntOf, hmax, h1, h2]
theorem liesAt_u8 {P : Program} {e u : Nat} {ie : TypeInfo} (hie : P.info? e = some ie) (hs : ie.size = 1) (he : P.underlying e = some (.int .u8)) (hu : P.underlying u = some (.int .u8)) {size o n : Nat} (h : o + n ≤ size) :
    liesAt P P.depth e (size / P.cellsOf e) o u n = true := by
  have hc : P.cellsOf e = 1 := by simp [Program.cellsOf, hie, hs]
  obtain ⟨d, hd⟩ : ∃ d, P.depth = d + 1 := ⟨2 * (P.types.size + Made.depth) + 1, rfl⟩
  have hlay : sameLayout P P.depth e u = true := by rw [hd]; simp [sameLayout, he, hu]
  have hrow : rowAt P (sameLayout P P.depth · u) P.depth e (size / P.cellsOf e) o n = true := by
    have : ∀ fits : Nat → Bool, fits e = true → rowAt P fits (d + 1) e (size / P.cellsOf e) o n = true := fun fits hf => by
      unfold rowAt
      simp [hc, h, hf, Nat.mod_one]
    rw [hd]
    exact this _ (by rw [← hd]; exact hlay)
  rw [hd]
  unfold liesAt
  rw [hrow]; simp
theorem bytesTo {k m : Nat} {vs : List Value} (h : RelL C ρ (unp k m) vs) {b o : Nat} (hc : ∀ (j : Nat) v, vs[j]? = some v → w.cell? ((⟨b, o, none⟩ : Addr).add j) = some v) :
    (loadBytes ⟨b, o, none⟩ .empty k).run C.P w = .ok ⟨(strB k m).toArray⟩ w := by
  have hvs := unp_rel h
  have := loadBytes_run (P := C.P) (w := w) b o (strB k m) .empty 0 (fun j hj => by
    have := hc j (.int .u8 ((strB k m)[j].toNat : Int)) (by rw [hvs, List.getElem?_map, List.getElem?_eq_getElem hj]; rfl)
    rw [Addr.add_lit] at this; simpa using this)
  rw [strB_length] at this
  simp only [Nat.add_zero] at this
  rw [this]
  simp
theorem freeze_ok (hF : Fits C tb.ng B ρ S.heap w) {v : Nat} {k : Blk} (hv : S.heap.get v = some k) (hvn : v ≤ 16777213) {r : R} (hr : ρ v = some r) {arr : Array Value} {fz : Nat × Nat}
    (hb : w.heap[r.blk]? = some (.cells arr k.e fz)) (hk : BlkAt C ρ B k r arr fz) (hst : k.st = false) (o n : Nat) (hn : n ≠ 0) :
    Fits C tb.ng B ρ (S.heap.set v { k with fr := max k.fr (o + n) }) (w.freeze ⟨r.blk, r.base + o, none⟩ n) ∧ Below B w (w.freeze ⟨r.blk, r.base + o, none⟩ n) := by
  have hBB : ¬ r.blk < B := fun h => by have := (hk.old h).2.1; rw [hst] at this; cases this
  obtain ⟨lo, hi⟩ := fz
  have hheap : (w.freeze ⟨r.blk, r.base + o, none⟩ n).heap = w.heap.modify r.blk fun
      | .cells c elem (lo, hi) => .cells c elem (if lo == hi then (r.base + o, r.base + o + n) else (min lo (r.base + o), max hi (r.base + o + n)))
      | o => o := by unfold World.freeze; rw [if_neg hn]; rfl
  have hlt : r.blk < w.heap.size := by
    rcases Nat.lt_or_ge r.blk w.heap.size with h | h
    · exact h
    · rw [Array.getElem?_eq_none h] at hb; cases hb
  have hat : (w.freeze ⟨r.blk, r.base + o, none⟩ n).heap[r.blk]? = some (.cells arr k.e (if lo == hi then (r.base + o, r.base + o + n) else (min lo (r.base + o), max hi (r.base + o + n)))) := by
    rw [hheap, Array.getElem?_modify, if_pos rfl, hb]; rfl
  have hother : ∀ b, b ≠ r.blk → (w.freeze ⟨r.blk, r.base + o, none⟩ n).heap[b]? = w.heap[b]? := fun b hb' => by
    rw [hheap, Array.getElem?_modify, if_neg (fun e => hb' e.symm)]
  have hsz : (w.freeze ⟨r.blk, r.base + o, none⟩ n).heap.size = w.heap.size := by rw [hheap]; simp
  have hos : (w.freeze ⟨r.blk, r.base + o, none⟩ n).os = w.os ∧ (w.freeze ⟨r.blk, r.base + o, none⟩ n).tape = w.tape ∧ (w.freeze ⟨r.blk, r.base + o, none⟩ n).output = w.output := by
    unfold World.freeze; rw [if_neg hn]; exact ⟨rfl, rfl, rfl⟩
  refine ⟨hF.upd hvn hv hr (k' := { k with fr := max k.fr (o + n) }) ?_ hat hother hsz (fun b hb' => hother b (by omega)), ⟨hos.1, hos.2.1, hos.2.2, by rw [hsz]; exact Nat.le_refl _, fun b hb' => hother b (by omega)⟩⟩
  have hpl := hk.plain hst
  simp only [] at hpl
  by_cases e : lo = hi
  · simp only [e, beq_self_eq_true, if_true]
    exact ⟨hk.cells, hk.grown, fun y h1 h2 => by simp only [] at h1 ⊢; omega, fun _ => by right; simp only []; omega, fun h => absurd h hBB, hk.room, hk.base0⟩
  · have e' : (lo == hi) = false := by simpa using e
    simp only [e', Bool.false_eq_true, if_false]
    exact ⟨hk.cells, hk.grown, fun y h1 h2 => by simp only [] at h1 ⊢; omega, fun _ => by right; simp only []; omega, fun h => absurd h hBB, hk.room, hk.base0⟩
theorem ustrK_ok (ht : TyOk C.P tb) (hF : Fits C tb.ng B ρ S.heap w) {ats : Array Nat} {pt ty : Nat} {x nn v : AV} {xv nv : Value} (h0 : ats[0]? = some pt) (hx : Rel C ρ x xv) (hn : Rel C ρ nn nv) (h : ustrK tb pt x nn S = some (v, S')) :
    S'.next = S.next ∧ ∃ y w', (Builtin.unsafeString_ ats ty #[xv, nv]).run C.P w = .ok y w' ∧ Rel C ρ v y ∧ Fits C tb.ng B ρ S'.heap w' ∧ Below B w w' := by
  unfold ustrK at h
  cases hnn : asN nn with
  | none => rw [hnn] at h; cases x <;> exact (fail_inv h).elim
  | some n =>
    obtain ⟨kk, rfl⟩ := asN_ok hnn hn
    rw [hnn] at h
    have hn0 : ¬ ((n : Int) < 0) := by omega
    cases x <;> try (cases n <;> exact (fail_inv h).elim)
    case nilp =>
      cases n with
      | succ n => exact (fail_inv h).elim
      | zero =>
        obtain ⟨rfl, rfl⟩ := ret_inv h
        simp only [Rel] at hx; subst hx
        refine ⟨rfl, .string .empty, w, ?_, by simp only [Rel]; exact ⟨rfl, by simp⟩, hF, Below.refl _ _⟩
        rw [(us_def h0 _ kk 0 (by omega)).choose_spec.choose_spec]
        simp
    case p b o =>
      have h : (cond (Nat.beq n 0) (ret (AV.s 0 0)) (bnd (lft (tb.ty.get pt)) fun tp => match tp.k with
        | .ptr e => bnd (rd b) fun k => bnd (lft (tb.ty.get k.e)) fun te => cond (isU8 tb e && isU8K te.k && Nat.beq te.size 1 && !k.st && Nat.ble n 140737488355328) (bnd (lft (k.c.sub o n)) fun c => match c with
            | .y l m => bnd (upd b { k with fr := max k.fr (Nat.add o n) }) fun _ => ret (.s l m)
            | .l vs => bnd (lft (packA vs)) fun r => bnd (upd b { k with fr := max k.fr (Nat.add o n) }) fun _ => ret (.s r.1 r.2)) fail
        | _ => fail)) S = some (v, S') := by cases n <;> exact h
      simp only [Rel] at hx
      obtain ⟨r, hr, rfl⟩ := hx
      cases hz : Nat.beq n 0 with
      | true =>
        rw [hz] at h
        have := beq_inv hz; subst this
        obtain ⟨rfl, rfl⟩ := ret_inv h
        refine ⟨rfl, .string .empty, w, ?_, by simp only [Rel]; exact ⟨rfl, by simp⟩, hF, Below.refl _ _⟩
        rw [(us_def h0 _ kk 0 (by omega)).choose_spec.choose_spec]
        simp
      | false =>
        rw [hz] at h
        have hz := beq_false_inv hz
        obtain ⟨tp, e1, h1⟩ := lb h
        obtain ⟨ip, hip, rfl⟩ := ht.ty _ _ e1
        rw [mkTI_k] at h1
        cases hkp : kOf C.P pt <;> rw [hkp] at h1 <;> try exact (fail_inv h1).elim
        rename_i e
        have hup := kOf_ptr hkp
        obtain ⟨k, S1, e2, e3, e4, h2⟩ := rb h1
        obtain ⟨te, e5, h3⟩ := lb h2
        obtain ⟨ie, hie, rfl⟩ := ht.ty _ _ e5
        obtain ⟨hc, h4⟩ := cond_inv h3
        simp only [Bool.and_eq_true] at hc
        obtain ⟨⟨⟨⟨c1, c2⟩, c3⟩, c4⟩, c5⟩ := hc
        have c1 := isU8_spec ht c1
        have c3 : ie.size = 1 := beq_inv c3
        have c4 : k.st = false := by simpa using c4
        have c5 := Nat.le_of_ble_eq_true c5
        have c2 : C.P.underlying k.e = some (.int .u8) := by
          have c2 : isU8K (kOf C.P k.e) = true := c2
          cases hk' : kOf C.P k.e <;> rw [hk'] at c2 <;> try (cases c2; done)
          rename_i kk'
          have := kOf_int hk'
          cases kk' <;> first | exact this | cases c2
        obtain ⟨c, h5, h6⟩ := lb h4
        obtain ⟨q1, q2, q3⟩ := Cells.sub_spec h5
        obtain ⟨arr, fz, hb, hk⟩ := get_block hF e2 hr
        obtain ⟨vs, v1, v2, v3, v4⟩ := read_ok hb hk.cells q1
        rw [← q2] at v2
        have hroom := hk.room
        have hva : (variablesAt ⟨r.blk, r.base + o, none⟩ e n).run C.P w = .ok true w := by
          have hsh : w.shape? r.blk = some (k.e, arr.size) := by simp [World.shape?, hb]
          simp [variablesAt, hsh, liesAt_u8 hie c3 c2 c1 (show r.base + o + n ≤ arr.size by omega)]
        have hel : (elemOf pt).run C.P w = .ok e w := by simp [elemOf, run_underlying hup]
        have fin : ∀ (l m : Nat), unp l m = c.toL → m < 2 ^ (8 * l) → (bnd (upd b { k with fr := max k.fr (Nat.add o n) }) fun _ => ret (AV.s l m)) S1 = some (v, S') →
            S'.next = S.next ∧ ∃ y w', (Builtin.unsafeString_ ats ty #[.pointer (some ⟨r.blk, r.base + o, none⟩), .int kk (n : Int)]).run C.P w = .ok y w' ∧ Rel C ρ v y ∧ Fits C tb.ng B ρ S'.heap w' ∧ Below B w w' := by
          intro l m hun hm h7
          obtain ⟨u, S2, h8, h9⟩ := bnd_inv h7
          obtain ⟨rfl, rfl⟩ := ret_inv h9
          obtain ⟨u1, u2, u3, u4⟩ := upd_inv h8
          have hln : l = n := by
            have := congrArg List.length hun
            rw [unp_length, ← v2.len] at this
            omega
          subst hln
          rw [← hun] at v2
          have hlb := bytesTo v2 v4
          obtain ⟨f1, f2⟩ := freeze_ok hF e2 u2 hr hb hk c4 o l hz
          refine ⟨by rw [u4, e4], .string ⟨(strB l m).toArray⟩, _, ?_, by simp only [Rel]; exact ⟨trivial, hm⟩, by rw [u3, e3]; exact f1, f2⟩
          have hmx : ¬ ((9223372036854775807 : Int) < (l : Int)) := by omega
          have hzi : ¬ ((l : Int) = 0) := by omega
          rw [(us_def h0 _ kk l c5).choose_spec.choose_spec]
          simp [hz, hel, hva, hlb]
        cases c with
        | y l m => exact fin l m rfl q3 h6
        | l us =>
          obtain ⟨rr, h7, h8⟩ := lb h6
          obtain ⟨l, m⟩ := rr
          obtain ⟨p1, p2, p3⟩ := packA_spec h7
          exact fin l m p2 p3 h8
end
end Go.AX
