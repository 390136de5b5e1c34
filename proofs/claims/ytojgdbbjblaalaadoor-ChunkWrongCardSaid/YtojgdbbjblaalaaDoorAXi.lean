/- A part of the proof: an interpreter of the model's own code on partly known states, and that what it answers is what the program answers. No condition of its own. -/
import Derived.Test.YtojgdbbjblaalaaDoorAXh
set_option linter.unusedSimpArgs false
set_option linter.unusedVariables false
namespace Go.AX
open Go.RowKit (Below)
section
variable {C : Cx} {tb : Tab} {B : Nat} {ρ : Rho} {w : World} {S S' : St}
variable {f : Operand → AV} {g : Operand → Value}
theorem fget_eq : ∀ (l : List Fl) (n : Nat), fget l n = l[n]?
  | [], n => by simp [fget]
  | a :: l, n => by
    unfold fget
    cases n with
    | zero => rfl
    | succ n => show fget l n = _; rw [fget_eq l n]; simp
theorem run_places {P : Program} : ∀ (fs : List Field), (∀ f ∈ fs, ∃ i, P.info? f.type = some i) → ∀ w : World,
    (fs.mapM fun f => Prod.mk f.offset <$> sizeOf f.type).run P w = .ok (fs.map fun f => (f.offset, P.cellsOf f.type)) w
  | [], _, w => by simp
  | f :: fs, h, w => by
    obtain ⟨i, hi⟩ := h f (by simp)
    have ih := run_places fs (fun x hx => h x (by simp [hx])) w
    simp only [List.mapM_cons, Sem.run_bind, Sem.run_map, run_size hi, Result.andThen_ok, Sem.run_pure, ih, List.map_cons]
    simp [Program.cellsOf, hi]
theorem s_build (ht : TyOk C.P tb) (hF : Fits C tb.ng B ρ S.heap w) (hf : ∀ x, Rel C ρ (f x) (g x)) {t : Nat} {ps : Array (Nat × Operand)} {o : Oper} (ho : o.op = .build t ps) {v : AV} (h : simple tb f (.build t ps) S = some (v, S')) :
    SOut C tb.ng B ρ w S S' v ((execOp g o).run C.P w) := by
  simp only [simple] at h
  obtain ⟨ti, e1, h1⟩ := lb h
  obtain ⟨i, hi, rfl⟩ := ht.ty _ _ e1
  have hps : (ps.map fun p => (p.1, g p.2)).toList = ps.toList.map fun p => (p.1, g p.2) := by simp
  have zz : ∀ l, fillC (fun i => (fget (mkTI C.P t ‹_›).fs i).map fun x => (x.off, x.sz)) f (mkTI C.P t ‹_›).zc.toL ps.toList = some l → True := fun _ _ => trivial
  cases hk : (mkTI C.P t i).k <;> rw [hk] at h1 <;> try exact (fail_inv h1).elim
  · -- an array
    rename_i n e
    obtain ⟨te, e2, h2⟩ := lb h1
    obtain ⟨ie, hie, rfl⟩ := ht.ty _ _ e2
    obtain ⟨l, h3, h4⟩ := lb h2
    obtain ⟨hz, h5⟩ := cond_inv h4
    obtain ⟨rfl, rfl⟩ := ret_inv h5
    have hu := kOf_arr hk
    cases hzz : i.zero with
    | none => simp [mkTI, hzz] at hz
    | some z =>
      obtain ⟨hrel, hcw⟩ := zc_spec (P := C.P) (t := t) hzz ρ C
      obtain ⟨out, o1, o2⟩ := fill_ok (cs := z.cells) hf ps.toList _ _ (by simpa using hrel) h3
      refine .same hF rfl (x := .agg out) ?_ (by simp only [Rel]; exact ⟨out.toList, rfl, o2⟩)
      have : Instr.fill (fun i => some (i * ie.size, ie.size)) z.cells (ps.toList.map fun p => (p.1, g p.2)) = some out := o1
      simp [execOp, ho, Instr.build, zeroValue, run_info hi, hzz, run_underlying hu, run_size hie, this]
  · obtain ⟨l, h3, h4⟩ := lb h1
    obtain ⟨hz, h5⟩ := cond_inv h4
    obtain ⟨rfl, rfl⟩ := ret_inv h5
    obtain ⟨fs, hu, hfl, hfo, hin⟩ := kOf_struct hk
    cases hzz : i.zero with
    | none => simp [mkTI, hzz] at hz
    | some z =>
      obtain ⟨hrel, hcw⟩ := zc_spec (P := C.P) (t := t) hzz ρ C
      obtain ⟨out, o1, o2⟩ := fill_ok (cs := z.cells) hf ps.toList _ _ (by simpa using hrel) h3
      refine .same hF rfl (x := .agg out) ?_ (by simp only [Rel]; exact ⟨out.toList, rfl, o2⟩)
      have hpl : (fun i => (fget (mkTI C.P t ‹_›).fs i).map fun x => (x.off, x.sz)) = fun i => (fs.map fun f => (f.offset, C.P.cellsOf f.type))[i]? := by
        funext j
        rw [fget_eq]
        show (((fldsOf C.P t).map (mkFl C.P))[j]?).map _ = _
        rw [hfl]
        simp [mkFl]
        cases fs[j]? <;> rfl
      rw [hpl] at o1
      have hm : (fs.mapM fun f => Prod.mk f.offset <$> sizeOf f.type).run C.P w = .ok (fs.map fun f => (f.offset, C.P.cellsOf f.type)) w := by
        rw [← Array.toArray_toList (xs := fs)]
        rw [List.mapM_toArray]
        simp only [Sem.run_map, run_places _ hin w, Result.andThen_ok]
        rw [← List.map_toArray, Array.toArray_toList]
      have o1' : Instr.fill (fun x => Option.map (fun f : Field => (f.offset, C.P.cellsOf f.type)) fs[x]?) z.cells (List.map (fun x => (x.fst, g x.snd)) ps.toList) = some out := by
        rw [← o1]; congr 1; funext x; simp
      simp [execOp, ho, Instr.build, zeroValue, run_info hi, hzz, run_underlying hu, hm, o1']
theorem s_nilCheck (hF : Fits C tb.ng B ρ S.heap w) (hf : ∀ x, Rel C ρ (f x) (g x)) {x : Operand} {o : Oper} (ho : o.op = .nilCheck x) {v : AV} (h : simple tb f (.nilCheck x) S = some (v, S')) :
    SOut C tb.ng B ρ w S S' v ((execOp g o).run C.P w) := by
  have hx := hf x
  simp only [simple] at h
  cases hfx : f x <;> rw [hfx] at h hx <;> try exact (fail_inv h).elim
  · obtain ⟨rfl, rfl⟩ := ret_inv h
    refine .same hF rfl (x := g x) ?_ hx
    simp only [Rel] at hx; obtain ⟨r, _, e⟩ := hx
    simp [execOp, ho, e]
  · obtain ⟨rfl, rfl⟩ := ret_inv h
    refine .same hF rfl (x := g x) ?_ hx
    simp only [Rel] at hx; obtain ⟨r, e, _⟩ := hx
    simp [execOp, ho, e]
  · obtain ⟨rfl, rfl⟩ := ret_inv h
    refine .same hF rfl (x := g x) ?_ hx
    simp only [Rel] at hx; obtain ⟨r, _, e, _⟩ := hx
    simp [execOp, ho, e]
  · obtain ⟨rfl, rfl⟩ := ret_inv h
    refine .same hF rfl (x := g x) ?_ hx
    simp only [Rel] at hx
    simp [execOp, ho, hx, typeHandle]
theorem s_makeInterface (ht : TyOk C.P tb) (hF : Fits C tb.ng B ρ S.heap w) (hf : ∀ x, Rel C ρ (f x) (g x)) {t : Nat} {x : Operand} {o : Oper} (ho : o.op = .makeInterface t x) {v : AV} (h : simple tb f (.makeInterface t x) S = some (v, S')) :
    SOut C tb.ng B ρ w S S' v ((execOp g o).run C.P w) := by
  have hx := hf x
  simp only [simple] at h
  obtain ⟨ti, e1, h1⟩ := lb h
  obtain ⟨i, hi, rfl⟩ := ht.ty _ _ e1
  have key : ∀ d, C.P.underlying t = some d → (∀ ms, d ≠ .interface ms) → ret (AV.ifc t (f x)) S = some (v, S') → SOut C tb.ng B ρ w S S' v ((execOp g o).run C.P w) := by
    intro d hd hne h2
    obtain ⟨rfl, rfl⟩ := ret_inv h2
    refine .same hF rfl (x := .iface t (g x)) ?_ (by simp only [Rel]; exact ⟨_, rfl, hx⟩)
    cases d <;> first | (simp [execOp, ho, Instr.makeInterface, run_underlying hd]; done) | (exact absurd rfl (hne _))
  rw [mkTI_k] at h1
  cases hu : C.P.underlying t with
  | none => have : kOf C.P t = .bad := by simp [kOf, hu]
            rw [this] at h1; exact (fail_inv h1).elim
  | some d =>
    by_cases hif : ∃ ms, d = .interface ms
    · obtain ⟨ms, rfl⟩ := hif
      have : kOf C.P t = .iface ms.isEmpty := by simp [kOf, hu]
      rw [this] at h1; exact (fail_inv h1).elim
    · have hne : ∀ ms, d ≠ .interface ms := fun ms e => hif ⟨ms, e⟩
      cases hk : kOf C.P t <;> rw [hk] at h1 <;> first | exact (fail_inv h1).elim | exact key d hu hne h1
theorem s_makeFunc (hF : Fits C tb.ng B ρ S.heap w) (hf : ∀ x, Rel C ρ (f x) (g x)) {fn : Fn} {fi ca : Array Operand} {o : Oper} (ho : o.op = .makeFunc fn fi ca) {v : AV} (h : simple tb f (.makeFunc fn fi ca) S = some (v, S')) :
    SOut C tb.ng B ρ w S S' v ((execOp g o).run C.P w) := by
  simp only [simple] at h
  cases fn <;> try exact (fail_inv h).elim
  rename_i u
  obtain ⟨rfl, rfl⟩ := ret_inv h
  refine .same hF rfl (x := .func (.func u) (fi.map g) (ca.map g)) ?_ ?_
  · simp [execOp, ho, Instr.makeFunc]
  · simp only [Rel]
    exact ⟨(fi.map g).toList, (ca.map g).toList, rfl, by simpa using RelL.map f g hf fi.toList, by simpa using RelL.map f g hf ca.toList⟩
theorem s_extract (hF : Fits C tb.ng B ρ S.heap w) (hf : ∀ x, Rel C ρ (f x) (g x)) {x : Operand} {k : Nat} {o : Oper} (ho : o.op = .extract x k) {v : AV} (h : simple tb f (.extract x k) S = some (v, S')) :
    SOut C tb.ng B ρ w S S' v ((execOp g o).run C.P w) := by
  have hx := hf x
  simp only [simple] at h
  cases hfx : f x <;> rw [hfx] at h hx <;> try exact (fail_inv h).elim
  obtain ⟨h1, rfl⟩ := lft_inv h
  rw [lget_eq] at h1
  simp only [Rel] at hx
  obtain ⟨cs, e, hrel⟩ := hx
  obtain ⟨y, hy1, hy2⟩ := hrel.get h1
  exact .same hF rfl (x := y) (by simp [execOp, ho, e, Instr.extract, hy1]) hy2
theorem s_fieldAddr (ht : TyOk C.P tb) (hF : Fits C tb.ng B ρ S.heap w) (hf : ∀ x, Rel C ρ (f x) (g x)) {t : Nat} {x : Operand} {k : Nat} {o : Oper} (ho : o.op = .fieldAddr t x k) {v : AV} (h : simple tb f (.fieldAddr t x k) S = some (v, S')) :
    SOut C tb.ng B ρ w S S' v ((execOp g o).run C.P w) := by
  have hx := hf x
  simp only [simple] at h
  obtain ⟨ti, e1, h1⟩ := lb h
  obtain ⟨i, hi, rfl⟩ := ht.ty _ _ e1
  obtain ⟨fl, e2, h2⟩ := lb h1
  rw [fget_eq] at e2
  cases hfx : f x <;> rw [hfx] at h2 hx <;> try exact (fail_inv h2).elim
  rename_i b off
  obtain ⟨hsz, h3⟩ := cond_inv' h2
  obtain ⟨rfl, rfl⟩ := ret_inv h3
  have e2 : ((fldsOf C.P t).map (mkFl C.P))[k]? = some fl := e2
  rw [List.getElem?_map] at e2
  cases hfk : (fldsOf C.P t)[k]? with
  | none => rw [hfk] at e2; cases e2
  | some fd =>
    rw [hfk] at e2
    simp only [Option.map_some, Option.some.injEq] at e2
    subst e2
    have hsz : C.P.cellsOf fd.type ≠ 0 := beq_false_inv hsz
    cases hu : C.P.underlying t with
    | none => simp [fldsOf, hu] at hfk
    | some d =>
      cases d <;> try (simp [fldsOf, hu] at hfk; done)
      rename_i fs
      have hfk' : fs[k]? = some fd := by simpa [fldsOf, hu] using hfk
      simp only [Rel] at hx
      obtain ⟨r, hr, e⟩ := hx
      cases hit : C.P.info? fd.type with
      | none => simp [Program.cellsOf, hit] at hsz
      | some it =>
        have hsz' : it.size ≠ 0 := by simpa [Program.cellsOf, hit] using hsz
        refine .same hF rfl (x := .pointer (some ⟨r.blk, r.base + (off + fd.offset), none⟩)) ?_ (by simp only [Rel]; exact ⟨r, hr, rfl⟩)
        simp [execOp, ho, e, Instr.fieldAt, run_underlying hu, hfk', Instr.sureAddr, fieldPlace, run_size hit, hsz', Addr.add_lit, Nat.add_assoc]
theorem part_ok {l : List AV} {cs : List Value} {fd : Fl} {v : AV} (hrel : RelL C ρ l cs) (h : part l fd = some v) {i : TypeInfo} (hi : C.P.info? fd.t = some i) (hsz : fd.sz = i.size) (hag : fd.agg = isAgg (kOf C.P fd.t)) (hbd : fd.bad = isBad (kOf C.P fd.t)) (w : World) :
    ∃ y, (Go.part fd.t ⟨cs⟩ fd.off).run C.P w = .ok y w ∧ Rel C ρ v y := by
  unfold part at h
  cases hb2 : fd.bad with
  | true => rw [hb2] at h; cases h
  | false =>
  rw [hb2, cond_false] at h
  have hbad : isBad (kOf C.P fd.t) = false := by rw [← hbd, hb2]
  cases hagg : fd.agg with
  | true =>
    rw [hagg] at h hag
    simp only [cond_true, lsub] at h
    by_cases hc : fd.off + fd.sz ≤ l.length
    · rw [show Nat.ble (Nat.add fd.off fd.sz) l.length = true from ble_true hc] at h
      simp only [cond_true, Option.map_some, Option.some.injEq] at h
      subst h
      refine ⟨.agg ((⟨cs⟩ : Array Value).extract fd.off (fd.off + fd.sz)), ?_, ?_⟩
      · simp only [Go.part, Sem.run_bind, run_isAgg_true hag.symm, Result.andThen_ok, if_true, run_size hi, Sem.run_pure, hsz]
      · simp only [Rel]
        refine ⟨(cs.drop fd.off).take fd.sz, ?_, hrel.sub _ _⟩
        congr 1
        apply Array.ext'
        simp [List.extract_eq_take_drop]
    · rw [show Nat.ble (Nat.add fd.off fd.sz) l.length = false from ble_false hc] at h; cases h
  | false =>
    rw [hagg] at h hag
    simp only [cond_false] at h
    rw [lget_eq] at h
    obtain ⟨y, hy1, hy2⟩ := hrel.get h
    refine ⟨y, ?_, hy2⟩
    have : (⟨cs⟩ : Array Value)[fd.off]? = some y := by simpa using hy1
    simp only [Go.part, Sem.run_bind, run_isAgg_false hi hbad hag.symm, Result.andThen_ok, Bool.false_eq_true, if_false, this, Sem.run_pure]
end
end Go.AX
