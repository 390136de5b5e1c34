/- A part of the proof: an interpreter of the model's own code on partly known states, and that what it answers is what the program answers. No condition of its own. -/
import Derived.Test.YtojgdbbjblaalaaDoorAXj
set_option linter.unusedSimpArgs false
set_option linter.unusedVariables false
namespace Go.AX
open Go.RowKit (Below)
theorem same_eq {a b : AV} (h : same a b = true) : a = b := by
  cases a <;> cases b <;> simp only [same] at h <;> try (cases h; done)
  · simp at h; rw [h]
  · simp only [Bool.and_eq_true, beq_iff_eq, ieq_iff, decide_eq_true_eq] at h; rw [h.1, h.2]
  · simp only [Bool.and_eq_true] at h; rw [beq_inv h.1, beq_inv h.2]
  · rw [beq_inv h]
theorem sameL_eq : ∀ {a b : List AV}, sameL a b = true → a = b
  | [], [], _ => rfl
  | [], _ :: _, h => by cases h
  | _ :: _, [], h => by cases h
  | a :: l, b :: m, h => by simp only [sameL, Bool.and_eq_true] at h; rw [same_eq h.1, sameL_eq h.2]
theorem binOp_beq {a b : BinOp} (h : (a == b) = true) : a = b := by simpa using h
theorem unOp_beq {a b : UnOp} (h : (a == b) = true) : a = b := by simpa using h
theorem HK.same_eq {a b : HK} (h : a.same b = true) : a = b := by
  cases a <;> cases b <;> simp only [HK.same] at h <;> try (cases h; done)
  · simp only [Bool.and_eq_true] at h; rw [binOp_beq h.1.1, AX.same_eq h.1.2, AX.same_eq h.2]
  · simp only [Bool.and_eq_true] at h; rw [beq_inv h.1, AX.same_eq h.2]
  · simp only [Bool.and_eq_true] at h; rw [unOp_beq h.1, AX.same_eq h.2]
  · simp only [Bool.and_eq_true] at h; rw [AX.same_eq h.1, AX.same_eq h.2]
  · rw [AX.same_eq h]
  · simp only [Bool.and_eq_true] at h; rw [AX.same_eq h.1.1, AX.same_eq h.1.2, AX.same_eq h.2]
  · rw [sameL_eq h]
  · simp only [Bool.and_eq_true] at h; rw [Nat.eq_of_beq_eq_true h.1.1, AX.same_eq h.1.2, AX.same_eq h.2]
theorem hl_mem : ∀ {l : List (HK × AV)} {k : HK} {r : AV}, hl l k = some r → (k, r) ∈ l
  | [], _, _, h => by cases h
  | (a, x) :: l, k, r, h => by
    simp only [hl] at h
    cases hs : a.same k with
    | true => rw [hs] at h; simp only [cond_true, Option.some.injEq] at h; rw [HK.same_eq hs, h]; simp
    | false => rw [hs] at h; exact List.mem_cons_of_mem _ (hl_mem h)
def optArg (x : AV) : Option AV := match x with | .ni => none | x => some x
/-- what a row of the table of hypotheses says -/
def HOk (C : Cx) : HK → AV → Prop
  | .bin o x y, r => ∀ ρ vx vy, Rel C ρ x vx → Rel C ρ y vy →
      ((∃ k a b, vx = .int k a ∧ vy = .int k b) ∨ (∃ s u, vx = .string s ∧ vy = .string u) ∨ ((o = .shl ∨ o = .shr) ∧ ∃ k l a b, vx = .int k a ∧ vy = .int l b)) ∧
      ∃ v, Rel C ρ r v ∧ ∀ t w, (binOp o t vx vy).run C.P w = .ok v w
  | .conv t x, r => ∀ ρ vx, Rel C ρ x vx → ((∃ k n, vx = .int k n) ∨ ∃ s, vx = .string s) ∧ ∃ v, Rel C ρ r v ∧ ∀ src w, (C.P.underlying src).isSome = true → (convert src t vx).run C.P w = .ok v w
  | .un o x, r => ∀ ρ vx, Rel C ρ x vx → ∃ v, Rel C ρ r v ∧ ∀ w, (Op.unary o vx).run C.P w = .ok v w
  | .idx x y, r => ∀ ρ vx vy, Rel C ρ x vx → Rel C ρ y vy → ∃ v, Rel C ρ r v ∧ ∀ t w, C.P.underlying t = some .string → (Instr.index t vx vy).run C.P w = .ok v w
  | .len x, r => ∀ ρ vx, Rel C ρ x vx → ∃ v, Rel C ρ r v ∧ ∃ s, vx = .string s ∧ v = .int .i64 s.size
  | .sub x lo hi, r => ∀ ρ vx, Rel C ρ x vx → ∃ v, Rel C ρ r v ∧ ∀ vl vh, (match optArg lo with | none => vl = none | some a => ∃ y, vl = some y ∧ Rel C ρ a y) → (match optArg hi with | none => vh = none | some a => ∃ y, vh = some y ∧ Rel C ρ a y) →
      ∀ t w, C.P.underlying t = some .string → (Instr.slice t vx vl vh none).run C.P w = .ok v w
  | .bytes l, r => ∀ ρ vs, RelL C ρ l vs → ∃ (bs : List UInt8) (v : Value), vs = bs.map (fun b => .int .u8 (b.toNat : Int)) ∧ v = .string ⟨bs.toArray⟩ ∧ Rel C ρ r v
  | .eq t x y, r => ∃ b, r = .b b ∧ ∀ ρ vx vy, Rel C ρ x vx → Rel C ρ y vy → ∀ D w, 1 ≤ D → (Op.equalIn D t vx vy).run C.P w = .ok b w
structure HypOk (C : Cx) (tb : Tab) : Prop where
  hyp : ∀ k r, (k, r) ∈ tb.hyp → HOk C k r
section
variable {C : Cx} {tb : Tab} {B : Nat} {ρ : Rho} {w : World} {S S' : St}
variable {f : Operand → AV} {g : Operand → Value}
theorem hyp_ok (hh : HypOk C tb) {k : HK} {r : AV} (h : hl tb.hyp k = some r) : HOk C k r := hh.hyp k r (hl_mem h)
theorem hypB_inv (hh : HypOk C tb) {k : HK} {r : Bool} (h : hypB tb k S = some (r, S')) : HOk C k (.b r) ∧ S' = S := by
  unfold hypB at h
  cases hl' : hl tb.hyp k with
  | none => rw [hl'] at h; exact (fail_inv h).elim
  | some x =>
    rw [hl'] at h
    cases x <;> try exact (fail_inv h).elim
    obtain ⟨rfl, rfl⟩ := ret_inv h
    exact ⟨hyp_ok hh hl', rfl⟩
theorem strEq {k l a c : Nat} (ha : a < 2 ^ (8 * k)) (hc : c < 2 ^ (8 * l)) : (Nat.beq k l && Nat.beq a c) = ((⟨(strB k a).toArray⟩ : ByteArray).toList == (⟨(strB l c).toArray⟩ : ByteArray).toList) := by
  rw [ByteArray.toList_eq, ByteArray.toList_eq]
  simp only []
  rw [Bool.eq_iff_iff]
  simp only [Bool.and_eq_true, beq_iff_eq, Nat.beq_eq]
  constructor
  · rintro ⟨rfl, rfl⟩; rfl
  · intro h
    have h1 : k = l := by have := congrArg List.length h; simpa [strB_length] using this
    subst h1
    exact ⟨rfl, strB_inj _ _ _ ha hc h⟩
/-- two pointers -/
theorem ptrEq_ok {a c o u : Nat} {ra rc : R} (ha : ρ a = some ra) (hc : ρ c = some rc) {r : Bool} (h : ptrEq a c o u S = some (r, S')) :
    S' = S ∧ (sameAddr ⟨ra.blk, ra.base + o, none⟩ ⟨rc.blk, rc.base + u, none⟩).run C.P w = .ok r w := by
  unfold ptrEq at h
  obtain ⟨hac, h1⟩ := cond_inv h
  obtain ⟨rfl, rfl⟩ := ret_inv h1
  have e := beq_inv hac
  subst e
  rw [ha] at hc; injection hc with hc; subst hc
  refine ⟨rfl, ?_⟩
  simp only [sameAddr, beq_self_eq_true, if_true]
  show Result.ok _ w = _
  congr 1
  rw [Bool.eq_iff_iff]
  simp [beq_iff_eq]
def EqDone (C : Cx) (w : World) (d : Nat) (S S' : St) (t : Nat) (vx vy : Value) (r : Bool) : Prop :=
  S'.heap = S.heap ∧ S'.next = S.next ∧ ∀ D, d ≤ D → (Op.equalIn D t vx vy).run C.P w = .ok r w
theorem eqF_ok (ht : TyOk C.P tb) {eq : Nat → AV → AV → M Bool} {d : Nat} (heq : ∀ {S S' : St} {t : Nat} {x y : AV} {vx vy : Value} {r : Bool}, Rel C ρ x vx → Rel C ρ y vy → eq t x y S = some (r, S') → EqDone C w d S S' t vx vy r)
    {l m : List AV} {cs ds : List Value} (hl : RelL C ρ l cs) (hm : RelL C ρ m ds) : ∀ (fs : List Field) {S S' : St} {r : Bool}, eqF eq l m (fs.map (mkFl C.P)) S = some (r, S') →
    S'.heap = S.heap ∧ S'.next = S.next ∧ ∀ D, d ≤ D → (Op.eqFields D ⟨cs⟩ ⟨ds⟩ fs).run C.P w = .ok r w := by
  intro fs
  induction fs with
  | nil => intro S S' r h; obtain ⟨rfl, rfl⟩ := ret_inv h; exact ⟨rfl, rfl, fun D _ => by simp [Op.eqFields]⟩
  | cons fd fs ih =>
    intro S S' r h
    simp only [List.map_cons, eqF] at h
    cases hnm : (mkFl C.P fd).nm with
    | false =>
      rw [hnm] at h
      obtain ⟨h1, h2, h3⟩ := ih h
      refine ⟨h1, h2, fun D hD => ?_⟩
      have : fd.name = "_" := by simpa [mkFl] using hnm
      simp only [Op.eqFields, this, ne_eq, not_true_eq_false, if_false]
      exact h3 D hD
    | true =>
      rw [hnm] at h
      have hne : fd.name ≠ "_" := by simpa [mkFl] using hnm
      obtain ⟨x, h1, h2⟩ := lb h
      obtain ⟨y, h3, h4⟩ := lb h2
      obtain ⟨q, S1, h5, h6⟩ := bnd_inv h4
      have hinf : ∃ it, C.P.info? fd.type = some it := by
        cases hb : isBad (kOf C.P fd.type) with
        | true => simp [part, mkFl, hb] at h1
        | false =>
          cases hit : C.P.info? fd.type with
          | some it => exact ⟨it, rfl⟩
          | none => simp [kOf, Program.underlying, hit, isBad] at hb
      obtain ⟨it, hit⟩ := hinf
      obtain ⟨vx, x1, x2⟩ := part_ok (w := w) hl h1 (i := it) hit (by simp [mkFl, Program.cellsOf, hit]) rfl rfl
      obtain ⟨vy, y1, y2⟩ := part_ok (w := w) hm h3 (i := it) hit (by simp [mkFl, Program.cellsOf, hit]) rfl rfl
      have x1 : (Go.part fd.type ⟨cs⟩ fd.offset).run C.P w = .ok vx w := x1
      have y1 : (Go.part fd.type ⟨ds⟩ fd.offset).run C.P w = .ok vy w := y1
      obtain ⟨q1, q2, q3⟩ := heq x2 y2 h5
      have q3 : ∀ D, d ≤ D → (Op.equalIn D fd.type vx vy).run C.P w = .ok q w := q3
      cases q with
      | true =>
        obtain ⟨r1, r2, r3⟩ := ih h6
        refine ⟨by rw [r1, q1], by rw [r2, q2], fun D hD => ?_⟩
        simp only [Op.eqFields, ne_eq, hne, not_false_eq_true, if_true, Sem.run_bind, x1, y1, q3 D hD, Result.andThen_ok, Bool.not_true, Bool.false_eq_true, if_false]
        exact r3 D hD
      | false =>
        obtain ⟨rfl, rfl⟩ := ret_inv h6
        refine ⟨q1, q2, fun D hD => ?_⟩
        simp only [Op.eqFields, ne_eq, hne, not_false_eq_true, if_true, Sem.run_bind, x1, y1, q3 D hD, Result.andThen_ok, Bool.not_false, Sem.run_pure]
theorem eqI_ne {P : Program} {w : World} {t ta tc D : Nat} {xa xc : Value} {ms : Array (String × TypeId)} (hu : P.underlying t = some (.interface ms)) (h : ta ≠ tc) : (Op.equalIn (D + 1) t (.iface ta xa) (.iface tc xc)).run P w = .ok false w := by
  simp [Op.equalIn, run_underlying hu, h]
theorem eqI_eq {P : Program} {w : World} {t ta D : Nat} {xa xc : Value} {ms : Array (String × TypeId)} {i : TypeInfo} (hu : P.underlying t = some (.interface ms)) (hi : P.info? ta = some i) (hc : i.comparable = true) : (Op.equalIn (D + 1) t (.iface ta xa) (.iface ta xc)).run P w = (Op.equalIn D ta xa xc).run P w := by
  simp [Op.equalIn, run_underlying hu, run_info hi, hc]
set_option maxHeartbeats 1000000 in
theorem eqT_ok (ht : TyOk C.P tb) (hh : HypOk C tb) : ∀ (d : Nat) {S S' : St} {t : Nat} {x y : AV} {vx vy : Value} {r : Bool}, Rel C ρ x vx → Rel C ρ y vy → eqT tb d t x y S = some (r, S') → EqDone C w d S S' t vx vy r := by
  intro d
  induction d with
  | zero => intro S S' t x y vx vy r hx hy h; exact (fail_inv h).elim
  | succ d ih =>
    intro S S' t x y vx vy r hx hy h
    simp only [eqT] at h
    obtain ⟨ti, e1, h1⟩ := lb h
    obtain ⟨i, hi, rfl⟩ := ht.ty _ _ e1
    rw [mkTI_k] at h1
    have hyp : ∀ {S S' : St} {x y : AV} {r : Bool}, Rel C ρ x vx → Rel C ρ y vy → hypB tb (.eq t x y) S = some (r, S') → EqDone C w (d + 1) S S' t vx vy r := by
      intro S S' x y r hx hy h
      obtain ⟨⟨b, hb, hrun⟩, rfl⟩ := hypB_inv hh h
      injection hb with hb; subst hb
      exact ⟨rfl, rfl, fun D hD => hrun ρ vx vy hx hy D w (by omega)⟩
    have done : ∀ {S' : St} {r : Bool}, S' = S → (∀ D, (Op.equalIn (D + 1) t vx vy).run C.P w = .ok r w) → EqDone C w (d + 1) S S' t vx vy r := by
      intro S' r e hrun
      subst e
      refine ⟨rfl, rfl, fun D hD => ?_⟩
      obtain ⟨D, rfl⟩ : ∃ D', D = D' + 1 := ⟨D - 1, by omega⟩
      exact hrun D
    cases hk : kOf C.P t <;> rw [hk] at h1
    case other => cases x <;> cases y <;> exact (fail_inv h1).elim
    case bad => cases x <;> cases y <;> exact (fail_inv h1).elim
    case uptr => cases x <;> cases y <;> exact (fail_inv h1).elim
    case arr => cases x <;> cases y <;> exact (fail_inv h1).elim
    case bool =>
      have hu := kOf_bool hk
      cases x <;> cases y <;> try exact (fail_inv h1).elim
      obtain ⟨rfl, rfl⟩ := ret_inv h1
      simp only [Rel] at hx hy; subst hx; subst hy
      exact done rfl fun D => by simp [Op.equalIn, run_underlying hu]
    case int k =>
      have hu := kOf_int hk
      cases x <;> cases y <;> first
        | exact (fail_inv h1).elim
        | exact hyp hx hy h1
        | (obtain ⟨hke, h2⟩ := cond_inv h1
           obtain ⟨rfl, rfl⟩ := ret_inv h2
           have := kEq_eq hke
           subst this
           simp only [Rel] at hx hy; subst hx; subst hy
           exact done rfl fun D => by rw [run_equalIn_int w D t _ k _ _ hu, ieq_iff]; congr 1)
    case str =>
      have hu := kOf_str hk
      cases x <;> cases y <;> first
        | exact (fail_inv h1).elim
        | exact hyp hx hy h1
        | (obtain ⟨rfl, rfl⟩ := ret_inv h1
           simp only [Rel] at hx hy; obtain ⟨rfl, hx2⟩ := hx; obtain ⟨rfl, hy2⟩ := hy
           exact done rfl fun D => by rw [run_equalIn_string w D t _ _ hu, strEq hx2 hy2])
    case ptr e =>
      have hu := kOf_ptr hk
      cases x <;> cases y <;> first
        | exact (fail_inv h1).elim
        | (obtain ⟨rfl, rfl⟩ := ret_inv h1
           simp only [Rel] at hx hy
           first
             | (subst hx; subst hy; exact done rfl fun D => by simp [Op.equalIn, run_underlying hu]; done)
             | (subst hx; obtain ⟨r, _, rfl⟩ := hy; exact done rfl fun D => by simp [Op.equalIn, run_underlying hu]; done)
             | (subst hy; obtain ⟨r, _, rfl⟩ := hx; exact done rfl fun D => by simp [Op.equalIn, run_underlying hu]; done))
        | (obtain ⟨te, e2, h2⟩ := lb h1
           obtain ⟨ie, hie, rfl⟩ := ht.ty _ _ e2
           obtain ⟨hsz, h3⟩ := cond_inv' h2
           obtain ⟨rfl, rfl⟩ := ret_inv h3
           simp only [Rel] at hx hy
           subst hx; subst hy
           have hsz' : ie.size ≠ 0 := beq_false_inv hsz
           exact done rfl fun D => by
             simp [Op.equalIn, run_underlying hu, run_size hie, hsz', typeHandle, sameAddr]
             rw [Bool.eq_iff_iff]; simp [Nat.beq_eq, beq_iff_eq])
        | (obtain ⟨te, e2, h2⟩ := lb h1
           obtain ⟨ie, hie, rfl⟩ := ht.ty _ _ e2
           obtain ⟨hsz, h3⟩ := cond_inv' h2
           simp only [Rel] at hx hy
           obtain ⟨ra, hra, rfl⟩ := hx
           obtain ⟨rc, hrc, rfl⟩ := hy
           obtain ⟨rfl, hrun⟩ := ptrEq_ok (C := C) (w := w) hra hrc h3
           have hsz' : ie.size ≠ 0 := beq_false_inv hsz
           exact done rfl fun D => by simp [Op.equalIn, run_underlying hu, run_size hie, hsz', hrun])
    case slice e =>
      have hu := kOf_slice hk
      have hsl : ∀ {b o n c : Nat} {q : Bool} {v : Value}, Rel C ρ (.sl b o n c q) v → ∃ a n c, v = .slice (some a) n c := by
        intro b o n c q v hv
        cases q <;> simp only [Rel] at hv
        · obtain ⟨r, _, _, rfl⟩ := hv; exact ⟨_, _, _, rfl⟩
        · obtain ⟨r, a, _, _, rfl, _⟩ := hv; exact ⟨_, _, _, rfl⟩
      cases x <;> cases y <;> first
        | exact (fail_inv h1).elim
        | (obtain ⟨rfl, rfl⟩ := ret_inv h1
           first
             | (simp only [Rel] at hx hy; subst hx; subst hy; exact done rfl fun D => by simp [Op.equalIn, run_underlying hu]; done)
             | (obtain ⟨a, n, c, rfl⟩ := hsl hx; simp only [Rel] at hy; subst hy; exact done rfl fun D => by simp [Op.equalIn, run_underlying hu]; done)
             | (obtain ⟨a, n, c, rfl⟩ := hsl hy; simp only [Rel] at hx; subst hx; exact done rfl fun D => by simp [Op.equalIn, run_underlying hu]; done))
    case func =>
      obtain ⟨a, b, c, hu⟩ := kOf_func hk
      cases x <;> cases y <;> first
        | exact (fail_inv h1).elim
        | (obtain ⟨rfl, rfl⟩ := ret_inv h1
           simp only [Rel] at hx hy
           first
             | (subst hx; subst hy; exact done rfl fun D => by simp [Op.equalIn, run_underlying hu]; done)
             | (subst hx; obtain ⟨p, q, rfl, _⟩ := hy; exact done rfl fun D => by simp [Op.equalIn, run_underlying hu]; done)
             | (subst hy; obtain ⟨p, q, rfl, _⟩ := hx; exact done rfl fun D => by simp [Op.equalIn, run_underlying hu]; done))
    case iface b =>
      obtain ⟨ms, hu⟩ := kOf_iface hk
      cases x <;> cases y <;> first
        | exact (fail_inv h1).elim
        | (obtain ⟨rfl, rfl⟩ := ret_inv h1
           simp only [Rel] at hx hy
           first
             | (subst hx; obtain ⟨p, rfl, _⟩ := hy; exact done rfl fun D => by simp [Op.equalIn, run_underlying hu]; done)
             | (subst hy; obtain ⟨p, rfl, _⟩ := hx; exact done rfl fun D => by simp [Op.equalIn, run_underlying hu]; done))
        | (rename_i ta va tc vc
           simp only [Rel] at hx hy
           obtain ⟨xa, rfl, hxa⟩ := hx
           obtain ⟨xc, rfl, hxc⟩ := hy
           change (cond (Nat.beq ta tc) (bnd (lft (tb.ty.get ta)) fun tA => cond tA.cmp (eqT tb d ta va vc) fail) (ret false)) S = some (r, S') at h1
           cases hac : Nat.beq ta tc with
           | false =>
             rw [hac] at h1
             obtain ⟨rfl, rfl⟩ := ret_inv h1
             have := beq_false_inv hac
             exact done rfl fun D => eqI_ne hu this
           | true =>
             rw [hac] at h1
             have e := beq_inv hac
             subst e
             obtain ⟨te, e2, h2⟩ := lb h1
             obtain ⟨ie, hie, rfl⟩ := ht.ty _ _ e2
             obtain ⟨hcmp, h3⟩ := cond_inv h2
             obtain ⟨q1, q2, q3⟩ := ih hxa hxc h3
             refine ⟨q1, q2, fun D hD => ?_⟩
             obtain ⟨D, rfl⟩ : ∃ D', D = D' + 1 := ⟨D - 1, by omega⟩
             have hcmp : ie.comparable = true := hcmp
             rw [eqI_eq hu hie hcmp]; exact q3 D (by omega))
    case struct =>
      obtain ⟨fs, hu, hfl, hfo, hin⟩ := kOf_struct hk
      cases x <;> cases y <;> try exact (fail_inv h1).elim
      simp only [Rel] at hx hy
      obtain ⟨cs, rfl, hl⟩ := hx
      obtain ⟨ds, rfl, hm⟩ := hy
      obtain ⟨hes, h2⟩ := cond_inv h1
      have hes : eqsOf C.P t = true := hes
      have hso : C.P.stoodInHeld t = false := by
        simp only [eqsOf, hk, Bool.and_eq_true, Bool.not_eq_true'] at hes; exact hes.1
      have h2 : eqF (eqT tb d) _ _ ((fldsOf C.P t).map (mkFl C.P)) S = some (r, S') := h2
      rw [hfl] at h2
      obtain ⟨q1, q2, q3⟩ := eqF_ok ht (d := d) (fun hx hy h => ih hx hy h) hl hm fs.toList h2
      refine ⟨q1, q2, fun D hD => ?_⟩
      obtain ⟨D, rfl⟩ : ∃ D', D = D' + 1 := ⟨D - 1, by omega⟩
      rw [run_equalIn_struct w D t _ _ (by rw [hfo]; exact hu) hso, hfo]
      exact q3 D (by omega)
end
end Go.AX
