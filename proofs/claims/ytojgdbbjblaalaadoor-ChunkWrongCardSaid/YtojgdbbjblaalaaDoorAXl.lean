/- A part of the proof: an interpreter of the model's own code on partly known states, and that what it answers is what the program answers. No condition of its own. -/
import Derived.Test.YtojgdbbjblaalaaDoorAXk
set_option linter.unusedSimpArgs false
set_option linter.unusedVariables false
namespace Go.AX
open Go.RowKit (Below)
section
variable {C : Cx} {tb : Tab} {B : Nat} {ρ : Rho} {w : World} {S S' : St}
variable {f : Operand → AV} {g : Operand → Value}
theorem and_toNat (k : IntKind) (a c : Int) : ((BitVec.ofInt k.bits a &&& BitVec.ofInt k.bits c).toNat) = Nat.land (tn k a) (tn k c) := by
  rw [BitVec.toNat_and, toNat_ofInt, toNat_ofInt]; rfl
theorem or_toNat (k : IntKind) (a c : Int) : ((BitVec.ofInt k.bits a ||| BitVec.ofInt k.bits c).toNat) = Nat.lor (tn k a) (tn k c) := by
  rw [BitVec.toNat_or, toNat_ofInt, toNat_ofInt]; rfl
theorem xor_toNat (k : IntKind) (a c : Int) : ((BitVec.ofInt k.bits a ^^^ BitVec.ofInt k.bits c).toNat) = Nat.xor (tn k a) (tn k c) := by
  rw [BitVec.toNat_xor, toNat_ofInt, toNat_ofInt]; rfl
theorem not_toNat (k : IntKind) (a c : Int) : ((BitVec.ofInt k.bits a &&& ~~~ BitVec.ofInt k.bits c).toNat) = Nat.land (tn k a) (Nat.sub (2 ^ k.bits - 1) (tn k c)) := by
  rw [BitVec.toNat_and, BitVec.toNat_not, toNat_ofInt, toNat_ofInt]; rfl
theorem binI_ok {o : BinOp} {k : IntKind} {a c : Int} {v : AV} (h : binI o k a c S = some (v, S')) (hns : o ≠ .shl ∧ o ≠ .shr) : S' = S ∧ ∃ y, Rel C ρ v y ∧ ∀ t w, (binOp o t (.int k a) (.int k c)).run C.P w = .ok y w := by
  have mk : ∀ {v' : AV} {y : Value}, ret v' S = some (v, S') → Rel C ρ v' y → (∀ t w, (binOp o t (.int k a) (.int k c)).run C.P w = .ok y w) → S' = S ∧ ∃ y, Rel C ρ v y ∧ ∀ t w, (binOp o t (.int k a) (.int k c)).run C.P w = .ok y w := by
    intro v' y h hr hrun; obtain ⟨rfl, rfl⟩ := ret_inv h; exact ⟨rfl, y, hr, hrun⟩
  cases o <;> simp only [binI] at h
  case add => exact mk h (y := .int k (k.wrap (a + c))) (by simp only [Rel, mkI, wrp_eq]) fun t w => by simp [binOp, Op.intArith]
  case sub => exact mk h (y := .int k (k.wrap (a - c))) (by simp only [Rel, mkI, wrp_eq]) fun t w => by simp [binOp, Op.intArith]
  case mul => exact mk h (y := .int k (k.wrap (a * c))) (by simp only [Rel, mkI, wrp_eq]) fun t w => by simp [binOp, Op.intArith]
  case quo =>
    obtain ⟨hz, h1⟩ := cond_inv' h
    have hz : c ≠ 0 := by rw [ieq_iff] at hz; simpa using hz
    exact mk h1 (y := .int k (k.wrap (a.tdiv c))) (by simp only [Rel, mkI, wrp_eq]) fun t w => by simp [binOp, Op.intDiv, hz]
  case rem =>
    obtain ⟨hz, h1⟩ := cond_inv' h
    have hz : c ≠ 0 := by rw [ieq_iff] at hz; simpa using hz
    exact mk h1 (y := .int k (a.tmod c)) (by simp only [Rel]) fun t w => by simp [binOp, Op.intDiv, hz]
  case and => exact mk h (y := .int k (k.wrap (Nat.land (tn k a) (tn k c) : Nat))) (by simp only [Rel, mkI, wrp_eq]; rfl) fun t w => by simp only [binOp, ne_eq, not_true_eq_false, if_false, Op.intBits, and_toNat]; rfl
  case or => exact mk h (y := .int k (k.wrap (Nat.lor (tn k a) (tn k c) : Nat))) (by simp only [Rel, mkI, wrp_eq]; rfl) fun t w => by simp only [binOp, ne_eq, not_true_eq_false, if_false, Op.intBits, or_toNat]; rfl
  case xor => exact mk h (y := .int k (k.wrap (Nat.xor (tn k a) (tn k c) : Nat))) (by simp only [Rel, mkI, wrp_eq]; rfl) fun t w => by simp only [binOp, ne_eq, not_true_eq_false, if_false, Op.intBits, xor_toNat]; rfl
  case andNot => exact mk h (y := .int k (k.wrap (Nat.land (tn k a) (Nat.sub (2 ^ k.bits - 1) (tn k c)) : Nat))) (by simp only [Rel, mkI, wrp_eq]; rfl) fun t w => by simp only [binOp, ne_eq, not_true_eq_false, if_false, Op.intBits, not_toNat]; rfl
  case lss => exact mk h (y := .bool (decide (a < c))) (by simp only [Rel, ilt_iff]) fun t w => by simp [binOp, Op.intCmp]
  case leq => exact mk h (y := .bool (decide (a ≤ c))) (by simp only [Rel, ile_iff]) fun t w => by simp [binOp, Op.intCmp]
  case gtr => exact mk h (y := .bool (decide (c < a))) (by simp only [Rel, ilt_iff]) fun t w => by simp [binOp, Op.intCmp]
  case geq => exact mk h (y := .bool (decide (c ≤ a))) (by simp only [Rel, ile_iff]) fun t w => by simp [binOp, Op.intCmp]
  case eql => exact mk h (y := .bool (decide (a = c))) (by simp only [Rel, ieq_iff]) fun t w => by simp [binOp, Op.intCmp]; rfl
  case neq => exact mk h (y := .bool (!decide (a = c))) (by simp only [Rel, ieq_iff]) fun t w => by simp [binOp, Op.intCmp]; rfl
  case shl => exact absurd rfl hns.1
  case shr => exact absurd rfl hns.2
theorem strL_eq (len n : Nat) : strL len n = (strB len n).map UInt8.toNat := by
  simp only [strL, strB, List.map_map]
  apply List.map_congr_left
  intro j _
  simp [Function.comp, Nat.mod_eq_of_lt (byteAt_lt n j)]
theorem bytesLess_eq : ∀ (x y : List UInt8), bytesLess (x.map UInt8.toNat) (y.map UInt8.toNat) = Op.bytesLess x y
  | _, [] => by simp [bytesLess, Op.bytesLess]
  | [], _ :: _ => by simp [bytesLess, Op.bytesLess]
  | a :: x, b :: y => by
    simp only [List.map_cons, bytesLess, Op.bytesLess, bytesLess_eq x y]
    congr 1
    · rw [Bool.eq_iff_iff]
      simp only [decide_eq_true_eq, UInt8.lt_iff_toNat_lt]
      exact ⟨fun h => Nat.le_of_ble_eq_true h, fun h => blt_true h⟩
    · congr 1
      rw [Bool.eq_iff_iff]
      simp only [Nat.beq_eq, beq_iff_eq]
      exact ⟨fun h => UInt8.toNat_inj.1 h, fun h => by rw [h]⟩
theorem sless_eq (k a l c : Nat) : sless k a l c = Op.bytesLess (⟨(strB k a).toArray⟩ : ByteArray).toList (⟨(strB l c).toArray⟩ : ByteArray).toList := by
  rw [ByteArray.toList_eq, ByteArray.toList_eq, sless, strL_eq, strL_eq, bytesLess_eq]
theorem eqGuard_plain {o : BinOp} {t : Nat} {x y : Operand} {a b : Value} (h : (∃ k n, a = .int k n) ∨ (∃ s, a = .string s)) (w : World) : (eqGuard o t x y a b).run C.P w = .ok () w := by
  rcases h with ⟨k, n, rfl⟩ | ⟨s, rfl⟩ <;> cases o <;> simp [eqGuard]
theorem eqGuard_nil {o : BinOp} {t : Nat} {x y : Operand} (h : (isC x || isC y) = true) (w : World) : (eqGuard o t x y .nilIface .nilIface).run C.P w = .ok () w := by
  cases x <;> cases y <;> first | (cases h; done) | (cases o <;> simp [eqGuard])
theorem okE_spec {a : AV} {vx : Value} (h : okE a = true) (hx : Rel C ρ a vx) : (∀ k n, vx ≠ .int k n) ∧ (∀ s, vx ≠ .string s) ∧ (∀ k n, vx ≠ .float k n) ∧ (∀ k n m, vx ≠ .complex k n m) ∧ (∀ cs, vx = .agg cs → isAg a = true) ∧ (vx = .nilIface → isNi a = true) := by
  cases a <;> try (cases h; done)
  case sl b o n c q =>
    cases q <;> simp only [Rel] at hx
    · obtain ⟨r, _, _, rfl⟩ := hx; simp
    · obtain ⟨r, a, _, _, rfl, _⟩ := hx; simp
  case p => simp only [Rel] at hx; obtain ⟨r, _, rfl⟩ := hx; simp
  case ifc => simp only [Rel] at hx; obtain ⟨r, rfl, _⟩ := hx; simp
  case ag => simp only [Rel] at hx; obtain ⟨r, rfl, _⟩ := hx; simp [isAg]
  case fn => simp only [Rel] at hx; obtain ⟨r, q, rfl, _⟩ := hx; simp
  case ni => simp only [Rel] at hx; subst hx; simp [isNi]
  all_goals (simp only [Rel] at hx; subst hx; simp [typeHandle])
def binGoal (C : Cx) (ρ : Rho) (w : World) (S S' : St) (o : BinOp) (t : Nat) (x y : Operand) (vx vy : Value) (v : AV) : Prop :=
  S'.heap = S.heap ∧ S'.next = S.next ∧ ∃ z, Rel C ρ v z ∧ (do eqGuard o t x y vx vy; binOp o t vx vy : Sem Value).run C.P w = .ok z w
theorem bin_str {o : BinOp} {t : Nat} {x y : Operand} {k a l c : Nat} {v : AV} {z : Value} (h : ret v S = some (v, S)) (hz : Rel C ρ v z) (hrun : (Op.stringOp o ⟨(strB k a).toArray⟩ ⟨(strB l c).toArray⟩).run C.P w = .ok z w) :
    binGoal C ρ w S S o t x y (.string ⟨(strB k a).toArray⟩) (.string ⟨(strB l c).toArray⟩) v := by
  refine ⟨rfl, rfl, z, hz, ?_⟩
  simp only [Sem.run_bind, eqGuard_plain (C := C) (.inr ⟨_, rfl⟩), Result.andThen_ok]
  cases o <;> simpa [binOp] using hrun
theorem binOp_eql {P : Program} {t : Nat} {vx vy : Value} (h : (∀ k n, vx ≠ .int k n) ∧ (∀ s, vx ≠ .string s) ∧ (∀ k n, vx ≠ .float k n) ∧ (∀ k n m, vx ≠ .complex k n m)) (w : World) :
    (binOp .eql t vx vy).run P w = ((Op.equal t vx vy).run P w).andThen fun b w' => .ok (.bool b) w' := by
  obtain ⟨h1, h2, h3, h4⟩ := h
  cases vx <;> first
    | (exact absurd rfl (h1 _ _)) | (exact absurd rfl (h2 _)) | (exact absurd rfl (h3 _ _)) | (exact absurd rfl (h4 _ _ _)) | (cases vy <;> simp [binOp])
theorem binOp_neq {P : Program} {t : Nat} {vx vy : Value} (h : (∀ k n, vx ≠ .int k n) ∧ (∀ s, vx ≠ .string s) ∧ (∀ k n, vx ≠ .float k n) ∧ (∀ k n m, vx ≠ .complex k n m)) (w : World) :
    (binOp .neq t vx vy).run P w = ((Op.equal t vx vy).run P w).andThen fun b w' => .ok (.bool (!b)) w' := by
  obtain ⟨h1, h2, h3, h4⟩ := h
  cases vx <;> first
    | (exact absurd rfl (h1 _ _)) | (exact absurd rfl (h2 _)) | (exact absurd rfl (h3 _ _)) | (exact absurd rfl (h4 _ _ _)) | (cases vy <;> simp [binOp])
theorem isAg_eqs (ht : TyOk C.P tb) {t d : Nat} {a c : AV} {r : Bool} (ha : isAg a = true) (h : eqT tb d t a c S = some (r, S')) : C.P.eqGuardType C.P.depth t = false := by
  cases d with
  | zero => exact (fail_inv h).elim
  | succ d =>
    cases a <;> try (cases ha; done)
    simp only [eqT] at h
    obtain ⟨ti, e1, h1⟩ := lb h
    obtain ⟨i, hi, rfl⟩ := ht.ty _ _ e1
    rw [mkTI_k] at h1
    cases hk : kOf C.P t <;> rw [hk] at h1 <;> cases c <;> try exact (fail_inv h1).elim
    obtain ⟨hes, _⟩ := cond_inv h1
    have hes : eqsOf C.P t = true := hes
    simp only [eqsOf, hk, Bool.and_eq_true, Bool.not_eq_true'] at hes
    exact hes.2
theorem isNi_eqs (ht : TyOk C.P tb) {t d : Nat} {c : AV} {r : Bool} (h : eqT tb d t .ni c S = some (r, S')) : ∃ u a, c = .ifc u a := by
  cases d with
  | zero => exact (fail_inv h).elim
  | succ d =>
    simp only [eqT] at h
    obtain ⟨ti, e1, h1⟩ := lb h
    obtain ⟨i, hi, rfl⟩ := ht.ty _ _ e1
    rw [mkTI_k] at h1
    cases hk : kOf C.P t <;> rw [hk] at h1 <;> cases c <;> first | exact (fail_inv h1).elim | exact ⟨_, _, rfl⟩
theorem eqI_nil {P : Program} {w : World} {t D : Nat} {ms : Array (String × TypeId)} (hu : P.underlying t = some (.interface ms)) : (Op.equalIn (D + 1) t .nilIface .nilIface).run P w = .ok true w := by
  simp [Op.equalIn, run_underlying hu]
theorem eqGuard_other {P : Program} {o : BinOp} {t : Nat} {x y : Operand} {vx vy : Value} (h1 : ∀ xs, vx ≠ .agg xs) (h2 : vx ≠ .nilIface) (w : World) : (eqGuard o t x y vx vy).run P w = .ok () w := by
  have : ∀ (m : Sem Unit), (match vx, vy with | .nilIface, .nilIface => m | .agg _, .agg _ => m | _, _ => (pure () : Sem Unit)) = pure () := fun m => by
    cases vx <;> first | rfl | exact absurd rfl h2 | exact absurd rfl (h1 _)
  unfold eqGuard
  cases o <;> first
    | rfl
    | (cases vx <;> first | exact absurd rfl h2 | exact absurd rfl (h1 _) | rfl)
theorem bin_eq (ht : TyOk C.P tb) (hh : HypOk C tb) {t : Nat} {x y : Operand} {a c : AV} {vx vy : Value} {r : Bool} (hx : Rel C ρ a vx) (hy : Rel C ρ c vy)
    (h : eqTop tb t (isC x || isC y) a c S = some (r, S')) :
    binGoal C ρ w S S' .eql t x y vx vy (.b r) ∧ binGoal C ρ w S S' .neq t x y vx vy (.b (!r)) := by
  unfold eqTop at h
  obtain ⟨hok, h1⟩ := cond_inv h
  obtain ⟨s1, s2, s3, s4, s5, s6⟩ := okE_spec hok hx
  have fin : ∀ (hg : ∀ o, (eqGuard o t x y vx vy).run C.P w = .ok () w) (he : (Op.equal t vx vy).run C.P w = .ok r w) (e1 : S'.heap = S.heap) (e2 : S'.next = S.next),
      binGoal C ρ w S S' .eql t x y vx vy (.b r) ∧ binGoal C ρ w S S' .neq t x y vx vy (.b (!r)) := by
    intro hg he e1 e2
    refine ⟨⟨e1, e2, .bool r, by simp only [Rel], ?_⟩, ⟨e1, e2, .bool (!r), by simp only [Rel], ?_⟩⟩
    · simp only [Sem.run_bind, hg, Result.andThen_ok, binOp_eql ⟨s1, s2, s3, s4⟩, he]
    · simp only [Sem.run_bind, hg, Result.andThen_ok, binOp_neq ⟨s1, s2, s3, s4⟩, he]
  cases hn : (isNi a && isNi c) with
  | true =>
    rw [hn] at h1
    obtain ⟨hcx, h2⟩ := cond_inv h1
    obtain ⟨ti, e1, h3⟩ := lb h2
    obtain ⟨i, hi, rfl⟩ := ht.ty _ _ e1
    rw [mkTI_k] at h3
    cases hk : kOf C.P t <;> rw [hk] at h3 <;> try exact (fail_inv h3).elim
    obtain ⟨ms, hu⟩ := kOf_iface hk
    obtain ⟨rfl, rfl⟩ := ret_inv h3
    rw [Bool.and_eq_true] at hn
    cases a <;> try (cases hn.1; done)
    cases c <;> try (cases hn.2; done)
    simp only [Rel] at hx hy; subst hx; subst hy
    exact fin (fun o => eqGuard_nil hcx w) (eqI_nil (D := 9999) hu) rfl rfl
  | false =>
    rw [hn] at h1
    simp only [cond_false] at h1
    obtain ⟨q1, q2, q3⟩ := eqT_ok (C := C) (w := w) ht hh 12 hx hy h1
    refine fin (fun o => ?_) (q3 10000 (by omega)) q1 q2
    by_cases hag : ∃ xs, vx = .agg xs
    · obtain ⟨xs, rfl⟩ := hag
      have hg := isAg_eqs ht (s5 _ rfl) h1
      cases vy <;> first | exact run_eqGuard_agg w o t x y _ _ hg | (cases o <;> simp [eqGuard])
    · by_cases hni : vx = .nilIface
      · subst hni
        have ha := s6 rfl
        cases a <;> try (cases ha; done)
        obtain ⟨u, a', rfl⟩ := isNi_eqs ht h1
        simp only [Rel] at hy
        obtain ⟨z, rfl, _⟩ := hy
        cases o <;> simp [eqGuard]
      · exact eqGuard_other (fun xs e => hag ⟨xs, e⟩) hni w
end
end Go.AX
