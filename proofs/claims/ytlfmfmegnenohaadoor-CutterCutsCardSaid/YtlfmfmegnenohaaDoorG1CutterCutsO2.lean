/- A part of the proof: an interpreter of the model's own code on partly known states, and that what it answers is what the program answers. No condition of its own. -/
import Derived.Test.YtlfmfmegnenohaaDoorG1CutterCutsO
set_option maxRecDepth 100000
set_option linter.unusedVariables false
set_option linter.unusedSimpArgs false
set_option maxHeartbeats 4000000
namespace Go.Proofs.YtlfmfmegnenohaaDoor.cutterCuts
open Go Go.AX Go.Proofs Go.Proofs.YtlfmfmegnenohaaDoor
variable {nu : Nat → Value} {one : ∀ i, i < 1000000 → (nu i).oneCell' = true} {E' : Cx} {x' : Ex} {e' : LA} {h' : LE}
theorem kTabK {C : Cx} {x r : AV} {l : List AV} {k : IntKind} {a : Int} {j : Nat} (hx : Is C x (.int k a)) (ha : a = (j : Int)) (hl : l[j]? = some r) : HOk C (.tab l x) r := fun ρ vx g => by
  have e := hx ρ vx g; subst e; subst ha
  exact ⟨k, j, r, rfl, hl, fun ρ' v h => h⟩
def okR (b : Int) (z : List RC) : Prop := ∀ r, r ∈ z → isRB r ∧ (r.2.2.1.length : Int) ≤ b
theorem nthR_mem {z : List RC} {i : Int} (h0 : 0 ≤ i) (h1 : i < (z.length : Int)) : nthR z i.toNat ∈ z := by
  have hi : i.toNat < z.length := by omega
  rw [nthR, List.getD_eq_getElem?_getD, List.getElem?_eq_getElem hi]; exact List.getElem_mem hi
theorem okR_snoc {b : Int} {z : List RC} {i : Int} (h0 : 0 ≤ i) (h1 : i < (z.length : Int)) (h : okR b (z.take i.toNat)) (a : isRB (nthR z i.toNat)) (c : ((nthR z i.toNat).2.2.1.length : Int) ≤ b) : okR b (z.take (i + 1).toNat) := by
  rw [takeR h0 h1]; intro r hr
  rcases List.mem_append.1 hr with hr | hr
  · exact h r hr
  · rw [List.mem_singleton.1 hr]; exact ⟨a, c⟩
theorem okR_end {b : Int} {z : List RC} {i : Int} (h0 : 0 ≤ i) (h1 : ¬ i < (z.length : Int)) (h : okR b (z.take i.toNat)) : okR b z := by
  rw [List.take_of_length_le (by omega)] at h; exact h
theorem rbS_snoc {z : List RC} {i : Int} {T : LB} (h0 : 0 ≤ i) (h1 : i < (z.length : Int)) (h : T = rbS (z.take i.toNat)) : T ++ rbO (nthR z i.toNat) = rbS (z.take (i + 1).toNat) := by
  subst h; rw [takeR h0 h1, rbS, rbS, List.flatMap_append, List.flatMap_cons, List.flatMap_nil, List.append_nil]
theorem rbS_end {z : List RC} {i : Int} {T : LB} (h0 : 0 ≤ i) (h1 : ¬ i < (z.length : Int)) (h : T = rbS (z.take i.toNat)) : T = rbS z := by
  rw [List.take_of_length_le (by omega)] at h; exact h
theorem rbO_len {b : Int} {r : RC} (hb : 0 ≤ b) (h : isRB r → (r.2.2.1.length : Int) ≤ b) : ((rbO r).length : Int) ≤ 263 + b := by
  unfold rbO; split
  · rename_i a; rw [rbP_len]; have := h a; obtain ⟨_, _, _, _, _, _, _⟩ := a; omega
  · simp; omega
theorem rbS_len {b : Int} (hb : 0 ≤ b) : ∀ z : List RC, okR b z → ((rbS z).length : Int) ≤ (263 + b) * z.length
  | [], _ => by simp [rbS]
  | r :: z, h => by
    have h1 := rbS_len hb z fun x hx => h x (List.mem_cons_of_mem _ hx)
    have h2 := rbO_len (b := b) (r := r) hb fun _ => (h r (List.mem_cons_self ..)).2
    have e : rbS (r :: z) = rbO r ++ rbS z := List.flatMap_cons
    rw [e, List.length_append, List.length_cons, Int.natCast_add, Int.natCast_add, Int.mul_add]; omega
theorem cz {m k Tk : Int} {s : LB} (h : rck m s = k) (hk : ¬ k = 0) (h3 : (cutS m s).2.2 = Tk) (hn : ¬ Tk = k) : False := by
  rw [cut_end (by rw [h]; exact hk)] at h3
  exact hn (h3.symm.trans h)
def rcC (s : LB) : LB := (s.drop 8).take (Int.toNat (bt s 4 * 256 + bt s 5))
theorem rcC_mid {s : LB} {P Q : Int} (hP : P = 8) (hQ : Q = 8 + (bt s 4 * 256 + bt s 5)) : rcC s = (s.drop P.toNat).take (Q - P).toNat := by
  subst hP; subst hQ; unfold rcC; rw [show 8 + (bt s 4 * 256 + bt s 5) - 8 = bt s 4 * 256 + bt s 5 by omega]; rfl
theorem rcC_len {s : LB} (h : 8 + (bt s 4 * 256 + bt s 5) ≤ (s.length : Int)) : ((rcC s).length : Int) = bt s 4 * 256 + bt s 5 := by
  have := bt_lo s 4; have := bt_lo s 5
  unfold rcC; rw [List.length_take, List.length_drop]; omega
section
variable {m n k : Int} {s rest : LB} {o To : List RC} {Tr : LB} {Tk : Int}
theorem cu_rec (h : rck m s = 0) (hr : rest = s.drop (Int.toNat (rsz s))) (h1 : o ++ (cutS m s).1 = To) (h2 : (cutS m s).2.1 = Tr) (h3 : (cutS m s).2.2 = Tk) : (o ++ [(bt s 1, bt s 2 * 256 + bt s 3, rcC s, bt s 6)]) ++ (cutS m rest).1 = To ∧ (cutS m rest).2.1 = Tr ∧ (cutS m rest).2.2 = Tk := by
  subst hr
  rw [cut_rec h] at h1 h2 h3
  exact ⟨by rw [List.append_assoc]; exact h1, h2, h3⟩
theorem cu_end (h : rck m s = k) (hk : ¬ k = 0) (h1 : o ++ (cutS m s).1 = To) (h2 : (cutS m s).2.1 = Tr) (h3 : (cutS m s).2.2 = Tk) : o = To ∧ s = Tr ∧ k = Tk := by
  rw [cut_end (by rw [h]; exact hk)] at h1 h2 h3
  exact ⟨by rw [List.append_nil] at h1; exact h1, h2, h ▸ h3⟩
theorem rck12 (h1 : 6 ≤ (s.length : Int)) (h2 : bt s 0 = 1) (h3 : m < bt s 4 * 256 + bt s 5) : rck m s = 12 := by
  unfold rck; rw [if_pos ⟨by omega, h2, h3⟩]
theorem rck13 (h1 : 1 ≤ (s.length : Int)) (h2 : ¬ bt s 0 = 1) : rck m s = 13 := by
  unfold rck; rw [if_neg (fun e => h2 e.2.1), if_pos ⟨by omega, h2⟩]
theorem rck11 (h0 : (s.length : Int) = 0 ∨ bt s 0 = 1) (h1 : (s.length : Int) < 6 ∨ ¬ m < bt s 4 * 256 + bt s 5) (h2 : (s.length : Int) < 8 ∨ (s.length : Int) < 8 + bt s 4 * 256 + bt s 5 + bt s 6) : rck m s = 11 :=
  rck_lack (by omega) (by rcases h1 with h | h; exact .inl (by omega); exact .inr h) (by rcases h2 with h | h; exact .inl (by omega); exact .inr (by unfold rsz; exact h))
theorem rck10 (h1 : 8 ≤ (s.length : Int)) (h2 : bt s 0 = 1) (h3 : ¬ m < bt s 4 * 256 + bt s 5) (h4 : ¬ (s.length : Int) < 8 + bt s 4 * 256 + bt s 5 + bt s 6) (h5 : bt s 1 = 0) : rck m s = 10 := by
  unfold rck; rw [if_neg (fun e => h3 e.2.2), if_neg (fun e => e.2 h2), if_neg (by omega), if_neg (by unfold rsz; omega), if_pos h5]
theorem rck00 (h1 : 8 ≤ (s.length : Int)) (h2 : bt s 0 = 1) (h3 : ¬ m < bt s 4 * 256 + bt s 5) (h4 : ¬ (s.length : Int) < 8 + bt s 4 * 256 + bt s 5 + bt s 6) (h5 : ¬ bt s 1 = 0) : rck m s = 0 :=
  rck_of (by omega) h2 h3 (by unfold rsz; omega) h5
end
theorem cs_L {a b z : List RC} (h : a ++ b = z) (ha : a.length = 0) : b = z := by rw [List.eq_nil_of_length_eq_zero ha] at h; exact h
theorem cs_R {a b z : List RC} (h : a ++ b = z) (hb : b.length = 0) : a = z := by rw [List.eq_nil_of_length_eq_zero hb, List.append_nil] at h; exact h
theorem cs_z {z : List RC} (h : okR 100 z) : ∀ r, r ∈ z → isRB r ∧ (r.2.2.1.length : Int) ≤ 200 := fun r hr => ⟨(h r hr).1, by have := (h r hr).2; omega⟩
theorem cs_one {z : List RC} {k : Nat} (h : okR 100 z) : (cutS 200 ((rbS z).take k)).2.2 = 11 := cut_front (z := z) (cs_z h) (List.take_append_drop _ _)
theorem cs_two {z : List RC} {k : Nat} {c : LB} {kd : Int} (h : okR 100 z) (hc : cutS 200 c = ([], c, kd)) : (cutS 200 ((rbS z).take k)).1 ++ (cutS 200 ((cutS 200 ((rbS z).take k)).2.1 ++ ((rbS z).drop k ++ c))).1 = z ∧ (cutS 200 ((cutS 200 ((rbS z).take k)).2.1 ++ ((rbS z).drop k ++ c))).2.2 = kd := by
  have h2 := cut_app (b := (rbS z).drop k ++ c) _ (cs_one (k := k) h)
  rw [← List.append_assoc, List.take_append_drop, cut_rbS z (cs_z h), hc, List.append_nil] at h2
  exact ⟨(congrArg Prod.fst h2).symm, by rw [← congrArg Prod.snd h2]⟩
theorem cs_nil {c : LB} {kd : Int} (hc : cutS 200 c = ([], c, kd)) : (cutS 200 c).1 = [] ∧ (cutS 200 c).2.2 = kd := by rw [hc]; exact ⟨rfl, rfl⟩
theorem cs_need {r c : LB} {kd : Int} (h1 : rck 200 r = 11) (hk : (cutS 200 (r ++ c)).2.2 = kd) (h : ¬ kd = 11) : (r.length = 0 → 1 ≤ ((r ++ c).length : Int)) ∧ (1 ≤ r.length → r.length < 6 → 6 ≤ ((r ++ c).length : Int)) ∧ (6 ≤ r.length → r.length < 8 → 8 ≤ ((r ++ c).length : Int)) ∧ (8 ≤ r.length → 8 + bt r 4 * 256 + bt r 5 + bt r 6 ≤ ((r ++ c).length : Int)) := by
  by_cases hh : ((r ++ c).length : Int) < ndS r
  · have h2 := nd_rest h1 c hh
    rw [cut_end (by rw [h2]; decide), h2] at hk
    exact absurd hk.symm h
  · unfold ndS rsz at hh
    refine ⟨fun a => ?_, fun a b => ?_, fun a b => ?_, fun a => ?_⟩
    · rw [if_pos a] at hh; omega
    · rw [if_neg (by omega), if_pos b] at hh; omega
    · rw [if_neg (by omega), if_neg (by omega), if_pos b] at hh; omega
    · rw [if_neg (by omega), if_neg (by omega), if_neg (by omega)] at hh; omega
theorem cs_11 {a : LB} (h : (cutS 200 a).2.2 = 11) : rck 200 (cutS 200 a).2.1 = 11 := by rw [← (cut_stuck a).2]; exact h
theorem cs_b0 {t : LB} : cutS 200 ([u8 7] ++ t) = ([], [u8 7] ++ t, 13) := by
  have h : rck 200 ([u8 7] ++ t) = 13 := rck13 (by simp; omega) (by show ¬ (7 : Int) = 1; decide)
  rw [cut_end (by rw [h]; decide), h]
theorem cs_b1 {t : LB} : cutS 200 ([u8 1, u8 6, u8 0, u8 1, u8 1, u8 0] ++ t) = ([], [u8 1, u8 6, u8 0, u8 1, u8 1, u8 0] ++ t, 12) := by
  have h : rck 200 ([u8 1, u8 6, u8 0, u8 1, u8 1, u8 0] ++ t) = 12 := rck12 (by simp; omega) rfl (by show (200 : Int) < 1 * 256 + 0; decide)
  rw [cut_end (by rw [h]; decide), h]
theorem cs_b2 {t : LB} : cutS 200 ([u8 1, u8 0, u8 0, u8 1, u8 0, u8 0, u8 0, u8 0] ++ t) = ([], [u8 1, u8 0, u8 0, u8 1, u8 0, u8 0, u8 0, u8 0] ++ t, 10) := by
  have h : rck 200 ([u8 1, u8 0, u8 0, u8 1, u8 0, u8 0, u8 0, u8 0] ++ t) = 10 := rck10 (by simp; omega) rfl (by show ¬ (200 : Int) < 0 * 256 + 0; decide) (by show ¬ _ < 8 + (0 : Int) * 256 + 0 + 0; simp; omega) rfl
  rw [cut_end (by rw [h]; decide), h]
theorem rsz_rbP {r : RC} {t : LB} (h : isRB r) : rsz (rbP r ++ t) = ((rbP r).length : Int) := by
  obtain ⟨e0, e1, e2, e3, e4⟩ := rbP_bt (b := t) h
  have hl := rbP_len r
  obtain ⟨h1, h2, h3, h4, h5, h6, h7⟩ := h
  unfold rsz; omega
theorem cs_pre {m : Int} : ∀ (z : List RC) (a b : LB), (∀ r, r ∈ z → isRB r ∧ (r.2.2.1.length : Int) ≤ m) → a ++ b = rbS z → a = rbS (cutS m a).1 ++ (cutS m a).2.1
  | [], a, b, _, h => by
    have ha : a = [] := (List.append_eq_nil_iff.1 h).1
    subst ha; rw [cut_nil]; rfl
  | r :: z, a, b, hz, h => by
    obtain ⟨h1, h2⟩ := hz r (List.mem_cons_self ..)
    have e : rbS (r :: z) = rbP r ++ rbS z := by unfold rbS; rw [List.flatMap_cons, rbO, if_pos h1]
    rw [e] at h
    by_cases hl : (rbP r).length ≤ a.length
    · have ha : a = rbP r ++ a.drop (rbP r).length := by
        have := congrArg (List.take (rbP r).length) h
        rw [List.take_append_of_le_length hl, List.take_left] at this
        conv => lhs; rw [← List.take_append_drop (rbP r).length a, this]
      generalize a.drop (rbP r).length = t at ha
      subst ha
      rw [List.append_assoc] at h
      have ih := cs_pre z t b (fun x hx => hz x (List.mem_cons_of_mem _ hx)) (List.append_cancel_left h)
      obtain ⟨c1, c2, c3⟩ := rbP_cut (m := m) (b := t) h1 h2
      rw [cut_rec c1, c2, c3]
      show rbP r ++ t = rbS (r :: (cutS m t).1) ++ (cutS m t).2.1
      have e2 : rbS (r :: (cutS m t).1) = rbP r ++ rbS (cutS m t).1 := by unfold rbS; rw [List.flatMap_cons, rbO, if_pos h1]
      rw [e2, List.append_assoc, ← ih]
    · have hk : ¬ rck m a = 0 := fun h0 => by
        obtain ⟨g1, _, _, g4, _⟩ := rck_zero h0
        have g5 := rsz_app (b := b) g1
        rw [h, rsz_rbP h1] at g5
        omega
      rw [cut_end hk]; rfl
theorem cs_len {z : List RC} {k : Nat} {b : List RC} (h : okR 100 z) (hb : (cutS 200 ((rbS z).take k)).1 ++ b = z) : ((cutS 200 ((rbS z).take k)).1.length = 0 → (cutS 200 ((rbS z).take k)).2.1.length = ((rbS z).take k).length) ∧ (b.length = 0 → (cutS 200 ((rbS z).take k)).2.1.length = 0) := by
  have hp := congrArg List.length (cs_pre z _ _ (cs_z h) (List.take_append_drop k (rbS z)))
  rw [List.length_append] at hp
  refine ⟨fun h0 => ?_, fun h0 => ?_⟩
  · rw [List.eq_nil_of_length_eq_zero h0] at hp
    simp only [rbS, List.flatMap_nil, List.length_nil] at hp ⊢
    omega
  · rw [cs_R hb h0] at hp
    have : ((rbS z).take k).length ≤ (rbS z).length := by rw [List.length_take]; omega
    omega
theorem kRa0 {C : Cx} {α : Type} {f : α → List Value} {l : List α} {x r : AV} (hx : Is C x (rwG f l)) (hr : Den C r (rwG f l)) : HOk C (.ra x []) r := by
  intro ρ vx vs g1 g2
  have e1 := hx ρ vx g1; subst e1
  simp only [RelL] at g2; subst g2
  refine ⟨l.flatMap f, rfl, ?_⟩
  have h := hr ρ
  unfold rwG at h
  rw [List.append_nil]; exact h
theorem den0 {C : Cx} {l : LB} {d : Int} (h : d ≤ 0) : Den C (.s 0 0) (St' (l.take d.toNat)) := by
  rw [show d.toNat = 0 by omega]; exact denS (len := 0) (n := 0) (by decide)
theorem cs_zero {z : List RC} {k : Nat} {c : LB} {kd : Int} (hk : k = 0) (h : okR 100 z) (hc : cutS 200 c = ([], c, kd)) : (cutS 200 []).1 ++ (cutS 200 ((cutS 200 []).2.1 ++ ((rbS z).drop k ++ c))).1 = z ∧ (cutS 200 ((cutS 200 []).2.1 ++ ((rbS z).drop k ++ c))).2.2 = kd := by
  subst hk; exact cs_two (k := 0) h hc
theorem cs_e {c : LB} {kd : Int} (hc : cutS 200 c = ([], c, kd)) : ((cutS 200 ((cutS 200 []).2.1 ++ c)).1).length = 0 ∧ (cutS 200 ((cutS 200 []).2.1 ++ c)).2.2 = kd := by
  rw [cut_nil]; show ((cutS 200 c).1).length = 0 ∧ (cutS 200 c).2.2 = kd; rw [hc]; exact ⟨rfl, rfl⟩
theorem cs_n11 : (cutS 200 []).2.2 = 11 ∧ ((cutS 200 []).1).length = 0 ∧ ((cutS 200 []).2.1).length = 0 := by rw [cut_nil]; exact ⟨rfl, rfl, rfl⟩
def kA (z : List RC) (a : Int) : Int := min ((rbS z).length : Int) a
def tA (z : List RC) (a : Int) : LB := (rbS z).take (Int.toNat (kA z a))
def dA (z : List RC) (a : Int) : LB := (rbS z).drop (Int.toNat (kA z a))
def cA (z : List RC) (a : Int) : List RC × LB × Int := cutS 200 (tA z a)
def cN : List RC × LB × Int := cutS 200 []
def cB (z : List RC) (a : Int) (c : LB) : List RC × LB × Int := cutS 200 ((cA z a).2.1 ++ (dA z a ++ c))
def cM (z : List RC) (a : Int) (c : LB) : List RC × LB × Int := cutS 200 (dA z a ++ c)
theorem cs_nd {r c : LB} {kd : Int} (h1 : rck 200 r = 11) (hk : (cutS 200 (r ++ c)).2.2 = kd) (h : ¬ kd = 11) : ¬ ((r ++ c).length : Int) < ndS r := fun hh => by
  have h2 := nd_rest h1 c hh
  rw [cut_end (by rw [h2]; decide), h2] at hk
  exact h hk.symm
theorem fA {z : List RC} {a : Int} (h : okR 100 z) (h0 : 0 ≤ kA z a) : ((tA z a).length : Int) = kA z a ∧ ((dA z a).length : Int) = ((rbS z).length : Int) - kA z a ∧ (cA z a).2.2 = 11 ∧ (cA z a).2.1.length ≤ (tA z a).length ∧ 8 * (cA z a).1.length + (cA z a).2.1.length ≤ (tA z a).length :=
  have hk : kA z a ≤ ((rbS z).length : Int) := by unfold kA; omega
  ⟨lenTake (l := rbS z) (Q := kA z a) h0 hk, lenDrop (l := rbS z) (P := kA z a) h0 hk, cs_one (k := Int.toNat (kA z a)) h, cut_rest_len (m := 200) (tA z a), cut_len (m := 200) (tA z a)⟩
theorem fD {z : List RC} {a : Int} (h0 : 0 ≤ kA z a) : ((dA z a).length : Int) = ((rbS z).length : Int) - kA z a :=
  have hk : kA z a ≤ ((rbS z).length : Int) := by unfold kA; omega
  lenDrop (l := rbS z) (P := kA z a) h0 hk
theorem fB {z : List RC} {a kd : Int} {c : LB} (h : okR 100 z) (hc : cutS 200 c = ([], c, kd)) (hk : ¬ kd = 11) : ((cA z a).1 ++ (cB z a c).1 = z ∧ (cB z a c).2.2 = kd) ∧ ¬ (((cA z a).2.1 ++ (dA z a ++ c)).length : Int) < ndS (cA z a).2.1 ∧ ((cA z a).1.length = 0 → (cA z a).2.1.length = (tA z a).length) ∧ ((cB z a c).1.length = 0 → (cA z a).2.1.length = 0) ∧ (cA z a).1.length + (cB z a c).1.length = z.length := by
  have h2 : (cA z a).1 ++ (cB z a c).1 = z ∧ (cB z a c).2.2 = kd := cs_two (k := Int.toNat (kA z a)) h hc
  have h3 : ((cA z a).1.length = 0 → (cA z a).2.1.length = (tA z a).length) ∧ ((cB z a c).1.length = 0 → (cA z a).2.1.length = 0) := cs_len (k := Int.toNat (kA z a)) h h2.1
  have h4 := congrArg List.length h2.1
  rw [List.length_append] at h4
  exact ⟨h2, cs_nd (cs_11 (a := tA z a) (cs_one (k := Int.toNat (kA z a)) h)) h2.2 hk, h3.1, h3.2, h4⟩
theorem fM {z : List RC} {a kd : Int} {c : LB} (h0 : kA z a = 0) (h : okR 100 z) (hc : cutS 200 c = ([], c, kd)) : ((cM z a c).1 = z ∧ (cM z a c).2.2 = kd) ∧ (cM z a c).1.length = z.length := by
  have h2 : cN.1 ++ (cutS 200 (cN.2.1 ++ (dA z a ++ c))).1 = z ∧ (cutS 200 (cN.2.1 ++ (dA z a ++ c))).2.2 = kd := cs_zero (k := Int.toNat (kA z a)) (by omega) h hc
  have e : cN = ([], [], 11) := cut_nil
  rw [e] at h2
  exact ⟨h2, congrArg List.length h2.1⟩
theorem fN : cN.2.2 = 11 ∧ cN.1.length = 0 ∧ cN.2.1.length = 0 := cs_n11
def cU (u : LB) : List RC × LB × Int := cutS 65535 u
def okS (x : LB) : Prop := ∀ a b, a ++ b = x → (cutS 65535 a).2.2 = 11
def kS (s : LB) (al : List Int) (i : Int) : Int := min (s.length : Int) (nthI al (Int.toNat (i % (al.length : Int))) + 1)
theorem cU_nil : cU [] = ([], [], 11) := cut_nil
theorem fR {s u Sx : LB} {nd k : Int} (h : u ++ s = Sx) (hS : okS Sx) (hN : Nd 65535 (cU u).2.1 nd) (h0 : 1 ≤ k) (h1 : k ≤ (s.length : Int)) :
    (u ++ List.take (Int.toNat (k)) s) ++ List.drop (Int.toNat (k)) s = Sx ∧ (cU ((cU u).2.1 ++ List.take (Int.toNat (k)) s)).2.2 = 11 ∧ (cU (u ++ List.take (Int.toNat (k)) s)).1 = (cU u).1 ++ (cU ((cU u).2.1 ++ List.take (Int.toNat (k)) s)).1 ∧ (cU (u ++ List.take (Int.toNat (k)) s)).2.1 = (cU ((cU u).2.1 ++ List.take (Int.toNat (k)) s)).2.1 ∧ Nd 65535 (cU (u ++ List.take (Int.toNat (k)) s)).2.1 (ndS (cU ((cU u).2.1 ++ List.take (Int.toNat (k)) s)).2.1) ∧ 8 * (cU u).1.length + (cU u).2.1.length ≤ u.length ∧ u.length + s.length = Sx.length ∧ 8 * (cU ((cU u).2.1 ++ List.take (Int.toNat (k)) s)).1.length + (cU ((cU u).2.1 ++ List.take (Int.toNat (k)) s)).2.1.length ≤ ((cU u).2.1 ++ List.take (Int.toNat (k)) s).length ∧
    ((((cU u).2.1 ++ List.take (Int.toNat (k)) s).length : Int) < nd → (cU (u ++ List.take (Int.toNat (k)) s)).1 = (cU u).1 ∧ (cU (u ++ List.take (Int.toNat (k)) s)).2.1 = (cU u).2.1 ++ List.take (Int.toNat (k)) s ∧ Nd 65535 (cU (u ++ List.take (Int.toNat (k)) s)).2.1 nd) := by
  have e1 : (u ++ List.take (Int.toNat (k)) s) ++ List.drop (Int.toNat (k)) s = Sx := by rw [List.append_assoc, List.take_append_drop]; exact h
  have hl := congrArg List.length h
  rw [List.length_append] at hl
  generalize List.take (Int.toNat (k)) s = c at e1 ⊢
  have ha := cut_app (b := c) u (hS u s h)
  have h2 := hS _ _ e1
  have hw : (cutS 65535 ((cutS 65535 u).2.1 ++ c)).2.2 = 11 := by rw [ha] at h2; exact h2
  have hr : rck 65535 (cutS 65535 (u ++ c)).2.1 = 11 := by rw [← (cut_stuck (u ++ c)).2]; exact h2
  have e4 : (cutS 65535 (u ++ c)).2.1 = (cutS 65535 ((cutS 65535 u).2.1 ++ c)).2.1 := by rw [ha]
  have e3 : (cutS 65535 (u ++ c)).1 = (cutS 65535 u).1 ++ (cutS 65535 ((cutS 65535 u).2.1 ++ c)).1 := by rw [ha]
  refine ⟨e1, hw, e3, e4, ?_, cut_len u, hl, cut_len _, fun hlt => ?_⟩
  · have := nd_rest hr
    show Nd 65535 (cutS 65535 (u ++ c)).2.1 (ndS (cutS 65535 ((cutS 65535 u).2.1 ++ c)).2.1)
    rw [← e4]; exact this
  · have hk := hN c hlt
    have hz : cutS 65535 ((cutS 65535 u).2.1 ++ c) = ([], (cutS 65535 u).2.1 ++ c, 11) := by
      have hk : rck 65535 ((cutS 65535 u).2.1 ++ c) = 11 := hk
      rw [cut_end (by rw [hk]; decide), hk]
    rw [hz] at e3 e4
    have e3 : (cutS 65535 (u ++ c)).1 = (cutS 65535 u).1 := e3.trans (List.append_nil _)
    refine ⟨e3, e4, ?_⟩
    show Nd 65535 (cutS 65535 (u ++ c)).2.1 nd
    rw [e4]; exact Nd.more hN
theorem fR0 {s u Sx : LB} {k : Int} (h : u ++ s = Sx) (hu : u = []) (hS : okS Sx) :
    (u ++ List.take (Int.toNat (k)) s) ++ List.drop (Int.toNat (k)) s = Sx ∧ (cU (List.take (Int.toNat (k)) s)).2.2 = 11 ∧ (cU (u ++ List.take (Int.toNat (k)) s)).1 = (cU (List.take (Int.toNat (k)) s)).1 ∧ (cU (u ++ List.take (Int.toNat (k)) s)).2.1 = (cU (List.take (Int.toNat (k)) s)).2.1 ∧ Nd 65535 (cU (u ++ List.take (Int.toNat (k)) s)).2.1 (ndS (cU (List.take (Int.toNat (k)) s)).2.1) ∧ s.length = Sx.length ∧ u.length = 0 ∧ 8 * (cU (List.take (Int.toNat (k)) s)).1.length + (cU (List.take (Int.toNat (k)) s)).2.1.length ≤ (List.take (Int.toNat (k)) s).length := by
  subst hu
  have e1 : List.take (Int.toNat (k)) s ++ List.drop (Int.toNat (k)) s = Sx := by rw [List.take_append_drop]; exact h
  have h2 := hS _ _ e1
  have hr : rck 65535 (cutS 65535 (List.take (Int.toNat (k)) s)).2.1 = 11 := by rw [← (cut_stuck (List.take (Int.toNat (k)) s)).2]; exact h2
  exact ⟨e1, h2, rfl, rfl, nd_rest hr, congrArg List.length h, rfl, cut_len _⟩
theorem sfx {s u Sx : LB} (h : u ++ s = Sx) (hs : ¬ 0 < (s.length : Int)) : u = Sx := by
  rw [List.eq_nil_of_length_eq_zero (by omega : s.length = 0), List.append_nil] at h; exact h
theorem apL {a b y : List RC} (h : y = a ++ b) (hb : b.length = 0) : a = y := by rw [h, List.eq_nil_of_length_eq_zero hb, List.append_nil]
theorem apR {a b y : List RC} (h : y = a ++ b) (ha : a.length = 0) : b = y := by rw [h, List.eq_nil_of_length_eq_zero ha]; rfl
theorem okS_of {z : List RC} {m : LB} (h : okR 300 z) (hm : m.length ≤ 7) (h1 : m.length = 0 ∨ bt m 0 = 1) : okS (rbS z ++ m) := by
  have hz : ∀ r, r ∈ z → isRB r ∧ (r.2.2.1.length : Int) ≤ 65535 := fun r hr => ⟨(h r hr).1, by have := (h r hr).2; omega⟩
  have hc : (cutS 65535 m).2.2 = 11 := by
    have hb := bt_hi m 4; have hb5 := bt_hi m 5
    have hk : rck 65535 m = 11 := rck_lack h1 (.inr (by omega)) (.inl (by omega))
    rw [cut_end (by rw [hk]; decide)]; exact hk
  intro a b e
  by_cases e2 : (cutS 65535 a).2.2 = 11
  · exact e2
  · have h3 := (cut_err (b := b) a e2).1
    rw [e, cut_rbS z hz] at h3
    exact h3.symm.trans hc
theorem fX {z : List RC} {m : LB} (h : okR 300 z) (hm : m.length ≤ 7) (h1 : m.length = 0 ∨ bt m 0 = 1) : (cU (rbS z ++ m)).1 = z ∧ (cU (rbS z ++ m)).2.1 = m ∧ (cU (rbS z ++ m)).2.2 = 11 ∧ okS (rbS z ++ m) := by
  have hz : ∀ r, r ∈ z → isRB r ∧ (r.2.2.1.length : Int) ≤ 65535 := fun r hr => ⟨(h r hr).1, by have := (h r hr).2; omega⟩
  have hb := bt_hi m 4; have hb5 := bt_hi m 5
  have hk : rck 65535 m = 11 := rck_lack h1 (.inr (by omega)) (.inl (by omega))
  have e : cU (rbS z ++ m) = (z, m, 11) := by
    unfold cU; rw [cut_rbS z hz, cut_end (by rw [hk]; decide), hk, List.append_nil]
  rw [e]; exact ⟨rfl, rfl, rfl, okS_of h hm h1⟩
theorem fX0 {z : List RC} (h : okR 300 z) : (cU (rbS z)).1 = z ∧ (cU (rbS z)).2.1 = [] ∧ (cU (rbS z)).2.2 = 11 ∧ okS (rbS z) := by
  have := fX (m := []) h (by decide) (.inl rfl)
  rw [List.append_nil] at this; exact this
theorem rbS_pos {b : Int} : ∀ z : List RC, okR b z → 8 * z.length ≤ (rbS z).length
  | [], _ => Nat.zero_le _
  | r :: z, h => by
    have h1 := rbS_pos z fun x hx => h x (List.mem_cons_of_mem _ hx)
    have e : rbS (r :: z) = rbO r ++ rbS z := List.flatMap_cons
    rw [e, List.length_append, List.length_cons, rbO, if_pos (h r (List.mem_cons_self ..)).1, rbP_len]; omega
theorem fX1 {m : LB} (hm : m.length ≤ 7) (h1 : m.length = 0 ∨ bt m 0 = 1) : (cU m).1 = [] ∧ (cU m).2.1 = m ∧ (cU m).2.2 = 11 ∧ okS m :=
  fX (z := []) (fun _ h => nomatch h) hm h1
theorem denE0 {C : Cx} {l : LB} (h : l.length = 0) : Den C (.s 0 0) (St' l) := by
  rw [List.eq_nil_of_length_eq_zero h]; exact denS (len := 0) (n := 0) (by decide)
theorem fiNNds : tabk.fn.get 20 = some (fI Tryd.f20 0) ∧ (fI Tryd.f20 0).body.isSome = true := ⟨rfl, by kernel_rfl⟩
def hyNds_0 : LK := [(.len (.x 0), .x 1), (.bin .eql (.x 1) (.i .i64 (.ofNat 0)), .b true)]
theorem runNds_0 (e : Nat) : okA (call (tbl hyNds_0) 9000 20 [.x 0] ⟨H0 e , 1, 0, 0⟩) (.i .i64 (.ofNat 1)) = true := by kernel_rfl
def nuNds_0 (sf : LB) : List Value := [St' sf, .int .i64 ((sf.length : Int))]
theorem pathNds_0 (sf : LB) (b0 : sf.length ≤ 9223372036854775807) (h0 : (sf.length : Int) = 0) (w : World) (hl : laidE w) : CwR 20 #[St' sf] w (.int .i64 1) := by
  have ho : ∀ k r, (k, r) ∈ hyNds_0 → HOk (cx (nuL (nuNds_0 sf)) (fun j _ => nuL_one (l := nuNds_0 sf) rfl j) 1 laidE laidE_stab) k r := by
    unfold hyNds_0
    exact hc (lnV rfl rfl (by omega)) <|
     hc (eqcT rfl (by omega)) <|
     hnil
  refine runC (tb := (tbl hyNds_0)) (ra := .i .i64 (.ofNat 1)) rfl ((tabkOk (nuL (nuNds_0 sf)) (fun j _ => nuL_one (l := nuNds_0 sf) rfl j)).hyps ho) rfl fiNNds.1 fiNNds.2 (fun e => runNds_0 e ) (args := [St' sf]) (by simp only [RelL, Rel]; exact ⟨_, _, rfl, rfl, rfl⟩) w hl fun x hx => ?_
  simp only [Rel, RelL] at hx
  exact hx
def hyNds_1 : LK := [(.len (.x 0), .x 1), (.bin .eql (.x 1) (.i .i64 (.ofNat 0)), .b false), (.bin .lss (.x 1) (.i .i64 (.ofNat 6)), .b true)]
theorem runNds_1 (e : Nat) : okA (call (tbl hyNds_1) 9000 20 [.x 0] ⟨H0 e , 1, 0, 0⟩) (.i .i64 (.ofNat 6)) = true := by kernel_rfl
def nuNds_1 (sf : LB) : List Value := [St' sf, .int .i64 ((sf.length : Int))]
theorem pathNds_1 (sf : LB) (b0 : sf.length ≤ 9223372036854775807) (h0 : ¬ ((sf.length : Int) = 0)) (h1 : (sf.length : Int) < 6) (w : World) (hl : laidE w) : CwR 20 #[St' sf] w (.int .i64 6) := by
  have ho : ∀ k r, (k, r) ∈ hyNds_1 → HOk (cx (nuL (nuNds_1 sf)) (fun j _ => nuL_one (l := nuNds_1 sf) rfl j) 1 laidE laidE_stab) k r := by
    unfold hyNds_1
    exact hc (lnV rfl rfl (by omega)) <|
     hc (eqcF rfl (by omega)) <|
     hc (ltcT rfl (by omega)) <|
     hnil
  refine runC (tb := (tbl hyNds_1)) (ra := .i .i64 (.ofNat 6)) rfl ((tabkOk (nuL (nuNds_1 sf)) (fun j _ => nuL_one (l := nuNds_1 sf) rfl j)).hyps ho) rfl fiNNds.1 fiNNds.2 (fun e => runNds_1 e ) (args := [St' sf]) (by simp only [RelL, Rel]; exact ⟨_, _, rfl, rfl, rfl⟩) w hl fun x hx => ?_
  simp only [Rel, RelL] at hx
  exact hx
def hyNds_2 : LK := [(.len (.x 0), .x 1), (.bin .eql (.x 1) (.i .i64 (.ofNat 0)), .b false), (.bin .lss (.x 1) (.i .i64 (.ofNat 6)), .b false), (.bin .lss (.x 1) (.i .i64 (.ofNat 8)), .b true)]
theorem runNds_2 (e : Nat) : okA (call (tbl hyNds_2) 9000 20 [.x 0] ⟨H0 e , 1, 0, 0⟩) (.i .i64 (.ofNat 8)) = true := by kernel_rfl
def nuNds_2 (sf : LB) : List Value := [St' sf, .int .i64 ((sf.length : Int))]
theorem pathNds_2 (sf : LB) (b0 : sf.length ≤ 9223372036854775807) (h0 : ¬ ((sf.length : Int) = 0)) (h1 : ¬ ((sf.length : Int) < 6)) (h2 : (sf.length : Int) < 8) (w : World) (hl : laidE w) : CwR 20 #[St' sf] w (.int .i64 8) := by
  have ho : ∀ k r, (k, r) ∈ hyNds_2 → HOk (cx (nuL (nuNds_2 sf)) (fun j _ => nuL_one (l := nuNds_2 sf) rfl j) 1 laidE laidE_stab) k r := by
    unfold hyNds_2
    exact hc (lnV rfl rfl (by omega)) <|
     hc (eqcF rfl (by omega)) <|
     hc (ltcF rfl (by omega)) <|
     hc (ltcT rfl (by omega)) <|
     hnil
  refine runC (tb := (tbl hyNds_2)) (ra := .i .i64 (.ofNat 8)) rfl ((tabkOk (nuL (nuNds_2 sf)) (fun j _ => nuL_one (l := nuNds_2 sf) rfl j)).hyps ho) rfl fiNNds.1 fiNNds.2 (fun e => runNds_2 e ) (args := [St' sf]) (by simp only [RelL, Rel]; exact ⟨_, _, rfl, rfl, rfl⟩) w hl fun x hx => ?_
  simp only [Rel, RelL] at hx
  exact hx
def hyNds_3 : LK := [(.len (.x 0), .x 1), (.bin .eql (.x 1) (.i .i64 (.ofNat 0)), .b false), (.bin .lss (.x 1) (.i .i64 (.ofNat 6)), .b false), (.bin .lss (.x 1) (.i .i64 (.ofNat 8)), .b false), (.idx (.x 0) (.i .i64 (.ofNat 4)), .x 2), (.conv 3 (.x 2), .x 3), (.bin .shl (.x 3) (.i .u64 (.ofNat 8)), .x 4), (.bin .add (.i .i64 (.ofNat 8)) (.x 4), .x 5), (.idx (.x 0) (.i .i64 (.ofNat 5)), .x 6), (.conv 3 (.x 6), .x 7), (.bin .add (.x 5) (.x 7), .x 8), (.idx (.x 0) (.i .i64 (.ofNat 6)), .x 9), (.conv 3 (.x 9), .x 10), (.bin .add (.x 8) (.x 10), .x 11)]
theorem runNds_3 (e : Nat) : okA (call (tbl hyNds_3) 9000 20 [.x 0] ⟨H0 e , 1, 0, 0⟩) (.x 11) = true := by kernel_rfl
def nuNds_3 (sf : LB) : List Value := [St' sf, .int .i64 ((sf.length : Int)), .int .u8 (bt sf 4), .int .i64 ((bt sf 4)), .int .i64 ((bt sf 4) * 256), .int .i64 ((bt sf 4) * 256 + 8), .int .u8 (bt sf 5), .int .i64 ((bt sf 5)), .int .i64 ((bt sf 4) * 256 + (bt sf 5) + 8), .int .u8 (bt sf 6), .int .i64 ((bt sf 6)), .int .i64 ((bt sf 4) * 256 + (bt sf 5) + (bt sf 6) + 8)]
theorem pathNds_3 (sf : LB) (b0 : sf.length ≤ 9223372036854775807) (h0 : ¬ ((sf.length : Int) = 0)) (h1 : ¬ ((sf.length : Int) < 6)) (h2 : ¬ ((sf.length : Int) < 8)) (w : World) (hl : laidE w) : CwR 20 #[St' sf] w (.int .i64 ((bt sf 4) * 256 + (bt sf 5) + (bt sf 6) + 8)) := by
  have := bt_lo sf 4; have := bt_hi sf 4
  have := bt_lo sf 5; have := bt_hi sf 5
  have := bt_lo sf 6; have := bt_hi sf 6
  have ho : ∀ k r, (k, r) ∈ hyNds_3 → HOk (cx (nuL (nuNds_3 sf)) (fun j _ => nuL_one (l := nuNds_3 sf) rfl j) 1 laidE laidE_stab) k r := by
    unfold hyNds_3
    exact hc (lnV rfl rfl (by omega)) <|
     hc (eqcF rfl (by omega)) <|
     hc (ltcF rfl (by omega)) <|
     hc (ltcF rfl (by omega)) <|
     hc (ixC rfl rfl (by omega)) <|
     hc (kConvF (isX rfl) tu3 (denX rfl) (fI64 (by omega) (by omega))) <|
     hc (kShlM 8 256 rfl (isX rfl) (isZ (m := 8) rfl) (denX rfl) rfl (by decide) (by omega) (fI64 (by omega) (by omega))) <|
     hc (kAdd (isZ (m := 8) rfl) (isX rfl) (denX rfl) (by omega) (fI64 (by omega) (by omega))) <|
     hc (ixC rfl rfl (by omega)) <|
     hc (kConvF (isX rfl) tu3 (denX rfl) (fI64 (by omega) (by omega))) <|
     hc (adX rfl rfl rfl (by omega)) <|
     hc (ixC rfl rfl (by omega)) <|
     hc (kConvF (isX rfl) tu3 (denX rfl) (fI64 (by omega) (by omega))) <|
     hc (adX rfl rfl rfl (by omega)) <|
     hnil
  refine runC (tb := (tbl hyNds_3)) (ra := .x 11) rfl ((tabkOk (nuL (nuNds_3 sf)) (fun j _ => nuL_one (l := nuNds_3 sf) rfl j)).hyps ho) rfl fiNNds.1 fiNNds.2 (fun e => runNds_3 e ) (args := [St' sf]) (by simp only [RelL, Rel]; exact ⟨_, _, rfl, rfl, rfl⟩) w hl fun x hx => ?_
  simp only [Rel, RelL] at hx
  exact hx
theorem callsNds (sf : LB) (b0 : sf.length ≤ 9223372036854775807) (w : World) (hl : laidE w) : CwR 20 #[St' sf] w (.int .i64 (ndS sf)) := by
  by_cases h0 : (sf.length : Int) = 0
  · rw [show (.int .i64 (ndS sf) : Value) = (.int .i64 1 : Value) from by exact congrArg (Value.int .i64) (by unfold ndS rsz; split <;> (try split) <;> (try split) <;> omega)]
    exact pathNds_0 sf b0 h0 w hl
  · by_cases h1 : (sf.length : Int) < 6
    · rw [show (.int .i64 (ndS sf) : Value) = (.int .i64 6 : Value) from by exact congrArg (Value.int .i64) (by unfold ndS rsz; split <;> (try split) <;> (try split) <;> omega)]
      exact pathNds_1 sf b0 h0 h1 w hl
    · by_cases h2 : (sf.length : Int) < 8
      · rw [show (.int .i64 (ndS sf) : Value) = (.int .i64 8 : Value) from by exact congrArg (Value.int .i64) (by unfold ndS rsz; split <;> (try split) <;> (try split) <;> omega)]
        exact pathNds_2 sf b0 h0 h1 h2 w hl
      · rw [show (.int .i64 (ndS sf) : Value) = (.int .i64 ((bt sf 4) * 256 + (bt sf 5) + (bt sf 6) + 8) : Value) from by exact congrArg (Value.int .i64) (by unfold ndS rsz; split <;> (try split) <;> (try split) <;> omega)]
        exact pathNds_3 sf b0 h0 h1 h2 w hl
theorem hokNds {x0 r : AV} {sf : LB} (i0 : Is (cx nu one 1 laidE laidE_stab) x0 (St' sf)) (hr : Den (cx nu one 1 laidE laidE_stab) r (.int .i64 (ndS sf))) (b0 : sf.length ≤ 9223372036854775807) : HOk (cx nu one 1 laidE laidE_stab) (.call 20 [x0]) r := by
  intro ρ args ha w hl _
  simp only [RelL] at ha
  obtain ⟨v0, t0, rfl, a0, rfl⟩ := ha
  have e0 := i0 ρ _ a0; subst e0
  exact (callsNds sf b0 w hl).mono fun e w' he => ⟨_, he.1, hr ρ, he.2⟩
noncomputable def bodyLa : Code := loopNo (Tryd.f4.body.getD .skip) 0
theorem keyLa : oneKey (loopsOf (Tryd.f4.body.getD .skip)) 7 0 0 = true := by kernel_rfl
def keepLa : List Nat := [1, 2]
def epLa_0 : LA := [(0, .sr 1), (7, .x 1), (8, .x 0)]
def hpLa_0 : LE := [(1, .r 2000000 26 4 true)]
def nuLa_0 (z : List (Int × Int × LB × Int)) (i : Int) (T : LB) : List Value := [.int .i64 (i), St' T, .int .i64 ((z.length : Int)), .int .i64 ((nthR z (Int.toNat (i))).1), .int .i64 ((nthR z (Int.toNat (i))).2.1), St' ((nthR z (Int.toNat (i))).2.2.1), .int .i64 ((nthR z (Int.toNat (i))).2.2.2), .int .i64 (((nthR z (Int.toNat (i))).2.2.1.length : Int)), St' (rbO (nthR z (Int.toNat (i)))), St' (T ++ (rbO (nthR z (Int.toNat (i))))), .int .i64 (i + 1), .int .i64 ((z.length : Int)), .int .i64 ((nthR z (Int.toNat (i))).1), .int .i64 ((nthR z (Int.toNat (i))).2.1), St' ((nthR z (Int.toNat (i))).2.2.1), .int .i64 ((nthR z (Int.toNat (i))).2.2.2), .int .i64 ((z.length : Int)), .int .i64 ((nthR z (Int.toNat (i))).1), .int .i64 ((nthR z (Int.toNat (i))).2.1), St' ((nthR z (Int.toNat (i))).2.2.1), .int .i64 ((nthR z (Int.toNat (i))).2.2.2), .int .i64 (((nthR z (Int.toNat (i))).2.2.1.length : Int)), .int .i64 ((z.length : Int))]
def roLa_0 (z : List (Int × Int × LB × Int)) (i : Int) (T : LB) : List Value := [rwG reC z]
def epLa (st : Nat × Int × LB) : LA := epLa_0
def hpLa (st : Nat × Int × LB) : LE := hpLa_0
def nuLa (z : List (Int × Int × LB × Int)) (st : Nat × Int × LB) : List Value := nuLa_0 z (st.2.1) (st.2.2)
def roLa (z : List (Int × Int × LB × Int)) (st : Nat × Int × LB) : List Value := roLa_0 z (st.2.1) (st.2.2)
theorem onLa (z : List (Int × Int × LB × Int)) (st : Nat × Int × LB) : ∀ j, (nuL (nuLa z st) j).oneCell' = true := by
  intro j
  unfold nuLa
  exact nuL_one (l := nuLa_0 z (st.2.1) (st.2.2)) rfl j
theorem ebLa (st : Nat × Int × LB) : (lfB (epLa st) && lfC keepLa) = true := by
  unfold epLa
  rfl
noncomputable def DLa (z : List (Int × Int × LB × Int)) (st : Nat × Int × LB) (X : Nat → Value) : Cx := cx (nuX (nuLa z st) (rX (roLa z st) X)) (nuX_one (onLa z st)) 1 laidE laidE_stab
def InvLa (z : List (Int × Int × LB × Int)) (st : Nat × Int × LB) : Prop := (0 ≤ (st.2.1)) ∧ ((st.2.1) ≤ (z.length : Int)) ∧ (z.length ≤ 12) ∧ (∀ q, q ∈ z → reB q) ∧ (((st.2.2).length : Int) ≤ 563 * (st.2.1)) ∧ ((st.2.2) = rbS (z.take (Int.toNat (st.2.1)))) ∧ (okR 300 (z.take (Int.toNat (st.2.1)))) ∧ ((st.1) < 1)
abbrev CjLa (z : List (Int × Int × LB × Int)) (tag : Nat) (i : Int) (T : LB) : Prop := (0 ≤ i) ∧ (i ≤ (z.length : Int)) ∧ (z.length ≤ 12) ∧ (∀ q, q ∈ z → reB q) ∧ ((T.length : Int) ≤ 563 * i) ∧ (T = rbS (z.take (Int.toNat i))) ∧ (okR 300 (z.take (Int.toNat i))) ∧ (tag < 1)
theorem mkILa (z : List (Int × Int × LB × Int)) (tag : Nat) (i : Int) (T : LB) (h : CjLa z tag i T) : InvLa z (tag, i, T) := h
theorem unILa (z : List (Int × Int × LB × Int)) (tag : Nat) (i : Int) (T : LB) (h : InvLa z (tag, i, T)) : (0 ≤ i) ∧ (i ≤ (z.length : Int)) ∧ (z.length ≤ 12) ∧ (∀ q, q ∈ z → reB q) ∧ ((T.length : Int) ≤ 563 * i) ∧ (T = rbS (z.take (Int.toNat i))) ∧ (okR 300 (z.take (Int.toNat i))) ∧ (tag < 1) := h
def muLa (z : List (Int × Int × LB × Int)) (st : Nat × Int × LB) : Nat := (z.length - (st.2.1).toNat)
abbrev RHLa (z : List (Int × Int × LB × Int)) (E' : Cx) (ex' : Ex) (epx' : LA) (hpx' : LE) (st : Nat × Int × LB) (X : Nat → Value) : Prop := RoundH E' bodyLa keepLa 137 ex' 1 20 20 20 epLa hpLa epx' hpx' (InvLa z) (muLa z) (DLa z) st X
noncomputable abbrev RNLa_0 (h : LK) (x : Ex) (th : LA) (sg : List (Nat × Nat)) (m : Nat) (ep : LA) (hp : LE) : Bool := okRdH (code (tbl h) 3000 [] bodyLa (envOf (headOf epLa_0 keepLa) 137) ⟨lhSet hpLa_0 .leaf, 20, 0, 0⟩) x keepLa 137 20 th sg 20 m ep hp
theorem stLa_0 (z : List (Int × Int × LB × Int)) (i : Int) (T : LB) {X : Nat → Value} {h : LK} (y : Nat × Int × LB) {th : LA} {sg : List (Nat × Nat)} (ho : ∀ a' r', (a', r') ∈ h → HOk (cx (nuX (nuLa_0 z i T) (rX (roLa_0 z i T) X)) (nuX_one (nuL_one (l := nuLa_0 z i T) rfl)) 1 laidE laidE_stab) a' r') (hy : InvLa z y) (lt : muLa z y < muLa z (0, i, T)) (ht : ThOk (cx (nuX (nuLa_0 z i T) (rX (roLa_0 z i T) X)) (nuX_one (nuL_one (l := nuLa_0 z i T) rfl)) 1 laidE laidE_stab) (DLa z y X) th) (run : RNLa_0 h .normal th sg 20 (epLa y) (hpLa y) = true) : RHLa z E' x' e' h' (0, i, T) X :=
  RoundH.next (tb := tbl h) (L := []) (f := 3000) y ((tabkOk _ _).hyps ho) (LpOk.nil _) rfl hy lt ht run
theorem lvLa_0 (z : List (Int × Int × LB × Int)) (i : Int) (T : LB) {X : Nat → Value} {h : LK} {th : LA} {sg : List (Nat × Nat)} (hne : exB x' .normal = false) (ho : ∀ a' r', (a', r') ∈ h → HOk (cx (nuX (nuLa_0 z i T) (rX (roLa_0 z i T) X)) (nuX_one (nuL_one (l := nuLa_0 z i T) rfl)) 1 laidE laidE_stab) a' r') (ht : ThOk (cx (nuX (nuLa_0 z i T) (rX (roLa_0 z i T) X)) (nuX_one (nuL_one (l := nuLa_0 z i T) rfl)) 1 laidE laidE_stab) E' th) (run : RNLa_0 h x' th sg 20 e' h' = true) : RHLa z E' x' e' h' (0, i, T) X :=
  RoundH.leave (tb := tbl h) (L := []) (f := 3000) ((tabkOk _ _).hyps ho) (LpOk.nil _) rfl hne ht run
def hyLa_p0 : LK := [(.rl (.x 2000000) 4, .x 2), (.bin .lss (.x 0) (.x 2), .b true), (.el (.x 2000000) (.x 0) 4 0, .x 3), (.el (.x 2000000) (.x 0) 4 1, .x 4), (.el (.x 2000000) (.x 0) 4 2, .x 5), (.el (.x 2000000) (.x 0) 4 3, .x 6), (.call 7 [.ag [.x 3, .x 4, .x 5, .x 6]], .b true), (.len (.x 5), .x 7), (.bin .gtr (.x 7) (.i .i64 (.ofNat 300)), .b false), (.call 8 [.ag [.x 3, .x 4, .x 5, .x 6]], .x 8), (.bin .add (.x 1) (.x 8), .x 9), (.bin .add (.x 0) (.i .i64 (.ofNat 1)), .x 10)]
theorem runLa_p0 : RNLa_0 hyLa_p0 .normal [(0, .x 10), (1, .x 9), (2000000, .x 2000000)] [] 20 epLa_0 hpLa_0 = true := by kernel_rfl
theorem nxLa_p0 (z : List (Int × Int × LB × Int)) (i : Int) (T : LB) (X : Nat → Value) (hI : InvLa z (0, i, T)) (h0 : i < (z.length : Int)) (h1 : isRB (nthR z (Int.toNat (i)))) (h2 : ¬ (300 < ((nthR z (Int.toNat (i))).2.2.1.length : Int))) : RHLa z E' x' e' h' (0, i, T) X := by
  obtain ⟨i0, i1, i2, i3, i4, i5, i6, it⟩ := unILa z 0 i T hI
  have := reAt (l := z) (by assumption) (Int.toNat (i))
  have hnr := reAt (l := z) (by assumption) (Int.toNat (i))
  have := rbO_len (b := 300) (r := (nthR z (Int.toNat (i)))) (by omega) (fun _ => by omega)
  refine stLa_0 z i T (h := hyLa_p0) (0, i + 1, (T ++ (rbO (nthR z (Int.toNat (i)))))) ?_ (mkILa z 0 (i + 1) (T ++ (rbO (nthR z (Int.toNat (i))))) ⟨by omega, by omega, i2, i3, by simp only [List.length_append]; omega, rbS_snoc (by omega) (by omega) i5, okR_snoc (by omega) (by omega) i6 (by assumption) (by omega), by omega⟩) (by show z.length - (i + 1).toNat < z.length - i.toNat; omega) (thXi (b := ((i + 1))) rfl rfl (by omega) (thXv (v := St' (T ++ (rbO (nthR z (Int.toNat (i)))))) rfl rfl (thXv (v := rwG reC z) rfl rfl (thNil)))) runLa_p0
  unfold hyLa_p0
  exact hc (kRlG reC_len (isX rfl) (denX rfl) (by first | omega | (simp <;> omega))) <|
   hc (ltT rfl rfl (by omega)) <|
   hc (kElG (j := (Int.toNat (i))) (d := (0, 0, [], 0)) reC_len (by decide) (isX rfl) (isX rfl) (denX rfl) (by omega) (by omega) rfl) <|
   hc (kElG (j := (Int.toNat (i))) (d := (0, 0, [], 0)) reC_len (by decide) (isX rfl) (isX rfl) (denX rfl) (by omega) (by omega) rfl) <|
   hc (kElG (j := (Int.toNat (i))) (d := (0, 0, [], 0)) reC_len (by decide) (isX rfl) (isX rfl) (denX rfl) (by omega) (by omega) rfl) <|
   hc (kElG (j := (Int.toNat (i))) (d := (0, 0, [], 0)) reC_len (by decide) (isX rfl) (isX rfl) (denX rfl) (by omega) (by omega) rfl) <|
   hc (hokRIs (T := (nthR z (Int.toNat (i))).1) (D := (nthR z (Int.toNat (i))).2.1) (C := (nthR z (Int.toNat (i))).2.2.1) (Q := (nthR z (Int.toNat (i))).2.2.2) (isAg4 (isX rfl) (isX rfl) (isX rfl) (isX rfl)) (denBT (decide_eq_true (show isRB (nthR z (Int.toNat (i))) from by assumption))) (by omega) (by omega) (by omega) (by omega) (by omega) (by omega) (by omega)) <|
   hc (lnV rfl rfl (by omega)) <|
   hc (gtcF rfl (by omega)) <|
   hc (hokRBy (T := (nthR z (Int.toNat (i))).1) (D := (nthR z (Int.toNat (i))).2.1) (C := (nthR z (Int.toNat (i))).2.2.1) (Q := (nthR z (Int.toNat (i))).2.2.2) (isAg4 (isX rfl) (isX rfl) (isX rfl) (isX rfl)) (denX rfl) (by omega) (by omega) (by omega) (by omega) (by omega) (by omega) (by omega)) <|
   hc (kCat (isX rfl) (isX rfl) (denX rfl) (by first | rfl | (simp; done)) (by omega)) <|
   hc (adC rfl rfl (by omega)) <|
   hnil
def hyLa_p1 : LK := [(.rl (.x 2000000) 4, .x 11), (.bin .lss (.x 0) (.x 11), .b true), (.el (.x 2000000) (.x 0) 4 0, .x 12), (.el (.x 2000000) (.x 0) 4 1, .x 13), (.el (.x 2000000) (.x 0) 4 2, .x 14), (.el (.x 2000000) (.x 0) 4 3, .x 15), (.call 7 [.ag [.x 12, .x 13, .x 14, .x 15]], .b false)]
theorem runLa_p1 : RNLa_0 hyLa_p1 .ret [(2000000, .x 2000000)] [] 20 [(6, .b true)] [(1, .r 2000000 26 4 true)] = true := by kernel_rfl
def hyLa_p2 : LK := [(.rl (.x 2000000) 4, .x 16), (.bin .lss (.x 0) (.x 16), .b true), (.el (.x 2000000) (.x 0) 4 0, .x 17), (.el (.x 2000000) (.x 0) 4 1, .x 18), (.el (.x 2000000) (.x 0) 4 2, .x 19), (.el (.x 2000000) (.x 0) 4 3, .x 20), (.call 7 [.ag [.x 17, .x 18, .x 19, .x 20]], .b true), (.len (.x 19), .x 21), (.bin .gtr (.x 21) (.i .i64 (.ofNat 300)), .b true)]
theorem runLa_p2 : RNLa_0 hyLa_p2 .ret [(2000000, .x 2000000)] [] 20 [(6, .b true)] [(1, .r 2000000 26 4 true)] = true := by kernel_rfl
def hyLa_p3 : LK := [(.rl (.x 2000000) 4, .x 22), (.bin .lss (.x 0) (.x 22), .b false)]
theorem runLa_p3 : RNLa_0 hyLa_p3 (.exit 0) [(0, .x 1), (2000000, .x 2000000)] [] 20 [(0, .sr 1), (7, .x 0)] [(1, .r 2000000 26 4 true)] = true := by kernel_rfl
def nuELa_0 (z : List (Int × Int × LB × Int)) : List Value := [St' (rbS z)]
def roELa_0 (z : List (Int × Int × LB × Int)) : List Value := [rwG reC z]
noncomputable def ELa_0 (z : List (Int × Int × LB × Int)) : Cx := cx (nuX (nuELa_0 z) (rX (roELa_0 z) (fun _ => .bool true))) (nuX_one (nuL_one (l := nuELa_0 z) rfl)) 1 laidE laidE_stab
theorem roundsLa_0 (z : List (Int × Int × LB × Int)) (x0 : okR 300 z) (st : Nat × Int × LB) (X : Nat → Value) (hI : InvLa z st) : RHLa z (ELa_0 z) (.exit 0) [(0, .sr 1), (7, .x 0)] [(1, .r 2000000 26 4 true)] st X := by
  obtain ⟨tag, i, T⟩ := st
  have hI0 := hI
  obtain ⟨i0, i1, i2, i3, i4, i5, i6, it⟩ := unILa z tag i T hI
  obtain rfl : tag = 0 := by omega
  skip
  by_cases h0 : i < (z.length : Int)
  · by_cases h1 : isRB (nthR z (Int.toNat (i)))
    · by_cases h2 : 300 < ((nthR z (Int.toNat (i))).2.2.1.length : Int)
      · exfalso; have hC := x0 _ (nthR_mem i0 (by omega)); first | exact absurd hC.1 (by assumption) | omega
      · exact nxLa_p0 z i T X hI0 h0 h1 h2
    · exfalso; have hC := x0 _ (nthR_mem i0 (by omega)); first | exact absurd hC.1 (by assumption) | omega
  · skip
    refine lvLa_0 z i T (h := hyLa_p3) rfl ?_ (thXe (v := St' T) (u := St' (rbS z)) rfl rfl (congrArg (fun l => St' l) (rbS_end (by omega) (by omega) i5)) (thXv (v := rwG reC z) rfl rfl (thNil))) runLa_p3
    unfold hyLa_p3
    exact hc (kRlG reC_len (isX rfl) (denX rfl) (by first | omega | (simp <;> omega))) <|
     hc (ltF rfl rfl (by omega)) <|
     hnil
theorem lfOkLa_0 {l : LF} {h : LH} (z : List (Int × Int × LB × Int)) (x0 : okR 300 z) (st : Nat × Int × LB) (hI : InvLa z st) (hl : l.hp = some h) (hs : lfSame l h 137 keepLa (.exit 0) 1 20 20 = true) {th0 : LA} {sg0 : List (Nat × Nat)} (hth0 : ∀ X, ThOk (cx nu one 1 laidE laidE_stab) (DLa z st X) th0) (h0 : startOk l h 137 20 20 th0 sg0 (epLa st) (hpLa st) = true) {thx : LA} (hthx : ThOk (ELa_0 z) (cx nu one 1 laidE laidE_stab) thx) (hx : exitOk l h 137 20 20 thx [(0, .sr 1), (7, .x 0)] [(1, .r 2000000 26 4 true)] = true) : LfOk (cx nu one 1 laidE laidE_stab) bodyLa l :=
  lfOkX (E := ELa_0 z) (InvLa z) (muLa z) (DLa z) (fun _ _ => rfl) (fun _ _ => rfl) (fun _ _ => rfl) (fun st X t ht => nuX_keep.trans (rX_keep ((by decide : ∀ t, t ∈ keepLa → t < 1000000) t ht))) rfl rfl rfl hl hs ebLa rfl rfl st hI hth0 h0 hthx hx (roundsLa_0 z x0)
def nuELa_1 (z : List (Int × Int × LB × Int)) : List Value := []
def roELa_1 (z : List (Int × Int × LB × Int)) : List Value := [rwG reC z]
noncomputable def ELa_1 (z : List (Int × Int × LB × Int)) : Cx := cx (nuX (nuELa_1 z) (rX (roELa_1 z) (fun _ => .bool true))) (nuX_one (nuL_one (l := nuELa_1 z) rfl)) 1 laidE laidE_stab
theorem roundsLa_1 (z : List (Int × Int × LB × Int)) (x0 : ¬ okR 300 z) (st : Nat × Int × LB) (X : Nat → Value) (hI : InvLa z st) : RHLa z (ELa_1 z) .ret [(6, .b true)] [(1, .r 2000000 26 4 true)] st X := by
  obtain ⟨tag, i, T⟩ := st
  have hI0 := hI
  obtain ⟨i0, i1, i2, i3, i4, i5, i6, it⟩ := unILa z tag i T hI
  obtain rfl : tag = 0 := by omega
  skip
  by_cases h0 : i < (z.length : Int)
  · by_cases h1 : isRB (nthR z (Int.toNat (i)))
    · by_cases h2 : 300 < ((nthR z (Int.toNat (i))).2.2.1.length : Int)
      · skip
        have := reAt (l := z) (by assumption) (Int.toNat (i))
        have hnr := reAt (l := z) (by assumption) (Int.toNat (i))
        refine lvLa_0 z i T (h := hyLa_p2) rfl ?_ (thXv (v := rwG reC z) rfl rfl (thNil)) runLa_p2
        unfold hyLa_p2
        exact hc (kRlG reC_len (isX rfl) (denX rfl) (by first | omega | (simp <;> omega))) <|
         hc (ltT rfl rfl (by omega)) <|
         hc (kElG (j := (Int.toNat (i))) (d := (0, 0, [], 0)) reC_len (by decide) (isX rfl) (isX rfl) (denX rfl) (by omega) (by omega) rfl) <|
         hc (kElG (j := (Int.toNat (i))) (d := (0, 0, [], 0)) reC_len (by decide) (isX rfl) (isX rfl) (denX rfl) (by omega) (by omega) rfl) <|
         hc (kElG (j := (Int.toNat (i))) (d := (0, 0, [], 0)) reC_len (by decide) (isX rfl) (isX rfl) (denX rfl) (by omega) (by omega) rfl) <|
         hc (kElG (j := (Int.toNat (i))) (d := (0, 0, [], 0)) reC_len (by decide) (isX rfl) (isX rfl) (denX rfl) (by omega) (by omega) rfl) <|
         hc (hokRIs (T := (nthR z (Int.toNat (i))).1) (D := (nthR z (Int.toNat (i))).2.1) (C := (nthR z (Int.toNat (i))).2.2.1) (Q := (nthR z (Int.toNat (i))).2.2.2) (isAg4 (isX rfl) (isX rfl) (isX rfl) (isX rfl)) (denBT (decide_eq_true (show isRB (nthR z (Int.toNat (i))) from by assumption))) (by omega) (by omega) (by omega) (by omega) (by omega) (by omega) (by omega)) <|
         hc (lnV rfl rfl (by omega)) <|
         hc (gtcT rfl (by omega)) <|
         hnil
      · exact nxLa_p0 z i T X hI0 h0 h1 h2
    · skip
      have := reAt (l := z) (by assumption) (Int.toNat (i))
      have hnr := reAt (l := z) (by assumption) (Int.toNat (i))
      refine lvLa_0 z i T (h := hyLa_p1) rfl ?_ (thXv (v := rwG reC z) rfl rfl (thNil)) runLa_p1
      unfold hyLa_p1
      exact hc (kRlG reC_len (isX rfl) (denX rfl) (by first | omega | (simp <;> omega))) <|
       hc (ltT rfl rfl (by omega)) <|
       hc (kElG (j := (Int.toNat (i))) (d := (0, 0, [], 0)) reC_len (by decide) (isX rfl) (isX rfl) (denX rfl) (by omega) (by omega) rfl) <|
       hc (kElG (j := (Int.toNat (i))) (d := (0, 0, [], 0)) reC_len (by decide) (isX rfl) (isX rfl) (denX rfl) (by omega) (by omega) rfl) <|
       hc (kElG (j := (Int.toNat (i))) (d := (0, 0, [], 0)) reC_len (by decide) (isX rfl) (isX rfl) (denX rfl) (by omega) (by omega) rfl) <|
       hc (kElG (j := (Int.toNat (i))) (d := (0, 0, [], 0)) reC_len (by decide) (isX rfl) (isX rfl) (denX rfl) (by omega) (by omega) rfl) <|
       hc (hokRIs (T := (nthR z (Int.toNat (i))).1) (D := (nthR z (Int.toNat (i))).2.1) (C := (nthR z (Int.toNat (i))).2.2.1) (Q := (nthR z (Int.toNat (i))).2.2.2) (isAg4 (isX rfl) (isX rfl) (isX rfl) (isX rfl)) (denBF (by rw [decide_eq_false (show ¬ isRB (nthR z (Int.toNat (i))) from by assumption)]; decide)) (by omega) (by omega) (by omega) (by omega) (by omega) (by omega) (by omega)) <|
       hnil
  · exfalso; exact x0 (okR_end (by omega) (by omega) i6)
theorem lfOkLa_1 {l : LF} {h : LH} (z : List (Int × Int × LB × Int)) (x0 : ¬ okR 300 z) (st : Nat × Int × LB) (hI : InvLa z st) (hl : l.hp = some h) (hs : lfSame l h 137 keepLa .ret 1 20 20 = true) {th0 : LA} {sg0 : List (Nat × Nat)} (hth0 : ∀ X, ThOk (cx nu one 1 laidE laidE_stab) (DLa z st X) th0) (h0 : startOk l h 137 20 20 th0 sg0 (epLa st) (hpLa st) = true) {thx : LA} (hthx : ThOk (ELa_1 z) (cx nu one 1 laidE laidE_stab) thx) (hx : exitOk l h 137 20 20 thx [(6, .b true)] [(1, .r 2000000 26 4 true)] = true) : LfOk (cx nu one 1 laidE laidE_stab) bodyLa l :=
  lfOkX (E := ELa_1 z) (InvLa z) (muLa z) (DLa z) (fun _ _ => rfl) (fun _ _ => rfl) (fun _ _ => rfl) (fun st X t ht => nuX_keep.trans (rX_keep ((by decide : ∀ t, t ∈ keepLa → t < 1000000) t ht))) rfl rfl rfl hl hs ebLa rfl rfl st hI hth0 h0 hthx hx (roundsLa_1 z x0)
end Go.Proofs.YtlfmfmegnenohaaDoor.cutterCuts
