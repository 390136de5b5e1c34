/- A part of the proof: an interpreter of the model's own code on partly known states, and that what it answers is what the program answers. No condition of its own. -/
import Derived.Test.YtojgdbbjblaalaaDoorAXb
import Derived.Laws.Sem
import Derived.Below
set_option linter.unusedSimpArgs false
set_option linter.unusedVariables false
namespace Go.AX
open Go.RowKit (Below)
structure R where
  blk : Nat
  base : Nat
  cap : Nat
  es : Nat
abbrev Rho := Nat → Option R
structure Cx where
  P : Program
  nu : Nat → Value
  one : ∀ i, (nu i).oneCell' = true
  nst : Nat
  inv : World → Prop
  stab : ∀ w w' : World, (∀ k, k < nst → w'.heap[k]? = w.heap[k]?) → inv w → inv w'
mutual
def Rel (C : Cx) (ρ : Rho) : AV → Value → Prop
  | .und, _ => True
  | .b x, v => v = .bool x
  | .i k n, v => v = .int k n
  | .s len n, v => v = .string ⟨(strB len n).toArray⟩ ∧ n < 2 ^ (8 * len)
  | .nilp, v => v = .pointer none
  | .p b o, v => ∃ r, ρ b = some r ∧ v = .pointer (some ⟨r.blk, r.base + o, none⟩)
  | .nils, v => v = .slice none 0 0
  | .sl b o n c false, v => ∃ r, ρ b = some r ∧ n ≤ c ∧ v = .slice (some ⟨r.blk, r.base + o, none⟩) n c
  | .sl b o n d true, v => ∃ r a, ρ b = some r ∧ d + n ≤ r.cap ∧ v = .slice (some a) n (r.cap - d) ∧ (a = ⟨r.blk, r.base + o, none⟩ ∨ (n = 0 ∧ r.cap = d))
  | .ni, v => v = .nilIface
  | .ifc t a, v => ∃ x, v = .iface t x ∧ Rel C ρ a x
  | .ag l, v => ∃ cs, v = .agg ⟨cs⟩ ∧ RelL C ρ l cs
  | .tu l, v => ∃ cs, v = .tuple ⟨cs⟩ ∧ RelL C ρ l cs
  | .fn f a c, v => ∃ as cs, v = .func (.func f) ⟨as⟩ ⟨cs⟩ ∧ RelL C ρ a as ∧ RelL C ρ c cs
  | .nilf, v => v = .nilFunc
  | .h t, v => v = typeHandle C.P t
  | .x id, v => v = C.nu id
def RelL (C : Cx) (ρ : Rho) : List AV → List Value → Prop
  | [], vs => vs = []
  | a :: l, vs => ∃ v vt, vs = v :: vt ∧ Rel C ρ a v ∧ RelL C ρ l vt
end
def Sub (ρ ρ' : Rho) : Prop := ∀ v r, ρ v = some r → ρ' v = some r
mutual
theorem Rel.mono {C : Cx} {ρ ρ' : Rho} (h : Sub ρ ρ') : ∀ (a : AV) (v : Value), Rel C ρ a v → Rel C ρ' a v
  | .und, _, _ => by simp [Rel]
  | .b x, v, hr => by simpa [Rel] using hr
  | .i k n, v, hr => by simpa [Rel] using hr
  | .s len n, v, hr => by simpa [Rel] using hr
  | .nilp, v, hr => by simpa [Rel] using hr
  | .p b o, v, hr => by
    simp only [Rel] at hr ⊢; obtain ⟨r, h1, h2⟩ := hr; exact ⟨r, h _ _ h1, h2⟩
  | .nils, v, hr => by simpa [Rel] using hr
  | .sl b o n c false, v, hr => by
    simp only [Rel] at hr ⊢; obtain ⟨r, h1, h2⟩ := hr; exact ⟨r, h _ _ h1, h2⟩
  | .sl b o n c true, v, hr => by
    simp only [Rel] at hr ⊢; obtain ⟨r, a, h1, h2⟩ := hr; exact ⟨r, a, h _ _ h1, h2⟩
  | .ni, v, hr => by simpa [Rel] using hr
  | .ifc t a, v, hr => by
    simp only [Rel] at hr ⊢; obtain ⟨x, h1, h2⟩ := hr; exact ⟨x, h1, Rel.mono h a x h2⟩
  | .ag l, v, hr => by
    simp only [Rel] at hr ⊢; obtain ⟨x, h1, h2⟩ := hr; exact ⟨x, h1, RelL.mono h l x h2⟩
  | .tu l, v, hr => by
    simp only [Rel] at hr ⊢; obtain ⟨x, h1, h2⟩ := hr; exact ⟨x, h1, RelL.mono h l x h2⟩
  | .fn f a c, v, hr => by
    simp only [Rel] at hr ⊢; obtain ⟨x, y, h1, h2, h3⟩ := hr; exact ⟨x, y, h1, RelL.mono h a x h2, RelL.mono h c y h3⟩
  | .nilf, v, hr => by simpa [Rel] using hr
  | .h t, v, hr => by simpa [Rel] using hr
  | .x id, v, hr => by simpa [Rel] using hr
theorem RelL.mono {C : Cx} {ρ ρ' : Rho} (h : Sub ρ ρ') : ∀ (l : List AV) (vs : List Value), RelL C ρ l vs → RelL C ρ' l vs
  | [], _, hr => by simpa [RelL] using hr
  | a :: l, vs, hr => by
    simp only [RelL] at hr ⊢; obtain ⟨v, vt, h1, h2, h3⟩ := hr; exact ⟨v, vt, h1, Rel.mono h a v h2, RelL.mono h l vt h3⟩
end
theorem RelL.iff {C : Cx} {ρ : Rho} : ∀ (l : List AV) (vs : List Value), RelL C ρ l vs ↔ l.length = vs.length ∧ ∀ (j : Nat) (a : AV), l[j]? = some a → ∃ x, vs[j]? = some x ∧ Rel C ρ a x
  | [], vs => by simp [RelL]; exact ⟨fun h => by rw [h]; rfl, fun h => List.eq_nil_of_length_eq_zero h.symm⟩
  | a :: l, vs => by
    cases vs with
    | nil => simp [RelL]
    | cons v vt =>
      simp only [RelL, List.cons.injEq, List.length_cons]
      constructor
      · rintro ⟨v', vt', ⟨rfl, rfl⟩, h1, h2⟩
        obtain ⟨h3, h4⟩ := (RelL.iff l vt).1 h2
        refine ⟨by omega, fun j x hj => ?_⟩
        cases j with
        | zero => simp at hj; subst hj; exact ⟨v, by simp, h1⟩
        | succ j => simp at hj; obtain ⟨y, hy1, hy2⟩ := h4 j x hj; exact ⟨y, by simpa using hy1, hy2⟩
      · rintro ⟨h1, h2⟩
        refine ⟨v, vt, ⟨rfl, rfl⟩, ?_, (RelL.iff l vt).2 ⟨by omega, fun j x hj => ?_⟩⟩
        · obtain ⟨x, hx, hr⟩ := h2 0 a (by simp); simp at hx; subst hx; exact hr
        · obtain ⟨x, hx, hr⟩ := h2 (j + 1) x (by simpa using hj); exact ⟨x, by simpa using hx, hr⟩
theorem RelL.len {C : Cx} {ρ : Rho} {l : List AV} {vs : List Value} (h : RelL C ρ l vs) : vs.length = l.length := ((RelL.iff l vs).1 h).1.symm
theorem RelL.get {C : Cx} {ρ : Rho} {l : List AV} {vs : List Value} (h : RelL C ρ l vs) {j : Nat} {a : AV} (hj : l[j]? = some a) : ∃ x, vs[j]? = some x ∧ Rel C ρ a x := ((RelL.iff l vs).1 h).2 j a hj
theorem RelL.sub {C : Cx} {ρ : Rho} {l : List AV} {vs : List Value} (h : RelL C ρ l vs) (o n : Nat) : RelL C ρ ((l.drop o).take n) ((vs.drop o).take n) := by
  rw [RelL.iff] at h ⊢
  refine ⟨by simp [h.1], fun j a hj => ?_⟩
  rw [List.getElem?_take] at hj ⊢
  split at hj
  · rename_i hlt; rw [List.getElem?_drop] at hj; obtain ⟨x, hx, hr⟩ := h.2 _ _ hj; exact ⟨x, by rw [if_pos hlt, List.getElem?_drop]; exact hx, hr⟩
  · cases hj
theorem RelL.app {C : Cx} {ρ : Rho} {l m : List AV} {vs us : List Value} (h : RelL C ρ l vs) (h' : RelL C ρ m us) : RelL C ρ (l ++ m) (vs ++ us) := by
  rw [RelL.iff] at h h' ⊢
  refine ⟨by simp [h.1, h'.1], fun j a hj => ?_⟩
  rw [List.getElem?_append] at hj ⊢
  split at hj
  · rename_i hlt; obtain ⟨x, hx, hr⟩ := h.2 _ _ hj; exact ⟨x, by rw [if_pos (by omega)]; exact hx, hr⟩
  · rename_i hlt; obtain ⟨x, hx, hr⟩ := h'.2 _ _ hj; exact ⟨x, by rw [if_neg (by omega), ← h.1]; exact hx, hr⟩
theorem RelL.map {C : Cx} {ρ : Rho} {α : Type} (f : α → AV) (g : α → Value) (h : ∀ x, Rel C ρ (f x) (g x)) : ∀ l : List α, RelL C ρ (l.map f) (l.map g)
  | [] => by simp [RelL]
  | a :: l => by simp only [List.map_cons, RelL]; exact ⟨_, _, rfl, h a, RelL.map f g h l⟩
theorem scal_one {C : Cx} {ρ : Rho} {a : AV} {v : Value} (hs : scal a = true) (h : Rel C ρ a v) : v.oneCell' = true := by
  cases a with
  | und => cases hs
  | ag _ => cases hs
  | tu _ => cases hs
  | sl b o n c r => cases r <;> simp only [Rel] at h
                    · obtain ⟨r, _, _, rfl⟩ := h; rfl
                    · obtain ⟨r, a, _, _, rfl, _⟩ := h; rfl
  | x id => simp only [Rel] at h; subst h; exact C.one id
  | s len n => simp only [Rel] at h; obtain ⟨rfl, _⟩ := h; rfl
  | p b o => simp only [Rel] at h; obtain ⟨r, _, rfl⟩ := h; rfl
  | ifc t a => simp only [Rel] at h; obtain ⟨r, rfl, _⟩ := h; rfl
  | fn f a c => simp only [Rel] at h; obtain ⟨r, _, rfl, _⟩ := h; rfl
  | _ => simp only [Rel] at h; subst h; rfl

/- memory -/
def CW : Cells → Prop
  | .y len n => n < 2 ^ (8 * len)
  | .l _ => True
def CellsOk (C : Cx) (ρ : Rho) (c : Cells) (arr : Array Value) (base : Nat) : Prop :=
  CW c ∧ ∀ (j : Nat) (a : AV), c.toL[j]? = some a → ∃ x, arr[base + j]? = some x ∧ Rel C ρ a x ∧ x.oneCell' = true
structure BlkAt (C : Cx) (ρ : Rho) (B : Nat) (k : Blk) (r : R) (arr : Array Value) (fz : Nat × Nat) : Prop where
  cells : CellsOk C ρ k.c arr r.base
  grown : k.g = true → r.base + r.cap * r.es = arr.size ∧ k.m ≤ r.cap * r.es ∧ k.c.len ≤ k.m ∧ r.es = k.es
  cold : ∀ x, r.base + k.fr ≤ x → x < arr.size → ¬ (fz.1 ≤ x ∧ x < fz.2)
  plain : k.st = false → fz.1 = fz.2 ∨ fz.2 ≤ r.base + k.fr
  old : r.blk < B → k.c.len ≤ k.fr ∧ k.st = true ∧ k.g = false
  room : r.base + k.c.len ≤ arr.size
  base0 : k.g = false → r.base = 0
def BlkOk (C : Cx) (ρ : Rho) (B : Nat) (w : World) (k : Blk) (r : R) : Prop :=
  ∃ arr fz, w.heap[r.blk]? = some (.cells arr k.e fz) ∧ BlkAt C ρ B k r arr fz
structure Fits (C : Cx) (ng B : Nat) (ρ : Rho) (H : T Blk) (w : World) : Prop where
  size : B ≤ w.heap.size
  glob : ∀ g, g < ng → ρ g = some ⟨g, 0, 0, 0⟩
  blk : ∀ v k, H.get v = some k → ∃ r, ρ v = some r ∧ BlkOk C ρ B w k r
  inj : ∀ v v' k k' r r', H.get v = some k → H.get v' = some k' → ρ v = some r → ρ v' = some r' → r.blk = r'.blk → v = v'
  low : C.nst ≤ B
  inv : C.inv w
def Ext (ρ ρ' : Rho) (lo hi : Nat) : Prop := ∀ v, v < lo ∨ hi ≤ v → ρ' v = ρ v
def Free (ρ : Rho) (lo hi : Nat) : Prop := ∀ v, lo ≤ v → v < hi → ρ v = none
theorem Ext.refl (ρ : Rho) (lo hi : Nat) : Ext ρ ρ lo hi := fun _ _ => rfl
theorem Ext.sub {ρ ρ' : Rho} {lo hi : Nat} (h : Ext ρ ρ' lo hi) (hf : Free ρ lo hi) : Sub ρ ρ' := fun v r hv => by
  by_cases h1 : v < lo
  · rw [h v (.inl h1)]; exact hv
  · by_cases h2 : hi ≤ v
    · rw [h v (.inr h2)]; exact hv
    · rw [hf v (by omega) (by omega)] at hv; cases hv
theorem Ext.trans {ρ ρ' ρ'' : Rho} {a b c : Nat} (h : Ext ρ ρ' a b) (h' : Ext ρ' ρ'' b c) (hab : a ≤ b) (hbc : b ≤ c) : Ext ρ ρ'' a c := fun v hv => by
  rw [h' v (by omega), h v (by omega)]
theorem Free.left {ρ : Rho} {a b c : Nat} (h : Free ρ a c) (hbc : b ≤ c) : Free ρ a b := fun v h1 h2 => h v h1 (by omega)
theorem Free.right {ρ ρ' : Rho} {a b c : Nat} (h : Free ρ a c) (hab : a ≤ b) (he : Ext ρ ρ' a b) : Free ρ' b c := fun v h1 h2 => by
  rw [he v (.inr h1)]; exact h v (by omega) h2
theorem Free.none {ρ : Rho} (a : Nat) : Free ρ a a := fun v h1 h2 => by omega
theorem CellsOk.mono {C : Cx} {ρ ρ' : Rho} {c : Cells} {arr : Array Value} {base : Nat} (hs : Sub ρ ρ') (h : CellsOk C ρ c arr base) : CellsOk C ρ' c arr base :=
  ⟨h.1, fun j a hj => let ⟨x, h1, h2, h3⟩ := h.2 j a hj; ⟨x, h1, Rel.mono hs a x h2, h3⟩⟩
theorem BlkAt.mono {C : Cx} {ρ ρ' : Rho} {B : Nat} {k : Blk} {r : R} {arr : Array Value} {fz : Nat × Nat} (hs : Sub ρ ρ') (h : BlkAt C ρ B k r arr fz) : BlkAt C ρ' B k r arr fz :=
  { h with cells := h.cells.mono hs }
def put1 (ρ : Rho) (n : Nat) (r : R) : Rho := fun v => if v = n then some r else ρ v
theorem put1_sub {ρ : Rho} {n : Nat} {r : R} (h : ρ n = none) : Sub ρ (put1 ρ n r) := fun v x hv => by
  unfold put1; split
  · rename_i e; subst e; rw [h] at hv; cases hv
  · exact hv
theorem put1_ext (ρ : Rho) (n : Nat) (r : R) : Ext ρ (put1 ρ n r) n (n + 1) := fun v hv => by
  unfold put1; rw [if_neg (by omega)]
/-- a new block -/
theorem Fits.new {C : Cx} {ng B : Nat} {ρ : Rho} {H : T Blk} {w : World} {n : Nat} {k : Blk} {r : R} {arr : Array Value} {fz : Nat × Nat} {w' : World}
    (h : Fits C ng B ρ H w) (hn : n ≤ 16777213) (hng : ng ≤ n) (hf : ρ n = none) (hr : r.blk = w.heap.size) (hk : BlkAt C ρ B k r arr fz) (hw' : w'.heap = w.heap.push (.cells arr k.e fz)) :
    Fits C ng B (put1 ρ n r) (H.set n k) w' := by
  have hs := put1_sub (r := r) hf
  have hsz : w'.heap.size = w.heap.size + 1 := by rw [hw']; simp
  refine ⟨by have := h.size; omega, fun g hg => by rw [hs g _ (h.glob g hg)], fun v k' hv => ?_, ?_, ?_, ?_⟩
  · rw [get_set _ _ _ _ hn] at hv
    split at hv
    · rename_i e; subst e; injection hv with hv; subst hv
      refine ⟨r, by simp [put1], arr, fz, ?_, hk.mono hs⟩
      rw [hw', hr]; simp
    · obtain ⟨r', h1, arr', fz', h2, h3⟩ := h.blk v k' hv
      refine ⟨r', hs _ _ h1, arr', fz', ?_, h3.mono hs⟩
      have hlt : r'.blk < w.heap.size := by
        rcases Nat.lt_or_ge r'.blk w.heap.size with h | h
        · exact h
        · rw [Array.getElem?_eq_none h] at h2; cases h2
      rw [hw', Array.getElem?_push, if_neg (by omega)]; exact h2
  · have hlt : ∀ v k' r', H.get v = some k' → ρ v = some r' → r'.blk < w.heap.size := fun v k' r' hv hr' => by
      obtain ⟨r'', h1, arr', fz', h2, h3⟩ := h.blk v k' hv
      rw [hr'] at h1; injection h1 with h1; subst h1
      rcases Nat.lt_or_ge r'.blk w.heap.size with h | h
      · exact h
      · rw [Array.getElem?_eq_none h] at h2; cases h2
    intro v v' k1 k2 r1 r2 hv hv' hr1 hr2 he
    rw [get_set _ _ _ _ hn] at hv hv'
    unfold put1 at hr1 hr2
    by_cases e1 : v = n <;> by_cases e2 : v' = n
    · omega
    · rw [if_pos e1] at hr1; rw [if_neg e2] at hr2 hv'; injection hr1 with hr1; subst hr1
      have := hlt _ _ _ hv' hr2; omega
    · rw [if_neg e1] at hr1 hv; rw [if_pos e2] at hr2; injection hr2 with hr2; subst hr2
      have := hlt _ _ _ hv hr1; omega
    · rw [if_neg e1] at hr1 hv; rw [if_neg e2] at hr2 hv'
      exact h.inj v v' k1 k2 r1 r2 hv hv' hr1 hr2 he
  · exact h.low
  · refine C.stab w w' (fun b hb => ?_) h.inv
    have := h.low; have := h.size
    rw [hw', Array.getElem?_push, if_neg (by omega)]
/-- a block turned -/
theorem Fits.upd {C : Cx} {ng B : Nat} {ρ : Rho} {H : T Blk} {w w' : World} {v : Nat} {k k' : Blk} {r : R} {arr : Array Value} {fz : Nat × Nat}
    (h : Fits C ng B ρ H w) (hn : v ≤ 16777213) (hv : H.get v = some k) (hr : ρ v = some r) (hk : BlkAt C ρ B k' r arr fz)
    (hw : w'.heap[r.blk]? = some (.cells arr k'.e fz)) (ho : ∀ b, b ≠ r.blk → w'.heap[b]? = w.heap[b]?) (hsz : w'.heap.size = w.heap.size) (hB : ∀ b, b < B → w'.heap[b]? = w.heap[b]?) :
    Fits C ng B ρ (H.set v k') w' := by
  refine ⟨by have := h.size; omega, h.glob, fun u ku hu => ?_, ?_, h.low, C.stab w w' (fun b hb => hB b (by have := h.low; omega)) h.inv⟩
  · rw [get_set _ _ _ _ hn] at hu
    split at hu
    · rename_i e; subst e; injection hu with hu; subst hu
      exact ⟨r, hr, arr, fz, hw, hk⟩
    · rename_i e
      obtain ⟨r', h1, arr', fz', h2, h3⟩ := h.blk u ku hu
      refine ⟨r', h1, arr', fz', ?_, h3⟩
      rw [ho _ (fun e' => e (h.inj u v ku k r' r hu hv h1 hr e'))]; exact h2
  · intro a b k1 k2 r1 r2 ha hb hr1 hr2 he
    rw [get_set _ _ _ _ hn] at ha hb
    have : ∀ x kx, (if x = v then some k' else H.get x) = some kx → ∃ ky, H.get x = some ky := fun x kx hx => by
      split at hx
      · rename_i e; subst e; exact ⟨k, hv⟩
      · exact ⟨kx, hx⟩
    obtain ⟨k1', h1⟩ := this a k1 ha
    obtain ⟨k2', h2⟩ := this b k2 hb
    exact h.inj a b k1' k2' r1 r2 h1 h2 hr1 hr2 he
/-- a block struck -/
theorem Fits.del {C : Cx} {ng B : Nat} {ρ : Rho} {H : T Blk} {w : World} {v : Nat} (h : Fits C ng B ρ H w) (hn : v ≤ 16777213) : Fits C ng B ρ (H.del v) w := by
  have : ∀ x kx, (H.del v).get x = some kx → H.get x = some kx := fun x kx hx => by
    rw [get_del _ _ _ hn] at hx; split at hx
    · cases hx
    · exact hx
  exact ⟨h.size, h.glob, fun u ku hu => h.blk u ku (this _ _ hu), fun a b k1 k2 r1 r2 ha hb => h.inj a b k1 k2 r1 r2 (this _ _ ha) (this _ _ hb), h.low, h.inv⟩
theorem Fits.sub {C : Cx} {ng B : Nat} {ρ : Rho} {H H' : T Blk} {w : World} (h : Fits C ng B ρ H w) (hh : ∀ v k, H'.get v = some k → H.get v = some k) : Fits C ng B ρ H' w :=
  ⟨h.size, h.glob, fun u ku hu => h.blk u ku (hh _ _ hu), fun a b k1 k2 r1 r2 ha hb => h.inj a b k1 k2 r1 r2 (hh _ _ ha) (hh _ _ hb), h.low, h.inv⟩
end Go.AX
