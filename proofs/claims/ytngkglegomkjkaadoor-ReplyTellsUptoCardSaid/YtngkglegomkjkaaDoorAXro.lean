/- A part of the proof: what an interpreter answers on partly known states is what the program answers. No condition. -/
import Derived.Test.YtngkglegomkjkaaDoorHXpart4
set_option linter.unusedSimpArgs false
set_option linter.unusedVariables false
namespace Go.AX
noncomputable section
theorem run_okF {C : Cx} {tb : Tab} (h : bM C tb) {f g nx : Nat} {fi : FI} {l : List AV} {v : AV} {S' : St} {args : List Value} {H : T aZ} {ρ : ak} (hfi : tb.fn.get g = some fi) (hb : fi.body.isSome = true)
 (hc : call tb f g l ⟨H, nx, 0, 0⟩ = some (v, S')) (w : World) (hF : Fits C tb.ng (Fz.lt w.heap.size) ρ H w) (av : tb.ng ≤ nx) (hl : aH C ρ l args) (hfree : Free ρ nx S'.next) :
 Calls C.P g ⟨args⟩ w fun e w' => ∃ x ρ', e = .returned x ∧ Rel C ρ' v x ∧ Below (Fz.lt w.heap.size) w w' := by
 obtain ⟨fn, hfn⟩ := h.fn g fi hfi
 have hu := FD (B := Fz.lt w.heap.size) h f g l ⟨H, nx, 0, 0⟩ v S' ρ w args ⟨some 0, .move (.const undef), 0, "", #[], none⟩ ⟨#[undef], []⟩
  (fun a' w' => ∃ ρ, Rel C ρ v (a'.tmps.getD 0 undef) ∧ Below (Fz.lt w.heap.size) w w') (fun _ _ _ => False) Fence.wide 0 tG hc hF av hl hfree
  (fun ρ' x w' r1 r2 r3 r4 => ⟨ρ', by simpa [Act.put] using r1, r4⟩)
 rw [jv hfn.at_ hfn.name (by rw [hfn.body]; exact hb), Oper.uponIn_enter] at hu
 refine Calls.mono (callsIn_wide.1 hu.2) fun e w' he => ?_
 cases e with
 | returned x =>
  obtain ⟨ρ, h1, h2⟩ := he
  exact ⟨x, ρ, rfl, by simpa [Act.put] using h1, h2⟩
 | panicked c => exact he.elim
 | outgrown => obtain ⟨_, _, h⟩ := he; exact h.elim
def gZ (ng : Nat) (rs : List R) : ak := fun v => if v < ng then some ⟨v, 0, 0, 0⟩ else rs[v - ng]?
def iW : Nat → List aZ → T aZ → T aZ
 | _, [], t => t
 | n, e :: r, t => iW (n + 1) r (t.set n e)
theorem aP3 : ∀ (es : List aZ) (n : Nat) (t : T aZ) (v : Nat) (k : aZ), n + es.length ≤ 16777213 → (iW n es t).get v = some k → (n ≤ v ∧ v < n + es.length ∧ es[v - n]? = some k) ∨ t.get v = some k
 | [], n, t, v, k, _, h => .inr h
 | e :: r, n, t, v, k, hb, h => by
  rw [List.length_cons] at hb ⊢
  rcases aP3 r (n + 1) _ v k (by omega) h with ⟨h1, h2, h3⟩ | h1
  ·refine .inl ⟨by omega, by omega, ?_⟩
   rw [show v - n = (v - (n + 1)) + 1 by omega, List.getElem?_cons_succ]; exact h3
  ·rw [cm _ _ _ _ (by omega)] at h1
   split at h1
   ·rename_i e'; subst e'; exact .inl ⟨Nat.le_refl _, by omega, by rw [Nat.sub_self]; simpa using h1⟩
   ·exact .inr h1
def kG (C : Cx) (w : World) (H : T aZ) (k : aZ) (r : R) : Prop := H.get r.blk = none ∧ ∃ o, w.heap[r.blk]? = some o ∧ ∀ ρ, ei C ρ (Fz.lt w.heap.size) k r o
theorem fitsA {C : Cx} {ng : Nat} {H : T aZ} {w : World} (es : List aZ) (rs : List R) (hi : C.inv w) (hsz : C.cE ≤ w.heap.size) (hlen : es.length = rs.length) (hbd : ng + es.length ≤ 16777213)
 (hH : ∀ v k, H.get v = some k → v < ng ∧ ∃ e c m, k = lG e c ∧ sR m c ∧ nC C w v e m)
 (hA : ∀ (j : Nat) (k : aZ) (r : R), es[j]? = some k → rs[j]? = some r → kG C w H k r) (hnd : es.all dE = true) : Fits C ng (Fz.lt w.heap.size) (gZ ng rs) (iW ng es H) w := by
 have hget := fun v k => aP3 es ng H v k hbd
 refine ⟨fun k hk => hk, fun g hg => by simp [gZ, hg], fun v k hv => ?_, fun v v' k k' r r' hv hv' h1 h2 h3 => ?_, fun k hk => Nat.lt_of_lt_of_le hk hsz, hi⟩
 ·rcases hget v k hv with ⟨q1, q2, q3⟩ | hv
  ·have hlt : v - ng < rs.length := by omega
   obtain ⟨_, o, ho, hk⟩ := hA (v - ng) k (rs[v - ng]) q3 (List.getElem?_eq_getElem hlt)
   exact ⟨rs[v - ng], by unfold gZ; rw [if_neg (by omega)]; exact List.getElem?_eq_getElem hlt, o, ho, hk _⟩
  ·obtain ⟨hlt, e, c, m, rfl, ⟨hcw, hcm⟩, arr, fz, h1, h2, h3⟩ := hH v k hv
   refine ⟨⟨v, 0, 0, 0⟩, by simp [gZ, hlt], _, h1, rfl, ?_⟩
   have hcl : c.len = m.length := by rw [Cells.len_eq, hcm]
   refine ⟨⟨hcw, fun j a hj => ?_⟩, fun h => (by cases h), fun x hx1 hx2 hx3 => ?_, fun h => (by cases h), fun _ => ⟨Nat.le_refl _, rfl, rfl⟩, ?_, fun _ => rfl⟩
   ·have hj : c.toL[j]? = some a := hj
    rw [hcm] at hj
    obtain ⟨x, hx, hr, ho⟩ := h3 j a hj
    exact ⟨x, by simpa using hx, hr.tk, ho⟩
   ·have hx1 : 0 + c.len ≤ x := hx1
    omega
   ·show 0 + c.len ≤ arr.size; omega
 ·have hr : ∀ v k r, (iW ng es H).get v = some k → gZ ng rs v = some r → (v < ng ∧ r.blk = v ∧ H.get v = some k) ∨ (ng ≤ v ∧ dE k = true ∧ H.get r.blk = none) := fun v k r hv hr => by
   unfold gZ at hr
   rcases hget v k hv with ⟨q1, q2, q3⟩ | hv
   ·rw [if_neg (by omega)] at hr
    exact .inr ⟨q1, List.all_eq_true.1 hnd k (List.mem_of_getElem? q3), (hA _ k r q3 hr).1⟩
   ·obtain ⟨hlt, _⟩ := hH v k hv
    rw [if_pos hlt] at hr
    injection hr with hr; subst hr
    exact .inl ⟨hlt, rfl, hv⟩
  rcases hr v k r hv h1 with ⟨a1, a2, a3⟩ | ⟨a1, a2, a3⟩ <;> rcases hr v' k' r' hv' h2 with ⟨b1, b2, b3⟩ | ⟨b1, b2, b3⟩
  ·exact .inl (by omega)
  ·rw [← h3, a2, a3] at b3; cases b3
  ·rw [h3, b2, b3] at a3; cases a3
  ·exact .inr ⟨a2, b2⟩
theorem free_rhoA {ng hi : Nat} {rs : List R} : Free (gZ ng rs) (ng + rs.length) hi := fun v h1 h2 => by
 unfold gZ; rw [if_neg (by omega)]; exact List.getElem?_eq_none (by omega)
theorem argAt_r {C : Cx} {w : World} {H : T aZ} {id e sz blk base cap es : Nat} {t : Nat} {arr : Array Value} {fz : Nat × Nat} {cs : List Value} (av : H.get blk = none) (hb : w.heap[blk]? = some (.cells arr t fz)) (hcs : C.nu id = .tuple ⟨cs⟩) (hlen : cs.length = cap * sz) (hcap : cap ≤ es) (hpos : 1 ≤ sz)
 (hcell : ∀ (j : Nat) (x : Value), cs[j]? = some x → arr[base + j]? = some x ∧ x.oneCell' = true) : kG C w H (.r id e sz true) ⟨blk, base, cap, es⟩ :=
 ⟨av, _, hb, fun ρ => ⟨fun h => (by cases h), ⟨fun h => (by cases h), ⟨cs, hcs, hlen, hcell⟩, hcap, hpos⟩⟩⟩
end
end Go.AX
namespace Go.AX
noncomputable section
theorem run_okGA {C : Cx} {tb : Tab} (h : bM C tb) {f g : Nat} {fi : FI} {l : List AV} {v : AV} {S' : St} {args : List Value} {H : T aZ} (hfi : tb.fn.get g = some fi) (hb : fi.body.isSome = true) (es : List aZ) (rs : List R)
 (hc : call tb f g l ⟨iW tb.ng es H, tb.ng + es.length, 0, 0⟩ = some (v, S')) (hl : aH C (gZ tb.ng rs) l args) (w : World) (hi : C.inv w) (hsz : C.cE ≤ w.heap.size) (hlen : es.length = rs.length) (hbd : tb.ng + es.length ≤ 16777213)
 (hA : ∀ (j : Nat) (k : aZ) (r : R), es[j]? = some k → rs[j]? = some r → kG C w H k r) (hnd : es.all dE = true)
 (hH : ∀ v k, H.get v = some k → v < tb.ng ∧ ∃ e c m, k = lG e c ∧ sR m c ∧ nC C w v e m) :
 Calls C.P g ⟨args⟩ w fun e w' => ∃ x ρ, e = .returned x ∧ Rel C ρ v x ∧ Below (Fz.lt w.heap.size) w w' :=
 run_okF h hfi hb hc w (fitsA es rs hi hsz hlen hbd hH hA hnd) (by omega) hl (by rw [hlen]; exact free_rhoA)
structure lk (w : World) (sz : Nat) (cs : List Value) (blk base cap es : Nat) : Prop where
 room : cap ≤ es
 pos : 1 ≤ sz
 len : cs.length = cap * sz
 cells : ∃ arr t fz, w.heap[blk]? = some (.cells arr t fz) ∧ ∀ (j : Nat) (x : Value), cs[j]? = some x → arr[base + j]? = some x ∧ x.oneCell' = true
theorem lk.arg {C : Cx} {w : World} {H : T aZ} {e sz blk base cap es id : Nat} {cs : List Value} (h : lk w sz cs blk base cap es) (hg : H.get blk = none) (hid : C.nu id = .tuple ⟨cs⟩) : kG C w H (.r id e sz true) ⟨blk, base, cap, es⟩ := by
 obtain ⟨arr, t, fz, h1, h2⟩ := h.cells
 exact argAt_r hg h1 hid h.len h.room h.pos h2
theorem rk {C : Cx} {w : World} {H : T aZ} {k : aZ} {r : R} {ks : List aZ} {rs : List R} (h : kG C w H k r) (ht : ∀ (j : Nat) (k' : aZ) (r' : R), ks[j]? = some k' → rs[j]? = some r' → kG C w H k' r') : ∀ (j : Nat) (k' : aZ) (r' : R), (k :: ks)[j]? = some k' → (r :: rs)[j]? = some r' → kG C w H k' r' := fun j k' r' h1 h2 => by
 cases j with
 | zero => simp at h1 h2; subst h1; subst h2; exact h
 | succ j => simp at h1 h2; exact ht j k' r' h1 h2
theorem rj {C : Cx} {w : World} {H : T aZ} : ∀ (j : Nat) (k' : aZ) (r' : R), ([] : List aZ)[j]? = some k' → ([] : List R)[j]? = some r' → kG C w H k' r' := fun j k' r' h1 _ => by simp at h1
theorem qC {C : Cx} {ng n blk base cap es : Nat} {rs : List R} (hn : ng ≤ n) (hr : rs[n - ng]? = some ⟨blk, base, cap, es⟩) (h : cap ≤ es) : Rel C (gZ ng rs) (.sr n) (.slice (some ⟨blk, base, none⟩) cap es) :=
 ⟨⟨blk, base, cap, es⟩, by unfold gZ; rw [if_neg (by omega)]; exact hr, h, rfl⟩
end
end Go.AX

